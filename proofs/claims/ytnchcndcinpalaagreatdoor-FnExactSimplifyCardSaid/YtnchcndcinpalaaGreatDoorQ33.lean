import Derived.Test.YtnchcndcinpalaaGreatDoorQ26
import Derived.Test.YtnchcndcinpalaaGreatDoorQ32
import Derived.Deep.AppendLies
import Derived.Deep.RegionLaw
import Derived.Test.YtnchcndcinpalaaGreatDoorQ20
/-
  NODES THAT ARE WRITTEN, one after the other and anew, into a block of the call's own.
-/
namespace Go.Proofs.YtnchcndcinpalaaGreatDoor
open Go Go.RowKit

/-- node i is f i, where there is one -/
structure FlQ (w : World) (lab : Lb) (B G n : Nat) (f : Nat → Option Fn) : Prop where
  size : G < w.heap.size
  lab3 : lab G = (3, 0, 0)
  frz : ∀ o, w.frozen? ⟨G, o, none⟩ = false
  all : ∀ o, o < n * 8 → ∃ v, w.cell? ⟨G, o, none⟩ = some v
  rng : ∀ b, (lab b).1 ≤ 3 → B ≤ b ∧ b < w.heap.size
  node : ∀ i p, f i = some p → FnM w lab G i p
theorem FlQ.of {w w1 : World} {lab : Lb} {B G n : Nat} {f : Nat → Option Fn} (h : FlQ w lab B G n f) (hb : Below w.heap.size w w1) : FlQ w1 lab B G n f :=
  ⟨Nat.lt_of_lt_of_le h.size hb.size, h.lab3, fun o => (hb.frozen (p := ⟨G, o, none⟩) h.size).trans (h.frz o), fun o ho => by
    obtain ⟨v, hv⟩ := h.all o ho
    exact ⟨v, (hb.cell (p := ⟨G, o, none⟩) h.size).trans hv⟩, fun b hx => ⟨(h.rng b hx).1, Nat.lt_of_lt_of_le (h.rng b hx).2 hb.size⟩, fun i p hp => (h.node i p hp).of h.size hb⟩
theorem FlQ.made (w : World) (n : Nat) (C : Array Value) (t : TypeId) (hC : C.size = n * 8) (B : Nat) (hB : B ≤ w.heap.size) : FlQ (w.alloc (.cells C t)) (fun x => if x = w.heap.size then (3, 0, 0) else (4, 0, 0)) B w.heap.size n (fun _ => none) :=
  ⟨by simp, by simp, fun o => by simp [go_sem], fun o ho => ⟨C[o]'(by omega), by rw [World.cell?_alloc_at C t _ o rfl]; simp⟩, fun b hb' => by
    by_cases e : b = w.heap.size
    · subst e; exact ⟨hB, by simp⟩
    · simp [e] at hb', fun i p hp => by simp at hp⟩
theorem FlQ.fn {w : World} {lab : Lb} {B G n : Nat} {f f' : Nat → Option Fn} (h : FlQ w lab B G n f) (hf : ∀ i, f i = f' i) : FlQ w lab B G n f' := by
  obtain rfl : f = f' := funext hf
  exact h
def putU (w : World) (g o : Nat) (p : Fn) (u4 u5 : Value) : World := ((((((((w.setCell ⟨g, o, none⟩ (.int .i64 p.K)).setCell ⟨g, o + 1, none⟩ (.int .i64 p.T)).setCell ⟨g, o + 2, none⟩ (.int .i64 p.M)).setCell ⟨g, o + 3, none⟩ (.int .i64 p.W)).setCell ⟨g, o + 4, none⟩ u4).setCell ⟨g, o + 5, none⟩ u5).setCell ⟨g, o + 6, none⟩ (.int .i64 p.L)).setCell ⟨g, o + 7, none⟩ (.int .i64 p.R))
theorem putU_size (w : World) (g o : Nat) (p : Fn) (u4 u5 : Value) : (putU w g o p u4 u5).heap.size = w.heap.size := by simp [putU]
theorem putU_below {w0 w : World} {s : Nat} (h : Below s w0 w) {g o : Nat} (hg : s ≤ g) (p : Fn) (u4 u5 : Value) : Below s w0 (putU w g o p u4 u5) := ((((((((h.setCell (p := ⟨g, o, none⟩) hg _).setCell (p := ⟨g, o + 1, none⟩) hg _).setCell (p := ⟨g, o + 2, none⟩) hg _).setCell (p := ⟨g, o + 3, none⟩) hg _).setCell (p := ⟨g, o + 4, none⟩) hg _).setCell (p := ⟨g, o + 5, none⟩) hg _).setCell (p := ⟨g, o + 6, none⟩) hg _).setCell (p := ⟨g, o + 7, none⟩) hg _)
theorem putU_but (w : World) (g o : Nat) (p : Fn) (u4 u5 : Value) : ButM (fun x => x = g) w (putU w g o p u4 u5) := by
  unfold putU
  exact (((((((ButM.set (S := fun x => x = g) (ButM.refl _ _) rfl _).set rfl _).set rfl _).set rfl _).set rfl _).set rfl _).set rfl _).set rfl _
/-- the labels after node j has been written: Ex in s .. m, the rest in m .. t -/
def labU (lab : Lb) (j s m t G2 : Nat) (lb : Nat → Nat) : Lb := fun x => if x < s then lab x else if t ≤ x then (4, 0, 0) else if x < m then (0, j, 0) else if x = G2 then (1, j, 0) else (2, j, lb x)

theorem FlQ.put {wr w1 : World} {lab : Lb} {B G n j m G2 : Nat} {lb : Nat → Nat} {f : Nat → Option Fn} {p : Fn} {u4 u5 : Value} (h : FlQ wr lab B G n f) (hB : B ≤ wr.heap.size) (hj : j < n) (hb1 : Below wr.heap.size wr w1) (hm : wr.heap.size ≤ m)
    (h4 : OpsM w1 u4 p.Ex (fun b => wr.heap.size ≤ b ∧ b < m)) (h5 : OpssM w1 u5 p.Exs (fun b => m ≤ b ∧ b = G2) (fun i b => m ≤ b ∧ b ≠ G2 ∧ lb b = i)) :
    FlQ (putU w1 G (j * 8) p u4 u5) (labU lab j wr.heap.size m w1.heap.size G2 lb) B G n (fun i => if i = j then some p else f i) := by
  have hsz := putU_size w1 G (j * 8) p u4 u5
  have hle := hb1.size
  have hG := h.size
  have hGl : labU lab j wr.heap.size m w1.heap.size G2 lb G = (3, 0, 0) := by unfold labU; rw [if_pos hG]; exact h.lab3
  have hBt := putU_but w1 G (j * 8) p u4 u5
  have hall : ∀ o, o < n * 8 → ∃ v, w1.cell? ⟨G, o, none⟩ = some v := fun o ho => by
    obtain ⟨v, hv⟩ := h.all o ho
    exact ⟨v, (hb1.cell (p := ⟨G, o, none⟩) hG).trans hv⟩
  refine ⟨by rw [hsz]; omega, hGl, fun o => (hBt.frz G o (by omega)).trans ((hb1.frozen (p := ⟨G, o, none⟩) hG).trans (h.frz o)), fun o ho => ?_, fun x hx => ?_, fun i q hq => ?_⟩
  · obtain ⟨v, hv⟩ := hall o ho
    unfold putU
    obtain ⟨v1, hv1⟩ := setCell_thereO (o' := j * 8) (v := .int .i64 p.K) hv
    obtain ⟨v2, hv2⟩ := setCell_thereO (o' := j * 8 + 1) (v := .int .i64 p.T) hv1
    obtain ⟨v3, hv3⟩ := setCell_thereO (o' := j * 8 + 2) (v := .int .i64 p.M) hv2
    obtain ⟨v4, hv4⟩ := setCell_thereO (o' := j * 8 + 3) (v := .int .i64 p.W) hv3
    obtain ⟨v5, hv5⟩ := setCell_thereO (o' := j * 8 + 4) (v := u4) hv4
    obtain ⟨v6, hv6⟩ := setCell_thereO (o' := j * 8 + 5) (v := u5) hv5
    obtain ⟨v7, hv7⟩ := setCell_thereO (o' := j * 8 + 6) (v := .int .i64 p.L) hv6
    exact setCell_thereO (o' := j * 8 + 7) (v := .int .i64 p.R) hv7
  · rw [hsz]
    unfold labU at hx
    by_cases e1 : x < wr.heap.size
    · rw [if_pos e1] at hx
      have := h.rng x hx
      omega
    · rw [if_neg e1] at hx
      by_cases e2 : w1.heap.size ≤ x
      · rw [if_pos e2] at hx; simp at hx
      · omega
  · by_cases hi : i = j
    · subst hi
      rw [if_pos rfl] at hq
      simp only [Option.some.injEq] at hq
      subst hq
      obtain ⟨v0, c0⟩ := hall (i * 8) (by omega)
      obtain ⟨v1, c1⟩ := hall (i * 8 + 1) (by omega)
      obtain ⟨v2, c2⟩ := hall (i * 8 + 2) (by omega)
      obtain ⟨v3, c3⟩ := hall (i * 8 + 3) (by omega)
      obtain ⟨v4, c4⟩ := hall (i * 8 + 4) (by omega)
      obtain ⟨v5, c5⟩ := hall (i * 8 + 5) (by omega)
      obtain ⟨v6, c6⟩ := hall (i * 8 + 6) (by omega)
      obtain ⟨v7, c7⟩ := hall (i * 8 + 7) (by omega)
      refine ⟨?_, ?_, ?_, ?_, ?_, ?_, ⟨u4, ?_, ?_⟩, u5, ?_, ?_⟩
      · unfold putU; rw [setCell_otherN (by omega), setCell_otherN (by omega), setCell_otherN (by omega), setCell_otherN (by omega), setCell_otherN (by omega), setCell_otherN (by omega), setCell_otherN (by omega)]; exact World.cell?_setCell_same _ _ _ c0
      · unfold putU; rw [setCell_otherN (by omega), setCell_otherN (by omega), setCell_otherN (by omega), setCell_otherN (by omega), setCell_otherN (by omega), setCell_otherN (by omega)]; exact World.cell?_setCell_same _ _ _ (by rw [setCell_otherN (by omega)]; exact c1)
      · unfold putU; rw [setCell_otherN (by omega), setCell_otherN (by omega), setCell_otherN (by omega), setCell_otherN (by omega), setCell_otherN (by omega)]; exact World.cell?_setCell_same _ _ _ (by rw [setCell_otherN (by omega), setCell_otherN (by omega)]; exact c2)
      · unfold putU; rw [setCell_otherN (by omega), setCell_otherN (by omega), setCell_otherN (by omega), setCell_otherN (by omega)]; exact World.cell?_setCell_same _ _ _ (by rw [setCell_otherN (by omega), setCell_otherN (by omega), setCell_otherN (by omega)]; exact c3)
      · unfold putU; rw [setCell_otherN (by omega)]; exact World.cell?_setCell_same _ _ _ (by rw [setCell_otherN (by omega), setCell_otherN (by omega), setCell_otherN (by omega), setCell_otherN (by omega), setCell_otherN (by omega), setCell_otherN (by omega)]; exact c6)
      · unfold putU; exact World.cell?_setCell_same _ _ _ (by rw [setCell_otherN (by omega), setCell_otherN (by omega), setCell_otherN (by omega), setCell_otherN (by omega), setCell_otherN (by omega), setCell_otherN (by omega), setCell_otherN (by omega)]; exact c7)
      · unfold putU; rw [setCell_otherN (by omega), setCell_otherN (by omega), setCell_otherN (by omega)]; exact World.cell?_setCell_same _ _ _ (by rw [setCell_otherN (by omega), setCell_otherN (by omega), setCell_otherN (by omega), setCell_otherN (by omega)]; exact c4)
      · have h1 := (h4.mono (T := fun x => wr.heap.size ≤ x ∧ labU lab i wr.heap.size m w1.heap.size G2 lb x = (0, i, 0)) (fun x hx e => ⟨e.1, by unfold labU; rw [if_neg (by omega), if_neg (by omega), if_pos e.2]⟩)).but hBt (fun x hx e => by have := hx.1; omega)
        exact h1.mono (fun x _ e => e.2)
      · unfold putU; rw [setCell_otherN (by omega), setCell_otherN (by omega)]; exact World.cell?_setCell_same _ _ _ (by rw [setCell_otherN (by omega), setCell_otherN (by omega), setCell_otherN (by omega), setCell_otherN (by omega), setCell_otherN (by omega)]; exact c5)
      · have h1 := (h5.mono (To := fun x => wr.heap.size ≤ x ∧ labU lab i wr.heap.size m w1.heap.size G2 lb x = (1, i, 0)) (Ti := fun j x => wr.heap.size ≤ x ∧ labU lab i wr.heap.size m w1.heap.size G2 lb x = (2, i, j))
          (fun x hx e => ⟨by omega, by unfold labU; rw [if_neg (by omega), if_neg (by omega), if_neg (by omega), if_pos e.2]⟩)
          (fun j x hx e => ⟨by omega, by unfold labU; rw [if_neg (by omega), if_neg (by omega), if_neg (by omega), if_neg e.2.1, e.2.2]⟩)).but hBt (fun x hx e => by have := hx.1; omega) (fun j x hx e => by have := hx.1; omega)
        exact h1.mono (fun x _ e => e.2) (fun j x _ e => e.2)
    · rw [if_neg hi] at hq
      have h1 := (h.node i q hq).relab (lab' := labU lab j wr.heap.size m w1.heap.size G2 lb) (fun x hx => by unfold labU; rw [if_pos hx])
      have h2 := h1.of hG hb1
      unfold putU
      exact (((((((h2.far hGl (by omega) _).far hGl (by omega) _).far hGl (by omega) _).far hGl (by omega) _).far hGl (by omega) _).far hGl (by omega) _).far hGl (by omega) _).far hGl (by omega) _
/-- the kind of a node is written anew -/
theorem FlQ.setK {w : World} {lab : Lb} {B G n : Nat} {f : Nat → Option Fn} (h : FlQ w lab B G n f) {q : Nat} (hq : q < n) (k : Int) :
    FlQ (w.setCell ⟨G, q * 8, none⟩ (.int .i64 k)) lab B G n (fun i => if i = q then (f i).map (fun p => { p with K := k }) else f i) := by
  have hBt : ButM (fun x => x = G) w (w.setCell ⟨G, q * 8, none⟩ (.int .i64 k)) := ButM.set (S := fun x => x = G) (ButM.refl _ _) rfl _
  refine ⟨by simpa using h.size, h.lab3, fun o => (hBt.frz G o h.size).trans (h.frz o), fun o ho => ?_, fun b hb => ⟨(h.rng b hb).1, by simpa using (h.rng b hb).2⟩, fun i p hp => ?_⟩
  · obtain ⟨v, hv⟩ := h.all o ho
    exact setCell_thereO hv
  · by_cases hi : i = q
    · subst hi
      rw [if_pos rfl] at hp
      obtain ⟨p0, hp0, rfl⟩ := Option.map_eq_some_iff.1 hp
      obtain ⟨c0, c1, c2, c3, c6, c7, ⟨u, c4, h4⟩, u', c5, h5⟩ := h.node i p0 hp0
      have d : ∀ b x, lab b = x → x ≠ (3, 0, 0) → ¬ b = G := fun b x hb hx e => hx (by rw [← hb, e, h.lab3])
      exact ⟨World.cell?_setCell_same _ _ _ c0, by rw [setCell_otherN (by omega)]; exact c1, by rw [setCell_otherN (by omega)]; exact c2, by rw [setCell_otherN (by omega)]; exact c3, by rw [setCell_otherN (by omega)]; exact c6, by rw [setCell_otherN (by omega)]; exact c7,
        ⟨u, by rw [setCell_otherN (by omega)]; exact c4, h4.but hBt (fun b hb => d b _ hb (by simp))⟩, u', by rw [setCell_otherN (by omega)]; exact c5, h5.but hBt (fun b hb => d b _ hb (by simp)) (fun j b hb => d b _ hb (by simp))⟩
    · rw [if_neg hi] at hp
      exact (h.node i p hp).far h.lab3 (by omega) _
theorem FlQ.full {w : World} {lab : Lb} {B G : Nat} {f : Nat → Option Fn} {fs : List Fn} (h : FlQ w lab B G fs.length f) (hf : ∀ i, f i = fs[i]?) : FlM w lab G fs :=
  ⟨h.size, h.lab3, h.frz, h.all, fun i p hp => h.node i p (by rw [hf]; exact hp)⟩

/-- the first k nodes -/
def firstF (fs : List Fn) (k i : Nat) : Option Fn := if i < k then fs[i]? else none
theorem firstF_succ (fs : List Fn) (k : Nat) (hk : k < fs.length) (i : Nat) : (if i = k then some fs[k] else firstF fs k i) = firstF fs (k + 1) i := by
  unfold firstF
  by_cases e : i = k
  · subst e; rw [if_pos rfl, if_pos (by omega), List.getElem?_eq_getElem hk]
  · rw [if_neg e]
    by_cases h : i < k
    · rw [if_pos h, if_pos (by omega)]
    · rw [if_neg h, if_neg (by omega)]
/-- the nodes after k rounds -/
def secondF (ts : List Tb) (fs : List Fn) (Rt : Int) (k i : Nat) : Option Fn := (fs[i]?).map (simpAt ts fs Rt k i)
theorem secondF_start (ts : List Tb) (fs : List Fn) (Rt : Int) (i : Nat) : firstF fs fs.length i = secondF ts fs Rt 0 i := by
  unfold firstF secondF
  by_cases h : i < fs.length
  · rw [if_pos h, List.getElem?_eq_getElem h]; simp [simpAt_zero]
  · rw [if_neg h, List.getElem?_eq_none (by omega)]; rfl
theorem secondF_same {ts : List Tb} {fs : List Fn} {Rt : Int} {k : Nat} (hk : k < fs.length) (h : asksP ts fs Rt fs[k] = 0) (i : Nat) : secondF ts fs Rt k i = secondF ts fs Rt (k + 1) i := by
  unfold secondF
  by_cases hi : i < fs.length
  · rw [List.getElem?_eq_getElem hi]; simp [simpAt_step0 hk h i hi]
  · rw [List.getElem?_eq_none (by omega)]; rfl
theorem secondF_step {ts : List Tb} {fs : List Fn} {Rt : Int} {k q : Nat} (hk : k < fs.length) (hq : q < k) (hL : (fs[k]).L = (q : Int)) (h : 0 < asksP ts fs Rt fs[k]) (i : Nat) :
    (if i = k then some (askedN ts fs Rt fs[k]) else (if i = q then (secondF ts fs Rt k i).map (fun p => { p with K := 10 + (asksP ts fs Rt fs[k] : Int) - 1 }) else secondF ts fs Rt k i)) = secondF ts fs Rt (k + 1) i := by
  unfold secondF
  by_cases e : i = k
  · subst e
    rw [if_pos rfl, List.getElem?_eq_getElem hk]
    simp [simpAt_self]
  · rw [if_neg e]
    by_cases e2 : i = q
    · subst e2
      have hi : i < fs.length := by omega
      rw [if_pos rfl, List.getElem?_eq_getElem hi]
      simp [simpAt_left hk i hq hL h]
    · rw [if_neg e2]
      by_cases hi : i < fs.length
      · rw [List.getElem?_eq_getElem hi]
        simp [simpAt_far hk i e (by rw [hL]; omega)]
      · rw [List.getElem?_eq_none (by omega)]; rfl
theorem secondF_all (ts : List Tb) (fs : List Fn) (Rt : Int) (i : Nat) : secondF ts fs Rt fs.length i = (simpTo ts fs Rt fs.length)[i]? := by
  unfold secondF simpTo
  by_cases hi : i < fs.length
  · simp [hi, simpAt_all ts fs Rt i hi]
  · rw [List.getElem?_eq_none (by omega), List.getElem?_eq_none (by simp; omega)]; rfl
end Go.Proofs.YtnchcndcinpalaaGreatDoor
/-
  THE MAP THAT STANDS WHERE A SELECT ASKED OF A MARK, as the program makes it.
-/
namespace Go.Proofs.YtnchcndcinpalaaGreatDoor
open Go Go.RowKit

theorem flag_calls (b : Bool) (w : World) : Calls Tryz.prog 69 #[.bool b] w fun e w' => e = .returned (.int .i64 (if b then 1 else 0)) ∧ Below w.heap.size w w' := by
  cases b
  · go_enter Tryz.func69, Tryz.ntmps69
    go_wp2
    go_ret
    exact ⟨rfl, Below.refl _ _⟩
  · go_enter Tryz.func69, Tryz.ntmps69
    go_wp2
    go_ret
    exact ⟨rfl, Below.refl _ _⟩

/-- lists and one more, ahead of the append that joins them -/
structure Tail1 (w : World) (s G n bx : Nat) (lb : Nat → Nat) (oss : List (List O2)) (xs : List O2) : Prop where
  len : oss.length = n
  own : FrO w G n
  low : s ≤ G
  lowx : s ≤ bx
  ne : bx ≠ G
  held : ∀ i ys, oss[i]? = some ys → ∃ u, w.cell? ⟨G, i, none⟩ = some u ∧ OpsM w u ys (fun b => G < b ∧ lb b = i ∧ b ≠ bx)
  one : OpsM w (.slice (some ⟨bx, 0, none⟩) xs.length xs.length) xs (fun b => b = bx)
theorem Tail1.of {w w1 : World} {s G n bx : Nat} {lb : Nat → Nat} {oss : List (List O2)} {xs : List O2} (h : Tail1 w s G n bx lb oss xs) (hb : Below w.heap.size w w1) : Tail1 w1 s G n bx lb oss xs :=
  ⟨h.len, h.own.of hb, h.low, h.lowx, h.ne, fun i ys hy => by
    obtain ⟨u, hu, ho⟩ := h.held i ys hy
    exact ⟨u, (hb.cell (p := ⟨G, i, none⟩) h.own.size).trans hu, ho.of hb⟩, h.one.of hb⟩
/-- the call of the lists came last -/
theorem Tail1.lists {w w1 : World} {s G n bx : Nat} {lb : Nat → Nat} {oss : List (List O2)} {xs : List O2} (hs : s ≤ bx) (h1 : OpsM w (.slice (some ⟨bx, 0, none⟩) xs.length xs.length) xs (fun b => b = bx)) (hx : bx < w.heap.size)
    (hb : Below w.heap.size w w1) (hl : oss.length = n) (hG : w.heap.size ≤ G) (hF : FrO w1 G n) (hO : OssM w1 G lb oss) : Tail1 w1 s G n bx lb oss xs :=
  ⟨hl, hF, by omega, hs, by omega, fun i ys hy => by
    obtain ⟨u, hu, ho⟩ := hO i ys hy
    exact ⟨u, hu, ho.mono (fun b _ e => ⟨e.1, e.2, by have := e.1; omega⟩)⟩, h1.of hb⟩
/-- .. or first -/
theorem Tail1.after {w w1 : World} {s G n bx : Nat} {lb : Nat → Nat} {oss : List (List O2)} {xs : List O2} (hs : s ≤ G) (hl : oss.length = n) (hF : FrO w G n) (hO : OssM w G lb oss) (hx : w.heap.size ≤ bx) (hb : Below w.heap.size w w1)
    (h1 : OpsM w1 (.slice (some ⟨bx, 0, none⟩) xs.length xs.length) xs (fun b => b = bx)) : Tail1 w1 s G n bx lb oss xs :=
  ⟨hl, hF.of hb, hs, by have := hF.size; omega, by have := hF.size; omega, fun i ys hy => by
    obtain ⟨u, hu, ho⟩ := hO i ys hy
    exact ⟨u, (hb.cell (p := ⟨G, i, none⟩) hF.size).trans hu, (ho.mono (T := fun b => G < b ∧ lb b = i ∧ b ≠ bx) (fun b hb e => ⟨e.1, e.2, by omega⟩)).of hb⟩, h1⟩
theorem Tail1.owns {w : World} {s G n bx : Nat} {lb : Nat → Nat} {oss : List (List O2)} {xs : List O2} (h : Tail1 w s G n bx lb oss xs) (hn : n ≤ 1048576) : ∃ cs, w.ownsRow s 64 1 (.slice (some ⟨G, 0, none⟩) n n) n cs ∧ ∀ i u, w.cell? ⟨G, i, none⟩ = some u → i < n → cs[i]? = some u := by
  obtain ⟨cur, h1, h2⟩ := h.own.blk
  refine ⟨cur.toList, ⟨by simp [h2], Or.inr ⟨G, n, cur, rfl, h.low, h1, Nat.le_refl _, by unfold maxLen; omega, by omega, by rw [List.take_of_length_le (by simp [h2])]⟩⟩, fun i u hu hi => ?_⟩
  simp only [World.cell?, h1] at hu
  simpa using hu
theorem Tail1.push {w w2 : World} {s G n bx G2 c2 : Nat} {lb : Nat → Nat} {oss : List (List O2)} {xs : List O2} {cs : List Value} (h : Tail1 w s G n bx lb oss xs) (hcs : ∀ i u, w.cell? ⟨G, i, none⟩ = some u → i < n → cs[i]? = some u) (hcl : cs.length = n)
    (hx : bx < w.heap.size) (hown : w2.ownsRow s 64 1 (.slice (some ⟨G2, 0, none⟩) (n + 1) c2) (n + 1) (cs ++ [.slice (some ⟨bx, 0, none⟩) xs.length xs.length])) (hgr : w.grownBy w2 (some G)) (hat : some G = some G2 ∨ G2 = w.heap.size) :
    ∃ lb2 : Nat → Nat, OpssM w2 (.slice (some ⟨G2, 0, none⟩) (n + 1) c2) (oss ++ [xs]) (fun b => s ≤ b ∧ b = G2) (fun i b => s ≤ b ∧ b ≠ G2 ∧ lb2 b = i) := by
  refine ⟨fun b => if b = bx then n else lb b, ?_⟩
  have hl := h.len
  have hG2 : s ≤ G2 := by
    have := h.low
    have := h.own.size
    rcases hat with h' | h'
    · simp at h'; omega
    · omega
  have hne2 : bx ≠ G2 := by
    have := h.ne
    rcases hat with h' | h'
    · simp at h'; omega
    · omega
  have hcell : ∀ (j : Nat) v, (cs ++ [.slice (some ⟨bx, 0, none⟩) xs.length xs.length])[j]? = some v → w2.cell? ⟨G2, j, none⟩ = some v := by
    rcases hown.2 with ⟨h1, _⟩ | ⟨g', cap', cur, h1, h2, h3, h4, h5, h6, h7⟩
    · simp at h1
    · simp only [Value.slice.injEq, Option.some.injEq, Addr.mk.injEq, and_true, true_and] at h1
      obtain ⟨rfl, rfl⟩ := h1
      intro j v hv
      have hj := (List.getElem?_eq_some_iff.1 hv).1
      simp [hcl] at hj
      rw [← h7, List.getElem?_take, if_pos (by omega)] at hv
      simp only [World.cell?, h3]
      simpa using hv
  have hsz : G2 < w2.heap.size := by
    have := hcell 0 _ (List.getElem?_eq_getElem (by simp))
    exact World.block_lt_of_cell? w2 _ this
  refine Or.inr ⟨G2, c2, by simp [hl], ⟨hG2, rfl⟩, hsz, fun i ys hy => ?_⟩
  by_cases hi : i < n
  · rw [List.getElem?_append_left (by omega)] at hy
    obtain ⟨u, hu, ho⟩ := h.held i ys hy
    refine ⟨u, hcell i u (by rw [List.getElem?_append_left (by omega)]; exact hcs i u hu hi), ?_⟩
    have h1 := (ho.mono (T := fun b => G < b ∧ lb b = i ∧ b ≠ bx ∧ b < w.heap.size) (fun b hb e => ⟨e.1, e.2.1, e.2.2, hb⟩)).grown hgr (fun b e => by have := e.1; simp; omega)
    exact h1.mono (fun b _ e => ⟨by have := e.1; have := h.low; omega, by
      have := e.1; have := e.2.2.2
      rcases hat with h' | h'
      · simp at h'; omega
      · omega, by dsimp only; rw [if_neg e.2.2.1]; exact e.2.1⟩)
  · have hi1 := (List.getElem?_eq_some_iff.1 hy).1
    simp [hl] at hi1
    obtain rfl : i = n := by omega
    rw [List.getElem?_append_right (by omega)] at hy
    simp [hl] at hy
    subst hy
    refine ⟨.slice (some ⟨bx, 0, none⟩) xs.length xs.length, hcell i _ (by rw [List.getElem?_append_right (by omega)]; simp [hcl]), ?_⟩
    have h1 := h.one.grown hgr (fun b e => by have := h.ne; simp; omega)
    exact h1.mono (fun b _ e => ⟨by have := h.lowx; omega, by omega, by dsimp only; rw [if_pos e]⟩)
end Go.Proofs.YtnchcndcinpalaaGreatDoor
