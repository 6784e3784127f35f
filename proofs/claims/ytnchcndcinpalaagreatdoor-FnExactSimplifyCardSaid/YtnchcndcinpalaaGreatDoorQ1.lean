import Derived.Test.YtnchcndcinpalaaGreatDoorQ0
import Derived.OwnWalk
/-
  ROWS OF VALS IN MEMORY, of no program. A Val is a pair: is it NULL, its number; two cells.
-/
namespace Go.Proofs.YtnchcndcinpalaaGreatDoor
open Go Go.RowKit

/-- the cells from ⟨g, off⟩ on hold xs, two cells each -/
def OpsAt (w : World) (g off : Nat) (xs : List O2) : Prop := ∀ i x, xs[i]? = some x → w.cell? ⟨g, off + i * 2, none⟩ = some (.int .i64 x.1) ∧ w.cell? ⟨g, off + i * 2 + 1, none⟩ = some (.int .i64 x.2)
/-- v is a slice that reads as xs -/
def IsOps (w : World) (v : Value) (xs : List O2) : Prop :=
  (xs = [] ∧ ∃ a cap, v = .slice a 0 cap) ∨ ∃ g off cap, v = .slice (some ⟨g, off, none⟩) xs.length cap ∧ xs.length ≤ cap ∧ g < w.heap.size ∧ OpsAt w g off xs

theorem OpsAt.of {w w1 : World} {g off : Nat} {xs : List O2} (h : OpsAt w g off xs) (hg : g < w.heap.size) (hb : Below w.heap.size w w1) : OpsAt w1 g off xs := fun i x hx =>
  ⟨(hb.cell (p := ⟨g, off + i * 2, none⟩) hg).trans (h i x hx).1, (hb.cell (p := ⟨g, off + i * 2 + 1, none⟩) hg).trans (h i x hx).2⟩
theorem IsOps.of {w w1 : World} {v : Value} {xs : List O2} (h : IsOps w v xs) (hb : Below w.heap.size w w1) : IsOps w1 v xs := by
  rcases h with h | ⟨g, off, cap, h1, h2, h3, h4⟩
  · exact Or.inl h
  · exact Or.inr ⟨g, off, cap, h1, h2, Nat.lt_of_lt_of_le h3 hb.size, h4.of h3 hb⟩
theorem OpsAt.tail {w : World} {g off : Nat} {x : O2} {xs : List O2} (h : OpsAt w g off (x :: xs)) : OpsAt w g (off + 2) xs := fun i y hy => by
  have := h (i + 1) y (by simpa using hy)
  rw [show off + 2 + i * 2 = off + (i + 1) * 2 from by omega]
  exact this
theorem OpsAt.at {w : World} {g off : Nat} {xs : List O2} (h : OpsAt w g off xs) (i : Nat) (hi : i < xs.length) : w.cell? ⟨g, off + i * 2, none⟩ = some (.int .i64 xs[i].1) ∧ w.cell? ⟨g, off + i * 2 + 1, none⟩ = some (.int .i64 xs[i].2) :=
  h i xs[i] (by simp [hi])

/-- A ROW IN THE MAKING: block g is the call's own, of n places; the first ones hold xs -/
structure OwnOps (w : World) (g n : Nat) (xs : List O2) : Prop where
  size : g < w.heap.size
  frz : ∀ o, w.frozen? ⟨g, o, none⟩ = false
  all : ∀ o, o < n * 2 → ∃ v, w.cell? ⟨g, o, none⟩ = some v
  held : OpsAt w g 0 xs

theorem OwnOps.of {w w1 : World} {g n : Nat} {xs : List O2} (h : OwnOps w g n xs) (hb : Below w.heap.size w w1) : OwnOps w1 g n xs :=
  ⟨Nat.lt_of_lt_of_le h.size hb.size, fun o => (hb.frozen (p := ⟨g, o, none⟩) h.size).trans (h.frz o), fun o ho => by
    obtain ⟨v, hv⟩ := h.all o ho
    exact ⟨v, (hb.cell (p := ⟨g, o, none⟩) h.size).trans hv⟩, h.held.of h.size hb⟩

theorem frozen_setCellO (w : World) (p a : Addr) (v : Value) : (w.setCell p v).frozen? a = w.frozen? a := by simp [go_sem]

theorem setCell_thereO {w : World} {g o o' : Nat} {v u : Value} (h : w.cell? ⟨g, o, none⟩ = some u) : ∃ z, (w.setCell ⟨g, o', none⟩ v).cell? ⟨g, o, none⟩ = some z := by
  by_cases e : o' = o
  · subst e; exact ⟨v, World.cell?_setCell_same _ _ _ h⟩
  · exact ⟨u, by rw [World.cell?_setCell_other _ _ _ _ (by intro he; injection he; contradiction)]; exact h⟩

theorem setCell_otherO {w : World} {g o o' : Nat} {v : Value} (h : o' ≠ o) : (w.setCell ⟨g, o', none⟩ v).cell? ⟨g, o, none⟩ = w.cell? ⟨g, o, none⟩ :=
  World.cell?_setCell_other _ _ _ _ (by intro he; injection he; contradiction)

/-- one Val more -/
theorem OwnOps.push {w : World} {g n : Nat} {xs : List O2} (h : OwnOps w g n xs) (hn : xs.length < n) (b : Int) (k : Int) :
    OwnOps ((w.setCell ⟨g, xs.length * 2, none⟩ (.int .i64 b)).setCell ⟨g, xs.length * 2 + 1, none⟩ (.int .i64 k)) g n (xs ++ [(b, k)]) := by
  refine ⟨by simpa using h.size, fun o => by rw [frozen_setCellO, frozen_setCellO]; exact h.frz o, fun o ho => ?_, fun i x hx => ?_⟩
  · obtain ⟨v, hv⟩ := h.all o ho
    obtain ⟨z, hz⟩ := setCell_thereO (o' := xs.length * 2) (v := .int .i64 b) hv
    exact setCell_thereO hz
  · simp only [Nat.zero_add]
    by_cases hi : i < xs.length
    · rw [List.getElem?_append_left hi] at hx
      have := h.held i x hx
      simp only [Nat.zero_add] at this
      refine ⟨?_, ?_⟩
      · rw [setCell_otherO (by omega), setCell_otherO (by omega)]; exact this.1
      · rw [setCell_otherO (by omega), setCell_otherO (by omega)]; exact this.2
    · obtain rfl : i = xs.length := by
        have := (List.getElem?_eq_some_iff.1 hx).1
        simp at this; omega
      simp at hx
      subst hx
      obtain ⟨v0, h0⟩ := h.all (xs.length * 2) (by omega)
      obtain ⟨v1, h1⟩ := h.all (xs.length * 2 + 1) (by omega)
      obtain ⟨z, hz⟩ := setCell_thereO (o' := xs.length * 2) (v := .int .i64 b) h1
      refine ⟨?_, World.cell?_setCell_same _ _ _ hz⟩
      rw [setCell_otherO (by omega)]
      exact World.cell?_setCell_same _ _ _ h0

/-- a row that is whole is a slice's -/
theorem OwnOps.isOps {w : World} {g : Nat} {xs : List O2} (h : OwnOps w g xs.length xs) : IsOps w (.slice (some ⟨g, 0, none⟩) xs.length xs.length) xs := Or.inr ⟨g, 0, _, rfl, Nat.le_refl _, h.size, h.held⟩

/-- what make lays -/
theorem OwnOps.made (w : World) (n : Nat) (C : Array Value) (t : TypeId) (hC : C.size = n * 2) : OwnOps (w.alloc (.cells C t)) w.heap.size n [] :=
  ⟨by simp, fun o => by simp [go_sem], fun o ho => ⟨C[o]'(by omega), by rw [World.cell?_alloc_at C t _ o rfl]; simp⟩, fun i x hx => by simp at hx⟩
theorem take_snocO {α : Type} (xs : List α) (k : Nat) (h : k < xs.length) : xs.take (k + 1) = xs.take k ++ [xs[k]] := by
  rw [List.take_succ_eq_append_getElem h]
/-- one Val more, by the index -/
theorem OwnOps.next {w : World} {g n k : Nat} {xs : List O2} (h : OwnOps w g n (xs.take k)) (hk : k < xs.length) (hn : k < n) :
    OwnOps ((w.setCell ⟨g, k * 2, none⟩ (.int .i64 xs[k].1)).setCell ⟨g, k * 2 + 1, none⟩ (.int .i64 xs[k].2)) g n (xs.take (k + 1)) := by
  have hl : (xs.take k).length = k := by simp; omega
  have := h.push (by omega) xs[k].1 xs[k].2
  rw [hl] at this
  rw [take_snocO xs k hk]
  exact this
end Go.Proofs.YtnchcndcinpalaaGreatDoor
namespace Go.Proofs.YtnchcndcinpalaaGreatDoor
open Go Go.RowKit

/-- make([]impl.Op, n) -/
theorem make_ops (n : Nat) (hn : n ≤ 1048576) (w : World) :
    (Instr.makeSlice 64 (.int .i64 (n : Int)) (.int .i64 (n : Int))).run Tryz.prog w = .ok (.slice (some ⟨w.heap.size, 0, none⟩) n n) (w.alloc (.cells (madeCells #[.int .i64 0, .int .i64 0] (n * 2)) 72)) := by
  obtain ⟨i, hi, hz⟩ := Option.map_eq_some_iff.1 (show (Tryz.prog.info? 72).map (fun i => (i.zero, i.size, i.bytes)) = some (some (.agg #[.int .i64 0, .int .i64 0]), 2, 16) by kernel_rfl)
  simp only [Prod.mk.injEq] at hz
  have := run_make (P := Tryz.prog) w 64 72 i _ Tryz.underlying64 hi hz.1 .i64 .i64 (n : Int) (n : Int) (by omega) (by omega) (by rw [hz.2.2]; omega) (by omega)
  rw [hz.2.1] at this
  simpa [Value.cells] using this

theorem make_ops0 (w : World) : (Instr.makeSlice 64 (.int .i64 0) (.int .i64 0)).run Tryz.prog w = .ok (.slice (some ⟨w.heap.size, 0, none⟩) 0 0) (w.alloc (.cells #[] 72)) := by
  have := make_ops 0 (by omega) w
  rw [show madeCells #[.int .i64 0, .int .i64 0] (0 * 2) = #[] from Array.eq_empty_of_size_eq_zero (by simp [size_madeCells])] at this
  simpa using this

set_option maxHeartbeats 1000000 in
theorem toOpS_calls (v : Value) (xs : List O2) (w : World) (hv : IsOps w v xs) (hn : xs.length ≤ 1048576) :
    Calls Tryz.prog 98 #[v] w fun e w' => ∃ g, e = .returned (.slice (some ⟨g, 0, none⟩) xs.length xs.length) ∧ w.heap.size ≤ g ∧ OwnOps w' g xs.length xs ∧ Below w.heap.size w w' := by
  rcases hv with ⟨rfl, a, cap, rfl⟩ | ⟨g, off, cap, rfl, hcap, hg, hr⟩
  · have hmk := make_ops0
    clear hn
    go_enter Tryz.func98, Tryz.ntmps98
    go_wp2
    go_loopw [4] (fun i wr => i = .int .i64 0 ∧ OwnOps wr w.heap.size 0 [] ∧ Below w.heap.size w wr) (fun _ _ => 0)
    case atStart => exact ⟨rfl, OwnOps.made w 0 #[] _ rfl, bA (Below.refl _ _) _⟩
    case round =>
      obtain ⟨rfl, ho, hb⟩ := hrel
      go_wp2
      go_ret
      exact ⟨_, rfl, Nat.le_refl _, ho, hb⟩
  · have hmk := make_ops xs.length hn
    have hO : Hid (OwnOps (w.alloc (.cells (madeCells #[.int .i64 0, .int .i64 0] (xs.length * 2)) 72)) w.heap.size xs.length []) := OwnOps.made w _ _ _ (by simp [size_madeCells])
    go_enter Tryz.func98, Tryz.ntmps98
    go_wp2
    go_loopw [4] (fun i wr => ∃ k : Nat, k ≤ xs.length ∧ i = .int .i64 k ∧ OwnOps wr w.heap.size xs.length (xs.take k) ∧ Below w.heap.size w wr) (fun i _ => xs.length - (intOf i).toNat)
    case atStart => exact ⟨0, Nat.zero_le _, rfl, by simpa using hO.out, bA (Below.refl _ _) _⟩
    case round =>
      clear hO hmk
      obtain ⟨k, hk, rfl, ho, hb⟩ := hrel
      by_cases hlt : k < xs.length
      · obtain ⟨e0, e1⟩ := (hr.of hg hb).at k hlt
        go_wp2_with fail
        refine (toOp_calls _ _ _).mono ?_; rintro e w1 ⟨rfl, hb1⟩
        have d1 := bT hb hb1
        have ho1 := ho.of hb1
        have hN : Hid (OwnOps ((w1.setCell ⟨w.heap.size, k * 2, none⟩ (.int .i64 xs[k].1)).setCell ⟨w.heap.size, k * 2 + 1, none⟩ (.int .i64 xs[k].2)) w.heap.size xs.length (xs.take (k + 1))) := ho1.next hlt hlt
        obtain ⟨u0, hu0⟩ := ho1.all (k * 2) (by omega)
        obtain ⟨u1, hu1⟩ := ho1.all (k * 2 + 1) (by omega)
        have hf := ho1.frz
        clear ho ho1 hb1
        go_wp2
        go_roundw
        case rel => exact ⟨k + 1, by omega, by go_num, hN.out, (d1.setCell (Nat.le_refl _) _).setCell (Nat.le_refl _) _⟩
        case measure => simp [intOf]; omega
      · obtain rfl : k = xs.length := by omega
        rw [List.take_length] at ho
        go_wp2
        go_ret
        exact ⟨_, rfl, Nat.le_refl _, ho, hb⟩

theorem szOpS_calls (v : Value) (xs : List O2) (left : Int) (w : World) (hv : IsOps w v xs) (hl : xs.length ≤ maxLen) (h0 : 0 ≤ left) (h1 : left ≤ 1048576) :
    Calls Tryz.prog 90 #[v, .int .i64 left] w fun e w' => e = .returned (.int .i64 (if left < xs.length then -1 else left - xs.length)) ∧ w' = w := by
  unfold maxLen at hl
  obtain ⟨a, cap, rfl⟩ : ∃ a cap, v = .slice a xs.length cap := by
    rcases hv with ⟨rfl, a, cap, rfl⟩ | ⟨g, off, cap, rfl, _⟩
    · exact ⟨a, cap, rfl⟩
    · exact ⟨_, cap, rfl⟩
  by_cases h : left < xs.length
  · rw [if_pos h]
    go_enter Tryz.func90, Tryz.ntmps90
    go_wp2
    go_ret
    exact ⟨rfl, rfl⟩
  · rw [if_neg h]
    go_enter Tryz.func90, Tryz.ntmps90
    go_wp2
    go_ret
    exact ⟨rfl, rfl⟩
end Go.Proofs.YtnchcndcinpalaaGreatDoor
/-
  TREES IN A LIST, of no program: the order of the nodes, their depths.
-/
namespace Go.Proofs.YtnchcndcinpalaaGreatDoor

structure Nd where
  K : Int
  N : Int
  M : Int
  S : ByteArray
  T : ByteArray
  Kids : List Int

def kidsAt (ns : List Nd) (p : Nat) : List Int := ((ns[p]?).map Nd.Kids).getD []
def kindAt (ns : List Nd) (p : Nat) : Int := ((ns[p]?).map Nd.K).getD 0

/-- the places a .. b-1 are the stretches of ks, one behind the other -/
inductive Seg (ns : List Nd) : Nat → Nat → List Int → Prop
  | nil (a : Nat) : Seg ns a a []
  | snoc {a c p : Nat} {ks : List Int} : Seg ns a c ks → Seg ns c p (kidsAt ns p) → Seg ns a (p + 1) (ks ++ [(p : Int)])

theorem Seg.le {ns : List Nd} {a b : Nat} {ks : List Int} (h : Seg ns a b ks) : a ≤ b := by
  induction h with
  | nil a => exact Nat.le_refl _
  | snoc _ _ h1 h2 => omega

theorem Seg.inv {ns : List Nd} {a b : Nat} {ks : List Int} {x : Int} (h : Seg ns a b (ks ++ [x])) : ∃ p c, b = p + 1 ∧ x = (p : Int) ∧ Seg ns a c ks ∧ Seg ns c p (kidsAt ns p) := by
  generalize e : ks ++ [x] = l at h
  cases h with
  | nil a => simp at e
  | @snoc _ c p ks' h1 h2 =>
    obtain ⟨e1, e2⟩ := List.append_inj' e rfl
    subst e1
    simp at e2
    exact ⟨p, c, rfl, e2, h1, h2⟩

theorem Seg.nil_inv {ns : List Nd} {a b : Nat} (h : Seg ns a b []) : a = b := by
  generalize e : ([] : List Int) = l at h
  cases h with
  | nil a => rfl
  | snoc h1 h2 => simp at e

/-- the place before the first stretch is told by the end and the roots -/
theorem Seg.uniqL {ns : List Nd} {a b : Nat} {ks : List Int} (h : Seg ns a b ks) : ∀ a', Seg ns a' b ks → a' = a := by
  induction h with
  | nil a => intro a' h'; exact h'.nil_inv
  | @snoc a c p ks h1 h2 i1 i2 =>
    intro a' h'
    obtain ⟨p', c', e1, e2, h3, h4⟩ := h'.inv
    obtain rfl : p' = p := by omega
    obtain rfl := i2 _ h4
    exact i1 _ h3

theorem Seg.uniqK {ns : List Nd} {a b : Nat} {ks : List Int} (h : Seg ns a b ks) : ∀ ks', Seg ns a b ks' → ks' = ks := by
  induction h with
  | nil a =>
    intro ks' h'
    cases h' with
    | nil => rfl
    | snoc h1 h2 => have := h1.le; have := h2.le; omega
  | @snoc a c p ks h1 h2 i1 i2 =>
    intro ks' h'
    generalize e : p + 1 = b at h'
    cases h' with
    | nil => have := h1.le; have := h2.le; omega
    | @snoc _ c' p' ks' h3 h4 =>
      obtain rfl : p = p' := by omega
      obtain rfl := h2.uniqL _ h4
      rw [i1 _ h3]

theorem Seg.join {ns : List Nd} {a b c : Nat} {A B : List Int} (h : Seg ns a b A) (h' : Seg ns b c B) : Seg ns a c (A ++ B) := by
  induction h' with
  | nil a => simpa using h
  | snoc h1 h2 i1 i2 =>
    rw [← List.append_assoc]
    exact Seg.snoc (i1 h) h2

theorem Seg.one {ns : List Nd} {c p : Nat} (h : Seg ns c p (kidsAt ns p)) : Seg ns c (p + 1) [(p : Int)] := by
  have := Seg.snoc (Seg.nil c) h
  simpa using this

theorem Seg.split {ns : List Nd} {a c : Nat} {A : List Int} : ∀ (B : List Int) {b : Nat}, b = c → Seg ns a c (A ++ B.reverse) → ∃ m, Seg ns a m A ∧ Seg ns m c B.reverse := by
  intro B
  induction B generalizing c with
  | nil => intro b _ h; exact ⟨c, by simpa using h, Seg.nil c⟩
  | cons x B ih =>
    intro b _ h
    rw [List.reverse_cons, ← List.append_assoc] at h
    obtain ⟨p, c', rfl, rfl, h1, h2⟩ := h.inv
    obtain ⟨m, h3, h4⟩ := ih (b := c') rfl h1
    refine ⟨m, h3, ?_⟩
    rw [List.reverse_cons]
    exact Seg.snoc h4 h2
theorem Seg.split' {ns : List Nd} {a c : Nat} {A B : List Int} (h : Seg ns a c (A ++ B)) : ∃ m, Seg ns a m A ∧ Seg ns m c B := by
  have := Seg.split (ns := ns) (a := a) (c := c) (A := A) B.reverse rfl (by simpa using h)
  simpa using this

theorem Seg.prefix {ns : List Nd} {a b : Nat} {ks : List Int} (h : Seg ns a b ks) : ∀ k, a ≤ k → k ≤ b → ∃ L, Seg ns a k L := by
  induction h with
  | nil a => intro k h1 h2; obtain rfl : k = a := by omega
             exact ⟨[], Seg.nil _⟩
  | @snoc a c p ks h1 h2 i1 i2 =>
    intro k e1 e2
    by_cases hk : k ≤ c
    · exact i1 k e1 hk
    · by_cases hp : k = p + 1
      · subst hp; exact ⟨_, Seg.snoc h1 h2⟩
      · obtain ⟨L, hL⟩ := i2 k (by omega) (by omega)
        exact ⟨_, h1.join hL⟩

/-- the step of a stack -/
theorem Seg.push {ns : List Nd} {k : Nat} {L : List Int} (h : Seg ns 0 k L) (_ : (kidsAt ns k).length ≤ L.length) (hd : L.drop (L.length - (kidsAt ns k).length) = kidsAt ns k) :
    Seg ns 0 (k + 1) (L.take (L.length - (kidsAt ns k).length) ++ [(k : Int)]) := by
  rw [← List.take_append_drop (L.length - (kidsAt ns k).length) L, hd] at h
  obtain ⟨m, h1, h2⟩ := h.split'
  exact Seg.snoc h1 h2
theorem Seg.stuck {ns : List Nd} {k : Nat} {L L' : List Int} (h : Seg ns 0 k L) (h' : Seg ns 0 (k + 1) L') : (kidsAt ns k).length ≤ L.length ∧ L.drop (L.length - (kidsAt ns k).length) = kidsAt ns k := by
  generalize e : k + 1 = b at h'
  cases h' with
  | nil => omega
  | @snoc _ c p ks h1 h2 =>
    obtain rfl : k = p := by omega
    obtain rfl := h.uniqK _ (h1.join h2)
    simp
/-- the last root -/
theorem Seg.last {ns : List Nd} {k : Nat} {L : List Int} (h : Seg ns 0 (k + 1) L) : ∃ A, L = A ++ [(k : Int)] := by
  generalize e : k + 1 = b at h
  cases h with
  | nil => omega
  | @snoc _ c p ks h1 h2 =>
    obtain rfl : k = p := by omega
    exact ⟨_, rfl⟩
theorem Seg.kid {ns : List Nd} {a b : Nat} {ks : List Int} (h : Seg ns a b ks) : ∀ x ∈ ks, ∃ p : Nat, x = (p : Int) ∧ a ≤ p ∧ p < b := by
  induction h with
  | nil a => intro x hx; simp at hx
  | @snoc a c p ks h1 h2 i1 i2 =>
    intro x hx
    have := h1.le
    have := h2.le
    rcases List.mem_append.1 hx with h | h
    · obtain ⟨q, e, h3, h4⟩ := i1 x h
      exact ⟨q, e, h3, by omega⟩
    · simp at h
      exact ⟨p, h, by omega, by omega⟩

/-- the depths of the first nodes -/
def most (ds : List Int) (ks : List Int) : Int := ks.foldl (fun d x => if d < ds.getD x.toNat 0 then ds.getD x.toNat 0 else d) 0
def depTo (ns : List Nd) : Nat → List Int
  | 0 => []
  | k + 1 => depTo ns k ++ [most (depTo ns k) (kidsAt ns k) + 1]
def dep (ns : List Nd) (k : Nat) : Int := most (depTo ns k) (kidsAt ns k) + 1
theorem depTo_length (ns : List Nd) : ∀ k, (depTo ns k).length = k
  | 0 => rfl
  | k + 1 => by simp [depTo, depTo_length ns k]
theorem depTo_get (ns : List Nd) : ∀ k j, j < k → (depTo ns k).getD j 0 = dep ns j
  | 0, j, h => by omega
  | k + 1, j, h => by
    by_cases e : j = k
    · subst e
      simp [depTo, dep, List.getD_eq_getElem?_getD, depTo_length]
    · have := depTo_get ns k j (by omega)
      rw [List.getD_eq_getElem?_getD] at this
      rw [depTo, List.getD_eq_getElem?_getD, List.getElem?_append_left (by rw [depTo_length]; omega)]
      exact this
theorem foldmost {ds : List Int} : ∀ (ks : List Int) (d : Int), d ≤ ks.foldl (fun d x => if d < ds.getD x.toNat 0 then ds.getD x.toNat 0 else d) d ∧ ∀ x ∈ ks, ds.getD x.toNat 0 ≤ ks.foldl (fun d x => if d < ds.getD x.toNat 0 then ds.getD x.toNat 0 else d) d
  | [], d => ⟨Int.le_refl _, fun x hx => by simp at hx⟩
  | y :: ks, d => by
    simp only [List.foldl_cons]
    obtain ⟨h1, h2⟩ := foldmost (ds := ds) ks (if d < ds.getD y.toNat 0 then ds.getD y.toNat 0 else d)
    have e1 : d ≤ (if d < ds.getD y.toNat 0 then ds.getD y.toNat 0 else d) := by split <;> omega
    have e2 : ds.getD y.toNat 0 ≤ (if d < ds.getD y.toNat 0 then ds.getD y.toNat 0 else d) := by split <;> omega
    refine ⟨Int.le_trans e1 h1, fun x hx => ?_⟩
    rcases List.mem_cons.1 hx with rfl | h
    · exact Int.le_trans e2 h1
    · exact h2 x h
theorem most_le {ds : List Int} {B : Int} (hB : 0 ≤ B) (hd : ∀ j, ds.getD j 0 ≤ B) : ∀ (ks : List Int) (d : Int), d ≤ B → ks.foldl (fun d x => if d < ds.getD x.toNat 0 then ds.getD x.toNat 0 else d) d ≤ B
  | [], d, h => h
  | y :: ks, d, h => by
    simp only [List.foldl_cons]
    refine most_le hB hd ks _ ?_
    have := hd y.toNat
    split <;> omega
theorem dep_nonneg (ns : List Nd) (k : Nat) : 1 ≤ dep ns k := by
  have := (foldmost (ds := depTo ns k) (kidsAt ns k) 0).1
  unfold dep most
  omega
theorem depTo_bound (ns : List Nd) : ∀ k j, (depTo ns k).getD j 0 ≤ k
  | 0, j => by simp [depTo]
  | k + 1, j => by
    rw [depTo, List.getD_eq_getElem?_getD]
    by_cases h : j < k
    · rw [List.getElem?_append_left (by rw [depTo_length]; omega)]
      have := depTo_bound ns k j
      rw [List.getD_eq_getElem?_getD] at this
      omega
    · by_cases e : j = k
      · subst e
        rw [List.getElem?_append_right (by rw [depTo_length]; omega)]
        simp [depTo_length]
        have := most_le (ds := depTo ns j) (B := j) (by omega) (depTo_bound ns j) (kidsAt ns j) 0 (by omega)
        unfold most
        omega
      · rw [List.getElem?_eq_none (by simp [depTo_length]; omega)]
        simp; omega
theorem dep_bound (ns : List Nd) (k : Nat) : dep ns k ≤ k + 1 := by
  have := most_le (ds := depTo ns k) (B := k) (by omega) (depTo_bound ns k) (kidsAt ns k) 0 (by omega)
  unfold dep most
  omega
theorem dep_kid (ns : List Nd) (p q : Nat) (h : (q : Int) ∈ kidsAt ns p) (hq : q < p) : dep ns q < dep ns p := by
  have := (foldmost (ds := depTo ns p) (kidsAt ns p) 0).2 _ h
  rw [show ((q : Int)).toNat = q by simp, depTo_get ns p q hq] at this
  rw [show dep ns p = most (depTo ns p) (kidsAt ns p) + 1 from rfl]
  unfold most
  omega
theorem Seg.deep {ns : List Nd} {a b : Nat} {ks : List Int} (h : Seg ns a b ks) : ∀ j, a ≤ j → j < b → ∃ r : Nat, (r : Int) ∈ ks ∧ dep ns j ≤ dep ns r := by
  induction h with
  | nil a => intro j h1 h2; omega
  | @snoc a c p ks h1 h2 i1 i2 =>
    intro j e1 e2
    by_cases hc : j < c
    · obtain ⟨r, hr, hd⟩ := i1 j e1 hc
      exact ⟨r, by simp [hr], hd⟩
    · refine ⟨p, by simp, ?_⟩
      by_cases hp : j = p
      · subst hp; exact Int.le_refl _
      · obtain ⟨r, hr, hd⟩ := i2 j (by omega) (by omega)
        obtain ⟨q, e, h3, h4⟩ := h2.kid _ hr
        have e' : r = q := by omega
        subst e'
        have := dep_kid ns p r hr h4
        omega
/-- in a whole tree no node is deeper than the last -/
theorem deep_all {ns : List Nd} {n : Nat} (h : Seg ns 0 (n + 1) [(n : Int)]) (j : Nat) (hj : j ≤ n) : dep ns j ≤ dep ns n := by
  obtain ⟨r, hr, hd⟩ := h.deep j (by omega) (by omega)
  simp at hr
  have : r = n := by omega
  subst this
  exact hd
end Go.Proofs.YtnchcndcinpalaaGreatDoor
