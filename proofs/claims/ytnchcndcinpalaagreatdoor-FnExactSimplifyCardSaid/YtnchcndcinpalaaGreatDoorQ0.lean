import Derived.OpenVars
import Derived.OpenShut
import Derived.ProofKit
import Derived.LaidMore
import Derived.Lib.LaidTab
import Derived.Test.YtnchcndcinpalaaGreatDoorProg
import Derived.WalkKit
import Derived.WalkLawsBesides
/-
  THE FRAME OF A LAW's PROOF, of no program: a law that answers true, leaves its arguments and the named variables as they were, in a world in which nothing old has turned. Put the seat's Name for YtnchcndcinpalaaGreatDoor.
-/
namespace Go.Proofs.YtnchcndcinpalaaGreatDoor.Frame
open Go.ChangeShapes Go.WideShapes Go.ChangeAt Go.RowKit

/-- the arguments read behind the call as they did before -/
theorem trodAll_below {H : Type} {enc : TypeId × Value → H} {P : Program} (hl : laidOutB P = true) {W W' : World} (hb : Below W.heap.size W W') :
    ∀ {ts : List TypeId} {vs : List Value} {ds : List (DataW H)} {ps : List MemPlace}, (ts.all fun t => P.readableRec t && decide (t < P.types.size)) = true →
      (∀ x ∈ ps, x.block < W.heap.size) → DataW.TrodAll enc P W 0 (fun _ => true) true ts vs ds ps → DataW.TrodAll enc P W' 0 (fun b => decide (b < W.heap.size)) true ts vs ds ps
  | [], [], [], _, _, _, h => h
  | [], [], _ :: _, _, _, _, h => h.elim
  | [], _ :: _, _, _, _, _, h => h.elim
  | _ :: _, [], _, _, _, _, h => h.elim
  | _ :: _, _ :: _, [], _, _, _, h => h.elim
  | t :: ts, v :: vs, d :: ds, ps, ht, hlt, h => by
    obtain ⟨p, q, h1, h2, rfl⟩ := h
    simp only [List.all_cons, Bool.and_eq_true, decide_eq_true_eq] at ht
    exact ⟨p, q, Below.trod hl ht.1.1 ht.1.2 h1 hb (fun x hx => hlt x (by simp [hx])), trodAll_below hl hb (by simpa using ht.2) (fun x hx => hlt x (by simp [hx])) h2, rfl⟩

/-- THE LAW's POST: true, and nothing old has turned. -/
theorem law_post {H : Type} {enc : TypeId × Value → H} {P : Program} {f : Func} {s : ChangeSpec} (hl : laidOutB P = true)
    (hp : (f.params.toList.all fun t => P.readableRec t && decide (t < P.types.size)) = true) (hv : varsRowed P s.vars = true) {tb : TypeId} (hr : f.resultTypes = #[tb]) (htb : P.underlying tb = some .bool)
    {W W' : World} {args : Array Value} {ds gs : List (DataW H)} {before : List MemPlace}
    (hW : DataW.Whole enc P f.params.toList s.vars false W args.toList ds gs before)
    (hfn : s.fn H (ds ++ gs) = { results := [.lit (.bool true)], args := ds, vars := gs })
    (hb : Below W.heap.size W W') : s.post enc P f false true false false W args (.bool true) W' := by
  have hlt := hW.lt
  have hW0 := hW
  obtain ⟨p, q, hA, hV, rfl, hfz, hnd⟩ := hW
  refine ⟨ds, gs, p ++ q, [], p, q, hW0, ?_, ?_, ?_, hb.frame _, fun h => by cases h⟩
  · rw [hfn, hr]
    exact trodAll_mk1 (shut_bool htb true)
  · rw [hfn]
    exact trodAll_below hl hb hp (fun x hx => hlt x (by simp [hx])) hA
  · rw [hfn]
    exact Below.trodVars hl hb hv hV

theorem trodVars_length {H : Type} {enc : TypeId × Value → H} {P : Program} {W : World} {sp : Nat → Bool} : ∀ {ns : List String} {gs : List (DataW H)} {ps : List MemPlace}, DataW.TrodVars enc P W sp ns gs ps → gs.length = ns.length
  | [], [], _, _ => rfl
  | [], _ :: _, _, h => h.elim
  | _ :: _, [], _, h => h.elim
  | n :: ns, d :: ds, ps, h => by
    obtain ⟨g, t, cs, fuel, p, q, h1, h2, h3, h4, hs, e⟩ := h
    simp [trodVars_length hs]
theorem len0 {α : Type} : ∀ {l : List α}, l.length = 0 → l = []
  | [], _ => rfl
theorem len1 {α : Type} : ∀ {l : List α}, l.length = 1 → ∃ a0, l = [a0]
  | [a0], _ => ⟨a0, rfl⟩
theorem len2 {α : Type} : ∀ {l : List α}, l.length = 2 → ∃ a0 a1, l = [a0, a1]
  | [a0, a1], _ => ⟨a0, a1, rfl⟩
theorem len3 {α : Type} : ∀ {l : List α}, l.length = 3 → ∃ a0 a1 a2, l = [a0, a1, a2]
  | [a0, a1, a2], _ => ⟨a0, a1, a2, rfl⟩
theorem len4 {α : Type} : ∀ {l : List α}, l.length = 4 → ∃ a0 a1 a2 a3, l = [a0, a1, a2, a3]
  | [a0, a1, a2, a3], _ => ⟨a0, a1, a2, a3, rfl⟩
theorem len5 {α : Type} : ∀ {l : List α}, l.length = 5 → ∃ a0 a1 a2 a3 a4, l = [a0, a1, a2, a3, a4]
  | [a0, a1, a2, a3, a4], _ => ⟨a0, a1, a2, a3, a4, rfl⟩
theorem len6 {α : Type} : ∀ {l : List α}, l.length = 6 → ∃ a0 a1 a2 a3 a4 a5, l = [a0, a1, a2, a3, a4, a5]
  | [a0, a1, a2, a3, a4, a5], _ => ⟨a0, a1, a2, a3, a4, a5, rfl⟩
theorem len7 {α : Type} : ∀ {l : List α}, l.length = 7 → ∃ a0 a1 a2 a3 a4 a5 a6, l = [a0, a1, a2, a3, a4, a5, a6]
  | [a0, a1, a2, a3, a4, a5, a6], _ => ⟨a0, a1, a2, a3, a4, a5, a6, rfl⟩
theorem len8 {α : Type} : ∀ {l : List α}, l.length = 8 → ∃ a0 a1 a2 a3 a4 a5 a6 a7, l = [a0, a1, a2, a3, a4, a5, a6, a7]
  | [a0, a1, a2, a3, a4, a5, a6, a7], _ => ⟨a0, a1, a2, a3, a4, a5, a6, a7, rfl⟩
end Go.Proofs.YtnchcndcinpalaaGreatDoor.Frame
/-
  FROM A LISTED TABLE's DATUM TO ITS CELLS, of no program: a variable of bools, integers, arrays and structs of these. Put the seat's Name for YtnchcndcinpalaaGreatDoor.
-/
namespace Go.Proofs.YtnchcndcinpalaaGreatDoor.Tables
open Go

def contig (P : Program) : List (Nat × TypeId) → Nat → Nat → Bool
  | [], o, e => o == e
  | (off, t) :: r, o, e => off == o && contig P r (o + P.cellsOf t) e
def plainB (P : Program) : Nat → TypeId → Bool
  | 0, _ => false
  | fuel + 1, t => match P.underlying t with
    | some .bool => true
    | some (.int _) => true
    | some .string => true
    | some (.struct fs) => contig P (fs.toList.map fun f => (f.offset, f.type)) 0 (P.cellsOf t) && fs.toList.all fun f => plainB P fuel f.type
    | some (.array n e) => contig P ((List.range n).map fun i => (i * P.cellsOf e, e)) 0 (P.cellsOf t) && plainB P fuel e
    | _ => false
def flat {H : Type} : Nat → DataW H → List Value
  | 0, _ => []
  | _ + 1, .lit (.bool b) => [.bool b]
  | _ + 1, .lit (.int k n) => [.int k n]
  | _ + 1, .lit (.string s) => [.string ⟨s.toArray⟩]
  | f + 1, .agg ds => ds.flatMap (flat f)
  | _ + 1, _ => []

theorem pieces {H : Type} {P : Program} {F : TypeId → List Value → Option (DataW H × List MemPlace)} {g : DataW H → List Value} (cs : List Value) :
    ∀ (L : List (Nat × TypeId)) (o e : Nat) (xs : List (DataW H × List MemPlace)), contig P L o e = true →
      (∀ x ∈ L, ∀ c y, F x.2 c = some y → c = g y.1) → xs.length = L.length →
      (∀ (i : Nat) (x : Nat × TypeId), L[i]? = some x → F x.2 ((cs.drop x.1).take (P.cellsOf x.2)) = xs[i]?) → (cs.drop o).take (e - o) = (xs.map (·.1)).flatMap g ∧ o ≤ e
  | [], o, e, xs, hc, _, hl, _ => by
    simp only [contig, beq_iff_eq] at hc
    subst hc
    obtain rfl : xs = [] := List.eq_nil_of_length_eq_zero hl
    simp
  | (off, t) :: r, o, e, [], hc, hF, hl, h => by simp at hl
  | (off, t) :: r, o, e, y :: ys, hc, hF, hl, h => by
    simp only [contig, Bool.and_eq_true, beq_iff_eq] at hc
    obtain ⟨rfl, hc⟩ := hc
    have h1 := hF (off, t) (by simp) _ y (h 0 (off, t) rfl)
    obtain ⟨h2, h3⟩ := pieces cs r _ e ys hc (fun x hx => hF x (by simp [hx])) (by simpa using hl) (fun i x hx => by simpa using h (i + 1) x (by simpa using hx))
    refine ⟨?_, by omega⟩
    simp only [List.map_cons, List.flatMap_cons]
    rw [← h1, ← h2, show e - off = P.cellsOf t + (e - (off + P.cellsOf t)) from by omega, List.take_add, List.drop_drop]

theorem cells_of {H : Type} {enc : TypeId × Value → H} {P : Program} {w : World} {base : Nat} {sp : Nat → Bool} {held : Bool} :
    ∀ (fuel : Nat) (t : TypeId) (m : Nat) (cs : List Value) (x : DataW H × List MemPlace), plainB P fuel t = true → DataW.trod enc P w base sp held m t cs = some x → cs = flat fuel x.1
  | 0, _, _, _, _, h, _ => by simp [plainB] at h
  | fuel + 1, t, m, cs, x, hp, h => by
    unfold plainB at hp
    split at hp
    · rename_i ht
      obtain ⟨b, rfl, rfl⟩ := DataW.trod_bool ht h
      rfl
    · rename_i k ht
      obtain ⟨n, rfl, rfl, _⟩ := DataW.trod_int ht h
      rfl
    · rename_i ht
      obtain ⟨s, rfl, rfl, _⟩ := DataW.trod_string ht h
      rfl
    · rename_i fs ht
      simp only [Bool.and_eq_true] at hp
      obtain ⟨xs, n, _, rfl, hl, hn, hx⟩ := DataW.trod_struct ht h
      have := pieces (P := P) (F := fun t c => DataW.trod enc P w base sp held n t c) (g := flat fuel) cs (fs.toList.map fun f => (f.offset, f.type)) 0 _ xs hp.1
        (fun y hy c z hz => by
          obtain ⟨f, hf, rfl⟩ := List.mem_map.1 hy
          exact cells_of fuel _ _ _ _ (List.all_eq_true.1 hp.2 f hf) hz)
        (by simpa using hn)
        (fun i y hy => by
          rw [List.getElem?_map, Option.map_eq_some_iff] at hy
          obtain ⟨f, hf, rfl⟩ := hy
          exact hx i f (by simpa using hf))
      simp only [List.drop_zero, Nat.sub_zero] at this
      rw [← hl, List.take_length] at this
      simpa [flat] using this.1
    · rename_i n e ht
      simp only [Bool.and_eq_true] at hp
      obtain ⟨xs, m', _, rfl, hl, hn, hx⟩ := DataW.trod_array ht h
      have := pieces (P := P) (F := fun t c => DataW.trod enc P w base sp held m' t c) (g := flat fuel) cs ((List.range n).map fun i => (i * P.cellsOf e, e)) 0 _ xs hp.1
        (fun y hy c z hz => by
          obtain ⟨f, hf, rfl⟩ := List.mem_map.1 hy
          exact cells_of fuel _ _ _ _ hp.2 hz)
        (by simpa using hn)
        (fun i y hy => by
          rw [List.getElem?_map, Option.map_eq_some_iff] at hy
          obtain ⟨f, hf, rfl⟩ := hy
          obtain ⟨hi, rfl⟩ := List.getElem?_eq_some_iff.1 hf
          have hi' : i < n := by simpa using hi
          simpa using hx i hi')
      simp only [List.drop_zero, Nat.sub_zero] at this
      rw [← hl, List.take_length] at this
      simpa [flat] using this.1
    · cases hp

theorem laid_mem {P : Program} {w : World} {n : String} {d : DataW Unit} : ∀ {l : List (String × DataW Unit)} {ps : List MemPlace}, DataW.LaidVars P w l ps → (n, d) ∈ l →
    ∃ g t cs fuel p, P.globalNamed n = some g ∧ (P.globals[g]?).map (·.type) = some t ∧ w.var? P n = some cs ∧ DataW.trod (fun _ => ()) P w 0 (fun _ => true) false fuel t cs.toList = some (d, p)
  | [], _, _, h => by cases h
  | (n', d') :: l, ps, h, hm => by
    obtain ⟨g, t, cs, fuel, p, q, h1, h2, h3, h4, h5, _⟩ := h
    cases hm with
    | head => exact ⟨g, t, cs, fuel, p, h1, h2, h3, h4⟩
    | tail _ hm => exact laid_mem h5 hm

/-- THE CELLS OF A LISTED TABLE -/
theorem cells_of_laid {P : Program} {w : World} {l : List (String × DataW Unit)} {n : String} {d : DataW Unit} {g : Nat} {t : TypeId} (hl : laidMetH P l w) (hh : (l.all fun x => x.2.handleName?.isNone) = true) (hm : (n, d) ∈ l)
    (hg : P.globalNamed n = some g) (ht : (P.globals[g]?).map (·.type) = some t) (fuel : Nat) (hp : plainB P fuel t = true) : g < w.heap.size ∧ ∀ i, w.cell? ⟨g, i, none⟩ = (flat fuel d)[i]? := by
  rw [MakeChecks.laidMetH_plain _ _ _ hh] at hl
  obtain ⟨ps, hv, _, _⟩ := hl
  obtain ⟨g', t', cs, m, p, h1, h2, h3, h4⟩ := laid_mem hv hm
  obtain rfl := Option.some.inj (hg.symm.trans h1)
  obtain rfl := Option.some.inj (ht.symm.trans h2)
  have hc := cells_of fuel t m _ _ hp h4
  refine ⟨?_, fun i => ?_⟩
  · unfold World.var? at h3
    rw [h1] at h3
    simp only [Option.bind_some] at h3
    cases hh : w.heap[g]? with
    | none => rw [hh] at h3; cases h3
    | some o => exact (Array.getElem?_eq_some_iff.1 hh).1
  · rw [World.var?_cell h1 h3 i, ← hc]
    simp
end Go.Proofs.YtnchcndcinpalaaGreatDoor.Tables
namespace Go.Proofs.YtnchcndcinpalaaGreatDoor
open Go Go.RowKit

theorem bA {w w1 : World} (h : Below w.heap.size w w1) (o : Obj) : Below w.heap.size w (w1.alloc o) := h.alloc h.size o

/-- a Val as a truth value: 0 false, 1 unknown, 2 true -/
def tr (b : Bool) (n : Int) : Int := if b then 1 else if n = 0 then 0 else 2
/-- the Val of a truth value -/
def vB (t : Int) : Bool := decide (t = 1)
def vI (t : Int) : Int := if t = 2 then 1 else 0

theorem tr_cases (b : Bool) (n : Int) : tr b n = 0 ∨ tr b n = 1 ∨ tr b n = 2 := by
  unfold tr; cases b <;> by_cases h : n = 0 <;> simp [h]

theorem tr_nat (b : Bool) (n : Int) : ∃ x : Nat, tr b n = (x : Int) ∧ x ≤ 2 := by
  rcases tr_cases b n with h | h | h
  · exact ⟨0, by rw [h]; rfl, by omega⟩
  · exact ⟨1, by rw [h]; rfl, by omega⟩
  · exact ⟨2, by rw [h]; rfl, by omega⟩

/-- WHAT A TABLE HOLDS: block g is there, its cells are l -/
structure TabAt (w : World) (g : Nat) (l : List Value) : Prop where
  size : g < w.heap.size
  cell : ∀ i, w.cell? ⟨g, i, none⟩ = l[i]?
theorem TabAt.of {w w1 : World} {g : Nat} {l : List Value} (h : TabAt w g l) (hb : Below w.heap.size w w1) : TabAt w1 g l :=
  ⟨Nat.lt_of_lt_of_le h.size hb.size, fun i => (hb.cell (p := ⟨g, i, none⟩) h.size).trans (h.cell i)⟩
theorem TabAt.alloc {w : World} {g : Nat} {l : List Value} (h : TabAt w g l) (o : Obj) : TabAt (w.alloc o) g l := h.of (bA (Below.refl _ _) _)
theorem bcell {W w1 : World} (hb : Below W.heap.size W w1) : (∀ b o, b < W.heap.size → w1.cell? ⟨b, o, none⟩ = W.cell? ⟨b, o, none⟩) ∧ (∀ b o, b < W.heap.size → w1.frozen? ⟨b, o, none⟩ = W.frozen? ⟨b, o, none⟩) :=
  ⟨fun b o h => hb.cell (p := ⟨b, o, none⟩) h, fun b o h => hb.frozen (p := ⟨b, o, none⟩) h⟩
/-- what was there is there still: two rules that chain -/
theorem blt {W w1 : World} (hb : Below W.heap.size W w1) : (∀ k, k < W.heap.size → k < w1.heap.size) ∧ (∀ k, k < W.heap.size → k ≤ w1.heap.size) :=
  ⟨fun _ h => Nat.lt_of_lt_of_le h hb.size, fun _ h => Nat.le_of_lt (Nat.lt_of_lt_of_le h hb.size)⟩

/-- WHAT STOOD WHEN A REGION BEGAN STANDS STILL: said of whatever world the region comes to -/
abbrev Std (w0 w : World) : Prop := (∀ b o, b < w0.heap.size → w.cell? ⟨b, o, none⟩ = w0.cell? ⟨b, o, none⟩) ∧ (∀ b o, b < w0.heap.size → w.frozen? ⟨b, o, none⟩ = w0.frozen? ⟨b, o, none⟩) ∧ Below w0.heap.size w0 w
theorem Std.mk {w0 w : World} (h : Below w0.heap.size w0 w) : Std w0 w := ⟨(bcell h).1, (bcell h).2, h⟩
theorem Std.refl (w : World) : Std w w := Std.mk (Below.refl _ _)
theorem Std.drew {w0 w : World} (h : Std w0 w) : Std w0 w.drew := Std.mk h.2.2.drew
theorem Std.alloc {w0 w : World} (h : Std w0 w) (o : Obj) : Std w0 (w.alloc o) := Std.mk (bA h.2.2 o)
theorem Std.call {w0 w w1 : World} (h : Std w0 w) (hb : Below w.heap.size w w1) : Std w0 w1 := Std.mk (h.2.2.trans (hb.mono h.2.2.size))
theorem Std.setCell {w0 w : World} (h : Std w0 w) {p : Addr} (hp : w0.heap.size ≤ p.block) (u : Value) : Std w0 (w.setCell p u) := Std.mk (h.2.2.setCell hp u)
theorem Std.size {w0 w : World} (h : Std w0 w) : w0.heap.size ≤ w.heap.size := h.2.2.size

/-- a contract's world, seen from the caller's: what was below is as it was -/
theorem bT {w w0 w1 : World} (h : Below w.heap.size w w0) (hb : Below w0.heap.size w0 w1) : Below w.heap.size w w1 := h.trans (hb.mono h.size)

theorem below_any {g s : Nat} (h : g < s) : (∀ j, j ≤ g → j < s) ∧ (∀ j, j ≤ g → j ≤ s) ∧ (∀ j, j ≤ g → (s = j) = False) := ⟨fun _ hj => Nat.lt_of_le_of_lt hj h, fun _ hj => Nat.le_of_lt (Nat.lt_of_le_of_lt hj h), fun j hj => by simp; omega⟩
theorem hide {p : Prop} (h : p) : Hid p := h
theorem unhide {p : Prop} (h : Hid p) : p := h
theorem wrap_small (n : Int) (h0 : -1000000000000000 ≤ n) (h1 : n ≤ 1000000000000000) : IntKind.i64.wrap n = n := by
  rw [IntKind.wrap_i64]; omega

/-- a Val in a box of two cells -/
structure Box (w : World) (B : Nat) (b : Bool) (n : Int) : Prop where
  size : B < w.heap.size
  c0 : w.cell? ⟨B, 0, none⟩ = some (.bool b)
  c1 : w.cell? ⟨B, 1, none⟩ = some (.int .i64 n)
theorem Box.of {w w1 : World} {B : Nat} {b : Bool} {n : Int} (h : Box w B b n) (hb : Below w.heap.size w w1) : Box w1 B b n :=
  ⟨Nat.lt_of_lt_of_le h.size hb.size, (hb.cell (p := ⟨B, 0, none⟩) h.size).trans h.c0, (hb.cell (p := ⟨B, 1, none⟩) h.size).trans h.c1⟩
end Go.Proofs.YtnchcndcinpalaaGreatDoor
namespace Go.Proofs.YtnchcndcinpalaaGreatDoor
open Go Go.RowKit

theorem toOp_calls (b : Int) (n : Int) (w : World) :
    Calls Tryz.prog 120 #[.agg #[.int .i64 b, .int .i64 n]] w fun e w' => e = .returned (.agg #[.int .i64 b, .int .i64 n]) ∧ Below w.heap.size w w' := by
  go_enter Tryz.func120, Tryz.ntmps120
  go_wp2
  exact bodyPost_ret (v := .agg #[.int .i64 b, .int .i64 n]) (by simp [results, Tryz.results120, go_sem]) rfl ⟨rfl, bA (bA (bA (Below.refl _ _) _) _) _⟩

theorem eqOp_calls (b n : Int) (w : World) :
    Calls Tryz.prog 125 #[.agg #[.int .i64 b, .int .i64 n], .agg #[.int .i64 b, .int .i64 n]] w fun e w' => e = .returned (.bool true) ∧ Below w.heap.size w w' := by
  have hb : (b != b) = false := by simp
  have hn : (n != n) = false := by simp
  go_enter Tryz.func125, Tryz.ntmps125
  go_wp2
  go_ret
  exact ⟨by simp, bA (bA (Below.refl _ _) _) _⟩
end Go.Proofs.YtnchcndcinpalaaGreatDoor
namespace Go.Proofs.YtnchcndcinpalaaGreatDoor
open Go Go.RowKit
theorem ret_bool {a b : Bool} (h : a = b) : Ending.returned (.bool a) = .returned (.bool b) := by rw [h]
theorem ret_int {a b : Int} (h : a = b) : Ending.returned (.int .i64 a) = .returned (.int .i64 b) := by rw [h]
/-- how many values an Op takes off the stack; -1 where it is not valid -/
def tk (k n W : Int) : Int :=
  if k = 1 ∨ (k = 2 ∧ n = 0) then 0 else if k = 3 ∧ 0 ≤ n ∧ n < W then 0 else if k = 4 ∧ 1 ≤ n ∧ n ≤ 6 then 2
  else if (k = 5 ∨ k = 6) ∧ n = 0 then 2 else if (k = 7 ∨ k = 8) ∧ n = 0 then 1 else -1

set_option maxHeartbeats 2000000 in
theorem l1Takes_calls (k n W : Int) (w : World) :
    Calls Tryz.prog 129 #[.agg #[.int .i64 k, .int .i64 n], .int .i64 W] w fun e w' => e = .returned (.int .i64 (tk k n W)) ∧ Below w.heap.size w w' := by
  have hk : k = 1 ∨ k = 2 ∨ k = 3 ∨ k = 4 ∨ k = 5 ∨ k = 6 ∨ k = 7 ∨ k = 8 ∨ (k ≠ 1 ∧ k ≠ 2 ∧ k ≠ 3 ∧ k ≠ 4 ∧ k ≠ 5 ∧ k ≠ 6 ∧ k ≠ 7 ∧ k ≠ 8) := by omega
  rcases hk with rfl | rfl | rfl | rfl | rfl | rfl | rfl | rfl | ⟨h1, h2, h3, h4, h5, h6, h7, h8⟩
  · have HT : Hid (tk 1 n W = 0) := by show _ = _; simp [tk]
    go_enter Tryz.func129, Tryz.ntmps129
    go_wp2
    go_ret
    exact ⟨congrArg (fun z => Ending.returned (.int .i64 z)) HT.out.symm, bA (Below.refl _ _) _⟩
  · by_cases hn : n = 0
    · subst hn
      have HT : Hid (tk 2 0 W = 0) := by show _ = _; simp [tk]
      go_enter Tryz.func129, Tryz.ntmps129
      go_wp2
      go_ret
      exact ⟨congrArg (fun z => Ending.returned (.int .i64 z)) HT.out.symm, bA (Below.refl _ _) _⟩
    · have hb : (n == 0) = false := by simpa using hn
      have HT : Hid (tk 2 n W = -1) := by show _ = _; simp [tk, hn]
      clear hn
      go_enter Tryz.func129, Tryz.ntmps129
      go_wp2
      go_ret
      exact ⟨congrArg (fun z => Ending.returned (.int .i64 z)) HT.out.symm, bA (Below.refl _ _) _⟩
  · by_cases ha : 0 ≤ n
    · by_cases hb : n < W
      · have HT : Hid (tk 3 n W = 0) := by show _ = _; simp [tk, ha, hb]
        go_enter Tryz.func129, Tryz.ntmps129
        go_wp2
        go_ret
        exact ⟨congrArg (fun z => Ending.returned (.int .i64 z)) HT.out.symm, bA (Below.refl _ _) _⟩
      · have HT : Hid (tk 3 n W = -1) := by show _ = _; simp [tk, ha, hb]
        go_enter Tryz.func129, Tryz.ntmps129
        go_wp2
        go_ret
        exact ⟨congrArg (fun z => Ending.returned (.int .i64 z)) HT.out.symm, bA (Below.refl _ _) _⟩
    · have HT : Hid (tk 3 n W = -1) := by show _ = _; simp [tk, ha]
      go_enter Tryz.func129, Tryz.ntmps129
      go_wp2
      go_ret
      exact ⟨congrArg (fun z => Ending.returned (.int .i64 z)) HT.out.symm, bA (Below.refl _ _) _⟩
  · by_cases ha : 1 ≤ n
    · by_cases hb : n ≤ 6
      · have HT : Hid (tk 4 n W = 2) := by show _ = _; simp [tk, ha, hb]
        go_enter Tryz.func129, Tryz.ntmps129
        go_wp2
        go_ret
        exact ⟨congrArg (fun z => Ending.returned (.int .i64 z)) HT.out.symm, bA (Below.refl _ _) _⟩
      · have HT : Hid (tk 4 n W = -1) := by show _ = _; simp [tk, ha, hb]
        go_enter Tryz.func129, Tryz.ntmps129
        go_wp2
        go_ret
        exact ⟨congrArg (fun z => Ending.returned (.int .i64 z)) HT.out.symm, bA (Below.refl _ _) _⟩
    · have HT : Hid (tk 4 n W = -1) := by show _ = _; simp [tk, ha]
      go_enter Tryz.func129, Tryz.ntmps129
      go_wp2
      go_ret
      exact ⟨congrArg (fun z => Ending.returned (.int .i64 z)) HT.out.symm, bA (Below.refl _ _) _⟩
  · by_cases hn : n = 0
    · subst hn
      have HT : Hid (tk 5 0 W = 2) := by show _ = _; simp [tk]
      go_enter Tryz.func129, Tryz.ntmps129
      go_wp2
      go_ret
      exact ⟨congrArg (fun z => Ending.returned (.int .i64 z)) HT.out.symm, bA (Below.refl _ _) _⟩
    · have hb : (n == 0) = false := by simpa using hn
      have HT : Hid (tk 5 n W = -1) := by show _ = _; simp [tk, hn]
      clear hn
      go_enter Tryz.func129, Tryz.ntmps129
      go_wp2
      go_ret
      exact ⟨congrArg (fun z => Ending.returned (.int .i64 z)) HT.out.symm, bA (Below.refl _ _) _⟩
  · by_cases hn : n = 0
    · subst hn
      have HT : Hid (tk 6 0 W = 2) := by show _ = _; simp [tk]
      go_enter Tryz.func129, Tryz.ntmps129
      go_wp2
      go_ret
      exact ⟨congrArg (fun z => Ending.returned (.int .i64 z)) HT.out.symm, bA (Below.refl _ _) _⟩
    · have hb : (n == 0) = false := by simpa using hn
      have HT : Hid (tk 6 n W = -1) := by show _ = _; simp [tk, hn]
      clear hn
      go_enter Tryz.func129, Tryz.ntmps129
      go_wp2
      go_ret
      exact ⟨congrArg (fun z => Ending.returned (.int .i64 z)) HT.out.symm, bA (Below.refl _ _) _⟩
  · by_cases hn : n = 0
    · subst hn
      have HT : Hid (tk 7 0 W = 1) := by show _ = _; simp [tk]
      go_enter Tryz.func129, Tryz.ntmps129
      go_wp2
      go_ret
      exact ⟨congrArg (fun z => Ending.returned (.int .i64 z)) HT.out.symm, bA (Below.refl _ _) _⟩
    · have hb : (n == 0) = false := by simpa using hn
      have HT : Hid (tk 7 n W = -1) := by show _ = _; simp [tk, hn]
      clear hn
      go_enter Tryz.func129, Tryz.ntmps129
      go_wp2
      go_ret
      exact ⟨congrArg (fun z => Ending.returned (.int .i64 z)) HT.out.symm, bA (Below.refl _ _) _⟩
  · by_cases hn : n = 0
    · subst hn
      have HT : Hid (tk 8 0 W = 1) := by show _ = _; simp [tk]
      go_enter Tryz.func129, Tryz.ntmps129
      go_wp2
      go_ret
      exact ⟨congrArg (fun z => Ending.returned (.int .i64 z)) HT.out.symm, bA (Below.refl _ _) _⟩
    · have hb : (n == 0) = false := by simpa using hn
      have HT : Hid (tk 8 n W = -1) := by show _ = _; simp [tk, hn]
      clear hn
      go_enter Tryz.func129, Tryz.ntmps129
      go_wp2
      go_ret
      exact ⟨congrArg (fun z => Ending.returned (.int .i64 z)) HT.out.symm, bA (Below.refl _ _) _⟩
  · have b1 : (k == 1) = false := by simpa using h1
    have b2 : (k == 2) = false := by simpa using h2
    have b3 : (k == 3) = false := by simpa using h3
    have b4 : (k == 4) = false := by simpa using h4
    have b5 : (k == 5) = false := by simpa using h5
    have b6 : (k == 6) = false := by simpa using h6
    have b7 : (k == 7) = false := by simpa using h7
    have b8 : (k == 8) = false := by simpa using h8
    have HT : Hid (tk k n W = -1) := by show _ = _; simp [tk, h1, h2, h3, h4, h5, h6, h7, h8]
    go_enter Tryz.func129, Tryz.ntmps129
    go_wp2
    go_ret
    exact ⟨congrArg (fun z => Ending.returned (.int .i64 z)) HT.out.symm, bA (Below.refl _ _) _⟩

set_option maxHeartbeats 2000000 in
theorem opOk_calls (k n W : Int) (w : World) :
    Calls Tryz.prog 135 #[.agg #[.int .i64 k, .int .i64 n], .int .i64 W] w fun e w' => e = .returned (.bool (decide (0 ≤ tk k n W))) ∧ Below w.heap.size w w' := by
  have hk : k = 1 ∨ k = 2 ∨ k = 3 ∨ k = 4 ∨ k = 5 ∨ k = 6 ∨ k = 7 ∨ k = 8 ∨ (k ≠ 1 ∧ k ≠ 2 ∧ k ≠ 3 ∧ k ≠ 4 ∧ k ≠ 5 ∧ k ≠ 6 ∧ k ≠ 7 ∧ k ≠ 8) := by omega
  rcases hk with rfl | rfl | rfl | rfl | rfl | rfl | rfl | rfl | ⟨h1, h2, h3, h4, h5, h6, h7, h8⟩
  · have HT : Hid (tk 1 n W = 0) := by show _ = _; simp [tk]
    go_enter Tryz.func135, Tryz.ntmps135
    go_wp2
    go_ret
    exact ⟨ret_bool (by simp [HT.out]), bA (Below.refl _ _) _⟩
  · by_cases hn : n = 0
    · subst hn
      have HT : Hid (tk 2 0 W = 0) := by show _ = _; simp [tk]
      go_enter Tryz.func135, Tryz.ntmps135
      go_wp2
      go_ret
      exact ⟨ret_bool (by simp [HT.out]), bA (Below.refl _ _) _⟩
    · have hb : (n == 0) = false := by simpa using hn
      have HT : Hid (tk 2 n W = -1) := by show _ = _; simp [tk, hn]
      clear hn
      go_enter Tryz.func135, Tryz.ntmps135
      go_wp2
      go_ret
      exact ⟨ret_bool (by simp [HT.out]), bA (Below.refl _ _) _⟩
  · by_cases ha : 0 ≤ n
    · by_cases hb : n < W
      · have HT : Hid (tk 3 n W = 0) := by show _ = _; simp [tk, ha, hb]
        go_enter Tryz.func135, Tryz.ntmps135
        go_wp2
        go_ret
        exact ⟨ret_bool (by simp [HT.out]), bA (Below.refl _ _) _⟩
      · have HT : Hid (tk 3 n W = -1) := by show _ = _; simp [tk, ha, hb]
        go_enter Tryz.func135, Tryz.ntmps135
        go_wp2
        go_ret
        exact ⟨ret_bool (by simp [HT.out]), bA (Below.refl _ _) _⟩
    · have HT : Hid (tk 3 n W = -1) := by show _ = _; simp [tk, ha]
      go_enter Tryz.func135, Tryz.ntmps135
      go_wp2
      go_ret
      exact ⟨ret_bool (by simp [HT.out]), bA (Below.refl _ _) _⟩
  · by_cases ha : 1 ≤ n
    · by_cases hb : n ≤ 6
      · have HT : Hid (tk 4 n W = 2) := by show _ = _; simp [tk, ha, hb]
        go_enter Tryz.func135, Tryz.ntmps135
        go_wp2
        go_ret
        exact ⟨ret_bool (by simp [HT.out]), bA (Below.refl _ _) _⟩
      · have HT : Hid (tk 4 n W = -1) := by show _ = _; simp [tk, ha, hb]
        go_enter Tryz.func135, Tryz.ntmps135
        go_wp2
        go_ret
        exact ⟨ret_bool (by simp [HT.out]), bA (Below.refl _ _) _⟩
    · have HT : Hid (tk 4 n W = -1) := by show _ = _; simp [tk, ha]
      go_enter Tryz.func135, Tryz.ntmps135
      go_wp2
      go_ret
      exact ⟨ret_bool (by simp [HT.out]), bA (Below.refl _ _) _⟩
  · by_cases hn : n = 0
    · subst hn
      have HT : Hid (tk 5 0 W = 2) := by show _ = _; simp [tk]
      go_enter Tryz.func135, Tryz.ntmps135
      go_wp2
      go_ret
      exact ⟨ret_bool (by simp [HT.out]), bA (Below.refl _ _) _⟩
    · have hb : (n == 0) = false := by simpa using hn
      have HT : Hid (tk 5 n W = -1) := by show _ = _; simp [tk, hn]
      clear hn
      go_enter Tryz.func135, Tryz.ntmps135
      go_wp2
      go_ret
      exact ⟨ret_bool (by simp [HT.out]), bA (Below.refl _ _) _⟩
  · by_cases hn : n = 0
    · subst hn
      have HT : Hid (tk 6 0 W = 2) := by show _ = _; simp [tk]
      go_enter Tryz.func135, Tryz.ntmps135
      go_wp2
      go_ret
      exact ⟨ret_bool (by simp [HT.out]), bA (Below.refl _ _) _⟩
    · have hb : (n == 0) = false := by simpa using hn
      have HT : Hid (tk 6 n W = -1) := by show _ = _; simp [tk, hn]
      clear hn
      go_enter Tryz.func135, Tryz.ntmps135
      go_wp2
      go_ret
      exact ⟨ret_bool (by simp [HT.out]), bA (Below.refl _ _) _⟩
  · by_cases hn : n = 0
    · subst hn
      have HT : Hid (tk 7 0 W = 1) := by show _ = _; simp [tk]
      go_enter Tryz.func135, Tryz.ntmps135
      go_wp2
      go_ret
      exact ⟨ret_bool (by simp [HT.out]), bA (Below.refl _ _) _⟩
    · have hb : (n == 0) = false := by simpa using hn
      have HT : Hid (tk 7 n W = -1) := by show _ = _; simp [tk, hn]
      clear hn
      go_enter Tryz.func135, Tryz.ntmps135
      go_wp2
      go_ret
      exact ⟨ret_bool (by simp [HT.out]), bA (Below.refl _ _) _⟩
  · by_cases hn : n = 0
    · subst hn
      have HT : Hid (tk 8 0 W = 1) := by show _ = _; simp [tk]
      go_enter Tryz.func135, Tryz.ntmps135
      go_wp2
      go_ret
      exact ⟨ret_bool (by simp [HT.out]), bA (Below.refl _ _) _⟩
    · have hb : (n == 0) = false := by simpa using hn
      have HT : Hid (tk 8 n W = -1) := by show _ = _; simp [tk, hn]
      clear hn
      go_enter Tryz.func135, Tryz.ntmps135
      go_wp2
      go_ret
      exact ⟨ret_bool (by simp [HT.out]), bA (Below.refl _ _) _⟩
  · have b1 : (k == 1) = false := by simpa using h1
    have b2 : (k == 2) = false := by simpa using h2
    have b3 : (k == 3) = false := by simpa using h3
    have b4 : (k == 4) = false := by simpa using h4
    have b5 : (k == 5) = false := by simpa using h5
    have b6 : (k == 6) = false := by simpa using h6
    have b7 : (k == 7) = false := by simpa using h7
    have b8 : (k == 8) = false := by simpa using h8
    have HT : Hid (tk k n W = -1) := by show _ = _; simp [tk, h1, h2, h3, h4, h5, h6, h7, h8]
    go_enter Tryz.func135, Tryz.ntmps135
    go_wp2
    go_ret
    exact ⟨ret_bool (by simp [HT.out]), bA (Below.refl _ _) _⟩
end Go.Proofs.YtnchcndcinpalaaGreatDoor
/-
  EXPRESSIONS, the plain mathematics: the stack's height from the front, the need from the back. Of no program.
-/
namespace Go.Proofs.YtnchcndcinpalaaGreatDoor
abbrev O2 : Type := Int × Int
/-- the stack's height behind the Ops, from height h on; none where an Op is not valid or takes too much -/
def fwd (W : Int) : List O2 → Nat → Option Nat
  | [], h => some h
  | o :: r, h => if tk o.1 o.2 W < 0 then none else if (h : Int) < tk o.1 o.2 W then none else fwd W r (h + 1 - (tk o.1 o.2 W).toNat)
/-- from the back: k Ops are left, 'need' values are wanted; the place where the expression begins, -1 where there is none -/
def bwd (W : Int) (ops : List O2) : Nat → Int → Int
  | 0, need => if 0 < need then -1 else 0
  | k + 1, need => if 0 < need then (match ops[k]? with | some o => if tk o.1 o.2 W < 0 then -1 else bwd W ops k (need - 1 + tk o.1 o.2 W) | none => -1) else (k : Int) + 1

theorem tk_range (k n W : Int) : -1 ≤ tk k n W ∧ tk k n W ≤ 2 := by
  unfold tk; repeat (split <;> try omega)

theorem fwd_append (W : Int) : ∀ (a b : List O2) (h : Nat), fwd W (a ++ b) h = (fwd W a h).bind (fwd W b)
  | [], b, h => rfl
  | o :: a, b, h => by
    simp only [List.cons_append, fwd]
    split
    · rfl
    · split
      · rfl
      · exact fwd_append W a b _
theorem fwd_take (W : Int) (ops : List O2) (k : Nat) (hk : k < ops.length) : fwd W (ops.take (k + 1)) 0 = (fwd W (ops.take k) 0).bind (fwd W [ops[k]]) := by
  rw [List.take_succ_eq_append_getElem hk, fwd_append]
theorem bwd_of_fwd (W : Int) (ops : List O2) : ∀ (k : Nat) (h : Nat), k ≤ ops.length → fwd W (ops.take k) 0 = some h → bwd W ops k (h : Int) = 0
  | 0, h, _, hf => by
    simp only [List.take_zero, fwd, Option.some.injEq] at hf
    subst hf
    rfl
  | k + 1, h, hk, hf => by
    rw [fwd_take W ops k (by omega)] at hf
    obtain ⟨h', h1, h2⟩ := Option.bind_eq_some_iff.1 hf
    have ih := bwd_of_fwd W ops k h' (by omega) h1
    simp only [fwd] at h2
    have ho : ops[k]? = some ops[k] := by simp
    generalize ops[k] = o at *
    split at h2
    · cases h2
    · split at h2
      · cases h2
      · rename_i h3 h4
        simp only [Option.some.injEq] at h2
        have hpos : 0 < (h : Int) := by omega
        simp only [bwd, if_pos hpos, ho, if_neg h3]
        rw [show (h : Int) - 1 + tk o.1 o.2 W = (h' : Int) by omega]
        exact ih
theorem fwd_of_bwd (W : Int) (ops : List O2) : ∀ (k : Nat) (m : Int), k ≤ ops.length → 0 ≤ m → bwd W ops k m = 0 → fwd W (ops.take k) 0 = some m.toNat
  | 0, m, _, h0, hb => by
    simp only [bwd] at hb
    split at hb
    · cases hb
    · have : m = 0 := by omega
      subst this
      rfl
  | k + 1, m, hk, h0, hb => by
    rw [fwd_take W ops k (by omega)]
    simp only [bwd] at hb
    have ho : ops[k]? = some ops[k] := by simp
    rw [ho] at hb
    generalize ops[k] = o at *
    split at hb
    · simp only at hb
      split at hb
      · cases hb
      · rename_i h1 h2
        have ih := fwd_of_bwd W ops k _ (by omega) (by omega) hb
        rw [ih]
        simp only [Option.bind_some, fwd, if_neg h2]
        rw [if_neg (by omega)]
        congr 1
        omega
    · omega
theorem fwd_iff_bwd (W : Int) (ops : List O2) : fwd W ops 0 = some 1 ↔ bwd W ops ops.length 1 = 0 := by
  constructor
  · intro h
    exact bwd_of_fwd W ops ops.length 1 (Nat.le_refl _) (by rw [List.take_length]; exact h)
  · intro h
    have := fwd_of_bwd W ops ops.length 1 (Nat.le_refl _) (by omega) h
    rw [List.take_length] at this
    exact this
/-- is an expression valid for rows of width W? -/
def exOk (W : Int) (ops : List O2) : Bool := decide (0 ≤ W ∧ ops.length ≤ 5000 ∧ fwd W ops 0 = some 1)
theorem exOk_len {W : Int} {ops : List O2} (h : fwd W ops 0 = some 1) : 1 ≤ ops.length := by
  cases ops with
  | nil => simp [fwd] at h
  | cons o r => simp
end Go.Proofs.YtnchcndcinpalaaGreatDoor
