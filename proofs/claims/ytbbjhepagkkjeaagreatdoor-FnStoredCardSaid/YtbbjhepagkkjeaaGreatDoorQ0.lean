import Derived.OpenVars
import Derived.OpenShut
import Derived.ProofKit
import Derived.LaidMore
import Derived.Lib.LaidTab
import Derived.Test.YtbbjhepagkkjeaaGreatDoorProg
import Derived.WalkKit
import Derived.WalkLawsBesides
import Derived.OwnWalk
import Derived.BigQuiet
namespace Go.Proofs.YtbbjhepagkkjeaaGreatDoor.Frame
open Go.ChangeShapes Go.WideShapes Go.ChangeAt Go.RowKit
theorem trodAll_below {H : Type} {enc : TypeId × Value → H} {P : Program} (hl : laidOutB P = true) {W W' : World} (hb : Below W.heap.size W W') :
    ∀ {ts : List TypeId} {vs : List Value} {ds : List (DataW H)} {ps : List MemPlace}, (ts.all fun t => P.readableRec t && decide (t < P.types.size)) = true →
      (∀ x ∈ ps, x.block < W.heap.size) → DataW.TrodAll enc P W 0 (fun _ => true) true ts vs ds ps → DataW.TrodAll enc P W' 0 (fun b => decide (b < W.heap.size)) true ts vs ds ps
  | [], [], [], _, _, _, h => h
  | [], [], _ :: _, _, _, _, h => h.elim
  | [], _ :: _, _, _, _, _, h => h.elim
  | _ :: _, [], _, _, _, _, h => h.elim
  | _ :: _, _ :: _, [], _, _, _, h => h.elim
  | t :: ts, v :: vs, d :: ds, ps, ht, hlt, h => by
    obtain ⟨p, q, h1, h2, rfl⟩ := h
    simp only [List.all_cons, Bool.and_eq_true, decide_eq_true_eq] at ht
    exact ⟨p, q, Below.trod hl ht.1.1 ht.1.2 h1 hb (fun x hx => hlt x (by simp [hx])), trodAll_below hl hb (by simpa using ht.2) (fun x hx => hlt x (by simp [hx])) h2, rfl⟩
theorem law_post {H : Type} {enc : TypeId × Value → H} {P : Program} {f : Func} {s : ChangeSpec} (hl : laidOutB P = true)
    (hp : (f.params.toList.all fun t => P.readableRec t && decide (t < P.types.size)) = true) (hv : varsRowed P s.vars = true) {tb : TypeId} (hr : f.resultTypes = #[tb]) (htb : P.underlying tb = some .bool)
    {W W' : World} {args : Array Value} {ds gs : List (DataW H)} {before : List MemPlace}
    (hW : DataW.Whole enc P f.params.toList s.vars false W args.toList ds gs before)
    (hfn : s.fn H (ds ++ gs) = { results := [.lit (.bool true)], args := ds, vars := gs })
    (hb : Below W.heap.size W W') : s.post enc P f false true false false W args (.bool true) W' := by
  have hlt := hW.lt
  have hW0 := hW
  obtain ⟨p, q, hA, hV, rfl, hfz, hnd⟩ := hW
  refine ⟨ds, gs, p ++ q, [], p, q, hW0, ?_, ?_, ?_, hb.frame _, fun h => by cases h⟩
  · rw [hfn, hr]
    exact trodAll_mk1 (shut_bool htb true)
  · rw [hfn]
    exact trodAll_below hl hb hp (fun x hx => hlt x (by simp [hx])) hA
  · rw [hfn]
    exact Below.trodVars hl hb hv hV
theorem trodVars_length {H : Type} {enc : TypeId × Value → H} {P : Program} {W : World} {sp : Nat → Bool} : ∀ {ns : List String} {gs : List (DataW H)} {ps : List MemPlace}, DataW.TrodVars enc P W sp ns gs ps → gs.length = ns.length
  | [], [], _, _ => rfl
  | [], _ :: _, _, h => h.elim
  | _ :: _, [], _, h => h.elim
  | n :: ns, d :: ds, ps, h => by
    obtain ⟨g, t, cs, fuel, p, q, h1, h2, h3, h4, hs, e⟩ := h
    simp [trodVars_length hs]
theorem len3 {α : Type} : ∀ {l : List α}, l.length = 3 → ∃ a0 a1 a2, l = [a0, a1, a2]
  | [a0, a1, a2], _ => ⟨a0, a1, a2, rfl⟩
end Go.Proofs.YtbbjhepagkkjeaaGreatDoor.Frame
namespace Go.Proofs.YtbbjhepagkkjeaaGreatDoor.Tables
open Go
def contig (P : Program) : List (Nat × TypeId) → Nat → Nat → Bool
  | [], o, e => o == e
  | (off, t) :: r, o, e => off == o && contig P r (o + P.cellsOf t) e
def plainB (P : Program) : Nat → TypeId → Bool
  | 0, _ => false
  | fuel + 1, t => match P.underlying t with
    | some .bool => true
    | some (.int _) => true
    | some .string => true
    | some (.struct fs) => contig P (fs.toList.map fun f => (f.offset, f.type)) 0 (P.cellsOf t) && fs.toList.all fun f => plainB P fuel f.type
    | some (.array n e) => contig P ((List.range n).map fun i => (i * P.cellsOf e, e)) 0 (P.cellsOf t) && plainB P fuel e
    | _ => false
def flat {H : Type} : Nat → DataW H → List Value
  | 0, _ => []
  | _ + 1, .lit (.bool b) => [.bool b]
  | _ + 1, .lit (.int k n) => [.int k n]
  | _ + 1, .lit (.string s) => [.string ⟨s.toArray⟩]
  | f + 1, .agg ds => ds.flatMap (flat f)
  | _ + 1, _ => []
theorem pieces {H : Type} {P : Program} {F : TypeId → List Value → Option (DataW H × List MemPlace)} {g : DataW H → List Value} (cs : List Value) :
    ∀ (L : List (Nat × TypeId)) (o e : Nat) (xs : List (DataW H × List MemPlace)), contig P L o e = true →
      (∀ x ∈ L, ∀ c y, F x.2 c = some y → c = g y.1) → xs.length = L.length →
      (∀ (i : Nat) (x : Nat × TypeId), L[i]? = some x → F x.2 ((cs.drop x.1).take (P.cellsOf x.2)) = xs[i]?) → (cs.drop o).take (e - o) = (xs.map (·.1)).flatMap g ∧ o ≤ e
  | [], o, e, xs, hc, _, hl, _ => by
    simp only [contig, beq_iff_eq] at hc
    subst hc
    obtain rfl : xs = [] := List.eq_nil_of_length_eq_zero hl
    simp
  | (off, t) :: r, o, e, [], hc, hF, hl, h => by simp at hl
  | (off, t) :: r, o, e, y :: ys, hc, hF, hl, h => by
    simp only [contig, Bool.and_eq_true, beq_iff_eq] at hc
    obtain ⟨rfl, hc⟩ := hc
    have h1 := hF (off, t) (by simp) _ y (h 0 (off, t) rfl)
    obtain ⟨h2, h3⟩ := pieces cs r _ e ys hc (fun x hx => hF x (by simp [hx])) (by simpa using hl) (fun i x hx => by simpa using h (i + 1) x (by simpa using hx))
    refine ⟨?_, by omega⟩
    simp only [List.map_cons, List.flatMap_cons]
    rw [← h1, ← h2, show e - off = P.cellsOf t + (e - (off + P.cellsOf t)) from by omega, List.take_add, List.drop_drop]
theorem cells_of {H : Type} {enc : TypeId × Value → H} {P : Program} {w : World} {base : Nat} {sp : Nat → Bool} {held : Bool} :
    ∀ (fuel : Nat) (t : TypeId) (m : Nat) (cs : List Value) (x : DataW H × List MemPlace), plainB P fuel t = true → DataW.trod enc P w base sp held m t cs = some x → cs = flat fuel x.1
  | 0, _, _, _, _, h, _ => by simp [plainB] at h
  | fuel + 1, t, m, cs, x, hp, h => by
    unfold plainB at hp
    split at hp
    · rename_i ht
      obtain ⟨b, rfl, rfl⟩ := DataW.trod_bool ht h
      rfl
    · rename_i k ht
      obtain ⟨n, rfl, rfl, _⟩ := DataW.trod_int ht h
      rfl
    · rename_i ht
      obtain ⟨s, rfl, rfl, _⟩ := DataW.trod_string ht h
      rfl
    · rename_i fs ht
      simp only [Bool.and_eq_true] at hp
      obtain ⟨xs, n, _, rfl, hl, hn, hx⟩ := DataW.trod_struct ht h
      have := pieces (P := P) (F := fun t c => DataW.trod enc P w base sp held n t c) (g := flat fuel) cs (fs.toList.map fun f => (f.offset, f.type)) 0 _ xs hp.1
        (fun y hy c z hz => by
          obtain ⟨f, hf, rfl⟩ := List.mem_map.1 hy
          exact cells_of fuel _ _ _ _ (List.all_eq_true.1 hp.2 f hf) hz)
        (by simpa using hn)
        (fun i y hy => by
          rw [List.getElem?_map, Option.map_eq_some_iff] at hy
          obtain ⟨f, hf, rfl⟩ := hy
          exact hx i f (by simpa using hf))
      simp only [List.drop_zero, Nat.sub_zero] at this
      rw [← hl, List.take_length] at this
      simpa [flat] using this.1
    · rename_i n e ht
      simp only [Bool.and_eq_true] at hp
      obtain ⟨xs, m', _, rfl, hl, hn, hx⟩ := DataW.trod_array ht h
      have := pieces (P := P) (F := fun t c => DataW.trod enc P w base sp held m' t c) (g := flat fuel) cs ((List.range n).map fun i => (i * P.cellsOf e, e)) 0 _ xs hp.1
        (fun y hy c z hz => by
          obtain ⟨f, hf, rfl⟩ := List.mem_map.1 hy
          exact cells_of fuel _ _ _ _ hp.2 hz)
        (by simpa using hn)
        (fun i y hy => by
          rw [List.getElem?_map, Option.map_eq_some_iff] at hy
          obtain ⟨f, hf, rfl⟩ := hy
          obtain ⟨hi, rfl⟩ := List.getElem?_eq_some_iff.1 hf
          have hi' : i < n := by simpa using hi
          simpa using hx i hi')
      simp only [List.drop_zero, Nat.sub_zero] at this
      rw [← hl, List.take_length] at this
      simpa [flat] using this.1
    · cases hp
theorem laid_mem {P : Program} {w : World} {n : String} {d : DataW Unit} : ∀ {l : List (String × DataW Unit)} {ps : List MemPlace}, DataW.LaidVars P w l ps → (n, d) ∈ l →
    ∃ g t cs fuel p, P.globalNamed n = some g ∧ (P.globals[g]?).map (·.type) = some t ∧ w.var? P n = some cs ∧ DataW.trod (fun _ => ()) P w 0 (fun _ => true) false fuel t cs.toList = some (d, p)
  | [], _, _, h => by cases h
  | (n', d') :: l, ps, h, hm => by
    obtain ⟨g, t, cs, fuel, p, q, h1, h2, h3, h4, h5, _⟩ := h
    cases hm with
    | head => exact ⟨g, t, cs, fuel, p, h1, h2, h3, h4⟩
    | tail _ hm => exact laid_mem h5 hm
theorem cells_of_laid {P : Program} {w : World} {l : List (String × DataW Unit)} {n : String} {d : DataW Unit} {g : Nat} {t : TypeId} (hl : laidMetH P l w) (hh : (l.all fun x => x.2.handleName?.isNone) = true) (hm : (n, d) ∈ l)
    (hg : P.globalNamed n = some g) (ht : (P.globals[g]?).map (·.type) = some t) (fuel : Nat) (hp : plainB P fuel t = true) : g < w.heap.size ∧ ∀ i, w.cell? ⟨g, i, none⟩ = (flat fuel d)[i]? := by
  rw [MakeChecks.laidMetH_plain _ _ _ hh] at hl
  obtain ⟨ps, hv, _, _⟩ := hl
  obtain ⟨g', t', cs, m, p, h1, h2, h3, h4⟩ := laid_mem hv hm
  obtain rfl := Option.some.inj (hg.symm.trans h1)
  obtain rfl := Option.some.inj (ht.symm.trans h2)
  have hc := cells_of fuel t m _ _ hp h4
  refine ⟨?_, fun i => ?_⟩
  · unfold World.var? at h3
    rw [h1] at h3
    simp only [Option.bind_some] at h3
    cases hh : w.heap[g]? with
    | none => rw [hh] at h3; cases h3
    | some o => exact (Array.getElem?_eq_some_iff.1 hh).1
  · rw [World.var?_cell h1 h3 i, ← hc]
    simp
end Go.Proofs.YtbbjhepagkkjeaaGreatDoor.Tables
namespace Go.Proofs.YtbbjhepagkkjeaaGreatDoor
open Go Go.RowKit
theorem bA {w w1 : World} (h : Below w.heap.size w w1) (o : Obj) : Below w.heap.size w (w1.alloc o) := h.alloc h.size o
def tr (b : Bool) (n : Int) : Int := if b then 1 else if n = 0 then 0 else 2
def vB (t : Int) : Bool := decide (t = 1)
def vI (t : Int) : Int := if t = 2 then 1 else 0
structure TabAt (w : World) (g : Nat) (l : List Value) : Prop where
  size : g < w.heap.size
  cell : ∀ i, w.cell? ⟨g, i, none⟩ = l[i]?
theorem TabAt.of {w w1 : World} {g : Nat} {l : List Value} (h : TabAt w g l) (hb : Below w.heap.size w w1) : TabAt w1 g l :=
  ⟨Nat.lt_of_lt_of_le h.size hb.size, fun i => (hb.cell (p := ⟨g, i, none⟩) h.size).trans (h.cell i)⟩
theorem TabAt.alloc {w : World} {g : Nat} {l : List Value} (h : TabAt w g l) (o : Obj) : TabAt (w.alloc o) g l := h.of (bA (Below.refl _ _) _)
theorem bcell {W w1 : World} (hb : Below W.heap.size W w1) : (∀ b o, b < W.heap.size → w1.cell? ⟨b, o, none⟩ = W.cell? ⟨b, o, none⟩) ∧ (∀ b o, b < W.heap.size → w1.frozen? ⟨b, o, none⟩ = W.frozen? ⟨b, o, none⟩) :=
  ⟨fun b o h => hb.cell (p := ⟨b, o, none⟩) h, fun b o h => hb.frozen (p := ⟨b, o, none⟩) h⟩
abbrev Std (w0 w : World) : Prop := (∀ b o, b < w0.heap.size → w.cell? ⟨b, o, none⟩ = w0.cell? ⟨b, o, none⟩) ∧ (∀ b o, b < w0.heap.size → w.frozen? ⟨b, o, none⟩ = w0.frozen? ⟨b, o, none⟩) ∧ Below w0.heap.size w0 w
theorem Std.mk {w0 w : World} (h : Below w0.heap.size w0 w) : Std w0 w := ⟨(bcell h).1, (bcell h).2, h⟩
theorem Std.refl (w : World) : Std w w := Std.mk (Below.refl _ _)
theorem Std.drew {w0 w : World} (h : Std w0 w) : Std w0 w.drew := Std.mk h.2.2.drew
theorem Std.alloc {w0 w : World} (h : Std w0 w) (o : Obj) : Std w0 (w.alloc o) := Std.mk (bA h.2.2 o)
theorem Std.call {w0 w w1 : World} (h : Std w0 w) (hb : Below w.heap.size w w1) : Std w0 w1 := Std.mk (h.2.2.trans (hb.mono h.2.2.size))
theorem Std.setCell {w0 w : World} (h : Std w0 w) {p : Addr} (hp : w0.heap.size ≤ p.block) (u : Value) : Std w0 (w.setCell p u) := Std.mk (h.2.2.setCell hp u)
theorem Std.size {w0 w : World} (h : Std w0 w) : w0.heap.size ≤ w.heap.size := h.2.2.size
theorem bT {w w0 w1 : World} (h : Below w.heap.size w w0) (hb : Below w0.heap.size w0 w1) : Below w.heap.size w w1 := h.trans (hb.mono h.size)
theorem hide {p : Prop} (h : p) : Hid p := h
theorem unhide {p : Prop} (h : Hid p) : p := h
theorem wrap_small (n : Int) (h0 : -1000000000000000 ≤ n) (h1 : n ≤ 1000000000000000) : IntKind.i64.wrap n = n := by
  rw [IntKind.wrap_i64]; omega
structure Box (w : World) (B : Nat) (b : Bool) (n : Int) : Prop where
  size : B < w.heap.size
  c0 : w.cell? ⟨B, 0, none⟩ = some (.bool b)
  c1 : w.cell? ⟨B, 1, none⟩ = some (.int .i64 n)
theorem Box.of {w w1 : World} {B : Nat} {b : Bool} {n : Int} (h : Box w B b n) (hb : Below w.heap.size w w1) : Box w1 B b n :=
  ⟨Nat.lt_of_lt_of_le h.size hb.size, (hb.cell (p := ⟨B, 0, none⟩) h.size).trans h.c0, (hb.cell (p := ⟨B, 1, none⟩) h.size).trans h.c1⟩
end Go.Proofs.YtbbjhepagkkjeaaGreatDoor
namespace Go.Proofs.YtbbjhepagkkjeaaGreatDoor
open Go Go.RowKit
def nxt (bs : List Nat) (p : Nat) : Nat := bs.getD p 0
def adv (bs : List Nat) (p : Nat) : Nat := if p < bs.length then p + 1 else p
structure Drw (R : Nat) (w w' : World) : Prop where
  size : w.heap.size ≤ w'.heap.size
  block : ∀ b, b < w.heap.size → b ≠ R → w'.heap[b]? = w.heap[b]?
  low : Below R w w'
theorem Drw.refl (R : Nat) (w : World) : Drw R w w := ⟨Nat.le_refl _, fun _ _ _ => rfl, Below.refl _ _⟩
theorem Drw.trans {R : Nat} {w w1 w2 : World} (h : Drw R w w1) (k : Drw R w1 w2) : Drw R w w2 :=
  ⟨Nat.le_trans h.size k.size, fun b hb hn => (k.block b (Nat.lt_of_lt_of_le hb h.size) hn).trans (h.block b hb hn), h.low.trans k.low⟩
theorem Drw.below {R : Nat} {w w1 w2 : World} (h : Drw R w w1) (hR : R ≤ w1.heap.size) (k : Below w1.heap.size w1 w2) : Drw R w w2 :=
  ⟨Nat.le_trans h.size k.size, fun b hb hn => (k.block b (Nat.lt_of_lt_of_le hb h.size)).trans (h.block b hb hn), h.low.trans (k.mono hR)⟩
theorem Drw.set {R o : Nat} {w w1 : World} (h : Drw R w w1) (v : Value) : Drw R w (w1.setCell ⟨R, o, none⟩ v) :=
  ⟨by simpa using h.size, fun b hb hn => (Below.heap_setCell w1 ⟨R, o, none⟩ v b hn).trans (h.block b hb hn), h.low.setCell (Nat.le_refl _) v⟩
theorem Drw.drewN {R : Nat} {w w1 : World} (h : Drw R w w1) (n : Nat) : Drw R w (w1.drewN n) := ⟨h.size, h.block, below_drewN h.low n⟩
theorem Drw.drew {R : Nat} {w w1 : World} (h : Drw R w w1) : Drw R w w1.drew := ⟨h.size, h.block, h.low.drew⟩
theorem Drw.cell {R : Nat} {w w1 : World} (h : Drw R w w1) {b : Nat} (o : Nat) (hb : b < w.heap.size) (hn : b ≠ R) : w1.cell? ⟨b, o, none⟩ = w.cell? ⟨b, o, none⟩ := World.cell?_of_block (h.block b hb hn)
theorem Drw.frozen {R : Nat} {w w1 : World} (h : Drw R w w1) {b : Nat} (o : Nat) (hb : b < w.heap.size) (hn : b ≠ R) : w1.frozen? ⟨b, o, none⟩ = w.frozen? ⟨b, o, none⟩ := World.frozen?_of_block (h.block b hb hn)
structure Rd (w : World) (R : Nat) (a : Option Addr) (cap : Nat) (bs : List Nat) (p : Nat) : Prop where
  size : R < w.heap.size
  c0 : w.cell? ⟨R, 0, none⟩ = some (.slice a bs.length cap)
  c1 : w.cell? ⟨R, 1, none⟩ = some (.int .i64 (p : Int))
  frz : ∀ o, w.frozen? ⟨R, o, none⟩ = false
  ple : p ≤ bs.length + 255
  len : bs.length ≤ 1500
  byte : ∀ b ∈ bs, b ≤ 255
  byt : bs = [] ∨ ∃ g off, a = some ⟨g, off, none⟩ ∧ g < R ∧ ∀ (i b : Nat), bs[i]? = some b → w.cell? ⟨g, off + i, none⟩ = some (.int .u8 (b : Int))
theorem Rd.blocks {w w1 : World} {R : Nat} {a : Option Addr} {cap : Nat} {bs : List Nat} {p : Nat} (h : Rd w R a cap bs p) (hs : w.heap.size ≤ w1.heap.size) (hb : ∀ b, b ≤ R → w1.heap[b]? = w.heap[b]?) : Rd w1 R a cap bs p := by
  refine ⟨Nat.lt_of_lt_of_le h.size hs, (World.cell?_of_block (hb R (Nat.le_refl _))).trans h.c0, (World.cell?_of_block (hb R (Nat.le_refl _))).trans h.c1, fun o => (World.frozen?_of_block (hb R (Nat.le_refl _))).trans (h.frz o), h.ple, h.len, h.byte, ?_⟩
  rcases h.byt with e | ⟨g, off, e, hg, hc⟩
  · exact Or.inl e
  · exact Or.inr ⟨g, off, e, hg, fun i b hi => (World.cell?_of_block (hb g (Nat.le_of_lt hg))).trans (hc i b hi)⟩
theorem Rd.of {w w1 : World} {R : Nat} {a : Option Addr} {cap : Nat} {bs : List Nat} {p : Nat} (h : Rd w R a cap bs p) (hb : Below w.heap.size w w1) : Rd w1 R a cap bs p :=
  h.blocks hb.size (fun b hle => hb.block b (Nat.lt_of_le_of_lt hle h.size))
theorem Rd.ofB {w w1 : World} {B R : Nat} {a : Option Addr} {cap : Nat} {bs : List Nat} {p : Nat} (h : Rd w R a cap bs p) (hB : R < B) (hb : Below B w w1) : Rd w1 R a cap bs p :=
  h.blocks hb.size (fun b hle => hb.block b (Nat.lt_of_le_of_lt hle hB))
theorem nxt_le {w : World} {R : Nat} {a : Option Addr} {cap : Nat} {bs : List Nat} {p : Nat} (h : Rd w R a cap bs p) (q : Nat) : nxt bs q ≤ 255 := by
  unfold nxt
  by_cases hq : q < bs.length
  · rw [List.getD_eq_getElem?_getD, List.getElem?_eq_getElem hq]
    exact h.byte _ (List.getElem_mem hq)
  · rw [List.getD_eq_getElem?_getD, List.getElem?_eq_none (by omega)]
    simp
theorem Rd.step {w : World} {R : Nat} {a : Option Addr} {cap : Nat} {bs : List Nat} {p : Nat} (h : Rd w R a cap bs p) (hp : p < bs.length) : Rd (w.setCell ⟨R, 1, none⟩ (.int .i64 ((p : Int) + 1))) R a cap bs (adv bs p) := by
  have hadv : adv bs p = p + 1 := by unfold adv; rw [if_pos hp]
  rw [hadv]
  refine ⟨by simpa using h.size, ?_, ?_, fun o => by rw [World.frozen?_setCell]; exact h.frz o, by omega, h.len, h.byte, ?_⟩
  · rw [World.cell?_setCell_other _ _ _ _ (by intro he; injection he; contradiction)]; exact h.c0
  · rw [World.cell?_setCell_same _ _ _ h.c1]; simp
  · rcases h.byt with e | ⟨g, off, e, hg, hc⟩
    · exact Or.inl e
    · exact Or.inr ⟨g, off, e, hg, fun i b hi => by rw [World.cell?_setCell_other _ _ _ _ (by intro he; injection he; omega)]; exact hc i b hi⟩
set_option maxHeartbeats 1000000 in
theorem next_calls (w : World) (R : Nat) (a : Option Addr) (cap : Nat) (bs : List Nat) (p : Nat) (h : Rd w R a cap bs p) :
    Calls Tryz.prog 32 #[.pointer (some ⟨R, 0, none⟩)] w fun e w' => e = .returned (.int .i64 (nxt bs p : Int)) ∧ Rd w' R a cap bs (adv bs p) ∧ Drw R w w' := by
  have c0 := h.c0; have c1 := h.c1; have hf := h.frz; have hs := h.size; have hl := h.len; have hple := h.ple
  by_cases hp : p < bs.length
  · rcases h.byt with e | ⟨g, off, rfl, hg, hc⟩
    · rw [e] at hp; simp at hp
    have hcb := hc p bs[p] (by simp [hp])
    have hN : Hid (∀ n, Rd ((w.drewN n).setCell ⟨R, 1, none⟩ (.int .i64 ((p : Int) + 1))) R (some ⟨g, off, none⟩) cap bs (adv bs p)) := fun n => (h.of (below_drewN (Below.refl _ _) n)).step hp
    have hE : Hid (nxt bs p = bs[p]) := by show _ = _; unfold nxt; simp [hp]
    have hb : bs[p] ≤ 255 := h.byte _ (List.getElem_mem hp)
    have hp' : (p : Int) < (bs.length : Int) := by omega
    have hgs : g < w.heap.size := by omega
    clear h hc
    generalize bs[p] = b at *
    go_enter Tryz.func32, Tryz.ntmps32
    go_wp2_with fail
    go_quiet (fail)
    go_wp2_with fail
    go_quiet (fail)
    go_wp2
    go_ret
    exact ⟨congrArg (fun z : Nat => Ending.returned (.int .i64 (z : Int))) hE.out.symm, hN.out _, ((Drw.refl _ _).drewN _).set _⟩
  · have hp' : ¬ (p : Int) < (bs.length : Int) := by omega
    have hE : Hid (nxt bs p = 0) := by show _ = _; unfold nxt; rw [List.getD_eq_getElem?_getD, List.getElem?_eq_none (by omega)]; rfl
    have hA : Hid (adv bs p = p) := by show _ = _; unfold adv; rw [if_neg hp]
    have HR := hide h
    clear h
    go_enter Tryz.func32, Tryz.ntmps32
    go_wp2_with fail
    go_quiet (fail)
    go_wp2
    go_ret
    exact ⟨congrArg (fun z : Nat => Ending.returned (.int .i64 (z : Int))) hE.out.symm, by rw [hA.out]; exact (unhide HR).of (below_drewN (Below.refl _ _) _), Drw.drewN (Drw.refl _ _) _⟩
def IsBytes (w : World) (v : Value) (cs : List Nat) : Prop :=
  (cs = [] ∧ ∃ a cap, v = .slice a 0 cap) ∨ ∃ g off cap, v = .slice (some ⟨g, off, none⟩) cs.length cap ∧ cs.length ≤ cap ∧ g < w.heap.size ∧ ∀ (i b : Nat), cs[i]? = some b → w.cell? ⟨g, off + i, none⟩ = some (.int .u8 (b : Int))
theorem IsBytes.of {w w1 : World} {v : Value} {cs : List Nat} (h : IsBytes w v cs) (hb : Below w.heap.size w w1) : IsBytes w1 v cs := by
  rcases h with h | ⟨g, off, cap, h1, h2, h3, h4⟩
  · exact Or.inl h
  · exact Or.inr ⟨g, off, cap, h1, h2, Nat.lt_of_lt_of_le h3 hb.size, fun i b hi => (hb.cell (p := ⟨g, off + i, none⟩) h3).trans (h4 i b hi)⟩
theorem Rd.made {w : World} {t : TypeId} {a : Option Addr} {cap : Nat} {bs : List Nat} (hl : bs.length ≤ 1500) (hby : ∀ b ∈ bs, b ≤ 255)
    (hc : bs = [] ∨ ∃ g off, a = some ⟨g, off, none⟩ ∧ g < w.heap.size ∧ ∀ (i b : Nat), bs[i]? = some b → w.cell? ⟨g, off + i, none⟩ = some (.int .u8 (b : Int))) :
    Rd (w.alloc (.cells #[.slice a bs.length cap, .int .i64 0] t)) w.heap.size a cap bs 0 := by
  refine ⟨by simp, by rw [World.cell?_alloc_at _ t _ 0 rfl]; rfl, by rw [World.cell?_alloc_at _ t _ 1 rfl]; rfl, fun o => by simp [go_sem], Nat.zero_le _, hl, hby, ?_⟩
  rcases hc with e | ⟨g, off, e, hg, hc⟩
  · exact Or.inl e
  · exact Or.inr ⟨g, off, e, hg, fun i b hi => by rw [World.cell?_alloc_past _ g _ hg]; exact hc i b hi⟩
theorem bslice_high (G off n cap : Nat) (hh : 1500 ≤ cap) (w : World) : (Instr.slice 22 (.slice (some ⟨G, off, none⟩) n cap) none (some (.int .i64 1500)) none).run Tryz.prog w = .ok (.slice (some ⟨G, off, none⟩) 1500 cap) w := by
  have ht : Tryz.prog.underlying 22 = some (.slice (Tryz.prog.elem 22)) := by kernel_rfl
  have hs : ∀ w, (sizeOf (Tryz.prog.elem 22)).run Tryz.prog w = .ok 1 w := fun _ => by kernel_rfl
  rw [run_slice_h _ _ _ _ _ ht .i64 1500 (by omega) (by omega), hs]
  simp [Result.andThen, sliced, Addr.add]
theorem l1Open_calls (v : Value) (cs : List Nat) (w : World) (hv : IsBytes w v cs) (hby : ∀ b ∈ cs, b ≤ 255) (hn : cs.length ≤ 1048576) :
    Calls Tryz.prog 12 #[v] w fun e w' => ∃ R, e = .returned (.pointer (some ⟨R, 0, none⟩)) ∧ (∃ a cap, Rd w' R a cap (cs.take 1500) 0) ∧ w.heap.size ≤ R ∧ Below w.heap.size w w' := by
  by_cases hl : 1500 < cs.length
  · rcases hv with ⟨rfl, _⟩ | ⟨g, off, cap, rfl, hcap, hg, hc⟩
    · simp at hl
    have hl' : (1500 : Int) < (cs.length : Int) := by omega
    have hsl := bslice_high g off cs.length cap (by omega)
    have hlen : (cs.take 1500).length = 1500 := by simp; omega
    have hM := fun t => Rd.made (w := w) (t := t) (a := some ⟨g, off, none⟩) (cap := cap) (bs := cs.take 1500) (by omega) (fun b hb => hby b (List.mem_of_mem_take hb)) (Or.inr ⟨g, off, rfl, hg, fun i b hi => hc i b (by rw [List.getElem?_take] at hi; split at hi <;> simp_all)⟩)
    rw [hlen] at hM
    have HM := hide hM
    clear hM hc
    go_enter Tryz.func12, Tryz.ntmps12
    go_wp2
    go_ret
    exact ⟨_, rfl, ⟨_, _, unhide HM _⟩, Nat.le_refl _, bA (Below.refl _ _) _⟩
  · have hl' : ¬ (1500 : Int) < (cs.length : Int) := by omega
    obtain ⟨a, cap, rfl, hc⟩ : ∃ a cap, v = .slice a cs.length cap ∧ (cs = [] ∨ ∃ g off, a = some ⟨g, off, none⟩ ∧ g < w.heap.size ∧ ∀ (i b : Nat), cs[i]? = some b → w.cell? ⟨g, off + i, none⟩ = some (.int .u8 (b : Int))) := by
      rcases hv with ⟨rfl, a, cap, rfl⟩ | ⟨g, off, cap, rfl, hcap, hg, hc⟩
      · exact ⟨a, cap, rfl, Or.inl rfl⟩
      · exact ⟨_, cap, rfl, Or.inr ⟨g, off, rfl, hg, hc⟩⟩
    have hM := fun t => Rd.made (w := w) (t := t) (a := a) (cap := cap) (bs := cs) (by omega) hby hc
    rw [List.take_of_length_le (by omega)]
    have HM := hide hM
    clear hM hc hv
    go_enter Tryz.func12, Tryz.ntmps12
    go_wp2
    go_ret
    exact ⟨_, rfl, ⟨_, _, unhide HM _⟩, Nat.le_refl _, bA (Below.refl _ _) _⟩
end Go.Proofs.YtbbjhepagkkjeaaGreatDoor
