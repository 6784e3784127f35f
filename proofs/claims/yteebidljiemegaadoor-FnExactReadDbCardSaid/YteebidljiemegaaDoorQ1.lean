import Derived.ProofKit
import Derived.LaidMore
import Derived.OpenShut
import Derived.Lib.LaidTab
namespace Go.Proofs.YteebidljiemegaaDoor.Tables
open Go
def contig (P : Program) : List (Nat × TypeId) → Nat → Nat → Bool
  | [], o, e => o == e
  | (off, t) :: r, o, e => off == o && contig P r (o + P.cellsOf t) e
def plainB (P : Program) : Nat → TypeId → Bool
  | 0, _ => false
  | fuel + 1, t => match P.underlying t with
    | some .bool => true
    | some (.int _) => true
    | some .string => true
    | some (.struct fs) => contig P (fs.toList.map fun f => (f.offset, f.type)) 0 (P.cellsOf t) && fs.toList.all fun f => plainB P fuel f.type
    | some (.array n e) => contig P ((List.range n).map fun i => (i * P.cellsOf e, e)) 0 (P.cellsOf t) && plainB P fuel e
    | _ => false
def flat {H : Type} : Nat → DataW H → List Value
  | 0, _ => []
  | _ + 1, .lit (.bool b) => [.bool b]
  | _ + 1, .lit (.int k n) => [.int k n]
  | _ + 1, .lit (.string s) => [.string ⟨s.toArray⟩]
  | f + 1, .agg ds => ds.flatMap (flat f)
  | _ + 1, _ => []
theorem pieces {H : Type} {P : Program} {F : TypeId → List Value → Option (DataW H × List MemPlace)} {g : DataW H → List Value} (cs : List Value) :
    ∀ (L : List (Nat × TypeId)) (o e : Nat) (xs : List (DataW H × List MemPlace)), contig P L o e = true →
      (∀ x ∈ L, ∀ c y, F x.2 c = some y → c = g y.1) → xs.length = L.length →
      (∀ (i : Nat) (x : Nat × TypeId), L[i]? = some x → F x.2 ((cs.drop x.1).take (P.cellsOf x.2)) = xs[i]?) → (cs.drop o).take (e - o) = (xs.map (·.1)).flatMap g ∧ o ≤ e
  | [], o, e, xs, hc, _, hl, _ => by
    simp only [contig, beq_iff_eq] at hc
    subst hc
    obtain rfl : xs = [] := List.eq_nil_of_length_eq_zero hl
    simp
  | (off, t) :: r, o, e, [], hc, hF, hl, h => by simp at hl
  | (off, t) :: r, o, e, y :: ys, hc, hF, hl, h => by
    simp only [contig, Bool.and_eq_true, beq_iff_eq] at hc
    obtain ⟨rfl, hc⟩ := hc
    have h1 := hF (off, t) (by simp) _ y (h 0 (off, t) rfl)
    obtain ⟨h2, h3⟩ := pieces cs r _ e ys hc (fun x hx => hF x (by simp [hx])) (by simpa using hl) (fun i x hx => by simpa using h (i + 1) x (by simpa using hx))
    refine ⟨?_, by omega⟩
    simp only [List.map_cons, List.flatMap_cons]
    rw [← h1, ← h2, show e - off = P.cellsOf t + (e - (off + P.cellsOf t)) from by omega, List.take_add, List.drop_drop]
theorem cells_of {H : Type} {enc : TypeId × Value → H} {P : Program} {w : World} {base : Nat} {sp : Nat → Bool} {held : Bool} :
    ∀ (fuel : Nat) (t : TypeId) (m : Nat) (cs : List Value) (x : DataW H × List MemPlace), plainB P fuel t = true → DataW.trod enc P w base sp held m t cs = some x → cs = flat fuel x.1
  | 0, _, _, _, _, h, _ => by simp [plainB] at h
  | fuel + 1, t, m, cs, x, hp, h => by
    unfold plainB at hp
    split at hp
    · rename_i ht
      obtain ⟨b, rfl, rfl⟩ := DataW.trod_bool ht h
      rfl
    · rename_i k ht
      obtain ⟨n, rfl, rfl, _⟩ := DataW.trod_int ht h
      rfl
    · rename_i ht
      obtain ⟨s, rfl, rfl, _⟩ := DataW.trod_string ht h
      rfl
    · rename_i fs ht
      simp only [Bool.and_eq_true] at hp
      obtain ⟨xs, n, _, rfl, hl, hn, hx⟩ := DataW.trod_struct ht h
      have := pieces (P := P) (F := fun t c => DataW.trod enc P w base sp held n t c) (g := flat fuel) cs (fs.toList.map fun f => (f.offset, f.type)) 0 _ xs hp.1
        (fun y hy c z hz => by
          obtain ⟨f, hf, rfl⟩ := List.mem_map.1 hy
          exact cells_of fuel _ _ _ _ (List.all_eq_true.1 hp.2 f hf) hz)
        (by simpa using hn)
        (fun i y hy => by
          rw [List.getElem?_map, Option.map_eq_some_iff] at hy
          obtain ⟨f, hf, rfl⟩ := hy
          exact hx i f (by simpa using hf))
      simp only [List.drop_zero, Nat.sub_zero] at this
      rw [← hl, List.take_length] at this
      simpa [flat] using this.1
    · rename_i n e ht
      simp only [Bool.and_eq_true] at hp
      obtain ⟨xs, m', _, rfl, hl, hn, hx⟩ := DataW.trod_array ht h
      have := pieces (P := P) (F := fun t c => DataW.trod enc P w base sp held m' t c) (g := flat fuel) cs ((List.range n).map fun i => (i * P.cellsOf e, e)) 0 _ xs hp.1
        (fun y hy c z hz => by
          obtain ⟨f, hf, rfl⟩ := List.mem_map.1 hy
          exact cells_of fuel _ _ _ _ hp.2 hz)
        (by simpa using hn)
        (fun i y hy => by
          rw [List.getElem?_map, Option.map_eq_some_iff] at hy
          obtain ⟨f, hf, rfl⟩ := hy
          obtain ⟨hi, rfl⟩ := List.getElem?_eq_some_iff.1 hf
          have hi' : i < n := by simpa using hi
          simpa using hx i hi')
      simp only [List.drop_zero, Nat.sub_zero] at this
      rw [← hl, List.take_length] at this
      simpa [flat] using this.1
    · cases hp
theorem laid_mem {P : Program} {w : World} {n : String} {d : DataW Unit} : ∀ {l : List (String × DataW Unit)} {ps : List MemPlace}, DataW.LaidVars P w l ps → (n, d) ∈ l →
    ∃ g t cs fuel p, P.globalNamed n = some g ∧ (P.globals[g]?).map (·.type) = some t ∧ w.var? P n = some cs ∧ DataW.trod (fun _ => ()) P w 0 (fun _ => true) false fuel t cs.toList = some (d, p)
  | [], _, _, h => by cases h
  | (n', d') :: l, ps, h, hm => by
    obtain ⟨g, t, cs, fuel, p, q, h1, h2, h3, h4, h5, _⟩ := h
    cases hm with
    | head => exact ⟨g, t, cs, fuel, p, h1, h2, h3, h4⟩
    | tail _ hm => exact laid_mem h5 hm
theorem cells_of_laid {P : Program} {w : World} {l : List (String × DataW Unit)} {n : String} {d : DataW Unit} {g : Nat} {t : TypeId} (hl : laidMetH P l w) (hh : (l.all fun x => x.2.handleName?.isNone) = true) (hm : (n, d) ∈ l)
    (hg : P.globalNamed n = some g) (ht : (P.globals[g]?).map (·.type) = some t) (fuel : Nat) (hp : plainB P fuel t = true) : g < w.heap.size ∧ ∀ i, w.cell? ⟨g, i, none⟩ = (flat fuel d)[i]? := by
  rw [MakeChecks.laidMetH_plain _ _ _ hh] at hl
  obtain ⟨ps, hv, _, _⟩ := hl
  obtain ⟨g', t', cs, m, p, h1, h2, h3, h4⟩ := laid_mem hv hm
  obtain rfl := Option.some.inj (hg.symm.trans h1)
  obtain rfl := Option.some.inj (ht.symm.trans h2)
  have hc := cells_of fuel t m _ _ hp h4
  refine ⟨?_, fun i => ?_⟩
  · unfold World.var? at h3
    rw [h1] at h3
    simp only [Option.bind_some] at h3
    cases hh : w.heap[g]? with
    | none => rw [hh] at h3; cases h3
    | some o => exact (Array.getElem?_eq_some_iff.1 hh).1
  · rw [World.var?_cell h1 h3 i, ← hc]
    simp
end Go.Proofs.YteebidljiemegaaDoor.Tables
namespace Go.Proofs.YteebidljiemegaaDoor
structure Nd where
  K : Int
  N : Int
  M : Int
  S : ByteArray
  T : ByteArray
  Kids : List Int
def kidsAt (ns : List Nd) (p : Nat) : List Int := ((ns[p]?).map Nd.Kids).getD []
inductive Seg (ns : List Nd) : Nat → Nat → List Int → Prop
  | nil (a : Nat) : Seg ns a a []
  | snoc {a c p : Nat} {ks : List Int} : Seg ns a c ks → Seg ns c p (kidsAt ns p) → Seg ns a (p + 1) (ks ++ [(p : Int)])
theorem Seg.le {ns : List Nd} {a b : Nat} {ks : List Int} (h : Seg ns a b ks) : a ≤ b := by
  induction h with
  | nil a => exact Nat.le_refl _
  | snoc _ _ h1 h2 => omega
theorem Seg.inv {ns : List Nd} {a b : Nat} {ks : List Int} {x : Int} (h : Seg ns a b (ks ++ [x])) : ∃ p c, b = p + 1 ∧ x = (p : Int) ∧ Seg ns a c ks ∧ Seg ns c p (kidsAt ns p) := by
  generalize e : ks ++ [x] = l at h
  cases h with
  | nil a => simp at e
  | @snoc _ c p ks' h1 h2 =>
    obtain ⟨e1, e2⟩ := List.append_inj' e rfl
    subst e1
    simp at e2
    exact ⟨p, c, rfl, e2, h1, h2⟩
theorem Seg.split {ns : List Nd} {a c : Nat} {A : List Int} : ∀ (B : List Int) {b : Nat}, b = c → Seg ns a c (A ++ B.reverse) → ∃ m, Seg ns a m A ∧ Seg ns m c B.reverse := by
  intro B
  induction B generalizing c with
  | nil => intro b _ h; exact ⟨c, by simpa using h, Seg.nil c⟩
  | cons x B ih =>
    intro b _ h
    rw [List.reverse_cons, ← List.append_assoc] at h
    obtain ⟨p, c', rfl, rfl, h1, h2⟩ := h.inv
    obtain ⟨m, h3, h4⟩ := ih (b := c') rfl h1
    refine ⟨m, h3, ?_⟩
    rw [List.reverse_cons]
    exact Seg.snoc h4 h2
theorem Seg.split' {ns : List Nd} {a c : Nat} {A B : List Int} (h : Seg ns a c (A ++ B)) : ∃ m, Seg ns a m A ∧ Seg ns m c B := by
  have := Seg.split (ns := ns) (a := a) (c := c) (A := A) B.reverse rfl (by simpa using h)
  simpa using this
theorem Seg.push {ns : List Nd} {k : Nat} {L : List Int} (h : Seg ns 0 k L) (_ : (kidsAt ns k).length ≤ L.length) (hd : L.drop (L.length - (kidsAt ns k).length) = kidsAt ns k) :
    Seg ns 0 (k + 1) (L.take (L.length - (kidsAt ns k).length) ++ [(k : Int)]) := by
  rw [← List.take_append_drop (L.length - (kidsAt ns k).length) L, hd] at h
  obtain ⟨m, h1, h2⟩ := h.split'
  exact Seg.snoc h1 h2
end Go.Proofs.YteebidljiemegaaDoor
