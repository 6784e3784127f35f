import Derived.OpenVars
import Derived.OpenShut
import Derived.ProofKit
import Derived.LaidMore
import Derived.Lib.LaidTab
import Derived.Laws.Strings
import Derived.Test.YtnchcndcinpalaaGreatDoorProg
import Derived.WalkKit
import Derived.WalkLawsBesides
namespace Go.Proofs.YtnchcndcinpalaaGreatDoor.Frame
open Go.ChangeShapes Go.WideShapes Go.ChangeAt Go.RowKit
theorem trodAll_below {H : Type} {enc : TypeId × Value → H} {P : Program} (hl : laidOutB P = true) {W W' : World} (hb : Below W.heap.size W W') :
    ∀ {ts : List TypeId} {vs : List Value} {ds : List (DataW H)} {ps : List MemPlace}, (ts.all fun t => P.readableRec t && decide (t < P.types.size)) = true →
      (∀ x ∈ ps, x.block < W.heap.size) → DataW.TrodAll enc P W 0 (fun _ => true) true ts vs ds ps → DataW.TrodAll enc P W' 0 (fun b => decide (b < W.heap.size)) true ts vs ds ps
  | [], [], [], _, _, _, h => h
  | [], [], _ :: _, _, _, _, h => h.elim
  | [], _ :: _, _, _, _, _, h => h.elim
  | _ :: _, [], _, _, _, _, h => h.elim
  | _ :: _, _ :: _, [], _, _, _, h => h.elim
  | t :: ts, v :: vs, d :: ds, ps, ht, hlt, h => by
    obtain ⟨p, q, h1, h2, rfl⟩ := h
    simp only [List.all_cons, Bool.and_eq_true, decide_eq_true_eq] at ht
    exact ⟨p, q, Below.trod hl ht.1.1 ht.1.2 h1 hb (fun x hx => hlt x (by simp [hx])), trodAll_below hl hb (by simpa using ht.2) (fun x hx => hlt x (by simp [hx])) h2, rfl⟩
theorem law_post {H : Type} {enc : TypeId × Value → H} {P : Program} {f : Func} {s : ChangeSpec} (hl : laidOutB P = true)
    (hp : (f.params.toList.all fun t => P.readableRec t && decide (t < P.types.size)) = true) (hv : varsRowed P s.vars = true) {tb : TypeId} (hr : f.resultTypes = #[tb]) (htb : P.underlying tb = some .bool)
    {W W' : World} {args : Array Value} {ds gs : List (DataW H)} {before : List MemPlace}
    (hW : DataW.Whole enc P f.params.toList s.vars false W args.toList ds gs before)
    (hfn : s.fn H (ds ++ gs) = { results := [.lit (.bool true)], args := ds, vars := gs })
    (hb : Below W.heap.size W W') : s.post enc P f false true false false W args (.bool true) W' := by
  have hlt := hW.lt
  have hW0 := hW
  obtain ⟨p, q, hA, hV, rfl, hfz, hnd⟩ := hW
  refine ⟨ds, gs, p ++ q, [], p, q, hW0, ?_, ?_, ?_, hb.frame _, fun h => by cases h⟩
  · rw [hfn, hr]
    exact trodAll_mk1 (shut_bool htb true)
  · rw [hfn]
    exact trodAll_below hl hb hp (fun x hx => hlt x (by simp [hx])) hA
  · rw [hfn]
    exact Below.trodVars hl hb hv hV
theorem trodVars_length {H : Type} {enc : TypeId × Value → H} {P : Program} {W : World} {sp : Nat → Bool} : ∀ {ns : List String} {gs : List (DataW H)} {ps : List MemPlace}, DataW.TrodVars enc P W sp ns gs ps → gs.length = ns.length
  | [], [], _, _ => rfl
  | [], _ :: _, _, h => h.elim
  | _ :: _, [], _, h => h.elim
  | n :: ns, d :: ds, ps, h => by
    obtain ⟨g, t, cs, fuel, p, q, h1, h2, h3, h4, hs, e⟩ := h
    simp [trodVars_length hs]
theorem len5 {α : Type} : ∀ {l : List α}, l.length = 5 → ∃ a0 a1 a2 a3 a4, l = [a0, a1, a2, a3, a4]
  | [a0, a1, a2, a3, a4], _ => ⟨a0, a1, a2, a3, a4, rfl⟩
end Go.Proofs.YtnchcndcinpalaaGreatDoor.Frame
namespace Go.Proofs.YtnchcndcinpalaaGreatDoor.Tables
open Go
def contig (P : Program) : List (Nat × TypeId) → Nat → Nat → Bool
  | [], o, e => o == e
  | (off, t) :: r, o, e => off == o && contig P r (o + P.cellsOf t) e
def plainB (P : Program) : Nat → TypeId → Bool
  | 0, _ => false
  | fuel + 1, t => match P.underlying t with
    | some .bool => true
    | some (.int _) => true
    | some .string => true
    | some (.struct fs) => contig P (fs.toList.map fun f => (f.offset, f.type)) 0 (P.cellsOf t) && fs.toList.all fun f => plainB P fuel f.type
    | some (.array n e) => contig P ((List.range n).map fun i => (i * P.cellsOf e, e)) 0 (P.cellsOf t) && plainB P fuel e
    | _ => false
def flat {H : Type} : Nat → DataW H → List Value
  | 0, _ => []
  | _ + 1, .lit (.bool b) => [.bool b]
  | _ + 1, .lit (.int k n) => [.int k n]
  | _ + 1, .lit (.string s) => [.string ⟨s.toArray⟩]
  | f + 1, .agg ds => ds.flatMap (flat f)
  | _ + 1, _ => []
theorem pieces {H : Type} {P : Program} {F : TypeId → List Value → Option (DataW H × List MemPlace)} {g : DataW H → List Value} (cs : List Value) :
    ∀ (L : List (Nat × TypeId)) (o e : Nat) (xs : List (DataW H × List MemPlace)), contig P L o e = true →
      (∀ x ∈ L, ∀ c y, F x.2 c = some y → c = g y.1) → xs.length = L.length →
      (∀ (i : Nat) (x : Nat × TypeId), L[i]? = some x → F x.2 ((cs.drop x.1).take (P.cellsOf x.2)) = xs[i]?) → (cs.drop o).take (e - o) = (xs.map (·.1)).flatMap g ∧ o ≤ e
  | [], o, e, xs, hc, _, hl, _ => by
    simp only [contig, beq_iff_eq] at hc
    subst hc
    obtain rfl : xs = [] := List.eq_nil_of_length_eq_zero hl
    simp
  | (off, t) :: r, o, e, [], hc, hF, hl, h => by simp at hl
  | (off, t) :: r, o, e, y :: ys, hc, hF, hl, h => by
    simp only [contig, Bool.and_eq_true, beq_iff_eq] at hc
    obtain ⟨rfl, hc⟩ := hc
    have h1 := hF (off, t) (by simp) _ y (h 0 (off, t) rfl)
    obtain ⟨h2, h3⟩ := pieces cs r _ e ys hc (fun x hx => hF x (by simp [hx])) (by simpa using hl) (fun i x hx => by simpa using h (i + 1) x (by simpa using hx))
    refine ⟨?_, by omega⟩
    simp only [List.map_cons, List.flatMap_cons]
    rw [← h1, ← h2, show e - off = P.cellsOf t + (e - (off + P.cellsOf t)) from by omega, List.take_add, List.drop_drop]
theorem cells_of {H : Type} {enc : TypeId × Value → H} {P : Program} {w : World} {base : Nat} {sp : Nat → Bool} {held : Bool} :
    ∀ (fuel : Nat) (t : TypeId) (m : Nat) (cs : List Value) (x : DataW H × List MemPlace), plainB P fuel t = true → DataW.trod enc P w base sp held m t cs = some x → cs = flat fuel x.1
  | 0, _, _, _, _, h, _ => by simp [plainB] at h
  | fuel + 1, t, m, cs, x, hp, h => by
    unfold plainB at hp
    split at hp
    · rename_i ht
      obtain ⟨b, rfl, rfl⟩ := DataW.trod_bool ht h
      rfl
    · rename_i k ht
      obtain ⟨n, rfl, rfl, _⟩ := DataW.trod_int ht h
      rfl
    · rename_i ht
      obtain ⟨s, rfl, rfl, _⟩ := DataW.trod_string ht h
      rfl
    · rename_i fs ht
      simp only [Bool.and_eq_true] at hp
      obtain ⟨xs, n, _, rfl, hl, hn, hx⟩ := DataW.trod_struct ht h
      have := pieces (P := P) (F := fun t c => DataW.trod enc P w base sp held n t c) (g := flat fuel) cs (fs.toList.map fun f => (f.offset, f.type)) 0 _ xs hp.1
        (fun y hy c z hz => by
          obtain ⟨f, hf, rfl⟩ := List.mem_map.1 hy
          exact cells_of fuel _ _ _ _ (List.all_eq_true.1 hp.2 f hf) hz)
        (by simpa using hn)
        (fun i y hy => by
          rw [List.getElem?_map, Option.map_eq_some_iff] at hy
          obtain ⟨f, hf, rfl⟩ := hy
          exact hx i f (by simpa using hf))
      simp only [List.drop_zero, Nat.sub_zero] at this
      rw [← hl, List.take_length] at this
      simpa [flat] using this.1
    · rename_i n e ht
      simp only [Bool.and_eq_true] at hp
      obtain ⟨xs, m', _, rfl, hl, hn, hx⟩ := DataW.trod_array ht h
      have := pieces (P := P) (F := fun t c => DataW.trod enc P w base sp held m' t c) (g := flat fuel) cs ((List.range n).map fun i => (i * P.cellsOf e, e)) 0 _ xs hp.1
        (fun y hy c z hz => by
          obtain ⟨f, hf, rfl⟩ := List.mem_map.1 hy
          exact cells_of fuel _ _ _ _ hp.2 hz)
        (by simpa using hn)
        (fun i y hy => by
          rw [List.getElem?_map, Option.map_eq_some_iff] at hy
          obtain ⟨f, hf, rfl⟩ := hy
          obtain ⟨hi, rfl⟩ := List.getElem?_eq_some_iff.1 hf
          have hi' : i < n := by simpa using hi
          simpa using hx i hi')
      simp only [List.drop_zero, Nat.sub_zero] at this
      rw [← hl, List.take_length] at this
      simpa [flat] using this.1
    · cases hp
theorem laid_mem {P : Program} {w : World} {n : String} {d : DataW Unit} : ∀ {l : List (String × DataW Unit)} {ps : List MemPlace}, DataW.LaidVars P w l ps → (n, d) ∈ l →
    ∃ g t cs fuel p, P.globalNamed n = some g ∧ (P.globals[g]?).map (·.type) = some t ∧ w.var? P n = some cs ∧ DataW.trod (fun _ => ()) P w 0 (fun _ => true) false fuel t cs.toList = some (d, p)
  | [], _, _, h => by cases h
  | (n', d') :: l, ps, h, hm => by
    obtain ⟨g, t, cs, fuel, p, q, h1, h2, h3, h4, h5, _⟩ := h
    cases hm with
    | head => exact ⟨g, t, cs, fuel, p, h1, h2, h3, h4⟩
    | tail _ hm => exact laid_mem h5 hm
theorem cells_of_laid {P : Program} {w : World} {l : List (String × DataW Unit)} {n : String} {d : DataW Unit} {g : Nat} {t : TypeId} (hl : laidMetH P l w) (hh : (l.all fun x => x.2.handleName?.isNone) = true) (hm : (n, d) ∈ l)
    (hg : P.globalNamed n = some g) (ht : (P.globals[g]?).map (·.type) = some t) (fuel : Nat) (hp : plainB P fuel t = true) : g < w.heap.size ∧ ∀ i, w.cell? ⟨g, i, none⟩ = (flat fuel d)[i]? := by
  rw [MakeChecks.laidMetH_plain _ _ _ hh] at hl
  obtain ⟨ps, hv, _, _⟩ := hl
  obtain ⟨g', t', cs, m, p, h1, h2, h3, h4⟩ := laid_mem hv hm
  obtain rfl := Option.some.inj (hg.symm.trans h1)
  obtain rfl := Option.some.inj (ht.symm.trans h2)
  have hc := cells_of fuel t m _ _ hp h4
  refine ⟨?_, fun i => ?_⟩
  · unfold World.var? at h3
    rw [h1] at h3
    simp only [Option.bind_some] at h3
    cases hh : w.heap[g]? with
    | none => rw [hh] at h3; cases h3
    | some o => exact (Array.getElem?_eq_some_iff.1 hh).1
  · rw [World.var?_cell h1 h3 i, ← hc]
    simp
end Go.Proofs.YtnchcndcinpalaaGreatDoor.Tables
namespace Go.Proofs.YtnchcndcinpalaaGreatDoor
structure Nd where
  K : Int
  N : Int
  M : Int
  S : ByteArray
  T : ByteArray
  Kids : List Int
def kidsAt (ns : List Nd) (p : Nat) : List Int := ((ns[p]?).map Nd.Kids).getD []
inductive Seg (ns : List Nd) : Nat → Nat → List Int → Prop
  | nil (a : Nat) : Seg ns a a []
  | snoc {a c p : Nat} {ks : List Int} : Seg ns a c ks → Seg ns c p (kidsAt ns p) → Seg ns a (p + 1) (ks ++ [(p : Int)])
theorem Seg.le {ns : List Nd} {a b : Nat} {ks : List Int} (h : Seg ns a b ks) : a ≤ b := by
  induction h with
  | nil a => exact Nat.le_refl _
  | snoc _ _ h1 h2 => omega
theorem Seg.inv {ns : List Nd} {a b : Nat} {ks : List Int} {x : Int} (h : Seg ns a b (ks ++ [x])) : ∃ p c, b = p + 1 ∧ x = (p : Int) ∧ Seg ns a c ks ∧ Seg ns c p (kidsAt ns p) := by
  generalize e : ks ++ [x] = l at h
  cases h with
  | nil a => simp at e
  | @snoc _ c p ks' h1 h2 =>
    obtain ⟨e1, e2⟩ := List.append_inj' e rfl
    subst e1
    simp at e2
    exact ⟨p, c, rfl, e2, h1, h2⟩
theorem Seg.nil_inv {ns : List Nd} {a b : Nat} (h : Seg ns a b []) : a = b := by
  generalize e : ([] : List Int) = l at h
  cases h with
  | nil a => rfl
  | snoc h1 h2 => simp at e
theorem Seg.uniqL {ns : List Nd} {a b : Nat} {ks : List Int} (h : Seg ns a b ks) : ∀ a', Seg ns a' b ks → a' = a := by
  induction h with
  | nil a => intro a' h'; exact h'.nil_inv
  | @snoc a c p ks h1 h2 i1 i2 =>
    intro a' h'
    obtain ⟨p', c', e1, e2, h3, h4⟩ := h'.inv
    obtain rfl : p' = p := by omega
    obtain rfl := i2 _ h4
    exact i1 _ h3
theorem Seg.join {ns : List Nd} {a b c : Nat} {A B : List Int} (h : Seg ns a b A) (h' : Seg ns b c B) : Seg ns a c (A ++ B) := by
  induction h' with
  | nil a => simpa using h
  | snoc h1 h2 i1 i2 =>
    rw [← List.append_assoc]
    exact Seg.snoc (i1 h) h2
theorem Seg.one {ns : List Nd} {c p : Nat} (h : Seg ns c p (kidsAt ns p)) : Seg ns c (p + 1) [(p : Int)] := by
  have := Seg.snoc (Seg.nil c) h
  simpa using this
theorem Seg.split {ns : List Nd} {a c : Nat} {A : List Int} : ∀ (B : List Int) {b : Nat}, b = c → Seg ns a c (A ++ B.reverse) → ∃ m, Seg ns a m A ∧ Seg ns m c B.reverse := by
  intro B
  induction B generalizing c with
  | nil => intro b _ h; exact ⟨c, by simpa using h, Seg.nil c⟩
  | cons x B ih =>
    intro b _ h
    rw [List.reverse_cons, ← List.append_assoc] at h
    obtain ⟨p, c', rfl, rfl, h1, h2⟩ := h.inv
    obtain ⟨m, h3, h4⟩ := ih (b := c') rfl h1
    refine ⟨m, h3, ?_⟩
    rw [List.reverse_cons]
    exact Seg.snoc h4 h2
theorem Seg.split' {ns : List Nd} {a c : Nat} {A B : List Int} (h : Seg ns a c (A ++ B)) : ∃ m, Seg ns a m A ∧ Seg ns m c B := by
  have := Seg.split (ns := ns) (a := a) (c := c) (A := A) B.reverse rfl (by simpa using h)
  simpa using this
theorem Seg.push {ns : List Nd} {k : Nat} {L : List Int} (h : Seg ns 0 k L) (_ : (kidsAt ns k).length ≤ L.length) (hd : L.drop (L.length - (kidsAt ns k).length) = kidsAt ns k) :
    Seg ns 0 (k + 1) (L.take (L.length - (kidsAt ns k).length) ++ [(k : Int)]) := by
  rw [← List.take_append_drop (L.length - (kidsAt ns k).length) L, hd] at h
  obtain ⟨m, h1, h2⟩ := h.split'
  exact Seg.snoc h1 h2
theorem Seg.last {ns : List Nd} {k : Nat} {L : List Int} (h : Seg ns 0 (k + 1) L) : ∃ A, L = A ++ [(k : Int)] := by
  generalize e : k + 1 = b at h
  cases h with
  | nil => omega
  | @snoc _ c p ks h1 h2 =>
    obtain rfl : k = p := by omega
    exact ⟨_, rfl⟩
theorem Seg.kid {ns : List Nd} {a b : Nat} {ks : List Int} (h : Seg ns a b ks) : ∀ x ∈ ks, ∃ p : Nat, x = (p : Int) ∧ a ≤ p ∧ p < b := by
  induction h with
  | nil a => intro x hx; simp at hx
  | @snoc a c p ks h1 h2 i1 i2 =>
    intro x hx
    have := h1.le
    have := h2.le
    rcases List.mem_append.1 hx with h | h
    · obtain ⟨q, e, h3, h4⟩ := i1 x h
      exact ⟨q, e, h3, by omega⟩
    · simp at h
      exact ⟨p, h, by omega, by omega⟩
end Go.Proofs.YtnchcndcinpalaaGreatDoor
namespace Go.Proofs.YtnchcndcinpalaaGreatDoor
noncomputable def dB (p : Prop) : Bool := @decide p (Classical.propDecidable p)
theorem dB_true {p : Prop} (h : p) : dB p = true := by unfold dB; exact @decide_eq_true p (Classical.propDecidable p) h
theorem dB_false {p : Prop} (h : ¬ p) : dB p = false := by unfold dB; exact @decide_eq_false p (Classical.propDecidable p) h
theorem dB_iff {p : Prop} : dB p = true ↔ p := ⟨fun h => Classical.byContradiction fun hn => (by rw [dB_false hn] at h; cases h), dB_true⟩
theorem dB_congr {p q : Prop} (h : p ↔ q) : dB p = dB q := by rw [propext h]
def letter (c : Int) : Bool := (decide (65 ≤ c) && decide (c ≤ 90)) || (decide (97 ≤ c) && decide (c ≤ 122))
def digit (c : Int) : Bool := decide (48 ≤ c) && decide (c ≤ 57)
def part (c : Int) : Bool := letter c || digit c || decide (c = 95)
def byt (s : ByteArray) (i : Nat) : Int := ((s.toList.getD i 0).toNat : Int)
def kws : List (List UInt8) := [[83, 69, 76, 69, 67, 84], [68, 73, 83, 84, 73, 78, 67, 84], [70, 82, 79, 77], [87, 72, 69, 82, 69], [85, 78, 73, 79, 78], [65, 76, 76], [65, 78, 89], [65, 78, 68], [79, 82], [78, 79, 84], [69, 88, 73, 83, 84, 83], [73, 78], [73, 83], [78, 85, 76, 76], [67, 79, 85, 78, 84], [77, 73, 78], [77, 65, 88]]
def WordB (s : ByteArray) : Prop := 0 < s.size ∧ letter (byt s 0) = true ∧ ∀ i, i < s.size → part (byt s i) = true
def NameB (s : ByteArray) : Prop := WordB s ∧ s.size ≤ 64 ∧ s.toList ∉ kws
def scB (k : Int) : Bool := decide (1 ≤ k) && decide (k ≤ 4)
def quB (k : Int) : Bool := decide (k = 6) || decide (k = 7)
def ltr (k : Int) : UInt8 := if scB k then 115 else if k = 5 then 102 else if quB k then 113 else 99
def only (l : List UInt8) (c : UInt8) (least : Nat) : Prop := (∀ x ∈ l, x = c) ∧ least ≤ l.length
def cutS (r : List UInt8) : List UInt8 := if r.getLast? = some 99 then r.dropLast else r
def BlkS (l : List UInt8) (n : Int) : Prop := 0 ≤ n ∧ n ≤ l.length ∧ only (l.take n.toNat) 115 0 ∧ only (cutS (l.drop n.toNat)) 102 1
def shortB (n : Int) : Bool := decide (-1000000000000000000 < n) && decide (n < 1000000000000000000)
def FitS (n : Nd) (ks : List Int) : Prop :=
  let l := ks.map ltr
  ((n.S.toList ≠ []) ↔ (n.K = 3 ∨ n.K = 5)) ∧ ((n.T.toList ≠ []) ↔ n.K = 5) ∧
  (n.K = 1 ∨ n.K = 3 ∨ n.K = 4 ∨ n.K = 6 ∨ n.K = 12 ∨ n.N = 0) ∧ (n.K = 4 ∨ n.K = 6 ∨ n.K = 8 ∨ n.K = 9 ∨ n.K = 11 ∨ n.K = 12 ∨ n.M = 0) ∧
  (if n.K = 1 then l = [] ∧ shortB n.N = true
   else if n.K = 2 then l = []
   else if n.K = 3 then l = [] ∧ NameB n.S ∧ 0 ≤ n.N ∧ shortB n.N = true
   else if n.K = 5 then l = [] ∧ NameB n.S ∧ NameB n.T
   else if n.K = 4 then 1 ≤ n.M ∧ n.M ≤ 4 ∧ (n.N = 1 ↔ 1 < n.M) ∧ (n.N = 0 ↔ n.M = 1) ∧ BlkS l n.N
   else if n.K = 6 then (n.M = 0 ∨ n.M = 1) ∧ 1 ≤ n.N ∧ BlkS l n.N
   else if n.K = 7 then (∀ x ∈ ks, x = 6) ∧ 2 ≤ ks.length
   else if n.K = 8 then (1 ≤ n.M ∧ n.M ≤ 6) ∧ l = [115, 115]
   else if n.K = 9 then (n.M = 0 ∨ n.M = 1) ∧ l = [115]
   else if n.K = 10 then l = [113]
   else if n.K = 11 then (n.M = 0 ∨ n.M = 1) ∧ l = [115, 113]
   else if n.K = 12 then (1 ≤ n.M ∧ n.M ≤ 6) ∧ (n.N = 1 ∨ n.N = 2) ∧ l = [115, 113]
   else if n.K = 13 then l = [99]
   else (n.K = 14 ∨ n.K = 15) ∧ only l 99 2)
theorem size_toList (s : ByteArray) : s.toList.length = s.size := by
  cases s
  rw [Go.ByteArray.toList_eq]
  simp [ByteArray.size]
theorem Seg.len {ns : List Nd} {a b : Nat} {ks : List Int} (h : Seg ns a b ks) : ks.length + a ≤ b := by
  induction h with
  | nil a => simp
  | snoc h1 h2 i1 i2 => have := h2.le; simp; omega
theorem Seg.each {ns : List Nd} {a b : Nat} {ks : List Int} (h : Seg ns a b ks) : ∀ j, a ≤ j → j < b → ∃ c, Seg ns c j (kidsAt ns j) := by
  induction h with
  | nil a => intro j h1 h2; omega
  | @snoc a c p ks h1 h2 i1 i2 =>
    intro j e1 e2
    by_cases hc : j < c
    · exact i1 j e1 hc
    · by_cases hp : j = p
      · subst hp; exact ⟨c, h2⟩
      · exact i2 j (by omega) (by omega)
theorem FitS.range {n : Nd} {ks : List Int} (h : FitS n ks) : 1 ≤ n.K ∧ n.K ≤ 15 := by
  by_cases hK : 1 ≤ n.K ∧ n.K ≤ 15
  · exact hK
  · have := h.2.2.2.2
    rw [if_neg (by omega), if_neg (by omega), if_neg (by omega), if_neg (by omega), if_neg (by omega), if_neg (by omega), if_neg (by omega), if_neg (by omega), if_neg (by omega), if_neg (by omega), if_neg (by omega), if_neg (by omega), if_neg (by omega)] at this
    omega
end Go.Proofs.YtnchcndcinpalaaGreatDoor
namespace Go.Proofs.YtnchcndcinpalaaGreatDoor
open Go Go.RowKit
theorem bA {w w1 : World} (h : Below w.heap.size w w1) (o : Obj) : Below w.heap.size w (w1.alloc o) := h.alloc h.size o
structure TabAt (w : World) (g : Nat) (l : List Value) : Prop where
  size : g < w.heap.size
  cell : ∀ i, w.cell? ⟨g, i, none⟩ = l[i]?
theorem TabAt.of {w w1 : World} {g : Nat} {l : List Value} (h : TabAt w g l) (hb : Below w.heap.size w w1) : TabAt w1 g l :=
  ⟨Nat.lt_of_lt_of_le h.size hb.size, fun i => (hb.cell (p := ⟨g, i, none⟩) h.size).trans (h.cell i)⟩
theorem TabAt.alloc {w : World} {g : Nat} {l : List Value} (h : TabAt w g l) (o : Obj) : TabAt (w.alloc o) g l := h.of (bA (Below.refl _ _) _)
theorem bcell {W w1 : World} (hb : Below W.heap.size W w1) : (∀ b o, b < W.heap.size → w1.cell? ⟨b, o, none⟩ = W.cell? ⟨b, o, none⟩) ∧ (∀ b o, b < W.heap.size → w1.frozen? ⟨b, o, none⟩ = W.frozen? ⟨b, o, none⟩) :=
  ⟨fun b o h => hb.cell (p := ⟨b, o, none⟩) h, fun b o h => hb.frozen (p := ⟨b, o, none⟩) h⟩
abbrev Std (w0 w : World) : Prop := (∀ b o, b < w0.heap.size → w.cell? ⟨b, o, none⟩ = w0.cell? ⟨b, o, none⟩) ∧ (∀ b o, b < w0.heap.size → w.frozen? ⟨b, o, none⟩ = w0.frozen? ⟨b, o, none⟩) ∧ Below w0.heap.size w0 w
theorem Std.mk {w0 w : World} (h : Below w0.heap.size w0 w) : Std w0 w := ⟨(bcell h).1, (bcell h).2, h⟩
theorem Std.refl (w : World) : Std w w := Std.mk (Below.refl _ _)
theorem Std.drew {w0 w : World} (h : Std w0 w) : Std w0 w.drew := Std.mk h.2.2.drew
theorem Std.alloc {w0 w : World} (h : Std w0 w) (o : Obj) : Std w0 (w.alloc o) := Std.mk (bA h.2.2 o)
theorem Std.call {w0 w w1 : World} (h : Std w0 w) (hb : Below w.heap.size w w1) : Std w0 w1 := Std.mk (h.2.2.trans (hb.mono h.2.2.size))
theorem Std.setCell {w0 w : World} (h : Std w0 w) {p : Addr} (hp : w0.heap.size ≤ p.block) (u : Value) : Std w0 (w.setCell p u) := Std.mk (h.2.2.setCell hp u)
theorem Std.size {w0 w : World} (h : Std w0 w) : w0.heap.size ≤ w.heap.size := h.2.2.size
theorem bT {w w0 w1 : World} (h : Below w.heap.size w w0) (hb : Below w0.heap.size w0 w1) : Below w.heap.size w w1 := h.trans (hb.mono h.size)
theorem hide {p : Prop} (h : p) : Hid p := h
theorem unhide {p : Prop} (h : Hid p) : p := h
theorem wrap_small (n : Int) (h0 : -1000000000000000 ≤ n) (h1 : n ≤ 1000000000000000) : IntKind.i64.wrap n = n := by
  rw [IntKind.wrap_i64]; omega
structure Box (w : World) (B : Nat) (b : Bool) (n : Int) : Prop where
  size : B < w.heap.size
  c0 : w.cell? ⟨B, 0, none⟩ = some (.bool b)
  c1 : w.cell? ⟨B, 1, none⟩ = some (.int .i64 n)
theorem Box.of {w w1 : World} {B : Nat} {b : Bool} {n : Int} (h : Box w B b n) (hb : Below w.heap.size w w1) : Box w1 B b n :=
  ⟨Nat.lt_of_lt_of_le h.size hb.size, (hb.cell (p := ⟨B, 0, none⟩) h.size).trans h.c0, (hb.cell (p := ⟨B, 1, none⟩) h.size).trans h.c1⟩
end Go.Proofs.YtnchcndcinpalaaGreatDoor
namespace Go.Proofs.YtnchcndcinpalaaGreatDoor
open Go Go.RowKit
def IntsAt (w : World) (g off : Nat) (xs : List Int) : Prop := ∀ i x, xs[i]? = some x → w.cell? ⟨g, off + i, none⟩ = some (.int .i64 x)
def IsInts (w : World) (v : Value) (xs : List Int) : Prop :=
  (xs = [] ∧ ∃ a cap, v = .slice a 0 cap) ∨ ∃ g off cap, v = .slice (some ⟨g, off, none⟩) xs.length cap ∧ xs.length ≤ cap ∧ g < w.heap.size ∧ IntsAt w g off xs
theorem IntsAt.of {w w1 : World} {g off : Nat} {xs : List Int} (h : IntsAt w g off xs) (hg : g < w.heap.size) (hb : Below w.heap.size w w1) : IntsAt w1 g off xs := fun i x hx =>
  (hb.cell (p := ⟨g, off + i, none⟩) hg).trans (h i x hx)
theorem IsInts.of {w w1 : World} {v : Value} {xs : List Int} (h : IsInts w v xs) (hb : Below w.heap.size w w1) : IsInts w1 v xs := by
  rcases h with h | ⟨g, off, cap, h1, h2, h3, h4⟩
  · exact Or.inl h
  · exact Or.inr ⟨g, off, cap, h1, h2, Nat.lt_of_lt_of_le h3 hb.size, h4.of h3 hb⟩
theorem IntsAt.at {w : World} {g off : Nat} {xs : List Int} (h : IntsAt w g off xs) (i : Nat) (hi : i < xs.length) : w.cell? ⟨g, off + i, none⟩ = some (.int .i64 xs[i]) := h i xs[i] (by simp [hi])
structure OwnInts (w : World) (g n : Nat) (xs : List Int) : Prop where
  size : g < w.heap.size
  frz : ∀ o, w.frozen? ⟨g, o, none⟩ = false
  all : ∀ o, o < n → ∃ v, w.cell? ⟨g, o, none⟩ = some v
  held : IntsAt w g 0 xs
theorem OwnInts.of {w w1 : World} {g n : Nat} {xs : List Int} (h : OwnInts w g n xs) (hb : Below w.heap.size w w1) : OwnInts w1 g n xs :=
  ⟨Nat.lt_of_lt_of_le h.size hb.size, fun o => (hb.frozen (p := ⟨g, o, none⟩) h.size).trans (h.frz o), fun o ho => by
    obtain ⟨v, hv⟩ := h.all o ho
    exact ⟨v, (hb.cell (p := ⟨g, o, none⟩) h.size).trans hv⟩, h.held.of h.size hb⟩
theorem frozen_setCellN (w : World) (p a : Addr) (v : Value) : (w.setCell p v).frozen? a = w.frozen? a := by simp [go_sem]
theorem setCell_thereN {w : World} {g o o' : Nat} {v u : Value} (h : w.cell? ⟨g, o, none⟩ = some u) : ∃ z, (w.setCell ⟨g, o', none⟩ v).cell? ⟨g, o, none⟩ = some z := by
  by_cases e : o' = o
  · subst e; exact ⟨v, World.cell?_setCell_same _ _ _ h⟩
  · exact ⟨u, by rw [World.cell?_setCell_other _ _ _ _ (by intro he; injection he; contradiction)]; exact h⟩
theorem setCell_otherN {w : World} {g o o' : Nat} {v : Value} (h : o' ≠ o) : (w.setCell ⟨g, o', none⟩ v).cell? ⟨g, o, none⟩ = w.cell? ⟨g, o, none⟩ :=
  World.cell?_setCell_other _ _ _ _ (by intro he; injection he; contradiction)
theorem setCell_farN {w : World} {g o G O : Nat} {v : Value} (h : G ≠ g) : (w.setCell ⟨G, O, none⟩ v).cell? ⟨g, o, none⟩ = w.cell? ⟨g, o, none⟩ :=
  World.cell?_setCell_other _ _ _ _ (by intro he; injection he; contradiction)
theorem take_snocN {α : Type} (xs : List α) (k : Nat) (h : k < xs.length) : xs.take (k + 1) = xs.take k ++ [xs[k]] := by
  rw [List.take_succ_eq_append_getElem h]
theorem OwnInts.put {w : World} {g n k : Nat} {xs : List Int} (h : OwnInts w g n (xs.take k)) (hk : k < xs.length) (hn : k < n) : OwnInts (w.setCell ⟨g, k, none⟩ (.int .i64 xs[k])) g n (xs.take (k + 1)) := by
  refine ⟨by simpa using h.size, fun o => by rw [frozen_setCellN]; exact h.frz o, fun o ho => ?_, fun i x hx => ?_⟩
  · obtain ⟨v, hv⟩ := h.all o ho
    exact setCell_thereN hv
  · simp only [Nat.zero_add]
    rw [take_snocN xs k hk] at hx
    have hl : (xs.take k).length = k := by simp; omega
    by_cases hi : i < k
    · rw [List.getElem?_append_left (by omega)] at hx
      rw [setCell_otherN (by omega)]
      have := h.held i x hx
      simpa using this
    · obtain rfl : i = k := by
        have := (List.getElem?_eq_some_iff.1 hx).1
        simp at this; omega
      rw [List.getElem?_append_right (by omega)] at hx
      simp [hl] at hx
      subst hx
      obtain ⟨v0, h0⟩ := h.all i hn
      exact World.cell?_setCell_same _ _ _ h0
theorem OwnInts.made (w : World) (n : Nat) (C : Array Value) (t : TypeId) (hC : C.size = n) : OwnInts (w.alloc (.cells C t)) w.heap.size n [] :=
  ⟨by simp, fun o => by simp [go_sem], fun o ho => ⟨C[o]'(by omega), by rw [World.cell?_alloc_at C t _ o rfl]; simp⟩, fun i x hx => by simp at hx⟩
theorem OwnInts.far {w : World} {g n : Nat} {xs : List Int} (h : OwnInts w g n xs) {G O : Nat} (hne : G ≠ g) (v : Value) : OwnInts (w.setCell ⟨G, O, none⟩ v) g n xs :=
  ⟨by simpa using h.size, fun o => by rw [frozen_setCellN]; exact h.frz o, fun o ho => by rw [setCell_farN hne]; exact h.all o ho, fun i x hx => by rw [setCell_farN hne]; exact h.held i x hx⟩
structure Cells5 (w : World) (g o : Nat) (n : Nd) : Prop where
  c0 : w.cell? ⟨g, o, none⟩ = some (.int .i64 n.K)
  c1 : w.cell? ⟨g, o + 1, none⟩ = some (.int .i64 n.N)
  c2 : w.cell? ⟨g, o + 2, none⟩ = some (.int .i64 n.M)
  c3 : w.cell? ⟨g, o + 3, none⟩ = some (.string n.S)
  c4 : w.cell? ⟨g, o + 4, none⟩ = some (.string n.T)
theorem Cells5.of {w w1 : World} {g o : Nat} {n : Nd} (h : Cells5 w g o n) (hg : g < w.heap.size) (hb : Below w.heap.size w w1) : Cells5 w1 g o n :=
  ⟨(hb.cell (p := ⟨g, o, none⟩) hg).trans h.c0, (hb.cell (p := ⟨g, o + 1, none⟩) hg).trans h.c1, (hb.cell (p := ⟨g, o + 2, none⟩) hg).trans h.c2, (hb.cell (p := ⟨g, o + 3, none⟩) hg).trans h.c3, (hb.cell (p := ⟨g, o + 4, none⟩) hg).trans h.c4⟩
def IsNodes (w : World) (v : Value) (ns : List Nd) : Prop :=
  (ns = [] ∧ ∃ a cap, v = .slice a 0 cap) ∨ ∃ g off cap, v = .slice (some ⟨g, off, none⟩) ns.length cap ∧ g < w.heap.size ∧
    ∀ i n, ns[i]? = some n → Cells5 w g (off + i * 6) n ∧ ∃ u, w.cell? ⟨g, off + i * 6 + 5, none⟩ = some u ∧ IsInts w u n.Kids
theorem IsNodes.of {w w1 : World} {v : Value} {ns : List Nd} (h : IsNodes w v ns) (hb : Below w.heap.size w w1) : IsNodes w1 v ns := by
  rcases h with h | ⟨g, off, cap, h1, h2, h3⟩
  · exact Or.inl h
  · refine Or.inr ⟨g, off, cap, h1, Nat.lt_of_lt_of_le h2 hb.size, fun i n hn => ?_⟩
    obtain ⟨h4, u, hu, hr⟩ := h3 i n hn
    exact ⟨h4.of h2 hb, u, (hb.cell (p := ⟨g, off + i * 6 + 5, none⟩) h2).trans hu, hr.of hb⟩
def NodesAt (w : World) (g off : Nat) (ns : List Nd) : Prop := ∀ i n, ns[i]? = some n → Cells5 w g (off + i * 6) n ∧
  ∃ kg, w.cell? ⟨g, off + i * 6 + 5, none⟩ = some (.slice (some ⟨kg, 0, none⟩) n.Kids.length n.Kids.length) ∧ g < kg ∧ kg < w.heap.size ∧ IntsAt w kg 0 n.Kids
theorem NodesAt.of {w w1 : World} {g off : Nat} {ns : List Nd} (h : NodesAt w g off ns) (hg : g < w.heap.size) (hb : Below w.heap.size w w1) : NodesAt w1 g off ns := fun i n hn => by
  obtain ⟨h1, kg, h2, h3, h4, h5⟩ := h i n hn
  exact ⟨h1.of hg hb, kg, (hb.cell (p := ⟨g, off + i * 6 + 5, none⟩) hg).trans h2, h3, Nat.lt_of_lt_of_le h4 hb.size, h5.of h4 hb⟩
theorem NodesAt.at {w : World} {g off : Nat} {ns : List Nd} (h : NodesAt w g off ns) (i : Nat) (hi : i < ns.length) : Cells5 w g (off + i * 6) ns[i] ∧
  ∃ kg, w.cell? ⟨g, off + i * 6 + 5, none⟩ = some (.slice (some ⟨kg, 0, none⟩) ns[i].Kids.length ns[i].Kids.length) ∧ g < kg ∧ kg < w.heap.size ∧ IntsAt w kg 0 ns[i].Kids := h i ns[i] (by simp [hi])
structure OwnNodes (w : World) (g n : Nat) (ns : List Nd) : Prop where
  size : g < w.heap.size
  frz : ∀ o, w.frozen? ⟨g, o, none⟩ = false
  all : ∀ o, o < n * 6 → ∃ v, w.cell? ⟨g, o, none⟩ = some v
  held : NodesAt w g 0 ns
theorem OwnNodes.of {w w1 : World} {g n : Nat} {ns : List Nd} (h : OwnNodes w g n ns) (hb : Below w.heap.size w w1) : OwnNodes w1 g n ns :=
  ⟨Nat.lt_of_lt_of_le h.size hb.size, fun o => (hb.frozen (p := ⟨g, o, none⟩) h.size).trans (h.frz o), fun o ho => by
    obtain ⟨v, hv⟩ := h.all o ho
    exact ⟨v, (hb.cell (p := ⟨g, o, none⟩) h.size).trans hv⟩, h.held.of h.size hb⟩
theorem OwnNodes.made (w : World) (n : Nat) (C : Array Value) (t : TypeId) (hC : C.size = n * 6) : OwnNodes (w.alloc (.cells C t)) w.heap.size n [] :=
  ⟨by simp, fun o => by simp [go_sem], fun o ho => ⟨C[o]'(by omega), by rw [World.cell?_alloc_at C t _ o rfl]; simp⟩, fun i x hx => by simp at hx⟩
def putNode (w : World) (g o : Nat) (n : Nd) (kg : Nat) : World :=
  (((((w.setCell ⟨g, o, none⟩ (.int .i64 n.K)).setCell ⟨g, o + 1, none⟩ (.int .i64 n.N)).setCell ⟨g, o + 2, none⟩ (.int .i64 n.M)).setCell ⟨g, o + 3, none⟩ (.string n.S)).setCell ⟨g, o + 4, none⟩ (.string n.T)).setCell ⟨g, o + 5, none⟩ (.slice (some ⟨kg, 0, none⟩) n.Kids.length n.Kids.length)
theorem putNode_far {w : World} {g o : Nat} {n : Nd} {kg : Nat} {G O : Nat} (h : g ≠ G) : (putNode w g o n kg).cell? ⟨G, O, none⟩ = w.cell? ⟨G, O, none⟩ := by
  unfold putNode
  rw [setCell_farN h, setCell_farN h, setCell_farN h, setCell_farN h, setCell_farN h, setCell_farN h]
theorem putNode_else {w : World} {g o : Nat} {n : Nd} {kg : Nat} {O : Nat} (h : O < o ∨ o + 5 < O) : (putNode w g o n kg).cell? ⟨g, O, none⟩ = w.cell? ⟨g, O, none⟩ := by
  unfold putNode
  rw [setCell_otherN (by omega), setCell_otherN (by omega), setCell_otherN (by omega), setCell_otherN (by omega), setCell_otherN (by omega), setCell_otherN (by omega)]
theorem OwnNodes.put {w : World} {g n k : Nat} {ns : List Nd} (h : OwnNodes w g n (ns.take k)) (hk : k < ns.length) (hn : k < n) (kg : Nat) (h1 : g < kg) (h2 : kg < w.heap.size) (h3 : IntsAt w kg 0 ns[k].Kids) :
    OwnNodes (putNode w g (k * 6) ns[k] kg) g n (ns.take (k + 1)) := by
  have hsz : (putNode w g (k * 6) ns[k] kg).heap.size = w.heap.size := by simp [putNode]
  have hi6 : ∀ o, o < 6 → ∃ v, w.cell? ⟨g, k * 6 + o, none⟩ = some v := fun o ho => h.all _ (by omega)
  refine ⟨by rw [hsz]; exact h.size, fun o => by unfold putNode; simp only [frozen_setCellN]; exact h.frz o, fun o ho => ?_, fun i x hx => ?_⟩
  · obtain ⟨v, hv⟩ := h.all o ho
    unfold putNode
    obtain ⟨v, hv⟩ := setCell_thereN (o' := k * 6) (v := .int .i64 ns[k].K) hv
    obtain ⟨v, hv⟩ := setCell_thereN (o' := k * 6 + 1) (v := .int .i64 ns[k].N) hv
    obtain ⟨v, hv⟩ := setCell_thereN (o' := k * 6 + 2) (v := .int .i64 ns[k].M) hv
    obtain ⟨v, hv⟩ := setCell_thereN (o' := k * 6 + 3) (v := .string ns[k].S) hv
    obtain ⟨v, hv⟩ := setCell_thereN (o' := k * 6 + 4) (v := .string ns[k].T) hv
    exact setCell_thereN hv
  · rw [take_snocN ns k hk] at hx
    have hl : (ns.take k).length = k := by simp; omega
    by_cases hi : i < k
    · rw [List.getElem?_append_left (by omega)] at hx
      obtain ⟨⟨e0, e1, e2, e3, e4⟩, kg', e5, e6, e7, e8⟩ := h.held i x hx
      refine ⟨⟨?_, ?_, ?_, ?_, ?_⟩, kg', ?_, e6, by rw [hsz]; exact e7, fun j y hy => ?_⟩
      · rw [putNode_else (by omega)]; exact e0
      · rw [putNode_else (by omega)]; exact e1
      · rw [putNode_else (by omega)]; exact e2
      · rw [putNode_else (by omega)]; exact e3
      · rw [putNode_else (by omega)]; exact e4
      · rw [putNode_else (by omega)]; exact e5
      · rw [putNode_far (by omega)]; exact e8 j y hy
    · obtain rfl : i = k := by
        have := (List.getElem?_eq_some_iff.1 hx).1
        simp at this; omega
      rw [List.getElem?_append_right (by omega)] at hx
      simp [hl] at hx
      subst hx
      simp only [Nat.zero_add]
      obtain ⟨v0, c0⟩ := hi6 0 (by omega)
      obtain ⟨v1, c1⟩ := hi6 1 (by omega)
      obtain ⟨v2, c2⟩ := hi6 2 (by omega)
      obtain ⟨v3, c3⟩ := hi6 3 (by omega)
      obtain ⟨v4, c4⟩ := hi6 4 (by omega)
      obtain ⟨v5, c5⟩ := hi6 5 (by omega)
      refine ⟨⟨?_, ?_, ?_, ?_, ?_⟩, kg, ?_, h1, by rw [hsz]; exact h2, fun j y hy => ?_⟩
      · unfold putNode
        rw [setCell_otherN (by omega), setCell_otherN (by omega), setCell_otherN (by omega), setCell_otherN (by omega), setCell_otherN (by omega)]
        exact World.cell?_setCell_same _ _ _ c0
      · unfold putNode
        rw [setCell_otherN (by omega), setCell_otherN (by omega), setCell_otherN (by omega), setCell_otherN (by omega)]
        exact World.cell?_setCell_same _ _ _ (by rw [setCell_otherN (by omega)]; exact c1)
      · unfold putNode
        rw [setCell_otherN (by omega), setCell_otherN (by omega), setCell_otherN (by omega)]
        exact World.cell?_setCell_same _ _ _ (by rw [setCell_otherN (by omega), setCell_otherN (by omega)]; exact c2)
      · unfold putNode
        rw [setCell_otherN (by omega), setCell_otherN (by omega)]
        exact World.cell?_setCell_same _ _ _ (by rw [setCell_otherN (by omega), setCell_otherN (by omega), setCell_otherN (by omega)]; exact c3)
      · unfold putNode
        rw [setCell_otherN (by omega)]
        exact World.cell?_setCell_same _ _ _ (by rw [setCell_otherN (by omega), setCell_otherN (by omega), setCell_otherN (by omega), setCell_otherN (by omega)]; exact c4)
      · unfold putNode
        exact World.cell?_setCell_same _ _ _ (by rw [setCell_otherN (by omega), setCell_otherN (by omega), setCell_otherN (by omega), setCell_otherN (by omega), setCell_otherN (by omega)]; exact c5)
      · rw [putNode_far (by omega)]; exact h3 j y hy
end Go.Proofs.YtnchcndcinpalaaGreatDoor
