import Derived.OpenVars
import Derived.OpenShut
import Derived.ProofKit
import Derived.LaidMore
import Derived.Lib.LaidTab
namespace Go.Proofs.YtmcbmmpjhijagaaGreatDoor.Frame
open Go.ChangeShapes Go.WideShapes Go.ChangeAt Go.RowKit
theorem trodAll_below {H : Type} {enc : TypeId × Value → H} {P : Program} (hl : laidOutB P = true) {W W' : World} (hb : Below W.heap.size W W') :
    ∀ {ts : List TypeId} {vs : List Value} {ds : List (DataW H)} {ps : List MemPlace}, (ts.all fun t => P.readableRec t && decide (t < P.types.size)) = true →
      (∀ x ∈ ps, x.block < W.heap.size) → DataW.TrodAll enc P W 0 (fun _ => true) true ts vs ds ps → DataW.TrodAll enc P W' 0 (fun b => decide (b < W.heap.size)) true ts vs ds ps
  | [], [], [], _, _, _, h => h
  | [], [], _ :: _, _, _, _, h => h.elim
  | [], _ :: _, _, _, _, _, h => h.elim
  | _ :: _, [], _, _, _, _, h => h.elim
  | _ :: _, _ :: _, [], _, _, _, h => h.elim
  | t :: ts, v :: vs, d :: ds, ps, ht, hlt, h => by
    obtain ⟨p, q, h1, h2, rfl⟩ := h
    simp only [List.all_cons, Bool.and_eq_true, decide_eq_true_eq] at ht
    exact ⟨p, q, Below.trod hl ht.1.1 ht.1.2 h1 hb (fun x hx => hlt x (by simp [hx])), trodAll_below hl hb (by simpa using ht.2) (fun x hx => hlt x (by simp [hx])) h2, rfl⟩
theorem law_post {H : Type} {enc : TypeId × Value → H} {P : Program} {f : Func} {s : ChangeSpec} (hl : laidOutB P = true)
    (hp : (f.params.toList.all fun t => P.readableRec t && decide (t < P.types.size)) = true) (hv : varsRowed P s.vars = true) {tb : TypeId} (hr : f.resultTypes = #[tb]) (htb : P.underlying tb = some .bool)
    {W W' : World} {args : Array Value} {ds gs : List (DataW H)} {before : List MemPlace}
    (hW : DataW.Whole enc P f.params.toList s.vars false W args.toList ds gs before)
    (hfn : s.fn H (ds ++ gs) = { results := [.lit (.bool true)], args := ds, vars := gs })
    (hb : Below W.heap.size W W') : s.post enc P f false true false false W args (.bool true) W' := by
  have hlt := hW.lt
  have hW0 := hW
  obtain ⟨p, q, hA, hV, rfl, hfz, hnd⟩ := hW
  refine ⟨ds, gs, p ++ q, [], p, q, hW0, ?_, ?_, ?_, hb.frame _, fun h => by cases h⟩
  · rw [hfn, hr]
    exact trodAll_mk1 (shut_bool htb true)
  · rw [hfn]
    exact trodAll_below hl hb hp (fun x hx => hlt x (by simp [hx])) hA
  · rw [hfn]
    exact Below.trodVars hl hb hv hV
theorem trodVars_length {H : Type} {enc : TypeId × Value → H} {P : Program} {W : World} {sp : Nat → Bool} : ∀ {ns : List String} {gs : List (DataW H)} {ps : List MemPlace}, DataW.TrodVars enc P W sp ns gs ps → gs.length = ns.length
  | [], [], _, _ => rfl
  | [], _ :: _, _, h => h.elim
  | _ :: _, [], _, h => h.elim
  | n :: ns, d :: ds, ps, h => by
    obtain ⟨g, t, cs, fuel, p, q, h1, h2, h3, h4, hs, e⟩ := h
    simp [trodVars_length hs]
theorem len4 {α : Type} : ∀ {l : List α}, l.length = 4 → ∃ a0 a1 a2 a3, l = [a0, a1, a2, a3]
  | [a0, a1, a2, a3], _ => ⟨a0, a1, a2, a3, rfl⟩
end Go.Proofs.YtmcbmmpjhijagaaGreatDoor.Frame
namespace Go.Proofs.YtmcbmmpjhijagaaGreatDoor.Tables
open Go
def contig (P : Program) : List (Nat × TypeId) → Nat → Nat → Bool
  | [], o, e => o == e
  | (off, t) :: r, o, e => off == o && contig P r (o + P.cellsOf t) e
def plainB (P : Program) : Nat → TypeId → Bool
  | 0, _ => false
  | fuel + 1, t => match P.underlying t with
    | some .bool => true
    | some (.int _) => true
    | some .string => true
    | some (.struct fs) => contig P (fs.toList.map fun f => (f.offset, f.type)) 0 (P.cellsOf t) && fs.toList.all fun f => plainB P fuel f.type
    | some (.array n e) => contig P ((List.range n).map fun i => (i * P.cellsOf e, e)) 0 (P.cellsOf t) && plainB P fuel e
    | _ => false
def flat {H : Type} : Nat → DataW H → List Value
  | 0, _ => []
  | _ + 1, .lit (.bool b) => [.bool b]
  | _ + 1, .lit (.int k n) => [.int k n]
  | _ + 1, .lit (.string s) => [.string ⟨s.toArray⟩]
  | f + 1, .agg ds => ds.flatMap (flat f)
  | _ + 1, _ => []
theorem pieces {H : Type} {P : Program} {F : TypeId → List Value → Option (DataW H × List MemPlace)} {g : DataW H → List Value} (cs : List Value) :
    ∀ (L : List (Nat × TypeId)) (o e : Nat) (xs : List (DataW H × List MemPlace)), contig P L o e = true →
      (∀ x ∈ L, ∀ c y, F x.2 c = some y → c = g y.1) → xs.length = L.length →
      (∀ (i : Nat) (x : Nat × TypeId), L[i]? = some x → F x.2 ((cs.drop x.1).take (P.cellsOf x.2)) = xs[i]?) → (cs.drop o).take (e - o) = (xs.map (·.1)).flatMap g ∧ o ≤ e
  | [], o, e, xs, hc, _, hl, _ => by
    simp only [contig, beq_iff_eq] at hc
    subst hc
    obtain rfl : xs = [] := List.eq_nil_of_length_eq_zero hl
    simp
  | (off, t) :: r, o, e, [], hc, hF, hl, h => by simp at hl
  | (off, t) :: r, o, e, y :: ys, hc, hF, hl, h => by
    simp only [contig, Bool.and_eq_true, beq_iff_eq] at hc
    obtain ⟨rfl, hc⟩ := hc
    have h1 := hF (off, t) (by simp) _ y (h 0 (off, t) rfl)
    obtain ⟨h2, h3⟩ := pieces cs r _ e ys hc (fun x hx => hF x (by simp [hx])) (by simpa using hl) (fun i x hx => by simpa using h (i + 1) x (by simpa using hx))
    refine ⟨?_, by omega⟩
    simp only [List.map_cons, List.flatMap_cons]
    rw [← h1, ← h2, show e - off = P.cellsOf t + (e - (off + P.cellsOf t)) from by omega, List.take_add, List.drop_drop]
theorem cells_of {H : Type} {enc : TypeId × Value → H} {P : Program} {w : World} {base : Nat} {sp : Nat → Bool} {held : Bool} :
    ∀ (fuel : Nat) (t : TypeId) (m : Nat) (cs : List Value) (x : DataW H × List MemPlace), plainB P fuel t = true → DataW.trod enc P w base sp held m t cs = some x → cs = flat fuel x.1
  | 0, _, _, _, _, h, _ => by simp [plainB] at h
  | fuel + 1, t, m, cs, x, hp, h => by
    unfold plainB at hp
    split at hp
    · rename_i ht
      obtain ⟨b, rfl, rfl⟩ := DataW.trod_bool ht h
      rfl
    · rename_i k ht
      obtain ⟨n, rfl, rfl, _⟩ := DataW.trod_int ht h
      rfl
    · rename_i ht
      obtain ⟨s, rfl, rfl, _⟩ := DataW.trod_string ht h
      rfl
    · rename_i fs ht
      simp only [Bool.and_eq_true] at hp
      obtain ⟨xs, n, _, rfl, hl, hn, hx⟩ := DataW.trod_struct ht h
      have := pieces (P := P) (F := fun t c => DataW.trod enc P w base sp held n t c) (g := flat fuel) cs (fs.toList.map fun f => (f.offset, f.type)) 0 _ xs hp.1
        (fun y hy c z hz => by
          obtain ⟨f, hf, rfl⟩ := List.mem_map.1 hy
          exact cells_of fuel _ _ _ _ (List.all_eq_true.1 hp.2 f hf) hz)
        (by simpa using hn)
        (fun i y hy => by
          rw [List.getElem?_map, Option.map_eq_some_iff] at hy
          obtain ⟨f, hf, rfl⟩ := hy
          exact hx i f (by simpa using hf))
      simp only [List.drop_zero, Nat.sub_zero] at this
      rw [← hl, List.take_length] at this
      simpa [flat] using this.1
    · rename_i n e ht
      simp only [Bool.and_eq_true] at hp
      obtain ⟨xs, m', _, rfl, hl, hn, hx⟩ := DataW.trod_array ht h
      have := pieces (P := P) (F := fun t c => DataW.trod enc P w base sp held m' t c) (g := flat fuel) cs ((List.range n).map fun i => (i * P.cellsOf e, e)) 0 _ xs hp.1
        (fun y hy c z hz => by
          obtain ⟨f, hf, rfl⟩ := List.mem_map.1 hy
          exact cells_of fuel _ _ _ _ hp.2 hz)
        (by simpa using hn)
        (fun i y hy => by
          rw [List.getElem?_map, Option.map_eq_some_iff] at hy
          obtain ⟨f, hf, rfl⟩ := hy
          obtain ⟨hi, rfl⟩ := List.getElem?_eq_some_iff.1 hf
          have hi' : i < n := by simpa using hi
          simpa using hx i hi')
      simp only [List.drop_zero, Nat.sub_zero] at this
      rw [← hl, List.take_length] at this
      simpa [flat] using this.1
    · cases hp
theorem laid_mem {P : Program} {w : World} {n : String} {d : DataW Unit} : ∀ {l : List (String × DataW Unit)} {ps : List MemPlace}, DataW.LaidVars P w l ps → (n, d) ∈ l →
    ∃ g t cs fuel p, P.globalNamed n = some g ∧ (P.globals[g]?).map (·.type) = some t ∧ w.var? P n = some cs ∧ DataW.trod (fun _ => ()) P w 0 (fun _ => true) false fuel t cs.toList = some (d, p)
  | [], _, _, h => by cases h
  | (n', d') :: l, ps, h, hm => by
    obtain ⟨g, t, cs, fuel, p, q, h1, h2, h3, h4, h5, _⟩ := h
    cases hm with
    | head => exact ⟨g, t, cs, fuel, p, h1, h2, h3, h4⟩
    | tail _ hm => exact laid_mem h5 hm
theorem cells_of_laid {P : Program} {w : World} {l : List (String × DataW Unit)} {n : String} {d : DataW Unit} {g : Nat} {t : TypeId} (hl : laidMetH P l w) (hh : (l.all fun x => x.2.handleName?.isNone) = true) (hm : (n, d) ∈ l)
    (hg : P.globalNamed n = some g) (ht : (P.globals[g]?).map (·.type) = some t) (fuel : Nat) (hp : plainB P fuel t = true) : g < w.heap.size ∧ ∀ i, w.cell? ⟨g, i, none⟩ = (flat fuel d)[i]? := by
  rw [MakeChecks.laidMetH_plain _ _ _ hh] at hl
  obtain ⟨ps, hv, _, _⟩ := hl
  obtain ⟨g', t', cs, m, p, h1, h2, h3, h4⟩ := laid_mem hv hm
  obtain rfl := Option.some.inj (hg.symm.trans h1)
  obtain rfl := Option.some.inj (ht.symm.trans h2)
  have hc := cells_of fuel t m _ _ hp h4
  refine ⟨?_, fun i => ?_⟩
  · unfold World.var? at h3
    rw [h1] at h3
    simp only [Option.bind_some] at h3
    cases hh : w.heap[g]? with
    | none => rw [hh] at h3; cases h3
    | some o => exact (Array.getElem?_eq_some_iff.1 hh).1
  · rw [World.var?_cell h1 h3 i, ← hc]
    simp
end Go.Proofs.YtmcbmmpjhijagaaGreatDoor.Tables
namespace Go.Proofs.YtmcbmmpjhijagaaGreatDoor
structure Nd where
  K : Int
  N : Int
  M : Int
  S : ByteArray
  T : ByteArray
  Kids : List Int
def kidsAt (ns : List Nd) (p : Nat) : List Int := ((ns[p]?).map Nd.Kids).getD []
def kindAt (ns : List Nd) (p : Nat) : Int := ((ns[p]?).map Nd.K).getD 0
inductive Seg (ns : List Nd) : Nat → Nat → List Int → Prop
  | nil (a : Nat) : Seg ns a a []
  | snoc {a c p : Nat} {ks : List Int} : Seg ns a c ks → Seg ns c p (kidsAt ns p) → Seg ns a (p + 1) (ks ++ [(p : Int)])
theorem Seg.le {ns : List Nd} {a b : Nat} {ks : List Int} (h : Seg ns a b ks) : a ≤ b := by
  induction h with
  | nil a => exact Nat.le_refl _
  | snoc _ _ h1 h2 => omega
theorem Seg.inv {ns : List Nd} {a b : Nat} {ks : List Int} {x : Int} (h : Seg ns a b (ks ++ [x])) : ∃ p c, b = p + 1 ∧ x = (p : Int) ∧ Seg ns a c ks ∧ Seg ns c p (kidsAt ns p) := by
  generalize e : ks ++ [x] = l at h
  cases h with
  | nil a => simp at e
  | @snoc _ c p ks' h1 h2 =>
    obtain ⟨e1, e2⟩ := List.append_inj' e rfl
    subst e1
    simp at e2
    exact ⟨p, c, rfl, e2, h1, h2⟩
theorem Seg.nil_inv {ns : List Nd} {a b : Nat} (h : Seg ns a b []) : a = b := by
  generalize e : ([] : List Int) = l at h
  cases h with
  | nil a => rfl
  | snoc h1 h2 => simp at e
theorem Seg.uniqL {ns : List Nd} {a b : Nat} {ks : List Int} (h : Seg ns a b ks) : ∀ a', Seg ns a' b ks → a' = a := by
  induction h with
  | nil a => intro a' h'; exact h'.nil_inv
  | @snoc a c p ks h1 h2 i1 i2 =>
    intro a' h'
    obtain ⟨p', c', e1, e2, h3, h4⟩ := h'.inv
    obtain rfl : p' = p := by omega
    obtain rfl := i2 _ h4
    exact i1 _ h3
theorem Seg.uniqK {ns : List Nd} {a b : Nat} {ks : List Int} (h : Seg ns a b ks) : ∀ ks', Seg ns a b ks' → ks' = ks := by
  induction h with
  | nil a =>
    intro ks' h'
    cases h' with
    | nil => rfl
    | snoc h1 h2 => have := h1.le; have := h2.le; omega
  | @snoc a c p ks h1 h2 i1 i2 =>
    intro ks' h'
    generalize e : p + 1 = b at h'
    cases h' with
    | nil => have := h1.le; have := h2.le; omega
    | @snoc _ c' p' ks' h3 h4 =>
      obtain rfl : p = p' := by omega
      obtain rfl := h2.uniqL _ h4
      rw [i1 _ h3]
theorem Seg.join {ns : List Nd} {a b c : Nat} {A B : List Int} (h : Seg ns a b A) (h' : Seg ns b c B) : Seg ns a c (A ++ B) := by
  induction h' with
  | nil a => simpa using h
  | snoc h1 h2 i1 i2 =>
    rw [← List.append_assoc]
    exact Seg.snoc (i1 h) h2
theorem Seg.one {ns : List Nd} {c p : Nat} (h : Seg ns c p (kidsAt ns p)) : Seg ns c (p + 1) [(p : Int)] := by
  have := Seg.snoc (Seg.nil c) h
  simpa using this
theorem Seg.split {ns : List Nd} {a c : Nat} {A : List Int} : ∀ (B : List Int) {b : Nat}, b = c → Seg ns a c (A ++ B.reverse) → ∃ m, Seg ns a m A ∧ Seg ns m c B.reverse := by
  intro B
  induction B generalizing c with
  | nil => intro b _ h; exact ⟨c, by simpa using h, Seg.nil c⟩
  | cons x B ih =>
    intro b _ h
    rw [List.reverse_cons, ← List.append_assoc] at h
    obtain ⟨p, c', rfl, rfl, h1, h2⟩ := h.inv
    obtain ⟨m, h3, h4⟩ := ih (b := c') rfl h1
    refine ⟨m, h3, ?_⟩
    rw [List.reverse_cons]
    exact Seg.snoc h4 h2
theorem Seg.split' {ns : List Nd} {a c : Nat} {A B : List Int} (h : Seg ns a c (A ++ B)) : ∃ m, Seg ns a m A ∧ Seg ns m c B := by
  have := Seg.split (ns := ns) (a := a) (c := c) (A := A) B.reverse rfl (by simpa using h)
  simpa using this
theorem Seg.prefix {ns : List Nd} {a b : Nat} {ks : List Int} (h : Seg ns a b ks) : ∀ k, a ≤ k → k ≤ b → ∃ L, Seg ns a k L := by
  induction h with
  | nil a => intro k h1 h2; obtain rfl : k = a := by omega
             exact ⟨[], Seg.nil _⟩
  | @snoc a c p ks h1 h2 i1 i2 =>
    intro k e1 e2
    by_cases hk : k ≤ c
    · exact i1 k e1 hk
    · by_cases hp : k = p + 1
      · subst hp; exact ⟨_, Seg.snoc h1 h2⟩
      · obtain ⟨L, hL⟩ := i2 k (by omega) (by omega)
        exact ⟨_, h1.join hL⟩
theorem Seg.push {ns : List Nd} {k : Nat} {L : List Int} (h : Seg ns 0 k L) (_ : (kidsAt ns k).length ≤ L.length) (hd : L.drop (L.length - (kidsAt ns k).length) = kidsAt ns k) :
    Seg ns 0 (k + 1) (L.take (L.length - (kidsAt ns k).length) ++ [(k : Int)]) := by
  rw [← List.take_append_drop (L.length - (kidsAt ns k).length) L, hd] at h
  obtain ⟨m, h1, h2⟩ := h.split'
  exact Seg.snoc h1 h2
theorem Seg.stuck {ns : List Nd} {k : Nat} {L L' : List Int} (h : Seg ns 0 k L) (h' : Seg ns 0 (k + 1) L') : (kidsAt ns k).length ≤ L.length ∧ L.drop (L.length - (kidsAt ns k).length) = kidsAt ns k := by
  generalize e : k + 1 = b at h'
  cases h' with
  | nil => omega
  | @snoc _ c p ks h1 h2 =>
    obtain rfl : k = p := by omega
    obtain rfl := h.uniqK _ (h1.join h2)
    simp
theorem Seg.last {ns : List Nd} {k : Nat} {L : List Int} (h : Seg ns 0 (k + 1) L) : ∃ A, L = A ++ [(k : Int)] := by
  generalize e : k + 1 = b at h
  cases h with
  | nil => omega
  | @snoc _ c p ks h1 h2 =>
    obtain rfl : k = p := by omega
    exact ⟨_, rfl⟩
theorem Seg.kid {ns : List Nd} {a b : Nat} {ks : List Int} (h : Seg ns a b ks) : ∀ x ∈ ks, ∃ p : Nat, x = (p : Int) ∧ a ≤ p ∧ p < b := by
  induction h with
  | nil a => intro x hx; simp at hx
  | @snoc a c p ks h1 h2 i1 i2 =>
    intro x hx
    have := h1.le
    have := h2.le
    rcases List.mem_append.1 hx with h | h
    · obtain ⟨q, e, h3, h4⟩ := i1 x h
      exact ⟨q, e, h3, by omega⟩
    · simp at h
      exact ⟨p, h, by omega, by omega⟩
def most (ds : List Int) (ks : List Int) : Int := ks.foldl (fun d x => if d < ds.getD x.toNat 0 then ds.getD x.toNat 0 else d) 0
def depTo (ns : List Nd) : Nat → List Int
  | 0 => []
  | k + 1 => depTo ns k ++ [most (depTo ns k) (kidsAt ns k) + 1]
def dep (ns : List Nd) (k : Nat) : Int := most (depTo ns k) (kidsAt ns k) + 1
theorem depTo_length (ns : List Nd) : ∀ k, (depTo ns k).length = k
  | 0 => rfl
  | k + 1 => by simp [depTo, depTo_length ns k]
theorem depTo_get (ns : List Nd) : ∀ k j, j < k → (depTo ns k).getD j 0 = dep ns j
  | 0, j, h => by omega
  | k + 1, j, h => by
    by_cases e : j = k
    · subst e
      simp [depTo, dep, List.getD_eq_getElem?_getD, depTo_length]
    · have := depTo_get ns k j (by omega)
      rw [List.getD_eq_getElem?_getD] at this
      rw [depTo, List.getD_eq_getElem?_getD, List.getElem?_append_left (by rw [depTo_length]; omega)]
      exact this
theorem foldmost {ds : List Int} : ∀ (ks : List Int) (d : Int), d ≤ ks.foldl (fun d x => if d < ds.getD x.toNat 0 then ds.getD x.toNat 0 else d) d ∧ ∀ x ∈ ks, ds.getD x.toNat 0 ≤ ks.foldl (fun d x => if d < ds.getD x.toNat 0 then ds.getD x.toNat 0 else d) d
  | [], d => ⟨Int.le_refl _, fun x hx => by simp at hx⟩
  | y :: ks, d => by
    simp only [List.foldl_cons]
    obtain ⟨h1, h2⟩ := foldmost (ds := ds) ks (if d < ds.getD y.toNat 0 then ds.getD y.toNat 0 else d)
    have e1 : d ≤ (if d < ds.getD y.toNat 0 then ds.getD y.toNat 0 else d) := by split <;> omega
    have e2 : ds.getD y.toNat 0 ≤ (if d < ds.getD y.toNat 0 then ds.getD y.toNat 0 else d) := by split <;> omega
    refine ⟨Int.le_trans e1 h1, fun x hx => ?_⟩
    rcases List.mem_cons.1 hx with rfl | h
    · exact Int.le_trans e2 h1
    · exact h2 x h
theorem most_le {ds : List Int} {B : Int} (hB : 0 ≤ B) (hd : ∀ j, ds.getD j 0 ≤ B) : ∀ (ks : List Int) (d : Int), d ≤ B → ks.foldl (fun d x => if d < ds.getD x.toNat 0 then ds.getD x.toNat 0 else d) d ≤ B
  | [], d, h => h
  | y :: ks, d, h => by
    simp only [List.foldl_cons]
    refine most_le hB hd ks _ ?_
    have := hd y.toNat
    split <;> omega
theorem depTo_bound (ns : List Nd) : ∀ k j, (depTo ns k).getD j 0 ≤ k
  | 0, j => by simp [depTo]
  | k + 1, j => by
    rw [depTo, List.getD_eq_getElem?_getD]
    by_cases h : j < k
    · rw [List.getElem?_append_left (by rw [depTo_length]; omega)]
      have := depTo_bound ns k j
      rw [List.getD_eq_getElem?_getD] at this
      omega
    · by_cases e : j = k
      · subst e
        rw [List.getElem?_append_right (by rw [depTo_length]; omega)]
        simp [depTo_length]
        have := most_le (ds := depTo ns j) (B := j) (by omega) (depTo_bound ns j) (kidsAt ns j) 0 (by omega)
        unfold most
        omega
      · rw [List.getElem?_eq_none (by simp [depTo_length]; omega)]
        simp; omega
theorem dep_bound (ns : List Nd) (k : Nat) : dep ns k ≤ k + 1 := by
  have := most_le (ds := depTo ns k) (B := k) (by omega) (depTo_bound ns k) (kidsAt ns k) 0 (by omega)
  unfold dep most
  omega
theorem dep_kid (ns : List Nd) (p q : Nat) (h : (q : Int) ∈ kidsAt ns p) (hq : q < p) : dep ns q < dep ns p := by
  have := (foldmost (ds := depTo ns p) (kidsAt ns p) 0).2 _ h
  rw [show ((q : Int)).toNat = q by simp, depTo_get ns p q hq] at this
  rw [show dep ns p = most (depTo ns p) (kidsAt ns p) + 1 from rfl]
  unfold most
  omega
theorem Seg.deep {ns : List Nd} {a b : Nat} {ks : List Int} (h : Seg ns a b ks) : ∀ j, a ≤ j → j < b → ∃ r : Nat, (r : Int) ∈ ks ∧ dep ns j ≤ dep ns r := by
  induction h with
  | nil a => intro j h1 h2; omega
  | @snoc a c p ks h1 h2 i1 i2 =>
    intro j e1 e2
    by_cases hc : j < c
    · obtain ⟨r, hr, hd⟩ := i1 j e1 hc
      exact ⟨r, by simp [hr], hd⟩
    · refine ⟨p, by simp, ?_⟩
      by_cases hp : j = p
      · subst hp; exact Int.le_refl _
      · obtain ⟨r, hr, hd⟩ := i2 j (by omega) (by omega)
        obtain ⟨q, e, h3, h4⟩ := h2.kid _ hr
        have e' : r = q := by omega
        subst e'
        have := dep_kid ns p r hr h4
        omega
theorem deep_all {ns : List Nd} {n : Nat} (h : Seg ns 0 (n + 1) [(n : Int)]) (j : Nat) (hj : j ≤ n) : dep ns j ≤ dep ns n := by
  obtain ⟨r, hr, hd⟩ := h.deep j (by omega) (by omega)
  simp at hr
  have : r = n := by omega
  subst this
  exact hd
end Go.Proofs.YtmcbmmpjhijagaaGreatDoor
