import Derived.RangeFuncNested
import Derived.RangeFuncLeaves
import Derived.RangeFuncBound
import Derived.Test.YteebidljiemegaaDoorQ2
namespace Go.Proofs.YteebidljiemegaaDoor
open Go Go.RowKit
def Box3 (b1 b2 b3 : Nat) (W W' : World) : Prop := W'.heap[b1]? = W.heap[b1]? ∧ W'.heap[b2]? = W.heap[b2]? ∧ W'.heap[b3]? = W.heap[b3]?
theorem Box3.trans {b1 b2 b3 : Nat} {A B C : World} (h : Box3 b1 b2 b3 A B) (k : Box3 b1 b2 b3 B C) : Box3 b1 b2 b3 A C := ⟨k.1.trans h.1, k.2.1.trans h.2.1, k.2.2.trans h.2.2⟩
theorem Box3.put {b1 b2 b3 m l : Nat} (h1 : b1 < m) (h2 : b2 < m) (h3 : b3 < m) (hl : m ≤ l) (W : World) (o : Obj) : Box3 b1 b2 b3 W (W.putObj l o) :=
  ⟨World.putObj_heap_other (by omega), World.putObj_heap_other (by omega), World.putObj_heap_other (by omega)⟩
def roundTo (b1 b2 b3 : Nat) (I Ix : List ByteArray → World → Prop) (xs : List ByteArray) (W : World) : Exit → Act → World → Prop
  | .normal, _, W' => KeepsOthers W W' ∧ Box3 b1 b2 b3 W W' ∧ I xs W'
  | .ret, _, W' => KeepsOthers W W' ∧ Ix xs W'
  | _, _, _ => False
def Iter (F : Fence) (n : Nat) (P : Program) (gf : Nat) (lb : Array Value) (b1 b2 b3 : Nat) (lines : List ByteArray) (w : World) : Prop :=
  ∀ (l : Nat) (J Jx : List ByteArray → World → Prop) (W : World), Box3 b1 b2 b3 w W → (∀ pre V v, J pre V → J pre (V.setCell ⟨b1, 0, none⟩ v)) →
    (∀ pre x V, pre ++ [x] <+: lines → J pre V → YieldAt F (n - 1) P l #[.string x] V fun e V' => (e = .returned (.bool true) ∧ J (pre ++ [x]) V' ∧ Box3 b1 b2 b3 V V') ∨ (e = .returned (.bool false) ∧ Jx (pre ++ [x]) V')) →
    J [] W → CallsIn F n P gf (#[.func (.yield l) #[] #[]] ++ lb) W fun e V' => (∃ v, e = .returned v) ∧ (J lines V' ∨ ∃ pre, pre <+: lines ∧ Jx pre V')
theorem range_split {F : Fence} {n : Nat} {P : Program} {g : Operand} {ps : Array Tmp} {assign body : Code} {Q : Exit → Act → World → Prop} {a : Act} {w : World} {gf : Nat} {lb : Array Value} {b1 b2 b3 : Nat} {lines : List ByteArray}
    (hro : F.round = none) (h1 : 1 ≤ n) (hg : a.eval g = .func (.func gf) #[] lb) (hF : F.fn gf) (eg : ∀ args w, (callFunc gf args).run P w = .ok (.enter gf args) w) (hps : ps.size = 1)
    (l1 : b1 < w.heap.size) (l2 : b2 < w.heap.size) (l3 : b3 < w.heap.size) (hit : Iter F (n - 1) P gf lb b1 b2 b3 lines w)
    (I Ix : List ByteArray → World → Prop) (hI : ∀ pre V o, I pre V → I pre (V.putObj (w.heap.size + 1) o)) (hIx : ∀ pre V o, Ix pre V → Ix pre (V.putObj (w.heap.size + 1) o)) (hIs : ∀ pre V v, I pre V → I pre (V.setCell ⟨b1, 0, none⟩ v)) (h0 : ∀ o, I [] ((w.alloc (.deferred (some []))).alloc o)) (a₁ : ByteArray → Act)
    (hassign : ∀ (l : Nat) (x : ByteArray) (W : World) (K : Act → World → Prop), K (a₁ x) W → assign.wpIn (F.inRound l) (n - 1 - 1) P (Exit.then K (fun _ _ _ => False)) { tmps := (ps.zip #[Value.string x]).foldl (fun t (p, v) => t.setIfInBounds p v) a.tmps, defers := [] } W)
    (hbody : ∀ (l : Nat) (pre : List ByteArray) (x : ByteArray) (W : World), pre ++ [x] <+: lines → I pre W → body.wpIn (F.inRound l) (n - 1 - 1) P (roundTo b1 b2 b3 I Ix (pre ++ [x]) W) (a₁ x) W)
    (hdone : ∀ (W : World), I lines W → W.heap[w.heap.size]? = some (.deferred (some [])) → Q .normal { a with defers := { target := .collected w.heap.size, args := #[] } :: a.defers } W)
    (hstop : ∀ (pre : List ByteArray) (W : World), pre <+: lines → Ix pre W → W.heap[w.heap.size]? = some (.deferred (some [])) → Code.ret.wpIn F n P Q { a with defers := { target := .collected w.heap.size, args := #[] } :: a.defers } W) :
    (Code.rangeFunc g ps assign body).wpIn F n P Q a w := by
  refine wpIn_rangeFunc (fun fn hfn => ?_)
  rw [hro]
  let R : LoopState → Option Code → Obj := fun st pe => .loop { state := st, pending := pe, fn := fn, tmps := a.tmps, params := ps, assign := assign, body := body, defers := w.heap.size }
  obtain ⟨m, hm⟩ : ∃ m, m = w.heap.size := ⟨_, rfl⟩
  obtain ⟨W1, hW1⟩ : ∃ W1, W1 = (w.alloc (.deferred (some []))).alloc (R .ready none) := ⟨_, rfl⟩
  have kD : W1.heap[m]? = some (.deferred (some [])) := by
    rw [hW1, hm]
    exact (Below.heap_alloc _ _ _ (by simp)).trans (World.alloc_heap_new w _)
  have kL : W1.heap[m + 1]? = some (R .ready none) := by
    rw [hW1, hm]
    have := World.alloc_heap_new (w.alloc (.deferred (some []))) (R .ready none)
    rwa [World.size_alloc] at this
  have kI : I [] W1 := by rw [hW1]; exact h0 _
  rw [← hm] at hI hIx hdone hstop
  have kB : Box3 b1 b2 b3 w W1 := by
    have go : ∀ b, b < w.heap.size → W1.heap[b]? = w.heap[b]? := fun b hb => by
      rw [hW1]
      exact (Below.heap_alloc _ _ b (by simp; omega)).trans (Below.heap_alloc w _ b hb)
    exact ⟨go _ l1, go _ l2, go _ l3⟩
  refine ⟨m + 1, [{ target := .collected m, args := #[] }], W1, { target := .fn (.func gf) lb, args := #[.func (.yield (m + 1)) #[] #[]] }, W1, gf, #[.func (.yield (m + 1)) #[] #[]] ++ lb, W1, ?_, ?_, ?_, ?_, fun _ => h1, ?_⟩
  · rw [hW1, hm]
    exact run_enterLoop_outer _ _ _ _ _
  · simp only [resolve, hg]
    simp [go_sem]
  · intro f' hf'
    simp [Target.leads] at hf'
    rw [← hf']
    exact hF
  · simp [invoke, go_sem, eg]
  refine (hit (m + 1) (fun pre V => I pre V ∧ V.heap[m]? = some (.deferred (some [])) ∧ V.heap[m + 1]? = some (R .ready none)) (fun pre V => Ix pre V ∧ V.heap[m]? = some (.deferred (some [])) ∧ V.heap[m + 1]? = some (R .done (some .ret))) W1 kB ?_ ?_ ⟨kI, kD, kL⟩).mono ?_
  · rintro pre V v ⟨j1, j2, j3⟩
    have ko := KeepsOthers.setCell V ⟨b1, 0, none⟩ v
    exact ⟨hIs pre V v j1, ko.same _ _ j2 rfl, ko.same _ _ j3 rfl⟩
  ·
    rintro pre x V hpx ⟨j1, j2, j3⟩
    refine ⟨fn, _, assign, body, run_yield (r := _) j3 (by simp [hps]), roundIn_of_wpIn hfn ?_⟩
    refine hassign _ x V _ ⟨_, run_beginRound j3 rfl, ?_⟩
    obtain ⟨V1, hV1⟩ : ∃ V1, V1 = V.putObj (m + 1) (R .busy none) := ⟨_, rfl⟩
    have hlt : m + 1 < V.heap.size := (Array.getElem?_eq_some_iff.1 j3).1
    have i3 : V1.heap[m + 1]? = some (R .busy none) := by rw [hV1]; exact World.putObj_heap_same hlt
    have i2 : V1.heap[m]? = some (.deferred (some [])) := by rw [hV1]; exact (World.putObj_heap_other (by omega)).trans j2
    have i1 : I pre V1 := by rw [hV1]; exact hI _ _ _ j1
    have ib : Box3 b1 b2 b3 V V1 := by rw [hV1]; exact Box3.put l1 l2 l3 (by omega) V _
    show body.wpIn (F.inRound (m + 1)) (n - 1 - 1) P _ (a₁ x) (V.putObj (m + 1) (R .busy none))
    rw [← hV1]
    refine wpIn_mono (hbody (m + 1) pre x V1 hpx i1) ?_
    rintro e a3 V3 hp
    cases e with
    | normal =>
      obtain ⟨p1, p2, p3⟩ := hp
      have q3 := p1.same _ _ i3 rfl
      have q2 := p1.same _ _ i2 rfl
      refine ⟨_, _, run_endRound none q3, .inl ⟨rfl, ⟨hI _ _ _ p3, (World.putObj_heap_other (by omega)).trans q2, World.putObj_heap_same (Array.getElem?_eq_some_iff.1 q3).1⟩, (ib.trans p2).trans (Box3.put l1 l2 l3 (by omega) V3 _)⟩⟩
    | ret =>
      obtain ⟨p1, p2⟩ := hp
      have q3 := p1.same _ _ i3 rfl
      have q2 := p1.same _ _ i2 rfl
      exact ⟨_, _, run_endRound (some .ret) q3, .inr ⟨rfl, hIx _ _ _ p2, (World.putObj_heap_other (by omega)).trans q2, World.putObj_heap_same (Array.getElem?_eq_some_iff.1 q3).1⟩⟩
    | exit id => exact hp.elim
    | goto t => exact hp.elim
    | panic ch => exact hp.elim
    | outgrown => exact hp.elim
  ·
    rintro e V ⟨⟨v, rfl⟩, (⟨j1, j2, j3⟩ | ⟨pre, hpre, j1, j2, j3⟩)⟩
    · exact ⟨none, _, run_endLoop j3 (by simp), hdone _ (hI _ _ _ j1) ((World.putObj_heap_other (by omega)).trans j2)⟩
    · exact ⟨some .ret, _, run_endLoop j3 (by simp), hstop pre _ hpre (hIx _ _ _ j1) ((World.putObj_heap_other (by omega)).trans j2)⟩
end Go.Proofs.YteebidljiemegaaDoor
