import Derived.Test.YtafmlbojmmdcdabISort
import Derived.Test.YtafmlbojmmdcdabL1Row
namespace Go.Proofs.Ytafmlbojmmdcdab
open Go Go.RowKit
/-- what the specification's SortRows says -/
def SSortSaid (n : Nat) : Prop := ∀ (rs : List R3) (G off cap : Nat) (w : World), rs.length ≤ n → G < w.heap.size → GridAt w G off rs → RowsOk w rs → rs.length ≤ cap → rs.length ≤ 1048576 → (∀ r ∈ rs, r.2.2.length ≤ 1048576) →
    Calls Try.prog 14 #[.slice (some ⟨G, off, none⟩) rs.length cap] w fun e w' => ∃ G' cap' qs, e = .returned (.slice (some ⟨G', 0, none⟩) rs.length cap') ∧ OwnG w' w.heap.size G' cap' qs ∧ RowsOk w' qs ∧ qs.map kR = msF (fun x => x) n (rs.map cleanR) ∧ Below w.heap.size w w'
theorem msF_small' {α : Type} (key : α → List V2) (n : Nat) (l : List α) (h : l.length < 2) : msF key n l = l := by cases n <;> simp [msF, h]
theorem OwnG.lit (w : World) (rs : List R3) (t : TypeId) (ht : t = 25) (hn : rs.length ≤ 1048576) : OwnG (w.alloc (.cells (rs.map rv).toArray t)) w.heap.size w.heap.size rs.length rs := by
  subst ht
  exact ⟨by simp, Or.inr ⟨w.heap.size, rs.length, _, rfl, Nat.le_refl _, (MapKept.heap_alloc w _).1, Nat.le_refl _, by unfold maxLen; omega, by simp, by simp only [Nat.mul_one]; rw [List.take_of_length_le (by simp)]⟩⟩
theorem ssort_zero (n : Nat) (G off cap : Nat) (w : World) :
    Calls Try.prog 14 #[.slice (some ⟨G, off, none⟩) 0 cap] w fun e w' => ∃ G' cap' qs, e = .returned (.slice (some ⟨G', 0, none⟩) 0 cap') ∧ OwnG w' w.heap.size G' cap' qs ∧ RowsOk w' qs ∧ qs.map kR = msF (fun x => x) n (([] : List R3).map cleanR) ∧ Below w.heap.size w w' := by
  have H1 := hide (OwnG.lit w [] 25 rfl (by simp))
  go_enter Try.func14, Try.ntmps14
  go_wp2
  go_ret
  exact ⟨_, _, [], rfl, unhide H1, fun r hr => (by simp at hr), by rw [msF_small' _ n _ (by simp)]; rfl, bA (Below.refl _ _) _⟩
theorem ssort_one (n : Nat) (r : R3) (G off cap : Nat) (w : World) (hr : GridAt w G off [r]) (hro : RowsOk w [r]) (hb2 : r.2.2.length ≤ 1048576) :
    Calls Try.prog 14 #[.slice (some ⟨G, off, none⟩) 1 cap] w fun e w' => ∃ G' cap' qs, e = .returned (.slice (some ⟨G', 0, none⟩) 1 cap') ∧ OwnG w' w.heap.size G' cap' qs ∧ RowsOk w' qs ∧ qs.map kR = msF (fun x => x) n ([r].map cleanR) ∧ Below w.heap.size w w' := by
  have e0 := hr 0 r rfl
  obtain ⟨r1, r2⟩ := hro r (by simp)
  obtain ⟨rg, rc, rx⟩ := r
  unfold rv at e0
  simp only [Nat.add_zero] at e0 r1 r2 hb2
  have LR := l1Row_calls rx rg 0 rc w r1.size r1.held hb2
  have HLR := hide LR
  clear LR
  go_enter Try.func14, Try.ntmps14
  go_wp2_with fail
  refine (unhide HLR).mono ?_; rintro e w1 ⟨g1, c1, rfl, ho1, hb1⟩
  have H1 := hide ((OwnG.lit w1 [(g1, c1, rx.map clnV)] 25 rfl (by simp)).mono hb1.size)
  have hal := bA (Below.refl w1.heap.size w1) (.cells ([(g1, c1, rx.map clnV)].map rv).toArray 25)
  have H2 : Hid (RowsOk (w1.alloc (.cells ([(g1, c1, rx.map clnV)].map rv).toArray 25)) [(g1, c1, rx.map clnV)]) := by
    intro r hr
    simp at hr
    subst hr
    exact ⟨(ho1.ownRow.of hal), ho1.lt.2.2.1⟩
  have H3 := hide (bT hb1 hal)
  clear ho1 hal
  simp only [List.map_cons, List.map_nil, rv, List.length_map] at H1 H2 H3
  go_wp2
  go_ret
  exact ⟨_, _, [(g1, c1, rx.map clnV)], rfl, unhide H1, unhide H2, by rw [msF_small' _ n _ (by simp)]; rfl, unhide H3⟩
end Go.Proofs.Ytafmlbojmmdcdab
