import Derived.Test.YtafmlbojmmdcdaaGridKit
import Derived.Deep.AppendLies
import Derived.OwnWalk
import Derived.WalkSpells
namespace Go.Proofs.Ytafmlbojmmdcdaa
open Go Go.RowKit

/-- a slice of rows of the call's own -/
def OwnG (w : World) (B G cap : Nat) (rs : List R3) : Prop := w.ownsRow B 27 1 (.slice (some ⟨G, 0, none⟩) rs.length cap) rs.length (rs.map rv)
theorem OwnG.lt {w : World} {B g cap : Nat} {bs : List R3} (h : OwnG w B g cap bs) : g < w.heap.size ∧ B ≤ g ∧ bs.length ≤ cap ∧ cap ≤ maxLen := by
  rcases h.2 with ⟨h1, _⟩ | ⟨g', cap', cur, h1, h2, h3, h4, h5, _⟩
  · simp at h1
  · simp only [Value.slice.injEq, Option.some.injEq, Addr.mk.injEq, and_true, true_and] at h1
    obtain ⟨rfl, rfl⟩ := h1
    exact ⟨(Array.getElem?_eq_some_iff.1 h3).1, h2, h4, h5⟩
theorem OwnG.of {w w1 : World} {B g cap : Nat} {bs : List R3} (h : OwnG w B g cap bs) (hb : Below w.heap.size w w1) : OwnG w1 B g cap bs := by
  have hl := h.lt.1
  refine ⟨h.1, ?_⟩
  rcases h.2 with h1 | ⟨g', cap', cur, h1, h2, h3, h4⟩
  · exact Or.inl h1
  · have e : g' = g := by
      simp only [Value.slice.injEq, Option.some.injEq, Addr.mk.injEq, and_true, true_and] at h1
      exact h1.1.symm
    exact Or.inr ⟨g', cap', cur, h1, h2, by rw [hb.block g' (by rw [e]; exact hl)]; exact h3, h4⟩
theorem OwnG.grid {w : World} {B g cap : Nat} {bs : List R3} (h : OwnG w B g cap bs) : GridAt w g 0 bs := by
  rcases h.2 with ⟨h1, _⟩ | ⟨g', cap', cur, h1, h2, h3, h4, h5, h6, h7⟩
  · simp at h1
  · simp only [Value.slice.injEq, Option.some.injEq, Addr.mk.injEq, and_true, true_and] at h1
    obtain ⟨rfl, rfl⟩ := h1
    intro i x hx
    have hi := (List.getElem?_eq_some_iff.1 hx).1
    have e0 : (bs.map rv)[i]? = some (rv x) := by simp [hx]
    rw [← h7, List.getElem?_take, if_pos (by omega)] at e0
    simp only [Nat.zero_add, World.cell?, h3]
    simpa using e0
theorem OwnG.mono {w : World} {B B' g cap : Nat} {bs : List R3} (h : OwnG w B g cap bs) (hB : B' ≤ B) : OwnG w B' g cap bs := by
  refine ⟨h.1, ?_⟩
  rcases h.2 with h1 | ⟨g', cap', cur, h1, h2, h3⟩
  · exact Or.inl h1
  · exact Or.inr ⟨g', cap', cur, h1, by omega, h3⟩
theorem one_rv (rs : List R3) : ∀ u ∈ rs.map rv, u.oneCell' = true := fun u hu => by
  obtain ⟨r, _, rfl⟩ := List.mem_map.1 hu
  rfl
theorem news_grid {w : World} {G off : Nat} {rs : List R3} (h : GridAt w G off rs) : ∀ j u, (rs.map rv)[j]? = some u → w.cell? ((⟨G, off, none⟩ : Addr).add j) = some u := fun j u hu => by
  rw [List.getElem?_map, Option.map_eq_some_iff] at hu
  obtain ⟨r, hr, rfl⟩ := hu
  rw [Go.WideShapes.add_plain]
  exact h j r hr

set_option maxRecDepth 100000 in
set_option maxHeartbeats 1000000 in
theorem Clone_calls (rs : List R3) (G off cap : Nat) (w : World) (hG : G < w.heap.size) (hr : GridAt w G off rs) (b1 : rs.length ≤ 1048576) :
    Calls Try.prog 25 #[.slice (some ⟨G, off, none⟩) rs.length cap] w fun e w' => ∃ G' cap', e = .returned (.slice (some ⟨G', 0, none⟩) rs.length cap') ∧ OwnG w' w.heap.size G' cap' rs ∧ Below w.heap.size w w' := by
  obtain ⟨i, hi, hz⟩ := Option.map_eq_some_iff.1 (show (Try.prog.info? 27).map (fun i => (i.zero, i.size, i.bytes)) = some (some (.slice none 0 0), 1, 24) by kernel_rfl)
  simp only [Prod.mk.injEq] at hz
  obtain ⟨hz0, hz1, hz2⟩ := hz
  have hnil := fun w => Lib.run_eql_slice_nil (P := Try.prog) w 23 27 (some ⟨G, off, none⟩) rs.length cap 0 0 Try.underlying23
  have hGa : GridAt (w.alloc (.cells #[] 27)) G off rs := hr.of hG (bA (Below.refl _ _) _)
  have hO : (w.alloc (.cells #[] 27)).ownsRow w.heap.size 27 1 (.slice (some ⟨w.heap.size, 0, none⟩) 0 0) 0 [] := ⟨rfl, Or.inr ⟨w.heap.size, 0, #[], rfl, Nat.le_refl _, (MapKept.heap_alloc w _).1, Nat.le_refl _, Nat.zero_le _, rfl, rfl⟩⟩
  have HN := hide (news_grid hGa); have HO := hide hO
  clear hGa hO hr
  go_enter Try.func25, Try.ntmps25
  go_wp2_with (at_builtin; go_must (refine wpList_append_own _ rfl (.tmp 5) (.tmp 6) 23 rfl w.heap.size 27 i _ 1 24 Try.underlying23 hi hz0 hz1 hz2 rfl (by decide) (.slice (some ⟨w.heap.size, 0, none⟩) 0 0) 0 [] rfl (unhide HO) ⟨G, off, none⟩ rs.length cap (rs.map rv) rfl (by simp) (unhide HN) (one_rv rs) (by unfold maxLen; omega) (by omega) (by simp) ?_; intro v' w' hown hgrow hnn))
  have dB : Below w.heap.size w w' := (bA (Below.refl w.heap.size w) (.cells #[] 27)).grown hgrow (by simp) (fun k hk => by
    have : w.heap.size = k := by simpa [Value.ownBlock] using hk
    omega)
  obtain ⟨g', cap', rfl⟩ : ∃ g' cap', v' = .slice (some ⟨g', 0, none⟩) rs.length cap' := by
    rcases hown.2 with ⟨h1, _⟩ | ⟨g', cap', cur, h1, _⟩
    · exact absurd (hnn.1 h1).1 (by simp)
    · exact ⟨g', cap', by rw [h1, Nat.zero_add]⟩
  have HOW : Hid (OwnG w' w.heap.size g' cap' rs) := by
    show OwnG _ _ _ _ _
    unfold OwnG
    rw [Nat.zero_add, List.nil_append] at hown
    exact hown
  go_ret
  exact ⟨g', cap', rfl, HOW.out, dB⟩
end Go.Proofs.Ytafmlbojmmdcdaa
