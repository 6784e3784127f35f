import Derived.Test.YtafmlbojmmdcdaaSorted
import Derived.Test.YtafmlbojmmdcdaaMergeMath
import Derived.Deep.RegionHeld3
import Derived.Deep.DeepCutAuto
namespace Go.Proofs.Ytafmlbojmmdcdaa
open Go Go.RowKit

abbrev kR (r : R3) : List V2 := r.2.2
theorem GridAt.take {w : World} {G off : Nat} {rs : List R3} (h : GridAt w G off rs) (k : Nat) : GridAt w G off (rs.take k) := fun i r hr => h i r (by rw [List.getElem?_take] at hr; split at hr <;> simp_all)
theorem GridAt.drop {w : World} {G off : Nat} {rs : List R3} (h : GridAt w G off rs) (k : Nat) : GridAt w G (off + k) (rs.drop k) := fun i r hr => by
  have := h (k + i) r (by simpa using hr)
  rw [show off + k + i = off + (k + i) from by omega]
  exact this
theorem RowsOk.sub {w : World} {rs qs : List R3} (h : RowsOk w rs) (hs : ∀ r ∈ qs, r ∈ rs) : RowsOk w qs := fun r hr => h r (hs r hr)
/-- list[:h] -/
theorem gslice_high (G off n cap h : Nat) (hh : h ≤ cap) (w : World) : (Instr.slice 23 (.slice (some ⟨G, off, none⟩) n cap) none (some (.int .i64 (h : Int))) none).run Try.prog w = .ok (.slice (some ⟨G, off, none⟩) h cap) w := by
  have ht : Try.prog.underlying 23 = some (.slice (Try.prog.elem 23)) := by kernel_rfl
  have hs : ∀ w, (sizeOf (Try.prog.elem 23)).run Try.prog w = .ok 1 w := fun _ => by kernel_rfl
  rw [run_slice_h _ _ _ _ _ ht .i64 h (by omega) (by omega), hs]
  simp [Result.andThen, sliced, Addr.add]
/-- list[h:] -/
theorem gslice_low (G off n cap h : Nat) (hh : h ≤ n) (_hn : n ≤ cap) : ∃ o, (h < n → o = off + h) ∧ ∀ w : World, (Instr.slice 23 (.slice (some ⟨G, off, none⟩) n cap) (some (.int .i64 (h : Int))) none none).run Try.prog w = .ok (.slice (some ⟨G, o, none⟩) (n - h) (cap - h)) w := by
  have ht : Try.prog.underlying 23 = some (.slice (Try.prog.elem 23)) := by kernel_rfl
  have hs : ∀ w, (sizeOf (Try.prog.elem 23)).run Try.prog w = .ok 1 w := fun _ => by kernel_rfl
  by_cases hc : cap = h
  · refine ⟨off, fun h' => by omega, fun w => ?_⟩
    rw [run_slice_l _ _ _ _ _ ht .i64 h (by omega) (by omega), hs]
    simp [Result.andThen, sliced, hc]
  · refine ⟨off + h, fun _ => rfl, fun w => ?_⟩
    rw [run_slice_l _ _ _ _ _ ht .i64 h (by omega) (by omega), hs]
    by_cases h0 : h = 0
    · subst h0; simp [Result.andThen, sliced, hc, Addr.add]
    · simp [Result.andThen, sliced, hc, Addr.add, h0]

/-- list[1:] -/
theorem gslice_one (G off n cap : Nat) (hn : n + 1 ≤ cap) : ∃ o, (0 < n → o = off + 1) ∧ ∀ w : World, (Instr.slice 23 (.slice (some ⟨G, off, none⟩) (n + 1) cap) (some (.int .i64 1)) none none).run Try.prog w = .ok (.slice (some ⟨G, o, none⟩) n (cap - 1)) w := by
  obtain ⟨o, h1, h2⟩ := gslice_low G off (n + 1) cap 1 (by omega) hn
  exact ⟨o, fun h => h1 (by omega), h2⟩
/-- make([][]impl.Val, 0, n) -/
theorem make_room (n : Nat) (hn : n ≤ 1048576) (w : World) :
    (Instr.makeSlice 23 (.int .i64 0) (.int .i64 (n : Int))).run Try.prog w = .ok (.slice (some ⟨w.heap.size, 0, none⟩) 0 n) (w.alloc (.cells (madeCells #[.slice none 0 0] n) 27)) := by
  obtain ⟨i, hi, hz⟩ := Option.map_eq_some_iff.1 (show (Try.prog.info? 27).map (fun i => (i.zero, i.size, i.bytes)) = some (some (.slice none 0 0), 1, 24) by kernel_rfl)
  simp only [Prod.mk.injEq] at hz
  have := run_make (P := Try.prog) w 23 27 i _ Try.underlying23 hi hz.1 .i64 .i64 0 (n : Int) (by omega) (by omega) (by rw [hz.2.2]; omega) (by omega)
  rw [hz.2.1] at this
  simpa [Value.cells] using this
theorem OwnG.room (w : World) (n : Nat) (hn : n ≤ 1048576) : OwnG (w.alloc (.cells (madeCells #[.slice none 0 0] n) 27)) w.heap.size w.heap.size n [] :=
  ⟨rfl, Or.inr ⟨w.heap.size, n, _, rfl, Nat.le_refl _, (MapKept.heap_alloc w _).1, Nat.zero_le _, by unfold maxLen; omega, by simp [size_madeCells], by simp⟩⟩
theorem msF_small (n : Nat) (rs : List R3) (h : rs.length < 2) : msF kR n rs = rs := by cases n <;> simp [msF, h]

/-- what sorted says -/
def SortedSaid (n : Nat) : Prop := ∀ (rs : List R3) (G off cap : Nat) (w : World), rs.length ≤ n → G < w.heap.size → GridAt w G off rs → RowsOk w rs → rs.length ≤ cap → rs.length ≤ 1048576 → (∀ r ∈ rs, r.2.2.length ≤ 1048576) →
    Calls Try.prog 17 #[.slice (some ⟨G, off, none⟩) rs.length cap, .func (Fn.func 7) #[] #[]] w fun e w' => ∃ G' cap', e = .returned (.slice (some ⟨G', 0, none⟩) rs.length cap') ∧ OwnG w' w.heap.size G' cap' (msF kR n rs) ∧ Below w.heap.size w w'

theorem sorted_small (n : Nat) (rs : List R3) (G off cap : Nat) (w : World) (hl : rs.length < 2) (hG : G < w.heap.size) (hr : GridAt w G off rs) :
    Calls Try.prog 17 #[.slice (some ⟨G, off, none⟩) rs.length cap, .func (Fn.func 7) #[] #[]] w fun e w' => ∃ G' cap', e = .returned (.slice (some ⟨G', 0, none⟩) rs.length cap') ∧ OwnG w' w.heap.size G' cap' (msF kR n rs) ∧ Below w.heap.size w w' := by
  rw [msF_small n rs hl]
  have hl' : (rs.length : Int) < 2 := by omega
  go_enter Try.func17, Try.ntmps17
  go_wp2_with fail
  refine (Clone_calls rs G off cap w hG hr (by omega)).mono ?_; rintro e w1 ⟨G', cap', rfl, ho, hb⟩
  go_wp2
  go_ret
  exact ⟨G', cap', rfl, ho, hb⟩
end Go.Proofs.Ytafmlbojmmdcdaa
