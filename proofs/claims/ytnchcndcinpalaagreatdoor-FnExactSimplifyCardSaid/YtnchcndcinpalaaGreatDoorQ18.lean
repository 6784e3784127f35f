import Derived.Test.YtnchcndcinpalaaGreatDoorQ15
import Derived.Test.YtnchcndcinpalaaGreatDoorQ16
import Derived.Test.YtnchcndcinpalaaGreatDoorQ17
import Derived.Test.YtnchcndcinpalaaGreatDoorQ2
import Derived.Deep.AppendLies
import Derived.Deep.RegionHeld3
import Derived.Deep.DeepCutAuto
/-
  THE WIDTH OF A FLAT PLAN's NODE, as the specification finds it: all kinds.
-/
namespace Go.Proofs.YtnchcndcinpalaaGreatDoor
open Go Go.RowKit

set_option maxRecDepth 100000 in
set_option maxHeartbeats 4000000 in
theorem width4_4 (ts : List Tb) (T M Wd L R l r : Int) (Ex : List O2) (Exs : List (List O2)) (b4 b5 gt capt : Nat) (w : World) (hb5 : b5 < w.heap.size) (hxs : OpssAt w b5 Exs) (l2 : Exs.length ≤ 1048576) (l3 : ∀ xs ∈ Exs, xs.length ≤ 1048576) :
    Calls Tryz.prog 57 #[.agg #[.int .i64 4, .int .i64 T, .int .i64 M, .int .i64 Wd, .slice (some ⟨b4, 0, none⟩) Ex.length Ex.length, .slice (some ⟨b5, 0, none⟩) Exs.length Exs.length, .int .i64 L, .int .i64 R], .agg #[.slice (some ⟨gt, 0, none⟩) ts.length capt], .int .i64 l, .int .i64 r] w fun e w' => e = .returned (.int .i64 (nodF ts ⟨4, T, M, Wd, Ex, Exs, L, R⟩ l r)) ∧ Below w.heap.size w w' := by
  have HMat := hide (fun W => l4Matches_calls 4 W)
  rw [show decide (matK 4) = false by decide] at HMat
  have HUse := hide (fun W => l4UsesEx_calls 4 T M Wd L R (.slice (some ⟨b4, 0, none⟩) Ex.length Ex.length) (.slice (some ⟨b5, 0, none⟩) Exs.length Exs.length) W)
  rw [show decide (exK 4 M) = false from decide_eq_false (by unfold exK; omega)] at HUse
  have HS : Hid (SidP ⟨4, T, M, Wd, Ex, Exs, L, R⟩ l r ↔ ∀ xs ∈ Exs, exOk l xs = true) := by
    show _ ↔ _
    simp [SidP, matK, exK]
  have HYes := hide (fun h => nodF_yes (ts := ts) (p := ⟨4, T, M, Wd, Ex, Exs, L, R⟩) (l := l) (r := r) h)
  have HNo := hide (fun h => nodF_no (ts := ts) (p := ⟨4, T, M, Wd, Ex, Exs, L, R⟩) (l := l) (r := r) h)
  have HXs := hide (fun W (hb : Below w.heap.size w W) => hxs.of hb5 hb)
  have HL3 := hide l3
  clear hxs l3
  generalize nodF ts ⟨4, T, M, Wd, Ex, Exs, L, R⟩ l r = E at *
  go_enter Tryz.func57, Tryz.ntmps57
  go_wp2_with fail
  refine (unhide HMat _).mono ?_; rintro e w1 ⟨rfl, hw⟩; obtain rfl := hw.symm
  go_wp2_with fail
  refine (unhide HUse _).mono ?_; rintro e w2 ⟨rfl, hb⟩
  have n2 := bT (bA (bA (Below.refl _ _) _) _ : Below w.heap.size w _) hb
  have F := NB.of (s := w.heap.size) (gt := gt) (nt := ts.length) (capt := capt) (K := 4) (T := T) (M := M) (Wd := Wd) (L := L) (R := R) (u4 := .slice (some ⟨b4, 0, none⟩) Ex.length Ex.length) (u5 := .slice (some ⟨b5, 0, none⟩) Exs.length Exs.length) ⟨by simp [go_sem], by simp [go_sem], by simp [go_sem], by simp [go_sem], by simp [go_sem], by simp [go_sem], by simp [go_sem], by simp [go_sem], by simp [go_sem], (by simp <;> omega), (by simp <;> omega)⟩ hb
  clear hb
  obtain ⟨f0, f1, f2, f3, f4, f5, f6, f7, fd, fs0, fs⟩ := id F
  go_wp2
  go_loopw [10] (fun c wr => ∃ j : Nat, j ≤ Exs.length ∧ c = .int .i64 j ∧ (∀ xs ∈ Exs.take j, exOk l xs = true) ∧ NB w.heap.size gt ts.length capt 4 T M Wd L R (.slice (some ⟨b4, 0, none⟩) Ex.length Ex.length) (.slice (some ⟨b5, 0, none⟩) Exs.length Exs.length) wr ∧ Below w.heap.size w wr) (fun c _ => Exs.length - (intOf c).toNat)
  case atStart => exact ⟨0, Nat.zero_le _, rfl, fun x hx => by simp at hx, F, n2⟩
  case round =>
    clear f0 f1 f2 f3 f4 f5 f6 f7 fd fs0 fs F n2
    obtain ⟨j, hj, rfl, hjw, F, hb⟩ := hrel
    obtain ⟨f0, f1, f2, f3, f4, f5, f6, f7, fd, fs0, fs⟩ := id F
    have HJ := hide hjw
    clear hjw
    by_cases hjl : j < Exs.length
    · obtain ⟨bx, cx, hbx, hbx2, hox⟩ := unhide HXs wr hb j Exs[j] (List.getElem?_eq_getElem hjl)
      have j2 : (j : Int) < (Exs.length : Int) := by omega
      have hb5w : b5 < wr.heap.size := Nat.lt_of_lt_of_le hb5 hb.size
      have HX := hide (sExOk_calls Exs[j] bx 0 (Exs[j]).length l wr hbx2 hox (unhide HL3 _ (List.getElem_mem hjl)))
      have hnext : exOk l Exs[j] = true → ∀ xs ∈ Exs.take (j + 1), exOk l xs = true := fun h x hx => by
        rw [take_snocN Exs j hjl] at hx
        rcases List.mem_append.1 hx with h' | h'
        · exact unhide HJ x h'
        · simp only [List.mem_singleton] at h'; rw [h']; exact h
      have hno : exOk l Exs[j] = false → E = -1 := fun h => unhide HNo (fun h' => by
        have := HS.out.1 h' _ (List.getElem_mem hjl)
        rw [h] at this
        cases this)
      generalize exOk l Exs[j] = bE at *
      generalize (Exs[j]).length = xl at *
      clear hox hbx hbx2 HXs HL3
      cases bE
      · have HE2 := hide (hno rfl)
        clear hno hnext HYes HNo HJ HS
        go_wp2_with fail
        refine (unhide HX).mono ?_; rintro e w3 ⟨rfl, hb2⟩
        have HB2 := hide (bT hb hb2)
        clear hb2
        go_wp2
        go_ret
        exact ⟨congrArg (fun z => Ending.returned (.int .i64 z)) (unhide HE2).symm, unhide HB2⟩
      · have HNx := hide (hnext rfl)
        clear hno hnext HYes HNo HJ HS
        go_wp2_with fail
        refine (unhide HX).mono ?_; rintro e w3 ⟨rfl, hb2⟩
        have HB2 := hide (bT hb hb2)
        have HF2 := hide (F.of hb2)
        clear hb2
        go_wp2
        go_roundw
        case rel => exact ⟨j + 1, by omega, by go_num, unhide HNx, unhide HF2, unhide HB2⟩
        case measure => simp [intOf]; omega
    · obtain rfl : j = Exs.length := by omega
      have hall := unhide HJ
      rw [List.take_length] at hall
      have HE2 := hide (show E = (Exs.length : Int) by rw [unhide HYes (HS.out.2 hall)]; simp [stepF])
      clear hall HYes HNo HJ HS HXs HL3
      go_wp2
      go_ret
      exact ⟨congrArg (fun z => Ending.returned (.int .i64 z)) (unhide HE2).symm, hb⟩

theorem l4Width_calls (ts : List Tb) (i : Nat) (K T M Wd L R l r : Int) (Ex : List O2) (Exs : List (List O2)) (b4 b5 gt capt : Nat) (w : World) (hF : FldF ts.length i K T M Wd Ex.length Exs.length L R) (hl0 : 0 ≤ l) (hl1 : l ≤ 200) (hr0 : 0 ≤ r) (hr1 : r ≤ 200)
    (hb4 : b4 < w.heap.size) (hx : OpsAt w b4 0 Ex) (l1 : Ex.length ≤ 1048576) (hb5 : b5 < w.heap.size) (hxs : OpssAt w b5 Exs) (l2 : Exs.length ≤ 1048576) (l3 : ∀ xs ∈ Exs, xs.length ≤ 1048576) (hgt : gt < w.heap.size) (ht : TablesAt w gt 0 ts) :
    Calls Tryz.prog 57 #[.agg #[.int .i64 K, .int .i64 T, .int .i64 M, .int .i64 Wd, .slice (some ⟨b4, 0, none⟩) Ex.length Ex.length, .slice (some ⟨b5, 0, none⟩) Exs.length Exs.length, .int .i64 L, .int .i64 R], .agg #[.slice (some ⟨gt, 0, none⟩) ts.length capt], .int .i64 l, .int .i64 r] w fun e w' => e = .returned (.int .i64 (nodF ts ⟨K, T, M, Wd, Ex, Exs, L, R⟩ l r)) ∧ Below w.heap.size w w' := by
  obtain ⟨k1, k2, t1, _, _, _, _, _, _, _, _, x1, x2⟩ := hF
  have e : K = 1 ∨ K = 2 ∨ K = 3 ∨ K = 4 ∨ K = 5 ∨ K = 6 ∨ K = 7 ∨ K = 8 ∨ K = 9 ∨ K = 10 ∨ K = 11 := by omega
  by_cases h4 : K = 4
  · subst h4
    exact width4_4 ts T M Wd L R l r Ex Exs b4 b5 gt capt w hb5 hxs l2 l3
  obtain rfl : Exs = [] := List.eq_nil_of_length_eq_zero (by omega)
  rcases e with rfl | rfl | rfl | rfl | rfl | rfl | rfl | rfl | rfl | rfl | rfl
  · have HE : Hid (nodF ts ⟨1, T, M, Wd, Ex, [], L, R⟩ l r = 0) := by
      show _ = _
      rw [nodF_yes (by simp [SidP, matK, exK])]
      rfl
    generalize nodF ts ⟨1, T, M, Wd, Ex, [], L, R⟩ l r = E at *
    clear hx hxs ht x1
    go_enter Tryz.func57, Tryz.ntmps57
    go_wp2
    go_ret
    exact ⟨congrArg (fun z => Ending.returned (.int .i64 z)) HE.out.symm, bA (bA (Below.refl _ _) _) _⟩
  · obtain ⟨hT0, hT1⟩ := t1 rfl
    obtain ⟨t, rfl⟩ : ∃ t : Nat, T = (t : Int) := ⟨T.toNat, by omega⟩
    have htl : t < ts.length := by omega
    obtain ⟨_, d1, _⟩ := ht.at t htl
    simp only [Nat.zero_add] at d1
    have HE : Hid (nodF ts ⟨2, (t : Int), M, Wd, Ex, [], L, R⟩ l r = (ts[t]).Cols) := by
      show _ = _
      rw [nodF_yes (by simp [SidP, matK, exK])]
      simp [stepF, colsAt, htl]
    generalize nodF ts ⟨2, (t : Int), M, Wd, Ex, [], L, R⟩ l r = E at *
    generalize (ts[t]).Cols = C at *
    clear hx hxs ht x1 t1 hT0
    go_enter Tryz.func57, Tryz.ntmps57
    go_wp2
    go_ret
    exact ⟨congrArg (fun z => Ending.returned (.int .i64 z)) HE.out.symm, bA (bA (Below.refl _ _) _) _⟩
  · exact width4_3 ts T M Wd L R l r Ex b4 b5 gt capt w hl0 hl1 hr0 hr1 hb4 hx l1
  · exact absurd rfl h4
  · exact width4_5 ts T M Wd L R l r Ex b4 b5 gt capt w hl0 hl1 hr0 hr1 hb4 hx l1
  · exact width4_6 ts T M Wd L R l r Ex b4 b5 gt capt w hl0 hl1 hr0 hr1 hb4 hx l1
  · exact width4_7 ts T M Wd L R l r Ex b4 b5 gt capt w hl0 hl1 hr0 hr1 hb4 hx l1
  · exact width4_8 ts T M Wd L R l r Ex b4 b5 gt capt w hl0 hl1 hr0 hr1 hb4 hx l1
  · exact width4_9 ts T M Wd L R l r Ex b4 b5 gt capt w hl0 hl1 hr0 hr1 hb4 hx l1
  · exact width4_10 ts T M Wd L R l r Ex b4 b5 gt capt w hl0 hl1 hr0 hr1 hb4 hx l1
  · exact width4_11 ts T M Wd L R l r Ex b4 b5 gt capt w hl0 hl1 hr0 hr1 hb4 hx l1
end Go.Proofs.YtnchcndcinpalaaGreatDoor
/-
  A ROW OF INTS THAT IS APPENDED TO.
-/
namespace Go.Proofs.YtnchcndcinpalaaGreatDoor
open Go Go.RowKit

def vInts (xs : List Int) : List Value := xs.map fun x => .int .i64 x
theorem vInts_append (a b : List Int) : vInts (a ++ b) = vInts a ++ vInts b := by simp [vInts]
theorem vInts_take (xs : List Int) (k : Nat) : vInts (xs.take k) = (vInts xs).take k := by simp [vInts, List.map_take]
/-- a slice of the call's own -/
def OwnI (w : World) (B g cap : Nat) (xs : List Int) : Prop := w.ownsRow B 3 1 (.slice (some ⟨g, 0, none⟩) xs.length cap) xs.length (vInts xs)
theorem OwnI.lt {w : World} {B g cap : Nat} {xs : List Int} (h : OwnI w B g cap xs) : g < w.heap.size ∧ B ≤ g ∧ xs.length ≤ cap ∧ cap ≤ maxLen := by
  rcases h.2 with ⟨h1, _⟩ | ⟨g', cap', cur, h1, h2, h3, h4, h5, _⟩
  · simp at h1
  · simp only [Value.slice.injEq, Option.some.injEq, Addr.mk.injEq, and_true, true_and] at h1
    obtain ⟨rfl, rfl⟩ := h1
    exact ⟨(Array.getElem?_eq_some_iff.1 h3).1, h2, h4, h5⟩
theorem OwnI.of {w w1 : World} {B g cap : Nat} {xs : List Int} (h : OwnI w B g cap xs) (hb : Below w.heap.size w w1) : OwnI w1 B g cap xs := by
  have hl := h.lt.1
  refine ⟨h.1, ?_⟩
  rcases h.2 with h1 | ⟨g', cap', cur, h1, h2, h3, h4⟩
  · exact Or.inl h1
  · have e : g' = g := by
      simp only [Value.slice.injEq, Option.some.injEq, Addr.mk.injEq, and_true, true_and] at h1
      exact h1.1.symm
    exact Or.inr ⟨g', cap', cur, h1, h2, by rw [hb.block g' (by rw [e]; exact hl)]; exact h3, h4⟩
theorem OwnI.cut {w : World} {B g cap : Nat} {xs : List Int} (h : OwnI w B g cap xs) (r : Nat) (hr : r ≤ xs.length) : w.ownsRow B 3 1 (.slice (some ⟨g, 0, none⟩) r cap) r (vInts (xs.take r)) := by
  refine ⟨by simp [vInts]; omega, ?_⟩
  rcases h.2 with ⟨h1, _⟩ | ⟨g', cap', cur, h1, h2, h3, h4, h5, h6, h7⟩
  · simp at h1
  · simp only [Value.slice.injEq, Option.some.injEq, Addr.mk.injEq, and_true, true_and] at h1
    obtain ⟨rfl, rfl⟩ := h1
    refine Or.inr ⟨g, cap, cur, rfl, h2, h3, by omega, h5, h6, ?_⟩
    rw [vInts_take, ← h7, List.take_take, Nat.min_eq_left (by omega), Nat.mul_one]
theorem OwnI.row {w : World} {B g cap : Nat} {xs : List Int} (h : OwnI w B g cap xs) : IntsAt w g 0 xs := by
  rcases h.2 with ⟨h1, _⟩ | ⟨g', cap', cur, h1, h2, h3, h4, h5, h6, h7⟩
  · simp at h1
  · simp only [Value.slice.injEq, Option.some.injEq, Addr.mk.injEq, and_true, true_and] at h1
    obtain ⟨rfl, rfl⟩ := h1
    intro i x hx
    have hi := (List.getElem?_eq_some_iff.1 hx).1
    have e0 : (vInts xs)[i]? = some (.int .i64 x) := by simp [vInts, hx]
    rw [← h7] at e0
    rw [List.getElem?_take, if_pos (by omega)] at e0
    simp only [Nat.zero_add, World.cell?, h3]
    simpa using e0
end Go.Proofs.YtnchcndcinpalaaGreatDoor
