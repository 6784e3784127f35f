import Derived.Test.YteebidljiemegaaDoorMarks
namespace Go.Proofs.YteebidljiemegaaDoor
open Go Go.RowKit
def kAt (k : Nat) (rs : List R3) (j : Nat) : Nat := k + 2 * bulk ((rs.map kR).take j)
theorem kAt_zero (k : Nat) (rs : List R3) : kAt k rs 0 = k := by simp [kAt, bulk]
theorem kAt_succ (k : Nat) (rs : List R3) (j : Nat) (h : j < rs.length) : kAt k rs (j + 1) = kAt k rs j + 2 * (rs[j]).2.2.length := by
  unfold kAt
  rw [bulk_take _ _ (by simpa using h)]
  simp only [List.getElem_map, kR]
  omega
theorem kAt_le (k : Nat) (rs : List R3) (j : Nat) : kAt k rs j ≤ k + 2 * bulk (rs.map kR) := by
  have := bulk_take_le (rs.map kR) j
  unfold kAt
  omega
theorem kAt_all (k : Nat) (rs : List R3) : kAt k rs rs.length = k + 2 * bulk (rs.map kR) := by
  unfold kAt
  rw [List.take_of_length_le (by simp)]
def Marked (w : World) (k : Nat) (rs : List R3) (n : Nat) : Prop := ∀ j (h : j < rs.length), j < n → OwnRow w rs[j].1 rs[j].2.2.length (marks (kAt k rs j) rs[j].2.2.length)
theorem Marked.of {w w1 : World} {k n : Nat} {rs : List R3} (h : Marked w k rs n) (hb : Below w.heap.size w w1) : Marked w1 k rs n := fun j hj hn => (h j hj hn).of hb
theorem nodup_at {rs : List R3} (h : (rs.map (fun r : R3 => r.1)).Nodup) {i j : Nat} (hi : i < rs.length) (hj : j < rs.length) (hne : i ≠ j) : rs[i].1 ≠ rs[j].1 := by
  intro e
  have := List.pairwise_iff_getElem.1 h
  rcases Nat.lt_or_gt_of_ne hne with h' | h'
  · exact this i j (by simpa using hi) (by simpa using hj) h' (by simpa using e)
  · exact this j i (by simpa using hj) (by simpa using hi) h' (by simpa using e.symm)
set_option maxHeartbeats 1000000 in
theorem markValSS_calls (rs : List R3) (G cap k : Nat) (w : World) (hG : G < w.heap.size) (hg : GridAt w G 0 rs) (hro : RowsOk w rs) (hnd : (rs.map (fun r : R3 => r.1)).Nodup) (hGn : ∀ r ∈ rs, r.1 ≠ G) (b1 : rs.length ≤ 1048576) (b2 : k + 2 * bulk (rs.map kR) ≤ 536870912) (b3 : ∀ r ∈ rs, r.2.2.length ≤ 1048576) :
    Calls Tryd.prog 38 #[.slice (some ⟨G, 0, none⟩) rs.length cap, .int .i64 k] w fun e w' => e = .returned (.int .i64 ((k + 2 * bulk (rs.map kR) : Nat) : Int)) ∧ Marked w' k rs rs.length ∧ But (fun b => ∃ r ∈ rs, r.1 = b) w w' := by
  go_enter Tryd.func38, Tryd.ntmps38
  go_wp2
  go_loopw [1, 5] (fun c s wr => ∃ i : Nat, i ≤ rs.length ∧ s = .int .i64 i ∧ c = .int .i64 ((kAt k rs i : Nat) : Int) ∧ Marked wr k rs i ∧ (∀ j (h : j < rs.length), i ≤ j → OwnRow wr rs[j].1 rs[j].2.2.length rs[j].2.2) ∧ But (fun b => ∃ r ∈ rs, r.1 = b) w wr) (fun _ s _ => rs.length - (intOf s).toNat)
  case atStart => exact ⟨0, Nat.zero_le _, rfl, by rw [kAt_zero], fun j _ h => absurd h (by omega), fun j h _ => (hro _ (List.getElem_mem h)).1, But.refl _ _⟩
  case round =>
    obtain ⟨i, hi, rfl, rfl, hM, hR, hB⟩ := hrel
    by_cases hlt : i < rs.length
    · have j1 : (i : Int) < (rs.length : Int) := by omega
      have hcell := (hg.but hG hB (fun ⟨r, hr, e⟩ => hGn r hr e)) i rs[i] (by simp [hlt])
      unfold rv at hcell
      have q1 : G < wr.heap.size := Nat.lt_of_lt_of_le hG hB.size
      have hk1 := kAt_succ k rs i hlt
      have hk2 := kAt_le k rs i
      have MV := markValS_calls rs[i].2.2 rs[i].1 rs[i].2.1 (kAt k rs i) wr (hR i hlt (Nat.le_refl _)) (b3 _ (List.getElem_mem hlt)) (by omega)
      have HMV := hide MV; have HK1 := hide hk1; have HM := hide hM; have HR := hide hR; have HB := hide hB
      have hkb : kAt k rs i ≤ 536870912 := by omega
      clear MV hk1 hk2 hM hR hB
      simp only [Nat.zero_add] at hcell
      go_wp2_with fail
      refine (unhide HMV).mono ?_; rintro e w1 ⟨rfl, ho1, hB1⟩
      have HM1 : Hid (Marked w1 k rs (i + 1)) := fun j hj hn => by
        by_cases e : j = i
        · subst e; exact ho1
        · exact ((unhide HM) j hj (by omega)).but hB1 (nodup_at hnd hj hlt e)
      have HR1 : Hid (∀ j (h : j < rs.length), i + 1 ≤ j → OwnRow w1 rs[j].1 rs[j].2.2.length rs[j].2.2) := fun j hj hn => ((unhide HR) j hj (by omega)).but hB1 (nodup_at hnd hj hlt (by omega))
      have HB1 : Hid (But (fun b => ∃ r ∈ rs, r.1 = b) w w1) := (unhide HB).trans (hB1.mono (fun b hb => ⟨rs[i], List.getElem_mem hlt, hb.symm⟩))
      clear ho1 hB1 HM HR HB HMV
      go_wp2
      go_roundw
      case rel => exact ⟨i + 1, by omega, by go_num, by rw [unhide HK1, Int.natCast_add, Int.natCast_mul]; rfl, HM1.out, HR1.out, HB1.out⟩
      case measure => simp [intOf]; omega
    · obtain rfl : i = rs.length := by omega
      rw [kAt_all]
      go_wp2
      go_ret
      exact ⟨rfl, hM, hB⟩
set_option maxHeartbeats 1000000 in
theorem heldValSS_calls (rs : List R3) (G cap k : Nat) (w : World) (hG : G < w.heap.size) (hg : GridAt w G 0 rs) (hM : Marked w k rs rs.length) (b1 : rs.length ≤ 1048576) (b2 : k + 2 * bulk (rs.map kR) ≤ 536870912) (b3 : ∀ r ∈ rs, r.2.2.length ≤ 1048576) :
    Calls Tryd.prog 39 #[.slice (some ⟨G, 0, none⟩) rs.length cap, .int .i64 k] w fun e w' => e = .returned (.int .i64 ((k + 2 * bulk (rs.map kR) : Nat) : Int)) ∧ Below w.heap.size w w' := by
  go_enter Tryd.func39, Tryd.ntmps39
  go_wp2
  go_loopw [1, 5] (fun c s wr => ∃ i : Nat, i ≤ rs.length ∧ s = .int .i64 i ∧ c = .int .i64 ((kAt k rs i : Nat) : Int) ∧ Below w.heap.size w wr) (fun _ s _ => rs.length - (intOf s).toNat)
  case atStart => exact ⟨0, Nat.zero_le _, rfl, by rw [kAt_zero], Below.refl _ _⟩
  case round =>
    obtain ⟨i, hi, rfl, rfl, hB⟩ := hrel
    by_cases hlt : i < rs.length
    · have j1 : (i : Int) < (rs.length : Int) := by omega
      have hcell := (hg.of hG hB) i rs[i] (by simp [hlt])
      unfold rv at hcell
      have q1 : G < wr.heap.size := Nat.lt_of_lt_of_le hG hB.size
      have hk1 := kAt_succ k rs i hlt
      have hk2 := kAt_le k rs i
      have MV := heldValS_calls rs[i].2.2.length rs[i].1 rs[i].2.1 (kAt k rs i) wr ((hM.of hB) i hlt hlt) (b3 _ (List.getElem_mem hlt)) (by omega)
      have HMV := hide MV; have HK1 := hide hk1
      have hkb : kAt k rs i ≤ 536870912 := by omega
      have hkn : ¬ (((kAt k rs i + 2 * rs[i].2.2.length : Nat) : Int) < 0) := by omega
      clear MV hk1 hk2
      simp only [Nat.zero_add] at hcell
      go_wp2_with fail
      refine (unhide HMV).mono ?_; rintro e w1 ⟨rfl, hb1⟩
      have d1 := bT hB hb1
      clear HMV
      go_wp2
      go_roundw
      case rel => exact ⟨i + 1, by omega, by go_num, by rw [unhide HK1, Int.natCast_add, Int.natCast_mul]; rfl, d1⟩
      case measure => simp [intOf]; omega
    · obtain rfl : i = rs.length := by omega
      rw [kAt_all]
      go_wp2
      go_ret
      exact ⟨rfl, hB⟩
end Go.Proofs.YteebidljiemegaaDoor
