/-
  THE PROGRAM's JUDGE OF TABLES.
-/
import Derived.Test.YtahanplikbdccaaDoorDbMath
import Derived.Test.YtahanplikbdccaaDoorNameFns4
import Derived.Maps.OwnSet
namespace Go.Proofs.YtahanplikbdccaaDoor
open Go Go.RowKit

set_option maxHeartbeats 2000000 in
theorem tableOk_calls (S : ByteArray) (C : Int) (xss : List (List V2)) (g G : Nat) (w : World) (hM : MadeRows w g G xss) (hS : S.size ≤ 1048576) (hn : xss.length ≤ 1048576) (hT : TKw w) :
    Calls Tryd.prog 22 #[.agg #[.string S, .int .i64 C, .slice (some ⟨G, 0, none⟩) xss.length xss.length]] w fun e w' => e = .returned (.bool (dB (TbOk ⟨S, C, xss⟩))) ∧ Below w.heap.size w w' := by
  have NC := fun W (hb : Below w.heap.size w W) => isName_calls S W hS (hT.of hb)
  have hdef : TbOk ⟨S, C, xss⟩ ↔ (dB (NameB S) = true ∧ 1 ≤ C ∧ C ≤ 16 ∧ ∀ xs ∈ xss, (xs.length : Int) = C) := by
    unfold TbOk
    rw [dB_iff]
  have HD := hide hdef; have HNC := hide NC; have HM := hide hM
  clear hdef NC hM hT
  generalize dB (NameB S) = b1 at *
  have hbad : ¬ (b1 = true ∧ 1 ≤ C ∧ C ≤ 16 ∧ ∀ xs ∈ xss, (xs.length : Int) = C) → dB (TbOk ⟨S, C, xss⟩) = false := fun h => dB_false (fun h' => h ((unhide HD).1 h'))
  have HBad := hide hbad
  clear hbad
  cases b1
  · have HE := hide (unhide HBad (fun h => by have := h.1; cases this))
    go_enter Tryd.func22, Tryd.ntmps22
    go_wp2_with fail
    refine (unhide HNC _ (bA (Below.refl _ _) _)).mono ?_; rintro e w1 ⟨rfl, rfl⟩
    go_wp2
    go_ret
    exact ⟨congrArg (fun z => Ending.returned (.bool z)) (unhide HE).symm, bA (Below.refl _ _) _⟩
  by_cases hC1 : C < 1
  · have HE := hide (unhide HBad (fun h => by have := h.2.1; omega))
    go_enter Tryd.func22, Tryd.ntmps22
    go_wp2_with fail
    refine (unhide HNC _ (bA (Below.refl _ _) _)).mono ?_; rintro e w1 ⟨rfl, rfl⟩
    go_wp2
    go_ret
    exact ⟨congrArg (fun z => Ending.returned (.bool z)) (unhide HE).symm, bA (Below.refl _ _) _⟩
  by_cases hC2 : 16 < C
  · have HE := hide (unhide HBad (fun h => by have := h.2.2.1; omega))
    go_enter Tryd.func22, Tryd.ntmps22
    go_wp2_with fail
    refine (unhide HNC _ (bA (Below.refl _ _) _)).mono ?_; rintro e w1 ⟨rfl, rfl⟩
    go_wp2
    go_ret
    exact ⟨congrArg (fun z => Ending.returned (.bool z)) (unhide HE).symm, bA (Below.refl _ _) _⟩
  have hGs : G < w.heap.size := (unhide HM).2.1
  go_enter Tryd.func22, Tryd.ntmps22
  go_wp2_with fail
  refine (unhide HNC _ (bA (Below.refl _ _) _)).mono ?_; rintro e w1 ⟨rfl, rfl⟩
  go_wp2
  go_loopw [22] (fun c wi => ∃ j : Nat, j ≤ xss.length ∧ c = .int .i64 j ∧ (∀ xs ∈ xss.take j, (xs.length : Int) = C) ∧ wi.cell? ⟨w.heap.size, 1, none⟩ = some (.int .i64 C) ∧ w.heap.size < wi.heap.size ∧ Below w.heap.size w wi) (fun c _ => xss.length - (intOf c).toNat)
  case atStart => exact ⟨0, Nat.zero_le _, rfl, fun x hx => by simp at hx, by simp [go_sem], by simp, bA (Below.refl _ _) _⟩
  case round =>
    obtain ⟨j, hj, rfl, hjw, ba, sa, hb⟩ := hrel
    have HJ := hide hjw
    clear hjw
    by_cases hjl : j < xss.length
    · obtain ⟨r, r0, hre, _, _, _, _⟩ := ((unhide HM).of hb).row j hjl
      unfold rv at r0
      rw [hre] at r0
      have j2 : (j : Int) < (xss.length : Int) := by omega
      have hGw : G < wr.heap.size := Nat.lt_of_lt_of_le hGs hb.size
      have hnext : ((xss[j]).length : Int) = C → ∀ xs ∈ xss.take (j + 1), (xs.length : Int) = C := fun h x hx => by
        rw [take_snoc xss j hjl] at hx
        rcases List.mem_append.1 hx with h' | h'
        · exact unhide HJ x h'
        · simp only [List.mem_singleton] at h'; rw [h']; exact h
      have hno : ((xss[j]).length : Int) ≠ C → dB (TbOk ⟨S, C, xss⟩) = false := fun h => unhide HBad (fun hh => h (hh.2.2.2 _ (List.getElem_mem hjl)))
      generalize (xss[j]).length = xl at *
      by_cases hx : (xl : Int) = C
      · have hx' : ((xl : Int) != C) = false := by simp [hx]
        have HNx := hide (hnext hx)
        clear hnext hno hx hre
        go_wp2
        go_roundw
        case rel => exact ⟨j + 1, by omega, by go_num, unhide HNx, ba, sa, hb⟩
        case measure => simp [intOf]; omega
      · have hx' : ((xl : Int) != C) = true := by simp [hx]
        have HE := hide (hno hx)
        clear hnext hno hx hre
        go_wp2
        go_ret
        exact ⟨congrArg (fun z => Ending.returned (.bool z)) (unhide HE).symm, hb⟩
    · obtain rfl : j = xss.length := by omega
      have hall := unhide HJ
      rw [List.take_length] at hall
      have HE : Hid (dB (TbOk ⟨S, C, xss⟩) = true) := dB_true ((unhide HD).2 ⟨by first | rfl | trivial, by omega, by omega, hall⟩)
      clear hall
      go_wp2
      go_ret
      exact ⟨congrArg (fun z => Ending.returned (.bool z)) HE.out.symm, hb⟩

theorem lawS : Maps.Keyed Tryd.prog 9 := Maps.string_keyed Tryd.underlying9
theorem make_map (n : Nat) (w : World) : (Instr.makeMap 55 (some (.int .i64 (n : Int)))).run Tryd.prog w = .ok (.map (some w.heap.size)) (w.alloc (.map #[] 0)) := by
  have h := run_underlying (w := w) Tryd.underlying55
  simp [Instr.makeMap, h, asInt, Result.andThen]
  rfl

set_option maxRecDepth 100000 in
set_option maxHeartbeats 2000000 in
theorem tablePlaces_calls (ts : List Tb) (g cap : Nat) (w : World) (hg : g < w.heap.size) (ht : TablesAt w g 0 ts) (hn : ts.length ≤ 1048576) (hsm : SmallT ts) :
    Calls Tryd.prog 23 #[.slice (some ⟨g, 0, none⟩) ts.length cap] w fun e w' => ∃ B D, e = .returned (.map (some B)) ∧ w'.ownsMap Tryd.prog 9 (plainElem (H := Unit) Tryd.prog 3) B ts.length D ∧ MapIn D ts ts.length ∧ Below w.heap.size w w' := by
  have hmm := make_map ts.length
  have HT := hide ht
  have hsz : ∀ (k : Nat) (hk : k < ts.length), (ts[k]).Name.size ≤ maxLen := fun k hk => by
    have := bulkT_mem (List.getElem_mem hk)
    unfold SmallT at hsm
    unfold maxLen
    omega
  have HSz := hide hsz
  clear ht hsm hsz
  go_enter Tryd.func23, Tryd.ntmps23
  go_wp2
  clear hmm
  go_loopw [11] (fun i wr => ∃ (k : Nat) (D : DataW Unit), k ≤ ts.length ∧ i = .int .i64 k ∧ wr.ownsMap Tryd.prog 9 (plainElem Tryd.prog 3) w.heap.size k D ∧ MapIn D ts k ∧ Below w.heap.size w wr) (fun i _ => ts.length - (intOf i).toNat)
  case atStart => exact ⟨0, _, Nat.zero_le _, rfl, World.ownsMap_made _ _ _ _, MapIn.start ts, bA (Below.refl _ _) _⟩
  case round =>
    obtain ⟨k, D, hk, rfl, hown, hin, hb⟩ := hrel
    by_cases hlt : k < ts.length
    · obtain ⟨c0, c1, G, c2, _⟩ := ((unhide HT).of hg hb).at k hlt
      simp only [Nat.zero_add] at c0 c1 c2
      have j1 : (k : Int) < (ts.length : Int) := by omega
      have q1 : g < wr.heap.size := Nat.lt_of_lt_of_le hg hb.size
      have hkey : keyOf Tryd.prog 9 (.string (ts[k]).Name) = some (.string (ts[k]).Name.data.toList) := WideMaps.keyOf_string_mk Tryd.underlying9 (unhide HSz k hlt)
      have hput := fun d => hin.put hlt (hown.tidy lawS) d
      generalize (ts[k]).Cols = C at *
      generalize (ts[k]).Rows.length = rl at *
      generalize (ts[k]).Name = S at *
      have HK := hide hkey; have HP := hide hput; have HO := hide hown
      clear hkey hput hin hown
      go_wp2_with (first
        | (at_mapUpdate; go_loud (refine wpList_mapUpdate_own _ rfl _ _ _ 55 rfl 9 3 lawS Tryd.underlying55 _ w.heap.size k D rfl ((unhide HO).alloc _) (by unfold maxLen; omega) _ _ _ rfl rfl (unhide HK) _ [] (plainElem_int Tryd.underlying3 (WalkArith.wf_i64 (by omega))) ?_))
        | go_in)
      intro w1 hown1 hgrow1
      have R1 := hide hown1
      have R2 := (bA hb _).grown hgrow1 (bA hb _).size (fun j hj => by cases hj; exact Nat.le_refl _)
      clear hown1 hgrow1
      go_wp2
      go_roundw
      case rel => exact ⟨k + 1, _, by omega, by go_num, unhide R1, unhide HP _, R2⟩
      case measure => simp [intOf]; omega
    · obtain rfl : k = ts.length := by omega
      go_wp2
      go_ret
      exact ⟨_, D, rfl, hown, hin, hb⟩
end Go.Proofs.YtahanplikbdccaaDoor
