import Derived.Test.YtmcbmmpjhijagaaGreatDoorQ33
import Derived.Test.YtmcbmmpjhijagaaGreatDoorQ40
import Derived.Test.YtmcbmmpjhijagaaGreatDoorNodeOkA
import Derived.Test.YtmcbmmpjhijagaaGreatDoorNodeOkB
import Derived.Test.YtmcbmmpjhijagaaGreatDoorNodeOkC
import Derived.Test.YtmcbmmpjhijagaaGreatDoorNodeOkD
import Derived.Test.YtmcbmmpjhijagaaGreatDoorQ34
namespace Go.Proofs.YtmcbmmpjhijagaaGreatDoor
open Go Go.RowKit
set_option maxHeartbeats 8000000 in
set_option maxRecDepth 100000 in
theorem nodeOkX (K N M : Int) (S T : ByteArray) (ks : List Int) (kg kl : Nat) (kd : List Int) (q : ByteArray) (g cap len i : Nat) (w : World) (_ : g < w.heap.size) (_ : (i : Int) < (len : Int)) (hq : q.toList = kd.map ltr)
    (_ : q.size ≤ 1048576) (_ : S.size ≤ 1048576) (_ : T.size ≤ 1048576)
    (_ : w.cell? ⟨g, i * 6, none⟩ = some (.int .i64 K)) (_ : w.cell? ⟨g, i * 6 + 1, none⟩ = some (.int .i64 N)) (_ : w.cell? ⟨g, i * 6 + 2, none⟩ = some (.int .i64 M))
    (_ : w.cell? ⟨g, i * 6 + 3, none⟩ = some (.string S)) (_ : w.cell? ⟨g, i * 6 + 4, none⟩ = some (.string T)) (_ : w.cell? ⟨g, i * 6 + 5, none⟩ = some (.slice (some ⟨kg, 0, none⟩) kl kl))
    (KC : Hid (∀ W, Below w.heap.size w W → Calls Tryz.prog 51 #[.slice (some ⟨g, 0, none⟩) len cap, .int .i64 (i : Int)] W fun e w' => e = .returned (.string q) ∧ w' = W)) (hK : K < 1 ∨ 15 < K) :
    Calls Tryz.prog 20 #[.slice (some ⟨g, 0, none⟩) len cap, .int .i64 (i : Int)] w fun e w' => e = .returned (.bool (dB (FitS ⟨K, N, M, S, T, ks⟩ kd))) ∧ Below w.heap.size w w' := by
  have k1 : (K == 1) = false := beq_eq_false_iff_ne.2 (by omega)
  have k2 : (K == 2) = false := beq_eq_false_iff_ne.2 (by omega)
  have k3 : (K == 3) = false := beq_eq_false_iff_ne.2 (by omega)
  have k4 : (K == 4) = false := beq_eq_false_iff_ne.2 (by omega)
  have k5 : (K == 5) = false := beq_eq_false_iff_ne.2 (by omega)
  have k6 : (K == 6) = false := beq_eq_false_iff_ne.2 (by omega)
  have k7 : (K == 7) = false := beq_eq_false_iff_ne.2 (by omega)
  have k8 : (K == 8) = false := beq_eq_false_iff_ne.2 (by omega)
  have k9 : (K == 9) = false := beq_eq_false_iff_ne.2 (by omega)
  have k10 : (K == 10) = false := beq_eq_false_iff_ne.2 (by omega)
  have k11 : (K == 11) = false := beq_eq_false_iff_ne.2 (by omega)
  have k12 : (K == 12) = false := beq_eq_false_iff_ne.2 (by omega)
  have k13 : (K == 13) = false := beq_eq_false_iff_ne.2 (by omega)
  have k14 : (K == 14) = false := beq_eq_false_iff_ne.2 (by omega)
  have k15 : (K == 15) = false := beq_eq_false_iff_ne.2 (by omega)
  cases bS : (S.toList == ([] : List UInt8))
  · have HE : Hid (dB (FitS ⟨K, N, M, S, T, ks⟩ kd) = false) := dB_false (fun h => by simp [FitS, ← hq] at h <;> grind)
    clear hq
    go_enter Tryz.func20, Tryz.ntmps20
    go_wp2_with fail
    refine (KC.out _ (by (repeat (first | exact Below.refl _ _ | refine bA ?_ _ | refine Below.setCell ?_ (by simp) _)))).mono ?_; rintro e w1 ⟨rfl, rfl⟩
    go_wp2
    go_ret
    exact ⟨congrArg (fun z => Ending.returned (.bool z)) HE.out.symm, (by (repeat (first | exact Below.refl _ _ | refine bA ?_ _ | refine Below.setCell ?_ (by simp) _)))⟩
  cases bT : (T.toList == ([] : List UInt8))
  · have HE : Hid (dB (FitS ⟨K, N, M, S, T, ks⟩ kd) = false) := dB_false (fun h => by simp [FitS, ← hq] at h <;> grind)
    clear hq
    go_enter Tryz.func20, Tryz.ntmps20
    go_wp2_with fail
    refine (KC.out _ (by (repeat (first | exact Below.refl _ _ | refine bA ?_ _ | refine Below.setCell ?_ (by simp) _)))).mono ?_; rintro e w1 ⟨rfl, rfl⟩
    go_wp2
    go_ret
    exact ⟨congrArg (fun z => Ending.returned (.bool z)) HE.out.symm, (by (repeat (first | exact Below.refl _ _ | refine bA ?_ _ | refine Below.setCell ?_ (by simp) _)))⟩
  cases bN : (N == 0)
  · have HE : Hid (dB (FitS ⟨K, N, M, S, T, ks⟩ kd) = false) := dB_false (fun h => by simp [FitS, ← hq] at h <;> grind)
    clear hq
    go_enter Tryz.func20, Tryz.ntmps20
    go_wp2_with fail
    refine (KC.out _ (by (repeat (first | exact Below.refl _ _ | refine bA ?_ _ | refine Below.setCell ?_ (by simp) _)))).mono ?_; rintro e w1 ⟨rfl, rfl⟩
    go_wp2
    go_ret
    exact ⟨congrArg (fun z => Ending.returned (.bool z)) HE.out.symm, (by (repeat (first | exact Below.refl _ _ | refine bA ?_ _ | refine Below.setCell ?_ (by simp) _)))⟩
  obtain rfl : N = 0 := by simpa using bN
  cases bM : (M == 0)
  · have HE : Hid (dB (FitS ⟨K, 0, M, S, T, ks⟩ kd) = false) := dB_false (fun h => by simp [FitS, ← hq] at h <;> grind)
    clear hq
    go_enter Tryz.func20, Tryz.ntmps20
    go_wp2_with fail
    refine (KC.out _ (by (repeat (first | exact Below.refl _ _ | refine bA ?_ _ | refine Below.setCell ?_ (by simp) _)))).mono ?_; rintro e w1 ⟨rfl, rfl⟩
    go_wp2
    go_ret
    exact ⟨congrArg (fun z => Ending.returned (.bool z)) HE.out.symm, (by (repeat (first | exact Below.refl _ _ | refine bA ?_ _ | refine Below.setCell ?_ (by simp) _)))⟩
  obtain rfl : M = 0 := by simpa using bM
  · have HE : Hid (dB (FitS ⟨K, 0, 0, S, T, ks⟩ kd) = false) := dB_false (fun h => by simp [FitS, ← hq] at h <;> grind)
    clear hq
    go_enter Tryz.func20, Tryz.ntmps20
    go_wp2_with fail
    refine (KC.out _ (by (repeat (first | exact Below.refl _ _ | refine bA ?_ _ | refine Below.setCell ?_ (by simp) _)))).mono ?_; rintro e w1 ⟨rfl, rfl⟩
    go_wp2
    go_ret
    exact ⟨congrArg (fun z => Ending.returned (.bool z)) HE.out.symm, (by (repeat (first | exact Below.refl _ _ | refine bA ?_ _ | refine Below.setCell ?_ (by simp) _)))⟩
end Go.Proofs.YtmcbmmpjhijagaaGreatDoor
namespace Go.Proofs.YtmcbmmpjhijagaaGreatDoor
open Go Go.RowKit
set_option maxHeartbeats 8000000 in
set_option maxRecDepth 100000 in
theorem nodeOk7 (ns : List Nd) (N M : Int) (S T : ByteArray) (ks : List Int) (q : ByteArray) (g cap i : Nat) (w : World) (hg : g < w.heap.size) (hi : i < ns.length) (_ : ns.length ≤ 10000)
    (hn : NodesAt w g 0 ns) (he : ns[i] = ⟨7, N, M, S, T, ks⟩) (_ : ks.length ≤ 10000) (hk : KidsIn ns ks)
    (KC : Hid (∀ W, Below w.heap.size w W → Calls Tryz.prog 51 #[.slice (some ⟨g, 0, none⟩) ns.length cap, .int .i64 (i : Int)] W fun e w' => e = .returned (.string q) ∧ w' = W)) :
    Calls Tryz.prog 20 #[.slice (some ⟨g, 0, none⟩) ns.length cap, .int .i64 (i : Int)] w fun e w' => e = .returned (.bool (dB (FitS ⟨7, N, M, S, T, ks⟩ (kindsOf ns ks)))) ∧ Below w.heap.size w w' := by
  obtain ⟨⟨c0, c1, c2, c3, c4⟩, kg, c5, _, hkg, hks⟩ := hn.at i hi
  rw [he] at c0 c1 c2 c3 c4 c5 hks
  simp only [Nat.zero_add] at c0 c1 c2 c3 c4 c5 hks
  have j0 : (i : Int) < (ns.length : Int) := by omega
  have HF : Hid (FitS ⟨7, N, M, S, T, ks⟩ (kindsOf ns ks) ↔ (S.toList = [] ∧ T.toList = [] ∧ N = 0 ∧ M = 0 ∧ (∀ x ∈ kindsOf ns ks, x = 6) ∧ 2 ≤ ks.length)) := by
    show _ ↔ _
    simp [FitS, kindsOf]
  have HN := hide hn; have HK := hide hk; have HS := hide hks
  clear he hn hk hks
  cases bS : (S.toList == ([] : List UInt8))
  · have HE : Hid (dB (FitS ⟨7, N, M, S, T, ks⟩ (kindsOf ns ks)) = false) := dB_false (fun h => by have := (HF.out.1 h).1; simp [this] at bS)
    clear HF
    go_enter Tryz.func20, Tryz.ntmps20
    go_wp2_with fail
    refine (KC.out _ (by (repeat (first | exact Below.refl _ _ | refine bA ?_ _ | refine Below.setCell ?_ (by simp) _)))).mono ?_; rintro e w1 ⟨rfl, rfl⟩
    go_wp2
    go_ret
    exact ⟨congrArg (fun z => Ending.returned (.bool z)) HE.out.symm, (by (repeat (first | exact Below.refl _ _ | refine bA ?_ _ | refine Below.setCell ?_ (by simp) _)))⟩
  cases bT : (T.toList == ([] : List UInt8))
  · have HE : Hid (dB (FitS ⟨7, N, M, S, T, ks⟩ (kindsOf ns ks)) = false) := dB_false (fun h => by have := (HF.out.1 h).2.1; simp [this] at bT)
    clear HF
    go_enter Tryz.func20, Tryz.ntmps20
    go_wp2_with fail
    refine (KC.out _ (by (repeat (first | exact Below.refl _ _ | refine bA ?_ _ | refine Below.setCell ?_ (by simp) _)))).mono ?_; rintro e w1 ⟨rfl, rfl⟩
    go_wp2
    go_ret
    exact ⟨congrArg (fun z => Ending.returned (.bool z)) HE.out.symm, (by (repeat (first | exact Below.refl _ _ | refine bA ?_ _ | refine Below.setCell ?_ (by simp) _)))⟩
  cases bN : (N == 0)
  · have HE : Hid (dB (FitS ⟨7, N, M, S, T, ks⟩ (kindsOf ns ks)) = false) := dB_false (fun h => by have := (HF.out.1 h).2.2.1; simp [this] at bN)
    clear HF
    go_enter Tryz.func20, Tryz.ntmps20
    go_wp2_with fail
    refine (KC.out _ (by (repeat (first | exact Below.refl _ _ | refine bA ?_ _ | refine Below.setCell ?_ (by simp) _)))).mono ?_; rintro e w1 ⟨rfl, rfl⟩
    go_wp2
    go_ret
    exact ⟨congrArg (fun z => Ending.returned (.bool z)) HE.out.symm, (by (repeat (first | exact Below.refl _ _ | refine bA ?_ _ | refine Below.setCell ?_ (by simp) _)))⟩
  cases bM : (M == 0)
  · have HE : Hid (dB (FitS ⟨7, N, M, S, T, ks⟩ (kindsOf ns ks)) = false) := dB_false (fun h => by have := (HF.out.1 h).2.2.2.1; simp [this] at bM)
    clear HF
    go_enter Tryz.func20, Tryz.ntmps20
    go_wp2_with fail
    refine (KC.out _ (by (repeat (first | exact Below.refl _ _ | refine bA ?_ _ | refine Below.setCell ?_ (by simp) _)))).mono ?_; rintro e w1 ⟨rfl, rfl⟩
    go_wp2
    go_ret
    exact ⟨congrArg (fun z => Ending.returned (.bool z)) HE.out.symm, (by (repeat (first | exact Below.refl _ _ | refine bA ?_ _ | refine Below.setCell ?_ (by simp) _)))⟩
  obtain rfl : M = 0 := by simpa using bM
  obtain rfl : N = 0 := by simpa using bN
  have HG : Hid (FitS ⟨7, 0, 0, S, T, ks⟩ (kindsOf ns ks) ↔ ((∀ x ∈ kindsOf ns ks, x = 6) ∧ 2 ≤ ks.length)) := by
    show _ ↔ _
    rw [HF.out]
    simp at bS bT
    simp [bS, bT]
  clear HF
  go_enter Tryz.func20, Tryz.ntmps20
  go_wp2_with fail
  refine (KC.out _ (by (repeat (first | exact Below.refl _ _ | refine bA ?_ _ | refine Below.setCell ?_ (by simp) _)))).mono ?_; rintro e w1 ⟨rfl, rfl⟩
  go_wp2
  go_loopw [12] (fun c wr => ∃ k : Nat, k ≤ ks.length ∧ c = .int .i64 k ∧ (∀ x ∈ (kindsOf ns ks).take k, x = 6) ∧ wr.cell? ⟨w.heap.size, 5, none⟩ = some (.slice (some ⟨kg, 0, none⟩) ks.length ks.length) ∧ w.heap.size < wr.heap.size ∧ Below w.heap.size w wr) (fun c _ => ks.length - (intOf c).toNat)
  case atStart => exact ⟨0, Nat.zero_le _, rfl, fun x hx => by simp at hx, by simp [go_sem], by simp, (by (repeat (first | exact Below.refl _ _ | refine bA ?_ _ | refine Below.setCell ?_ (by simp) _)))⟩
  case round =>
    obtain ⟨k, hk, rfl, hw, b5, hsz, hb⟩ := hrel
    have HW := hide hw
    clear hw
    by_cases hlt : k < ks.length
    · have j1 : (k : Int) < (ks.length : Int) := by omega
      have e0 := ((unhide HS).of hkg hb).at k hlt
      obtain ⟨p, hp⟩ := Int.eq_ofNat_of_zero_le ((unhide HK) ks[k] (List.getElem_mem hlt)).1
      have hpl : p < ns.length := by have := ((unhide HK) ks[k] (List.getElem_mem hlt)).2; omega
      obtain ⟨⟨d0, _, _, _, _⟩, _⟩ := ((unhide HN).of hg hb).at p hpl
      have j2 : (p : Int) < (ns.length : Int) := by omega
      have q1 : g < wr.heap.size := Nat.lt_of_lt_of_le hg hb.size
      have q2 : kg < wr.heap.size := Nat.lt_of_lt_of_le hkg hb.size
      have hkd : k < (kindsOf ns ks).length := by simp [kindsOf]; exact hlt
      have hkx : (kindsOf ns ks)[k] = (ns[p]).K := by
        simp only [kindsOf, List.getElem_map]
        rw [hp, show ((p : Int)).toNat = p by simp, kindAt_some (List.getElem?_eq_getElem hpl)]
      have hnext : (ns[p]).K = 6 → ∀ x ∈ (kindsOf ns ks).take (k + 1), x = 6 := fun h x hx => by
        rw [take_snocN _ k hkd] at hx
        rcases List.mem_append.1 hx with h' | h'
        · exact unhide HW x h'
        · simp only [List.mem_singleton] at h'; rw [h', hkx]; exact h
      have hbad : (ns[p]).K ≠ 6 → ¬ FitS ⟨7, 0, 0, S, T, ks⟩ (kindsOf ns ks) := fun h hh => h (by rw [← hkx]; exact (HG.out.1 hh).1 _ (List.getElem_mem hkd))
      have Hn := hide hnext; have Hb := hide hbad
      clear hnext hbad hkx hkd
      rw [hp] at e0
      simp only [Nat.zero_add] at e0 d0
      generalize (ns[p]).K = K at *
      clear hp
      by_cases h6 : K = 6
      · have h6' : (K != 6) = false := by simp [h6]
        have H6 := hide h6
        clear h6
        go_wp2
        go_roundw
        case rel => exact ⟨k + 1, by omega, by go_num, unhide Hn (unhide H6), b5, hsz, hb⟩
        case measure => simp [intOf]; omega
      · have h6' : (K != 6) = true := by simp [h6]
        have H6 := hide h6
        clear h6
        go_wp2
        go_ret
        exact ⟨congrArg (fun z => Ending.returned (.bool z)) (dB_false (unhide Hb (unhide H6))).symm, hb⟩
    · obtain rfl : k = ks.length := by omega
      have HE : Hid (dB (FitS ⟨7, 0, 0, S, T, ks⟩ (kindsOf ns ks)) = decide ((2 : Int) ≤ (ks.length : Int))) := by
        show _ = _
        rw [Bool.eq_iff_iff, dB_iff, decide_eq_true_eq, HG.out]
        have := unhide HW
        rw [List.take_of_length_le (by simp [kindsOf])] at this
        exact ⟨fun h => by have := h.2; omega, fun h => ⟨this, by omega⟩⟩
      clear HW HG
      go_wp2
      go_ret
      exact ⟨congrArg (fun z => Ending.returned (.bool z)) HE.out.symm, hb⟩
end Go.Proofs.YtmcbmmpjhijagaaGreatDoor
namespace Go.Proofs.YtmcbmmpjhijagaaGreatDoor
open Go Go.RowKit
theorem nodeOk_calls (ns : List Nd) (g cap i : Nat) (w : World) (hg : g < w.heap.size) (hn : NodesAt w g 0 ns) (hb1 : ns.length ≤ 10000) (hi : i < ns.length) (hsm : Small ns) (hk : KidsIn ns (ns[i]).Kids) (hkl : (ns[i]).Kids.length ≤ 10000) :
    Calls Tryz.prog 20 #[.slice (some ⟨g, 0, none⟩) ns.length cap, .int .i64 (i : Int)] w fun e w' => e = .returned (.bool (dB (FitS ns[i] (kindsOf ns (ns[i]).Kids)))) ∧ Below w.heap.size w w' := by
  have KC : Hid (∀ W, Below w.heap.size w W → Calls Tryz.prog 51 #[.slice (some ⟨g, 0, none⟩) ns.length cap, .int .i64 (i : Int)] W fun e w' => e = .returned (.string (mkS ((kindsOf ns (ns[i]).Kids).map ltr))) ∧ w' = W) :=
    fun W hb => kinds_calls ns g cap i W (Nat.lt_of_lt_of_le hg hb.size) (hn.of hg hb) hb1 hi hk hkl
  obtain ⟨⟨c0, c1, c2, c3, c4⟩, kg, c5, _, _, _⟩ := hn.at i hi
  obtain ⟨hS, hT, _⟩ := hsm _ (List.getElem_mem hi)
  simp only [Nat.zero_add] at c0 c1 c2 c3 c4 c5
  have j0 : (i : Int) < (ns.length : Int) := by omega
  cases e : ns[i] with | mk K N M S T ks =>
  rw [e] at c0 c1 c2 c3 c4 c5 hS hT hk hkl KC
  simp only at c0 c1 c2 c3 c4 c5 hS hT hk hkl KC ⊢
  have hq := mkS_toList ((kindsOf ns ks).map ltr)
  have hqs : (mkS ((kindsOf ns ks).map ltr)).size ≤ 1048576 := by rw [mkS_size]; simp [kindsOf]; omega
  by_cases hK : K < 1 ∨ 15 < K
  · exact nodeOkX K N M S T ks kg ks.length _ _ g cap ns.length i w hg j0 hq hqs hS hT c0 c1 c2 c3 c4 c5 KC hK
  have hc : K = 1 ∨ K = 2 ∨ K = 3 ∨ K = 4 ∨ K = 5 ∨ K = 6 ∨ K = 7 ∨ K = 8 ∨ K = 9 ∨ K = 10 ∨ K = 11 ∨ K = 12 ∨ K = 13 ∨ K = 14 ∨ K = 15 := by omega
  rcases hc with rfl | rfl | rfl | rfl | rfl | rfl | rfl | rfl | rfl | rfl | rfl | rfl | rfl | rfl | rfl
  · exact nodeOk1 N M S T ks kg ks.length _ _ g cap ns.length i w hg j0 hq hqs hS hT c0 c1 c2 c3 c4 c5 KC
  · exact nodeOk2 N M S T ks kg ks.length _ _ g cap ns.length i w hg j0 hq hqs hS hT c0 c1 c2 c3 c4 c5 KC
  · exact nodeOk3 N M S T ks kg ks.length _ _ g cap ns.length i w hg j0 hq hqs hS hT c0 c1 c2 c3 c4 c5 KC
  · exact nodeOk4 N M S T ks kg ks.length _ _ g cap ns.length i w hg j0 hq hqs hS hT c0 c1 c2 c3 c4 c5 KC
  · exact nodeOk5 N M S T ks kg ks.length _ _ g cap ns.length i w hg j0 hq hqs hS hT c0 c1 c2 c3 c4 c5 KC
  · exact nodeOk6 N M S T ks kg ks.length _ _ g cap ns.length i w hg j0 hq hqs hS hT c0 c1 c2 c3 c4 c5 KC
  · exact nodeOk7 ns N M S T ks _ g cap i w hg hi hb1 hn e hkl hk KC
  · exact nodeOk8 N M S T ks kg ks.length _ _ g cap ns.length i w hg j0 hq hqs hS hT c0 c1 c2 c3 c4 c5 KC
  · exact nodeOk9 N M S T ks kg ks.length _ _ g cap ns.length i w hg j0 hq hqs hS hT c0 c1 c2 c3 c4 c5 KC
  · exact nodeOk10 N M S T ks kg ks.length _ _ g cap ns.length i w hg j0 hq hqs hS hT c0 c1 c2 c3 c4 c5 KC
  · exact nodeOk11 N M S T ks kg ks.length _ _ g cap ns.length i w hg j0 hq hqs hS hT c0 c1 c2 c3 c4 c5 KC
  · exact nodeOk12 N M S T ks kg ks.length _ _ g cap ns.length i w hg j0 hq hqs hS hT c0 c1 c2 c3 c4 c5 KC
  · exact nodeOk13 N M S T ks kg ks.length _ _ g cap ns.length i w hg j0 hq hqs hS hT c0 c1 c2 c3 c4 c5 KC
  · exact nodeOk14 N M S T ks kg ks.length _ _ g cap ns.length i w hg j0 hq hqs hS hT c0 c1 c2 c3 c4 c5 KC
  · exact nodeOk15 N M S T ks kg ks.length _ _ g cap ns.length i w hg j0 hq hqs hS hT c0 c1 c2 c3 c4 c5 KC
theorem sAstOk_calls (ns : List Nd) (g cap : Nat) (w : World) (hg : g < w.heap.size) (hn : NodesAt w g 0 ns) (hb0 : ns.length ≤ 1048576) (hsm : Small ns) :
    Calls Tryz.prog 10 #[.agg #[.slice (some ⟨g, 0, none⟩) ns.length cap]] w fun e w' => e = .returned (.bool (dB (SV ns))) ∧ Below w.heap.size w w' :=
  sAstOk_of ns g cap w hg hn hb0 hsm (fun hb1 hseg i hi W hb => nodeOk_calls ns g cap i W (Nat.lt_of_lt_of_le hg hb.size) (hn.of hg hb) hb1 hi hsm (seg_kids hseg hb1 i hi).1 (seg_kids hseg hb1 i hi).2)
end Go.Proofs.YtmcbmmpjhijagaaGreatDoor
