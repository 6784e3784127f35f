import Derived.Test.YtmcbmmpjhijagaaGreatDoorQ3
import Derived.Test.YtmcbmmpjhijagaaGreatDoorQ46
import Derived.BigQuiet
import Derived.Deep.RegionHeld3
import Derived.Deep.DeepCutAuto
import Derived.Test.YtmcbmmpjhijagaaGreatDoorQ45
import Derived.Test.YtmcbmmpjhijagaaGreatDoorImplAst
namespace Go.Proofs.YtmcbmmpjhijagaaGreatDoor
open Go Go.RowKit
theorem szIntS_calls (v : Value) (xs : List Int) (left : Int) (w : World) (hv : IsInts w v xs) (hl : xs.length ≤ maxLen) (h0 : 0 ≤ left) (h1 : left ≤ 1048576) :
    Calls Tryz.prog 50 #[v, .int .i64 left] w fun e w' => e = .returned (.int .i64 (szr left xs.length)) ∧ w' = w := by
  unfold maxLen at hl
  unfold szr
  obtain ⟨a, cap, rfl⟩ : ∃ a cap, v = .slice a xs.length cap := by
    rcases hv with ⟨rfl, a, cap, rfl⟩ | ⟨g, off, cap, rfl, _⟩
    · exact ⟨a, cap, rfl⟩
    · exact ⟨_, cap, rfl⟩
  clear hv
  by_cases h : left < xs.length
  · rw [if_pos h]
    go_enter Tryz.func50, Tryz.ntmps50
    go_wp2
    go_ret
    exact ⟨rfl, rfl⟩
  · rw [if_neg h]
    go_enter Tryz.func50, Tryz.ntmps50
    go_wp2
    go_ret
    exact ⟨rfl, rfl⟩
set_option maxHeartbeats 1000000 in
theorem szNode_calls (K N M : Int) (S T : ByteArray) (v : Value) (xs : List Int) (left : Int) (w : World) (hv : IsInts w v xs) (hl : xs.length ≤ maxLen) (hS : S.size ≤ maxLen) (hT : T.size ≤ maxLen) (h0 : 0 ≤ left) (h1 : left ≤ 1048576) :
    Calls Tryz.prog 18 #[.agg #[.int .i64 K, .int .i64 N, .int .i64 M, .string S, .string T, v], .int .i64 left] w fun e w' => e = .returned (.int .i64 (szr left (S.size + T.size + xs.length))) ∧ Below w.heap.size w w' := by
  have SZ := fun W (hb : Below w.heap.size w W) (l : Int) h0 h1 => szIntS_calls v xs l W (hv.of hb) hl h0 h1
  have HZ := hide SZ
  obtain ⟨a, cap, rfl⟩ : ∃ a cap, v = .slice a xs.length cap := by
    rcases hv with ⟨rfl, a, cap, rfl⟩ | ⟨g, off, cap, rfl, _⟩
    · exact ⟨a, cap, rfl⟩
    · exact ⟨_, cap, rfl⟩
  clear SZ hv
  unfold maxLen at hl hS hT
  by_cases c1 : left < (S.size : Int)
  · have HE : Hid (szr left (S.size + T.size + xs.length) = -1) := by show _ = _; unfold szr; rw [if_pos (by omega)]
    go_enter Tryz.func18, Tryz.ntmps18
    go_wp2
    go_ret
    exact ⟨congrArg (fun z => Ending.returned (.int .i64 z)) HE.out.symm, bA (Below.refl _ _) _⟩
  by_cases c2 : left - (S.size : Int) < (T.size : Int)
  · have HE : Hid (szr left (S.size + T.size + xs.length) = -1) := by show _ = _; unfold szr; rw [if_pos (by omega)]
    go_enter Tryz.func18, Tryz.ntmps18
    go_wp2
    go_ret
    exact ⟨congrArg (fun z => Ending.returned (.int .i64 z)) HE.out.symm, bA (Below.refl _ _) _⟩
  have SZ2 := fun W hb => unhide HZ W hb (left - (S.size : Int) - (T.size : Int)) (by omega) (by omega)
  by_cases c3 : left - (S.size : Int) - (T.size : Int) < (xs.length : Int)
  · have HE : Hid (szr left (S.size + T.size + xs.length) = -1) := by show _ = _; unfold szr; rw [if_pos (by omega)]
    have e : szr (left - (S.size : Int) - (T.size : Int)) xs.length = -1 := by unfold szr; rw [if_pos c3]
    rw [e] at SZ2
    have HZ2 := hide SZ2
    clear SZ2 HZ e
    go_enter Tryz.func18, Tryz.ntmps18
    go_wp2_with fail
    refine (unhide HZ2 _ (bA (Below.refl _ _) _)).mono ?_; rintro e w1 ⟨rfl, rfl⟩
    go_wp2
    go_ret
    exact ⟨congrArg (fun z => Ending.returned (.int .i64 z)) HE.out.symm, bA (Below.refl _ _) _⟩
  · have HE : Hid (szr left (S.size + T.size + xs.length) = left - (S.size : Int) - (T.size : Int) - (xs.length : Int)) := by show _ = _; unfold szr; rw [if_neg (by omega)]; omega
    have e : szr (left - (S.size : Int) - (T.size : Int)) xs.length = left - (S.size : Int) - (T.size : Int) - (xs.length : Int) := by unfold szr; rw [if_neg c3]
    rw [e] at SZ2
    have HZ2 := hide SZ2
    clear SZ2 HZ e
    go_enter Tryz.func18, Tryz.ntmps18
    go_wp2_with fail
    refine (unhide HZ2 _ (bA (Below.refl _ _) _)).mono ?_; rintro e w1 ⟨rfl, rfl⟩
    go_wp2
    go_ret
    exact ⟨congrArg (fun z => Ending.returned (.int .i64 z)) HE.out.symm, bA (Below.refl _ _) _⟩
def Fits (ns : List Nd) : Prop := ∀ n ∈ ns, n.S.size ≤ maxLen ∧ n.T.size ≤ maxLen ∧ n.Kids.length ≤ maxLen
set_option maxHeartbeats 2000000 in
theorem szNodeS_calls (v : Value) (ns : List Nd) (left : Int) (w : World) (hv : IsNodes w v ns) (hl : ns.length ≤ maxLen) (hf : Fits ns) (h0 : 0 ≤ left) (h1 : left ≤ 1048576) :
    Calls Tryz.prog 9 #[v, .int .i64 left] w fun e w' => e = .returned (.int .i64 (szr left (ns.length + bulkN ns))) ∧ Below w.heap.size w w' := by
  have HV := hide hv
  obtain ⟨a, cap, rfl⟩ : ∃ a cap, v = .slice a ns.length cap := by
    rcases hv with ⟨rfl, a, cap, rfl⟩ | ⟨g, off, cap, rfl, _⟩
    · exact ⟨a, cap, rfl⟩
    · exact ⟨_, cap, rfl⟩
  have HF := hide hf
  clear hv hf
  unfold maxLen at hl
  by_cases c1 : left < (ns.length : Int)
  · have HE : Hid (szr left (ns.length + bulkN ns) = -1) := by show _ = _; unfold szr; rw [if_pos (by omega)]
    go_enter Tryz.func9, Tryz.ntmps9
    go_wp2
    go_ret
    exact ⟨congrArg (fun z => Ending.returned (.int .i64 z)) HE.out.symm, Below.refl _ _⟩
  go_enter Tryz.func9, Tryz.ntmps9
  go_wp2
  go_loopw [1, 5] (fun l c wr => ∃ (k : Nat) (lv : Int), k ≤ ns.length ∧ c = .int .i64 k ∧ l = .int .i64 lv ∧ lv = left - (ns.length : Int) - (bulkN (ns.take k) : Int) ∧ 0 ≤ lv ∧ Below w.heap.size w wr) (fun _ c _ => ns.length - (intOf c).toNat)
  case atStart => exact ⟨0, _, Nat.zero_le _, rfl, rfl, by simp [bulkN], by omega, Below.refl _ _⟩
  case round =>
    obtain ⟨k, lv, hk, rfl, rfl, hlv, hlv0, hb⟩ := hrel
    have HLV := hide hlv
    have hlv1 : lv ≤ 1048576 := by omega
    clear hlv
    by_cases hlt : k < ns.length
    · obtain ⟨g, off, rfl, hg, hc5, ua, ucap, hu, hiu⟩ : ∃ g off, a = some ⟨g, off, none⟩ ∧ g < w.heap.size ∧ Cells5 w g (off + k * 6) ns[k] ∧ ∃ ua ucap, w.cell? ⟨g, off + k * 6 + 5, none⟩ = some (.slice ua (ns[k]).Kids.length ucap) ∧ IsInts w (.slice ua (ns[k]).Kids.length ucap) (ns[k]).Kids := by
        rcases unhide HV with ⟨h, _⟩ | ⟨g, off, cap', he, hg, hr⟩
        · subst h; simp at hlt
        · simp only [Value.slice.injEq, true_and] at he
          obtain ⟨rfl, rfl⟩ := he
          obtain ⟨hc, u, hu, hiu⟩ := hr k ns[k] (List.getElem?_eq_getElem hlt)
          obtain ⟨ua, ucap, rfl⟩ : ∃ ua ucap, u = .slice ua (ns[k]).Kids.length ucap := by
            rcases hiu with ⟨h, a, cap, rfl⟩ | ⟨g, off, cap, rfl, _⟩
            · rw [h]; exact ⟨a, cap, rfl⟩
            · exact ⟨_, cap, rfl⟩
          exact ⟨g, off, rfl, hg, hc, ua, ucap, hu, hiu⟩
      obtain ⟨c0, c1', c2, c3, c4⟩ := hc5.of hg hb
      have c5 := (hb.cell (p := ⟨g, off + k * 6 + 5, none⟩) hg).trans hu
      obtain ⟨fS, fT, fK⟩ := unhide HF _ (List.getElem_mem hlt)
      have SN := szNode_calls (ns[k]).K (ns[k]).N (ns[k]).M (ns[k]).S (ns[k]).T _ (ns[k]).Kids lv wr (hiu.of hb) fK fS fT hlv0 hlv1
      have hbt := bulkN_take ns k hlt
      have hble := bulkN_take_le ns (k + 1)
      have q1 : g < wr.heap.size := Nat.lt_of_lt_of_le hg hb.size
      have j1 : (k : Int) < (ns.length : Int) := by omega
      clear hc5 hu hiu fS fT fK
      generalize (ns[k]).S.size + (ns[k]).T.size + (ns[k]).Kids.length = tot at *
      cases e : ns[k] with | mk K N M S T ks =>
      rw [e] at c0 c1' c2 c3 c4 c5 SN
      simp only at c0 c1' c2 c3 c4 c5 SN
      clear e
      by_cases hlow : lv < (tot : Int)
      · have HE : Hid (szr left (ns.length + bulkN ns) = -1) := by
          show _ = _
          have := unhide HLV
          unfold szr
          rw [if_pos (by omega)]
        have e2 : szr lv tot = -1 := by unfold szr; rw [if_pos hlow]
        rw [e2] at SN
        have HSN := hide SN
        clear SN e2
        go_wp2_with fail
        refine (unhide HSN).mono ?_; rintro e w1 ⟨rfl, hb1⟩
        go_wp2
        go_ret
        exact ⟨congrArg (fun z => Ending.returned (.int .i64 z)) HE.out.symm, bT hb hb1⟩
      · have e2 : szr lv tot = lv - (tot : Int) := by unfold szr; rw [if_neg hlow]
        rw [e2] at SN
        have HSN := hide SN; have HBT := hide hbt
        have n1 : ¬ lv - (tot : Int) < 0 := by omega
        clear SN e2 hbt hble
        go_wp2_with fail
        refine (unhide HSN).mono ?_; rintro e w1 ⟨rfl, hb1⟩
        go_wp2
        go_roundw
        case rel => exact ⟨k + 1, _, by omega, by go_num, rfl, by have := unhide HLV; have := unhide HBT; omega, by omega, bT hb hb1⟩
        case measure => simp [intOf]; omega
    · obtain rfl : k = ns.length := by omega
      have HE : Hid (szr left (ns.length + bulkN ns) = lv) := by
        show _ = _
        have := unhide HLV
        rw [List.take_length] at this
        unfold szr
        rw [if_neg (by omega)]
        omega
      clear HLV
      go_wp2
      go_ret
      exact ⟨congrArg (fun z => Ending.returned (.int .i64 z)) HE.out.symm, hb⟩
theorem szAst_calls (v : Value) (ns : List Nd) (left : Int) (w : World) (hv : IsNodes w v ns) (hl : ns.length ≤ maxLen) (hf : Fits ns) (h0 : 0 ≤ left) (h1 : left ≤ 1048576) :
    Calls Tryz.prog 4 #[.agg #[v], .int .i64 left] w fun e w' => e = .returned (.int .i64 (szr left (ns.length + bulkN ns))) ∧ Below w.heap.size w w' := by
  have SN := fun W (hb : Below w.heap.size w W) => szNodeS_calls v ns left W (hv.of hb) hl hf h0 h1
  obtain ⟨a, cap, rfl⟩ : ∃ a cap, v = .slice a ns.length cap := by
    rcases hv with ⟨rfl, a, cap, rfl⟩ | ⟨g, off, cap, rfl, _⟩
    · exact ⟨a, cap, rfl⟩
    · exact ⟨_, cap, rfl⟩
  have hz : szr left (ns.length + bulkN ns) = -1 ∨ 0 ≤ szr left (ns.length + bulkN ns) := by unfold szr; split <;> omega
  generalize szr left (ns.length + bulkN ns) = z at *
  have HSN := hide SN
  clear SN hv hf
  by_cases hz' : z < 0
  · have : z = -1 := by omega
    have HZ := hide this
    clear this hz
    go_enter Tryz.func4, Tryz.ntmps4
    go_wp2_with fail
    refine (unhide HSN _ (bA (Below.refl _ _) _)).mono ?_; rintro e w1 ⟨rfl, hb1⟩
    go_wp2
    go_ret
    exact ⟨congrArg (fun z => Ending.returned (.int .i64 z)) (unhide HZ).symm, bT (bA (Below.refl _ _) _) hb1⟩
  · clear hz
    go_enter Tryz.func4, Tryz.ntmps4
    go_wp2_with fail
    refine (unhide HSN _ (bA (Below.refl _ _) _)).mono ?_; rintro e w1 ⟨rfl, hb1⟩
    go_wp2
    go_ret
    exact ⟨rfl, bT (bA (Below.refl _ _) _) hb1⟩
end Go.Proofs.YtmcbmmpjhijagaaGreatDoor
namespace Go.Proofs.YtmcbmmpjhijagaaGreatDoor
open Go Go.RowKit
set_option maxHeartbeats 1000000 in
theorem eqIntS_calls (xs : List Int) (g g' cap cap' : Nat) (w : World) (hg : g < w.heap.size) (hg' : g' < w.heap.size) (hx : IntsAt w g 0 xs) (hy : IntsAt w g' 0 xs) (b1 : xs.length ≤ 1048576) :
    Calls Tryz.prog 68 #[.slice (some ⟨g, 0, none⟩) xs.length cap, .slice (some ⟨g', 0, none⟩) xs.length cap'] w fun e w' => e = .returned (.bool true) ∧ Below w.heap.size w w' := by
  have e0 : ((xs.length : Int) != (xs.length : Int)) = false := by simp
  go_enter Tryz.func68, Tryz.ntmps68
  go_wp2
  go_loopw [5] (fun c wr => ∃ k : Nat, k ≤ xs.length ∧ c = .int .i64 k ∧ Below w.heap.size w wr) (fun c _ => xs.length - (intOf c).toNat)
  case atStart => exact ⟨0, Nat.zero_le _, rfl, Below.refl _ _⟩
  case round =>
    obtain ⟨k, hk1, rfl, hb⟩ := hrel
    by_cases l1 : k < xs.length
    · have x0 := (hx.of hg hb).at k l1
      have y0 := (hy.of hg' hb).at k l1
      simp only [Nat.zero_add] at x0 y0
      have j1 : (k : Int) < (xs.length : Int) := by omega
      have q1 : g < wr.heap.size := Nat.lt_of_lt_of_le hg hb.size
      have q2 : g' < wr.heap.size := Nat.lt_of_lt_of_le hg' hb.size
      generalize xs[k] = x at *
      have he : (x != x) = false := by simp
      go_upto_region 6 with fail
      go_quiet (fail)
      go_wp2
      go_roundw
      case rel => exact ⟨k + 1, by omega, by go_num, Go.below_drewN hb _⟩
      case measure => simp [intOf]; omega
    · go_wp2
      go_ret
      exact ⟨rfl, hb⟩
set_option maxHeartbeats 1000000 in
theorem eqNode_calls (K N M : Int) (S T : ByteArray) (xs : List Int) (g g' : Nat) (w : World) (hg : g < w.heap.size) (hg' : g' < w.heap.size) (hx : IntsAt w g 0 xs) (hy : IntsAt w g' 0 xs) (b1 : xs.length ≤ 1048576) :
    Calls Tryz.prog 49 #[.agg #[.int .i64 K, .int .i64 N, .int .i64 M, .string S, .string T, .slice (some ⟨g, 0, none⟩) xs.length xs.length], .agg #[.int .i64 K, .int .i64 N, .int .i64 M, .string S, .string T, .slice (some ⟨g', 0, none⟩) xs.length xs.length]] w fun e w' => e = .returned (.bool true) ∧ Below w.heap.size w w' := by
  have EI := fun W (hb : Below w.heap.size w W) => eqIntS_calls xs g g' xs.length xs.length W (Nat.lt_of_lt_of_le hg hb.size) (Nat.lt_of_lt_of_le hg' hb.size) (hx.of hg hb) (hy.of hg' hb) b1
  have HEI := hide EI
  have eK : (K != K) = false := by simp
  have eN : (N != N) = false := by simp
  have eM : (M != M) = false := by simp
  have eS : (S.toList == S.toList) = true := by simp
  have eT : (T.toList == T.toList) = true := by simp
  clear EI hx hy
  go_enter Tryz.func49, Tryz.ntmps49
  go_wp2_with fail
  refine (unhide HEI _ (bA (bA (Below.refl _ _) _) _)).mono ?_; rintro e w1 ⟨rfl, hb1⟩
  go_wp2
  go_ret
  exact ⟨rfl, bT (bA (bA (Below.refl _ _) _) _) hb1⟩
set_option maxHeartbeats 2000000 in
theorem eqNodeS_calls (ns : List Nd) (g g' cap cap' : Nat) (w : World) (hg : g < w.heap.size) (hg' : g' < w.heap.size) (hx : NodesAt w g 0 ns) (hy : NodesAt w g' 0 ns) (b1 : ns.length ≤ 1048576) (hk : ∀ n ∈ ns, n.Kids.length ≤ 1048576) :
    Calls Tryz.prog 17 #[.slice (some ⟨g, 0, none⟩) ns.length cap, .slice (some ⟨g', 0, none⟩) ns.length cap'] w fun e w' => e = .returned (.bool true) ∧ Below w.heap.size w w' := by
  have e0 : ((ns.length : Int) != (ns.length : Int)) = false := by simp
  have HX := hide hx; have HY := hide hy; have HK := hide hk
  clear hx hy hk
  go_enter Tryz.func17, Tryz.ntmps17
  go_wp2
  go_loopw [5] (fun c wr => ∃ k : Nat, k ≤ ns.length ∧ c = .int .i64 k ∧ Below w.heap.size w wr) (fun c _ => ns.length - (intOf c).toNat)
  case atStart => exact ⟨0, Nat.zero_le _, rfl, Below.refl _ _⟩
  case round =>
    obtain ⟨k, hk1, rfl, hb⟩ := hrel
    by_cases l1 : k < ns.length
    · obtain ⟨⟨x0, x1, x2, x3, x4⟩, kx, x5, _, hkx, hix⟩ := ((unhide HX).of hg hb).at k l1
      obtain ⟨⟨y0, y1, y2, y3, y4⟩, ky, y5, _, hky, hiy⟩ := ((unhide HY).of hg' hb).at k l1
      have hkl := unhide HK _ (List.getElem_mem l1)
      simp only [Nat.zero_add] at x0 x1 x2 x3 x4 x5 y0 y1 y2 y3 y4 y5
      have j1 : (k : Int) < (ns.length : Int) := by omega
      have q1 : g < wr.heap.size := Nat.lt_of_lt_of_le hg hb.size
      have q2 : g' < wr.heap.size := Nat.lt_of_lt_of_le hg' hb.size
      cases e : ns[k] with | mk K N M S T ks =>
      rw [e] at x0 x1 x2 x3 x4 x5 y0 y1 y2 y3 y4 y5 hix hiy hkl
      simp only at x0 x1 x2 x3 x4 x5 y0 y1 y2 y3 y4 y5 hix hiy hkl
      have EN : Hid (∀ W, Std wr W → Calls Tryz.prog 49 #[.agg #[.int .i64 K, .int .i64 N, .int .i64 M, .string S, .string T, .slice (some ⟨kx, 0, none⟩) ks.length ks.length], .agg #[.int .i64 K, .int .i64 N, .int .i64 M, .string S, .string T, .slice (some ⟨ky, 0, none⟩) ks.length ks.length]] W fun e w' => e = .returned (.bool true) ∧ Below W.heap.size W w') :=
        fun W h => eqNode_calls K N M S T ks kx ky W (Nat.lt_of_lt_of_le hkx h.2.2.size) (Nat.lt_of_lt_of_le hky h.2.2.size) (hix.of hkx h.2.2) (hiy.of hky h.2.2) hkl
      clear e hix hiy
      go_upto_region 6 with fail
      have h1 := Below.refl wr.heap.size wr
      have h2 := h1
      go_region_held3 (Std wr) (repeat (first | with_reducible assumption | with_reducible exact Std.refl _ | with_reducible refine Std.drew ?_ | with_reducible refine Std.alloc ?_ _ | with_reducible refine Std.setCell ?_ ?_ _ | with_reducible refine Std.call ?_ (by with_reducible assumption) | (simp <;> omega) | omega)) (first | (go_at_call 49; refine (unhide EN _ (by assumption)).mono ?_; rintro e w1 ⟨rfl, hb⟩; (first | have n3 := bT h2 hb | have n3 := bT (bA h2 _) hb | have n3 := bT (Below.drew h2) hb | have n3 := bT (Below.drew (bA h2 _)) hb | have n3 := bT (bA (Below.drew h2) _) hb); (first | have n2 := bT h1 hb | have n2 := bT (bA h1 _) hb | have n2 := bT (Below.drew h1) hb | have n2 := bT (Below.drew (bA h1 _)) hb | have n2 := bT (bA (Below.drew h1) _) hb); obtain ⟨c1, f1⟩ := bcell hb; obtain ⟨c2, f2⟩ := bcell n2; obtain ⟨c3, f3⟩ := bcell n3; have hs := hb.size; (try simp at hs); clear h1 h2; have h1 := hb; have h2 := n2; clear n2 hb))
      have hS : Std wr w1 := by assumption
      have d2 := bT hb hS.2.2
      go_wp2
      go_roundw
      case rel => exact ⟨k + 1, by omega, by go_num, d2⟩
      case measure => simp [intOf]; omega
    · go_wp2
      go_ret
      exact ⟨rfl, hb⟩
theorem eqAst_calls (ns : List Nd) (g g' cap cap' : Nat) (w : World) (hg : g < w.heap.size) (hg' : g' < w.heap.size) (hx : NodesAt w g 0 ns) (hy : NodesAt w g' 0 ns) (b1 : ns.length ≤ 1048576) (hk : ∀ n ∈ ns, n.Kids.length ≤ 1048576) :
    Calls Tryz.prog 8 #[.agg #[.slice (some ⟨g, 0, none⟩) ns.length cap], .agg #[.slice (some ⟨g', 0, none⟩) ns.length cap']] w fun e w' => e = .returned (.bool true) ∧ Below w.heap.size w w' := by
  have EN := fun W (hb : Below w.heap.size w W) => eqNodeS_calls ns g g' cap cap' W (Nat.lt_of_lt_of_le hg hb.size) (Nat.lt_of_lt_of_le hg' hb.size) (hx.of hg hb) (hy.of hg' hb) b1 hk
  have HEN := hide EN
  clear EN hx hy hk
  go_enter Tryz.func8, Tryz.ntmps8
  go_wp2_with fail
  refine (unhide HEN _ (bA (bA (Below.refl _ _) _) _)).mono ?_; rintro e w1 ⟨rfl, hb1⟩
  go_wp2
  go_ret
  exact ⟨rfl, bT (bA (bA (Below.refl _ _) _) _) hb1⟩
end Go.Proofs.YtmcbmmpjhijagaaGreatDoor
namespace Go.Proofs.YtmcbmmpjhijagaaGreatDoor
open Go Go.RowKit
theorem small_of {ns : List Nd} (h : bulkN ns ≤ 1048576) : Small ns := fun n hn => by
  have := bulkN_mem hn
  exact ⟨by omega, by omega, by omega⟩
end Go.Proofs.YtmcbmmpjhijagaaGreatDoor
