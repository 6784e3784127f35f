/-
  HOW MUCH A TREE HOLDS, as the law counts it.
-/
import Derived.Test.YtnjnonmpfalfeabDoorNodeKit
namespace Go.Proofs.YtnjnonmpfalfeabDoor
open Go Go.RowKit

def szr (left : Int) (t : Nat) : Int := if left < (t : Int) then -1 else left - (t : Int)

theorem szIntS_calls (v : Value) (xs : List Int) (left : Int) (w : World) (hv : IsInts w v xs) (hl : xs.length ≤ maxLen) (h0 : 0 ≤ left) (h1 : left ≤ 1048576) :
    Calls Tryd.prog 76 #[v, .int .i64 left] w fun e w' => e = .returned (.int .i64 (szr left xs.length)) ∧ w' = w := by
  unfold maxLen at hl
  unfold szr
  obtain ⟨a, cap, rfl⟩ : ∃ a cap, v = .slice a xs.length cap := by
    rcases hv with ⟨rfl, a, cap, rfl⟩ | ⟨g, off, cap, rfl, _⟩
    · exact ⟨a, cap, rfl⟩
    · exact ⟨_, cap, rfl⟩
  clear hv
  by_cases h : left < xs.length
  · rw [if_pos h]
    go_enter Tryd.func76, Tryd.ntmps76
    go_wp2
    go_ret
    exact ⟨rfl, rfl⟩
  · rw [if_neg h]
    go_enter Tryd.func76, Tryd.ntmps76
    go_wp2
    go_ret
    exact ⟨rfl, rfl⟩

set_option maxHeartbeats 1000000 in
theorem szNode_calls (K N M : Int) (S T : ByteArray) (v : Value) (xs : List Int) (left : Int) (w : World) (hv : IsInts w v xs) (hl : xs.length ≤ maxLen) (hS : S.size ≤ maxLen) (hT : T.size ≤ maxLen) (h0 : 0 ≤ left) (h1 : left ≤ 1048576) :
    Calls Tryd.prog 58 #[.agg #[.int .i64 K, .int .i64 N, .int .i64 M, .string S, .string T, v], .int .i64 left] w fun e w' => e = .returned (.int .i64 (szr left (S.size + T.size + xs.length))) ∧ Below w.heap.size w w' := by
  have SZ := fun W (hb : Below w.heap.size w W) (l : Int) h0 h1 => szIntS_calls v xs l W (hv.of hb) hl h0 h1
  have HZ := hide SZ
  obtain ⟨a, cap, rfl⟩ : ∃ a cap, v = .slice a xs.length cap := by
    rcases hv with ⟨rfl, a, cap, rfl⟩ | ⟨g, off, cap, rfl, _⟩
    · exact ⟨a, cap, rfl⟩
    · exact ⟨_, cap, rfl⟩
  clear SZ hv
  unfold maxLen at hl hS hT
  by_cases c1 : left < (S.size : Int)
  · have HE : Hid (szr left (S.size + T.size + xs.length) = -1) := by show _ = _; unfold szr; rw [if_pos (by omega)]
    go_enter Tryd.func58, Tryd.ntmps58
    go_wp2
    go_ret
    exact ⟨congrArg (fun z => Ending.returned (.int .i64 z)) HE.out.symm, bA (Below.refl _ _) _⟩
  by_cases c2 : left - (S.size : Int) < (T.size : Int)
  · have HE : Hid (szr left (S.size + T.size + xs.length) = -1) := by show _ = _; unfold szr; rw [if_pos (by omega)]
    go_enter Tryd.func58, Tryd.ntmps58
    go_wp2
    go_ret
    exact ⟨congrArg (fun z => Ending.returned (.int .i64 z)) HE.out.symm, bA (Below.refl _ _) _⟩
  have SZ2 := fun W hb => unhide HZ W hb (left - (S.size : Int) - (T.size : Int)) (by omega) (by omega)
  by_cases c3 : left - (S.size : Int) - (T.size : Int) < (xs.length : Int)
  · have HE : Hid (szr left (S.size + T.size + xs.length) = -1) := by show _ = _; unfold szr; rw [if_pos (by omega)]
    have e : szr (left - (S.size : Int) - (T.size : Int)) xs.length = -1 := by unfold szr; rw [if_pos c3]
    rw [e] at SZ2
    have HZ2 := hide SZ2
    clear SZ2 HZ e
    go_enter Tryd.func58, Tryd.ntmps58
    go_wp2_with fail
    refine (unhide HZ2 _ (bA (Below.refl _ _) _)).mono ?_; rintro e w1 ⟨rfl, rfl⟩
    go_wp2
    go_ret
    exact ⟨congrArg (fun z => Ending.returned (.int .i64 z)) HE.out.symm, bA (Below.refl _ _) _⟩
  · have HE : Hid (szr left (S.size + T.size + xs.length) = left - (S.size : Int) - (T.size : Int) - (xs.length : Int)) := by show _ = _; unfold szr; rw [if_neg (by omega)]; omega
    have e : szr (left - (S.size : Int) - (T.size : Int)) xs.length = left - (S.size : Int) - (T.size : Int) - (xs.length : Int) := by unfold szr; rw [if_neg c3]
    rw [e] at SZ2
    have HZ2 := hide SZ2
    clear SZ2 HZ e
    go_enter Tryd.func58, Tryd.ntmps58
    go_wp2_with fail
    refine (unhide HZ2 _ (bA (Below.refl _ _) _)).mono ?_; rintro e w1 ⟨rfl, rfl⟩
    go_wp2
    go_ret
    exact ⟨congrArg (fun z => Ending.returned (.int .i64 z)) HE.out.symm, bA (Below.refl _ _) _⟩

/-- no text and no list is longer than an argument can be -/
def Fits (ns : List Nd) : Prop := ∀ n ∈ ns, n.S.size ≤ maxLen ∧ n.T.size ≤ maxLen ∧ n.Kids.length ≤ maxLen

set_option maxHeartbeats 2000000 in
theorem szNodeS_calls (v : Value) (ns : List Nd) (left : Int) (w : World) (hv : IsNodes w v ns) (hl : ns.length ≤ maxLen) (hf : Fits ns) (h0 : 0 ≤ left) (h1 : left ≤ 1048576) :
    Calls Tryd.prog 40 #[v, .int .i64 left] w fun e w' => e = .returned (.int .i64 (szr left (ns.length + bulkN ns))) ∧ Below w.heap.size w w' := by
  have HV := hide hv
  obtain ⟨a, cap, rfl⟩ : ∃ a cap, v = .slice a ns.length cap := by
    rcases hv with ⟨rfl, a, cap, rfl⟩ | ⟨g, off, cap, rfl, _⟩
    · exact ⟨a, cap, rfl⟩
    · exact ⟨_, cap, rfl⟩
  have HF := hide hf
  clear hv hf
  unfold maxLen at hl
  by_cases c1 : left < (ns.length : Int)
  · have HE : Hid (szr left (ns.length + bulkN ns) = -1) := by show _ = _; unfold szr; rw [if_pos (by omega)]
    go_enter Tryd.func40, Tryd.ntmps40
    go_wp2
    go_ret
    exact ⟨congrArg (fun z => Ending.returned (.int .i64 z)) HE.out.symm, Below.refl _ _⟩
  go_enter Tryd.func40, Tryd.ntmps40
  go_wp2
  go_loopw [1, 5] (fun l c wr => ∃ (k : Nat) (lv : Int), k ≤ ns.length ∧ c = .int .i64 k ∧ l = .int .i64 lv ∧ lv = left - (ns.length : Int) - (bulkN (ns.take k) : Int) ∧ 0 ≤ lv ∧ Below w.heap.size w wr) (fun _ c _ => ns.length - (intOf c).toNat)
  case atStart => exact ⟨0, _, Nat.zero_le _, rfl, rfl, by simp [bulkN], by omega, Below.refl _ _⟩
  case round =>
    obtain ⟨k, lv, hk, rfl, rfl, hlv, hlv0, hb⟩ := hrel
    have HLV := hide hlv
    have hlv1 : lv ≤ 1048576 := by omega
    clear hlv
    by_cases hlt : k < ns.length
    · obtain ⟨g, off, rfl, hg, hc5, ua, ucap, hu, hiu⟩ : ∃ g off, a = some ⟨g, off, none⟩ ∧ g < w.heap.size ∧ Cells5 w g (off + k * 6) ns[k] ∧ ∃ ua ucap, w.cell? ⟨g, off + k * 6 + 5, none⟩ = some (.slice ua (ns[k]).Kids.length ucap) ∧ IsInts w (.slice ua (ns[k]).Kids.length ucap) (ns[k]).Kids := by
        rcases unhide HV with ⟨h, _⟩ | ⟨g, off, cap', he, hg, hr⟩
        · subst h; simp at hlt
        · simp only [Value.slice.injEq, true_and] at he
          obtain ⟨rfl, rfl⟩ := he
          obtain ⟨hc, u, hu, hiu⟩ := hr k ns[k] (List.getElem?_eq_getElem hlt)
          obtain ⟨ua, ucap, rfl⟩ : ∃ ua ucap, u = .slice ua (ns[k]).Kids.length ucap := by
            rcases hiu with ⟨h, a, cap, rfl⟩ | ⟨g, off, cap, rfl, _⟩
            · rw [h]; exact ⟨a, cap, rfl⟩
            · exact ⟨_, cap, rfl⟩
          exact ⟨g, off, rfl, hg, hc, ua, ucap, hu, hiu⟩
      obtain ⟨c0, c1', c2, c3, c4⟩ := hc5.of hg hb
      have c5 := (hb.cell (p := ⟨g, off + k * 6 + 5, none⟩) hg).trans hu
      obtain ⟨fS, fT, fK⟩ := unhide HF _ (List.getElem_mem hlt)
      have SN := szNode_calls (ns[k]).K (ns[k]).N (ns[k]).M (ns[k]).S (ns[k]).T _ (ns[k]).Kids lv wr (hiu.of hb) fK fS fT hlv0 hlv1
      have hbt := bulkN_take ns k hlt
      have hble := bulkN_take_le ns (k + 1)
      have q1 : g < wr.heap.size := Nat.lt_of_lt_of_le hg hb.size
      have j1 : (k : Int) < (ns.length : Int) := by omega
      clear hc5 hu hiu fS fT fK
      generalize (ns[k]).S.size + (ns[k]).T.size + (ns[k]).Kids.length = tot at *
      cases e : ns[k] with | mk K N M S T ks =>
      rw [e] at c0 c1' c2 c3 c4 c5 SN
      simp only at c0 c1' c2 c3 c4 c5 SN
      clear e
      by_cases hlow : lv < (tot : Int)
      · have HE : Hid (szr left (ns.length + bulkN ns) = -1) := by
          show _ = _
          have := unhide HLV
          unfold szr
          rw [if_pos (by omega)]
        have e2 : szr lv tot = -1 := by unfold szr; rw [if_pos hlow]
        rw [e2] at SN
        have HSN := hide SN
        clear SN e2
        go_wp2_with fail
        refine (unhide HSN).mono ?_; rintro e w1 ⟨rfl, hb1⟩
        go_wp2
        go_ret
        exact ⟨congrArg (fun z => Ending.returned (.int .i64 z)) HE.out.symm, bT hb hb1⟩
      · have e2 : szr lv tot = lv - (tot : Int) := by unfold szr; rw [if_neg hlow]
        rw [e2] at SN
        have HSN := hide SN; have HBT := hide hbt
        have n1 : ¬ lv - (tot : Int) < 0 := by omega
        clear SN e2 hbt hble
        go_wp2_with fail
        refine (unhide HSN).mono ?_; rintro e w1 ⟨rfl, hb1⟩
        go_wp2
        go_roundw
        case rel => exact ⟨k + 1, _, by omega, by go_num, rfl, by have := unhide HLV; have := unhide HBT; omega, by omega, bT hb hb1⟩
        case measure => simp [intOf]; omega
    · obtain rfl : k = ns.length := by omega
      have HE : Hid (szr left (ns.length + bulkN ns) = lv) := by
        show _ = _
        have := unhide HLV
        rw [List.take_length] at this
        unfold szr
        rw [if_neg (by omega)]
        omega
      clear HLV
      go_wp2
      go_ret
      exact ⟨congrArg (fun z => Ending.returned (.int .i64 z)) HE.out.symm, hb⟩

theorem szAst_calls (v : Value) (ns : List Nd) (left : Int) (w : World) (hv : IsNodes w v ns) (hl : ns.length ≤ maxLen) (hf : Fits ns) (h0 : 0 ≤ left) (h1 : left ≤ 1048576) :
    Calls Tryd.prog 24 #[.agg #[v], .int .i64 left] w fun e w' => e = .returned (.int .i64 (szr left (ns.length + bulkN ns))) ∧ Below w.heap.size w w' := by
  have SN := fun W (hb : Below w.heap.size w W) => szNodeS_calls v ns left W (hv.of hb) hl hf h0 h1
  obtain ⟨a, cap, rfl⟩ : ∃ a cap, v = .slice a ns.length cap := by
    rcases hv with ⟨rfl, a, cap, rfl⟩ | ⟨g, off, cap, rfl, _⟩
    · exact ⟨a, cap, rfl⟩
    · exact ⟨_, cap, rfl⟩
  have hz : szr left (ns.length + bulkN ns) = -1 ∨ 0 ≤ szr left (ns.length + bulkN ns) := by unfold szr; split <;> omega
  generalize szr left (ns.length + bulkN ns) = z at *
  have HSN := hide SN
  clear SN hv hf
  by_cases hz' : z < 0
  · have : z = -1 := by omega
    have HZ := hide this
    clear this hz
    go_enter Tryd.func24, Tryd.ntmps24
    go_wp2_with fail
    refine (unhide HSN _ (bA (Below.refl _ _) _)).mono ?_; rintro e w1 ⟨rfl, hb1⟩
    go_wp2
    go_ret
    exact ⟨congrArg (fun z => Ending.returned (.int .i64 z)) (unhide HZ).symm, bT (bA (Below.refl _ _) _) hb1⟩
  · clear hz
    go_enter Tryd.func24, Tryd.ntmps24
    go_wp2_with fail
    refine (unhide HSN _ (bA (Below.refl _ _) _)).mono ?_; rintro e w1 ⟨rfl, hb1⟩
    go_wp2
    go_ret
    exact ⟨rfl, bT (bA (Below.refl _ _) _) hb1⟩
end Go.Proofs.YtnjnonmpfalfeabDoor
