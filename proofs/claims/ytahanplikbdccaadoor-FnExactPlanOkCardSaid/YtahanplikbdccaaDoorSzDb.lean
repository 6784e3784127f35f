/-
  HOW MUCH TABLES HOLD, as the law counts it.
-/
import Derived.Test.YtahanplikbdccaaDoorDbFns
import Derived.Test.YtahanplikbdccaaDoorSzKit
namespace Go.Proofs.YtahanplikbdccaaDoor
open Go Go.RowKit

theorem szA_szr (left : Int) (xss : List (List V2)) : szA left xss = szr left (xss.length + bulk xss) := by
  unfold szA szr
  by_cases h : left < (xss.length : Int) + bulk xss
  · rw [if_pos h, if_pos (by omega)]
  · rw [if_neg h, if_neg (by omega)]; omega

set_option maxHeartbeats 1000000 in
theorem szTable_calls (S : ByteArray) (C : Int) (v : Value) (xss : List (List V2)) (left : Int) (w : World) (hv : IsRows w v xss) (hl : xss.length ≤ maxLen) (hl2 : ∀ xs ∈ xss, xs.length ≤ maxLen) (hS : S.size ≤ maxLen) (h0 : 0 ≤ left) (h1 : left ≤ 1048576) :
    Calls Tryd.prog 34 #[.agg #[.string S, .int .i64 C, v], .int .i64 left] w fun e w' => e = .returned (.int .i64 (szr left (S.size + (xss.length + bulk xss)))) ∧ Below w.heap.size w w' := by
  have SZ := fun W (hb : Below w.heap.size w W) (l : Int) h0 h1 => szValSS_calls v xss l W (hv.of hb) hl hl2 h0 h1
  have HZ := hide SZ
  obtain ⟨a, cap, rfl⟩ := isRows_slice hv
  clear SZ hv hl2
  unfold maxLen at hl hS
  by_cases c1 : left < (S.size : Int)
  · have HE : Hid (szr left (S.size + (xss.length + bulk xss)) = -1) := by show _ = _; unfold szr; rw [if_pos (by omega)]
    go_enter Tryd.func34, Tryd.ntmps34
    go_wp2
    go_ret
    exact ⟨congrArg (fun z => Ending.returned (.int .i64 z)) HE.out.symm, bA (Below.refl _ _) _⟩
  have SZ2 := fun W hb => unhide HZ W hb (left - (S.size : Int)) (by omega) (by omega)
  have hz : szA (left - (S.size : Int)) xss = szr left (S.size + (xss.length + bulk xss)) := by
    rw [szA_szr]
    unfold szr
    by_cases h : left - (S.size : Int) < ((xss.length + bulk xss : Nat) : Int)
    · rw [if_pos h, if_pos (by omega)]
    · rw [if_neg h, if_neg (by omega)]; omega
  rw [hz] at SZ2
  have hz2 : szr left (S.size + (xss.length + bulk xss)) = -1 ∨ 0 ≤ szr left (S.size + (xss.length + bulk xss)) := by unfold szr; split <;> omega
  generalize szr left (S.size + (xss.length + bulk xss)) = z at *
  have HZ2 := hide SZ2
  clear SZ2 HZ hz
  by_cases hz' : z < 0
  · have : z = -1 := by omega
    have HZ := hide this
    clear this hz2
    go_enter Tryd.func34, Tryd.ntmps34
    go_wp2_with fail
    refine (unhide HZ2 _ (bA (Below.refl _ _) _)).mono ?_; rintro e w1 ⟨rfl, rfl⟩
    go_wp2
    go_ret
    exact ⟨congrArg (fun z => Ending.returned (.int .i64 z)) (unhide HZ).symm, bA (Below.refl _ _) _⟩
  · clear hz2
    go_enter Tryd.func34, Tryd.ntmps34
    go_wp2_with fail
    refine (unhide HZ2 _ (bA (Below.refl _ _) _)).mono ?_; rintro e w1 ⟨rfl, rfl⟩
    go_wp2
    go_ret
    exact ⟨rfl, bA (Below.refl _ _) _⟩

/-- no text and no list is longer than an argument can be -/
def FitsT (ts : List Tb) : Prop := ∀ t ∈ ts, t.Name.size ≤ maxLen ∧ t.Rows.length ≤ maxLen ∧ ∀ xs ∈ t.Rows, xs.length ≤ maxLen

set_option maxHeartbeats 2000000 in
theorem szTableS_calls (v : Value) (ts : List Tb) (left : Int) (w : World) (hv : IsTables w v ts) (hl : ts.length ≤ maxLen) (hf : FitsT ts) (h0 : 0 ≤ left) (h1 : left ≤ 1048576) :
    Calls Tryd.prog 18 #[v, .int .i64 left] w fun e w' => e = .returned (.int .i64 (szr left (ts.length + bulkT ts))) ∧ Below w.heap.size w w' := by
  have HV := hide hv
  obtain ⟨a, cap, rfl⟩ := isTables_slice hv
  have HF := hide hf
  clear hv hf
  unfold maxLen at hl
  by_cases c1 : left < (ts.length : Int)
  · have HE : Hid (szr left (ts.length + bulkT ts) = -1) := by show _ = _; unfold szr; rw [if_pos (by omega)]
    go_enter Tryd.func18, Tryd.ntmps18
    go_wp2
    go_ret
    exact ⟨congrArg (fun z => Ending.returned (.int .i64 z)) HE.out.symm, Below.refl _ _⟩
  go_enter Tryd.func18, Tryd.ntmps18
  go_wp2
  go_loopw [1, 5] (fun l c wr => ∃ (k : Nat) (lv : Int), k ≤ ts.length ∧ c = .int .i64 k ∧ l = .int .i64 lv ∧ lv = left - (ts.length : Int) - (bulkT (ts.take k) : Int) ∧ 0 ≤ lv ∧ Below w.heap.size w wr) (fun _ c _ => ts.length - (intOf c).toNat)
  case atStart => exact ⟨0, _, Nat.zero_le _, rfl, rfl, by simp [bulkT], by omega, Below.refl _ _⟩
  case round =>
    obtain ⟨k, lv, hk, rfl, rfl, hlv, hlv0, hb⟩ := hrel
    have HLV := hide hlv
    have hlv1 : lv ≤ 1048576 := by omega
    clear hlv
    by_cases hlt : k < ts.length
    · obtain ⟨g, off, rfl, hg, c0w, c1w, ua, ucap, hu, hiu⟩ : ∃ g off, a = some ⟨g, off, none⟩ ∧ g < w.heap.size ∧ w.cell? ⟨g, off + k * 3, none⟩ = some (.string (ts[k]).Name) ∧ w.cell? ⟨g, off + k * 3 + 1, none⟩ = some (.int .i64 (ts[k]).Cols) ∧
          ∃ ua ucap, w.cell? ⟨g, off + k * 3 + 2, none⟩ = some (.slice ua (ts[k]).Rows.length ucap) ∧ IsRows w (.slice ua (ts[k]).Rows.length ucap) (ts[k]).Rows := by
        rcases unhide HV with ⟨h, _⟩ | ⟨g, off, cap', he, hg, hr⟩
        · subst h; simp at hlt
        · simp only [Value.slice.injEq, true_and] at he
          obtain ⟨rfl, rfl⟩ := he
          obtain ⟨hc0, hc1, u, hu, hiu⟩ := hr k ts[k] (List.getElem?_eq_getElem hlt)
          obtain ⟨ua, ucap, rfl⟩ := isRows_slice hiu
          exact ⟨g, off, rfl, hg, hc0, hc1, ua, ucap, hu, hiu⟩
      have c0 := (hb.cell (p := ⟨g, off + k * 3, none⟩) hg).trans c0w
      have c1' := (hb.cell (p := ⟨g, off + k * 3 + 1, none⟩) hg).trans c1w
      have c2 := (hb.cell (p := ⟨g, off + k * 3 + 2, none⟩) hg).trans hu
      obtain ⟨fS, fR, fX⟩ := unhide HF _ (List.getElem_mem hlt)
      have SN := szTable_calls (ts[k]).Name (ts[k]).Cols _ (ts[k]).Rows lv wr (hiu.of hb) fR fX fS hlv0 hlv1
      have hbt := bulkT_take ts k hlt
      have hble := bulkT_take_le ts (k + 1)
      have q1 : g < wr.heap.size := Nat.lt_of_lt_of_le hg hb.size
      have j1 : (k : Int) < (ts.length : Int) := by omega
      clear hu hiu fS fR fX c0w c1w
      generalize (ts[k]).Name.size + ((ts[k]).Rows.length + bulk (ts[k]).Rows) = tot at *
      cases e : ts[k] with | mk S C xss =>
      rw [e] at c0 c1' c2 SN
      simp only at c0 c1' c2 SN
      clear e
      by_cases hlow : lv < (tot : Int)
      · have HE : Hid (szr left (ts.length + bulkT ts) = -1) := by
          show _ = _
          have := unhide HLV
          unfold szr
          rw [if_pos (by omega)]
        have e2 : szr lv tot = -1 := by unfold szr; rw [if_pos hlow]
        rw [e2] at SN
        have HSN := hide SN
        clear SN e2
        go_wp2_with fail
        refine (unhide HSN).mono ?_; rintro e w1 ⟨rfl, hb1⟩
        go_wp2
        go_ret
        exact ⟨congrArg (fun z => Ending.returned (.int .i64 z)) HE.out.symm, bT hb hb1⟩
      · have e2 : szr lv tot = lv - (tot : Int) := by unfold szr; rw [if_neg hlow]
        rw [e2] at SN
        have HSN := hide SN; have HBT := hide hbt
        have n1 : ¬ lv - (tot : Int) < 0 := by omega
        clear SN e2 hbt hble
        go_wp2_with fail
        refine (unhide HSN).mono ?_; rintro e w1 ⟨rfl, hb1⟩
        go_wp2
        go_roundw
        case rel => exact ⟨k + 1, _, by omega, by go_num, rfl, by have := unhide HLV; have := unhide HBT; omega, by omega, bT hb hb1⟩
        case measure => simp [intOf]; omega
    · obtain rfl : k = ts.length := by omega
      have HE : Hid (szr left (ts.length + bulkT ts) = lv) := by
        show _ = _
        have := unhide HLV
        rw [List.take_length] at this
        unfold szr
        rw [if_neg (by omega)]
        omega
      clear HLV
      go_wp2
      go_ret
      exact ⟨congrArg (fun z => Ending.returned (.int .i64 z)) HE.out.symm, hb⟩

theorem szDb_calls (v : Value) (ts : List Tb) (left : Int) (w : World) (hv : IsTables w v ts) (hl : ts.length ≤ maxLen) (hf : FitsT ts) (h0 : 0 ≤ left) (h1 : left ≤ 1048576) :
    Calls Tryd.prog 6 #[.agg #[v], .int .i64 left] w fun e w' => e = .returned (.int .i64 (szr left (ts.length + bulkT ts))) ∧ Below w.heap.size w w' := by
  have SN := fun W (hb : Below w.heap.size w W) => szTableS_calls v ts left W (hv.of hb) hl hf h0 h1
  obtain ⟨a, cap, rfl⟩ := isTables_slice hv
  have hz : szr left (ts.length + bulkT ts) = -1 ∨ 0 ≤ szr left (ts.length + bulkT ts) := by unfold szr; split <;> omega
  generalize szr left (ts.length + bulkT ts) = z at *
  have HSN := hide SN
  clear SN hv hf
  by_cases hz' : z < 0
  · have : z = -1 := by omega
    have HZ := hide this
    clear this hz
    go_enter Tryd.func6, Tryd.ntmps6
    go_wp2_with fail
    refine (unhide HSN _ (bA (Below.refl _ _) _)).mono ?_; rintro e w1 ⟨rfl, hb1⟩
    go_wp2
    go_ret
    exact ⟨congrArg (fun z => Ending.returned (.int .i64 z)) (unhide HZ).symm, bT (bA (Below.refl _ _) _) hb1⟩
  · clear hz
    go_enter Tryd.func6, Tryd.ntmps6
    go_wp2_with fail
    refine (unhide HSN _ (bA (Below.refl _ _) _)).mono ?_; rintro e w1 ⟨rfl, hb1⟩
    go_wp2
    go_ret
    exact ⟨rfl, bT (bA (Below.refl _ _) _) hb1⟩
end Go.Proofs.YtahanplikbdccaaDoor
