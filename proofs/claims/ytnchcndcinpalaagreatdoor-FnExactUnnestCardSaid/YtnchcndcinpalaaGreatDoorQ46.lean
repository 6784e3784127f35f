import Derived.Test.YtnchcndcinpalaaGreatDoorQ45
import Derived.Test.YtnchcndcinpalaaGreatDoorQ43
import Derived.Test.YtnchcndcinpalaaGreatDoorQ4
import Derived.BigQuiet
import Derived.Deep.RegionHeld3
import Derived.Deep.DeepCutAuto
import Derived.Test.YtnchcndcinpalaaGreatDoorQ11
import Derived.Laws.BytesArg
namespace Go.Proofs.YtnchcndcinpalaaGreatDoor
open Go Go.RowKit
theorem szA_szr (left : Int) (xss : List (List V2)) : szA left xss = szr left (xss.length + bulk xss) := by
  unfold szA szr
  by_cases h : left < (xss.length : Int) + bulk xss
  · rw [if_pos h, if_pos (by omega)]
  · rw [if_neg h, if_neg (by omega)]; omega
set_option maxHeartbeats 1000000 in
theorem szTable_calls (S : ByteArray) (C : Int) (v : Value) (xss : List (List V2)) (left : Int) (w : World) (hv : IsRows w v xss) (hl : xss.length ≤ maxLen) (hl2 : ∀ xs ∈ xss, xs.length ≤ maxLen) (hS : S.size ≤ maxLen) (h0 : 0 ≤ left) (h1 : left ≤ 1048576) :
    Calls Tryz.prog 52 #[.agg #[.string S, .int .i64 C, v], .int .i64 left] w fun e w' => e = .returned (.int .i64 (szr left (S.size + (xss.length + bulk xss)))) ∧ Below w.heap.size w w' := by
  have SZ := fun W (hb : Below w.heap.size w W) (l : Int) h0 h1 => szValSS_calls v xss l W (hv.of hb) hl hl2 h0 h1
  have HZ := hide SZ
  obtain ⟨a, cap, rfl⟩ := isRows_slice hv
  clear SZ hv hl2
  unfold maxLen at hl hS
  by_cases c1 : left < (S.size : Int)
  · have HE : Hid (szr left (S.size + (xss.length + bulk xss)) = -1) := by show _ = _; unfold szr; rw [if_pos (by omega)]
    go_enter Tryz.func52, Tryz.ntmps52
    go_wp2
    go_ret
    exact ⟨congrArg (fun z => Ending.returned (.int .i64 z)) HE.out.symm, bA (Below.refl _ _) _⟩
  have SZ2 := fun W hb => unhide HZ W hb (left - (S.size : Int)) (by omega) (by omega)
  have hz : szA (left - (S.size : Int)) xss = szr left (S.size + (xss.length + bulk xss)) := by
    rw [szA_szr]
    unfold szr
    by_cases h : left - (S.size : Int) < ((xss.length + bulk xss : Nat) : Int)
    · rw [if_pos h, if_pos (by omega)]
    · rw [if_neg h, if_neg (by omega)]; omega
  rw [hz] at SZ2
  have hz2 : szr left (S.size + (xss.length + bulk xss)) = -1 ∨ 0 ≤ szr left (S.size + (xss.length + bulk xss)) := by unfold szr; split <;> omega
  generalize szr left (S.size + (xss.length + bulk xss)) = z at *
  have HZ2 := hide SZ2
  clear SZ2 HZ hz
  by_cases hz' : z < 0
  · have : z = -1 := by omega
    have HZ := hide this
    clear this hz2
    go_enter Tryz.func52, Tryz.ntmps52
    go_wp2_with fail
    refine (unhide HZ2 _ (bA (Below.refl _ _) _)).mono ?_; rintro e w1 ⟨rfl, rfl⟩
    go_wp2
    go_ret
    exact ⟨congrArg (fun z => Ending.returned (.int .i64 z)) (unhide HZ).symm, bA (Below.refl _ _) _⟩
  · clear hz2
    go_enter Tryz.func52, Tryz.ntmps52
    go_wp2_with fail
    refine (unhide HZ2 _ (bA (Below.refl _ _) _)).mono ?_; rintro e w1 ⟨rfl, rfl⟩
    go_wp2
    go_ret
    exact ⟨rfl, bA (Below.refl _ _) _⟩
def FitsT (ts : List Tb) : Prop := ∀ t ∈ ts, t.Name.size ≤ maxLen ∧ t.Rows.length ≤ maxLen ∧ ∀ xs ∈ t.Rows, xs.length ≤ maxLen
set_option maxHeartbeats 2000000 in
theorem szTableS_calls (v : Value) (ts : List Tb) (left : Int) (w : World) (hv : IsTables w v ts) (hl : ts.length ≤ maxLen) (hf : FitsT ts) (h0 : 0 ≤ left) (h1 : left ≤ 1048576) :
    Calls Tryz.prog 23 #[v, .int .i64 left] w fun e w' => e = .returned (.int .i64 (szr left (ts.length + bulkT ts))) ∧ Below w.heap.size w w' := by
  have HV := hide hv
  obtain ⟨a, cap, rfl⟩ := isTables_slice hv
  have HF := hide hf
  clear hv hf
  unfold maxLen at hl
  by_cases c1 : left < (ts.length : Int)
  · have HE : Hid (szr left (ts.length + bulkT ts) = -1) := by show _ = _; unfold szr; rw [if_pos (by omega)]
    go_enter Tryz.func23, Tryz.ntmps23
    go_wp2
    go_ret
    exact ⟨congrArg (fun z => Ending.returned (.int .i64 z)) HE.out.symm, Below.refl _ _⟩
  go_enter Tryz.func23, Tryz.ntmps23
  go_wp2
  go_loopw [1, 5] (fun l c wr => ∃ (k : Nat) (lv : Int), k ≤ ts.length ∧ c = .int .i64 k ∧ l = .int .i64 lv ∧ lv = left - (ts.length : Int) - (bulkT (ts.take k) : Int) ∧ 0 ≤ lv ∧ Below w.heap.size w wr) (fun _ c _ => ts.length - (intOf c).toNat)
  case atStart => exact ⟨0, _, Nat.zero_le _, rfl, rfl, by simp [bulkT], by omega, Below.refl _ _⟩
  case round =>
    obtain ⟨k, lv, hk, rfl, rfl, hlv, hlv0, hb⟩ := hrel
    have HLV := hide hlv
    have hlv1 : lv ≤ 1048576 := by omega
    clear hlv
    by_cases hlt : k < ts.length
    · obtain ⟨g, off, rfl, hg, c0w, c1w, ua, ucap, hu, hiu⟩ : ∃ g off, a = some ⟨g, off, none⟩ ∧ g < w.heap.size ∧ w.cell? ⟨g, off + k * 3, none⟩ = some (.string (ts[k]).Name) ∧ w.cell? ⟨g, off + k * 3 + 1, none⟩ = some (.int .i64 (ts[k]).Cols) ∧
          ∃ ua ucap, w.cell? ⟨g, off + k * 3 + 2, none⟩ = some (.slice ua (ts[k]).Rows.length ucap) ∧ IsRows w (.slice ua (ts[k]).Rows.length ucap) (ts[k]).Rows := by
        rcases unhide HV with ⟨h, _⟩ | ⟨g, off, cap', he, hg, hr⟩
        · subst h; simp at hlt
        · simp only [Value.slice.injEq, true_and] at he
          obtain ⟨rfl, rfl⟩ := he
          obtain ⟨hc0, hc1, u, hu, hiu⟩ := hr k ts[k] (List.getElem?_eq_getElem hlt)
          obtain ⟨ua, ucap, rfl⟩ := isRows_slice hiu
          exact ⟨g, off, rfl, hg, hc0, hc1, ua, ucap, hu, hiu⟩
      have c0 := (hb.cell (p := ⟨g, off + k * 3, none⟩) hg).trans c0w
      have c1' := (hb.cell (p := ⟨g, off + k * 3 + 1, none⟩) hg).trans c1w
      have c2 := (hb.cell (p := ⟨g, off + k * 3 + 2, none⟩) hg).trans hu
      obtain ⟨fS, fR, fX⟩ := unhide HF _ (List.getElem_mem hlt)
      have SN := szTable_calls (ts[k]).Name (ts[k]).Cols _ (ts[k]).Rows lv wr (hiu.of hb) fR fX fS hlv0 hlv1
      have hbt := bulkT_take ts k hlt
      have hble := bulkT_take_le ts (k + 1)
      have q1 : g < wr.heap.size := Nat.lt_of_lt_of_le hg hb.size
      have j1 : (k : Int) < (ts.length : Int) := by omega
      clear hu hiu fS fR fX c0w c1w
      generalize (ts[k]).Name.size + ((ts[k]).Rows.length + bulk (ts[k]).Rows) = tot at *
      cases e : ts[k] with | mk S C xss =>
      rw [e] at c0 c1' c2 SN
      simp only at c0 c1' c2 SN
      clear e
      by_cases hlow : lv < (tot : Int)
      · have HE : Hid (szr left (ts.length + bulkT ts) = -1) := by
          show _ = _
          have := unhide HLV
          unfold szr
          rw [if_pos (by omega)]
        have e2 : szr lv tot = -1 := by unfold szr; rw [if_pos hlow]
        rw [e2] at SN
        have HSN := hide SN
        clear SN e2
        go_wp2_with fail
        refine (unhide HSN).mono ?_; rintro e w1 ⟨rfl, hb1⟩
        go_wp2
        go_ret
        exact ⟨congrArg (fun z => Ending.returned (.int .i64 z)) HE.out.symm, bT hb hb1⟩
      · have e2 : szr lv tot = lv - (tot : Int) := by unfold szr; rw [if_neg hlow]
        rw [e2] at SN
        have HSN := hide SN; have HBT := hide hbt
        have n1 : ¬ lv - (tot : Int) < 0 := by omega
        clear SN e2 hbt hble
        go_wp2_with fail
        refine (unhide HSN).mono ?_; rintro e w1 ⟨rfl, hb1⟩
        go_wp2
        go_roundw
        case rel => exact ⟨k + 1, _, by omega, by go_num, rfl, by have := unhide HLV; have := unhide HBT; omega, by omega, bT hb hb1⟩
        case measure => simp [intOf]; omega
    · obtain rfl : k = ts.length := by omega
      have HE : Hid (szr left (ts.length + bulkT ts) = lv) := by
        show _ = _
        have := unhide HLV
        rw [List.take_length] at this
        unfold szr
        rw [if_neg (by omega)]
        omega
      clear HLV
      go_wp2
      go_ret
      exact ⟨congrArg (fun z => Ending.returned (.int .i64 z)) HE.out.symm, hb⟩
theorem szDb_calls (v : Value) (ts : List Tb) (left : Int) (w : World) (hv : IsTables w v ts) (hl : ts.length ≤ maxLen) (hf : FitsT ts) (h0 : 0 ≤ left) (h1 : left ≤ 1048576) :
    Calls Tryz.prog 6 #[.agg #[v], .int .i64 left] w fun e w' => e = .returned (.int .i64 (szr left (ts.length + bulkT ts))) ∧ Below w.heap.size w w' := by
  have SN := fun W (hb : Below w.heap.size w W) => szTableS_calls v ts left W (hv.of hb) hl hf h0 h1
  obtain ⟨a, cap, rfl⟩ := isTables_slice hv
  have hz : szr left (ts.length + bulkT ts) = -1 ∨ 0 ≤ szr left (ts.length + bulkT ts) := by unfold szr; split <;> omega
  generalize szr left (ts.length + bulkT ts) = z at *
  have HSN := hide SN
  clear SN hv hf
  by_cases hz' : z < 0
  · have : z = -1 := by omega
    have HZ := hide this
    clear this hz
    go_enter Tryz.func6, Tryz.ntmps6
    go_wp2_with fail
    refine (unhide HSN _ (bA (Below.refl _ _) _)).mono ?_; rintro e w1 ⟨rfl, hb1⟩
    go_wp2
    go_ret
    exact ⟨congrArg (fun z => Ending.returned (.int .i64 z)) (unhide HZ).symm, bT (bA (Below.refl _ _) _) hb1⟩
  · clear hz
    go_enter Tryz.func6, Tryz.ntmps6
    go_wp2_with fail
    refine (unhide HSN _ (bA (Below.refl _ _) _)).mono ?_; rintro e w1 ⟨rfl, hb1⟩
    go_wp2
    go_ret
    exact ⟨rfl, bT (bA (Below.refl _ _) _) hb1⟩
end Go.Proofs.YtnchcndcinpalaaGreatDoor
namespace Go.Proofs.YtnchcndcinpalaaGreatDoor
open Go Go.RowKit
theorem eqRows {xss : List (List V2)} (g G g' G' : Nat) (w : World) (hx : MadeRows w g G xss) (hy : MadeRows w g' G' xss) (b1 : xss.length ≤ 1048576) (hx2 : bulk xss ≤ 1048576) :
    Calls Tryz.prog 110 #[.slice (some ⟨G, 0, none⟩) xss.length xss.length, .slice (some ⟨G', 0, none⟩) xss.length xss.length] w fun e w' => e = .returned (.bool true) ∧ Below w.heap.size w w' := by
  obtain ⟨_, h2, rs, h3, h4, h5, _⟩ := hx
  obtain ⟨_, k2, qs, k3, k4, k5, _⟩ := hy
  have l1 : rs.length = xss.length := by rw [← h3]; simp
  have l2 : qs.length = xss.length := by rw [← k3]; simp
  have := eqValSS_calls rs qs G 0 xss.length G' 0 xss.length w h2 k2 h4 k4 h5 k5 (h3.trans k3.symm) (by omega) (fun r hr => Nat.le_trans (bulk_mem (by rw [← h3]; exact List.mem_map_of_mem hr)) hx2)
  rw [l1, l2] at this
  exact this
set_option maxHeartbeats 1000000 in
theorem eqTable_calls (S : ByteArray) (C : Int) (xss : List (List V2)) (g G g' G' : Nat) (w : World) (hx : MadeRows w g G xss) (hy : MadeRows w g' G' xss) (b1 : xss.length ≤ 1048576) (hx2 : bulk xss ≤ 1048576) :
    Calls Tryz.prog 72 #[.agg #[.string S, .int .i64 C, .slice (some ⟨G, 0, none⟩) xss.length xss.length], .agg #[.string S, .int .i64 C, .slice (some ⟨G', 0, none⟩) xss.length xss.length]] w fun e w' => e = .returned (.bool true) ∧ Below w.heap.size w w' := by
  have EI := fun W (hb : Below w.heap.size w W) => eqRows g G g' G' W (hx.of hb) (hy.of hb) b1 hx2
  have HEI := hide EI
  have eC : (C != C) = false := by simp
  have eS : (S.toList == S.toList) = true := by simp
  clear EI hx hy
  go_enter Tryz.func72, Tryz.ntmps72
  go_wp2_with fail
  refine (unhide HEI _ (bA (bA (Below.refl _ _) _) _)).mono ?_; rintro e w1 ⟨rfl, hb1⟩
  go_wp2
  go_ret
  exact ⟨rfl, bT (bA (bA (Below.refl _ _) _) _) hb1⟩
set_option maxHeartbeats 2000000 in
theorem eqTableS_calls (ts : List Tb) (g g' cap cap' : Nat) (w : World) (hg : g < w.heap.size) (hg' : g' < w.heap.size) (hx : TablesAt w g 0 ts) (hy : TablesAt w g' 0 ts) (b1 : ts.length ≤ 1048576) (hk : ∀ t ∈ ts, t.Rows.length ≤ 1048576 ∧ bulk t.Rows ≤ 1048576) :
    Calls Tryz.prog 38 #[.slice (some ⟨g, 0, none⟩) ts.length cap, .slice (some ⟨g', 0, none⟩) ts.length cap'] w fun e w' => e = .returned (.bool true) ∧ Below w.heap.size w w' := by
  have e0 : ((ts.length : Int) != (ts.length : Int)) = false := by simp
  have HX := hide hx; have HY := hide hy; have HK := hide hk
  clear hx hy hk
  go_enter Tryz.func38, Tryz.ntmps38
  go_wp2
  go_loopw [5] (fun c wr => ∃ k : Nat, k ≤ ts.length ∧ c = .int .i64 k ∧ Below w.heap.size w wr) (fun c _ => ts.length - (intOf c).toNat)
  case atStart => exact ⟨0, Nat.zero_le _, rfl, Below.refl _ _⟩
  case round =>
    obtain ⟨k, hk1, rfl, hb⟩ := hrel
    by_cases l1 : k < ts.length
    · obtain ⟨x0, x1, Gx, x2, hmx⟩ := ((unhide HX).of hg hb).at k l1
      obtain ⟨y0, y1, Gy, y2, hmy⟩ := ((unhide HY).of hg' hb).at k l1
      obtain ⟨hkl, hkb⟩ := unhide HK _ (List.getElem_mem l1)
      simp only [Nat.zero_add] at x0 x1 x2 y0 y1 y2
      have j1 : (k : Int) < (ts.length : Int) := by omega
      have q1 : g < wr.heap.size := Nat.lt_of_lt_of_le hg hb.size
      have q2 : g' < wr.heap.size := Nat.lt_of_lt_of_le hg' hb.size
      cases e : ts[k] with | mk S C xss =>
      rw [e] at x0 x1 x2 y0 y1 y2 hmx hmy hkl hkb
      simp only at x0 x1 x2 y0 y1 y2 hmx hmy hkl hkb
      have EN : Hid (∀ W, Std wr W → Calls Tryz.prog 72 #[.agg #[.string S, .int .i64 C, .slice (some ⟨Gx, 0, none⟩) xss.length xss.length], .agg #[.string S, .int .i64 C, .slice (some ⟨Gy, 0, none⟩) xss.length xss.length]] W fun e w' => e = .returned (.bool true) ∧ Below W.heap.size W w') :=
        fun W h => eqTable_calls S C xss g Gx g' Gy W (hmx.of h.2.2) (hmy.of h.2.2) hkl hkb
      clear e hmx hmy
      go_upto_region 6 with fail
      have h1 := Below.refl wr.heap.size wr
      have h2 := h1
      go_region_held3 (Std wr) (repeat (first | with_reducible assumption | with_reducible exact Std.refl _ | with_reducible refine Std.drew ?_ | with_reducible refine Std.alloc ?_ _ | with_reducible refine Std.setCell ?_ ?_ _ | with_reducible refine Std.call ?_ (by with_reducible assumption) | (simp <;> omega) | omega)) (first | (go_at_call 72; refine (unhide EN _ (by assumption)).mono ?_; rintro e w1 ⟨rfl, hb⟩; (first | have n3 := bT h2 hb | have n3 := bT (bA h2 _) hb | have n3 := bT (Below.drew h2) hb | have n3 := bT (Below.drew (bA h2 _)) hb | have n3 := bT (bA (Below.drew h2) _) hb); (first | have n2 := bT h1 hb | have n2 := bT (bA h1 _) hb | have n2 := bT (Below.drew h1) hb | have n2 := bT (Below.drew (bA h1 _)) hb | have n2 := bT (bA (Below.drew h1) _) hb); obtain ⟨c1, f1⟩ := bcell hb; obtain ⟨c2, f2⟩ := bcell n2; obtain ⟨c3, f3⟩ := bcell n3; have hs := hb.size; (try simp at hs); clear h1 h2; have h1 := hb; have h2 := n2; clear n2 hb))
      have hS : Std wr w1 := by assumption
      have d2 := bT hb hS.2.2
      go_wp2
      go_roundw
      case rel => exact ⟨k + 1, by omega, by go_num, d2⟩
      case measure => simp [intOf]; omega
    · go_wp2
      go_ret
      exact ⟨rfl, hb⟩
theorem eqDb_calls (ts : List Tb) (g g' cap cap' : Nat) (w : World) (hg : g < w.heap.size) (hg' : g' < w.heap.size) (hx : TablesAt w g 0 ts) (hy : TablesAt w g' 0 ts) (b1 : ts.length ≤ 1048576) (hk : ∀ t ∈ ts, t.Rows.length ≤ 1048576 ∧ bulk t.Rows ≤ 1048576) :
    Calls Tryz.prog 12 #[.agg #[.slice (some ⟨g, 0, none⟩) ts.length cap], .agg #[.slice (some ⟨g', 0, none⟩) ts.length cap']] w fun e w' => e = .returned (.bool true) ∧ Below w.heap.size w w' := by
  have EN := fun W (hb : Below w.heap.size w W) => eqTableS_calls ts g g' cap cap' W (Nat.lt_of_lt_of_le hg hb.size) (Nat.lt_of_lt_of_le hg' hb.size) (hx.of hg hb) (hy.of hg' hb) b1 hk
  have HEN := hide EN
  clear EN hx hy hk
  go_enter Tryz.func12, Tryz.ntmps12
  go_wp2_with fail
  refine (unhide HEN _ (bA (bA (Below.refl _ _) _) _)).mono ?_; rintro e w1 ⟨rfl, hb1⟩
  go_wp2
  go_ret
  exact ⟨rfl, bT (bA (bA (Below.refl _ _) _) _) hb1⟩
end Go.Proofs.YtnchcndcinpalaaGreatDoor
namespace Go.Proofs.YtnchcndcinpalaaGreatDoor
open Go Go.RowKit
set_option maxRecDepth 100000 in
set_option maxHeartbeats 2000000 in
theorem markText_calls (k : Nat) (w : World) (bk : k ≤ 1073741824) : Calls Tryz.prog 75 #[.int .i64 k] w fun e w' => (∃ s : ByteArray, e = .returned (.string s) ∧ s.size ≤ 1073741834) ∧ Below w.heap.size w w' := by
  by_cases h0 : (k : Int) ≤ 0
  · go_enter Tryz.func75, Tryz.ntmps75
    go_wp2
    go_ret
    exact ⟨⟨_, rfl, by decide⟩, Below.refl _ _⟩
  go_enter Tryz.func75, Tryz.ntmps75
  go_wp2
  go_loopw [0, 3] (fun c s wr => ∃ (m : Nat) (t : ByteArray), c = .int .i64 m ∧ s = .string t ∧ t.size + m ≤ k ∧ Below w.heap.size w wr) (fun c _ _ => (intOf c).toNat)
  case atStart => exact ⟨k, ByteArray.empty, rfl, rfl, by simp, Below.refl _ _⟩
  case round =>
    obtain ⟨m, t, rfl, rfl, hm, hb⟩ := hrel
    by_cases h1 : 0 < (m : Int)
    · have hcv : (convert 164 9 (.slice (some ⟨wr.heap.size, 0, none⟩) 1 1)).run Tryz.prog (wr.alloc (.cells #[.int .u8 (48 + (m : Int) % 10)] 5)) = .ok (.string (strOfNums [48 + (m : Int) % 10])) (wr.alloc (.cells #[.int .u8 (48 + (m : Int) % 10)] 5)) :=
        run_convert_bytes_arg _ 164 5 Tryz.underlying164 Tryz.underlying5 wr.heap.size 0 1 1 [48 + (m : Int) % 10] rfl (fun i hi => by cases i with | zero => simp [go_sem] | succ n => omega) 9 Tryz.underlying9
      have hsz : (strOfNums [48 + (m : Int) % 10]).size = 1 := strOfNums_size _
      have hs2 : ¬ 9223372036854775807 < (strOfNums [48 + (m : Int) % 10]).size + t.size := by omega
      have HSZ := hide hsz
      clear hsz
      have e1 : (m : Int).tmod 10 = ((m % 10 : Nat) : Int) := rfl
      have e2 : (m : Int).tdiv 10 = ((m / 10 : Nat) : Int) := rfl
      go_wp2
      go_roundw
      case rel => exact ⟨m / 10, _, by go_num, rfl, by have := unhide HSZ; simp; omega, bA hb _⟩
      case measure => simp [intOf]; omega
    · have hs3 : ¬ 9223372036854775807 < ({ data := #[109] } : ByteArray).size + t.size := by have hz : ({ data := #[109] } : ByteArray).size = 1 := rfl; omega
      go_wp2
      go_ret
      have hz : ({ data := #[109] } : ByteArray).size = 1 := rfl
      exact ⟨⟨_, rfl, by simp [hz]; omega⟩, hb⟩
end Go.Proofs.YtnchcndcinpalaaGreatDoor
namespace Go.Proofs.YtnchcndcinpalaaGreatDoor
open Go Go.RowKit
def mkV (k : Nat) : V2 := ((k : Int) % 3 == 0, (k : Int) + 1)
def mset (k : Nat) (xs : List V2) (i : Nat) : List V2 := (List.range i).map (fun j => mkV (k + 2 * j)) ++ xs.drop i
theorem mset_zero (k : Nat) (xs : List V2) : mset k xs 0 = xs := by simp [mset]
theorem mset_length (k : Nat) (xs : List V2) (i : Nat) (h : i ≤ xs.length) : (mset k xs i).length = xs.length := by simp [mset]; omega
theorem mset_next (k : Nat) (xs : List V2) (i : Nat) (h : i < xs.length) : (mset k xs i).set i (mkV (k + 2 * i)) = mset k xs (i + 1) := by
  unfold mset
  rw [List.set_append_right _ _ (by simp), List.range_succ, List.map_append, List.append_assoc]
  congr 1
  simp
  rw [List.drop_eq_getElem_cons h, List.set_cons_zero]
def marks (k n : Nat) : List V2 := (List.range n).map (fun j => mkV (k + 2 * j))
theorem mset_all (k : Nat) (xs : List V2) : mset k xs xs.length = marks k xs.length := by simp [mset, marks]
structure But (S : Nat → Prop) (w w' : World) : Prop where
  size : w.heap.size ≤ w'.heap.size
  cell : ∀ b o, b < w.heap.size → ¬ S b → w'.cell? ⟨b, o, none⟩ = w.cell? ⟨b, o, none⟩
  frz : ∀ b o, b < w.heap.size → w'.frozen? ⟨b, o, none⟩ = w.frozen? ⟨b, o, none⟩
  low : ∀ B, (∀ b, S b → B ≤ b) → Below B w w'
theorem But.refl (S : Nat → Prop) (w : World) : But S w w := ⟨Nat.le_refl _, fun _ _ _ _ => rfl, fun _ _ _ => rfl, fun _ _ => Below.refl _ _⟩
theorem But.trans {S : Nat → Prop} {w w1 w2 : World} (h : But S w w1) (h' : But S w1 w2) : But S w w2 :=
  ⟨Nat.le_trans h.size h'.size, fun b o hb hs => (h'.cell b o (Nat.lt_of_lt_of_le hb h.size) hs).trans (h.cell b o hb hs), fun b o hb => (h'.frz b o (Nat.lt_of_lt_of_le hb h.size)).trans (h.frz b o hb), fun B hB => (h.low B hB).trans (h'.low B hB)⟩
theorem But.mono {S T : Nat → Prop} {w w1 : World} (h : But S w w1) (hs : ∀ b, S b → T b) : But T w w1 :=
  ⟨h.size, fun b o hb hn => h.cell b o hb (fun hb' => hn (hs b hb')), h.frz, fun B hB => h.low B (fun b hb => hB b (hs b hb))⟩
theorem But.set {S : Nat → Prop} {w w1 : World} (h : But S w w1) {g o : Nat} (hg : S g) (v : Value) : But S w (w1.setCell ⟨g, o, none⟩ v) :=
  ⟨by simpa using h.size, fun b o' hb hn => by rw [setCell_far (fun (e : g = b) => hn (by rw [← e]; exact hg))]; exact h.cell b o' hb hn, fun b o' hb => by rw [frozen_setCell]; exact h.frz b o' hb, fun B hB => (h.low B hB).setCell (hB g hg) v⟩
theorem OwnRow.but {S : Nat → Prop} {w w1 : World} {g n : Nat} {xs : List V2} (h : OwnRow w g n xs) (hb : But S w w1) (hn : ¬ S g) : OwnRow w1 g n xs :=
  ⟨Nat.lt_of_lt_of_le h.size hb.size, fun o => (hb.frz g o h.size).trans (h.frz o), fun o ho => by rw [hb.cell g o h.size hn]; exact h.all o ho, fun i x hx => by
    rw [hb.cell g _ h.size hn, hb.cell g _ h.size hn]; exact h.held i x hx⟩
theorem RowsOk.but {S : Nat → Prop} {w w1 : World} {rs : List R3} (h : RowsOk w rs) (hb : But S w w1) (hn : ∀ r ∈ rs, ¬ S r.1) : RowsOk w1 rs := fun r hr => ⟨(h r hr).1.but hb (hn r hr), (h r hr).2⟩
theorem GridAt.but {S : Nat → Prop} {w w1 : World} {G off : Nat} {rs : List R3} (h : GridAt w G off rs) (hG : G < w.heap.size) (hb : But S w w1) (hn : ¬ S G) : GridAt w1 G off rs := fun i r hr => (hb.cell G _ hG hn).trans (h i r hr)
theorem OwnRow.set {w : World} {g n i : Nat} {xs : List V2} (h : OwnRow w g n xs) (hi : i < xs.length) (hn : xs.length ≤ n) (b : Bool) (k : Int) :
    OwnRow ((w.setCell ⟨g, i * 2, none⟩ (.bool b)).setCell ⟨g, i * 2 + 1, none⟩ (.int .i64 k)) g n (xs.set i (b, k)) := by
  refine ⟨by simpa using h.size, fun o => by rw [frozen_setCell, frozen_setCell]; exact h.frz o, fun o ho => ?_, fun j x hx => ?_⟩
  · obtain ⟨v, hv⟩ := h.all o ho
    obtain ⟨z, hz⟩ := setCell_there (o' := i * 2) (v := .bool b) hv
    exact setCell_there hz
  · simp only [Nat.zero_add]
    by_cases hj : i = j
    · subst hj
      rw [List.getElem?_set_self hi] at hx
      simp only [Option.some.injEq] at hx
      subst hx
      obtain ⟨v0, h0⟩ := h.all (i * 2) (by omega)
      obtain ⟨v1, h1⟩ := h.all (i * 2 + 1) (by omega)
      obtain ⟨z, hz⟩ := setCell_there (o' := i * 2) (v := .bool b) h1
      refine ⟨?_, World.cell?_setCell_same _ _ _ hz⟩
      rw [setCell_other (by omega)]
      exact World.cell?_setCell_same _ _ _ h0
    · rw [List.getElem?_set_ne hj] at hx
      have := h.held j x hx
      simp only [Nat.zero_add] at this
      refine ⟨?_, ?_⟩
      · rw [setCell_other (by omega), setCell_other (by omega)]; exact this.1
      · rw [setCell_other (by omega), setCell_other (by omega)]; exact this.2
set_option maxHeartbeats 1000000 in
theorem markValS_calls (xs : List V2) (g cap k : Nat) (w : World) (ho : OwnRow w g xs.length xs) (b1 : xs.length ≤ 1048576) (bk : k ≤ 536870912) :
    Calls Tryz.prog 111 #[.slice (some ⟨g, 0, none⟩) xs.length cap, .int .i64 k] w fun e w' => e = .returned (.int .i64 ((k + 2 * xs.length : Nat) : Int)) ∧ OwnRow w' g xs.length (marks k xs.length) ∧ But (fun b => b = g) w w' := by
  go_enter Tryz.func111, Tryz.ntmps111
  go_wp2
  go_loopw [1, 5] (fun c s wr => ∃ i : Nat, i ≤ xs.length ∧ s = .int .i64 i ∧ c = .int .i64 ((k + 2 * i : Nat) : Int) ∧ OwnRow wr g xs.length (mset k xs i) ∧ But (fun b => b = g) w wr) (fun _ s _ => xs.length - (intOf s).toNat)
  case atStart => exact ⟨0, Nat.zero_le _, rfl, rfl, by rw [mset_zero]; exact ho, But.refl _ _⟩
  case round =>
    obtain ⟨i, hi, rfl, rfl, hO, hB⟩ := hrel
    by_cases hlt : i < xs.length
    · have j1 : (i : Int) < (xs.length : Int) := by omega
      have HN : Hid (OwnRow ((wr.setCell ⟨g, i * 2, none⟩ (.bool (mkV (k + 2 * i)).1)).setCell ⟨g, i * 2 + 1, none⟩ (.int .i64 (mkV (k + 2 * i)).2)) g xs.length (mset k xs (i + 1))) := by
        show OwnRow _ _ _ _
        rw [← mset_next k xs i hlt]
        exact hO.set (by rw [mset_length _ _ _ hi]; exact hlt) (by rw [mset_length _ _ _ hi]; omega) _ _
      have HB2 : Hid (But (fun b => b = g) w ((wr.setCell ⟨g, i * 2, none⟩ (.bool (mkV (k + 2 * i)).1)).setCell ⟨g, i * 2 + 1, none⟩ (.int .i64 (mkV (k + 2 * i)).2))) := (hB.set rfl _).set rfl _
      obtain ⟨u0, hu0⟩ := hO.all (i * 2) (by omega)
      obtain ⟨u1, hu1⟩ := hO.all (i * 2 + 1) (by omega)
      have hf := hO.frz
      have hs := hO.size
      clear hO hB
      simp only [mkV] at HN HB2
      obtain ⟨j, hj⟩ : ∃ j, j = k + 2 * i := ⟨_, rfl⟩
      have jb : j ≤ 541065216 := by omega
      rw [← hj] at HN HB2 ⊢
      have HJ := hide hj
      clear hj
      go_wp2
      go_roundw
      case rel => exact ⟨i + 1, by omega, by go_num, by rw [show k + 2 * (i + 1) = j + 1 + 1 by rw [unhide HJ]; omega]; go_num, HN.out, HB2.out⟩
      case measure => simp [intOf]; omega
    · obtain rfl : i = xs.length := by omega
      rw [mset_all] at hO
      go_wp2
      go_ret
      exact ⟨rfl, hO, hB⟩
end Go.Proofs.YtnchcndcinpalaaGreatDoor
namespace Go.Proofs.YtnchcndcinpalaaGreatDoor
open Go Go.RowKit
def kAt (k : Nat) (rs : List R3) (j : Nat) : Nat := k + 2 * bulk ((rs.map kR).take j)
theorem kAt_zero (k : Nat) (rs : List R3) : kAt k rs 0 = k := by simp [kAt, bulk]
theorem kAt_succ (k : Nat) (rs : List R3) (j : Nat) (h : j < rs.length) : kAt k rs (j + 1) = kAt k rs j + 2 * (rs[j]).2.2.length := by
  unfold kAt
  rw [bulk_take _ _ (by simpa using h)]
  simp only [List.getElem_map, kR]
  omega
theorem kAt_le (k : Nat) (rs : List R3) (j : Nat) : kAt k rs j ≤ k + 2 * bulk (rs.map kR) := by
  have := bulk_take_le (rs.map kR) j
  unfold kAt
  omega
theorem kAt_all (k : Nat) (rs : List R3) : kAt k rs rs.length = k + 2 * bulk (rs.map kR) := by
  unfold kAt
  rw [List.take_of_length_le (by simp)]
def Marked (w : World) (k : Nat) (rs : List R3) (n : Nat) : Prop := ∀ j (h : j < rs.length), j < n → OwnRow w rs[j].1 rs[j].2.2.length (marks (kAt k rs j) rs[j].2.2.length)
theorem Marked.of {w w1 : World} {k n : Nat} {rs : List R3} (h : Marked w k rs n) (hb : Below w.heap.size w w1) : Marked w1 k rs n := fun j hj hn => (h j hj hn).of hb
theorem nodup_at {rs : List R3} (h : (rs.map (fun r : R3 => r.1)).Nodup) {i j : Nat} (hi : i < rs.length) (hj : j < rs.length) (hne : i ≠ j) : rs[i].1 ≠ rs[j].1 := by
  intro e
  have := List.pairwise_iff_getElem.1 h
  rcases Nat.lt_or_gt_of_ne hne with h' | h'
  · exact this i j (by simpa using hi) (by simpa using hj) h' (by simpa using e)
  · exact this j i (by simpa using hj) (by simpa using hi) h' (by simpa using e.symm)
set_option maxHeartbeats 1000000 in
theorem markValSS_calls (rs : List R3) (G cap k : Nat) (w : World) (hG : G < w.heap.size) (hg : GridAt w G 0 rs) (hro : RowsOk w rs) (hnd : (rs.map (fun r : R3 => r.1)).Nodup) (hGn : ∀ r ∈ rs, r.1 ≠ G) (b1 : rs.length ≤ 1048576) (b2 : k + 2 * bulk (rs.map kR) ≤ 536870912) (b3 : ∀ r ∈ rs, r.2.2.length ≤ 1048576) :
    Calls Tryz.prog 76 #[.slice (some ⟨G, 0, none⟩) rs.length cap, .int .i64 k] w fun e w' => e = .returned (.int .i64 ((k + 2 * bulk (rs.map kR) : Nat) : Int)) ∧ Marked w' k rs rs.length ∧ But (fun b => ∃ r ∈ rs, r.1 = b) w w' := by
  go_enter Tryz.func76, Tryz.ntmps76
  go_wp2
  go_loopw [1, 5] (fun c s wr => ∃ i : Nat, i ≤ rs.length ∧ s = .int .i64 i ∧ c = .int .i64 ((kAt k rs i : Nat) : Int) ∧ Marked wr k rs i ∧ (∀ j (h : j < rs.length), i ≤ j → OwnRow wr rs[j].1 rs[j].2.2.length rs[j].2.2) ∧ But (fun b => ∃ r ∈ rs, r.1 = b) w wr) (fun _ s _ => rs.length - (intOf s).toNat)
  case atStart => exact ⟨0, Nat.zero_le _, rfl, by rw [kAt_zero], fun j _ h => absurd h (by omega), fun j h _ => (hro _ (List.getElem_mem h)).1, But.refl _ _⟩
  case round =>
    obtain ⟨i, hi, rfl, rfl, hM, hR, hB⟩ := hrel
    by_cases hlt : i < rs.length
    · have j1 : (i : Int) < (rs.length : Int) := by omega
      have hcell := (hg.but hG hB (fun ⟨r, hr, e⟩ => hGn r hr e)) i rs[i] (by simp [hlt])
      unfold rv at hcell
      have q1 : G < wr.heap.size := Nat.lt_of_lt_of_le hG hB.size
      have hk1 := kAt_succ k rs i hlt
      have hk2 := kAt_le k rs i
      have MV := markValS_calls rs[i].2.2 rs[i].1 rs[i].2.1 (kAt k rs i) wr (hR i hlt (Nat.le_refl _)) (b3 _ (List.getElem_mem hlt)) (by omega)
      have HMV := hide MV; have HK1 := hide hk1; have HM := hide hM; have HR := hide hR; have HB := hide hB
      have hkb : kAt k rs i ≤ 536870912 := by omega
      clear MV hk1 hk2 hM hR hB
      simp only [Nat.zero_add] at hcell
      go_wp2_with fail
      refine (unhide HMV).mono ?_; rintro e w1 ⟨rfl, ho1, hB1⟩
      have HM1 : Hid (Marked w1 k rs (i + 1)) := fun j hj hn => by
        by_cases e : j = i
        · subst e; exact ho1
        · exact ((unhide HM) j hj (by omega)).but hB1 (nodup_at hnd hj hlt e)
      have HR1 : Hid (∀ j (h : j < rs.length), i + 1 ≤ j → OwnRow w1 rs[j].1 rs[j].2.2.length rs[j].2.2) := fun j hj hn => ((unhide HR) j hj (by omega)).but hB1 (nodup_at hnd hj hlt (by omega))
      have HB1 : Hid (But (fun b => ∃ r ∈ rs, r.1 = b) w w1) := (unhide HB).trans (hB1.mono (fun b hb => ⟨rs[i], List.getElem_mem hlt, hb.symm⟩))
      clear ho1 hB1 HM HR HB HMV
      go_wp2
      go_roundw
      case rel => exact ⟨i + 1, by omega, by go_num, by rw [unhide HK1, Int.natCast_add, Int.natCast_mul]; rfl, HM1.out, HR1.out, HB1.out⟩
      case measure => simp [intOf]; omega
    · obtain rfl : i = rs.length := by omega
      rw [kAt_all]
      go_wp2
      go_ret
      exact ⟨rfl, hM, hB⟩
end Go.Proofs.YtnchcndcinpalaaGreatDoor
namespace Go.Proofs.YtnchcndcinpalaaGreatDoor
open Go Go.RowKit
theorem But.butM {S : Nat → Prop} {w w1 : World} (h : But S w w1) : ButM S w w1 := ⟨h.size, h.cell, h.frz, fun B hB _ => h.low B hB⟩
theorem OwnRow.butM {S : Nat → Prop} {w w1 : World} {g n : Nat} {xs : List V2} (h : OwnRow w g n xs) (hb : ButM S w w1) (hn : ¬ S g) : OwnRow w1 g n xs :=
  ⟨Nat.lt_of_lt_of_le h.size hb.size, fun o => (hb.frz g o h.size).trans (h.frz o), fun o ho => by rw [hb.cell g o h.size hn]; exact h.all o ho, fun i x hx => by
    rw [hb.cell g _ h.size hn, hb.cell g _ h.size hn]; exact h.held i x hx⟩
def TbRow (w : World) (g i : Nat) (t : Tb) (lo hi : Nat) : Prop := ∃ (G : Nat) (rs : List R3), w.cell? ⟨g, i * 3 + 2, none⟩ = some (.slice (some ⟨G, 0, none⟩) t.Rows.length t.Rows.length) ∧ rs.map (fun r : R3 => r.2.2) = t.Rows ∧ G < w.heap.size ∧ GridAt w G 0 rs ∧ RowsOk w rs ∧ (rs.map (fun r : R3 => r.1)).Nodup ∧ lo ≤ G ∧ G < hi ∧ ∀ r ∈ rs, G < r.1 ∧ r.1 < hi
theorem TbRow.but {w w1 : World} {g i : Nat} {t : Tb} {lo hi : Nat} {S : Nat → Prop} (h : TbRow w g i t lo hi) (hb : ButM S w w1) (hc : w1.cell? ⟨g, i * 3 + 2, none⟩ = w.cell? ⟨g, i * 3 + 2, none⟩) (hn : ∀ b, lo ≤ b → b < hi → ¬ S b) : TbRow w1 g i t lo hi := by
  obtain ⟨G, rs, h1, h2, h3, h4, h5, h6, h7, h8, h9⟩ := h
  refine ⟨G, rs, hc.trans h1, h2, Nat.lt_of_lt_of_le h3 hb.size, fun j r hr => (hb.cell G _ h3 (hn G h7 h8)).trans (h4 j r hr), fun r hr => ⟨(h5 r hr).1.butM hb (hn r.1 (by have := h9 r hr; omega) (h9 r hr).2), (h5 r hr).2⟩, h6, h7, h8, h9⟩
theorem TbRow.of {w w1 : World} {g i : Nat} {t : Tb} {lo hi : Nat} (h : TbRow w g i t lo hi) (hg : g < w.heap.size) (hb : Below w.heap.size w w1) : TbRow w1 g i t lo hi :=
  h.but (ButM.ofBelow (S := fun _ => False) hb) (hb.cell (p := ⟨g, i * 3 + 2, none⟩) hg) (fun _ _ _ h => h)
structure TbT (w : World) (lo : Nat → Nat) (B g k : Nat) (ts : List Tb) : Prop where
  g0 : B ≤ g
  g1 : g < lo 0
  mono : ∀ i j, i ≤ j → j ≤ k → lo i ≤ lo j
  top : lo k ≤ w.heap.size
  row : ∀ i t, (ts.take k)[i]? = some t → TbRow w g i t (lo i) (lo (i + 1))
set_option maxHeartbeats 2000000 in
theorem toTable_M (S : ByteArray) (C : Int) (v : Value) (xss : List (List V2)) (w : World) (hv : IsRows w v xss) (hn : xss.length ≤ 1048576) (hx : bulk xss ≤ 1048576) :
    Calls Tryz.prog 62 #[.agg #[.string S, .int .i64 C, v]] w fun e w' => ∃ (G : Nat) (rs : List R3), e = .returned (.agg #[.string S, .int .i64 C, .slice (some ⟨G, 0, none⟩) xss.length xss.length]) ∧ w.heap.size ≤ G ∧ (∀ g, g < w.heap.size → MadeRows w' g G xss) ∧
      rs.map (fun r : R3 => r.2.2) = xss ∧ G < w'.heap.size ∧ GridAt w' G 0 rs ∧ RowsOk w' rs ∧ (rs.map (fun r : R3 => r.1)).Nodup ∧ (∀ r ∈ rs, G < r.1) ∧ Below w.heap.size w w' := by
  have TI := fun W (hb : Below w.heap.size w W) => toValSS_calls v xss W (hv.of hb) hn hx
  have HT := hide TI
  obtain ⟨a, cap, rfl⟩ := isRows_slice hv
  clear TI hv
  go_enter Tryz.func62, Tryz.ntmps62
  go_wp2_with fail
  refine (unhide HT _ (by (repeat (first | exact Below.refl _ _ | refine bA ?_ _ | refine Below.setCell ?_ (by simp <;> omega) _)))).mono ?_; rintro e w1 ⟨G, rs, rfl, hm, hG, hog, hro, hrl, hnd, hb1⟩
  obtain ⟨hc, hf⟩ := bcell hb1
  have hs1 : w.heap.size + 3 ≤ w1.heap.size := by have := hb1.size; simpa using this
  have hG1 : w.heap.size + 3 ≤ G := by simpa using hG
  have hMR : ∀ g, g < w.heap.size + 3 → MadeRows w1 g G xss := fun g hg => ⟨by omega, hog.size, rs, hm, hog.held, hro, fun r hr => (hrl r hr).1⟩
  have HO := hide hMR; have HB := hide (bT (by (repeat (first | exact Below.refl _ _ | refine bA ?_ _))) hb1 : Below w.heap.size w w1)
  have HG := hide hog; have HRo := hide hro; have HRl := hide hrl
  clear hMR hb1 hG hog hro hrl
  go_wp2
  refine bodyPost_ret (v := .agg #[.string S, .int .i64 C, .slice (some ⟨G, 0, none⟩) xss.length xss.length]) (by simp [results, Tryz.results62, go_sem, hc]) rfl ⟨G, rs, rfl, by omega, ?_, hm, ?_, ?_, ?_, hnd, fun r hr => (unhide HRl r hr).1, ?_⟩
  · intro g hg
    have h2 := ((((unhide HO (w.heap.size + 1 + 1) (by omega)).far (X := w.heap.size + 1 + 1) (O := 2) (by omega) (.slice (some ⟨G, 0, none⟩) xss.length xss.length)).far (X := w.heap.size + 1) (O := 0) (by omega) (.string S)).far (X := w.heap.size + 1) (O := 1) (by omega) (.int .i64 C)).far (X := w.heap.size + 1) (O := 2) (by omega) (.slice (some ⟨G, 0, none⟩) xss.length xss.length)
    exact ⟨by omega, h2.2.1, h2.2.2⟩
  · have := (unhide HG).size
    simpa using this
  · (repeat (refine GridAt.far ?_ (by omega) _))
    exact (unhide HG).held
  · (repeat (refine RowsOk.far ?_ (fun r hr => by have := (unhide HRl r hr).1; omega) _))
    exact unhide HRo
  · (repeat (refine Below.setCell ?_ (by dsimp only; omega) _))
    exact unhide HB
end Go.Proofs.YtnchcndcinpalaaGreatDoor
