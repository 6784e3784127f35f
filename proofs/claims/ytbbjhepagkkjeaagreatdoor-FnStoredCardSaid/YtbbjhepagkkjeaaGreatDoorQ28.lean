import Derived.Test.YtbbjhepagkkjeaaGreatDoorQ11
import Derived.Test.YtbbjhepagkkjeaaGreatDoorQ27
import Derived.Maps.OwnSet
import Derived.BigQuiet
import Derived.Deep.DeepCutAuto
import Derived.Test.YtbbjhepagkkjeaaGreatDoorQ24
import Derived.Test.YtbbjhepagkkjeaaGreatDoorQ2
import Derived.Deep.RegionHeld3
namespace Go.Proofs.YtbbjhepagkkjeaaGreatDoor
open Go Go.RowKit
set_option maxHeartbeats 1000000 in
theorem isName_calls (s : ByteArray) (w : World) (hs : s.size ≤ 1048576) (hT : TKw w) : Calls Tryz.prog 51 #[.string s] w fun e w' => e = .returned (.bool (dB (NameB s))) ∧ w' = w := by
  have LC := fun w => isLetter_calls (byt s 0) w
  have SC := fun w => spanLen_calls s w hs
  have KC := isKeyword_calls s w hT
  have HN : Hid (NameB s ↔ (s.toList ≠ [] ∧ s.size ≤ 64 ∧ letter (byt s 0) = true ∧ spn s = s.size ∧ decide (s.toList ∈ kws) = false)) := by
    show _ ↔ _
    rw [name_iff, decide_eq_false_iff_not]
  clear hT
  generalize decide (s.toList ∈ kws) = k at *
  cases he : (s.toList == ([] : List UInt8))
  · have hne : s.toList ≠ [] := beq_eq_false_iff_ne.1 he
    have hpos : 0 < s.size := by rw [← size_toList]; exact List.length_pos_iff.2 hne
    have HNe := hide hne
    clear hne
    by_cases h64 : (s.size : Int) ≤ 64
    · have eb := byt_eq s 0 hpos
      have j0 : (0 : Int) < (s.size : Int) := by omega
      have hsp := spn_le s
      generalize byt s 0 = c at *
      generalize letter c = l at *
      generalize spn s = m at *
      cases l
      · have HE : Hid (dB (NameB s) = false) := dB_false (fun h => by have := (HN.out.1 h).2.2.1; cases this)
        have HL := hide LC; have HS := hide SC; have HKC := hide KC
        clear LC SC KC HN
        go_enter Tryz.func51, Tryz.ntmps51
        go_wp2_with fail
        refine (unhide HL _).mono ?_; rintro e w1 ⟨rfl, rfl⟩
        go_wp2
        go_ret
        exact ⟨congrArg (fun z => Ending.returned (.bool z)) HE.out.symm, rfl⟩
      · by_cases hm : m = s.size
        · have hm' : ((m : Int) == (s.size : Int)) = true := by simp [hm]
          have HM := hide hm
          clear hm
          cases k
          · have HE : Hid (dB (NameB s) = true) := dB_true (HN.out.2 ⟨unhide HNe, by omega, rfl, unhide HM, rfl⟩)
            clear HM
            have HL := hide LC; have HS := hide SC; have HKC := hide KC
            clear LC SC KC HN
            go_enter Tryz.func51, Tryz.ntmps51
            go_wp2_with fail
            refine (unhide HL _).mono ?_; rintro e w1 ⟨rfl, rfl⟩
            go_wp2_with fail
            refine (unhide HS _).mono ?_; rintro e w1 ⟨rfl, rfl⟩
            go_wp2_with fail
            refine (unhide HKC).mono ?_; rintro e w1 ⟨rfl, rfl⟩
            go_wp2
            go_ret
            exact ⟨congrArg (fun z => Ending.returned (.bool z)) HE.out.symm, rfl⟩
          · have HE : Hid (dB (NameB s) = false) := dB_false (fun h => by have := (HN.out.1 h).2.2.2.2; cases this)
            clear HM
            have HL := hide LC; have HS := hide SC; have HKC := hide KC
            clear LC SC KC HN
            go_enter Tryz.func51, Tryz.ntmps51
            go_wp2_with fail
            refine (unhide HL _).mono ?_; rintro e w1 ⟨rfl, rfl⟩
            go_wp2_with fail
            refine (unhide HS _).mono ?_; rintro e w1 ⟨rfl, rfl⟩
            go_wp2_with fail
            refine (unhide HKC).mono ?_; rintro e w1 ⟨rfl, rfl⟩
            go_wp2
            go_ret
            exact ⟨congrArg (fun z => Ending.returned (.bool z)) HE.out.symm, rfl⟩
        · have hm' : ((m : Int) == (s.size : Int)) = false := by simp; omega
          have HE : Hid (dB (NameB s) = false) := dB_false (fun h => hm (HN.out.1 h).2.2.2.1)
          clear hm
          have HL := hide LC; have HS := hide SC; have HKC := hide KC
          clear LC SC KC HN
          go_enter Tryz.func51, Tryz.ntmps51
          go_wp2_with fail
          refine (unhide HL _).mono ?_; rintro e w1 ⟨rfl, rfl⟩
          go_wp2_with fail
          refine (unhide HS _).mono ?_; rintro e w1 ⟨rfl, rfl⟩
          go_wp2
          go_ret
          exact ⟨congrArg (fun z => Ending.returned (.bool z)) HE.out.symm, rfl⟩
    · have HE : Hid (dB (NameB s) = false) := dB_false (fun h => by have := (HN.out.1 h).2.1; omega)
      have HL := hide LC; have HS := hide SC; have HKC := hide KC
      clear LC SC KC HN
      go_enter Tryz.func51, Tryz.ntmps51
      go_wp2
      go_ret
      exact ⟨congrArg (fun z => Ending.returned (.bool z)) HE.out.symm, rfl⟩
  · have HE : Hid (dB (NameB s) = false) := dB_false (fun h => (HN.out.1 h).1 (by simpa using he))
    have HL := hide LC; have HS := hide SC; have HKC := hide KC
    clear LC SC KC HN
    go_enter Tryz.func51, Tryz.ntmps51
    go_wp2
    go_ret
    exact ⟨congrArg (fun z => Ending.returned (.bool z)) HE.out.symm, rfl⟩
end Go.Proofs.YtbbjhepagkkjeaaGreatDoor
namespace Go.Proofs.YtbbjhepagkkjeaaGreatDoor
open Go Go.RowKit
theorem lawS : Maps.Keyed Tryz.prog 9 := Maps.string_keyed Tryz.underlying9
theorem make_map (n : Nat) (w : World) : (Instr.makeMap 63 (some (.int .i64 (n : Int)))).run Tryz.prog w = .ok (.map (some w.heap.size)) (w.alloc (.map #[] 0)) := by
  have h := run_underlying (w := w) Tryz.underlying63
  simp [Instr.makeMap, h, asInt, Result.andThen]
  rfl
end Go.Proofs.YtbbjhepagkkjeaaGreatDoor
namespace Go.Proofs.YtbbjhepagkkjeaaGreatDoor
open Go Go.RowKit
set_option maxHeartbeats 2000000 in
theorem tableOk_X (S : ByteArray) (C : Int) (xss : List (List V2)) (ua : Option Addr) (uc : Nat) (w : World) (hM : RowsX w ua xss) (hS : S.size ≤ 1048576) (hn : xss.length ≤ 1048576) (hT : TKw w) :
    Calls Tryz.prog 22 #[.agg #[.string S, .int .i64 C, .slice ua xss.length uc]] w fun e w' => e = .returned (.bool (dB (TbOk ⟨S, C, xss⟩))) ∧ Below w.heap.size w w' := by
  have NC := fun W (hb : Below w.heap.size w W) => isName_calls S W hS (hT.of hb)
  have hdef : TbOk ⟨S, C, xss⟩ ↔ (dB (NameB S) = true ∧ 1 ≤ C ∧ C ≤ 16 ∧ ∀ xs ∈ xss, (xs.length : Int) = C) := by
    unfold TbOk
    rw [dB_iff]
  have HD := hide hdef; have HNC := hide NC; have HM := hide hM
  clear hdef NC hM hT
  generalize dB (NameB S) = b1 at *
  have hbad : ¬ (b1 = true ∧ 1 ≤ C ∧ C ≤ 16 ∧ ∀ xs ∈ xss, (xs.length : Int) = C) → dB (TbOk ⟨S, C, xss⟩) = false := fun h => dB_false (fun h' => h ((unhide HD).1 h'))
  have HBad := hide hbad
  clear hbad
  cases b1
  · have HE := hide (unhide HBad (fun h => by have := h.1; cases this))
    go_enter Tryz.func22, Tryz.ntmps22
    go_wp2_with fail
    refine (unhide HNC _ (bA (Below.refl _ _) _)).mono ?_; rintro e w1 ⟨rfl, rfl⟩
    go_wp2
    go_ret
    exact ⟨congrArg (fun z => Ending.returned (.bool z)) (unhide HE).symm, bA (Below.refl _ _) _⟩
  by_cases hC1 : C < 1
  · have HE := hide (unhide HBad (fun h => by have := h.2.1; omega))
    go_enter Tryz.func22, Tryz.ntmps22
    go_wp2_with fail
    refine (unhide HNC _ (bA (Below.refl _ _) _)).mono ?_; rintro e w1 ⟨rfl, rfl⟩
    go_wp2
    go_ret
    exact ⟨congrArg (fun z => Ending.returned (.bool z)) (unhide HE).symm, bA (Below.refl _ _) _⟩
  by_cases hC2 : 16 < C
  · have HE := hide (unhide HBad (fun h => by have := h.2.2.1; omega))
    go_enter Tryz.func22, Tryz.ntmps22
    go_wp2_with fail
    refine (unhide HNC _ (bA (Below.refl _ _) _)).mono ?_; rintro e w1 ⟨rfl, rfl⟩
    go_wp2
    go_ret
    exact ⟨congrArg (fun z => Ending.returned (.bool z)) (unhide HE).symm, bA (Below.refl _ _) _⟩
  go_enter Tryz.func22, Tryz.ntmps22
  go_wp2_with fail
  refine (unhide HNC _ (bA (Below.refl _ _) _)).mono ?_; rintro e w1 ⟨rfl, rfl⟩
  go_wp2
  go_loopw [22] (fun c wi => ∃ j : Nat, j ≤ xss.length ∧ c = .int .i64 j ∧ (∀ xs ∈ xss.take j, (xs.length : Int) = C) ∧ wi.cell? ⟨w.heap.size, 1, none⟩ = some (.int .i64 C) ∧ w.heap.size < wi.heap.size ∧ Below w.heap.size w wi) (fun c _ => xss.length - (intOf c).toNat)
  case atStart => exact ⟨0, Nat.zero_le _, rfl, fun x hx => by simp at hx, by simp [go_sem], by simp, bA (Below.refl _ _) _⟩
  case round =>
    obtain ⟨j, hj, rfl, hjw, ba, sa, hb⟩ := hrel
    have HJ := hide hjw
    clear hjw
    by_cases hjl : j < xss.length
    · obtain ⟨G, ra, rc, rfl, hGw, r0⟩ := ((unhide HM).of hb) j hjl
      have j2 : (j : Int) < (xss.length : Int) := by omega
      have hnext : ((xss[j]).length : Int) = C → ∀ xs ∈ xss.take (j + 1), (xs.length : Int) = C := fun h x hx => by
        rw [take_snoc xss j hjl] at hx
        rcases List.mem_append.1 hx with h' | h'
        · exact unhide HJ x h'
        · simp only [List.mem_singleton] at h'; rw [h']; exact h
      have hno : ((xss[j]).length : Int) ≠ C → dB (TbOk ⟨S, C, xss⟩) = false := fun h => unhide HBad (fun hh => h (hh.2.2.2 _ (List.getElem_mem hjl)))
      generalize (xss[j]).length = xl at *
      by_cases hx : (xl : Int) = C
      · have hx' : ((xl : Int) != C) = false := by simp [hx]
        have HNx := hide (hnext hx)
        clear hnext hno hx
        go_wp2
        go_roundw
        case rel => exact ⟨j + 1, by omega, by go_num, unhide HNx, ba, sa, hb⟩
        case measure => simp [intOf]; omega
      · have hx' : ((xl : Int) != C) = true := by simp [hx]
        have HE := hide (hno hx)
        clear hnext hno hx
        go_wp2
        go_ret
        exact ⟨congrArg (fun z => Ending.returned (.bool z)) (unhide HE).symm, hb⟩
    · obtain rfl : j = xss.length := by omega
      have hall := unhide HJ
      rw [List.take_length] at hall
      have HE : Hid (dB (TbOk ⟨S, C, xss⟩) = true) := dB_true ((unhide HD).2 ⟨by first | rfl | trivial, by omega, by omega, hall⟩)
      clear hall
      go_wp2
      go_ret
      exact ⟨congrArg (fun z => Ending.returned (.bool z)) HE.out.symm, hb⟩
set_option maxRecDepth 100000 in
set_option maxHeartbeats 2000000 in
theorem tablePlaces_X (ts : List Tb) (a : Option Addr) (cap : Nat) (w : World) (ht : TabsX w a ts) (hn : ts.length ≤ 1048576) (hsm : SmallT ts) :
    Calls Tryz.prog 23 #[.slice a ts.length cap] w fun e w' => ∃ B D, e = .returned (.map (some B)) ∧ w'.ownsMap Tryz.prog 9 (plainElem (H := Unit) Tryz.prog 3) B ts.length D ∧ MapIn D ts ts.length ∧ Below w.heap.size w w' := by
  have hmm := make_map ts.length
  have HT := hide ht
  have hsz : ∀ (k : Nat) (hk : k < ts.length), (ts[k]).Name.size ≤ maxLen := fun k hk => by
    have := bulkT_mem (List.getElem_mem hk)
    unfold SmallT at hsm
    unfold maxLen
    omega
  have HSz := hide hsz
  clear ht hsm hsz
  go_enter Tryz.func23, Tryz.ntmps23
  go_wp2
  clear hmm
  go_loopw [11] (fun i wr => ∃ (k : Nat) (D : DataW Unit), k ≤ ts.length ∧ i = .int .i64 k ∧ wr.ownsMap Tryz.prog 9 (plainElem Tryz.prog 3) w.heap.size k D ∧ MapIn D ts k ∧ Below w.heap.size w wr) (fun i _ => ts.length - (intOf i).toNat)
  case atStart => exact ⟨0, _, Nat.zero_le _, rfl, World.ownsMap_made _ _ _ _, MapIn.start ts, bA (Below.refl _ _) _⟩
  case round =>
    obtain ⟨k, D, hk, rfl, hown, hin, hb⟩ := hrel
    by_cases hlt : k < ts.length
    · obtain ⟨g, ua, uc, rfl, q1, c0, c1, c2, _⟩ := ((unhide HT).of hb) k hlt
      have j1 : (k : Int) < (ts.length : Int) := by omega
      have hkey : keyOf Tryz.prog 9 (.string (ts[k]).Name) = some (.string (ts[k]).Name.data.toList) := WideMaps.keyOf_string_mk Tryz.underlying9 (unhide HSz k hlt)
      have hput := fun d => hin.put hlt (hown.tidy lawS) d
      generalize (ts[k]).Cols = C at *
      generalize (ts[k]).Rows.length = rl at *
      generalize (ts[k]).Name = S at *
      have HK := hide hkey; have HP := hide hput; have HO := hide hown
      clear hkey hput hin hown
      go_wp2_with (first
        | (at_mapUpdate; go_loud (refine wpList_mapUpdate_own _ rfl _ _ _ 63 rfl 9 3 lawS Tryz.underlying63 _ w.heap.size k D rfl ((unhide HO).alloc _) (by unfold maxLen; omega) _ _ _ rfl rfl (unhide HK) _ [] (plainElem_int Tryz.underlying3 (WalkArith.wf_i64 (by omega))) ?_))
        | go_in)
      intro w1 hown1 hgrow1
      have R1 := hide hown1
      have R2 := (bA hb _).grown hgrow1 (bA hb _).size (fun j hj => by cases hj; exact Nat.le_refl _)
      clear hown1 hgrow1
      go_wp2
      go_roundw
      case rel => exact ⟨k + 1, _, by omega, by go_num, unhide R1, unhide HP _, R2⟩
      case measure => simp [intOf]; omega
    · obtain rfl : k = ts.length := by omega
      go_wp2
      go_ret
      exact ⟨_, D, rfl, hown, hin, hb⟩
set_option maxRecDepth 100000 in
set_option maxHeartbeats 4000000 in
theorem DbOk_X (ts : List Tb) (a : Option Addr) (cap : Nat) (w : World) (hn : TabsX w a ts) (hb0 : ts.length ≤ 1048576) (hsm : SmallT ts) (hT : TKw w) :
    Calls Tryz.prog 7 #[.agg #[.slice a ts.length cap]] w fun e w' => e = .returned (.bool (dB (DbV ts))) ∧ Below w.heap.size w w' := by
  have HIff := hide (dbV_iff ts)
  by_cases h2 : (50 : Int) < (ts.length : Int)
  · have HE : Hid (dB (DbV ts) = false) := dB_false (fun h => by have := h.few; omega)
    clear hn hsm HIff hT
    go_enter Tryz.func7, Tryz.ntmps7
    go_wp2
    go_ret
    exact ⟨congrArg (fun z => Ending.returned (.bool z)) HE.out.symm, bA (Below.refl _ _) _⟩
  have hbul : bulkT ts ≤ 1048576 := hsm
  have HP := hide (fun W (hb : Below w.heap.size w W) => tablePlaces_X ts a cap W (hn.of hb) hb0 hsm)
  have HN := hide hn; have HT := hide hT
  clear hn hsm hT
  go_enter Tryz.func7, Tryz.ntmps7
  go_wp2
  go_loopw [3, 13] (fun r c wr => ∃ (k : Nat) (rw' : Int), k ≤ ts.length ∧ c = .int .i64 k ∧ r = .int .i64 rw' ∧ rw' = (sumR (ts.take k) : Int) ∧ (∀ (i : Nat) (hi : i < ts.length), i < k → TbOk ts[i]) ∧ wr.cell? ⟨w.heap.size, 0, none⟩ = some (.slice a ts.length cap) ∧ w.heap.size < wr.heap.size ∧ Below w.heap.size w wr) (fun _ c _ => ts.length - (intOf c).toNat)
  case atStart => exact ⟨0, 0, Nat.zero_le _, rfl, rfl, by simp [sumR], fun i hi h => by omega, by simp [go_sem], by simp, bA (Below.refl _ _) _⟩
  case round =>
    obtain ⟨k, rv', hk, rfl, rfl, hrv, hw, ba, sa, hb⟩ := hrel
    have HW := hide hw; have HRv := hide hrv
    have hrvb : 0 ≤ rv' ∧ rv' ≤ 1048576 := by have := sumR_take_le ts k; omega
    obtain ⟨hrv0, hrv1⟩ := hrvb
    clear hw hrv
    by_cases hlt : k < ts.length
    · obtain ⟨g, ua, uc, ha, q1, c0, c1, c2, hMR⟩ := ((unhide HN).of hb) k hlt
      subst ha
      have hbad : ¬ TbOk ts[k] → dB (DbV ts) = false := fun h => dB_false (fun hh => h (((unhide HIff).1 hh).2.1 k hlt))
      have hgood : TbOk ts[k] → ∀ (i : Nat) (hi : i < ts.length), i < k + 1 → TbOk ts[i] := fun h i hi hik => by
        by_cases e : i = k
        · subst e; exact h
        · exact unhide HW i hi (by omega)
      have hsum := sumR_take ts k hlt
      have hmem := bulkT_mem (List.getElem_mem hlt)
      have hTO := fun W (hbW : Below wr.heap.size wr W) => tableOk_X (ts[k]).Name (ts[k]).Cols (ts[k]).Rows ua uc W (hMR.of hbW) (by omega) (by omega) ((unhide HT).of (bT hb hbW))
      cases e : ts[k] with | mk S C xss =>
      rw [e] at c0 c1 c2 hMR hbad hgood hsum hmem hTO
      dsimp only at c0 c1 c2 hMR hsum hmem hTO
      have hxl : xss.length ≤ 1048576 := by omega
      have hd : dB (TbOk ⟨S, C, xss⟩) = true ↔ TbOk ⟨S, C, xss⟩ := dB_iff
      generalize dB (TbOk ⟨S, C, xss⟩) = bT' at *
      have HTO := hide hTO; have HBad := hide hbad; have HGood := hide hgood; have HSum := hide hsum; have HD := hide hd
      have j1 : (k : Int) < (ts.length : Int) := by omega
      clear hTO hbad hgood hsum e hmem hMR hd
      cases bT'
      · have HE := hide (unhide HBad (fun h => by have := (unhide HD).2 h; cases this))
        go_wp2_with fail
        refine (unhide HTO _ (bA (Below.refl _ _) _)).mono ?_; rintro e w1 ⟨rfl, hb1⟩
        go_wp2
        go_ret
        exact ⟨congrArg (fun z => Ending.returned (.bool z)) (unhide HE).symm, bT (bA hb _) hb1⟩
      · have HGd := hide (unhide HGood ((unhide HD).1 (by first | rfl | trivial)))
        go_wp2_with fail
        refine (unhide HTO _ (bA (Below.refl _ _) _)).mono ?_; rintro e w1 ⟨rfl, hb1⟩
        have n2 : w1.cell? ⟨wr.heap.size, 2, none⟩ = some (.slice ua xss.length uc) := (hb1.cell (p := ⟨wr.heap.size, 2, none⟩) (by simp)).trans (by simp [go_sem])
        have ba1 : w1.cell? ⟨w.heap.size, 0, none⟩ = some (.slice (some ⟨g, 0, none⟩) ts.length cap) := (hb1.cell (p := ⟨w.heap.size, 0, none⟩) (by simp; omega)).trans ((((Below.refl wr.heap.size wr).alloc (Nat.le_refl _) _).cell (p := ⟨w.heap.size, 0, none⟩) sa).trans ba)
        have d1 := bT (bA hb _) hb1
        have s1 : wr.heap.size < w1.heap.size := by have := hb1.size; simp at this; omega
        clear hb1 ba c0 c1 c2 HTO HBad HGood HD
        go_wp2
        go_roundw
        case rel => exact ⟨k + 1, rv' + (xss.length : Int), by omega, by go_num, by first | rfl | (congr 1; omega), by have h1 := unhide HSum; have h2 := unhide HRv; omega, unhide HGd, ba1, by omega, d1⟩
        case measure => simp [intOf]; omega
    · obtain rfl : k = ts.length := by omega
      have hrv2 := unhide HRv
      rw [List.take_length] at hrv2
      by_cases hle : rv' ≤ 1000
      · have HE : Hid (∀ (D : DataW Unit), MapIn D ts ts.length → dB (DbV ts) = ((Maps.size D : Int) == (ts.length : Int))) := fun D hD => by
          rw [Bool.eq_iff_iff, dB_iff, unhide HIff]
          have := hD.all
          simp only [beq_iff_eq]
          constructor
          · intro h; have := this.2 h.2.2.2; omega
          · intro h; exact ⟨by omega, fun i hi => unhide HW i hi hi, by omega, this.1 (by omega)⟩
        clear HW HRv hrv2 HIff
        go_upto_region 11 with fail
        have RP : Hid (∀ W, Std wr W → Calls Tryz.prog 23 #[.slice a ts.length cap] W fun e w' => ∃ B D, e = .returned (.map (some B)) ∧ w'.ownsMap Tryz.prog 9 (plainElem (H := Unit) Tryz.prog 3) B ts.length D ∧ MapIn D ts ts.length ∧ Below W.heap.size W w') := fun W h => unhide HP W (bT hb h.2.2)
        refine wp_region_held_drew (S := Std wr) (by kernel_rfl) (Std.drew (Std.refl _)) (fun hHeld => ?_)
        refine tW 0 26 (.int .i64 rv') ?_
        simp only [puts]
        refine tW 1 27 (.bool true) ?_
        simp only [puts]
        refine tW 2 28 (.bool true) ?_
        simp only [puts]
        refine tW 3 29 (.pointer (some ⟨w.heap.size, 0, none⟩)) ?_
        simp only [puts]
        refine tW 4 30 (.slice a ts.length cap) ?_
        simp only [puts]
        refine tW 7 33 (.pointer (some ⟨w.heap.size, 0, none⟩)) ?_
        simp only [puts]
        refine tW 8 34 (.slice a ts.length cap) ?_
        simp only [puts]
        refine tW 9 35 (.int .i64 (ts.length : Int)) ?_
        simp only [puts]
        refine wpAnyH_ready (rs := [5]) (by kernel_rfl) (by simp) ?_
        refine AllReadyH.cons rfl (fun Kx hK => ?_) AllReadyH.nil
        go_simp
        refine (unhide RP _ (by assumption)).mono ?_
        rintro e w2 ⟨B, D, rfl, hown, hin, hb2⟩
        refine hK.out _ _ (Std.call (by assumption) hb2) (fun hHeld2 => ?_)
        clear hK Kx
        have hlen := fun ty => hown.len Tryz.underlying63 ty
        have HE2 := hide (unhide HE D hin)
        clear HE hown hin
        refine wpAnyH_ready (rs := [6]) (by kernel_rfl) (by simp) ?_
        refine AllReadyH.cons rfl (fun Kx hK => ?_) AllReadyH.nil
        go_simp
        refine hK.out _ _ (by assumption) (fun hHeld3 => ?_)
        clear hK Kx
        refine tW 10 36 (.bool ((Maps.size D : Int) == (ts.length : Int))) ?_
        simp only [puts]
        refine tW 11 37 (.bool ((Maps.size D : Int) == (ts.length : Int))) ?_
        simp only [puts]
        refine tW 12 2 (.bool ((Maps.size D : Int) == (ts.length : Int))) ?_
        simp only [puts]
        refine wpAnyH_done (by kernel_rfl) ?_ _
        go_wp2
        go_ret
        exact ⟨congrArg (fun z => Ending.returned (.bool z)) (unhide HE2).symm, bT hb hHeld3.2.2⟩
      · have HE : Hid (dB (DbV ts) = false) := dB_false (fun h => by have := ((unhide HIff).1 h).2.2.1; omega)
        clear HW HRv hrv2 HIff
        go_upto_region 11 with fail
        go_quiet (fail)
        go_wp2
        go_ret
        exact ⟨congrArg (fun z => Ending.returned (.bool z)) HE.out.symm, below_drewN hb _⟩
end Go.Proofs.YtbbjhepagkkjeaaGreatDoor
namespace Go.Proofs.YtbbjhepagkkjeaaGreatDoor
open Go Go.RowKit
structure WF (s g np cap gt nt capt : Nat) (K T M L R : Int) (u3 u4 : Value) (W : World) : Prop where
  p : W.cell? ⟨s, 0, none⟩ = some (.slice (some ⟨g, 0, none⟩) np cap)
  d : W.cell? ⟨s + 1, 0, none⟩ = some (.slice (some ⟨gt, 0, none⟩) nt capt)
  n0 : W.cell? ⟨s + 1 + 1, 0, none⟩ = some (.int .i64 K)
  n1 : W.cell? ⟨s + 1 + 1, 1, none⟩ = some (.int .i64 T)
  n2 : W.cell? ⟨s + 1 + 1, 2, none⟩ = some (.int .i64 M)
  n3 : W.cell? ⟨s + 1 + 1, 3, none⟩ = some u3
  n4 : W.cell? ⟨s + 1 + 1, 4, none⟩ = some u4
  n5 : W.cell? ⟨s + 1 + 1, 5, none⟩ = some (.int .i64 L)
  n6 : W.cell? ⟨s + 1 + 1, 6, none⟩ = some (.int .i64 R)
  sz : s + 1 + 1 < W.heap.size
theorem WF.of {s g np cap gt nt capt : Nat} {K T M L R : Int} {u3 u4 : Value} {W W1 : World} (h : WF s g np cap gt nt capt K T M L R u3 u4 W) (hb : Below W.heap.size W W1) : WF s g np cap gt nt capt K T M L R u3 u4 W1 := by
  have hs := h.sz
  have hc : ∀ k, W1.cell? ⟨s + 1 + 1, k, none⟩ = W.cell? ⟨s + 1 + 1, k, none⟩ := fun k => hb.cell (p := ⟨s + 1 + 1, k, none⟩) hs
  exact ⟨(hb.cell (p := ⟨s, 0, none⟩) (show s < _ by omega)).trans h.p, (hb.cell (p := ⟨s + 1, 0, none⟩) (show s + 1 < _ by omega)).trans h.d, (hc 0).trans h.n0, (hc 1).trans h.n1, (hc 2).trans h.n2, (hc 3).trans h.n3, (hc 4).trans h.n4, (hc 5).trans h.n5, (hc 6).trans h.n6, Nat.lt_of_lt_of_le hs hb.size⟩
end Go.Proofs.YtbbjhepagkkjeaaGreatDoor
namespace Go.Proofs.YtbbjhepagkkjeaaGreatDoor
open Go Go.RowKit
end Go.Proofs.YtbbjhepagkkjeaaGreatDoor
namespace Go.Proofs.YtbbjhepagkkjeaaGreatDoor
open Go Go.RowKit
end Go.Proofs.YtbbjhepagkkjeaaGreatDoor
namespace Go.Proofs.YtbbjhepagkkjeaaGreatDoor
open Go Go.RowKit
end Go.Proofs.YtbbjhepagkkjeaaGreatDoor
namespace Go.Proofs.YtbbjhepagkkjeaaGreatDoor
open Go Go.RowKit
end Go.Proofs.YtbbjhepagkkjeaaGreatDoor
namespace Go.Proofs.YtbbjhepagkkjeaaGreatDoor
open Go Go.RowKit
end Go.Proofs.YtbbjhepagkkjeaaGreatDoor
namespace Go.Proofs.YtbbjhepagkkjeaaGreatDoor
open Go Go.RowKit
end Go.Proofs.YtbbjhepagkkjeaaGreatDoor
namespace Go.Proofs.YtbbjhepagkkjeaaGreatDoor
open Go Go.RowKit
end Go.Proofs.YtbbjhepagkkjeaaGreatDoor
namespace Go.Proofs.YtbbjhepagkkjeaaGreatDoor
open Go Go.RowKit
end Go.Proofs.YtbbjhepagkkjeaaGreatDoor
namespace Go.Proofs.YtbbjhepagkkjeaaGreatDoor
open Go Go.RowKit
end Go.Proofs.YtbbjhepagkkjeaaGreatDoor
