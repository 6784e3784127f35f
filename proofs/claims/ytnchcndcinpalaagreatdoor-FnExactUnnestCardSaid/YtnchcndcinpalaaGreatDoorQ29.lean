import Derived.Test.YtnchcndcinpalaaGreatDoorPlanSmall
import Derived.Test.YtnchcndcinpalaaGreatDoorFldFit
import Derived.BigQuiet
import Derived.Test.YtnchcndcinpalaaGreatDoorQ24
import Derived.Test.YtnchcndcinpalaaGreatDoorQ2
import Derived.Test.YtnchcndcinpalaaGreatDoorQ7
import Derived.Test.YtnchcndcinpalaaGreatDoorPlanWidths
import Derived.Test.YtnchcndcinpalaaGreatDoorQ15
namespace Go.Proofs.YtnchcndcinpalaaGreatDoor
open Go Go.RowKit
def FldN (nt : Nat) (K T M : Int) (le ls : Nat) (L R : Int) : Prop := 1 ≤ K ∧ K ≤ 10 ∧ usedP nt K T M le ls ∧ (arity K = 0 → L = 0) ∧ (arity K ≠ 2 → R = 0)
theorem fldV_iff (nt : Nat) (p : Pn) : FldV nt p ↔ FldN nt p.K p.T p.M p.Ex.length p.Exs.length p.L p.R := Iff.rfl
theorem fldN_iff {nt : Nat} {K T M : Int} {le ls : Nat} {L R : Int} (h1 : 1 ≤ K) (h2 : K ≤ 10) : FldN nt K T M le ls L R ↔ FitH (pfb K 0) (pfb K 1) (pfb K 2) (pfb K 3) (pfb K 4) (pfb K 5) nt T M le ls L R := by
  have e : K = 1 ∨ K = 2 ∨ K = 3 ∨ K = 4 ∨ K = 5 ∨ K = 6 ∨ K = 7 ∨ K = 8 ∨ K = 9 ∨ K = 10 := by omega
  unfold FldN usedP FitH nOk
  rcases e with rfl | rfl | rfl | rfl | rfl | rfl | rfl | rfl | rfl | rfl <;> simp [pfb, pf, arity] <;> omega
set_option maxRecDepth 100000 in
set_option maxHeartbeats 8000000 in
theorem fieldsOk_calls (nt : Nat) (K T M L R : Int) (le ls : Nat) (a3 a4 : Option Addr) (c3 c4 : Nat) (w : World) (hnt : nt ≤ 1048576) (l2 : le ≤ 1048576) (l3 : ls ≤ 1048576) (hT : TPlan w) :
    Calls Tryz.prog 83 #[.agg #[.int .i64 K, .int .i64 T, .int .i64 M, .slice a3 le c3, .slice a4 ls c4, .int .i64 L, .int .i64 R], .int .i64 (nt : Int)] w fun e w' => e = .returned (.bool (dB (FldN nt K T M le ls L R))) ∧ Below w.heap.size w w' := by
  have hB0 := bA (Below.refl w.heap.size w) (.cells #[.int .i64 K, .int .i64 T, .int .i64 M, .slice a3 le c3, .slice a4 ls c4, .int .i64 L, .int .i64 R] 130)
  obtain ⟨n0, n1, n2, n3, n4, n5, n6⟩ := (fun Q (hQ : (w.alloc (.cells #[.int .i64 K, .int .i64 T, .int .i64 M, .slice a3 le c3, .slice a4 ls c4, .int .i64 L, .int .i64 R] 130)) = Q) => (by subst hQ; exact ⟨by simp [go_sem], by simp [go_sem], by simp [go_sem], by simp [go_sem], by simp [go_sem], by simp [go_sem], by simp [go_sem]⟩ : Q.cell? ⟨w.heap.size, 0, none⟩ = some (.int .i64 K) ∧ Q.cell? ⟨w.heap.size, 1, none⟩ = some (.int .i64 T) ∧ Q.cell? ⟨w.heap.size, 2, none⟩ = some (.int .i64 M) ∧ Q.cell? ⟨w.heap.size, 3, none⟩ = some (.slice a3 le c3) ∧ Q.cell? ⟨w.heap.size, 4, none⟩ = some (.slice a4 ls c4) ∧ Q.cell? ⟨w.heap.size, 5, none⟩ = some (.int .i64 L) ∧ Q.cell? ⟨w.heap.size, 6, none⟩ = some (.int .i64 R))) _ rfl
  have z4 : w.heap.size < (w.alloc (.cells #[.int .i64 K, .int .i64 T, .int .i64 M, .slice a3 le c3, .slice a4 ls c4, .int .i64 L, .int .i64 R] 130)).heap.size := by simp
  by_cases h1 : K < 1
  · have HE : Hid (dB (FldN nt K T M le ls L R) = false) := dB_false (fun h => by have := h.1; omega)
    generalize dB (FldN nt K T M le ls L R) = E at *
    have k1 : ¬ 1 ≤ K := by omega
    have HB0 := hide hB0
    clear hT hB0
    go_enter Tryz.func83, Tryz.ntmps83
    go_upto_region 1 with fail
    go_quiet (fail)
    go_wp2
    go_ret
    exact ⟨congrArg (fun z => Ending.returned (.bool z)) HE.out.symm, below_drewN (unhide HB0) _⟩
  by_cases h2 : 10 < K
  · have HE : Hid (dB (FldN nt K T M le ls L R) = false) := dB_false (fun h => by have := h.2.1; omega)
    generalize dB (FldN nt K T M le ls L R) = E at *
    have k1 : 1 ≤ K := by omega
    have k2 : ¬ K ≤ 10 := by omega
    have HB0 := hide hB0
    clear hT hB0
    go_enter Tryz.func83, Tryz.ntmps83
    go_upto_region 1 with fail
    go_quiet (fail)
    go_wp2
    go_ret
    exact ⟨congrArg (fun z => Ending.returned (.bool z)) HE.out.symm, below_drewN (unhide HB0) _⟩
  have HE := hide (dB_congr (fldN_iff (nt := nt) (T := T) (M := M) (le := le) (ls := ls) (L := L) (R := R) (show 1 ≤ K by omega) (show K ≤ 10 by omega)))
  have RX := hide (fun W => fit_calls (pfb K 0) (pfb K 1) (pfb K 2) (pfb K 3) (pfb K 4) (pfb K 5) (pfb K 6) (pfb K 7) nt K T M L R le ls a3 a4 c3 c4 W hnt l2 l3)
  have hT1 := hT.of hB0
  obtain ⟨t0, t1, t2, t3, t4, t5, t6, t7⟩ := p_look hT1 K (by omega) (by omega)
  have hz := hT1.size
  have k0 : (0 : Int) ≤ K := by omega
  have k1 : 1 ≤ K := by omega
  have k2 : K ≤ 10 := by omega
  have k11 : K < 11 := by omega
  generalize dB (FldN nt K T M le ls L R) = E at *
  obtain ⟨E', hE'⟩ : ∃ E', dB (FitH (pfb K 0) (pfb K 1) (pfb K 2) (pfb K 3) (pfb K 4) (pfb K 5) nt T M le ls L R) = E' := ⟨_, rfl⟩
  rw [hE'] at HE RX
  have HB0 := hide hB0
  clear hT hT1 hE' hB0 h1 h2 hnt l2 l3
  generalize pfb K 0 = p0 at *
  generalize pfb K 1 = p1 at *
  generalize pfb K 2 = p2 at *
  generalize pfb K 3 = p3 at *
  generalize pfb K 4 = p4 at *
  generalize pfb K 5 = p5 at *
  generalize pfb K 6 = p6 at *
  generalize pfb K 7 = p7 at *
  go_enter Tryz.func83, Tryz.ntmps83
  go_upto_region 1 with fail
  generalize (w.alloc (.cells #[.int .i64 K, .int .i64 T, .int .i64 M, .slice a3 le c3, .slice a4 ls c4, .int .i64 L, .int .i64 R] 130)) = Wb at *
  generalize hbx : w.heap.size = bx at *
  have HBX := hide hbx
  clear hbx
  refine wp_region_held_drew (S := Std Wb) (by kernel_rfl) (Std.drew (Std.refl _)) (fun hHeld => ?_)
  refine tW 0 5 (.pointer (some ⟨bx, 0, none⟩)) ?_
  simp only [puts]
  refine tW 1 6 (.int .i64 K) ?_
  simp only [puts]
  refine tW 2 7 (.bool true) ?_
  simp only [puts]
  refine tW 3 8 (.bool true) ?_
  simp only [puts]
  refine tW 4 9 (.pointer (some ⟨bx, 0, none⟩)) ?_
  simp only [puts]
  refine tW 5 10 (.int .i64 K) ?_
  simp only [puts]
  refine tW 6 11 (.bool true) ?_
  simp only [puts]
  refine tW 7 12 (.bool true) ?_
  simp only [puts]
  refine tW 8 13 (.bool true) ?_
  simp only [puts]
  refine tW 9 14 (.pointer (some ⟨bx, 0, none⟩)) ?_
  simp only [puts]
  refine tW 10 15 (.int .i64 K) ?_
  simp only [puts]
  refine tW 11 16 (.pointer (some ⟨1, K.toNat * 8, none⟩)) ?_
  simp only [puts]
  refine tW 12 17 (.agg #[.bool p0, .bool p1, .bool p2, .bool p3, .bool p4, .bool p5, .bool p6, .bool p7]) ?_
  simp only [puts]
  refine tW 13 18 (.agg #[.int .i64 K, .int .i64 T, .int .i64 M, .slice a3 le c3, .slice a4 ls c4, .int .i64 L, .int .i64 R]) ?_
  simp only [puts]
  refine tW 14 19 (.int .i64 (nt : Int)) ?_
  simp only [puts]
  refine wpAnyH_ready (rs := [15]) (by kernel_rfl) (by simp) ?_
  refine AllReadyH.cons rfl (fun Kx hK => ?_) AllReadyH.nil
  go_simp
  refine (unhide RX _).mono ?_
  rintro e w2 ⟨rfl, hb2⟩
  refine hK.out _ _ (Std.call (by assumption) hb2) (fun hHeld2 => ?_)
  clear hK Kx
  refine tW 16 21 (.bool E') ?_
  simp only [puts]
  refine tW 17 4 (.bool E') ?_
  simp only [puts]
  refine wpAnyH_done (by kernel_rfl) ?_ _
  have hbx := unhide HBX
  have hB := bT (show Below w.heap.size w Wb by rw [hbx]; exact unhide HB0) hHeld2.2.2
  clear hbx HBX
  go_wp2
  go_ret
  exact ⟨congrArg (fun z => Ending.returned (.bool z)) (unhide HE).symm, hB⟩
end Go.Proofs.YtnchcndcinpalaaGreatDoor
namespace Go.Proofs.YtnchcndcinpalaaGreatDoor
open Go Go.RowKit
def ExsH (u : Bool) (z : Int) (Ex : List O2) (Exs : List (List O2)) : Prop := if u = true then exOk z Ex = true else ∀ xs ∈ Exs, exOk z xs = true
set_option maxRecDepth 100000 in
set_option maxHeartbeats 4000000 in
theorem fExs_calls (b0 b1 b2 b3 b4 b5 b6 b7 : Bool) (K T M L R z : Int) (Ex : List O2) (Exs : List (List O2)) (b3' b4' : Nat) (w : World) (hb3 : b3' < w.heap.size) (hx : OpsAt w b3' 0 Ex) (hb4 : b4' < w.heap.size) (hxs : OpssAt w b4' Exs) (l1 : Ex.length ≤ 1048576) (l2 : Exs.length ≤ 1048576) (l3 : ∀ xs ∈ Exs, xs.length ≤ 1048576) (hTT : TTakes w) :
    Calls Tryz.prog 106 #[.agg #[.bool b0, .bool b1, .bool b2, .bool b3, .bool b4, .bool b5, .bool b6, .bool b7], .agg #[.int .i64 K, .int .i64 T, .int .i64 M, .slice (some ⟨b3', 0, none⟩) Ex.length Ex.length, .slice (some ⟨b4', 0, none⟩) Exs.length Exs.length, .int .i64 L, .int .i64 R], .int .i64 z] w
      fun e w' => e = .returned (.bool (dB (ExsH (b2 && (M != 1)) z Ex Exs))) ∧ Below w.heap.size w w' := by
  have HU := hide (fun W => fUses_calls b0 b1 b2 b3 b4 b5 b6 b7 M W)
  have HEx := hide (fun W (hb : Below w.heap.size w W) => ExOk_calls Ex b3' 0 Ex.length z W (hTT.of hb) (Nat.lt_of_lt_of_le hb3 hb.size) (hx.of hb3 hb) l1)
  generalize (b2 && (M != 1)) = u at *
  cases u
  · have HE : Hid (dB (ExsH false z Ex Exs) = true ↔ ∀ xs ∈ Exs, exOk z xs = true) := by
      show _ ↔ _
      rw [dB_iff]
      unfold ExsH
      simp
    have HXs := hide (fun W (hb : Below w.heap.size w W) => hxs.of hb4 hb)
    have HTT := hide hTT; have HL3 := hide l3
    clear hb3 hx hxs hTT HEx l1 l3
    generalize dB (ExsH false z Ex Exs) = E at *
    go_enter Tryz.func106, Tryz.ntmps106
    go_wp2_with fail
    refine (unhide HU _).mono ?_; rintro e w1 ⟨rfl, hb1⟩
    have d1 := bT (bA (bA (Below.refl w.heap.size w) _) _) hb1
    have s1 : w.heap.size + 2 ≤ w1.heap.size := by have := hb1.size; simpa using this
    have n4 : w1.cell? ⟨w.heap.size + 1, 4, none⟩ = some (.slice (some ⟨b4', 0, none⟩) Exs.length Exs.length) := (hb1.cell (p := ⟨w.heap.size + 1, 4, none⟩) (by simp)).trans (by simp [go_sem])
    have s2 : w.heap.size + 1 < w1.heap.size := by omega
    clear hb1 HU s1
    go_wp2
    go_loopw [20] (fun c wr => ∃ j : Nat, j ≤ Exs.length ∧ c = .int .i64 j ∧ (∀ xs ∈ Exs.take j, exOk z xs = true) ∧ Below w.heap.size w wr) (fun c _ => Exs.length - (intOf c).toNat)
    case atStart => exact ⟨0, Nat.zero_le _, rfl, fun x hx => by simp at hx, d1⟩
    case round =>
      clear n4 s2 d1
      obtain ⟨j, hj, rfl, hjw, hb⟩ := hrel
      have HJ := hide hjw
      clear hjw
      by_cases hjl : j < Exs.length
      · obtain ⟨bx, cx, hbx, hbx2, hox⟩ := unhide HXs wr hb j Exs[j] (List.getElem?_eq_getElem hjl)
        have j2 : (j : Int) < (Exs.length : Int) := by omega
        have hb4w : b4' < wr.heap.size := Nat.lt_of_lt_of_le hb4 hb.size
        have HX := hide (ExOk_calls Exs[j] bx 0 (Exs[j]).length z wr ((unhide HTT).of hb) hbx2 hox (unhide HL3 _ (List.getElem_mem hjl)))
        have hnext : exOk z Exs[j] = true → ∀ xs ∈ Exs.take (j + 1), exOk z xs = true := fun h x hx => by
          rw [take_snocN Exs j hjl] at hx
          rcases List.mem_append.1 hx with h' | h'
          · exact unhide HJ x h'
          · simp only [List.mem_singleton] at h'; rw [h']; exact h
        have hno : exOk z Exs[j] = false → E = false := fun h => Bool.eq_false_iff.2 (fun h' => by
          have := HE.out.1 h' _ (List.getElem_mem hjl)
          rw [h] at this
          cases this)
        generalize exOk z Exs[j] = bE at *
        generalize (Exs[j]).length = xl at *
        clear hox hbx hbx2 HXs HTT HL3
        cases bE
        · have HE2 := hide (hno rfl)
          clear hno hnext HE HJ
          go_wp2_with fail
          refine (unhide HX).mono ?_; rintro e w2 ⟨rfl, hb2⟩
          have HB2 := hide (bT hb hb2)
          clear hb2
          go_wp2
          go_ret
          exact ⟨congrArg (fun z => Ending.returned (.bool z)) (unhide HE2).symm, unhide HB2⟩
        · have HNx := hide (hnext rfl)
          clear hno hnext HE HJ
          go_wp2_with fail
          refine (unhide HX).mono ?_; rintro e w2 ⟨rfl, hb2⟩
          have HB2 := hide (bT hb hb2)
          clear hb2
          go_wp2
          go_roundw
          case rel => exact ⟨j + 1, by omega, by go_num, unhide HNx, unhide HB2⟩
          case measure => simp [intOf]; omega
      · obtain rfl : j = Exs.length := by omega
        have hall := unhide HJ
        rw [List.take_length] at hall
        have HE2 := hide (HE.out.2 hall)
        clear hall HE HJ
        go_wp2
        go_ret
        exact ⟨congrArg (fun z => Ending.returned (.bool z)) (unhide HE2).symm, hb⟩
  · have HE : Hid (dB (ExsH true z Ex Exs) = exOk z Ex) := by
      show _ = _
      rw [Bool.eq_iff_iff, dB_iff]
      unfold ExsH
      simp
    clear hb3 hx hb4 hxs hTT l3
    generalize dB (ExsH true z Ex Exs) = E at *
    go_enter Tryz.func106, Tryz.ntmps106
    go_wp2_with fail
    refine (unhide HU _).mono ?_; rintro e w1 ⟨rfl, hb1⟩
    have d1 := bT (bA (bA (Below.refl w.heap.size w) _) _) hb1
    have s1 : w.heap.size + 2 ≤ w1.heap.size := by have := hb1.size; simpa using this
    have n3 : w1.cell? ⟨w.heap.size + 1, 3, none⟩ = some (.slice (some ⟨b3', 0, none⟩) Ex.length Ex.length) := (hb1.cell (p := ⟨w.heap.size + 1, 3, none⟩) (by simp)).trans (by simp [go_sem])
    have s2 : w.heap.size + 1 < w1.heap.size := by omega
    clear hb1 HU s1
    go_wp2_with fail
    refine (unhide HEx _ d1).mono ?_; rintro e w2 ⟨rfl, hb2⟩
    have HB2 := hide (bT d1 hb2)
    clear hb2 d1
    go_wp2
    go_ret
    exact ⟨congrArg (fun z => Ending.returned (.bool z)) HE.out.symm, unhide HB2⟩
end Go.Proofs.YtnchcndcinpalaaGreatDoor
namespace Go.Proofs.YtnchcndcinpalaaGreatDoor
open Go Go.RowKit
theorem closE_calls (n b vb : Nat) (f : Nat → Int) (v : Int) (l : Nat) (w : World) (hc : w.cell? ⟨vb, 0, none⟩ = some (.slice (some ⟨b, 0, none⟩) n n)) (hr : FnRow w b n f) (hl : l < n) (h0 : 0 ≤ v) (h1 : v ≤ 17592186044416) (hf0 : 0 ≤ f l) (hf1 : f l ≤ 4294967296) :
    Calls Tryz.prog 87 #[.int .i64 v, .int .i64 (l : Int), .pointer (some ⟨vb, 0, none⟩)] w fun e w' => e = .returned (.int .i64 (v + f l)) ∧ w' = w := by
  have c1 := hr.at l hl
  have s1 := hr.lt
  have j1 : (l : Int) < (n : Int) := by omega
  clear hr
  generalize f l = z at *
  go_enter Tryz.func87, Tryz.ntmps87
  go_wp2
  go_ret
  exact ⟨rfl, rfl⟩
theorem exsV_exsH {nt : Nat} {K T M L R : Int} {Ex : List O2} {Exs : List (List O2)} (hF : FldN nt K T M Ex.length Exs.length L R) (env l r : Int) :
    ExsV ⟨K, T, M, Ex, Exs, L, R⟩ env l r ↔ ExsH (pfb K 2 && (M != 1)) (env + l + (if perRow K then r else 0)) Ex Exs := by
  unfold ExsV ExsH
  rw [pUses hF.1 hF.2.1]
  simp only [decide_eq_true_iff]
  by_cases hu : usesEx K M
  · rw [if_pos hu, if_pos hu]
  · rw [if_neg hu, if_neg hu]
    by_cases h4 : K = 4
    · subst h4
      simp [perRow]
    · have h5 := hF.2.2.1.2.2.2.2.2
      have e1 : Exs = [] := List.eq_nil_of_length_eq_zero (by omega)
      subst e1
      simp
set_option maxRecDepth 100000 in
set_option maxHeartbeats 4000000 in
theorem seenOk_calls (nt : Nat) (K T M L R : Int) (Ex : List O2) (Exs : List (List O2)) (b3 b4 n b : Nat) (env : Int) (f : Nat → Int) (w : World) (hF : FldN nt K T M Ex.length Exs.length L R) (hn : 0 < n)
    (hkl : 0 < arity K → 0 ≤ L ∧ L.toNat < n) (hkr : 1 < arity K → 0 ≤ R ∧ R.toNat < n) (he0 : 0 ≤ env) (he1 : env ≤ 17592186044416) (hf : ∀ j, j < n → 0 ≤ f j ∧ f j ≤ 4294967296)
    (hb3 : b3 < w.heap.size) (hx : OpsAt w b3 0 Ex) (hb4 : b4 < w.heap.size) (hxs : OpssAt w b4 Exs) (hr : FnRow w b n f) (l1 : Ex.length ≤ 1048576) (l2 : Exs.length ≤ 1048576) (l3 : ∀ xs ∈ Exs, xs.length ≤ 1048576) (hT : TPlan w) (hTT : TTakes w) :
    Calls Tryz.prog 88 #[.agg #[.int .i64 K, .int .i64 T, .int .i64 M, .slice (some ⟨b3, 0, none⟩) Ex.length Ex.length, .slice (some ⟨b4, 0, none⟩) Exs.length Exs.length, .int .i64 L, .int .i64 R], .int .i64 env, .slice (some ⟨b, 0, none⟩) n n] w
      fun e w' => e = .returned (.bool (dB (ExsV ⟨K, T, M, Ex, Exs, L, R⟩ env (f L.toNat) (f R.toNat)))) ∧ Below w.heap.size w w' := by
  have k1 := hF.1
  have k2 := hF.2.1
  have k0 : (0 : Int) ≤ K := by omega
  have k11 : K < 11 := by omega
  have HE := hide (dB_congr (exsV_exsH hF env (f L.toNat) (f R.toNat)))
  have hpw := (p_words k1 k2).2.2.2.2.2.2
  obtain ⟨t0, t1, t2, t3, t4, t5, t6, t7⟩ := p_look hT K k1 k2
  have htz := hT.size
  obtain ⟨a1, a2, a3⟩ := arity_k (k := K)
  have hLr : 0 ≤ L ∧ L.toNat < n := by
    rcases arity_of k1 k2 with ha | ha | ha
    · have := hF.2.2.2.1 ha
      omega
    · exact hkl (by omega)
    · exact hkl (by omega)
  obtain ⟨q, rfl⟩ : ∃ q : Nat, L = (q : Int) := ⟨L.toNat, by omega⟩
  have hq : q < n := by omega
  have hqn : (q : Int) < (n : Int) := by omega
  obtain ⟨z0, z1⟩ := hf q hq
  have r1 := hr.at q hq
  have r3 := hr.lt
  rw [show ((q : Int)).toNat = q by omega] at HE ⊢
  by_cases hp : perRow K
  · have ha2 := a1 (by unfold perRow at hp; omega)
    obtain ⟨hR0, hR1⟩ := hkr (by omega)
    obtain ⟨j, rfl⟩ : ∃ j : Nat, R = (j : Int) := ⟨R.toNat, by omega⟩
    have hj : j < n := by omega
    have hjn : (j : Int) < (n : Int) := by omega
    obtain ⟨y0, y1⟩ := hf j hj
    have r2 := hr.at j hj
    rw [show ((j : Int)).toNat = j by omega, if_pos hp] at HE
    rw [show ((j : Int)).toNat = j by omega]
    have hp' : pfb K 6 = true := hpw.2 hp
    rw [hp'] at t6
    generalize dB (ExsV ⟨K, T, M, Ex, Exs, (q : Int), (j : Int)⟩ env (f q) (f j)) = E at *
    clear hF hkl hkr hf hr hT hp hpw a1 a2 a3 ha2 hLr hR0 hR1 hp'
    generalize pfb K 0 = p0 at *
    generalize pfb K 1 = p1 at *
    generalize pfb K 2 = p2 at *
    generalize pfb K 3 = p3 at *
    generalize pfb K 4 = p4 at *
    generalize pfb K 5 = p5 at *
    generalize pfb K 7 = p7 at *
    generalize f q = z at *
    generalize f j = y at *
    have HX := hide (fun W (hb : Below w.heap.size w W) => fExs_calls p0 p1 p2 p3 p4 p5 true p7 K T M (q : Int) (j : Int) (env + z + y) Ex Exs b3 b4 W (Nat.lt_of_lt_of_le hb3 hb.size) (hx.of hb3 hb) (Nat.lt_of_lt_of_le hb4 hb.size) (hxs.of hb4 hb) l1 l2 l3 (hTT.of hb))
    obtain ⟨E', hE'⟩ : ∃ E', dB (ExsH (p2 && (M != 1)) (env + z + y) Ex Exs) = E' := ⟨_, rfl⟩
    rw [hE'] at HX HE
    clear hx hxs hTT l3 hE' hb3 hb4
    go_enter Tryz.func88, Tryz.ntmps88
    go_wp2_with fail
    refine (unhide HX _ (by (repeat (first | exact Below.refl _ _ | refine bA ?_ _)))).mono ?_; rintro e w2 ⟨rfl, hb2⟩
    have HB2 := hide (bT (by (repeat (first | exact Below.refl _ _ | refine bA ?_ _)) : Below w.heap.size w _) hb2)
    clear hb2 HX
    go_wp2
    go_ret
    exact ⟨congrArg (fun z => Ending.returned (.bool z)) (unhide HE).symm, unhide HB2⟩
  · rw [if_neg hp, Int.add_zero] at HE
    have hp' : pfb K 6 = false := Bool.eq_false_iff.2 (fun h => hp (hpw.1 h))
    rw [hp'] at t6
    generalize dB (ExsV ⟨K, T, M, Ex, Exs, (q : Int), R⟩ env (f q) (f R.toNat)) = E at *
    clear hF hkl hkr hf hr hT hp hpw a1 a2 a3 hLr hp'
    generalize pfb K 0 = p0 at *
    generalize pfb K 1 = p1 at *
    generalize pfb K 2 = p2 at *
    generalize pfb K 3 = p3 at *
    generalize pfb K 4 = p4 at *
    generalize pfb K 5 = p5 at *
    generalize pfb K 7 = p7 at *
    generalize f q = z at *
    have HX := hide (fun W (hb : Below w.heap.size w W) => fExs_calls p0 p1 p2 p3 p4 p5 false p7 K T M (q : Int) R (env + z) Ex Exs b3 b4 W (Nat.lt_of_lt_of_le hb3 hb.size) (hx.of hb3 hb) (Nat.lt_of_lt_of_le hb4 hb.size) (hxs.of hb4 hb) l1 l2 l3 (hTT.of hb))
    obtain ⟨E', hE'⟩ : ∃ E', dB (ExsH (p2 && (M != 1)) (env + z) Ex Exs) = E' := ⟨_, rfl⟩
    rw [hE'] at HX HE
    clear hx hxs hTT l3 hE' hb3 hb4
    go_enter Tryz.func88, Tryz.ntmps88
    go_wp2_with fail
    refine (unhide HX _ (by (repeat (first | exact Below.refl _ _ | refine bA ?_ _)))).mono ?_; rintro e w2 ⟨rfl, hb2⟩
    have HB2 := hide (bT (by (repeat (first | exact Below.refl _ _ | refine bA ?_ _)) : Below w.heap.size w _) hb2)
    clear hb2 HX
    go_wp2
    go_ret
    exact ⟨congrArg (fun z => Ending.returned (.bool z)) (unhide HE).symm, unhide HB2⟩
end Go.Proofs.YtnchcndcinpalaaGreatDoor
namespace Go.Proofs.YtnchcndcinpalaaGreatDoor
open Go Go.RowKit
def Bd (n : Nat) (xs : List Int) : Prop := ∀ j, 0 ≤ xs.getD j 0 ∧ xs.getD j 0 ≤ 1 + ((n - j : Nat) : Int) * 4294967296
theorem Bd.set {n : Nat} {xs : List Int} (h : Bd n xs) {k : Nat} (hk : k < xs.length) {v : Int} (h0 : 0 ≤ v) (h1 : v ≤ 1 + ((n - k : Nat) : Int) * 4294967296) : Bd n (xs.set k v) := fun j => by
  rw [getD_set hk]
  by_cases e : j = k
  · rw [if_pos e, e]; exact ⟨h0, h1⟩
  · rw [if_neg e]; exact h j
theorem Bd.up {n : Nat} {xs : List Int} (h : Bd n xs) {m k : Nat} (hk : k < m) (hm : m < n) : 0 ≤ xs.getD m 0 ∧ xs.getD m 0 + 4294967296 ≤ 1 + ((n - k : Nat) : Int) * 4294967296 := by
  obtain ⟨h0, h1⟩ := h m
  refine ⟨h0, ?_⟩
  omega
theorem Bd.small {n : Nat} {xs : List Int} (h : Bd n xs) (hn : n ≤ 2000) (m : Nat) : 0 ≤ xs.getD m 0 ∧ xs.getD m 0 ≤ 17592186044416 := by
  obtain ⟨h0, h1⟩ := h m
  refine ⟨h0, ?_⟩
  omega
theorem hand_one {ps : List Pn} {f : Int → Int → Int} {root : Int} {xs : List Int} {m q : Nat} {ts : List Tb} (hG : Good ts ps) (h : HandTo ps f root xs (m + 1)) (hm : m < ps.length) (ha : arity (ps[m]).K = 1) (hL : (ps[m]).L = (q : Int)) (hq : q < m) :
    HandTo ps f root (xs.set q (xs.getD m 0)) m := by
  have hl := h.len
  obtain ⟨i1, i2, i3⟩ := hG.kidsIn hm
  refine h.step hm (by simp [hl]) ⟨i1, i2⟩ (fun x hx => ?_) (fun _ => ?_) (fun h => by omega)
  · rw [getD_set (by omega), if_neg]
    intro e
    subst e
    exact hx (by rw [← hL]; exact i1 (by omega))
  · rw [hL, show ((q : Int)).toNat = q by omega, getD_set (by omega), if_pos rfl]
theorem hand_zero {ps : List Pn} {f : Int → Int → Int} {root : Int} {xs : List Int} {m : Nat} {ts : List Tb} (hG : Good ts ps) (h : HandTo ps f root xs (m + 1)) (hm : m < ps.length) (ha : arity (ps[m]).K = 0) : HandTo ps f root xs m := by
  obtain ⟨i1, i2, i3⟩ := hG.kidsIn hm
  exact h.step hm h.len ⟨i1, i2⟩ (fun x hx => rfl) (fun h => by omega) (fun h => by omega)
theorem hand_two {ps : List Pn} {f : Int → Int → Int} {root : Int} {xs : List Int} {m q j : Nat} {ts : List Tb} (hG : Good ts ps) (h : HandTo ps f root xs (m + 1)) (hm : m < ps.length) (ha : arity (ps[m]).K = 2) (hL : (ps[m]).L = (q : Int)) (hR : (ps[m]).R = (j : Int)) (hq : q < m) (hj : j < m) (hqj : q ≠ j) :
    (¬ perRow (ps[m]).K → HandTo ps f root ((xs.set j (xs.getD m 0)).set q (xs.getD m 0)) m) ∧
    (perRow (ps[m]).K → HandTo ps f root (((xs.set j (xs.getD m 0)).set q (xs.getD m 0)).set j (f (xs.getD m 0) (q : Int))) m) := by
  have hl := h.len
  obtain ⟨i1, i2, i3⟩ := hG.kidsIn hm
  have n1 : ∀ x : Nat, (x : Int) ∉ kidsAt (nds ps) m → x ≠ q ∧ x ≠ j := fun x hx => by
    refine ⟨fun e => ?_, fun e => ?_⟩
    · subst e; exact hx (by rw [← hL]; exact i1 (by omega))
    · subst e; exact hx (by rw [← hR]; exact i2 (by omega))
  refine ⟨fun hp => ?_, fun hp => ?_⟩
  · refine h.step hm (by simp [hl]) ⟨i1, i2⟩ (fun x hx => ?_) (fun _ => ?_) (fun _ => ?_)
    · rw [getD_set (by simp; omega), if_neg (n1 x hx).1, getD_set (by omega), if_neg (n1 x hx).2]
    · rw [hL, show ((q : Int)).toNat = q by omega, getD_set (by simp; omega), if_pos rfl]
    · rw [if_neg hp, hR, show ((j : Int)).toNat = j by omega, getD_set (by simp; omega), if_neg (fun e => hqj e.symm), getD_set (by omega), if_pos rfl]
  · refine h.step hm (by simp [hl]) ⟨i1, i2⟩ (fun x hx => ?_) (fun _ => ?_) (fun _ => ?_)
    · rw [getD_set (by simp; omega), if_neg (n1 x hx).2, getD_set (by simp; omega), if_neg (n1 x hx).1, getD_set (by omega), if_neg (n1 x hx).2]
    · rw [hL, show ((q : Int)).toNat = q by omega, getD_set (by simp; omega), if_neg hqj, getD_set (by simp; omega), if_pos rfl]
    · rw [if_pos hp, hR, hL, show ((j : Int)).toNat = j by omega, getD_set (by simp; omega), if_pos rfl]
end Go.Proofs.YtnchcndcinpalaaGreatDoor
