import Derived.Test.YtahanplikbdccaaDoorPlanWidths
import Derived.Test.YtahanplikbdccaaDoorPlanFields
import Derived.Test.YtahanplikbdccaaDoorGEx
/-
  THE EXPRESSIONS OF A PLAN's NODE, as the program asks for them; the closure that adds widths.
-/
namespace Go.Proofs.YtahanplikbdccaaDoor
open Go Go.RowKit

theorem closE_calls (n b vb : Nat) (f : Nat → Int) (v : Int) (l : Nat) (w : World) (hc : w.cell? ⟨vb, 0, none⟩ = some (.slice (some ⟨b, 0, none⟩) n n)) (hr : FnRow w b n f) (hl : l < n) (h0 : 0 ≤ v) (h1 : v ≤ 17592186044416) (hf0 : 0 ≤ f l) (hf1 : f l ≤ 4294967296) :
    Calls Tryd.prog 50 #[.int .i64 v, .int .i64 (l : Int), .pointer (some ⟨vb, 0, none⟩)] w fun e w' => e = .returned (.int .i64 (v + f l)) ∧ w' = w := by
  have c1 := hr.at l hl
  have s1 := hr.lt
  have j1 : (l : Int) < (n : Int) := by omega
  clear hr
  generalize f l = z at *
  go_enter Tryd.func50, Tryd.ntmps50
  go_wp2
  go_ret
  exact ⟨rfl, rfl⟩

set_option maxRecDepth 100000 in
set_option maxHeartbeats 4000000 in
theorem exsOk_calls (nt : Nat) (K T M L R : Int) (Ex : List O2) (Exs : List (List O2)) (b3 b4 n b : Nat) (env : Int) (f : Nat → Int) (w : World) (hF : FldN nt K T M Ex.length Exs.length L R)
    (hkl : 0 < arity K → 0 ≤ L ∧ L.toNat < n) (hkr : 1 < arity K → 0 ≤ R ∧ R.toNat < n) (he0 : 0 ≤ env) (he1 : env ≤ 17592186044416) (hf : ∀ j, j < n → 0 ≤ f j ∧ f j ≤ 4294967296)
    (hb3 : b3 < w.heap.size) (hx : OpsAt w b3 0 Ex) (hb4 : b4 < w.heap.size) (hxs : OpssAt w b4 Exs) (hr : FnRow w b n f) (l1 : Ex.length ≤ 1048576) (l2 : Exs.length ≤ 1048576) (l3 : ∀ xs ∈ Exs, xs.length ≤ 1048576) (hT : TPlan w) (hTT : TTakes w) :
    Calls Tryd.prog 51 #[.agg #[.int .i64 K, .int .i64 T, .int .i64 M, .slice (some ⟨b3, 0, none⟩) Ex.length Ex.length, .slice (some ⟨b4, 0, none⟩) Exs.length Exs.length, .int .i64 L, .int .i64 R], .int .i64 env, .slice (some ⟨b, 0, none⟩) n n] w
      fun e w' => e = .returned (.bool (dB (ExsV ⟨K, T, M, Ex, Exs, L, R⟩ env (f L.toNat) (f R.toNat)))) ∧ Below w.heap.size w w' := by
  have k1 := hF.1
  have k2 := hF.2.1
  have k0 : (0 : Int) ≤ K := by omega
  have k11 : K < 11 := by omega
  have HU := hide (fun W (hb : Below w.heap.size w W) => usesEx_calls K T M L R (.slice (some ⟨b3, 0, none⟩) Ex.length Ex.length) (.slice (some ⟨b4, 0, none⟩) Exs.length Exs.length) W k1 k2 (hT.of hb))
  have HEx := hide (fun W (hb : Below w.heap.size w W) (z : Int) => ExOk_calls Ex b3 0 Ex.length z W (hTT.of hb) (Nat.lt_of_lt_of_le hb3 hb.size) (hx.of hb3 hb) l1)
  have hpw := (pfb_words k1 k2).2.2.2.2.2.2
  have HLk := hide (fun W (hW : Below w.heap.size w W) => (plan_look (hT.of hW) K k1 k2).2.2.2.2.2.2)
  have htz := hT.size
  have HR := hide hr; have HFb := hide hf
  obtain ⟨a1, a2, a3⟩ := arity_k (k := K)
  by_cases hu : usesEx K M
  · have hude : decide (usesEx K M) = true := decide_eq_true hu
    have ha : 0 < arity K := by
      rcases hu.1 with h | h
      · have := a2 (by omega); omega
      · have := a1 (by omega); omega
    obtain ⟨hL0, hL1⟩ := hkl ha
    obtain ⟨q, rfl⟩ : ∃ q : Nat, L = (q : Int) := ⟨L.toNat, by omega⟩
    have hq : q < n := by omega
    have hqn : (q : Int) < (n : Int) := by omega
    obtain ⟨z0, z1⟩ := hf q hq
    by_cases hp : perRow K
    · have ha2 := a1 (by unfold perRow at hp; omega)
      obtain ⟨hR0, hR1⟩ := hkr (by omega)
      obtain ⟨j, rfl⟩ : ∃ j : Nat, R = (j : Int) := ⟨R.toNat, by omega⟩
      have hj : j < n := by omega
      have hjn : (j : Int) < (n : Int) := by omega
      obtain ⟨y0, y1⟩ := hf j hj
      have HE : Hid (dB (ExsV ⟨K, T, M, Ex, Exs, (q : Int), (j : Int)⟩ env (f ((q : Int)).toNat) (f ((j : Int)).toNat)) = exOk (env + f q + f j) Ex) := by
        show _ = _
        rw [Bool.eq_iff_iff, dB_iff]
        unfold ExsV
        rw [if_pos hu, if_pos hp]
        simp
      have hp' : pfb K 6 = true := hpw.2 hp
      clear hF hkl hkr hf hb3 hx hb4 hxs hr hT hTT hu hp hpw a1 a2 a3 ha ha2 hL0 hL1 hR0 hR1 HFb l3
      generalize decide (usesEx K M) = u at *
      subst hude
      go_enter Tryd.func51, Tryd.ntmps51
      go_wp2_with fail
      refine (unhide HU _ (bA (Below.refl _ _) _)).mono ?_; rintro e w1 ⟨rfl, hb1⟩
      obtain ⟨hc, hfz⟩ := bcell hb1
      have d1 := bT (bA (Below.refl w.heap.size w) _) hb1
      have s1 : w.heap.size + 1 ≤ w1.heap.size := by have := hb1.size; simpa using this
      have t6 := unhide HLk _ d1
      rw [hp'] at t6
      have r1 := ((unhide HR).of d1).at q hq
      have r2 := ((unhide HR).of d1).at j hj
      have r3 := ((unhide HR).of d1).lt
      have n0 : w1.cell? ⟨w.heap.size, 0, none⟩ = some (.int .i64 K) := (hb1.cell (p := ⟨w.heap.size, 0, none⟩) (by simp)).trans (by simp [go_sem])
      have n3 : w1.cell? ⟨w.heap.size, 3, none⟩ = some (.slice (some ⟨b3, 0, none⟩) Ex.length Ex.length) := (hb1.cell (p := ⟨w.heap.size, 3, none⟩) (by simp)).trans (by simp [go_sem])
      have n5 : w1.cell? ⟨w.heap.size, 5, none⟩ = some (.int .i64 (q : Int)) := (hb1.cell (p := ⟨w.heap.size, 5, none⟩) (by simp)).trans (by simp [go_sem])
      have n6 : w1.cell? ⟨w.heap.size, 6, none⟩ = some (.int .i64 (j : Int)) := (hb1.cell (p := ⟨w.heap.size, 6, none⟩) (by simp)).trans (by simp [go_sem])
      have s2 : w.heap.size < w1.heap.size := by omega
      have s3 : 0 < w1.heap.size := by omega
      have HX := hide (unhide HEx w1 d1 (env + f q + f j))
      have HB := hide d1
      clear hb1 d1 hc hfz HU HEx HLk HR hp' s1
      generalize f q = z at *
      generalize f j = y at *
      go_wp2_with fail
      refine (unhide HX).mono ?_; rintro e w2 ⟨rfl, hb2⟩
      have HB2 := hide (bT (unhide HB) hb2)
      clear hb2 HB
      go_wp2
      go_ret
      exact ⟨congrArg (fun z => Ending.returned (.bool z)) HE.out.symm, unhide HB2⟩
    · have HE : Hid (dB (ExsV ⟨K, T, M, Ex, Exs, (q : Int), R⟩ env (f ((q : Int)).toNat) (f R.toNat)) = exOk (env + f q) Ex) := by
        show _ = _
        rw [Bool.eq_iff_iff, dB_iff]
        unfold ExsV
        rw [if_pos hu, if_neg hp]
        simp
      have hp' : pfb K 6 = false := Bool.eq_false_iff.2 (fun h => hp (hpw.1 h))
      clear hF hkl hkr hf hb3 hx hb4 hxs hr hT hTT hu hp hpw a1 a2 a3 ha hL0 hL1 HFb l3
      generalize decide (usesEx K M) = u at *
      subst hude
      go_enter Tryd.func51, Tryd.ntmps51
      go_wp2_with fail
      refine (unhide HU _ (bA (Below.refl _ _) _)).mono ?_; rintro e w1 ⟨rfl, hb1⟩
      have d1 := bT (bA (Below.refl w.heap.size w) _) hb1
      have s1 : w.heap.size + 1 ≤ w1.heap.size := by have := hb1.size; simpa using this
      have t6 := unhide HLk _ d1
      rw [hp'] at t6
      have r1 := ((unhide HR).of d1).at q hq
      have r3 := ((unhide HR).of d1).lt
      have n0 : w1.cell? ⟨w.heap.size, 0, none⟩ = some (.int .i64 K) := (hb1.cell (p := ⟨w.heap.size, 0, none⟩) (by simp)).trans (by simp [go_sem])
      have n3 : w1.cell? ⟨w.heap.size, 3, none⟩ = some (.slice (some ⟨b3, 0, none⟩) Ex.length Ex.length) := (hb1.cell (p := ⟨w.heap.size, 3, none⟩) (by simp)).trans (by simp [go_sem])
      have n5 : w1.cell? ⟨w.heap.size, 5, none⟩ = some (.int .i64 (q : Int)) := (hb1.cell (p := ⟨w.heap.size, 5, none⟩) (by simp)).trans (by simp [go_sem])
      have s2 : w.heap.size < w1.heap.size := by omega
      have s3 : 0 < w1.heap.size := by omega
      have HX := hide (unhide HEx w1 d1 (env + f q))
      have HB := hide d1
      clear hb1 d1 HU HEx HLk HR hp' s1
      generalize f q = z at *
      go_wp2_with fail
      refine (unhide HX).mono ?_; rintro e w2 ⟨rfl, hb2⟩
      have HB2 := hide (bT (unhide HB) hb2)
      clear hb2 HB
      go_wp2
      go_ret
      exact ⟨congrArg (fun z => Ending.returned (.bool z)) HE.out.symm, unhide HB2⟩
  · have hude : decide (usesEx K M) = false := decide_eq_false hu
    have HE : Hid (dB (ExsV ⟨K, T, M, Ex, Exs, L, R⟩ env (f L.toNat) (f R.toNat)) = true ↔ ∀ xs ∈ Exs, exOk (env + f L.toNat) xs = true) := by
      show _ ↔ _
      rw [dB_iff]
      unfold ExsV
      rw [if_neg hu]
    have hK4 : 0 < Exs.length → 0 ≤ L ∧ L.toNat < n := fun h => hkl (by
      have h4 := hF.2.2.1.2.2.2.2.2
      have := a2 (by omega)
      omega)
    have HXs := hide (fun W (hb : Below w.heap.size w W) => hxs.of hb4 hb)
    have HTT := hide hTT; have HL3 := hide l3; have HK4 := hide hK4
    clear hF hkl hkr hb3 hx hxs hr hT hTT hu hpw a1 a2 a3 HEx HLk l1 l3 hf hK4
    generalize decide (usesEx K M) = u at *
    subst hude
    go_enter Tryd.func51, Tryd.ntmps51
    go_wp2_with fail
    refine (unhide HU _ (bA (Below.refl _ _) _)).mono ?_; rintro e w1 ⟨rfl, hb1⟩
    have d1 := bT (bA (Below.refl w.heap.size w) _) hb1
    have s1 : w.heap.size + 1 ≤ w1.heap.size := by have := hb1.size; simpa using this
    have n4 : w1.cell? ⟨w.heap.size, 4, none⟩ = some (.slice (some ⟨b4, 0, none⟩) Exs.length Exs.length) := (hb1.cell (p := ⟨w.heap.size, 4, none⟩) (by simp)).trans (by simp [go_sem])
    have n5 : w1.cell? ⟨w.heap.size, 5, none⟩ = some (.int .i64 L) := (hb1.cell (p := ⟨w.heap.size, 5, none⟩) (by simp)).trans (by simp [go_sem])
    have s2 : w.heap.size < w1.heap.size := by omega
    clear hb1 HU s1
    go_wp2
    go_loopw [38] (fun c wr => ∃ j : Nat, j ≤ Exs.length ∧ c = .int .i64 j ∧ (∀ xs ∈ Exs.take j, exOk (env + f L.toNat) xs = true) ∧ wr.cell? ⟨w.heap.size, 5, none⟩ = some (.int .i64 L) ∧ w.heap.size < wr.heap.size ∧ Below w.heap.size w wr) (fun c _ => Exs.length - (intOf c).toNat)
    case atStart => exact ⟨0, Nat.zero_le _, rfl, fun x hx => by simp at hx, n5, s2, d1⟩
    case round =>
      clear n4 n5 s2 d1
      obtain ⟨j, hj, rfl, hjw, ba, sa, hb⟩ := hrel
      have HJ := hide hjw
      clear hjw
      by_cases hjl : j < Exs.length
      · obtain ⟨hL0, hL1⟩ := unhide HK4 (by omega)
        obtain ⟨q, hq⟩ : ∃ q : Nat, L = (q : Int) := ⟨L.toNat, by omega⟩
        obtain ⟨bx, cx, hbx, hbx2, hox⟩ := unhide HXs wr hb j Exs[j] (List.getElem?_eq_getElem hjl)
        have j2 : (j : Int) < (Exs.length : Int) := by omega
        have hb4w : b4 < wr.heap.size := Nat.lt_of_lt_of_le hb4 hb.size
        have hqt : L.toNat = q := by omega
        have r1 := ((unhide HR).of hb).at q (by omega)
        have r3 := ((unhide HR).of hb).lt
        have hqn : (q : Int) < (n : Int) := by omega
        obtain ⟨z0, z1⟩ := unhide HFb q (by omega)
        have HX := hide (ExOk_calls Exs[j] bx 0 (Exs[j]).length (env + f q) wr ((unhide HTT).of hb) hbx2 hox (unhide HL3 _ (List.getElem_mem hjl)))
        have hnext : exOk (env + f q) Exs[j] = true → ∀ xs ∈ Exs.take (j + 1), exOk (env + f L.toNat) xs = true := fun h x hx => by
          rw [take_snocN Exs j hjl] at hx
          rcases List.mem_append.1 hx with h' | h'
          · exact unhide HJ x h'
          · simp only [List.mem_singleton] at h'; rw [h', hqt]; exact h
        have hno : exOk (env + f q) Exs[j] = false → dB (ExsV ⟨K, T, M, Ex, Exs, L, R⟩ env (f L.toNat) (f R.toNat)) = false := fun h => Bool.eq_false_iff.2 (fun h' => by
          have := HE.out.1 h' _ (List.getElem_mem hjl)
          rw [hqt, h] at this
          cases this)
        generalize exOk (env + f q) Exs[j] = bE at *
        generalize (Exs[j]).length = xl at *
        subst hq
        clear hox hbx hbx2 HK4 HXs HTT HL3 HR HFb hL0 hL1 hqt
        cases bE
        · have HE2 := hide (hno rfl)
          clear hno hnext HE HJ
          obtain ⟨z, hz⟩ : ∃ z, f q = z := ⟨_, rfl⟩
          rw [hz] at r1 z0 z1 HX
          clear hz
          go_wp2_with fail
          refine (unhide HX).mono ?_; rintro e w2 ⟨rfl, hb2⟩
          have HB2 := hide (bT hb hb2)
          clear hb2
          go_wp2
          go_ret
          exact ⟨congrArg (fun z => Ending.returned (.bool z)) (unhide HE2).symm, unhide HB2⟩
        · have HNx := hide (hnext rfl)
          clear hno hnext HE HJ
          obtain ⟨z, hz⟩ : ∃ z, f q = z := ⟨_, rfl⟩
          rw [hz] at r1 z0 z1 HX
          clear hz
          go_wp2_with fail
          refine (unhide HX).mono ?_; rintro e w2 ⟨rfl, hb2⟩
          have HB2 := hide (bT hb hb2)
          have ba2 := (hb2.cell (p := ⟨w.heap.size, 5, none⟩) sa).trans ba
          have sa2 : w.heap.size < w2.heap.size := Nat.lt_of_lt_of_le sa hb2.size
          clear hb2
          go_wp2
          go_roundw
          case rel => exact ⟨j + 1, by omega, by go_num, unhide HNx, ba2, sa2, unhide HB2⟩
          case measure => simp [intOf]; omega
      · obtain rfl : j = Exs.length := by omega
        have hall := unhide HJ
        rw [List.take_length] at hall
        have HE2 := hide (HE.out.2 hall)
        clear hall HE HJ
        go_wp2
        go_ret
        exact ⟨congrArg (fun z => Ending.returned (.bool z)) (unhide HE2).symm, hb⟩
end Go.Proofs.YtahanplikbdccaaDoor
