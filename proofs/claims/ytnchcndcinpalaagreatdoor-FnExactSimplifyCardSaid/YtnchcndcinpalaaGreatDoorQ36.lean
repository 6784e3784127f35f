import Derived.Test.YtnchcndcinpalaaGreatDoorQ26
import Derived.Test.YtnchcndcinpalaaGreatDoorQ3
import Derived.Test.YtnchcndcinpalaaGreatDoorQ15
import Derived.Test.YtnchcndcinpalaaGreatDoorFlatSmall
import Derived.Test.YtnchcndcinpalaaGreatDoorFldFit
/-
  THE EXPRESSIONS OF A NODE that fits: impl.fields.exsOk.
-/
namespace Go.Proofs.YtnchcndcinpalaaGreatDoor
open Go Go.RowKit

def ExsH (u : Bool) (z : Int) (Ex : List O2) (Exs : List (List O2)) : Prop := if u = true then exOk z Ex = true else ∀ xs ∈ Exs, exOk z xs = true

set_option maxRecDepth 100000 in
set_option maxHeartbeats 4000000 in
theorem fExs_calls (b0 b1 b2 b3 b4 b5 b6 b7 : Bool) (K T M L R z : Int) (Ex : List O2) (Exs : List (List O2)) (b3' b4' : Nat) (w : World) (hb3 : b3' < w.heap.size) (hx : OpsAt w b3' 0 Ex) (hb4 : b4' < w.heap.size) (hxs : OpssAt w b4' Exs) (l1 : Ex.length ≤ 1048576) (l2 : Exs.length ≤ 1048576) (l3 : ∀ xs ∈ Exs, xs.length ≤ 1048576) (hTT : TTakes w) :
    Calls Tryz.prog 106 #[.agg #[.bool b0, .bool b1, .bool b2, .bool b3, .bool b4, .bool b5, .bool b6, .bool b7], .agg #[.int .i64 K, .int .i64 T, .int .i64 M, .slice (some ⟨b3', 0, none⟩) Ex.length Ex.length, .slice (some ⟨b4', 0, none⟩) Exs.length Exs.length, .int .i64 L, .int .i64 R], .int .i64 z] w
      fun e w' => e = .returned (.bool (dB (ExsH (b2 && (M != 1)) z Ex Exs))) ∧ Below w.heap.size w w' := by
  have HU := hide (fun W => fUses_calls b0 b1 b2 b3 b4 b5 b6 b7 M W)
  have HEx := hide (fun W (hb : Below w.heap.size w W) => ExOk_calls Ex b3' 0 Ex.length z W (hTT.of hb) (Nat.lt_of_lt_of_le hb3 hb.size) (hx.of hb3 hb) l1)
  generalize (b2 && (M != 1)) = u at *
  cases u
  · have HE : Hid (dB (ExsH false z Ex Exs) = true ↔ ∀ xs ∈ Exs, exOk z xs = true) := by
      show _ ↔ _
      rw [dB_iff]
      unfold ExsH
      simp
    have HXs := hide (fun W (hb : Below w.heap.size w W) => hxs.of hb4 hb)
    have HTT := hide hTT; have HL3 := hide l3
    clear hb3 hx hxs hTT HEx l1 l3
    generalize dB (ExsH false z Ex Exs) = E at *
    go_enter Tryz.func106, Tryz.ntmps106
    go_wp2_with fail
    refine (unhide HU _).mono ?_; rintro e w1 ⟨rfl, hb1⟩
    have d1 := bT (bA (bA (Below.refl w.heap.size w) _) _) hb1
    have s1 : w.heap.size + 2 ≤ w1.heap.size := by have := hb1.size; simpa using this
    have n4 : w1.cell? ⟨w.heap.size + 1, 4, none⟩ = some (.slice (some ⟨b4', 0, none⟩) Exs.length Exs.length) := (hb1.cell (p := ⟨w.heap.size + 1, 4, none⟩) (by simp)).trans (by simp [go_sem])
    have s2 : w.heap.size + 1 < w1.heap.size := by omega
    clear hb1 HU s1
    go_wp2
    go_loopw [20] (fun c wr => ∃ j : Nat, j ≤ Exs.length ∧ c = .int .i64 j ∧ (∀ xs ∈ Exs.take j, exOk z xs = true) ∧ Below w.heap.size w wr) (fun c _ => Exs.length - (intOf c).toNat)
    case atStart => exact ⟨0, Nat.zero_le _, rfl, fun x hx => by simp at hx, d1⟩
    case round =>
      clear n4 s2 d1
      obtain ⟨j, hj, rfl, hjw, hb⟩ := hrel
      have HJ := hide hjw
      clear hjw
      by_cases hjl : j < Exs.length
      · obtain ⟨bx, cx, hbx, hbx2, hox⟩ := unhide HXs wr hb j Exs[j] (List.getElem?_eq_getElem hjl)
        have j2 : (j : Int) < (Exs.length : Int) := by omega
        have hb4w : b4' < wr.heap.size := Nat.lt_of_lt_of_le hb4 hb.size
        have HX := hide (ExOk_calls Exs[j] bx 0 (Exs[j]).length z wr ((unhide HTT).of hb) hbx2 hox (unhide HL3 _ (List.getElem_mem hjl)))
        have hnext : exOk z Exs[j] = true → ∀ xs ∈ Exs.take (j + 1), exOk z xs = true := fun h x hx => by
          rw [take_snocN Exs j hjl] at hx
          rcases List.mem_append.1 hx with h' | h'
          · exact unhide HJ x h'
          · simp only [List.mem_singleton] at h'; rw [h']; exact h
        have hno : exOk z Exs[j] = false → E = false := fun h => Bool.eq_false_iff.2 (fun h' => by
          have := HE.out.1 h' _ (List.getElem_mem hjl)
          rw [h] at this
          cases this)
        generalize exOk z Exs[j] = bE at *
        generalize (Exs[j]).length = xl at *
        clear hox hbx hbx2 HXs HTT HL3
        cases bE
        · have HE2 := hide (hno rfl)
          clear hno hnext HE HJ
          go_wp2_with fail
          refine (unhide HX).mono ?_; rintro e w2 ⟨rfl, hb2⟩
          have HB2 := hide (bT hb hb2)
          clear hb2
          go_wp2
          go_ret
          exact ⟨congrArg (fun z => Ending.returned (.bool z)) (unhide HE2).symm, unhide HB2⟩
        · have HNx := hide (hnext rfl)
          clear hno hnext HE HJ
          go_wp2_with fail
          refine (unhide HX).mono ?_; rintro e w2 ⟨rfl, hb2⟩
          have HB2 := hide (bT hb hb2)
          clear hb2
          go_wp2
          go_roundw
          case rel => exact ⟨j + 1, by omega, by go_num, unhide HNx, unhide HB2⟩
          case measure => simp [intOf]; omega
      · obtain rfl : j = Exs.length := by omega
        have hall := unhide HJ
        rw [List.take_length] at hall
        have HE2 := hide (HE.out.2 hall)
        clear hall HE HJ
        go_wp2
        go_ret
        exact ⟨congrArg (fun z => Ending.returned (.bool z)) (unhide HE2).symm, hb⟩
  · have HE : Hid (dB (ExsH true z Ex Exs) = exOk z Ex) := by
      show _ = _
      rw [Bool.eq_iff_iff, dB_iff]
      unfold ExsH
      simp
    clear hb3 hx hb4 hxs hTT l3
    generalize dB (ExsH true z Ex Exs) = E at *
    go_enter Tryz.func106, Tryz.ntmps106
    go_wp2_with fail
    refine (unhide HU _).mono ?_; rintro e w1 ⟨rfl, hb1⟩
    have d1 := bT (bA (bA (Below.refl w.heap.size w) _) _) hb1
    have s1 : w.heap.size + 2 ≤ w1.heap.size := by have := hb1.size; simpa using this
    have n3 : w1.cell? ⟨w.heap.size + 1, 3, none⟩ = some (.slice (some ⟨b3', 0, none⟩) Ex.length Ex.length) := (hb1.cell (p := ⟨w.heap.size + 1, 3, none⟩) (by simp)).trans (by simp [go_sem])
    have s2 : w.heap.size + 1 < w1.heap.size := by omega
    clear hb1 HU s1
    go_wp2_with fail
    refine (unhide HEx _ d1).mono ?_; rintro e w2 ⟨rfl, hb2⟩
    have HB2 := hide (bT d1 hb2)
    clear hb2 d1
    go_wp2
    go_ret
    exact ⟨congrArg (fun z => Ending.returned (.bool z)) HE.out.symm, unhide HB2⟩
end Go.Proofs.YtnchcndcinpalaaGreatDoor
/-
  A FLAT PLAN's NODE as the program judges it, and as the specification does.
-/
namespace Go.Proofs.YtnchcndcinpalaaGreatDoor
open Go Go.RowKit

def FldI (nt i : Nat) (K T M : Int) (le ls : Nat) (L R : Int) : Prop :=
  (1 ≤ K ∧ K ≤ 11) ∧ FitH (qfb K 0) (qfb K 1) (qfb K 2) (qfb K 3) (qfb K 4) (qfb K 5) nt T M le ls L R ∧ nOk (qfb K 4) L 0 ((i : Int) - 1) = true ∧ nOk (qfb K 5) R 0 ((i : Int) - 1) = true
theorem fldI_iff (nt i : Nat) (K T M W : Int) (le ls : Nat) (L R : Int) : FldF nt i K T M W le ls L R ↔ (FldI nt i K T M le ls L R ∧ (¬ matK K → W = 0)) := by
  by_cases hK : 1 ≤ K ∧ K ≤ 11
  · have e : K = 1 ∨ K = 2 ∨ K = 3 ∨ K = 4 ∨ K = 5 ∨ K = 6 ∨ K = 7 ∨ K = 8 ∨ K = 9 ∨ K = 10 ∨ K = 11 := by omega
    unfold FldF FldI FitH nOk
    rcases e with rfl | rfl | rfl | rfl | rfl | rfl | rfl | rfl | rfl | rfl | rfl <;> simp [qfb, qf, oneK, twoK, matK, exK] <;> omega
  · unfold FldF FldI
    constructor
    · intro h; omega
    · intro h; omega
def SidI (K M W : Int) (Ex : List O2) (Exs : List (List O2)) (l r : Int) : Prop :=
  nOk (qfb K 7) W 0 (min l r) = true ∧ (K = 9 → l = r) ∧ ExsH (qfb K 2 && (M != 1)) (if matK K then r else l) Ex Exs
theorem sidI_iff {nt i : Nat} {p : Fn} (hF : FldI nt i p.K p.T p.M p.Ex.length p.Exs.length p.L p.R) (l r : Int) : SidI p.K p.M p.W p.Ex p.Exs l r ↔ ((¬ matK p.K → p.W = 0) ∧ SidP p l r) := by
  obtain ⟨K, T, M, W, Ex, Exs, L, R⟩ := p
  obtain ⟨⟨k1, k2⟩, hfit, _⟩ := hF
  simp only at *
  have e : K = 1 ∨ K = 2 ∨ K = 3 ∨ K = 4 ∨ K = 5 ∨ K = 6 ∨ K = 7 ∨ K = 8 ∨ K = 9 ∨ K = 10 ∨ K = 11 := by omega
  have hx : K ≠ 4 → Exs = [] := fun h => by
    have h3 := hfit.2.2.2.1
    have : ¬ qfb K 3 = true := fun h' => h ((q_words k1 k2).2.2.2.1.1 h')
    exact List.eq_nil_of_length_eq_zero (h3.elim (fun h' => absurd h' this) id)
  unfold SidI SidP ExsH nOk
  rcases e with rfl | rfl | rfl | rfl | rfl | rfl | rfl | rfl | rfl | rfl | rfl
  · simp [hx (by decide), qfb, qf, matK, exK]
  · simp [hx (by decide), qfb, qf, matK, exK]
  · have hM : M = 0 := by have := hfit.2.1; simpa [nOk, qfb, qf] using this
    simp [hx (by decide), qfb, qf, matK, exK, hM]
  · simp [qfb, qf, matK, exK]
  · simp [hx (by decide), qfb, qf, matK, exK]; omega
  · have hM : M = 0 := by have := hfit.2.1; simpa [nOk, qfb, qf] using this
    simp [hx (by decide), qfb, qf, matK, exK, hM]; omega
  · by_cases hM : M = 1
    · simp [hx (by decide), qfb, qf, matK, exK, hM]; omega
    · simp [hx (by decide), qfb, qf, matK, exK, hM]; omega
  · simp [hx (by decide), qfb, qf, matK, exK]
  · simp [hx (by decide), qfb, qf, matK, exK]
  · have hM : M = 0 := by have := hfit.2.1; simpa [nOk, qfb, qf] using this
    simp [hx (by decide), qfb, qf, matK, exK, hM]; omega
  · have hM : M = 0 := by have := hfit.2.1; simpa [nOk, qfb, qf] using this
    simp [hx (by decide), qfb, qf, matK, exK, hM]; omega
theorem sidP_congr {p : Fn} (hk : 1 ≤ p.K ∧ p.K ≤ 11) (hx : p.K ≠ 4 → p.Exs = []) {l r l' r' : Int} (hl : oneK p.K → l = l') (hr : twoK p.K → r = r') : SidP p l r ↔ SidP p l' r' := by
  unfold SidP
  have e : p.K = 1 ∨ p.K = 2 ∨ p.K = 3 ∨ p.K = 4 ∨ p.K = 5 ∨ p.K = 6 ∨ p.K = 7 ∨ p.K = 8 ∨ p.K = 9 ∨ p.K = 10 ∨ p.K = 11 := by omega
  rcases e with h | h | h | h | h | h | h | h | h | h | h
  · simp [hx (by omega), h, matK, exK]
  · simp [hx (by omega), h, matK, exK]
  · simp [hx (by omega), h, matK, exK, hl (by omega)]
  · simp [h, matK, exK, hl (by omega)]
  · simp [hx (by omega), h, matK, exK, hl (by omega), hr (by omega)]
  · simp [hx (by omega), h, matK, exK, hl (by omega), hr (by omega)]
  · simp [hx (by omega), h, matK, exK, hl (by omega), hr (by omega)]
  · simp [hx (by omega), h, matK, exK]
  · simp [hx (by omega), h, matK, exK, hl (by omega), hr (by omega)]
  · simp [hx (by omega), h, matK, exK, hl (by omega), hr (by omega)]
  · simp [hx (by omega), h, matK, exK, hl (by omega), hr (by omega)]
/-- what the program asks of a node, over whatever stands at its kids' places -/
theorem nodF_iff {ts : List Tb} {fs : List Fn} {i : Nat} (hi : i < fs.length) {l r : Int} (hl : oneK (fs[i]).K → l = fl ts fs fs[i]) (hr : twoK (fs[i]).K → r = fr ts fs fs[i]) :
    NodF ts fs i fs[i] ↔ (FldI ts.length i (fs[i]).K (fs[i]).T (fs[i]).M (fs[i]).Ex.length (fs[i]).Exs.length (fs[i]).L (fs[i]).R ∧ SidI (fs[i]).K (fs[i]).M (fs[i]).W (fs[i]).Ex (fs[i]).Exs l r ∧ stepF ts fs[i] l r ≤ 200) := by
  constructor
  · intro hN
    obtain ⟨f1, f2⟩ := (fldI_iff _ _ _ _ _ _ _ _ _ _).1 hN.fld
    have hx : (fs[i]).K ≠ 4 → (fs[i]).Exs = [] := fun h => List.eq_nil_of_length_eq_zero (by have := hN.fld.2.2.2.2.2.2.2.2.2.2.2.2; omega)
    refine ⟨f1, (sidI_iff f1 l r).2 ⟨f2, (sidP_congr f1.1 hx hl hr).2 hN.sid⟩, ?_⟩
    have := hN.wide
    rw [fw_step hi hN.fld] at this
    rw [stepF_congr ts fs[i] hl hr f1.1]
    exact this
  · rintro ⟨f1, f2, f3⟩
    obtain ⟨g1, g2⟩ := (sidI_iff f1 l r).1 f2
    have hF : FldP ts.length i fs[i] := (fldI_iff _ _ _ _ _ _ _ _ _ _).2 ⟨f1, g1⟩
    have hx : (fs[i]).K ≠ 4 → (fs[i]).Exs = [] := fun h => List.eq_nil_of_length_eq_zero (by have := hF.2.2.2.2.2.2.2.2.2.2.2.2; omega)
    refine ⟨hF, (sidP_congr f1.1 hx hl hr).1 g2, ?_⟩
    rw [fw_step hi hF, ← stepF_congr ts fs[i] hl hr f1.1]
    exact f3
end Go.Proofs.YtnchcndcinpalaaGreatDoor
