import Derived.Test.YtkdeilhkobcglaaDoorFlatSmall
import Derived.Test.YtkdeilhkobcglaaDoorGFld
/-
  A FLAT PLAN's NODE as the program judges it, and as the specification does.
-/
namespace Go.Proofs.YtkdeilhkobcglaaDoor
open Go Go.RowKit

def FldI (nt i : Nat) (K T M : Int) (le ls : Nat) (L R : Int) : Prop :=
  (1 ≤ K ∧ K ≤ 11) ∧ FitH (qfb K 0) (qfb K 1) (qfb K 2) (qfb K 3) (qfb K 4) (qfb K 5) nt T M le ls L R ∧ nOk (qfb K 4) L 0 ((i : Int) - 1) = true ∧ nOk (qfb K 5) R 0 ((i : Int) - 1) = true
theorem fldI_iff (nt i : Nat) (K T M W : Int) (le ls : Nat) (L R : Int) : FldF nt i K T M W le ls L R ↔ (FldI nt i K T M le ls L R ∧ (¬ matK K → W = 0)) := by
  by_cases hK : 1 ≤ K ∧ K ≤ 11
  · have e : K = 1 ∨ K = 2 ∨ K = 3 ∨ K = 4 ∨ K = 5 ∨ K = 6 ∨ K = 7 ∨ K = 8 ∨ K = 9 ∨ K = 10 ∨ K = 11 := by omega
    unfold FldF FldI FitH nOk
    rcases e with rfl | rfl | rfl | rfl | rfl | rfl | rfl | rfl | rfl | rfl | rfl <;> simp [qfb, qf, oneK, twoK, matK, exK] <;> omega
  · unfold FldF FldI
    constructor
    · intro h; omega
    · intro h; omega
def SidI (K M W : Int) (Ex : List O2) (Exs : List (List O2)) (l r : Int) : Prop :=
  nOk (qfb K 7) W 0 (min l r) = true ∧ (K = 9 → l = r) ∧ ExsH (qfb K 2 && (M != 1)) (if matK K then r else l) Ex Exs
theorem sidI_iff {nt i : Nat} {p : Fn} (hF : FldI nt i p.K p.T p.M p.Ex.length p.Exs.length p.L p.R) (l r : Int) : SidI p.K p.M p.W p.Ex p.Exs l r ↔ ((¬ matK p.K → p.W = 0) ∧ SidP p l r) := by
  obtain ⟨K, T, M, W, Ex, Exs, L, R⟩ := p
  obtain ⟨⟨k1, k2⟩, hfit, _⟩ := hF
  simp only at *
  have e : K = 1 ∨ K = 2 ∨ K = 3 ∨ K = 4 ∨ K = 5 ∨ K = 6 ∨ K = 7 ∨ K = 8 ∨ K = 9 ∨ K = 10 ∨ K = 11 := by omega
  have hx : K ≠ 4 → Exs = [] := fun h => by
    have h3 := hfit.2.2.2.1
    have : ¬ qfb K 3 = true := fun h' => h ((q_words k1 k2).2.2.2.1.1 h')
    exact List.eq_nil_of_length_eq_zero (h3.elim (fun h' => absurd h' this) id)
  unfold SidI SidP ExsH nOk
  rcases e with rfl | rfl | rfl | rfl | rfl | rfl | rfl | rfl | rfl | rfl | rfl
  · simp [hx (by decide), qfb, qf, matK, exK]
  · simp [hx (by decide), qfb, qf, matK, exK]
  · have hM : M = 0 := by have := hfit.2.1; simpa [nOk, qfb, qf] using this
    simp [hx (by decide), qfb, qf, matK, exK, hM]
  · simp [qfb, qf, matK, exK]
  · simp [hx (by decide), qfb, qf, matK, exK]; omega
  · have hM : M = 0 := by have := hfit.2.1; simpa [nOk, qfb, qf] using this
    simp [hx (by decide), qfb, qf, matK, exK, hM]; omega
  · by_cases hM : M = 1
    · simp [hx (by decide), qfb, qf, matK, exK, hM]; omega
    · simp [hx (by decide), qfb, qf, matK, exK, hM]; omega
  · simp [hx (by decide), qfb, qf, matK, exK]
  · simp [hx (by decide), qfb, qf, matK, exK]
  · have hM : M = 0 := by have := hfit.2.1; simpa [nOk, qfb, qf] using this
    simp [hx (by decide), qfb, qf, matK, exK, hM]; omega
  · have hM : M = 0 := by have := hfit.2.1; simpa [nOk, qfb, qf] using this
    simp [hx (by decide), qfb, qf, matK, exK, hM]; omega
theorem sidP_congr {p : Fn} (hk : 1 ≤ p.K ∧ p.K ≤ 11) (hx : p.K ≠ 4 → p.Exs = []) {l r l' r' : Int} (hl : oneK p.K → l = l') (hr : twoK p.K → r = r') : SidP p l r ↔ SidP p l' r' := by
  unfold SidP
  have e : p.K = 1 ∨ p.K = 2 ∨ p.K = 3 ∨ p.K = 4 ∨ p.K = 5 ∨ p.K = 6 ∨ p.K = 7 ∨ p.K = 8 ∨ p.K = 9 ∨ p.K = 10 ∨ p.K = 11 := by omega
  rcases e with h | h | h | h | h | h | h | h | h | h | h
  · simp [hx (by omega), h, matK, exK]
  · simp [hx (by omega), h, matK, exK]
  · simp [hx (by omega), h, matK, exK, hl (by omega)]
  · simp [h, matK, exK, hl (by omega)]
  · simp [hx (by omega), h, matK, exK, hl (by omega), hr (by omega)]
  · simp [hx (by omega), h, matK, exK, hl (by omega), hr (by omega)]
  · simp [hx (by omega), h, matK, exK, hl (by omega), hr (by omega)]
  · simp [hx (by omega), h, matK, exK]
  · simp [hx (by omega), h, matK, exK, hl (by omega), hr (by omega)]
  · simp [hx (by omega), h, matK, exK, hl (by omega), hr (by omega)]
  · simp [hx (by omega), h, matK, exK, hl (by omega), hr (by omega)]
/-- what the program asks of a node, over whatever stands at its kids' places -/
theorem nodF_iff {ts : List Tb} {fs : List Fn} {i : Nat} (hi : i < fs.length) {l r : Int} (hl : oneK (fs[i]).K → l = fl ts fs fs[i]) (hr : twoK (fs[i]).K → r = fr ts fs fs[i]) :
    NodF ts fs i fs[i] ↔ (FldI ts.length i (fs[i]).K (fs[i]).T (fs[i]).M (fs[i]).Ex.length (fs[i]).Exs.length (fs[i]).L (fs[i]).R ∧ SidI (fs[i]).K (fs[i]).M (fs[i]).W (fs[i]).Ex (fs[i]).Exs l r ∧ stepF ts fs[i] l r ≤ 200) := by
  constructor
  · intro hN
    obtain ⟨f1, f2⟩ := (fldI_iff _ _ _ _ _ _ _ _ _ _).1 hN.fld
    have hx : (fs[i]).K ≠ 4 → (fs[i]).Exs = [] := fun h => List.eq_nil_of_length_eq_zero (by have := hN.fld.2.2.2.2.2.2.2.2.2.2.2.2; omega)
    refine ⟨f1, (sidI_iff f1 l r).2 ⟨f2, (sidP_congr f1.1 hx hl hr).2 hN.sid⟩, ?_⟩
    have := hN.wide
    rw [fw_step hi hN.fld] at this
    rw [stepF_congr ts fs[i] hl hr f1.1]
    exact this
  · rintro ⟨f1, f2, f3⟩
    obtain ⟨g1, g2⟩ := (sidI_iff f1 l r).1 f2
    have hF : FldP ts.length i fs[i] := (fldI_iff _ _ _ _ _ _ _ _ _ _).2 ⟨f1, g1⟩
    have hx : (fs[i]).K ≠ 4 → (fs[i]).Exs = [] := fun h => List.eq_nil_of_length_eq_zero (by have := hF.2.2.2.2.2.2.2.2.2.2.2.2; omega)
    refine ⟨hF, (sidP_congr f1.1 hx hl hr).1 g2, ?_⟩
    rw [fw_step hi hF, ← stepF_congr ts fs[i] hl hr f1.1]
    exact f3
end Go.Proofs.YtkdeilhkobcglaaDoor
