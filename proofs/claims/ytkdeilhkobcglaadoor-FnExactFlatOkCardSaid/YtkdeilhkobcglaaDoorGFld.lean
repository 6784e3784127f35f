import Derived.Test.YtkdeilhkobcglaaDoorBase
import Derived.Test.YtkdeilhkobcglaaDoorGAst
import Derived.Test.YtkdeilhkobcglaaDoorGPlan
import Derived.Test.YtkdeilhkobcglaaDoorGEx
/-
  THE PROGRAM's TABLE OF FIELDS: its small methods.
-/
namespace Go.Proofs.YtkdeilhkobcglaaDoor
open Go Go.RowKit

def nOk (u : Bool) (n lo hi : Int) : Bool := if u then decide (lo ≤ n ∧ n ≤ hi) else decide (n = 0)
theorem numberOk_calls (u : Bool) (n lo hi : Int) (w : World) : Calls Tryd.prog 92 #[.bool u, .int .i64 n, .int .i64 lo, .int .i64 hi] w fun e w' => e = .returned (.bool (nOk u n lo hi)) ∧ w' = w := by
  cases u
  · have HE : Hid (nOk false n lo hi = (n == 0)) := by
      show _ = _
      unfold nOk
      rw [Bool.eq_iff_iff]
      simp
    generalize nOk false n lo hi = E at *
    go_enter Tryd.func92, Tryd.ntmps92
    go_wp2
    go_ret
    exact ⟨congrArg (fun z => Ending.returned (.bool z)) HE.out.symm, rfl⟩
  · by_cases h1 : lo ≤ n
    · by_cases h2 : n ≤ hi
      · have HE : Hid (nOk true n lo hi = true) := by
          show _ = _
          unfold nOk
          simp [h1, h2]
        generalize nOk true n lo hi = E at *
        go_enter Tryd.func92, Tryd.ntmps92
        go_wp2
        go_ret
        exact ⟨congrArg (fun z => Ending.returned (.bool z)) HE.out.symm, rfl⟩
      · have HE : Hid (nOk true n lo hi = false) := by
          show _ = _
          unfold nOk
          simp [h1, h2]
        generalize nOk true n lo hi = E at *
        go_enter Tryd.func92, Tryd.ntmps92
        go_wp2
        go_ret
        exact ⟨congrArg (fun z => Ending.returned (.bool z)) HE.out.symm, rfl⟩
    · have HE : Hid (nOk true n lo hi = false) := by
        show _ = _
        unfold nOk
        simp [h1]
      generalize nOk true n lo hi = E at *
      go_enter Tryd.func92, Tryd.ntmps92
      go_wp2
      go_ret
      exact ⟨congrArg (fun z => Ending.returned (.bool z)) HE.out.symm, rfl⟩


theorem fUses_calls (b0 b1 b2 b3 b4 b5 b6 b7 : Bool) (m : Int) (w : World) : Calls Tryd.prog 100 #[.agg #[.bool b0, .bool b1, .bool b2, .bool b3, .bool b4, .bool b5, .bool b6, .bool b7], .int .i64 m] w fun e w' => e = .returned (.bool (b2 && (m != 1))) ∧ Below w.heap.size w w' := by
  cases b2
  · go_enter Tryd.func100, Tryd.ntmps100
    go_wp2
    go_ret
    exact ⟨rfl, bA (Below.refl _ _) _⟩
  · go_enter Tryd.func100, Tryd.ntmps100
    go_wp2
    go_ret
    exact ⟨rfl, bA (Below.refl _ _) _⟩
theorem fKids_none (b0 b1 b2 b3 b6 b7 : Bool) (L R : Int) (w : World) : Calls Tryd.prog 101 #[.agg #[.bool b0, .bool b1, .bool b2, .bool b3, .bool false, .bool false, .bool b6, .bool b7], .int .i64 L, .int .i64 R] w fun e w' => e = .returned (.slice none 0 0) ∧ Below w.heap.size w w' := by
  go_enter Tryd.func101, Tryd.ntmps101
  go_wp2
  go_ret
  exact ⟨rfl, (by (repeat (first | exact Below.refl _ _ | refine bA ?_ _ | refine Below.setCell ?_ (by simp <;> omega) _)))⟩
theorem fKids_one (b0 b1 b2 b3 b6 b7 : Bool) (L R : Int) (w : World) : Calls Tryd.prog 101 #[.agg #[.bool b0, .bool b1, .bool b2, .bool b3, .bool true, .bool false, .bool b6, .bool b7], .int .i64 L, .int .i64 R] w fun e w' => ∃ b, e = .returned (.slice (some ⟨b, 0, none⟩) 1 1) ∧ w.heap.size ≤ b ∧ b < w'.heap.size ∧ w'.cell? ⟨b, 0, none⟩ = some (.int .i64 L) ∧ Below w.heap.size w w' := by
  go_enter Tryd.func101, Tryd.ntmps101
  go_wp2
  go_ret
  refine ⟨_, rfl, ?_, ?_, by simp [go_sem], (by (repeat (first | exact Below.refl _ _ | refine bA ?_ _ | refine Below.setCell ?_ (by simp <;> omega) _)))⟩
  · first | omega | (simp <;> omega)
  · first | omega | (simp <;> omega)
theorem fKids_two (b0 b1 b2 b3 b4 b6 b7 : Bool) (L R : Int) (w : World) : Calls Tryd.prog 101 #[.agg #[.bool b0, .bool b1, .bool b2, .bool b3, .bool b4, .bool true, .bool b6, .bool b7], .int .i64 L, .int .i64 R] w fun e w' => ∃ b, e = .returned (.slice (some ⟨b, 0, none⟩) 2 2) ∧ w.heap.size ≤ b ∧ b < w'.heap.size ∧ w'.cell? ⟨b, 0, none⟩ = some (.int .i64 R) ∧ w'.cell? ⟨b, 1, none⟩ = some (.int .i64 L) ∧ Below w.heap.size w w' := by
  go_enter Tryd.func101, Tryd.ntmps101
  go_wp2
  go_ret
  refine ⟨_, rfl, ?_, ?_, by simp [go_sem], by simp [go_sem], (by (repeat (first | exact Below.refl _ _ | refine bA ?_ _ | refine Below.setCell ?_ (by simp <;> omega) _)))⟩
  · first | omega | (simp <;> omega)
  · first | omega | (simp <;> omega)
end Go.Proofs.YtkdeilhkobcglaaDoor
/-
  THE FIELDS OF A NODE against a row of the table: impl.fields.fit.
-/
namespace Go.Proofs.YtkdeilhkobcglaaDoor
open Go Go.RowKit

def FitH (b0 b1 b2 b3 b4 b5 : Bool) (nt : Nat) (T M : Int) (le ls : Nat) (L R : Int) : Prop :=
  nOk b0 T 0 ((nt : Int) - 1) = true ∧ nOk b1 M 1 4 = true ∧ ((b2 && (M != 1)) = true ∨ le = 0) ∧ (b3 = true ∨ ls = 0) ∧ (b4 = true ∨ L = 0) ∧ (b5 = true ∨ R = 0)

set_option maxHeartbeats 8000000 in
theorem fit_calls (b0 b1 b2 b3 b4 b5 b6 b7 : Bool) (nt : Nat) (K T M L R : Int) (le ls : Nat) (a3 a4 : Option Addr) (c3 c4 : Nat) (w : World) (hnt : nt ≤ 1048576) (l2 : le ≤ 1048576) (l3 : ls ≤ 1048576) :
    Calls Tryd.prog 83 #[.agg #[.bool b0, .bool b1, .bool b2, .bool b3, .bool b4, .bool b5, .bool b6, .bool b7], .agg #[.int .i64 K, .int .i64 T, .int .i64 M, .slice a3 le c3, .slice a4 ls c4, .int .i64 L, .int .i64 R], .int .i64 (nt : Int)] w fun e w' => e = .returned (.bool (dB (FitH b0 b1 b2 b3 b4 b5 nt T M le ls L R))) ∧ Below w.heap.size w w' := by
  have hiff : dB (FitH b0 b1 b2 b3 b4 b5 nt T M le ls L R) = true ↔ (nOk b0 T 0 ((nt : Int) - 1) = true ∧ nOk b1 M 1 4 = true ∧ ((b2 && (M != 1)) = true ∨ le = 0) ∧ (b3 = true ∨ ls = 0) ∧ (b4 = true ∨ L = 0) ∧ (b5 = true ∨ R = 0)) := dB_iff
  have HU := hide (fun W => fUses_calls b0 b1 b2 b3 b4 b5 b6 b7 M W)
  have HN1 := hide (fun W => numberOk_calls b0 T 0 ((nt : Int) - 1) W)
  have HN2 := hide (fun W => numberOk_calls b1 M 1 4 W)
  have HIff := hide hiff
  clear hiff
  generalize nOk b0 T 0 ((nt : Int) - 1) = n1 at *
  generalize nOk b1 M 1 4 = n2 at *
  generalize (b2 && (M != 1)) = u at *
  generalize dB (FitH b0 b1 b2 b3 b4 b5 nt T M le ls L R) = E at *
  have HNo : Hid (¬ (n1 = true ∧ n2 = true ∧ (u = true ∨ le = 0) ∧ (b3 = true ∨ ls = 0) ∧ (b4 = true ∨ L = 0) ∧ (b5 = true ∨ R = 0)) → E = false) := fun h => Bool.eq_false_iff.2 (fun h' => h ((unhide HIff).1 h'))
  have HYes : Hid ((n1 = true ∧ n2 = true ∧ (u = true ∨ le = 0) ∧ (b3 = true ∨ ls = 0) ∧ (b4 = true ∨ L = 0) ∧ (b5 = true ∨ R = 0)) → E = true) := fun h => (unhide HIff).2 h
  clear HIff
  cases n1
  · have HE := hide (unhide HNo (fun h => by have := h.1; cases this))
    clear HNo HYes
    go_enter Tryd.func83, Tryd.ntmps83
    go_wp2_with fail
    refine (unhide HN1 _).mono ?_; rintro e w1 ⟨rfl, rfl⟩
    go_wp2
    go_ret
    exact ⟨congrArg (fun z => Ending.returned (.bool z)) (unhide HE).symm, (by (repeat (first | exact Below.refl _ _ | refine bA ?_ _ | refine Below.setCell ?_ (by simp <;> omega) _)))⟩
  · cases n2
    · have HE := hide (unhide HNo (fun h => by have := h.2.1; cases this))
      clear HNo HYes
      go_enter Tryd.func83, Tryd.ntmps83
      go_wp2_with fail
      refine (unhide HN1 _).mono ?_; rintro e w1 ⟨rfl, rfl⟩
      go_wp2_with fail
      refine (unhide HN2 _).mono ?_; rintro e w1 ⟨rfl, rfl⟩
      go_wp2
      go_ret
      exact ⟨congrArg (fun z => Ending.returned (.bool z)) (unhide HE).symm, (by (repeat (first | exact Below.refl _ _ | refine bA ?_ _ | refine Below.setCell ?_ (by simp <;> omega) _)))⟩
    · cases u
      · rcases Nat.eq_zero_or_pos le with rfl | hp
        · cases b3
          · rcases Nat.eq_zero_or_pos ls with rfl | hp
            · cases b4
              · by_cases hL : L = 0
                · subst hL
                  cases b5
                  · by_cases hR : R = 0
                    · subst hR
                      have HE := hide (unhide HYes ⟨by first | rfl | trivial, by first | rfl | trivial, Or.inr rfl, Or.inr rfl, Or.inr rfl, Or.inr rfl⟩)
                      clear HNo HYes
                      go_enter Tryd.func83, Tryd.ntmps83
                      go_wp2_with fail
                      refine (unhide HN1 _).mono ?_; rintro e w1 ⟨rfl, rfl⟩
                      go_wp2_with fail
                      refine (unhide HN2 _).mono ?_; rintro e w1 ⟨rfl, rfl⟩
                      go_wp2_with fail
                      refine (unhide HU _).mono ?_; rintro e w3 ⟨rfl, hb3⟩
                      obtain ⟨hc, hf⟩ := bcell hb3
                      have hs : w.heap.size + 2 ≤ w3.heap.size := (by have := hb3.size; simpa using this)
                      have hB := bT (by (repeat (first | exact Below.refl _ _ | refine bA ?_ _ | refine Below.setCell ?_ (by simp <;> omega) _)) : Below w.heap.size w _) hb3
                      clear hb3
                      go_wp2
                      go_ret
                      exact ⟨congrArg (fun z => Ending.returned (.bool z)) (unhide HE).symm, hB⟩
                    · have hR1 : (R == 0) = false := beq_eq_false_iff_ne.2 hR
                      have HE := hide (unhide HNo (fun h => h.2.2.2.2.2.elim (fun h => by cases h) (fun h => hR h)))
                      clear HNo HYes
                      go_enter Tryd.func83, Tryd.ntmps83
                      go_wp2_with fail
                      refine (unhide HN1 _).mono ?_; rintro e w1 ⟨rfl, rfl⟩
                      go_wp2_with fail
                      refine (unhide HN2 _).mono ?_; rintro e w1 ⟨rfl, rfl⟩
                      go_wp2_with fail
                      refine (unhide HU _).mono ?_; rintro e w3 ⟨rfl, hb3⟩
                      obtain ⟨hc, hf⟩ := bcell hb3
                      have hs : w.heap.size + 2 ≤ w3.heap.size := (by have := hb3.size; simpa using this)
                      have hB := bT (by (repeat (first | exact Below.refl _ _ | refine bA ?_ _ | refine Below.setCell ?_ (by simp <;> omega) _)) : Below w.heap.size w _) hb3
                      clear hb3
                      go_wp2
                      go_ret
                      exact ⟨congrArg (fun z => Ending.returned (.bool z)) (unhide HE).symm, hB⟩
                  · have HE := hide (unhide HYes ⟨by first | rfl | trivial, by first | rfl | trivial, Or.inr rfl, Or.inr rfl, Or.inr rfl, Or.inl (by first | rfl | trivial)⟩)
                    clear HNo HYes
                    go_enter Tryd.func83, Tryd.ntmps83
                    go_wp2_with fail
                    refine (unhide HN1 _).mono ?_; rintro e w1 ⟨rfl, rfl⟩
                    go_wp2_with fail
                    refine (unhide HN2 _).mono ?_; rintro e w1 ⟨rfl, rfl⟩
                    go_wp2_with fail
                    refine (unhide HU _).mono ?_; rintro e w3 ⟨rfl, hb3⟩
                    obtain ⟨hc, hf⟩ := bcell hb3
                    have hs : w.heap.size + 2 ≤ w3.heap.size := (by have := hb3.size; simpa using this)
                    have hB := bT (by (repeat (first | exact Below.refl _ _ | refine bA ?_ _ | refine Below.setCell ?_ (by simp <;> omega) _)) : Below w.heap.size w _) hb3
                    clear hb3
                    go_wp2
                    go_ret
                    exact ⟨congrArg (fun z => Ending.returned (.bool z)) (unhide HE).symm, hB⟩
                · have hL1 : (L == 0) = false := beq_eq_false_iff_ne.2 hL
                  have HE := hide (unhide HNo (fun h => h.2.2.2.2.1.elim (fun h => by cases h) (fun h => hL h)))
                  clear HNo HYes
                  go_enter Tryd.func83, Tryd.ntmps83
                  go_wp2_with fail
                  refine (unhide HN1 _).mono ?_; rintro e w1 ⟨rfl, rfl⟩
                  go_wp2_with fail
                  refine (unhide HN2 _).mono ?_; rintro e w1 ⟨rfl, rfl⟩
                  go_wp2_with fail
                  refine (unhide HU _).mono ?_; rintro e w3 ⟨rfl, hb3⟩
                  obtain ⟨hc, hf⟩ := bcell hb3
                  have hs : w.heap.size + 2 ≤ w3.heap.size := (by have := hb3.size; simpa using this)
                  have hB := bT (by (repeat (first | exact Below.refl _ _ | refine bA ?_ _ | refine Below.setCell ?_ (by simp <;> omega) _)) : Below w.heap.size w _) hb3
                  clear hb3
                  go_wp2
                  go_ret
                  exact ⟨congrArg (fun z => Ending.returned (.bool z)) (unhide HE).symm, hB⟩
              · cases b5
                · by_cases hR : R = 0
                  · subst hR
                    have HE := hide (unhide HYes ⟨by first | rfl | trivial, by first | rfl | trivial, Or.inr rfl, Or.inr rfl, Or.inl (by first | rfl | trivial), Or.inr rfl⟩)
                    clear HNo HYes
                    go_enter Tryd.func83, Tryd.ntmps83
                    go_wp2_with fail
                    refine (unhide HN1 _).mono ?_; rintro e w1 ⟨rfl, rfl⟩
                    go_wp2_with fail
                    refine (unhide HN2 _).mono ?_; rintro e w1 ⟨rfl, rfl⟩
                    go_wp2_with fail
                    refine (unhide HU _).mono ?_; rintro e w3 ⟨rfl, hb3⟩
                    obtain ⟨hc, hf⟩ := bcell hb3
                    have hs : w.heap.size + 2 ≤ w3.heap.size := (by have := hb3.size; simpa using this)
                    have hB := bT (by (repeat (first | exact Below.refl _ _ | refine bA ?_ _ | refine Below.setCell ?_ (by simp <;> omega) _)) : Below w.heap.size w _) hb3
                    clear hb3
                    go_wp2
                    go_ret
                    exact ⟨congrArg (fun z => Ending.returned (.bool z)) (unhide HE).symm, hB⟩
                  · have hR1 : (R == 0) = false := beq_eq_false_iff_ne.2 hR
                    have HE := hide (unhide HNo (fun h => h.2.2.2.2.2.elim (fun h => by cases h) (fun h => hR h)))
                    clear HNo HYes
                    go_enter Tryd.func83, Tryd.ntmps83
                    go_wp2_with fail
                    refine (unhide HN1 _).mono ?_; rintro e w1 ⟨rfl, rfl⟩
                    go_wp2_with fail
                    refine (unhide HN2 _).mono ?_; rintro e w1 ⟨rfl, rfl⟩
                    go_wp2_with fail
                    refine (unhide HU _).mono ?_; rintro e w3 ⟨rfl, hb3⟩
                    obtain ⟨hc, hf⟩ := bcell hb3
                    have hs : w.heap.size + 2 ≤ w3.heap.size := (by have := hb3.size; simpa using this)
                    have hB := bT (by (repeat (first | exact Below.refl _ _ | refine bA ?_ _ | refine Below.setCell ?_ (by simp <;> omega) _)) : Below w.heap.size w _) hb3
                    clear hb3
                    go_wp2
                    go_ret
                    exact ⟨congrArg (fun z => Ending.returned (.bool z)) (unhide HE).symm, hB⟩
                · have HE := hide (unhide HYes ⟨by first | rfl | trivial, by first | rfl | trivial, Or.inr rfl, Or.inr rfl, Or.inl (by first | rfl | trivial), Or.inl (by first | rfl | trivial)⟩)
                  clear HNo HYes
                  go_enter Tryd.func83, Tryd.ntmps83
                  go_wp2_with fail
                  refine (unhide HN1 _).mono ?_; rintro e w1 ⟨rfl, rfl⟩
                  go_wp2_with fail
                  refine (unhide HN2 _).mono ?_; rintro e w1 ⟨rfl, rfl⟩
                  go_wp2_with fail
                  refine (unhide HU _).mono ?_; rintro e w3 ⟨rfl, hb3⟩
                  obtain ⟨hc, hf⟩ := bcell hb3
                  have hs : w.heap.size + 2 ≤ w3.heap.size := (by have := hb3.size; simpa using this)
                  have hB := bT (by (repeat (first | exact Below.refl _ _ | refine bA ?_ _ | refine Below.setCell ?_ (by simp <;> omega) _)) : Below w.heap.size w _) hb3
                  clear hb3
                  go_wp2
                  go_ret
                  exact ⟨congrArg (fun z => Ending.returned (.bool z)) (unhide HE).symm, hB⟩
            · have hx1 : ((ls : Int) == 0) = false := beq_eq_false_iff_ne.2 (by omega)
              have hx2 : (ls == 0) = false := beq_eq_false_iff_ne.2 (by omega)
              have hx3 : ¬ (ls : Int) = 0 := by omega
              have hx4 : ¬ ls = 0 := by omega
              have HE := hide (unhide HNo (fun h => h.2.2.2.1.elim (fun h => by cases h) (fun h => by omega)))
              clear HNo HYes
              go_enter Tryd.func83, Tryd.ntmps83
              go_wp2_with fail
              refine (unhide HN1 _).mono ?_; rintro e w1 ⟨rfl, rfl⟩
              go_wp2_with fail
              refine (unhide HN2 _).mono ?_; rintro e w1 ⟨rfl, rfl⟩
              go_wp2_with fail
              refine (unhide HU _).mono ?_; rintro e w3 ⟨rfl, hb3⟩
              obtain ⟨hc, hf⟩ := bcell hb3
              have hs : w.heap.size + 2 ≤ w3.heap.size := (by have := hb3.size; simpa using this)
              have hB := bT (by (repeat (first | exact Below.refl _ _ | refine bA ?_ _ | refine Below.setCell ?_ (by simp <;> omega) _)) : Below w.heap.size w _) hb3
              clear hb3
              go_wp2
              go_ret
              exact ⟨congrArg (fun z => Ending.returned (.bool z)) (unhide HE).symm, hB⟩
          · cases b4
            · by_cases hL : L = 0
              · subst hL
                cases b5
                · by_cases hR : R = 0
                  · subst hR
                    have HE := hide (unhide HYes ⟨by first | rfl | trivial, by first | rfl | trivial, Or.inr rfl, Or.inl (by first | rfl | trivial), Or.inr rfl, Or.inr rfl⟩)
                    clear HNo HYes
                    go_enter Tryd.func83, Tryd.ntmps83
                    go_wp2_with fail
                    refine (unhide HN1 _).mono ?_; rintro e w1 ⟨rfl, rfl⟩
                    go_wp2_with fail
                    refine (unhide HN2 _).mono ?_; rintro e w1 ⟨rfl, rfl⟩
                    go_wp2_with fail
                    refine (unhide HU _).mono ?_; rintro e w3 ⟨rfl, hb3⟩
                    obtain ⟨hc, hf⟩ := bcell hb3
                    have hs : w.heap.size + 2 ≤ w3.heap.size := (by have := hb3.size; simpa using this)
                    have hB := bT (by (repeat (first | exact Below.refl _ _ | refine bA ?_ _ | refine Below.setCell ?_ (by simp <;> omega) _)) : Below w.heap.size w _) hb3
                    clear hb3
                    go_wp2
                    go_ret
                    exact ⟨congrArg (fun z => Ending.returned (.bool z)) (unhide HE).symm, hB⟩
                  · have hR1 : (R == 0) = false := beq_eq_false_iff_ne.2 hR
                    have HE := hide (unhide HNo (fun h => h.2.2.2.2.2.elim (fun h => by cases h) (fun h => hR h)))
                    clear HNo HYes
                    go_enter Tryd.func83, Tryd.ntmps83
                    go_wp2_with fail
                    refine (unhide HN1 _).mono ?_; rintro e w1 ⟨rfl, rfl⟩
                    go_wp2_with fail
                    refine (unhide HN2 _).mono ?_; rintro e w1 ⟨rfl, rfl⟩
                    go_wp2_with fail
                    refine (unhide HU _).mono ?_; rintro e w3 ⟨rfl, hb3⟩
                    obtain ⟨hc, hf⟩ := bcell hb3
                    have hs : w.heap.size + 2 ≤ w3.heap.size := (by have := hb3.size; simpa using this)
                    have hB := bT (by (repeat (first | exact Below.refl _ _ | refine bA ?_ _ | refine Below.setCell ?_ (by simp <;> omega) _)) : Below w.heap.size w _) hb3
                    clear hb3
                    go_wp2
                    go_ret
                    exact ⟨congrArg (fun z => Ending.returned (.bool z)) (unhide HE).symm, hB⟩
                · have HE := hide (unhide HYes ⟨by first | rfl | trivial, by first | rfl | trivial, Or.inr rfl, Or.inl (by first | rfl | trivial), Or.inr rfl, Or.inl (by first | rfl | trivial)⟩)
                  clear HNo HYes
                  go_enter Tryd.func83, Tryd.ntmps83
                  go_wp2_with fail
                  refine (unhide HN1 _).mono ?_; rintro e w1 ⟨rfl, rfl⟩
                  go_wp2_with fail
                  refine (unhide HN2 _).mono ?_; rintro e w1 ⟨rfl, rfl⟩
                  go_wp2_with fail
                  refine (unhide HU _).mono ?_; rintro e w3 ⟨rfl, hb3⟩
                  obtain ⟨hc, hf⟩ := bcell hb3
                  have hs : w.heap.size + 2 ≤ w3.heap.size := (by have := hb3.size; simpa using this)
                  have hB := bT (by (repeat (first | exact Below.refl _ _ | refine bA ?_ _ | refine Below.setCell ?_ (by simp <;> omega) _)) : Below w.heap.size w _) hb3
                  clear hb3
                  go_wp2
                  go_ret
                  exact ⟨congrArg (fun z => Ending.returned (.bool z)) (unhide HE).symm, hB⟩
              · have hL1 : (L == 0) = false := beq_eq_false_iff_ne.2 hL
                have HE := hide (unhide HNo (fun h => h.2.2.2.2.1.elim (fun h => by cases h) (fun h => hL h)))
                clear HNo HYes
                go_enter Tryd.func83, Tryd.ntmps83
                go_wp2_with fail
                refine (unhide HN1 _).mono ?_; rintro e w1 ⟨rfl, rfl⟩
                go_wp2_with fail
                refine (unhide HN2 _).mono ?_; rintro e w1 ⟨rfl, rfl⟩
                go_wp2_with fail
                refine (unhide HU _).mono ?_; rintro e w3 ⟨rfl, hb3⟩
                obtain ⟨hc, hf⟩ := bcell hb3
                have hs : w.heap.size + 2 ≤ w3.heap.size := (by have := hb3.size; simpa using this)
                have hB := bT (by (repeat (first | exact Below.refl _ _ | refine bA ?_ _ | refine Below.setCell ?_ (by simp <;> omega) _)) : Below w.heap.size w _) hb3
                clear hb3
                go_wp2
                go_ret
                exact ⟨congrArg (fun z => Ending.returned (.bool z)) (unhide HE).symm, hB⟩
            · cases b5
              · by_cases hR : R = 0
                · subst hR
                  have HE := hide (unhide HYes ⟨by first | rfl | trivial, by first | rfl | trivial, Or.inr rfl, Or.inl (by first | rfl | trivial), Or.inl (by first | rfl | trivial), Or.inr rfl⟩)
                  clear HNo HYes
                  go_enter Tryd.func83, Tryd.ntmps83
                  go_wp2_with fail
                  refine (unhide HN1 _).mono ?_; rintro e w1 ⟨rfl, rfl⟩
                  go_wp2_with fail
                  refine (unhide HN2 _).mono ?_; rintro e w1 ⟨rfl, rfl⟩
                  go_wp2_with fail
                  refine (unhide HU _).mono ?_; rintro e w3 ⟨rfl, hb3⟩
                  obtain ⟨hc, hf⟩ := bcell hb3
                  have hs : w.heap.size + 2 ≤ w3.heap.size := (by have := hb3.size; simpa using this)
                  have hB := bT (by (repeat (first | exact Below.refl _ _ | refine bA ?_ _ | refine Below.setCell ?_ (by simp <;> omega) _)) : Below w.heap.size w _) hb3
                  clear hb3
                  go_wp2
                  go_ret
                  exact ⟨congrArg (fun z => Ending.returned (.bool z)) (unhide HE).symm, hB⟩
                · have hR1 : (R == 0) = false := beq_eq_false_iff_ne.2 hR
                  have HE := hide (unhide HNo (fun h => h.2.2.2.2.2.elim (fun h => by cases h) (fun h => hR h)))
                  clear HNo HYes
                  go_enter Tryd.func83, Tryd.ntmps83
                  go_wp2_with fail
                  refine (unhide HN1 _).mono ?_; rintro e w1 ⟨rfl, rfl⟩
                  go_wp2_with fail
                  refine (unhide HN2 _).mono ?_; rintro e w1 ⟨rfl, rfl⟩
                  go_wp2_with fail
                  refine (unhide HU _).mono ?_; rintro e w3 ⟨rfl, hb3⟩
                  obtain ⟨hc, hf⟩ := bcell hb3
                  have hs : w.heap.size + 2 ≤ w3.heap.size := (by have := hb3.size; simpa using this)
                  have hB := bT (by (repeat (first | exact Below.refl _ _ | refine bA ?_ _ | refine Below.setCell ?_ (by simp <;> omega) _)) : Below w.heap.size w _) hb3
                  clear hb3
                  go_wp2
                  go_ret
                  exact ⟨congrArg (fun z => Ending.returned (.bool z)) (unhide HE).symm, hB⟩
              · have HE := hide (unhide HYes ⟨by first | rfl | trivial, by first | rfl | trivial, Or.inr rfl, Or.inl (by first | rfl | trivial), Or.inl (by first | rfl | trivial), Or.inl (by first | rfl | trivial)⟩)
                clear HNo HYes
                go_enter Tryd.func83, Tryd.ntmps83
                go_wp2_with fail
                refine (unhide HN1 _).mono ?_; rintro e w1 ⟨rfl, rfl⟩
                go_wp2_with fail
                refine (unhide HN2 _).mono ?_; rintro e w1 ⟨rfl, rfl⟩
                go_wp2_with fail
                refine (unhide HU _).mono ?_; rintro e w3 ⟨rfl, hb3⟩
                obtain ⟨hc, hf⟩ := bcell hb3
                have hs : w.heap.size + 2 ≤ w3.heap.size := (by have := hb3.size; simpa using this)
                have hB := bT (by (repeat (first | exact Below.refl _ _ | refine bA ?_ _ | refine Below.setCell ?_ (by simp <;> omega) _)) : Below w.heap.size w _) hb3
                clear hb3
                go_wp2
                go_ret
                exact ⟨congrArg (fun z => Ending.returned (.bool z)) (unhide HE).symm, hB⟩
        · have hx1 : ((le : Int) == 0) = false := beq_eq_false_iff_ne.2 (by omega)
          have hx2 : (le == 0) = false := beq_eq_false_iff_ne.2 (by omega)
          have hx3 : ¬ (le : Int) = 0 := by omega
          have hx4 : ¬ le = 0 := by omega
          have HE := hide (unhide HNo (fun h => h.2.2.1.elim (fun h => by cases h) (fun h => by omega)))
          clear HNo HYes
          go_enter Tryd.func83, Tryd.ntmps83
          go_wp2_with fail
          refine (unhide HN1 _).mono ?_; rintro e w1 ⟨rfl, rfl⟩
          go_wp2_with fail
          refine (unhide HN2 _).mono ?_; rintro e w1 ⟨rfl, rfl⟩
          go_wp2_with fail
          refine (unhide HU _).mono ?_; rintro e w3 ⟨rfl, hb3⟩
          obtain ⟨hc, hf⟩ := bcell hb3
          have hs : w.heap.size + 2 ≤ w3.heap.size := (by have := hb3.size; simpa using this)
          have hB := bT (by (repeat (first | exact Below.refl _ _ | refine bA ?_ _ | refine Below.setCell ?_ (by simp <;> omega) _)) : Below w.heap.size w _) hb3
          clear hb3
          go_wp2
          go_ret
          exact ⟨congrArg (fun z => Ending.returned (.bool z)) (unhide HE).symm, hB⟩
      · cases b3
        · rcases Nat.eq_zero_or_pos ls with rfl | hp
          · cases b4
            · by_cases hL : L = 0
              · subst hL
                cases b5
                · by_cases hR : R = 0
                  · subst hR
                    have HE := hide (unhide HYes ⟨by first | rfl | trivial, by first | rfl | trivial, Or.inl (by first | rfl | trivial), Or.inr rfl, Or.inr rfl, Or.inr rfl⟩)
                    clear HNo HYes
                    go_enter Tryd.func83, Tryd.ntmps83
                    go_wp2_with fail
                    refine (unhide HN1 _).mono ?_; rintro e w1 ⟨rfl, rfl⟩
                    go_wp2_with fail
                    refine (unhide HN2 _).mono ?_; rintro e w1 ⟨rfl, rfl⟩
                    go_wp2_with fail
                    refine (unhide HU _).mono ?_; rintro e w3 ⟨rfl, hb3⟩
                    obtain ⟨hc, hf⟩ := bcell hb3
                    have hs : w.heap.size + 2 ≤ w3.heap.size := (by have := hb3.size; simpa using this)
                    have hB := bT (by (repeat (first | exact Below.refl _ _ | refine bA ?_ _ | refine Below.setCell ?_ (by simp <;> omega) _)) : Below w.heap.size w _) hb3
                    clear hb3
                    go_wp2
                    go_ret
                    exact ⟨congrArg (fun z => Ending.returned (.bool z)) (unhide HE).symm, hB⟩
                  · have hR1 : (R == 0) = false := beq_eq_false_iff_ne.2 hR
                    have HE := hide (unhide HNo (fun h => h.2.2.2.2.2.elim (fun h => by cases h) (fun h => hR h)))
                    clear HNo HYes
                    go_enter Tryd.func83, Tryd.ntmps83
                    go_wp2_with fail
                    refine (unhide HN1 _).mono ?_; rintro e w1 ⟨rfl, rfl⟩
                    go_wp2_with fail
                    refine (unhide HN2 _).mono ?_; rintro e w1 ⟨rfl, rfl⟩
                    go_wp2_with fail
                    refine (unhide HU _).mono ?_; rintro e w3 ⟨rfl, hb3⟩
                    obtain ⟨hc, hf⟩ := bcell hb3
                    have hs : w.heap.size + 2 ≤ w3.heap.size := (by have := hb3.size; simpa using this)
                    have hB := bT (by (repeat (first | exact Below.refl _ _ | refine bA ?_ _ | refine Below.setCell ?_ (by simp <;> omega) _)) : Below w.heap.size w _) hb3
                    clear hb3
                    go_wp2
                    go_ret
                    exact ⟨congrArg (fun z => Ending.returned (.bool z)) (unhide HE).symm, hB⟩
                · have HE := hide (unhide HYes ⟨by first | rfl | trivial, by first | rfl | trivial, Or.inl (by first | rfl | trivial), Or.inr rfl, Or.inr rfl, Or.inl (by first | rfl | trivial)⟩)
                  clear HNo HYes
                  go_enter Tryd.func83, Tryd.ntmps83
                  go_wp2_with fail
                  refine (unhide HN1 _).mono ?_; rintro e w1 ⟨rfl, rfl⟩
                  go_wp2_with fail
                  refine (unhide HN2 _).mono ?_; rintro e w1 ⟨rfl, rfl⟩
                  go_wp2_with fail
                  refine (unhide HU _).mono ?_; rintro e w3 ⟨rfl, hb3⟩
                  obtain ⟨hc, hf⟩ := bcell hb3
                  have hs : w.heap.size + 2 ≤ w3.heap.size := (by have := hb3.size; simpa using this)
                  have hB := bT (by (repeat (first | exact Below.refl _ _ | refine bA ?_ _ | refine Below.setCell ?_ (by simp <;> omega) _)) : Below w.heap.size w _) hb3
                  clear hb3
                  go_wp2
                  go_ret
                  exact ⟨congrArg (fun z => Ending.returned (.bool z)) (unhide HE).symm, hB⟩
              · have hL1 : (L == 0) = false := beq_eq_false_iff_ne.2 hL
                have HE := hide (unhide HNo (fun h => h.2.2.2.2.1.elim (fun h => by cases h) (fun h => hL h)))
                clear HNo HYes
                go_enter Tryd.func83, Tryd.ntmps83
                go_wp2_with fail
                refine (unhide HN1 _).mono ?_; rintro e w1 ⟨rfl, rfl⟩
                go_wp2_with fail
                refine (unhide HN2 _).mono ?_; rintro e w1 ⟨rfl, rfl⟩
                go_wp2_with fail
                refine (unhide HU _).mono ?_; rintro e w3 ⟨rfl, hb3⟩
                obtain ⟨hc, hf⟩ := bcell hb3
                have hs : w.heap.size + 2 ≤ w3.heap.size := (by have := hb3.size; simpa using this)
                have hB := bT (by (repeat (first | exact Below.refl _ _ | refine bA ?_ _ | refine Below.setCell ?_ (by simp <;> omega) _)) : Below w.heap.size w _) hb3
                clear hb3
                go_wp2
                go_ret
                exact ⟨congrArg (fun z => Ending.returned (.bool z)) (unhide HE).symm, hB⟩
            · cases b5
              · by_cases hR : R = 0
                · subst hR
                  have HE := hide (unhide HYes ⟨by first | rfl | trivial, by first | rfl | trivial, Or.inl (by first | rfl | trivial), Or.inr rfl, Or.inl (by first | rfl | trivial), Or.inr rfl⟩)
                  clear HNo HYes
                  go_enter Tryd.func83, Tryd.ntmps83
                  go_wp2_with fail
                  refine (unhide HN1 _).mono ?_; rintro e w1 ⟨rfl, rfl⟩
                  go_wp2_with fail
                  refine (unhide HN2 _).mono ?_; rintro e w1 ⟨rfl, rfl⟩
                  go_wp2_with fail
                  refine (unhide HU _).mono ?_; rintro e w3 ⟨rfl, hb3⟩
                  obtain ⟨hc, hf⟩ := bcell hb3
                  have hs : w.heap.size + 2 ≤ w3.heap.size := (by have := hb3.size; simpa using this)
                  have hB := bT (by (repeat (first | exact Below.refl _ _ | refine bA ?_ _ | refine Below.setCell ?_ (by simp <;> omega) _)) : Below w.heap.size w _) hb3
                  clear hb3
                  go_wp2
                  go_ret
                  exact ⟨congrArg (fun z => Ending.returned (.bool z)) (unhide HE).symm, hB⟩
                · have hR1 : (R == 0) = false := beq_eq_false_iff_ne.2 hR
                  have HE := hide (unhide HNo (fun h => h.2.2.2.2.2.elim (fun h => by cases h) (fun h => hR h)))
                  clear HNo HYes
                  go_enter Tryd.func83, Tryd.ntmps83
                  go_wp2_with fail
                  refine (unhide HN1 _).mono ?_; rintro e w1 ⟨rfl, rfl⟩
                  go_wp2_with fail
                  refine (unhide HN2 _).mono ?_; rintro e w1 ⟨rfl, rfl⟩
                  go_wp2_with fail
                  refine (unhide HU _).mono ?_; rintro e w3 ⟨rfl, hb3⟩
                  obtain ⟨hc, hf⟩ := bcell hb3
                  have hs : w.heap.size + 2 ≤ w3.heap.size := (by have := hb3.size; simpa using this)
                  have hB := bT (by (repeat (first | exact Below.refl _ _ | refine bA ?_ _ | refine Below.setCell ?_ (by simp <;> omega) _)) : Below w.heap.size w _) hb3
                  clear hb3
                  go_wp2
                  go_ret
                  exact ⟨congrArg (fun z => Ending.returned (.bool z)) (unhide HE).symm, hB⟩
              · have HE := hide (unhide HYes ⟨by first | rfl | trivial, by first | rfl | trivial, Or.inl (by first | rfl | trivial), Or.inr rfl, Or.inl (by first | rfl | trivial), Or.inl (by first | rfl | trivial)⟩)
                clear HNo HYes
                go_enter Tryd.func83, Tryd.ntmps83
                go_wp2_with fail
                refine (unhide HN1 _).mono ?_; rintro e w1 ⟨rfl, rfl⟩
                go_wp2_with fail
                refine (unhide HN2 _).mono ?_; rintro e w1 ⟨rfl, rfl⟩
                go_wp2_with fail
                refine (unhide HU _).mono ?_; rintro e w3 ⟨rfl, hb3⟩
                obtain ⟨hc, hf⟩ := bcell hb3
                have hs : w.heap.size + 2 ≤ w3.heap.size := (by have := hb3.size; simpa using this)
                have hB := bT (by (repeat (first | exact Below.refl _ _ | refine bA ?_ _ | refine Below.setCell ?_ (by simp <;> omega) _)) : Below w.heap.size w _) hb3
                clear hb3
                go_wp2
                go_ret
                exact ⟨congrArg (fun z => Ending.returned (.bool z)) (unhide HE).symm, hB⟩
          · have hx1 : ((ls : Int) == 0) = false := beq_eq_false_iff_ne.2 (by omega)
            have hx2 : (ls == 0) = false := beq_eq_false_iff_ne.2 (by omega)
            have hx3 : ¬ (ls : Int) = 0 := by omega
            have hx4 : ¬ ls = 0 := by omega
            have HE := hide (unhide HNo (fun h => h.2.2.2.1.elim (fun h => by cases h) (fun h => by omega)))
            clear HNo HYes
            go_enter Tryd.func83, Tryd.ntmps83
            go_wp2_with fail
            refine (unhide HN1 _).mono ?_; rintro e w1 ⟨rfl, rfl⟩
            go_wp2_with fail
            refine (unhide HN2 _).mono ?_; rintro e w1 ⟨rfl, rfl⟩
            go_wp2_with fail
            refine (unhide HU _).mono ?_; rintro e w3 ⟨rfl, hb3⟩
            obtain ⟨hc, hf⟩ := bcell hb3
            have hs : w.heap.size + 2 ≤ w3.heap.size := (by have := hb3.size; simpa using this)
            have hB := bT (by (repeat (first | exact Below.refl _ _ | refine bA ?_ _ | refine Below.setCell ?_ (by simp <;> omega) _)) : Below w.heap.size w _) hb3
            clear hb3
            go_wp2
            go_ret
            exact ⟨congrArg (fun z => Ending.returned (.bool z)) (unhide HE).symm, hB⟩
        · cases b4
          · by_cases hL : L = 0
            · subst hL
              cases b5
              · by_cases hR : R = 0
                · subst hR
                  have HE := hide (unhide HYes ⟨by first | rfl | trivial, by first | rfl | trivial, Or.inl (by first | rfl | trivial), Or.inl (by first | rfl | trivial), Or.inr rfl, Or.inr rfl⟩)
                  clear HNo HYes
                  go_enter Tryd.func83, Tryd.ntmps83
                  go_wp2_with fail
                  refine (unhide HN1 _).mono ?_; rintro e w1 ⟨rfl, rfl⟩
                  go_wp2_with fail
                  refine (unhide HN2 _).mono ?_; rintro e w1 ⟨rfl, rfl⟩
                  go_wp2_with fail
                  refine (unhide HU _).mono ?_; rintro e w3 ⟨rfl, hb3⟩
                  obtain ⟨hc, hf⟩ := bcell hb3
                  have hs : w.heap.size + 2 ≤ w3.heap.size := (by have := hb3.size; simpa using this)
                  have hB := bT (by (repeat (first | exact Below.refl _ _ | refine bA ?_ _ | refine Below.setCell ?_ (by simp <;> omega) _)) : Below w.heap.size w _) hb3
                  clear hb3
                  go_wp2
                  go_ret
                  exact ⟨congrArg (fun z => Ending.returned (.bool z)) (unhide HE).symm, hB⟩
                · have hR1 : (R == 0) = false := beq_eq_false_iff_ne.2 hR
                  have HE := hide (unhide HNo (fun h => h.2.2.2.2.2.elim (fun h => by cases h) (fun h => hR h)))
                  clear HNo HYes
                  go_enter Tryd.func83, Tryd.ntmps83
                  go_wp2_with fail
                  refine (unhide HN1 _).mono ?_; rintro e w1 ⟨rfl, rfl⟩
                  go_wp2_with fail
                  refine (unhide HN2 _).mono ?_; rintro e w1 ⟨rfl, rfl⟩
                  go_wp2_with fail
                  refine (unhide HU _).mono ?_; rintro e w3 ⟨rfl, hb3⟩
                  obtain ⟨hc, hf⟩ := bcell hb3
                  have hs : w.heap.size + 2 ≤ w3.heap.size := (by have := hb3.size; simpa using this)
                  have hB := bT (by (repeat (first | exact Below.refl _ _ | refine bA ?_ _ | refine Below.setCell ?_ (by simp <;> omega) _)) : Below w.heap.size w _) hb3
                  clear hb3
                  go_wp2
                  go_ret
                  exact ⟨congrArg (fun z => Ending.returned (.bool z)) (unhide HE).symm, hB⟩
              · have HE := hide (unhide HYes ⟨by first | rfl | trivial, by first | rfl | trivial, Or.inl (by first | rfl | trivial), Or.inl (by first | rfl | trivial), Or.inr rfl, Or.inl (by first | rfl | trivial)⟩)
                clear HNo HYes
                go_enter Tryd.func83, Tryd.ntmps83
                go_wp2_with fail
                refine (unhide HN1 _).mono ?_; rintro e w1 ⟨rfl, rfl⟩
                go_wp2_with fail
                refine (unhide HN2 _).mono ?_; rintro e w1 ⟨rfl, rfl⟩
                go_wp2_with fail
                refine (unhide HU _).mono ?_; rintro e w3 ⟨rfl, hb3⟩
                obtain ⟨hc, hf⟩ := bcell hb3
                have hs : w.heap.size + 2 ≤ w3.heap.size := (by have := hb3.size; simpa using this)
                have hB := bT (by (repeat (first | exact Below.refl _ _ | refine bA ?_ _ | refine Below.setCell ?_ (by simp <;> omega) _)) : Below w.heap.size w _) hb3
                clear hb3
                go_wp2
                go_ret
                exact ⟨congrArg (fun z => Ending.returned (.bool z)) (unhide HE).symm, hB⟩
            · have hL1 : (L == 0) = false := beq_eq_false_iff_ne.2 hL
              have HE := hide (unhide HNo (fun h => h.2.2.2.2.1.elim (fun h => by cases h) (fun h => hL h)))
              clear HNo HYes
              go_enter Tryd.func83, Tryd.ntmps83
              go_wp2_with fail
              refine (unhide HN1 _).mono ?_; rintro e w1 ⟨rfl, rfl⟩
              go_wp2_with fail
              refine (unhide HN2 _).mono ?_; rintro e w1 ⟨rfl, rfl⟩
              go_wp2_with fail
              refine (unhide HU _).mono ?_; rintro e w3 ⟨rfl, hb3⟩
              obtain ⟨hc, hf⟩ := bcell hb3
              have hs : w.heap.size + 2 ≤ w3.heap.size := (by have := hb3.size; simpa using this)
              have hB := bT (by (repeat (first | exact Below.refl _ _ | refine bA ?_ _ | refine Below.setCell ?_ (by simp <;> omega) _)) : Below w.heap.size w _) hb3
              clear hb3
              go_wp2
              go_ret
              exact ⟨congrArg (fun z => Ending.returned (.bool z)) (unhide HE).symm, hB⟩
          · cases b5
            · by_cases hR : R = 0
              · subst hR
                have HE := hide (unhide HYes ⟨by first | rfl | trivial, by first | rfl | trivial, Or.inl (by first | rfl | trivial), Or.inl (by first | rfl | trivial), Or.inl (by first | rfl | trivial), Or.inr rfl⟩)
                clear HNo HYes
                go_enter Tryd.func83, Tryd.ntmps83
                go_wp2_with fail
                refine (unhide HN1 _).mono ?_; rintro e w1 ⟨rfl, rfl⟩
                go_wp2_with fail
                refine (unhide HN2 _).mono ?_; rintro e w1 ⟨rfl, rfl⟩
                go_wp2_with fail
                refine (unhide HU _).mono ?_; rintro e w3 ⟨rfl, hb3⟩
                obtain ⟨hc, hf⟩ := bcell hb3
                have hs : w.heap.size + 2 ≤ w3.heap.size := (by have := hb3.size; simpa using this)
                have hB := bT (by (repeat (first | exact Below.refl _ _ | refine bA ?_ _ | refine Below.setCell ?_ (by simp <;> omega) _)) : Below w.heap.size w _) hb3
                clear hb3
                go_wp2
                go_ret
                exact ⟨congrArg (fun z => Ending.returned (.bool z)) (unhide HE).symm, hB⟩
              · have hR1 : (R == 0) = false := beq_eq_false_iff_ne.2 hR
                have HE := hide (unhide HNo (fun h => h.2.2.2.2.2.elim (fun h => by cases h) (fun h => hR h)))
                clear HNo HYes
                go_enter Tryd.func83, Tryd.ntmps83
                go_wp2_with fail
                refine (unhide HN1 _).mono ?_; rintro e w1 ⟨rfl, rfl⟩
                go_wp2_with fail
                refine (unhide HN2 _).mono ?_; rintro e w1 ⟨rfl, rfl⟩
                go_wp2_with fail
                refine (unhide HU _).mono ?_; rintro e w3 ⟨rfl, hb3⟩
                obtain ⟨hc, hf⟩ := bcell hb3
                have hs : w.heap.size + 2 ≤ w3.heap.size := (by have := hb3.size; simpa using this)
                have hB := bT (by (repeat (first | exact Below.refl _ _ | refine bA ?_ _ | refine Below.setCell ?_ (by simp <;> omega) _)) : Below w.heap.size w _) hb3
                clear hb3
                go_wp2
                go_ret
                exact ⟨congrArg (fun z => Ending.returned (.bool z)) (unhide HE).symm, hB⟩
            · have HE := hide (unhide HYes ⟨by first | rfl | trivial, by first | rfl | trivial, Or.inl (by first | rfl | trivial), Or.inl (by first | rfl | trivial), Or.inl (by first | rfl | trivial), Or.inl (by first | rfl | trivial)⟩)
              clear HNo HYes
              go_enter Tryd.func83, Tryd.ntmps83
              go_wp2_with fail
              refine (unhide HN1 _).mono ?_; rintro e w1 ⟨rfl, rfl⟩
              go_wp2_with fail
              refine (unhide HN2 _).mono ?_; rintro e w1 ⟨rfl, rfl⟩
              go_wp2_with fail
              refine (unhide HU _).mono ?_; rintro e w3 ⟨rfl, hb3⟩
              obtain ⟨hc, hf⟩ := bcell hb3
              have hs : w.heap.size + 2 ≤ w3.heap.size := (by have := hb3.size; simpa using this)
              have hB := bT (by (repeat (first | exact Below.refl _ _ | refine bA ?_ _ | refine Below.setCell ?_ (by simp <;> omega) _)) : Below w.heap.size w _) hb3
              clear hb3
              go_wp2
              go_ret
              exact ⟨congrArg (fun z => Ending.returned (.bool z)) (unhide HE).symm, hB⟩
end Go.Proofs.YtkdeilhkobcglaaDoor
/-
  THE EXPRESSIONS OF A NODE that fits: impl.fields.exsOk.
-/
namespace Go.Proofs.YtkdeilhkobcglaaDoor
open Go Go.RowKit

def ExsH (u : Bool) (z : Int) (Ex : List O2) (Exs : List (List O2)) : Prop := if u = true then exOk z Ex = true else ∀ xs ∈ Exs, exOk z xs = true

set_option maxRecDepth 100000 in
set_option maxHeartbeats 4000000 in
theorem fExs_calls (b0 b1 b2 b3 b4 b5 b6 b7 : Bool) (K T M L R z : Int) (Ex : List O2) (Exs : List (List O2)) (b3' b4' : Nat) (w : World) (hb3 : b3' < w.heap.size) (hx : OpsAt w b3' 0 Ex) (hb4 : b4' < w.heap.size) (hxs : OpssAt w b4' Exs) (l1 : Ex.length ≤ 1048576) (l2 : Exs.length ≤ 1048576) (l3 : ∀ xs ∈ Exs, xs.length ≤ 1048576) (hTT : TTakes w) :
    Calls Tryd.prog 85 #[.agg #[.bool b0, .bool b1, .bool b2, .bool b3, .bool b4, .bool b5, .bool b6, .bool b7], .agg #[.int .i64 K, .int .i64 T, .int .i64 M, .slice (some ⟨b3', 0, none⟩) Ex.length Ex.length, .slice (some ⟨b4', 0, none⟩) Exs.length Exs.length, .int .i64 L, .int .i64 R], .int .i64 z] w
      fun e w' => e = .returned (.bool (dB (ExsH (b2 && (M != 1)) z Ex Exs))) ∧ Below w.heap.size w w' := by
  have HU := hide (fun W => fUses_calls b0 b1 b2 b3 b4 b5 b6 b7 M W)
  have HEx := hide (fun W (hb : Below w.heap.size w W) => ExOk_calls Ex b3' 0 Ex.length z W (hTT.of hb) (Nat.lt_of_lt_of_le hb3 hb.size) (hx.of hb3 hb) l1)
  generalize (b2 && (M != 1)) = u at *
  cases u
  · have HE : Hid (dB (ExsH false z Ex Exs) = true ↔ ∀ xs ∈ Exs, exOk z xs = true) := by
      show _ ↔ _
      rw [dB_iff]
      unfold ExsH
      simp
    have HXs := hide (fun W (hb : Below w.heap.size w W) => hxs.of hb4 hb)
    have HTT := hide hTT; have HL3 := hide l3
    clear hb3 hx hxs hTT HEx l1 l3
    generalize dB (ExsH false z Ex Exs) = E at *
    go_enter Tryd.func85, Tryd.ntmps85
    go_wp2_with fail
    refine (unhide HU _).mono ?_; rintro e w1 ⟨rfl, hb1⟩
    have d1 := bT (bA (bA (Below.refl w.heap.size w) _) _) hb1
    have s1 : w.heap.size + 2 ≤ w1.heap.size := by have := hb1.size; simpa using this
    have n4 : w1.cell? ⟨w.heap.size + 1, 4, none⟩ = some (.slice (some ⟨b4', 0, none⟩) Exs.length Exs.length) := (hb1.cell (p := ⟨w.heap.size + 1, 4, none⟩) (by simp)).trans (by simp [go_sem])
    have s2 : w.heap.size + 1 < w1.heap.size := by omega
    clear hb1 HU s1
    go_wp2
    go_loopw [20] (fun c wr => ∃ j : Nat, j ≤ Exs.length ∧ c = .int .i64 j ∧ (∀ xs ∈ Exs.take j, exOk z xs = true) ∧ Below w.heap.size w wr) (fun c _ => Exs.length - (intOf c).toNat)
    case atStart => exact ⟨0, Nat.zero_le _, rfl, fun x hx => by simp at hx, d1⟩
    case round =>
      clear n4 s2 d1
      obtain ⟨j, hj, rfl, hjw, hb⟩ := hrel
      have HJ := hide hjw
      clear hjw
      by_cases hjl : j < Exs.length
      · obtain ⟨bx, cx, hbx, hbx2, hox⟩ := unhide HXs wr hb j Exs[j] (List.getElem?_eq_getElem hjl)
        have j2 : (j : Int) < (Exs.length : Int) := by omega
        have hb4w : b4' < wr.heap.size := Nat.lt_of_lt_of_le hb4 hb.size
        have HX := hide (ExOk_calls Exs[j] bx 0 (Exs[j]).length z wr ((unhide HTT).of hb) hbx2 hox (unhide HL3 _ (List.getElem_mem hjl)))
        have hnext : exOk z Exs[j] = true → ∀ xs ∈ Exs.take (j + 1), exOk z xs = true := fun h x hx => by
          rw [take_snocN Exs j hjl] at hx
          rcases List.mem_append.1 hx with h' | h'
          · exact unhide HJ x h'
          · simp only [List.mem_singleton] at h'; rw [h']; exact h
        have hno : exOk z Exs[j] = false → E = false := fun h => Bool.eq_false_iff.2 (fun h' => by
          have := HE.out.1 h' _ (List.getElem_mem hjl)
          rw [h] at this
          cases this)
        generalize exOk z Exs[j] = bE at *
        generalize (Exs[j]).length = xl at *
        clear hox hbx hbx2 HXs HTT HL3
        cases bE
        · have HE2 := hide (hno rfl)
          clear hno hnext HE HJ
          go_wp2_with fail
          refine (unhide HX).mono ?_; rintro e w2 ⟨rfl, hb2⟩
          have HB2 := hide (bT hb hb2)
          clear hb2
          go_wp2
          go_ret
          exact ⟨congrArg (fun z => Ending.returned (.bool z)) (unhide HE2).symm, unhide HB2⟩
        · have HNx := hide (hnext rfl)
          clear hno hnext HE HJ
          go_wp2_with fail
          refine (unhide HX).mono ?_; rintro e w2 ⟨rfl, hb2⟩
          have HB2 := hide (bT hb hb2)
          clear hb2
          go_wp2
          go_roundw
          case rel => exact ⟨j + 1, by omega, by go_num, unhide HNx, unhide HB2⟩
          case measure => simp [intOf]; omega
      · obtain rfl : j = Exs.length := by omega
        have hall := unhide HJ
        rw [List.take_length] at hall
        have HE2 := hide (HE.out.2 hall)
        clear hall HE HJ
        go_wp2
        go_ret
        exact ⟨congrArg (fun z => Ending.returned (.bool z)) (unhide HE2).symm, hb⟩
  · have HE : Hid (dB (ExsH true z Ex Exs) = exOk z Ex) := by
      show _ = _
      rw [Bool.eq_iff_iff, dB_iff]
      unfold ExsH
      simp
    clear hb3 hx hb4 hxs hTT l3
    generalize dB (ExsH true z Ex Exs) = E at *
    go_enter Tryd.func85, Tryd.ntmps85
    go_wp2_with fail
    refine (unhide HU _).mono ?_; rintro e w1 ⟨rfl, hb1⟩
    have d1 := bT (bA (bA (Below.refl w.heap.size w) _) _) hb1
    have s1 : w.heap.size + 2 ≤ w1.heap.size := by have := hb1.size; simpa using this
    have n3 : w1.cell? ⟨w.heap.size + 1, 3, none⟩ = some (.slice (some ⟨b3', 0, none⟩) Ex.length Ex.length) := (hb1.cell (p := ⟨w.heap.size + 1, 3, none⟩) (by simp)).trans (by simp [go_sem])
    have s2 : w.heap.size + 1 < w1.heap.size := by omega
    clear hb1 HU s1
    go_wp2_with fail
    refine (unhide HEx _ d1).mono ?_; rintro e w2 ⟨rfl, hb2⟩
    have HB2 := hide (bT d1 hb2)
    clear hb2 d1
    go_wp2
    go_ret
    exact ⟨congrArg (fun z => Ending.returned (.bool z)) HE.out.symm, unhide HB2⟩
end Go.Proofs.YtkdeilhkobcglaaDoor
