import Derived.Test.YtbbjhepagkkjeaaGreatDoorQ24
namespace Go.Proofs.YtbbjhepagkkjeaaGreatDoor
open Go Go.RowKit
def FitH (b0 b1 b2 b3 b4 b5 : Bool) (nt : Nat) (T M : Int) (le ls : Nat) (L R : Int) : Prop :=
  nOk b0 T 0 ((nt : Int) - 1) = true ∧ nOk b1 M 1 4 = true ∧ ((b2 && (M != 1)) = true ∨ le = 0) ∧ (b3 = true ∨ ls = 0) ∧ (b4 = true ∨ L = 0) ∧ (b5 = true ∨ R = 0)
set_option maxHeartbeats 8000000 in
theorem fit_calls (b0 b1 b2 b3 b4 b5 b6 b7 : Bool) (nt : Nat) (K T M L R : Int) (le ls : Nat) (a3 a4 : Option Addr) (c3 c4 : Nat) (w : World) (hnt : nt ≤ 1048576) (l2 : le ≤ 1048576) (l3 : ls ≤ 1048576) :
    Calls Tryz.prog 89 #[.agg #[.bool b0, .bool b1, .bool b2, .bool b3, .bool b4, .bool b5, .bool b6, .bool b7], .agg #[.int .i64 K, .int .i64 T, .int .i64 M, .slice a3 le c3, .slice a4 ls c4, .int .i64 L, .int .i64 R], .int .i64 (nt : Int)] w fun e w' => e = .returned (.bool (dB (FitH b0 b1 b2 b3 b4 b5 nt T M le ls L R))) ∧ Below w.heap.size w w' := by
  have hiff : dB (FitH b0 b1 b2 b3 b4 b5 nt T M le ls L R) = true ↔ (nOk b0 T 0 ((nt : Int) - 1) = true ∧ nOk b1 M 1 4 = true ∧ ((b2 && (M != 1)) = true ∨ le = 0) ∧ (b3 = true ∨ ls = 0) ∧ (b4 = true ∨ L = 0) ∧ (b5 = true ∨ R = 0)) := dB_iff
  have HU := hide (fun W => fUses_calls b0 b1 b2 b3 b4 b5 b6 b7 M W)
  have HN1 := hide (fun W => numberOk_calls b0 T 0 ((nt : Int) - 1) W)
  have HN2 := hide (fun W => numberOk_calls b1 M 1 4 W)
  have HIff := hide hiff
  clear hiff
  generalize nOk b0 T 0 ((nt : Int) - 1) = n1 at *
  generalize nOk b1 M 1 4 = n2 at *
  generalize (b2 && (M != 1)) = u at *
  generalize dB (FitH b0 b1 b2 b3 b4 b5 nt T M le ls L R) = E at *
  have HNo : Hid (¬ (n1 = true ∧ n2 = true ∧ (u = true ∨ le = 0) ∧ (b3 = true ∨ ls = 0) ∧ (b4 = true ∨ L = 0) ∧ (b5 = true ∨ R = 0)) → E = false) := fun h => Bool.eq_false_iff.2 (fun h' => h ((unhide HIff).1 h'))
  have HYes : Hid ((n1 = true ∧ n2 = true ∧ (u = true ∨ le = 0) ∧ (b3 = true ∨ ls = 0) ∧ (b4 = true ∨ L = 0) ∧ (b5 = true ∨ R = 0)) → E = true) := fun h => (unhide HIff).2 h
  clear HIff
  cases n1
  · have HE := hide (unhide HNo (fun h => by have := h.1; cases this))
    clear HNo HYes
    go_enter Tryz.func89, Tryz.ntmps89
    go_wp2_with fail
    refine (unhide HN1 _).mono ?_; rintro e w1 ⟨rfl, rfl⟩
    go_wp2
    go_ret
    exact ⟨congrArg (fun z => Ending.returned (.bool z)) (unhide HE).symm, (by (repeat (first | exact Below.refl _ _ | refine bA ?_ _ | refine Below.setCell ?_ (by simp <;> omega) _)))⟩
  · cases n2
    · have HE := hide (unhide HNo (fun h => by have := h.2.1; cases this))
      clear HNo HYes
      go_enter Tryz.func89, Tryz.ntmps89
      go_wp2_with fail
      refine (unhide HN1 _).mono ?_; rintro e w1 ⟨rfl, rfl⟩
      go_wp2_with fail
      refine (unhide HN2 _).mono ?_; rintro e w1 ⟨rfl, rfl⟩
      go_wp2
      go_ret
      exact ⟨congrArg (fun z => Ending.returned (.bool z)) (unhide HE).symm, (by (repeat (first | exact Below.refl _ _ | refine bA ?_ _ | refine Below.setCell ?_ (by simp <;> omega) _)))⟩
    · cases u
      · rcases Nat.eq_zero_or_pos le with rfl | hp
        · cases b3
          · rcases Nat.eq_zero_or_pos ls with rfl | hp
            · cases b4
              · by_cases hL : L = 0
                · subst hL
                  cases b5
                  · by_cases hR : R = 0
                    · subst hR
                      have HE := hide (unhide HYes ⟨by first | rfl | trivial, by first | rfl | trivial, Or.inr rfl, Or.inr rfl, Or.inr rfl, Or.inr rfl⟩)
                      clear HNo HYes
                      go_enter Tryz.func89, Tryz.ntmps89
                      go_wp2_with fail
                      refine (unhide HN1 _).mono ?_; rintro e w1 ⟨rfl, rfl⟩
                      go_wp2_with fail
                      refine (unhide HN2 _).mono ?_; rintro e w1 ⟨rfl, rfl⟩
                      go_wp2_with fail
                      refine (unhide HU _).mono ?_; rintro e w3 ⟨rfl, hb3⟩
                      obtain ⟨hc, hf⟩ := bcell hb3
                      have hs : w.heap.size + 2 ≤ w3.heap.size := (by have := hb3.size; simpa using this)
                      have hB := bT (by (repeat (first | exact Below.refl _ _ | refine bA ?_ _ | refine Below.setCell ?_ (by simp <;> omega) _)) : Below w.heap.size w _) hb3
                      clear hb3
                      go_wp2
                      go_ret
                      exact ⟨congrArg (fun z => Ending.returned (.bool z)) (unhide HE).symm, hB⟩
                    · have hR1 : (R == 0) = false := beq_eq_false_iff_ne.2 hR
                      have HE := hide (unhide HNo (fun h => h.2.2.2.2.2.elim (fun h => by cases h) (fun h => hR h)))
                      clear HNo HYes
                      go_enter Tryz.func89, Tryz.ntmps89
                      go_wp2_with fail
                      refine (unhide HN1 _).mono ?_; rintro e w1 ⟨rfl, rfl⟩
                      go_wp2_with fail
                      refine (unhide HN2 _).mono ?_; rintro e w1 ⟨rfl, rfl⟩
                      go_wp2_with fail
                      refine (unhide HU _).mono ?_; rintro e w3 ⟨rfl, hb3⟩
                      obtain ⟨hc, hf⟩ := bcell hb3
                      have hs : w.heap.size + 2 ≤ w3.heap.size := (by have := hb3.size; simpa using this)
                      have hB := bT (by (repeat (first | exact Below.refl _ _ | refine bA ?_ _ | refine Below.setCell ?_ (by simp <;> omega) _)) : Below w.heap.size w _) hb3
                      clear hb3
                      go_wp2
                      go_ret
                      exact ⟨congrArg (fun z => Ending.returned (.bool z)) (unhide HE).symm, hB⟩
                  · have HE := hide (unhide HYes ⟨by first | rfl | trivial, by first | rfl | trivial, Or.inr rfl, Or.inr rfl, Or.inr rfl, Or.inl (by first | rfl | trivial)⟩)
                    clear HNo HYes
                    go_enter Tryz.func89, Tryz.ntmps89
                    go_wp2_with fail
                    refine (unhide HN1 _).mono ?_; rintro e w1 ⟨rfl, rfl⟩
                    go_wp2_with fail
                    refine (unhide HN2 _).mono ?_; rintro e w1 ⟨rfl, rfl⟩
                    go_wp2_with fail
                    refine (unhide HU _).mono ?_; rintro e w3 ⟨rfl, hb3⟩
                    obtain ⟨hc, hf⟩ := bcell hb3
                    have hs : w.heap.size + 2 ≤ w3.heap.size := (by have := hb3.size; simpa using this)
                    have hB := bT (by (repeat (first | exact Below.refl _ _ | refine bA ?_ _ | refine Below.setCell ?_ (by simp <;> omega) _)) : Below w.heap.size w _) hb3
                    clear hb3
                    go_wp2
                    go_ret
                    exact ⟨congrArg (fun z => Ending.returned (.bool z)) (unhide HE).symm, hB⟩
                · have hL1 : (L == 0) = false := beq_eq_false_iff_ne.2 hL
                  have HE := hide (unhide HNo (fun h => h.2.2.2.2.1.elim (fun h => by cases h) (fun h => hL h)))
                  clear HNo HYes
                  go_enter Tryz.func89, Tryz.ntmps89
                  go_wp2_with fail
                  refine (unhide HN1 _).mono ?_; rintro e w1 ⟨rfl, rfl⟩
                  go_wp2_with fail
                  refine (unhide HN2 _).mono ?_; rintro e w1 ⟨rfl, rfl⟩
                  go_wp2_with fail
                  refine (unhide HU _).mono ?_; rintro e w3 ⟨rfl, hb3⟩
                  obtain ⟨hc, hf⟩ := bcell hb3
                  have hs : w.heap.size + 2 ≤ w3.heap.size := (by have := hb3.size; simpa using this)
                  have hB := bT (by (repeat (first | exact Below.refl _ _ | refine bA ?_ _ | refine Below.setCell ?_ (by simp <;> omega) _)) : Below w.heap.size w _) hb3
                  clear hb3
                  go_wp2
                  go_ret
                  exact ⟨congrArg (fun z => Ending.returned (.bool z)) (unhide HE).symm, hB⟩
              · cases b5
                · by_cases hR : R = 0
                  · subst hR
                    have HE := hide (unhide HYes ⟨by first | rfl | trivial, by first | rfl | trivial, Or.inr rfl, Or.inr rfl, Or.inl (by first | rfl | trivial), Or.inr rfl⟩)
                    clear HNo HYes
                    go_enter Tryz.func89, Tryz.ntmps89
                    go_wp2_with fail
                    refine (unhide HN1 _).mono ?_; rintro e w1 ⟨rfl, rfl⟩
                    go_wp2_with fail
                    refine (unhide HN2 _).mono ?_; rintro e w1 ⟨rfl, rfl⟩
                    go_wp2_with fail
                    refine (unhide HU _).mono ?_; rintro e w3 ⟨rfl, hb3⟩
                    obtain ⟨hc, hf⟩ := bcell hb3
                    have hs : w.heap.size + 2 ≤ w3.heap.size := (by have := hb3.size; simpa using this)
                    have hB := bT (by (repeat (first | exact Below.refl _ _ | refine bA ?_ _ | refine Below.setCell ?_ (by simp <;> omega) _)) : Below w.heap.size w _) hb3
                    clear hb3
                    go_wp2
                    go_ret
                    exact ⟨congrArg (fun z => Ending.returned (.bool z)) (unhide HE).symm, hB⟩
                  · have hR1 : (R == 0) = false := beq_eq_false_iff_ne.2 hR
                    have HE := hide (unhide HNo (fun h => h.2.2.2.2.2.elim (fun h => by cases h) (fun h => hR h)))
                    clear HNo HYes
                    go_enter Tryz.func89, Tryz.ntmps89
                    go_wp2_with fail
                    refine (unhide HN1 _).mono ?_; rintro e w1 ⟨rfl, rfl⟩
                    go_wp2_with fail
                    refine (unhide HN2 _).mono ?_; rintro e w1 ⟨rfl, rfl⟩
                    go_wp2_with fail
                    refine (unhide HU _).mono ?_; rintro e w3 ⟨rfl, hb3⟩
                    obtain ⟨hc, hf⟩ := bcell hb3
                    have hs : w.heap.size + 2 ≤ w3.heap.size := (by have := hb3.size; simpa using this)
                    have hB := bT (by (repeat (first | exact Below.refl _ _ | refine bA ?_ _ | refine Below.setCell ?_ (by simp <;> omega) _)) : Below w.heap.size w _) hb3
                    clear hb3
                    go_wp2
                    go_ret
                    exact ⟨congrArg (fun z => Ending.returned (.bool z)) (unhide HE).symm, hB⟩
                · have HE := hide (unhide HYes ⟨by first | rfl | trivial, by first | rfl | trivial, Or.inr rfl, Or.inr rfl, Or.inl (by first | rfl | trivial), Or.inl (by first | rfl | trivial)⟩)
                  clear HNo HYes
                  go_enter Tryz.func89, Tryz.ntmps89
                  go_wp2_with fail
                  refine (unhide HN1 _).mono ?_; rintro e w1 ⟨rfl, rfl⟩
                  go_wp2_with fail
                  refine (unhide HN2 _).mono ?_; rintro e w1 ⟨rfl, rfl⟩
                  go_wp2_with fail
                  refine (unhide HU _).mono ?_; rintro e w3 ⟨rfl, hb3⟩
                  obtain ⟨hc, hf⟩ := bcell hb3
                  have hs : w.heap.size + 2 ≤ w3.heap.size := (by have := hb3.size; simpa using this)
                  have hB := bT (by (repeat (first | exact Below.refl _ _ | refine bA ?_ _ | refine Below.setCell ?_ (by simp <;> omega) _)) : Below w.heap.size w _) hb3
                  clear hb3
                  go_wp2
                  go_ret
                  exact ⟨congrArg (fun z => Ending.returned (.bool z)) (unhide HE).symm, hB⟩
            · have hx1 : ((ls : Int) == 0) = false := beq_eq_false_iff_ne.2 (by omega)
              have hx2 : (ls == 0) = false := beq_eq_false_iff_ne.2 (by omega)
              have hx3 : ¬ (ls : Int) = 0 := by omega
              have hx4 : ¬ ls = 0 := by omega
              have HE := hide (unhide HNo (fun h => h.2.2.2.1.elim (fun h => by cases h) (fun h => by omega)))
              clear HNo HYes
              go_enter Tryz.func89, Tryz.ntmps89
              go_wp2_with fail
              refine (unhide HN1 _).mono ?_; rintro e w1 ⟨rfl, rfl⟩
              go_wp2_with fail
              refine (unhide HN2 _).mono ?_; rintro e w1 ⟨rfl, rfl⟩
              go_wp2_with fail
              refine (unhide HU _).mono ?_; rintro e w3 ⟨rfl, hb3⟩
              obtain ⟨hc, hf⟩ := bcell hb3
              have hs : w.heap.size + 2 ≤ w3.heap.size := (by have := hb3.size; simpa using this)
              have hB := bT (by (repeat (first | exact Below.refl _ _ | refine bA ?_ _ | refine Below.setCell ?_ (by simp <;> omega) _)) : Below w.heap.size w _) hb3
              clear hb3
              go_wp2
              go_ret
              exact ⟨congrArg (fun z => Ending.returned (.bool z)) (unhide HE).symm, hB⟩
          · cases b4
            · by_cases hL : L = 0
              · subst hL
                cases b5
                · by_cases hR : R = 0
                  · subst hR
                    have HE := hide (unhide HYes ⟨by first | rfl | trivial, by first | rfl | trivial, Or.inr rfl, Or.inl (by first | rfl | trivial), Or.inr rfl, Or.inr rfl⟩)
                    clear HNo HYes
                    go_enter Tryz.func89, Tryz.ntmps89
                    go_wp2_with fail
                    refine (unhide HN1 _).mono ?_; rintro e w1 ⟨rfl, rfl⟩
                    go_wp2_with fail
                    refine (unhide HN2 _).mono ?_; rintro e w1 ⟨rfl, rfl⟩
                    go_wp2_with fail
                    refine (unhide HU _).mono ?_; rintro e w3 ⟨rfl, hb3⟩
                    obtain ⟨hc, hf⟩ := bcell hb3
                    have hs : w.heap.size + 2 ≤ w3.heap.size := (by have := hb3.size; simpa using this)
                    have hB := bT (by (repeat (first | exact Below.refl _ _ | refine bA ?_ _ | refine Below.setCell ?_ (by simp <;> omega) _)) : Below w.heap.size w _) hb3
                    clear hb3
                    go_wp2
                    go_ret
                    exact ⟨congrArg (fun z => Ending.returned (.bool z)) (unhide HE).symm, hB⟩
                  · have hR1 : (R == 0) = false := beq_eq_false_iff_ne.2 hR
                    have HE := hide (unhide HNo (fun h => h.2.2.2.2.2.elim (fun h => by cases h) (fun h => hR h)))
                    clear HNo HYes
                    go_enter Tryz.func89, Tryz.ntmps89
                    go_wp2_with fail
                    refine (unhide HN1 _).mono ?_; rintro e w1 ⟨rfl, rfl⟩
                    go_wp2_with fail
                    refine (unhide HN2 _).mono ?_; rintro e w1 ⟨rfl, rfl⟩
                    go_wp2_with fail
                    refine (unhide HU _).mono ?_; rintro e w3 ⟨rfl, hb3⟩
                    obtain ⟨hc, hf⟩ := bcell hb3
                    have hs : w.heap.size + 2 ≤ w3.heap.size := (by have := hb3.size; simpa using this)
                    have hB := bT (by (repeat (first | exact Below.refl _ _ | refine bA ?_ _ | refine Below.setCell ?_ (by simp <;> omega) _)) : Below w.heap.size w _) hb3
                    clear hb3
                    go_wp2
                    go_ret
                    exact ⟨congrArg (fun z => Ending.returned (.bool z)) (unhide HE).symm, hB⟩
                · have HE := hide (unhide HYes ⟨by first | rfl | trivial, by first | rfl | trivial, Or.inr rfl, Or.inl (by first | rfl | trivial), Or.inr rfl, Or.inl (by first | rfl | trivial)⟩)
                  clear HNo HYes
                  go_enter Tryz.func89, Tryz.ntmps89
                  go_wp2_with fail
                  refine (unhide HN1 _).mono ?_; rintro e w1 ⟨rfl, rfl⟩
                  go_wp2_with fail
                  refine (unhide HN2 _).mono ?_; rintro e w1 ⟨rfl, rfl⟩
                  go_wp2_with fail
                  refine (unhide HU _).mono ?_; rintro e w3 ⟨rfl, hb3⟩
                  obtain ⟨hc, hf⟩ := bcell hb3
                  have hs : w.heap.size + 2 ≤ w3.heap.size := (by have := hb3.size; simpa using this)
                  have hB := bT (by (repeat (first | exact Below.refl _ _ | refine bA ?_ _ | refine Below.setCell ?_ (by simp <;> omega) _)) : Below w.heap.size w _) hb3
                  clear hb3
                  go_wp2
                  go_ret
                  exact ⟨congrArg (fun z => Ending.returned (.bool z)) (unhide HE).symm, hB⟩
              · have hL1 : (L == 0) = false := beq_eq_false_iff_ne.2 hL
                have HE := hide (unhide HNo (fun h => h.2.2.2.2.1.elim (fun h => by cases h) (fun h => hL h)))
                clear HNo HYes
                go_enter Tryz.func89, Tryz.ntmps89
                go_wp2_with fail
                refine (unhide HN1 _).mono ?_; rintro e w1 ⟨rfl, rfl⟩
                go_wp2_with fail
                refine (unhide HN2 _).mono ?_; rintro e w1 ⟨rfl, rfl⟩
                go_wp2_with fail
                refine (unhide HU _).mono ?_; rintro e w3 ⟨rfl, hb3⟩
                obtain ⟨hc, hf⟩ := bcell hb3
                have hs : w.heap.size + 2 ≤ w3.heap.size := (by have := hb3.size; simpa using this)
                have hB := bT (by (repeat (first | exact Below.refl _ _ | refine bA ?_ _ | refine Below.setCell ?_ (by simp <;> omega) _)) : Below w.heap.size w _) hb3
                clear hb3
                go_wp2
                go_ret
                exact ⟨congrArg (fun z => Ending.returned (.bool z)) (unhide HE).symm, hB⟩
            · cases b5
              · by_cases hR : R = 0
                · subst hR
                  have HE := hide (unhide HYes ⟨by first | rfl | trivial, by first | rfl | trivial, Or.inr rfl, Or.inl (by first | rfl | trivial), Or.inl (by first | rfl | trivial), Or.inr rfl⟩)
                  clear HNo HYes
                  go_enter Tryz.func89, Tryz.ntmps89
                  go_wp2_with fail
                  refine (unhide HN1 _).mono ?_; rintro e w1 ⟨rfl, rfl⟩
                  go_wp2_with fail
                  refine (unhide HN2 _).mono ?_; rintro e w1 ⟨rfl, rfl⟩
                  go_wp2_with fail
                  refine (unhide HU _).mono ?_; rintro e w3 ⟨rfl, hb3⟩
                  obtain ⟨hc, hf⟩ := bcell hb3
                  have hs : w.heap.size + 2 ≤ w3.heap.size := (by have := hb3.size; simpa using this)
                  have hB := bT (by (repeat (first | exact Below.refl _ _ | refine bA ?_ _ | refine Below.setCell ?_ (by simp <;> omega) _)) : Below w.heap.size w _) hb3
                  clear hb3
                  go_wp2
                  go_ret
                  exact ⟨congrArg (fun z => Ending.returned (.bool z)) (unhide HE).symm, hB⟩
                · have hR1 : (R == 0) = false := beq_eq_false_iff_ne.2 hR
                  have HE := hide (unhide HNo (fun h => h.2.2.2.2.2.elim (fun h => by cases h) (fun h => hR h)))
                  clear HNo HYes
                  go_enter Tryz.func89, Tryz.ntmps89
                  go_wp2_with fail
                  refine (unhide HN1 _).mono ?_; rintro e w1 ⟨rfl, rfl⟩
                  go_wp2_with fail
                  refine (unhide HN2 _).mono ?_; rintro e w1 ⟨rfl, rfl⟩
                  go_wp2_with fail
                  refine (unhide HU _).mono ?_; rintro e w3 ⟨rfl, hb3⟩
                  obtain ⟨hc, hf⟩ := bcell hb3
                  have hs : w.heap.size + 2 ≤ w3.heap.size := (by have := hb3.size; simpa using this)
                  have hB := bT (by (repeat (first | exact Below.refl _ _ | refine bA ?_ _ | refine Below.setCell ?_ (by simp <;> omega) _)) : Below w.heap.size w _) hb3
                  clear hb3
                  go_wp2
                  go_ret
                  exact ⟨congrArg (fun z => Ending.returned (.bool z)) (unhide HE).symm, hB⟩
              · have HE := hide (unhide HYes ⟨by first | rfl | trivial, by first | rfl | trivial, Or.inr rfl, Or.inl (by first | rfl | trivial), Or.inl (by first | rfl | trivial), Or.inl (by first | rfl | trivial)⟩)
                clear HNo HYes
                go_enter Tryz.func89, Tryz.ntmps89
                go_wp2_with fail
                refine (unhide HN1 _).mono ?_; rintro e w1 ⟨rfl, rfl⟩
                go_wp2_with fail
                refine (unhide HN2 _).mono ?_; rintro e w1 ⟨rfl, rfl⟩
                go_wp2_with fail
                refine (unhide HU _).mono ?_; rintro e w3 ⟨rfl, hb3⟩
                obtain ⟨hc, hf⟩ := bcell hb3
                have hs : w.heap.size + 2 ≤ w3.heap.size := (by have := hb3.size; simpa using this)
                have hB := bT (by (repeat (first | exact Below.refl _ _ | refine bA ?_ _ | refine Below.setCell ?_ (by simp <;> omega) _)) : Below w.heap.size w _) hb3
                clear hb3
                go_wp2
                go_ret
                exact ⟨congrArg (fun z => Ending.returned (.bool z)) (unhide HE).symm, hB⟩
        · have hx1 : ((le : Int) == 0) = false := beq_eq_false_iff_ne.2 (by omega)
          have hx2 : (le == 0) = false := beq_eq_false_iff_ne.2 (by omega)
          have hx3 : ¬ (le : Int) = 0 := by omega
          have hx4 : ¬ le = 0 := by omega
          have HE := hide (unhide HNo (fun h => h.2.2.1.elim (fun h => by cases h) (fun h => by omega)))
          clear HNo HYes
          go_enter Tryz.func89, Tryz.ntmps89
          go_wp2_with fail
          refine (unhide HN1 _).mono ?_; rintro e w1 ⟨rfl, rfl⟩
          go_wp2_with fail
          refine (unhide HN2 _).mono ?_; rintro e w1 ⟨rfl, rfl⟩
          go_wp2_with fail
          refine (unhide HU _).mono ?_; rintro e w3 ⟨rfl, hb3⟩
          obtain ⟨hc, hf⟩ := bcell hb3
          have hs : w.heap.size + 2 ≤ w3.heap.size := (by have := hb3.size; simpa using this)
          have hB := bT (by (repeat (first | exact Below.refl _ _ | refine bA ?_ _ | refine Below.setCell ?_ (by simp <;> omega) _)) : Below w.heap.size w _) hb3
          clear hb3
          go_wp2
          go_ret
          exact ⟨congrArg (fun z => Ending.returned (.bool z)) (unhide HE).symm, hB⟩
      · cases b3
        · rcases Nat.eq_zero_or_pos ls with rfl | hp
          · cases b4
            · by_cases hL : L = 0
              · subst hL
                cases b5
                · by_cases hR : R = 0
                  · subst hR
                    have HE := hide (unhide HYes ⟨by first | rfl | trivial, by first | rfl | trivial, Or.inl (by first | rfl | trivial), Or.inr rfl, Or.inr rfl, Or.inr rfl⟩)
                    clear HNo HYes
                    go_enter Tryz.func89, Tryz.ntmps89
                    go_wp2_with fail
                    refine (unhide HN1 _).mono ?_; rintro e w1 ⟨rfl, rfl⟩
                    go_wp2_with fail
                    refine (unhide HN2 _).mono ?_; rintro e w1 ⟨rfl, rfl⟩
                    go_wp2_with fail
                    refine (unhide HU _).mono ?_; rintro e w3 ⟨rfl, hb3⟩
                    obtain ⟨hc, hf⟩ := bcell hb3
                    have hs : w.heap.size + 2 ≤ w3.heap.size := (by have := hb3.size; simpa using this)
                    have hB := bT (by (repeat (first | exact Below.refl _ _ | refine bA ?_ _ | refine Below.setCell ?_ (by simp <;> omega) _)) : Below w.heap.size w _) hb3
                    clear hb3
                    go_wp2
                    go_ret
                    exact ⟨congrArg (fun z => Ending.returned (.bool z)) (unhide HE).symm, hB⟩
                  · have hR1 : (R == 0) = false := beq_eq_false_iff_ne.2 hR
                    have HE := hide (unhide HNo (fun h => h.2.2.2.2.2.elim (fun h => by cases h) (fun h => hR h)))
                    clear HNo HYes
                    go_enter Tryz.func89, Tryz.ntmps89
                    go_wp2_with fail
                    refine (unhide HN1 _).mono ?_; rintro e w1 ⟨rfl, rfl⟩
                    go_wp2_with fail
                    refine (unhide HN2 _).mono ?_; rintro e w1 ⟨rfl, rfl⟩
                    go_wp2_with fail
                    refine (unhide HU _).mono ?_; rintro e w3 ⟨rfl, hb3⟩
                    obtain ⟨hc, hf⟩ := bcell hb3
                    have hs : w.heap.size + 2 ≤ w3.heap.size := (by have := hb3.size; simpa using this)
                    have hB := bT (by (repeat (first | exact Below.refl _ _ | refine bA ?_ _ | refine Below.setCell ?_ (by simp <;> omega) _)) : Below w.heap.size w _) hb3
                    clear hb3
                    go_wp2
                    go_ret
                    exact ⟨congrArg (fun z => Ending.returned (.bool z)) (unhide HE).symm, hB⟩
                · have HE := hide (unhide HYes ⟨by first | rfl | trivial, by first | rfl | trivial, Or.inl (by first | rfl | trivial), Or.inr rfl, Or.inr rfl, Or.inl (by first | rfl | trivial)⟩)
                  clear HNo HYes
                  go_enter Tryz.func89, Tryz.ntmps89
                  go_wp2_with fail
                  refine (unhide HN1 _).mono ?_; rintro e w1 ⟨rfl, rfl⟩
                  go_wp2_with fail
                  refine (unhide HN2 _).mono ?_; rintro e w1 ⟨rfl, rfl⟩
                  go_wp2_with fail
                  refine (unhide HU _).mono ?_; rintro e w3 ⟨rfl, hb3⟩
                  obtain ⟨hc, hf⟩ := bcell hb3
                  have hs : w.heap.size + 2 ≤ w3.heap.size := (by have := hb3.size; simpa using this)
                  have hB := bT (by (repeat (first | exact Below.refl _ _ | refine bA ?_ _ | refine Below.setCell ?_ (by simp <;> omega) _)) : Below w.heap.size w _) hb3
                  clear hb3
                  go_wp2
                  go_ret
                  exact ⟨congrArg (fun z => Ending.returned (.bool z)) (unhide HE).symm, hB⟩
              · have hL1 : (L == 0) = false := beq_eq_false_iff_ne.2 hL
                have HE := hide (unhide HNo (fun h => h.2.2.2.2.1.elim (fun h => by cases h) (fun h => hL h)))
                clear HNo HYes
                go_enter Tryz.func89, Tryz.ntmps89
                go_wp2_with fail
                refine (unhide HN1 _).mono ?_; rintro e w1 ⟨rfl, rfl⟩
                go_wp2_with fail
                refine (unhide HN2 _).mono ?_; rintro e w1 ⟨rfl, rfl⟩
                go_wp2_with fail
                refine (unhide HU _).mono ?_; rintro e w3 ⟨rfl, hb3⟩
                obtain ⟨hc, hf⟩ := bcell hb3
                have hs : w.heap.size + 2 ≤ w3.heap.size := (by have := hb3.size; simpa using this)
                have hB := bT (by (repeat (first | exact Below.refl _ _ | refine bA ?_ _ | refine Below.setCell ?_ (by simp <;> omega) _)) : Below w.heap.size w _) hb3
                clear hb3
                go_wp2
                go_ret
                exact ⟨congrArg (fun z => Ending.returned (.bool z)) (unhide HE).symm, hB⟩
            · cases b5
              · by_cases hR : R = 0
                · subst hR
                  have HE := hide (unhide HYes ⟨by first | rfl | trivial, by first | rfl | trivial, Or.inl (by first | rfl | trivial), Or.inr rfl, Or.inl (by first | rfl | trivial), Or.inr rfl⟩)
                  clear HNo HYes
                  go_enter Tryz.func89, Tryz.ntmps89
                  go_wp2_with fail
                  refine (unhide HN1 _).mono ?_; rintro e w1 ⟨rfl, rfl⟩
                  go_wp2_with fail
                  refine (unhide HN2 _).mono ?_; rintro e w1 ⟨rfl, rfl⟩
                  go_wp2_with fail
                  refine (unhide HU _).mono ?_; rintro e w3 ⟨rfl, hb3⟩
                  obtain ⟨hc, hf⟩ := bcell hb3
                  have hs : w.heap.size + 2 ≤ w3.heap.size := (by have := hb3.size; simpa using this)
                  have hB := bT (by (repeat (first | exact Below.refl _ _ | refine bA ?_ _ | refine Below.setCell ?_ (by simp <;> omega) _)) : Below w.heap.size w _) hb3
                  clear hb3
                  go_wp2
                  go_ret
                  exact ⟨congrArg (fun z => Ending.returned (.bool z)) (unhide HE).symm, hB⟩
                · have hR1 : (R == 0) = false := beq_eq_false_iff_ne.2 hR
                  have HE := hide (unhide HNo (fun h => h.2.2.2.2.2.elim (fun h => by cases h) (fun h => hR h)))
                  clear HNo HYes
                  go_enter Tryz.func89, Tryz.ntmps89
                  go_wp2_with fail
                  refine (unhide HN1 _).mono ?_; rintro e w1 ⟨rfl, rfl⟩
                  go_wp2_with fail
                  refine (unhide HN2 _).mono ?_; rintro e w1 ⟨rfl, rfl⟩
                  go_wp2_with fail
                  refine (unhide HU _).mono ?_; rintro e w3 ⟨rfl, hb3⟩
                  obtain ⟨hc, hf⟩ := bcell hb3
                  have hs : w.heap.size + 2 ≤ w3.heap.size := (by have := hb3.size; simpa using this)
                  have hB := bT (by (repeat (first | exact Below.refl _ _ | refine bA ?_ _ | refine Below.setCell ?_ (by simp <;> omega) _)) : Below w.heap.size w _) hb3
                  clear hb3
                  go_wp2
                  go_ret
                  exact ⟨congrArg (fun z => Ending.returned (.bool z)) (unhide HE).symm, hB⟩
              · have HE := hide (unhide HYes ⟨by first | rfl | trivial, by first | rfl | trivial, Or.inl (by first | rfl | trivial), Or.inr rfl, Or.inl (by first | rfl | trivial), Or.inl (by first | rfl | trivial)⟩)
                clear HNo HYes
                go_enter Tryz.func89, Tryz.ntmps89
                go_wp2_with fail
                refine (unhide HN1 _).mono ?_; rintro e w1 ⟨rfl, rfl⟩
                go_wp2_with fail
                refine (unhide HN2 _).mono ?_; rintro e w1 ⟨rfl, rfl⟩
                go_wp2_with fail
                refine (unhide HU _).mono ?_; rintro e w3 ⟨rfl, hb3⟩
                obtain ⟨hc, hf⟩ := bcell hb3
                have hs : w.heap.size + 2 ≤ w3.heap.size := (by have := hb3.size; simpa using this)
                have hB := bT (by (repeat (first | exact Below.refl _ _ | refine bA ?_ _ | refine Below.setCell ?_ (by simp <;> omega) _)) : Below w.heap.size w _) hb3
                clear hb3
                go_wp2
                go_ret
                exact ⟨congrArg (fun z => Ending.returned (.bool z)) (unhide HE).symm, hB⟩
          · have hx1 : ((ls : Int) == 0) = false := beq_eq_false_iff_ne.2 (by omega)
            have hx2 : (ls == 0) = false := beq_eq_false_iff_ne.2 (by omega)
            have hx3 : ¬ (ls : Int) = 0 := by omega
            have hx4 : ¬ ls = 0 := by omega
            have HE := hide (unhide HNo (fun h => h.2.2.2.1.elim (fun h => by cases h) (fun h => by omega)))
            clear HNo HYes
            go_enter Tryz.func89, Tryz.ntmps89
            go_wp2_with fail
            refine (unhide HN1 _).mono ?_; rintro e w1 ⟨rfl, rfl⟩
            go_wp2_with fail
            refine (unhide HN2 _).mono ?_; rintro e w1 ⟨rfl, rfl⟩
            go_wp2_with fail
            refine (unhide HU _).mono ?_; rintro e w3 ⟨rfl, hb3⟩
            obtain ⟨hc, hf⟩ := bcell hb3
            have hs : w.heap.size + 2 ≤ w3.heap.size := (by have := hb3.size; simpa using this)
            have hB := bT (by (repeat (first | exact Below.refl _ _ | refine bA ?_ _ | refine Below.setCell ?_ (by simp <;> omega) _)) : Below w.heap.size w _) hb3
            clear hb3
            go_wp2
            go_ret
            exact ⟨congrArg (fun z => Ending.returned (.bool z)) (unhide HE).symm, hB⟩
        · cases b4
          · by_cases hL : L = 0
            · subst hL
              cases b5
              · by_cases hR : R = 0
                · subst hR
                  have HE := hide (unhide HYes ⟨by first | rfl | trivial, by first | rfl | trivial, Or.inl (by first | rfl | trivial), Or.inl (by first | rfl | trivial), Or.inr rfl, Or.inr rfl⟩)
                  clear HNo HYes
                  go_enter Tryz.func89, Tryz.ntmps89
                  go_wp2_with fail
                  refine (unhide HN1 _).mono ?_; rintro e w1 ⟨rfl, rfl⟩
                  go_wp2_with fail
                  refine (unhide HN2 _).mono ?_; rintro e w1 ⟨rfl, rfl⟩
                  go_wp2_with fail
                  refine (unhide HU _).mono ?_; rintro e w3 ⟨rfl, hb3⟩
                  obtain ⟨hc, hf⟩ := bcell hb3
                  have hs : w.heap.size + 2 ≤ w3.heap.size := (by have := hb3.size; simpa using this)
                  have hB := bT (by (repeat (first | exact Below.refl _ _ | refine bA ?_ _ | refine Below.setCell ?_ (by simp <;> omega) _)) : Below w.heap.size w _) hb3
                  clear hb3
                  go_wp2
                  go_ret
                  exact ⟨congrArg (fun z => Ending.returned (.bool z)) (unhide HE).symm, hB⟩
                · have hR1 : (R == 0) = false := beq_eq_false_iff_ne.2 hR
                  have HE := hide (unhide HNo (fun h => h.2.2.2.2.2.elim (fun h => by cases h) (fun h => hR h)))
                  clear HNo HYes
                  go_enter Tryz.func89, Tryz.ntmps89
                  go_wp2_with fail
                  refine (unhide HN1 _).mono ?_; rintro e w1 ⟨rfl, rfl⟩
                  go_wp2_with fail
                  refine (unhide HN2 _).mono ?_; rintro e w1 ⟨rfl, rfl⟩
                  go_wp2_with fail
                  refine (unhide HU _).mono ?_; rintro e w3 ⟨rfl, hb3⟩
                  obtain ⟨hc, hf⟩ := bcell hb3
                  have hs : w.heap.size + 2 ≤ w3.heap.size := (by have := hb3.size; simpa using this)
                  have hB := bT (by (repeat (first | exact Below.refl _ _ | refine bA ?_ _ | refine Below.setCell ?_ (by simp <;> omega) _)) : Below w.heap.size w _) hb3
                  clear hb3
                  go_wp2
                  go_ret
                  exact ⟨congrArg (fun z => Ending.returned (.bool z)) (unhide HE).symm, hB⟩
              · have HE := hide (unhide HYes ⟨by first | rfl | trivial, by first | rfl | trivial, Or.inl (by first | rfl | trivial), Or.inl (by first | rfl | trivial), Or.inr rfl, Or.inl (by first | rfl | trivial)⟩)
                clear HNo HYes
                go_enter Tryz.func89, Tryz.ntmps89
                go_wp2_with fail
                refine (unhide HN1 _).mono ?_; rintro e w1 ⟨rfl, rfl⟩
                go_wp2_with fail
                refine (unhide HN2 _).mono ?_; rintro e w1 ⟨rfl, rfl⟩
                go_wp2_with fail
                refine (unhide HU _).mono ?_; rintro e w3 ⟨rfl, hb3⟩
                obtain ⟨hc, hf⟩ := bcell hb3
                have hs : w.heap.size + 2 ≤ w3.heap.size := (by have := hb3.size; simpa using this)
                have hB := bT (by (repeat (first | exact Below.refl _ _ | refine bA ?_ _ | refine Below.setCell ?_ (by simp <;> omega) _)) : Below w.heap.size w _) hb3
                clear hb3
                go_wp2
                go_ret
                exact ⟨congrArg (fun z => Ending.returned (.bool z)) (unhide HE).symm, hB⟩
            · have hL1 : (L == 0) = false := beq_eq_false_iff_ne.2 hL
              have HE := hide (unhide HNo (fun h => h.2.2.2.2.1.elim (fun h => by cases h) (fun h => hL h)))
              clear HNo HYes
              go_enter Tryz.func89, Tryz.ntmps89
              go_wp2_with fail
              refine (unhide HN1 _).mono ?_; rintro e w1 ⟨rfl, rfl⟩
              go_wp2_with fail
              refine (unhide HN2 _).mono ?_; rintro e w1 ⟨rfl, rfl⟩
              go_wp2_with fail
              refine (unhide HU _).mono ?_; rintro e w3 ⟨rfl, hb3⟩
              obtain ⟨hc, hf⟩ := bcell hb3
              have hs : w.heap.size + 2 ≤ w3.heap.size := (by have := hb3.size; simpa using this)
              have hB := bT (by (repeat (first | exact Below.refl _ _ | refine bA ?_ _ | refine Below.setCell ?_ (by simp <;> omega) _)) : Below w.heap.size w _) hb3
              clear hb3
              go_wp2
              go_ret
              exact ⟨congrArg (fun z => Ending.returned (.bool z)) (unhide HE).symm, hB⟩
          · cases b5
            · by_cases hR : R = 0
              · subst hR
                have HE := hide (unhide HYes ⟨by first | rfl | trivial, by first | rfl | trivial, Or.inl (by first | rfl | trivial), Or.inl (by first | rfl | trivial), Or.inl (by first | rfl | trivial), Or.inr rfl⟩)
                clear HNo HYes
                go_enter Tryz.func89, Tryz.ntmps89
                go_wp2_with fail
                refine (unhide HN1 _).mono ?_; rintro e w1 ⟨rfl, rfl⟩
                go_wp2_with fail
                refine (unhide HN2 _).mono ?_; rintro e w1 ⟨rfl, rfl⟩
                go_wp2_with fail
                refine (unhide HU _).mono ?_; rintro e w3 ⟨rfl, hb3⟩
                obtain ⟨hc, hf⟩ := bcell hb3
                have hs : w.heap.size + 2 ≤ w3.heap.size := (by have := hb3.size; simpa using this)
                have hB := bT (by (repeat (first | exact Below.refl _ _ | refine bA ?_ _ | refine Below.setCell ?_ (by simp <;> omega) _)) : Below w.heap.size w _) hb3
                clear hb3
                go_wp2
                go_ret
                exact ⟨congrArg (fun z => Ending.returned (.bool z)) (unhide HE).symm, hB⟩
              · have hR1 : (R == 0) = false := beq_eq_false_iff_ne.2 hR
                have HE := hide (unhide HNo (fun h => h.2.2.2.2.2.elim (fun h => by cases h) (fun h => hR h)))
                clear HNo HYes
                go_enter Tryz.func89, Tryz.ntmps89
                go_wp2_with fail
                refine (unhide HN1 _).mono ?_; rintro e w1 ⟨rfl, rfl⟩
                go_wp2_with fail
                refine (unhide HN2 _).mono ?_; rintro e w1 ⟨rfl, rfl⟩
                go_wp2_with fail
                refine (unhide HU _).mono ?_; rintro e w3 ⟨rfl, hb3⟩
                obtain ⟨hc, hf⟩ := bcell hb3
                have hs : w.heap.size + 2 ≤ w3.heap.size := (by have := hb3.size; simpa using this)
                have hB := bT (by (repeat (first | exact Below.refl _ _ | refine bA ?_ _ | refine Below.setCell ?_ (by simp <;> omega) _)) : Below w.heap.size w _) hb3
                clear hb3
                go_wp2
                go_ret
                exact ⟨congrArg (fun z => Ending.returned (.bool z)) (unhide HE).symm, hB⟩
            · have HE := hide (unhide HYes ⟨by first | rfl | trivial, by first | rfl | trivial, Or.inl (by first | rfl | trivial), Or.inl (by first | rfl | trivial), Or.inl (by first | rfl | trivial), Or.inl (by first | rfl | trivial)⟩)
              clear HNo HYes
              go_enter Tryz.func89, Tryz.ntmps89
              go_wp2_with fail
              refine (unhide HN1 _).mono ?_; rintro e w1 ⟨rfl, rfl⟩
              go_wp2_with fail
              refine (unhide HN2 _).mono ?_; rintro e w1 ⟨rfl, rfl⟩
              go_wp2_with fail
              refine (unhide HU _).mono ?_; rintro e w3 ⟨rfl, hb3⟩
              obtain ⟨hc, hf⟩ := bcell hb3
              have hs : w.heap.size + 2 ≤ w3.heap.size := (by have := hb3.size; simpa using this)
              have hB := bT (by (repeat (first | exact Below.refl _ _ | refine bA ?_ _ | refine Below.setCell ?_ (by simp <;> omega) _)) : Below w.heap.size w _) hb3
              clear hb3
              go_wp2
              go_ret
              exact ⟨congrArg (fun z => Ending.returned (.bool z)) (unhide HE).symm, hB⟩
end Go.Proofs.YtbbjhepagkkjeaaGreatDoor
