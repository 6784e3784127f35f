import Derived.Test.YtahanplikbdccaaDoorPlanSmall
/-
  THE FIELDS OF A PLAN's NODE, as the program judges them.
-/
namespace Go.Proofs.YtahanplikbdccaaDoor
open Go Go.RowKit

def FldN (nt : Nat) (K T M : Int) (le ls : Nat) (L R : Int) : Prop := 1 ≤ K ∧ K ≤ 10 ∧ usedP nt K T M le ls ∧ (arity K = 0 → L = 0) ∧ (arity K ≠ 2 → R = 0)
theorem fldV_iff (nt : Nat) (p : Pn) : FldV nt p ↔ FldN nt p.K p.T p.M p.Ex.length p.Exs.length p.L p.R := Iff.rfl
theorem fldN_iff {nt : Nat} {K T M : Int} {le ls : Nat} {L R : Int} (h1 : 1 ≤ K) (h2 : K ≤ 10) : FldN nt K T M le ls L R ↔
    (nOk (pfb K 0) T 0 ((nt : Int) - 1) = true ∧ nOk (pfb K 1) M 1 4 = true ∧ (decide (usesEx K M) = true ∨ le = 0) ∧ (pfb K 3 = true ∨ ls = 0) ∧ (pfb K 4 = true ∨ L = 0) ∧ (pfb K 5 = true ∨ R = 0)) := by
  have e : K = 1 ∨ K = 2 ∨ K = 3 ∨ K = 4 ∨ K = 5 ∨ K = 6 ∨ K = 7 ∨ K = 8 ∨ K = 9 ∨ K = 10 := by omega
  unfold FldN usedP nOk
  rw [decide_eq_true_iff]
  unfold usesEx
  rcases e with rfl | rfl | rfl | rfl | rfl | rfl | rfl | rfl | rfl | rfl <;> simp [pfb, pf, arity] <;> omega

set_option maxHeartbeats 8000000 in
theorem fieldsOk_calls (nt : Nat) (K T M L R : Int) (le ls : Nat) (a3 a4 : Option Addr) (c3 c4 : Nat) (w : World) (hnt : nt ≤ 1048576) (b2 : le ≤ 1048576) (b3 : ls ≤ 1048576) (hT : TPlan w) :
    Calls Tryd.prog 46 #[.agg #[.int .i64 K, .int .i64 T, .int .i64 M, .slice a3 le c3, .slice a4 ls c4, .int .i64 L, .int .i64 R], .int .i64 (nt : Int)] w fun e w' => e = .returned (.bool (dB (FldN nt K T M le ls L R))) ∧ Below w.heap.size w w' := by
  by_cases h1 : K < 1
  · have HE : Hid (dB (FldN nt K T M le ls L R) = false) := dB_false (fun h => by have := h.1; omega)
    generalize dB (FldN nt K T M le ls L R) = E at *
    clear hT
    go_enter Tryd.func46, Tryd.ntmps46
    go_wp2
    go_ret
    exact ⟨congrArg (fun z => Ending.returned (.bool z)) HE.out.symm, bA (Below.refl _ _) _⟩
  by_cases h2 : 10 < K
  · have HE : Hid (dB (FldN nt K T M le ls L R) = false) := dB_false (fun h => by have := h.2.1; omega)
    generalize dB (FldN nt K T M le ls L R) = E at *
    clear hT
    go_enter Tryd.func46, Tryd.ntmps46
    go_wp2
    go_ret
    exact ⟨congrArg (fun z => Ending.returned (.bool z)) HE.out.symm, bA (Below.refl _ _) _⟩
  have hiff : dB (FldN nt K T M le ls L R) = true ↔ _ := dB_iff.trans (fldN_iff (by omega) (by omega))
  have HU := hide (fun W (hb : Below w.heap.size w W) => usesEx_calls K T M L R (.slice a3 le c3) (.slice a4 ls c4) W (by omega) (by omega) (hT.of hb))
  have HN1 := hide (fun W => numberOk_calls (pfb K 0) T 0 ((nt : Int) - 1) W)
  have HN2 := hide (fun W => numberOk_calls (pfb K 1) M 1 4 W)
  obtain ⟨t0, t1, t2, t3, t4, t5, t6⟩ := plan_look hT K (by omega) (by omega)
  have hz := hT.size
  have k0 : (0 : Int) ≤ K := by omega
  have k11 : K < 11 := by omega
  have HIff := hide hiff
  clear hT hiff
  generalize nOk (pfb K 0) T 0 ((nt : Int) - 1) = n1 at *
  generalize nOk (pfb K 1) M 1 4 = n2 at *
  generalize decide (usesEx K M) = u at *
  generalize pfb K 0 = p0 at *
  generalize pfb K 1 = p1 at *
  generalize pfb K 2 = p2 at *
  generalize pfb K 3 = p3 at *
  generalize pfb K 4 = p4 at *
  generalize pfb K 5 = p5 at *
  generalize pfb K 6 = p6 at *
  generalize dB (FldN nt K T M le ls L R) = E at *
  have HNo : Hid (¬ (n1 = true ∧ n2 = true ∧ (u = true ∨ le = 0) ∧ (p3 = true ∨ ls = 0) ∧ (p4 = true ∨ L = 0) ∧ (p5 = true ∨ R = 0)) → E = false) := fun h => Bool.eq_false_iff.2 (fun h' => h ((unhide HIff).1 h'))
  have HYes : Hid ((n1 = true ∧ n2 = true ∧ (u = true ∨ le = 0) ∧ (p3 = true ∨ ls = 0) ∧ (p4 = true ∨ L = 0) ∧ (p5 = true ∨ R = 0)) → E = true) := fun h => (unhide HIff).2 h
  clear HIff
  cases n1
  · have HE := hide (unhide HNo (fun h => by have := h.1; cases this))
    clear HNo HYes
    go_enter Tryd.func46, Tryd.ntmps46
    go_wp2_with fail
    refine (unhide HN1 _).mono ?_; rintro e w1 ⟨rfl, rfl⟩
    go_wp2
    go_ret
    exact ⟨congrArg (fun z => Ending.returned (.bool z)) (unhide HE).symm, (by (repeat (first | exact Below.refl _ _ | refine bA ?_ _ | refine Below.setCell ?_ (by simp <;> omega) _)))⟩
  · cases n2
    · have HE := hide (unhide HNo (fun h => by have := h.2.1; cases this))
      clear HNo HYes
      go_enter Tryd.func46, Tryd.ntmps46
      go_wp2_with fail
      refine (unhide HN1 _).mono ?_; rintro e w1 ⟨rfl, rfl⟩
      go_wp2_with fail
      refine (unhide HN2 _).mono ?_; rintro e w1 ⟨rfl, rfl⟩
      go_wp2
      go_ret
      exact ⟨congrArg (fun z => Ending.returned (.bool z)) (unhide HE).symm, (by (repeat (first | exact Below.refl _ _ | refine bA ?_ _ | refine Below.setCell ?_ (by simp <;> omega) _)))⟩
    · cases u
      · rcases Nat.eq_zero_or_pos le with rfl | hp
        · cases p3
          · rcases Nat.eq_zero_or_pos ls with rfl | hp
            · cases p4
              · by_cases hL : L = 0
                · subst hL
                  cases p5
                  · by_cases hR : R = 0
                    · subst hR
                      have HE := hide (unhide HYes ⟨by first | rfl | trivial, by first | rfl | trivial, Or.inr rfl, Or.inr rfl, Or.inr rfl, Or.inr rfl⟩)
                      clear HNo HYes
                      go_enter Tryd.func46, Tryd.ntmps46
                      go_wp2_with fail
                      refine (unhide HN1 _).mono ?_; rintro e w1 ⟨rfl, rfl⟩
                      go_wp2_with fail
                      refine (unhide HN2 _).mono ?_; rintro e w1 ⟨rfl, rfl⟩
                      go_wp2_with fail
                      refine (unhide HU _ (by (repeat (first | exact Below.refl _ _ | refine bA ?_ _ | refine Below.setCell ?_ (by simp <;> omega) _)))).mono ?_; rintro e w3 ⟨rfl, hb3⟩
                      obtain ⟨hc, hf⟩ := bcell hb3
                      have hs : w.heap.size + 2 ≤ w3.heap.size := (by have := hb3.size; simpa using this)
                      have hB := bT (by (repeat (first | exact Below.refl _ _ | refine bA ?_ _ | refine Below.setCell ?_ (by simp <;> omega) _)) : Below w.heap.size w _) hb3
                      clear hb3
                      go_wp2
                      go_ret
                      exact ⟨congrArg (fun z => Ending.returned (.bool z)) (unhide HE).symm, hB⟩
                    · have hR1 : (R == 0) = false := beq_eq_false_iff_ne.2 hR
                      have HE := hide (unhide HNo (fun h => h.2.2.2.2.2.elim (fun h => by cases h) (fun h => hR h)))
                      clear HNo HYes
                      go_enter Tryd.func46, Tryd.ntmps46
                      go_wp2_with fail
                      refine (unhide HN1 _).mono ?_; rintro e w1 ⟨rfl, rfl⟩
                      go_wp2_with fail
                      refine (unhide HN2 _).mono ?_; rintro e w1 ⟨rfl, rfl⟩
                      go_wp2_with fail
                      refine (unhide HU _ (by (repeat (first | exact Below.refl _ _ | refine bA ?_ _ | refine Below.setCell ?_ (by simp <;> omega) _)))).mono ?_; rintro e w3 ⟨rfl, hb3⟩
                      obtain ⟨hc, hf⟩ := bcell hb3
                      have hs : w.heap.size + 2 ≤ w3.heap.size := (by have := hb3.size; simpa using this)
                      have hB := bT (by (repeat (first | exact Below.refl _ _ | refine bA ?_ _ | refine Below.setCell ?_ (by simp <;> omega) _)) : Below w.heap.size w _) hb3
                      clear hb3
                      go_wp2
                      go_ret
                      exact ⟨congrArg (fun z => Ending.returned (.bool z)) (unhide HE).symm, hB⟩
                  · have HE := hide (unhide HYes ⟨by first | rfl | trivial, by first | rfl | trivial, Or.inr rfl, Or.inr rfl, Or.inr rfl, Or.inl (by first | rfl | trivial)⟩)
                    clear HNo HYes
                    go_enter Tryd.func46, Tryd.ntmps46
                    go_wp2_with fail
                    refine (unhide HN1 _).mono ?_; rintro e w1 ⟨rfl, rfl⟩
                    go_wp2_with fail
                    refine (unhide HN2 _).mono ?_; rintro e w1 ⟨rfl, rfl⟩
                    go_wp2_with fail
                    refine (unhide HU _ (by (repeat (first | exact Below.refl _ _ | refine bA ?_ _ | refine Below.setCell ?_ (by simp <;> omega) _)))).mono ?_; rintro e w3 ⟨rfl, hb3⟩
                    obtain ⟨hc, hf⟩ := bcell hb3
                    have hs : w.heap.size + 2 ≤ w3.heap.size := (by have := hb3.size; simpa using this)
                    have hB := bT (by (repeat (first | exact Below.refl _ _ | refine bA ?_ _ | refine Below.setCell ?_ (by simp <;> omega) _)) : Below w.heap.size w _) hb3
                    clear hb3
                    go_wp2
                    go_ret
                    exact ⟨congrArg (fun z => Ending.returned (.bool z)) (unhide HE).symm, hB⟩
                · have hL1 : (L == 0) = false := beq_eq_false_iff_ne.2 hL
                  have HE := hide (unhide HNo (fun h => h.2.2.2.2.1.elim (fun h => by cases h) (fun h => hL h)))
                  clear HNo HYes
                  go_enter Tryd.func46, Tryd.ntmps46
                  go_wp2_with fail
                  refine (unhide HN1 _).mono ?_; rintro e w1 ⟨rfl, rfl⟩
                  go_wp2_with fail
                  refine (unhide HN2 _).mono ?_; rintro e w1 ⟨rfl, rfl⟩
                  go_wp2_with fail
                  refine (unhide HU _ (by (repeat (first | exact Below.refl _ _ | refine bA ?_ _ | refine Below.setCell ?_ (by simp <;> omega) _)))).mono ?_; rintro e w3 ⟨rfl, hb3⟩
                  obtain ⟨hc, hf⟩ := bcell hb3
                  have hs : w.heap.size + 2 ≤ w3.heap.size := (by have := hb3.size; simpa using this)
                  have hB := bT (by (repeat (first | exact Below.refl _ _ | refine bA ?_ _ | refine Below.setCell ?_ (by simp <;> omega) _)) : Below w.heap.size w _) hb3
                  clear hb3
                  go_wp2
                  go_ret
                  exact ⟨congrArg (fun z => Ending.returned (.bool z)) (unhide HE).symm, hB⟩
              · cases p5
                · by_cases hR : R = 0
                  · subst hR
                    have HE := hide (unhide HYes ⟨by first | rfl | trivial, by first | rfl | trivial, Or.inr rfl, Or.inr rfl, Or.inl (by first | rfl | trivial), Or.inr rfl⟩)
                    clear HNo HYes
                    go_enter Tryd.func46, Tryd.ntmps46
                    go_wp2_with fail
                    refine (unhide HN1 _).mono ?_; rintro e w1 ⟨rfl, rfl⟩
                    go_wp2_with fail
                    refine (unhide HN2 _).mono ?_; rintro e w1 ⟨rfl, rfl⟩
                    go_wp2_with fail
                    refine (unhide HU _ (by (repeat (first | exact Below.refl _ _ | refine bA ?_ _ | refine Below.setCell ?_ (by simp <;> omega) _)))).mono ?_; rintro e w3 ⟨rfl, hb3⟩
                    obtain ⟨hc, hf⟩ := bcell hb3
                    have hs : w.heap.size + 2 ≤ w3.heap.size := (by have := hb3.size; simpa using this)
                    have hB := bT (by (repeat (first | exact Below.refl _ _ | refine bA ?_ _ | refine Below.setCell ?_ (by simp <;> omega) _)) : Below w.heap.size w _) hb3
                    clear hb3
                    go_wp2
                    go_ret
                    exact ⟨congrArg (fun z => Ending.returned (.bool z)) (unhide HE).symm, hB⟩
                  · have hR1 : (R == 0) = false := beq_eq_false_iff_ne.2 hR
                    have HE := hide (unhide HNo (fun h => h.2.2.2.2.2.elim (fun h => by cases h) (fun h => hR h)))
                    clear HNo HYes
                    go_enter Tryd.func46, Tryd.ntmps46
                    go_wp2_with fail
                    refine (unhide HN1 _).mono ?_; rintro e w1 ⟨rfl, rfl⟩
                    go_wp2_with fail
                    refine (unhide HN2 _).mono ?_; rintro e w1 ⟨rfl, rfl⟩
                    go_wp2_with fail
                    refine (unhide HU _ (by (repeat (first | exact Below.refl _ _ | refine bA ?_ _ | refine Below.setCell ?_ (by simp <;> omega) _)))).mono ?_; rintro e w3 ⟨rfl, hb3⟩
                    obtain ⟨hc, hf⟩ := bcell hb3
                    have hs : w.heap.size + 2 ≤ w3.heap.size := (by have := hb3.size; simpa using this)
                    have hB := bT (by (repeat (first | exact Below.refl _ _ | refine bA ?_ _ | refine Below.setCell ?_ (by simp <;> omega) _)) : Below w.heap.size w _) hb3
                    clear hb3
                    go_wp2
                    go_ret
                    exact ⟨congrArg (fun z => Ending.returned (.bool z)) (unhide HE).symm, hB⟩
                · have HE := hide (unhide HYes ⟨by first | rfl | trivial, by first | rfl | trivial, Or.inr rfl, Or.inr rfl, Or.inl (by first | rfl | trivial), Or.inl (by first | rfl | trivial)⟩)
                  clear HNo HYes
                  go_enter Tryd.func46, Tryd.ntmps46
                  go_wp2_with fail
                  refine (unhide HN1 _).mono ?_; rintro e w1 ⟨rfl, rfl⟩
                  go_wp2_with fail
                  refine (unhide HN2 _).mono ?_; rintro e w1 ⟨rfl, rfl⟩
                  go_wp2_with fail
                  refine (unhide HU _ (by (repeat (first | exact Below.refl _ _ | refine bA ?_ _ | refine Below.setCell ?_ (by simp <;> omega) _)))).mono ?_; rintro e w3 ⟨rfl, hb3⟩
                  obtain ⟨hc, hf⟩ := bcell hb3
                  have hs : w.heap.size + 2 ≤ w3.heap.size := (by have := hb3.size; simpa using this)
                  have hB := bT (by (repeat (first | exact Below.refl _ _ | refine bA ?_ _ | refine Below.setCell ?_ (by simp <;> omega) _)) : Below w.heap.size w _) hb3
                  clear hb3
                  go_wp2
                  go_ret
                  exact ⟨congrArg (fun z => Ending.returned (.bool z)) (unhide HE).symm, hB⟩
            · have hx1 : ((ls : Int) == 0) = false := beq_eq_false_iff_ne.2 (by omega)
              have hx2 : (ls == 0) = false := beq_eq_false_iff_ne.2 (by omega)
              have hx3 : ¬ (ls : Int) = 0 := by omega
              have hx4 : ¬ ls = 0 := by omega
              have HE := hide (unhide HNo (fun h => h.2.2.2.1.elim (fun h => by cases h) (fun h => by omega)))
              clear HNo HYes
              go_enter Tryd.func46, Tryd.ntmps46
              go_wp2_with fail
              refine (unhide HN1 _).mono ?_; rintro e w1 ⟨rfl, rfl⟩
              go_wp2_with fail
              refine (unhide HN2 _).mono ?_; rintro e w1 ⟨rfl, rfl⟩
              go_wp2_with fail
              refine (unhide HU _ (by (repeat (first | exact Below.refl _ _ | refine bA ?_ _ | refine Below.setCell ?_ (by simp <;> omega) _)))).mono ?_; rintro e w3 ⟨rfl, hb3⟩
              obtain ⟨hc, hf⟩ := bcell hb3
              have hs : w.heap.size + 2 ≤ w3.heap.size := (by have := hb3.size; simpa using this)
              have hB := bT (by (repeat (first | exact Below.refl _ _ | refine bA ?_ _ | refine Below.setCell ?_ (by simp <;> omega) _)) : Below w.heap.size w _) hb3
              clear hb3
              go_wp2
              go_ret
              exact ⟨congrArg (fun z => Ending.returned (.bool z)) (unhide HE).symm, hB⟩
          · cases p4
            · by_cases hL : L = 0
              · subst hL
                cases p5
                · by_cases hR : R = 0
                  · subst hR
                    have HE := hide (unhide HYes ⟨by first | rfl | trivial, by first | rfl | trivial, Or.inr rfl, Or.inl (by first | rfl | trivial), Or.inr rfl, Or.inr rfl⟩)
                    clear HNo HYes
                    go_enter Tryd.func46, Tryd.ntmps46
                    go_wp2_with fail
                    refine (unhide HN1 _).mono ?_; rintro e w1 ⟨rfl, rfl⟩
                    go_wp2_with fail
                    refine (unhide HN2 _).mono ?_; rintro e w1 ⟨rfl, rfl⟩
                    go_wp2_with fail
                    refine (unhide HU _ (by (repeat (first | exact Below.refl _ _ | refine bA ?_ _ | refine Below.setCell ?_ (by simp <;> omega) _)))).mono ?_; rintro e w3 ⟨rfl, hb3⟩
                    obtain ⟨hc, hf⟩ := bcell hb3
                    have hs : w.heap.size + 2 ≤ w3.heap.size := (by have := hb3.size; simpa using this)
                    have hB := bT (by (repeat (first | exact Below.refl _ _ | refine bA ?_ _ | refine Below.setCell ?_ (by simp <;> omega) _)) : Below w.heap.size w _) hb3
                    clear hb3
                    go_wp2
                    go_ret
                    exact ⟨congrArg (fun z => Ending.returned (.bool z)) (unhide HE).symm, hB⟩
                  · have hR1 : (R == 0) = false := beq_eq_false_iff_ne.2 hR
                    have HE := hide (unhide HNo (fun h => h.2.2.2.2.2.elim (fun h => by cases h) (fun h => hR h)))
                    clear HNo HYes
                    go_enter Tryd.func46, Tryd.ntmps46
                    go_wp2_with fail
                    refine (unhide HN1 _).mono ?_; rintro e w1 ⟨rfl, rfl⟩
                    go_wp2_with fail
                    refine (unhide HN2 _).mono ?_; rintro e w1 ⟨rfl, rfl⟩
                    go_wp2_with fail
                    refine (unhide HU _ (by (repeat (first | exact Below.refl _ _ | refine bA ?_ _ | refine Below.setCell ?_ (by simp <;> omega) _)))).mono ?_; rintro e w3 ⟨rfl, hb3⟩
                    obtain ⟨hc, hf⟩ := bcell hb3
                    have hs : w.heap.size + 2 ≤ w3.heap.size := (by have := hb3.size; simpa using this)
                    have hB := bT (by (repeat (first | exact Below.refl _ _ | refine bA ?_ _ | refine Below.setCell ?_ (by simp <;> omega) _)) : Below w.heap.size w _) hb3
                    clear hb3
                    go_wp2
                    go_ret
                    exact ⟨congrArg (fun z => Ending.returned (.bool z)) (unhide HE).symm, hB⟩
                · have HE := hide (unhide HYes ⟨by first | rfl | trivial, by first | rfl | trivial, Or.inr rfl, Or.inl (by first | rfl | trivial), Or.inr rfl, Or.inl (by first | rfl | trivial)⟩)
                  clear HNo HYes
                  go_enter Tryd.func46, Tryd.ntmps46
                  go_wp2_with fail
                  refine (unhide HN1 _).mono ?_; rintro e w1 ⟨rfl, rfl⟩
                  go_wp2_with fail
                  refine (unhide HN2 _).mono ?_; rintro e w1 ⟨rfl, rfl⟩
                  go_wp2_with fail
                  refine (unhide HU _ (by (repeat (first | exact Below.refl _ _ | refine bA ?_ _ | refine Below.setCell ?_ (by simp <;> omega) _)))).mono ?_; rintro e w3 ⟨rfl, hb3⟩
                  obtain ⟨hc, hf⟩ := bcell hb3
                  have hs : w.heap.size + 2 ≤ w3.heap.size := (by have := hb3.size; simpa using this)
                  have hB := bT (by (repeat (first | exact Below.refl _ _ | refine bA ?_ _ | refine Below.setCell ?_ (by simp <;> omega) _)) : Below w.heap.size w _) hb3
                  clear hb3
                  go_wp2
                  go_ret
                  exact ⟨congrArg (fun z => Ending.returned (.bool z)) (unhide HE).symm, hB⟩
              · have hL1 : (L == 0) = false := beq_eq_false_iff_ne.2 hL
                have HE := hide (unhide HNo (fun h => h.2.2.2.2.1.elim (fun h => by cases h) (fun h => hL h)))
                clear HNo HYes
                go_enter Tryd.func46, Tryd.ntmps46
                go_wp2_with fail
                refine (unhide HN1 _).mono ?_; rintro e w1 ⟨rfl, rfl⟩
                go_wp2_with fail
                refine (unhide HN2 _).mono ?_; rintro e w1 ⟨rfl, rfl⟩
                go_wp2_with fail
                refine (unhide HU _ (by (repeat (first | exact Below.refl _ _ | refine bA ?_ _ | refine Below.setCell ?_ (by simp <;> omega) _)))).mono ?_; rintro e w3 ⟨rfl, hb3⟩
                obtain ⟨hc, hf⟩ := bcell hb3
                have hs : w.heap.size + 2 ≤ w3.heap.size := (by have := hb3.size; simpa using this)
                have hB := bT (by (repeat (first | exact Below.refl _ _ | refine bA ?_ _ | refine Below.setCell ?_ (by simp <;> omega) _)) : Below w.heap.size w _) hb3
                clear hb3
                go_wp2
                go_ret
                exact ⟨congrArg (fun z => Ending.returned (.bool z)) (unhide HE).symm, hB⟩
            · cases p5
              · by_cases hR : R = 0
                · subst hR
                  have HE := hide (unhide HYes ⟨by first | rfl | trivial, by first | rfl | trivial, Or.inr rfl, Or.inl (by first | rfl | trivial), Or.inl (by first | rfl | trivial), Or.inr rfl⟩)
                  clear HNo HYes
                  go_enter Tryd.func46, Tryd.ntmps46
                  go_wp2_with fail
                  refine (unhide HN1 _).mono ?_; rintro e w1 ⟨rfl, rfl⟩
                  go_wp2_with fail
                  refine (unhide HN2 _).mono ?_; rintro e w1 ⟨rfl, rfl⟩
                  go_wp2_with fail
                  refine (unhide HU _ (by (repeat (first | exact Below.refl _ _ | refine bA ?_ _ | refine Below.setCell ?_ (by simp <;> omega) _)))).mono ?_; rintro e w3 ⟨rfl, hb3⟩
                  obtain ⟨hc, hf⟩ := bcell hb3
                  have hs : w.heap.size + 2 ≤ w3.heap.size := (by have := hb3.size; simpa using this)
                  have hB := bT (by (repeat (first | exact Below.refl _ _ | refine bA ?_ _ | refine Below.setCell ?_ (by simp <;> omega) _)) : Below w.heap.size w _) hb3
                  clear hb3
                  go_wp2
                  go_ret
                  exact ⟨congrArg (fun z => Ending.returned (.bool z)) (unhide HE).symm, hB⟩
                · have hR1 : (R == 0) = false := beq_eq_false_iff_ne.2 hR
                  have HE := hide (unhide HNo (fun h => h.2.2.2.2.2.elim (fun h => by cases h) (fun h => hR h)))
                  clear HNo HYes
                  go_enter Tryd.func46, Tryd.ntmps46
                  go_wp2_with fail
                  refine (unhide HN1 _).mono ?_; rintro e w1 ⟨rfl, rfl⟩
                  go_wp2_with fail
                  refine (unhide HN2 _).mono ?_; rintro e w1 ⟨rfl, rfl⟩
                  go_wp2_with fail
                  refine (unhide HU _ (by (repeat (first | exact Below.refl _ _ | refine bA ?_ _ | refine Below.setCell ?_ (by simp <;> omega) _)))).mono ?_; rintro e w3 ⟨rfl, hb3⟩
                  obtain ⟨hc, hf⟩ := bcell hb3
                  have hs : w.heap.size + 2 ≤ w3.heap.size := (by have := hb3.size; simpa using this)
                  have hB := bT (by (repeat (first | exact Below.refl _ _ | refine bA ?_ _ | refine Below.setCell ?_ (by simp <;> omega) _)) : Below w.heap.size w _) hb3
                  clear hb3
                  go_wp2
                  go_ret
                  exact ⟨congrArg (fun z => Ending.returned (.bool z)) (unhide HE).symm, hB⟩
              · have HE := hide (unhide HYes ⟨by first | rfl | trivial, by first | rfl | trivial, Or.inr rfl, Or.inl (by first | rfl | trivial), Or.inl (by first | rfl | trivial), Or.inl (by first | rfl | trivial)⟩)
                clear HNo HYes
                go_enter Tryd.func46, Tryd.ntmps46
                go_wp2_with fail
                refine (unhide HN1 _).mono ?_; rintro e w1 ⟨rfl, rfl⟩
                go_wp2_with fail
                refine (unhide HN2 _).mono ?_; rintro e w1 ⟨rfl, rfl⟩
                go_wp2_with fail
                refine (unhide HU _ (by (repeat (first | exact Below.refl _ _ | refine bA ?_ _ | refine Below.setCell ?_ (by simp <;> omega) _)))).mono ?_; rintro e w3 ⟨rfl, hb3⟩
                obtain ⟨hc, hf⟩ := bcell hb3
                have hs : w.heap.size + 2 ≤ w3.heap.size := (by have := hb3.size; simpa using this)
                have hB := bT (by (repeat (first | exact Below.refl _ _ | refine bA ?_ _ | refine Below.setCell ?_ (by simp <;> omega) _)) : Below w.heap.size w _) hb3
                clear hb3
                go_wp2
                go_ret
                exact ⟨congrArg (fun z => Ending.returned (.bool z)) (unhide HE).symm, hB⟩
        · have hx1 : ((le : Int) == 0) = false := beq_eq_false_iff_ne.2 (by omega)
          have hx2 : (le == 0) = false := beq_eq_false_iff_ne.2 (by omega)
          have hx3 : ¬ (le : Int) = 0 := by omega
          have hx4 : ¬ le = 0 := by omega
          have HE := hide (unhide HNo (fun h => h.2.2.1.elim (fun h => by cases h) (fun h => by omega)))
          clear HNo HYes
          go_enter Tryd.func46, Tryd.ntmps46
          go_wp2_with fail
          refine (unhide HN1 _).mono ?_; rintro e w1 ⟨rfl, rfl⟩
          go_wp2_with fail
          refine (unhide HN2 _).mono ?_; rintro e w1 ⟨rfl, rfl⟩
          go_wp2_with fail
          refine (unhide HU _ (by (repeat (first | exact Below.refl _ _ | refine bA ?_ _ | refine Below.setCell ?_ (by simp <;> omega) _)))).mono ?_; rintro e w3 ⟨rfl, hb3⟩
          obtain ⟨hc, hf⟩ := bcell hb3
          have hs : w.heap.size + 2 ≤ w3.heap.size := (by have := hb3.size; simpa using this)
          have hB := bT (by (repeat (first | exact Below.refl _ _ | refine bA ?_ _ | refine Below.setCell ?_ (by simp <;> omega) _)) : Below w.heap.size w _) hb3
          clear hb3
          go_wp2
          go_ret
          exact ⟨congrArg (fun z => Ending.returned (.bool z)) (unhide HE).symm, hB⟩
      · cases p3
        · rcases Nat.eq_zero_or_pos ls with rfl | hp
          · cases p4
            · by_cases hL : L = 0
              · subst hL
                cases p5
                · by_cases hR : R = 0
                  · subst hR
                    have HE := hide (unhide HYes ⟨by first | rfl | trivial, by first | rfl | trivial, Or.inl (by first | rfl | trivial), Or.inr rfl, Or.inr rfl, Or.inr rfl⟩)
                    clear HNo HYes
                    go_enter Tryd.func46, Tryd.ntmps46
                    go_wp2_with fail
                    refine (unhide HN1 _).mono ?_; rintro e w1 ⟨rfl, rfl⟩
                    go_wp2_with fail
                    refine (unhide HN2 _).mono ?_; rintro e w1 ⟨rfl, rfl⟩
                    go_wp2_with fail
                    refine (unhide HU _ (by (repeat (first | exact Below.refl _ _ | refine bA ?_ _ | refine Below.setCell ?_ (by simp <;> omega) _)))).mono ?_; rintro e w3 ⟨rfl, hb3⟩
                    obtain ⟨hc, hf⟩ := bcell hb3
                    have hs : w.heap.size + 2 ≤ w3.heap.size := (by have := hb3.size; simpa using this)
                    have hB := bT (by (repeat (first | exact Below.refl _ _ | refine bA ?_ _ | refine Below.setCell ?_ (by simp <;> omega) _)) : Below w.heap.size w _) hb3
                    clear hb3
                    go_wp2
                    go_ret
                    exact ⟨congrArg (fun z => Ending.returned (.bool z)) (unhide HE).symm, hB⟩
                  · have hR1 : (R == 0) = false := beq_eq_false_iff_ne.2 hR
                    have HE := hide (unhide HNo (fun h => h.2.2.2.2.2.elim (fun h => by cases h) (fun h => hR h)))
                    clear HNo HYes
                    go_enter Tryd.func46, Tryd.ntmps46
                    go_wp2_with fail
                    refine (unhide HN1 _).mono ?_; rintro e w1 ⟨rfl, rfl⟩
                    go_wp2_with fail
                    refine (unhide HN2 _).mono ?_; rintro e w1 ⟨rfl, rfl⟩
                    go_wp2_with fail
                    refine (unhide HU _ (by (repeat (first | exact Below.refl _ _ | refine bA ?_ _ | refine Below.setCell ?_ (by simp <;> omega) _)))).mono ?_; rintro e w3 ⟨rfl, hb3⟩
                    obtain ⟨hc, hf⟩ := bcell hb3
                    have hs : w.heap.size + 2 ≤ w3.heap.size := (by have := hb3.size; simpa using this)
                    have hB := bT (by (repeat (first | exact Below.refl _ _ | refine bA ?_ _ | refine Below.setCell ?_ (by simp <;> omega) _)) : Below w.heap.size w _) hb3
                    clear hb3
                    go_wp2
                    go_ret
                    exact ⟨congrArg (fun z => Ending.returned (.bool z)) (unhide HE).symm, hB⟩
                · have HE := hide (unhide HYes ⟨by first | rfl | trivial, by first | rfl | trivial, Or.inl (by first | rfl | trivial), Or.inr rfl, Or.inr rfl, Or.inl (by first | rfl | trivial)⟩)
                  clear HNo HYes
                  go_enter Tryd.func46, Tryd.ntmps46
                  go_wp2_with fail
                  refine (unhide HN1 _).mono ?_; rintro e w1 ⟨rfl, rfl⟩
                  go_wp2_with fail
                  refine (unhide HN2 _).mono ?_; rintro e w1 ⟨rfl, rfl⟩
                  go_wp2_with fail
                  refine (unhide HU _ (by (repeat (first | exact Below.refl _ _ | refine bA ?_ _ | refine Below.setCell ?_ (by simp <;> omega) _)))).mono ?_; rintro e w3 ⟨rfl, hb3⟩
                  obtain ⟨hc, hf⟩ := bcell hb3
                  have hs : w.heap.size + 2 ≤ w3.heap.size := (by have := hb3.size; simpa using this)
                  have hB := bT (by (repeat (first | exact Below.refl _ _ | refine bA ?_ _ | refine Below.setCell ?_ (by simp <;> omega) _)) : Below w.heap.size w _) hb3
                  clear hb3
                  go_wp2
                  go_ret
                  exact ⟨congrArg (fun z => Ending.returned (.bool z)) (unhide HE).symm, hB⟩
              · have hL1 : (L == 0) = false := beq_eq_false_iff_ne.2 hL
                have HE := hide (unhide HNo (fun h => h.2.2.2.2.1.elim (fun h => by cases h) (fun h => hL h)))
                clear HNo HYes
                go_enter Tryd.func46, Tryd.ntmps46
                go_wp2_with fail
                refine (unhide HN1 _).mono ?_; rintro e w1 ⟨rfl, rfl⟩
                go_wp2_with fail
                refine (unhide HN2 _).mono ?_; rintro e w1 ⟨rfl, rfl⟩
                go_wp2_with fail
                refine (unhide HU _ (by (repeat (first | exact Below.refl _ _ | refine bA ?_ _ | refine Below.setCell ?_ (by simp <;> omega) _)))).mono ?_; rintro e w3 ⟨rfl, hb3⟩
                obtain ⟨hc, hf⟩ := bcell hb3
                have hs : w.heap.size + 2 ≤ w3.heap.size := (by have := hb3.size; simpa using this)
                have hB := bT (by (repeat (first | exact Below.refl _ _ | refine bA ?_ _ | refine Below.setCell ?_ (by simp <;> omega) _)) : Below w.heap.size w _) hb3
                clear hb3
                go_wp2
                go_ret
                exact ⟨congrArg (fun z => Ending.returned (.bool z)) (unhide HE).symm, hB⟩
            · cases p5
              · by_cases hR : R = 0
                · subst hR
                  have HE := hide (unhide HYes ⟨by first | rfl | trivial, by first | rfl | trivial, Or.inl (by first | rfl | trivial), Or.inr rfl, Or.inl (by first | rfl | trivial), Or.inr rfl⟩)
                  clear HNo HYes
                  go_enter Tryd.func46, Tryd.ntmps46
                  go_wp2_with fail
                  refine (unhide HN1 _).mono ?_; rintro e w1 ⟨rfl, rfl⟩
                  go_wp2_with fail
                  refine (unhide HN2 _).mono ?_; rintro e w1 ⟨rfl, rfl⟩
                  go_wp2_with fail
                  refine (unhide HU _ (by (repeat (first | exact Below.refl _ _ | refine bA ?_ _ | refine Below.setCell ?_ (by simp <;> omega) _)))).mono ?_; rintro e w3 ⟨rfl, hb3⟩
                  obtain ⟨hc, hf⟩ := bcell hb3
                  have hs : w.heap.size + 2 ≤ w3.heap.size := (by have := hb3.size; simpa using this)
                  have hB := bT (by (repeat (first | exact Below.refl _ _ | refine bA ?_ _ | refine Below.setCell ?_ (by simp <;> omega) _)) : Below w.heap.size w _) hb3
                  clear hb3
                  go_wp2
                  go_ret
                  exact ⟨congrArg (fun z => Ending.returned (.bool z)) (unhide HE).symm, hB⟩
                · have hR1 : (R == 0) = false := beq_eq_false_iff_ne.2 hR
                  have HE := hide (unhide HNo (fun h => h.2.2.2.2.2.elim (fun h => by cases h) (fun h => hR h)))
                  clear HNo HYes
                  go_enter Tryd.func46, Tryd.ntmps46
                  go_wp2_with fail
                  refine (unhide HN1 _).mono ?_; rintro e w1 ⟨rfl, rfl⟩
                  go_wp2_with fail
                  refine (unhide HN2 _).mono ?_; rintro e w1 ⟨rfl, rfl⟩
                  go_wp2_with fail
                  refine (unhide HU _ (by (repeat (first | exact Below.refl _ _ | refine bA ?_ _ | refine Below.setCell ?_ (by simp <;> omega) _)))).mono ?_; rintro e w3 ⟨rfl, hb3⟩
                  obtain ⟨hc, hf⟩ := bcell hb3
                  have hs : w.heap.size + 2 ≤ w3.heap.size := (by have := hb3.size; simpa using this)
                  have hB := bT (by (repeat (first | exact Below.refl _ _ | refine bA ?_ _ | refine Below.setCell ?_ (by simp <;> omega) _)) : Below w.heap.size w _) hb3
                  clear hb3
                  go_wp2
                  go_ret
                  exact ⟨congrArg (fun z => Ending.returned (.bool z)) (unhide HE).symm, hB⟩
              · have HE := hide (unhide HYes ⟨by first | rfl | trivial, by first | rfl | trivial, Or.inl (by first | rfl | trivial), Or.inr rfl, Or.inl (by first | rfl | trivial), Or.inl (by first | rfl | trivial)⟩)
                clear HNo HYes
                go_enter Tryd.func46, Tryd.ntmps46
                go_wp2_with fail
                refine (unhide HN1 _).mono ?_; rintro e w1 ⟨rfl, rfl⟩
                go_wp2_with fail
                refine (unhide HN2 _).mono ?_; rintro e w1 ⟨rfl, rfl⟩
                go_wp2_with fail
                refine (unhide HU _ (by (repeat (first | exact Below.refl _ _ | refine bA ?_ _ | refine Below.setCell ?_ (by simp <;> omega) _)))).mono ?_; rintro e w3 ⟨rfl, hb3⟩
                obtain ⟨hc, hf⟩ := bcell hb3
                have hs : w.heap.size + 2 ≤ w3.heap.size := (by have := hb3.size; simpa using this)
                have hB := bT (by (repeat (first | exact Below.refl _ _ | refine bA ?_ _ | refine Below.setCell ?_ (by simp <;> omega) _)) : Below w.heap.size w _) hb3
                clear hb3
                go_wp2
                go_ret
                exact ⟨congrArg (fun z => Ending.returned (.bool z)) (unhide HE).symm, hB⟩
          · have hx1 : ((ls : Int) == 0) = false := beq_eq_false_iff_ne.2 (by omega)
            have hx2 : (ls == 0) = false := beq_eq_false_iff_ne.2 (by omega)
            have hx3 : ¬ (ls : Int) = 0 := by omega
            have hx4 : ¬ ls = 0 := by omega
            have HE := hide (unhide HNo (fun h => h.2.2.2.1.elim (fun h => by cases h) (fun h => by omega)))
            clear HNo HYes
            go_enter Tryd.func46, Tryd.ntmps46
            go_wp2_with fail
            refine (unhide HN1 _).mono ?_; rintro e w1 ⟨rfl, rfl⟩
            go_wp2_with fail
            refine (unhide HN2 _).mono ?_; rintro e w1 ⟨rfl, rfl⟩
            go_wp2_with fail
            refine (unhide HU _ (by (repeat (first | exact Below.refl _ _ | refine bA ?_ _ | refine Below.setCell ?_ (by simp <;> omega) _)))).mono ?_; rintro e w3 ⟨rfl, hb3⟩
            obtain ⟨hc, hf⟩ := bcell hb3
            have hs : w.heap.size + 2 ≤ w3.heap.size := (by have := hb3.size; simpa using this)
            have hB := bT (by (repeat (first | exact Below.refl _ _ | refine bA ?_ _ | refine Below.setCell ?_ (by simp <;> omega) _)) : Below w.heap.size w _) hb3
            clear hb3
            go_wp2
            go_ret
            exact ⟨congrArg (fun z => Ending.returned (.bool z)) (unhide HE).symm, hB⟩
        · cases p4
          · by_cases hL : L = 0
            · subst hL
              cases p5
              · by_cases hR : R = 0
                · subst hR
                  have HE := hide (unhide HYes ⟨by first | rfl | trivial, by first | rfl | trivial, Or.inl (by first | rfl | trivial), Or.inl (by first | rfl | trivial), Or.inr rfl, Or.inr rfl⟩)
                  clear HNo HYes
                  go_enter Tryd.func46, Tryd.ntmps46
                  go_wp2_with fail
                  refine (unhide HN1 _).mono ?_; rintro e w1 ⟨rfl, rfl⟩
                  go_wp2_with fail
                  refine (unhide HN2 _).mono ?_; rintro e w1 ⟨rfl, rfl⟩
                  go_wp2_with fail
                  refine (unhide HU _ (by (repeat (first | exact Below.refl _ _ | refine bA ?_ _ | refine Below.setCell ?_ (by simp <;> omega) _)))).mono ?_; rintro e w3 ⟨rfl, hb3⟩
                  obtain ⟨hc, hf⟩ := bcell hb3
                  have hs : w.heap.size + 2 ≤ w3.heap.size := (by have := hb3.size; simpa using this)
                  have hB := bT (by (repeat (first | exact Below.refl _ _ | refine bA ?_ _ | refine Below.setCell ?_ (by simp <;> omega) _)) : Below w.heap.size w _) hb3
                  clear hb3
                  go_wp2
                  go_ret
                  exact ⟨congrArg (fun z => Ending.returned (.bool z)) (unhide HE).symm, hB⟩
                · have hR1 : (R == 0) = false := beq_eq_false_iff_ne.2 hR
                  have HE := hide (unhide HNo (fun h => h.2.2.2.2.2.elim (fun h => by cases h) (fun h => hR h)))
                  clear HNo HYes
                  go_enter Tryd.func46, Tryd.ntmps46
                  go_wp2_with fail
                  refine (unhide HN1 _).mono ?_; rintro e w1 ⟨rfl, rfl⟩
                  go_wp2_with fail
                  refine (unhide HN2 _).mono ?_; rintro e w1 ⟨rfl, rfl⟩
                  go_wp2_with fail
                  refine (unhide HU _ (by (repeat (first | exact Below.refl _ _ | refine bA ?_ _ | refine Below.setCell ?_ (by simp <;> omega) _)))).mono ?_; rintro e w3 ⟨rfl, hb3⟩
                  obtain ⟨hc, hf⟩ := bcell hb3
                  have hs : w.heap.size + 2 ≤ w3.heap.size := (by have := hb3.size; simpa using this)
                  have hB := bT (by (repeat (first | exact Below.refl _ _ | refine bA ?_ _ | refine Below.setCell ?_ (by simp <;> omega) _)) : Below w.heap.size w _) hb3
                  clear hb3
                  go_wp2
                  go_ret
                  exact ⟨congrArg (fun z => Ending.returned (.bool z)) (unhide HE).symm, hB⟩
              · have HE := hide (unhide HYes ⟨by first | rfl | trivial, by first | rfl | trivial, Or.inl (by first | rfl | trivial), Or.inl (by first | rfl | trivial), Or.inr rfl, Or.inl (by first | rfl | trivial)⟩)
                clear HNo HYes
                go_enter Tryd.func46, Tryd.ntmps46
                go_wp2_with fail
                refine (unhide HN1 _).mono ?_; rintro e w1 ⟨rfl, rfl⟩
                go_wp2_with fail
                refine (unhide HN2 _).mono ?_; rintro e w1 ⟨rfl, rfl⟩
                go_wp2_with fail
                refine (unhide HU _ (by (repeat (first | exact Below.refl _ _ | refine bA ?_ _ | refine Below.setCell ?_ (by simp <;> omega) _)))).mono ?_; rintro e w3 ⟨rfl, hb3⟩
                obtain ⟨hc, hf⟩ := bcell hb3
                have hs : w.heap.size + 2 ≤ w3.heap.size := (by have := hb3.size; simpa using this)
                have hB := bT (by (repeat (first | exact Below.refl _ _ | refine bA ?_ _ | refine Below.setCell ?_ (by simp <;> omega) _)) : Below w.heap.size w _) hb3
                clear hb3
                go_wp2
                go_ret
                exact ⟨congrArg (fun z => Ending.returned (.bool z)) (unhide HE).symm, hB⟩
            · have hL1 : (L == 0) = false := beq_eq_false_iff_ne.2 hL
              have HE := hide (unhide HNo (fun h => h.2.2.2.2.1.elim (fun h => by cases h) (fun h => hL h)))
              clear HNo HYes
              go_enter Tryd.func46, Tryd.ntmps46
              go_wp2_with fail
              refine (unhide HN1 _).mono ?_; rintro e w1 ⟨rfl, rfl⟩
              go_wp2_with fail
              refine (unhide HN2 _).mono ?_; rintro e w1 ⟨rfl, rfl⟩
              go_wp2_with fail
              refine (unhide HU _ (by (repeat (first | exact Below.refl _ _ | refine bA ?_ _ | refine Below.setCell ?_ (by simp <;> omega) _)))).mono ?_; rintro e w3 ⟨rfl, hb3⟩
              obtain ⟨hc, hf⟩ := bcell hb3
              have hs : w.heap.size + 2 ≤ w3.heap.size := (by have := hb3.size; simpa using this)
              have hB := bT (by (repeat (first | exact Below.refl _ _ | refine bA ?_ _ | refine Below.setCell ?_ (by simp <;> omega) _)) : Below w.heap.size w _) hb3
              clear hb3
              go_wp2
              go_ret
              exact ⟨congrArg (fun z => Ending.returned (.bool z)) (unhide HE).symm, hB⟩
          · cases p5
            · by_cases hR : R = 0
              · subst hR
                have HE := hide (unhide HYes ⟨by first | rfl | trivial, by first | rfl | trivial, Or.inl (by first | rfl | trivial), Or.inl (by first | rfl | trivial), Or.inl (by first | rfl | trivial), Or.inr rfl⟩)
                clear HNo HYes
                go_enter Tryd.func46, Tryd.ntmps46
                go_wp2_with fail
                refine (unhide HN1 _).mono ?_; rintro e w1 ⟨rfl, rfl⟩
                go_wp2_with fail
                refine (unhide HN2 _).mono ?_; rintro e w1 ⟨rfl, rfl⟩
                go_wp2_with fail
                refine (unhide HU _ (by (repeat (first | exact Below.refl _ _ | refine bA ?_ _ | refine Below.setCell ?_ (by simp <;> omega) _)))).mono ?_; rintro e w3 ⟨rfl, hb3⟩
                obtain ⟨hc, hf⟩ := bcell hb3
                have hs : w.heap.size + 2 ≤ w3.heap.size := (by have := hb3.size; simpa using this)
                have hB := bT (by (repeat (first | exact Below.refl _ _ | refine bA ?_ _ | refine Below.setCell ?_ (by simp <;> omega) _)) : Below w.heap.size w _) hb3
                clear hb3
                go_wp2
                go_ret
                exact ⟨congrArg (fun z => Ending.returned (.bool z)) (unhide HE).symm, hB⟩
              · have hR1 : (R == 0) = false := beq_eq_false_iff_ne.2 hR
                have HE := hide (unhide HNo (fun h => h.2.2.2.2.2.elim (fun h => by cases h) (fun h => hR h)))
                clear HNo HYes
                go_enter Tryd.func46, Tryd.ntmps46
                go_wp2_with fail
                refine (unhide HN1 _).mono ?_; rintro e w1 ⟨rfl, rfl⟩
                go_wp2_with fail
                refine (unhide HN2 _).mono ?_; rintro e w1 ⟨rfl, rfl⟩
                go_wp2_with fail
                refine (unhide HU _ (by (repeat (first | exact Below.refl _ _ | refine bA ?_ _ | refine Below.setCell ?_ (by simp <;> omega) _)))).mono ?_; rintro e w3 ⟨rfl, hb3⟩
                obtain ⟨hc, hf⟩ := bcell hb3
                have hs : w.heap.size + 2 ≤ w3.heap.size := (by have := hb3.size; simpa using this)
                have hB := bT (by (repeat (first | exact Below.refl _ _ | refine bA ?_ _ | refine Below.setCell ?_ (by simp <;> omega) _)) : Below w.heap.size w _) hb3
                clear hb3
                go_wp2
                go_ret
                exact ⟨congrArg (fun z => Ending.returned (.bool z)) (unhide HE).symm, hB⟩
            · have HE := hide (unhide HYes ⟨by first | rfl | trivial, by first | rfl | trivial, Or.inl (by first | rfl | trivial), Or.inl (by first | rfl | trivial), Or.inl (by first | rfl | trivial), Or.inl (by first | rfl | trivial)⟩)
              clear HNo HYes
              go_enter Tryd.func46, Tryd.ntmps46
              go_wp2_with fail
              refine (unhide HN1 _).mono ?_; rintro e w1 ⟨rfl, rfl⟩
              go_wp2_with fail
              refine (unhide HN2 _).mono ?_; rintro e w1 ⟨rfl, rfl⟩
              go_wp2_with fail
              refine (unhide HU _ (by (repeat (first | exact Below.refl _ _ | refine bA ?_ _ | refine Below.setCell ?_ (by simp <;> omega) _)))).mono ?_; rintro e w3 ⟨rfl, hb3⟩
              obtain ⟨hc, hf⟩ := bcell hb3
              have hs : w.heap.size + 2 ≤ w3.heap.size := (by have := hb3.size; simpa using this)
              have hB := bT (by (repeat (first | exact Below.refl _ _ | refine bA ?_ _ | refine Below.setCell ?_ (by simp <;> omega) _)) : Below w.heap.size w _) hb3
              clear hb3
              go_wp2
              go_ret
              exact ⟨congrArg (fun z => Ending.returned (.bool z)) (unhide HE).symm, hB⟩
end Go.Proofs.YtahanplikbdccaaDoor
