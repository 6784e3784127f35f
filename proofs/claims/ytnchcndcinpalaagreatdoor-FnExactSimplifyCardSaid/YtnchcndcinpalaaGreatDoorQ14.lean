import Derived.Test.YtnchcndcinpalaaGreatDoorQ10
import Derived.Test.YtnchcndcinpalaaGreatDoorQ1
/-
  THE FIELDS OF A FLAT PLAN's NODE, as the specification judges them: kinds 9, 10, 11.
-/
namespace Go.Proofs.YtnchcndcinpalaaGreatDoor
open Go Go.RowKit

set_option maxRecDepth 100000 in
set_option maxHeartbeats 8000000 in
theorem l4Fields_9 (nt i : Nat) (T M Wd L R : Int) (le ls : Nat) (a4 a5 : Option Addr) (c4 c5 g cap : Nat) (w : World) :
    Calls Tryz.prog 54 #[.agg #[.int .i64 9, .int .i64 T, .int .i64 M, .int .i64 Wd, .slice a4 le c4, .slice a5 ls c5, .int .i64 L, .int .i64 R], .int .i64 (i : Int), .agg #[.slice (some ⟨g, 0, none⟩) nt cap]] w fun e w' => e = .returned (.bool (dB (FldF nt i 9 T M Wd le ls L R))) ∧ Below w.heap.size w w' := by
  have HOne := hide (fun W => l4One_calls 9 W)
  have HTwo := hide (fun W => l4Two_calls 9 W)
  have HMat := hide (fun W => l4Matches_calls 9 W)
  have HUse := hide (fun W => l4UsesEx_calls 9 T M Wd L R (.slice a4 le c4) (.slice a5 ls c5) W)
  rw [show decide (oneK 9) = true by decide] at HOne
  rw [show decide (twoK 9) = true by decide] at HTwo
  rw [show decide (matK 9) = false by decide] at HMat
  rw [show decide (exK 9 M) = false from decide_eq_false (by unfold exK; omega)] at HUse
  cases xT : (T != 0)
  · cases bM : (M != 0)
    · by_cases l1 : L < 0
      · have HE : Hid (dB (FldF nt i 9 T M Wd le ls L R) = false) := dB_false (by (try simp at *); unfold FldF oneK twoK matK exK; omega)
        go_enter Tryz.func54, Tryz.ntmps54
        go_wp2_with fail
        refine (unhide HOne _).mono ?_; rintro e w1 ⟨rfl, rfl⟩
        go_wp2
        go_ret
        exact ⟨congrArg (fun z => Ending.returned (.bool z)) HE.out.symm, bA (bA (Below.refl _ _) _) _⟩
      · by_cases l2 : L < (i : Int)
        · by_cases r1 : R < 0
          · have HE : Hid (dB (FldF nt i 9 T M Wd le ls L R) = false) := dB_false (by (try simp at *); unfold FldF oneK twoK matK exK; omega)
            go_enter Tryz.func54, Tryz.ntmps54
            go_wp2_with fail
            refine (unhide HOne _).mono ?_; rintro e w1 ⟨rfl, rfl⟩
            go_wp2_with fail
            refine (unhide HOne _).mono ?_; rintro e w1 ⟨rfl, rfl⟩
            go_wp2_with fail
            refine (unhide HTwo _).mono ?_; rintro e w1 ⟨rfl, rfl⟩
            go_wp2
            go_ret
            exact ⟨congrArg (fun z => Ending.returned (.bool z)) HE.out.symm, bA (bA (Below.refl _ _) _) _⟩
          · by_cases r2 : R < (i : Int)
            · cases bW : (Wd != 0)
              · cases bE : ((le : Int) == 0)
                · have HE : Hid (dB (FldF nt i 9 T M Wd le ls L R) = false) := dB_false (by (try simp at *); unfold FldF oneK twoK matK exK; omega)
                  go_enter Tryz.func54, Tryz.ntmps54
                  go_wp2_with fail
                  refine (unhide HOne _).mono ?_; rintro e w1 ⟨rfl, rfl⟩
                  go_wp2_with fail
                  refine (unhide HOne _).mono ?_; rintro e w1 ⟨rfl, rfl⟩
                  go_wp2_with fail
                  refine (unhide HTwo _).mono ?_; rintro e w1 ⟨rfl, rfl⟩
                  go_wp2_with fail
                  refine (unhide HTwo _).mono ?_; rintro e w1 ⟨rfl, rfl⟩
                  go_wp2_with fail
                  refine (unhide HMat _).mono ?_; rintro e w1 ⟨rfl, rfl⟩
                  go_wp2_with fail
                  refine (unhide HUse _).mono ?_; rintro e w1 ⟨rfl, hb1⟩
                  obtain ⟨hc, hf⟩ := bcell hb1
                  have hs : w.heap.size + 2 ≤ w1.heap.size := (by have := hb1.size; simpa using this)
                  have hs1 : w.heap.size < w1.heap.size := by omega
                  have hB := bT (by (repeat (first | exact Below.refl _ _ | refine bA ?_ _)) : Below w.heap.size w _) hb1
                  clear hb1 hs
                  go_wp2
                  go_ret
                  exact ⟨congrArg (fun z => Ending.returned (.bool z)) HE.out.symm, hB⟩
                · cases bS : ((ls : Int) == 0)
                  · have HE : Hid (dB (FldF nt i 9 T M Wd le ls L R) = false) := dB_false (by (try simp at *); unfold FldF oneK twoK matK exK; omega)
                    go_enter Tryz.func54, Tryz.ntmps54
                    go_wp2_with fail
                    refine (unhide HOne _).mono ?_; rintro e w1 ⟨rfl, rfl⟩
                    go_wp2_with fail
                    refine (unhide HOne _).mono ?_; rintro e w1 ⟨rfl, rfl⟩
                    go_wp2_with fail
                    refine (unhide HTwo _).mono ?_; rintro e w1 ⟨rfl, rfl⟩
                    go_wp2_with fail
                    refine (unhide HTwo _).mono ?_; rintro e w1 ⟨rfl, rfl⟩
                    go_wp2_with fail
                    refine (unhide HMat _).mono ?_; rintro e w1 ⟨rfl, rfl⟩
                    go_wp2_with fail
                    refine (unhide HUse _).mono ?_; rintro e w1 ⟨rfl, hb1⟩
                    obtain ⟨hc, hf⟩ := bcell hb1
                    have hs : w.heap.size + 2 ≤ w1.heap.size := (by have := hb1.size; simpa using this)
                    have hs1 : w.heap.size < w1.heap.size := by omega
                    have hB := bT (by (repeat (first | exact Below.refl _ _ | refine bA ?_ _)) : Below w.heap.size w _) hb1
                    clear hb1 hs
                    go_wp2
                    go_ret
                    exact ⟨congrArg (fun z => Ending.returned (.bool z)) HE.out.symm, hB⟩
                  · have HE : Hid (dB (FldF nt i 9 T M Wd le ls L R) = true) := dB_true (by (try simp at *); unfold FldF oneK twoK matK exK; omega)
                    go_enter Tryz.func54, Tryz.ntmps54
                    go_wp2_with fail
                    refine (unhide HOne _).mono ?_; rintro e w1 ⟨rfl, rfl⟩
                    go_wp2_with fail
                    refine (unhide HOne _).mono ?_; rintro e w1 ⟨rfl, rfl⟩
                    go_wp2_with fail
                    refine (unhide HTwo _).mono ?_; rintro e w1 ⟨rfl, rfl⟩
                    go_wp2_with fail
                    refine (unhide HTwo _).mono ?_; rintro e w1 ⟨rfl, rfl⟩
                    go_wp2_with fail
                    refine (unhide HMat _).mono ?_; rintro e w1 ⟨rfl, rfl⟩
                    go_wp2_with fail
                    refine (unhide HUse _).mono ?_; rintro e w1 ⟨rfl, hb1⟩
                    obtain ⟨hc, hf⟩ := bcell hb1
                    have hs : w.heap.size + 2 ≤ w1.heap.size := (by have := hb1.size; simpa using this)
                    have hs1 : w.heap.size < w1.heap.size := by omega
                    have hB := bT (by (repeat (first | exact Below.refl _ _ | refine bA ?_ _)) : Below w.heap.size w _) hb1
                    clear hb1 hs
                    go_wp2
                    go_ret
                    exact ⟨congrArg (fun z => Ending.returned (.bool z)) HE.out.symm, hB⟩
              · have HE : Hid (dB (FldF nt i 9 T M Wd le ls L R) = false) := dB_false (by (try simp at *); unfold FldF oneK twoK matK exK; omega)
                go_enter Tryz.func54, Tryz.ntmps54
                go_wp2_with fail
                refine (unhide HOne _).mono ?_; rintro e w1 ⟨rfl, rfl⟩
                go_wp2_with fail
                refine (unhide HOne _).mono ?_; rintro e w1 ⟨rfl, rfl⟩
                go_wp2_with fail
                refine (unhide HTwo _).mono ?_; rintro e w1 ⟨rfl, rfl⟩
                go_wp2_with fail
                refine (unhide HTwo _).mono ?_; rintro e w1 ⟨rfl, rfl⟩
                go_wp2_with fail
                refine (unhide HMat _).mono ?_; rintro e w1 ⟨rfl, rfl⟩
                go_wp2
                go_ret
                exact ⟨congrArg (fun z => Ending.returned (.bool z)) HE.out.symm, bA (bA (Below.refl _ _) _) _⟩
            · have HE : Hid (dB (FldF nt i 9 T M Wd le ls L R) = false) := dB_false (by (try simp at *); unfold FldF oneK twoK matK exK; omega)
              go_enter Tryz.func54, Tryz.ntmps54
              go_wp2_with fail
              refine (unhide HOne _).mono ?_; rintro e w1 ⟨rfl, rfl⟩
              go_wp2_with fail
              refine (unhide HOne _).mono ?_; rintro e w1 ⟨rfl, rfl⟩
              go_wp2_with fail
              refine (unhide HTwo _).mono ?_; rintro e w1 ⟨rfl, rfl⟩
              go_wp2
              go_ret
              exact ⟨congrArg (fun z => Ending.returned (.bool z)) HE.out.symm, bA (bA (Below.refl _ _) _) _⟩
        · have HE : Hid (dB (FldF nt i 9 T M Wd le ls L R) = false) := dB_false (by (try simp at *); unfold FldF oneK twoK matK exK; omega)
          go_enter Tryz.func54, Tryz.ntmps54
          go_wp2_with fail
          refine (unhide HOne _).mono ?_; rintro e w1 ⟨rfl, rfl⟩
          go_wp2
          go_ret
          exact ⟨congrArg (fun z => Ending.returned (.bool z)) HE.out.symm, bA (bA (Below.refl _ _) _) _⟩
    · have HE : Hid (dB (FldF nt i 9 T M Wd le ls L R) = false) := dB_false (by (try simp at *); unfold FldF oneK twoK matK exK; omega)
      go_enter Tryz.func54, Tryz.ntmps54
      go_wp2
      go_ret
      exact ⟨congrArg (fun z => Ending.returned (.bool z)) HE.out.symm, bA (bA (Below.refl _ _) _) _⟩
  · have HE : Hid (dB (FldF nt i 9 T M Wd le ls L R) = false) := dB_false (by (try simp at *); unfold FldF oneK twoK matK exK; omega)
    go_enter Tryz.func54, Tryz.ntmps54
    go_wp2
    go_ret
    exact ⟨congrArg (fun z => Ending.returned (.bool z)) HE.out.symm, bA (bA (Below.refl _ _) _) _⟩

set_option maxRecDepth 100000 in
set_option maxHeartbeats 8000000 in
theorem l4Fields_10 (nt i : Nat) (T M Wd L R : Int) (le ls : Nat) (a4 a5 : Option Addr) (c4 c5 g cap : Nat) (w : World) :
    Calls Tryz.prog 54 #[.agg #[.int .i64 10, .int .i64 T, .int .i64 M, .int .i64 Wd, .slice a4 le c4, .slice a5 ls c5, .int .i64 L, .int .i64 R], .int .i64 (i : Int), .agg #[.slice (some ⟨g, 0, none⟩) nt cap]] w fun e w' => e = .returned (.bool (dB (FldF nt i 10 T M Wd le ls L R))) ∧ Below w.heap.size w w' := by
  have HOne := hide (fun W => l4One_calls 10 W)
  have HTwo := hide (fun W => l4Two_calls 10 W)
  have HMat := hide (fun W => l4Matches_calls 10 W)
  have HUse := hide (fun W => l4UsesEx_calls 10 T M Wd L R (.slice a4 le c4) (.slice a5 ls c5) W)
  rw [show decide (oneK 10) = true by decide] at HOne
  rw [show decide (twoK 10) = true by decide] at HTwo
  rw [show decide (matK 10) = true by decide] at HMat
  rw [show decide (exK 10 M) = true from decide_eq_true (by unfold exK; omega)] at HUse
  cases xT : (T != 0)
  · cases bM : (M != 0)
    · by_cases l1 : L < 0
      · have HE : Hid (dB (FldF nt i 10 T M Wd le ls L R) = false) := dB_false (by (try simp at *); unfold FldF oneK twoK matK exK; omega)
        go_enter Tryz.func54, Tryz.ntmps54
        go_wp2_with fail
        refine (unhide HOne _).mono ?_; rintro e w1 ⟨rfl, rfl⟩
        go_wp2
        go_ret
        exact ⟨congrArg (fun z => Ending.returned (.bool z)) HE.out.symm, bA (bA (Below.refl _ _) _) _⟩
      · by_cases l2 : L < (i : Int)
        · by_cases r1 : R < 0
          · have HE : Hid (dB (FldF nt i 10 T M Wd le ls L R) = false) := dB_false (by (try simp at *); unfold FldF oneK twoK matK exK; omega)
            go_enter Tryz.func54, Tryz.ntmps54
            go_wp2_with fail
            refine (unhide HOne _).mono ?_; rintro e w1 ⟨rfl, rfl⟩
            go_wp2_with fail
            refine (unhide HOne _).mono ?_; rintro e w1 ⟨rfl, rfl⟩
            go_wp2_with fail
            refine (unhide HTwo _).mono ?_; rintro e w1 ⟨rfl, rfl⟩
            go_wp2
            go_ret
            exact ⟨congrArg (fun z => Ending.returned (.bool z)) HE.out.symm, bA (bA (Below.refl _ _) _) _⟩
          · by_cases r2 : R < (i : Int)
            · cases bS : ((ls : Int) == 0)
              · have HE : Hid (dB (FldF nt i 10 T M Wd le ls L R) = false) := dB_false (by (try simp at *); unfold FldF oneK twoK matK exK; omega)
                go_enter Tryz.func54, Tryz.ntmps54
                go_wp2_with fail
                refine (unhide HOne _).mono ?_; rintro e w1 ⟨rfl, rfl⟩
                go_wp2_with fail
                refine (unhide HOne _).mono ?_; rintro e w1 ⟨rfl, rfl⟩
                go_wp2_with fail
                refine (unhide HTwo _).mono ?_; rintro e w1 ⟨rfl, rfl⟩
                go_wp2_with fail
                refine (unhide HTwo _).mono ?_; rintro e w1 ⟨rfl, rfl⟩
                go_wp2_with fail
                refine (unhide HMat _).mono ?_; rintro e w1 ⟨rfl, rfl⟩
                go_wp2_with fail
                refine (unhide HUse _).mono ?_; rintro e w1 ⟨rfl, hb1⟩
                obtain ⟨hc, hf⟩ := bcell hb1
                have hs : w.heap.size + 2 ≤ w1.heap.size := (by have := hb1.size; simpa using this)
                have hs1 : w.heap.size < w1.heap.size := by omega
                have hB := bT (by (repeat (first | exact Below.refl _ _ | refine bA ?_ _)) : Below w.heap.size w _) hb1
                clear hb1 hs
                go_wp2
                go_ret
                exact ⟨congrArg (fun z => Ending.returned (.bool z)) HE.out.symm, hB⟩
              · have HE : Hid (dB (FldF nt i 10 T M Wd le ls L R) = true) := dB_true (by (try simp at *); unfold FldF oneK twoK matK exK; omega)
                go_enter Tryz.func54, Tryz.ntmps54
                go_wp2_with fail
                refine (unhide HOne _).mono ?_; rintro e w1 ⟨rfl, rfl⟩
                go_wp2_with fail
                refine (unhide HOne _).mono ?_; rintro e w1 ⟨rfl, rfl⟩
                go_wp2_with fail
                refine (unhide HTwo _).mono ?_; rintro e w1 ⟨rfl, rfl⟩
                go_wp2_with fail
                refine (unhide HTwo _).mono ?_; rintro e w1 ⟨rfl, rfl⟩
                go_wp2_with fail
                refine (unhide HMat _).mono ?_; rintro e w1 ⟨rfl, rfl⟩
                go_wp2_with fail
                refine (unhide HUse _).mono ?_; rintro e w1 ⟨rfl, hb1⟩
                obtain ⟨hc, hf⟩ := bcell hb1
                have hs : w.heap.size + 2 ≤ w1.heap.size := (by have := hb1.size; simpa using this)
                have hs1 : w.heap.size < w1.heap.size := by omega
                have hB := bT (by (repeat (first | exact Below.refl _ _ | refine bA ?_ _)) : Below w.heap.size w _) hb1
                clear hb1 hs
                go_wp2
                go_ret
                exact ⟨congrArg (fun z => Ending.returned (.bool z)) HE.out.symm, hB⟩
            · have HE : Hid (dB (FldF nt i 10 T M Wd le ls L R) = false) := dB_false (by (try simp at *); unfold FldF oneK twoK matK exK; omega)
              go_enter Tryz.func54, Tryz.ntmps54
              go_wp2_with fail
              refine (unhide HOne _).mono ?_; rintro e w1 ⟨rfl, rfl⟩
              go_wp2_with fail
              refine (unhide HOne _).mono ?_; rintro e w1 ⟨rfl, rfl⟩
              go_wp2_with fail
              refine (unhide HTwo _).mono ?_; rintro e w1 ⟨rfl, rfl⟩
              go_wp2
              go_ret
              exact ⟨congrArg (fun z => Ending.returned (.bool z)) HE.out.symm, bA (bA (Below.refl _ _) _) _⟩
        · have HE : Hid (dB (FldF nt i 10 T M Wd le ls L R) = false) := dB_false (by (try simp at *); unfold FldF oneK twoK matK exK; omega)
          go_enter Tryz.func54, Tryz.ntmps54
          go_wp2_with fail
          refine (unhide HOne _).mono ?_; rintro e w1 ⟨rfl, rfl⟩
          go_wp2
          go_ret
          exact ⟨congrArg (fun z => Ending.returned (.bool z)) HE.out.symm, bA (bA (Below.refl _ _) _) _⟩
    · have HE : Hid (dB (FldF nt i 10 T M Wd le ls L R) = false) := dB_false (by (try simp at *); unfold FldF oneK twoK matK exK; omega)
      go_enter Tryz.func54, Tryz.ntmps54
      go_wp2
      go_ret
      exact ⟨congrArg (fun z => Ending.returned (.bool z)) HE.out.symm, bA (bA (Below.refl _ _) _) _⟩
  · have HE : Hid (dB (FldF nt i 10 T M Wd le ls L R) = false) := dB_false (by (try simp at *); unfold FldF oneK twoK matK exK; omega)
    go_enter Tryz.func54, Tryz.ntmps54
    go_wp2
    go_ret
    exact ⟨congrArg (fun z => Ending.returned (.bool z)) HE.out.symm, bA (bA (Below.refl _ _) _) _⟩

set_option maxRecDepth 100000 in
set_option maxHeartbeats 8000000 in
theorem l4Fields_11 (nt i : Nat) (T M Wd L R : Int) (le ls : Nat) (a4 a5 : Option Addr) (c4 c5 g cap : Nat) (w : World) :
    Calls Tryz.prog 54 #[.agg #[.int .i64 11, .int .i64 T, .int .i64 M, .int .i64 Wd, .slice a4 le c4, .slice a5 ls c5, .int .i64 L, .int .i64 R], .int .i64 (i : Int), .agg #[.slice (some ⟨g, 0, none⟩) nt cap]] w fun e w' => e = .returned (.bool (dB (FldF nt i 11 T M Wd le ls L R))) ∧ Below w.heap.size w w' := by
  have HOne := hide (fun W => l4One_calls 11 W)
  have HTwo := hide (fun W => l4Two_calls 11 W)
  have HMat := hide (fun W => l4Matches_calls 11 W)
  have HUse := hide (fun W => l4UsesEx_calls 11 T M Wd L R (.slice a4 le c4) (.slice a5 ls c5) W)
  rw [show decide (oneK 11) = true by decide] at HOne
  rw [show decide (twoK 11) = true by decide] at HTwo
  rw [show decide (matK 11) = true by decide] at HMat
  rw [show decide (exK 11 M) = true from decide_eq_true (by unfold exK; omega)] at HUse
  cases xT : (T != 0)
  · cases bM : (M != 0)
    · by_cases l1 : L < 0
      · have HE : Hid (dB (FldF nt i 11 T M Wd le ls L R) = false) := dB_false (by (try simp at *); unfold FldF oneK twoK matK exK; omega)
        go_enter Tryz.func54, Tryz.ntmps54
        go_wp2_with fail
        refine (unhide HOne _).mono ?_; rintro e w1 ⟨rfl, rfl⟩
        go_wp2
        go_ret
        exact ⟨congrArg (fun z => Ending.returned (.bool z)) HE.out.symm, bA (bA (Below.refl _ _) _) _⟩
      · by_cases l2 : L < (i : Int)
        · by_cases r1 : R < 0
          · have HE : Hid (dB (FldF nt i 11 T M Wd le ls L R) = false) := dB_false (by (try simp at *); unfold FldF oneK twoK matK exK; omega)
            go_enter Tryz.func54, Tryz.ntmps54
            go_wp2_with fail
            refine (unhide HOne _).mono ?_; rintro e w1 ⟨rfl, rfl⟩
            go_wp2_with fail
            refine (unhide HOne _).mono ?_; rintro e w1 ⟨rfl, rfl⟩
            go_wp2_with fail
            refine (unhide HTwo _).mono ?_; rintro e w1 ⟨rfl, rfl⟩
            go_wp2
            go_ret
            exact ⟨congrArg (fun z => Ending.returned (.bool z)) HE.out.symm, bA (bA (Below.refl _ _) _) _⟩
          · by_cases r2 : R < (i : Int)
            · cases bS : ((ls : Int) == 0)
              · have HE : Hid (dB (FldF nt i 11 T M Wd le ls L R) = false) := dB_false (by (try simp at *); unfold FldF oneK twoK matK exK; omega)
                go_enter Tryz.func54, Tryz.ntmps54
                go_wp2_with fail
                refine (unhide HOne _).mono ?_; rintro e w1 ⟨rfl, rfl⟩
                go_wp2_with fail
                refine (unhide HOne _).mono ?_; rintro e w1 ⟨rfl, rfl⟩
                go_wp2_with fail
                refine (unhide HTwo _).mono ?_; rintro e w1 ⟨rfl, rfl⟩
                go_wp2_with fail
                refine (unhide HTwo _).mono ?_; rintro e w1 ⟨rfl, rfl⟩
                go_wp2_with fail
                refine (unhide HMat _).mono ?_; rintro e w1 ⟨rfl, rfl⟩
                go_wp2_with fail
                refine (unhide HUse _).mono ?_; rintro e w1 ⟨rfl, hb1⟩
                obtain ⟨hc, hf⟩ := bcell hb1
                have hs : w.heap.size + 2 ≤ w1.heap.size := (by have := hb1.size; simpa using this)
                have hs1 : w.heap.size < w1.heap.size := by omega
                have hB := bT (by (repeat (first | exact Below.refl _ _ | refine bA ?_ _)) : Below w.heap.size w _) hb1
                clear hb1 hs
                go_wp2
                go_ret
                exact ⟨congrArg (fun z => Ending.returned (.bool z)) HE.out.symm, hB⟩
              · have HE : Hid (dB (FldF nt i 11 T M Wd le ls L R) = true) := dB_true (by (try simp at *); unfold FldF oneK twoK matK exK; omega)
                go_enter Tryz.func54, Tryz.ntmps54
                go_wp2_with fail
                refine (unhide HOne _).mono ?_; rintro e w1 ⟨rfl, rfl⟩
                go_wp2_with fail
                refine (unhide HOne _).mono ?_; rintro e w1 ⟨rfl, rfl⟩
                go_wp2_with fail
                refine (unhide HTwo _).mono ?_; rintro e w1 ⟨rfl, rfl⟩
                go_wp2_with fail
                refine (unhide HTwo _).mono ?_; rintro e w1 ⟨rfl, rfl⟩
                go_wp2_with fail
                refine (unhide HMat _).mono ?_; rintro e w1 ⟨rfl, rfl⟩
                go_wp2_with fail
                refine (unhide HUse _).mono ?_; rintro e w1 ⟨rfl, hb1⟩
                obtain ⟨hc, hf⟩ := bcell hb1
                have hs : w.heap.size + 2 ≤ w1.heap.size := (by have := hb1.size; simpa using this)
                have hs1 : w.heap.size < w1.heap.size := by omega
                have hB := bT (by (repeat (first | exact Below.refl _ _ | refine bA ?_ _)) : Below w.heap.size w _) hb1
                clear hb1 hs
                go_wp2
                go_ret
                exact ⟨congrArg (fun z => Ending.returned (.bool z)) HE.out.symm, hB⟩
            · have HE : Hid (dB (FldF nt i 11 T M Wd le ls L R) = false) := dB_false (by (try simp at *); unfold FldF oneK twoK matK exK; omega)
              go_enter Tryz.func54, Tryz.ntmps54
              go_wp2_with fail
              refine (unhide HOne _).mono ?_; rintro e w1 ⟨rfl, rfl⟩
              go_wp2_with fail
              refine (unhide HOne _).mono ?_; rintro e w1 ⟨rfl, rfl⟩
              go_wp2_with fail
              refine (unhide HTwo _).mono ?_; rintro e w1 ⟨rfl, rfl⟩
              go_wp2
              go_ret
              exact ⟨congrArg (fun z => Ending.returned (.bool z)) HE.out.symm, bA (bA (Below.refl _ _) _) _⟩
        · have HE : Hid (dB (FldF nt i 11 T M Wd le ls L R) = false) := dB_false (by (try simp at *); unfold FldF oneK twoK matK exK; omega)
          go_enter Tryz.func54, Tryz.ntmps54
          go_wp2_with fail
          refine (unhide HOne _).mono ?_; rintro e w1 ⟨rfl, rfl⟩
          go_wp2
          go_ret
          exact ⟨congrArg (fun z => Ending.returned (.bool z)) HE.out.symm, bA (bA (Below.refl _ _) _) _⟩
    · have HE : Hid (dB (FldF nt i 11 T M Wd le ls L R) = false) := dB_false (by (try simp at *); unfold FldF oneK twoK matK exK; omega)
      go_enter Tryz.func54, Tryz.ntmps54
      go_wp2
      go_ret
      exact ⟨congrArg (fun z => Ending.returned (.bool z)) HE.out.symm, bA (bA (Below.refl _ _) _) _⟩
  · have HE : Hid (dB (FldF nt i 11 T M Wd le ls L R) = false) := dB_false (by (try simp at *); unfold FldF oneK twoK matK exK; omega)
    go_enter Tryz.func54, Tryz.ntmps54
    go_wp2
    go_ret
    exact ⟨congrArg (fun z => Ending.returned (.bool z)) HE.out.symm, bA (bA (Below.refl _ _) _) _⟩
end Go.Proofs.YtnchcndcinpalaaGreatDoor
namespace Go.Proofs.YtnchcndcinpalaaGreatDoor
open Go Go.RowKit

theorem bwd_zero (W : Int) (ops : List O2) (j : Nat) : bwd W ops j 0 = (j : Int) := by
  cases j <;> simp [bwd]
theorem bwd_none (W : Int) (ops : List O2) (m : Int) (h : 0 < m) : bwd W ops 0 m = -1 := by simp [bwd, h]
theorem bwd_bad (W : Int) (ops : List O2) (j : Nat) (m : Int) (h : 0 < m) (hj : j < ops.length) (ht : tk ops[j].1 ops[j].2 W < 0) : bwd W ops (j + 1) m = -1 := by
  simp [bwd, h, hj, ht]
theorem bwd_step (W : Int) (ops : List O2) (j : Nat) (m : Int) (h : 0 < m) (hj : j < ops.length) (ht : ¬ tk ops[j].1 ops[j].2 W < 0) : bwd W ops (j + 1) m = bwd W ops j (m - 1 + tk ops[j].1 ops[j].2 W) := by
  simp [bwd, h, hj, ht]

set_option maxHeartbeats 1000000 in
theorem l1Start_calls (ops : List O2) (g off cap : Nat) (W : Int) (k : Nat) (i0 : Int) (w : World) (hg : g < w.heap.size) (hr : OpsAt w g off ops) (b1 : ops.length ≤ 1048576) (hk : k ≤ ops.length) (hi : i0 = (k : Int) - 1) :
    Calls Tryz.prog 119 #[.slice (some ⟨g, off, none⟩) ops.length cap, .int .i64 i0, .int .i64 W] w fun e w' => e = .returned (.int .i64 (bwd W ops k 1)) ∧ Below w.heap.size w w' := by
  have HI : Hid (i0 = (k : Int) - 1) := hi
  clear hi
  go_enter Tryz.func119, Tryz.ntmps119
  go_wp2
  go_loopw [1, 7] (fun i nd wr => ∃ iv m : Int, i = .int .i64 iv ∧ nd = .int .i64 m ∧ -1 ≤ iv ∧ iv < ops.length ∧ 0 ≤ m ∧ m ≤ (ops.length : Int) - iv ∧ bwd W ops k 1 = bwd W ops (iv + 1).toNat m ∧ Below w.heap.size w wr) (fun i _ _ => (intOf i + 1).toNat)
  case atStart =>
    have := HI.out
    exact ⟨i0, 1, rfl, rfl, by omega, by omega, by omega, by omega, by rw [show (i0 + 1).toNat = k by omega], Below.refl _ _⟩
  case round =>
    obtain ⟨iv, m, rfl, rfl, h0, h1, h2, h3, hB, hb⟩ := hrel
    have HB : Hid (bwd W ops k 1 = bwd W ops (iv + 1).toNat m) := hB
    clear hB HI
    by_cases hm : 0 < m
    · by_cases hneg : iv < 0
      · have HE : Hid (bwd W ops k 1 = -1) := by
          show _ = _
          rw [HB.out, show (iv + 1).toNat = 0 by omega, bwd_none W ops m hm]
        clear HB
        go_wp2
        go_ret
        exact ⟨congrArg (fun z => Ending.returned (.int .i64 z)) HE.out.symm, hb⟩
      · obtain ⟨j, rfl⟩ := Int.eq_ofNat_of_zero_le (show 0 ≤ iv by omega)
        have hj : j < ops.length := by omega
        have HB2 : Hid (bwd W ops k 1 = bwd W ops (j + 1) m) := by show _ = _; rw [HB.out, show ((j : Int) + 1).toNat = j + 1 by omega]
        clear HB
        obtain ⟨x0, x1⟩ := (hr.of hg hb).at j hj
        have q1 : g < wr.heap.size := Nat.lt_of_lt_of_le hg hb.size
        have htr := tk_range ops[j].1 ops[j].2 W
        have TK := fun w => l1Takes_calls ops[j].1 ops[j].2 W w
        have hbs := bwd_step W ops j m hm hj
        have hbb := bwd_bad W ops j m hm hj
        generalize tk ops[j].1 ops[j].2 W = t at *
        have HK := hide TK
        have HS := hide hbs
        have HX := hide hbb
        clear TK hbs hbb
        by_cases ht : t < 0
        · go_wp2_with fail
          refine (unhide HK _).mono ?_; rintro e w1 ⟨rfl, hb1⟩
          go_wp2
          go_ret
          exact ⟨congrArg (fun z => Ending.returned (.int .i64 z)) (HB2.out.trans (unhide HX ht)).symm, bT hb hb1⟩
        · go_wp2_with fail
          refine (unhide HK _).mono ?_; rintro e w1 ⟨rfl, hb1⟩
          have d1 := bT hb hb1
          obtain ⟨y0, y1⟩ := (hr.of hg d1).at j hj
          have q2 : g < w1.heap.size := Nat.lt_of_lt_of_le hg d1.size
          go_wp2_with fail
          refine (unhide HK _).mono ?_; rintro e w2 ⟨rfl, hb2⟩
          have d2 := bT d1 hb2
          go_wp2
          go_roundw
          case rel =>
            refine ⟨(j : Int) - 1, m - 1 + t, rfl, rfl, by omega, by omega, by omega, by omega, ?_, d2⟩
            rw [HB2.out, unhide HS ht, show ((j : Int) - 1 + 1).toNat = j by omega]
          case measure => simp [intOf]
    · obtain rfl : m = 0 := by omega
      have HE : Hid (bwd W ops k 1 = iv + 1) := by
        show _ = _
        rw [HB.out, bwd_zero]
        omega
      clear HB
      go_wp2
      go_ret
      exact ⟨congrArg (fun z => Ending.returned (.int .i64 z)) HE.out.symm, hb⟩
end Go.Proofs.YtnchcndcinpalaaGreatDoor
