import Derived.Test.YtnchcndcinpalaaGreatDoorQ10
/-
  THE FIELDS OF A FLAT PLAN's NODE, as the specification judges them: kinds 4, 5, 6.
-/
namespace Go.Proofs.YtnchcndcinpalaaGreatDoor
open Go Go.RowKit

set_option maxRecDepth 100000 in
set_option maxHeartbeats 8000000 in
theorem l4Fields_4 (nt i : Nat) (T M Wd L R : Int) (le ls : Nat) (a4 a5 : Option Addr) (c4 c5 g cap : Nat) (w : World) :
    Calls Tryz.prog 54 #[.agg #[.int .i64 4, .int .i64 T, .int .i64 M, .int .i64 Wd, .slice a4 le c4, .slice a5 ls c5, .int .i64 L, .int .i64 R], .int .i64 (i : Int), .agg #[.slice (some ⟨g, 0, none⟩) nt cap]] w fun e w' => e = .returned (.bool (dB (FldF nt i 4 T M Wd le ls L R))) ∧ Below w.heap.size w w' := by
  have HOne := hide (fun W => l4One_calls 4 W)
  have HTwo := hide (fun W => l4Two_calls 4 W)
  have HMat := hide (fun W => l4Matches_calls 4 W)
  have HUse := hide (fun W => l4UsesEx_calls 4 T M Wd L R (.slice a4 le c4) (.slice a5 ls c5) W)
  rw [show decide (oneK 4) = true by decide] at HOne
  rw [show decide (twoK 4) = false by decide] at HTwo
  rw [show decide (matK 4) = false by decide] at HMat
  rw [show decide (exK 4 M) = false from decide_eq_false (by unfold exK; omega)] at HUse
  cases xT : (T != 0)
  · cases bM : (M != 0)
    · by_cases l1 : L < 0
      · have HE : Hid (dB (FldF nt i 4 T M Wd le ls L R) = false) := dB_false (by (try simp at *); unfold FldF oneK twoK matK exK; omega)
        go_enter Tryz.func54, Tryz.ntmps54
        go_wp2_with fail
        refine (unhide HOne _).mono ?_; rintro e w1 ⟨rfl, rfl⟩
        go_wp2
        go_ret
        exact ⟨congrArg (fun z => Ending.returned (.bool z)) HE.out.symm, bA (bA (Below.refl _ _) _) _⟩
      · by_cases l2 : L < (i : Int)
        · cases bR : (R != 0)
          · cases bW : (Wd != 0)
            · cases bE : ((le : Int) == 0)
              · have HE : Hid (dB (FldF nt i 4 T M Wd le ls L R) = false) := dB_false (by (try simp at *); unfold FldF oneK twoK matK exK; omega)
                go_enter Tryz.func54, Tryz.ntmps54
                go_wp2_with fail
                refine (unhide HOne _).mono ?_; rintro e w1 ⟨rfl, rfl⟩
                go_wp2_with fail
                refine (unhide HOne _).mono ?_; rintro e w1 ⟨rfl, rfl⟩
                go_wp2_with fail
                refine (unhide HTwo _).mono ?_; rintro e w1 ⟨rfl, rfl⟩
                go_wp2_with fail
                refine (unhide HTwo _).mono ?_; rintro e w1 ⟨rfl, rfl⟩
                go_wp2_with fail
                refine (unhide HMat _).mono ?_; rintro e w1 ⟨rfl, rfl⟩
                go_wp2_with fail
                refine (unhide HUse _).mono ?_; rintro e w1 ⟨rfl, hb1⟩
                obtain ⟨hc, hf⟩ := bcell hb1
                have hs : w.heap.size + 2 ≤ w1.heap.size := (by have := hb1.size; simpa using this)
                have hs1 : w.heap.size < w1.heap.size := by omega
                have hB := bT (by (repeat (first | exact Below.refl _ _ | refine bA ?_ _)) : Below w.heap.size w _) hb1
                clear hb1 hs
                go_wp2
                go_ret
                exact ⟨congrArg (fun z => Ending.returned (.bool z)) HE.out.symm, hB⟩
              · have HE : Hid (dB (FldF nt i 4 T M Wd le ls L R) = true) := dB_true (by (try simp at *); unfold FldF oneK twoK matK exK; omega)
                go_enter Tryz.func54, Tryz.ntmps54
                go_wp2_with fail
                refine (unhide HOne _).mono ?_; rintro e w1 ⟨rfl, rfl⟩
                go_wp2_with fail
                refine (unhide HOne _).mono ?_; rintro e w1 ⟨rfl, rfl⟩
                go_wp2_with fail
                refine (unhide HTwo _).mono ?_; rintro e w1 ⟨rfl, rfl⟩
                go_wp2_with fail
                refine (unhide HTwo _).mono ?_; rintro e w1 ⟨rfl, rfl⟩
                go_wp2_with fail
                refine (unhide HMat _).mono ?_; rintro e w1 ⟨rfl, rfl⟩
                go_wp2_with fail
                refine (unhide HUse _).mono ?_; rintro e w1 ⟨rfl, hb1⟩
                obtain ⟨hc, hf⟩ := bcell hb1
                have hs : w.heap.size + 2 ≤ w1.heap.size := (by have := hb1.size; simpa using this)
                have hs1 : w.heap.size < w1.heap.size := by omega
                have hB := bT (by (repeat (first | exact Below.refl _ _ | refine bA ?_ _)) : Below w.heap.size w _) hb1
                clear hb1 hs
                go_wp2
                go_ret
                exact ⟨congrArg (fun z => Ending.returned (.bool z)) HE.out.symm, hB⟩
            · have HE : Hid (dB (FldF nt i 4 T M Wd le ls L R) = false) := dB_false (by (try simp at *); unfold FldF oneK twoK matK exK; omega)
              go_enter Tryz.func54, Tryz.ntmps54
              go_wp2_with fail
              refine (unhide HOne _).mono ?_; rintro e w1 ⟨rfl, rfl⟩
              go_wp2_with fail
              refine (unhide HOne _).mono ?_; rintro e w1 ⟨rfl, rfl⟩
              go_wp2_with fail
              refine (unhide HTwo _).mono ?_; rintro e w1 ⟨rfl, rfl⟩
              go_wp2_with fail
              refine (unhide HTwo _).mono ?_; rintro e w1 ⟨rfl, rfl⟩
              go_wp2_with fail
              refine (unhide HMat _).mono ?_; rintro e w1 ⟨rfl, rfl⟩
              go_wp2
              go_ret
              exact ⟨congrArg (fun z => Ending.returned (.bool z)) HE.out.symm, bA (bA (Below.refl _ _) _) _⟩
          · have HE : Hid (dB (FldF nt i 4 T M Wd le ls L R) = false) := dB_false (by (try simp at *); unfold FldF oneK twoK matK exK; omega)
            go_enter Tryz.func54, Tryz.ntmps54
            go_wp2_with fail
            refine (unhide HOne _).mono ?_; rintro e w1 ⟨rfl, rfl⟩
            go_wp2_with fail
            refine (unhide HOne _).mono ?_; rintro e w1 ⟨rfl, rfl⟩
            go_wp2_with fail
            refine (unhide HTwo _).mono ?_; rintro e w1 ⟨rfl, rfl⟩
            go_wp2_with fail
            refine (unhide HTwo _).mono ?_; rintro e w1 ⟨rfl, rfl⟩
            go_wp2
            go_ret
            exact ⟨congrArg (fun z => Ending.returned (.bool z)) HE.out.symm, bA (bA (Below.refl _ _) _) _⟩
        · have HE : Hid (dB (FldF nt i 4 T M Wd le ls L R) = false) := dB_false (by (try simp at *); unfold FldF oneK twoK matK exK; omega)
          go_enter Tryz.func54, Tryz.ntmps54
          go_wp2_with fail
          refine (unhide HOne _).mono ?_; rintro e w1 ⟨rfl, rfl⟩
          go_wp2
          go_ret
          exact ⟨congrArg (fun z => Ending.returned (.bool z)) HE.out.symm, bA (bA (Below.refl _ _) _) _⟩
    · have HE : Hid (dB (FldF nt i 4 T M Wd le ls L R) = false) := dB_false (by (try simp at *); unfold FldF oneK twoK matK exK; omega)
      go_enter Tryz.func54, Tryz.ntmps54
      go_wp2
      go_ret
      exact ⟨congrArg (fun z => Ending.returned (.bool z)) HE.out.symm, bA (bA (Below.refl _ _) _) _⟩
  · have HE : Hid (dB (FldF nt i 4 T M Wd le ls L R) = false) := dB_false (by (try simp at *); unfold FldF oneK twoK matK exK; omega)
    go_enter Tryz.func54, Tryz.ntmps54
    go_wp2
    go_ret
    exact ⟨congrArg (fun z => Ending.returned (.bool z)) HE.out.symm, bA (bA (Below.refl _ _) _) _⟩

set_option maxRecDepth 100000 in
set_option maxHeartbeats 8000000 in
theorem l4Fields_5 (nt i : Nat) (T M Wd L R : Int) (le ls : Nat) (a4 a5 : Option Addr) (c4 c5 g cap : Nat) (w : World) :
    Calls Tryz.prog 54 #[.agg #[.int .i64 5, .int .i64 T, .int .i64 M, .int .i64 Wd, .slice a4 le c4, .slice a5 ls c5, .int .i64 L, .int .i64 R], .int .i64 (i : Int), .agg #[.slice (some ⟨g, 0, none⟩) nt cap]] w fun e w' => e = .returned (.bool (dB (FldF nt i 5 T M Wd le ls L R))) ∧ Below w.heap.size w w' := by
  have HOne := hide (fun W => l4One_calls 5 W)
  have HTwo := hide (fun W => l4Two_calls 5 W)
  have HMat := hide (fun W => l4Matches_calls 5 W)
  have HUse := hide (fun W => l4UsesEx_calls 5 T M Wd L R (.slice a4 le c4) (.slice a5 ls c5) W)
  rw [show decide (oneK 5) = true by decide] at HOne
  rw [show decide (twoK 5) = true by decide] at HTwo
  rw [show decide (matK 5) = true by decide] at HMat
  rw [show decide (exK 5 M) = false from decide_eq_false (by unfold exK; omega)] at HUse
  cases xT : (T != 0)
  · cases bM : (M != 0)
    · by_cases l1 : L < 0
      · have HE : Hid (dB (FldF nt i 5 T M Wd le ls L R) = false) := dB_false (by (try simp at *); unfold FldF oneK twoK matK exK; omega)
        go_enter Tryz.func54, Tryz.ntmps54
        go_wp2_with fail
        refine (unhide HOne _).mono ?_; rintro e w1 ⟨rfl, rfl⟩
        go_wp2
        go_ret
        exact ⟨congrArg (fun z => Ending.returned (.bool z)) HE.out.symm, bA (bA (Below.refl _ _) _) _⟩
      · by_cases l2 : L < (i : Int)
        · by_cases r1 : R < 0
          · have HE : Hid (dB (FldF nt i 5 T M Wd le ls L R) = false) := dB_false (by (try simp at *); unfold FldF oneK twoK matK exK; omega)
            go_enter Tryz.func54, Tryz.ntmps54
            go_wp2_with fail
            refine (unhide HOne _).mono ?_; rintro e w1 ⟨rfl, rfl⟩
            go_wp2_with fail
            refine (unhide HOne _).mono ?_; rintro e w1 ⟨rfl, rfl⟩
            go_wp2_with fail
            refine (unhide HTwo _).mono ?_; rintro e w1 ⟨rfl, rfl⟩
            go_wp2
            go_ret
            exact ⟨congrArg (fun z => Ending.returned (.bool z)) HE.out.symm, bA (bA (Below.refl _ _) _) _⟩
          · by_cases r2 : R < (i : Int)
            · cases bE : ((le : Int) == 0)
              · have HE : Hid (dB (FldF nt i 5 T M Wd le ls L R) = false) := dB_false (by (try simp at *); unfold FldF oneK twoK matK exK; omega)
                go_enter Tryz.func54, Tryz.ntmps54
                go_wp2_with fail
                refine (unhide HOne _).mono ?_; rintro e w1 ⟨rfl, rfl⟩
                go_wp2_with fail
                refine (unhide HOne _).mono ?_; rintro e w1 ⟨rfl, rfl⟩
                go_wp2_with fail
                refine (unhide HTwo _).mono ?_; rintro e w1 ⟨rfl, rfl⟩
                go_wp2_with fail
                refine (unhide HTwo _).mono ?_; rintro e w1 ⟨rfl, rfl⟩
                go_wp2_with fail
                refine (unhide HMat _).mono ?_; rintro e w1 ⟨rfl, rfl⟩
                go_wp2_with fail
                refine (unhide HUse _).mono ?_; rintro e w1 ⟨rfl, hb1⟩
                obtain ⟨hc, hf⟩ := bcell hb1
                have hs : w.heap.size + 2 ≤ w1.heap.size := (by have := hb1.size; simpa using this)
                have hs1 : w.heap.size < w1.heap.size := by omega
                have hB := bT (by (repeat (first | exact Below.refl _ _ | refine bA ?_ _)) : Below w.heap.size w _) hb1
                clear hb1 hs
                go_wp2
                go_ret
                exact ⟨congrArg (fun z => Ending.returned (.bool z)) HE.out.symm, hB⟩
              · cases bS : ((ls : Int) == 0)
                · have HE : Hid (dB (FldF nt i 5 T M Wd le ls L R) = false) := dB_false (by (try simp at *); unfold FldF oneK twoK matK exK; omega)
                  go_enter Tryz.func54, Tryz.ntmps54
                  go_wp2_with fail
                  refine (unhide HOne _).mono ?_; rintro e w1 ⟨rfl, rfl⟩
                  go_wp2_with fail
                  refine (unhide HOne _).mono ?_; rintro e w1 ⟨rfl, rfl⟩
                  go_wp2_with fail
                  refine (unhide HTwo _).mono ?_; rintro e w1 ⟨rfl, rfl⟩
                  go_wp2_with fail
                  refine (unhide HTwo _).mono ?_; rintro e w1 ⟨rfl, rfl⟩
                  go_wp2_with fail
                  refine (unhide HMat _).mono ?_; rintro e w1 ⟨rfl, rfl⟩
                  go_wp2_with fail
                  refine (unhide HUse _).mono ?_; rintro e w1 ⟨rfl, hb1⟩
                  obtain ⟨hc, hf⟩ := bcell hb1
                  have hs : w.heap.size + 2 ≤ w1.heap.size := (by have := hb1.size; simpa using this)
                  have hs1 : w.heap.size < w1.heap.size := by omega
                  have hB := bT (by (repeat (first | exact Below.refl _ _ | refine bA ?_ _)) : Below w.heap.size w _) hb1
                  clear hb1 hs
                  go_wp2
                  go_ret
                  exact ⟨congrArg (fun z => Ending.returned (.bool z)) HE.out.symm, hB⟩
                · have HE : Hid (dB (FldF nt i 5 T M Wd le ls L R) = true) := dB_true (by (try simp at *); unfold FldF oneK twoK matK exK; omega)
                  go_enter Tryz.func54, Tryz.ntmps54
                  go_wp2_with fail
                  refine (unhide HOne _).mono ?_; rintro e w1 ⟨rfl, rfl⟩
                  go_wp2_with fail
                  refine (unhide HOne _).mono ?_; rintro e w1 ⟨rfl, rfl⟩
                  go_wp2_with fail
                  refine (unhide HTwo _).mono ?_; rintro e w1 ⟨rfl, rfl⟩
                  go_wp2_with fail
                  refine (unhide HTwo _).mono ?_; rintro e w1 ⟨rfl, rfl⟩
                  go_wp2_with fail
                  refine (unhide HMat _).mono ?_; rintro e w1 ⟨rfl, rfl⟩
                  go_wp2_with fail
                  refine (unhide HUse _).mono ?_; rintro e w1 ⟨rfl, hb1⟩
                  obtain ⟨hc, hf⟩ := bcell hb1
                  have hs : w.heap.size + 2 ≤ w1.heap.size := (by have := hb1.size; simpa using this)
                  have hs1 : w.heap.size < w1.heap.size := by omega
                  have hB := bT (by (repeat (first | exact Below.refl _ _ | refine bA ?_ _)) : Below w.heap.size w _) hb1
                  clear hb1 hs
                  go_wp2
                  go_ret
                  exact ⟨congrArg (fun z => Ending.returned (.bool z)) HE.out.symm, hB⟩
            · have HE : Hid (dB (FldF nt i 5 T M Wd le ls L R) = false) := dB_false (by (try simp at *); unfold FldF oneK twoK matK exK; omega)
              go_enter Tryz.func54, Tryz.ntmps54
              go_wp2_with fail
              refine (unhide HOne _).mono ?_; rintro e w1 ⟨rfl, rfl⟩
              go_wp2_with fail
              refine (unhide HOne _).mono ?_; rintro e w1 ⟨rfl, rfl⟩
              go_wp2_with fail
              refine (unhide HTwo _).mono ?_; rintro e w1 ⟨rfl, rfl⟩
              go_wp2
              go_ret
              exact ⟨congrArg (fun z => Ending.returned (.bool z)) HE.out.symm, bA (bA (Below.refl _ _) _) _⟩
        · have HE : Hid (dB (FldF nt i 5 T M Wd le ls L R) = false) := dB_false (by (try simp at *); unfold FldF oneK twoK matK exK; omega)
          go_enter Tryz.func54, Tryz.ntmps54
          go_wp2_with fail
          refine (unhide HOne _).mono ?_; rintro e w1 ⟨rfl, rfl⟩
          go_wp2
          go_ret
          exact ⟨congrArg (fun z => Ending.returned (.bool z)) HE.out.symm, bA (bA (Below.refl _ _) _) _⟩
    · have HE : Hid (dB (FldF nt i 5 T M Wd le ls L R) = false) := dB_false (by (try simp at *); unfold FldF oneK twoK matK exK; omega)
      go_enter Tryz.func54, Tryz.ntmps54
      go_wp2
      go_ret
      exact ⟨congrArg (fun z => Ending.returned (.bool z)) HE.out.symm, bA (bA (Below.refl _ _) _) _⟩
  · have HE : Hid (dB (FldF nt i 5 T M Wd le ls L R) = false) := dB_false (by (try simp at *); unfold FldF oneK twoK matK exK; omega)
    go_enter Tryz.func54, Tryz.ntmps54
    go_wp2
    go_ret
    exact ⟨congrArg (fun z => Ending.returned (.bool z)) HE.out.symm, bA (bA (Below.refl _ _) _) _⟩

set_option maxRecDepth 100000 in
set_option maxHeartbeats 8000000 in
theorem l4Fields_6 (nt i : Nat) (T M Wd L R : Int) (le ls : Nat) (a4 a5 : Option Addr) (c4 c5 g cap : Nat) (w : World) :
    Calls Tryz.prog 54 #[.agg #[.int .i64 6, .int .i64 T, .int .i64 M, .int .i64 Wd, .slice a4 le c4, .slice a5 ls c5, .int .i64 L, .int .i64 R], .int .i64 (i : Int), .agg #[.slice (some ⟨g, 0, none⟩) nt cap]] w fun e w' => e = .returned (.bool (dB (FldF nt i 6 T M Wd le ls L R))) ∧ Below w.heap.size w w' := by
  have HOne := hide (fun W => l4One_calls 6 W)
  have HTwo := hide (fun W => l4Two_calls 6 W)
  have HMat := hide (fun W => l4Matches_calls 6 W)
  have HUse := hide (fun W => l4UsesEx_calls 6 T M Wd L R (.slice a4 le c4) (.slice a5 ls c5) W)
  rw [show decide (oneK 6) = true by decide] at HOne
  rw [show decide (twoK 6) = true by decide] at HTwo
  rw [show decide (matK 6) = true by decide] at HMat
  rw [show decide (exK 6 M) = true from decide_eq_true (by unfold exK; omega)] at HUse
  cases xT : (T != 0)
  · cases bM : (M != 0)
    · by_cases l1 : L < 0
      · have HE : Hid (dB (FldF nt i 6 T M Wd le ls L R) = false) := dB_false (by (try simp at *); unfold FldF oneK twoK matK exK; omega)
        go_enter Tryz.func54, Tryz.ntmps54
        go_wp2_with fail
        refine (unhide HOne _).mono ?_; rintro e w1 ⟨rfl, rfl⟩
        go_wp2
        go_ret
        exact ⟨congrArg (fun z => Ending.returned (.bool z)) HE.out.symm, bA (bA (Below.refl _ _) _) _⟩
      · by_cases l2 : L < (i : Int)
        · by_cases r1 : R < 0
          · have HE : Hid (dB (FldF nt i 6 T M Wd le ls L R) = false) := dB_false (by (try simp at *); unfold FldF oneK twoK matK exK; omega)
            go_enter Tryz.func54, Tryz.ntmps54
            go_wp2_with fail
            refine (unhide HOne _).mono ?_; rintro e w1 ⟨rfl, rfl⟩
            go_wp2_with fail
            refine (unhide HOne _).mono ?_; rintro e w1 ⟨rfl, rfl⟩
            go_wp2_with fail
            refine (unhide HTwo _).mono ?_; rintro e w1 ⟨rfl, rfl⟩
            go_wp2
            go_ret
            exact ⟨congrArg (fun z => Ending.returned (.bool z)) HE.out.symm, bA (bA (Below.refl _ _) _) _⟩
          · by_cases r2 : R < (i : Int)
            · cases bS : ((ls : Int) == 0)
              · have HE : Hid (dB (FldF nt i 6 T M Wd le ls L R) = false) := dB_false (by (try simp at *); unfold FldF oneK twoK matK exK; omega)
                go_enter Tryz.func54, Tryz.ntmps54
                go_wp2_with fail
                refine (unhide HOne _).mono ?_; rintro e w1 ⟨rfl, rfl⟩
                go_wp2_with fail
                refine (unhide HOne _).mono ?_; rintro e w1 ⟨rfl, rfl⟩
                go_wp2_with fail
                refine (unhide HTwo _).mono ?_; rintro e w1 ⟨rfl, rfl⟩
                go_wp2_with fail
                refine (unhide HTwo _).mono ?_; rintro e w1 ⟨rfl, rfl⟩
                go_wp2_with fail
                refine (unhide HMat _).mono ?_; rintro e w1 ⟨rfl, rfl⟩
                go_wp2_with fail
                refine (unhide HUse _).mono ?_; rintro e w1 ⟨rfl, hb1⟩
                obtain ⟨hc, hf⟩ := bcell hb1
                have hs : w.heap.size + 2 ≤ w1.heap.size := (by have := hb1.size; simpa using this)
                have hs1 : w.heap.size < w1.heap.size := by omega
                have hB := bT (by (repeat (first | exact Below.refl _ _ | refine bA ?_ _)) : Below w.heap.size w _) hb1
                clear hb1 hs
                go_wp2
                go_ret
                exact ⟨congrArg (fun z => Ending.returned (.bool z)) HE.out.symm, hB⟩
              · have HE : Hid (dB (FldF nt i 6 T M Wd le ls L R) = true) := dB_true (by (try simp at *); unfold FldF oneK twoK matK exK; omega)
                go_enter Tryz.func54, Tryz.ntmps54
                go_wp2_with fail
                refine (unhide HOne _).mono ?_; rintro e w1 ⟨rfl, rfl⟩
                go_wp2_with fail
                refine (unhide HOne _).mono ?_; rintro e w1 ⟨rfl, rfl⟩
                go_wp2_with fail
                refine (unhide HTwo _).mono ?_; rintro e w1 ⟨rfl, rfl⟩
                go_wp2_with fail
                refine (unhide HTwo _).mono ?_; rintro e w1 ⟨rfl, rfl⟩
                go_wp2_with fail
                refine (unhide HMat _).mono ?_; rintro e w1 ⟨rfl, rfl⟩
                go_wp2_with fail
                refine (unhide HUse _).mono ?_; rintro e w1 ⟨rfl, hb1⟩
                obtain ⟨hc, hf⟩ := bcell hb1
                have hs : w.heap.size + 2 ≤ w1.heap.size := (by have := hb1.size; simpa using this)
                have hs1 : w.heap.size < w1.heap.size := by omega
                have hB := bT (by (repeat (first | exact Below.refl _ _ | refine bA ?_ _)) : Below w.heap.size w _) hb1
                clear hb1 hs
                go_wp2
                go_ret
                exact ⟨congrArg (fun z => Ending.returned (.bool z)) HE.out.symm, hB⟩
            · have HE : Hid (dB (FldF nt i 6 T M Wd le ls L R) = false) := dB_false (by (try simp at *); unfold FldF oneK twoK matK exK; omega)
              go_enter Tryz.func54, Tryz.ntmps54
              go_wp2_with fail
              refine (unhide HOne _).mono ?_; rintro e w1 ⟨rfl, rfl⟩
              go_wp2_with fail
              refine (unhide HOne _).mono ?_; rintro e w1 ⟨rfl, rfl⟩
              go_wp2_with fail
              refine (unhide HTwo _).mono ?_; rintro e w1 ⟨rfl, rfl⟩
              go_wp2
              go_ret
              exact ⟨congrArg (fun z => Ending.returned (.bool z)) HE.out.symm, bA (bA (Below.refl _ _) _) _⟩
        · have HE : Hid (dB (FldF nt i 6 T M Wd le ls L R) = false) := dB_false (by (try simp at *); unfold FldF oneK twoK matK exK; omega)
          go_enter Tryz.func54, Tryz.ntmps54
          go_wp2_with fail
          refine (unhide HOne _).mono ?_; rintro e w1 ⟨rfl, rfl⟩
          go_wp2
          go_ret
          exact ⟨congrArg (fun z => Ending.returned (.bool z)) HE.out.symm, bA (bA (Below.refl _ _) _) _⟩
    · have HE : Hid (dB (FldF nt i 6 T M Wd le ls L R) = false) := dB_false (by (try simp at *); unfold FldF oneK twoK matK exK; omega)
      go_enter Tryz.func54, Tryz.ntmps54
      go_wp2
      go_ret
      exact ⟨congrArg (fun z => Ending.returned (.bool z)) HE.out.symm, bA (bA (Below.refl _ _) _) _⟩
  · have HE : Hid (dB (FldF nt i 6 T M Wd le ls L R) = false) := dB_false (by (try simp at *); unfold FldF oneK twoK matK exK; omega)
    go_enter Tryz.func54, Tryz.ntmps54
    go_wp2
    go_ret
    exact ⟨congrArg (fun z => Ending.returned (.bool z)) HE.out.symm, bA (bA (Below.refl _ _) _) _⟩
end Go.Proofs.YtnchcndcinpalaaGreatDoor
