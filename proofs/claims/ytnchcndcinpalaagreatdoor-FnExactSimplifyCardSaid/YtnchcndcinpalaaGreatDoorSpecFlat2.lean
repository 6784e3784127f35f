import Derived.Test.YtnchcndcinpalaaGreatDoorQ10
/-
  THE FIELDS OF A FLAT PLAN's NODE, as the specification judges them: kinds 1, 2, 3.
-/
namespace Go.Proofs.YtnchcndcinpalaaGreatDoor
open Go Go.RowKit

set_option maxRecDepth 100000 in
set_option maxHeartbeats 8000000 in
theorem l4Fields_1 (nt i : Nat) (T M Wd L R : Int) (le ls : Nat) (a4 a5 : Option Addr) (c4 c5 g cap : Nat) (w : World) :
    Calls Tryz.prog 54 #[.agg #[.int .i64 1, .int .i64 T, .int .i64 M, .int .i64 Wd, .slice a4 le c4, .slice a5 ls c5, .int .i64 L, .int .i64 R], .int .i64 (i : Int), .agg #[.slice (some ⟨g, 0, none⟩) nt cap]] w fun e w' => e = .returned (.bool (dB (FldF nt i 1 T M Wd le ls L R))) ∧ Below w.heap.size w w' := by
  have HOne := hide (fun W => l4One_calls 1 W)
  have HTwo := hide (fun W => l4Two_calls 1 W)
  have HMat := hide (fun W => l4Matches_calls 1 W)
  have HUse := hide (fun W => l4UsesEx_calls 1 T M Wd L R (.slice a4 le c4) (.slice a5 ls c5) W)
  rw [show decide (oneK 1) = false by decide] at HOne
  rw [show decide (twoK 1) = false by decide] at HTwo
  rw [show decide (matK 1) = false by decide] at HMat
  rw [show decide (exK 1 M) = false from decide_eq_false (by unfold exK; omega)] at HUse
  cases xT : (T != 0)
  · cases bM : (M != 0)
    · cases bL : (L != 0)
      · cases bR : (R != 0)
        · cases bW : (Wd != 0)
          · cases bE : ((le : Int) == 0)
            · have HE : Hid (dB (FldF nt i 1 T M Wd le ls L R) = false) := dB_false (by (try simp at *); unfold FldF oneK twoK matK exK; omega)
              go_enter Tryz.func54, Tryz.ntmps54
              go_wp2_with fail
              refine (unhide HOne _).mono ?_; rintro e w1 ⟨rfl, rfl⟩
              go_wp2_with fail
              refine (unhide HOne _).mono ?_; rintro e w1 ⟨rfl, rfl⟩
              go_wp2_with fail
              refine (unhide HTwo _).mono ?_; rintro e w1 ⟨rfl, rfl⟩
              go_wp2_with fail
              refine (unhide HTwo _).mono ?_; rintro e w1 ⟨rfl, rfl⟩
              go_wp2_with fail
              refine (unhide HMat _).mono ?_; rintro e w1 ⟨rfl, rfl⟩
              go_wp2_with fail
              refine (unhide HUse _).mono ?_; rintro e w1 ⟨rfl, hb1⟩
              obtain ⟨hc, hf⟩ := bcell hb1
              have hs : w.heap.size + 2 ≤ w1.heap.size := (by have := hb1.size; simpa using this)
              have hs1 : w.heap.size < w1.heap.size := by omega
              have hB := bT (by (repeat (first | exact Below.refl _ _ | refine bA ?_ _)) : Below w.heap.size w _) hb1
              clear hb1 hs
              go_wp2
              go_ret
              exact ⟨congrArg (fun z => Ending.returned (.bool z)) HE.out.symm, hB⟩
            · cases bS : ((ls : Int) == 0)
              · have HE : Hid (dB (FldF nt i 1 T M Wd le ls L R) = false) := dB_false (by (try simp at *); unfold FldF oneK twoK matK exK; omega)
                go_enter Tryz.func54, Tryz.ntmps54
                go_wp2_with fail
                refine (unhide HOne _).mono ?_; rintro e w1 ⟨rfl, rfl⟩
                go_wp2_with fail
                refine (unhide HOne _).mono ?_; rintro e w1 ⟨rfl, rfl⟩
                go_wp2_with fail
                refine (unhide HTwo _).mono ?_; rintro e w1 ⟨rfl, rfl⟩
                go_wp2_with fail
                refine (unhide HTwo _).mono ?_; rintro e w1 ⟨rfl, rfl⟩
                go_wp2_with fail
                refine (unhide HMat _).mono ?_; rintro e w1 ⟨rfl, rfl⟩
                go_wp2_with fail
                refine (unhide HUse _).mono ?_; rintro e w1 ⟨rfl, hb1⟩
                obtain ⟨hc, hf⟩ := bcell hb1
                have hs : w.heap.size + 2 ≤ w1.heap.size := (by have := hb1.size; simpa using this)
                have hs1 : w.heap.size < w1.heap.size := by omega
                have hB := bT (by (repeat (first | exact Below.refl _ _ | refine bA ?_ _)) : Below w.heap.size w _) hb1
                clear hb1 hs
                go_wp2
                go_ret
                exact ⟨congrArg (fun z => Ending.returned (.bool z)) HE.out.symm, hB⟩
              · have HE : Hid (dB (FldF nt i 1 T M Wd le ls L R) = true) := dB_true (by (try simp at *); unfold FldF oneK twoK matK exK; omega)
                go_enter Tryz.func54, Tryz.ntmps54
                go_wp2_with fail
                refine (unhide HOne _).mono ?_; rintro e w1 ⟨rfl, rfl⟩
                go_wp2_with fail
                refine (unhide HOne _).mono ?_; rintro e w1 ⟨rfl, rfl⟩
                go_wp2_with fail
                refine (unhide HTwo _).mono ?_; rintro e w1 ⟨rfl, rfl⟩
                go_wp2_with fail
                refine (unhide HTwo _).mono ?_; rintro e w1 ⟨rfl, rfl⟩
                go_wp2_with fail
                refine (unhide HMat _).mono ?_; rintro e w1 ⟨rfl, rfl⟩
                go_wp2_with fail
                refine (unhide HUse _).mono ?_; rintro e w1 ⟨rfl, hb1⟩
                obtain ⟨hc, hf⟩ := bcell hb1
                have hs : w.heap.size + 2 ≤ w1.heap.size := (by have := hb1.size; simpa using this)
                have hs1 : w.heap.size < w1.heap.size := by omega
                have hB := bT (by (repeat (first | exact Below.refl _ _ | refine bA ?_ _)) : Below w.heap.size w _) hb1
                clear hb1 hs
                go_wp2
                go_ret
                exact ⟨congrArg (fun z => Ending.returned (.bool z)) HE.out.symm, hB⟩
          · have HE : Hid (dB (FldF nt i 1 T M Wd le ls L R) = false) := dB_false (by (try simp at *); unfold FldF oneK twoK matK exK; omega)
            go_enter Tryz.func54, Tryz.ntmps54
            go_wp2_with fail
            refine (unhide HOne _).mono ?_; rintro e w1 ⟨rfl, rfl⟩
            go_wp2_with fail
            refine (unhide HOne _).mono ?_; rintro e w1 ⟨rfl, rfl⟩
            go_wp2_with fail
            refine (unhide HTwo _).mono ?_; rintro e w1 ⟨rfl, rfl⟩
            go_wp2_with fail
            refine (unhide HTwo _).mono ?_; rintro e w1 ⟨rfl, rfl⟩
            go_wp2_with fail
            refine (unhide HMat _).mono ?_; rintro e w1 ⟨rfl, rfl⟩
            go_wp2
            go_ret
            exact ⟨congrArg (fun z => Ending.returned (.bool z)) HE.out.symm, bA (bA (Below.refl _ _) _) _⟩
        · have HE : Hid (dB (FldF nt i 1 T M Wd le ls L R) = false) := dB_false (by (try simp at *); unfold FldF oneK twoK matK exK; omega)
          go_enter Tryz.func54, Tryz.ntmps54
          go_wp2_with fail
          refine (unhide HOne _).mono ?_; rintro e w1 ⟨rfl, rfl⟩
          go_wp2_with fail
          refine (unhide HOne _).mono ?_; rintro e w1 ⟨rfl, rfl⟩
          go_wp2_with fail
          refine (unhide HTwo _).mono ?_; rintro e w1 ⟨rfl, rfl⟩
          go_wp2_with fail
          refine (unhide HTwo _).mono ?_; rintro e w1 ⟨rfl, rfl⟩
          go_wp2
          go_ret
          exact ⟨congrArg (fun z => Ending.returned (.bool z)) HE.out.symm, bA (bA (Below.refl _ _) _) _⟩
      · have HE : Hid (dB (FldF nt i 1 T M Wd le ls L R) = false) := dB_false (by (try simp at *); unfold FldF oneK twoK matK exK; omega)
        go_enter Tryz.func54, Tryz.ntmps54
        go_wp2_with fail
        refine (unhide HOne _).mono ?_; rintro e w1 ⟨rfl, rfl⟩
        go_wp2_with fail
        refine (unhide HOne _).mono ?_; rintro e w1 ⟨rfl, rfl⟩
        go_wp2
        go_ret
        exact ⟨congrArg (fun z => Ending.returned (.bool z)) HE.out.symm, bA (bA (Below.refl _ _) _) _⟩
    · have HE : Hid (dB (FldF nt i 1 T M Wd le ls L R) = false) := dB_false (by (try simp at *); unfold FldF oneK twoK matK exK; omega)
      go_enter Tryz.func54, Tryz.ntmps54
      go_wp2
      go_ret
      exact ⟨congrArg (fun z => Ending.returned (.bool z)) HE.out.symm, bA (bA (Below.refl _ _) _) _⟩
  · have HE : Hid (dB (FldF nt i 1 T M Wd le ls L R) = false) := dB_false (by (try simp at *); unfold FldF oneK twoK matK exK; omega)
    go_enter Tryz.func54, Tryz.ntmps54
    go_wp2
    go_ret
    exact ⟨congrArg (fun z => Ending.returned (.bool z)) HE.out.symm, bA (bA (Below.refl _ _) _) _⟩

set_option maxRecDepth 100000 in
set_option maxHeartbeats 8000000 in
theorem l4Fields_2 (nt i : Nat) (T M Wd L R : Int) (le ls : Nat) (a4 a5 : Option Addr) (c4 c5 g cap : Nat) (w : World) :
    Calls Tryz.prog 54 #[.agg #[.int .i64 2, .int .i64 T, .int .i64 M, .int .i64 Wd, .slice a4 le c4, .slice a5 ls c5, .int .i64 L, .int .i64 R], .int .i64 (i : Int), .agg #[.slice (some ⟨g, 0, none⟩) nt cap]] w fun e w' => e = .returned (.bool (dB (FldF nt i 2 T M Wd le ls L R))) ∧ Below w.heap.size w w' := by
  have HOne := hide (fun W => l4One_calls 2 W)
  have HTwo := hide (fun W => l4Two_calls 2 W)
  have HMat := hide (fun W => l4Matches_calls 2 W)
  have HUse := hide (fun W => l4UsesEx_calls 2 T M Wd L R (.slice a4 le c4) (.slice a5 ls c5) W)
  rw [show decide (oneK 2) = false by decide] at HOne
  rw [show decide (twoK 2) = false by decide] at HTwo
  rw [show decide (matK 2) = false by decide] at HMat
  rw [show decide (exK 2 M) = false from decide_eq_false (by unfold exK; omega)] at HUse
  by_cases t1 : T < 0
  · have HE : Hid (dB (FldF nt i 2 T M Wd le ls L R) = false) := dB_false (by (try simp at *); unfold FldF oneK twoK matK exK; omega)
    go_enter Tryz.func54, Tryz.ntmps54
    go_wp2
    go_ret
    exact ⟨congrArg (fun z => Ending.returned (.bool z)) HE.out.symm, bA (bA (Below.refl _ _) _) _⟩
  · by_cases t2 : T < (nt : Int)
    · cases bM : (M != 0)
      · cases bL : (L != 0)
        · cases bR : (R != 0)
          · cases bW : (Wd != 0)
            · cases bE : ((le : Int) == 0)
              · have HE : Hid (dB (FldF nt i 2 T M Wd le ls L R) = false) := dB_false (by (try simp at *); unfold FldF oneK twoK matK exK; omega)
                go_enter Tryz.func54, Tryz.ntmps54
                go_wp2_with fail
                refine (unhide HOne _).mono ?_; rintro e w1 ⟨rfl, rfl⟩
                go_wp2_with fail
                refine (unhide HOne _).mono ?_; rintro e w1 ⟨rfl, rfl⟩
                go_wp2_with fail
                refine (unhide HTwo _).mono ?_; rintro e w1 ⟨rfl, rfl⟩
                go_wp2_with fail
                refine (unhide HTwo _).mono ?_; rintro e w1 ⟨rfl, rfl⟩
                go_wp2_with fail
                refine (unhide HMat _).mono ?_; rintro e w1 ⟨rfl, rfl⟩
                go_wp2_with fail
                refine (unhide HUse _).mono ?_; rintro e w1 ⟨rfl, hb1⟩
                obtain ⟨hc, hf⟩ := bcell hb1
                have hs : w.heap.size + 2 ≤ w1.heap.size := (by have := hb1.size; simpa using this)
                have hs1 : w.heap.size < w1.heap.size := by omega
                have hB := bT (by (repeat (first | exact Below.refl _ _ | refine bA ?_ _)) : Below w.heap.size w _) hb1
                clear hb1 hs
                go_wp2
                go_ret
                exact ⟨congrArg (fun z => Ending.returned (.bool z)) HE.out.symm, hB⟩
              · cases bS : ((ls : Int) == 0)
                · have HE : Hid (dB (FldF nt i 2 T M Wd le ls L R) = false) := dB_false (by (try simp at *); unfold FldF oneK twoK matK exK; omega)
                  go_enter Tryz.func54, Tryz.ntmps54
                  go_wp2_with fail
                  refine (unhide HOne _).mono ?_; rintro e w1 ⟨rfl, rfl⟩
                  go_wp2_with fail
                  refine (unhide HOne _).mono ?_; rintro e w1 ⟨rfl, rfl⟩
                  go_wp2_with fail
                  refine (unhide HTwo _).mono ?_; rintro e w1 ⟨rfl, rfl⟩
                  go_wp2_with fail
                  refine (unhide HTwo _).mono ?_; rintro e w1 ⟨rfl, rfl⟩
                  go_wp2_with fail
                  refine (unhide HMat _).mono ?_; rintro e w1 ⟨rfl, rfl⟩
                  go_wp2_with fail
                  refine (unhide HUse _).mono ?_; rintro e w1 ⟨rfl, hb1⟩
                  obtain ⟨hc, hf⟩ := bcell hb1
                  have hs : w.heap.size + 2 ≤ w1.heap.size := (by have := hb1.size; simpa using this)
                  have hs1 : w.heap.size < w1.heap.size := by omega
                  have hB := bT (by (repeat (first | exact Below.refl _ _ | refine bA ?_ _)) : Below w.heap.size w _) hb1
                  clear hb1 hs
                  go_wp2
                  go_ret
                  exact ⟨congrArg (fun z => Ending.returned (.bool z)) HE.out.symm, hB⟩
                · have HE : Hid (dB (FldF nt i 2 T M Wd le ls L R) = true) := dB_true (by (try simp at *); unfold FldF oneK twoK matK exK; omega)
                  go_enter Tryz.func54, Tryz.ntmps54
                  go_wp2_with fail
                  refine (unhide HOne _).mono ?_; rintro e w1 ⟨rfl, rfl⟩
                  go_wp2_with fail
                  refine (unhide HOne _).mono ?_; rintro e w1 ⟨rfl, rfl⟩
                  go_wp2_with fail
                  refine (unhide HTwo _).mono ?_; rintro e w1 ⟨rfl, rfl⟩
                  go_wp2_with fail
                  refine (unhide HTwo _).mono ?_; rintro e w1 ⟨rfl, rfl⟩
                  go_wp2_with fail
                  refine (unhide HMat _).mono ?_; rintro e w1 ⟨rfl, rfl⟩
                  go_wp2_with fail
                  refine (unhide HUse _).mono ?_; rintro e w1 ⟨rfl, hb1⟩
                  obtain ⟨hc, hf⟩ := bcell hb1
                  have hs : w.heap.size + 2 ≤ w1.heap.size := (by have := hb1.size; simpa using this)
                  have hs1 : w.heap.size < w1.heap.size := by omega
                  have hB := bT (by (repeat (first | exact Below.refl _ _ | refine bA ?_ _)) : Below w.heap.size w _) hb1
                  clear hb1 hs
                  go_wp2
                  go_ret
                  exact ⟨congrArg (fun z => Ending.returned (.bool z)) HE.out.symm, hB⟩
            · have HE : Hid (dB (FldF nt i 2 T M Wd le ls L R) = false) := dB_false (by (try simp at *); unfold FldF oneK twoK matK exK; omega)
              go_enter Tryz.func54, Tryz.ntmps54
              go_wp2_with fail
              refine (unhide HOne _).mono ?_; rintro e w1 ⟨rfl, rfl⟩
              go_wp2_with fail
              refine (unhide HOne _).mono ?_; rintro e w1 ⟨rfl, rfl⟩
              go_wp2_with fail
              refine (unhide HTwo _).mono ?_; rintro e w1 ⟨rfl, rfl⟩
              go_wp2_with fail
              refine (unhide HTwo _).mono ?_; rintro e w1 ⟨rfl, rfl⟩
              go_wp2_with fail
              refine (unhide HMat _).mono ?_; rintro e w1 ⟨rfl, rfl⟩
              go_wp2
              go_ret
              exact ⟨congrArg (fun z => Ending.returned (.bool z)) HE.out.symm, bA (bA (Below.refl _ _) _) _⟩
          · have HE : Hid (dB (FldF nt i 2 T M Wd le ls L R) = false) := dB_false (by (try simp at *); unfold FldF oneK twoK matK exK; omega)
            go_enter Tryz.func54, Tryz.ntmps54
            go_wp2_with fail
            refine (unhide HOne _).mono ?_; rintro e w1 ⟨rfl, rfl⟩
            go_wp2_with fail
            refine (unhide HOne _).mono ?_; rintro e w1 ⟨rfl, rfl⟩
            go_wp2_with fail
            refine (unhide HTwo _).mono ?_; rintro e w1 ⟨rfl, rfl⟩
            go_wp2_with fail
            refine (unhide HTwo _).mono ?_; rintro e w1 ⟨rfl, rfl⟩
            go_wp2
            go_ret
            exact ⟨congrArg (fun z => Ending.returned (.bool z)) HE.out.symm, bA (bA (Below.refl _ _) _) _⟩
        · have HE : Hid (dB (FldF nt i 2 T M Wd le ls L R) = false) := dB_false (by (try simp at *); unfold FldF oneK twoK matK exK; omega)
          go_enter Tryz.func54, Tryz.ntmps54
          go_wp2_with fail
          refine (unhide HOne _).mono ?_; rintro e w1 ⟨rfl, rfl⟩
          go_wp2_with fail
          refine (unhide HOne _).mono ?_; rintro e w1 ⟨rfl, rfl⟩
          go_wp2
          go_ret
          exact ⟨congrArg (fun z => Ending.returned (.bool z)) HE.out.symm, bA (bA (Below.refl _ _) _) _⟩
      · have HE : Hid (dB (FldF nt i 2 T M Wd le ls L R) = false) := dB_false (by (try simp at *); unfold FldF oneK twoK matK exK; omega)
        go_enter Tryz.func54, Tryz.ntmps54
        go_wp2
        go_ret
        exact ⟨congrArg (fun z => Ending.returned (.bool z)) HE.out.symm, bA (bA (Below.refl _ _) _) _⟩
    · have HE : Hid (dB (FldF nt i 2 T M Wd le ls L R) = false) := dB_false (by (try simp at *); unfold FldF oneK twoK matK exK; omega)
      go_enter Tryz.func54, Tryz.ntmps54
      go_wp2
      go_ret
      exact ⟨congrArg (fun z => Ending.returned (.bool z)) HE.out.symm, bA (bA (Below.refl _ _) _) _⟩

set_option maxRecDepth 100000 in
set_option maxHeartbeats 8000000 in
theorem l4Fields_3 (nt i : Nat) (T M Wd L R : Int) (le ls : Nat) (a4 a5 : Option Addr) (c4 c5 g cap : Nat) (w : World) :
    Calls Tryz.prog 54 #[.agg #[.int .i64 3, .int .i64 T, .int .i64 M, .int .i64 Wd, .slice a4 le c4, .slice a5 ls c5, .int .i64 L, .int .i64 R], .int .i64 (i : Int), .agg #[.slice (some ⟨g, 0, none⟩) nt cap]] w fun e w' => e = .returned (.bool (dB (FldF nt i 3 T M Wd le ls L R))) ∧ Below w.heap.size w w' := by
  have HOne := hide (fun W => l4One_calls 3 W)
  have HTwo := hide (fun W => l4Two_calls 3 W)
  have HMat := hide (fun W => l4Matches_calls 3 W)
  have HUse := hide (fun W => l4UsesEx_calls 3 T M Wd L R (.slice a4 le c4) (.slice a5 ls c5) W)
  rw [show decide (oneK 3) = true by decide] at HOne
  rw [show decide (twoK 3) = false by decide] at HTwo
  rw [show decide (matK 3) = false by decide] at HMat
  rw [show decide (exK 3 M) = true from decide_eq_true (by unfold exK; omega)] at HUse
  cases xT : (T != 0)
  · cases bM : (M != 0)
    · by_cases l1 : L < 0
      · have HE : Hid (dB (FldF nt i 3 T M Wd le ls L R) = false) := dB_false (by (try simp at *); unfold FldF oneK twoK matK exK; omega)
        go_enter Tryz.func54, Tryz.ntmps54
        go_wp2_with fail
        refine (unhide HOne _).mono ?_; rintro e w1 ⟨rfl, rfl⟩
        go_wp2
        go_ret
        exact ⟨congrArg (fun z => Ending.returned (.bool z)) HE.out.symm, bA (bA (Below.refl _ _) _) _⟩
      · by_cases l2 : L < (i : Int)
        · cases bR : (R != 0)
          · cases bW : (Wd != 0)
            · cases bS : ((ls : Int) == 0)
              · have HE : Hid (dB (FldF nt i 3 T M Wd le ls L R) = false) := dB_false (by (try simp at *); unfold FldF oneK twoK matK exK; omega)
                go_enter Tryz.func54, Tryz.ntmps54
                go_wp2_with fail
                refine (unhide HOne _).mono ?_; rintro e w1 ⟨rfl, rfl⟩
                go_wp2_with fail
                refine (unhide HOne _).mono ?_; rintro e w1 ⟨rfl, rfl⟩
                go_wp2_with fail
                refine (unhide HTwo _).mono ?_; rintro e w1 ⟨rfl, rfl⟩
                go_wp2_with fail
                refine (unhide HTwo _).mono ?_; rintro e w1 ⟨rfl, rfl⟩
                go_wp2_with fail
                refine (unhide HMat _).mono ?_; rintro e w1 ⟨rfl, rfl⟩
                go_wp2_with fail
                refine (unhide HUse _).mono ?_; rintro e w1 ⟨rfl, hb1⟩
                obtain ⟨hc, hf⟩ := bcell hb1
                have hs : w.heap.size + 2 ≤ w1.heap.size := (by have := hb1.size; simpa using this)
                have hs1 : w.heap.size < w1.heap.size := by omega
                have hB := bT (by (repeat (first | exact Below.refl _ _ | refine bA ?_ _)) : Below w.heap.size w _) hb1
                clear hb1 hs
                go_wp2
                go_ret
                exact ⟨congrArg (fun z => Ending.returned (.bool z)) HE.out.symm, hB⟩
              · have HE : Hid (dB (FldF nt i 3 T M Wd le ls L R) = true) := dB_true (by (try simp at *); unfold FldF oneK twoK matK exK; omega)
                go_enter Tryz.func54, Tryz.ntmps54
                go_wp2_with fail
                refine (unhide HOne _).mono ?_; rintro e w1 ⟨rfl, rfl⟩
                go_wp2_with fail
                refine (unhide HOne _).mono ?_; rintro e w1 ⟨rfl, rfl⟩
                go_wp2_with fail
                refine (unhide HTwo _).mono ?_; rintro e w1 ⟨rfl, rfl⟩
                go_wp2_with fail
                refine (unhide HTwo _).mono ?_; rintro e w1 ⟨rfl, rfl⟩
                go_wp2_with fail
                refine (unhide HMat _).mono ?_; rintro e w1 ⟨rfl, rfl⟩
                go_wp2_with fail
                refine (unhide HUse _).mono ?_; rintro e w1 ⟨rfl, hb1⟩
                obtain ⟨hc, hf⟩ := bcell hb1
                have hs : w.heap.size + 2 ≤ w1.heap.size := (by have := hb1.size; simpa using this)
                have hs1 : w.heap.size < w1.heap.size := by omega
                have hB := bT (by (repeat (first | exact Below.refl _ _ | refine bA ?_ _)) : Below w.heap.size w _) hb1
                clear hb1 hs
                go_wp2
                go_ret
                exact ⟨congrArg (fun z => Ending.returned (.bool z)) HE.out.symm, hB⟩
            · have HE : Hid (dB (FldF nt i 3 T M Wd le ls L R) = false) := dB_false (by (try simp at *); unfold FldF oneK twoK matK exK; omega)
              go_enter Tryz.func54, Tryz.ntmps54
              go_wp2_with fail
              refine (unhide HOne _).mono ?_; rintro e w1 ⟨rfl, rfl⟩
              go_wp2_with fail
              refine (unhide HOne _).mono ?_; rintro e w1 ⟨rfl, rfl⟩
              go_wp2_with fail
              refine (unhide HTwo _).mono ?_; rintro e w1 ⟨rfl, rfl⟩
              go_wp2_with fail
              refine (unhide HTwo _).mono ?_; rintro e w1 ⟨rfl, rfl⟩
              go_wp2_with fail
              refine (unhide HMat _).mono ?_; rintro e w1 ⟨rfl, rfl⟩
              go_wp2
              go_ret
              exact ⟨congrArg (fun z => Ending.returned (.bool z)) HE.out.symm, bA (bA (Below.refl _ _) _) _⟩
          · have HE : Hid (dB (FldF nt i 3 T M Wd le ls L R) = false) := dB_false (by (try simp at *); unfold FldF oneK twoK matK exK; omega)
            go_enter Tryz.func54, Tryz.ntmps54
            go_wp2_with fail
            refine (unhide HOne _).mono ?_; rintro e w1 ⟨rfl, rfl⟩
            go_wp2_with fail
            refine (unhide HOne _).mono ?_; rintro e w1 ⟨rfl, rfl⟩
            go_wp2_with fail
            refine (unhide HTwo _).mono ?_; rintro e w1 ⟨rfl, rfl⟩
            go_wp2_with fail
            refine (unhide HTwo _).mono ?_; rintro e w1 ⟨rfl, rfl⟩
            go_wp2
            go_ret
            exact ⟨congrArg (fun z => Ending.returned (.bool z)) HE.out.symm, bA (bA (Below.refl _ _) _) _⟩
        · have HE : Hid (dB (FldF nt i 3 T M Wd le ls L R) = false) := dB_false (by (try simp at *); unfold FldF oneK twoK matK exK; omega)
          go_enter Tryz.func54, Tryz.ntmps54
          go_wp2_with fail
          refine (unhide HOne _).mono ?_; rintro e w1 ⟨rfl, rfl⟩
          go_wp2
          go_ret
          exact ⟨congrArg (fun z => Ending.returned (.bool z)) HE.out.symm, bA (bA (Below.refl _ _) _) _⟩
    · have HE : Hid (dB (FldF nt i 3 T M Wd le ls L R) = false) := dB_false (by (try simp at *); unfold FldF oneK twoK matK exK; omega)
      go_enter Tryz.func54, Tryz.ntmps54
      go_wp2
      go_ret
      exact ⟨congrArg (fun z => Ending.returned (.bool z)) HE.out.symm, bA (bA (Below.refl _ _) _) _⟩
  · have HE : Hid (dB (FldF nt i 3 T M Wd le ls L R) = false) := dB_false (by (try simp at *); unfold FldF oneK twoK matK exK; omega)
    go_enter Tryz.func54, Tryz.ntmps54
    go_wp2
    go_ret
    exact ⟨congrArg (fun z => Ending.returned (.bool z)) HE.out.symm, bA (bA (Below.refl _ _) _) _⟩
end Go.Proofs.YtnchcndcinpalaaGreatDoor
