import Derived.Test.YtnchcndcinpalaaGreatDoorQ5
import Derived.Test.YtnchcndcinpalaaGreatDoorSpecFlat11
/-
  A COPY OF A NODE of a flat plan, as the specification makes it.
-/
namespace Go.Proofs.YtnchcndcinpalaaGreatDoor
open Go Go.RowKit

/-- what is of a region of its own, seen past a store elsewhere -/
theorem OpsM.stored {w : World} {u : Value} {xs : List O2} {S : Nat → Prop} (h : OpsM w u xs S) {g o : Nat} (hn : ∀ b, S b → b ≠ g) (v : Value) : OpsM (w.setCell ⟨g, o, none⟩ v) u xs S :=
  h.but (T := fun b => b = g) (ButM.set (S := fun b => b = g) (ButM.refl _ w) rfl v) hn
theorem OpssM.stored {w : World} {u : Value} {oss : List (List O2)} {So : Nat → Prop} {Si : Nat → Nat → Prop} (h : OpssM w u oss So Si) {g o : Nat} (hn : ∀ b, So b → b ≠ g) (hm : ∀ i b, Si i b → b ≠ g) (v : Value) : OpssM (w.setCell ⟨g, o, none⟩ v) u oss So Si :=
  h.but (T := fun b => b = g) (ButM.set (S := fun b => b = g) (ButM.refl _ w) rfl v) hn hm

set_option maxRecDepth 100000 in
set_option maxHeartbeats 4000000 in
theorem l4CopyNode_calls (K T M Wd L R : Int) (Ex : List O2) (Exs : List (List O2)) (b4 b5 : Nat) (w : World) (h4 : b4 < w.heap.size) (h5 : b5 < w.heap.size) (ho4 : OpsAt w b4 0 Ex) (ho5 : OpssAt w b5 Exs) (l4 : Ex.length ≤ 1048576) (l5 : Exs.length ≤ 1048576) (hk : ∀ xs ∈ Exs, xs.length ≤ 1048576) :
    Calls Tryz.prog 26 #[.agg #[.int .i64 K, .int .i64 T, .int .i64 M, .int .i64 Wd, .slice (some ⟨b4, 0, none⟩) Ex.length Ex.length, .slice (some ⟨b5, 0, none⟩) Exs.length Exs.length, .int .i64 L, .int .i64 R]] w fun e w' => ∃ u4 u5 : Value, e = .returned (.agg #[.int .i64 K, .int .i64 T, .int .i64 M, .int .i64 Wd, u4, u5, .int .i64 L, .int .i64 R]) ∧
      OpsM w' u4 Ex (fun b => w.heap.size ≤ b) ∧ OpssM w' u5 Exs (fun b => w.heap.size ≤ b) (fun _ b => w.heap.size ≤ b) ∧ Below w.heap.size w w' := by
  have C4 := hide (fun W (hb : Below w.heap.size w W) => l4Copy_calls Ex b4 0 Ex.length W (Nat.lt_of_lt_of_le h4 hb.size) (ho4.of h4 hb) l4)
  have C5 := hide (fun W (hb : Below w.heap.size w W) => l4CopyAll_calls Exs b5 Exs.length W (Nat.lt_of_lt_of_le h5 hb.size) (ho5.of h5 hb) l5 hk)
  clear ho4 ho5 hk
  generalize Ex.length = n4 at *
  generalize h5l : Exs.length = n5 at *
  go_enter Tryz.func26, Tryz.ntmps26
  go_wp2_with fail
  have HB0 := hide (bA (bA (Below.refl w.heap.size w) (.cells #[.int .i64 K, .int .i64 T, .int .i64 M, .int .i64 Wd, .slice (some ⟨b4, 0, none⟩) n4 n4, .slice (some ⟨b5, 0, none⟩) n5 n5, .int .i64 L, .int .i64 R] 67)) (.cells #[.int .i64 0, .int .i64 0, .int .i64 0, .int .i64 0, .slice none 0 0, .slice none 0 0, .int .i64 0, .int .i64 0] 67))
  refine (unhide C4 _ (unhide HB0)).mono ?_; rintro e w1 ⟨u, rfl, hu, hb1⟩
  have N1 := N8.of (s := w.heap.size) (K := K) (T := T) (M := M) (Wd := Wd) (L := L) (R := R) (u4 := .slice (some ⟨b4, 0, none⟩) n4 n4) (u5 := .slice (some ⟨b5, 0, none⟩) n5 n5) ⟨by simp [go_sem], by simp [go_sem], by simp [go_sem], by simp [go_sem], by simp [go_sem], by simp [go_sem], by simp [go_sem], by simp [go_sem], by simp <;> omega⟩ hb1
  have P1 := N8.of (s := w.heap.size + 1) (K := 0) (T := 0) (M := 0) (Wd := 0) (L := 0) (R := 0) (u4 := .slice none 0 0) (u5 := .slice none 0 0) ⟨by simp [go_sem], by simp [go_sem], by simp [go_sem], by simp [go_sem], by simp [go_sem], by simp [go_sem], by simp [go_sem], by simp [go_sem], by simp⟩ hb1
  have fr1 : ∀ o, w1.frozen? ⟨w.heap.size, o, none⟩ = false := fun o => by rw [hb1.frozen (p := ⟨w.heap.size, o, none⟩) (by simp <;> omega)]; simp [go_sem]
  have fp1 : ∀ o, w1.frozen? ⟨w.heap.size + 1, o, none⟩ = false := fun o => by rw [hb1.frozen (p := ⟨w.heap.size + 1, o, none⟩) (by simp)]; simp [go_sem]
  have d1 := bT (unhide HB0) hb1
  have s1 : w.heap.size + 2 ≤ w1.heap.size := by have := hb1.size; simpa using this
  obtain ⟨ua, uc, rfl⟩ := hu.slice
  have HU := hide (hu.mono (T := fun b => w.heap.size + 2 ≤ b) (fun b _ e => by simpa using e))
  clear hu hb1 C4 HB0
  obtain ⟨f0, f1, f2, f3, f4, f5, f6, f7, fz⟩ := N1
  obtain ⟨p0, p1, p2, p3, p4, p5, p6, p7, pz⟩ := P1
  go_wp2_with fail
  have HB1 := hide (d1.setCell (p := ⟨w.heap.size, 4, none⟩) (Nat.le_refl _) (.slice ua Ex.length uc))
  have HU1 := hide ((unhide HU).stored (g := w.heap.size) (o := 4) (fun b e => by omega) (.slice ua Ex.length uc))
  refine (unhide C5 _ (unhide HB1)).mono ?_; rintro e w2 ⟨G, c, lb, hs, rfl, hG, hb2⟩
  have N2 := N8.of (s := w.heap.size) (K := K) (T := T) (M := M) (Wd := Wd) (L := L) (R := R) (u4 := .slice ua Ex.length uc) (u5 := .slice (some ⟨b5, 0, none⟩) n5 n5) ⟨by simp [go_sem, f0], by simp [go_sem, f1], by simp [go_sem, f2], by simp [go_sem, f3], by simp [go_sem, f4], by simp [go_sem, f5], by simp [go_sem, f6], by simp [go_sem, f7], by simp <;> omega⟩ hb2
  have P2 := N8.of (s := w.heap.size + 1) (K := 0) (T := 0) (M := 0) (Wd := 0) (L := 0) (R := 0) (u4 := .slice none 0 0) (u5 := .slice none 0 0) ⟨by simp [go_sem, p0], by simp [go_sem, p1], by simp [go_sem, p2], by simp [go_sem, p3], by simp [go_sem, p4], by simp [go_sem, p5], by simp [go_sem, p6], by simp [go_sem, p7], by simp <;> omega⟩ hb2
  have fr2 : ∀ o, w2.frozen? ⟨w.heap.size, o, none⟩ = false := fun o => by rw [hb2.frozen (p := ⟨w.heap.size, o, none⟩) (by simp <;> omega)]; simp [go_sem, fr1]
  have fp2 : ∀ o, w2.frozen? ⟨w.heap.size + 1, o, none⟩ = false := fun o => by rw [hb2.frozen (p := ⟨w.heap.size + 1, o, none⟩) (by simp <;> omega)]; simp [go_sem, fp1]
  have d2 := bT (unhide HB1) hb2
  have s2 : w.heap.size + 2 ≤ w2.heap.size := by have := hb2.size; simp at this; omega
  have hGl := hG.own.lt
  have hGB : w.heap.size + 2 ≤ G := by have := hGl.2.1; simp at this; omega
  have HU2 := hide ((unhide HU1).of hb2)
  have HV2 : Hid (OpssM w2 (.slice (some ⟨G, 0, none⟩) n5 c) Exs (fun b => w.heap.size + 2 ≤ b) (fun _ b => w.heap.size + 2 ≤ b)) := by
    show OpssM _ _ _ _ _
    rw [← h5l]
    exact (hG.opssM.mono (To := fun b => w.heap.size + 2 ≤ b) (Ti := fun _ b => w.heap.size + 2 ≤ b) (fun b _ e => by omega) (fun i b _ e => by have := e.1; simp at this; omega))
  clear h5l hb2 hG f0 f1 f2 f3 f4 f5 f6 f7 fz p0 p1 p2 p3 p4 p5 p6 p7 pz fr1 fp1 HB1 HU HU1 C5 d1
  obtain ⟨f0, f1, f2, f3, f4, f5, f6, f7, fz⟩ := N2
  obtain ⟨p0, p1, p2, p3, p4, p5, p6, p7, pz⟩ := P2
  go_wp2
  refine bodyPost_ret (v := .agg #[.int .i64 K, .int .i64 T, .int .i64 M, .int .i64 Wd, .slice ua Ex.length uc, .slice (some ⟨G, 0, none⟩) n5 c, .int .i64 L, .int .i64 R]) (by simp [results, Tryz.results26, go_sem, p0, p1, p2, p3, p4, p5, p6, p7]) rfl ⟨_, _, rfl, ?_, ?_, ?_⟩
  · refine OpsM.mono (S := fun b => w.heap.size + 2 ≤ b) ?_ (fun b _ e => by omega)
    (repeat (first | refine OpsM.stored ?_ (fun b e => by omega) _ | exact unhide HU2))
  · refine OpssM.mono (So := fun b => w.heap.size + 2 ≤ b) (Si := fun _ b => w.heap.size + 2 ≤ b) ?_ (fun b _ e => by omega) (fun _ b _ e => by omega)
    (repeat (first | refine OpssM.stored ?_ (fun b e => by omega) (fun _ b e => by omega) _ | exact unhide HV2))
  · (repeat (first | refine Below.setCell ?_ (by dsimp only; omega) _ | exact d2))
end Go.Proofs.YtnchcndcinpalaaGreatDoor
/-
  SIMPLIFY as a function of the list of nodes.
-/
namespace Go.Proofs.YtnchcndcinpalaaGreatDoor
open Go Go.RowKit

def usesB (p : Fn) (i : Int) : Bool := decide ((oneK p.K ∧ p.L = i) ∨ (twoK p.K ∧ p.R = i))
/-- how many of the first k nodes use node i -/
def usersTo (fs : List Fn) (i : Int) (k : Nat) : Nat := ((fs.take k).filter (fun p => usesB p i)).length
theorem usersTo_zero (fs : List Fn) (i : Int) : usersTo fs i 0 = 0 := by simp [usersTo]
theorem usersTo_succ (fs : List Fn) (i : Int) (k : Nat) (hk : k < fs.length) : usersTo fs i (k + 1) = usersTo fs i k + (if usesB fs[k] i = true then 1 else 0) := by
  unfold usersTo
  rw [take_snocN fs k hk, List.filter_append, List.length_append]
  congr 1
  by_cases h : usesB fs[k] i = true
  · rw [if_pos h]; simp [h]
  · rw [if_neg h]; simp [h]
theorem usersTo_le (fs : List Fn) (i : Int) (k : Nat) : usersTo fs i k ≤ k := by
  unfold usersTo
  have := List.length_filter_le (fun p => usesB p i) (fs.take k)
  have := List.length_take_le k fs
  omega
def users (fs : List Fn) (i : Int) : Nat := usersTo fs i fs.length
def kindF (fs : List Fn) (i : Int) : Int := (fs[i.toNat]?.map (fun p => p.K)).getD 0
/-- what a node asks of the mark of its L: 1 that it is true, 2 that it is false, 0 for anything else -/
def asksP (ts : List Tb) (fs : List Fn) (Rt : Int) (p : Fn) : Nat :=
  if p.K ≠ 3 ∨ kindF fs p.L ≠ 6 ∨ p.L = Rt ∨ users fs p.L ≠ 1 then 0
  else if p.Ex.length < 1 ∨ (p.Ex.getD 0 (0, 0)).1 ≠ 3 ∨ (p.Ex.getD 0 (0, 0)).2 ≠ fw ts fs p.L.toNat - 1 then 0
  else if p.Ex.length = 1 then 1
  else if p.Ex.length = 2 ∧ (p.Ex.getD 1 (0, 0)).1 = 7 then 2 else 0
theorem asksP_le (ts : List Tb) (fs : List Fn) (Rt : Int) (p : Fn) : asksP ts fs Rt p ≤ 2 := by
  unfold asksP
  repeat (split; · omega)
  omega

set_option maxRecDepth 100000 in
set_option maxHeartbeats 4000000 in
theorem l4Users_calls (fs : List Fn) (Rt : Int) (g cap : Nat) (i : Int) (w : World) (few : fs.length ≤ 8000) (hg : g < w.heap.size) (hn : FnsAt w g 0 fs) :
    Calls Tryz.prog 60 #[.agg #[.slice (some ⟨g, 0, none⟩) fs.length cap, .int .i64 Rt], .int .i64 i] w fun e w' => e = .returned (.int .i64 (users fs i : Int)) ∧ Below w.heap.size w w' := by
  have HN := hide hn
  clear hn
  go_enter Tryz.func60, Tryz.ntmps60
  go_wp2
  go_loopw [5, 6] (fun s c wr => ∃ k : Nat, k ≤ fs.length ∧ c = .int .i64 k ∧ s = .int .i64 (usersTo fs i k : Int) ∧ wr.cell? ⟨w.heap.size, 0, none⟩ = some (.slice (some ⟨g, 0, none⟩) fs.length cap) ∧ w.heap.size < wr.heap.size ∧ Below w.heap.size w wr) (fun _ c _ => fs.length - (intOf c).toNat)
  case atStart => exact ⟨0, Nat.zero_le _, rfl, by rw [usersTo_zero]; rfl, by simp [go_sem], by simp, bA (Below.refl _ _) _⟩
  case round =>
    obtain ⟨k, hk, rfl, rfl, hc, hs, hb⟩ := hrel
    by_cases hlt : k < fs.length
    · obtain ⟨c0, c1, c2, c3, c6, c7, ⟨b4, c4, _⟩, b5, c5, _⟩ := ((unhide HN).of hg hb).at k hlt
      simp only [Nat.zero_add] at c0 c1 c2 c3 c4 c5 c6 c7
      have hsu := usersTo_succ fs i k hlt
      have hle := usersTo_le fs i k
      have HOne := hide (fun W => l4One_calls (fs[k]).K W)
      have HTwo := hide (fun W => l4Two_calls (fs[k]).K W)
      have j1 : (k : Int) < (fs.length : Int) := by omega
      have q1 : g < wr.heap.size := Nat.lt_of_lt_of_le hg hb.size
      cases e : fs[k] with | mk K T M Wd Ex Exs L R =>
      rw [e] at c0 c1 c2 c3 c4 c5 c6 c7 hsu HOne HTwo
      simp only at c0 c1 c2 c3 c4 c5 c6 c7 HOne HTwo
      have HSu := hide hsu
      have hx := (bA (Below.refl wr.heap.size wr) (.cells #[.int .i64 K, .int .i64 T, .int .i64 M, .int .i64 Wd, .slice (some ⟨b4, 0, none⟩) Ex.length Ex.length, .slice (some ⟨b5, 0, none⟩) Exs.length Exs.length, .int .i64 L, .int .i64 R] 67))
      have HC2 := hide ((hx.cell (p := ⟨w.heap.size, 0, none⟩) hs).trans hc)
      clear hsu e hx
      generalize usersTo fs i k = u at *
      by_cases h1 : oneK K
      · rw [show decide (oneK K) = true from decide_eq_true h1] at HOne
        by_cases hL : L = i
        · have hL' : (L == i) = true := by simp [hL]
          have HV : Hid (usersTo fs i (k + 1) = u + 1) := by
            show _ = _
            rw [unhide HSu, if_pos (by unfold usesB; exact decide_eq_true (Or.inl ⟨h1, hL⟩))]
          clear HSu h1 hL HTwo
          go_wp2_with fail
          refine (unhide HOne _).mono ?_; rintro e w1 ⟨rfl, hw⟩; obtain rfl := hw.symm; clear hw
          go_wp2
          go_roundw
          case rel => exact ⟨k + 1, by omega, by go_num, by rw [unhide HV]; go_num, unhide HC2, by simp; omega, bA hb _⟩
          case measure => simp [intOf]; omega
        · have hL' : (L == i) = false := by simp [hL]
          by_cases h2 : twoK K
          · rw [show decide (twoK K) = true from decide_eq_true h2] at HTwo
            by_cases hR : R = i
            · have hR' : (R == i) = true := by simp [hR]
              have HV : Hid (usersTo fs i (k + 1) = u + 1) := by
                show _ = _
                rw [unhide HSu, if_pos (by unfold usesB; exact decide_eq_true (Or.inr ⟨h2, hR⟩))]
              clear HSu h1 h2 hL hR
              go_wp2_with fail
              refine (unhide HOne _).mono ?_; rintro e w1 ⟨rfl, hw⟩; obtain rfl := hw.symm; clear hw
              go_wp2_with fail
              refine (unhide HTwo _).mono ?_; rintro e w1 ⟨rfl, hw⟩; obtain rfl := hw.symm; clear hw
              go_wp2
              go_roundw
              case rel => exact ⟨k + 1, by omega, by go_num, by rw [unhide HV]; go_num, unhide HC2, by simp; omega, bA hb _⟩
              case measure => simp [intOf]; omega
            · have hR' : (R == i) = false := by simp [hR]
              have HV : Hid (usersTo fs i (k + 1) = u) := by
                show _ = _
                rw [unhide HSu, if_neg (by unfold usesB; rw [decide_eq_true_iff]; rintro (h | h); exact hL h.2; exact hR h.2)]
                rfl
              clear HSu h1 h2 hL hR
              go_wp2_with fail
              refine (unhide HOne _).mono ?_; rintro e w1 ⟨rfl, hw⟩; obtain rfl := hw.symm; clear hw
              go_wp2_with fail
              refine (unhide HTwo _).mono ?_; rintro e w1 ⟨rfl, hw⟩; obtain rfl := hw.symm; clear hw
              go_wp2
              go_roundw
              case rel => exact ⟨k + 1, by omega, by go_num, by rw [unhide HV], unhide HC2, by simp; omega, bA hb _⟩
              case measure => simp [intOf]; omega
          · rw [show decide (twoK K) = false from decide_eq_false h2] at HTwo
            have HV : Hid (usersTo fs i (k + 1) = u) := by
              show _ = _
              rw [unhide HSu, if_neg (by unfold usesB; rw [decide_eq_true_iff]; rintro (h | h); exact hL h.2; exact h2 h.1)]
              rfl
            clear HSu h1 h2 hL
            go_wp2_with fail
            refine (unhide HOne _).mono ?_; rintro e w1 ⟨rfl, hw⟩; obtain rfl := hw.symm; clear hw
            go_wp2_with fail
            refine (unhide HTwo _).mono ?_; rintro e w1 ⟨rfl, hw⟩; obtain rfl := hw.symm; clear hw
            go_wp2
            go_roundw
            case rel => exact ⟨k + 1, by omega, by go_num, by rw [unhide HV], unhide HC2, by simp; omega, bA hb _⟩
            case measure => simp [intOf]; omega
      · have h2 : ¬ twoK K := by omega
        rw [show decide (oneK K) = false from decide_eq_false h1] at HOne
        rw [show decide (twoK K) = false from decide_eq_false h2] at HTwo
        have HV : Hid (usersTo fs i (k + 1) = u) := by
          show _ = _
          rw [unhide HSu, if_neg (by unfold usesB; rw [decide_eq_true_iff]; rintro (h | h); exact h1 h.1; exact h2 h.1)]
          rfl
        clear HSu h1 h2
        go_wp2_with fail
        refine (unhide HOne _).mono ?_; rintro e w1 ⟨rfl, hw⟩; obtain rfl := hw.symm; clear hw
        go_wp2_with fail
        refine (unhide HTwo _).mono ?_; rintro e w1 ⟨rfl, hw⟩; obtain rfl := hw.symm; clear hw
        go_wp2
        go_roundw
        case rel => exact ⟨k + 1, by omega, by go_num, by rw [unhide HV], unhide HC2, by simp; omega, bA hb _⟩
        case measure => simp [intOf]; omega
    · obtain rfl : k = fs.length := by omega
      go_wp2
      go_ret
      exact ⟨rfl, hb⟩
end Go.Proofs.YtnchcndcinpalaaGreatDoor
/-
  WHAT A NODE ASKS OF A MARK, as the specification says it.
-/
namespace Go.Proofs.YtnchcndcinpalaaGreatDoor
open Go Go.RowKit

theorem asksP_0a {ts : List Tb} {fs : List Fn} {Rt : Int} {p : Fn} (h : p.K ≠ 3 ∨ kindF fs p.L ≠ 6 ∨ p.L = Rt ∨ users fs p.L ≠ 1) : asksP ts fs Rt p = 0 := by unfold asksP; rw [if_pos h]
theorem asksP_0b {ts : List Tb} {fs : List Fn} {Rt : Int} {p : Fn} (h : p.Ex.length < 1 ∨ (p.Ex.getD 0 (0, 0)).1 ≠ 3 ∨ (p.Ex.getD 0 (0, 0)).2 ≠ fw ts fs p.L.toNat - 1) : asksP ts fs Rt p = 0 := by
  unfold asksP
  by_cases h0 : p.K ≠ 3 ∨ kindF fs p.L ≠ 6 ∨ p.L = Rt ∨ users fs p.L ≠ 1
  · rw [if_pos h0]
  · rw [if_neg h0, if_pos h]
theorem asksP_of {ts : List Tb} {fs : List Fn} {Rt : Int} {p : Fn} (h1 : ¬ (p.K ≠ 3 ∨ kindF fs p.L ≠ 6 ∨ p.L = Rt ∨ users fs p.L ≠ 1)) (h2 : ¬ (p.Ex.length < 1 ∨ (p.Ex.getD 0 (0, 0)).1 ≠ 3 ∨ (p.Ex.getD 0 (0, 0)).2 ≠ fw ts fs p.L.toNat - 1)) :
    asksP ts fs Rt p = if p.Ex.length = 1 then 1 else if p.Ex.length = 2 ∧ (p.Ex.getD 1 (0, 0)).1 = 7 then 2 else 0 := by unfold asksP; rw [if_neg h1, if_neg h2]

set_option maxRecDepth 100000 in
set_option maxHeartbeats 8000000 in
theorem l4Asks_calls (ts : List Tb) (fs : List Fn) (Rt : Int) (g cap gw capw j : Nat) (w : World) (hd : DbV ts) (few : fs.length ≤ 8000) (hok : OkTo ts fs fs.length) (fit : ∀ p ∈ fs, p.Ex.length ≤ 1048576) (hj : j < fs.length) (hg : g < w.heap.size) (hn : FnsAt w g 0 fs)
    (hgw : gw < w.heap.size) (hrow : IntsAt w gw 0 (fws ts fs fs.length)) :
    Calls Tryz.prog 27 #[.agg #[.slice (some ⟨g, 0, none⟩) fs.length cap, .int .i64 Rt], .slice (some ⟨gw, 0, none⟩) fs.length capw, .int .i64 (j : Int)] w fun e w' => e = .returned (.int .i64 (asksP ts fs Rt fs[j] : Int)) ∧ Below w.heap.size w w' := by
  have HU := hide (fun (i : Int) W (hb : Below w.heap.size w W) => l4Users_calls fs Rt g cap i W few (Nat.lt_of_lt_of_le hg hb.size) (hn.of hg hb))
  obtain ⟨c0, c1, c2, c3, c6, c7, ⟨b4, c4, _, hb4, ho4⟩, b5, c5, _⟩ := hn.at j hj
  simp only [Nat.zero_add] at c0 c1 c2 c3 c4 c5 c6 c7
  have hF := (hok j hj hj).fld
  have hfit := fit _ (List.getElem_mem hj)
  have jj : (j : Int) < (fs.length : Int) := by omega
  have H0a := hide (asksP_0a (ts := ts) (fs := fs) (Rt := Rt) (p := fs[j]))
  have H0b := hide (asksP_0b (ts := ts) (fs := fs) (Rt := Rt) (p := fs[j]))
  have HOf := hide (asksP_of (ts := ts) (fs := fs) (Rt := Rt) (p := fs[j]))
  have HKid := hide (fun (q : Nat) (hq : q < fs.length) => hn.at q hq)
  have HRow := hide (fun (q : Nat) (hq : q < fs.length) => hrow.at q (by rw [fws_length]; exact hq))
  have HRg := hide (fw_range hd fs.length hok)
  clear hn hok fit hrow hd
  cases e : fs[j] with | mk K T M Wd Ex Exs L R =>
  rw [e] at c0 c1 c2 c3 c4 c5 c6 c7 hF hfit H0a H0b HOf ho4
  simp only at c0 c1 c2 c3 c4 c5 c6 c7 hF hfit H0a H0b HOf ho4
  clear e
  generalize hA : asksP ts fs Rt ⟨K, T, M, Wd, Ex, Exs, L, R⟩ = A at *
  clear hA
  by_cases hK : K = 3
  rotate_left
  · have hK' : (K != 3) = true := by simp [hK]
    have HA := hide (unhide H0a (Or.inl hK))
    clear H0a H0b HOf hK HU HKid HRow HRg hF ho4
    go_enter Tryz.func27, Tryz.ntmps27
    go_wp2
    go_ret
    exact ⟨by rw [unhide HA]; rfl, bA (bA (Below.refl _ _) _) _⟩
  subst hK
  obtain ⟨-, -, -, -, -, -, hl, -⟩ := hF
  obtain ⟨hL0, hL1⟩ := hl (by simp [oneK])
  simp only at hL0 hL1
  obtain ⟨q, rfl⟩ : ∃ q : Nat, L = (q : Int) := ⟨L.toNat, by omega⟩
  have hq : q < fs.length := by omega
  have hqi : (q : Int) < (fs.length : Int) := by omega
  have hkf : kindF fs (q : Int) = (fs[q]).K := by simp [kindF, hq]
  obtain ⟨d0, _⟩ := unhide HKid q hq
  simp only [Nat.zero_add] at d0
  have r0 := unhide HRow q hq
  rw [fws_at ts fs fs.length q hq, Nat.zero_add] at r0
  obtain ⟨z0, z1⟩ := unhide HRg q hq hq
  rw [hkf] at H0a HOf
  rw [show ((q : Int)).toNat = q by omega] at H0b HOf
  generalize (fs[q]).K = kq at *
  generalize fw ts fs q = z at *
  clear hl hkf HKid HRow HRg
  by_cases hk6 : kq = 6
  rotate_left
  · have hk' : (kq != 6) = true := by simp [hk6]
    have HA := hide (unhide H0a (Or.inr (Or.inl hk6)))
    clear H0a H0b HOf hk6 HU ho4
    go_enter Tryz.func27, Tryz.ntmps27
    go_wp2
    go_ret
    exact ⟨by rw [unhide HA]; rfl, bA (bA (Below.refl _ _) _) _⟩
  subst hk6
  by_cases hRt : (q : Int) = Rt
  · have hR' : ((q : Int) == Rt) = true := by simp [hRt]
    have HA := hide (unhide H0a (Or.inr (Or.inr (Or.inl hRt))))
    clear H0a H0b HOf hRt HU ho4
    go_enter Tryz.func27, Tryz.ntmps27
    go_wp2
    go_ret
    exact ⟨by rw [unhide HA]; rfl, bA (bA (Below.refl _ _) _) _⟩
  have hR' : ((q : Int) == Rt) = false := by simp [hRt]
  have HU1 := hide (unhide HU (q : Int))
  obtain ⟨us, hus⟩ : ∃ us, users fs (q : Int) = us := ⟨_, rfl⟩
  rw [hus] at HU1 H0a HOf
  clear HU hus
  by_cases hu1 : us = 1
  rotate_left
  · have hu' : ((us : Int) != 1) = true := by simp; omega
    have HA := hide (unhide H0a (Or.inr (Or.inr (Or.inr hu1))))
    clear H0a H0b HOf hRt ho4 hu1
    go_enter Tryz.func27, Tryz.ntmps27
    go_wp2_with fail
    refine (unhide HU1 _ (bA (bA (Below.refl _ _) _) _)).mono ?_; rintro e w1 ⟨rfl, hb1⟩
    have n1 := bT (bA (bA (Below.refl w.heap.size w) _) _) hb1
    clear hb1
    go_wp2
    go_ret
    exact ⟨by rw [unhide HA]; rfl, n1⟩
  subst hu1
  have HOf2 := hide (unhide HOf (by simp; exact hRt))
  clear H0a HOf hRt
  -- the boxes after the call
  have HAt := hide (fun (q : Nat) (hq : q < Ex.length) => ho4.at q hq)
  clear ho4
  go_enter Tryz.func27, Tryz.ntmps27
  go_wp2_with fail
  refine (unhide HU1 _ (bA (bA (Below.refl _ _) _) _)).mono ?_; rintro e w1 ⟨rfl, hb1⟩
  have n1 := bT (bA (bA (Below.refl w.heap.size w) _) _) hb1
  have N1 := N8.of (s := w.heap.size + 1) (K := 3) (T := T) (M := M) (Wd := Wd) (L := (q : Int)) (R := R) (u4 := .slice (some ⟨b4, 0, none⟩) Ex.length Ex.length) (u5 := .slice (some ⟨b5, 0, none⟩) Exs.length Exs.length) ⟨by simp [go_sem], by simp [go_sem], by simp [go_sem], by simp [go_sem], by simp [go_sem], by simp [go_sem], by simp [go_sem], by simp [go_sem], by simp <;> omega⟩ hb1
  have r1 := (n1.cell (p := ⟨gw, q, none⟩) hgw).trans r0
  have hgw1 : gw < w1.heap.size := Nat.lt_of_lt_of_le hgw n1.size
  have hb41 : b4 < w1.heap.size := Nat.lt_of_lt_of_le hb4 n1.size
  have HEx1 : Hid (∀ (x : Nat) (hx : x < Ex.length), w1.cell? ⟨b4, x * 2, none⟩ = some (.int .i64 (Ex[x]).1) ∧ w1.cell? ⟨b4, x * 2 + 1, none⟩ = some (.int .i64 (Ex[x]).2)) := fun x hx => by
    obtain ⟨e1, e2⟩ := unhide HAt x hx
    rw [Nat.zero_add] at e1 e2
    exact ⟨(n1.cell (p := ⟨b4, x * 2, none⟩) hb4).trans e1, (n1.cell (p := ⟨b4, x * 2 + 1, none⟩) hb4).trans e2⟩
  clear hb1 c0 c1 c2 c3 c4 c5 c6 c7 d0 r0 HU1 HAt
  obtain ⟨f0, f1, f2, f3, f4, f5, f6, f7, fz⟩ := id N1
  by_cases hl1 : Ex.length < 1
  · have HA := hide (unhide H0b (Or.inl hl1))
    have hl1' : (Ex.length : Int) < 1 := by omega
    clear H0b HOf2 HEx1 hl1
    go_wp2
    go_ret
    exact ⟨by rw [unhide HA]; rfl, n1⟩
  obtain ⟨x0, y0, rest, rfl⟩ : ∃ x0 y0 rest, Ex = (x0, y0) :: rest := by
    cases Ex with
    | nil => simp at hl1
    | cons a b => exact ⟨a.1, a.2, b, rfl⟩
  obtain ⟨g0, g1⟩ := unhide HEx1 0 (by simp)
  simp only [Nat.zero_mul, Nat.zero_add, List.getElem_cons_zero] at g0 g1
  have hlen : ¬ (((x0, y0) :: rest).length : Int) < 1 := by simp <;> omega
  have hlen0 : (0 : Int) < (((x0, y0) :: rest).length : Int) := by simp <;> omega
  simp only [List.getD_cons_zero] at H0b HOf2
  by_cases hx0 : x0 = 3
  rotate_left
  · have HA := hide (unhide H0b (Or.inr (Or.inl hx0)))
    have hx' : (x0 != 3) = true := by simp [hx0]
    clear H0b HOf2 HEx1 hx0 hl1
    go_wp2
    go_ret
    exact ⟨by rw [unhide HA]; rfl, n1⟩
  subst hx0
  by_cases hy0 : y0 = z - 1
  rotate_left
  · have HA := hide (unhide H0b (Or.inr (Or.inr hy0)))
    have hy' : (y0 != z - 1) = true := by simp [hy0]
    clear H0b HOf2 HEx1 hy0 hl1
    go_wp2
    go_ret
    exact ⟨by rw [unhide HA]; rfl, n1⟩
  have HA0 := hide (unhide HOf2 (by simp [hy0]))
  have hy' : (y0 != z - 1) = false := by simp [hy0]
  clear H0b HOf2 hy0 hl1
  cases rest with
  | nil =>
    have HA := hide ((unhide HA0).trans (if_pos rfl))
    clear HA0 HEx1
    go_wp2
    go_ret
    exact ⟨by rw [unhide HA]; rfl, n1⟩
  | cons a rest =>
    obtain ⟨x1, y1⟩ := a
    cases rest with
    | nil =>
      obtain ⟨g2, _⟩ := unhide HEx1 1 (by simp)
      simp only [Nat.one_mul, List.getElem_cons_succ, List.getElem_cons_zero] at g2
      by_cases hx1 : x1 = 7
      · have HA := hide ((unhide HA0).trans (by simp [hx1] : _ = 2))
        have hx1' : (x1 == 7) = true := by simp [hx1]
        clear HA0 HEx1 hx1
        go_wp2
        go_ret
        exact ⟨by rw [unhide HA]; rfl, n1⟩
      · have HA := hide ((unhide HA0).trans (by simp [hx1] : _ = 0))
        have hx1' : (x1 == 7) = false := by simp [hx1]
        clear HA0 HEx1 hx1
        go_wp2
        go_ret
        exact ⟨by rw [unhide HA]; rfl, n1⟩
    | cons b rest =>
      have HA := hide ((unhide HA0).trans (by simp : _ = 0))
      have hl2 : ((((3, y0) :: (x1, y1) :: b :: rest : List O2).length : Int) == 1) = false := beq_eq_false_iff_ne.2 (by simp; omega)
      have hl3 : ((((3, y0) :: (x1, y1) :: b :: rest : List O2).length : Int) == 2) = false := beq_eq_false_iff_ne.2 (by simp; omega)
      clear HA0 HEx1
      generalize ((3, y0) :: (x1, y1) :: b :: rest : List O2).length = n at *
      go_wp2
      go_ret
      exact ⟨by rw [unhide HA]; rfl, n1⟩
end Go.Proofs.YtnchcndcinpalaaGreatDoor
