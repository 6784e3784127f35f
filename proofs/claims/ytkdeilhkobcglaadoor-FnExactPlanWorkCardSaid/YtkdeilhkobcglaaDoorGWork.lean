import Derived.Test.YtkdeilhkobcglaaDoorSpecWork2
import Derived.Test.YtkdeilhkobcglaaDoorSpecWork3
import Derived.Test.YtkdeilhkobcglaaDoorWorkMath
import Derived.Test.YtkdeilhkobcglaaDoorTakes2
import Derived.Test.YtkdeilhkobcglaaDoorPlanRows
import Derived.Test.YtkdeilhkobcglaaDoorHandDownC
import Derived.Test.YtkdeilhkobcglaaDoorCheckPlan
/-
  THE SPECIFICATION's PlanWork.
-/
namespace Go.Proofs.YtkdeilhkobcglaaDoor
open Go Go.RowKit

set_option maxRecDepth 100000 in
set_option maxHeartbeats 4000000 in
theorem sPlanWork_calls (ts : List Tb) (ps : List Pn) (g cap gt capt : Nat) (w : World) (lp : ps.length ≤ 1048576) (lt : ts.length ≤ 1048576) (hsm : SmallT ts) (fit : ∀ p ∈ ps, p.Ex.length ≤ 1048576 ∧ p.Exs.length ≤ 1048576 ∧ ∀ xs ∈ p.Exs, xs.length ≤ 1048576)
    (hg : g < w.heap.size) (hn : PnsAt w g 0 ps) (hgt : gt < w.heap.size) (ht : TablesAt w gt 0 ts) :
    Calls Tryd.prog 14 #[.agg #[.slice (some ⟨g, 0, none⟩) ps.length cap], .agg #[.slice (some ⟨gt, 0, none⟩) ts.length capt]] w fun e w' => e = workE ts ps ∧ Below w.heap.size w w' := by
  have HC := hide (fun W (hb : Below w.heap.size w W) => sPlanOk_calls ts ps g cap gt capt W lp lt hsm fit (Nat.lt_of_lt_of_le hg hb.size) (hn.of hg hb) (Nat.lt_of_lt_of_le hgt hb.size) (ht.of hgt hb))
  by_cases hv : PlanV ts ps
  rotate_left
  · have HE := hide (workE_no hv)
    have hE := planE_no hv
    simp only [hE] at HC
    clear hn ht hsm fit hv hE
    go_enter Tryd.func14, Tryd.ntmps14
    go_wp2_with fail
    refine (unhide HC _ (bA (bA (Below.refl _ _) _) _)).mono ?_; rintro e w1 ⟨rfl, hb⟩
    have n1 := bT (bA (bA (Below.refl w.heap.size w) _) _) hb
    go_wp2
    go_ret
    exact ⟨(unhide HE).symm, n1⟩
  · have HE := hide (workE_yes hv)
    have hE := planE_yes hv
    simp only [hE] at HC
    have hG := hv.good
    have h2000 := hv.few
    have hone := hv.some
    have HS := hide (fun W (hb : Below w.heap.size w W) => l3Sizes_calls ts ps g cap gt capt W (Nat.lt_of_lt_of_le hg hb.size) (hn.of hg hb) (Nat.lt_of_lt_of_le hgt hb.size) (ht.of hgt hb) hG h2000)
    obtain ⟨m, hm⟩ : ∃ m : Nat, ps.length - 1 = m := ⟨_, rfl⟩
    have hmk : ((m : Nat) : Int) = (ps.length : Int) - 1 := by omega
    have HW := hide (fun W (hb : Below w.heap.size w W) gs caps h1 h2 => by
      have h := l3Work_calls ts ps g cap gs caps hG ps.length m (by omega) (by omega) 1 (by omega) (by omega) W (Nat.lt_of_lt_of_le hg hb.size) (hn.of hg hb) h1 h2
      rw [hmk] at h
      exact h)
    rw [hm] at HE
    have hwp : IntKind.i64.wrap ((ps.length : Int) - 1) = (ps.length : Int) - 1 := wrap_small _ (by omega) (by omega)
    clear hn ht hsm fit hv hE hG hm hmk
    generalize wid ts ps (ps.length - 1) 0 = z0 at *
    generalize wrk ts ps m 1 = z at *
    go_enter Tryd.func14, Tryd.ntmps14
    go_wp2_with fail
    refine (unhide HC _ (bA (bA (Below.refl _ _) _) _)).mono ?_; rintro e w1 ⟨rfl, hb⟩
    have n1 := bT (bA (bA (Below.refl w.heap.size w) _) _) hb
    have F := PF.of (s := w.heap.size) (g := g) (np := ps.length) (cap := cap) (gt := gt) (nt := ts.length) (capt := capt) ⟨by simp [go_sem], by simp [go_sem], by simp⟩ hb
    clear hb HC
    obtain ⟨fp, fd, fs⟩ := id F
    have fs0 : w.heap.size < w1.heap.size := by omega
    go_upto_region 4 with fail
    have RS : Hid (∀ W, Std w1 W → Calls Tryd.prog 32 #[.agg #[.slice (some ⟨g, 0, none⟩) ps.length cap], .agg #[.slice (some ⟨gt, 0, none⟩) ts.length capt]] W fun e w' => ∃ g' cap', e = .returned (.slice (some ⟨g', 0, none⟩) ps.length cap') ∧ OwnI w' W.heap.size g' cap' (sizTo ts ps ps.length) ∧ Below W.heap.size W w') := fun W h => unhide HS W (bT n1 h.2.2)
    have RW : Hid (∀ W gs caps, Std w1 W → gs < W.heap.size → IntsAt W gs 0 (sizTo ts ps ps.length) → Calls Tryd.prog 31 #[.agg #[.slice (some ⟨g, 0, none⟩) ps.length cap], .slice (some ⟨gs, 0, none⟩) ps.length caps, .int .i64 ((ps.length : Int) - 1), .int .i64 1] W fun e w' => e = .returned (.int .i64 z) ∧ Below W.heap.size W w') := fun W gs caps h h1 h2 => unhide HW W (bT n1 h.2.2) gs caps h1 h2
    refine wp_region_held_drew (S := Std w1) (by kernel_rfl) (Std.drew (Std.refl _)) (fun hHeld => ?_)
    refine takeW 0 15 (.agg #[.slice (some ⟨g, 0, none⟩) ps.length cap]) rfl rfl (by kernel_rfl) (by kernel_rfl) (by kernel_rfl) (fun _ _ _ h => h) rfl (fun wx hSw => by obtain ⟨hs1, hs2⟩ := hSw; go_simp) (by assumption) ?_
    simp only [Act.put, List.setIfInBounds_toArray, List.set_cons_succ, List.set_cons_zero]
    refine takeW 1 16 (.agg #[.slice (some ⟨g, 0, none⟩) ps.length cap]) rfl rfl (by kernel_rfl) (by kernel_rfl) (by kernel_rfl) (fun _ _ _ h => h) rfl (fun wx hSw => by obtain ⟨hs1, hs2⟩ := hSw; go_simp) (by assumption) ?_
    simp only [Act.put, List.setIfInBounds_toArray, List.set_cons_succ, List.set_cons_zero]
    refine takeW 2 17 (.agg #[.slice (some ⟨gt, 0, none⟩) ts.length capt]) rfl rfl (by kernel_rfl) (by kernel_rfl) (by kernel_rfl) (fun _ _ _ h => h) rfl (fun wx hSw => by obtain ⟨hs1, hs2⟩ := hSw; go_simp) (by assumption) ?_
    simp only [Act.put, List.setIfInBounds_toArray, List.set_cons_succ, List.set_cons_zero]
    refine takeW 4 19 (.pointer (some ⟨w.heap.size, 0, none⟩)) rfl rfl (by kernel_rfl) (by kernel_rfl) (by kernel_rfl) (fun _ _ _ h => h) rfl (fun wx hSw => by obtain ⟨hs1, hs2⟩ := hSw; go_simp) (by assumption) ?_
    simp only [Act.put, List.setIfInBounds_toArray, List.set_cons_succ, List.set_cons_zero]
    refine takeW 5 20 (.slice (some ⟨g, 0, none⟩) ps.length cap) rfl rfl (by kernel_rfl) (by kernel_rfl) (by kernel_rfl) (fun _ _ _ h => h) rfl (fun wx hSw => by obtain ⟨hs1, hs2⟩ := hSw; go_simp) (by assumption) ?_
    simp only [Act.put, List.setIfInBounds_toArray, List.set_cons_succ, List.set_cons_zero]
    refine takeW 6 21 (.int .i64 (ps.length : Int)) rfl rfl (by kernel_rfl) (by kernel_rfl) (by kernel_rfl) (fun _ _ _ h => h) rfl (fun wx hSw => by obtain ⟨hs1, hs2⟩ := hSw; go_simp) (by assumption) ?_
    simp only [Act.put, List.setIfInBounds_toArray, List.set_cons_succ, List.set_cons_zero]
    refine takeW 7 22 (.int .i64 ((ps.length : Int) - 1)) rfl rfl (by kernel_rfl) (by kernel_rfl) (by kernel_rfl) (fun _ _ _ h => h) rfl (fun wx hSw => by obtain ⟨hs1, hs2⟩ := hSw; go_simp) (by assumption) ?_
    simp only [Act.put, List.setIfInBounds_toArray, List.set_cons_succ, List.set_cons_zero]
    refine wpAnyH_ready (rs := [3]) (by kernel_rfl) (by simp) ?_
    refine AllReadyH.cons rfl (fun Kx hK => ?_) AllReadyH.nil
    go_simp
    refine (unhide RS _ (by assumption)).mono ?_
    rintro e w6 ⟨g6, c6, rfl, ho6, hb6⟩
    have hg6 := ho6.lt.1
    have hr6 := hide ho6.row
    clear ho6
    refine hK.out _ _ (Std.call (by assumption) hb6) (fun hHeld2 => ?_)
    clear hK Kx hHeld hb6
    refine wpAnyH_ready (rs := [8]) (by kernel_rfl) (by simp) ?_
    refine AllReadyH.cons rfl (fun Kx hK => ?_) AllReadyH.nil
    go_simp
    refine (unhide RW _ g6 c6 (by assumption) hg6 (unhide hr6)).mono ?_
    rintro e w7 ⟨rfl, hb7⟩
    refine hK.out _ _ (Std.call (by assumption) hb7) (fun hHeld3 => ?_)
    clear hK Kx hHeld2 hb7
    refine takeW 9 4 (.int .i64 z) rfl rfl (by kernel_rfl) (by kernel_rfl) (by kernel_rfl) (fun _ _ _ h => h) rfl (fun wx hSw => by obtain ⟨hs1, hs2⟩ := hSw; go_simp) (by assumption) ?_
    simp only [Act.put, List.setIfInBounds_toArray, List.set_cons_succ, List.set_cons_zero]
    refine wpAnyH_done (by kernel_rfl) ?_ _
    have hS : Std w1 w7 := by assumption
    go_wp2
    go_ret
    exact ⟨(unhide HE).symm, bT n1 hS.2.2⟩
end Go.Proofs.YtkdeilhkobcglaaDoor
/-
  THE PROGRAM's PlanWork.
-/
namespace Go.Proofs.YtkdeilhkobcglaaDoor
open Go Go.RowKit

theorem closC_calls (n b vb : Nat) (f : Nat → Int) (v : Int) (l : Nat) (w : World) (hc : w.cell? ⟨vb, 0, none⟩ = some (.slice (some ⟨b, 0, none⟩) n n)) (hr : FnRow w b n f) (hl : l < n) (h0 : 0 ≤ v) (h1 : v ≤ 17592186044416) (hf0 : 0 ≤ f l) (hf1 : f l ≤ 2001) :
    Calls Tryd.prog 60 #[.int .i64 v, .int .i64 (l : Int), .pointer (some ⟨vb, 0, none⟩)] w fun e w' => e = .returned (.int .i64 (capW (v * f l))) ∧ w' = w := by
  have c1 := hr.at l hl
  have s1 := hr.lt
  have j1 : (l : Int) < (n : Int) := by omega
  have hm0 : 0 ≤ v * f l := Int.mul_nonneg h0 hf0
  have hm1 : v * f l ≤ 17592186044416 * 2001 := Int.mul_le_mul h1 hf1 hf0 (by omega)
  have hwp : IntKind.i64.wrap (v * f l) = v * f l := by rw [IntKind.wrap_i64]; omega
  have HC := hide (fun W => cutOff_calls (v * f l) W)
  clear hr
  generalize f l = z at *
  generalize capW (v * z) = z2 at *
  go_enter Tryd.func60, Tryd.ntmps60
  go_wp2_with fail
  refine (unhide HC _).mono ?_; rintro e w1 ⟨rfl, hw1⟩
  subst hw1
  go_wp2
  go_ret
  exact ⟨rfl, rfl⟩
set_option maxRecDepth 100000 in
set_option maxHeartbeats 4000000 in
theorem workOf_calls (ts : List Tb) (ps : List Pn) (g cap gt capt : Nat) (w : World) (hg : g < w.heap.size) (hn : PnsAt w g 0 ps) (hgt : gt < w.heap.size) (ht : TablesAt w gt 0 ts) (hG : Good ts ps) (h2000 : ps.length ≤ 2000) (hTP : TPlan w) :
    Calls Tryd.prog 33 #[.slice (some ⟨g, 0, none⟩) ps.length cap, .slice (some ⟨gt, 0, none⟩) ts.length capt] w fun e w' => e = .returned (.int .i64 (wrk ts ps (ps.length - 1) 1)) ∧ Below w.heap.size w w' := by
  have hmf : ∀ (fn : Fn) (first cap : Array Value) (w : World), (Instr.makeFunc fn first cap).run Tryd.prog w = .ok (.func fn first cap) w := fun _ _ _ _ => rfl
  have HPR := hide (planRows_calls ts ps g cap gt capt w hg hn hgt ht hG h2000)
  have HHD := hide (fun W (hbW : Below w.heap.size w W) vb hf hC => handDownC_calls ts ps g cap vb (fC ts ps) 1 W (Nat.lt_of_lt_of_le hg hbW.size) (hn.of hg hbW) hG h2000 (hTP.of hbW) (by omega) (by omega) hf hC)
  have HWk := hide (fun C (hC : Handed ps (fC ts ps) 1 C) hcs => good_work hG hC hcs)
  have HSr := hide (fun j => siz_range ts ps (j + 1) j (by omega))
  clear hn ht hG hTP
  go_enter Tryd.func33, Tryd.ntmps33
  go_wp2_with fail
  refine (unhide HPR).mono ?_; rintro e w1 ⟨rb, rfl, hrb, hrow, hb1⟩
  have HR1 := hide hrow
  clear hrow HPR hrb
  go_wp2_with fail
  refine (unhide HHD _ (bA hb1 _) w1.heap.size (fun v l h0 h1 hl => by
    have h2 := capW_range (n := v * siz ts ps l) (Int.mul_nonneg h0 (unhide HSr l).1)
    unfold fC
    simp only [Int.toNat_natCast]
    omega) (fun W hbW v l h0 h1 hl => closC_calls ps.length rb w1.heap.size (siz ts ps) v l W ((hbW.cell (p := ⟨w1.heap.size, 0, none⟩) (by simp)).trans (by simp [go_sem])) (((unhide HR1).of (bA (Below.refl _ _) _)).of hbW) hl h0 h1 (unhide HSr l).1 (by have := (unhide HSr l).2; omega))).mono ?_; rintro e w5 ⟨eb, C, rfl, heb, hHd, hBd, hrowE, hb5⟩
  have d5 := bT (bA hb1 _) hb5
  have fv : w5.cell? ⟨w1.heap.size, 0, none⟩ = some (.slice (some ⟨rb, 0, none⟩) ps.length ps.length) := (hb5.cell (p := ⟨w1.heap.size, 0, none⟩) (by simp)).trans (by simp [go_sem])
  have fvs : w1.heap.size < w5.heap.size := by have := hb5.size; simp at this; omega
  have hR5 := ((unhide HR1).of (bA (Below.refl _ _) _)).of hb5
  have hcs : ∀ j, 0 ≤ C.getD j 0 := fun j => (hBd j).1
  have HE := hide (unhide HWk C hHd hcs)
  have HSm := hide (fun j => hBd.small h2000 j)
  have HRo := hide (fun j hj => hR5.at j hj); have HEn := hide (fun j (hj : j < ps.length) => hrowE.at j (by rw [hHd.len]; exact hj))
  have s1 := hR5.lt
  have s2 := hrowE.size
  have HB5 := hide d5
  clear hb5 hHd hBd hrowE hR5 hcs HR1 HWk HHD d5 hb1 heb hmf
  generalize w1.heap.size = vb at *
  go_wp2
  go_loopw [7, 17] (fun s c wr => ∃ (k : Nat) (m : Int), k ≤ ps.length ∧ c = .int .i64 k ∧ s = .int .i64 m ∧ m = mxF (cN ts ps C) 0 k ∧ Std w5 wr) (fun _ c _ => ps.length - (intOf c).toNat)
  case atStart => exact ⟨0, 0, Nat.zero_le _, rfl, rfl, rfl, Std.refl _⟩
  case round =>
    obtain ⟨k, m, hk, rfl, rfl, hm, hS⟩ := hrel
    have HM := hide hm
    have hm0 := mxF_nonneg (cN ts ps C) 0 k
    rw [← hm] at hm0
    clear hm
    by_cases hlt : k < ps.length
    · have j1 : (k : Int) < (ps.length : Int) := by omega
      have hnx : ∀ v, v = max m (capW (C.getD k 0 * siz ts ps k)) → v = mxF (cN ts ps C) 0 (k + 1) := fun v hv => by
        rw [mxF_succ, ← unhide HM, Nat.zero_add]
        exact hv
      have x1 := (hS.1 eb k s2).trans (unhide HEn k hlt)
      have y1 := (hS.1 rb k s1).trans (unhide HRo k hlt)
      have v1 := (hS.1 vb 0 fvs).trans fv
      obtain ⟨hx0, hx1⟩ := unhide HSm k
      obtain ⟨hy0, hy1⟩ := unhide HSr k
      have hp0 : 0 ≤ C.getD k 0 * siz ts ps k := Int.mul_nonneg hx0 hy0
      have hp1 : C.getD k 0 * siz ts ps k ≤ 17592186044416 * 2001 := Int.mul_le_mul hx1 (by omega) hy0 (by omega)
      have hwp : IntKind.i64.wrap (C.getD k 0 * siz ts ps k) = C.getD k 0 * siz ts ps k := by rw [IntKind.wrap_i64]; omega
      have HCap := hide (fun W => cutOff_calls (C.getD k 0 * siz ts ps k) W)
      have z1 : eb < wr.heap.size := Nat.lt_of_lt_of_le s2 hS.2.2.size
      have z2 : rb < wr.heap.size := Nat.lt_of_lt_of_le s1 hS.2.2.size
      have z3 : vb < wr.heap.size := Nat.lt_of_lt_of_le fvs hS.2.2.size
      have HNx0 := hide hnx
      obtain ⟨x, hx⟩ : ∃ x, C.getD k 0 = x := ⟨_, rfl⟩
      obtain ⟨y, hy⟩ : ∃ y, siz ts ps k = y := ⟨_, rfl⟩
      obtain ⟨c, hc⟩ : ∃ c, capW (x * y) = c := ⟨_, rfl⟩
      rw [hx, hy] at hp0 hp1 hwp HCap HNx0
      rw [hx] at x1 hx0 hx1
      rw [hy] at y1 hy0 hy1
      rw [hc] at HNx0
      simp only [hc] at HCap
      have X := unhide HEn k hlt
      have Y := unhide HRo k hlt
      rw [hx] at X
      rw [hy] at Y
      have HXY := hide (And.intro X Y)
      clear hnx hx hy hc X Y HEn HRo HSm HSr HE HM
      go_upto_region 7 with fail
      clear x1 y1 v1
      obtain ⟨X, Y⟩ := unhide HXY
      clear HXY
      by_cases hmc : c ≤ m
      · have HNx := hide (unhide HNx0 m (by omega))
        have h1 : ¬ m < c := by omega
        clear HNx0
        refine wp_region_held_drew (S := Std w5) (by kernel_rfl) (Std.drew hS) (fun hHeld => ?_)
        refine takeW 0 20 (.int .i64 m) rfl rfl (by kernel_rfl) (by kernel_rfl) (by kernel_rfl) (fun _ _ _ h => h) rfl (fun wx hSw => by obtain ⟨hs1, hs2⟩ := hSw; go_simp) (by assumption) ?_
        simp only [Act.put, List.setIfInBounds_toArray, List.set_cons_succ, List.set_cons_zero]
        refine takeW 1 21 (.slice (some ⟨eb, 0, none⟩) ps.length ps.length) rfl rfl (by kernel_rfl) (by kernel_rfl) (by kernel_rfl) (fun _ _ _ h => h) rfl (fun wx hSw => by obtain ⟨hs1, hs2⟩ := hSw; go_simp) (by assumption) ?_
        simp only [Act.put, List.setIfInBounds_toArray, List.set_cons_succ, List.set_cons_zero]
        refine takeW 2 22 (.int .i64 (k : Int)) rfl rfl (by kernel_rfl) (by kernel_rfl) (by kernel_rfl) (fun _ _ _ h => h) rfl (fun wx hSw => by obtain ⟨hs1, hs2⟩ := hSw; go_simp) (by assumption) ?_
        simp only [Act.put, List.setIfInBounds_toArray, List.set_cons_succ, List.set_cons_zero]
        refine takeW 3 23 (.pointer (some ⟨eb, k, none⟩)) rfl rfl (by kernel_rfl) (by kernel_rfl) (by kernel_rfl) (fun _ _ _ h => h) rfl (fun wx hSw => by obtain ⟨hs1, hs2⟩ := hSw; go_simp) (by assumption) ?_
        simp only [Act.put, List.setIfInBounds_toArray, List.set_cons_succ, List.set_cons_zero]
        refine takeW 4 24 (.int .i64 x) rfl rfl (by kernel_rfl) (by kernel_rfl) (by kernel_rfl) (fun _ _ _ h => h) rfl (fun wx hSw => by obtain ⟨hs1, hs2⟩ := hSw; go_simp) (by assumption) ?_
        simp only [Act.put, List.setIfInBounds_toArray, List.set_cons_succ, List.set_cons_zero]
        refine takeW 5 25 (.slice (some ⟨rb, 0, none⟩) ps.length ps.length) rfl rfl (by kernel_rfl) (by kernel_rfl) (by kernel_rfl) (fun _ _ _ h => h) rfl (fun wx hSw => by obtain ⟨hs1, hs2⟩ := hSw; go_simp) (by assumption) ?_
        simp only [Act.put, List.setIfInBounds_toArray, List.set_cons_succ, List.set_cons_zero]
        refine takeW 6 26 (.int .i64 (k : Int)) rfl rfl (by kernel_rfl) (by kernel_rfl) (by kernel_rfl) (fun _ _ _ h => h) rfl (fun wx hSw => by obtain ⟨hs1, hs2⟩ := hSw; go_simp) (by assumption) ?_
        simp only [Act.put, List.setIfInBounds_toArray, List.set_cons_succ, List.set_cons_zero]
        refine takeW 7 27 (.pointer (some ⟨rb, k, none⟩)) rfl rfl (by kernel_rfl) (by kernel_rfl) (by kernel_rfl) (fun _ _ _ h => h) rfl (fun wx hSw => by obtain ⟨hs1, hs2⟩ := hSw; go_simp) (by assumption) ?_
        simp only [Act.put, List.setIfInBounds_toArray, List.set_cons_succ, List.set_cons_zero]
        refine takeW 8 28 (.int .i64 y) rfl rfl (by kernel_rfl) (by kernel_rfl) (by kernel_rfl) (fun _ _ _ h => h) rfl (fun wx hSw => by obtain ⟨hs1, hs2⟩ := hSw; go_simp) (by assumption) ?_
        simp only [Act.put, List.setIfInBounds_toArray, List.set_cons_succ, List.set_cons_zero]
        refine takeW 9 29 (.int .i64 (x * y)) rfl rfl (by kernel_rfl) (by kernel_rfl) (by kernel_rfl) (fun _ _ _ h => h) rfl (fun wx hSw => by obtain ⟨hs1, hs2⟩ := hSw; go_simp) (by assumption) ?_
        simp only [Act.put, List.setIfInBounds_toArray, List.set_cons_succ, List.set_cons_zero]
        refine wpAnyH_ready (rs := [10]) (by kernel_rfl) (by simp) ?_
        refine AllReadyH.cons rfl (fun Kx hK => ?_) AllReadyH.nil
        go_simp
        refine (unhide HCap _).mono ?_
        rintro e Wx ⟨rfl, hWx⟩
        subst hWx
        refine hK.out _ _ (by assumption) (fun hHeld2 => ?_)
        clear hK Kx
        refine takeW 11 31 (.int .i64 m) rfl rfl (by kernel_rfl) (by kernel_rfl) (by kernel_rfl) (fun _ _ _ h => h) rfl (fun wx hSw => by obtain ⟨hs1, hs2⟩ := hSw; go_simp) (by assumption) ?_
        simp only [Act.put, List.setIfInBounds_toArray, List.set_cons_succ, List.set_cons_zero]
        refine takeW 12 7 (.int .i64 m) rfl rfl (by kernel_rfl) (by kernel_rfl) (by kernel_rfl) (fun _ _ _ h => h) rfl (fun wx hSw => by obtain ⟨hs1, hs2⟩ := hSw; go_simp) (by assumption) ?_
        simp only [Act.put, List.setIfInBounds_toArray, List.set_cons_succ, List.set_cons_zero]
        refine wpAnyH_done (by kernel_rfl) ?_ _
        clear hHeld
        go_wp2
        go_roundw
        case rel => exact ⟨k + 1, m, by omega, by go_num, rfl, unhide HNx, hHeld2⟩
        case measure => simp [intOf]; omega
      · have HNx := hide (unhide HNx0 c (by omega))
        have h1 : m < c := by omega
        have h2 : m ≤ c := by omega
        clear HNx0
        refine wp_region_held_drew (S := Std w5) (by kernel_rfl) (Std.drew hS) (fun hHeld => ?_)
        refine takeW 0 20 (.int .i64 m) rfl rfl (by kernel_rfl) (by kernel_rfl) (by kernel_rfl) (fun _ _ _ h => h) rfl (fun wx hSw => by obtain ⟨hs1, hs2⟩ := hSw; go_simp) (by assumption) ?_
        simp only [Act.put, List.setIfInBounds_toArray, List.set_cons_succ, List.set_cons_zero]
        refine takeW 1 21 (.slice (some ⟨eb, 0, none⟩) ps.length ps.length) rfl rfl (by kernel_rfl) (by kernel_rfl) (by kernel_rfl) (fun _ _ _ h => h) rfl (fun wx hSw => by obtain ⟨hs1, hs2⟩ := hSw; go_simp) (by assumption) ?_
        simp only [Act.put, List.setIfInBounds_toArray, List.set_cons_succ, List.set_cons_zero]
        refine takeW 2 22 (.int .i64 (k : Int)) rfl rfl (by kernel_rfl) (by kernel_rfl) (by kernel_rfl) (fun _ _ _ h => h) rfl (fun wx hSw => by obtain ⟨hs1, hs2⟩ := hSw; go_simp) (by assumption) ?_
        simp only [Act.put, List.setIfInBounds_toArray, List.set_cons_succ, List.set_cons_zero]
        refine takeW 3 23 (.pointer (some ⟨eb, k, none⟩)) rfl rfl (by kernel_rfl) (by kernel_rfl) (by kernel_rfl) (fun _ _ _ h => h) rfl (fun wx hSw => by obtain ⟨hs1, hs2⟩ := hSw; go_simp) (by assumption) ?_
        simp only [Act.put, List.setIfInBounds_toArray, List.set_cons_succ, List.set_cons_zero]
        refine takeW 4 24 (.int .i64 x) rfl rfl (by kernel_rfl) (by kernel_rfl) (by kernel_rfl) (fun _ _ _ h => h) rfl (fun wx hSw => by obtain ⟨hs1, hs2⟩ := hSw; go_simp) (by assumption) ?_
        simp only [Act.put, List.setIfInBounds_toArray, List.set_cons_succ, List.set_cons_zero]
        refine takeW 5 25 (.slice (some ⟨rb, 0, none⟩) ps.length ps.length) rfl rfl (by kernel_rfl) (by kernel_rfl) (by kernel_rfl) (fun _ _ _ h => h) rfl (fun wx hSw => by obtain ⟨hs1, hs2⟩ := hSw; go_simp) (by assumption) ?_
        simp only [Act.put, List.setIfInBounds_toArray, List.set_cons_succ, List.set_cons_zero]
        refine takeW 6 26 (.int .i64 (k : Int)) rfl rfl (by kernel_rfl) (by kernel_rfl) (by kernel_rfl) (fun _ _ _ h => h) rfl (fun wx hSw => by obtain ⟨hs1, hs2⟩ := hSw; go_simp) (by assumption) ?_
        simp only [Act.put, List.setIfInBounds_toArray, List.set_cons_succ, List.set_cons_zero]
        refine takeW 7 27 (.pointer (some ⟨rb, k, none⟩)) rfl rfl (by kernel_rfl) (by kernel_rfl) (by kernel_rfl) (fun _ _ _ h => h) rfl (fun wx hSw => by obtain ⟨hs1, hs2⟩ := hSw; go_simp) (by assumption) ?_
        simp only [Act.put, List.setIfInBounds_toArray, List.set_cons_succ, List.set_cons_zero]
        refine takeW 8 28 (.int .i64 y) rfl rfl (by kernel_rfl) (by kernel_rfl) (by kernel_rfl) (fun _ _ _ h => h) rfl (fun wx hSw => by obtain ⟨hs1, hs2⟩ := hSw; go_simp) (by assumption) ?_
        simp only [Act.put, List.setIfInBounds_toArray, List.set_cons_succ, List.set_cons_zero]
        refine takeW 9 29 (.int .i64 (x * y)) rfl rfl (by kernel_rfl) (by kernel_rfl) (by kernel_rfl) (fun _ _ _ h => h) rfl (fun wx hSw => by obtain ⟨hs1, hs2⟩ := hSw; go_simp) (by assumption) ?_
        simp only [Act.put, List.setIfInBounds_toArray, List.set_cons_succ, List.set_cons_zero]
        refine wpAnyH_ready (rs := [10]) (by kernel_rfl) (by simp) ?_
        refine AllReadyH.cons rfl (fun Kx hK => ?_) AllReadyH.nil
        go_simp
        refine (unhide HCap _).mono ?_
        rintro e Wx ⟨rfl, hWx⟩
        subst hWx
        refine hK.out _ _ (by assumption) (fun hHeld2 => ?_)
        clear hK Kx
        refine takeW 11 31 (.int .i64 c) rfl rfl (by kernel_rfl) (by kernel_rfl) (by kernel_rfl) (fun _ _ _ h => h) rfl (fun wx hSw => by obtain ⟨hs1, hs2⟩ := hSw; go_simp) (by assumption) ?_
        simp only [Act.put, List.setIfInBounds_toArray, List.set_cons_succ, List.set_cons_zero]
        refine takeW 12 7 (.int .i64 c) rfl rfl (by kernel_rfl) (by kernel_rfl) (by kernel_rfl) (fun _ _ _ h => h) rfl (fun wx hSw => by obtain ⟨hs1, hs2⟩ := hSw; go_simp) (by assumption) ?_
        simp only [Act.put, List.setIfInBounds_toArray, List.set_cons_succ, List.set_cons_zero]
        refine wpAnyH_done (by kernel_rfl) ?_ _
        clear hHeld
        go_wp2
        go_roundw
        case rel => exact ⟨k + 1, c, by omega, by go_num, rfl, unhide HNx, hHeld2⟩
        case measure => simp [intOf]; omega
    · obtain rfl : k = ps.length := by omega
      have HE2 : Hid (wrk ts ps (ps.length - 1) 1 = m) := by
        show _ = _
        rw [unhide HE, unhide HM]
      have HB := hide (bT (unhide HB5) hS.2.2)
      clear HE HM HEn HRo HSm HSr
      go_wp2
      go_ret
      exact ⟨congrArg (fun z => Ending.returned (.int .i64 z)) HE2.out.symm, unhide HB⟩

set_option maxHeartbeats 2000000 in
theorem PlanWork_calls (ts : List Tb) (ps : List Pn) (g cap gt capt : Nat) (w : World) (lp : ps.length ≤ 1048576) (lt : ts.length ≤ 1048576) (hsm : SmallT ts) (fit : ∀ p ∈ ps, p.Ex.length ≤ 1048576 ∧ p.Exs.length ≤ 1048576 ∧ ∀ xs ∈ p.Exs, xs.length ≤ 1048576)
    (hg : g < w.heap.size) (hn : PnsAt w g 0 ps) (hgt : gt < w.heap.size) (ht : TablesAt w gt 0 ts) (hTK : TKw w) (hTP : TPlan w) (hTT : TTakes w) :
    Calls Tryd.prog 15 #[.agg #[.slice (some ⟨g, 0, none⟩) ps.length cap], .agg #[.slice (some ⟨gt, 0, none⟩) ts.length capt]] w fun e w' => e = workE ts ps ∧ Below w.heap.size w w' := by
  have HC := hide (fun W (hb : Below w.heap.size w W) => checkPlan_calls ts ps g cap gt capt W lp lt hsm fit (Nat.lt_of_lt_of_le hg hb.size) (hn.of hg hb) (Nat.lt_of_lt_of_le hgt hb.size) (ht.of hgt hb) (hTK.of hb) (hTP.of hb) (hTT.of hb))
  have HW := hide (fun (hv : PlanV ts ps) W (hb : Below w.heap.size w W) => workOf_calls ts ps g cap gt capt W (Nat.lt_of_lt_of_le hg hb.size) (hn.of hg hb) (Nat.lt_of_lt_of_le hgt hb.size) (ht.of hgt hb) hv.good hv.few (hTP.of hb))
  clear hn ht hTK hTP hTT hsm fit
  go_enter Tryd.func15, Tryd.ntmps15
  go_wp2_with fail
  refine (unhide HC _ (bA (bA (Below.refl _ _) _) _)).mono ?_
  rintro e w1 ⟨⟨hv, b, rfl, hrow⟩ | ⟨hv, rfl⟩, hb⟩
  · have n1 := bT (bA (bA (Below.refl w.heap.size w) _) _) hb
    have F := PF.of (s := w.heap.size) (g := g) (np := ps.length) (cap := cap) (gt := gt) (nt := ts.length) (capt := capt) ⟨by simp [go_sem], by simp [go_sem], by simp⟩ hb
    have HE := hide (workE_yes hv)
    have HX := hide (unhide HW hv)
    clear HC HW hb hv hrow
    obtain ⟨fp, fd, fs⟩ := id F
    have fs0 : w.heap.size < w1.heap.size := by omega
    generalize wrk ts ps (ps.length - 1) 1 = z at *
    go_wp2_with fail
    refine (unhide HX _ n1).mono ?_; rintro e w2 ⟨rfl, hb2⟩
    have n2 := bT n1 hb2
    go_wp2
    go_ret
    exact ⟨(unhide HE).symm, n2⟩
  · have n1 := bT (bA (bA (Below.refl w.heap.size w) _) _) hb
    have HE := hide (workE_no hv)
    clear HC HW hb hv
    go_wp2
    go_ret
    exact ⟨(unhide HE).symm, n1⟩
end Go.Proofs.YtkdeilhkobcglaaDoor
