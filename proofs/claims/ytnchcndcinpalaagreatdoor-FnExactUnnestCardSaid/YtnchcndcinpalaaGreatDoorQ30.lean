import Derived.Test.YtnchcndcinpalaaGreatDoorQ29
import Derived.Test.YtnchcndcinpalaaGreatDoorQ6
import Derived.Maps.OwnSet
import Derived.Test.YtnchcndcinpalaaGreatDoorQ5
namespace Go.Proofs.YtnchcndcinpalaaGreatDoor
open Go Go.RowKit
set_option maxRecDepth 100000 in
set_option maxHeartbeats 16000000 in
theorem handDownE_calls (ts : List Tb) (ps : List Pn) (g cap vb : Nat) (f : Int → Int → Int) (root : Int) (w : World) (hg : g < w.heap.size) (hn : PnsAt w g 0 ps) (hG : Good ts ps) (h2000 : ps.length ≤ 2000) (hT : TPlan w)
    (hr0 : 0 ≤ root) (hr1 : root ≤ 1) (hf : ∀ (v : Int) (l : Nat), 0 ≤ v → v ≤ 17592186044416 → l < ps.length → 0 ≤ f v (l : Int) ∧ f v (l : Int) ≤ v + 4294967296)
    (hC : ∀ W, Below w.heap.size w W → ∀ (v : Int) (l : Nat), 0 ≤ v → v ≤ 17592186044416 → l < ps.length → Calls Tryz.prog 87 #[.int .i64 v, .int .i64 (l : Int), .pointer (some ⟨vb, 0, none⟩)] W fun e w' => e = .returned (.int .i64 (f v (l : Int))) ∧ w' = W) :
    Calls Tryz.prog 86 #[.slice (some ⟨g, 0, none⟩) ps.length cap, .int .i64 root, .func (.func 87) #[] #[.pointer (some ⟨vb, 0, none⟩)]] w fun e w' => ∃ b xs, e = .returned (.slice (some ⟨b, 0, none⟩) ps.length ps.length) ∧ w.heap.size ≤ b ∧ Handed ps f root xs ∧ Bd ps.length xs ∧ IntRow w' b xs ∧ Below w.heap.size w w' := by
  have hmk := make_intsP ps.length (by omega)
  have hone := hG.some
  have HTZ := hide hT.size
  have hkk : ((ps.length - 1 : Nat) : Int) = (ps.length : Int) - 1 := by omega
  have hM : Hid (IntRow (w.alloc (.cells (madeCells #[.int .i64 0] ps.length) 3)) w.heap.size (List.replicate ps.length 0)) := IntRow.made w ps.length
  have HN := hide hn; have HG := hide hG; have HT := hide hT; have HF := hide hf; have HC := hide hC
  have r0 := hM.out.at (ps.length - 1) (by simp; omega)
  have r1 := hM.out.frz
  have HSt : Hid (HandTo ps f root ((List.replicate ps.length 0).set (ps.length - 1) root) ps.length) := HandTo.start hone hG.ord f root (by simp) (by rw [getD_set (by simp; omega), if_pos rfl])
  have HBd : Hid (Bd ps.length ((List.replicate ps.length 0).set (ps.length - 1) root)) := Bd.set (fun j => by rw [getD_replicate0]; omega) (by simp; omega) hr0 (by omega)
  have HRw : Hid (IntRow ((w.alloc (.cells (madeCells #[.int .i64 0] ps.length) 3)).setCell ⟨w.heap.size, ps.length - 1, none⟩ (.int .i64 root)) w.heap.size ((List.replicate ps.length 0).set (ps.length - 1) root)) := hM.out.set _ (by simp; omega) root
  obtain ⟨m0, hm0⟩ : ∃ m0 : Nat, ps.length - 1 = m0 := ⟨_, rfl⟩
  rw [hm0] at hkk r0 HSt HBd HRw
  have HRw2 : Hid (IntRow (w.alloc (.cells ((madeCells #[.int .i64 0] ps.length).setIfInBounds m0 (.int .i64 root)) 3)) w.heap.size ((List.replicate ps.length 0).set m0 root)) := by
    have h := HRw.out
    rw [World.setCell_alloc_at _ _ _ _ _ rfl] at h
    exact h
  have i0 : (0 : Int) ≤ (ps.length : Int) - 1 := by omega
  have i1 : (ps.length : Int) - 1 < (ps.length : Int) := by omega
  have i2 : ((ps.length : Int) - 1).toNat = m0 := by omega
  clear hn hG hT hf hC hm0 hM
  go_enter Tryz.func86, Tryz.ntmps86
  go_wp2
  go_loopw [8] (fun c wr => ∃ (k : Nat) (xs : List Int), k ≤ ps.length ∧ c = .int .i64 ((k : Int) - 1) ∧ HandTo ps f root xs k ∧ Bd ps.length xs ∧ IntRow wr w.heap.size xs ∧ Below w.heap.size w wr) (fun c _ => (intOf c + 1).toNat)
  case atStart => exact ⟨ps.length, _, Nat.le_refl _, rfl, HSt.out, HBd.out, HRw2.out, bA (Below.refl _ _) _⟩
  case round =>
    clear hmk r0 r1 HSt HBd HRw HRw2 i0 i1 i2 hkk
    obtain ⟨k, xs, hk, rfl, hto, hbd, hrow, hb⟩ := hrel
    cases k with
    | zero =>
      have HH := hide hto.done; have HBd := hide hbd; have HRw := hide hrow
      clear hto hbd hrow
      go_wp2
      go_ret
      exact ⟨_, xs, rfl, Nat.le_refl _, unhide HH, unhide HBd, unhide HRw, hb⟩
    | succ m =>
      have hcm : (((m + 1 : Nat) : Int) - 1) = (m : Int) := by omega
      rw [hcm]
      have hlt : m < ps.length := by omega
      obtain ⟨c0, c1, c2, c5, c6, ⟨b3, c3, _⟩, b4, c4, _⟩ := ((unhide HN).of hg hb).at m hlt
      simp only [Nat.zero_add] at c0 c1 c2 c3 c4 c5 c6
      have hFk := (unhide HG).fld m hlt
      have hfm := (unhide HG).frm hlt
      have h1' := kid_one' hlt hfm
      have h2' := kid_two' hlt hfm
      have hz := hand_zero (unhide HG) hto hlt
      have ho := fun ha q hL hq => hand_one (q := q) (unhide HG) hto hlt ha hL hq
      have ht := fun ha q j hL hR hq hj hqj => hand_two (q := q) (j := j) (unhide HG) hto hlt ha hL hR hq hj hqj
      have hsm := hbd.small h2000 m
      have hup := fun (q : Nat) (hq : q < m) => hbd.up hq hlt
      have hxl := hto.len
      have hfv := fun (q : Nat) (hq : q < ps.length) => unhide HF (xs.getD m 0) q hsm.1 hsm.2 hq
      have hCv := fun W (hW : Below w.heap.size w W) (q : Nat) (hq : q < ps.length) => unhide HC W hW (xs.getD m 0) q hsm.1 hsm.2 hq
      have j1 : (m : Int) < (ps.length : Int) := by omega
      have q1 : g < wr.heap.size := Nat.lt_of_lt_of_le hg hb.size
      have q2 : w.heap.size < wr.heap.size := hrow.size
      cases e : ps[m] with | mk K T M Ex Exs L R =>
      rw [e] at c0 c1 c2 c3 c4 c5 c6 hFk h1' h2' hz ho ht
      simp only at c0 c1 c2 c3 c4 c5 c6 hFk h1' h2' hz ho ht
      have k1 : 1 ≤ K := hFk.1
      have k2 : K ≤ 10 := hFk.2.1
      have k0 : (0 : Int) ≤ K := by omega
      have k11 : K < 11 := by omega
      have har := arity_of k1 k2
      have hpw := (p_words k1 k2).2.2.2.2.2.2
      have hpa : perRow K → arity K = 2 := fun h => arity_k.1 (by unfold perRow at h; omega)
      have HB0 := hide (bA (Below.refl wr.heap.size wr) (.cells #[.int .i64 K, .int .i64 T, .int .i64 M, .slice (some ⟨b3, 0, none⟩) Ex.length Ex.length, .slice (some ⟨b4, 0, none⟩) Exs.length Exs.length, .int .i64 L, .int .i64 R] 130))
      have HTb := hide ((unhide HT).of hb)
      have rm := hrow.at m (by omega)
      have HRow := hide hrow; have HBd := hide hbd; have HFv := hide hfv; have HCv := hide hCv; have HUp := hide hup
      have HSm := hide hsm
      obtain ⟨v, hv⟩ : ∃ v, xs.getD m 0 = v := ⟨_, rfl⟩
      rw [hv] at rm ho ht HFv HCv HUp HSm
      obtain ⟨hs0, hs1⟩ := unhide HSm
      have hlk := fun W (hW : Below wr.heap.size wr W) => (p_look ((unhide HTb).of hW) K k1 k2).2.2.2.2.2.2.1
      have htz := (unhide HTb).size
      have HLk := hide hlk
      clear hrow hbd hfv hCv hup hsm hv hto hFk e HN HG HT HF HC hfm hlk HSm
      rcases har with ha | ha | ha
      · have HK := hide (fun W (hbW : Below wr.heap.size wr W) => planKids_none K T M L R (.slice (some ⟨b3, 0, none⟩) Ex.length Ex.length) (.slice (some ⟨b4, 0, none⟩) Exs.length Exs.length) W k1 k2 ha ((unhide HTb).of hbW))
        have HNx := hide (hz ha)
        have hp : pfb K 6 = false := Bool.eq_false_iff.2 (fun h => by have := hpa (hpw.1 h); omega)
        clear h1' h2' hz ho ht hpa hpw HFv HCv HUp ha
        go_wp2_with fail
        refine (unhide HK _ (unhide HB0)).mono ?_; rintro e w1 ⟨rfl, hb1⟩
        have d1 := bT (unhide HB0) hb1
        have t6 := unhide HLk _ d1
        rw [hp] at t6
        have HRw := hide ((unhide HRow).of d1)
        have HB := hide (bT hb d1)
        have n0 : w1.cell? ⟨wr.heap.size, 0, none⟩ = some (.int .i64 K) := (hb1.cell (p := ⟨wr.heap.size, 0, none⟩) (by simp)).trans (by simp [go_sem])
        have s1 : wr.heap.size < w1.heap.size := by have := hb1.size; simp at this; omega
        have z1 : 1 < w1.heap.size := by have := d1.size; omega
        clear hb1 d1 HRow HB0 HK HTb c0 c1 c2 c3 c4 c5 c6 HLk hp rm
        go_wp2
        refine wp_loop_rounds 1 ?_
        rw [rounds_succ]
        go_wp2
        go_roundw
        case rel => exact ⟨m, xs, by omega, rfl, unhide HNx, unhide HBd, unhide HRw, unhide HB⟩
        case measure => simp [intOf] <;> omega
      · have HK := hide (fun W (hbW : Below wr.heap.size wr W) => planKids_one K T M L R (.slice (some ⟨b3, 0, none⟩) Ex.length Ex.length) (.slice (some ⟨b4, 0, none⟩) Exs.length Exs.length) W k1 k2 ha ((unhide HTb).of hbW))
        obtain ⟨q, e1, e2, e3, _⟩ := h1' ha
        subst e2 e3
        have hq : q < m := by omega
        clear e1
        have HNx := hide (ho ha q rfl hq)
        have hqn : (q : Int) < (ps.length : Int) := by omega
        have hu1 := (unhide HUp q hq).2
        have HBn : Hid (Bd ps.length (xs.set q v)) := Bd.set (unhide HBd) (by omega) hs0 (by omega)
        have hp : pfb K 6 = false := Bool.eq_false_iff.2 (fun h => by have := hpa (hpw.1 h); omega)
        have x1 : ¬ q = m := by omega
        have x2 : ¬ m = q := by omega
        clear h1' h2' hz ho ht hpa hpw HFv HCv HUp ha hu1
        go_wp2_with fail
        refine (unhide HK _ (unhide HB0)).mono ?_; rintro e w1 ⟨b, rfl, hbs, hbl, cb0, hb1⟩
        have d1 := bT (unhide HB0) hb1
        have t6 := unhide HLk _ d1
        rw [hp] at t6
        have row1 := (unhide HRow).of d1
        have rq := row1.at q (by omega)
        have rf := row1.frz
        have rm1 := (d1.cell (p := ⟨w.heap.size, m, none⟩) q2).trans rm
        have HRw := hide (row1.set q (by omega) v)
        have HB := hide (bT hb d1)
        have n0 : w1.cell? ⟨wr.heap.size, 0, none⟩ = some (.int .i64 K) := (hb1.cell (p := ⟨wr.heap.size, 0, none⟩) (by simp)).trans (by simp [go_sem])
        have s1 : wr.heap.size < w1.heap.size := by have := hb1.size; simp at this; omega
        have s2 : w.heap.size < w1.heap.size := by omega
        have z1 : 1 < w1.heap.size := by have := d1.size; omega
        have y1 : ¬ w.heap.size = wr.heap.size := by omega
        have y2 : ¬ w.heap.size = b := by have := hbs; simp at this; omega
        have y3 : ¬ w.heap.size = 1 := by have := unhide HTZ; omega
        clear hb1 d1 row1 HRow HB0 HK HTb c0 c1 c2 c3 c4 c5 c6 HLk hp rm
        go_wp2
        refine wp_loop_rounds 2 ?_
        rw [rounds_succ]
        go_wp2
        rw [rounds_succ]
        go_wp2
        go_roundw
        case rel => exact ⟨m, xs.set q v, by omega, rfl, unhide HNx, unhide HBn, unhide HRw, (unhide HB).setCell (p := ⟨w.heap.size, q, none⟩) (Nat.le_refl _) _⟩
        case measure => simp [intOf] <;> omega
      · have HK := hide (fun W (hbW : Below wr.heap.size wr W) => planKids_two K T M L R (.slice (some ⟨b3, 0, none⟩) Ex.length Ex.length) (.slice (some ⟨b4, 0, none⟩) Exs.length Exs.length) W k1 k2 ha ((unhide HTb).of hbW))
        obtain ⟨q, j, e1, e0, e2, e3, _, _⟩ := h2' ha
        subst e2 e3
        have hq : q < m := by omega
        have hj : j < m := by omega
        have hqj : q ≠ j := by omega
        clear e1 e0
        obtain ⟨htn, htp⟩ := ht ha q j rfl rfl hq hj hqj
        have hqn : (q : Int) < (ps.length : Int) := by omega
        have hjn : (j : Int) < (ps.length : Int) := by omega
        have hu1 := (unhide HUp q hq).2
        have hu2 := (unhide HUp j hj).2
        have HBm : Hid (Bd ps.length (xs.set j v)) := Bd.set (unhide HBd) (by omega) hs0 (by omega)
        have HBn : Hid (Bd ps.length ((xs.set j v).set q v)) := Bd.set (unhide HBm) (by simp; omega) hs0 (by omega)
        have x1 : ¬ q = m := by omega
        have x2 : ¬ m = q := by omega
        have x3 : ¬ j = m := by omega
        have x4 : ¬ m = j := by omega
        have x5 : ¬ q = j := by omega
        have x6 : ¬ j = q := by omega
        clear h1' h2' hz ho ht hpa ha hu1 HBm
        by_cases hp : perRow K
        rotate_left
        · have HNx := hide (htn hp)
          have hp' : pfb K 6 = false := Bool.eq_false_iff.2 (fun h => hp (hpw.1 h))
          clear htn htp hp hpw HFv HCv HUp hu2
          go_wp2_with fail
          refine (unhide HK _ (unhide HB0)).mono ?_; rintro e w1 ⟨b, rfl, hbs, hbl, cb0, cb1, hb1⟩
          have d1 := bT (unhide HB0) hb1
          have t6 := unhide HLk _ d1
          rw [hp'] at t6
          have row1 := (unhide HRow).of d1
          have rq := row1.at q (by omega)
          have rj := row1.at j (by omega)
          have rf := row1.frz
          have rm1 := (d1.cell (p := ⟨w.heap.size, m, none⟩) q2).trans rm
          have HRw := hide ((row1.set j (by omega) v).set q (by simp; omega) v)
          have HB := hide (bT hb d1)
          have n0 : w1.cell? ⟨wr.heap.size, 0, none⟩ = some (.int .i64 K) := (hb1.cell (p := ⟨wr.heap.size, 0, none⟩) (by simp)).trans (by simp [go_sem])
          have s1 : wr.heap.size < w1.heap.size := by have := hb1.size; simp at this; omega
          have s2 : w.heap.size < w1.heap.size := by omega
          have z1 : 1 < w1.heap.size := by have := d1.size; omega
          have y1 : ¬ w.heap.size = wr.heap.size := by omega
          have y2 : ¬ w.heap.size = b := by have := hbs; simp at this; omega
          have y3 : ¬ w.heap.size = 1 := by have := unhide HTZ; omega
          clear hb1 d1 row1 HRow HB0 HK HTb c0 c1 c2 c3 c4 c5 c6 HLk hp' rm
          go_wp2
          refine wp_loop_rounds 3 ?_
          rw [rounds_succ]
          go_wp2
          rw [rounds_succ]
          go_wp2
          rw [rounds_succ]
          go_wp2
          go_roundw
          case rel => exact ⟨m, (xs.set j v).set q v, by omega, rfl, unhide HNx, unhide HBn, unhide HRw, ((unhide HB).setCell (p := ⟨w.heap.size, j, none⟩) (Nat.le_refl _) _).setCell (p := ⟨w.heap.size, q, none⟩) (Nat.le_refl _) _⟩
          case measure => simp [intOf] <;> omega
        · have HNx := hide (htp hp)
          have hp' : pfb K 6 = true := hpw.2 hp
          have hu3 := unhide HFv q (by omega)
          have HBp : Hid (Bd ps.length (((xs.set j v).set q v).set j (f v (q : Int)))) := Bd.set (unhide HBn) (by simp; omega) hu3.1 (by omega)
          clear htn htp hp hpw HFv HUp hu2 hu3
          go_wp2_with fail
          refine (unhide HK _ (unhide HB0)).mono ?_; rintro e w1 ⟨b, rfl, hbs, hbl, cb0, cb1, hb1⟩
          have d1 := bT (unhide HB0) hb1
          have t6 := unhide HLk _ d1
          rw [hp'] at t6
          have row1 := (unhide HRow).of d1
          have rq := row1.at q (by omega)
          have rj := row1.at j (by omega)
          have rf := row1.frz
          have rm1 := (d1.cell (p := ⟨w.heap.size, m, none⟩) q2).trans rm
          have HRw := hide ((row1.set j (by omega) v).set q (by simp; omega) v)
          have HB := hide (((bT hb d1).setCell (p := ⟨w.heap.size, j, none⟩) (Nat.le_refl _) (.int .i64 v)).setCell (p := ⟨w.heap.size, q, none⟩) (Nat.le_refl _) (.int .i64 v))
          have n0 : w1.cell? ⟨wr.heap.size, 0, none⟩ = some (.int .i64 K) := (hb1.cell (p := ⟨wr.heap.size, 0, none⟩) (by simp)).trans (by simp [go_sem])
          have n5 : w1.cell? ⟨wr.heap.size, 5, none⟩ = some (.int .i64 (q : Int)) := (hb1.cell (p := ⟨wr.heap.size, 5, none⟩) (by simp)).trans (by simp [go_sem])
          have n6 : w1.cell? ⟨wr.heap.size, 6, none⟩ = some (.int .i64 (j : Int)) := (hb1.cell (p := ⟨wr.heap.size, 6, none⟩) (by simp)).trans (by simp [go_sem])
          have s1 : wr.heap.size < w1.heap.size := by have := hb1.size; simp at this; omega
          have s2 : w.heap.size < w1.heap.size := by omega
          have z1 : 1 < w1.heap.size := by have := d1.size; omega
          have y1 : ¬ w.heap.size = wr.heap.size := by omega
          have y2 : ¬ w.heap.size = b := by have := hbs; simp at this; omega
          have y3 : ¬ w.heap.size = 1 := by have := unhide HTZ; omega
          clear hb1 d1 row1 HRow HB0 HK HTb c0 c1 c2 c3 c4 c5 c6 HLk hp' rm
          go_wp2
          refine wp_loop_rounds 3 ?_
          rw [rounds_succ]
          go_wp2
          rw [rounds_succ]
          go_wp2
          rw [rounds_succ]
          go_upto_region 13 with fail
          obtain ⟨b5, b6, bm⟩ := (fun Q (hQ : ((w1.setCell ⟨w.heap.size, j, none⟩ (.int .i64 v)).setCell ⟨w.heap.size, q, none⟩ (.int .i64 v)) = Q) => (by subst hQ; exact ⟨by rw [setCell_farN y1, setCell_farN y1]; exact n5, by rw [setCell_farN y1, setCell_farN y1]; exact n6, by rw [setCell_otherN x1, setCell_otherN x3]; exact rm1⟩ : Q.cell? ⟨wr.heap.size, 5, none⟩ = some (.int .i64 (q : Int)) ∧ Q.cell? ⟨wr.heap.size, 6, none⟩ = some (.int .i64 (j : Int)) ∧ Q.cell? ⟨w.heap.size, m, none⟩ = some (.int .i64 v))) _ rfl
          have bj := (unhide HRw).at j (by simp; omega)
          have bf := (unhide HRw).frz
          have bs := (unhide HRw).size
          have bs2 : wr.heap.size < ((w1.setCell ⟨w.heap.size, j, none⟩ (.int .i64 v)).setCell ⟨w.heap.size, q, none⟩ (.int .i64 v)).heap.size := by simpa using s1
          clear n0 n5 n6 rq rj rf rm1 cb0 cb1 t6 s1 s2 z1 hbl hbs y2 y3
          generalize (w1.setCell ⟨w.heap.size, j, none⟩ (.int .i64 v)).setCell ⟨w.heap.size, q, none⟩ (.int .i64 v) = wb at *
          have HCall := hide (unhide HCv wb.drew (unhide HB).drew q (by omega))
          clear HCv
          refine wp_region_held_drew (S := fun W => W.cell? ⟨wr.heap.size, 5, none⟩ = some (.int .i64 (q : Int)) ∧ W.cell? ⟨wr.heap.size, 6, none⟩ = some (.int .i64 (j : Int)) ∧ W.cell? ⟨w.heap.size, m, none⟩ = some (.int .i64 v)) (by kernel_rfl) ⟨b5, b6, bm⟩ (fun hHeld => ?_)
          refine tW 0 52 (.slice (some ⟨w.heap.size, 0, none⟩) ps.length ps.length) ?_
          simp only [puts]
          refine tW 1 53 (.pointer (some ⟨wr.heap.size, 6, none⟩)) ?_
          simp only [puts]
          refine tW 2 54 (.int .i64 (j : Int)) ?_
          simp only [puts]
          refine tW 3 55 (.func (.func 87) #[] #[.pointer (some ⟨vb, 0, none⟩)]) ?_
          simp only [puts]
          refine tW 4 56 (.slice (some ⟨w.heap.size, 0, none⟩) ps.length ps.length) ?_
          simp only [puts]
          refine tW 5 57 (.int .i64 (m : Int)) ?_
          simp only [puts]
          refine tW 6 58 (.pointer (some ⟨w.heap.size, m, none⟩)) ?_
          simp only [puts]
          refine tW 7 59 (.int .i64 v) ?_
          simp only [puts]
          refine tW 8 60 (.pointer (some ⟨wr.heap.size, 5, none⟩)) ?_
          simp only [puts]
          refine tW 9 61 (.int .i64 (q : Int)) ?_
          simp only [puts]
          refine wpAnyH_ready (rs := [10]) (by kernel_rfl) (by simp) ?_
          refine AllReadyH.cons rfl (fun Kx hK => ?_) AllReadyH.nil
          go_simp
          refine (unhide HCall).mono ?_
          rintro e w2 ⟨rfl, rfl⟩
          refine hK.out _ _ (by assumption) (fun hHeld2 => ?_)
          clear hK Kx
          refine tW 11 63 (.pointer (some ⟨w.heap.size, j, none⟩)) ?_
          simp only [puts]
          refine wpAnyH_ready (rs := [12]) (by kernel_rfl) (by simp) ?_
          refine AllReadyH.cons rfl (fun Kx hK => ?_) AllReadyH.nil
          go_simp
          refine hK.out _ _ ⟨?_, ?_, ?_⟩ (fun hHeld3 => ?_)
          · exact (setCell_farN (w := wb) y1).trans b5
          · exact (setCell_farN (w := wb) y1).trans b6
          · exact (setCell_otherN (w := wb) x3).trans bm
          clear hK Kx
          refine wpAnyH_done (by kernel_rfl) ?_ _
          have HRw2 := hide (((unhide HRw).set j (by simp; omega) (f v (q : Int))).of (Below.refl _ _).drew)
          have HB2 := hide (((unhide HB).setCell (p := ⟨w.heap.size, j, none⟩) (Nat.le_refl _) (.int .i64 (f v (q : Int)))).drew)
          clear HRw HB
          go_wp2
          go_roundw
          case rel => exact ⟨m, ((xs.set j v).set q v).set j (f v (q : Int)), by omega, rfl, unhide HNx, unhide HBp, unhide HRw2, unhide HB2⟩
          case measure => simp [intOf] <;> omega
end Go.Proofs.YtnchcndcinpalaaGreatDoor
namespace Go.Proofs.YtnchcndcinpalaaGreatDoor
open Go Go.RowKit
def TbOk (t : Tb) : Prop := NameB t.Name ∧ 1 ≤ t.Cols ∧ t.Cols ≤ 16 ∧ ∀ xs ∈ t.Rows, (xs.length : Int) = t.Cols
def Diff (ts : List Tb) (k : Nat) : Prop := ∀ (i j : Nat) (hi : i < ts.length) (hj : j < ts.length), i < j → j < k → (ts[i]).Name.toList ≠ (ts[j]).Name.toList
theorem fidx_diff (ts : List Tb) : (∀ (i : Nat) (hi : i < ts.length), fidx ts (ts[i]).Name.toList = (i : Int)) ↔ Diff ts ts.length := by
  constructor
  · intro h i j hi hj hij _ e
    have h1 := h i hi
    have h2 := h j hj
    rw [e] at h1
    omega
  · intro h i hi
    exact fidx_at hi (fun j hj hji => h j i hj hi hji hi) rfl
theorem dbV_iff (ts : List Tb) : DbV ts ↔ (ts.length ≤ 50 ∧ (∀ (i : Nat) (hi : i < ts.length), TbOk ts[i]) ∧ sumR ts ≤ 1000 ∧ Diff ts ts.length) := by
  rw [← fidx_diff]
  constructor
  · intro h
    exact ⟨h.few, fun i hi => ⟨(h.each i hi).1, (h.each i hi).2.1, (h.each i hi).2.2.1, (h.each i hi).2.2.2.2⟩, h.rows, fun i hi => (h.each i hi).2.2.2.1⟩
  · rintro ⟨h1, h2, h3, h4⟩
    exact ⟨h1, fun i hi => ⟨(h2 i hi).1, (h2 i hi).2.1, (h2 i hi).2.2.1, h4 i hi, (h2 i hi).2.2.2⟩, h3⟩
theorem keyLit (l : List UInt8) : WideAt.IsKeyLit (.string l) := trivial
structure MapIn (D : DataW Unit) (ts : List Tb) (k : Nat) : Prop where
  keys : ∀ l, Maps.has D (.string l) = true ↔ ∃ j, ∃ hj : j < ts.length, j < k ∧ (ts[j]).Name.data.toList = l
  size : Maps.size D ≤ k
  all : Maps.size D = k ↔ Diff ts k
theorem MapIn.start (ts : List Tb) : MapIn (.map []) ts 0 :=
  ⟨fun l => ⟨fun h => by simp [Maps.has] at h, fun ⟨j, _, h, _⟩ => by omega⟩, by simp [Maps.size], ⟨fun _ i j _ _ _ h => by omega, fun _ => rfl⟩⟩
theorem diff_succ {ts : List Tb} {k : Nat} (hk : k < ts.length) : Diff ts (k + 1) ↔ (Diff ts k ∧ ∀ (j : Nat) (hj : j < ts.length), j < k → (ts[j]).Name.toList ≠ (ts[k]).Name.toList) := by
  constructor
  · intro h
    exact ⟨fun i j hi hj h1 h2 => h i j hi hj h1 (by omega), fun j hj h1 => h j k hj hk h1 (by omega)⟩
  · rintro ⟨h1, h2⟩ i j hi hj h3 h4
    by_cases e : j = k
    · subst e; exact h2 i hi h3
    · exact h1 i j hi hj h3 (by omega)
theorem toList_data (s : ByteArray) : s.toList = s.data.toList := Go.ByteArray.toList_eq s
theorem MapIn.put {D : DataW Unit} {ts : List Tb} {k : Nat} (h : MapIn D ts k) (hk : k < ts.length) (ht : Maps.Tidy D) (d : DataW Unit) : MapIn (D.put (.string (ts[k]).Name.data.toList) d) ts (k + 1) := by
  have hin : Maps.has D (.string (ts[k]).Name.data.toList) = true ↔ ¬ ∀ (j : Nat) (hj : j < ts.length), j < k → (ts[j]).Name.toList ≠ (ts[k]).Name.toList := by
    rw [h.keys]
    constructor
    · rintro ⟨j, hj, h1, h2⟩ hh
      exact hh j hj h1 (by rw [toList_data, toList_data, h2])
    · intro hh
      by_cases e : ∃ j, ∃ hj : j < ts.length, j < k ∧ (ts[j]).Name.data.toList = (ts[k]).Name.data.toList
      · exact e
      · exact absurd (fun j hj h1 h2 => e ⟨j, hj, h1, by rw [← toList_data, ← toList_data, h2]⟩) hh
  refine ⟨fun l => ?_, ?_, ?_⟩
  · by_cases e : l = (ts[k]).Name.data.toList
    · subst e
      rw [Maps.has_put_same ht.isMap (keyLit _)]
      exact ⟨fun _ => ⟨k, hk, by omega, rfl⟩, fun _ => rfl⟩
    · rw [Maps.has_put_other (by intro e'; exact e (by simpa using e')), h.keys]
      constructor
      · rintro ⟨j, hj, h1, h2⟩
        exact ⟨j, hj, by omega, h2⟩
      · rintro ⟨j, hj, h1, h2⟩
        refine ⟨j, hj, ?_, h2⟩
        by_cases e2 : j = k
        · subst e2; exact absurd h2.symm e
        · omega
  · rw [Maps.size_put ht]
    have := h.size
    split <;> omega
  · rw [Maps.size_put ht, diff_succ hk]
    have h1 := h.size
    have h2 := h.all
    by_cases e : Maps.has D (.string (ts[k]).Name.data.toList) = true
    · rw [if_pos e]
      exact ⟨fun h' => by omega, fun h' => absurd h'.2 (hin.1 e)⟩
    · rw [if_neg e]
      have h3 : ∀ (j : Nat) (hj : j < ts.length), j < k → (ts[j]).Name.toList ≠ (ts[k]).Name.toList := Classical.byContradiction fun hh => e (hin.2 hh)
      constructor
      · intro h'
        exact ⟨h2.1 (by omega), h3⟩
      · rintro ⟨h', _⟩
        have := h2.2 h'
        omega
end Go.Proofs.YtnchcndcinpalaaGreatDoor
namespace Go.Proofs.YtnchcndcinpalaaGreatDoor
open Go Go.RowKit
set_option maxHeartbeats 1000000 in
theorem isName_calls (s : ByteArray) (w : World) (hs : s.size ≤ 1048576) (hT : TKw w) : Calls Tryz.prog 122 #[.string s] w fun e w' => e = .returned (.bool (dB (NameB s))) ∧ w' = w := by
  have LC := fun w => isLetter_calls (byt s 0) w
  have SC := fun w => spanLen_calls s w hs
  have KC := isKeyword_calls s w hT
  have HN : Hid (NameB s ↔ (s.toList ≠ [] ∧ s.size ≤ 64 ∧ letter (byt s 0) = true ∧ spn s = s.size ∧ decide (s.toList ∈ kws) = false)) := by
    show _ ↔ _
    rw [name_iff, decide_eq_false_iff_not]
  clear hT
  generalize decide (s.toList ∈ kws) = k at *
  cases he : (s.toList == ([] : List UInt8))
  · have hne : s.toList ≠ [] := beq_eq_false_iff_ne.1 he
    have hpos : 0 < s.size := by rw [← size_toList]; exact List.length_pos_iff.2 hne
    have HNe := hide hne
    clear hne
    by_cases h64 : (s.size : Int) ≤ 64
    · have eb := byt_eq s 0 hpos
      have j0 : (0 : Int) < (s.size : Int) := by omega
      have hsp := spn_le s
      generalize byt s 0 = c at *
      generalize letter c = l at *
      generalize spn s = m at *
      cases l
      · have HE : Hid (dB (NameB s) = false) := dB_false (fun h => by have := (HN.out.1 h).2.2.1; cases this)
        have HL := hide LC; have HS := hide SC; have HKC := hide KC
        clear LC SC KC HN
        go_enter Tryz.func122, Tryz.ntmps122
        go_wp2_with fail
        refine (unhide HL _).mono ?_; rintro e w1 ⟨rfl, rfl⟩
        go_wp2
        go_ret
        exact ⟨congrArg (fun z => Ending.returned (.bool z)) HE.out.symm, rfl⟩
      · by_cases hm : m = s.size
        · have hm' : ((m : Int) == (s.size : Int)) = true := by simp [hm]
          have HM := hide hm
          clear hm
          cases k
          · have HE : Hid (dB (NameB s) = true) := dB_true (HN.out.2 ⟨unhide HNe, by omega, rfl, unhide HM, rfl⟩)
            clear HM
            have HL := hide LC; have HS := hide SC; have HKC := hide KC
            clear LC SC KC HN
            go_enter Tryz.func122, Tryz.ntmps122
            go_wp2_with fail
            refine (unhide HL _).mono ?_; rintro e w1 ⟨rfl, rfl⟩
            go_wp2_with fail
            refine (unhide HS _).mono ?_; rintro e w1 ⟨rfl, rfl⟩
            go_wp2_with fail
            refine (unhide HKC).mono ?_; rintro e w1 ⟨rfl, rfl⟩
            go_wp2
            go_ret
            exact ⟨congrArg (fun z => Ending.returned (.bool z)) HE.out.symm, rfl⟩
          · have HE : Hid (dB (NameB s) = false) := dB_false (fun h => by have := (HN.out.1 h).2.2.2.2; cases this)
            clear HM
            have HL := hide LC; have HS := hide SC; have HKC := hide KC
            clear LC SC KC HN
            go_enter Tryz.func122, Tryz.ntmps122
            go_wp2_with fail
            refine (unhide HL _).mono ?_; rintro e w1 ⟨rfl, rfl⟩
            go_wp2_with fail
            refine (unhide HS _).mono ?_; rintro e w1 ⟨rfl, rfl⟩
            go_wp2_with fail
            refine (unhide HKC).mono ?_; rintro e w1 ⟨rfl, rfl⟩
            go_wp2
            go_ret
            exact ⟨congrArg (fun z => Ending.returned (.bool z)) HE.out.symm, rfl⟩
        · have hm' : ((m : Int) == (s.size : Int)) = false := by simp; omega
          have HE : Hid (dB (NameB s) = false) := dB_false (fun h => hm (HN.out.1 h).2.2.2.1)
          clear hm
          have HL := hide LC; have HS := hide SC; have HKC := hide KC
          clear LC SC KC HN
          go_enter Tryz.func122, Tryz.ntmps122
          go_wp2_with fail
          refine (unhide HL _).mono ?_; rintro e w1 ⟨rfl, rfl⟩
          go_wp2_with fail
          refine (unhide HS _).mono ?_; rintro e w1 ⟨rfl, rfl⟩
          go_wp2
          go_ret
          exact ⟨congrArg (fun z => Ending.returned (.bool z)) HE.out.symm, rfl⟩
    · have HE : Hid (dB (NameB s) = false) := dB_false (fun h => by have := (HN.out.1 h).2.1; omega)
      have HL := hide LC; have HS := hide SC; have HKC := hide KC
      clear LC SC KC HN
      go_enter Tryz.func122, Tryz.ntmps122
      go_wp2
      go_ret
      exact ⟨congrArg (fun z => Ending.returned (.bool z)) HE.out.symm, rfl⟩
  · have HE : Hid (dB (NameB s) = false) := dB_false (fun h => (HN.out.1 h).1 (by simpa using he))
    have HL := hide LC; have HS := hide SC; have HKC := hide KC
    clear LC SC KC HN
    go_enter Tryz.func122, Tryz.ntmps122
    go_wp2
    go_ret
    exact ⟨congrArg (fun z => Ending.returned (.bool z)) HE.out.symm, rfl⟩
end Go.Proofs.YtnchcndcinpalaaGreatDoor
