import Derived.Test.YtkdeilhkobcglaaDoorPlanWidths
import Derived.Test.YtkdeilhkobcglaaDoorTakes2
/-
  NUMBERS HANDED DOWN FROM THE ROOT of a plan; the function that is handed in is a closure over one variable.
-/
namespace Go.Proofs.YtkdeilhkobcglaaDoor
open Go Go.RowKit

/-- how great a number may become on its way down -/
def Bd (n : Nat) (xs : List Int) : Prop := ∀ j, 0 ≤ xs.getD j 0 ∧ xs.getD j 0 ≤ 1 + ((n - j : Nat) : Int) * 4294967296
theorem Bd.set {n : Nat} {xs : List Int} (h : Bd n xs) {k : Nat} (hk : k < xs.length) {v : Int} (h0 : 0 ≤ v) (h1 : v ≤ 1 + ((n - k : Nat) : Int) * 4294967296) : Bd n (xs.set k v) := fun j => by
  rw [getD_set hk]
  by_cases e : j = k
  · rw [if_pos e, e]; exact ⟨h0, h1⟩
  · rw [if_neg e]; exact h j
theorem Bd.up {n : Nat} {xs : List Int} (h : Bd n xs) {m k : Nat} (hk : k < m) (hm : m < n) : 0 ≤ xs.getD m 0 ∧ xs.getD m 0 + 4294967296 ≤ 1 + ((n - k : Nat) : Int) * 4294967296 := by
  obtain ⟨h0, h1⟩ := h m
  refine ⟨h0, ?_⟩
  omega
theorem Bd.small {n : Nat} {xs : List Int} (h : Bd n xs) (hn : n ≤ 2000) (m : Nat) : 0 ≤ xs.getD m 0 ∧ xs.getD m 0 ≤ 17592186044416 := by
  obtain ⟨h0, h1⟩ := h m
  refine ⟨h0, ?_⟩
  omega
theorem hand_one {ps : List Pn} {f : Int → Int → Int} {root : Int} {xs : List Int} {m q : Nat} {ts : List Tb} (hG : Good ts ps) (h : HandTo ps f root xs (m + 1)) (hm : m < ps.length) (ha : arity (ps[m]).K = 1) (hL : (ps[m]).L = (q : Int)) (hq : q < m) :
    HandTo ps f root (xs.set q (xs.getD m 0)) m := by
  have hl := h.len
  obtain ⟨i1, i2, i3⟩ := hG.kidsIn hm
  refine h.step hm (by simp [hl]) ⟨i1, i2⟩ (fun x hx => ?_) (fun _ => ?_) (fun h => by omega)
  · rw [getD_set (by omega), if_neg]
    intro e
    subst e
    exact hx (by rw [← hL]; exact i1 (by omega))
  · rw [hL, show ((q : Int)).toNat = q by omega, getD_set (by omega), if_pos rfl]
theorem hand_zero {ps : List Pn} {f : Int → Int → Int} {root : Int} {xs : List Int} {m : Nat} {ts : List Tb} (hG : Good ts ps) (h : HandTo ps f root xs (m + 1)) (hm : m < ps.length) (ha : arity (ps[m]).K = 0) : HandTo ps f root xs m := by
  obtain ⟨i1, i2, i3⟩ := hG.kidsIn hm
  exact h.step hm h.len ⟨i1, i2⟩ (fun x hx => rfl) (fun h => by omega) (fun h => by omega)
theorem hand_two {ps : List Pn} {f : Int → Int → Int} {root : Int} {xs : List Int} {m q j : Nat} {ts : List Tb} (hG : Good ts ps) (h : HandTo ps f root xs (m + 1)) (hm : m < ps.length) (ha : arity (ps[m]).K = 2) (hL : (ps[m]).L = (q : Int)) (hR : (ps[m]).R = (j : Int)) (hq : q < m) (hj : j < m) (hqj : q ≠ j) :
    (¬ perRow (ps[m]).K → HandTo ps f root ((xs.set j (xs.getD m 0)).set q (xs.getD m 0)) m) ∧
    (perRow (ps[m]).K → HandTo ps f root (((xs.set j (xs.getD m 0)).set q (xs.getD m 0)).set j (f (xs.getD m 0) (q : Int))) m) := by
  have hl := h.len
  obtain ⟨i1, i2, i3⟩ := hG.kidsIn hm
  have n1 : ∀ x : Nat, (x : Int) ∉ kidsAt (nds ps) m → x ≠ q ∧ x ≠ j := fun x hx => by
    refine ⟨fun e => ?_, fun e => ?_⟩
    · subst e; exact hx (by rw [← hL]; exact i1 (by omega))
    · subst e; exact hx (by rw [← hR]; exact i2 (by omega))
  refine ⟨fun hp => ?_, fun hp => ?_⟩
  · refine h.step hm (by simp [hl]) ⟨i1, i2⟩ (fun x hx => ?_) (fun _ => ?_) (fun _ => ?_)
    · rw [getD_set (by simp; omega), if_neg (n1 x hx).1, getD_set (by omega), if_neg (n1 x hx).2]
    · rw [hL, show ((q : Int)).toNat = q by omega, getD_set (by simp; omega), if_pos rfl]
    · rw [if_neg hp, hR, show ((j : Int)).toNat = j by omega, getD_set (by simp; omega), if_neg (fun e => hqj e.symm), getD_set (by omega), if_pos rfl]
  · refine h.step hm (by simp [hl]) ⟨i1, i2⟩ (fun x hx => ?_) (fun _ => ?_) (fun _ => ?_)
    · rw [getD_set (by simp; omega), if_neg (n1 x hx).2, getD_set (by simp; omega), if_neg (n1 x hx).1, getD_set (by omega), if_neg (n1 x hx).2]
    · rw [hL, show ((q : Int)).toNat = q by omega, getD_set (by simp; omega), if_neg hqj, getD_set (by simp; omega), if_pos rfl]
    · rw [if_pos hp, hR, hL, show ((j : Int)).toNat = j by omega, getD_set (by simp; omega), if_pos rfl]
end Go.Proofs.YtkdeilhkobcglaaDoor
/-
  .. with the closure that adds widths.
-/
namespace Go.Proofs.YtkdeilhkobcglaaDoor
open Go Go.RowKit

set_option maxRecDepth 100000 in
set_option maxHeartbeats 16000000 in
theorem handDownE_calls (ts : List Tb) (ps : List Pn) (g cap vb : Nat) (f : Int → Int → Int) (root : Int) (w : World) (hg : g < w.heap.size) (hn : PnsAt w g 0 ps) (hG : Good ts ps) (h2000 : ps.length ≤ 2000) (hT : TPlan w)
    (hr0 : 0 ≤ root) (hr1 : root ≤ 1) (hf : ∀ (v : Int) (l : Nat), 0 ≤ v → v ≤ 17592186044416 → l < ps.length → 0 ≤ f v (l : Int) ∧ f v (l : Int) ≤ v + 4294967296)
    (hC : ∀ W, Below w.heap.size w W → ∀ (v : Int) (l : Nat), 0 ≤ v → v ≤ 17592186044416 → l < ps.length → Calls Tryd.prog 54 #[.int .i64 v, .int .i64 (l : Int), .pointer (some ⟨vb, 0, none⟩)] W fun e w' => e = .returned (.int .i64 (f v (l : Int))) ∧ w' = W) :
    Calls Tryd.prog 53 #[.slice (some ⟨g, 0, none⟩) ps.length cap, .int .i64 root, .func (.func 54) #[] #[.pointer (some ⟨vb, 0, none⟩)]] w fun e w' => ∃ b xs, e = .returned (.slice (some ⟨b, 0, none⟩) ps.length ps.length) ∧ w.heap.size ≤ b ∧ Handed ps f root xs ∧ Bd ps.length xs ∧ IntRow w' b xs ∧ Below w.heap.size w w' := by
  have hmk := make_intsP ps.length (by omega)
  have hone := hG.some
  have HTZ := hide hT.size
  have hkk : ((ps.length - 1 : Nat) : Int) = (ps.length : Int) - 1 := by omega
  have hM : Hid (IntRow (w.alloc (.cells (madeCells #[.int .i64 0] ps.length) 3)) w.heap.size (List.replicate ps.length 0)) := IntRow.made w ps.length
  have HN := hide hn; have HG := hide hG; have HT := hide hT; have HF := hide hf; have HC := hide hC
  have r0 := hM.out.at (ps.length - 1) (by simp; omega)
  have r1 := hM.out.frz
  have HSt : Hid (HandTo ps f root ((List.replicate ps.length 0).set (ps.length - 1) root) ps.length) := HandTo.start hone hG.ord f root (by simp) (by rw [getD_set (by simp; omega), if_pos rfl])
  have HBd : Hid (Bd ps.length ((List.replicate ps.length 0).set (ps.length - 1) root)) := Bd.set (fun j => by rw [getD_replicate0]; omega) (by simp; omega) hr0 (by omega)
  have HRw : Hid (IntRow ((w.alloc (.cells (madeCells #[.int .i64 0] ps.length) 3)).setCell ⟨w.heap.size, ps.length - 1, none⟩ (.int .i64 root)) w.heap.size ((List.replicate ps.length 0).set (ps.length - 1) root)) := hM.out.set _ (by simp; omega) root
  obtain ⟨m0, hm0⟩ : ∃ m0 : Nat, ps.length - 1 = m0 := ⟨_, rfl⟩
  rw [hm0] at hkk r0 HSt HBd HRw
  have HRw2 : Hid (IntRow (w.alloc (.cells ((madeCells #[.int .i64 0] ps.length).setIfInBounds m0 (.int .i64 root)) 3)) w.heap.size ((List.replicate ps.length 0).set m0 root)) := by
    have h := HRw.out
    rw [World.setCell_alloc_at _ _ _ _ _ rfl] at h
    exact h
  have i0 : (0 : Int) ≤ (ps.length : Int) - 1 := by omega
  have i1 : (ps.length : Int) - 1 < (ps.length : Int) := by omega
  have i2 : ((ps.length : Int) - 1).toNat = m0 := by omega
  clear hn hG hT hf hC hm0 hM
  go_enter Tryd.func53, Tryd.ntmps53
  go_wp2
  go_loopw [8] (fun c wr => ∃ (k : Nat) (xs : List Int), k ≤ ps.length ∧ c = .int .i64 ((k : Int) - 1) ∧ HandTo ps f root xs k ∧ Bd ps.length xs ∧ IntRow wr w.heap.size xs ∧ Below w.heap.size w wr) (fun c _ => (intOf c + 1).toNat)
  case atStart => exact ⟨ps.length, _, Nat.le_refl _, rfl, HSt.out, HBd.out, HRw2.out, bA (Below.refl _ _) _⟩
  case round =>
    clear hmk r0 r1 HSt HBd HRw HRw2 i0 i1 i2 hkk
    obtain ⟨k, xs, hk, rfl, hto, hbd, hrow, hb⟩ := hrel
    cases k with
    | zero =>
      have HH := hide hto.done; have HBd := hide hbd; have HRw := hide hrow
      clear hto hbd hrow
      go_wp2
      go_ret
      exact ⟨_, xs, rfl, Nat.le_refl _, unhide HH, unhide HBd, unhide HRw, hb⟩
    | succ m =>
      have hcm : (((m + 1 : Nat) : Int) - 1) = (m : Int) := by omega
      rw [hcm]
      have hlt : m < ps.length := by omega
      obtain ⟨c0, c1, c2, c5, c6, ⟨b3, c3, _⟩, b4, c4, _⟩ := ((unhide HN).of hg hb).at m hlt
      simp only [Nat.zero_add] at c0 c1 c2 c3 c4 c5 c6
      have hFk := (unhide HG).fld m hlt
      have hfm := (unhide HG).frm hlt
      have h1' := kid_one' hlt hfm
      have h2' := kid_two' hlt hfm
      have hz := hand_zero (unhide HG) hto hlt
      have ho := fun ha q hL hq => hand_one (q := q) (unhide HG) hto hlt ha hL hq
      have ht := fun ha q j hL hR hq hj hqj => hand_two (q := q) (j := j) (unhide HG) hto hlt ha hL hR hq hj hqj
      have hsm := hbd.small h2000 m
      have hup := fun (q : Nat) (hq : q < m) => hbd.up hq hlt
      have hxl := hto.len
      have hfv := fun (q : Nat) (hq : q < ps.length) => unhide HF (xs.getD m 0) q hsm.1 hsm.2 hq
      have hCv := fun W (hW : Below w.heap.size w W) (q : Nat) (hq : q < ps.length) => unhide HC W hW (xs.getD m 0) q hsm.1 hsm.2 hq
      have j1 : (m : Int) < (ps.length : Int) := by omega
      have q1 : g < wr.heap.size := Nat.lt_of_lt_of_le hg hb.size
      have q2 : w.heap.size < wr.heap.size := hrow.size
      cases e : ps[m] with | mk K T M Ex Exs L R =>
      rw [e] at c0 c1 c2 c3 c4 c5 c6 hFk h1' h2' hz ho ht
      simp only at c0 c1 c2 c3 c4 c5 c6 hFk h1' h2' hz ho ht
      have k1 : 1 ≤ K := hFk.1
      have k2 : K ≤ 10 := hFk.2.1
      have k0 : (0 : Int) ≤ K := by omega
      have k11 : K < 11 := by omega
      have har := arity_of k1 k2
      have hpw := (p_words k1 k2).2.2.2.2.2.2
      have hpa : perRow K → arity K = 2 := fun h => arity_k.1 (by unfold perRow at h; omega)
      have HB0 := hide (bA (Below.refl wr.heap.size wr) (.cells #[.int .i64 K, .int .i64 T, .int .i64 M, .slice (some ⟨b3, 0, none⟩) Ex.length Ex.length, .slice (some ⟨b4, 0, none⟩) Exs.length Exs.length, .int .i64 L, .int .i64 R] 93))
      have HTb := hide ((unhide HT).of hb)
      have rm := hrow.at m (by omega)
      have HRow := hide hrow; have HBd := hide hbd; have HFv := hide hfv; have HCv := hide hCv; have HUp := hide hup
      have HSm := hide hsm
      obtain ⟨v, hv⟩ : ∃ v, xs.getD m 0 = v := ⟨_, rfl⟩
      rw [hv] at rm ho ht HFv HCv HUp HSm
      obtain ⟨hs0, hs1⟩ := unhide HSm
      have hlk := fun W (hW : Below wr.heap.size wr W) => (p_look ((unhide HTb).of hW) K k1 k2).2.2.2.2.2.2.1
      have htz := (unhide HTb).size
      have HLk := hide hlk
      clear hrow hbd hfv hCv hup hsm hv hto hFk e HN HG HT HF HC hfm hlk HSm
      rcases har with ha | ha | ha
      · have HK := hide (fun W (hbW : Below wr.heap.size wr W) => planKids_none K T M L R (.slice (some ⟨b3, 0, none⟩) Ex.length Ex.length) (.slice (some ⟨b4, 0, none⟩) Exs.length Exs.length) W k1 k2 ha ((unhide HTb).of hbW))
        have HNx := hide (hz ha)
        have hp : pfb K 6 = false := Bool.eq_false_iff.2 (fun h => by have := hpa (hpw.1 h); omega)
        clear h1' h2' hz ho ht hpa hpw HFv HCv HUp ha
        go_wp2_with fail
        refine (unhide HK _ (unhide HB0)).mono ?_; rintro e w1 ⟨rfl, hb1⟩
        have d1 := bT (unhide HB0) hb1
        have t6 := unhide HLk _ d1
        rw [hp] at t6
        have HRw := hide ((unhide HRow).of d1)
        have HB := hide (bT hb d1)
        have n0 : w1.cell? ⟨wr.heap.size, 0, none⟩ = some (.int .i64 K) := (hb1.cell (p := ⟨wr.heap.size, 0, none⟩) (by simp)).trans (by simp [go_sem])
        have s1 : wr.heap.size < w1.heap.size := by have := hb1.size; simp at this; omega
        have z1 : 0 < w1.heap.size := by have := d1.size; omega
        clear hb1 d1 HRow HB0 HK HTb c0 c1 c2 c3 c4 c5 c6 HLk hp rm
        go_wp2
        refine wp_loop_rounds 1 ?_
        rw [rounds_succ]
        go_wp2
        go_roundw
        case rel => exact ⟨m, xs, by omega, rfl, unhide HNx, unhide HBd, unhide HRw, unhide HB⟩
        case measure => simp [intOf] <;> omega
      · have HK := hide (fun W (hbW : Below wr.heap.size wr W) => planKids_one K T M L R (.slice (some ⟨b3, 0, none⟩) Ex.length Ex.length) (.slice (some ⟨b4, 0, none⟩) Exs.length Exs.length) W k1 k2 ha ((unhide HTb).of hbW))
        obtain ⟨q, e1, e2, e3, _⟩ := h1' ha
        subst e2 e3
        have hq : q < m := by omega
        clear e1
        have HNx := hide (ho ha q rfl hq)
        have hqn : (q : Int) < (ps.length : Int) := by omega
        have hu1 := (unhide HUp q hq).2
        have HBn : Hid (Bd ps.length (xs.set q v)) := Bd.set (unhide HBd) (by omega) hs0 (by omega)
        have hp : pfb K 6 = false := Bool.eq_false_iff.2 (fun h => by have := hpa (hpw.1 h); omega)
        have x1 : ¬ q = m := by omega
        have x2 : ¬ m = q := by omega
        clear h1' h2' hz ho ht hpa hpw HFv HCv HUp ha hu1
        go_wp2_with fail
        refine (unhide HK _ (unhide HB0)).mono ?_; rintro e w1 ⟨b, rfl, hbs, hbl, cb0, hb1⟩
        have d1 := bT (unhide HB0) hb1
        have t6 := unhide HLk _ d1
        rw [hp] at t6
        have row1 := (unhide HRow).of d1
        have rq := row1.at q (by omega)
        have rf := row1.frz
        have rm1 := (d1.cell (p := ⟨w.heap.size, m, none⟩) q2).trans rm
        have HRw := hide (row1.set q (by omega) v)
        have HB := hide (bT hb d1)
        have n0 : w1.cell? ⟨wr.heap.size, 0, none⟩ = some (.int .i64 K) := (hb1.cell (p := ⟨wr.heap.size, 0, none⟩) (by simp)).trans (by simp [go_sem])
        have s1 : wr.heap.size < w1.heap.size := by have := hb1.size; simp at this; omega
        have s2 : w.heap.size < w1.heap.size := by omega
        have z1 : 0 < w1.heap.size := by have := d1.size; omega
        have y1 : ¬ w.heap.size = wr.heap.size := by omega
        have y2 : ¬ w.heap.size = b := by have := hbs; simp at this; omega
        have y3 : ¬ w.heap.size = 0 := by have := unhide HTZ; omega
        clear hb1 d1 row1 HRow HB0 HK HTb c0 c1 c2 c3 c4 c5 c6 HLk hp rm
        go_wp2
        refine wp_loop_rounds 2 ?_
        rw [rounds_succ]
        go_wp2
        rw [rounds_succ]
        go_wp2
        go_roundw
        case rel => exact ⟨m, xs.set q v, by omega, rfl, unhide HNx, unhide HBn, unhide HRw, (unhide HB).setCell (p := ⟨w.heap.size, q, none⟩) (Nat.le_refl _) _⟩
        case measure => simp [intOf] <;> omega
      · have HK := hide (fun W (hbW : Below wr.heap.size wr W) => planKids_two K T M L R (.slice (some ⟨b3, 0, none⟩) Ex.length Ex.length) (.slice (some ⟨b4, 0, none⟩) Exs.length Exs.length) W k1 k2 ha ((unhide HTb).of hbW))
        obtain ⟨q, j, e1, e0, e2, e3, _, _⟩ := h2' ha
        subst e2 e3
        have hq : q < m := by omega
        have hj : j < m := by omega
        have hqj : q ≠ j := by omega
        clear e1 e0
        obtain ⟨htn, htp⟩ := ht ha q j rfl rfl hq hj hqj
        have hqn : (q : Int) < (ps.length : Int) := by omega
        have hjn : (j : Int) < (ps.length : Int) := by omega
        have hu1 := (unhide HUp q hq).2
        have hu2 := (unhide HUp j hj).2
        have HBm : Hid (Bd ps.length (xs.set j v)) := Bd.set (unhide HBd) (by omega) hs0 (by omega)
        have HBn : Hid (Bd ps.length ((xs.set j v).set q v)) := Bd.set (unhide HBm) (by simp; omega) hs0 (by omega)
        have x1 : ¬ q = m := by omega
        have x2 : ¬ m = q := by omega
        have x3 : ¬ j = m := by omega
        have x4 : ¬ m = j := by omega
        have x5 : ¬ q = j := by omega
        have x6 : ¬ j = q := by omega
        clear h1' h2' hz ho ht hpa ha hu1 HBm
        by_cases hp : perRow K
        rotate_left
        · have HNx := hide (htn hp)
          have hp' : pfb K 6 = false := Bool.eq_false_iff.2 (fun h => hp (hpw.1 h))
          clear htn htp hp hpw HFv HCv HUp hu2
          go_wp2_with fail
          refine (unhide HK _ (unhide HB0)).mono ?_; rintro e w1 ⟨b, rfl, hbs, hbl, cb0, cb1, hb1⟩
          have d1 := bT (unhide HB0) hb1
          have t6 := unhide HLk _ d1
          rw [hp'] at t6
          have row1 := (unhide HRow).of d1
          have rq := row1.at q (by omega)
          have rj := row1.at j (by omega)
          have rf := row1.frz
          have rm1 := (d1.cell (p := ⟨w.heap.size, m, none⟩) q2).trans rm
          have HRw := hide ((row1.set j (by omega) v).set q (by simp; omega) v)
          have HB := hide (bT hb d1)
          have n0 : w1.cell? ⟨wr.heap.size, 0, none⟩ = some (.int .i64 K) := (hb1.cell (p := ⟨wr.heap.size, 0, none⟩) (by simp)).trans (by simp [go_sem])
          have s1 : wr.heap.size < w1.heap.size := by have := hb1.size; simp at this; omega
          have s2 : w.heap.size < w1.heap.size := by omega
          have z1 : 0 < w1.heap.size := by have := d1.size; omega
          have y1 : ¬ w.heap.size = wr.heap.size := by omega
          have y2 : ¬ w.heap.size = b := by have := hbs; simp at this; omega
          have y3 : ¬ w.heap.size = 0 := by have := unhide HTZ; omega
          clear hb1 d1 row1 HRow HB0 HK HTb c0 c1 c2 c3 c4 c5 c6 HLk hp' rm
          go_wp2
          refine wp_loop_rounds 3 ?_
          rw [rounds_succ]
          go_wp2
          rw [rounds_succ]
          go_wp2
          rw [rounds_succ]
          go_wp2
          go_roundw
          case rel => exact ⟨m, (xs.set j v).set q v, by omega, rfl, unhide HNx, unhide HBn, unhide HRw, ((unhide HB).setCell (p := ⟨w.heap.size, j, none⟩) (Nat.le_refl _) _).setCell (p := ⟨w.heap.size, q, none⟩) (Nat.le_refl _) _⟩
          case measure => simp [intOf] <;> omega
        · have HNx := hide (htp hp)
          have hp' : pfb K 6 = true := hpw.2 hp
          have hu3 := unhide HFv q (by omega)
          have HBp : Hid (Bd ps.length (((xs.set j v).set q v).set j (f v (q : Int)))) := Bd.set (unhide HBn) (by simp; omega) hu3.1 (by omega)
          clear htn htp hp hpw HFv HUp hu2 hu3
          go_wp2_with fail
          refine (unhide HK _ (unhide HB0)).mono ?_; rintro e w1 ⟨b, rfl, hbs, hbl, cb0, cb1, hb1⟩
          have d1 := bT (unhide HB0) hb1
          have t6 := unhide HLk _ d1
          rw [hp'] at t6
          have row1 := (unhide HRow).of d1
          have rq := row1.at q (by omega)
          have rj := row1.at j (by omega)
          have rf := row1.frz
          have rm1 := (d1.cell (p := ⟨w.heap.size, m, none⟩) q2).trans rm
          have HRw := hide ((row1.set j (by omega) v).set q (by simp; omega) v)
          have HB := hide (((bT hb d1).setCell (p := ⟨w.heap.size, j, none⟩) (Nat.le_refl _) (.int .i64 v)).setCell (p := ⟨w.heap.size, q, none⟩) (Nat.le_refl _) (.int .i64 v))
          have n0 : w1.cell? ⟨wr.heap.size, 0, none⟩ = some (.int .i64 K) := (hb1.cell (p := ⟨wr.heap.size, 0, none⟩) (by simp)).trans (by simp [go_sem])
          have n5 : w1.cell? ⟨wr.heap.size, 5, none⟩ = some (.int .i64 (q : Int)) := (hb1.cell (p := ⟨wr.heap.size, 5, none⟩) (by simp)).trans (by simp [go_sem])
          have n6 : w1.cell? ⟨wr.heap.size, 6, none⟩ = some (.int .i64 (j : Int)) := (hb1.cell (p := ⟨wr.heap.size, 6, none⟩) (by simp)).trans (by simp [go_sem])
          have s1 : wr.heap.size < w1.heap.size := by have := hb1.size; simp at this; omega
          have s2 : w.heap.size < w1.heap.size := by omega
          have z1 : 0 < w1.heap.size := by have := d1.size; omega
          have y1 : ¬ w.heap.size = wr.heap.size := by omega
          have y2 : ¬ w.heap.size = b := by have := hbs; simp at this; omega
          have y3 : ¬ w.heap.size = 0 := by have := unhide HTZ; omega
          clear hb1 d1 row1 HRow HB0 HK HTb c0 c1 c2 c3 c4 c5 c6 HLk hp' rm
          go_wp2
          refine wp_loop_rounds 3 ?_
          rw [rounds_succ]
          go_wp2
          rw [rounds_succ]
          go_wp2
          rw [rounds_succ]
          go_upto_region 13 with fail
          have b5 : ((w1.setCell ⟨w.heap.size, j, none⟩ (.int .i64 v)).setCell ⟨w.heap.size, q, none⟩ (.int .i64 v)).cell? ⟨wr.heap.size, 5, none⟩ = some (.int .i64 (q : Int)) := by rw [setCell_farN y1, setCell_farN y1]; exact n5
          have b6 : ((w1.setCell ⟨w.heap.size, j, none⟩ (.int .i64 v)).setCell ⟨w.heap.size, q, none⟩ (.int .i64 v)).cell? ⟨wr.heap.size, 6, none⟩ = some (.int .i64 (j : Int)) := by rw [setCell_farN y1, setCell_farN y1]; exact n6
          have bm : ((w1.setCell ⟨w.heap.size, j, none⟩ (.int .i64 v)).setCell ⟨w.heap.size, q, none⟩ (.int .i64 v)).cell? ⟨w.heap.size, m, none⟩ = some (.int .i64 v) := by rw [setCell_otherN x1, setCell_otherN x3]; exact rm1
          have bj := (unhide HRw).at j (by simp; omega)
          have bf := (unhide HRw).frz
          have bs := (unhide HRw).size
          have bs2 : wr.heap.size < ((w1.setCell ⟨w.heap.size, j, none⟩ (.int .i64 v)).setCell ⟨w.heap.size, q, none⟩ (.int .i64 v)).heap.size := by simpa using s1
          clear n0 n5 n6 rq rj rf rm1 cb0 cb1 t6 s1 s2 z1 hbl hbs y2 y3
          generalize (w1.setCell ⟨w.heap.size, j, none⟩ (.int .i64 v)).setCell ⟨w.heap.size, q, none⟩ (.int .i64 v) = wb at *
          have HCall := hide (unhide HCv wb.drew (unhide HB).drew q (by omega))
          clear HCv
          refine wp_region_held_drew (S := fun W => W.cell? ⟨wr.heap.size, 5, none⟩ = some (.int .i64 (q : Int)) ∧ W.cell? ⟨wr.heap.size, 6, none⟩ = some (.int .i64 (j : Int)) ∧ W.cell? ⟨w.heap.size, m, none⟩ = some (.int .i64 v)) (by kernel_rfl) ⟨b5, b6, bm⟩ (fun hHeld => ?_)
          refine takeW 0 52 (.slice (some ⟨w.heap.size, 0, none⟩) ps.length ps.length) rfl rfl (by kernel_rfl) (by kernel_rfl) (by kernel_rfl) (fun _ _ _ h => h) rfl (fun wx hSw => by obtain ⟨hs1, hs2⟩ := hSw; go_simp) (by assumption) ?_
          simp only [Act.put, List.setIfInBounds_toArray, List.set_cons_succ, List.set_cons_zero]
          refine takeW 1 53 (.pointer (some ⟨wr.heap.size, 6, none⟩)) rfl rfl (by kernel_rfl) (by kernel_rfl) (by kernel_rfl) (fun _ _ _ h => h) rfl (fun wx hSw => by obtain ⟨hs1, hs2⟩ := hSw; go_simp) (by assumption) ?_
          simp only [Act.put, List.setIfInBounds_toArray, List.set_cons_succ, List.set_cons_zero]
          refine takeW 2 54 (.int .i64 (j : Int)) rfl rfl (by kernel_rfl) (by kernel_rfl) (by kernel_rfl) (fun _ _ _ h => h) rfl (fun wx hSw => by obtain ⟨hs1, hs2⟩ := hSw; go_simp) (by assumption) ?_
          simp only [Act.put, List.setIfInBounds_toArray, List.set_cons_succ, List.set_cons_zero]
          refine takeW 3 55 (.func (.func 54) #[] #[.pointer (some ⟨vb, 0, none⟩)]) rfl rfl (by kernel_rfl) (by kernel_rfl) (by kernel_rfl) (fun _ _ _ h => h) rfl (fun wx hSw => by obtain ⟨hs1, hs2⟩ := hSw; go_simp) (by assumption) ?_
          simp only [Act.put, List.setIfInBounds_toArray, List.set_cons_succ, List.set_cons_zero]
          refine takeW 4 56 (.slice (some ⟨w.heap.size, 0, none⟩) ps.length ps.length) rfl rfl (by kernel_rfl) (by kernel_rfl) (by kernel_rfl) (fun _ _ _ h => h) rfl (fun wx hSw => by obtain ⟨hs1, hs2⟩ := hSw; go_simp) (by assumption) ?_
          simp only [Act.put, List.setIfInBounds_toArray, List.set_cons_succ, List.set_cons_zero]
          refine takeW 5 57 (.int .i64 (m : Int)) rfl rfl (by kernel_rfl) (by kernel_rfl) (by kernel_rfl) (fun _ _ _ h => h) rfl (fun wx hSw => by obtain ⟨hs1, hs2⟩ := hSw; go_simp) (by assumption) ?_
          simp only [Act.put, List.setIfInBounds_toArray, List.set_cons_succ, List.set_cons_zero]
          refine takeW 6 58 (.pointer (some ⟨w.heap.size, m, none⟩)) rfl rfl (by kernel_rfl) (by kernel_rfl) (by kernel_rfl) (fun _ _ _ h => h) rfl (fun wx hSw => by obtain ⟨hs1, hs2⟩ := hSw; go_simp) (by assumption) ?_
          simp only [Act.put, List.setIfInBounds_toArray, List.set_cons_succ, List.set_cons_zero]
          refine takeW 7 59 (.int .i64 v) rfl rfl (by kernel_rfl) (by kernel_rfl) (by kernel_rfl) (fun _ _ _ h => h) rfl (fun wx hSw => by obtain ⟨hs1, hs2⟩ := hSw; go_simp) (by assumption) ?_
          simp only [Act.put, List.setIfInBounds_toArray, List.set_cons_succ, List.set_cons_zero]
          refine takeW 8 60 (.pointer (some ⟨wr.heap.size, 5, none⟩)) rfl rfl (by kernel_rfl) (by kernel_rfl) (by kernel_rfl) (fun _ _ _ h => h) rfl (fun wx hSw => by obtain ⟨hs1, hs2⟩ := hSw; go_simp) (by assumption) ?_
          simp only [Act.put, List.setIfInBounds_toArray, List.set_cons_succ, List.set_cons_zero]
          refine takeW 9 61 (.int .i64 (q : Int)) rfl rfl (by kernel_rfl) (by kernel_rfl) (by kernel_rfl) (fun _ _ _ h => h) rfl (fun wx hSw => by obtain ⟨hs1, hs2⟩ := hSw; go_simp) (by assumption) ?_
          simp only [Act.put, List.setIfInBounds_toArray, List.set_cons_succ, List.set_cons_zero]
          refine wpAnyH_ready (rs := [10]) (by kernel_rfl) (by simp) ?_
          refine AllReadyH.cons rfl (fun Kx hK => ?_) AllReadyH.nil
          go_simp
          refine (unhide HCall).mono ?_
          rintro e w2 ⟨rfl, rfl⟩
          refine hK.out _ _ (by assumption) (fun hHeld2 => ?_)
          clear hK Kx
          refine takeW 11 63 (.pointer (some ⟨w.heap.size, j, none⟩)) rfl rfl (by kernel_rfl) (by kernel_rfl) (by kernel_rfl) (fun _ _ _ h => h) rfl (fun wx hSw => by obtain ⟨hs1, hs2⟩ := hSw; go_simp) (by assumption) ?_
          simp only [Act.put, List.setIfInBounds_toArray, List.set_cons_succ, List.set_cons_zero]
          refine wpAnyH_ready (rs := [12]) (by kernel_rfl) (by simp) ?_
          refine AllReadyH.cons rfl (fun Kx hK => ?_) AllReadyH.nil
          go_simp
          refine hK.out _ _ ⟨?_, ?_, ?_⟩ (fun hHeld3 => ?_)
          · exact (setCell_farN (w := wb) y1).trans b5
          · exact (setCell_farN (w := wb) y1).trans b6
          · exact (setCell_otherN (w := wb) x3).trans bm
          clear hK Kx
          refine wpAnyH_done (by kernel_rfl) ?_ _
          have HRw2 := hide (((unhide HRw).set j (by simp; omega) (f v (q : Int))).of (Below.refl _ _).drew)
          have HB2 := hide (((unhide HB).setCell (p := ⟨w.heap.size, j, none⟩) (Nat.le_refl _) (.int .i64 (f v (q : Int)))).drew)
          clear HRw HB
          go_wp2
          go_roundw
          case rel => exact ⟨m, ((xs.set j v).set q v).set j (f v (q : Int)), by omega, rfl, unhide HNx, unhide HBp, unhide HRw2, unhide HB2⟩
          case measure => simp [intOf] <;> omega
end Go.Proofs.YtkdeilhkobcglaaDoor
