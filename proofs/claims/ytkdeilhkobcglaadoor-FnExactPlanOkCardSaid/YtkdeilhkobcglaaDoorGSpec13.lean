import Derived.Test.YtkdeilhkobcglaaDoorGSpec5
import Derived.Test.YtkdeilhkobcglaaDoorGSpec9
/-
  THE SPECIFICATION's WIDTH OF A NODE, every kind.
-/
namespace Go.Proofs.YtkdeilhkobcglaaDoor
open Go Go.RowKit

theorem kind_of {ps : List Pn} {i : Nat} (hi : i < ps.length) (h : frm (nds ps) i ≠ -1) : 1 ≤ (ps[i]).K ∧ (ps[i]).K ≤ 10 := by
  refine Decidable.byContradiction (fun hc => h (frm_neg ?_))
  rw [kidsAt_nds hi]
  have ha : arity (ps[i]).K = -1 := by
    unfold arity
    rw [if_neg (by omega), if_neg (by omega), if_neg hc]
  unfold kidsP
  simp [ha]

theorem l3Width_calls (ts : List Tb) (ps : List Pn) (g cap gt capt : Nat) (lp : ps.length ≤ 1048576) (lt : ts.length ≤ 1048576) (fit : ∀ p ∈ ps, p.Ex.length ≤ 1048576 ∧ p.Exs.length ≤ 1048576 ∧ ∀ xs ∈ p.Exs, xs.length ≤ 1048576) (cols : ∀ t ∈ ts, 0 ≤ t.Cols ∧ t.Cols ≤ 16) :
    ∀ (n i : Nat), i < n → i < ps.length → frm (nds ps) i ≠ -1 → ∀ (env : Int), 0 ≤ env → env ≤ 200 → ∀ (w : World), g < w.heap.size → PnsAt w g 0 ps → gt < w.heap.size → TablesAt w gt 0 ts →
    Calls Tryd.prog 25 #[.agg #[.slice (some ⟨g, 0, none⟩) ps.length cap], .agg #[.slice (some ⟨gt, 0, none⟩) ts.length capt], .int .i64 (i : Int), .int .i64 env] w fun e w' => e = .returned (.int .i64 (wid ts ps i env)) ∧ Below w.heap.size w w' := by
  intro n
  induction n with
  | zero => intro i hi; omega
  | succ n ih =>
    intro i hin hi hfr env h0 h1 w hg hn hgt ht
    have H : WHyp ts ps g cap gt capt i env w := ⟨lp, lt, fit, cols, h0, h1, hg, hn, hgt, ht, fun q hq hfq ev e0 e1 W hb =>
      ih q (by omega) (by omega) hfq ev e0 e1 W (Nat.lt_of_lt_of_le hg hb.size) (hn.of hg hb) (Nat.lt_of_lt_of_le hgt hb.size) (ht.of hgt hb)⟩
    by_cases hu : UsedP ts ps[i]
    · have hk := kind_of hi hfr
      have hc : (ps[i]).K = 1 ∨ (ps[i]).K = 2 ∨ (ps[i]).K = 3 ∨ (ps[i]).K = 4 ∨ (ps[i]).K = 5 ∨ (ps[i]).K = 6 ∨ (ps[i]).K = 7 ∨ (ps[i]).K = 8 ∨ (ps[i]).K = 9 ∨ (ps[i]).K = 10 := by omega
      rcases hc with hK | hK | hK | hK | hK | hK | hK | hK | hK | hK
      · exact width_1 ts ps g cap gt capt i env w H hi hfr hu hK
      · exact width_2 ts ps g cap gt capt i env w H hi hfr hu hK
      · exact width_3 ts ps g cap gt capt i env w H hi hfr hu hK
      · exact width_4 ts ps g cap gt capt i env w H hi hfr hu hK
      · exact width_5 ts ps g cap gt capt i env w H hi hfr hu hK
      · exact width_6 ts ps g cap gt capt i env w H hi hfr hu hK
      · exact width_7 ts ps g cap gt capt i env w H hi hfr hu hK
      · exact width_8 ts ps g cap gt capt i env w H hi hfr hu hK
      · exact width_9 ts ps g cap gt capt i env w H hi hfr hu hK
      · exact width_10 ts ps g cap gt capt i env w H hi hfr hu hK
    · exact width_not ts ps g cap gt capt i env w H hi hu
end Go.Proofs.YtkdeilhkobcglaaDoor
/-
  THE SPECIFICATION's JUDGE OF PLANS.
-/
namespace Go.Proofs.YtkdeilhkobcglaaDoor
open Go Go.RowKit

structure PlanV (ts : List Tb) (ps : List Pn) : Prop where
  db : DbV ts
  some : 1 ≤ ps.length
  few : ps.length ≤ 2000
  all : frm (nds ps) (ps.length - 1) = 0
  wide : 0 ≤ wid ts ps (ps.length - 1) 0
open Classical in
noncomputable def planW (ts : List Tb) (ps : List Pn) : Int := if PlanV ts ps then wid ts ps (ps.length - 1) 0 else 0
noncomputable def planE (ts : List Tb) (ps : List Pn) : Ending := .returned (.tuple #[.int .i64 (planW ts ps), .bool (dB (PlanV ts ps))])
theorem planE_no {ts : List Tb} {ps : List Pn} (h : ¬ PlanV ts ps) : planE ts ps = .returned (.tuple #[.int .i64 0, .bool false]) := by
  unfold planE planW
  rw [if_neg h, dB_false h]
theorem planE_yes {ts : List Tb} {ps : List Pn} (h : PlanV ts ps) : planE ts ps = .returned (.tuple #[.int .i64 (wid ts ps (ps.length - 1) 0), .bool true]) := by
  unfold planE planW
  rw [if_pos h, dB_true h]
structure PF (s g np cap gt nt capt : Nat) (W : World) : Prop where
  p : W.cell? ⟨s, 0, none⟩ = some (.slice (some ⟨g, 0, none⟩) np cap)
  d : W.cell? ⟨s + 1, 0, none⟩ = some (.slice (some ⟨gt, 0, none⟩) nt capt)
  sz : s + 1 < W.heap.size
theorem PF.of {s g np cap gt nt capt : Nat} {W W1 : World} (h : PF s g np cap gt nt capt W) (hb : Below W.heap.size W W1) : PF s g np cap gt nt capt W1 := by
  have hs := h.sz
  exact ⟨(hb.cell (p := ⟨s, 0, none⟩) (show s < _ by omega)).trans h.p, (hb.cell (p := ⟨s + 1, 0, none⟩) (show s + 1 < _ by omega)).trans h.d, Nat.lt_of_lt_of_le hs hb.size⟩

set_option maxHeartbeats 4000000 in
theorem sPlanOk_calls (ts : List Tb) (ps : List Pn) (g cap gt capt : Nat) (w : World) (lp : ps.length ≤ 1048576) (lt : ts.length ≤ 1048576) (hsm : SmallT ts) (fit : ∀ p ∈ ps, p.Ex.length ≤ 1048576 ∧ p.Exs.length ≤ 1048576 ∧ ∀ xs ∈ p.Exs, xs.length ≤ 1048576)
    (hg : g < w.heap.size) (hn : PnsAt w g 0 ps) (hgt : gt < w.heap.size) (ht : TablesAt w gt 0 ts) :
    Calls Tryd.prog 8 #[.agg #[.slice (some ⟨g, 0, none⟩) ps.length cap], .agg #[.slice (some ⟨gt, 0, none⟩) ts.length capt]] w fun e w' => e = planE ts ps ∧ Below w.heap.size w w' := by
  have HDb := hide (fun W (hb : Below w.heap.size w W) => sDbOk_calls ts gt capt W (Nat.lt_of_lt_of_le hgt hb.size) (ht.of hgt hb) lt hsm)
  have HNo := hide (fun (h : ¬ PlanV ts ps) => planE_no h)
  by_cases hd : DbV ts
  rotate_left
  · have HD : Hid (dB (DbV ts) = false) := dB_false hd
    have HE := hide (unhide HNo (fun h => hd h.db))
    clear HNo hn ht hsm fit hd
    generalize dB (DbV ts) = B at *
    generalize planE ts ps = E at *
    obtain rfl := HD.out
    go_enter Tryd.func8, Tryd.ntmps8
    go_wp2_with fail
    refine (unhide HDb _ (bA (bA (Below.refl _ _) _) _)).mono ?_; rintro e w1 ⟨rfl, hb⟩
    have n1 := bT (bA (bA (Below.refl w.heap.size w) _) _) hb
    go_wp2
    go_ret2
    exact ⟨(unhide HE).symm, n1⟩
  have HD : Hid (dB (DbV ts) = true) := dB_true hd
  generalize hBd : dB (DbV ts) = B at *
  obtain rfl := HD.out
  clear hBd
  by_cases h1 : (ps.length : Int) < 1
  · have HE := hide (unhide HNo (fun h => by have := h.some; omega))
    clear HNo hn ht hsm fit hd
    generalize planE ts ps = E at *
    go_enter Tryd.func8, Tryd.ntmps8
    go_wp2_with fail
    refine (unhide HDb _ (bA (bA (Below.refl _ _) _) _)).mono ?_; rintro e w1 ⟨rfl, hb⟩
    have n1 := bT (bA (bA (Below.refl w.heap.size w) _) _) hb
    go_wp2
    go_ret2
    exact ⟨(unhide HE).symm, n1⟩
  by_cases h2 : 2000 < (ps.length : Int)
  · have HE := hide (unhide HNo (fun h => by have := h.few; omega))
    clear HNo hn ht hsm fit hd
    generalize planE ts ps = E at *
    go_enter Tryd.func8, Tryd.ntmps8
    go_wp2_with fail
    refine (unhide HDb _ (bA (bA (Below.refl _ _) _) _)).mono ?_; rintro e w1 ⟨rfl, hb⟩
    have n1 := bT (bA (bA (Below.refl w.heap.size w) _) _) hb
    go_wp2
    go_ret2
    exact ⟨(unhide HE).symm, n1⟩
  have hk : ((ps.length - 1 : Nat) : Int) = (ps.length : Int) - 1 := by omega
  have HF := hide (fun W (hb : Below w.heap.size w W) => by
    have h := from3_calls ps g cap lp ps.length (ps.length - 1) (by omega) (by omega) W (Nat.lt_of_lt_of_le hg hb.size) (hn.of hg hb)
    rw [hk] at h
    exact h)
  have HW := hide (fun (hf : frm (nds ps) (ps.length - 1) = 0) W (hb : Below w.heap.size w W) => by
    have h := l3Width_calls ts ps g cap gt capt lp lt fit (fun t htm => by
      obtain ⟨k, hk', rfl⟩ := List.mem_iff_getElem.1 htm
      have := hd.each k hk'
      exact ⟨by have := this.2.1; omega, this.2.2.1⟩) ps.length (ps.length - 1) (by omega) (by omega) (by omega) 0 (by omega) (by omega) W (Nat.lt_of_lt_of_le hg hb.size) (hn.of hg hb) (Nat.lt_of_lt_of_le hgt hb.size) (ht.of hgt hb)
    rw [hk] at h
    exact h)
  have HYes := hide (fun (hf : frm (nds ps) (ps.length - 1) = 0) (hw : 0 ≤ wid ts ps (ps.length - 1) 0) => planE_yes (ts := ts) (ps := ps) ⟨hd, by omega, by omega, hf, hw⟩)
  have HN1 := hide (fun (hf : frm (nds ps) (ps.length - 1) ≠ 0) => unhide HNo (fun h => hf h.all))
  have HN2 := hide (fun (hf : wid ts ps (ps.length - 1) 0 < 0) => unhide HNo (fun h => by have := h.wide; omega))
  have hwr := (wid_range ts ps (ps.length - 1) 0).1
  have hwr2 : wid ts ps (ps.length - 1) 0 ≤ 200 := by have := (wid_range ts ps (ps.length - 1) 0).2; omega
  have hfl := frm_le (nds ps) (ps.length - 1)
  have hf0 := hfl.1
  have hf1 := hfl.2
  clear HNo hn ht hsm fit hd hk hfl
  generalize planE ts ps = E at *
  generalize frm (nds ps) (ps.length - 1) = f at *
  generalize wid ts ps (ps.length - 1) 0 = z at *
  cases bf : (f != 0)
  · have hf : f = 0 := by simpa using bf
    have HWa := hide (unhide HW hf)
    have HY := hide (unhide HYes hf)
    clear HW HYes HN1 bf
    subst hf
    by_cases hz : z < 0
    · have HE := hide (unhide HN2 hz)
      clear HN2 HY
      go_enter Tryd.func8, Tryd.ntmps8
      go_wp2_with fail
      refine (unhide HDb _ (bA (bA (Below.refl _ _) _) _)).mono ?_; rintro e w1 ⟨rfl, hb⟩
      have n1 := bT (bA (bA (Below.refl w.heap.size w) _) _) hb
      have F := PF.of (s := w.heap.size) (g := g) (np := ps.length) (cap := cap) (gt := gt) (nt := ts.length) (capt := capt) ⟨by simp [go_sem], by simp [go_sem], by simp⟩ hb
      clear hb
      obtain ⟨fp, fd, fs⟩ := id F
      go_wp2_with fail
      refine (unhide HF _ n1).mono ?_; rintro e w2 ⟨rfl, hb⟩
      have n2 := bT n1 hb
      have F2 := F.of hb
      clear hb fp fd fs
      obtain ⟨fp, fd, fs⟩ := id F2
      go_wp2_with fail
      refine (unhide HWa _ n2).mono ?_; rintro e w3 ⟨rfl, hb⟩
      have n3 := bT n2 hb
      go_wp2
      go_ret2
      exact ⟨(unhide HE).symm, n3⟩
    · have HE := hide (unhide HY (by omega))
      clear HN2 HY
      go_enter Tryd.func8, Tryd.ntmps8
      go_wp2_with fail
      refine (unhide HDb _ (bA (bA (Below.refl _ _) _) _)).mono ?_; rintro e w1 ⟨rfl, hb⟩
      have n1 := bT (bA (bA (Below.refl w.heap.size w) _) _) hb
      have F := PF.of (s := w.heap.size) (g := g) (np := ps.length) (cap := cap) (gt := gt) (nt := ts.length) (capt := capt) ⟨by simp [go_sem], by simp [go_sem], by simp⟩ hb
      clear hb
      obtain ⟨fp, fd, fs⟩ := id F
      go_wp2_with fail
      refine (unhide HF _ n1).mono ?_; rintro e w2 ⟨rfl, hb⟩
      have n2 := bT n1 hb
      have F2 := F.of hb
      clear hb fp fd fs
      obtain ⟨fp, fd, fs⟩ := id F2
      go_wp2_with fail
      refine (unhide HWa _ n2).mono ?_; rintro e w3 ⟨rfl, hb⟩
      have n3 := bT n2 hb
      go_wp2
      go_ret2
      exact ⟨(unhide HE).symm, n3⟩
  · have HE := hide (unhide HN1 (by simpa using bf))
    clear HW HYes HN1 HN2
    go_enter Tryd.func8, Tryd.ntmps8
    go_wp2_with fail
    refine (unhide HDb _ (bA (bA (Below.refl _ _) _) _)).mono ?_; rintro e w1 ⟨rfl, hb⟩
    have n1 := bT (bA (bA (Below.refl w.heap.size w) _) _) hb
    have F := PF.of (s := w.heap.size) (g := g) (np := ps.length) (cap := cap) (gt := gt) (nt := ts.length) (capt := capt) ⟨by simp [go_sem], by simp [go_sem], by simp⟩ hb
    clear hb
    obtain ⟨fp, fd, fs⟩ := id F
    go_wp2_with fail
    refine (unhide HF _ n1).mono ?_; rintro e w2 ⟨rfl, hb⟩
    have n2 := bT n1 hb
    go_wp2
    go_ret2
    exact ⟨(unhide HE).symm, n2⟩
end Go.Proofs.YtkdeilhkobcglaaDoor
