import Derived.Test.YtnchcndcinpalaaGreatDoorQ18
/-
  THE WIDTHS OF ALL NODES, and the specification's judge of flat plans.
-/
namespace Go.Proofs.YtnchcndcinpalaaGreatDoor
open Go Go.RowKit

def fws (ts : List Tb) (fs : List Fn) (k : Nat) : List Int := (List.range k).map (fw ts fs)
theorem fws_length (ts : List Tb) (fs : List Fn) (k : Nat) : (fws ts fs k).length = k := by simp [fws]
theorem fws_succ (ts : List Tb) (fs : List Fn) (k : Nat) : fws ts fs (k + 1) = fws ts fs k ++ [fw ts fs k] := by simp [fws, List.range_succ]
theorem fws_at (ts : List Tb) (fs : List Fn) (k j : Nat) (h : j < k) : (fws ts fs k)[j]'(by rw [fws_length]; exact h) = fw ts fs j := by simp [fws]
/-- a box of a node -/
structure N8 (s : Nat) (K T M Wd L R : Int) (u4 u5 : Value) (W : World) : Prop where
  c0 : W.cell? ⟨s, 0, none⟩ = some (.int .i64 K)
  c1 : W.cell? ⟨s, 1, none⟩ = some (.int .i64 T)
  c2 : W.cell? ⟨s, 2, none⟩ = some (.int .i64 M)
  c3 : W.cell? ⟨s, 3, none⟩ = some (.int .i64 Wd)
  c4 : W.cell? ⟨s, 4, none⟩ = some u4
  c5 : W.cell? ⟨s, 5, none⟩ = some u5
  c6 : W.cell? ⟨s, 6, none⟩ = some (.int .i64 L)
  c7 : W.cell? ⟨s, 7, none⟩ = some (.int .i64 R)
  sz : s < W.heap.size
theorem N8.of {s : Nat} {K T M Wd L R : Int} {u4 u5 : Value} {W W1 : World} (h : N8 s K T M Wd L R u4 u5 W) (hb : Below W.heap.size W W1) : N8 s K T M Wd L R u4 u5 W1 := by
  have h0 := h.sz
  exact ⟨(hb.cell (p := ⟨s, 0, none⟩) h0).trans h.c0, (hb.cell (p := ⟨s, 1, none⟩) h0).trans h.c1, (hb.cell (p := ⟨s, 2, none⟩) h0).trans h.c2, (hb.cell (p := ⟨s, 3, none⟩) h0).trans h.c3, (hb.cell (p := ⟨s, 4, none⟩) h0).trans h.c4, (hb.cell (p := ⟨s, 5, none⟩) h0).trans h.c5, (hb.cell (p := ⟨s, 6, none⟩) h0).trans h.c6, (hb.cell (p := ⟨s, 7, none⟩) h0).trans h.c7, Nat.lt_of_lt_of_le h0 hb.size⟩
/-- the boxes of a flat plan and of a Db -/
structure FB (s g nf cap : Nat) (Rt : Int) (gt nt capt : Nat) (W : World) : Prop where
  p : W.cell? ⟨s, 0, none⟩ = some (.slice (some ⟨g, 0, none⟩) nf cap)
  r : W.cell? ⟨s, 1, none⟩ = some (.int .i64 Rt)
  d : W.cell? ⟨s + 1, 0, none⟩ = some (.slice (some ⟨gt, 0, none⟩) nt capt)
  sz0 : s < W.heap.size
  sz : s + 1 < W.heap.size
theorem FB.of {s g nf cap : Nat} {Rt : Int} {gt nt capt : Nat} {W W1 : World} (h : FB s g nf cap Rt gt nt capt W) (hb : Below W.heap.size W W1) : FB s g nf cap Rt gt nt capt W1 := by
  have hs := h.sz
  have h0 := h.sz0
  exact ⟨(hb.cell (p := ⟨s, 0, none⟩) h0).trans h.p, (hb.cell (p := ⟨s, 1, none⟩) h0).trans h.r, (hb.cell (p := ⟨s + 1, 0, none⟩) hs).trans h.d, Nat.lt_of_lt_of_le h0 hb.size, Nat.lt_of_lt_of_le hs hb.size⟩
theorem FB.low {s g nf cap : Nat} {Rt : Int} {gt nt capt : Nat} {W W1 : World} (h : FB s g nf cap Rt gt nt capt W) (hb : Below (s + 2) W W1) : FB s g nf cap Rt gt nt capt W1 := by
  have hs := h.sz
  have h0 := h.sz0
  have hz := hb.size
  exact ⟨(hb.cell (p := ⟨s, 0, none⟩) (show s < s + 2 by omega)).trans h.p, (hb.cell (p := ⟨s, 1, none⟩) (show s < s + 2 by omega)).trans h.r, (hb.cell (p := ⟨s + 1, 0, none⟩) (show s + 1 < s + 2 by omega)).trans h.d, by omega, by omega⟩
theorem bA' {w : World} {s : Nat} (h : s ≤ w.heap.size) (o : Obj) : Below s w (w.alloc o) := (Below.refl s w).alloc h o
theorem OwnI.start (w : World) (B : Nat) (hB : B ≤ w.heap.size) : OwnI (w.alloc (.cells #[] 3)) B w.heap.size 0 [] :=
  ⟨rfl, Or.inr ⟨w.heap.size, 0, #[], rfl, hB, (MapKept.heap_alloc w _).1, Nat.le_refl _, Nat.zero_le _, rfl, rfl⟩⟩
theorem nodF_ok {ts : List Tb} (hd : DbV ts) {fs : List Fn} {k : Nat} (hk : k < fs.length) (hF : FldP ts.length k fs[k]) (hR : 0 ≤ fl ts fs fs[k] ∧ fl ts fs fs[k] ≤ 200 ∧ 0 ≤ fr ts fs fs[k] ∧ fr ts fs fs[k] ≤ 200) :
    (0 ≤ nodF ts fs[k] (fl ts fs fs[k]) (fr ts fs fs[k]) ∧ nodF ts fs[k] (fl ts fs fs[k]) (fr ts fs fs[k]) ≤ 200 → NodF ts fs k fs[k] ∧ nodF ts fs[k] (fl ts fs fs[k]) (fr ts fs fs[k]) = fw ts fs k) ∧
    (NodF ts fs k fs[k] → 0 ≤ nodF ts fs[k] (fl ts fs fs[k]) (fr ts fs fs[k]) ∧ nodF ts fs[k] (fl ts fs fs[k]) (fr ts fs fs[k]) ≤ 200) := by
  have hst := fw_step hk hF
  constructor
  · rintro ⟨h1, h2⟩
    by_cases hS : SidP fs[k] (fl ts fs fs[k]) (fr ts fs fs[k])
    · rw [nodF_yes hS] at h1 h2 ⊢
      exact ⟨⟨hF, hS, by rw [hst]; exact h2⟩, hst.symm⟩
    · rw [nodF_no hS] at h1
      omega
  · intro hN
    rw [nodF_yes hN.sid]
    have := hN.wide
    rw [hst] at this
    exact ⟨stepF_nonneg hd hF hR.1 hR.2.2.1 hN.sid, this⟩

set_option maxRecDepth 100000 in
set_option maxHeartbeats 8000000 in
theorem l4Widths_calls (ts : List Tb) (fs : List Fn) (Rt : Int) (g cap gt capt : Nat) (w : World) (hd : DbV ts) (few : fs.length ≤ 8000) (fit : ∀ p ∈ fs, p.Ex.length ≤ 1048576 ∧ p.Exs.length ≤ 1048576 ∧ ∀ xs ∈ p.Exs, xs.length ≤ 1048576)
    (hg : g < w.heap.size) (hn : FnsAt w g 0 fs) (hgt : gt < w.heap.size) (ht : TablesAt w gt 0 ts) :
    Calls Tryz.prog 25 #[.agg #[.slice (some ⟨g, 0, none⟩) fs.length cap, .int .i64 Rt], .agg #[.slice (some ⟨gt, 0, none⟩) ts.length capt]] w fun e w' =>
      ((OkTo ts fs fs.length ∧ ∃ g' cap', e = .returned (.tuple #[.slice (some ⟨g', 0, none⟩) fs.length cap', .bool true]) ∧ OwnI w' (w.heap.size + 2) g' cap' (fws ts fs fs.length)) ∨
       (¬ OkTo ts fs fs.length ∧ ∃ v, e = .returned (.tuple #[v, .bool false]))) ∧ Below w.heap.size w w' := by
  have HN := hide hn; have HFit := hide fit; have HD := hide hd; have HTb := hide ht
  clear hn fit hd ht
  go_enter Tryz.func25, Tryz.ntmps25
  go_wp2
  go_loopw [6, 7] (fun s c wr => ∃ k g' cap' : Nat, k ≤ fs.length ∧ c = .int .i64 k ∧ s = .slice (some ⟨g', 0, none⟩) k cap' ∧ OwnI wr (w.heap.size + 2) g' cap' (fws ts fs k) ∧ OkTo ts fs k ∧ FB w.heap.size g fs.length cap Rt gt ts.length capt wr ∧ Below w.heap.size w wr) (fun _ c _ => fs.length - (intOf c).toNat)
  case atStart =>
    refine ⟨0, _, 0, Nat.zero_le _, rfl, rfl, ?_, OkTo.zero _ _, ?_, ?_⟩
    · have h := OwnI.start ((w.alloc (.cells #[.slice (some ⟨g, 0, none⟩) fs.length cap, .int .i64 Rt] 32)).alloc (.cells #[.slice (some ⟨gt, 0, none⟩) ts.length capt] 38)) (w.heap.size + 2) (by simp)
      simpa [fws] using h
    · exact ⟨by simp [go_sem], by simp [go_sem], by simp [go_sem], (by simp <;> omega), (by simp <;> omega)⟩
    · exact (by (repeat (first | exact Below.refl _ _ | refine bA ?_ _)))
  case round =>
    obtain ⟨k, g', cap', hk, rfl, rfl, hO, hok, F, hb⟩ := hrel
    obtain ⟨fp, frt, fd, fs0, fs1⟩ := id F
    by_cases hlt : k < fs.length
    · obtain ⟨c0, c1, c2, c3, c6, c7, ⟨b4, c4, _, hb4, ho4⟩, b5, c5, _, hb5, ho5⟩ := ((unhide HN).of hg hb).at k hlt
      simp only [Nat.zero_add] at c0 c1 c2 c3 c4 c5 c6 c7
      obtain ⟨x1, x2, x3⟩ := unhide HFit _ (List.getElem_mem hlt)
      have hFld := fun W => l4Fields_calls ts.length k (fs[k]).K (fs[k]).T (fs[k]).M (fs[k]).W (fs[k]).L (fs[k]).R (fs[k]).Ex.length (fs[k]).Exs.length (some ⟨b4, 0, none⟩) (some ⟨b5, 0, none⟩) (fs[k]).Ex.length (fs[k]).Exs.length gt capt W
      have hkr := fun (hF : FldP ts.length k fs[k]) => kids_range (unhide HD) hok hF (by omega)
      have hWd := fun (hF : FldP ts.length k fs[k]) W (hbW : Below wr.heap.size wr W) => l4Width_calls ts k (fs[k]).K (fs[k]).T (fs[k]).M (fs[k]).W (fs[k]).L (fs[k]).R (fl ts fs fs[k]) (fr ts fs fs[k]) (fs[k]).Ex (fs[k]).Exs b4 b5 gt capt W hF (hkr hF).1 (hkr hF).2.1 (hkr hF).2.2.1 (hkr hF).2.2.2
        (Nat.lt_of_lt_of_le hb4 hbW.size) (ho4.of hb4 hbW) x1 (Nat.lt_of_lt_of_le hb5 hbW.size) (ho5.of hb5 hbW) x2 x3 (Nat.lt_of_lt_of_le (Nat.lt_of_lt_of_le hgt hb.size) hbW.size) (((unhide HTb).of hgt hb).of (Nat.lt_of_lt_of_le hgt hb.size) hbW)
      have hnod := fun hF => nodF_ok (unhide HD) hlt hF (hkr hF)
      have hno : ¬ NodF ts fs k fs[k] → ¬ OkTo ts fs fs.length := fun h h' => h (h' k hlt hlt)
      have hyes : NodF ts fs k fs[k] → OkTo ts fs (k + 1) := fun h => hok.succ hlt h
      have hFN : NodF ts fs k fs[k] → FldP ts.length k fs[k] := fun h => h.fld
      have hflv : oneK (fs[k]).K → fl ts fs fs[k] = fw ts fs (fs[k]).L.toNat := fun h => by unfold fl; rw [if_pos h]
      have hfrv : twoK (fs[k]).K → fr ts fs fs[k] = fw ts fs (fs[k]).R.toNat := fun h => by unfold fr; rw [if_pos h]
      have hfl0 : ¬ oneK (fs[k]).K → fl ts fs fs[k] = 0 := fun h => by unfold fl; rw [if_neg h]
      have hfr0 : ¬ twoK (fs[k]).K → fr ts fs fs[k] = 0 := fun h => by unfold fr; rw [if_neg h]
      have hrow := hO.row
      have hOl := hO.lt
      have hsz := hb.size
      have HOne := hide (fun W => l4One_calls (fs[k]).K W)
      have HTwo := hide (fun W => l4Two_calls (fs[k]).K W)
      cases e : fs[k] with | mk K T M Wd Ex Exs L R =>
      rw [e] at c0 c1 c2 c3 c4 c5 c6 c7 hFld hkr hWd hnod hno hyes hFN hflv hfrv hfl0 hfr0 HOne HTwo
      simp only at c0 c1 c2 c3 c4 c5 c6 c7 hFld hkr hWd hnod hno hyes hFN hflv hfrv hfl0 hfr0 HOne HTwo
      have j1 : (k : Int) < (fs.length : Int) := by omega
      have q1 : g < wr.heap.size := Nat.lt_of_lt_of_le hg hb.size
      have HO := hide hO; have HFld := hide hFld; have HWd := hide hWd; have HNod := hide hnod; have HNo := hide hno; have HYes := hide hyes; have HFN := hide hFN; have HRow := hide hrow
      have HKr := hide hkr; have Hflv := hide hflv; have Hfrv := hide hfrv; have Hfl0 := hide hfl0; have Hfr0 := hide hfr0
      clear hO hFld hkr hWd hnod hno hyes hFN hflv hfrv hfl0 hfr0 hrow hok x1 x2 x3 ho4 ho5
      obtain ⟨B, hB⟩ : ∃ B, dB (FldF ts.length k K T M Wd Ex.length Exs.length L R) = B := ⟨_, rfl⟩
      rw [hB] at HFld
      cases B
      · have HNO := hide (unhide HNo (fun h => by have := dB_true (unhide HFN h); rw [hB] at this; cases this))
        clear HNod HNo HYes HFN HWd HKr Hflv Hfrv Hfl0 Hfr0 HRow hB HOne HTwo
        go_wp2_with fail
        refine (unhide HFld _).mono ?_; rintro e w1 ⟨rfl, hb1⟩
        have n1 := bT (bA hb _) hb1
        clear hb1
        go_wp2
        go_ret2
        exact ⟨Or.inr ⟨unhide HNO, _, rfl⟩, n1⟩
      have hF : FldF ts.length k K T M Wd Ex.length Exs.length L R := dB_iff.1 hB
      clear hB
      obtain ⟨kr1, kr2, kr3, kr4⟩ := unhide HKr hF
      have HWd1 := hide (unhide HWd hF)
      have HNod1 := hide (unhide HNod hF)
      obtain ⟨_, _, _, _, _, _, hl1, _, hr1, _⟩ := hF
      have HL1 := hide hl1; have HR1 := hide hr1
      clear HWd HNod HKr hl1 hr1 HFN
      obtain ⟨lv, hlv⟩ : ∃ z, fl ts fs ⟨K, T, M, Wd, Ex, Exs, L, R⟩ = z := ⟨_, rfl⟩
      obtain ⟨rv, hrv⟩ : ∃ z, fr ts fs ⟨K, T, M, Wd, Ex, Exs, L, R⟩ = z := ⟨_, rfl⟩
      rw [hlv] at kr1 kr2 HWd1 HNod1 Hflv Hfl0
      rw [hrv] at kr3 kr4 HWd1 HNod1 Hfrv Hfr0
      clear hlv hrv
      obtain ⟨nv, hnv⟩ : ∃ z, nodF ts ⟨K, T, M, Wd, Ex, Exs, L, R⟩ lv rv = z := ⟨_, rfl⟩
      rw [hnv] at HWd1 HNod1
      clear hnv
      have HCell : Hid (∀ (j : Nat) W, j < k → Below wr.heap.size wr W → W.cell? ⟨g', j, none⟩ = some (.int .i64 (fw ts fs j))) := fun j W hj hbW => by
        have h := (unhide HRow).at j (by rw [fws_length]; exact hj)
        rw [fws_at ts fs k j hj, Nat.zero_add] at h
        exact (hbW.cell (p := ⟨g', j, none⟩) hOl.1).trans h
      clear HRow
      have HF := hide F
      have HBox : Hid (∀ W, Below (wr.heap.size + 1) (wr.alloc (.cells #[.int .i64 K, .int .i64 T, .int .i64 M, .int .i64 Wd, .slice (some ⟨b4, 0, none⟩) Ex.length Ex.length, .slice (some ⟨b5, 0, none⟩) Exs.length Exs.length, .int .i64 L, .int .i64 R] 67)) W → N8 wr.heap.size K T M Wd L R (.slice (some ⟨b4, 0, none⟩) Ex.length Ex.length) (.slice (some ⟨b5, 0, none⟩) Exs.length Exs.length) W) := fun W hbW =>
        N8.of (W := wr.alloc (.cells #[.int .i64 K, .int .i64 T, .int .i64 M, .int .i64 Wd, .slice (some ⟨b4, 0, none⟩) Ex.length Ex.length, .slice (some ⟨b5, 0, none⟩) Exs.length Exs.length, .int .i64 L, .int .i64 R] 67)) ⟨by simp [go_sem], by simp [go_sem], by simp [go_sem], by simp [go_sem], by simp [go_sem], by simp [go_sem], by simp [go_sem], by simp [go_sem], by simp⟩ (by simpa using hbW)
      have HFW := hide (fws_succ ts fs k)
      by_cases h1 : oneK K
      · by_cases h2 : twoK K
        · obtain ⟨hL0, hL1⟩ := unhide HL1 h1
          obtain ⟨q, rfl⟩ : ∃ q : Nat, L = (q : Int) := ⟨L.toNat, by omega⟩
          have hq : q < k := by omega
          have hql : (q : Int) < (k : Int) := by omega
          have hlq : fw ts fs q = lv := by rw [unhide Hflv h1]; simp
          obtain ⟨hR0, hR1⟩ := unhide HR1 h2
          obtain ⟨j, rfl⟩ : ∃ j : Nat, R = (j : Int) := ⟨R.toNat, by omega⟩
          have hj : j < k := by omega
          have hjl : (j : Int) < (k : Int) := by omega
          have hrj : fw ts fs j = rv := by rw [unhide Hfrv h2]; simp
          rw [show decide (oneK K) = true from decide_eq_true h1] at HOne
          rw [show decide (twoK K) = true from decide_eq_true h2] at HTwo
          clear h1 h2 Hflv Hfrv Hfl0 Hfr0 HL1 HR1
          go_wp2_with fail
          refine (unhide HFld _).mono ?_; rintro e w1 ⟨rfl, hb1⟩
          have n1 := bT (bA hb _) hb1
          have q2 := bT (bA (Below.refl wr.heap.size wr) _) hb1
          have N1 := unhide HBox w1 (by simpa using hb1)
          have F1 := (unhide HF).of q2
          have cl := unhide HCell q w1 hq q2
          rw [hlq] at cl
          have cr := unhide HCell j w1 hj q2
          rw [hrj] at cr
          have hg1 : g' < w1.heap.size := Nat.lt_of_lt_of_le hOl.1 q2.size
          have HO1 := hide ((unhide HO).of q2)
          clear hb1 c0 c1 c2 c3 c4 c5 c6 c7 fp frt fd fs0 fs1 HO HFld HBox HCell
          obtain ⟨f0, f1, f2, f3, f4, f5, f6, f7, fz⟩ := id N1
          obtain ⟨fp, frt, fd, fs0, fs1⟩ := id F1
          have HWd2 := hide (unhide HWd1 w1 q2)
          have HF1 := hide F1
          clear HWd1 HF F F1 N1
          generalize wr.heap.size = bx at *
          go_wp2_with fail
          refine (unhide HOne _).mono ?_; rintro e w1' ⟨rfl, hw⟩; obtain rfl := hw.symm; clear hw
          go_wp2_with fail
          refine (unhide HTwo _).mono ?_; rintro e w1' ⟨rfl, hw⟩; obtain rfl := hw.symm; clear hw
          go_wp2_with fail
          refine (unhide HWd2).mono ?_; rintro e w3 ⟨rfl, hb3⟩
          have n3 := bT n1 hb3
          have HF3 := hide ((unhide HF1).of hb3)
          have HO3 := hide ((unhide HO1).of hb3)
          have hs3 : w.heap.size + 2 ≤ w3.heap.size := by have := (unhide HF3).sz; omega
          clear hb3 f0 f1 f2 f3 f4 f5 f6 f7 fz fp frt fd fs0 fs1 HF1 HO1 HWd2 HOne HTwo cl cr
          by_cases hv0 : nv < 0
          · have HNO := hide (unhide HNo (fun h => by have := (unhide HNod1).2 h; omega))
            clear HNod1 HNo HYes HO3 HF3
            go_wp2
            go_ret2
            exact ⟨Or.inr ⟨unhide HNO, _, rfl⟩, n3⟩
          by_cases hv2 : 200 < nv
          · have HNO := hide (unhide HNo (fun h => by have := (unhide HNod1).2 h; omega))
            clear HNod1 HNo HYes HO3 HF3
            go_wp2
            go_ret2
            exact ⟨Or.inr ⟨unhide HNO, _, rfl⟩, n3⟩
          obtain ⟨hN, hnv⟩ := (unhide HNod1).1 ⟨by omega, by omega⟩
          have HOk := hide (unhide HYes hN)
          have HNV := hide hnv
          clear HNod1 HNo HYes hN hnv
          obtain ⟨i, hi, hz⟩ := Option.map_eq_some_iff.1 (show (Tryz.prog.info? 3).map (fun i => (i.zero, i.size, i.bytes)) = some (some (.int .i64 0), 1, 8) by kernel_rfl)
          simp only [Prod.mk.injEq] at hz
          obtain ⟨hz0, hz1, hz2⟩ := hz
          have HO4 := hide ((unhide HO3).of (bA (Below.refl _ _) (.cells #[.int .i64 nv] 3)))
          have hlk := fws_length ts fs k
          have HLK := hide hlk
          generalize fws ts fs k = ds at *
          have hgb : w.heap.size + 2 ≤ g' := hOl.2.1
          clear hlk HO3 hOl
          go_wp2_with (at_builtin; refine wpList_append_lies _ rfl (.tmp 59) (.tmp 61) 61 rfl (w.heap.size + 2) 3 i _ 1 8 Tryz.underlying61 hi hz0 hz1 hz2 rfl (by decide) (.slice (some ⟨g', 0, none⟩) k cap') k (vInts ds) rfl (by have := unhide HO4; unfold OwnI at this; rw [unhide HLK] at this; exact this) ⟨w3.heap.size, 0, none⟩ 1 1 [.int .i64 nv] rfl rfl (World.news_of_block (cs := #[.int .i64 nv]) (MapKept.heap_alloc w3 _).1) (by intro u hu; simp at hu; subst hu; rfl) (by decide) (by unfold maxLen; omega) (by omega) (by simp; omega) _ rfl ?_; intro g2 cap2 w4 hown2 hgrow hat hlt2)
          have HO5 : Hid (OwnI w4 (w.heap.size + 2) g2 cap2 (fws ts fs (k + 1))) := by
            show OwnI _ _ _ _ _
            unfold OwnI
            rw [unhide HFW, ← unhide HNV, vInts_append, show (ds ++ [nv]).length = k + 1 by simp; exact unhide HLK]
            exact hown2
          have HB4 : Hid (Below (w.heap.size + 2) w3 w4) := (bA' (w := w3) (s := w.heap.size + 2) hs3 (.cells #[.int .i64 nv] 3)).grown hgrow (by simp; omega) (fun j hj => by
              have : g' = j := by simpa [Value.ownBlock] using hj
              omega)
          have HF5 := hide ((unhide HF3).low (unhide HB4))
          have HB5 := hide (n3.trans ((unhide HB4).mono (by omega)))
          clear hown2 hgrow hat HLK HO4 HF3
          go_wp2
          go_roundw
          case rel => exact ⟨k + 1, g2, cap2, by omega, by go_num, rfl, HO5.out, unhide HOk, unhide HF5, unhide HB5⟩
          case measure => simp [intOf]; omega
        · obtain ⟨hL0, hL1⟩ := unhide HL1 h1
          obtain ⟨q, rfl⟩ : ∃ q : Nat, L = (q : Int) := ⟨L.toNat, by omega⟩
          have hq : q < k := by omega
          have hql : (q : Int) < (k : Int) := by omega
          have hlq : fw ts fs q = lv := by rw [unhide Hflv h1]; simp
          obtain rfl : rv = 0 := unhide Hfr0 h2
          rw [show decide (oneK K) = true from decide_eq_true h1] at HOne
          rw [show decide (twoK K) = false from decide_eq_false h2] at HTwo
          clear h1 h2 Hflv Hfrv Hfl0 Hfr0 HL1 HR1
          go_wp2_with fail
          refine (unhide HFld _).mono ?_; rintro e w1 ⟨rfl, hb1⟩
          have n1 := bT (bA hb _) hb1
          have q2 := bT (bA (Below.refl wr.heap.size wr) _) hb1
          have N1 := unhide HBox w1 (by simpa using hb1)
          have F1 := (unhide HF).of q2
          have cl := unhide HCell q w1 hq q2
          rw [hlq] at cl
          have hg1 : g' < w1.heap.size := Nat.lt_of_lt_of_le hOl.1 q2.size
          have HO1 := hide ((unhide HO).of q2)
          clear hb1 c0 c1 c2 c3 c4 c5 c6 c7 fp frt fd fs0 fs1 HO HFld HBox HCell
          obtain ⟨f0, f1, f2, f3, f4, f5, f6, f7, fz⟩ := id N1
          obtain ⟨fp, frt, fd, fs0, fs1⟩ := id F1
          have HWd2 := hide (unhide HWd1 w1 q2)
          have HF1 := hide F1
          clear HWd1 HF F F1 N1
          generalize wr.heap.size = bx at *
          go_wp2_with fail
          refine (unhide HOne _).mono ?_; rintro e w1' ⟨rfl, hw⟩; obtain rfl := hw.symm; clear hw
          go_wp2_with fail
          refine (unhide HTwo _).mono ?_; rintro e w1' ⟨rfl, hw⟩; obtain rfl := hw.symm; clear hw
          go_wp2_with fail
          refine (unhide HWd2).mono ?_; rintro e w3 ⟨rfl, hb3⟩
          have n3 := bT n1 hb3
          have HF3 := hide ((unhide HF1).of hb3)
          have HO3 := hide ((unhide HO1).of hb3)
          have hs3 : w.heap.size + 2 ≤ w3.heap.size := by have := (unhide HF3).sz; omega
          clear hb3 f0 f1 f2 f3 f4 f5 f6 f7 fz fp frt fd fs0 fs1 HF1 HO1 HWd2 HOne HTwo cl
          by_cases hv0 : nv < 0
          · have HNO := hide (unhide HNo (fun h => by have := (unhide HNod1).2 h; omega))
            clear HNod1 HNo HYes HO3 HF3
            go_wp2
            go_ret2
            exact ⟨Or.inr ⟨unhide HNO, _, rfl⟩, n3⟩
          by_cases hv2 : 200 < nv
          · have HNO := hide (unhide HNo (fun h => by have := (unhide HNod1).2 h; omega))
            clear HNod1 HNo HYes HO3 HF3
            go_wp2
            go_ret2
            exact ⟨Or.inr ⟨unhide HNO, _, rfl⟩, n3⟩
          obtain ⟨hN, hnv⟩ := (unhide HNod1).1 ⟨by omega, by omega⟩
          have HOk := hide (unhide HYes hN)
          have HNV := hide hnv
          clear HNod1 HNo HYes hN hnv
          obtain ⟨i, hi, hz⟩ := Option.map_eq_some_iff.1 (show (Tryz.prog.info? 3).map (fun i => (i.zero, i.size, i.bytes)) = some (some (.int .i64 0), 1, 8) by kernel_rfl)
          simp only [Prod.mk.injEq] at hz
          obtain ⟨hz0, hz1, hz2⟩ := hz
          have HO4 := hide ((unhide HO3).of (bA (Below.refl _ _) (.cells #[.int .i64 nv] 3)))
          have hlk := fws_length ts fs k
          have HLK := hide hlk
          generalize fws ts fs k = ds at *
          have hgb : w.heap.size + 2 ≤ g' := hOl.2.1
          clear hlk HO3 hOl
          go_wp2_with (at_builtin; refine wpList_append_lies _ rfl (.tmp 59) (.tmp 61) 61 rfl (w.heap.size + 2) 3 i _ 1 8 Tryz.underlying61 hi hz0 hz1 hz2 rfl (by decide) (.slice (some ⟨g', 0, none⟩) k cap') k (vInts ds) rfl (by have := unhide HO4; unfold OwnI at this; rw [unhide HLK] at this; exact this) ⟨w3.heap.size, 0, none⟩ 1 1 [.int .i64 nv] rfl rfl (World.news_of_block (cs := #[.int .i64 nv]) (MapKept.heap_alloc w3 _).1) (by intro u hu; simp at hu; subst hu; rfl) (by decide) (by unfold maxLen; omega) (by omega) (by simp; omega) _ rfl ?_; intro g2 cap2 w4 hown2 hgrow hat hlt2)
          have HO5 : Hid (OwnI w4 (w.heap.size + 2) g2 cap2 (fws ts fs (k + 1))) := by
            show OwnI _ _ _ _ _
            unfold OwnI
            rw [unhide HFW, ← unhide HNV, vInts_append, show (ds ++ [nv]).length = k + 1 by simp; exact unhide HLK]
            exact hown2
          have HB4 : Hid (Below (w.heap.size + 2) w3 w4) := (bA' (w := w3) (s := w.heap.size + 2) hs3 (.cells #[.int .i64 nv] 3)).grown hgrow (by simp; omega) (fun j hj => by
              have : g' = j := by simpa [Value.ownBlock] using hj
              omega)
          have HF5 := hide ((unhide HF3).low (unhide HB4))
          have HB5 := hide (n3.trans ((unhide HB4).mono (by omega)))
          clear hown2 hgrow hat HLK HO4 HF3
          go_wp2
          go_roundw
          case rel => exact ⟨k + 1, g2, cap2, by omega, by go_num, rfl, HO5.out, unhide HOk, unhide HF5, unhide HB5⟩
          case measure => simp [intOf]; omega
      · have h2 : ¬ twoK K := by omega
        obtain rfl : lv = 0 := unhide Hfl0 h1
        obtain rfl : rv = 0 := unhide Hfr0 h2
        rw [show decide (oneK K) = false from decide_eq_false h1] at HOne
        rw [show decide (twoK K) = false from decide_eq_false h2] at HTwo
        clear h1 h2 Hflv Hfrv Hfl0 Hfr0 HL1 HR1
        go_wp2_with fail
        refine (unhide HFld _).mono ?_; rintro e w1 ⟨rfl, hb1⟩
        have n1 := bT (bA hb _) hb1
        have q2 := bT (bA (Below.refl wr.heap.size wr) _) hb1
        have N1 := unhide HBox w1 (by simpa using hb1)
        have F1 := (unhide HF).of q2
        have hg1 : g' < w1.heap.size := Nat.lt_of_lt_of_le hOl.1 q2.size
        have HO1 := hide ((unhide HO).of q2)
        clear hb1 c0 c1 c2 c3 c4 c5 c6 c7 fp frt fd fs0 fs1 HO HFld HBox HCell
        obtain ⟨f0, f1, f2, f3, f4, f5, f6, f7, fz⟩ := id N1
        obtain ⟨fp, frt, fd, fs0, fs1⟩ := id F1
        have HWd2 := hide (unhide HWd1 w1 q2)
        have HF1 := hide F1
        clear HWd1 HF F F1 N1
        generalize wr.heap.size = bx at *
        go_wp2_with fail
        refine (unhide HOne _).mono ?_; rintro e w1' ⟨rfl, hw⟩; obtain rfl := hw.symm; clear hw
        go_wp2_with fail
        refine (unhide HTwo _).mono ?_; rintro e w1' ⟨rfl, hw⟩; obtain rfl := hw.symm; clear hw
        go_wp2_with fail
        refine (unhide HWd2).mono ?_; rintro e w3 ⟨rfl, hb3⟩
        have n3 := bT n1 hb3
        have HF3 := hide ((unhide HF1).of hb3)
        have HO3 := hide ((unhide HO1).of hb3)
        have hs3 : w.heap.size + 2 ≤ w3.heap.size := by have := (unhide HF3).sz; omega
        clear hb3 f0 f1 f2 f3 f4 f5 f6 f7 fz fp frt fd fs0 fs1 HF1 HO1 HWd2 HOne HTwo
        by_cases hv0 : nv < 0
        · have HNO := hide (unhide HNo (fun h => by have := (unhide HNod1).2 h; omega))
          clear HNod1 HNo HYes HO3 HF3
          go_wp2
          go_ret2
          exact ⟨Or.inr ⟨unhide HNO, _, rfl⟩, n3⟩
        by_cases hv2 : 200 < nv
        · have HNO := hide (unhide HNo (fun h => by have := (unhide HNod1).2 h; omega))
          clear HNod1 HNo HYes HO3 HF3
          go_wp2
          go_ret2
          exact ⟨Or.inr ⟨unhide HNO, _, rfl⟩, n3⟩
        obtain ⟨hN, hnv⟩ := (unhide HNod1).1 ⟨by omega, by omega⟩
        have HOk := hide (unhide HYes hN)
        have HNV := hide hnv
        clear HNod1 HNo HYes hN hnv
        obtain ⟨i, hi, hz⟩ := Option.map_eq_some_iff.1 (show (Tryz.prog.info? 3).map (fun i => (i.zero, i.size, i.bytes)) = some (some (.int .i64 0), 1, 8) by kernel_rfl)
        simp only [Prod.mk.injEq] at hz
        obtain ⟨hz0, hz1, hz2⟩ := hz
        have HO4 := hide ((unhide HO3).of (bA (Below.refl _ _) (.cells #[.int .i64 nv] 3)))
        have hlk := fws_length ts fs k
        have HLK := hide hlk
        generalize fws ts fs k = ds at *
        have hgb : w.heap.size + 2 ≤ g' := hOl.2.1
        clear hlk HO3 hOl
        go_wp2_with (at_builtin; refine wpList_append_lies _ rfl (.tmp 59) (.tmp 61) 61 rfl (w.heap.size + 2) 3 i _ 1 8 Tryz.underlying61 hi hz0 hz1 hz2 rfl (by decide) (.slice (some ⟨g', 0, none⟩) k cap') k (vInts ds) rfl (by have := unhide HO4; unfold OwnI at this; rw [unhide HLK] at this; exact this) ⟨w3.heap.size, 0, none⟩ 1 1 [.int .i64 nv] rfl rfl (World.news_of_block (cs := #[.int .i64 nv]) (MapKept.heap_alloc w3 _).1) (by intro u hu; simp at hu; subst hu; rfl) (by decide) (by unfold maxLen; omega) (by omega) (by simp; omega) _ rfl ?_; intro g2 cap2 w4 hown2 hgrow hat hlt2)
        have HO5 : Hid (OwnI w4 (w.heap.size + 2) g2 cap2 (fws ts fs (k + 1))) := by
          show OwnI _ _ _ _ _
          unfold OwnI
          rw [unhide HFW, ← unhide HNV, vInts_append, show (ds ++ [nv]).length = k + 1 by simp; exact unhide HLK]
          exact hown2
        have HB4 : Hid (Below (w.heap.size + 2) w3 w4) := (bA' (w := w3) (s := w.heap.size + 2) hs3 (.cells #[.int .i64 nv] 3)).grown hgrow (by simp; omega) (fun j hj => by
            have : g' = j := by simpa [Value.ownBlock] using hj
            omega)
        have HF5 := hide ((unhide HF3).low (unhide HB4))
        have HB5 := hide (n3.trans ((unhide HB4).mono (by omega)))
        clear hown2 hgrow hat HLK HO4 HF3
        go_wp2
        go_roundw
        case rel => exact ⟨k + 1, g2, cap2, by omega, by go_num, rfl, HO5.out, unhide HOk, unhide HF5, unhide HB5⟩
        case measure => simp [intOf]; omega
    · obtain rfl : k = fs.length := by omega
      clear HN HFit HD HTb
      go_wp2
      go_ret2
      exact ⟨Or.inl ⟨hok, g', cap', rfl, hO⟩, hb⟩
end Go.Proofs.YtnchcndcinpalaaGreatDoor
