import Derived.Test.YtnchcndcinpalaaGreatDoorQ39
import Derived.Test.YtnchcndcinpalaaGreatDoorQ31
import Derived.Test.YtnchcndcinpalaaGreatDoorSpecFlat11
import Derived.Test.YtnchcndcinpalaaGreatDoorQ33
import Derived.Test.YtnchcndcinpalaaGreatDoorMarkOnly2
/-
  THE PROGRAM's JUDGE OF FLAT PLANS.
-/
namespace Go.Proofs.YtnchcndcinpalaaGreatDoor
open Go Go.RowKit

/-- a row that holds f's values as far as place k; behind it nothing has been written -/
def GTo (f : Nat → Int) (n k : Nat) (xs : List Int) : Prop := xs.length = n ∧ (∀ j, j < k → xs.getD j 0 = f j) ∧ ∀ j, k ≤ j → xs.getD j 0 = 0
theorem GTo.set {f : Nat → Int} {n k : Nat} {xs : List Int} (h : GTo f n k xs) (hk : k < n) {v : Int} (hv : f k = v) : GTo f n (k + 1) (xs.set k v) := by
  obtain ⟨h1, h2, h3⟩ := h
  refine ⟨by simp [h1], fun j hj => ?_, fun j hj => ?_⟩
  · rw [getD_set (by omega)]
    by_cases e : j = k
    · rw [if_pos e, e]; exact hv.symm
    · rw [if_neg e]; exact h2 j (by omega)
  · rw [getD_set (by omega), if_neg (by omega)]
    exact h3 j (by omega)
theorem GTo.row {f : Nat → Int} {n : Nat} {xs : List Int} (h : GTo f n n xs) {w : World} {b : Nat} (hr : IntRow w b xs) : FnRow w b n f := ⟨xs, h.1, h.2.1, hr⟩
def CkF (ts : List Tb) (fs : List Fn) (Rt : Int) (w : World) (e : Ending) (w' : World) : Prop :=
  (FlatV ts fs Rt ∧ ∃ b, e = .returned (.tuple #[.slice (some ⟨b, 0, none⟩) fs.length fs.length, .bool true]) ∧ w.heap.size ≤ b ∧ FnRow w' b fs.length (fw ts fs)) ∨ (¬ FlatV ts fs Rt ∧ e = .returned (.tuple #[.slice none 0 0, .bool false]))
theorem fldI_kids {nt i : Nat} {K T M : Int} {le ls : Nat} {L R : Int} (h : FldI nt i K T M le ls L R) : (0 ≤ L ∧ L ≤ (i : Int) ∧ (oneK K → L < (i : Int))) ∧ (0 ≤ R ∧ R ≤ (i : Int) ∧ (twoK K → R < (i : Int))) ∧ (K = 2 → 0 ≤ T ∧ T < (nt : Int)) := by
  obtain ⟨⟨k1, k2⟩, ⟨t1, _, _, _, _, _⟩, h1, h2⟩ := h
  obtain ⟨w0, _, _, _, w4, w5, _⟩ := q_words k1 k2
  refine ⟨?_, ?_, fun hk => ?_⟩
  · by_cases ho : oneK K
    · rw [w4.2 ho] at h1
      simp [nOk] at h1
      omega
    · rw [show qfb K 4 = false from Bool.eq_false_iff.2 (fun h => ho (w4.1 h))] at h1
      simp [nOk] at h1
      omega
  · by_cases ho : twoK K
    · rw [w5.2 ho] at h2
      simp [nOk] at h2
      omega
    · rw [show qfb K 5 = false from Bool.eq_false_iff.2 (fun h => ho (w5.1 h))] at h2
      simp [nOk] at h2
      omega
  · rw [w0.2 hk] at t1
    simp [nOk] at t1
    omega

set_option maxRecDepth 100000 in
set_option maxHeartbeats 8000000 in
theorem checkFlat_calls (ts : List Tb) (fs : List Fn) (Rt : Int) (g cap gt capt : Nat) (w : World) (lt : ts.length ≤ 1048576) (hsm : SmallT ts) (fit : ∀ p ∈ fs, p.Ex.length ≤ 1048576 ∧ p.Exs.length ≤ 1048576 ∧ ∀ xs ∈ p.Exs, xs.length ≤ 1048576)
    (hg : g < w.heap.size) (hn : FnsAt w g 0 fs) (hgt : gt < w.heap.size) (ht : TablesAt w gt 0 ts) (hTK : TKw w) (hTF : TFlat w) (hTT : TTakes w) :
    Calls Tryz.prog 31 #[.agg #[.slice (some ⟨g, 0, none⟩) fs.length cap, .int .i64 Rt], .agg #[.slice (some ⟨gt, 0, none⟩) ts.length capt]] w fun e w' => CkF ts fs Rt w e w' ∧ Below w.heap.size w w' := by
  have HDb := hide (fun W (hb : Below w.heap.size w W) => DbOk_calls ts gt capt W (Nat.lt_of_lt_of_le hgt hb.size) (ht.of hgt hb) lt hsm (hTK.of hb))
  by_cases h2 : 8000 < (fs.length : Int)
  · have HNo := hide (fun (h : FlatV ts fs Rt) => by have := h.few; omega : ¬ FlatV ts fs Rt)
    clear HDb hn ht hsm fit hTK hTF hTT
    go_enter Tryz.func31, Tryz.ntmps31
    go_wp2
    go_ret2
    exact ⟨Or.inr ⟨unhide HNo, rfl⟩, bA (bA (Below.refl _ _) _) _⟩
  by_cases h3 : Rt < 0
  · have HNo := hide (fun (h : FlatV ts fs Rt) => by have := h.root0; omega : ¬ FlatV ts fs Rt)
    clear HDb hn ht hsm fit hTK hTF hTT
    go_enter Tryz.func31, Tryz.ntmps31
    go_wp2
    go_ret2
    exact ⟨Or.inr ⟨unhide HNo, rfl⟩, bA (bA (Below.refl _ _) _) _⟩
  by_cases h4 : (fs.length : Int) ≤ Rt
  · have HNo := hide (fun (h : FlatV ts fs Rt) => by have := h.root1; omega : ¬ FlatV ts fs Rt)
    clear HDb hn ht hsm fit hTK hTF hTT
    go_enter Tryz.func31, Tryz.ntmps31
    go_wp2
    go_ret2
    exact ⟨Or.inr ⟨unhide HNo, rfl⟩, bA (bA (Below.refl _ _) _) _⟩
  have h5 : ¬ Rt ≥ (fs.length : Int) := h4
  by_cases hd : DbV ts
  rotate_left
  · have HD : Hid (dB (DbV ts) = false) := dB_false hd
    have HNo := hide (fun (h : FlatV ts fs Rt) => hd h.db : ¬ FlatV ts fs Rt)
    clear hn ht hsm fit hd hTK hTF hTT
    generalize dB (DbV ts) = B at *
    obtain rfl := HD.out
    go_enter Tryz.func31, Tryz.ntmps31
    go_wp2_with fail
    refine (unhide HDb _ (bA (bA (Below.refl _ _) _) _)).mono ?_; rintro e w1 ⟨rfl, hb⟩
    have n1 := bT (bA (bA (Below.refl w.heap.size w) _) _) hb
    go_wp2
    go_ret2
    exact ⟨Or.inr ⟨unhide HNo, rfl⟩, n1⟩
  have HD : Hid (dB (DbV ts) = true) := dB_true hd
  generalize hBd : dB (DbV ts) = B at *
  obtain rfl := HD.out
  clear hBd HD
  have few : fs.length ≤ 8000 := by omega
  have hmk := make_intsP fs.length (by omega)
  have lt50 : ts.length ≤ 50 := hd.few
  have HV := hide (fun (h : OkTo ts fs fs.length) => (⟨hd, by omega, by omega, by omega, by omega, h⟩ : FlatV ts fs Rt))
  have HNoV := hide (fun (k : Nat) (hk : k < fs.length) (h : ¬ NodF ts fs k fs[k]) (hv : FlatV ts fs Rt) => h (hv.all k hk hk))
  have HN := hide hn; have HFit := hide fit; have HDd := hide hd; have HTb := hide ht; have HTF := hide hTF; have HTT := hide hTT
  clear hn fit hd ht hsm hTK hTF hTT
  go_enter Tryz.func31, Tryz.ntmps31
  go_wp2_with fail
  refine (unhide HDb _ (bA (bA (Below.refl _ _) _) _)).mono ?_; rintro e w1 ⟨rfl, hb⟩
  have n1 := bT (bA (bA (Below.refl w.heap.size w) _) _) hb
  have F := FB.of (s := w.heap.size) (g := g) (nf := fs.length) (cap := cap) (Rt := Rt) (gt := gt) (nt := ts.length) (capt := capt) ⟨by simp [go_sem], by simp [go_sem], by simp [go_sem], (by simp <;> omega), (by simp <;> omega)⟩ hb
  have hM : Hid (IntRow (w1.alloc (.cells (madeCells #[.int .i64 0] fs.length) 3)) w1.heap.size (List.replicate fs.length 0)) := IntRow.made w1 fs.length
  clear hb HDb
  obtain ⟨fp, frt, fd, fs0, fs1⟩ := id F
  have F1 := F.of (bA (Below.refl _ _) (.cells (madeCells #[.int .i64 0] fs.length) 3))
  have HB1 := hide (bA n1 (.cells (madeCells #[.int .i64 0] fs.length) 3))
  have hs1 : w.heap.size + 2 ≤ w1.heap.size := by omega
  go_wp2
  go_loopw [38] (fun c wr => ∃ (k : Nat) (xs : List Int), k ≤ fs.length ∧ c = .int .i64 k ∧ GTo (fw ts fs) fs.length k xs ∧ OkTo ts fs k ∧ IntRow wr w1.heap.size xs ∧ FB w.heap.size g fs.length cap Rt gt ts.length capt wr ∧ Below w.heap.size w wr) (fun c _ => fs.length - (intOf c).toNat)
  case atStart => exact ⟨0, _, Nat.zero_le _, rfl, ⟨by simp, fun j hj => by omega, fun j _ => getD_replicate0 _ _⟩, OkTo.zero _ _, hM.out, F1, unhide HB1⟩
  case round =>
    clear hM hmk HB1 F1 F fp frt fd fs0 fs1 n1
    obtain ⟨k, xs, hk, rfl, hto, hok, hrow, F, hb⟩ := hrel
    generalize w1.heap.size = wb at *
    obtain ⟨fp, frt, fd, fs0, fs1⟩ := id F
    by_cases hlt : k < fs.length
    · obtain ⟨c0, c1, c2, c3, c6, c7, ⟨b4, c4, _, hb4, ho4⟩, b5, c5, _, hb5, ho5⟩ := ((unhide HN).of hg hb).at k hlt
      simp only [Nat.zero_add] at c0 c1 c2 c3 c4 c5 c6 c7
      obtain ⟨x1, x2, x3⟩ := unhide HFit _ (List.getElem_mem hlt)
      have hxl := hto.1
      have hset := fun v (hv : fw ts fs k = v) => hto.set hlt hv
      have hat := hto.2.1
      have hno := unhide HNoV k hlt
      have hsucc := fun hN => hok.succ hlt hN
      have hrg := fw_range (unhide HDd) k hok
      have hbnd : ∀ i, 0 ≤ xs.getD i 0 ∧ xs.getD i 0 ≤ 200 := fun i => by
        by_cases hi : i < k
        · rw [hat i hi]; exact hrg i hi (by omega)
        · rw [hto.2.2 i (by omega)]; omega
      have hiff := fun l r h1 h2 => nodF_iff (ts := ts) hlt (l := l) (r := r) h1 h2
      have hfl : ∀ q : Nat, (fs[k]).L = (q : Int) → (oneK (fs[k]).K → q < k) → oneK (fs[k]).K → xs.getD q 0 = fl ts fs fs[k] := fun q hq h1 ho => by
        unfold fl
        rw [if_pos ho, hq, Int.toNat_natCast]
        exact hat q (h1 ho)
      have hfr : ∀ q : Nat, (fs[k]).R = (q : Int) → (twoK (fs[k]).K → q < k) → twoK (fs[k]).K → xs.getD q 0 = fr ts fs fs[k] := fun q hq h1 ho => by
        unfold fr
        rw [if_pos ho, hq, Int.toNat_natCast]
        exact hat q (h1 ho)
      have hstep := fun (hN : NodF ts fs k fs[k]) => fw_step hlt hN.fld
      have hcong := fun (l r : Int) (h1 : oneK (fs[k]).K → l = fl ts fs fs[k]) (h2 : twoK (fs[k]).K → r = fr ts fs fs[k]) (h3 : 1 ≤ (fs[k]).K ∧ (fs[k]).K ≤ 11) => stepF_congr ts fs[k] h1 h2 h3
      have hTb := ((unhide HTb).of hgt hb)
      have hgtr := Nat.lt_of_lt_of_le hgt hb.size
      have HTFr := hide ((unhide HTF).of hb); have HTTr := hide ((unhide HTT).of hb)
      cases e : fs[k] with | mk K T M Wd Ex Exs L R =>
      rw [e] at c0 c1 c2 c3 c4 c5 c6 c7 hno hsucc hiff hfl hfr hstep hcong x1 x2 x3 ho4 ho5
      simp only at c0 c1 c2 c3 c4 c5 c6 c7 hiff hfl hfr hcong x1 x2 x3 ho4 ho5
      have HFI := hide (fun W (hbW : Below wr.heap.size wr W) => flatFieldsOk_calls ts.length k K T M Wd L R Ex.length Exs.length (some ⟨b4, 0, none⟩) (some ⟨b5, 0, none⟩) Ex.length Exs.length W lt (by omega) x1 x2 ((unhide HTFr).of hbW))
      have j1 : (k : Int) < (fs.length : Int) := by omega
      have q1 : g < wr.heap.size := Nat.lt_of_lt_of_le hg hb.size
      have q2 : wb < wr.heap.size := hrow.size
      have HSet := hide hset; have HNo := hide hno; have HSucc := hide hsucc; have HBnd := hide hbnd; have HIff := hide hiff; have HFl := hide hfl; have HFr := hide hfr; have HStep := hide hstep; have HCong := hide hcong; have HTbr := hide hTb; have HRow := hide hrow
      have HO4 := hide ho4; have HO5 := hide ho5; have HX3 := hide x3
      clear hset hno hsucc hbnd hiff hfl hfr hstep hcong hTb hrow ho4 ho5 x3 hat hto hrg hok HN HFit HDd HTb HTF HTT HV HNoV
      obtain ⟨B, hB⟩ : ∃ B, dB (FldI ts.length k K T M Ex.length Exs.length L R) = B := ⟨_, rfl⟩
      rw [hB] at HFI
      have F0 := F.of (bA (Below.refl wr.heap.size wr) (.cells #[.int .i64 K, .int .i64 T, .int .i64 M, .int .i64 Wd, .slice (some ⟨b4, 0, none⟩) Ex.length Ex.length, .slice (some ⟨b5, 0, none⟩) Exs.length Exs.length, .int .i64 L, .int .i64 R] 67))
      cases B
      · have HNO := hide (unhide HNo (fun h => by
          have h1 := (unhide HIff _ _ (fun _ => rfl) (fun _ => rfl)).1 h
          have := dB_true h1.1
          rw [hB] at this
          cases this))
        clear HSet HNo HSucc HBnd HIff HFl HFr HStep HCong HTbr HRow HO4 HO5 HX3 hB F0 HTFr HTTr
        go_wp2_with fail
        refine (unhide HFI _ (bA (Below.refl _ _) _)).mono ?_; rintro e w2 ⟨rfl, hb2⟩
        have n2 := bT (bA hb _) hb2
        clear hb2
        go_wp2
        go_ret2
        exact ⟨Or.inr ⟨unhide HNO, rfl⟩, n2⟩
      have hI := dB_iff.1 hB
      obtain ⟨⟨a1, a2, a3⟩, ⟨a4, a5, a6⟩, a7⟩ := fldI_kids hI
      obtain ⟨q, rfl⟩ : ∃ q : Nat, L = (q : Int) := ⟨L.toNat, by omega⟩
      obtain ⟨j, rfl⟩ : ∃ j : Nat, R = (j : Int) := ⟨R.toNat, by omega⟩
      have hq : q < fs.length := by omega
      have hj : j < fs.length := by omega
      obtain ⟨l, hl⟩ : ∃ l, xs.getD q 0 = l := ⟨_, rfl⟩
      obtain ⟨r, hr⟩ : ∃ r, xs.getD j 0 = r := ⟨_, rfl⟩
      have hl2 := unhide HBnd q
      have hr2 := unhide HBnd j
      rw [hl] at hl2
      rw [hr] at hr2
      have hiff := unhide HIff l r (fun ho => by rw [← hl]; exact unhide HFl q rfl (fun h => by have := a3 h; omega) ho) (fun ho => by rw [← hr]; exact unhide HFr j rfl (fun h => by have := a6 h; omega) ho)
      have HVl := hide (unhide HCong l r (fun ho => by rw [← hl]; exact unhide HFl q rfl (fun h => by have := a3 h; omega) ho) (fun ho => by rw [← hr]; exact unhide HFr j rfl (fun h => by have := a6 h; omega) ho) hI.1)
      clear HCong
      have HSd := hide (fun W (hbW : Below wr.heap.size wr W) => sidesOk_calls K T M Wd l r q j fs.length wb xs Ex Exs b4 b5 W hI.1.1 hI.1.2 hxl hq hj hl hr ((unhide HRow).of hbW) (Nat.lt_of_lt_of_le hb4 hbW.size) ((unhide HO4).of hb4 hbW) (Nat.lt_of_lt_of_le hb5 hbW.size) ((unhide HO5).of hb5 hbW) x1 x2 (unhide HX3) ((unhide HTFr).of hbW) ((unhide HTTr).of hbW))
      have HFw := hide (fun (hW : K = 5 → 0 ≤ Wd ∧ Wd ≤ l) W (hbW : Below wr.heap.size wr W) => flatWidth_calls ts K T M Wd l r q j fs.length wb gt capt xs Ex Exs b4 b5 W hI.1.1 hI.1.2 a7 hxl hq hj hl hr hl2.1 hl2.2 hr2.1 hr2.2 hW ((unhide HRow).of hbW) (Nat.lt_of_lt_of_le hgtr hbW.size) ((unhide HTbr).of hgtr hbW))
      have HI := hide hI; have HIf := hide hiff
      clear hiff a1 a2 a3 a4 a5 a6 a7 hB HIff HFl HFr HBnd HO4 HO5 HX3 HTbr HTFr HTTr hl hr hI
      have HSI : Hid (SidI K M Wd Ex Exs l r → (K = 5 → 0 ≤ Wd ∧ Wd ≤ l)) := fun h hk => by
        have := ((sidI_iff (p := ⟨K, T, M, Wd, Ex, Exs, (q : Int), (j : Int)⟩) (unhide HI) l r).1 h).2.1 (by simp only [matK]; omega)
        exact ⟨this.1, this.2.1⟩
      have HBox : Hid (∀ W, Below (wr.heap.size + 1) (wr.alloc (.cells #[.int .i64 K, .int .i64 T, .int .i64 M, .int .i64 Wd, .slice (some ⟨b4, 0, none⟩) Ex.length Ex.length, .slice (some ⟨b5, 0, none⟩) Exs.length Exs.length, .int .i64 (q : Int), .int .i64 (j : Int)] 67)) W → N8 wr.heap.size K T M Wd (q : Int) (j : Int) (.slice (some ⟨b4, 0, none⟩) Ex.length Ex.length) (.slice (some ⟨b5, 0, none⟩) Exs.length Exs.length) W) := fun W hbW =>
        N8.of (W := wr.alloc (.cells #[.int .i64 K, .int .i64 T, .int .i64 M, .int .i64 Wd, .slice (some ⟨b4, 0, none⟩) Ex.length Ex.length, .slice (some ⟨b5, 0, none⟩) Exs.length Exs.length, .int .i64 (q : Int), .int .i64 (j : Int)] 67)) ⟨by simp [go_sem], by simp [go_sem], by simp [go_sem], by simp [go_sem], by simp [go_sem], by simp [go_sem], by simp [go_sem], by simp [go_sem], by simp⟩ (by simpa using hbW)
      obtain ⟨E, hE⟩ : ∃ E, dB (SidI K M Wd Ex Exs l r) = E := ⟨_, rfl⟩
      rw [hE] at HSd
      have HEs := hide hE
      clear hE
      go_wp2_with fail
      refine (unhide HFI _ (bA (Below.refl _ _) _)).mono ?_; rintro e w2 ⟨rfl, hb2⟩
      have n2 := bT (bA hb _) hb2
      have p2 := bT (bA (Below.refl wr.heap.size wr) _) hb2
      have N2 := unhide HBox w2 (by simpa using hb2)
      have F2 := F0.of hb2
      clear hb2 c0 c1 c2 c3 c4 c5 c6 c7 fp frt fd fs0 fs1 F F0 HBox HFI
      obtain ⟨f0, f1, f2, f3, f4, f5, f6, f7, fz⟩ := id N2
      obtain ⟨fp, frt, fd, fs0, fs1⟩ := id F2
      have hgb : ¬ wb = wr.heap.size := by omega
      have HRw2 := hide ((unhide HRow).of p2)
      generalize wr.heap.size = bx at *
      cases E
      · have HNO := hide (unhide HNo (fun h => by
          have h1 := ((unhide HIf).1 h).2.1
          have := dB_true h1
          rw [unhide HEs] at this
          cases this))
        clear HSet HNo HSucc HIf HStep HEs HSI HFw HRow
        go_wp2_with fail
        refine (unhide HSd _ p2).mono ?_; rintro e w3 ⟨rfl, hb3⟩
        have n3 := bT n2 hb3
        clear hb3
        go_wp2
        go_ret2
        exact ⟨Or.inr ⟨unhide HNO, rfl⟩, n3⟩
      have hS := dB_iff.1 (unhide HEs)
      have HFw1 := hide (unhide HFw (unhide HSI hS))
      have HIs := hide (fun (h : stepF ts ⟨K, T, M, Wd, Ex, Exs, (q : Int), (j : Int)⟩ l r ≤ 200) => (unhide HIf).2 ⟨unhide HI, hS, h⟩)
      have hvw : NodF ts fs k ⟨K, T, M, Wd, Ex, Exs, (q : Int), (j : Int)⟩ → stepF ts ⟨K, T, M, Wd, Ex, Exs, (q : Int), (j : Int)⟩ l r ≤ 200 := fun h => ((unhide HIf).1 h).2.2
      have hvl : stepF ts ⟨K, T, M, Wd, Ex, Exs, (q : Int), (j : Int)⟩ l r = fw ts fs k ∨ ¬ NodF ts fs k ⟨K, T, M, Wd, Ex, Exs, (q : Int), (j : Int)⟩ := by
        by_cases hN : NodF ts fs k ⟨K, T, M, Wd, Ex, Exs, (q : Int), (j : Int)⟩
        · exact Or.inl ((unhide HVl).trans (unhide HStep hN).symm)
        · exact Or.inr hN
      obtain ⟨v, hv⟩ : ∃ v, stepF ts ⟨K, T, M, Wd, Ex, Exs, (q : Int), (j : Int)⟩ l r = v := ⟨_, rfl⟩
      rw [hv] at HFw1 HIs hvw hvl
      have HVw := hide hvw; have HVL := hide hvl
      clear HFw HSI HIf HI HEs hS hv hvw hvl
      go_wp2_with fail
      refine (unhide HSd _ p2).mono ?_; rintro e w3 ⟨rfl, hb3⟩
      have n3 := bT n2 hb3
      have p3 := p2.trans (hb3.mono (by omega))
      have N3 := N2.of hb3
      have F3 := F2.of hb3
      have HRw3 := hide ((unhide HRw2).of hb3)
      clear hb3 f0 f1 f2 f3 f4 f5 f6 f7 fz fp frt fd fs0 fs1 N2 F2 HRw2 HSd p2 n2
      obtain ⟨f0, f1, f2, f3, f4, f5, f6, f7, fz⟩ := id N3
      obtain ⟨fp, frt, fd, fs0, fs1⟩ := id F3
      go_wp2_with fail
      refine (unhide HFw1 _ p3).mono ?_; rintro e w4 ⟨rfl, hb4'⟩
      have n4 := bT n3 hb4'
      have N4 := N3.of hb4'
      have F4 := F3.of hb4'
      have hrow4 := (unhide HRw3).of hb4'
      have r1 := hrow4.at k (by omega)
      have r2 := hrow4.frz
      have r3 := hrow4.size
      have HRw4 := hide (hrow4.set k (by omega) v)
      have HB4 := hide (n4.setCell (p := ⟨wb, k, none⟩) (show w.heap.size ≤ wb by omega) (.int .i64 v))
      have HF4 := hide (F4.low ((Below.refl (w.heap.size + 2) w4).setCell (p := ⟨wb, k, none⟩) hs1 (.int .i64 v)))
      clear hb4' f0 f1 f2 f3 f4 f5 f6 f7 fz fp frt fd fs0 fs1 N3 F3 N4 F4 HRw3 HFw1 p3 n3 n4 hrow4 HRow
      generalize xs.getD k 0 = old at *
      by_cases hv2 : 200 < v
      · have HNO := hide (unhide HNo (fun h => by have := unhide HVw h; omega))
        clear HSet HNo HSucc HStep HIs HVw HVL HRw4 HF4
        go_wp2
        go_ret2
        exact ⟨Or.inr ⟨unhide HNO, rfl⟩, unhide HB4⟩
      · have hN := unhide HIs (by omega)
        have hvk := (unhide HVL).resolve_right (fun h => h hN)
        have HNx := hide (unhide HSet v hvk.symm)
        have HOk := hide (unhide HSucc hN)
        clear HSet HNo HSucc HStep HIs HVw HVL hN hvk
        go_wp2
        go_roundw
        case rel => exact ⟨k + 1, _, by omega, by go_num, unhide HNx, unhide HOk, unhide HRw4, unhide HF4, unhide HB4⟩
        case measure => simp [intOf]; omega
    · obtain rfl : k = fs.length := by omega
      have HR := hide (hto.row hrow)
      have HVV := hide (unhide HV hok)
      clear HN HFit HDd HTb HTF HTT HV HNoV hrow hto hok
      go_wp2
      go_ret2
      exact ⟨Or.inl ⟨unhide HVV, wb, rfl, by omega, unhide HR⟩, hb⟩
end Go.Proofs.YtnchcndcinpalaaGreatDoor
/-
  THE FLAT PLAN THAT Simplify MAKES, while it is being made.
-/
namespace Go.Proofs.YtnchcndcinpalaaGreatDoor
open Go Go.RowKit

/-- the plan's box B8, its nodes' block G -/
structure OutS (w1 wr : World) (B8 G n : Nat) (Rt : Int) (lab : Lb) (f : Nat → Option Fn) : Prop where
  o0 : wr.cell? ⟨B8, 0, none⟩ = some (.slice (some ⟨G, 0, none⟩) n n)
  o1 : wr.cell? ⟨B8, 1, none⟩ = some (.int .i64 Rt)
  ne : B8 ≠ G
  l8 : w1.heap.size ≤ B8
  s8 : B8 < wr.heap.size
  lG : w1.heap.size ≤ G
  q : FlQ wr lab w1.heap.size G n f
  low : Below w1.heap.size w1 wr
theorem OutS.of {w1 wr w' : World} {B8 G n : Nat} {Rt : Int} {lab : Lb} {f : Nat → Option Fn} (h : OutS w1 wr B8 G n Rt lab f) (hb : Below wr.heap.size wr w') : OutS w1 w' B8 G n Rt lab f :=
  ⟨(hb.cell (p := ⟨B8, 0, none⟩) h.s8).trans h.o0, (hb.cell (p := ⟨B8, 1, none⟩) h.s8).trans h.o1, h.ne, h.l8, Nat.lt_of_lt_of_le h.s8 hb.size, h.lG, h.q.of hb, bT h.low hb⟩
theorem OutS.fn {w1 wr : World} {B8 G n : Nat} {Rt : Int} {lab : Lb} {f f' : Nat → Option Fn} (h : OutS w1 wr B8 G n Rt lab f) (hf : ∀ i, f i = f' i) : OutS w1 wr B8 G n Rt lab f' :=
  ⟨h.o0, h.o1, h.ne, h.l8, h.s8, h.lG, h.q.fn hf, h.low⟩
theorem OutS.put {w1 wr w3 : World} {B8 G n j m G2 : Nat} {Rt : Int} {lab : Lb} {lb : Nat → Nat} {f : Nat → Option Fn} {p : Fn} {u4 u5 : Value} (h : OutS w1 wr B8 G n Rt lab f) (hj : j < n) (hb1 : Below wr.heap.size wr w3) (hm : wr.heap.size ≤ m)
    (h4 : OpsM w3 u4 p.Ex (fun b => wr.heap.size ≤ b ∧ b < m)) (h5 : OpssM w3 u5 p.Exs (fun b => m ≤ b ∧ b = G2) (fun i b => m ≤ b ∧ b ≠ G2 ∧ lb b = i)) :
    OutS w1 (putU w3 G (j * 8) p u4 u5) B8 G n Rt (labU lab j wr.heap.size m w3.heap.size G2 lb) (fun i => if i = j then some p else f i) := by
  have hBt := putU_but w3 G (j * 8) p u4 u5
  have h3 := h.of hb1
  exact ⟨(hBt.cell B8 0 h3.s8 h.ne).trans h3.o0, (hBt.cell B8 1 h3.s8 h.ne).trans h3.o1, h.ne, h.l8, by rw [putU_size]; exact h3.s8, h.lG, h.q.put h.low.size hj hb1 hm h4 h5, putU_below h3.low h.lG p u4 u5⟩
theorem OutS.setK {w1 wr : World} {B8 G n : Nat} {Rt : Int} {lab : Lb} {f : Nat → Option Fn} (h : OutS w1 wr B8 G n Rt lab f) {q : Nat} (hq : q < n) (k : Int) :
    OutS w1 (wr.setCell ⟨G, q * 8, none⟩ (.int .i64 k)) B8 G n Rt lab (fun i => if i = q then (f i).map (fun p => { p with K := k }) else f i) :=
  ⟨by rw [setCell_farN (fun e => h.ne e.symm)]; exact h.o0, by rw [setCell_farN (fun e => h.ne e.symm)]; exact h.o1, h.ne, h.l8, by simpa using h.s8, h.lG, h.q.setK hq k, h.low.setCell (p := ⟨G, q * 8, none⟩) h.lG _⟩
/-- the lists of a node's Exs, cloned -/
theorem opssM_of_oss {w : World} {G : Nat} {lb : Nat → Nat} {oss : List (List O2)} (hG : G < w.heap.size) (h : OssM w G lb oss) {m : Nat} (hm : m ≤ G) : OpssM w (.slice (some ⟨G, 0, none⟩) oss.length oss.length) oss (fun b => m ≤ b ∧ b = G) (fun i b => m ≤ b ∧ b ≠ G ∧ lb b = i) :=
  Or.inr ⟨G, _, rfl, ⟨hm, rfl⟩, hG, fun i xs hx => by
    obtain ⟨u, hu, ho⟩ := h i xs hx
    exact ⟨u, hu, ho.mono (fun b _ e => ⟨by have := e.1; omega, by have := e.1; omega, e.2⟩)⟩⟩
/-- a node whose lists were cloned and stored into its box x0 -/
theorem OutS.clone {w1 wr w4 w5 : World} {B8 G n j x0 G5 : Nat} {Rt : Int} {lab : Lb} {lb : Nat → Nat} {f : Nat → Option Fn} {p : Fn} {u4 : Value} (h : OutS w1 wr B8 G n Rt lab f) (hj : j < n) (hx : wr.heap.size = x0) (hs : x0 < w4.heap.size) (hb4 : Below wr.heap.size wr w4) (hb5 : Below w4.heap.size w4 w5)
    (h4 : OpsM w4 u4 p.Ex (fun b => x0 + 1 ≤ b)) (hG5 : w4.heap.size ≤ G5) (hF : FrO w5 G5 p.Exs.length) (h5 : OssM w5 G5 lb p.Exs) :
    OutS w1 (putU ((w5.setCell ⟨x0, 4, none⟩ u4).setCell ⟨x0, 5, none⟩ (.slice (some ⟨G5, 0, none⟩) p.Exs.length p.Exs.length)) G (j * 8) p u4 (.slice (some ⟨G5, 0, none⟩) p.Exs.length p.Exs.length)) B8 G n Rt (labU lab j wr.heap.size w4.heap.size w5.heap.size G5 lb) (fun i => if i = j then some p else f i) := by
  have hb : Below wr.heap.size wr ((w5.setCell ⟨x0, 4, none⟩ u4).setCell ⟨x0, 5, none⟩ (.slice (some ⟨G5, 0, none⟩) p.Exs.length p.Exs.length)) := ((bT hb4 hb5).setCell (p := ⟨x0, 4, none⟩) (by dsimp only; omega) _).setCell (p := ⟨x0, 5, none⟩) (by dsimp only; omega) _
  have hsz : ((w5.setCell ⟨x0, 4, none⟩ u4).setCell ⟨x0, 5, none⟩ (.slice (some ⟨G5, 0, none⟩) p.Exs.length p.Exs.length)).heap.size = w5.heap.size := by simp
  have := h.put (p := p) (u4 := u4) (u5 := .slice (some ⟨G5, 0, none⟩) p.Exs.length p.Exs.length) (m := w4.heap.size) (G2 := G5) (lb := lb) hj hb hb4.size
    ((((h4.mono (T := fun b => x0 + 1 ≤ b ∧ b < w4.heap.size) (fun b hb e => ⟨e, hb⟩)).of hb5).stored (fun b e => by omega) _).stored (fun b e => by omega) _ |>.mono (fun b _ e => ⟨by omega, e.2⟩))
    (((opssM_of_oss hF.size h5 hG5).stored (fun b e => by omega) (fun _ b e => by omega) _).stored (fun b e => by omega) (fun _ b e => by omega) _)
  rw [hsz] at this
  exact this
theorem OutS.startA (w1 : World) (fs : List Fn) (Rt : Int) : ∃ lab, OutS w1 ((w1.alloc (.cells (madeCells #[.int .i64 0, .int .i64 0, .int .i64 0, .int .i64 0, .slice none 0 0, .slice none 0 0, .int .i64 0, .int .i64 0] (fs.length * 8)) 67)).alloc (.cells #[.slice (some ⟨w1.heap.size, 0, none⟩) fs.length fs.length, .int .i64 Rt] 32)).drew (w1.heap.size + 1) w1.heap.size fs.length Rt lab (firstF fs 0) := by
  refine ⟨_, by simp [go_sem], by simp [go_sem], by omega, by omega, by simp, Nat.le_refl _, ((FlQ.made w1 fs.length _ 67 (by simp [size_madeCells]) w1.heap.size (Nat.le_refl _)).of (Below.drew (bA (Below.refl _ _) _))).fn (fun i => by simp [firstF]), Below.drew (bA (bA (Below.refl _ _) _) _)⟩
theorem OutS.startB (w1 : World) (fs : List Fn) (Rt : Int) : ∃ lab, OutS w1 ((w1.alloc (.cells #[.slice (some ⟨w1.heap.size + 1, 0, none⟩) fs.length fs.length, .int .i64 Rt] 32)).alloc (.cells (madeCells #[.int .i64 0, .int .i64 0, .int .i64 0, .int .i64 0, .slice none 0 0, .slice none 0 0, .int .i64 0, .int .i64 0] (fs.length * 8)) 67)).drew w1.heap.size (w1.heap.size + 1) fs.length Rt lab (firstF fs 0) := by
  have h := (FlQ.made (w1.alloc (.cells #[.slice (some ⟨w1.heap.size + 1, 0, none⟩) fs.length fs.length, .int .i64 Rt] 32)) fs.length (madeCells #[.int .i64 0, .int .i64 0, .int .i64 0, .int .i64 0, .slice none 0 0, .slice none 0 0, .int .i64 0, .int .i64 0] (fs.length * 8)) 67 (by simp [size_madeCells]) w1.heap.size (by simp)).of (Below.drew (Below.refl _ _))
  rw [show (w1.alloc (.cells #[.slice (some ⟨w1.heap.size + 1, 0, none⟩) fs.length fs.length, .int .i64 Rt] 32)).heap.size = w1.heap.size + 1 by simp] at h
  exact ⟨_, by simp [go_sem], by simp [go_sem], by omega, by omega, by simp; omega, by omega, h.fn (fun i => by simp [firstF]), Below.drew (bA (bA (Below.refl _ _) _) _)⟩
theorem IntRow.but {S : Nat → Prop} {w w1 : World} {g : Nat} {xs : List Int} (h : IntRow w g xs) (hb : ButM S w w1) (hn : ¬ S g) : IntRow w1 g xs :=
  ⟨Nat.lt_of_lt_of_le h.size hb.size, fun o => (hb.frz g o h.size).trans (h.frz o), fun i x hx => (hb.cell g _ h.size hn).trans (h.held i x hx)⟩
/-- what the program finds at a node, and what it means -/
theorem simp_cases {ts : List Tb} {fs : List Fn} {Rt : Int} (hV : FlatV ts fs Rt) {k : Nat} (hk : k < fs.length) :
    ((fs[k]).K ≠ 3 ∧ asksP ts fs Rt fs[k] = 0) ∨ ((fs[k]).K = 3 ∧ ∃ (q : Nat) (pq : Fn), (fs[k]).L = (q : Int) ∧ q < k ∧ fs[q]? = some pq ∧
      ((pq.K ≠ 6 ∧ asksP ts fs Rt fs[k] = 0) ∨ (pq.K = 6 ∧ ((1 < (bump (asksRow fs fs.length) Rt).getD q 0 ∧ asksP ts fs Rt fs[k] = 0) ∨ ((bump (asksRow fs fs.length) Rt).getD q 0 ≤ 1 ∧ ∃ m : Nat, fw ts fs q = (m : Int) + 1 ∧ m ≤ 200 ∧
        ((jkind (fs[k]).Ex (m : Int) = 0 ∧ asksP ts fs Rt fs[k] = 0) ∨ (jkind (fs[k]).Ex (m : Int) = 10 + (asksP ts fs Rt fs[k] : Int) - 1 ∧ 0 < asksP ts fs Rt fs[k] ∧ askedN ts fs Rt fs[k] = ⟨4, 0, 0, 0, [], colExs m ++ [[(1, if 10 + (asksP ts fs Rt fs[k] : Int) - 1 = 10 then 1 else 0)]], (q : Int), 0⟩))))))) := by
  have hok := hV.all
  have hA := actK_eq hok hV.root0 hV.root1 hk
  have hle := asksP_le ts fs Rt fs[k]
  by_cases hK : (fs[k]).K = 3
  rotate_left
  · refine Or.inl ⟨hK, asksP_0a (Or.inl hK)⟩
  refine Or.inr ⟨hK, ?_⟩
  obtain ⟨-, -, -, -, -, -, hl, -⟩ := (hok k hk hk).fld
  obtain ⟨a0, a1⟩ := hl (by rw [hK]; simp [oneK])
  obtain ⟨q, hq⟩ : ∃ q : Nat, (fs[k]).L = (q : Int) := ⟨(fs[k]).L.toNat, by omega⟩
  have hqk : q < k := by omega
  have hql : q < fs.length := by omega
  refine ⟨q, fs[q], hq, hqk, List.getElem?_eq_getElem hql, ?_⟩
  have hkf : kindF fs (fs[k]).L = (fs[q]).K := by simp [kindF, hq, hql]
  by_cases h6 : (fs[q]).K = 6
  rotate_left
  · exact Or.inl ⟨h6, asksP_0a (Or.inr (Or.inl (by rw [hkf]; exact h6)))⟩
  refine Or.inr ⟨h6, ?_⟩
  unfold actK at hA
  rw [hkf] at hA
  have hqn : (fs[k]).L.toNat = q := by omega
  rw [hqn] at hA
  by_cases h1 : (bump (asksRow fs fs.length) Rt).getD q 0 ≤ 1
  rotate_left
  · refine Or.inl ⟨by omega, ?_⟩
    rw [if_neg (fun h => h1 h.2.2)] at hA
    by_cases h0 : asksP ts fs Rt fs[k] = 0
    · exact h0
    · rw [if_neg h0] at hA; omega
  refine Or.inr ⟨h1, ?_⟩
  rw [if_pos ⟨hK, h6, h1⟩] at hA
  have hN := hok q hql hql
  have hw := fw_step hql hN.fld
  have hwide := hN.wide
  have hst : stepF ts fs[q] (fl ts fs fs[q]) (fr ts fs fs[q]) = fl ts fs fs[q] + 1 := by unfold stepF; simp [h6]
  obtain ⟨_, _, _, _, _, _, hl2, _⟩ := hN.fld
  obtain ⟨b0, b1⟩ := hl2 (by rw [h6]; simp [oneK])
  have h0 : 0 ≤ fl ts fs fs[q] := by
    unfold fl
    rw [if_pos (by rw [h6]; simp [oneK])]
    exact (fw_range hV.db _ hok _ (by omega) (by omega)).1
  obtain ⟨m, hm⟩ : ∃ m : Nat, fl ts fs fs[q] = (m : Int) := ⟨(fl ts fs fs[q]).toNat, by omega⟩
  have hfm : fw ts fs q = (m : Int) + 1 := by rw [hw, hst, hm]
  refine ⟨m, hfm, by omega, ?_⟩
  rw [hfm, show (m : Int) + 1 - 1 = (m : Int) by omega] at hA
  by_cases hz : asksP ts fs Rt fs[k] = 0
  · rw [if_pos hz] at hA
    exact Or.inl ⟨hA, hz⟩
  · rw [if_neg hz] at hA
    refine Or.inr ⟨hA, by omega, ?_⟩
    unfold askedN
    rw [if_pos (by omega), hqn, hfm, show ((m : Int) + 1 - 1).toNat = m by omega, hq]
    have h2 : (2 : Int) - (asksP ts fs Rt fs[k] : Int) = if 10 + (asksP ts fs Rt fs[k] : Int) - 1 = 10 then 1 else 0 := by
      split <;> omega
    rw [h2]
end Go.Proofs.YtnchcndcinpalaaGreatDoor
