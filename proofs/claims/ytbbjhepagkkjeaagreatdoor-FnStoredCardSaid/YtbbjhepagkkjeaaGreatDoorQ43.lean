import Derived.Test.YtbbjhepagkkjeaaGreatDoorQ42
namespace Go.Proofs.YtbbjhepagkkjeaaGreatDoor
open Go Go.RowKit
set_option maxHeartbeats 2000000 in
theorem readRow_empty (a : Option Addr) (n c : Nat) (va : Option Addr) (vc : Nat) (w : World) : Calls Tryz.prog 48 #[.slice va 0 vc, .slice a n c] w fun e w' => e = .returned (.tuple #[.slice none 0 0, .bool false]) ∧ w' = w := by
  go_enter Tryz.func48, Tryz.ntmps48
  go_wp2
  go_returns
  exact ⟨rfl, rfl⟩
def labR (lab : Lt) (s R G n m : Nat) : Lt := fun b => if b < s then lab b else if b = R then (1, n, m) else if b = G then (0, n, 0) else (9, 0, 0)
set_option maxRecDepth 100000 in
set_option maxHeartbeats 4000000 in
theorem readRow_calls (v : Value) (A off c B : Nat) (ws : List ByteArray) (lab : Lt) (cs : List Value) (ts : List Tb) (t : Tb) (w : World) (hB : B ≤ w.heap.size) (hW : WordsAt w A off ws) (hT : TabG w lab B v cs (ts ++ [t])) (hx : ∀ x ∈ ws, 0 < x.size ∧ x.size ≤ 1048576) (hwl : ws.length ≤ 1048576) (hl : ts.length ≤ 1048576) (hr : t.Rows.length ≤ 1048576) :
    Calls Tryz.prog 48 #[v, .slice (some ⟨A, off, none⟩) ws.length c] w fun e w' =>
      (((∀ x ∈ ws, ValB x) ∧ ∃ v' lab' cs', e = .returned (.tuple #[v', .bool true]) ∧ TabG w' lab' B v' cs' (ts ++ [⟨t.Name, t.Cols, t.Rows ++ [ws.map valW]⟩])) ∨
       ((¬ ∀ x ∈ ws, ValB x) ∧ e = .returned (.tuple #[.slice none 0 0, .bool false]))) ∧ Chg B w w' := by
  have hA := hW.1
  obtain ⟨va, vc, hv⟩ := hT.slice
  have hvs : ∃ g, va = some ⟨g, 0, none⟩ := by
    rcases hT.own.2 with ⟨h1, h2⟩ | ⟨g, cap, cur, h1, _⟩
    · simp at h2
    · rw [hv] at h1
      simp at h1
      exact ⟨g, h1.1⟩
  obtain ⟨g, rfl⟩ := hvs
  subst hv
  have hlen : (ts ++ [t]).length = ts.length + 1 := by simp
  rw [hlen] at hT ⊢
  obtain ⟨xs, hxs⟩ : ∃ xs, xs = ws.map valW := ⟨_, rfl⟩
  have hxl : xs.length = ws.length := by rw [hxs]; simp
  rw [← hxs]
  have HT := hide hT; have HX := hide hx; have HXs := hide hxs
  have HW := hide hW
  have HO : Hid (OwnRow (w.alloc (.cells (madeCells #[.bool false, .int .i64 0] (ws.length * 2)) 54)) w.heap.size ws.length []) := OwnRow.made w _ _ _ (by simp [size_madeCells])
  have hmk := make_vals ws.length hwl
  have hgl := (hT.blk g rfl).2.1
  obtain ⟨u, rs, c0, c1, c2, hm, hrs⟩ := hT.tab ts.length t (by simp)
  have hrl : rs.length ≤ 1048576 := by rw [← hm] at hr; simpa using hr
  obtain ⟨ua, uc, hu⟩ : ∃ ua uc, u = .slice ua rs.length uc := by
    rcases hrs.1.2 with ⟨h1, h2⟩ | ⟨g', cap', cur', h1, _⟩
    · exact ⟨none, 0, by rw [h1, h2]⟩
    · exact ⟨_, _, h1⟩
  subst hu
  have hcu : w.cell? ⟨g, ts.length * 3 + 2, none⟩ = some (.slice ua rs.length uc) := by
    have := hT.own
    rw [hlen] at this
    rw [this.cellAt _ (by omega)]; exact c2
  have hfu : w.frozen? ⟨g, ts.length * 3 + 2, none⟩ = false := by
    have := hT.own
    rw [hlen] at this
    exact this.frozenAt _
  have HM := hide hm; have HRs := hide hrs
  obtain ⟨i, hi, hz⟩ := Option.map_eq_some_iff.1 (show (Tryz.prog.info? 52).map (fun i => (i.zero, i.size, i.bytes)) = some (some (.slice none 0 0), 1, 24) by kernel_rfl)
  simp only [Prod.mk.injEq] at hz
  obtain ⟨hz0, hz1, hz2⟩ := hz
  have j0 : (((ts.length : Int) + 1) == 0) = false := by simp; omega
  clear hT hx hxs hW hm hrs c0 c1 c2 hr hlen
  go_enter Tryz.func48, Tryz.ntmps48
  go_wp2
  go_loopw [20] (fun p wr => ∃ k : Nat, k ≤ ws.length ∧ p = .int .i64 k ∧ (∀ (j : Nat) (hj : j < ws.length), j < k → ValB ws[j]) ∧ OwnRow wr w.heap.size ws.length (xs.take k) ∧ Below w.heap.size w wr) (fun p _ => ws.length - (intOf p).toNat)
  case atStart => exact ⟨0, Nat.zero_le _, rfl, fun j _ hj => by omega, by simpa using HO.out, bA (Below.refl _ _) _⟩
  case round =>
    obtain ⟨k, hk, rfl, hV, ho, hb⟩ := hrel
    have HV := hide hV; have HBw := hide hb; have HOw := hide ho
    clear hV HO hmk
    by_cases hlt : k < ws.length
    · have j1 : (k : Int) < (ws.length : Int) := by omega
      have hwk := (hb.cell (p := ⟨A, off + k, none⟩) hA).trans ((unhide HW).2 k ws[k] (List.getElem?_eq_getElem hlt))
      obtain ⟨q0, q1⟩ := unhide HX ws[k] (List.getElem_mem hlt)
      clear ho hb
      by_cases hvk : ValB ws[k]
      · have HRV := hide (readVal_yes ws[k] wr q1 hvk)
        have hxk : xs[k]'(by omega) = valW ws[k] := by
          have h2 := unhide HXs
          subst h2
          simp
        generalize hwv : ws[k] = wv at *
        go_wp2_with fail
        refine (unhide HRV).mono ?_; rintro e w1 ⟨rfl, hb1⟩
        have hs1 := hb1.size
        have hR1 : w.heap.size < wr.heap.size := (unhide HOw).size
        have ho1 := ((unhide HOw).of hb1).of (bA (Below.refl w1.heap.size w1) (.cells #[.bool (valW wv).1, .int .i64 (valW wv).2] 54))
        have HN := hide (ho1.next (xs := xs) (k := k) (by omega) hlt)
        rw [hxk] at HN
        obtain ⟨u0, hu0⟩ := ho1.all (k * 2) (by omega)
        obtain ⟨u1, hu1⟩ := ho1.all (k * 2 + 1) (by omega)
        have hf := ho1.frz
        have HB2 := hide (bT (bT (unhide HBw) hb1) (bA (Below.refl w1.heap.size w1) (.cells #[.bool (valW wv).1, .int .i64 (valW wv).2] 54)))
        have HV2 : Hid (∀ (j : Nat) (hj : j < ws.length), j < k + 1 → ValB ws[j]) := fun j hj hjk => by
          by_cases e : j = k
          · subst e; rw [hwv]; exact hvk
          · exact unhide HV j hj (by omega)
        clear ho1 hb1 HRV HBw HOw HV
        go_wp2
        go_roundw
        case rel => exact ⟨k + 1, by omega, by go_num, unhide HV2, unhide HN, ((unhide HB2).setCell (Nat.le_refl _) _).setCell (Nat.le_refl _) _⟩
        case measure => simp [intOf]; omega
      · have HRV := hide (readVal_no ws[k] wr q1 q0 hvk)
        have HNo : Hid (¬ ∀ x ∈ ws, ValB x) := fun h => hvk (h _ (List.getElem_mem hlt))
        go_wp2_with fail
        refine (unhide HRV).mono ?_; rintro e w1 ⟨⟨vv, rfl⟩, hb1⟩
        have HB2 := hide (bT (bT (unhide HBw) hb1) (bA (Below.refl w1.heap.size w1) (.cells #[.bool vv.1, .int .i64 vv.2] 54)))
        clear hb1 HRV HBw HOw HV
        go_wp2
        go_returns
        exact ⟨Or.inr ⟨unhide HNo, rfl⟩, Chg.below (unhide HB2) hB⟩
    · obtain rfl : k = ws.length := by omega
      have hall : ∀ x ∈ ws, ValB x := fun x hx' => by
        obtain ⟨j, hj, rfl⟩ := List.getElem_of_mem hx'
        exact unhide HV j hj hj
      have HAll := hide hall
      rw [← hxl, List.take_length] at ho
      have hwcu := (hb.cell (p := ⟨g, ts.length * 3 + 2, none⟩) hgl).trans hcu
      have hwfu := (hb.frozen (p := ⟨g, ts.length * 3 + 2, none⟩) hgl).trans hfu
      have hss := hb.size
      have hRs : w.heap.size < wr.heap.size := ho.size
      have HT1 := hide (((unhide HT).of hb).of (bA (Below.refl wr.heap.size wr) (.cells #[.slice (some ⟨w.heap.size, 0, none⟩) ws.length ws.length] 52)))
      have HR1 : Hid (RowsL (wr.alloc (.cells #[.slice (some ⟨w.heap.size, 0, none⟩) ws.length ws.length] 52)) lab B ts.length (.slice ua rs.length uc) rs) :=
        ((unhide HRs).butB (S := fun _ => False) (ButB.ofBelow hb) (fun _ _ _ e => e)).butB (S := fun _ => False) (ButB.ofBelow (bA (Below.refl wr.heap.size wr) _)) (fun _ _ _ e => e)
      have HO1 := hide (ho.of (bA (Below.refl wr.heap.size wr) (.cells #[.slice (some ⟨w.heap.size, 0, none⟩) ws.length ws.length] 52)))
      have hgr0 : g < wr.heap.size := by omega
      have HCh := hide (Chg.below (bA hb (.cells #[.slice (some ⟨w.heap.size, 0, none⟩) ws.length ws.length] 52)) hB)
      clear ho hall HV HBw HOw
      have hgu : some g ≠ (Value.slice ua rs.length uc).ownBlock := fun e => ((unhide HT).blk g rfl).2.2 (by rw [(unhide HRs).2.1 g e.symm]; simp)
      have hz1' := (alloc_cell wr (.cells #[.slice (some ⟨w.heap.size, 0, none⟩) ws.length ws.length] 52) g (ts.length * 3 + 2) hgr0).trans hwcu
      have hz2' := (alloc_frz wr (.cells #[.slice (some ⟨w.heap.size, 0, none⟩) ws.length ws.length] 52) g (ts.length * 3 + 2) hgr0).trans hwfu
      have HZ1 := hide hz1'; have HZ2 := hide hz2'
      clear hb hz1' hz2'
      go_wp2_with (at_builtin; refine wpList_append_lies _ rfl (.tmp 46) (.tmp 48) 30 rfl B 52 i _ 1 24 Tryz.underlying30 hi hz0 hz1 hz2 rfl (by decide) (.slice ua rs.length uc) rs.length (rs.map rv) rfl (unhide HR1).1 ⟨wr.heap.size, 0, none⟩ 1 1 [.slice (some ⟨w.heap.size, 0, none⟩) ws.length ws.length] rfl rfl (World.news_of_block (cs := #[.slice (some ⟨w.heap.size, 0, none⟩) ws.length ws.length]) (MapKept.heap_alloc wr _).1) (by intro u hu; simp at hu; subst hu; rfl) (by decide) (by unfold maxLen; omega) (by omega) (by simp; omega) _ rfl ?_; intro G2 c2 w5 hown2 hgrow hat hlt2; have k5 := (hgrow.cell_far ⟨g, ts.length * 3 + 2, none⟩ (by simp; omega) hgu).trans (unhide HZ1); have f5 := (hgrow.frozen_far ⟨g, ts.length * 3 + 2, none⟩ (by simp; omega) hgu).trans (unhide HZ2))
      refine bodyPost_ret (v := .tuple #[.slice (some ⟨g, 0, none⟩) (ts.length + 1) vc, .bool true]) (by simp [results, Tryz.results48, go_sem]) rfl ⟨Or.inl ⟨unhide HAll, .slice (some ⟨g, 0, none⟩) (ts.length + 1) vc, labR lab w.heap.size w.heap.size G2 ts.length rs.length, cs.set (ts.length * 3 + 2) (.slice (some ⟨G2, 0, none⟩) (rs.length + 1) c2), rfl, ?_⟩, ?_⟩
      · have hub : ∀ G, (Value.slice ua rs.length uc).ownBlock = some G → G < w.heap.size := fun G e => ((unhide HRs).1.lt G e).2
        have hrng := (unhide HT).rng
        have hG2 : labR lab w.heap.size w.heap.size G2 ts.length rs.length G2 = (0, ts.length, 0) := by
          unfold labR
          rcases hat with e | e
          · rw [if_pos (hub _ e)]
            exact (unhide HRs).2.1 _ e
          · simp at e
            rw [if_neg (by omega), if_neg (by omega), if_pos rfl]
        have hrvr : rv (w.heap.size, ws.length, xs) = .slice (some ⟨w.heap.size, 0, none⟩) ws.length ws.length := by simp [rv, hxl]
        have := TabG.addRow (r := (w.heap.size, ws.length, xs)) (lab' := labR lab w.heap.size w.heap.size G2 ts.length rs.length) (unhide HT1) (unhide HM) (unhide HR1) (fun b e => by
            unfold labR; rw [if_pos (hrng b e).2.1]) (fun b e => by
            unfold labR at e ⊢
            by_cases h1 : b < w.heap.size
            · rw [if_pos h1] at e; exact Or.inl e
            · rw [if_neg h1] at e ⊢
              refine Or.inr ⟨?_, by omega, by omega⟩
              by_cases h2 : b = w.heap.size
              · rw [if_pos h2]; exact Or.inl ⟨rfl, by simp; omega⟩
              · rw [if_neg h2] at e ⊢
                by_cases h3 : b = G2
                · rw [if_pos h3]; exact Or.inr ⟨rfl, h3⟩
                · rw [if_neg h3] at e; simp at e) (by rw [hxl] at *; exact unhide HO1) (by simp [hxl]) (fun e => by have := hub _ e; omega) (by unfold labR; rw [if_neg (by omega), if_pos rfl]) hG2 (by rw [hrvr]; exact hown2) hgrow rfl
        exact this
      · exact (unhide HCh).trans ((Chg.grown hgrow (by simp; omega) (fun b e => ((unhide HR1).1.lt b e).1) (ownsRow_cells (unhide HR1).1)).trans (Chg.set _ ((unhide HT).blk g rfl).1 _))
end Go.Proofs.YtbbjhepagkkjeaaGreatDoor
namespace Go.Proofs.YtbbjhepagkkjeaaGreatDoor
open Go Go.RowKit
def LinePost (w : World) (B : Nat) (ts : List Tb) (ws : List ByteArray) (e : Ending) (w' : World) : Prop :=
  ((∃ ts', lnW ts ws = some ts' ∧ ∃ v' lab' cs', e = .returned (.tuple #[v', .bool true]) ∧ TabG w' lab' B v' cs' ts') ∨ (lnW ts ws = none ∧ ∃ a n c, e = .returned (.tuple #[.slice a n c, .bool false]))) ∧ Chg B w w'
theorem beq_no {s : ByteArray} {l : List UInt8} (h : s.toList ≠ l) : (s.toList == l) = false := by
  cases e : (s.toList == l)
  · rfl
  · exact absurd (eq_of_beq e) h
theorem beq_yes {s : ByteArray} {l : List UInt8} (h : s.toList = l) : (s.toList == l) = true := by rw [h]; exact beq_self_eq_true l
set_option maxRecDepth 100000 in
set_option maxHeartbeats 4000000 in
theorem readLine_calls (v : Value) (A B : Nat) (ws : List ByteArray) (lab : Lt) (cs : List Value) (ts : List Tb) (w : World) (hB : B ≤ w.heap.size) (hW : WordsAt w A 0 ws) (hT : TabG w lab B v cs ts) (hx : ∀ x ∈ ws, 0 < x.size ∧ x.size ≤ 1048576) (hwl : ws.length ≤ 1048576) (hl : ts.length ≤ 1048576) (hr : ∀ t ∈ ts, t.Rows.length ≤ 1048576) :
    Calls Tryz.prog 20 #[v, .slice (some ⟨A, 0, none⟩) ws.length ws.length] w (LinePost w B ts ws) := by
  obtain ⟨va, vc, hv⟩ := hT.slice
  cases ws with
  | nil =>
    have HT := hide hT
    clear hT hW hx
    subst hv
    go_enter Tryz.func20, Tryz.ntmps20
    go_wp2
    go_returns
    exact ⟨Or.inl ⟨ts, rfl, _, lab, cs, rfl, unhide HT⟩, Chg.refl _ _⟩
  | cons a r =>
    have d0 : w.cell? ⟨A, 0, none⟩ = some (.string a) := hW.2 0 a rfl
    have hWr : WordsAt w A 1 r := ⟨hW.1, fun i x hi => by have := hW.2 (i + 1) x (by simpa using hi); rw [show 1 + i = 0 + (i + 1) by omega]; exact this⟩
    have hxr : ∀ x ∈ r, 0 < x.size ∧ x.size ≤ 1048576 := fun x h => hx x (by simp [h])
    by_cases h1 : a.toList = tabL
    · have b1 : (a.toList == [116, 97, 98, 108, 101]) = true := beq_yes h1
      by_cases h2 : r.length = 2
      · match r, h2 with
        | [b, c], _ =>
          obtain ⟨q1, q2⟩ := hxr b (by simp)
          obtain ⟨q3, q4⟩ := hxr c (by simp)
          by_cases h3 : ColB c
          · have HR := hide (readTable_two v A 1 2 B b c (nVal c) true lab cs ts w hB hWr hT q2 hl (fun W => readCols_yes c W q3 h3))
            have HS := hide (lnW_tab (ts := ts) (b := b) h1 h3)
            subst hv
            clear hT hW hx hxr hWr h1
            go_enter Tryz.func20, Tryz.ntmps20
            go_wp2_with fail
            refine (unhide HR).mono ?_; rintro e w1 ⟨v', cs', rfl, hT', hC⟩
            have HT' := hide hT'; have HC := hide hC
            obtain ⟨va', vc', hv'⟩ := hT'.slice
            rw [List.length_append, List.length_singleton] at hv'
            subst hv'
            clear hT' hC
            go_wp2
            go_returns
            exact ⟨Or.inl ⟨_, unhide HS, _, lab, cs', rfl, unhide HT'⟩, unhide HC⟩
          · have HR := hide (readTable_two v A 1 2 B b c 0 false lab cs ts w hB hWr hT q2 hl (fun W => readCols_no c W q3 q4 h3))
            have HS := hide (lnW_tabn (ts := ts) (b := b) h1 h3)
            subst hv
            clear hT hW hx hxr hWr h1
            go_enter Tryz.func20, Tryz.ntmps20
            go_wp2_with fail
            refine (unhide HR).mono ?_; rintro e w1 ⟨v', cs', rfl, hT', hC⟩
            have HC := hide hC
            obtain ⟨va', vc', hv'⟩ := hT'.slice
            rw [List.length_append, List.length_singleton] at hv'
            subst hv'
            clear hT' hC
            go_wp2
            go_returns
            exact ⟨Or.inr ⟨unhide HS, _, _, _, rfl⟩, unhide HC⟩
      · have HR := hide (fun aa cc => readTable_len v aa r.length cc ⟨va, ts.length, vc, hv⟩ w h2)
        have HS := hide (lnW_tabl (ts := ts) h1 h2)
        subst hv
        clear hT hW hx hxr hWr h1
        cases r with
        | nil =>
          go_enter Tryz.func20, Tryz.ntmps20
          go_wp2_with fail
          refine (unhide HR _ _).mono ?_; rintro e w1 ⟨rfl, rfl⟩
          go_wp2
          go_returns
          exact ⟨Or.inr ⟨unhide HS, _, _, _, rfl⟩, Chg.refl _ _⟩
        | cons b r =>
          simp only [List.length_cons] at HR hwl ⊢
          go_enter Tryz.func20, Tryz.ntmps20
          go_wp2_with fail
          refine (unhide HR _ _).mono ?_; rintro e w1 ⟨rfl, rfl⟩
          go_wp2
          go_returns
          exact ⟨Or.inr ⟨unhide HS, _, _, _, rfl⟩, Chg.refl _ _⟩
    · have b1 : (a.toList == [116, 97, 98, 108, 101]) = false := beq_no h1
      by_cases h2 : a.toList = rowL
      · have b2 : (a.toList == [114, 111, 119]) = true := beq_yes h2
        have hcs : ts = [] ∨ ∃ ts0 t, ts = ts0 ++ [t] := by
          rcases List.eq_nil_or_concat ts with h | ⟨l, x, h⟩
          · exact Or.inl h
          · exact Or.inr ⟨l, x, by rw [h]; simp⟩
        rcases hcs with rfl | ⟨ts, t, rfl⟩
        · have HR := hide (fun aa n cc => readRow_empty aa n cc va vc w)
          have HS := hide (lnW_rown (ts := []) (r := r) h1 (fun e => e.2.1 rfl))
          subst hv
          clear hT hW hx hxr hWr h1 h2
          cases r with
          | nil =>
            go_enter Tryz.func20, Tryz.ntmps20
            go_wp2_with fail
            refine (unhide HR _ _ _).mono ?_; rintro e w1 ⟨rfl, rfl⟩
            go_wp2
            go_returns
            exact ⟨Or.inr ⟨unhide HS, _, _, _, rfl⟩, Chg.refl _ _⟩
          | cons b r =>
            simp only [List.length_cons] at hwl ⊢
            go_enter Tryz.func20, Tryz.ntmps20
            go_wp2_with fail
            refine (unhide HR _ _ _).mono ?_; rintro e w1 ⟨rfl, rfl⟩
            go_wp2
            go_returns
            exact ⟨Or.inr ⟨unhide HS, _, _, _, rfl⟩, Chg.refl _ _⟩
        · rw [List.length_append, List.length_singleton] at hv hl
          cases r with
          | nil =>
            have HR := hide (fun off cc => readRow_calls v A off cc B [] lab cs ts t w hB ⟨hW.1, fun i x hi => by simp at hi⟩ hT (fun x h => by simp at h) (by simp) (by omega) (hr t (by simp)))
            subst hv
            clear hT hW hx hxr hWr
            have H1 := hide h1; have H2 := hide h2
            clear h1 h2
            go_enter Tryz.func20, Tryz.ntmps20
            go_wp2_with fail
            have h1 := unhide H1; have h2 := unhide H2
            refine (unhide HR _ _).mono ?_; rintro e w1 ⟨(⟨h4, v', lab', cs', rfl, hT'⟩ | ⟨h4, rfl⟩), hC⟩
            · have HS := hide (lnW_row (ts := ts ++ [t]) h2 (by simp) h4)
              rw [addR_snoc] at HS
              have HT' := hide hT'; have HC := hide hC
              obtain ⟨va', vc', hv'⟩ := hT'.slice
              rw [List.length_append, List.length_singleton] at hv'
              subst hv'
              clear hT' hC h4 h2 h1
              go_wp2
              go_returns
              exact ⟨Or.inl ⟨_, unhide HS, _, lab', cs', rfl, unhide HT'⟩, unhide HC⟩
            · have HS := hide (lnW_rown (ts := ts ++ [t]) h1 (fun e => h4 e.2.2))
              have HC := hide hC
              clear hC h4 h2 h1
              go_wp2
              go_returns
              exact ⟨Or.inr ⟨unhide HS, _, _, _, rfl⟩, unhide HC⟩
          | cons b r =>
            have HR := hide (readRow_calls v A 1 (r.length + 1) B (b :: r) lab cs ts t w hB hWr hT hxr (by simp at hwl ⊢; omega) (by omega) (hr t (by simp)))
            subst hv
            clear hT hW hx hxr hWr
            have H1 := hide h1; have H2 := hide h2
            clear h1 h2
            simp only [List.length_cons] at hwl HR ⊢
            go_enter Tryz.func20, Tryz.ntmps20
            go_wp2_with fail
            have h1 := unhide H1; have h2 := unhide H2
            refine (unhide HR).mono ?_; rintro e w1 ⟨(⟨h4, v', lab', cs', rfl, hT'⟩ | ⟨h4, rfl⟩), hC⟩
            · have HS := hide (lnW_row (ts := ts ++ [t]) h2 (by simp) h4)
              rw [addR_snoc] at HS
              have HT' := hide hT'; have HC := hide hC
              obtain ⟨va', vc', hv'⟩ := hT'.slice
              rw [List.length_append, List.length_singleton] at hv'
              subst hv'
              clear hT' hC h4 h2 h1
              go_wp2
              go_returns
              exact ⟨Or.inl ⟨_, unhide HS, _, lab', cs', rfl, unhide HT'⟩, unhide HC⟩
            · have HS := hide (lnW_rown (ts := ts ++ [t]) h1 (fun e => h4 e.2.2))
              have HC := hide hC
              clear hC h4 h2 h1
              go_wp2
              go_returns
              exact ⟨Or.inr ⟨unhide HS, _, _, _, rfl⟩, unhide HC⟩
      · have b2 : (a.toList == [114, 111, 119]) = false := beq_no h2
        have HS := hide (lnW_rown (ts := ts) (r := r) h1 (fun e => h2 e.1))
        subst hv
        clear hT hW hx hxr hWr h1 h2
        simp only [List.length_cons] at hwl ⊢
        go_enter Tryz.func20, Tryz.ntmps20
        go_wp2
        go_returns
        exact ⟨Or.inr ⟨unhide HS, _, _, _, rfl⟩, Chg.refl _ _⟩
end Go.Proofs.YtbbjhepagkkjeaaGreatDoor
