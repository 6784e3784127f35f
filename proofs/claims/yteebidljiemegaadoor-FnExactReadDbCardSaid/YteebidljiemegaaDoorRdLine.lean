import Derived.Test.YteebidljiemegaaDoorRdRow
namespace Go.Proofs.YteebidljiemegaaDoor
open Go Go.RowKit
def LinePost (w : World) (B : Nat) (ts : List Tb) (ws : List ByteArray) (e : Ending) (w' : World) : Prop :=
  ((∃ ts', stepW ts ws = some ts' ∧ ∃ v' lab' cs', e = .returned (.tuple #[v', .bool true]) ∧ TabG w' lab' B v' cs' ts') ∨ (stepW ts ws = none ∧ ∃ a n c, e = .returned (.tuple #[.slice a n c, .bool false]))) ∧ Chg B w w'
theorem beq_no {s : ByteArray} {l : List UInt8} (h : s.toList ≠ l) : (s.toList == l) = false := by
  cases e : (s.toList == l)
  · rfl
  · exact absurd (eq_of_beq e) h
theorem beq_yes {s : ByteArray} {l : List UInt8} (h : s.toList = l) : (s.toList == l) = true := by rw [h]; exact beq_self_eq_true l
set_option maxRecDepth 100000 in
set_option maxHeartbeats 4000000 in
theorem readLine_calls (v : Value) (A B : Nat) (ws : List ByteArray) (lab : Lt) (cs : List Value) (ts : List Tb) (w : World) (hB : B ≤ w.heap.size) (hW : WordsAt w A 0 ws) (hT : TabG w lab B v cs ts) (hx : ∀ x ∈ ws, 0 < x.size ∧ x.size ≤ 1048576) (hwl : ws.length ≤ 1048576) (hl : ts.length ≤ 1048576) (hr : ∀ t ∈ ts, t.Rows.length ≤ 1048576) :
    Calls Tryd.prog 16 #[v, .slice (some ⟨A, 0, none⟩) ws.length ws.length] w (LinePost w B ts ws) := by
  obtain ⟨va, vc, hv⟩ := hT.slice
  cases ws with
  | nil =>
    have HT := hide hT
    clear hT hW hx
    subst hv
    go_enter Tryd.func16, Tryd.ntmps16
    go_wp2
    go_returns
    exact ⟨Or.inl ⟨ts, rfl, _, lab, cs, rfl, unhide HT⟩, Chg.refl _ _⟩
  | cons a r =>
    have d0 : w.cell? ⟨A, 0, none⟩ = some (.string a) := hW.2 0 a rfl
    have hWr : WordsAt w A 1 r := ⟨hW.1, fun i x hi => by have := hW.2 (i + 1) x (by simpa using hi); rw [show 1 + i = 0 + (i + 1) by omega]; exact this⟩
    have hxr : ∀ x ∈ r, 0 < x.size ∧ x.size ≤ 1048576 := fun x h => hx x (by simp [h])
    by_cases h1 : a.toList = tabL
    · have b1 : (a.toList == [116, 97, 98, 108, 101]) = true := beq_yes h1
      by_cases h2 : r.length = 2
      · match r, h2 with
        | [b, c], _ =>
          obtain ⟨q1, q2⟩ := hxr b (by simp)
          obtain ⟨q3, q4⟩ := hxr c (by simp)
          by_cases h3 : ColB c
          · have HR := hide (readTable_two v A 1 2 B b c (nVal c) true lab cs ts w hB hWr hT q2 hl (fun W => readCols_yes c W q3 h3))
            have HS := hide (stepW_tab (ts := ts) (b := b) h1 h3)
            subst hv
            clear hT hW hx hxr hWr h1
            go_enter Tryd.func16, Tryd.ntmps16
            go_wp2_with fail
            refine (unhide HR).mono ?_; rintro e w1 ⟨v', cs', rfl, hT', hC⟩
            have HT' := hide hT'; have HC := hide hC
            obtain ⟨va', vc', hv'⟩ := hT'.slice
            rw [List.length_append, List.length_singleton] at hv'
            subst hv'
            clear hT' hC
            go_wp2
            go_returns
            exact ⟨Or.inl ⟨_, unhide HS, _, lab, cs', rfl, unhide HT'⟩, unhide HC⟩
          · have HR := hide (readTable_two v A 1 2 B b c 0 false lab cs ts w hB hWr hT q2 hl (fun W => readCols_no c W q3 q4 h3))
            have HS := hide (stepW_tabn (ts := ts) (b := b) h1 h3)
            subst hv
            clear hT hW hx hxr hWr h1
            go_enter Tryd.func16, Tryd.ntmps16
            go_wp2_with fail
            refine (unhide HR).mono ?_; rintro e w1 ⟨v', cs', rfl, hT', hC⟩
            have HC := hide hC
            obtain ⟨va', vc', hv'⟩ := hT'.slice
            rw [List.length_append, List.length_singleton] at hv'
            subst hv'
            clear hT' hC
            go_wp2
            go_returns
            exact ⟨Or.inr ⟨unhide HS, _, _, _, rfl⟩, unhide HC⟩
      · have HR := hide (fun aa cc => readTable_len v aa r.length cc ⟨va, ts.length, vc, hv⟩ w h2)
        have HS := hide (stepW_tabl (ts := ts) h1 h2)
        subst hv
        clear hT hW hx hxr hWr h1
        cases r with
        | nil =>
          go_enter Tryd.func16, Tryd.ntmps16
          go_wp2_with fail
          refine (unhide HR _ _).mono ?_; rintro e w1 ⟨rfl, rfl⟩
          go_wp2
          go_returns
          exact ⟨Or.inr ⟨unhide HS, _, _, _, rfl⟩, Chg.refl _ _⟩
        | cons b r =>
          simp only [List.length_cons] at HR hwl ⊢
          go_enter Tryd.func16, Tryd.ntmps16
          go_wp2_with fail
          refine (unhide HR _ _).mono ?_; rintro e w1 ⟨rfl, rfl⟩
          go_wp2
          go_returns
          exact ⟨Or.inr ⟨unhide HS, _, _, _, rfl⟩, Chg.refl _ _⟩
    · have b1 : (a.toList == [116, 97, 98, 108, 101]) = false := beq_no h1
      by_cases h2 : a.toList = rowL
      · have b2 : (a.toList == [114, 111, 119]) = true := beq_yes h2
        have hcs : ts = [] ∨ ∃ ts0 t, ts = ts0 ++ [t] := by
          rcases List.eq_nil_or_concat ts with h | ⟨l, x, h⟩
          · exact Or.inl h
          · exact Or.inr ⟨l, x, by rw [h]; simp⟩
        rcases hcs with rfl | ⟨ts, t, rfl⟩
        · have HR := hide (fun aa n cc => readRow_empty aa n cc va vc w)
          have HS := hide (stepW_rown (ts := []) (r := r) h1 (fun e => e.2.1 rfl))
          subst hv
          clear hT hW hx hxr hWr h1 h2
          cases r with
          | nil =>
            go_enter Tryd.func16, Tryd.ntmps16
            go_wp2_with fail
            refine (unhide HR _ _ _).mono ?_; rintro e w1 ⟨rfl, rfl⟩
            go_wp2
            go_returns
            exact ⟨Or.inr ⟨unhide HS, _, _, _, rfl⟩, Chg.refl _ _⟩
          | cons b r =>
            simp only [List.length_cons] at hwl ⊢
            go_enter Tryd.func16, Tryd.ntmps16
            go_wp2_with fail
            refine (unhide HR _ _ _).mono ?_; rintro e w1 ⟨rfl, rfl⟩
            go_wp2
            go_returns
            exact ⟨Or.inr ⟨unhide HS, _, _, _, rfl⟩, Chg.refl _ _⟩
        · rw [List.length_append, List.length_singleton] at hv hl
          cases r with
          | nil =>
            have HR := hide (fun off cc => readRow_calls v A off cc B [] lab cs ts t w hB ⟨hW.1, fun i x hi => by simp at hi⟩ hT (fun x h => by simp at h) (by simp) (by omega) (hr t (by simp)))
            subst hv
            clear hT hW hx hxr hWr
            have H1 := hide h1; have H2 := hide h2
            clear h1 h2
            go_enter Tryd.func16, Tryd.ntmps16
            go_wp2_with fail
            have h1 := unhide H1; have h2 := unhide H2
            refine (unhide HR _ _).mono ?_; rintro e w1 ⟨(⟨h4, v', lab', cs', rfl, hT'⟩ | ⟨h4, rfl⟩), hC⟩
            · have HS := hide (stepW_row (ts := ts ++ [t]) h2 (by simp) h4)
              rw [addR_snoc] at HS
              have HT' := hide hT'; have HC := hide hC
              obtain ⟨va', vc', hv'⟩ := hT'.slice
              rw [List.length_append, List.length_singleton] at hv'
              subst hv'
              clear hT' hC h4 h2 h1
              go_wp2
              go_returns
              exact ⟨Or.inl ⟨_, unhide HS, _, lab', cs', rfl, unhide HT'⟩, unhide HC⟩
            · have HS := hide (stepW_rown (ts := ts ++ [t]) h1 (fun e => h4 e.2.2))
              have HC := hide hC
              clear hC h4 h2 h1
              go_wp2
              go_returns
              exact ⟨Or.inr ⟨unhide HS, _, _, _, rfl⟩, unhide HC⟩
          | cons b r =>
            have HR := hide (readRow_calls v A 1 (r.length + 1) B (b :: r) lab cs ts t w hB hWr hT hxr (by simp at hwl ⊢; omega) (by omega) (hr t (by simp)))
            subst hv
            clear hT hW hx hxr hWr
            have H1 := hide h1; have H2 := hide h2
            clear h1 h2
            simp only [List.length_cons] at hwl HR ⊢
            go_enter Tryd.func16, Tryd.ntmps16
            go_wp2_with fail
            have h1 := unhide H1; have h2 := unhide H2
            refine (unhide HR).mono ?_; rintro e w1 ⟨(⟨h4, v', lab', cs', rfl, hT'⟩ | ⟨h4, rfl⟩), hC⟩
            · have HS := hide (stepW_row (ts := ts ++ [t]) h2 (by simp) h4)
              rw [addR_snoc] at HS
              have HT' := hide hT'; have HC := hide hC
              obtain ⟨va', vc', hv'⟩ := hT'.slice
              rw [List.length_append, List.length_singleton] at hv'
              subst hv'
              clear hT' hC h4 h2 h1
              go_wp2
              go_returns
              exact ⟨Or.inl ⟨_, unhide HS, _, lab', cs', rfl, unhide HT'⟩, unhide HC⟩
            · have HS := hide (stepW_rown (ts := ts ++ [t]) h1 (fun e => h4 e.2.2))
              have HC := hide hC
              clear hC h4 h2 h1
              go_wp2
              go_returns
              exact ⟨Or.inr ⟨unhide HS, _, _, _, rfl⟩, unhide HC⟩
      · have b2 : (a.toList == [114, 111, 119]) = false := beq_no h2
        have HS := hide (stepW_rown (ts := ts) (r := r) h1 (fun e => h2 e.1))
        subst hv
        clear hT hW hx hxr hWr h1 h2
        simp only [List.length_cons] at hwl ⊢
        go_enter Tryd.func16, Tryd.ntmps16
        go_wp2
        go_returns
        exact ⟨Or.inr ⟨unhide HS, _, _, _, rfl⟩, Chg.refl _ _⟩
end Go.Proofs.YteebidljiemegaaDoor
