import Derived.Test.YtnchcndcinpalaaGreatDoorQ2
import Derived.Test.YtnchcndcinpalaaGreatDoorQ0
namespace Go.Proofs.YtnchcndcinpalaaGreatDoor
open Go Go.RowKit
def arity (k : Int) : Int := if k = 1 ∨ k = 2 then 0 else if k = 3 ∨ k = 4 ∨ k = 9 then 1 else if 1 ≤ k ∧ k ≤ 10 then 2 else -1
theorem arity_cases (k : Int) : arity k = -1 ∨ arity k = 0 ∨ arity k = 1 ∨ arity k = 2 := by
  unfold arity
  repeat (split; · simp)
  simp
def kidsP (p : Pn) : List Int :=
  if arity p.K = 0 then (if p.L = 0 ∧ p.R = 0 then [] else [-1])
  else if arity p.K = 1 then (if p.R = 0 then [p.L] else [-1])
  else if arity p.K = 2 then [p.L, p.R]
  else [-1]
def nds (ps : List Pn) : List Nd := ps.map fun p => ⟨p.K, 0, 0, ByteArray.empty, ByteArray.empty, kidsP p⟩
theorem kidsAt_nds {ps : List Pn} {i : Nat} (hi : i < ps.length) : kidsAt (nds ps) i = kidsP ps[i] := by simp [kidsAt, nds, hi]
theorem Seg.noNeg {ns : List Nd} {a b : Nat} (h : Seg ns a b [-1]) : False := by
  obtain ⟨p, _, h1, _⟩ := h.kid (-1) (by simp)
  omega
theorem frm_neg {ns : List Nd} {i : Nat} (h : kidsAt ns i = [-1]) : frm ns i = -1 := frm_none (fun f hf => by rw [h] at hf; exact hf.noNeg)
theorem frm_leaf {ns : List Nd} {i : Nat} (h : kidsAt ns i = []) : frm ns i = (i : Int) := frm_some (by rw [h]; exact Seg.nil i)
theorem frm_one {ns : List Nd} {i : Nat} {l : Int} (h : kidsAt ns (i + 1) = [l]) : frm ns (i + 1) = if l = (i : Int) then frm ns i else -1 := by
  by_cases hl : l = (i : Int)
  · rw [if_pos hl]
    subst hl
    rcases frm_cases ns i with ⟨h1, h2⟩ | ⟨f, h1, h2⟩
    · rw [h1]
      refine frm_none (fun f hf => ?_)
      rw [h] at hf
      obtain ⟨p, c, e1, _, _, h4⟩ := Seg.inv (ks := []) (x := (i : Int)) (by simpa using hf)
      obtain rfl : p = i := by omega
      exact h2 c h4
    · rw [h1]
      exact frm_some (by rw [h]; exact h2.one)
  · rw [if_neg hl]
    refine frm_none (fun f hf => ?_)
    rw [h] at hf
    obtain ⟨p, c, e1, e2, _, _⟩ := Seg.inv (ks := []) (x := l) (by simpa using hf)
    exact hl (by omega)
theorem frm_one0 {ns : List Nd} {l : Int} (h : kidsAt ns 0 = [l]) : frm ns 0 = -1 := frm_none (fun f hf => by
  rw [h] at hf
  obtain ⟨p, c, e1, _⟩ := Seg.inv (ks := []) (x := l) (by simpa using hf)
  omega)
theorem frm_two0 {ns : List Nd} {l r : Int} (h : kidsAt ns 0 = [l, r]) : frm ns 0 = -1 := frm_none (fun f hf => by
  rw [h] at hf
  obtain ⟨p, c, e1, _⟩ := Seg.inv (ks := [l]) (x := r) (by simpa using hf)
  omega)
theorem frm_two {ns : List Nd} {i : Nat} {l r : Int} (h : kidsAt ns (i + 1) = [l, r]) :
    frm ns (i + 1) = if r ≠ (i : Int) then -1 else if frm ns i < 1 then -1 else if l ≠ frm ns i - 1 then -1 else frm ns (frm ns i - 1).toNat := by
  by_cases hr : r = (i : Int)
  rotate_left
  · rw [if_pos hr]
    refine frm_none (fun f hf => ?_)
    rw [h] at hf
    obtain ⟨p, c, e1, e2, _, _⟩ := Seg.inv (ks := [l]) (x := r) (by simpa using hf)
    exact hr (by omega)
  rw [if_neg (by simpa using hr)]
  subst hr
  have key : ∀ f, Seg ns f (i + 1) [l, (i : Int)] → ∃ c q : Nat, frm ns i = (c : Int) ∧ c = q + 1 ∧ l = (q : Int) ∧ Seg ns f q (kidsAt ns q) := fun f hf => by
    obtain ⟨p, c, e1, _, h3, h4⟩ := Seg.inv (ks := [l]) (x := (i : Int)) (by simpa using hf)
    obtain rfl : p = i := by omega
    obtain ⟨q, c', e3, e4, h5, h6⟩ := Seg.inv (ks := []) (x := l) (by simpa using h3)
    obtain rfl := h5.nil_inv
    exact ⟨c, q, frm_some h4, e3, e4, h6⟩
  rcases frm_cases ns i with ⟨h1, h2⟩ | ⟨c, h1, h2⟩
  · rw [h1, if_pos (by omega)]
    exact frm_none (fun f hf => by rw [h] at hf; obtain ⟨c, q, e, _⟩ := key f hf; omega)
  · rw [h1]
    by_cases hc : c = 0
    · rw [if_pos (by omega)]
      exact frm_none (fun f hf => by rw [h] at hf; obtain ⟨c', q, e, e2, _⟩ := key f hf; omega)
    · obtain ⟨q, rfl⟩ : ∃ q, c = q + 1 := ⟨c - 1, by omega⟩
      rw [if_neg (by omega)]
      by_cases hl : l = (q : Int)
      rotate_left
      · rw [if_pos (by omega)]
        exact frm_none (fun f hf => by rw [h] at hf; obtain ⟨c', q', e, e2, e3, _⟩ := key f hf; omega)
      · rw [if_neg (by omega), show (((q + 1 : Nat) : Int) - 1).toNat = q by omega]
        subst hl
        rcases frm_cases ns q with ⟨g1, g2⟩ | ⟨f, g1, g2⟩
        · rw [g1]
          exact frm_none (fun f hf => by
            rw [h] at hf
            obtain ⟨c', q', e, e2, e3, h6⟩ := key f hf
            obtain rfl : q' = q := by omega
            exact g2 f h6)
        · rw [g1]
          refine frm_some ?_
          rw [h]
          have := g2.one.join h2.one
          simpa using this
theorem frm_le (ns : List Nd) (i : Nat) : -1 ≤ frm ns i ∧ frm ns i ≤ (i : Int) := by
  rcases frm_cases ns i with ⟨h1, _⟩ | ⟨f, h1, h2⟩
  · omega
  · have := h2.le; omega
theorem l3Kids_calls (k : Int) (w : World) : Calls Tryz.prog 112 #[.int .i64 k] w fun e w' => e = .returned (.int .i64 (arity k)) ∧ w' = w := by
  by_cases hK : k < 1 ∨ 10 < k
  · have HE : Hid (arity k = -1) := by
      show _ = _
      unfold arity
      rw [if_neg (by omega), if_neg (by omega), if_neg (by omega)]
    have k1 : (k == 1) = false := beq_eq_false_iff_ne.2 (by omega)
    have k2 : (k == 2) = false := beq_eq_false_iff_ne.2 (by omega)
    have k3 : (k == 3) = false := beq_eq_false_iff_ne.2 (by omega)
    have k4 : (k == 4) = false := beq_eq_false_iff_ne.2 (by omega)
    have k9 : (k == 9) = false := beq_eq_false_iff_ne.2 (by omega)
    by_cases h1 : 1 ≤ k
    · have h2 : ¬ k ≤ 10 := by omega
      go_enter Tryz.func112, Tryz.ntmps112
      go_wp2
      go_ret
      exact ⟨congrArg (fun z => Ending.returned (.int .i64 z)) HE.out.symm, rfl⟩
    · go_enter Tryz.func112, Tryz.ntmps112
      go_wp2
      go_ret
      exact ⟨congrArg (fun z => Ending.returned (.int .i64 z)) HE.out.symm, rfl⟩
  have hc : k = 1 ∨ k = 2 ∨ k = 3 ∨ k = 4 ∨ k = 5 ∨ k = 6 ∨ k = 7 ∨ k = 8 ∨ k = 9 ∨ k = 10 := by omega
  clear hK
  rcases hc with rfl | rfl | rfl | rfl | rfl | rfl | rfl | rfl | rfl | rfl
  all_goals
    go_enter Tryz.func112, Tryz.ntmps112
    go_wp2
    go_ret
    exact ⟨rfl, rfl⟩
theorem from3_neg (g n cap : Nat) (w : World) : Calls Tryz.prog 80 #[.slice (some ⟨g, 0, none⟩) n cap, .int .i64 (-1)] w fun e w' => e = .returned (.int .i64 (-1)) ∧ Below w.heap.size w w' := by
  go_enter Tryz.func80, Tryz.ntmps80
  go_wp2
  go_ret
  exact ⟨rfl, Below.refl _ _⟩
set_option maxHeartbeats 4000000 in
theorem from3_calls (ps : List Pn) (g cap : Nat) (hb1 : ps.length ≤ 1048576) : ∀ (n i : Nat), i < n → i < ps.length → ∀ (w : World), g < w.heap.size → PnsAt w g 0 ps →
    Calls Tryz.prog 80 #[.slice (some ⟨g, 0, none⟩) ps.length cap, .int .i64 (i : Int)] w fun e w' => e = .returned (.int .i64 (frm (nds ps) i)) ∧ Below w.heap.size w w' := by
  intro n
  induction n with
  | zero => intro i hi; omega
  | succ n ih =>
    intro i hin hi w hg hn
    obtain ⟨c0, c1, c2, c5, c6, ⟨b3, c3, _, _, _⟩, b4, c4, _, _, _⟩ := hn.at i hi
    have hka := kidsAt_nds hi
    have IH := fun (p : Nat) (hp : p < i) W (hb : Below w.heap.size w W) => ih p (by omega) (by omega) W (Nat.lt_of_lt_of_le hg hb.size) (hn.of hg hb)
    have hfl := frm_le (nds ps)
    have hone := fun (j : Nat) (l : Int) (e : i = j + 1) (h : kidsAt (nds ps) i = [l]) => frm_one (ns := nds ps) (i := j) (l := l) (by rw [← e]; exact h)
    have htwo := fun (j : Nat) (l r : Int) (e : i = j + 1) (h : kidsAt (nds ps) i = [l, r]) => frm_two (ns := nds ps) (i := j) (l := l) (r := r) (by rw [← e]; exact h)
    cases e : ps[i] with | mk K T M Ex Exs L R =>
    rw [e] at c0 c1 c2 c3 c4 c5 c6 hka
    simp only [Nat.zero_add] at c0 c1 c2 c3 c4 c5 c6 hka
    have KC := fun w => l3Kids_calls K w
    have hac := arity_cases K
    unfold kidsP at hka
    simp only at hka
    generalize arity K = ar at *
    have HI := hide IH; have HKC := hide KC; have HKa := hide hka; have HFl := hide hfl; have HOne := hide hone; have HTwo := hide htwo; have Hac := hide hac
    have j0 : (i : Int) < (ps.length : Int) := by omega
    have j9 : ¬ (i : Int) < 0 := by omega
    clear ih IH KC hka hfl hone htwo hn e hac
    obtain ⟨pf, hpf, hP⟩ : ∃ pf : Int, (pf = if i = 0 then -1 else frm (nds ps) (i - 1)) ∧ ∀ W, Below w.heap.size w W → Calls Tryz.prog 80 #[.slice (some ⟨g, 0, none⟩) ps.length cap, .int .i64 ((i : Int) - 1)] W fun e w' => e = .returned (.int .i64 pf) ∧ Below W.heap.size W w' := by
      refine ⟨_, rfl, fun W hb => ?_⟩
      cases i with
      | zero => exact from3_neg g ps.length cap W
      | succ j =>
        have h := unhide HI j (by omega) W hb
        rw [if_neg (by omega), show ((j + 1 : Nat) : Int) - 1 = (j : Int) by omega]
        exact h
    have hp1 : ar = 1 → L = (i : Int) - 1 → R = 0 → frm (nds ps) i = pf := fun ha hl hr => by
      have hk := unhide HKa
      rw [if_neg (by omega), if_pos ha, if_pos hr] at hk
      rw [hpf]
      cases i with
      | zero => rw [if_pos rfl]; exact frm_one0 hk
      | succ j =>
        rw [if_neg (by omega), unhide HOne j L rfl hk, if_pos (by omega)]
        rfl
    have hpN : ar = 1 → ¬ (L = (i : Int) - 1 ∧ R = 0) → frm (nds ps) i = -1 := fun ha hn => by
      have hk := unhide HKa
      rw [if_neg (by omega), if_pos ha] at hk
      by_cases hr : R = 0
      · rw [if_pos hr] at hk
        cases i with
        | zero => exact frm_one0 hk
        | succ j => rw [unhide HOne j L rfl hk, if_neg (by omega)]
      · rw [if_neg hr] at hk
        exact frm_neg hk
    have hp2 : ar = 2 → frm (nds ps) i = if R ≠ (i : Int) - 1 then -1 else if pf < 1 then -1 else if L ≠ pf - 1 then -1 else frm (nds ps) (pf - 1).toNat := fun ha => by
      have hk := unhide HKa
      rw [if_neg (by omega), if_neg (by omega), if_pos ha] at hk
      rw [hpf]
      cases i with
      | zero =>
        rw [frm_two0 hk]
        split
        · rfl
        · rw [if_pos rfl, if_pos (by omega)]
      | succ j =>
        have e0 : (if j + 1 = 0 then (-1 : Int) else frm (nds ps) (j + 1 - 1)) = frm (nds ps) j := by rw [if_neg (by omega)]; rfl
        rw [unhide HTwo j L R rfl hk, e0, show ((j + 1 : Nat) : Int) - 1 = (j : Int) by omega]
    have hpr : -1 ≤ pf ∧ pf ≤ (i : Int) - 1 := by
      rw [hpf]
      cases i with
      | zero => simp
      | succ j =>
        have := unhide HFl j
        rw [if_neg (by omega), show j + 1 - 1 = j by omega]
        omega
    have hq : 1 ≤ pf → ∀ W, Below w.heap.size w W → Calls Tryz.prog 80 #[.slice (some ⟨g, 0, none⟩) ps.length cap, .int .i64 (pf - 1)] W fun e w' => e = .returned (.int .i64 (frm (nds ps) (pf - 1).toNat)) ∧ Below W.heap.size W w' := fun h1 W hb => by
      have h := unhide HI (pf - 1).toNat (by omega) W hb
      rw [show (((pf - 1).toNat : Nat) : Int) = pf - 1 by omega] at h
      exact h
    have HQ := hide hq
    clear hq
    have Hp1 := hide (fun h => hp1 h); have HpN := hide (fun h => hpN h); have Hp2 := hide (fun h => hp2 h); have HP := hide hP
    have r1 := hpr.1
    have r2 := hpr.2
    clear hp1 hpN hp2 hP hpf hpr
    rcases unhide Hac with rfl | rfl | rfl | rfl
    · have HE := hide (frm_neg (ns := nds ps) (i := i) (by rw [unhide HKa]; simp))
      go_enter Tryz.func80, Tryz.ntmps80
      go_wp2_with fail
      refine (unhide HKC _).mono ?_; rintro e w1 ⟨rfl, rfl⟩
      go_wp2
      go_ret
      exact ⟨congrArg (fun z => Ending.returned (.int .i64 z)) (unhide HE).symm, Below.refl _ _⟩
    · cases bL : (L != 0)
      · cases bR : (R != 0)
        · have HE := hide (frm_leaf (ns := nds ps) (i := i) (by rw [unhide HKa]; simp at bL bR; simp [bL, bR]))
          go_enter Tryz.func80, Tryz.ntmps80
          go_wp2_with fail
          refine (unhide HKC _).mono ?_; rintro e w1 ⟨rfl, rfl⟩
          go_wp2_with fail
          refine (unhide HKC _).mono ?_; rintro e w1 ⟨rfl, rfl⟩
          go_wp2
          go_ret
          exact ⟨congrArg (fun z => Ending.returned (.int .i64 z)) (unhide HE).symm, bA (Below.refl _ _) _⟩
        · have HE := hide (frm_neg (ns := nds ps) (i := i) (by rw [unhide HKa]; simp at bR; simp [bR]))
          go_enter Tryz.func80, Tryz.ntmps80
          go_wp2_with fail
          refine (unhide HKC _).mono ?_; rintro e w1 ⟨rfl, rfl⟩
          go_wp2_with fail
          refine (unhide HKC _).mono ?_; rintro e w1 ⟨rfl, rfl⟩
          go_wp2
          go_ret
          exact ⟨congrArg (fun z => Ending.returned (.int .i64 z)) (unhide HE).symm, bA (Below.refl _ _) _⟩
      · have HE := hide (frm_neg (ns := nds ps) (i := i) (by rw [unhide HKa]; simp at bL; simp [bL]))
        go_enter Tryz.func80, Tryz.ntmps80
        go_wp2_with fail
        refine (unhide HKC _).mono ?_; rintro e w1 ⟨rfl, rfl⟩
        go_wp2_with fail
        refine (unhide HKC _).mono ?_; rintro e w1 ⟨rfl, rfl⟩
        go_wp2
        go_ret
        exact ⟨congrArg (fun z => Ending.returned (.int .i64 z)) (unhide HE).symm, bA (Below.refl _ _) _⟩
    · cases bL : (L != (i : Int) - 1)
      · cases bR : (R != 0)
        · have HE := hide (unhide Hp1 rfl (by simpa using bL) (by simpa using bR))
          go_enter Tryz.func80, Tryz.ntmps80
          go_wp2_with fail
          refine (unhide HKC _).mono ?_; rintro e w1 ⟨rfl, rfl⟩
          go_wp2_with fail
          refine (unhide HKC _).mono ?_; rintro e w1 ⟨rfl, rfl⟩
          go_wp2_with fail
          refine (unhide HP _ (bA (Below.refl _ _) _)).mono ?_; rintro e w4 ⟨rfl, hb⟩
          go_wp2
          go_ret
          exact ⟨congrArg (fun z => Ending.returned (.int .i64 z)) (unhide HE).symm, bT (bA (Below.refl _ _) _) hb⟩
        · have HE := hide (unhide HpN rfl (fun h => by simp at bR; exact bR h.2))
          go_enter Tryz.func80, Tryz.ntmps80
          go_wp2_with fail
          refine (unhide HKC _).mono ?_; rintro e w1 ⟨rfl, rfl⟩
          go_wp2_with fail
          refine (unhide HKC _).mono ?_; rintro e w1 ⟨rfl, rfl⟩
          go_wp2
          go_ret
          exact ⟨congrArg (fun z => Ending.returned (.int .i64 z)) (unhide HE).symm, bA (Below.refl _ _) _⟩
      · have HE := hide (unhide HpN rfl (fun h => by simp at bL; exact bL h.1))
        go_enter Tryz.func80, Tryz.ntmps80
        go_wp2_with fail
        refine (unhide HKC _).mono ?_; rintro e w1 ⟨rfl, rfl⟩
        go_wp2_with fail
        refine (unhide HKC _).mono ?_; rintro e w1 ⟨rfl, rfl⟩
        go_wp2
        go_ret
        exact ⟨congrArg (fun z => Ending.returned (.int .i64 z)) (unhide HE).symm, bA (Below.refl _ _) _⟩
    · have HE2 := hide (unhide Hp2 rfl)
      cases bR : (R != (i : Int) - 1)
      · by_cases h1 : pf < 1
        · have HE := hide ((unhide HE2).trans (by rw [if_neg (by simpa using bR), if_pos h1]))
          go_enter Tryz.func80, Tryz.ntmps80
          go_wp2_with fail
          refine (unhide HKC _).mono ?_; rintro e w1 ⟨rfl, rfl⟩
          go_wp2_with fail
          refine (unhide HKC _).mono ?_; rintro e w1 ⟨rfl, rfl⟩
          go_wp2_with fail
          refine (unhide HP _ (bA (Below.refl _ _) _)).mono ?_; rintro e w4 ⟨rfl, hb⟩
          have n1 := bT (bA (Below.refl w1.heap.size w1) _) hb
          obtain ⟨d1, d2⟩ := bcell hb
          go_wp2
          go_ret
          exact ⟨congrArg (fun z => Ending.returned (.int .i64 z)) (unhide HE).symm, n1⟩
        · cases bL : (L != pf - 1)
          · have HE := hide ((unhide HE2).trans (by rw [if_neg (by simpa using bR), if_neg h1, if_neg (by simpa using bL)]))
            go_enter Tryz.func80, Tryz.ntmps80
            go_wp2_with fail
            refine (unhide HKC _).mono ?_; rintro e w1 ⟨rfl, rfl⟩
            go_wp2_with fail
            refine (unhide HKC _).mono ?_; rintro e w1 ⟨rfl, rfl⟩
            go_wp2_with fail
            refine (unhide HP _ (bA (Below.refl _ _) _)).mono ?_; rintro e w4 ⟨rfl, hb⟩
            have n1 := bT (bA (Below.refl w1.heap.size w1) _) hb
            obtain ⟨d1, d2⟩ := bcell hb
            go_wp2_with fail
            refine (unhide HQ (by omega) _ n1).mono ?_; rintro e w2 ⟨rfl, hb2⟩
            have n2 := bT n1 hb2
            go_wp2
            go_ret
            exact ⟨congrArg (fun z => Ending.returned (.int .i64 z)) ((congrArg (frm (nds ps)) (by omega)).trans (unhide HE).symm), n2⟩
          · have HE := hide ((unhide HE2).trans (by rw [if_neg (by simpa using bR), if_neg h1, if_pos (by simpa using bL)]))
            go_enter Tryz.func80, Tryz.ntmps80
            go_wp2_with fail
            refine (unhide HKC _).mono ?_; rintro e w1 ⟨rfl, rfl⟩
            go_wp2_with fail
            refine (unhide HKC _).mono ?_; rintro e w1 ⟨rfl, rfl⟩
            go_wp2_with fail
            refine (unhide HP _ (bA (Below.refl _ _) _)).mono ?_; rintro e w4 ⟨rfl, hb⟩
            have n1 := bT (bA (Below.refl w1.heap.size w1) _) hb
            obtain ⟨d1, d2⟩ := bcell hb
            go_wp2
            go_ret
            exact ⟨congrArg (fun z => Ending.returned (.int .i64 z)) (unhide HE).symm, n1⟩
      · have HE := hide ((unhide HE2).trans (by rw [if_pos (by simpa using bR)]))
        go_enter Tryz.func80, Tryz.ntmps80
        go_wp2_with fail
        refine (unhide HKC _).mono ?_; rintro e w1 ⟨rfl, rfl⟩
        go_wp2_with fail
        refine (unhide HKC _).mono ?_; rintro e w1 ⟨rfl, rfl⟩
        go_wp2
        go_ret
        exact ⟨congrArg (fun z => Ending.returned (.int .i64 z)) (unhide HE).symm, bA (Below.refl _ _) _⟩
end Go.Proofs.YtnchcndcinpalaaGreatDoor
namespace Go.Proofs.YtnchcndcinpalaaGreatDoor
open Go Go.RowKit
def insideW (k env left : Int) : Int := if k = 6 ∨ k = 7 ∨ k = 8 then env + left else env
theorem l3Inside_calls (k env left : Int) (w : World) (h1 : -4503599627370496 ≤ env) (h2 : env ≤ 4503599627370496) (h3 : -4503599627370496 ≤ left) (h4 : left ≤ 4503599627370496) :
    Calls Tryz.prog 114 #[.int .i64 k, .int .i64 env, .int .i64 left] w fun e w' => e = .returned (.int .i64 (insideW k env left)) ∧ w' = w := by
  by_cases hK : k = 6 ∨ k = 7 ∨ k = 8
  · have HE : Hid (insideW k env left = env + left) := by
      show _ = _
      unfold insideW
      rw [if_pos hK]
    rcases hK with rfl | rfl | rfl
    all_goals
      go_enter Tryz.func114, Tryz.ntmps114
      go_wp2
      go_ret
      exact ⟨congrArg (fun z => Ending.returned (.int .i64 z)) HE.out.symm, rfl⟩
  · have HE : Hid (insideW k env left = env) := by
      show _ = _
      unfold insideW
      rw [if_neg hK]
    have k6 : (k == 6) = false := beq_eq_false_iff_ne.2 (by omega)
    have k7 : (k == 7) = false := beq_eq_false_iff_ne.2 (by omega)
    have k8 : (k == 8) = false := beq_eq_false_iff_ne.2 (by omega)
    clear hK
    go_enter Tryz.func114, Tryz.ntmps114
    go_wp2
    go_ret
    exact ⟨congrArg (fun z => Ending.returned (.int .i64 z)) HE.out.symm, rfl⟩
def usedP (nt : Nat) (K T M : Int) (le ls : Nat) : Prop :=
  (K ≠ 2 → T = 0) ∧ (K = 2 → 0 ≤ T ∧ T < (nt : Int)) ∧ (K ≠ 8 → M = 0) ∧ (K = 8 → 1 ≤ M ∧ M ≤ 4) ∧ (K = 3 ∨ K = 7 ∨ (K = 8 ∧ M ≠ 1) ∨ le = 0) ∧ (K = 4 ∨ ls = 0)
set_option maxHeartbeats 4000000 in
theorem l3Used_calls (nt : Nat) (K T M L R : Int) (le ls : Nat) (a3 a4 : _) (c3 c4 g cap : Nat) (w : World) (b2 : le ≤ 1048576) (b3 : ls ≤ 1048576) :
    Calls Tryz.prog 113 #[.agg #[.int .i64 K, .int .i64 T, .int .i64 M, .slice a3 le c3, .slice a4 ls c4, .int .i64 L, .int .i64 R], .agg #[.slice (some ⟨g, 0, none⟩) nt cap]] w
      fun e w' => e = .returned (.bool (dB (usedP nt K T M le ls))) ∧ Below w.heap.size w w' := by
  have hc : K = 2 ∨ K = 3 ∨ K = 4 ∨ K = 7 ∨ K = 8 ∨ (K ≠ 2 ∧ K ≠ 3 ∧ K ≠ 4 ∧ K ≠ 7 ∧ K ≠ 8) := by omega
  rcases hc with rfl | rfl | rfl | rfl | rfl | ⟨k2, k3, k4, k7, k8⟩
  · by_cases t1 : T < 0
    · have HE : Hid (dB (usedP nt 2 T M le ls) = false) := dB_false (by (try simp at *); unfold usedP; omega)
      go_enter Tryz.func113, Tryz.ntmps113
      go_wp2
      go_ret
      exact ⟨congrArg (fun z => Ending.returned (.bool z)) HE.out.symm, bA (bA (Below.refl _ _) _) _⟩
    · by_cases t2 : T < (nt : Int)
      · cases bM : (M != 0)
        · cases bE : ((le : Int) != 0)
          · cases bS : ((ls : Int) == 0)
            · have HE : Hid (dB (usedP nt 2 T M le ls) = false) := dB_false (by (try simp at *); unfold usedP; omega)
              go_enter Tryz.func113, Tryz.ntmps113
              go_wp2
              go_ret
              exact ⟨congrArg (fun z => Ending.returned (.bool z)) HE.out.symm, bA (bA (Below.refl _ _) _) _⟩
            · have HE : Hid (dB (usedP nt 2 T M le ls) = true) := dB_true (by (try simp at *); unfold usedP; omega)
              go_enter Tryz.func113, Tryz.ntmps113
              go_wp2
              go_ret
              exact ⟨congrArg (fun z => Ending.returned (.bool z)) HE.out.symm, bA (bA (Below.refl _ _) _) _⟩
          · have HE : Hid (dB (usedP nt 2 T M le ls) = false) := dB_false (by (try simp at *); unfold usedP; omega)
            go_enter Tryz.func113, Tryz.ntmps113
            go_wp2
            go_ret
            exact ⟨congrArg (fun z => Ending.returned (.bool z)) HE.out.symm, bA (bA (Below.refl _ _) _) _⟩
        · have HE : Hid (dB (usedP nt 2 T M le ls) = false) := dB_false (by (try simp at *); unfold usedP; omega)
          go_enter Tryz.func113, Tryz.ntmps113
          go_wp2
          go_ret
          exact ⟨congrArg (fun z => Ending.returned (.bool z)) HE.out.symm, bA (bA (Below.refl _ _) _) _⟩
      · have HE : Hid (dB (usedP nt 2 T M le ls) = false) := dB_false (by (try simp at *); unfold usedP; omega)
        go_enter Tryz.func113, Tryz.ntmps113
        go_wp2
        go_ret
        exact ⟨congrArg (fun z => Ending.returned (.bool z)) HE.out.symm, bA (bA (Below.refl _ _) _) _⟩
  · cases bT : (T != 0)
    · cases bM : (M != 0)
      · cases bS : ((ls : Int) == 0)
        · have HE : Hid (dB (usedP nt 3 T M le ls) = false) := dB_false (by (try simp at *); unfold usedP; omega)
          go_enter Tryz.func113, Tryz.ntmps113
          go_wp2
          go_ret
          exact ⟨congrArg (fun z => Ending.returned (.bool z)) HE.out.symm, bA (bA (Below.refl _ _) _) _⟩
        · have HE : Hid (dB (usedP nt 3 T M le ls) = true) := dB_true (by (try simp at *); unfold usedP; omega)
          go_enter Tryz.func113, Tryz.ntmps113
          go_wp2
          go_ret
          exact ⟨congrArg (fun z => Ending.returned (.bool z)) HE.out.symm, bA (bA (Below.refl _ _) _) _⟩
      · have HE : Hid (dB (usedP nt 3 T M le ls) = false) := dB_false (by (try simp at *); unfold usedP; omega)
        go_enter Tryz.func113, Tryz.ntmps113
        go_wp2
        go_ret
        exact ⟨congrArg (fun z => Ending.returned (.bool z)) HE.out.symm, bA (bA (Below.refl _ _) _) _⟩
    · have HE : Hid (dB (usedP nt 3 T M le ls) = false) := dB_false (by (try simp at *); unfold usedP; omega)
      go_enter Tryz.func113, Tryz.ntmps113
      go_wp2
      go_ret
      exact ⟨congrArg (fun z => Ending.returned (.bool z)) HE.out.symm, bA (bA (Below.refl _ _) _) _⟩
  · cases bT : (T != 0)
    · cases bM : (M != 0)
      · cases bE : ((le : Int) != 0)
        · have HE : Hid (dB (usedP nt 4 T M le ls) = true) := dB_true (by (try simp at *); unfold usedP; omega)
          go_enter Tryz.func113, Tryz.ntmps113
          go_wp2
          go_ret
          exact ⟨congrArg (fun z => Ending.returned (.bool z)) HE.out.symm, bA (bA (Below.refl _ _) _) _⟩
        · have HE : Hid (dB (usedP nt 4 T M le ls) = false) := dB_false (by (try simp at *); unfold usedP; omega)
          go_enter Tryz.func113, Tryz.ntmps113
          go_wp2
          go_ret
          exact ⟨congrArg (fun z => Ending.returned (.bool z)) HE.out.symm, bA (bA (Below.refl _ _) _) _⟩
      · have HE : Hid (dB (usedP nt 4 T M le ls) = false) := dB_false (by (try simp at *); unfold usedP; omega)
        go_enter Tryz.func113, Tryz.ntmps113
        go_wp2
        go_ret
        exact ⟨congrArg (fun z => Ending.returned (.bool z)) HE.out.symm, bA (bA (Below.refl _ _) _) _⟩
    · have HE : Hid (dB (usedP nt 4 T M le ls) = false) := dB_false (by (try simp at *); unfold usedP; omega)
      go_enter Tryz.func113, Tryz.ntmps113
      go_wp2
      go_ret
      exact ⟨congrArg (fun z => Ending.returned (.bool z)) HE.out.symm, bA (bA (Below.refl _ _) _) _⟩
  · cases bT : (T != 0)
    · cases bM : (M != 0)
      · cases bS : ((ls : Int) == 0)
        · have HE : Hid (dB (usedP nt 7 T M le ls) = false) := dB_false (by (try simp at *); unfold usedP; omega)
          go_enter Tryz.func113, Tryz.ntmps113
          go_wp2
          go_ret
          exact ⟨congrArg (fun z => Ending.returned (.bool z)) HE.out.symm, bA (bA (Below.refl _ _) _) _⟩
        · have HE : Hid (dB (usedP nt 7 T M le ls) = true) := dB_true (by (try simp at *); unfold usedP; omega)
          go_enter Tryz.func113, Tryz.ntmps113
          go_wp2
          go_ret
          exact ⟨congrArg (fun z => Ending.returned (.bool z)) HE.out.symm, bA (bA (Below.refl _ _) _) _⟩
      · have HE : Hid (dB (usedP nt 7 T M le ls) = false) := dB_false (by (try simp at *); unfold usedP; omega)
        go_enter Tryz.func113, Tryz.ntmps113
        go_wp2
        go_ret
        exact ⟨congrArg (fun z => Ending.returned (.bool z)) HE.out.symm, bA (bA (Below.refl _ _) _) _⟩
    · have HE : Hid (dB (usedP nt 7 T M le ls) = false) := dB_false (by (try simp at *); unfold usedP; omega)
      go_enter Tryz.func113, Tryz.ntmps113
      go_wp2
      go_ret
      exact ⟨congrArg (fun z => Ending.returned (.bool z)) HE.out.symm, bA (bA (Below.refl _ _) _) _⟩
  · cases bT : (T != 0)
    · by_cases m1 : M < 1
      · have HE : Hid (dB (usedP nt 8 T M le ls) = false) := dB_false (by (try simp at *); unfold usedP; omega)
        go_enter Tryz.func113, Tryz.ntmps113
        go_wp2
        go_ret
        exact ⟨congrArg (fun z => Ending.returned (.bool z)) HE.out.symm, bA (bA (Below.refl _ _) _) _⟩
      · by_cases m2 : 4 < M
        · have HE : Hid (dB (usedP nt 8 T M le ls) = false) := dB_false (by (try simp at *); unfold usedP; omega)
          go_enter Tryz.func113, Tryz.ntmps113
          go_wp2
          go_ret
          exact ⟨congrArg (fun z => Ending.returned (.bool z)) HE.out.symm, bA (bA (Below.refl _ _) _) _⟩
        · cases b1' : (M != 1)
          · cases bE : ((le : Int) != 0)
            · cases bS : ((ls : Int) == 0)
              · have HE : Hid (dB (usedP nt 8 T M le ls) = false) := dB_false (by (try simp at *); unfold usedP; omega)
                go_enter Tryz.func113, Tryz.ntmps113
                go_wp2
                go_ret
                exact ⟨congrArg (fun z => Ending.returned (.bool z)) HE.out.symm, bA (bA (Below.refl _ _) _) _⟩
              · have HE : Hid (dB (usedP nt 8 T M le ls) = true) := dB_true (by (try simp at *); unfold usedP; omega)
                go_enter Tryz.func113, Tryz.ntmps113
                go_wp2
                go_ret
                exact ⟨congrArg (fun z => Ending.returned (.bool z)) HE.out.symm, bA (bA (Below.refl _ _) _) _⟩
            · have HE : Hid (dB (usedP nt 8 T M le ls) = false) := dB_false (by (try simp at *); unfold usedP; omega)
              go_enter Tryz.func113, Tryz.ntmps113
              go_wp2
              go_ret
              exact ⟨congrArg (fun z => Ending.returned (.bool z)) HE.out.symm, bA (bA (Below.refl _ _) _) _⟩
          · cases bS : ((ls : Int) == 0)
            · have HE : Hid (dB (usedP nt 8 T M le ls) = false) := dB_false (by (try simp at *); unfold usedP; omega)
              go_enter Tryz.func113, Tryz.ntmps113
              go_wp2
              go_ret
              exact ⟨congrArg (fun z => Ending.returned (.bool z)) HE.out.symm, bA (bA (Below.refl _ _) _) _⟩
            · have HE : Hid (dB (usedP nt 8 T M le ls) = true) := dB_true (by (try simp at *); unfold usedP; omega)
              go_enter Tryz.func113, Tryz.ntmps113
              go_wp2
              go_ret
              exact ⟨congrArg (fun z => Ending.returned (.bool z)) HE.out.symm, bA (bA (Below.refl _ _) _) _⟩
    · have HE : Hid (dB (usedP nt 8 T M le ls) = false) := dB_false (by (try simp at *); unfold usedP; omega)
      go_enter Tryz.func113, Tryz.ntmps113
      go_wp2
      go_ret
      exact ⟨congrArg (fun z => Ending.returned (.bool z)) HE.out.symm, bA (bA (Below.refl _ _) _) _⟩
  · have q2 : (K == 2) = false := beq_eq_false_iff_ne.2 k2; have q3 : (K == 3) = false := beq_eq_false_iff_ne.2 k3; have q4 : (K == 4) = false := beq_eq_false_iff_ne.2 k4; have q7 : (K == 7) = false := beq_eq_false_iff_ne.2 k7; have q8 : (K == 8) = false := beq_eq_false_iff_ne.2 k8; have q9 : (K != 8) = true := by simp [k8]
    cases bT : (T != 0)
    · cases bM : (M != 0)
      · cases bE : ((le : Int) != 0)
        · cases bS : ((ls : Int) == 0)
          · have HE : Hid (dB (usedP nt K T M le ls) = false) := dB_false (by (try simp at *); unfold usedP; omega)
            go_enter Tryz.func113, Tryz.ntmps113
            go_wp2
            go_ret
            exact ⟨congrArg (fun z => Ending.returned (.bool z)) HE.out.symm, bA (bA (Below.refl _ _) _) _⟩
          · have HE : Hid (dB (usedP nt K T M le ls) = true) := dB_true (by (try simp at *); unfold usedP; omega)
            go_enter Tryz.func113, Tryz.ntmps113
            go_wp2
            go_ret
            exact ⟨congrArg (fun z => Ending.returned (.bool z)) HE.out.symm, bA (bA (Below.refl _ _) _) _⟩
        · have HE : Hid (dB (usedP nt K T M le ls) = false) := dB_false (by (try simp at *); unfold usedP; omega)
          go_enter Tryz.func113, Tryz.ntmps113
          go_wp2
          go_ret
          exact ⟨congrArg (fun z => Ending.returned (.bool z)) HE.out.symm, bA (bA (Below.refl _ _) _) _⟩
      · have HE : Hid (dB (usedP nt K T M le ls) = false) := dB_false (by (try simp at *); unfold usedP; omega)
        go_enter Tryz.func113, Tryz.ntmps113
        go_wp2
        go_ret
        exact ⟨congrArg (fun z => Ending.returned (.bool z)) HE.out.symm, bA (bA (Below.refl _ _) _) _⟩
    · have HE : Hid (dB (usedP nt K T M le ls) = false) := dB_false (by (try simp at *); unfold usedP; omega)
      go_enter Tryz.func113, Tryz.ntmps113
      go_wp2
      go_ret
      exact ⟨congrArg (fun z => Ending.returned (.bool z)) HE.out.symm, bA (bA (Below.refl _ _) _) _⟩
end Go.Proofs.YtnchcndcinpalaaGreatDoor
namespace Go.Proofs.YtnchcndcinpalaaGreatDoor
open Go Go.RowKit
theorem toVal_calls (b : Bool) (n : Int) (w : World) :
    Calls Tryz.prog 130 #[.agg #[.bool b, .int .i64 n]] w fun e w' => e = .returned (.agg #[.bool b, .int .i64 n]) ∧ Below w.heap.size w w' := by
  go_enter Tryz.func130, Tryz.ntmps130
  go_wp2
  exact bodyPost_ret (v := .agg #[.bool b, .int .i64 n]) (by simp [results, Tryz.results130, go_sem]) rfl ⟨rfl, bA (bA (bA (Below.refl _ _) _) _) _⟩
theorem eqVal_calls (b c : Bool) (n m : Int) (w : World) :
    Calls Tryz.prog 136 #[.agg #[.bool b, .int .i64 n], .agg #[.bool c, .int .i64 m]] w fun e w' => e = .returned (.bool (b == c && n == m)) ∧ Below w.heap.size w w' := by
  by_cases h2 : n = m
  · subst h2
    have hn : (n != n) = false := by simp
    cases b <;> cases c
    all_goals
      go_enter Tryz.func136, Tryz.ntmps136
      go_wp2
      go_ret
      exact ⟨by simp, bA (bA (Below.refl _ _) _) _⟩
  · have hn : (n != m) = true := by simpa using h2
    cases b <;> cases c
    all_goals
      go_enter Tryz.func136, Tryz.ntmps136
      go_wp2
      go_ret
      exact ⟨by simp [h2], bA (bA (Below.refl _ _) _) _⟩
end Go.Proofs.YtnchcndcinpalaaGreatDoor
