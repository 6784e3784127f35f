import Derived.Test.YtafmlbojmmdcdaaDoorL1At2
namespace Go.Proofs.YtafmlbojmmdcdaaDoor
open Go Go.RowKit

/-- from the back: where m values of the stack begin -/
theorem bwd_stk (row : List V2) (ops : List O2) : ∀ (i h m : Nat), i ≤ ops.length → fwd row.length (ops.take i) 0 = some h → m ≤ h →
    ∃ p : Nat, p ≤ i ∧ bwd row.length ops i (m : Int) = (p : Int) ∧ stk row ops p = (stk row ops i).take (h - m)
  | 0, h, m, _, hf, hm => by
    simp [fwd] at hf
    subst hf
    obtain rfl : m = 0 := by omega
    exact ⟨0, Nat.le_refl _, by simp [bwd], by simp [stk, runS]⟩
  | i + 1, h, 0, hi, hf, _ => by
    have hl := stk_length row ops (i + 1) h hi hf
    exact ⟨i + 1, Nat.le_refl _, by rw [Int.natCast_zero, bwd_zero], by rw [Nat.sub_zero, ← hl, List.take_length]⟩
  | i + 1, h, m + 1, hi, hf, hm => by
    have hf0 := hf
    rw [fwd_take _ ops i (by omega)] at hf
    obtain ⟨h', h1, h2⟩ := Option.bind_eq_some_iff.1 hf
    have hl' := stk_length row ops i h' (by omega) h1
    simp only [fwd] at h2
    split at h2
    · cases h2
    · split at h2
      · cases h2
      · rename_i ht hlt
        simp only [Option.some.injEq] at h2
        have htr := tk_range ops[i].1 ops[i].2 row.length
        obtain ⟨q, hq1, hq2, hq3⟩ := bwd_stk row ops i h' (m + (tk ops[i].1 ops[i].2 row.length).toNat) (by omega) h1 (by omega)
        refine ⟨q, by omega, ?_, ?_⟩
        · rw [bwd_step row.length ops i _ (by omega) (by omega) ht, ← hq2]
          congr 1
          omega
        · rw [hq3, stk_succ row ops i (by omega), stepS, hl', List.take_append_of_le_length (by simp; omega), List.take_take]
          congr 1
          omega

theorem tk_cases {k N W : Int} (h : ¬ tk k N W < 0) : (k = 1 ∧ tk k N W = 0) ∨ (k = 2 ∧ tk k N W = 0) ∨ (k = 3 ∧ 0 ≤ N ∧ N < W ∧ tk k N W = 0) ∨ (k = 4 ∧ tk k N W = 2) ∨ (k = 5 ∧ tk k N W = 2) ∨ (k = 6 ∧ tk k N W = 2) ∨ (k = 7 ∧ tk k N W = 1) ∨ (k = 8 ∧ tk k N W = 1) := by
  obtain ⟨h1, h8⟩ := tk_kind h
  have e : k = 1 ∨ k = 2 ∨ k = 3 ∨ k = 4 ∨ k = 5 ∨ k = 6 ∨ k = 7 ∨ k = 8 := by omega
  rcases e with rfl | rfl | rfl | rfl | rfl | rfl | rfl | rfl
  · simp [tk]
  · by_cases hN : N = 0
    · subst hN; simp [tk]
    · simp [tk, hN] at h
  · by_cases hN : 0 ≤ N ∧ N < W
    · simp [tk, hN]
    · simp [tk, hN] at h
  · by_cases hN : 1 ≤ N ∧ N ≤ 6
    · simp [tk, hN]
    · simp [tk, hN] at h
  · by_cases hN : N = 0
    · subst hN; simp [tk]
    · simp [tk, hN] at h
  · by_cases hN : N = 0
    · subst hN; simp [tk]
    · simp [tk, hN] at h
  · by_cases hN : N = 0
    · subst hN; simp [tk]
    · simp [tk, hN] at h
  · by_cases hN : N = 0
    · subst hN; simp [tk]
    · simp [tk, hN] at h

/-- the value on top behind Op i -/
def top (row : List V2) (ops : List O2) (k : Nat) : V2 := (stk row ops k).getD ((stk row ops k).length - 1) (false, 0)
theorem top_succ (row : List V2) (ops : List O2) (i : Nat) (hi : i < ops.length) :
    top row ops (i + 1) = opv ops[i].1 ops[i].2 ((stk row ops i).getD ((stk row ops i).length - (tk ops[i].1 ops[i].2 row.length).toNat) (false, 0)) ((stk row ops i).getD ((stk row ops i).length - (tk ops[i].1 ops[i].2 row.length).toNat + 1) (false, 0)) row := by
  unfold top
  rw [stk_succ row ops i hi, stepS]
  simp [List.getD]

set_option maxHeartbeats 1000000 in
theorem l1At_calls (ops : List O2) (row : List V2) (g off cap gr offr capr R : Nat) (b1 : ops.length ≤ 1048576) (hF : fwd row.length ops 0 = some R) : ∀ (n i : Nat), i < n → i < ops.length → ∀ w : World, g < w.heap.size → OpsAt w g off ops → gr < w.heap.size → RowAt w gr offr row →
    Calls Tryd.prog 32 #[.slice (some ⟨g, off, none⟩) ops.length cap, .slice (some ⟨gr, offr, none⟩) row.length capr, .int .i64 (i : Int)] w fun e w' => e = .returned (.agg #[.bool (top row ops (i + 1)).1, .int .i64 (top row ops (i + 1)).2]) ∧ Below w.heap.size w w'
  | 0, i, h, _, _, _, _, _, _ => by omega
  | n + 1, i, hin, hi, w, hg, hr, hgr, hrr => by
    have IH := l1At_calls ops row g off cap gr offr capr R b1 hF n
    obtain ⟨m, hm, ht0, htm⟩ := fwd_at row.length ops hF i hi
    have hlen := stk_length row ops i m (by omega) hm
    obtain ⟨x0, x1⟩ := hr.at i hi
    rw [top_succ row ops i hi, hlen]
    have hk := tk_cases ht0
    -- the Op below, and what stands on top there
    have hone : 1 ≤ m → Hid (∀ w1 : World, Below w.heap.size w w1 → Calls Tryd.prog 32 #[.slice (some ⟨g, off, none⟩) ops.length cap, .slice (some ⟨gr, offr, none⟩) row.length capr, .int .i64 ((i : Int) - 1)] w1 fun e w' => e = .returned (.agg #[.bool ((stk row ops i).getD (m - 1) (false, 0)).1, .int .i64 ((stk row ops i).getD (m - 1) (false, 0)).2]) ∧ Below w1.heap.size w1 w') := by
      intro h1 w1 hb
      have hi0 : 1 ≤ i := by
        have := fwd_le row.length (ops.take i) 0 m hm
        simp at this; omega
      have := IH (i - 1) (by omega) (by omega) w1 (Nat.lt_of_lt_of_le hg hb.size) (hr.of hg hb) (Nat.lt_of_lt_of_le hgr hb.size) (hrr.of hgr hb)
      rw [show ((i - 1 : Nat) : Int) = (i : Int) - 1 by omega, show i - 1 + 1 = i by omega, top, hlen] at this
      exact this
    have htwo : 2 ≤ m → ∃ p : Int, 1 ≤ p ∧ p ≤ i ∧ Hid (∀ w1 : World, Below w.heap.size w w1 → Calls Tryd.prog 41 #[.slice (some ⟨g, off, none⟩) ops.length cap, .int .i64 ((i : Int) - 1), .int .i64 (row.length : Int)] w1 fun e w' => e = .returned (.int .i64 p) ∧ Below w1.heap.size w1 w') ∧
        Hid (∀ w1 : World, Below w.heap.size w w1 → Calls Tryd.prog 32 #[.slice (some ⟨g, off, none⟩) ops.length cap, .slice (some ⟨gr, offr, none⟩) row.length capr, .int .i64 (p - 1)] w1 fun e w' => e = .returned (.agg #[.bool ((stk row ops i).getD (m - 2) (false, 0)).1, .int .i64 ((stk row ops i).getD (m - 2) (false, 0)).2]) ∧ Below w1.heap.size w1 w') := by
      intro h2
      obtain ⟨p, hp1, hp2, hp3⟩ := bwd_stk row ops i m 1 (by omega) hm (by omega)
      have hpl : (stk row ops p).length = m - 1 := by rw [hp3]; simp; omega
      have hp0 : 1 ≤ p := by
        rcases Nat.eq_zero_or_pos p with rfl | h
        · simp [stk, runS] at hpl; omega
        · exact h
      refine ⟨(p : Int), by omega, by omega, ?_, ?_⟩
      · intro w1 hb
        have := l1Start_calls ops g off cap row.length i ((i : Int) - 1) w1 (Nat.lt_of_lt_of_le hg hb.size) (hr.of hg hb) b1 (by omega) rfl
        rw [show (1 : Int) = ((1 : Nat) : Int) from rfl, hp2] at this
        exact this
      · intro w1 hb
        have := IH (p - 1) (by omega) (by omega) w1 (Nat.lt_of_lt_of_le hg hb.size) (hr.of hg hb) (Nat.lt_of_lt_of_le hgr hb.size) (hrr.of hgr hb)
        have e : top row ops p = (stk row ops i).getD (m - 2) (false, 0) := by
          unfold top
          rw [hpl, hp3]
          simp only [List.getD, List.getElem?_take]
          rw [if_pos (by omega), show m - 1 - 1 = m - 2 by omega]
        rw [show ((p - 1 : Nat) : Int) = (p : Int) - 1 by omega, show p - 1 + 1 = p by omega, e] at this
        exact this
    generalize tk ops[i].1 ops[i].2 row.length = t at *
    generalize stk row ops i = bs at *
    generalize ops[i].1 = K at *
    generalize ops[i].2 = N at *
    clear IH
    rcases hk with ⟨rfl, rfl⟩ | ⟨rfl, rfl⟩ | ⟨rfl, h0, h1, rfl⟩ | ⟨rfl, rfl⟩ | ⟨rfl, rfl⟩ | ⟨rfl, rfl⟩ | ⟨rfl, rfl⟩ | ⟨rfl, rfl⟩
    · exact l1At_1 ops.length row g off cap gr offr capr i N w hg hi b1 x0 x1
    · exact l1At_2 ops.length row g off cap gr offr capr i N w hg hi b1 x0 x1
    · obtain ⟨j, rfl⟩ := Int.eq_ofNat_of_zero_le h0
      have hj : j < row.length := by omega
      rw [show ∀ a b : V2, opv 3 (j : Int) a b row = cln row[j] from fun a b => by simp [opv, List.getD, hj]]
      exact l1At_3 ops.length row g off cap gr offr capr i j w hg hi b1 x0 x1 j rfl hj hgr hrr
    · obtain ⟨p, hp1, hp2, HS, HR⟩ := htwo (by omega)
      have := l1At_4 ops.length row g off cap gr offr capr i N w hg hi b1 x0 x1 p hp1 hp2 _ _ (hone (by omega)) HS HR
      rw [show m - (2 : Int).toNat = m - 2 from rfl, show m - 2 + 1 = m - 1 by omega]
      exact this
    · obtain ⟨p, hp1, hp2, HS, HR⟩ := htwo (by omega)
      have := l1At_5 ops.length row g off cap gr offr capr i N w hg hi b1 x0 x1 p hp1 hp2 _ _ (hone (by omega)) HS HR
      rw [show m - (2 : Int).toNat = m - 2 from rfl, show m - 2 + 1 = m - 1 by omega]
      exact this
    · obtain ⟨p, hp1, hp2, HS, HR⟩ := htwo (by omega)
      have := l1At_6 ops.length row g off cap gr offr capr i N w hg hi b1 x0 x1 p hp1 hp2 _ _ (hone (by omega)) HS HR
      rw [show m - (2 : Int).toNat = m - 2 from rfl, show m - 2 + 1 = m - 1 by omega]
      exact this
    · exact l1At_7 ops.length row g off cap gr offr capr i N w hg hi b1 x0 x1 _ (hone (by omega))
    · exact l1At_8 ops.length row g off cap gr offr capr i N w hg hi b1 x0 x1 _ (hone (by omega))
end Go.Proofs.YtafmlbojmmdcdaaDoor
