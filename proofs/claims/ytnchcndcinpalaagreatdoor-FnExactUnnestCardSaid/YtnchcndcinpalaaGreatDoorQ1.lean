import Derived.Test.YtnchcndcinpalaaGreatDoorQ0
namespace Go.Proofs.YtnchcndcinpalaaGreatDoor
open Go Go.RowKit
theorem toOp_calls (b : Int) (n : Int) (w : World) :
    Calls Tryz.prog 120 #[.agg #[.int .i64 b, .int .i64 n]] w fun e w' => e = .returned (.agg #[.int .i64 b, .int .i64 n]) ∧ Below w.heap.size w w' := by
  go_enter Tryz.func120, Tryz.ntmps120
  go_wp2
  exact bodyPost_ret (v := .agg #[.int .i64 b, .int .i64 n]) (by simp [results, Tryz.results120, go_sem]) rfl ⟨rfl, bA (bA (bA (Below.refl _ _) _) _) _⟩
theorem eqOp_calls (b n : Int) (w : World) :
    Calls Tryz.prog 125 #[.agg #[.int .i64 b, .int .i64 n], .agg #[.int .i64 b, .int .i64 n]] w fun e w' => e = .returned (.bool true) ∧ Below w.heap.size w w' := by
  have hb : (b != b) = false := by simp
  have hn : (n != n) = false := by simp
  go_enter Tryz.func125, Tryz.ntmps125
  go_wp2
  go_ret
  exact ⟨by simp, bA (bA (Below.refl _ _) _) _⟩
end Go.Proofs.YtnchcndcinpalaaGreatDoor
namespace Go.Proofs.YtnchcndcinpalaaGreatDoor
open Go Go.RowKit
theorem ret_bool {a b : Bool} (h : a = b) : Ending.returned (.bool a) = .returned (.bool b) := by rw [h]
def tk (k n W : Int) : Int :=
  if k = 1 ∨ (k = 2 ∧ n = 0) then 0 else if k = 3 ∧ 0 ≤ n ∧ n < W then 0 else if k = 4 ∧ 1 ≤ n ∧ n ≤ 6 then 2
  else if (k = 5 ∨ k = 6) ∧ n = 0 then 2 else if (k = 7 ∨ k = 8) ∧ n = 0 then 1 else -1
set_option maxHeartbeats 2000000 in
theorem l1Takes_calls (k n W : Int) (w : World) :
    Calls Tryz.prog 129 #[.agg #[.int .i64 k, .int .i64 n], .int .i64 W] w fun e w' => e = .returned (.int .i64 (tk k n W)) ∧ Below w.heap.size w w' := by
  have hk : k = 1 ∨ k = 2 ∨ k = 3 ∨ k = 4 ∨ k = 5 ∨ k = 6 ∨ k = 7 ∨ k = 8 ∨ (k ≠ 1 ∧ k ≠ 2 ∧ k ≠ 3 ∧ k ≠ 4 ∧ k ≠ 5 ∧ k ≠ 6 ∧ k ≠ 7 ∧ k ≠ 8) := by omega
  rcases hk with rfl | rfl | rfl | rfl | rfl | rfl | rfl | rfl | ⟨h1, h2, h3, h4, h5, h6, h7, h8⟩
  · have HT : Hid (tk 1 n W = 0) := by show _ = _; simp [tk]
    go_enter Tryz.func129, Tryz.ntmps129
    go_wp2
    go_ret
    exact ⟨congrArg (fun z => Ending.returned (.int .i64 z)) HT.out.symm, bA (Below.refl _ _) _⟩
  · by_cases hn : n = 0
    · subst hn
      have HT : Hid (tk 2 0 W = 0) := by show _ = _; simp [tk]
      go_enter Tryz.func129, Tryz.ntmps129
      go_wp2
      go_ret
      exact ⟨congrArg (fun z => Ending.returned (.int .i64 z)) HT.out.symm, bA (Below.refl _ _) _⟩
    · have hb : (n == 0) = false := by simpa using hn
      have HT : Hid (tk 2 n W = -1) := by show _ = _; simp [tk, hn]
      clear hn
      go_enter Tryz.func129, Tryz.ntmps129
      go_wp2
      go_ret
      exact ⟨congrArg (fun z => Ending.returned (.int .i64 z)) HT.out.symm, bA (Below.refl _ _) _⟩
  · by_cases ha : 0 ≤ n
    · by_cases hb : n < W
      · have HT : Hid (tk 3 n W = 0) := by show _ = _; simp [tk, ha, hb]
        go_enter Tryz.func129, Tryz.ntmps129
        go_wp2
        go_ret
        exact ⟨congrArg (fun z => Ending.returned (.int .i64 z)) HT.out.symm, bA (Below.refl _ _) _⟩
      · have HT : Hid (tk 3 n W = -1) := by show _ = _; simp [tk, ha, hb]
        go_enter Tryz.func129, Tryz.ntmps129
        go_wp2
        go_ret
        exact ⟨congrArg (fun z => Ending.returned (.int .i64 z)) HT.out.symm, bA (Below.refl _ _) _⟩
    · have HT : Hid (tk 3 n W = -1) := by show _ = _; simp [tk, ha]
      go_enter Tryz.func129, Tryz.ntmps129
      go_wp2
      go_ret
      exact ⟨congrArg (fun z => Ending.returned (.int .i64 z)) HT.out.symm, bA (Below.refl _ _) _⟩
  · by_cases ha : 1 ≤ n
    · by_cases hb : n ≤ 6
      · have HT : Hid (tk 4 n W = 2) := by show _ = _; simp [tk, ha, hb]
        go_enter Tryz.func129, Tryz.ntmps129
        go_wp2
        go_ret
        exact ⟨congrArg (fun z => Ending.returned (.int .i64 z)) HT.out.symm, bA (Below.refl _ _) _⟩
      · have HT : Hid (tk 4 n W = -1) := by show _ = _; simp [tk, ha, hb]
        go_enter Tryz.func129, Tryz.ntmps129
        go_wp2
        go_ret
        exact ⟨congrArg (fun z => Ending.returned (.int .i64 z)) HT.out.symm, bA (Below.refl _ _) _⟩
    · have HT : Hid (tk 4 n W = -1) := by show _ = _; simp [tk, ha]
      go_enter Tryz.func129, Tryz.ntmps129
      go_wp2
      go_ret
      exact ⟨congrArg (fun z => Ending.returned (.int .i64 z)) HT.out.symm, bA (Below.refl _ _) _⟩
  · by_cases hn : n = 0
    · subst hn
      have HT : Hid (tk 5 0 W = 2) := by show _ = _; simp [tk]
      go_enter Tryz.func129, Tryz.ntmps129
      go_wp2
      go_ret
      exact ⟨congrArg (fun z => Ending.returned (.int .i64 z)) HT.out.symm, bA (Below.refl _ _) _⟩
    · have hb : (n == 0) = false := by simpa using hn
      have HT : Hid (tk 5 n W = -1) := by show _ = _; simp [tk, hn]
      clear hn
      go_enter Tryz.func129, Tryz.ntmps129
      go_wp2
      go_ret
      exact ⟨congrArg (fun z => Ending.returned (.int .i64 z)) HT.out.symm, bA (Below.refl _ _) _⟩
  · by_cases hn : n = 0
    · subst hn
      have HT : Hid (tk 6 0 W = 2) := by show _ = _; simp [tk]
      go_enter Tryz.func129, Tryz.ntmps129
      go_wp2
      go_ret
      exact ⟨congrArg (fun z => Ending.returned (.int .i64 z)) HT.out.symm, bA (Below.refl _ _) _⟩
    · have hb : (n == 0) = false := by simpa using hn
      have HT : Hid (tk 6 n W = -1) := by show _ = _; simp [tk, hn]
      clear hn
      go_enter Tryz.func129, Tryz.ntmps129
      go_wp2
      go_ret
      exact ⟨congrArg (fun z => Ending.returned (.int .i64 z)) HT.out.symm, bA (Below.refl _ _) _⟩
  · by_cases hn : n = 0
    · subst hn
      have HT : Hid (tk 7 0 W = 1) := by show _ = _; simp [tk]
      go_enter Tryz.func129, Tryz.ntmps129
      go_wp2
      go_ret
      exact ⟨congrArg (fun z => Ending.returned (.int .i64 z)) HT.out.symm, bA (Below.refl _ _) _⟩
    · have hb : (n == 0) = false := by simpa using hn
      have HT : Hid (tk 7 n W = -1) := by show _ = _; simp [tk, hn]
      clear hn
      go_enter Tryz.func129, Tryz.ntmps129
      go_wp2
      go_ret
      exact ⟨congrArg (fun z => Ending.returned (.int .i64 z)) HT.out.symm, bA (Below.refl _ _) _⟩
  · by_cases hn : n = 0
    · subst hn
      have HT : Hid (tk 8 0 W = 1) := by show _ = _; simp [tk]
      go_enter Tryz.func129, Tryz.ntmps129
      go_wp2
      go_ret
      exact ⟨congrArg (fun z => Ending.returned (.int .i64 z)) HT.out.symm, bA (Below.refl _ _) _⟩
    · have hb : (n == 0) = false := by simpa using hn
      have HT : Hid (tk 8 n W = -1) := by show _ = _; simp [tk, hn]
      clear hn
      go_enter Tryz.func129, Tryz.ntmps129
      go_wp2
      go_ret
      exact ⟨congrArg (fun z => Ending.returned (.int .i64 z)) HT.out.symm, bA (Below.refl _ _) _⟩
  · have b1 : (k == 1) = false := by simpa using h1
    have b2 : (k == 2) = false := by simpa using h2
    have b3 : (k == 3) = false := by simpa using h3
    have b4 : (k == 4) = false := by simpa using h4
    have b5 : (k == 5) = false := by simpa using h5
    have b6 : (k == 6) = false := by simpa using h6
    have b7 : (k == 7) = false := by simpa using h7
    have b8 : (k == 8) = false := by simpa using h8
    have HT : Hid (tk k n W = -1) := by show _ = _; simp [tk, h1, h2, h3, h4, h5, h6, h7, h8]
    go_enter Tryz.func129, Tryz.ntmps129
    go_wp2
    go_ret
    exact ⟨congrArg (fun z => Ending.returned (.int .i64 z)) HT.out.symm, bA (Below.refl _ _) _⟩
set_option maxHeartbeats 2000000 in
theorem opOk_calls (k n W : Int) (w : World) :
    Calls Tryz.prog 135 #[.agg #[.int .i64 k, .int .i64 n], .int .i64 W] w fun e w' => e = .returned (.bool (decide (0 ≤ tk k n W))) ∧ Below w.heap.size w w' := by
  have hk : k = 1 ∨ k = 2 ∨ k = 3 ∨ k = 4 ∨ k = 5 ∨ k = 6 ∨ k = 7 ∨ k = 8 ∨ (k ≠ 1 ∧ k ≠ 2 ∧ k ≠ 3 ∧ k ≠ 4 ∧ k ≠ 5 ∧ k ≠ 6 ∧ k ≠ 7 ∧ k ≠ 8) := by omega
  rcases hk with rfl | rfl | rfl | rfl | rfl | rfl | rfl | rfl | ⟨h1, h2, h3, h4, h5, h6, h7, h8⟩
  · have HT : Hid (tk 1 n W = 0) := by show _ = _; simp [tk]
    go_enter Tryz.func135, Tryz.ntmps135
    go_wp2
    go_ret
    exact ⟨ret_bool (by simp [HT.out]), bA (Below.refl _ _) _⟩
  · by_cases hn : n = 0
    · subst hn
      have HT : Hid (tk 2 0 W = 0) := by show _ = _; simp [tk]
      go_enter Tryz.func135, Tryz.ntmps135
      go_wp2
      go_ret
      exact ⟨ret_bool (by simp [HT.out]), bA (Below.refl _ _) _⟩
    · have hb : (n == 0) = false := by simpa using hn
      have HT : Hid (tk 2 n W = -1) := by show _ = _; simp [tk, hn]
      clear hn
      go_enter Tryz.func135, Tryz.ntmps135
      go_wp2
      go_ret
      exact ⟨ret_bool (by simp [HT.out]), bA (Below.refl _ _) _⟩
  · by_cases ha : 0 ≤ n
    · by_cases hb : n < W
      · have HT : Hid (tk 3 n W = 0) := by show _ = _; simp [tk, ha, hb]
        go_enter Tryz.func135, Tryz.ntmps135
        go_wp2
        go_ret
        exact ⟨ret_bool (by simp [HT.out]), bA (Below.refl _ _) _⟩
      · have HT : Hid (tk 3 n W = -1) := by show _ = _; simp [tk, ha, hb]
        go_enter Tryz.func135, Tryz.ntmps135
        go_wp2
        go_ret
        exact ⟨ret_bool (by simp [HT.out]), bA (Below.refl _ _) _⟩
    · have HT : Hid (tk 3 n W = -1) := by show _ = _; simp [tk, ha]
      go_enter Tryz.func135, Tryz.ntmps135
      go_wp2
      go_ret
      exact ⟨ret_bool (by simp [HT.out]), bA (Below.refl _ _) _⟩
  · by_cases ha : 1 ≤ n
    · by_cases hb : n ≤ 6
      · have HT : Hid (tk 4 n W = 2) := by show _ = _; simp [tk, ha, hb]
        go_enter Tryz.func135, Tryz.ntmps135
        go_wp2
        go_ret
        exact ⟨ret_bool (by simp [HT.out]), bA (Below.refl _ _) _⟩
      · have HT : Hid (tk 4 n W = -1) := by show _ = _; simp [tk, ha, hb]
        go_enter Tryz.func135, Tryz.ntmps135
        go_wp2
        go_ret
        exact ⟨ret_bool (by simp [HT.out]), bA (Below.refl _ _) _⟩
    · have HT : Hid (tk 4 n W = -1) := by show _ = _; simp [tk, ha]
      go_enter Tryz.func135, Tryz.ntmps135
      go_wp2
      go_ret
      exact ⟨ret_bool (by simp [HT.out]), bA (Below.refl _ _) _⟩
  · by_cases hn : n = 0
    · subst hn
      have HT : Hid (tk 5 0 W = 2) := by show _ = _; simp [tk]
      go_enter Tryz.func135, Tryz.ntmps135
      go_wp2
      go_ret
      exact ⟨ret_bool (by simp [HT.out]), bA (Below.refl _ _) _⟩
    · have hb : (n == 0) = false := by simpa using hn
      have HT : Hid (tk 5 n W = -1) := by show _ = _; simp [tk, hn]
      clear hn
      go_enter Tryz.func135, Tryz.ntmps135
      go_wp2
      go_ret
      exact ⟨ret_bool (by simp [HT.out]), bA (Below.refl _ _) _⟩
  · by_cases hn : n = 0
    · subst hn
      have HT : Hid (tk 6 0 W = 2) := by show _ = _; simp [tk]
      go_enter Tryz.func135, Tryz.ntmps135
      go_wp2
      go_ret
      exact ⟨ret_bool (by simp [HT.out]), bA (Below.refl _ _) _⟩
    · have hb : (n == 0) = false := by simpa using hn
      have HT : Hid (tk 6 n W = -1) := by show _ = _; simp [tk, hn]
      clear hn
      go_enter Tryz.func135, Tryz.ntmps135
      go_wp2
      go_ret
      exact ⟨ret_bool (by simp [HT.out]), bA (Below.refl _ _) _⟩
  · by_cases hn : n = 0
    · subst hn
      have HT : Hid (tk 7 0 W = 1) := by show _ = _; simp [tk]
      go_enter Tryz.func135, Tryz.ntmps135
      go_wp2
      go_ret
      exact ⟨ret_bool (by simp [HT.out]), bA (Below.refl _ _) _⟩
    · have hb : (n == 0) = false := by simpa using hn
      have HT : Hid (tk 7 n W = -1) := by show _ = _; simp [tk, hn]
      clear hn
      go_enter Tryz.func135, Tryz.ntmps135
      go_wp2
      go_ret
      exact ⟨ret_bool (by simp [HT.out]), bA (Below.refl _ _) _⟩
  · by_cases hn : n = 0
    · subst hn
      have HT : Hid (tk 8 0 W = 1) := by show _ = _; simp [tk]
      go_enter Tryz.func135, Tryz.ntmps135
      go_wp2
      go_ret
      exact ⟨ret_bool (by simp [HT.out]), bA (Below.refl _ _) _⟩
    · have hb : (n == 0) = false := by simpa using hn
      have HT : Hid (tk 8 n W = -1) := by show _ = _; simp [tk, hn]
      clear hn
      go_enter Tryz.func135, Tryz.ntmps135
      go_wp2
      go_ret
      exact ⟨ret_bool (by simp [HT.out]), bA (Below.refl _ _) _⟩
  · have b1 : (k == 1) = false := by simpa using h1
    have b2 : (k == 2) = false := by simpa using h2
    have b3 : (k == 3) = false := by simpa using h3
    have b4 : (k == 4) = false := by simpa using h4
    have b5 : (k == 5) = false := by simpa using h5
    have b6 : (k == 6) = false := by simpa using h6
    have b7 : (k == 7) = false := by simpa using h7
    have b8 : (k == 8) = false := by simpa using h8
    have HT : Hid (tk k n W = -1) := by show _ = _; simp [tk, h1, h2, h3, h4, h5, h6, h7, h8]
    go_enter Tryz.func135, Tryz.ntmps135
    go_wp2
    go_ret
    exact ⟨ret_bool (by simp [HT.out]), bA (Below.refl _ _) _⟩
end Go.Proofs.YtnchcndcinpalaaGreatDoor
namespace Go.Proofs.YtnchcndcinpalaaGreatDoor
abbrev O2 : Type := Int × Int
def fwd (W : Int) : List O2 → Nat → Option Nat
  | [], h => some h
  | o :: r, h => if tk o.1 o.2 W < 0 then none else if (h : Int) < tk o.1 o.2 W then none else fwd W r (h + 1 - (tk o.1 o.2 W).toNat)
def bwd (W : Int) (ops : List O2) : Nat → Int → Int
  | 0, need => if 0 < need then -1 else 0
  | k + 1, need => if 0 < need then (match ops[k]? with | some o => if tk o.1 o.2 W < 0 then -1 else bwd W ops k (need - 1 + tk o.1 o.2 W) | none => -1) else (k : Int) + 1
theorem tk_range (k n W : Int) : -1 ≤ tk k n W ∧ tk k n W ≤ 2 := by
  unfold tk; repeat (split <;> try omega)
theorem fwd_append (W : Int) : ∀ (a b : List O2) (h : Nat), fwd W (a ++ b) h = (fwd W a h).bind (fwd W b)
  | [], b, h => rfl
  | o :: a, b, h => by
    simp only [List.cons_append, fwd]
    split
    · rfl
    · split
      · rfl
      · exact fwd_append W a b _
theorem fwd_take (W : Int) (ops : List O2) (k : Nat) (hk : k < ops.length) : fwd W (ops.take (k + 1)) 0 = (fwd W (ops.take k) 0).bind (fwd W [ops[k]]) := by
  rw [List.take_succ_eq_append_getElem hk, fwd_append]
theorem bwd_of_fwd (W : Int) (ops : List O2) : ∀ (k : Nat) (h : Nat), k ≤ ops.length → fwd W (ops.take k) 0 = some h → bwd W ops k (h : Int) = 0
  | 0, h, _, hf => by
    simp only [List.take_zero, fwd, Option.some.injEq] at hf
    subst hf
    rfl
  | k + 1, h, hk, hf => by
    rw [fwd_take W ops k (by omega)] at hf
    obtain ⟨h', h1, h2⟩ := Option.bind_eq_some_iff.1 hf
    have ih := bwd_of_fwd W ops k h' (by omega) h1
    simp only [fwd] at h2
    have ho : ops[k]? = some ops[k] := by simp
    generalize ops[k] = o at *
    split at h2
    · cases h2
    · split at h2
      · cases h2
      · rename_i h3 h4
        simp only [Option.some.injEq] at h2
        have hpos : 0 < (h : Int) := by omega
        simp only [bwd, if_pos hpos, ho, if_neg h3]
        rw [show (h : Int) - 1 + tk o.1 o.2 W = (h' : Int) by omega]
        exact ih
theorem fwd_of_bwd (W : Int) (ops : List O2) : ∀ (k : Nat) (m : Int), k ≤ ops.length → 0 ≤ m → bwd W ops k m = 0 → fwd W (ops.take k) 0 = some m.toNat
  | 0, m, _, h0, hb => by
    simp only [bwd] at hb
    split at hb
    · cases hb
    · have : m = 0 := by omega
      subst this
      rfl
  | k + 1, m, hk, h0, hb => by
    rw [fwd_take W ops k (by omega)]
    simp only [bwd] at hb
    have ho : ops[k]? = some ops[k] := by simp
    rw [ho] at hb
    generalize ops[k] = o at *
    split at hb
    · simp only at hb
      split at hb
      · cases hb
      · rename_i h1 h2
        have ih := fwd_of_bwd W ops k _ (by omega) (by omega) hb
        rw [ih]
        simp only [Option.bind_some, fwd, if_neg h2]
        rw [if_neg (by omega)]
        congr 1
        omega
    · omega
theorem fwd_iff_bwd (W : Int) (ops : List O2) : fwd W ops 0 = some 1 ↔ bwd W ops ops.length 1 = 0 := by
  constructor
  · intro h
    exact bwd_of_fwd W ops ops.length 1 (Nat.le_refl _) (by rw [List.take_length]; exact h)
  · intro h
    have := fwd_of_bwd W ops ops.length 1 (Nat.le_refl _) (by omega) h
    rw [List.take_length] at this
    exact this
def exOk (W : Int) (ops : List O2) : Bool := decide (0 ≤ W ∧ ops.length ≤ 5000 ∧ fwd W ops 0 = some 1)
theorem exOk_len {W : Int} {ops : List O2} (h : fwd W ops 0 = some 1) : 1 ≤ ops.length := by
  cases ops with
  | nil => simp [fwd] at h
  | cons o r => simp
end Go.Proofs.YtnchcndcinpalaaGreatDoor
namespace Go.Proofs.YtnchcndcinpalaaGreatDoor
open Go Go.RowKit
def OpsAt (w : World) (g off : Nat) (xs : List O2) : Prop := ∀ i x, xs[i]? = some x → w.cell? ⟨g, off + i * 2, none⟩ = some (.int .i64 x.1) ∧ w.cell? ⟨g, off + i * 2 + 1, none⟩ = some (.int .i64 x.2)
def IsOps (w : World) (v : Value) (xs : List O2) : Prop :=
  (xs = [] ∧ ∃ a cap, v = .slice a 0 cap) ∨ ∃ g off cap, v = .slice (some ⟨g, off, none⟩) xs.length cap ∧ xs.length ≤ cap ∧ g < w.heap.size ∧ OpsAt w g off xs
theorem OpsAt.of {w w1 : World} {g off : Nat} {xs : List O2} (h : OpsAt w g off xs) (hg : g < w.heap.size) (hb : Below w.heap.size w w1) : OpsAt w1 g off xs := fun i x hx =>
  ⟨(hb.cell (p := ⟨g, off + i * 2, none⟩) hg).trans (h i x hx).1, (hb.cell (p := ⟨g, off + i * 2 + 1, none⟩) hg).trans (h i x hx).2⟩
theorem IsOps.of {w w1 : World} {v : Value} {xs : List O2} (h : IsOps w v xs) (hb : Below w.heap.size w w1) : IsOps w1 v xs := by
  rcases h with h | ⟨g, off, cap, h1, h2, h3, h4⟩
  · exact Or.inl h
  · exact Or.inr ⟨g, off, cap, h1, h2, Nat.lt_of_lt_of_le h3 hb.size, h4.of h3 hb⟩
theorem OpsAt.tail {w : World} {g off : Nat} {x : O2} {xs : List O2} (h : OpsAt w g off (x :: xs)) : OpsAt w g (off + 2) xs := fun i y hy => by
  have := h (i + 1) y (by simpa using hy)
  rw [show off + 2 + i * 2 = off + (i + 1) * 2 from by omega]
  exact this
theorem OpsAt.at {w : World} {g off : Nat} {xs : List O2} (h : OpsAt w g off xs) (i : Nat) (hi : i < xs.length) : w.cell? ⟨g, off + i * 2, none⟩ = some (.int .i64 xs[i].1) ∧ w.cell? ⟨g, off + i * 2 + 1, none⟩ = some (.int .i64 xs[i].2) :=
  h i xs[i] (by simp [hi])
structure OwnOps (w : World) (g n : Nat) (xs : List O2) : Prop where
  size : g < w.heap.size
  frz : ∀ o, w.frozen? ⟨g, o, none⟩ = false
  all : ∀ o, o < n * 2 → ∃ v, w.cell? ⟨g, o, none⟩ = some v
  held : OpsAt w g 0 xs
theorem OwnOps.of {w w1 : World} {g n : Nat} {xs : List O2} (h : OwnOps w g n xs) (hb : Below w.heap.size w w1) : OwnOps w1 g n xs :=
  ⟨Nat.lt_of_lt_of_le h.size hb.size, fun o => (hb.frozen (p := ⟨g, o, none⟩) h.size).trans (h.frz o), fun o ho => by
    obtain ⟨v, hv⟩ := h.all o ho
    exact ⟨v, (hb.cell (p := ⟨g, o, none⟩) h.size).trans hv⟩, h.held.of h.size hb⟩
theorem frozen_setCellO (w : World) (p a : Addr) (v : Value) : (w.setCell p v).frozen? a = w.frozen? a := by simp [go_sem]
theorem setCell_thereO {w : World} {g o o' : Nat} {v u : Value} (h : w.cell? ⟨g, o, none⟩ = some u) : ∃ z, (w.setCell ⟨g, o', none⟩ v).cell? ⟨g, o, none⟩ = some z := by
  by_cases e : o' = o
  · subst e; exact ⟨v, World.cell?_setCell_same _ _ _ h⟩
  · exact ⟨u, by rw [World.cell?_setCell_other _ _ _ _ (by intro he; injection he; contradiction)]; exact h⟩
theorem setCell_otherO {w : World} {g o o' : Nat} {v : Value} (h : o' ≠ o) : (w.setCell ⟨g, o', none⟩ v).cell? ⟨g, o, none⟩ = w.cell? ⟨g, o, none⟩ :=
  World.cell?_setCell_other _ _ _ _ (by intro he; injection he; contradiction)
theorem OwnOps.push {w : World} {g n : Nat} {xs : List O2} (h : OwnOps w g n xs) (hn : xs.length < n) (b : Int) (k : Int) :
    OwnOps ((w.setCell ⟨g, xs.length * 2, none⟩ (.int .i64 b)).setCell ⟨g, xs.length * 2 + 1, none⟩ (.int .i64 k)) g n (xs ++ [(b, k)]) := by
  refine ⟨by simpa using h.size, fun o => by rw [frozen_setCellO, frozen_setCellO]; exact h.frz o, fun o ho => ?_, fun i x hx => ?_⟩
  · obtain ⟨v, hv⟩ := h.all o ho
    obtain ⟨z, hz⟩ := setCell_thereO (o' := xs.length * 2) (v := .int .i64 b) hv
    exact setCell_thereO hz
  · simp only [Nat.zero_add]
    by_cases hi : i < xs.length
    · rw [List.getElem?_append_left hi] at hx
      have := h.held i x hx
      simp only [Nat.zero_add] at this
      refine ⟨?_, ?_⟩
      · rw [setCell_otherO (by omega), setCell_otherO (by omega)]; exact this.1
      · rw [setCell_otherO (by omega), setCell_otherO (by omega)]; exact this.2
    · obtain rfl : i = xs.length := by
        have := (List.getElem?_eq_some_iff.1 hx).1
        simp at this; omega
      simp at hx
      subst hx
      obtain ⟨v0, h0⟩ := h.all (xs.length * 2) (by omega)
      obtain ⟨v1, h1⟩ := h.all (xs.length * 2 + 1) (by omega)
      obtain ⟨z, hz⟩ := setCell_thereO (o' := xs.length * 2) (v := .int .i64 b) h1
      refine ⟨?_, World.cell?_setCell_same _ _ _ hz⟩
      rw [setCell_otherO (by omega)]
      exact World.cell?_setCell_same _ _ _ h0
theorem OwnOps.made (w : World) (n : Nat) (C : Array Value) (t : TypeId) (hC : C.size = n * 2) : OwnOps (w.alloc (.cells C t)) w.heap.size n [] :=
  ⟨by simp, fun o => by simp [go_sem], fun o ho => ⟨C[o]'(by omega), by rw [World.cell?_alloc_at C t _ o rfl]; simp⟩, fun i x hx => by simp at hx⟩
theorem take_snocO {α : Type} (xs : List α) (k : Nat) (h : k < xs.length) : xs.take (k + 1) = xs.take k ++ [xs[k]] := by
  rw [List.take_succ_eq_append_getElem h]
theorem OwnOps.next {w : World} {g n k : Nat} {xs : List O2} (h : OwnOps w g n (xs.take k)) (hk : k < xs.length) (hn : k < n) :
    OwnOps ((w.setCell ⟨g, k * 2, none⟩ (.int .i64 xs[k].1)).setCell ⟨g, k * 2 + 1, none⟩ (.int .i64 xs[k].2)) g n (xs.take (k + 1)) := by
  have hl : (xs.take k).length = k := by simp; omega
  have := h.push (by omega) xs[k].1 xs[k].2
  rw [hl] at this
  rw [take_snocO xs k hk]
  exact this
end Go.Proofs.YtnchcndcinpalaaGreatDoor
