/-
  THE STACK, plain mathematics.
-/
import Derived.Test.YtafmlbojmmdcdaaDoorOpVal2
import Derived.Test.YtafmlbojmmdcdaaDoorExOk
namespace Go.Proofs.YtafmlbojmmdcdaaDoor
/-- one Op on the stack (the top is the last) -/
def stepS (row : List V2) (o : O2) (bs : List V2) : List V2 :=
  bs.take (bs.length - (tk o.1 o.2 row.length).toNat) ++ [opv o.1 o.2 (bs.getD (bs.length - (tk o.1 o.2 row.length).toNat) (false, 0)) (bs.getD (bs.length - (tk o.1 o.2 row.length).toNat + 1) (false, 0)) row]
def runS (row : List V2) : List O2 → List V2 → List V2
  | [], bs => bs
  | o :: r, bs => runS row r (stepS row o bs)
/-- the stack behind the first k Ops -/
def stk (row : List V2) (ops : List O2) (k : Nat) : List V2 := runS row (ops.take k) []

theorem runS_append (row : List V2) : ∀ (a b : List O2) (bs : List V2), runS row (a ++ b) bs = runS row b (runS row a bs)
  | [], _, _ => rfl
  | _ :: a, b, _ => runS_append row a b _
theorem stk_succ (row : List V2) (ops : List O2) (k : Nat) (hk : k < ops.length) : stk row ops (k + 1) = stepS row ops[k] (stk row ops k) := by
  unfold stk
  rw [List.take_succ_eq_append_getElem hk, runS_append]
  rfl
theorem stepS_length (row : List V2) (o : O2) (bs : List V2) : (stepS row o bs).length = bs.length - (tk o.1 o.2 row.length).toNat + 1 := by
  simp [stepS]
/-- the stack's height is what fwd reckons -/
theorem stk_length (row : List V2) (ops : List O2) : ∀ (k h : Nat), k ≤ ops.length → fwd row.length (ops.take k) 0 = some h → (stk row ops k).length = h
  | 0, h, _, hf => by
    simp [fwd] at hf
    subst hf
    simp [stk, runS]
  | k + 1, h, hk, hf => by
    rw [fwd_take _ ops k (by omega)] at hf
    obtain ⟨h', h1, h2⟩ := Option.bind_eq_some_iff.1 hf
    have ih := stk_length row ops k h' (by omega) h1
    rw [stk_succ row ops k (by omega), stepS_length, ih]
    simp only [fwd] at h2
    split at h2
    · cases h2
    · split at h2
      · cases h2
      · simp only [Option.some.injEq] at h2
        omega
/-- a valid expression: each prefix is -/
theorem fwd_prefix (W : Int) (ops : List O2) {r : Nat} (h : fwd W ops 0 = some r) (k : Nat) : ∃ m, fwd W (ops.take k) 0 = some m ∧ fwd W (ops.drop k) m = some r := by
  have e : fwd W (ops.take k ++ ops.drop k) 0 = some r := by rw [List.take_append_drop]; exact h
  rw [fwd_append] at e
  exact Option.bind_eq_some_iff.1 e
/-- at each Op: it is valid and takes no more than there is -/
theorem fwd_at (W : Int) (ops : List O2) {r : Nat} (h : fwd W ops 0 = some r) (k : Nat) (hk : k < ops.length) : ∃ m, fwd W (ops.take k) 0 = some m ∧ ¬ tk ops[k].1 ops[k].2 W < 0 ∧ tk ops[k].1 ops[k].2 W ≤ m := by
  obtain ⟨m, h1, h2⟩ := fwd_prefix W ops h k
  refine ⟨m, h1, ?_⟩
  rw [List.drop_eq_getElem_cons hk] at h2
  simp only [fwd] at h2
  split at h2
  · cases h2
  · split at h2
    · cases h2
    · exact ⟨by assumption, by omega⟩
theorem fwd_le (W : Int) : ∀ (l : List O2) (h m : Nat), fwd W l h = some m → m ≤ h + l.length
  | [], h, m, hf => by simp [fwd] at hf; omega
  | o :: l, h, m, hf => by
    simp only [fwd] at hf
    split at hf
    · cases hf
    · split at hf
      · cases hf
      · have := fwd_le W l _ m hf
        simp only [List.length_cons]
        omega
/-- the cells of a list of Vals -/
def flatV (xs : List V2) : List Value := xs.flatMap fun x => [.bool x.1, .int .i64 x.2]
theorem flatV_length : ∀ (xs : List V2), (flatV xs).length = xs.length * 2
  | [] => rfl
  | x :: xs => by
    have := flatV_length xs
    simp only [flatV, List.flatMap_cons, List.length_append, List.length_cons, List.length_nil] at this ⊢
    omega
theorem flatV_append (a b : List V2) : flatV (a ++ b) = flatV a ++ flatV b := by simp [flatV]
theorem flatV_take : ∀ (xs : List V2) (k : Nat), flatV (xs.take k) = (flatV xs).take (k * 2)
  | [], k => by simp [flatV]
  | x :: xs, 0 => by simp [flatV]
  | x :: xs, k + 1 => by
    have := flatV_take xs k
    simp only [flatV, List.take_succ_cons, List.flatMap_cons] at this ⊢
    rw [this, show (k + 1) * 2 = k * 2 + 2 from by omega]
    rfl
theorem flatV_at : ∀ (xs : List V2) (i : Nat) (x : V2), xs[i]? = some x → (flatV xs)[i * 2]? = some (.bool x.1) ∧ (flatV xs)[i * 2 + 1]? = some (.int .i64 x.2)
  | [], i, x, h => by simp at h
  | y :: xs, 0, x, h => by
    simp at h
    subst h
    exact ⟨rfl, rfl⟩
  | y :: xs, i + 1, x, h => by
    have := flatV_at xs i x (by simpa using h)
    simp only [flatV, List.flatMap_cons] at this ⊢
    rw [show (i + 1) * 2 = i * 2 + 2 from by omega, show i * 2 + 2 + 1 = i * 2 + 1 + 2 from by omega]
    exact this
end Go.Proofs.YtafmlbojmmdcdaaDoor
