/-
  THE MERGE SORT, plain mathematics.
-/
import Derived.Test.YtafmlbojmmdcdaaRowCmpI
namespace Go.Proofs.Ytafmlbojmmdcdaa
section
variable {α : Type} (key : α → List V2)
def mrgF : Nat → List α → List α → List α
  | 0, a, b => a ++ b
  | _ + 1, [], b => b
  | _ + 1, x :: a, [] => x :: a
  | n + 1, x :: a, y :: b => if rcmp (key x) (key y) ≤ 0 then x :: mrgF n a (y :: b) else y :: mrgF n (x :: a) b
def msF : Nat → List α → List α
  | 0, l => l
  | n + 1, l => if l.length < 2 then l else mrgF key l.length (msF n (l.take (l.length / 2))) (msF n (l.drop (l.length / 2)))

theorem mrgF_nil_left (n : Nat) (b : List α) : mrgF key n [] b = b := by cases n <;> simp [mrgF]
theorem mrgF_nil_right (n : Nat) (a : List α) : mrgF key n a [] = a := by cases n <;> cases a <;> simp [mrgF]
theorem mrgF_length : ∀ (n : Nat) (a b : List α), (mrgF key n a b).length = a.length + b.length
  | 0, a, b => by simp [mrgF]
  | _ + 1, [], b => by simp [mrgF]
  | _ + 1, x :: a, [] => by simp [mrgF]
  | n + 1, x :: a, y :: b => by
    simp only [mrgF]
    split
    · simp only [List.length_cons, mrgF_length n a (y :: b)]; omega
    · simp only [List.length_cons, mrgF_length n (x :: a) b]; omega
theorem msF_length : ∀ (n : Nat) (l : List α), (msF key n l).length = l.length
  | 0, l => rfl
  | n + 1, l => by
    simp only [msF]
    split
    · rfl
    · rw [mrgF_length, msF_length n, msF_length n]; simp; omega
theorem mrgF_perm : ∀ (n : Nat) (a b : List α), List.Perm (mrgF key n a b) (a ++ b)
  | 0, a, b => by simp [mrgF]
  | _ + 1, [], b => by simp [mrgF]
  | _ + 1, x :: a, [] => by simp [mrgF]
  | n + 1, x :: a, y :: b => by
    simp only [mrgF]
    split
    · exact (mrgF_perm n a (y :: b)).cons x
    · refine ((mrgF_perm n (x :: a) b).cons y).trans ?_
      exact (List.perm_middle (a := y) (l₁ := x :: a) (l₂ := b)).symm
theorem msF_perm : ∀ (n : Nat) (l : List α), List.Perm (msF key n l) l
  | 0, l => .refl _
  | n + 1, l => by
    simp only [msF]
    split
    · exact .refl _
    · refine (mrgF_perm key _ _ _).trans ?_
      refine ((msF_perm n (l.take (l.length / 2))).append (msF_perm n (l.drop (l.length / 2)))).trans ?_
      rw [List.take_append_drop]
end
section
variable {α β : Type} (key : α → List V2) (key' : β → List V2) (f : α → β)
theorem mrgF_map (hk : ∀ x, key' (f x) = key x) : ∀ (n : Nat) (a b : List α), (mrgF key n a b).map f = mrgF key' n (a.map f) (b.map f)
  | 0, a, b => by simp [mrgF]
  | _ + 1, [], b => by simp [mrgF]
  | _ + 1, x :: a, [] => by simp [mrgF]
  | n + 1, x :: a, y :: b => by
    simp only [mrgF, List.map_cons, hk]
    split
    · simp only [List.map_cons, mrgF_map hk n a (y :: b)]
    · simp only [List.map_cons, mrgF_map hk n (x :: a) b]
theorem msF_map (hk : ∀ x, key' (f x) = key x) : ∀ (n : Nat) (l : List α), (msF key n l).map f = msF key' n (l.map f)
  | 0, l => rfl
  | n + 1, l => by
    simp only [msF, List.length_map]
    split
    · rfl
    · rw [mrgF_map key key' f hk, msF_map hk n, msF_map hk n, List.map_take, List.map_drop]
end
end Go.Proofs.Ytafmlbojmmdcdaa
