import Derived.Test.YtkdeilhkobcglaaDoorTakes
/-
  EXPRESSIONS, the plain mathematics: the stack's height from the front, the need from the back. Of no program.
-/
namespace Go.Proofs.YtkdeilhkobcglaaDoor
abbrev O2 : Type := Int × Int
/-- the stack's height behind the Ops, from height h on; none where an Op is not valid or takes too much -/
def fwd (W : Int) : List O2 → Nat → Option Nat
  | [], h => some h
  | o :: r, h => if tk o.1 o.2 W < 0 then none else if (h : Int) < tk o.1 o.2 W then none else fwd W r (h + 1 - (tk o.1 o.2 W).toNat)
/-- from the back: k Ops are left, 'need' values are wanted; the place where the expression begins, -1 where there is none -/
def bwd (W : Int) (ops : List O2) : Nat → Int → Int
  | 0, need => if 0 < need then -1 else 0
  | k + 1, need => if 0 < need then (match ops[k]? with | some o => if tk o.1 o.2 W < 0 then -1 else bwd W ops k (need - 1 + tk o.1 o.2 W) | none => -1) else (k : Int) + 1

theorem tk_range (k n W : Int) : -1 ≤ tk k n W ∧ tk k n W ≤ 2 := by
  unfold tk; repeat (split <;> try omega)

theorem fwd_append (W : Int) : ∀ (a b : List O2) (h : Nat), fwd W (a ++ b) h = (fwd W a h).bind (fwd W b)
  | [], b, h => rfl
  | o :: a, b, h => by
    simp only [List.cons_append, fwd]
    split
    · rfl
    · split
      · rfl
      · exact fwd_append W a b _
theorem fwd_take (W : Int) (ops : List O2) (k : Nat) (hk : k < ops.length) : fwd W (ops.take (k + 1)) 0 = (fwd W (ops.take k) 0).bind (fwd W [ops[k]]) := by
  rw [List.take_succ_eq_append_getElem hk, fwd_append]
theorem bwd_of_fwd (W : Int) (ops : List O2) : ∀ (k : Nat) (h : Nat), k ≤ ops.length → fwd W (ops.take k) 0 = some h → bwd W ops k (h : Int) = 0
  | 0, h, _, hf => by
    simp only [List.take_zero, fwd, Option.some.injEq] at hf
    subst hf
    rfl
  | k + 1, h, hk, hf => by
    rw [fwd_take W ops k (by omega)] at hf
    obtain ⟨h', h1, h2⟩ := Option.bind_eq_some_iff.1 hf
    have ih := bwd_of_fwd W ops k h' (by omega) h1
    simp only [fwd] at h2
    have ho : ops[k]? = some ops[k] := by simp
    generalize ops[k] = o at *
    split at h2
    · cases h2
    · split at h2
      · cases h2
      · rename_i h3 h4
        simp only [Option.some.injEq] at h2
        have hpos : 0 < (h : Int) := by omega
        simp only [bwd, if_pos hpos, ho, if_neg h3]
        rw [show (h : Int) - 1 + tk o.1 o.2 W = (h' : Int) by omega]
        exact ih
theorem fwd_of_bwd (W : Int) (ops : List O2) : ∀ (k : Nat) (m : Int), k ≤ ops.length → 0 ≤ m → bwd W ops k m = 0 → fwd W (ops.take k) 0 = some m.toNat
  | 0, m, _, h0, hb => by
    simp only [bwd] at hb
    split at hb
    · cases hb
    · have : m = 0 := by omega
      subst this
      rfl
  | k + 1, m, hk, h0, hb => by
    rw [fwd_take W ops k (by omega)]
    simp only [bwd] at hb
    have ho : ops[k]? = some ops[k] := by simp
    rw [ho] at hb
    generalize ops[k] = o at *
    split at hb
    · simp only at hb
      split at hb
      · cases hb
      · rename_i h1 h2
        have ih := fwd_of_bwd W ops k _ (by omega) (by omega) hb
        rw [ih]
        simp only [Option.bind_some, fwd, if_neg h2]
        rw [if_neg (by omega)]
        congr 1
        omega
    · omega
theorem fwd_iff_bwd (W : Int) (ops : List O2) : fwd W ops 0 = some 1 ↔ bwd W ops ops.length 1 = 0 := by
  constructor
  · intro h
    exact bwd_of_fwd W ops ops.length 1 (Nat.le_refl _) (by rw [List.take_length]; exact h)
  · intro h
    have := fwd_of_bwd W ops ops.length 1 (Nat.le_refl _) (by omega) h
    rw [List.take_length] at this
    exact this
/-- is an expression valid for rows of width W? -/
def exOk (W : Int) (ops : List O2) : Bool := decide (0 ≤ W ∧ ops.length ≤ 5000 ∧ fwd W ops 0 = some 1)
theorem exOk_len {W : Int} {ops : List O2} (h : fwd W ops 0 = some 1) : 1 ≤ ops.length := by
  cases ops with
  | nil => simp [fwd] at h
  | cons o r => simp
end Go.Proofs.YtkdeilhkobcglaaDoor
