import Derived.Test.YtkdeilhkobcglaaDoorGSpec1
import Derived.Test.YtkdeilhkobcglaaDoorGPM
import Derived.Test.YtkdeilhkobcglaaDoorOwnIntsA
import Derived.Test.YtkdeilhkobcglaaDoorTakes2
import Derived.Deep.AppendLies
import Derived.Deep.DeepCutAuto
/-
  THE BOUNDS ON A PLAN's ROWS, as functions of the lists: siz (the rows of one run of a node), wrk (the greatest bound below and at a node that is run a number of times).
-/
namespace Go.Proofs.YtkdeilhkobcglaaDoor
open Go Go.RowKit

def capW (n : Int) : Int := if 2000 < n then 2000 + 1 else n
theorem capW_range {n : Int} (h : 0 ≤ n) : 0 ≤ capW n ∧ capW n ≤ 2000 + 1 := by unfold capW; split <;> omega
def rowsAt (ts : List Tb) (t : Int) : Int := ((ts[t.toNat]?.map (fun t => t.Rows.length)).getD 0 : Nat)
def siz (ts : List Tb) (ps : List Pn) (i : Nat) : Int :=
  match ps[i]? with
  | none => 0
  | some p =>
    let l := if _h : p.L.toNat < i then siz ts ps p.L.toNat else 0
    let r := if _h : p.R.toNat < i then siz ts ps p.R.toNat else 0
    if p.K = 1 then 1 else if p.K = 2 then capW (rowsAt ts p.T) else if p.K = 5 ∨ p.K = 6 then capW (l * r) else if p.K = 10 then capW (l + r) else l
  termination_by i
theorem siz_range (ts : List Tb) (ps : List Pn) : ∀ (n i : Nat), i < n → 0 ≤ siz ts ps i ∧ siz ts ps i ≤ 2000 + 1 := by
  intro n
  induction n with
  | zero => intro i hi; omega
  | succ n ih =>
    intro i hi
    rw [siz]
    split
    · omega
    · rename_i p _
      have hl : ∀ q : Nat, 0 ≤ (if _h : q < i then siz ts ps q else 0) ∧ (if _h : q < i then siz ts ps q else 0) ≤ 2000 + 1 := fun q => by
        split
        · exact ih q (by omega)
        · omega
      have h1 := hl p.L.toNat
      have h2 := hl p.R.toNat
      dsimp only
      generalize (if _h : p.L.toNat < i then siz ts ps p.L.toNat else 0) = l at *
      generalize (if _h : p.R.toNat < i then siz ts ps p.R.toNat else 0) = r at *
      split
      · omega
      split
      · exact capW_range (by unfold rowsAt; omega)
      split
      · exact capW_range (Int.mul_nonneg h1.1 h2.1)
      split
      · exact capW_range (by omega)
      · exact h1
/-- how often the right side of a node is run -/
def callsR (ts : List Tb) (ps : List Pn) (p : Pn) (calls : Int) : Int := if p.K = 6 ∨ p.K = 7 ∨ p.K = 8 then capW (calls * siz ts ps p.L.toNat) else calls
theorem callsR_range (ts : List Tb) (ps : List Pn) (p : Pn) {calls : Int} (h0 : 0 ≤ calls) (h1 : calls ≤ 2000 + 1) : 0 ≤ callsR ts ps p calls ∧ callsR ts ps p calls ≤ 2000 + 1 := by
  unfold callsR
  split
  · exact capW_range (Int.mul_nonneg h0 (siz_range ts ps _ _ (Nat.lt_succ_self _)).1)
  · exact ⟨h0, h1⟩
def wrk (ts : List Tb) (ps : List Pn) (i : Nat) (calls : Int) : Int :=
  match ps[i]? with
  | none => 0
  | some p =>
    let m := capW (calls * siz ts ps i)
    let l := if 0 < arity p.K then (if _h : p.L.toNat < i then wrk ts ps p.L.toNat calls else 0) else 0
    let r := if 1 < arity p.K then (if _h : p.R.toNat < i then wrk ts ps p.R.toNat (callsR ts ps p calls) else 0) else 0
    max (max m l) r
  termination_by i
theorem wrk_range (ts : List Tb) (ps : List Pn) : ∀ (n i : Nat), i < n → ∀ (calls : Int), 0 ≤ calls → calls ≤ 2000 + 1 → 0 ≤ wrk ts ps i calls ∧ wrk ts ps i calls ≤ 2000 + 1 := by
  intro n
  induction n with
  | zero => intro i hi; omega
  | succ n ih =>
    intro i hi calls h0 h1
    rw [wrk]
    split
    · omega
    · rename_i p _
      have hm := capW_range (n := calls * siz ts ps i) (Int.mul_nonneg h0 (siz_range ts ps _ _ (Nat.lt_succ_self i)).1)
      have hc := callsR_range ts ps p h0 h1
      have hl : ∀ (a : Int) (q : Nat) (c : Int), 0 ≤ c → c ≤ 2000 + 1 → 0 ≤ (if a < arity p.K then (if _h : q < i then wrk ts ps q c else 0) else 0) ∧ (if a < arity p.K then (if _h : q < i then wrk ts ps q c else 0) else 0) ≤ 2000 + 1 := fun a q c c0 c1 => by
        split
        · split
          · exact ih q (by omega) c c0 c1
          · omega
        · omega
      have e1 := hl 0 p.L.toNat calls h0 h1
      have e2 := hl 1 p.R.toNat (callsR ts ps p calls) hc.1 hc.2
      dsimp only
      omega
end Go.Proofs.YtkdeilhkobcglaaDoor
/-
  THE BOUNDS ON A PLAN's ROWS, as the specification finds them: the list of the sizes.
-/
namespace Go.Proofs.YtkdeilhkobcglaaDoor
open Go Go.RowKit

theorem l3Cap_calls (n : Int) (w : World) : Calls Tryd.prog 58 #[.int .i64 n] w fun e w' => e = .returned (.int .i64 (capW n)) ∧ w' = w := by
  by_cases h : 2000 < n
  · have HE : Hid (capW n = 2001) := by show _ = _; unfold capW; rw [if_pos h]; rfl
    generalize capW n = z at *
    go_enter Tryd.func58, Tryd.ntmps58
    go_wp2
    go_ret
    exact ⟨congrArg (fun z => Ending.returned (.int .i64 z)) HE.out.symm, rfl⟩
  · have HE : Hid (capW n = n) := by show _ = _; unfold capW; rw [if_neg h]
    generalize capW n = z at *
    go_enter Tryd.func58, Tryd.ntmps58
    go_wp2
    go_ret
    exact ⟨congrArg (fun z => Ending.returned (.int .i64 z)) HE.out.symm, rfl⟩

/-- the sizes of the first k nodes -/
def sizTo (ts : List Tb) (ps : List Pn) (k : Nat) : List Int := (List.range k).map (siz ts ps)
theorem sizTo_length (ts : List Tb) (ps : List Pn) (k : Nat) : (sizTo ts ps k).length = k := by simp [sizTo]
theorem sizTo_succ (ts : List Tb) (ps : List Pn) (k : Nat) : sizTo ts ps (k + 1) = sizTo ts ps k ++ [siz ts ps k] := by simp [sizTo, List.range_succ]
theorem sizTo_at (ts : List Tb) (ps : List Pn) {k j : Nat} (hj : j < k) : (sizTo ts ps k)[j]? = some (siz ts ps j) := by simp [sizTo, hj]
theorem siz_at (ts : List Tb) {ps : List Pn} {i : Nat} (hi : i < ps.length) (k1 : 1 ≤ (ps[i]).K) (k2 : (ps[i]).K ≤ 10) (hl : 0 < arity (ps[i]).K → (ps[i]).L.toNat < i) (hr : 1 < arity (ps[i]).K → (ps[i]).R.toNat < i) :
    siz ts ps i = (if (ps[i]).K = 1 then 1 else if (ps[i]).K = 2 then capW (rowsAt ts (ps[i]).T) else if (ps[i]).K = 5 ∨ (ps[i]).K = 6 then capW (siz ts ps (ps[i]).L.toNat * siz ts ps (ps[i]).R.toNat) else if (ps[i]).K = 10 then capW (siz ts ps (ps[i]).L.toNat + siz ts ps (ps[i]).R.toNat) else siz ts ps (ps[i]).L.toNat) := by
  conv => lhs; rw [siz]
  rw [List.getElem?_eq_getElem hi]
  dsimp only
  obtain ⟨a1, a2, a3⟩ := arity_k (k := (ps[i]).K)
  split
  · rfl
  split
  · rfl
  split
  · have := a1 (by omega)
    rw [dif_pos (hl (by omega)), dif_pos (hr (by omega))]
  split
  · have := a1 (by omega)
    rw [dif_pos (hl (by omega)), dif_pos (hr (by omega))]
  have ha : 0 < arity (ps[i]).K := by
    by_cases h : (ps[i]).K = 3 ∨ (ps[i]).K = 4 ∨ (ps[i]).K = 9
    · have := a2 h; omega
    · have := a1 (by omega); omega
  rw [dif_pos (hl ha)]
/-- append of one int -/
theorem OwnI.push {w2 : World} {B g2 cap2 : Nat} {xs : List Int} {n : Nat} {z : Int} (hl : xs.length = n) (h : w2.ownsRow B 3 1 (.slice (some ⟨g2, 0, none⟩) (n + 1) cap2) (n + 1) (vInts xs ++ [.int .i64 z])) : OwnI w2 B g2 cap2 (xs ++ [z]) := by
  unfold OwnI
  rw [vInts_append, show (xs ++ [z]).length = n + 1 by simp [hl]]
  exact h
end Go.Proofs.YtkdeilhkobcglaaDoor
