/-
  copy OF ELEMENTS OF TWO CELLS into a local array that was laid last, of no program.
-/
import Derived.Test.YtafmlbojmmdcdaaDoorRunMath
import Derived.Laws.CopyRow
import Derived.Deep.WholeRow
namespace Go.Proofs.YtafmlbojmmdcdaaDoor
open Go Go.RowKit

theorem run_copy2 {P : Program} (w : World) (dT sT ty elem : TypeId) (g o dLen dCap : Nat) (a : Addr) (sLen sCap : Nat) (cur : Array Value) (t : TypeId) (cs : List Value)
    (hu : P.underlying dT = some (.slice elem)) (hs : (P.info? elem).map (·.size) = some 2)
    (hg : w.heap[g]? = some (.cells cur t (0, 0))) (hn : cs.length = Nat.min sLen dLen * 2)
    (hsrc : ∀ j v, cs[j]? = some v → w.cell? (a.add j) = some v) (hfit : o + cs.length ≤ cur.size) (h1 : ∀ v ∈ cs, v.oneCell' = true) :
    (Builtin.copy_ #[dT, sT] ty #[.slice (some ⟨g, o, none⟩) dLen dCap, .slice (some a) sLen sCap]).run P w =
      .ok (goInt (Nat.min sLen dLen)) (w.setRow g (cur.toList.take o ++ cs ++ cur.toList.drop (o + cs.length)).toArray) := by
  have hl := run_loadCells_list (P := P) w a cs hsrc
  have hst := run_storeCells_at P g o t cs 0 cur w hg (by simpa using hfit) h1
  cases hq : P.info? elem with
  | none => simp [hq] at hs
  | some i =>
    have hi : i.size = 2 := by simpa [hq] using hs
    simp [Builtin.copy_, run_underlying hu, Builtin.lenOf, Builtin.firstCells, sizeOf, typeInfo, hq, hi, ← hn, hl, hst]

theorem setRow_last (Y : World) (c c' : Array Value) (t : TypeId) : (Y.alloc (.cells c t)).drew.setRow Y.heap.size c' = (Y.alloc (.cells c' t)).drew := by
  show ((Y.alloc (.cells c t)).setRow Y.heap.size c').drew = _
  rw [World.setRow_alloc_new]

/-- the local array of two Vals, zero, takes what lies on the stack -/
theorem copy_args (ty : TypeId) (Y : World) (gs os c2 : Nat) (xs : List V2) (ht : xs.length ≤ 2) (hsrc : RowAt Y gs os xs) (hgs : gs < Y.heap.size) :
    (Builtin.copy_ #[32, 32] ty #[.slice (some ⟨Y.heap.size, 0, none⟩) 2 2, .slice (some ⟨gs, os, none⟩) xs.length c2]).run Tryd.prog (Y.alloc (.cells #[.bool false, .int .i64 0, .bool false, .int .i64 0] 73)).drew =
      .ok (goInt xs.length) (Y.alloc (.cells #[.bool (xs.getD 0 (false, 0)).1, .int .i64 (xs.getD 0 (false, 0)).2, .bool (xs.getD 1 (false, 0)).1, .int .i64 (xs.getD 1 (false, 0)).2] 73)).drew := by
  have hcell : ∀ o, (Y.alloc (.cells #[.bool false, .int .i64 0, .bool false, .int .i64 0] 73)).drew.cell? ⟨gs, o, none⟩ = Y.cell? ⟨gs, o, none⟩ := fun o => World.cell?_alloc_past _ gs o hgs
  have hsrc' : ∀ j v, (flatV xs)[j]? = some v → (Y.alloc (.cells #[.bool false, .int .i64 0, .bool false, .int .i64 0] 73)).drew.cell? ((⟨gs, os, none⟩ : Addr).add j) = some v := by
    intro j v hv
    rw [Go.WideShapes.add_plain, hcell]
    have hj := (List.getElem?_eq_some_iff.1 hv).1
    rw [flatV_length] at hj
    have hi : j / 2 < xs.length := by omega
    obtain ⟨e0, e1⟩ := flatV_at xs (j / 2) xs[j / 2] (by simp [hi])
    obtain ⟨c0, c1⟩ := hsrc (j / 2) xs[j / 2] (by simp [hi])
    rcases Nat.mod_two_eq_zero_or_one j with h | h
    · have ej : j = j / 2 * 2 := by omega
      rw [← ej] at e0 c0
      rw [e0] at hv
      rw [c0, ← Option.some.inj hv]
    · have ej : j = j / 2 * 2 + 1 := by omega
      rw [← ej] at e1
      rw [e1] at hv
      rw [show os + j = os + j / 2 * 2 + 1 from by omega, c1, ← Option.some.inj hv]
  have h := run_copy2 (P := Tryd.prog) (Y.alloc (.cells #[.bool false, .int .i64 0, .bool false, .int .i64 0] 73)).drew 32 32 ty 24 Y.heap.size 0 2 2 ⟨gs, os, none⟩ xs.length c2 #[.bool false, .int .i64 0, .bool false, .int .i64 0] 73 (flatV xs)
    Tryd.underlying32 (by kernel_rfl) (MapKept.heap_alloc Y _).1 (by rw [flatV_length]; show _ = min _ _ * 2; omega) hsrc' (by rw [flatV_length]; simp; omega)
    (fun v hv => by
      simp only [flatV, List.mem_flatMap] at hv
      obtain ⟨x, _, hx⟩ := hv
      simp at hx
      rcases hx with rfl | rfl <;> rfl)
  rw [h, setRow_last, show Nat.min xs.length 2 = xs.length from Nat.min_eq_left ht]
  match xs, ht with
  | [], _ => rfl
  | [x], _ => rfl
  | [x, y], _ => rfl
end Go.Proofs.YtafmlbojmmdcdaaDoor
