import Derived.Test.YtafmlbojmmdcdaaDoorCmp2
namespace Go.Proofs.YtafmlbojmmdcdaaDoor
open Go Go.RowKit
theorem Cmp3_calls (op : Int) (b c : Bool) (n m : Int) (w : World) (hTv : TVal w) (hTc : TCmp w) :
    Calls Tryd.prog 13 #[.int .i64 op, .agg #[.bool b, .int .i64 n], .agg #[.bool c, .int .i64 m]] w fun e w' => e = .returned (.agg #[.bool (vB (cmp3 op b c n m)), .int .i64 (vI (cmp3 op b c n m))]) ∧ Below w.heap.size w w' := by
  by_cases h : b = true ∨ c = true ∨ op < 1 ∨ 6 < op
  · exact Cmp3_bad op b c n m w hTv h
  · obtain ⟨rfl, rfl, h1, h6⟩ : b = false ∧ c = false ∧ 1 ≤ op ∧ op ≤ 6 := by cases b <;> cases c <;> simp at h ⊢ <;> omega
    exact Cmp3_good op n m w hTv hTc h1 h6
theorem sCmp3_calls (op : Int) (b c : Bool) (n m : Int) (w : World) :
    Calls Tryd.prog 14 #[.int .i64 op, .agg #[.bool b, .int .i64 n], .agg #[.bool c, .int .i64 m]] w fun e w' => e = .returned (.agg #[.bool (vB (cmp3 op b c n m)), .int .i64 (vI (cmp3 op b c n m))]) ∧ Below w.heap.size w w' := by
  by_cases h : b = true ∨ c = true ∨ op < 1 ∨ 6 < op
  · exact sCmp3_bad op b c n m w h
  · obtain ⟨rfl, rfl, h1, h6⟩ : b = false ∧ c = false ∧ 1 ≤ op ∧ op ≤ 6 := by cases b <;> cases c <;> simp at h ⊢ <;> omega
    exact sCmp3_good op n m w h1 h6
end Go.Proofs.YtafmlbojmmdcdaaDoor
