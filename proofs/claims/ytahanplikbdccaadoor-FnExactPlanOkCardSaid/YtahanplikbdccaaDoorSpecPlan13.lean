/-
  THE SPECIFICATION's WIDTH OF A NODE, every kind.
-/
import Derived.Test.YtahanplikbdccaaDoorSpecPlan5
import Derived.Test.YtahanplikbdccaaDoorSpecPlan6
import Derived.Test.YtahanplikbdccaaDoorSpecPlan7
import Derived.Test.YtahanplikbdccaaDoorSpecPlan8
import Derived.Test.YtahanplikbdccaaDoorSpecPlan9
import Derived.Test.YtahanplikbdccaaDoorSpecPlan10
import Derived.Test.YtahanplikbdccaaDoorSpecPlan11
import Derived.Test.YtahanplikbdccaaDoorSpecPlan12
namespace Go.Proofs.YtahanplikbdccaaDoor
open Go Go.RowKit

theorem kind_of {ps : List Pn} {i : Nat} (hi : i < ps.length) (h : frm (nds ps) i ≠ -1) : 1 ≤ (ps[i]).K ∧ (ps[i]).K ≤ 10 := by
  refine Decidable.byContradiction (fun hc => h (frm_neg ?_))
  rw [kidsAt_nds hi]
  have ha : arity (ps[i]).K = -1 := by
    unfold arity
    rw [if_neg (by omega), if_neg (by omega), if_neg hc]
  unfold kidsP
  simp [ha]

theorem l3Width_calls (ts : List Tb) (ps : List Pn) (g cap gt capt : Nat) (lp : ps.length ≤ 1048576) (lt : ts.length ≤ 1048576) (fit : ∀ p ∈ ps, p.Ex.length ≤ 1048576 ∧ p.Exs.length ≤ 1048576 ∧ ∀ xs ∈ p.Exs, xs.length ≤ 1048576) (cols : ∀ t ∈ ts, 0 ≤ t.Cols ∧ t.Cols ≤ 16) :
    ∀ (n i : Nat), i < n → i < ps.length → frm (nds ps) i ≠ -1 → ∀ (env : Int), 0 ≤ env → env ≤ 200 → ∀ (w : World), g < w.heap.size → PnsAt w g 0 ps → gt < w.heap.size → TablesAt w gt 0 ts →
    Calls Tryd.prog 27 #[.agg #[.slice (some ⟨g, 0, none⟩) ps.length cap], .agg #[.slice (some ⟨gt, 0, none⟩) ts.length capt], .int .i64 (i : Int), .int .i64 env] w fun e w' => e = .returned (.int .i64 (wid ts ps i env)) ∧ Below w.heap.size w w' := by
  intro n
  induction n with
  | zero => intro i hi; omega
  | succ n ih =>
    intro i hin hi hfr env h0 h1 w hg hn hgt ht
    have H : WHyp ts ps g cap gt capt i env w := ⟨lp, lt, fit, cols, h0, h1, hg, hn, hgt, ht, fun q hq hfq ev e0 e1 W hb =>
      ih q (by omega) (by omega) hfq ev e0 e1 W (Nat.lt_of_lt_of_le hg hb.size) (hn.of hg hb) (Nat.lt_of_lt_of_le hgt hb.size) (ht.of hgt hb)⟩
    by_cases hu : UsedP ts ps[i]
    · have hk := kind_of hi hfr
      have hc : (ps[i]).K = 1 ∨ (ps[i]).K = 2 ∨ (ps[i]).K = 3 ∨ (ps[i]).K = 4 ∨ (ps[i]).K = 5 ∨ (ps[i]).K = 6 ∨ (ps[i]).K = 7 ∨ (ps[i]).K = 8 ∨ (ps[i]).K = 9 ∨ (ps[i]).K = 10 := by omega
      rcases hc with hK | hK | hK | hK | hK | hK | hK | hK | hK | hK
      · exact width_1 ts ps g cap gt capt i env w H hi hfr hu hK
      · exact width_2 ts ps g cap gt capt i env w H hi hfr hu hK
      · exact width_3 ts ps g cap gt capt i env w H hi hfr hu hK
      · exact width_4 ts ps g cap gt capt i env w H hi hfr hu hK
      · exact width_5 ts ps g cap gt capt i env w H hi hfr hu hK
      · exact width_6 ts ps g cap gt capt i env w H hi hfr hu hK
      · exact width_7 ts ps g cap gt capt i env w H hi hfr hu hK
      · exact width_8 ts ps g cap gt capt i env w H hi hfr hu hK
      · exact width_9 ts ps g cap gt capt i env w H hi hfr hu hK
      · exact width_10 ts ps g cap gt capt i env w H hi hfr hu hK
    · exact width_not ts ps g cap gt capt i env w H hi hu
end Go.Proofs.YtahanplikbdccaaDoor
