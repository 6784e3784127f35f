/-
  THE PROGRAM's PlanOk.
-/
import Derived.Test.YtahanplikbdccaaDoorCheckPlan
namespace Go.Proofs.YtahanplikbdccaaDoor
open Go Go.RowKit

set_option maxHeartbeats 2000000 in
theorem PlanOk_calls (ts : List Tb) (ps : List Pn) (g cap gt capt : Nat) (w : World) (lp : ps.length ≤ 1048576) (lt : ts.length ≤ 1048576) (hsm : SmallT ts) (fit : ∀ p ∈ ps, p.Ex.length ≤ 1048576 ∧ p.Exs.length ≤ 1048576 ∧ ∀ xs ∈ p.Exs, xs.length ≤ 1048576)
    (hg : g < w.heap.size) (hn : PnsAt w g 0 ps) (hgt : gt < w.heap.size) (ht : TablesAt w gt 0 ts) (hTK : TKw w) (hTP : TPlan w) (hTT : TTakes w) :
    Calls Tryd.prog 14 #[.agg #[.slice (some ⟨g, 0, none⟩) ps.length cap], .agg #[.slice (some ⟨gt, 0, none⟩) ts.length capt]] w fun e w' => e = planE ts ps ∧ Below w.heap.size w w' := by
  have HC := hide (fun W (hb : Below w.heap.size w W) => checkPlan_calls ts ps g cap gt capt W lp lt hsm fit (Nat.lt_of_lt_of_le hg hb.size) (hn.of hg hb) (Nat.lt_of_lt_of_le hgt hb.size) (ht.of hgt hb) (hTK.of hb) (hTP.of hb) (hTT.of hb))
  clear hn ht hTK hTP hTT hsm fit
  go_enter Tryd.func14, Tryd.ntmps14
  go_wp2_with fail
  refine (unhide HC _ (bA (bA (Below.refl _ _) _) _)).mono ?_
  rintro e w1 ⟨⟨hv, b, rfl, hrow⟩ | ⟨hv, rfl⟩, hb⟩
  · have n1 := bT (bA (bA (Below.refl w.heap.size w) _) _) hb
    have HE := hide (planE_yes hv)
    have h1 := hv.some
    rw [hv.width] at HE
    have c0 := hrow.at (ps.length - 1) (by omega)
    have hsz := hrow.lt
    obtain ⟨m, hm⟩ : ∃ m : Nat, ps.length - 1 = m := ⟨_, rfl⟩
    rw [hm] at c0 HE
    have hkk : ((m : Nat) : Int) = (ps.length : Int) - 1 := by omega
    have i0 : (0 : Int) ≤ (ps.length : Int) - 1 := by omega
    have i1 : (ps.length : Int) - 1 < (ps.length : Int) := by omega
    have i2 : ((ps.length : Int) - 1).toNat = m := by omega
    clear HC hb hv hrow hm
    go_wp2
    go_ret2
    exact ⟨(unhide HE).symm, n1⟩
  · have n1 := bT (bA (bA (Below.refl w.heap.size w) _) _) hb
    have HE := hide (planE_no hv)
    clear HC hb hv
    go_wp2
    go_ret2
    exact ⟨(unhide HE).symm, n1⟩
end Go.Proofs.YtahanplikbdccaaDoor
