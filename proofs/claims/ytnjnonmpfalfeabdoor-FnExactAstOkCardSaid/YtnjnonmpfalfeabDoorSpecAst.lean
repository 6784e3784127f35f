/-
  THE SPECIFICATION's JUDGE OF TREES.
-/
import Derived.Test.YtnjnonmpfalfeabDoorNodeOkA
import Derived.Test.YtnjnonmpfalfeabDoorNodeOkB
import Derived.Test.YtnjnonmpfalfeabDoorNodeOkC
import Derived.Test.YtnjnonmpfalfeabDoorNodeOkD
import Derived.Test.YtnjnonmpfalfeabDoorNodeOkE
import Derived.Test.YtnjnonmpfalfeabDoorNodeOkF
import Derived.Test.YtnjnonmpfalfeabDoorSpecAst1
namespace Go.Proofs.YtnjnonmpfalfeabDoor
open Go Go.RowKit

theorem nodeOk_calls (ns : List Nd) (g cap i : Nat) (w : World) (hg : g < w.heap.size) (hn : NodesAt w g 0 ns) (hb1 : ns.length ≤ 10000) (hi : i < ns.length) (hsm : Small ns) (hk : KidsIn ns (ns[i]).Kids) (hkl : (ns[i]).Kids.length ≤ 10000) :
    Calls Tryd.prog 42 #[.slice (some ⟨g, 0, none⟩) ns.length cap, .int .i64 (i : Int)] w fun e w' => e = .returned (.bool (dB (FitS ns[i] (kindsOf ns (ns[i]).Kids)))) ∧ Below w.heap.size w w' := by
  have KC : Hid (∀ W, Below w.heap.size w W → Calls Tryd.prog 59 #[.slice (some ⟨g, 0, none⟩) ns.length cap, .int .i64 (i : Int)] W fun e w' => e = .returned (.string (mkS ((kindsOf ns (ns[i]).Kids).map ltr))) ∧ w' = W) :=
    fun W hb => kinds_calls ns g cap i W (Nat.lt_of_lt_of_le hg hb.size) (hn.of hg hb) hb1 hi hk hkl
  obtain ⟨⟨c0, c1, c2, c3, c4⟩, kg, c5, _, _, _⟩ := hn.at i hi
  obtain ⟨hS, hT, _⟩ := hsm _ (List.getElem_mem hi)
  simp only [Nat.zero_add] at c0 c1 c2 c3 c4 c5
  have j0 : (i : Int) < (ns.length : Int) := by omega
  cases e : ns[i] with | mk K N M S T ks =>
  rw [e] at c0 c1 c2 c3 c4 c5 hS hT hk hkl KC
  simp only at c0 c1 c2 c3 c4 c5 hS hT hk hkl KC ⊢
  have hq := mkS_toList ((kindsOf ns ks).map ltr)
  have hqs : (mkS ((kindsOf ns ks).map ltr)).size ≤ 1048576 := by rw [mkS_size]; simp [kindsOf]; omega
  by_cases hK : K < 1 ∨ 15 < K
  · exact nodeOkX K N M S T ks kg ks.length _ _ g cap ns.length i w hg j0 hq hqs hS hT c0 c1 c2 c3 c4 c5 KC hK
  have hc : K = 1 ∨ K = 2 ∨ K = 3 ∨ K = 4 ∨ K = 5 ∨ K = 6 ∨ K = 7 ∨ K = 8 ∨ K = 9 ∨ K = 10 ∨ K = 11 ∨ K = 12 ∨ K = 13 ∨ K = 14 ∨ K = 15 := by omega
  rcases hc with rfl | rfl | rfl | rfl | rfl | rfl | rfl | rfl | rfl | rfl | rfl | rfl | rfl | rfl | rfl
  · exact nodeOk1 N M S T ks kg ks.length _ _ g cap ns.length i w hg j0 hq hqs hS hT c0 c1 c2 c3 c4 c5 KC
  · exact nodeOk2 N M S T ks kg ks.length _ _ g cap ns.length i w hg j0 hq hqs hS hT c0 c1 c2 c3 c4 c5 KC
  · exact nodeOk3 N M S T ks kg ks.length _ _ g cap ns.length i w hg j0 hq hqs hS hT c0 c1 c2 c3 c4 c5 KC
  · exact nodeOk4 N M S T ks kg ks.length _ _ g cap ns.length i w hg j0 hq hqs hS hT c0 c1 c2 c3 c4 c5 KC
  · exact nodeOk5 N M S T ks kg ks.length _ _ g cap ns.length i w hg j0 hq hqs hS hT c0 c1 c2 c3 c4 c5 KC
  · exact nodeOk6 N M S T ks kg ks.length _ _ g cap ns.length i w hg j0 hq hqs hS hT c0 c1 c2 c3 c4 c5 KC
  · exact nodeOk7 ns N M S T ks _ g cap i w hg hi hb1 hn e hkl hk KC
  · exact nodeOk8 N M S T ks kg ks.length _ _ g cap ns.length i w hg j0 hq hqs hS hT c0 c1 c2 c3 c4 c5 KC
  · exact nodeOk9 N M S T ks kg ks.length _ _ g cap ns.length i w hg j0 hq hqs hS hT c0 c1 c2 c3 c4 c5 KC
  · exact nodeOk10 N M S T ks kg ks.length _ _ g cap ns.length i w hg j0 hq hqs hS hT c0 c1 c2 c3 c4 c5 KC
  · exact nodeOk11 N M S T ks kg ks.length _ _ g cap ns.length i w hg j0 hq hqs hS hT c0 c1 c2 c3 c4 c5 KC
  · exact nodeOk12 N M S T ks kg ks.length _ _ g cap ns.length i w hg j0 hq hqs hS hT c0 c1 c2 c3 c4 c5 KC
  · exact nodeOk13 N M S T ks kg ks.length _ _ g cap ns.length i w hg j0 hq hqs hS hT c0 c1 c2 c3 c4 c5 KC
  · exact nodeOk14 N M S T ks kg ks.length _ _ g cap ns.length i w hg j0 hq hqs hS hT c0 c1 c2 c3 c4 c5 KC
  · exact nodeOk15 N M S T ks kg ks.length _ _ g cap ns.length i w hg j0 hq hqs hS hT c0 c1 c2 c3 c4 c5 KC


theorem sAstOk_calls (ns : List Nd) (g cap : Nat) (w : World) (hg : g < w.heap.size) (hn : NodesAt w g 0 ns) (hb0 : ns.length ≤ 1048576) (hsm : Small ns) :
    Calls Tryd.prog 25 #[.agg #[.slice (some ⟨g, 0, none⟩) ns.length cap]] w fun e w' => e = .returned (.bool (dB (SV ns))) ∧ Below w.heap.size w w' :=
  sAstOk_of ns g cap w hg hn hb0 hsm (fun hb1 hseg i hi W hb => nodeOk_calls ns g cap i W (Nat.lt_of_lt_of_le hg hb.size) (hn.of hg hb) hb1 hi hsm (seg_kids hseg hb1 i hi).1 (seg_kids hseg hb1 i hi).2)
end Go.Proofs.YtnjnonmpfalfeabDoor
