import Derived.Test.YtafmlbojmmdcdaaDoorDrawEx
namespace Go.Proofs.YtafmlbojmmdcdaaDoor
open Go Go.RowKit
def lenV : Value → Nat
  | .slice _ n _ => n
  | _ => 0
set_option maxRecDepth 100000 in
set_option maxHeartbeats 1000000 in
theorem l1LongEx_calls (n : Nat) (hn : n ≤ 100000) (w : World) :
    Calls Tryd.prog 37 #[.int .i64 (n : Int)] w fun e w' => ∃ g c ops, e = .returned (.slice (some ⟨g, 0, none⟩) ops.length c) ∧ OwnO w' w.heap.size g c ops ∧ ops.length ≤ n + 1 ∧ Below w.heap.size w w' := by
  have HST : Hid (OwnO (w.alloc (.cells #[.int .i64 1, .int .i64 1] 39)) w.heap.size w.heap.size 1 [(1, 1)]) := OwnO.made w _ 1 1 (Nat.le_refl _)
  go_enter Tryd.func37, Tryd.ntmps37
  go_wp2
  go_loopw [3] (fun s wr => ∃ (g c : Nat) (ops : List O2), s = .slice (some ⟨g, 0, none⟩) ops.length c ∧ OwnO wr w.heap.size g c ops ∧ ops.length ≤ n + 1 ∧ Below w.heap.size w wr) (fun s _ => n + 2 - lenV s)
  case atStart => exact ⟨w.heap.size, 1, [(1, 1)], rfl, HST.out, by simp, bA (Below.refl _ _) _⟩
  case round =>
    clear HST
    obtain ⟨g, c, ops, rfl, hO, hl, hb⟩ := hrel
    by_cases hlt : ops.length < n
    · have j1 : (ops.length : Int) < (n : Int) := by omega
      obtain ⟨i, hi, hz⟩ := Option.map_eq_some_iff.1 (show (Tryd.prog.info? 39).map (fun i => (i.zero, i.size, i.bytes)) = some (some (.agg #[.int .i64 0, .int .i64 0]), 2, 16) by kernel_rfl)
      simp only [Prod.mk.injEq] at hz
      obtain ⟨hz0, hz1, hz2⟩ := hz
      have hOl := hO.lt
      have hsz := hb.size
      have HO1 : Hid ((wr.alloc (.cells #[.int .i64 1, .int .i64 0, .int .i64 6, .int .i64 0] 39)).ownsRow w.heap.size 39 2 (.slice (some ⟨g, 0, none⟩) ops.length c) ops.length (flatO ops)) := hO.of (bA (Below.refl wr.heap.size wr) (.cells #[.int .i64 1, .int .i64 0, .int .i64 6, .int .i64 0] 39))
      clear hO
      go_wp2_with (at_builtin; refine wpList_append_lies _ rfl (.tmp 10) (.tmp 13) 31 rfl w.heap.size 39 i _ 2 16 Tryd.underlying31 hi hz0 hz1 hz2 rfl (by decide) (.slice (some ⟨g, 0, none⟩) ops.length c) ops.length (flatO ops) rfl (unhide HO1) ⟨wr.heap.size, 0, none⟩ 2 2 [.int .i64 1, .int .i64 0, .int .i64 6, .int .i64 0] rfl rfl (World.news_of_block (w := (wr.alloc (.cells #[.int .i64 1, .int .i64 0, .int .i64 6, .int .i64 0] 39))) (cs := #[.int .i64 1, .int .i64 0, .int .i64 6, .int .i64 0]) (MapKept.heap_alloc wr _).1) (by intro v hv; simp at hv; rcases hv with rfl | rfl | rfl | rfl <;> rfl) (by decide) (by unfold maxLen; omega) (by omega) (by simp; omega) _ rfl ?_; intro g2 c2 w2 hown2 hgrow hat hlt2)
      have hl3 : (ops ++ [((1, 0) : O2), (6, 0)]).length = ops.length + 2 := by rw [List.length_append]; rfl
      have HO2 : Hid (OwnO w2 w.heap.size g2 c2 (ops ++ [(1, 0), (6, 0)])) := by
        show OwnO _ _ _ _ _
        unfold OwnO
        rw [hl3, flatO_append]
        exact hown2
      have HB2 : Hid (Below w.heap.size w w2) := (bA hb (.cells #[.int .i64 1, .int .i64 0, .int .i64 6, .int .i64 0] 39)).grown hgrow (by simp; omega) (fun j hj => by
          have : g = j := by simpa [Value.ownBlock] using hj
          omega)
      clear hown2 hgrow hat HO1
      go_wp2
      go_roundw
      case rel => exact ⟨g2, c2, ops ++ [(1, 0), (6, 0)], by rw [hl3], HO2.out, by rw [hl3]; omega, HB2.out⟩
      case measure => simp [lenV]; omega
    · go_wp2
      go_ret
      exact ⟨_, _, _, rfl, hO, hl, hb⟩
end Go.Proofs.YtafmlbojmmdcdaaDoor
