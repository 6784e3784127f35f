import Derived.Test.YtafmlbojmmdcdaaOwnVals
namespace Go.Proofs.Ytafmlbojmmdcdaa
open Go Go.RowKit
set_option maxHeartbeats 1000000 in
theorem l1Row_calls (xs : List V2) (g off cap : Nat) (w : World) (hg : g < w.heap.size) (hr : RowAt w g off xs) (hn : xs.length ≤ 1048576) :
    Calls Try.prog 15 #[.slice (some ⟨g, off, none⟩) xs.length cap] w fun e w' => ∃ g' cap', e = .returned (.slice (some ⟨g', 0, none⟩) xs.length cap') ∧ OwnS w' w.heap.size g' cap' (xs.map clnV) ∧ Below w.heap.size w w' := by
  go_enter Try.func15, Try.ntmps15
  go_wp2
  go_loopw [3, 4] (fun s c wr => ∃ k g' cap' : Nat, k ≤ xs.length ∧ c = .int .i64 k ∧ s = .slice (some ⟨g', 0, none⟩) k cap' ∧ OwnS wr w.heap.size g' cap' ((xs.map clnV).take k) ∧ Below w.heap.size w wr) (fun _ c _ => xs.length - (intOf c).toNat)
  case atStart =>
    refine ⟨0, w.heap.size, 0, Nat.zero_le _, rfl, rfl, ?_, ?_⟩
    · refine ⟨rfl, Or.inr ⟨w.heap.size, 0, #[], rfl, Nat.le_refl _, (MapKept.heap_alloc w _).1, Nat.le_refl _, Nat.zero_le _, rfl, rfl⟩⟩
    · exact (Below.refl _ _).alloc (by simp) _
  case round =>
    obtain ⟨k, g', cap', hk, rfl, rfl, hO, hb⟩ := hrel
    by_cases hlt : k < xs.length
    · obtain ⟨x0, x1⟩ := (hr.of hg hb).at k hlt
      have j1 : (k : Int) < (xs.length : Int) := by omega
      have q1 : g < wr.heap.size := Nat.lt_of_lt_of_le hg hb.size
      have hts : (xs.map clnV).take (k + 1) = (xs.map clnV).take k ++ [clnV xs[k]] := by rw [take_snoc _ _ (by simpa using hlt)]; simp
      have CL := fun w => l1Clean_calls' xs[k].1 xs[k].2 w
      have hlk : ((xs.map clnV).take k).length = k := by simp; omega
      generalize (xs.map clnV).take k = bs at *
      generalize xs[k] = x at *
      obtain ⟨xb, xn⟩ := x
      simp only at CL x0 x1 hts
      generalize clnV (xb, xn) = y at *
      have HCL := hide CL; have HTS := hide hts; have HLK := hide hlk
      have hOl := hO.lt
      have HO := hide hO
      clear CL hts hO
      obtain ⟨i, hi, hz⟩ := Option.map_eq_some_iff.1 (show (Try.prog.info? 40).map (fun i => (i.zero, i.size, i.bytes)) = some (some (.agg #[.bool false, .int .i64 0]), 2, 16) by kernel_rfl)
      simp only [Prod.mk.injEq] at hz
      obtain ⟨hz0, hz1, hz2⟩ := hz
      go_wp2_with fail
      refine (unhide HCL _).mono ?_; rintro e w1 ⟨rfl, hb1⟩
      have d1 := bT hb hb1
      have HO1 := hide (((unhide HO).of hb1).of (bA (Below.refl _ _) (.cells #[.bool y.1, .int .i64 y.2] 40)))
      have hsz1 := d1.size
      clear HO HCL
      go_wp2_with (at_builtin; refine wpList_append_lies _ rfl (.tmp 12) (.tmp 18) 27 rfl w.heap.size 40 i _ 2 16 Try.underlying27 hi hz0 hz1 hz2 rfl (by decide) (.slice (some ⟨g', 0, none⟩) k cap') k (flatV bs) rfl (by have := unhide HO1; unfold OwnS at this; rw [unhide HLK] at this; exact this) ⟨w1.heap.size, 0, none⟩ 1 1 [.bool y.1, .int .i64 y.2] rfl rfl (World.news_of_block (cs := #[.bool y.1, .int .i64 y.2]) (MapKept.heap_alloc w1 _).1) (by intro u hu; simp at hu; rcases hu with rfl | rfl <;> rfl) (by decide) (by unfold maxLen; omega) (by omega) (by simp; omega) _ rfl ?_; intro g2 cap2 w2 hown2 hgrow hat hlt2)
      have HO2 : Hid (OwnS w2 w.heap.size g2 cap2 ((xs.map clnV).take (k + 1))) := by
        show OwnS _ _ _ _ _
        unfold OwnS
        rw [unhide HTS, flatV_append, show (bs ++ [y]).length = k + 1 by simp; exact unhide HLK]
        exact hown2
      have HB2 : Hid (Below w.heap.size w w2) := (bA d1 (.cells #[.bool y.1, .int .i64 y.2] 40)).grown hgrow (by simp; omega) (fun j hj => by
          have : g' = j := by simpa [Value.ownBlock] using hj
          omega)
      clear hown2 hgrow hat HTS HLK HO1
      go_wp2
      go_roundw
      case rel => exact ⟨k + 1, g2, cap2, by omega, by go_num, rfl, HO2.out, HB2.out⟩
      case measure => simp [intOf]; omega
    · obtain rfl : k = xs.length := by omega
      rw [List.take_of_length_le (by simp)] at hO
      go_wp2
      go_ret
      exact ⟨_, _, rfl, hO, hb⟩
end Go.Proofs.Ytafmlbojmmdcdaa
