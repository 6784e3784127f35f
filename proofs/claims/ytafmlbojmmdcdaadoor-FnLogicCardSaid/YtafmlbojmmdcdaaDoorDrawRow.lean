import Derived.Test.YtafmlbojmmdcdaaDoorDrawVal
import Derived.Test.YtafmlbojmmdcdaaDoorOwnVals
namespace Go.Proofs.YtafmlbojmmdcdaaDoor
open Go Go.RowKit
def dRowN (bs : List Nat) (p : Nat) : Nat → List V2 × Nat
  | 0 => ([], p)
  | i + 1 => ((dRowN bs p i).1 ++ [(dVal bs (dRowN bs p i).2).1], (dVal bs (dRowN bs p i).2).2)
theorem dRowN_length (bs : List Nat) (p : Nat) : ∀ n, (dRowN bs p n).1.length = n
  | 0 => rfl
  | n + 1 => by simp [dRowN, dRowN_length bs p n]
theorem OwnS.drw {w w1 : World} {B g cap R : Nat} {bs : List V2} (h : OwnS w B g cap bs) (hd : Drw R w w1) (hg : g ≠ R) : OwnS w1 B g cap bs := by
  have hl := h.lt.1
  refine ⟨h.1, ?_⟩
  rcases h.2 with h1 | ⟨g', cap', cur, h1, h2, h3, h4⟩
  · exact Or.inl h1
  · have e : g' = g := by
      simp only [Value.slice.injEq, Option.some.injEq, Addr.mk.injEq, and_true, true_and] at h1
      exact h1.1.symm
    exact Or.inr ⟨g', cap', cur, h1, h2, by rw [hd.block g' (by rw [e]; exact hl) (by rw [e]; exact hg)]; exact h3, h4⟩
theorem OwnRow.drw {w w1 : World} {g n R : Nat} {xs : List V2} (h : OwnRow w g n xs) (hd : Drw R w w1) (hg : g ≠ R) : OwnRow w1 g n xs :=
  ⟨Nat.lt_of_lt_of_le h.size hd.size, fun o => (hd.frozen o h.size hg).trans (h.frz o), fun o ho => by
    obtain ⟨v, hv⟩ := h.all o ho
    exact ⟨v, (hd.cell o h.size hg).trans hv⟩, fun i x hx => ⟨(hd.cell _ h.size hg).trans (h.held i x hx).1, (hd.cell _ h.size hg).trans (h.held i x hx).2⟩⟩
theorem Drw.alloc {R : Nat} {w w1 : World} (h : Drw R w w1) (hR : R ≤ w1.heap.size) (o : Obj) : Drw R w (w1.alloc o) := h.below hR (bA (Below.refl _ _) o)
theorem Drw.grown {R g : Nat} {w w1 w2 : World} (h : Drw R w w1) (hg : w1.grownBy w2 (some g)) (h1 : w.heap.size ≤ g) (h2 : R ≤ g) (h3 : R ≤ w1.heap.size) : Drw R w w2 :=
  ⟨Nat.le_trans h.size hg.size, fun b hb hn => (hg.block b (Nat.lt_of_lt_of_le hb h.size) (by intro e; have := Option.some.inj e; omega)).trans (h.block b hb hn), h.low.grown hg h3 (fun k hk => by have := Option.some.inj hk; omega)⟩
theorem Rd.grown {w w1 : World} {R g : Nat} {a : Option Addr} {cap : Nat} {bs : List Nat} {p : Nat} (h : Rd w R a cap bs p) (hg : w.grownBy w1 (some g)) (hR : R < g) : Rd w1 R a cap bs p :=
  h.blocks hg.size (fun b hb => hg.block b (by have := h.size; omega) (by intro e; have := Option.some.inj e; omega))
set_option maxHeartbeats 1000000 in
theorem l1DrawRow_calls (w : World) (R : Nat) (a : Option Addr) (cap : Nat) (bs : List Nat) (p n : Nat) (h : Rd w R a cap bs p) (hn : n ≤ 1000) :
    Calls Tryd.prog 28 #[.pointer (some ⟨R, 0, none⟩), .int .i64 (n : Int)] w fun e w' => (∃ g' cap', e = .returned (.slice (some ⟨g', 0, none⟩) n cap') ∧ OwnS w' w.heap.size g' cap' (dRowN bs p n).1) ∧ Rd w' R a cap bs (dRowN bs p n).2 ∧ Drw R w w' := by
  have hR := h.size
  have HST : Hid (Rd (w.alloc (.cells #[] 24)) R a cap bs p) := h.of (bA (Below.refl _ _) _)
  clear h
  go_enter Tryd.func28, Tryd.ntmps28
  go_wp2
  go_loopw [5, 6] (fun s c wr => ∃ k g' cap' : Nat, k ≤ n ∧ c = .int .i64 k ∧ s = .slice (some ⟨g', 0, none⟩) k cap' ∧ OwnS wr w.heap.size g' cap' (dRowN bs p k).1 ∧ Rd wr R a cap bs (dRowN bs p k).2 ∧ Drw R w wr) (fun _ c _ => n - (intOf c).toNat)
  case atStart =>
    refine ⟨0, w.heap.size, 0, Nat.zero_le _, rfl, rfl, ?_, HST.out, (Drw.refl R w).alloc (Nat.le_of_lt hR) _⟩
    exact ⟨rfl, Or.inr ⟨w.heap.size, 0, #[], rfl, Nat.le_refl _, (MapKept.heap_alloc w _).1, Nat.le_refl _, Nat.zero_le _, rfl, rfl⟩⟩
  case round =>
    clear HST
    obtain ⟨k, g', cap', hk, rfl, rfl, hO, hRd, hD⟩ := hrel
    by_cases hlt : k < n
    · have j1 : (k : Int) < (n : Int) := by omega
      have DV := l1DrawVal_calls wr R a cap bs _ hRd
      have hlk := dRowN_length bs p k
      have hts : dRowN bs p (k + 1) = ((dRowN bs p k).1 ++ [(dVal bs (dRowN bs p k).2).1], (dVal bs (dRowN bs p k).2).2) := rfl
      have hOl := hO.lt
      generalize (dRowN bs p k).1 = xs at *
      generalize (dRowN bs p k).2 = q at *
      generalize (dVal bs q).1 = y at *
      generalize (dVal bs q).2 = q' at *
      have HDV := hide DV; have HTS := hide hts; have HLK := hide hlk; have HO := hide hO; have HD := hide hD
      clear DV hts hO hD hRd
      obtain ⟨i, hi, hz⟩ := Option.map_eq_some_iff.1 (show (Tryd.prog.info? 24).map (fun i => (i.zero, i.size, i.bytes)) = some (some (.agg #[.bool false, .int .i64 0]), 2, 16) by kernel_rfl)
      simp only [Prod.mk.injEq] at hz
      obtain ⟨hz0, hz1, hz2⟩ := hz
      go_wp2_with fail
      refine (unhide HDV).mono ?_; rintro e w1 ⟨rfl, hr1, hd1⟩
      have hsz1 := hd1.size
      have HO1 := hide (((unhide HO).drw hd1 (by omega)).of (bA (Below.refl _ _) (.cells #[.bool y.1, .int .i64 y.2] 24)))
      have HD1 := hide (((unhide HD).trans hd1).alloc (by omega) (.cells #[.bool y.1, .int .i64 y.2] 24))
      have HR1 := hide (hr1.of (bA (Below.refl _ _) (.cells #[.bool y.1, .int .i64 y.2] 24)))
      clear HO HDV HD hr1 hd1
      go_wp2_with (at_builtin; refine wpList_append_lies _ rfl (.tmp 13) (.tmp 16) 32 rfl w.heap.size 24 i _ 2 16 Tryd.underlying32 hi hz0 hz1 hz2 rfl (by decide) (.slice (some ⟨g', 0, none⟩) k cap') k (flatV xs) rfl (by have := unhide HO1; unfold OwnS at this; rw [unhide HLK] at this; exact this) ⟨w1.heap.size, 0, none⟩ 1 1 [.bool y.1, .int .i64 y.2] rfl rfl (World.news_of_block (cs := #[.bool y.1, .int .i64 y.2]) (MapKept.heap_alloc w1 _).1) (by intro u hu; simp at hu; rcases hu with rfl | rfl <;> rfl) (by decide) (by unfold maxLen; omega) (by omega) (by simp; omega) _ rfl ?_; intro g2 cap2 w2 hown2 hgrow hat hlt2)
      have HO2 : Hid (OwnS w2 w.heap.size g2 cap2 (dRowN bs p (k + 1)).1) := by
        show OwnS _ _ _ _ _
        unfold OwnS
        rw [unhide HTS, flatV_append, show (xs ++ [y]).length = k + 1 by simp; exact unhide HLK]
        exact hown2
      have HR2 : Hid (Rd w2 R a cap bs (dRowN bs p (k + 1)).2) := by
        show Rd _ _ _ _ _ _
        rw [unhide HTS]
        exact (unhide HR1).grown (g := g') hgrow (by omega)
      have HD2 : Hid (Drw R w w2) := (unhide HD1).grown (g := g') hgrow (by omega) (by omega) (by simp; omega)
      clear hown2 hgrow hat HTS HLK HO1 HD1 HR1
      go_wp2
      go_roundw
      case rel => exact ⟨k + 1, g2, cap2, by omega, by go_num, rfl, HO2.out, HR2.out, HD2.out⟩
      case measure => simp [intOf]; omega
    · obtain rfl : k = n := by omega
      go_wp2
      go_ret
      exact ⟨⟨_, _, rfl, hO⟩, hRd, hD⟩
end Go.Proofs.YtafmlbojmmdcdaaDoor
