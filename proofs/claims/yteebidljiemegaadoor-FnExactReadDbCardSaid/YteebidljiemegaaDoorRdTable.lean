import Derived.Test.YteebidljiemegaaDoorRdStep
import Derived.Deep.AppendLies
import Derived.Handy
namespace Go.Proofs.YteebidljiemegaaDoor
open Go Go.RowKit
structure Chg (B : Nat) (w w' : World) : Prop where
  low : Below B w w'
  oth : KeepsOthers w w'
theorem Chg.refl (B : Nat) (w : World) : Chg B w w := ⟨Below.refl _ _, KeepsOthers.refl _⟩
theorem Chg.trans {B : Nat} {a b c : World} (h : Chg B a b) (k : Chg B b c) : Chg B a c := ⟨h.low.trans k.low, h.oth.trans k.oth⟩
theorem Chg.below {B : Nat} {w w' : World} (h : Below w.heap.size w w') (hB : B ≤ w.heap.size) : Chg B w w' :=
  ⟨h.mono hB, h.size, fun k _ hk _ => (h.block k (Array.getElem?_eq_some_iff.1 hk).1).trans hk⟩
theorem Chg.set {B : Nat} (w : World) {g o : Nat} (hg : B ≤ g) (v : Value) : Chg B w (w.setCell ⟨g, o, none⟩ v) :=
  ⟨(Below.refl B w).setCell (p := ⟨g, o, none⟩) hg v, KeepsOthers.setCell _ _ _⟩
theorem Chg.grown {B : Nat} {w w' : World} {row : Option Nat} (hg : w.grownBy w' row) (hB : B ≤ w.heap.size) (hr : ∀ b, row = some b → B ≤ b) (hc : ∀ b o, row = some b → w.heap[b]? = some o → o.isCells = true) : Chg B w w' :=
  ⟨⟨hg.os, hg.tape, hg.output, hg.size, fun k hk => hg.block k (by omega) (fun e => by have := hr k e.symm; omega)⟩, KeepsOthers.of_grownBy hg hc⟩
theorem ownsRow_cells {w : World} {B e size n : Nat} {v : Value} {xs : List Value} (h : w.ownsRow B e size v n xs) : ∀ b o, v.ownBlock = some b → w.heap[b]? = some o → o.isCells = true := fun b o hb ho => by
  rcases h.2 with ⟨h1, _⟩ | ⟨g, cap, cur, h1, _, h3, _⟩
  · rw [h1] at hb; simp [Value.ownBlock] at hb
  · rw [h1] at hb
    simp [Value.ownBlock] at hb
    subst hb
    rw [h3] at ho
    cases ho
    rfl
def WordsAt (w : World) (A off : Nat) (ws : List ByteArray) : Prop := A < w.heap.size ∧ ∀ i x, ws[i]? = some x → w.cell? ⟨A, off + i, none⟩ = some (.string x)
theorem WordsAt.of {w w1 : World} {A off : Nat} {ws : List ByteArray} (h : WordsAt w A off ws) (hb : Below w.heap.size w w1) : WordsAt w1 A off ws :=
  ⟨Nat.lt_of_lt_of_le h.1 hb.size, fun i x hx => (hb.cell (p := ⟨A, off + i, none⟩) h.1).trans (h.2 i x hx)⟩
set_option maxHeartbeats 2000000 in
theorem readTable_len (v : Value) (a : Option Addr) (n c : Nat) (hv : ∃ a n c, v = .slice a n c) (w : World) (hn : n ≠ 2) : Calls Tryd.prog 30 #[v, .slice a n c] w fun e w' => e = .returned (.tuple #[.slice none 0 0, .bool false]) ∧ w' = w := by
  obtain ⟨va, vn, vc, rfl⟩ := hv
  have j : ((n : Int) == 2) = false := by simp; omega
  have j' : ((n : Int) != 2) = true := by simp [bne, j]
  go_enter Tryd.func30, Tryd.ntmps30
  go_wp2
  go_returns
  exact ⟨rfl, rfl⟩
set_option maxRecDepth 100000 in
set_option maxHeartbeats 4000000 in
theorem readTable_two (v : Value) (A off c B : Nat) (x y : ByteArray) (V : Int) (ok : Bool) (lab : Lt) (cs : List Value) (ts : List Tb) (w : World) (hB : B ≤ w.heap.size) (hW : WordsAt w A off [x, y]) (hT : TabG w lab B v cs ts) (hx : x.size ≤ 1048576) (hl : ts.length ≤ 1048576)
    (RC : ∀ W, Calls Tryd.prog 46 #[.string y] W fun e w' => e = .returned (.tuple #[.int .i64 V, .bool ok]) ∧ Below W.heap.size W w') :
    Calls Tryd.prog 30 #[v, .slice (some ⟨A, off, none⟩) 2 c] w fun e w' => ∃ v' cs', e = .returned (.tuple #[v', .bool ok]) ∧ TabG w' lab B v' cs' (ts ++ [⟨x, V, []⟩]) ∧ Chg B w w' := by
  have d0 : w.cell? ⟨A, off, none⟩ = some (.string x) := hW.2 0 x rfl
  have d1 : w.cell? ⟨A, off + 1, none⟩ = some (.string y) := hW.2 1 y rfl
  have hA := hW.1
  have HT := hide hT; have HRC := hide RC
  have HCl := hide (fun W => clone_calls x W hx)
  obtain ⟨i, hi, hz⟩ := Option.map_eq_some_iff.1 (show (Tryd.prog.info? 36).map (fun i => (i.zero, i.size, i.bytes)) = some (some (.agg #[.string ⟨#[]⟩, .int .i64 0, .slice none 0 0]), 3, 48) by kernel_rfl)
  simp only [Prod.mk.injEq] at hz
  obtain ⟨hz0, hz1, hz2⟩ := hz
  obtain ⟨va, vc, hv⟩ := hT.slice
  subst hv
  clear hT RC hW
  go_enter Tryd.func30, Tryd.ntmps30
  go_wp2_with fail
  refine (unhide HRC _).mono ?_; rintro e w1 ⟨rfl, hb1⟩
  have e0 : w1.cell? ⟨A, off, none⟩ = some (.string x) := (hb1.cell (p := ⟨A, off, none⟩) hA).trans d0
  have HB1 := hide hb1
  have hs1 := hb1.size
  clear hb1
  go_wp2_with fail
  refine (unhide HCl _).mono ?_; rintro e w2 ⟨rfl, hb2⟩
  have HB2 := hide (bT (unhide HB1) hb2)
  have hs2 := hb2.size
  have HT3 := hide (((unhide HT).of (unhide HB2)).of (bA (Below.refl w2.heap.size w2) (.cells #[.string x, .int .i64 V, .slice none 0 0] 36)))
  clear hb2 HT HB1 HRC HCl
  go_wp2_with (at_builtin; refine wpList_append_lies _ rfl (.tmp 18) (.tmp 25) 22 rfl B 36 i _ 3 48 Tryd.underlying22 hi hz0 hz1 hz2 rfl (by decide) (.slice va ts.length vc) ts.length cs rfl (unhide HT3).own ⟨w2.heap.size, 0, none⟩ 1 1 [.string x, .int .i64 V, .slice none 0 0] rfl rfl (World.news_of_block (cs := #[.string x, .int .i64 V, .slice none 0 0]) (MapKept.heap_alloc w2 _).1) (by intro u hu; simp at hu; rcases hu with rfl | rfl | rfl <;> rfl) (by decide) (by unfold maxLen; omega) (by omega) (by simp; omega) _ rfl ?_; intro g2 cap2 w4 hown2 hgrow hat hlt2)
  have HN := hide ((unhide HT3).push (lab' := lab) (N := x) (C := V) (fun _ _ => rfl) (fun b e => Or.inl e) (World.ownsRow_nil _ B _ 1) (fun G e => by simp [Value.ownBlock] at e) hown2 hgrow hat)
  have HC := hide ((Chg.below (bA (unhide HB2) (.cells #[.string x, .int .i64 V, .slice none 0 0] 36)) hB).trans (Chg.grown hgrow (by simp; omega) (fun b e => ((unhide HT3).blk b e).1) (ownsRow_cells (unhide HT3).own)))
  clear hown2 hgrow hat HT3 HB2
  go_wp2
  go_returns
  exact ⟨_, _, rfl, unhide HN, unhide HC⟩
end Go.Proofs.YteebidljiemegaaDoor
