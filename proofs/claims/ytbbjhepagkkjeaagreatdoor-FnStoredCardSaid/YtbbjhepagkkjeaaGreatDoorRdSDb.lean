import Derived.Test.YtbbjhepagkkjeaaGreatDoorQ46
import Derived.Test.YtbbjhepagkkjeaaGreatDoorSpecDbX
import Derived.Test.YtbbjhepagkkjeaaGreatDoorRdDb
import Derived.Deep.RegionLaw
namespace Go.Proofs.YtbbjhepagkkjeaaGreatDoor
open Go Go.RowKit
set_option maxHeartbeats 2000000 in
theorem sReadDb_long (T : ByteArray) (w : World) (h : 20000 < T.size) : Calls Tryz.prog 5 #[.string T] w (ReadPost T w) := by
  have j : (20000 : Int) < (T.size : Int) := by omega
  go_enter Tryz.func5, Tryz.ntmps5
  go_wp2
  refine bodyPost_ret (v := .tuple #[.agg #[.slice none 0 0], .int .i64 1]) (by simp [results, Tryz.results5, go_sem]) rfl ⟨Or.inl ⟨h, rfl⟩, ?_⟩
  (repeat (first | refine Below.setCell ?_ (by dsimp only; omega) _ | refine bA ?_ _ | refine Below.drew ?_)); exact Below.refl _ _
theorem words_of' {w : World} {B A cap : Nat} {ws : List ByteArray} (h : w.ownsRow B 9 1 (.slice (some ⟨A, 0, none⟩) ws.length cap) ws.length (ws.map Value.string)) : WordsAt w A 0 ws :=
  ⟨(h.lt A rfl).2, fun i x hx => by
    have hi := (List.getElem?_eq_some_iff.1 hx).1
    rw [Nat.zero_add, h.cellAt i (by omega), List.getElem?_map, hx]
    rfl⟩
def RdS (W1 : World) (S : Nat) (pre : List ByteArray) (W : World) : Prop :=
  ∃ ts v lab cs, readL [] pre = some ts ∧ TabG W lab S v cs ts ∧ W.cell? ⟨S + 1, 0, none⟩ = some v ∧ W.frozen? ⟨S + 1, 0, none⟩ = false ∧ v.ownBlock ≠ some (S + 1) ∧ ¬ (lab (S + 1)).1 ≤ 1 ∧ Below S W1 W ∧ S + 2 ≤ W.heap.size
abbrev Wd2 (A : Nat) (b c : ByteArray) (W : World) : Prop := W.cell? ⟨A, 1, none⟩ = some (.string b) ∧ W.cell? ⟨A, 2, none⟩ = some (.string c) ∧ A < W.heap.size
theorem Wd2.alloc {A : Nat} {b c : ByteArray} {W : World} (h : Wd2 A b c W) (o : Obj) : Wd2 A b c (W.alloc o) := ⟨(alloc_cell _ _ _ _ h.2.2).trans h.1, (alloc_cell _ _ _ _ h.2.2).trans h.2.1, by have := h.2.2; simp; omega⟩
theorem Wd2.drew {A : Nat} {b c : ByteArray} {W : World} (h : Wd2 A b c W) : Wd2 A b c W.drew := h
theorem Wd2.set {A : Nat} {b c : ByteArray} {W : World} (h : Wd2 A b c W) {g o : Nat} (hg : g ≠ A) (v : Value) : Wd2 A b c (W.setCell ⟨g, o, none⟩ v) := ⟨(setCell_far hg).trans h.1, (setCell_far hg).trans h.2.1, by simpa using h.2.2⟩
abbrev Bx1 (S : Nat) (v : Value) (W : World) : Prop := W.cell? ⟨S + 1, 0, none⟩ = some v ∧ True
theorem Bx1.alloc {S : Nat} {v : Value} {W : World} (h : Bx1 S v W) (hs : S + 1 < W.heap.size) (o : Obj) : Bx1 S v (W.alloc o) := ⟨(alloc_cell _ _ _ _ hs).trans h.1, trivial⟩
theorem bT' {w W1 w3 : World} (h1 : Below w.heap.size w W1) (h2 : Below W1.heap.size W1 w3) (hs : w.heap.size + 1 ≤ W1.heap.size) : Below w.heap.size w w3 := h1.trans (h2.mono (by omega))
theorem spec_push {W1 w3 w9 : World} {S A G2 c2 vc : Nat} {b c : ByteArray} {V : Int} {va : Option Addr} {lab : Lt} {cs : List Value} {ts : List Tb} {pre : List ByteArray} (hT2 : TabG w3 lab S (.slice va ts.length vc) cs ts) (cB2 : w3.cell? ⟨S + 1, 0, none⟩ = some (.slice va ts.length vc)) (fB2 : w3.frozen? ⟨S + 1, 0, none⟩ = false)
    (nb1 : (Value.slice va ts.length vc).ownBlock ≠ some (S + 1)) (nb2 : ¬ (lab (S + 1)).1 ≤ 1) (hbW : Below S W1 w3) (hsw2 : S + 2 ≤ w3.heap.size) (hWd : Wd2 A b c w3) (hvA : ¬ (Value.slice va ts.length vc).ownBlock = some A)
    (hown : w9.ownsRow S 32 3 (.slice (some ⟨G2, 0, none⟩) (ts.length + 1) c2) (ts.length + 1) (cs ++ [.string b, .int .i64 V, .slice (some ⟨w3.heap.size, 0, none⟩) 0 0])) (hgr : (((w3.alloc (.cells #[] 52)).alloc (.cells #[.string b, .int .i64 V, .slice (some ⟨w3.heap.size, 0, none⟩) 0 0] 32)).drew).grownBy w9 (Value.slice va ts.length vc).ownBlock)
    (hat : (Value.slice va ts.length vc).ownBlock = some G2 ∨ G2 = (((w3.alloc (.cells #[] 52)).alloc (.cells #[.string b, .int .i64 V, .slice (some ⟨w3.heap.size, 0, none⟩) 0 0] 32)).drew).heap.size) (hst : readL [] pre = some (ts ++ [⟨b, V, []⟩])) :
    w9.cell? ⟨S + 1, 0, none⟩ = some (.slice va ts.length vc) ∧ w9.frozen? ⟨S + 1, 0, none⟩ = false ∧ Wd2 A b c w9 ∧ RdS W1 S pre (w9.setCell ⟨S + 1, 0, none⟩ (.slice (some ⟨G2, 0, none⟩) (ts.length + 1) c2)) := by
  have hd : Below w3.heap.size w3 (((w3.alloc (.cells #[] 52)).alloc (.cells #[.string b, .int .i64 V, .slice (some ⟨w3.heap.size, 0, none⟩) 0 0] 32)).drew) := Below.drew (bA (bA (Below.refl _ _) _) _)
  have hTx := hT2.of hd
  have hzx : (((w3.alloc (.cells #[] 52)).alloc (.cells #[.string b, .int .i64 V, .slice (some ⟨w3.heap.size, 0, none⟩) 0 0] 32)).drew).heap.size = w3.heap.size + 2 := by simp
  have hBg : ButB (fun b => (Value.slice va ts.length vc).ownBlock = some b) (((w3.alloc (.cells #[] 52)).alloc (.cells #[.string b, .int .i64 V, .slice (some ⟨w3.heap.size, 0, none⟩) 0 0] 32)).drew) w9 := ButB.grown hgr (fun b e => e)
  have hun : (((w3.alloc (.cells #[] 52)).alloc (.cells #[.string b, .int .i64 V, .slice (some ⟨w3.heap.size, 0, none⟩) 0 0] 32)).drew).ownsRow S 52 1 (.slice (some ⟨w3.heap.size, 0, none⟩) 0 0) 0 [] := ((World.ownsRow_made w3 #[] 0 (by omega) (by unfold maxLen; decide) rfl).alloc _)
  have hrng := hT2.rng
  have hP := hTx.push (lab' := labS lab w3.heap.size (0, ts.length, 0)) (N := b) (C := V) (fun x e => by unfold labS; rw [if_pos (hrng x e).2.1]) (fun x e => by
    unfold labS at e ⊢
    by_cases h1 : x < w3.heap.size
    · rw [if_pos h1] at e; exact Or.inl e
    · rw [if_neg h1] at e ⊢
      by_cases h2 : x = w3.heap.size
      · rw [if_pos h2]
        exact Or.inr ⟨rfl, by omega, by omega, fun e' => by have := (hT2.blk x e').2.1; omega⟩
      · rw [if_neg h2] at e; simp at e) hun (fun G e => by simp [Value.ownBlock] at e; unfold labS; rw [← e, if_neg (by omega), if_pos rfl]) hown hgr hat
  have k2 : w9.cell? ⟨S + 1, 0, none⟩ = some (.slice va ts.length vc) := (hBg.cell _ 0 (by omega) nb1).trans ((hd.cell (p := ⟨S + 1, 0, none⟩) (by dsimp only; omega)).trans cB2)
  have g2 : w9.frozen? ⟨S + 1, 0, none⟩ = false := (hBg.frz _ 0 (by omega) nb1).trans ((hd.frozen (p := ⟨S + 1, 0, none⟩) (by dsimp only; omega)).trans fB2)
  have hG2n : G2 ≠ S + 1 := fun e => by
    rcases hat with h | h
    · rw [e] at h; exact nb1 h
    · rw [hzx] at h; omega
  have hs9 : w3.heap.size + 2 ≤ w9.heap.size := by have := hgr.size; omega
  have hb9 : Below S W1 w9 := hbW.trans ((hd.mono (by omega)).trans (hBg.below (by omega) (fun x e => (hT2.blk x e).1)))
  have hA2 := hWd.2.2
  have hW9 : Wd2 A b c w9 := ⟨(hBg.cell _ 1 (by omega) hvA).trans ((hd.cell (p := ⟨A, 1, none⟩) hA2).trans hWd.1), (hBg.cell _ 2 (by omega) hvA).trans ((hd.cell (p := ⟨A, 2, none⟩) hA2).trans hWd.2.1), by omega⟩
  refine ⟨k2, g2, hW9, _, .slice (some ⟨G2, 0, none⟩) (ts.length + 1) c2, labS lab w3.heap.size (0, ts.length, 0), _, hst, hP.butB (ButB.set (S := fun x => x = S + 1) (ButB.refl _ w9) (Or.inl rfl) _) (fun x e e' => by simp [Value.ownBlock] at e; omega) (fun x e e' => ?_), World.cell?_setCell_same _ _ _ k2, by rw [frozen_setCell]; exact g2, by simp [Value.ownBlock]; omega, ?_, hb9.setCell (p := ⟨S + 1, 0, none⟩) (by dsimp only; omega) _, by simp; omega⟩
  · subst e'; unfold labS at e; rw [if_pos (by omega)] at e; exact nb2 e
  · unfold labS; rw [if_pos (by omega)]; exact nb2
theorem spec_row {W1 w3 wi w9 : World} {S g vc gR cR G2 c2 uc : Nat} {ua : Option Addr} {rs : List R3} {lab : Lt} {cs : List Value} {ts : List Tb} {t : Tb} {xs : List V2} {pre : List ByteArray} (hT3 : TabG w3 lab S (.slice (some ⟨g, 0, none⟩) (ts.length + 1) vc) cs (ts ++ [t])) (hbi : Below w3.heap.size w3 wi) (hm : rs.map kR = t.Rows) (hrs : RowsL w3 lab S ts.length (.slice ua rs.length uc) rs)
    (hcu : w3.cell? ⟨g, ts.length * 3 + 2, none⟩ = some (.slice ua rs.length uc)) (cB : w3.cell? ⟨S + 1, 0, none⟩ = some (.slice (some ⟨g, 0, none⟩) (ts.length + 1) vc)) (fB : w3.frozen? ⟨S + 1, 0, none⟩ = false) (nb1 : (Value.slice (some ⟨g, 0, none⟩) (ts.length + 1) vc).ownBlock ≠ some (S + 1)) (nb2 : ¬ (lab (S + 1)).1 ≤ 1) (hbW : Below S W1 w3) (hsw : S + 2 ≤ w3.heap.size)
    (hgR : w3.heap.size ≤ gR) (hrow : OwnRow wi gR xs.length xs) (hcap : xs.length ≤ cR)
    (hown : w9.ownsRow S 52 1 (.slice (some ⟨G2, 0, none⟩) (rs.length + 1) c2) (rs.length + 1) (rs.map rv ++ [.slice (some ⟨gR, 0, none⟩) xs.length cR])) (hgr : ((wi.alloc (.cells #[.slice (some ⟨gR, 0, none⟩) xs.length cR] 52)).drew).grownBy w9 (Value.slice ua rs.length uc).ownBlock)
    (hat : (Value.slice ua rs.length uc).ownBlock = some G2 ∨ G2 = ((wi.alloc (.cells #[.slice (some ⟨gR, 0, none⟩) xs.length cR] 52)).drew).heap.size) (hst : readL [] pre = some (ts ++ [⟨t.Name, t.Cols, t.Rows ++ [xs]⟩])) :
    w9.cell? ⟨S + 1, 0, none⟩ = some (.slice (some ⟨g, 0, none⟩) (ts.length + 1) vc) ∧ w9.cell? ⟨g, ts.length * 3 + 2, none⟩ = some (.slice ua rs.length uc) ∧ w9.frozen? ⟨g, ts.length * 3 + 2, none⟩ = false ∧
      (w9.setCell ⟨g, ts.length * 3 + 2, none⟩ (.slice (some ⟨G2, 0, none⟩) (rs.length + 1) c2)).cell? ⟨S + 1, 0, none⟩ = some (.slice (some ⟨g, 0, none⟩) (ts.length + 1) vc) ∧ RdS W1 S pre (w9.setCell ⟨g, ts.length * 3 + 2, none⟩ (.slice (some ⟨G2, 0, none⟩) (rs.length + 1) c2)) := by
  have hgb := hT3.blk g rfl
  have hdi : Below w3.heap.size w3 ((wi.alloc (.cells #[.slice (some ⟨gR, 0, none⟩) xs.length cR] 52)).drew) := Below.drew (bA hbi _)
  have hdw : Below wi.heap.size wi ((wi.alloc (.cells #[.slice (some ⟨gR, 0, none⟩) xs.length cR] 52)).drew) := Below.drew (bA (Below.refl _ _) _)
  have hzx : ((wi.alloc (.cells #[.slice (some ⟨gR, 0, none⟩) xs.length cR] 52)).drew).heap.size = wi.heap.size + 1 := by simp
  have hsz := hbi.size
  have hub : ∀ G, (Value.slice ua rs.length uc).ownBlock = some G → G < w3.heap.size := fun G e => (hrs.1.lt G e).2
  have hgu : ¬ (Value.slice ua rs.length uc).ownBlock = some g := fun e => hgb.2.2 (by rw [hrs.2.1 g e]; simp)
  have hbu : ¬ (Value.slice ua rs.length uc).ownBlock = some (S + 1) := fun e => nb2 (by rw [hrs.2.1 _ e]; simp)
  have hgB : g ≠ S + 1 := fun e => nb1 (by rw [e]; rfl)
  have hBg : ButB (fun b => (Value.slice ua rs.length uc).ownBlock = some b) ((wi.alloc (.cells #[.slice (some ⟨gR, 0, none⟩) xs.length cR] 52)).drew) w9 := ButB.grown hgr (fun b e => e)
  have k2 : w9.cell? ⟨S + 1, 0, none⟩ = some (.slice (some ⟨g, 0, none⟩) (ts.length + 1) vc) := (hBg.cell _ 0 (by omega) hbu).trans ((hdi.cell (p := ⟨S + 1, 0, none⟩) (by dsimp only; omega)).trans cB)
  have g2 : w9.frozen? ⟨S + 1, 0, none⟩ = false := (hBg.frz _ 0 (by omega) hbu).trans ((hdi.frozen (p := ⟨S + 1, 0, none⟩) (by dsimp only; omega)).trans fB)
  have hlen : (ts ++ [t]).length = ts.length + 1 := by simp
  have hfu : w3.frozen? ⟨g, ts.length * 3 + 2, none⟩ = false := by
    have := hT3.own
    rw [hlen] at this
    exact this.frozenAt _
  have k3 : w9.cell? ⟨g, ts.length * 3 + 2, none⟩ = some (.slice ua rs.length uc) := (hBg.cell _ _ (by omega) hgu).trans ((hdi.cell (p := ⟨g, ts.length * 3 + 2, none⟩) hgb.2.1).trans hcu)
  have g3 : w9.frozen? ⟨g, ts.length * 3 + 2, none⟩ = false := (hBg.frz _ _ (by omega) hgu).trans ((hdi.frozen (p := ⟨g, ts.length * 3 + 2, none⟩) hgb.2.1).trans hfu)
  have hrng := hT3.rng
  have hG2 : labR lab w3.heap.size gR G2 ts.length rs.length G2 = (0, ts.length, 0) := by
    unfold labR
    rcases hat with e | e
    · rw [if_pos (hub _ e)]
      exact hrs.2.1 _ e
    · have := hrow.size
      rw [hzx] at e
      rw [if_neg (by omega), if_neg (by omega), if_pos rfl]
  have hrvr : rv (gR, cR, xs) = .slice (some ⟨gR, 0, none⟩) xs.length cR := rfl
  have hRsz := hrow.size
  have hA := TabG.addRow (r := (gR, cR, xs)) (lab' := labR lab w3.heap.size gR G2 ts.length rs.length) (w := (wi.alloc (.cells #[.slice (some ⟨gR, 0, none⟩) xs.length cR] 52)).drew) (w2 := w9) (hT3.of hdi) hm (hrs.butB (S := fun _ => False) (ButB.ofBelow hdi) (fun _ _ _ e => e)) (fun b e => by
      unfold labR; rw [if_pos (hrng b e).2.1]) (fun b e => by
      unfold labR at e ⊢
      by_cases h1 : b < w3.heap.size
      · rw [if_pos h1] at e; exact Or.inl e
      · rw [if_neg h1] at e ⊢
        refine Or.inr ⟨?_, by omega, by omega⟩
        by_cases h2 : b = gR
        · rw [if_pos h2]; exact Or.inl ⟨rfl, by omega⟩
        · rw [if_neg h2] at e ⊢
          by_cases h3 : b = G2
          · rw [if_pos h3]; exact Or.inr ⟨rfl, h3⟩
          · rw [if_neg h3] at e; simp at e) (hrow.of hdw) hcap (fun e => by have := hub _ e; omega) (by unfold labR; rw [if_neg (by omega), if_pos rfl]) hG2 (by rw [hrvr]; exact hown) hgr rfl
  have hs9 := hBg.size
  refine ⟨k2, k3, g3, (setCell_far hgB).trans k2, _, _, _, _, hst, hA, (setCell_far hgB).trans k2, by rw [frozen_setCell]; exact g2, nb1, ?_, ?_, ?_⟩
  · unfold labR; rw [if_pos (by omega)]; exact nb2
  · exact (hbW.trans ((hdi.mono (by omega)).trans (hBg.below (by omega) (fun x e => (hrs.1.lt x e).1)))).setCell (p := ⟨g, ts.length * 3 + 2, none⟩) hgb.1 _
  · simp; omega
set_option maxRecDepth 100000 in
set_option maxHeartbeats 16000000 in
theorem sReadDb_short (T : ByteArray) (w : World) (h : T.size ≤ 20000) : Calls Tryz.prog 5 #[.string T] w (ReadPost T w) := by
  have j : ¬ (20000 : Int) < (T.size : Int) := by omega
  have HC := hide (fun W => l3Cut_calls T 10 true W (by omega))
  rw [pieces_lines] at HC
  have hwl := wt_lines T
  have HLn : Hid (∀ k, readL [] ((linesOf T).take k) = none → readL [] (linesOf T) = none) := fun k hk => readL_none hk (List.take_prefix k _)
  have hll : (linesOf T).length ≤ 20001 := by
    have : ∀ ps : List ByteArray, ps.length ≤ wt ps := fun ps => by
      induction ps with
      | nil => simp
      | cons x r ih => rw [wt_cons]; simp; omega
    have := this (linesOf T)
    omega
  have hlx : ∀ x ∈ linesOf T, x.size ≤ 20000 := fun x hx => by
    obtain ⟨a, b, e⟩ := List.append_of_mem hx
    have h2 := wt_append a (x :: b)
    rw [← e, wt_cons] at h2
    omega
  have HLx := hide hlx
  have hbk : ∀ k ts, readL [] ((linesOf T).take k) = some ts → bulkT ts + ts.length ≤ 20001 := fun k ts hk => by
    have h1 := readL_bulk _ _ _ hk
    have h2 := wt_prefix (List.take_prefix k (linesOf T))
    simp only [bulkT, List.length_nil] at h1
    omega
  have HBk := hide hbk
  have HAll : Hid ((linesOf T).take (linesOf T).length = linesOf T) := List.take_length
  have HTk : Hid (∀ k (hk : k < (linesOf T).length), (linesOf T).take (k + 1) = (linesOf T).take k ++ [(linesOf T)[k]]) := fun k hk => take_snoc _ k hk
  obtain ⟨ii, hii, hz⟩ := Option.map_eq_some_iff.1 (show (Tryz.prog.info? 32).map (fun i => (i.zero, i.size, i.bytes)) = some (some (.agg #[.string ⟨#[]⟩, .int .i64 0, .slice none 0 0]), 3, 48) by kernel_rfl)
  simp only [Prod.mk.injEq] at hz
  obtain ⟨hz0, hz1, hz2⟩ := hz
  clear hlx hwl hbk
  generalize hln : linesOf T = ln at *
  have HLN := hide hln
  clear hln
  go_enter Tryz.func5, Tryz.ntmps5
  go_wp2_with fail
  refine (unhide HC _).mono ?_; rintro e W1 ⟨gL, cL, rfl, hoL, hb1⟩
  have hWL := words_of' hoL
  have hr0 : W1.cell? ⟨w.heap.size, 0, none⟩ = some (.slice none 0 0) := (hb1.cell (p := ⟨w.heap.size, 0, none⟩) (by simp)).trans (by simp [go_sem])
  have hf0 : W1.frozen? ⟨w.heap.size, 0, none⟩ = false := (hb1.frozen (p := ⟨w.heap.size, 0, none⟩) (by simp)).trans (by simp [go_sem])
  have hs1 : w.heap.size + 1 ≤ W1.heap.size := by have := hb1.size; simpa using this
  have HB1 := hide (bT (bA (Below.refl w.heap.size w) _) hb1)
  have HWL := hide hWL
  have hgL := hWL.1
  clear hoL hb1 hWL HC
  go_wp2
  obtain ⟨S, hS⟩ : ∃ S, S = W1.heap.size := ⟨_, rfl⟩
  go_loopw [6] (fun p wr => ∃ k : Nat, k ≤ ln.length ∧ p = .int .i64 k ∧ RdS W1 W1.heap.size (ln.take k) wr) (fun p _ => ln.length - (intOf p).toNat)
  case atStart =>
    refine ⟨0, Nat.zero_le _, rfl, [], .slice (some ⟨W1.heap.size, 0, none⟩) 0 0, _, [], rfl, TabG.nil' ?_, ?_, ?_, ?_, ?_, ?_, ?_⟩
    · exact (World.ownsRow_made W1 #[] 0 (Nat.le_refl _) (by unfold maxLen; decide) rfl).alloc _
    · simp [go_sem]
    · simp [go_sem]
    · simp [Value.ownBlock]
    · simp
    · exact bA (bA (Below.refl _ _) _) _
    · simp
  case round =>
    obtain ⟨k, hk, rfl, ts, v, lab, cs, h1, hT, cB, fB, nb1, nb2, hbW, hsW⟩ := hrel
    have hsz1 : W1.heap.size ≤ wr.heap.size := by omega
    by_cases hlt : k < ln.length
    · have j1 : (k : Int) < (ln.length : Int) := by omega
      have hlk := (hbW.cell (p := ⟨gL, 0 + k, none⟩) hgL).trans ((unhide HWL).2 k ln[k] (List.getElem?_eq_getElem hlt))
      rw [Nat.zero_add] at hlk
      have hxs := unhide HLx ln[k] (List.getElem_mem hlt)
      have hbts := unhide HBk k ts h1
      have hstep : readL [] (ln.take (k + 1)) = lnW ts (wordsOf ln[k]) := by rw [unhide HTk k hlt, readL_snoc, h1]
      have HStep := hide hstep
      have hwf := words_facts ln[k]
      have HLC := hide (fun W => l3Cut_calls ln[k] 32 false W (by omega))
      rw [pieces_words] at HLC
      obtain ⟨va, vc, hv⟩ := hT.slice
      subst hv
      have HT := hide hT; have HBW := hide hbW; have HH1 := hide h1
      generalize ln[k] = x at *
      generalize wordsOf x = ws at *
      have hx : ∀ y ∈ ws, 0 < y.size ∧ y.size ≤ 1048576 := fun y hy => by have := hwf.1 y hy; omega
      have hwl : ws.length ≤ 20001 := by omega
      have HX := hide hx
      clear hT hbW h1 hstep hwf hx
      go_wp2_with fail
      refine (unhide HLC _).mono ?_; rintro e w2 ⟨A, cA, rfl, hoA, hb2⟩
      have HWA := hide (words_of' hoA)
      have hAge := (hoA.lt A rfl).1
      have hvA : ¬ (Value.slice va ts.length vc).ownBlock = some A := fun e => by have := ((unhide HT).blk A e).2.1; omega
      have hA2 := (words_of' hoA).1
      have hs2 := hb2.size
      have cB2 := (hb2.cell (p := ⟨W1.heap.size + 1, 0, none⟩) (by dsimp only; omega)).trans cB
      have fB2 := (hb2.frozen (p := ⟨W1.heap.size + 1, 0, none⟩) (by dsimp only; omega)).trans fB
      have HT2 := hide ((unhide HT).of hb2); have HBW2 := hide ((unhide HBW).trans (hb2.mono hsz1))
      have hsw2 : W1.heap.size + 2 ≤ w2.heap.size := by omega
      clear hoA hb2 cB fB HT HBW HLC hlk
      cases ws with
      | nil =>
        go_wp2
        go_roundw
        case rel => exact ⟨k + 1, by omega, by go_num, ts, .slice va ts.length vc, lab, cs, unhide HStep, unhide HT2, cB2, fB2, nb1, nb2, unhide HBW2, hsw2⟩
        case measure => simp [intOf]; omega
      | cons a r =>
        have d0 : w2.cell? ⟨A, 0, none⟩ = some (.string a) := (unhide HWA).2 0 a rfl
        have HIT := hide (l3IsTable_calls A cA (a :: r) w2 (unhide HWA) (unhide HX) (by omega))
        have HIR := hide (l3IsRow_calls A cA a r w2 (unhide HWA) (unhide HX) (by simp at hwl; omega))
        simp only [List.length_cons] at HIT hwl ⊢
        by_cases hit : IsTabW (a :: r)
        · rw [dB_true hit] at HIT
          obtain ⟨a', b, c, he, ha, hc⟩ := hit
          simp at he
          obtain ⟨rfl, rfl⟩ := he
          rw [lnW_tab ha hc] at HStep
          have d1 : w2.cell? ⟨A, 1, none⟩ = some (.string b) := (unhide HWA).2 1 b rfl
          have d2 : w2.cell? ⟨A, 2, none⟩ = some (.string c) := (unhide HWA).2 2 c rfl
          have hc0 := (unhide HX c (by simp)).1
          have HV := hide (fun W => l2Value_calls c W hc0 (by have := hc.2.2; omega))
          generalize nVal c = V at *
          clear ha hc HIR HX
          go_wp2_with fail
          refine (unhide HIT).mono ?_; rintro e w3 ⟨rfl, rfl⟩
          go_wp2_with fail
          clear HIT HLx HBk HAll HTk HLn HWL HB1 HWA
          have hbox : W1.heap.size + 1 < w3.heap.size := by omega
          have hboxA : W1.heap.size + 1 ≠ A := by omega
          have hWd : Wd2 A b c w3 := ⟨d1, d2, hA2⟩
          have kE := (alloc_cell w3 (.cells #[] 52) (W1.heap.size + 1) 0 hbox).trans cB2
          have kX := (alloc_cell (w3.alloc (.cells #[] 52)) (.cells #[.string b, .int .i64 V, .slice (some ⟨w3.heap.size, 0, none⟩) 0 0] 32) (W1.heap.size + 1) 0 (by simp; omega)).trans kE
          have hTx := (unhide HT2).of (Below.drew (bA (bA (Below.refl w3.heap.size w3) (.cells #[] 52)) (.cells #[.string b, .int .i64 V, .slice (some ⟨w3.heap.size, 0, none⟩) 0 0] 32)))
          have hnews : ∀ j u, [.string b, .int .i64 V, .slice (some ⟨w3.heap.size, 0, none⟩) 0 0][j]? = some u → ((w3.alloc (.cells #[] 52)).alloc (.cells #[.string b, .int .i64 V, .slice (some ⟨w3.heap.size, 0, none⟩) 0 0] 32)).drew.cell? ((⟨w3.heap.size + 1, 0, none⟩ : Addr).add j) = some u := World.news_of_block (cs := #[.string b, .int .i64 V, .slice (some ⟨w3.heap.size, 0, none⟩) 0 0]) (B := w3.heap.size + 1) (by have h' := (MapKept.heap_alloc (w3.alloc (.cells #[] 52)) (.cells #[.string b, .int .i64 V, .slice (some ⟨w3.heap.size, 0, none⟩) 0 0] 32)).1; rw [show (w3.alloc (.cells #[] 52)).heap.size = w3.heap.size + 1 by simp] at h'; exact h')
          refine wp_region_held_drew (S := Wd2 A b c) (by kernel_rfl) (Wd2.drew hWd) (fun hHeld => ?_)
          refine tW 0 39 (.pointer (some ⟨W1.heap.size + 1, 0, none⟩)) ?_
          simp only [puts]
          refine tW 2 41 (.slice (some ⟨A, 0, none⟩) 3 cA) ?_
          simp only [puts]
          refine tW 3 42 (.pointer (some ⟨A, 1, none⟩)) ?_
          simp only [puts]
          refine tW 4 43 (.string b) ?_
          simp only [puts]
          refine tW 5 44 (.slice (some ⟨A, 0, none⟩) 3 cA) ?_
          simp only [puts]
          refine tW 6 45 (.pointer (some ⟨A, 2, none⟩)) ?_
          simp only [puts]
          refine tW 7 46 (.string c) ?_
          simp only [puts]
          refine wpAnyH_ready (rs := [1, 8, 9]) (by kernel_rfl) (by simp) ?_
          refine AllReadyH.cons rfl (fun Kx hK => ?_) ?_
          · go_simp
            refine hK.out _ _ (by assumption) (fun hHeld => ?_)
            clear hK Kx
            refine wpAnyH_ready (rs := [8, 9]) (by kernel_rfl) (by simp) ?_
            refine AllReadyH.cons rfl (fun Kx hK => ?_) ?_
            · go_simp
              refine (unhide HV _).mono ?_
              rintro e w4 ⟨rfl, rfl⟩
              refine hK.out _ _ (by assumption) (fun hHeld => ?_)
              clear hK Kx
              refine wpAnyH_ready (rs := [9]) (by kernel_rfl) (by simp) ?_
              refine AllReadyH.cons rfl (fun Kx hK => ?_) AllReadyH.nil
              go_simp
              refine hK.out _ _ (by (repeat (first | with_reducible assumption | with_reducible refine Wd2.drew ?_ | with_reducible refine Wd2.alloc ?_ _))) (fun hHeld => ?_)
              clear hK Kx
              refine tW 10 49 (.agg #[.string b, .int .i64 V, .slice (some ⟨w3.heap.size, 0, none⟩) 0 0]) ?_
              simp only [puts]
              refine wpAnyH_ready (rs := [11]) (by kernel_rfl) (by simp) ?_
              refine AllReadyH.cons rfl (fun Kx hK => ?_) AllReadyH.nil
              go_simp
              refine hK.out _ _ (by (repeat (first | with_reducible assumption | with_reducible refine Wd2.drew ?_ | with_reducible refine Wd2.alloc ?_ _))) (fun hHeld => ?_)
              clear hK Kx
              refine wpAnyH_ready (rs := [12]) (by kernel_rfl) (by simp) ?_
              refine AllReadyH.cons rfl (fun Kx hK => ?_) AllReadyH.nil
              refine step_append_lies _ rfl (.tmp 40) (.tmp 50) 24 rfl W1.heap.size 32 ii _ 3 48 Tryz.underlying24 hii hz0 hz1 hz2 rfl (by decide) (.slice va ts.length vc) ts.length cs rfl hTx.own ⟨_, 0, none⟩ 1 1 [.string b, .int .i64 V, .slice (some ⟨w3.heap.size, 0, none⟩) 0 0] rfl rfl hnews (by intro u hu; simp at hu; rcases hu with rfl | rfl | rfl <;> rfl) (by decide) (by unfold maxLen; omega) (by omega) (by (try simp); omega) _ rfl ?_
              intro G2 c2 w9 hown hgr hat hlt9
              obtain ⟨k2, g2, hW9, hR9⟩ := spec_push (unhide HT2) cB2 fB2 nb1 nb2 (unhide HBW2) hsw2 hWd hvA hown hgr hat (unhide HStep)
              have HR9 := hide hR9
              refine hK.out _ _ hW9 (fun hHeld => ?_)
              clear hK Kx hown hgr hat hlt9 hR9
              refine tW 13 52 (.pointer (some ⟨W1.heap.size + 1, 0, none⟩)) ?_
              simp only [puts]
              refine wpAnyH_ready (rs := [14]) (by kernel_rfl) (by simp) ?_
              refine AllReadyH.cons rfl (fun Kx hK => ?_) AllReadyH.nil
              go_simp
              refine hK.out _ _ (Wd2.set hW9 hboxA _) (fun hHeld => ?_)
              clear hK Kx
              refine wpAnyH_done (by kernel_rfl) ?_ _
              go_wp2
              go_roundw
              case rel => exact ⟨k + 1, by omega, by go_num, unhide HR9⟩
              case measure => simp [intOf]; omega
            refine AllReadyH.cons rfl (fun Kx hK => ?_) AllReadyH.nil
            go_simp
            refine hK.out _ _ (by (repeat (first | with_reducible assumption | with_reducible refine Wd2.drew ?_ | with_reducible refine Wd2.alloc ?_ _))) (fun hHeld => ?_)
            clear hK Kx
            refine wpAnyH_ready (rs := [8]) (by kernel_rfl) (by simp) ?_
            refine AllReadyH.cons rfl (fun Kx hK => ?_) AllReadyH.nil
            go_simp
            refine (unhide HV _).mono ?_
            rintro e w4 ⟨rfl, rfl⟩
            refine hK.out _ _ (by assumption) (fun hHeld => ?_)
            clear hK Kx
            refine tW 10 49 (.agg #[.string b, .int .i64 V, .slice (some ⟨w3.heap.size, 0, none⟩) 0 0]) ?_
            simp only [puts]
            refine wpAnyH_ready (rs := [11]) (by kernel_rfl) (by simp) ?_
            refine AllReadyH.cons rfl (fun Kx hK => ?_) AllReadyH.nil
            go_simp
            refine hK.out _ _ (by (repeat (first | with_reducible assumption | with_reducible refine Wd2.drew ?_ | with_reducible refine Wd2.alloc ?_ _))) (fun hHeld => ?_)
            clear hK Kx
            refine wpAnyH_ready (rs := [12]) (by kernel_rfl) (by simp) ?_
            refine AllReadyH.cons rfl (fun Kx hK => ?_) AllReadyH.nil
            refine step_append_lies _ rfl (.tmp 40) (.tmp 50) 24 rfl W1.heap.size 32 ii _ 3 48 Tryz.underlying24 hii hz0 hz1 hz2 rfl (by decide) (.slice va ts.length vc) ts.length cs rfl hTx.own ⟨_, 0, none⟩ 1 1 [.string b, .int .i64 V, .slice (some ⟨w3.heap.size, 0, none⟩) 0 0] rfl rfl hnews (by intro u hu; simp at hu; rcases hu with rfl | rfl | rfl <;> rfl) (by decide) (by unfold maxLen; omega) (by omega) (by (try simp); omega) _ rfl ?_
            intro G2 c2 w9 hown hgr hat hlt9
            obtain ⟨k2, g2, hW9, hR9⟩ := spec_push (unhide HT2) cB2 fB2 nb1 nb2 (unhide HBW2) hsw2 hWd hvA hown hgr hat (unhide HStep)
            have HR9 := hide hR9
            refine hK.out _ _ hW9 (fun hHeld => ?_)
            clear hK Kx hown hgr hat hlt9 hR9
            refine tW 13 52 (.pointer (some ⟨W1.heap.size + 1, 0, none⟩)) ?_
            simp only [puts]
            refine wpAnyH_ready (rs := [14]) (by kernel_rfl) (by simp) ?_
            refine AllReadyH.cons rfl (fun Kx hK => ?_) AllReadyH.nil
            go_simp
            refine hK.out _ _ (Wd2.set hW9 hboxA _) (fun hHeld => ?_)
            clear hK Kx
            refine wpAnyH_done (by kernel_rfl) ?_ _
            go_wp2
            go_roundw
            case rel => exact ⟨k + 1, by omega, by go_num, unhide HR9⟩
            case measure => simp [intOf]; omega
          refine AllReadyH.cons rfl (fun Kx hK => ?_) ?_
          · go_simp
            refine (unhide HV _).mono ?_
            rintro e w4 ⟨rfl, rfl⟩
            refine hK.out _ _ (by assumption) (fun hHeld => ?_)
            clear hK Kx
            refine wpAnyH_ready (rs := [1, 9]) (by kernel_rfl) (by simp) ?_
            refine AllReadyH.cons rfl (fun Kx hK => ?_) ?_
            · go_simp
              refine hK.out _ _ (by assumption) (fun hHeld => ?_)
              clear hK Kx
              refine wpAnyH_ready (rs := [9]) (by kernel_rfl) (by simp) ?_
              refine AllReadyH.cons rfl (fun Kx hK => ?_) AllReadyH.nil
              go_simp
              refine hK.out _ _ (by (repeat (first | with_reducible assumption | with_reducible refine Wd2.drew ?_ | with_reducible refine Wd2.alloc ?_ _))) (fun hHeld => ?_)
              clear hK Kx
              refine tW 10 49 (.agg #[.string b, .int .i64 V, .slice (some ⟨w3.heap.size, 0, none⟩) 0 0]) ?_
              simp only [puts]
              refine wpAnyH_ready (rs := [11]) (by kernel_rfl) (by simp) ?_
              refine AllReadyH.cons rfl (fun Kx hK => ?_) AllReadyH.nil
              go_simp
              refine hK.out _ _ (by (repeat (first | with_reducible assumption | with_reducible refine Wd2.drew ?_ | with_reducible refine Wd2.alloc ?_ _))) (fun hHeld => ?_)
              clear hK Kx
              refine wpAnyH_ready (rs := [12]) (by kernel_rfl) (by simp) ?_
              refine AllReadyH.cons rfl (fun Kx hK => ?_) AllReadyH.nil
              refine step_append_lies _ rfl (.tmp 40) (.tmp 50) 24 rfl W1.heap.size 32 ii _ 3 48 Tryz.underlying24 hii hz0 hz1 hz2 rfl (by decide) (.slice va ts.length vc) ts.length cs rfl hTx.own ⟨_, 0, none⟩ 1 1 [.string b, .int .i64 V, .slice (some ⟨w3.heap.size, 0, none⟩) 0 0] rfl rfl hnews (by intro u hu; simp at hu; rcases hu with rfl | rfl | rfl <;> rfl) (by decide) (by unfold maxLen; omega) (by omega) (by (try simp); omega) _ rfl ?_
              intro G2 c2 w9 hown hgr hat hlt9
              obtain ⟨k2, g2, hW9, hR9⟩ := spec_push (unhide HT2) cB2 fB2 nb1 nb2 (unhide HBW2) hsw2 hWd hvA hown hgr hat (unhide HStep)
              have HR9 := hide hR9
              refine hK.out _ _ hW9 (fun hHeld => ?_)
              clear hK Kx hown hgr hat hlt9 hR9
              refine tW 13 52 (.pointer (some ⟨W1.heap.size + 1, 0, none⟩)) ?_
              simp only [puts]
              refine wpAnyH_ready (rs := [14]) (by kernel_rfl) (by simp) ?_
              refine AllReadyH.cons rfl (fun Kx hK => ?_) AllReadyH.nil
              go_simp
              refine hK.out _ _ (Wd2.set hW9 hboxA _) (fun hHeld => ?_)
              clear hK Kx
              refine wpAnyH_done (by kernel_rfl) ?_ _
              go_wp2
              go_roundw
              case rel => exact ⟨k + 1, by omega, by go_num, unhide HR9⟩
              case measure => simp [intOf]; omega
            refine AllReadyH.cons rfl (fun Kx hK => ?_) AllReadyH.nil
            go_simp
            refine hK.out _ _ (by (repeat (first | with_reducible assumption | with_reducible refine Wd2.drew ?_ | with_reducible refine Wd2.alloc ?_ _))) (fun hHeld => ?_)
            clear hK Kx
            refine tW 10 49 (.agg #[.string b, .int .i64 V, .slice (some ⟨w3.heap.size, 0, none⟩) 0 0]) ?_
            simp only [puts]
            refine wpAnyH_ready (rs := [1, 11]) (by kernel_rfl) (by simp) ?_
            refine AllReadyH.cons rfl (fun Kx hK => ?_) ?_
            · go_simp
              refine hK.out _ _ (by assumption) (fun hHeld => ?_)
              clear hK Kx
              refine wpAnyH_ready (rs := [11]) (by kernel_rfl) (by simp) ?_
              refine AllReadyH.cons rfl (fun Kx hK => ?_) AllReadyH.nil
              go_simp
              refine hK.out _ _ (by (repeat (first | with_reducible assumption | with_reducible refine Wd2.drew ?_ | with_reducible refine Wd2.alloc ?_ _))) (fun hHeld => ?_)
              clear hK Kx
              refine wpAnyH_ready (rs := [12]) (by kernel_rfl) (by simp) ?_
              refine AllReadyH.cons rfl (fun Kx hK => ?_) AllReadyH.nil
              refine step_append_lies _ rfl (.tmp 40) (.tmp 50) 24 rfl W1.heap.size 32 ii _ 3 48 Tryz.underlying24 hii hz0 hz1 hz2 rfl (by decide) (.slice va ts.length vc) ts.length cs rfl hTx.own ⟨_, 0, none⟩ 1 1 [.string b, .int .i64 V, .slice (some ⟨w3.heap.size, 0, none⟩) 0 0] rfl rfl hnews (by intro u hu; simp at hu; rcases hu with rfl | rfl | rfl <;> rfl) (by decide) (by unfold maxLen; omega) (by omega) (by (try simp); omega) _ rfl ?_
              intro G2 c2 w9 hown hgr hat hlt9
              obtain ⟨k2, g2, hW9, hR9⟩ := spec_push (unhide HT2) cB2 fB2 nb1 nb2 (unhide HBW2) hsw2 hWd hvA hown hgr hat (unhide HStep)
              have HR9 := hide hR9
              refine hK.out _ _ hW9 (fun hHeld => ?_)
              clear hK Kx hown hgr hat hlt9 hR9
              refine tW 13 52 (.pointer (some ⟨W1.heap.size + 1, 0, none⟩)) ?_
              simp only [puts]
              refine wpAnyH_ready (rs := [14]) (by kernel_rfl) (by simp) ?_
              refine AllReadyH.cons rfl (fun Kx hK => ?_) AllReadyH.nil
              go_simp
              refine hK.out _ _ (Wd2.set hW9 hboxA _) (fun hHeld => ?_)
              clear hK Kx
              refine wpAnyH_done (by kernel_rfl) ?_ _
              go_wp2
              go_roundw
              case rel => exact ⟨k + 1, by omega, by go_num, unhide HR9⟩
              case measure => simp [intOf]; omega
            refine AllReadyH.cons rfl (fun Kx hK => ?_) AllReadyH.nil
            go_simp
            refine hK.out _ _ (by (repeat (first | with_reducible assumption | with_reducible refine Wd2.drew ?_ | with_reducible refine Wd2.alloc ?_ _))) (fun hHeld => ?_)
            clear hK Kx
            refine wpAnyH_ready (rs := [1]) (by kernel_rfl) (by simp) ?_
            refine AllReadyH.cons rfl (fun Kx hK => ?_) AllReadyH.nil
            go_simp
            refine hK.out _ _ (by assumption) (fun hHeld => ?_)
            clear hK Kx
            refine wpAnyH_ready (rs := [12]) (by kernel_rfl) (by simp) ?_
            refine AllReadyH.cons rfl (fun Kx hK => ?_) AllReadyH.nil
            refine step_append_lies _ rfl (.tmp 40) (.tmp 50) 24 rfl W1.heap.size 32 ii _ 3 48 Tryz.underlying24 hii hz0 hz1 hz2 rfl (by decide) (.slice va ts.length vc) ts.length cs rfl hTx.own ⟨_, 0, none⟩ 1 1 [.string b, .int .i64 V, .slice (some ⟨w3.heap.size, 0, none⟩) 0 0] rfl rfl hnews (by intro u hu; simp at hu; rcases hu with rfl | rfl | rfl <;> rfl) (by decide) (by unfold maxLen; omega) (by omega) (by (try simp); omega) _ rfl ?_
            intro G2 c2 w9 hown hgr hat hlt9
            obtain ⟨k2, g2, hW9, hR9⟩ := spec_push (unhide HT2) cB2 fB2 nb1 nb2 (unhide HBW2) hsw2 hWd hvA hown hgr hat (unhide HStep)
            have HR9 := hide hR9
            refine hK.out _ _ hW9 (fun hHeld => ?_)
            clear hK Kx hown hgr hat hlt9 hR9
            refine tW 13 52 (.pointer (some ⟨W1.heap.size + 1, 0, none⟩)) ?_
            simp only [puts]
            refine wpAnyH_ready (rs := [14]) (by kernel_rfl) (by simp) ?_
            refine AllReadyH.cons rfl (fun Kx hK => ?_) AllReadyH.nil
            go_simp
            refine hK.out _ _ (Wd2.set hW9 hboxA _) (fun hHeld => ?_)
            clear hK Kx
            refine wpAnyH_done (by kernel_rfl) ?_ _
            go_wp2
            go_roundw
            case rel => exact ⟨k + 1, by omega, by go_num, unhide HR9⟩
            case measure => simp [intOf]; omega
          refine AllReadyH.cons rfl (fun Kx hK => ?_) AllReadyH.nil
          go_simp
          refine hK.out _ _ (by (repeat (first | with_reducible assumption | with_reducible refine Wd2.drew ?_ | with_reducible refine Wd2.alloc ?_ _))) (fun hHeld => ?_)
          clear hK Kx
          refine wpAnyH_ready (rs := [1, 8]) (by kernel_rfl) (by simp) ?_
          refine AllReadyH.cons rfl (fun Kx hK => ?_) ?_
          · go_simp
            refine hK.out _ _ (by assumption) (fun hHeld => ?_)
            clear hK Kx
            refine wpAnyH_ready (rs := [8]) (by kernel_rfl) (by simp) ?_
            refine AllReadyH.cons rfl (fun Kx hK => ?_) AllReadyH.nil
            go_simp
            refine (unhide HV _).mono ?_
            rintro e w4 ⟨rfl, rfl⟩
            refine hK.out _ _ (by assumption) (fun hHeld => ?_)
            clear hK Kx
            refine tW 10 49 (.agg #[.string b, .int .i64 V, .slice (some ⟨w3.heap.size, 0, none⟩) 0 0]) ?_
            simp only [puts]
            refine wpAnyH_ready (rs := [11]) (by kernel_rfl) (by simp) ?_
            refine AllReadyH.cons rfl (fun Kx hK => ?_) AllReadyH.nil
            go_simp
            refine hK.out _ _ (by (repeat (first | with_reducible assumption | with_reducible refine Wd2.drew ?_ | with_reducible refine Wd2.alloc ?_ _))) (fun hHeld => ?_)
            clear hK Kx
            refine wpAnyH_ready (rs := [12]) (by kernel_rfl) (by simp) ?_
            refine AllReadyH.cons rfl (fun Kx hK => ?_) AllReadyH.nil
            refine step_append_lies _ rfl (.tmp 40) (.tmp 50) 24 rfl W1.heap.size 32 ii _ 3 48 Tryz.underlying24 hii hz0 hz1 hz2 rfl (by decide) (.slice va ts.length vc) ts.length cs rfl hTx.own ⟨_, 0, none⟩ 1 1 [.string b, .int .i64 V, .slice (some ⟨w3.heap.size, 0, none⟩) 0 0] rfl rfl hnews (by intro u hu; simp at hu; rcases hu with rfl | rfl | rfl <;> rfl) (by decide) (by unfold maxLen; omega) (by omega) (by (try simp); omega) _ rfl ?_
            intro G2 c2 w9 hown hgr hat hlt9
            obtain ⟨k2, g2, hW9, hR9⟩ := spec_push (unhide HT2) cB2 fB2 nb1 nb2 (unhide HBW2) hsw2 hWd hvA hown hgr hat (unhide HStep)
            have HR9 := hide hR9
            refine hK.out _ _ hW9 (fun hHeld => ?_)
            clear hK Kx hown hgr hat hlt9 hR9
            refine tW 13 52 (.pointer (some ⟨W1.heap.size + 1, 0, none⟩)) ?_
            simp only [puts]
            refine wpAnyH_ready (rs := [14]) (by kernel_rfl) (by simp) ?_
            refine AllReadyH.cons rfl (fun Kx hK => ?_) AllReadyH.nil
            go_simp
            refine hK.out _ _ (Wd2.set hW9 hboxA _) (fun hHeld => ?_)
            clear hK Kx
            refine wpAnyH_done (by kernel_rfl) ?_ _
            go_wp2
            go_roundw
            case rel => exact ⟨k + 1, by omega, by go_num, unhide HR9⟩
            case measure => simp [intOf]; omega
          refine AllReadyH.cons rfl (fun Kx hK => ?_) AllReadyH.nil
          go_simp
          refine (unhide HV _).mono ?_
          rintro e w4 ⟨rfl, rfl⟩
          refine hK.out _ _ (by assumption) (fun hHeld => ?_)
          clear hK Kx
          refine tW 10 49 (.agg #[.string b, .int .i64 V, .slice (some ⟨w3.heap.size, 0, none⟩) 0 0]) ?_
          simp only [puts]
          refine wpAnyH_ready (rs := [1, 11]) (by kernel_rfl) (by simp) ?_
          refine AllReadyH.cons rfl (fun Kx hK => ?_) ?_
          · go_simp
            refine hK.out _ _ (by assumption) (fun hHeld => ?_)
            clear hK Kx
            refine wpAnyH_ready (rs := [11]) (by kernel_rfl) (by simp) ?_
            refine AllReadyH.cons rfl (fun Kx hK => ?_) AllReadyH.nil
            go_simp
            refine hK.out _ _ (by (repeat (first | with_reducible assumption | with_reducible refine Wd2.drew ?_ | with_reducible refine Wd2.alloc ?_ _))) (fun hHeld => ?_)
            clear hK Kx
            refine wpAnyH_ready (rs := [12]) (by kernel_rfl) (by simp) ?_
            refine AllReadyH.cons rfl (fun Kx hK => ?_) AllReadyH.nil
            refine step_append_lies _ rfl (.tmp 40) (.tmp 50) 24 rfl W1.heap.size 32 ii _ 3 48 Tryz.underlying24 hii hz0 hz1 hz2 rfl (by decide) (.slice va ts.length vc) ts.length cs rfl hTx.own ⟨_, 0, none⟩ 1 1 [.string b, .int .i64 V, .slice (some ⟨w3.heap.size, 0, none⟩) 0 0] rfl rfl hnews (by intro u hu; simp at hu; rcases hu with rfl | rfl | rfl <;> rfl) (by decide) (by unfold maxLen; omega) (by omega) (by (try simp); omega) _ rfl ?_
            intro G2 c2 w9 hown hgr hat hlt9
            obtain ⟨k2, g2, hW9, hR9⟩ := spec_push (unhide HT2) cB2 fB2 nb1 nb2 (unhide HBW2) hsw2 hWd hvA hown hgr hat (unhide HStep)
            have HR9 := hide hR9
            refine hK.out _ _ hW9 (fun hHeld => ?_)
            clear hK Kx hown hgr hat hlt9 hR9
            refine tW 13 52 (.pointer (some ⟨W1.heap.size + 1, 0, none⟩)) ?_
            simp only [puts]
            refine wpAnyH_ready (rs := [14]) (by kernel_rfl) (by simp) ?_
            refine AllReadyH.cons rfl (fun Kx hK => ?_) AllReadyH.nil
            go_simp
            refine hK.out _ _ (Wd2.set hW9 hboxA _) (fun hHeld => ?_)
            clear hK Kx
            refine wpAnyH_done (by kernel_rfl) ?_ _
            go_wp2
            go_roundw
            case rel => exact ⟨k + 1, by omega, by go_num, unhide HR9⟩
            case measure => simp [intOf]; omega
          refine AllReadyH.cons rfl (fun Kx hK => ?_) AllReadyH.nil
          go_simp
          refine hK.out _ _ (by (repeat (first | with_reducible assumption | with_reducible refine Wd2.drew ?_ | with_reducible refine Wd2.alloc ?_ _))) (fun hHeld => ?_)
          clear hK Kx
          refine wpAnyH_ready (rs := [1]) (by kernel_rfl) (by simp) ?_
          refine AllReadyH.cons rfl (fun Kx hK => ?_) AllReadyH.nil
          go_simp
          refine hK.out _ _ (by assumption) (fun hHeld => ?_)
          clear hK Kx
          refine wpAnyH_ready (rs := [12]) (by kernel_rfl) (by simp) ?_
          refine AllReadyH.cons rfl (fun Kx hK => ?_) AllReadyH.nil
          refine step_append_lies _ rfl (.tmp 40) (.tmp 50) 24 rfl W1.heap.size 32 ii _ 3 48 Tryz.underlying24 hii hz0 hz1 hz2 rfl (by decide) (.slice va ts.length vc) ts.length cs rfl hTx.own ⟨_, 0, none⟩ 1 1 [.string b, .int .i64 V, .slice (some ⟨w3.heap.size, 0, none⟩) 0 0] rfl rfl hnews (by intro u hu; simp at hu; rcases hu with rfl | rfl | rfl <;> rfl) (by decide) (by unfold maxLen; omega) (by omega) (by (try simp); omega) _ rfl ?_
          intro G2 c2 w9 hown hgr hat hlt9
          obtain ⟨k2, g2, hW9, hR9⟩ := spec_push (unhide HT2) cB2 fB2 nb1 nb2 (unhide HBW2) hsw2 hWd hvA hown hgr hat (unhide HStep)
          have HR9 := hide hR9
          refine hK.out _ _ hW9 (fun hHeld => ?_)
          clear hK Kx hown hgr hat hlt9 hR9
          refine tW 13 52 (.pointer (some ⟨W1.heap.size + 1, 0, none⟩)) ?_
          simp only [puts]
          refine wpAnyH_ready (rs := [14]) (by kernel_rfl) (by simp) ?_
          refine AllReadyH.cons rfl (fun Kx hK => ?_) AllReadyH.nil
          go_simp
          refine hK.out _ _ (Wd2.set hW9 hboxA _) (fun hHeld => ?_)
          clear hK Kx
          refine wpAnyH_done (by kernel_rfl) ?_ _
          go_wp2
          go_roundw
          case rel => exact ⟨k + 1, by omega, by go_num, unhide HR9⟩
          case measure => simp [intOf]; omega
        · rw [dB_false hit] at HIT
          by_cases hir : IsRowW (a :: r) ∧ ts ≠ []
          · rw [dB_true hir.1] at HIR
            have hval : ∀ x ∈ r, ValB x := by
              obtain ⟨a', r', e, _, h2⟩ := hir.1
              simp at e
              rw [e.2]
              exact h2
            have hcs : ∃ ts0 t, ts = ts0 ++ [t] := by
              rcases List.eq_nil_or_concat ts with h | ⟨l, x, h⟩
              · exact absurd h hir.2
              · exact ⟨l, x, by rw [h]; simp⟩
            obtain ⟨ts, t, rfl⟩ := hcs
            rw [lnW_isRow hir.1 hir.2, addR_snoc] at HStep
            have HVal := hide hval
            clear hval hir hit
            have hLen : (ts ++ [t]).length = ts.length + 1 := by simp
            rw [hLen] at HT2 cB2 nb1 hvA hbts
            have hgv : ∃ g, va = some ⟨g, 0, none⟩ := by
              rcases (unhide HT2).own.2 with ⟨h1, h2⟩ | ⟨g, cap, cur, h1, _⟩
              · simp at h2
              · simp at h1
                exact ⟨g, h1.1⟩
            obtain ⟨g, rfl⟩ := hgv
            have jl : (0 : Int) ≤ (ts.length : Int) := by omega
            go_wp2_with fail
            refine (unhide HIT).mono ?_; rintro e w3 ⟨rfl, rfl⟩
            go_wp2_with fail
            refine (unhide HIR).mono ?_; rintro e w3 ⟨rfl, rfl⟩
            go_wp2
            clear HIT HIR
            have HRow0 : Hid ((w3.alloc (.cells #[] 54)).ownsRow w3.heap.size 54 2 (.slice (some ⟨w3.heap.size, 0, none⟩) 0 0) 0 []) := World.ownsRow_made w3 #[] 0 (Nat.le_refl _) (by unfold maxLen; decide) rfl
            go_loopw [9, 10] (fun q p wi => ∃ (jj gR cR : Nat), jj ≤ r.length ∧ p = .int .i64 ((jj : Int) + 1) ∧ q = .slice (some ⟨gR, 0, none⟩) jj cR ∧ wi.ownsRow w3.heap.size 54 2 (.slice (some ⟨gR, 0, none⟩) jj cR) jj (flatR ((r.take jj).map valW)) ∧ Below w3.heap.size w3 wi) (fun _ p _ => r.length + 1 - (intOf p).toNat)
            case atStart => exact ⟨0, w3.heap.size, 0, Nat.zero_le _, rfl, rfl, by simpa [flatR] using unhide HRow0, bA (Below.refl _ _) _⟩
            case round =>
              obtain ⟨jj, gR, cR, hjj, rfl, rfl, hoR, hbi⟩ := hrel
              clear HRow0
              have hsi := hbi.size
              by_cases hjl : jj < r.length
              · have j4 : (jj : Int) < (r.length : Int) := by omega
                have hwj := (hbi.cell (p := ⟨A, 0 + (jj + 1), none⟩) hA2).trans ((unhide HWA).2 (jj + 1) r[jj] (by simp [hjl]))
                rw [Nat.zero_add] at hwj
                have HVO := hide (fun W => l3ValOf_calls r[jj] W (unhide HX r[jj] (by simp)).1 (unhide HVal r[jj] (List.getElem_mem hjl)))
                have HTk2 : Hid (flatR ((r.take (jj + 1)).map valW) = flatR ((r.take jj).map valW) ++ [.bool (valW r[jj]).1, .int .i64 (valW r[jj]).2]) := by
                  show _ = _
                  rw [take_snoc r jj hjl, List.map_append, flatR_append]
                  rfl
                have HOR := hide hoR; have HBi := hide hbi
                obtain ⟨i2, hi2, hy⟩ := Option.map_eq_some_iff.1 (show (Tryz.prog.info? 54).map (fun i => (i.zero, i.size, i.bytes)) = some (some (.agg #[.bool false, .int .i64 0]), 2, 16) by kernel_rfl)
                simp only [Prod.mk.injEq] at hy
                obtain ⟨hy0, hy1, hy2⟩ := hy
                generalize valW r[jj] = vw at *
                generalize r[jj] = yw at *
                clear hoR hbi
                go_wp2_with fail
                refine (unhide HVO _).mono ?_; rintro e w5 ⟨rfl, hb5⟩
                have HOR5 := hide (((ownsRow_butB (S := fun _ => False) (unhide HOR) (ButB.ofBelow hb5) (fun _ _ e => e))).alloc (.cells #[.bool vw.1, .int .i64 vw.2] 54))
                have HBi5 := hide (bA (bT (unhide HBi) hb5) (.cells #[.bool vw.1, .int .i64 vw.2] 54))
                have hs5 := hb5.size
                clear hb5 HOR HBi HVO hwj
                go_wp2_with (at_builtin; refine wpList_append_lies _ rfl (.tmp 66) (.tmp 72) 52 rfl w3.heap.size 54 i2 _ 2 16 Tryz.underlying52 hi2 hy0 hy1 hy2 rfl (by decide) (.slice (some ⟨gR, 0, none⟩) jj cR) jj (flatR ((r.take jj).map valW)) rfl (unhide HOR5) ⟨w5.heap.size, 0, none⟩ 1 1 [.bool vw.1, .int .i64 vw.2] rfl rfl (World.news_of_block (cs := #[.bool vw.1, .int .i64 vw.2]) (MapKept.heap_alloc w5 _).1) (by intro u hu; simp at hu; rcases hu with rfl | rfl <;> rfl) (by decide) (by unfold maxLen; omega) (by omega) (by simp; omega) _ rfl ?_; intro gR2 cR2 w6 hown6 hgr6 hat6 hlt6)
                have HO6 : Hid (w6.ownsRow w3.heap.size 54 2 (.slice (some ⟨gR2, 0, none⟩) (jj + 1) cR2) (jj + 1) (flatR ((r.take (jj + 1)).map valW))) := by
                  show World.ownsRow _ _ _ _ _ _ _
                  rw [unhide HTk2]
                  exact hown6
                have HB6 := hide ((unhide HBi5).grown hgr6 (by simp; omega) (fun q hq => ((unhide HOR5).lt q hq).1))
                clear hown6 hgr6 hat6 hlt6 HOR5 HBi5 HTk2
                go_roundw
                case rel => exact ⟨jj + 1, gR2, cR2, by omega, by go_num, rfl, unhide HO6, unhide HB6⟩
                case measure => simp [intOf]; omega
              · obtain rfl : jj = r.length := by omega
                rw [List.take_length] at hoR
                obtain ⟨xs, hxs⟩ : ∃ xs, xs = r.map valW := ⟨_, rfl⟩
                rw [← hxs] at hoR HStep
                have hxl : r.length = xs.length := by rw [hxs]; simp
                obtain ⟨hrow, hcap, hgR⟩ := ownR hoR hxl
                obtain ⟨u, rs, c0, c1, c2', hm, hrs⟩ := (unhide HT2).tab ts.length t (by simp)
                obtain ⟨ua, uc, hu⟩ : ∃ ua uc, u = .slice ua rs.length uc := by
                  rcases hrs.1.2 with ⟨h1, h2⟩ | ⟨g', cap', cur', h1, _⟩
                  · exact ⟨none, 0, by rw [h1, h2]⟩
                  · exact ⟨_, _, h1⟩
                subst hu
                have hrl : rs.length ≤ 20001 := by
                  have h1 : t.Rows.length ≤ bulkT (ts ++ [t]) := by have := bulkT_mem (show t ∈ ts ++ [t] by simp); omega
                  rw [← hm] at h1
                  simp at h1
                  omega
                have hgl := ((unhide HT2).blk g rfl).2.1
                have hcu : w3.cell? ⟨g, ts.length * 3 + 2, none⟩ = some (.slice ua rs.length uc) := by
                  have := (unhide HT2).own
                  rw [hLen] at this
                  rw [this.cellAt _ (by omega)]; exact c2'
                have ku := (hbi.cell (p := ⟨g, ts.length * 3 + 2, none⟩) hgl).trans hcu
                have kb := (hbi.cell (p := ⟨W1.heap.size + 1, 0, none⟩) (by dsimp only; omega)).trans cB2
                have HM := hide hm; have HRs := hide hrs; have HRw := hide hrow; have HBi := hide hbi
                obtain ⟨i2, hi2, hy⟩ := Option.map_eq_some_iff.1 (show (Tryz.prog.info? 52).map (fun i => (i.zero, i.size, i.bytes)) = some (some (.slice none 0 0), 1, 24) by kernel_rfl)
                simp only [Prod.mk.injEq] at hy
                obtain ⟨hy0, hy1, hy2⟩ := hy
                rw [hxl] at hcap ⊢
                clear hm hrs hrow hbi hoR c0 c1 c2' hxs HVal hjl
                have hgi : g < wr.heap.size := by omega
                have hbxr : W1.heap.size + 1 < wr.heap.size := by omega
                have jll : ¬ ((ts.length : Int) + 1 ≤ (ts.length : Int)) := by omega
                have jll2 : (ts.length : Int) < (ts.length : Int) + 1 := by omega
                have hRx : RowsL ((wr.alloc (.cells #[.slice (some ⟨gR, 0, none⟩) xs.length cR] 52)).drew) lab W1.heap.size ts.length (.slice ua rs.length uc) rs := (unhide HRs).butB (S := fun _ => False) (ButB.ofBelow (Below.drew (bA (unhide HBi) _))) (fun _ _ _ e => e)
                have kuA := (alloc_cell wr (.cells #[.slice (some ⟨gR, 0, none⟩) xs.length cR] 52) g (ts.length * 3 + 2) hgi).trans ku
                go_wp2_with fail
                refine wp_region_held_drew (S := Bx1 W1.heap.size (.slice (some ⟨g, 0, none⟩) (ts.length + 1) vc)) (by kernel_rfl) ⟨kb, trivial⟩ (fun hHeld => ?_)
                refine tW 0 74 (.pointer (some ⟨W1.heap.size + 1, 0, none⟩)) ?_
                simp only [puts]
                refine tW 1 75 ((.slice (some ⟨g, 0, none⟩) (ts.length + 1) vc)) ?_
                simp only [puts]
                refine tW 2 76 (.int .i64 (ts.length : Int)) ?_
                simp only [puts]
                refine tW 3 77 (.pointer (some ⟨W1.heap.size + 1, 0, none⟩)) ?_
                simp only [puts]
                refine tW 4 78 ((.slice (some ⟨g, 0, none⟩) (ts.length + 1) vc)) ?_
                simp only [puts]
                refine tW 5 79 (.int .i64 (ts.length : Int)) ?_
                simp only [puts]
                refine tW 6 80 (.pointer (some ⟨g, ts.length * 3, none⟩)) ?_
                simp only [puts]
                refine tW 7 81 (.pointer (some ⟨g, ts.length * 3 + 2, none⟩)) ?_
                simp only [puts]
                refine tW 9 83 (.slice (some ⟨gR, 0, none⟩) xs.length cR) ?_
                simp only [puts]
                refine wpAnyH_ready (rs := [8, 10]) (by kernel_rfl) (by simp) ?_
                refine AllReadyH.cons rfl (fun Kx hK => ?_) ?_
                · go_simp
                  refine hK.out _ _ (by assumption) (fun hHeld => ?_)
                  clear hK Kx
                  refine wpAnyH_ready (rs := [10]) (by kernel_rfl) (by simp) ?_
                  refine AllReadyH.cons rfl (fun Kx hK => ?_) AllReadyH.nil
                  go_simp
                  refine hK.out _ _ (hHeld.alloc hbxr _) (fun hHeld => ?_)
                  clear hK Kx
                  refine wpAnyH_ready (rs := [11]) (by kernel_rfl) (by simp) ?_
                  refine AllReadyH.cons rfl (fun Kx hK => ?_) AllReadyH.nil
                  refine step_append_lies _ rfl (.tmp 82) (.tmp 84) 30 rfl W1.heap.size 52 i2 _ 1 24 Tryz.underlying30 hi2 hy0 hy1 hy2 rfl (by decide) (.slice ua rs.length uc) rs.length (rs.map rv) rfl hRx.1 ⟨_, 0, none⟩ 1 1 [.slice (some ⟨gR, 0, none⟩) xs.length cR] rfl rfl (World.news_of_block (cs := #[.slice (some ⟨gR, 0, none⟩) xs.length cR]) (MapKept.heap_alloc wr _).1) (by intro u hu; simp at hu; subst hu; rfl) (by decide) (by unfold maxLen; omega) (by omega) (by (try simp); omega) _ rfl ?_
                  intro G2 c2 w9 hown hgr hat hlt9
                  obtain ⟨m1, m2, m3, m4, hR9⟩ := spec_row (unhide HT2) (unhide HBi) (unhide HM) (unhide HRs) hcu cB2 fB2 nb1 nb2 (unhide HBW2) hsw2 hgR (unhide HRw) hcap hown hgr hat (unhide HStep)
                  have HR9 := hide hR9
                  refine hK.out _ _ ⟨m1, trivial⟩ (fun hHeld => ?_)
                  clear hK Kx hown hgr hat hlt9 hR9
                  refine tW 12 86 (.pointer (some ⟨g, ts.length * 3, none⟩)) ?_
                  simp only [puts]
                  refine tW 13 87 (.pointer (some ⟨g, ts.length * 3 + 2, none⟩)) ?_
                  simp only [puts]
                  refine wpAnyH_ready (rs := [14]) (by kernel_rfl) (by simp) ?_
                  refine AllReadyH.cons rfl (fun Kx hK => ?_) AllReadyH.nil
                  go_simp
                  refine hK.out _ _ ⟨m4, trivial⟩ (fun hHeld => ?_)
                  clear hK Kx
                  refine wpAnyH_done (by kernel_rfl) ?_ _
                  go_wp2
                  go_roundw
                  case rel => exact ⟨k + 1, by omega, by go_num, unhide HR9⟩
                  case measure => simp [intOf]; omega
                refine AllReadyH.cons rfl (fun Kx hK => ?_) AllReadyH.nil
                go_simp
                refine hK.out _ _ (hHeld.alloc hbxr _) (fun hHeld => ?_)
                clear hK Kx
                refine wpAnyH_ready (rs := [8]) (by kernel_rfl) (by simp) ?_
                refine AllReadyH.cons rfl (fun Kx hK => ?_) AllReadyH.nil
                go_simp
                refine hK.out _ _ (by assumption) (fun hHeld => ?_)
                clear hK Kx
                refine wpAnyH_ready (rs := [11]) (by kernel_rfl) (by simp) ?_
                refine AllReadyH.cons rfl (fun Kx hK => ?_) AllReadyH.nil
                refine step_append_lies _ rfl (.tmp 82) (.tmp 84) 30 rfl W1.heap.size 52 i2 _ 1 24 Tryz.underlying30 hi2 hy0 hy1 hy2 rfl (by decide) (.slice ua rs.length uc) rs.length (rs.map rv) rfl hRx.1 ⟨_, 0, none⟩ 1 1 [.slice (some ⟨gR, 0, none⟩) xs.length cR] rfl rfl (World.news_of_block (cs := #[.slice (some ⟨gR, 0, none⟩) xs.length cR]) (MapKept.heap_alloc wr _).1) (by intro u hu; simp at hu; subst hu; rfl) (by decide) (by unfold maxLen; omega) (by omega) (by (try simp); omega) _ rfl ?_
                intro G2 c2 w9 hown hgr hat hlt9
                obtain ⟨m1, m2, m3, m4, hR9⟩ := spec_row (unhide HT2) (unhide HBi) (unhide HM) (unhide HRs) hcu cB2 fB2 nb1 nb2 (unhide HBW2) hsw2 hgR (unhide HRw) hcap hown hgr hat (unhide HStep)
                have HR9 := hide hR9
                refine hK.out _ _ ⟨m1, trivial⟩ (fun hHeld => ?_)
                clear hK Kx hown hgr hat hlt9 hR9
                refine tW 12 86 (.pointer (some ⟨g, ts.length * 3, none⟩)) ?_
                simp only [puts]
                refine tW 13 87 (.pointer (some ⟨g, ts.length * 3 + 2, none⟩)) ?_
                simp only [puts]
                refine wpAnyH_ready (rs := [14]) (by kernel_rfl) (by simp) ?_
                refine AllReadyH.cons rfl (fun Kx hK => ?_) AllReadyH.nil
                go_simp
                refine hK.out _ _ ⟨m4, trivial⟩ (fun hHeld => ?_)
                clear hK Kx
                refine wpAnyH_done (by kernel_rfl) ?_ _
                go_wp2
                go_roundw
                case rel => exact ⟨k + 1, by omega, by go_num, unhide HR9⟩
                case measure => simp [intOf]; omega
          · rw [lnW_bad hit hir] at HStep
            have HNo := hide (unhide HLn _ (unhide HStep))
            have hr2 := ((unhide HBW2).cell (p := ⟨w.heap.size, 0, none⟩) (by dsimp only; omega)).trans hr0
            have hf2 := ((unhide HBW2).frozen (p := ⟨w.heap.size, 0, none⟩) (by dsimp only; omega)).trans hf0
            have hr3 := World.cell?_setCell_same w2 ⟨w.heap.size, 0, none⟩ (.slice none 0 0) hr2
            by_cases hrw : IsRowW (a :: r)
            · rw [dB_true hrw] at HIR
              obtain rfl : ts = [] := Classical.byContradiction (fun e => hir ⟨hrw, e⟩)
              clear hit hir hrw
              go_wp2_with fail
              refine (unhide HIT).mono ?_; rintro e w3 ⟨rfl, rfl⟩
              go_wp2_with fail
              refine (unhide HIR).mono ?_; rintro e w3 ⟨rfl, rfl⟩
              go_wp2
              refine bodyPost_ret (v := .tuple #[.agg #[.slice none 0 0], .int .i64 2]) (by simp [results, Tryz.results5, go_sem, hr3]) rfl ⟨Or.inr (Or.inl ⟨h, by rw [unhide HLN]; exact unhide HNo, rfl⟩), ?_⟩
              exact (bT' (unhide HB1) (unhide HBW2) hs1).setCell (p := ⟨w.heap.size, 0, none⟩) (Nat.le_refl _) _
            · rw [dB_false hrw] at HIR
              clear hit hir hrw
              go_wp2_with fail
              refine (unhide HIT).mono ?_; rintro e w3 ⟨rfl, rfl⟩
              go_wp2_with fail
              refine (unhide HIR).mono ?_; rintro e w3 ⟨rfl, rfl⟩
              go_wp2
              refine bodyPost_ret (v := .tuple #[.agg #[.slice none 0 0], .int .i64 2]) (by simp [results, Tryz.results5, go_sem, hr3]) rfl ⟨Or.inr (Or.inl ⟨h, by rw [unhide HLN]; exact unhide HNo, rfl⟩), ?_⟩
              exact (bT' (unhide HB1) (unhide HBW2) hs1).setCell (p := ⟨w.heap.size, 0, none⟩) (Nat.le_refl _) _
    · obtain rfl : k = ln.length := by omega
      rw [unhide HAll] at h1
      have hbts := unhide HBk ln.length ts (by rw [unhide HAll]; exact h1)
      obtain ⟨va, vc, hv⟩ := hT.slice
      subst hv
      have HD := hide (sDbOk_X ts va vc wr hT.tabsX (by omega) (by unfold SmallT; omega))
      have HIff : Hid (dB (DbV ts) = true ↔ DbV ts) := dB_iff
      have HT := hide hT; have HBW := hide hbW; have H1 := hide h1
      have hr2 := (hbW.cell (p := ⟨w.heap.size, 0, none⟩) (by dsimp only; omega)).trans hr0
      have hf2 := (hbW.frozen (p := ⟨w.heap.size, 0, none⟩) (by dsimp only; omega)).trans hf0
      generalize dB (DbV ts) = ok at *
      clear hT hbW h1 HLx HBk HAll HTk HLn HWL
      go_wp2_with fail
      refine (unhide HD).mono ?_; rintro e w3 ⟨rfl, hb3⟩
      have hs3 := hb3.size
      have hr3 := (hb3.cell (p := ⟨w.heap.size, 0, none⟩) (by dsimp only; omega)).trans hr2
      have hf3 := (hb3.frozen (p := ⟨w.heap.size, 0, none⟩) (by dsimp only; omega)).trans hf2
      have cB3 := (hb3.cell (p := ⟨W1.heap.size + 1, 0, none⟩) (by dsimp only; omega)).trans cB
      have HT3 := hide ((unhide HT).of hb3); have HBW3 := hide ((unhide HBW).trans (hb3.mono hsz1))
      clear hb3 HD hr2 hf2 cB fB HT HBW
      cases ok
      · have HNo : Hid (¬ DbV ts) := fun hv => by have := (unhide HIff).2 hv; cases this
        have hr4 := World.cell?_setCell_same w3 ⟨w.heap.size, 0, none⟩ (.slice none 0 0) hr3
        go_wp2
        refine bodyPost_ret (v := .tuple #[.agg #[.slice none 0 0], .int .i64 3]) (by simp [results, Tryz.results5, go_sem, hr4]) rfl ⟨Or.inr (Or.inr ⟨ts, h, by rw [unhide HLN]; exact unhide H1, Or.inl ⟨unhide HNo, rfl⟩⟩), ?_⟩
        exact (bT' (unhide HB1) (unhide HBW3) hs1).setCell (p := ⟨w.heap.size, 0, none⟩) (Nat.le_refl _) _
      · have HYes : Hid (DbV ts) := (unhide HIff).1 (by first | rfl | trivial)
        have hr4 := World.cell?_setCell_same w3 ⟨w.heap.size, 0, none⟩ (.slice va ts.length vc) hr3
        have hT3 := unhide HT3
        have HTf := hide (hT3.butB (S := fun b => b = w.heap.size) (ButB.set (S := fun b => b = w.heap.size) (g := w.heap.size) (o := 0) (ButB.refl _ w3) (Or.inl rfl) (.slice va ts.length vc)) (fun g e e' => by have := (hT3.blk g e).1; omega) (fun b e e' => by have := (hT3.rng b e).1; omega))
        clear hT3
        go_wp2
        refine bodyPost_ret (v := .tuple #[.agg #[.slice va ts.length vc], .int .i64 0]) (by simp [results, Tryz.results5, go_sem, hr4]) rfl ⟨Or.inr (Or.inr ⟨ts, h, by rw [unhide HLN]; exact unhide H1, Or.inr ⟨unhide HYes, .slice va ts.length vc, lab, cs, W1.heap.size, rfl, by omega, unhide HTf⟩⟩), ?_⟩
        exact (bT' (unhide HB1) (unhide HBW3) hs1).setCell (p := ⟨w.heap.size, 0, none⟩) (Nat.le_refl _) _
theorem sReadDb_calls (T : ByteArray) (w : World) : Calls Tryz.prog 5 #[.string T] w (ReadPost T w) := by
  by_cases h : 20000 < T.size
  · exact sReadDb_long T w h
  · exact sReadDb_short T w (by omega)
end Go.Proofs.YtbbjhepagkkjeaaGreatDoor
