import Derived.Test.YtbbjhepagkkjeaaGreatDoorQ43
import Derived.Test.YtbbjhepagkkjeaaGreatDoorQ28
namespace Go.Proofs.YtbbjhepagkkjeaaGreatDoor
open Go Go.RowKit Go.Shelf
attribute [local go_sem] Oper.semAt_some
def noDb (k : Int) : Ending := .returned (.tuple #[.agg #[.slice none 0 0], .int .i64 k])
def ReadPost (T : ByteArray) (w : World) (e : Ending) (w' : World) : Prop :=
  ((20000 < T.size ∧ e = noDb 1) ∨ (T.size ≤ 20000 ∧ readL [] (linesOf T) = none ∧ e = noDb 2) ∨
    ∃ ts, T.size ≤ 20000 ∧ readL [] (linesOf T) = some ts ∧ ((¬ DbV ts ∧ e = noDb 3) ∨ (DbV ts ∧ ∃ v lab cs B, e = .returned (.tuple #[.agg #[v], .int .i64 0]) ∧ w.heap.size ≤ B ∧ TabG w' lab B v cs ts))) ∧ Below w.heap.size w w'
set_option maxHeartbeats 2000000 in
theorem ReadDb_long (T : ByteArray) (w : World) (h : 20000 < T.size) : Calls Tryz.prog 6 #[.string T] w (ReadPost T w) := by
  have j : (20000 : Int) < (T.size : Int) := by omega
  go_enter Tryz.func6, Tryz.ntmps6
  go_wp2
  refine bodyPost_ret (v := .tuple #[.agg #[.slice none 0 0], .int .i64 1]) (by simp [results, Tryz.results6, go_sem]) rfl ⟨Or.inl ⟨h, rfl⟩, ?_⟩
  (repeat (first | refine Below.setCell ?_ (by dsimp only; omega) _ | refine bA ?_ _ | refine Below.drew ?_)); exact Below.refl _ _
def RdI (w : World) (pre : List ByteArray) (W : World) : Prop :=
  ∃ ts, readL [] pre = some ts ∧ ∃ v lab cs, W.cell? ⟨w.heap.size + 2, 0, none⟩ = some v ∧ W.frozen? ⟨w.heap.size + 2, 0, none⟩ = false ∧ TabG W lab (w.heap.size + 8) v cs ts ∧
    (W.cell? ⟨w.heap.size, 0, none⟩ = some (.slice none 0 0) ∧ W.frozen? ⟨w.heap.size, 0, none⟩ = false ∧ W.cell? ⟨w.heap.size + 1, 0, none⟩ = some (.int .i64 0) ∧ W.frozen? ⟨w.heap.size + 1, 0, none⟩ = false) ∧ w.heap.size + 8 ≤ W.heap.size ∧ Below w.heap.size w W
def RdIx (w : World) (pre : List ByteArray) (W : World) : Prop :=
  readL [] pre = none ∧ W.cell? ⟨w.heap.size, 0, none⟩ = some (.slice none 0 0) ∧ W.cell? ⟨w.heap.size + 1, 0, none⟩ = some (.int .i64 2) ∧ w.heap.size + 8 ≤ W.heap.size ∧ Below w.heap.size w W
theorem put_cell (V : World) (l b k : Nat) (o : Obj) (h : b ≠ l) : (V.putObj l o).cell? ⟨b, k, none⟩ = V.cell? ⟨b, k, none⟩ := World.cell?_of_block (a := ⟨b, k, none⟩) (World.putObj_heap_other h)
theorem put_frz (V : World) (l b k : Nat) (o : Obj) (h : b ≠ l) : (V.putObj l o).frozen? ⟨b, k, none⟩ = V.frozen? ⟨b, k, none⟩ := World.frozen?_of_block (a := ⟨b, k, none⟩) (World.putObj_heap_other h)
theorem put_butB (V : World) (l : Nat) (o : Obj) : ButB (fun b => b = l) V (V.putObj l o) := ButB.grown (grownBy_putObj' V l o) (fun b e => by simpa using e.symm)
theorem RdI.put {w : World} {pre : List ByteArray} {V : World} (o : Obj) (h : RdI w pre V) : RdI w pre (V.putObj (w.heap.size + 6 + 1) o) := by
  obtain ⟨ts, h1, v, lab, cs, h2, h3, h4, ⟨h5, h6, h7, h8⟩, h9, h10⟩ := h
  refine ⟨ts, h1, v, lab, cs, by rw [put_cell _ _ _ _ _ (by omega)]; exact h2, by rw [put_frz _ _ _ _ _ (by omega)]; exact h3, h4.butB (put_butB V _ o) (fun g e e' => by have := (h4.blk g e).1; omega) (fun b e e' => by have := (h4.rng b e).1; omega),
    ⟨by rw [put_cell _ _ _ _ _ (by omega)]; exact h5, by rw [put_frz _ _ _ _ _ (by omega)]; exact h6, by rw [put_cell _ _ _ _ _ (by omega)]; exact h7, by rw [put_frz _ _ _ _ _ (by omega)]; exact h8⟩, by simpa using h9, h10.trans ((put_butB V _ o).below (by omega) (fun b e => by omega))⟩
theorem RdIx.put {w : World} {pre : List ByteArray} {V : World} (o : Obj) (h : RdIx w pre V) : RdIx w pre (V.putObj (w.heap.size + 6 + 1) o) := by
  obtain ⟨h1, h5, h7, h9, h10⟩ := h
  exact ⟨h1, by rw [put_cell _ _ _ _ _ (by omega)]; exact h5, by rw [put_cell _ _ _ _ _ (by omega)]; exact h7, by simpa using h9, h10.trans ((put_butB V _ o).below (by omega) (fun b e => by omega))⟩
theorem RdI.set {w : World} {pre : List ByteArray} {V : World} (x : Value) (h : RdI w pre V) : RdI w pre (V.setCell ⟨w.heap.size + 3, 0, none⟩ x) := by
  obtain ⟨ts, h1, v, lab, cs, h2, h3, h4, ⟨h5, h6, h7, h8⟩, h9, h10⟩ := h
  refine ⟨ts, h1, v, lab, cs, by rw [setCell_far (by omega)]; exact h2, by rw [frozen_setCell]; exact h3, h4.butB (ButB.set (S := fun b => b = w.heap.size + 3) (ButB.refl _ V) (Or.inl rfl) x) (fun g e e' => by have := (h4.blk g e).1; omega) (fun b e e' => by have := (h4.rng b e).1; omega),
    ⟨by rw [setCell_far (by omega)]; exact h5, by rw [frozen_setCell]; exact h6, by rw [setCell_far (by omega)]; exact h7, by rw [frozen_setCell]; exact h8⟩, by simpa using h9, h10.setCell (p := ⟨w.heap.size + 3, 0, none⟩) (by dsimp only; omega) x⟩
def LineQ (w : World) (B : Nat) (ts : List Tb) (ws : List ByteArray) (e : Ending) (w' : World) : Prop :=
  ∃ a n c ok, e = .returned (.tuple #[.slice a n c, .bool ok]) ∧ (ok = true → ∃ ts', lnW ts ws = some ts' ∧ ∃ lab' cs', TabG w' lab' B (.slice a n c) cs' ts') ∧ (ok = false → lnW ts ws = none) ∧ Chg B w w'
theorem LinePost.q {w w' : World} {B : Nat} {ts : List Tb} {ws : List ByteArray} {e : Ending} (h : LinePost w B ts ws e w') : LineQ w B ts ws e w' := by
  rcases h with ⟨(⟨ts', hs, v', lab', cs', rfl, hT'⟩ | ⟨hs, a', n', c', rfl⟩), hC⟩
  · obtain ⟨va, vc, rfl⟩ := hT'.slice
    exact ⟨_, _, _, true, rfl, fun _ => ⟨ts', hs, lab', cs', hT'⟩, fun e => (by cases e), hC⟩
  · exact ⟨_, _, _, false, rfl, fun e => (by cases e), fun _ => hs, hC⟩
theorem words_of {w : World} {B A : Nat} {ws : List ByteArray} (h : w.ownsRow B 9 1 (.slice (some ⟨A, 0, none⟩) ws.length ws.length) ws.length (ws.map Value.string)) : WordsAt w A 0 ws :=
  ⟨(h.lt A rfl).2, fun i x hx => by
    have hi := (List.getElem?_eq_some_iff.1 hx).1
    rw [Nat.zero_add, h.cellAt i (by omega), List.getElem?_map, hx]
    rfl⟩
theorem chg2 {B : Nat} {W W2 w2 : World} (hb : Below W.heap.size W W2) (hB : B ≤ W.heap.size) (hC : Chg B W2 w2) : Chg B W w2 := (Chg.below hb hB).trans hC
theorem box_chg {B b1 b2 b3 : Nat} {W w2 : World} (h : Chg B W w2) (h1 : b1 < B) (h2 : b2 < B) (h3 : b3 < B) : Box3 b1 b2 b3 W w2 := ⟨h.low.block _ h1, h.low.block _ h2, h.low.block _ h3⟩
theorem set_heap (V : World) (g o k : Nat) (x : Value) (h : k ≠ g) : (V.setCell ⟨g, o, none⟩ x).heap[k]? = V.heap[k]? := Below.heap_setCell V ⟨g, o, none⟩ x k h
theorem round_yes {w W w2 : World} {pre : List ByteArray} {x : ByteArray} {ts : List Tb} {ws : List ByteArray} {a' : Option Addr} {n' c' : Nat} (hC : Chg (w.heap.size + 8) W w2) (hS : readL [] (pre ++ [x]) = lnW ts ws)
    (hy : ∃ ts', lnW ts ws = some ts' ∧ ∃ lab' cs', TabG w2 lab' (w.heap.size + 8) (.slice a' n' c') cs' ts') (q0 : w2.cell? ⟨w.heap.size, 0, none⟩ = some (.slice none 0 0)) (q1 : w2.cell? ⟨w.heap.size + 1, 0, none⟩ = some (.int .i64 0)) {z : Value} (q2 : w2.cell? ⟨w.heap.size + 2, 0, none⟩ = some z)
    (r0 : w2.frozen? ⟨w.heap.size, 0, none⟩ = false) (r1 : w2.frozen? ⟨w.heap.size + 1, 0, none⟩ = false) (r2 : w2.frozen? ⟨w.heap.size + 2, 0, none⟩ = false) (hsW : w.heap.size + 8 ≤ W.heap.size) (hb : Below w.heap.size w w2) (act : Act) :
    roundTo (w.heap.size + 3) (w.heap.size + 4) (w.heap.size + 5) (RdI w) (RdIx w) (pre ++ [x]) W Exit.normal act (w2.setCell ⟨w.heap.size + 2, 0, none⟩ (.slice a' n' c')) := by
  obtain ⟨ts', h1, lab', cs', hT⟩ := hy
  have hsz := hC.low.size
  refine ⟨hC.oth.trans (KeepsOthers.setCell _ _ _), (box_chg hC (by omega) (by omega) (by omega)).trans ⟨set_heap _ _ _ _ _ (by omega), set_heap _ _ _ _ _ (by omega), set_heap _ _ _ _ _ (by omega)⟩, ts', hS.trans h1, .slice a' n' c', lab', cs', World.cell?_setCell_same _ _ _ q2, by rw [frozen_setCell]; exact r2,
    hT.butB (ButB.set (S := fun b => b = w.heap.size + 2) (ButB.refl _ w2) (Or.inl rfl) _) (fun g e e' => by have := (hT.blk g e).1; omega) (fun b e e' => by have := (hT.rng b e).1; omega), ⟨by rw [setCell_far (by omega)]; exact q0, by rw [frozen_setCell]; exact r0, by rw [setCell_far (by omega)]; exact q1, by rw [frozen_setCell]; exact r1⟩, by simp; omega, hb.setCell (p := ⟨w.heap.size + 2, 0, none⟩) (by dsimp only; omega) _⟩
theorem round_no {w W w2 : World} {pre : List ByteArray} {x : ByteArray} {ts : List Tb} {ws : List ByteArray} (hC : Chg (w.heap.size + 8) W w2) (hS : readL [] (pre ++ [x]) = lnW ts ws) (hn : lnW ts ws = none)
    (q0 : w2.cell? ⟨w.heap.size, 0, none⟩ = some (.slice none 0 0)) (q1 : w2.cell? ⟨w.heap.size + 1, 0, none⟩ = some (.int .i64 0)) (hsW : w.heap.size + 8 ≤ W.heap.size) (hb : Below w.heap.size w w2) (act : Act) :
    roundTo (w.heap.size + 3) (w.heap.size + 4) (w.heap.size + 5) (RdI w) (RdIx w) (pre ++ [x]) W Exit.ret act ((w2.setCell ⟨w.heap.size, 0, none⟩ (.slice none 0 0)).setCell ⟨w.heap.size + 1, 0, none⟩ (.int .i64 2)) := by
  have hsz := hC.low.size
  exact ⟨(hC.oth.trans (KeepsOthers.setCell _ _ _)).trans (KeepsOthers.setCell _ _ _), hS.trans hn, by rw [setCell_far (by omega)]; exact World.cell?_setCell_same _ _ _ q0, World.cell?_setCell_same _ _ _ (by rw [setCell_far (by omega)]; exact q1), by simp; omega, (hb.setCell (p := ⟨w.heap.size, 0, none⟩) (by dsimp only; omega) _).setCell (p := ⟨w.heap.size + 1, 0, none⟩) (by dsimp only; omega) _⟩
set_option maxRecDepth 100000 in
set_option maxHeartbeats 4000000 in
theorem ReadDb_short (T : ByteArray) (w : World) (h : T.size ≤ 20000) (hK : TKw w) : Calls Tryz.prog 6 #[.string T] w (ReadPost T w) := by
  have j : ¬ (20000 : Int) < (T.size : Int) := by omega
  have HSp := hide (fun W => splitSeq_calls T W)
  refine (callsIn_wide (n := 3)).1 ?_
  refine callsIn_of_wp_marks Tryz.func6 rfl trivial ?_
  simp only [Tryz.ntmps6, List.size_toArray, List.length_cons, List.length_nil, Nat.reduceAdd, Nat.reduceSub, Array.replicate_succ, Array.replicate_zero, List.push_toArray, List.append_toArray, List.nil_append, List.cons_append]
  gi_wp2_with fail
  refine ⟨trivial, (callsIn_wide.2 (unhide HSp _)).mono ?_⟩
  rintro e w1 ⟨rfl, rfl⟩
  gi_wp2_with fail
  simp only [show w.heap.size + 1 + 1 + 1 + 2 = w.heap.size + 5 from rfl, show w.heap.size + 1 + 1 + 1 + 1 = w.heap.size + 4 from rfl, show w.heap.size + 1 + 1 + 1 = w.heap.size + 3 from rfl, show w.heap.size + 1 + 1 = w.heap.size + 2 from rfl]
  obtain ⟨W0, hW0⟩ : ∃ W0, W0 = ((((((w.alloc (.cells #[.slice none 0 0] 26)).alloc (.cells #[.int .i64 0] 3)).alloc (.cells #[.slice none 0 0] 26)).alloc (.cells #[.string T] 9)).alloc (.cells #[.string ⟨#[10]⟩] 9)).alloc (.cells #[.int .i64 0] 3)) := ⟨_, rfl⟩
  rw [← hW0]
  have hsz : W0.heap.size = w.heap.size + 6 := by rw [hW0]; simp
  have c0 : W0.cell? ⟨w.heap.size, 0, none⟩ = some (.slice none 0 0) := by rw [hW0]; simp [go_sem]
  have c1 : W0.cell? ⟨w.heap.size + 1, 0, none⟩ = some (.int .i64 0) := by rw [hW0]; simp [go_sem]
  have c2 : W0.cell? ⟨w.heap.size + 2, 0, none⟩ = some (.slice none 0 0) := by rw [hW0]; simp [go_sem]
  have c3 : W0.cell? ⟨w.heap.size + 3, 0, none⟩ = some (.string T) := by rw [hW0]; simp [go_sem]
  have c4 : W0.cell? ⟨w.heap.size + 4, 0, none⟩ = some (.string ⟨#[10]⟩) := by rw [hW0]; simp [go_sem]
  have c5 : W0.cell? ⟨w.heap.size + 5, 0, none⟩ = some (.int .i64 0) := by rw [hW0]; simp [go_sem]
  have f0 : W0.frozen? ⟨w.heap.size, 0, none⟩ = false := by rw [hW0]; simp [go_sem]
  have f1 : W0.frozen? ⟨w.heap.size + 1, 0, none⟩ = false := by rw [hW0]; simp [go_sem]
  have f2 : W0.frozen? ⟨w.heap.size + 2, 0, none⟩ = false := by rw [hW0]; simp [go_sem]
  have f3 : W0.frozen? ⟨w.heap.size + 3, 0, none⟩ = false := by rw [hW0]; simp [go_sem]
  have hb0 : Below w.heap.size w W0 := by rw [hW0]; exact bA (bA (bA (bA (bA (bA (Below.refl _ _) _) _) _) _) _) _
  clear hW0
  refine range_split (F := Fence.wide) (n := 3) (gf := 79) (lb := #[.pointer (some ⟨w.heap.size + 4, 0, none⟩), .pointer (some ⟨w.heap.size + 3, 0, none⟩), .pointer (some ⟨w.heap.size + 5, 0, none⟩)]) (b1 := w.heap.size + 3) (b2 := w.heap.size + 4) (b3 := w.heap.size + 5) (lines := linesOf T)
    rfl (by omega) rfl trivial (enters_of Tryz.func79 (by kernel_rfl) rfl) rfl (by omega) (by omega) (by omega)
    (split_iter 2 (w.heap.size + 3) (w.heap.size + 4) (w.heap.size + 5) T W0 (by omega) (by omega) (by omega) c3 f3 c4 c5 (by omega))
    (RdI w) (RdIx w) (fun pre V o hV => by rw [hsz]; exact hV.put o) (fun pre V o hV => by rw [hsz]; exact hV.put o) (fun pre V x hV => hV.set x) ?h0
    (fun x => { tmps := #[.string T, undef, .pointer (some ⟨w.heap.size, 0, none⟩), .pointer (some ⟨w.heap.size + 1, 0, none⟩), .pointer (some ⟨w.heap.size + 2, 0, none⟩), .string x, undef, undef, .string T, .int .i64 (T.size : Int), .bool false, undef, .string T,
      .func (.func 79) #[] #[.pointer (some ⟨w.heap.size + 4, 0, none⟩), .pointer (some ⟨w.heap.size + 3, 0, none⟩), .pointer (some ⟨w.heap.size + 5, 0, none⟩)], .string x, undef, undef, undef, undef, undef, undef, undef, undef, undef, undef, undef, undef, undef, undef, undef, undef, undef, undef], defers := [] }) ?assign ?body ?done ?stop
  case h0 =>
    intro o
    have go : ∀ b, b < W0.heap.size → (((W0.alloc (.deferred (some []))).alloc o).cell? ⟨b, 0, none⟩ = W0.cell? ⟨b, 0, none⟩ ∧ ((W0.alloc (.deferred (some []))).alloc o).frozen? ⟨b, 0, none⟩ = W0.frozen? ⟨b, 0, none⟩) := fun b hb =>
      ⟨(alloc_cell _ _ _ _ (by simp; omega)).trans (alloc_cell _ _ _ _ hb), (alloc_frz _ _ _ _ (by simp; omega)).trans (alloc_frz _ _ _ _ hb)⟩
    exact ⟨[], rfl, .slice none 0 0, _, [], (go _ (by omega)).1.trans c2, (go _ (by omega)).2.trans f2, TabG.nil _ _, ⟨(go _ (by omega)).1.trans c0, (go _ (by omega)).2.trans f0, (go _ (by omega)).1.trans c1, (go _ (by omega)).2.trans f1⟩, by simp; omega, bA (bA hb0 _) _⟩
  case assign =>
    intro l x W K hK
    gi_wp2
    exact hK
  case body =>
    rintro l pre x W hpx ⟨ts, h1, v, lab, cs, d2, e2, hT, ⟨d0, e0, d1, e1⟩, hsW, hbW⟩
    have hmx : Tryz.prog.follows .mixedOrders = true := by kernel_rfl
    clear c0 c1 c2 c3 c4 c5 f0 f1 f2 f3 HSp
    have hwt := wt_prefix hpx
    have hwl := wt_lines T
    rw [wt_append] at hwt
    have hx1 : wt [x] = x.size + 1 := by simp [wt]
    have hwf := words_facts x
    have hbk := readL_bulk pre [] ts h1
    simp only [bulkT, List.length_nil] at hbk
    have hro : ∀ t ∈ ts, t.Rows.length ≤ 1048576 := fun t ht => by have := bulkT_mem ht; omega
    have HLW := hide (fun W => lineWords_calls x W (by omega))
    have HRL : Hid (∀ W2 A, Below W.heap.size W W2 → WordsAt W2 A 0 (wordsOf x) → Calls Tryz.prog 20 #[v, .slice (some ⟨A, 0, none⟩) (wordsOf x).length (wordsOf x).length] W2 (LineQ W2 (w.heap.size + 8) ts (wordsOf x))) := fun W2 A hb2 hw2 =>
      (readLine_calls v A (w.heap.size + 8) (wordsOf x) lab cs ts W2 (by have := hb2.size; omega) hw2 (hT.of hb2) (fun y hy => by have := hwf.1 y hy; omega) (by omega) (by omega) hro).mono (fun _ _ hp => hp.q)
    have HSn := hide (readL_snoc pre x [])
    rw [h1] at HSn
    have HSn' : Hid (readL [] (pre ++ [x]) = lnW ts (wordsOf x)) := unhide HSn
    obtain ⟨va, vc, hv⟩ := hT.slice
    subst hv
    generalize wordsOf x = ws at *
    clear HSn hwt hwl hx1 hwf hbk hro hT h1 hpx
    gi_wp2_with fail
    gi_region_with_o (first
      | (refine ⟨trivial, ?_⟩; gi_at_call 21; refine (CallsIn.inRound l (callsIn_wide.2 (unhide HLW _))).mono ?_; rintro e w1 ⟨A, rfl, hA, ho, hb1⟩; have hb1' : Below W.heap.size W w1 := (by first | exact hb1 | exact (Below.drew (Below.refl W.heap.size W)).trans hb1); have hw1 := words_of ho; have k2 := (hb1'.cell (p := ⟨w.heap.size + 2, 0, none⟩) (by dsimp only; omega)).trans d2; clear ho hb1 hA)
      | (refine ⟨trivial, ?_⟩; gi_at_call 20; refine (CallsIn.inRound l (callsIn_wide.2 (unhide HRL _ A (by first | exact hb1' | exact Below.drew hb1' | exact Below.drew (Below.drew hb1')) hw1))).mono ?_; rintro e w2 ⟨a', n', c', ok, rfl, hy, hn, hC⟩; have hc2 := chg2 (by first | exact hb1' | exact Below.drew hb1' | exact Below.drew (Below.drew hb1')) (by omega) hC))
    all_goals (have hc2 := hc2; clear hC hw1 hb1' k2 HLW HRL)
    all_goals (
      have q0 := (hc2.low.cell (p := ⟨w.heap.size, 0, none⟩) (by dsimp only; omega)).trans d0
      have q1 := (hc2.low.cell (p := ⟨w.heap.size + 1, 0, none⟩) (by dsimp only; omega)).trans d1
      have q2 := (hc2.low.cell (p := ⟨w.heap.size + 2, 0, none⟩) (by dsimp only; omega)).trans d2
      have r0 := (hc2.low.frozen (p := ⟨w.heap.size, 0, none⟩) (by dsimp only; omega)).trans e0
      have r1 := (hc2.low.frozen (p := ⟨w.heap.size + 1, 0, none⟩) (by dsimp only; omega)).trans e1
      have r2 := (hc2.low.frozen (p := ⟨w.heap.size + 2, 0, none⟩) (by dsimp only; omega)).trans e2
      have hsz2 := hc2.low.size
      have hbx : Below w.heap.size w w2 := hbW.trans (hc2.low.mono (by omega))
      have HC := hide hc2; have HBx := hide hbx; have HYe := hide hy; have HNe := hide hn
      clear hc2 hbx hy hn d0 d1 d2 e0 e1 e2 hbW)
    all_goals (
      cases ok
      · have HN2 := hide (unhide HNe rfl)
        gi_wp2
        exact round_no (unhide HC) (unhide HSn') (unhide HN2) q0 q1 hsW (unhide HBx) _
      · have HY2 := hide (unhide HYe rfl)
        gi_wp2
        exact round_yes (unhide HC) (unhide HSn') (unhide HY2) q0 q1 q2 r0 r1 r2 hsW (unhide HBx) _)
  case done =>
    rintro W ⟨ts, h1, v, lab, cs, d2, e2, hT, ⟨d0, e0, d1, e1⟩, hsW, hbW⟩ hK2
    have hbk := readL_bulk (linesOf T) [] ts h1
    have hwl := wt_lines T
    simp only [bulkT, List.length_nil] at hbk
    obtain ⟨va, vc, hv⟩ := hT.slice
    subst hv
    have HD := hide (DbOk_X ts va vc W hT.tabsX (by omega) (by unfold SmallT; omega) (hK.of hbW))
    have HT := hide hT; have HBW := hide hbW; have H1 := hide h1
    clear hT h1 hbk hwl c0 c1 c2 c3 c4 c5 f0 f1 f2 f3 hb0 hbW
    rw [hsz] at hK2
    have HIff : Hid (dB (DbV ts) = true ↔ DbV ts) := dB_iff
    generalize dB (DbV ts) = ok at *
    gi_wp2_with fail
    refine ⟨trivial, (callsIn_wide.2 (unhide HD)).mono ?_⟩
    rintro e w2 ⟨rfl, hb2⟩
    have q0 := (hb2.cell (p := ⟨w.heap.size, 0, none⟩) (by dsimp only; omega)).trans d0
    have q1 := (hb2.cell (p := ⟨w.heap.size + 1, 0, none⟩) (by dsimp only; omega)).trans d1
    have q2 := (hb2.cell (p := ⟨w.heap.size + 2, 0, none⟩) (by dsimp only; omega)).trans d2
    have r0 := (hb2.frozen (p := ⟨w.heap.size, 0, none⟩) (by dsimp only; omega)).trans e0
    have r1 := (hb2.frozen (p := ⟨w.heap.size + 1, 0, none⟩) (by dsimp only; omega)).trans e1
    have hs2 := hb2.size
    have hK3 : w2.heap[w.heap.size + 6]? = some (.deferred (some [])) := (hb2.block _ (by omega)).trans hK2
    have HT2 := hide ((unhide HT).of hb2); have HB2 := hide (bT (unhide HBW) hb2)
    clear hb2 d0 d1 d2 e0 e1 e2 hK2 HT HBW HD
    cases ok
    · have HNo : Hid (¬ DbV ts) := fun hv => by have := (unhide HIff).2 hv; cases this
      gi_wp2
      have hK4 := (KeepsOthers.setCell (w2.setCell ⟨w.heap.size, 0, none⟩ (.slice none 0 0)) ⟨w.heap.size + 1, 0, none⟩ (.int .i64 3)).same _ _ ((KeepsOthers.setCell w2 ⟨w.heap.size, 0, none⟩ (.slice none 0 0)).same _ _ hK3 rfl) rfl
      refine ⟨by simp, .inl ⟨_, _, rfl, run_takeDeferred hK4, ?_⟩⟩
      obtain ⟨W9, hW9⟩ : ∃ W9, W9 = ((w2.setCell ⟨w.heap.size, 0, none⟩ (.slice none 0 0)).setCell ⟨w.heap.size + 1, 0, none⟩ (.int .i64 3)).putObj (w.heap.size + 6) (.deferred none) := ⟨_, rfl⟩
      have k0 : W9.cell? ⟨w.heap.size, 0, none⟩ = some (.slice none 0 0) := by rw [hW9]; exact (put_cell _ _ _ _ _ (by omega)).trans (by rw [setCell_far (by omega)]; exact World.cell?_setCell_same _ _ _ q0)
      have k1 : W9.cell? ⟨w.heap.size + 1, 0, none⟩ = some (.int .i64 3) := by rw [hW9]; exact (put_cell _ _ _ _ _ (by omega)).trans (World.cell?_setCell_same _ _ _ (by rw [setCell_far (by omega)]; exact q1))
      rw [← hW9]
      refine ⟨.tuple #[.agg #[.slice none 0 0], .int .i64 3], (by simp [results, Tryz.results6, go_sem, k0, k1]), ⟨Or.inr (Or.inr ⟨ts, h, unhide H1, Or.inl ⟨unhide HNo, rfl⟩⟩), ?_⟩⟩
      rw [hW9]
      exact (((unhide HB2).setCell (p := ⟨w.heap.size, 0, none⟩) (by dsimp only; omega) _).setCell (p := ⟨w.heap.size + 1, 0, none⟩) (by dsimp only; omega) _).trans ((put_butB _ _ _).below (by first | omega | (simp; omega)) (fun b e => by omega))
    · have HYes : Hid (DbV ts) := (unhide HIff).1 (by first | rfl | trivial)
      gi_wp2
      have hK4 := (KeepsOthers.setCell (w2.setCell ⟨w.heap.size, 0, none⟩ (.slice va ts.length vc)) ⟨w.heap.size + 1, 0, none⟩ (.int .i64 0)).same _ _ ((KeepsOthers.setCell w2 ⟨w.heap.size, 0, none⟩ (.slice va ts.length vc)).same _ _ hK3 rfl) rfl
      refine ⟨by simp, .inl ⟨_, _, rfl, run_takeDeferred hK4, ?_⟩⟩
      have hT2 := unhide HT2
      have hTf : TabG (((w2.setCell ⟨w.heap.size, 0, none⟩ (.slice va ts.length vc)).setCell ⟨w.heap.size + 1, 0, none⟩ (.int .i64 0)).putObj (w.heap.size + 6) (.deferred none)) lab (w.heap.size + 8) (.slice va ts.length vc) cs ts :=
        hT2.butB (S := fun b => b < w.heap.size + 8) (((ButB.set (S := fun b => b < w.heap.size + 8) (ButB.set (S := fun b => b < w.heap.size + 8) (ButB.refl _ w2) (Or.inl (by omega)) _) (Or.inl (by omega)) _)).trans ((put_butB _ _ _).mono (fun b e => by omega))) (fun g e e' => by have := (hT2.blk g e).1; omega) (fun b e e' => by have := (hT2.rng b e).1; omega)
      obtain ⟨W9, hW9⟩ : ∃ W9, W9 = ((w2.setCell ⟨w.heap.size, 0, none⟩ (.slice va ts.length vc)).setCell ⟨w.heap.size + 1, 0, none⟩ (.int .i64 0)).putObj (w.heap.size + 6) (.deferred none) := ⟨_, rfl⟩
      have k0 : W9.cell? ⟨w.heap.size, 0, none⟩ = some (.slice va ts.length vc) := by rw [hW9]; exact (put_cell _ _ _ _ _ (by omega)).trans (by rw [setCell_far (by omega)]; exact World.cell?_setCell_same _ _ _ q0)
      have k1 : W9.cell? ⟨w.heap.size + 1, 0, none⟩ = some (.int .i64 0) := by rw [hW9]; exact (put_cell _ _ _ _ _ (by omega)).trans (World.cell?_setCell_same _ _ _ (by rw [setCell_far (by omega)]; exact q1))
      rw [← hW9] at hTf ⊢
      refine ⟨.tuple #[.agg #[.slice va ts.length vc], .int .i64 0], (by simp [results, Tryz.results6, go_sem, k0, k1]), ⟨Or.inr (Or.inr ⟨ts, h, unhide H1, Or.inr ⟨unhide HYes, .slice va ts.length vc, lab, cs, w.heap.size + 8, rfl, by omega, hTf⟩⟩), ?_⟩⟩
      rw [hW9]
      exact (((unhide HB2).setCell (p := ⟨w.heap.size, 0, none⟩) (by dsimp only; omega) _).setCell (p := ⟨w.heap.size + 1, 0, none⟩) (by dsimp only; omega) _).trans ((put_butB _ _ _).below (by first | omega | (simp; omega)) (fun b e => by omega))
  case stop =>
    rintro pre W hp ⟨h1, d0, d1, hsW, hbW⟩ hK2
    rw [hsz] at hK2
    have H1 := hide (readL_none h1 hp)
    clear h1
    gi_wp2
    rw [hsz]
    refine ⟨by simp, .inl ⟨_, _, rfl, run_takeDeferred hK2, ?_⟩⟩
    obtain ⟨W9, hW9⟩ : ∃ W9, W9 = W.putObj (w.heap.size + 6) (.deferred none) := ⟨_, rfl⟩
    have k0 : W9.cell? ⟨w.heap.size, 0, none⟩ = some (.slice none 0 0) := by rw [hW9]; exact (put_cell _ _ _ _ _ (by omega)).trans (d0)
    have k1 : W9.cell? ⟨w.heap.size + 1, 0, none⟩ = some (.int .i64 2) := by rw [hW9]; exact (put_cell _ _ _ _ _ (by omega)).trans (d1)
    rw [← hW9]
    refine ⟨.tuple #[.agg #[.slice none 0 0], .int .i64 2], (by simp [results, Tryz.results6, go_sem, k0, k1]), ⟨Or.inr (Or.inl ⟨h, unhide H1, rfl⟩), ?_⟩⟩
    rw [hW9]
    exact (hbW).trans ((put_butB _ _ _).below (by first | omega | (simp; omega)) (fun b e => by omega))
theorem ReadDb_calls (T : ByteArray) (w : World) (hK : TKw w) : Calls Tryz.prog 6 #[.string T] w (ReadPost T w) := by
  by_cases h : 20000 < T.size
  · exact ReadDb_long T w h
  · exact ReadDb_short T w (by omega) hK
end Go.Proofs.YtbbjhepagkkjeaaGreatDoor
