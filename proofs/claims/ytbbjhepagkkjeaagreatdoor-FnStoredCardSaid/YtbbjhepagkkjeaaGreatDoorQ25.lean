import Derived.Test.YtbbjhepagkkjeaaGreatDoorQ24
import Derived.Test.YtbbjhepagkkjeaaGreatDoorQ11
import Derived.Deep.RegionHeld3
import Derived.Deep.DeepCutAuto
namespace Go.Proofs.YtbbjhepagkkjeaaGreatDoor
open Go Go.RowKit
def pf (K : Int) : List Bool :=
  if K = 2 then [true, false, false, false, false, false, false, false] else if K = 3 then [false, false, true, false, true, false, false, false] else if K = 4 then [false, false, false, true, true, false, false, false] else if K = 5 then [false, false, false, false, true, true, false, false] else if K = 6 then [false, false, false, false, true, true, true, false] else if K = 7 then [false, false, true, false, true, true, true, false] else if K = 8 then [false, true, true, false, true, true, true, false] else if K = 9 then [false, false, false, false, true, false, false, false] else if K = 10 then [false, false, false, false, true, true, false, false] else [false, false, false, false, false, false, false, false]
def pfb (K : Int) (i : Nat) : Bool := (pf K).getD i false
abbrev TPlan (w : World) : Prop := TabAt w 0 [.bool false, .bool false, .bool false, .bool false, .bool false, .bool false, .bool false, .bool false, .bool false, .bool false, .bool false, .bool false, .bool false, .bool false, .bool false, .bool false, .bool true, .bool false, .bool false, .bool false, .bool false, .bool false, .bool false, .bool false, .bool false, .bool false, .bool true, .bool false, .bool true, .bool false, .bool false, .bool false, .bool false, .bool false, .bool false, .bool true, .bool true, .bool false, .bool false, .bool false, .bool false, .bool false, .bool false, .bool false, .bool true, .bool true, .bool false, .bool false, .bool false, .bool false, .bool false, .bool false, .bool true, .bool true, .bool true, .bool false, .bool false, .bool false, .bool true, .bool false, .bool true, .bool true, .bool true, .bool false, .bool false, .bool true, .bool true, .bool false, .bool true, .bool true, .bool true, .bool false, .bool false, .bool false, .bool false, .bool false, .bool true, .bool false, .bool false, .bool false, .bool false, .bool false, .bool false, .bool false, .bool true, .bool true, .bool false, .bool false]
theorem p_look {w : World} (h : TPlan w) (K : Int) (h1 : 1 ≤ K) (h2 : K ≤ 10) : w.cell? ⟨0, K.toNat * 8, none⟩ = some (.bool (pfb K 0)) ∧ w.cell? ⟨0, K.toNat * 8 + 1, none⟩ = some (.bool (pfb K 1)) ∧ w.cell? ⟨0, K.toNat * 8 + 2, none⟩ = some (.bool (pfb K 2)) ∧ w.cell? ⟨0, K.toNat * 8 + 3, none⟩ = some (.bool (pfb K 3)) ∧ w.cell? ⟨0, K.toNat * 8 + 4, none⟩ = some (.bool (pfb K 4)) ∧ w.cell? ⟨0, K.toNat * 8 + 5, none⟩ = some (.bool (pfb K 5)) ∧ w.cell? ⟨0, K.toNat * 8 + 6, none⟩ = some (.bool (pfb K 6)) ∧ w.cell? ⟨0, K.toNat * 8 + 7, none⟩ = some (.bool (pfb K 7)) := by
  have e : K = 1 ∨ K = 2 ∨ K = 3 ∨ K = 4 ∨ K = 5 ∨ K = 6 ∨ K = 7 ∨ K = 8 ∨ K = 9 ∨ K = 10 := by omega
  rw [h.cell, h.cell, h.cell, h.cell, h.cell, h.cell, h.cell, h.cell]
  rcases e with rfl | rfl | rfl | rfl | rfl | rfl | rfl | rfl | rfl | rfl <;> exact ⟨rfl, rfl, rfl, rfl, rfl, rfl, rfl, rfl⟩
theorem p_words {K : Int} (h1 : 1 ≤ K) (h2 : K ≤ 10) : (pfb K 0 = true ↔ K = 2) ∧ (pfb K 1 = true ↔ K = 8) ∧ (pfb K 2 = true ↔ (K = 3 ∨ K = 7 ∨ K = 8)) ∧ (pfb K 3 = true ↔ K = 4) ∧ (pfb K 4 = true ↔ arity K ≠ 0) ∧ (pfb K 5 = true ↔ arity K = 2) ∧ (pfb K 6 = true ↔ perRow K) := by
  have e : K = 1 ∨ K = 2 ∨ K = 3 ∨ K = 4 ∨ K = 5 ∨ K = 6 ∨ K = 7 ∨ K = 8 ∨ K = 9 ∨ K = 10 := by omega
  rcases e with rfl | rfl | rfl | rfl | rfl | rfl | rfl | rfl | rfl | rfl <;> decide
set_option maxHeartbeats 2000000 in
theorem planKids_none (K T M L R : Int) (v3 v4 : Value) (w : World) (h1 : 1 ≤ K) (h2 : K ≤ 10) (ha : arity K = 0) (hT : TPlan w) :
    Calls Tryz.prog 90 #[.agg #[.int .i64 K, .int .i64 T, .int .i64 M, v3, v4, .int .i64 L, .int .i64 R]] w fun e w' => e = .returned (.slice none 0 0) ∧ Below w.heap.size w w' := by
  have hB0 := bA (Below.refl w.heap.size w) (.cells #[.int .i64 K, .int .i64 T, .int .i64 M, v3, v4, .int .i64 L, .int .i64 R] 39)
  have hT1 := hT.of hB0
  obtain ⟨t0, t1, t2, t3, t4, t5, t6, t7⟩ := p_look hT1 K h1 h2
  have hz := hT1.size
  have k0 : (0 : Int) ≤ K := by omega
  have k11 : K < 11 := by omega
  obtain ⟨_, _, _, _, h4, h5, _⟩ := p_words h1 h2
  have e4 : pfb K 4 = false := Bool.eq_false_iff.2 (fun h => h4.1 h ha)
  rw [e4] at t4
  have e5 : pfb K 5 = false := Bool.eq_false_iff.2 (fun h => by have := h5.1 h; omega)
  rw [e5] at t5
  clear h4 h5 e4 e5
  obtain ⟨n0, n1, n2, n3, n4, n5, n6⟩ := (fun Q (hQ : (w.alloc (.cells #[.int .i64 K, .int .i64 T, .int .i64 M, v3, v4, .int .i64 L, .int .i64 R] 39)) = Q) => (by subst hQ; exact ⟨by simp [go_sem], by simp [go_sem], by simp [go_sem], by simp [go_sem], by simp [go_sem], by simp [go_sem], by simp [go_sem]⟩ : Q.cell? ⟨w.heap.size, 0, none⟩ = some (.int .i64 K) ∧ Q.cell? ⟨w.heap.size, 1, none⟩ = some (.int .i64 T) ∧ Q.cell? ⟨w.heap.size, 2, none⟩ = some (.int .i64 M) ∧ Q.cell? ⟨w.heap.size, 3, none⟩ = some (v3) ∧ Q.cell? ⟨w.heap.size, 4, none⟩ = some (v4) ∧ Q.cell? ⟨w.heap.size, 5, none⟩ = some (.int .i64 L) ∧ Q.cell? ⟨w.heap.size, 6, none⟩ = some (.int .i64 R))) _ rfl
  have z4 : w.heap.size < (w.alloc (.cells #[.int .i64 K, .int .i64 T, .int .i64 M, v3, v4, .int .i64 L, .int .i64 R] 39)).heap.size := by simp
  have HB0 := hide hB0
  clear hT hT1 ha hB0
  obtain ⟨p0, hp0⟩ : ∃ b, pfb K 0 = b := ⟨_, rfl⟩
  rw [hp0] at t0
  clear hp0
  obtain ⟨p1, hp1⟩ : ∃ b, pfb K 1 = b := ⟨_, rfl⟩
  rw [hp1] at t1
  clear hp1
  obtain ⟨p2, hp2⟩ : ∃ b, pfb K 2 = b := ⟨_, rfl⟩
  rw [hp2] at t2
  clear hp2
  obtain ⟨p3, hp3⟩ : ∃ b, pfb K 3 = b := ⟨_, rfl⟩
  rw [hp3] at t3
  clear hp3
  obtain ⟨p6, hp6⟩ : ∃ b, pfb K 6 = b := ⟨_, rfl⟩
  rw [hp6] at t6
  clear hp6
  obtain ⟨p7, hp7⟩ : ∃ b, pfb K 7 = b := ⟨_, rfl⟩
  rw [hp7] at t7
  clear hp7
  have RX := hide (fun W => fKids_none p0 p1 p2 p3 p6 p7 L R W)
  go_enter Tryz.func90, Tryz.ntmps90
  go_upto_region 1 with fail
  generalize (w.alloc (.cells #[.int .i64 K, .int .i64 T, .int .i64 M, v3, v4, .int .i64 L, .int .i64 R] 39)) = Wb at *
  generalize hbx : w.heap.size = bx at *
  have HBX := hide hbx
  clear hbx
  refine wp_region_held_drew (S := Std Wb) (by kernel_rfl) (Std.drew (Std.refl _)) (fun hHeld => ?_)
  refine tW 0 3 (.pointer (some ⟨bx, 0, none⟩)) ?_
  simp only [puts]
  refine tW 1 4 (.int .i64 K) ?_
  simp only [puts]
  refine tW 2 5 (.pointer (some ⟨0, K.toNat * 8, none⟩)) ?_
  simp only [puts]
  refine tW 3 6 (.agg #[.bool p0, .bool p1, .bool p2, .bool p3, .bool false, .bool false, .bool p6, .bool p7]) ?_
  simp only [puts]
  refine tW 4 7 (.pointer (some ⟨bx, 5, none⟩)) ?_
  simp only [puts]
  refine tW 5 8 (.int .i64 L) ?_
  simp only [puts]
  refine tW 6 9 (.pointer (some ⟨bx, 6, none⟩)) ?_
  simp only [puts]
  refine tW 7 10 (.int .i64 R) ?_
  simp only [puts]
  refine wpAnyH_ready (rs := [8]) (by kernel_rfl) (by simp) ?_
  refine AllReadyH.cons rfl (fun Kx hK => ?_) AllReadyH.nil
  go_simp
  refine (unhide RX _).mono ?_
  rintro e w2 ⟨rfl, hb2⟩
  have hle := hHeld.2.2.size
  refine hK.out _ _ (Std.call (by assumption) hb2) (fun hHeld2 => ?_)
  clear hK Kx
  refine tW 9 2 (.slice none 0 0) ?_
  simp only [puts]
  refine wpAnyH_done (by kernel_rfl) ?_ _
  have hbx := unhide HBX
  have hB := bT (show Below w.heap.size w Wb by rw [hbx]; exact unhide HB0) hHeld2.2.2
  have hsw : w.heap.size ≤ Wb.heap.size := by omega
  clear hbx HBX
  go_wp2
  go_ret
  exact ⟨rfl, hB⟩
end Go.Proofs.YtbbjhepagkkjeaaGreatDoor
namespace Go.Proofs.YtbbjhepagkkjeaaGreatDoor
open Go Go.RowKit
structure Good (ts : List Tb) (ps : List Pn) : Prop where
  db : DbV ts
  some : 1 ≤ ps.length
  fld : ∀ (i : Nat) (hi : i < ps.length), FldV ts.length ps[i]
  ord : frm (nds ps) (ps.length - 1) = 0
theorem Good.frm {ts : List Tb} {ps : List Pn} (h : Good ts ps) {i : Nat} (hi : i < ps.length) : frm (nds ps) i ≠ -1 := frm_all h.ord i (by omega)
theorem Good.kids {ts : List Tb} {ps : List Pn} (h : Good ts ps) {i : Nat} (hi : i < ps.length) :
    (0 < arity (ps[i]).K → 0 ≤ (ps[i]).L ∧ (ps[i]).L.toNat < i) ∧ (1 < arity (ps[i]).K → 0 ≤ (ps[i]).R ∧ (ps[i]).R.toNat < i) := by
  have hF := h.fld i hi
  have hf := h.frm hi
  rcases arity_of hF.1 hF.2.1 with ha | ha | ha
  · exact ⟨fun h => by omega, fun h => by omega⟩
  · obtain ⟨j, e, e1, _, _⟩ := kid_one' hi hf ha
    exact ⟨fun _ => by omega, fun h => by omega⟩
  · obtain ⟨q, j, e, e0, e1, e2, _⟩ := kid_two' hi hf ha
    exact ⟨fun _ => by omega, fun _ => by omega⟩
theorem arity_k {k : Int} : (k = 5 ∨ k = 6 ∨ k = 7 ∨ k = 8 ∨ k = 10 → arity k = 2) ∧ (k = 3 ∨ k = 4 ∨ k = 9 → arity k = 1) ∧ (k = 1 ∨ k = 2 → arity k = 0) := by
  refine ⟨fun h => ?_, fun h => ?_, fun h => ?_⟩
  · rcases h with rfl | rfl | rfl | rfl | rfl <;> rfl
  · rcases h with rfl | rfl | rfl <;> rfl
  · rcases h with rfl | rfl <;> rfl
theorem stepW_congr (ts : List Tb) (p : Pn) {l r l' r' : Int} (hl : 0 < arity p.K → l = l') (hr : 1 < arity p.K → r = r') : stepW ts p l r = stepW ts p l' r' := by
  unfold stepW
  obtain ⟨a1, a2, _⟩ := arity_k (k := p.K)
  split
  · rfl
  split
  · rfl
  split
  · have := a1 (by omega); rw [hl (by omega), hr (by omega)]
  split
  · have := a1 (by omega); rw [hl (by omega)]
  split
  · rename_i h
    have : 0 < arity p.K := by
      by_cases e : p.K = 10
      · have := a1 (by omega); omega
      · have := a2 (by omega); omega
    rw [hl this]
  · rfl
theorem Good.iw {ts : List Tb} {ps : List Pn} (h : Good ts ps) {i : Nat} (hi : i < ps.length) :
    iw ts ps i = stepW ts ps[i] (if 0 < arity (ps[i]).K then iw ts ps (ps[i]).L.toNat else 0) (if 1 < arity (ps[i]).K then iw ts ps (ps[i]).R.toNat else 0) := by
  obtain ⟨kl, kr⟩ := h.kids hi
  rw [iw_at ts hi]
  refine stepW_congr ts _ (fun h => ?_) (fun h => ?_)
  · rw [if_pos h, if_pos (kl h).2]
  · rw [if_pos h, if_pos (kr h).2]
theorem Good.wid {ts : List Tb} {ps : List Pn} (h : Good ts ps) {i : Nat} (hi : i < ps.length) (env : Int) : ∀ l r, l = (if 0 < arity (ps[i]).K then wid ts ps (ps[i]).L.toNat env else 0) → r = (if 1 < arity (ps[i]).K then wid ts ps (ps[i]).R.toNat (insideW (ps[i]).K env l) else 0) →
    (0 ≤ wid ts ps i env ↔ (0 ≤ l ∧ 0 ≤ r ∧ env + stepW ts ps[i] l r ≤ 200 ∧ ((ps[i]).K = 10 → l = r) ∧ ExsV ps[i] env l r)) ∧ (0 ≤ wid ts ps i env → wid ts ps i env = stepW ts ps[i] l r) := by
  intro l r el er
  obtain ⟨kl, kr⟩ := h.kids hi
  have hw := wid_at ts hi env (h.fld i hi).2.2.1 (fun h => (kl h).2) (fun h => (kr h).2)
  rw [← el, ← er] at hw
  rw [hw]
  by_cases h1 : l < 0
  · rw [if_pos h1]
    exact ⟨⟨fun h => by omega, fun h => by omega⟩, fun h => by omega⟩
  rw [if_neg h1]
  by_cases h2 : r < 0
  · rw [if_pos h2]
    exact ⟨⟨fun h => by omega, fun h => by omega⟩, fun h => by omega⟩
  rw [if_neg h2]
  obtain ⟨n1, n2, _⟩ := nodeW_iff (env := env) (h.fld i hi) (by omega : 0 ≤ l) (by omega : 0 ≤ r) h.db (fun h => by rw [el, if_neg (by omega)])
  exact ⟨⟨fun h => ⟨by omega, by omega, n1.1 h⟩, fun h => n1.2 h.2.2⟩, n2⟩
theorem Good.wid_iw {ts : List Tb} {ps : List Pn} (h : Good ts ps) : ∀ (n i : Nat), i < n → i < ps.length → ∀ env, 0 ≤ Go.Proofs.YtbbjhepagkkjeaaGreatDoor.wid ts ps i env → Go.Proofs.YtbbjhepagkkjeaaGreatDoor.wid ts ps i env = Go.Proofs.YtbbjhepagkkjeaaGreatDoor.iw ts ps i := by
  intro n
  induction n with
  | zero => intro i hi; omega
  | succ n ih =>
    intro i hin hi env hw
    obtain ⟨kl, kr⟩ := h.kids hi
    obtain ⟨h1, h2⟩ := h.wid hi env _ _ rfl rfl
    obtain ⟨l0, r0, _⟩ := h1.1 hw
    rw [h2 hw, h.iw hi]
    refine stepW_congr ts _ (fun ha => ?_) (fun ha => ?_)
    · rw [if_pos ha] at l0 ⊢
      rw [if_pos ha]
      exact ih _ (by have := (kl ha).2; omega) (by have := (kl ha).2; omega) _ l0
    · rw [if_pos ha] at r0 ⊢
      rw [if_pos ha]
      exact ih _ (by have := (kr ha).2; omega) (by have := (kr ha).2; omega) _ r0
end Go.Proofs.YtbbjhepagkkjeaaGreatDoor
namespace Go.Proofs.YtbbjhepagkkjeaaGreatDoor
open Go Go.RowKit
structure IntRow (w : World) (g : Nat) (xs : List Int) : Prop where
  size : g < w.heap.size
  frz : ∀ o, w.frozen? ⟨g, o, none⟩ = false
  held : IntsAt w g 0 xs
theorem IntRow.of {w w1 : World} {g : Nat} {xs : List Int} (h : IntRow w g xs) (hb : Below w.heap.size w w1) : IntRow w1 g xs :=
  ⟨Nat.lt_of_lt_of_le h.size hb.size, fun o => (hb.frozen (p := ⟨g, o, none⟩) h.size).trans (h.frz o), h.held.of h.size hb⟩
theorem IntRow.at {w : World} {g : Nat} {xs : List Int} (h : IntRow w g xs) (i : Nat) (hi : i < xs.length) : w.cell? ⟨g, i, none⟩ = some (.int .i64 (xs.getD i 0)) := by
  have := h.held.at i hi
  rw [Nat.zero_add] at this
  rw [this, List.getD_eq_getElem?_getD, List.getElem?_eq_getElem hi]
  rfl
theorem IntRow.set {w : World} {g : Nat} {xs : List Int} (h : IntRow w g xs) (k : Nat) (hk : k < xs.length) (v : Int) : IntRow (w.setCell ⟨g, k, none⟩ (.int .i64 v)) g (xs.set k v) := by
  refine ⟨by simpa using h.size, fun o => by rw [frozen_setCellN]; exact h.frz o, fun i x hx => ?_⟩
  rw [Nat.zero_add]
  by_cases e : k = i
  · subst e
    rw [List.getElem?_set_self hk] at hx
    simp only [Option.some.injEq] at hx
    subst hx
    exact World.cell?_setCell_same _ _ _ (h.at k hk)
  · rw [List.getElem?_set_ne e] at hx
    rw [setCell_otherN e]
    have := h.held i x hx
    rwa [Nat.zero_add] at this
theorem IntRow.far {w : World} {g : Nat} {xs : List Int} (h : IntRow w g xs) {G O : Nat} (hne : G ≠ g) (v : Value) : IntRow (w.setCell ⟨G, O, none⟩ v) g xs :=
  ⟨by simpa using h.size, fun o => by rw [frozen_setCellN]; exact h.frz o, fun i x hx => by rw [setCell_farN hne]; exact h.held i x hx⟩
theorem getD_set {xs : List Int} {k : Nat} (hk : k < xs.length) (v : Int) (j : Nat) : (xs.set k v).getD j 0 = if j = k then v else xs.getD j 0 := by
  by_cases e : j = k
  · subst e
    rw [if_pos rfl, List.getD_eq_getElem?_getD, List.getElem?_set_self hk]
    rfl
  · rw [if_neg e, List.getD_eq_getElem?_getD, List.getElem?_set_ne (fun h => e h.symm), List.getD_eq_getElem?_getD]
theorem make_intsP (n : Nat) (hn : n ≤ 1048576) (w : World) :
    (Instr.makeSlice 66 (.int .i64 (n : Int)) (.int .i64 (n : Int))).run Tryz.prog w = .ok (.slice (some ⟨w.heap.size, 0, none⟩) n n) (w.alloc (.cells (madeCells #[.int .i64 0] n) 3)) := by
  obtain ⟨i, hi, hz⟩ := Option.map_eq_some_iff.1 (show (Tryz.prog.info? 3).map (fun i => (i.zero, i.size, i.bytes)) = some (some (.int .i64 0), 1, 8) by kernel_rfl)
  simp only [Prod.mk.injEq] at hz
  have := run_make (P := Tryz.prog) w 66 3 i _ Tryz.underlying66 hi hz.1 .i64 .i64 (n : Int) (n : Int) (by omega) (by omega) (by rw [hz.2.2]; omega) (by omega)
  rw [hz.2.1] at this
  simpa [Value.cells] using this
theorem IntRow.made (w : World) (n : Nat) : IntRow (w.alloc (.cells (madeCells #[.int .i64 0] n) 3)) w.heap.size (List.replicate n 0) := by
  refine ⟨by simp, fun o => by simp [go_sem], fun i x hx => ?_⟩
  obtain ⟨h1, h2⟩ := List.getElem?_eq_some_iff.1 hx
  simp only [List.length_replicate] at h1
  simp only [List.getElem_replicate] at h2
  subst h2
  rw [Nat.zero_add, World.cell?_alloc_at _ _ _ i rfl, Array.getElem?_eq_getElem (by simp [size_madeCells]; omega)]
  simp [madeCells, go_sem, Nat.mod_one]
end Go.Proofs.YtbbjhepagkkjeaaGreatDoor
namespace Go.Proofs.YtbbjhepagkkjeaaGreatDoor
open Go Go.RowKit
def FnRow (w : World) (g n : Nat) (f : Nat → Int) : Prop := ∃ xs : List Int, xs.length = n ∧ (∀ j, j < n → xs.getD j 0 = f j) ∧ IntRow w g xs
theorem FnRow.of {w w1 : World} {g n : Nat} {f : Nat → Int} (h : FnRow w g n f) (hb : Below w.heap.size w w1) : FnRow w1 g n f := by
  obtain ⟨xs, h1, h2, h3⟩ := h
  exact ⟨xs, h1, h2, h3.of hb⟩
theorem FnRow.lt {w : World} {g n : Nat} {f : Nat → Int} (h : FnRow w g n f) : g < w.heap.size := by
  obtain ⟨xs, h1, h2, h3⟩ := h
  exact h3.size
theorem FnRow.at {w : World} {g n : Nat} {f : Nat → Int} (h : FnRow w g n f) (j : Nat) (hj : j < n) : w.cell? ⟨g, j, none⟩ = some (.int .i64 (f j)) := by
  obtain ⟨xs, h1, h2, h3⟩ := h
  rw [← h2 j hj]
  exact h3.at j (by omega)
def WTo (ts : List Tb) (ps : List Pn) (k : Nat) (xs : List Int) : Prop := xs.length = ps.length ∧ (∀ j, j < k → xs.getD j 0 = iw ts ps j) ∧ ∀ j, k ≤ j → xs.getD j 0 = 0
theorem WTo.set {ts : List Tb} {ps : List Pn} {k : Nat} {xs : List Int} (h : WTo ts ps k xs) (hk : k < ps.length) {v : Int} (hv : iw ts ps k = v) : WTo ts ps (k + 1) (xs.set k v) := by
  obtain ⟨h1, h2, h3⟩ := h
  refine ⟨by simp [h1], fun j hj => ?_, fun j hj => ?_⟩
  · rw [getD_set (by omega)]
    by_cases e : j = k
    · rw [if_pos e, e]; exact hv.symm
    · rw [if_neg e]; exact h2 j (by omega)
  · rw [getD_set (by omega), if_neg (by omega)]
    exact h3 j (by omega)
theorem WTo.skip {ts : List Tb} {ps : List Pn} {k : Nat} {xs : List Int} (h : WTo ts ps k xs) (hv : iw ts ps k = 0) : WTo ts ps (k + 1) xs := by
  obtain ⟨h1, h2, h3⟩ := h
  refine ⟨h1, fun j hj => ?_, fun j hj => h3 j (by omega)⟩
  by_cases e : j = k
  · subst e; rw [h3 j (Nat.le_refl _), hv]
  · exact h2 j (by omega)
end Go.Proofs.YtbbjhepagkkjeaaGreatDoor
