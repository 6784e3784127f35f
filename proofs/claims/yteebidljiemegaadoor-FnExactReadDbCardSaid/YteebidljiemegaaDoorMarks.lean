import Derived.Test.YteebidljiemegaaDoorGridFns2
namespace Go.Proofs.YteebidljiemegaaDoor
open Go Go.RowKit
def mkV (k : Nat) : V2 := ((k : Int) % 3 == 0, (k : Int) + 1)
def mset (k : Nat) (xs : List V2) (i : Nat) : List V2 := (List.range i).map (fun j => mkV (k + 2 * j)) ++ xs.drop i
theorem mset_zero (k : Nat) (xs : List V2) : mset k xs 0 = xs := by simp [mset]
theorem mset_length (k : Nat) (xs : List V2) (i : Nat) (h : i ≤ xs.length) : (mset k xs i).length = xs.length := by simp [mset]; omega
theorem mset_next (k : Nat) (xs : List V2) (i : Nat) (h : i < xs.length) : (mset k xs i).set i (mkV (k + 2 * i)) = mset k xs (i + 1) := by
  unfold mset
  rw [List.set_append_right _ _ (by simp), List.range_succ, List.map_append, List.append_assoc]
  congr 1
  simp
  rw [List.drop_eq_getElem_cons h, List.set_cons_zero]
def marks (k n : Nat) : List V2 := (List.range n).map (fun j => mkV (k + 2 * j))
theorem mset_all (k : Nat) (xs : List V2) : mset k xs xs.length = marks k xs.length := by simp [mset, marks]
theorem marks_length (k n : Nat) : (marks k n).length = n := by simp [marks]
theorem marks_at (k n i : Nat) (h : i < n) : (marks k n)[i]'(by rw [marks_length]; exact h) = mkV (k + 2 * i) := by simp [marks]
structure But (S : Nat → Prop) (w w' : World) : Prop where
  size : w.heap.size ≤ w'.heap.size
  cell : ∀ b o, b < w.heap.size → ¬ S b → w'.cell? ⟨b, o, none⟩ = w.cell? ⟨b, o, none⟩
  frz : ∀ b o, b < w.heap.size → w'.frozen? ⟨b, o, none⟩ = w.frozen? ⟨b, o, none⟩
  low : ∀ B, (∀ b, S b → B ≤ b) → Below B w w'
theorem But.refl (S : Nat → Prop) (w : World) : But S w w := ⟨Nat.le_refl _, fun _ _ _ _ => rfl, fun _ _ _ => rfl, fun _ _ => Below.refl _ _⟩
theorem But.trans {S : Nat → Prop} {w w1 w2 : World} (h : But S w w1) (h' : But S w1 w2) : But S w w2 :=
  ⟨Nat.le_trans h.size h'.size, fun b o hb hs => (h'.cell b o (Nat.lt_of_lt_of_le hb h.size) hs).trans (h.cell b o hb hs), fun b o hb => (h'.frz b o (Nat.lt_of_lt_of_le hb h.size)).trans (h.frz b o hb), fun B hB => (h.low B hB).trans (h'.low B hB)⟩
theorem But.mono {S T : Nat → Prop} {w w1 : World} (h : But S w w1) (hs : ∀ b, S b → T b) : But T w w1 :=
  ⟨h.size, fun b o hb hn => h.cell b o hb (fun hb' => hn (hs b hb')), h.frz, fun B hB => h.low B (fun b hb => hB b (hs b hb))⟩
theorem But.set {S : Nat → Prop} {w w1 : World} (h : But S w w1) {g o : Nat} (hg : S g) (v : Value) : But S w (w1.setCell ⟨g, o, none⟩ v) :=
  ⟨by simpa using h.size, fun b o' hb hn => by rw [setCell_far (fun (e : g = b) => hn (by rw [← e]; exact hg))]; exact h.cell b o' hb hn, fun b o' hb => by rw [frozen_setCell]; exact h.frz b o' hb, fun B hB => (h.low B hB).setCell (hB g hg) v⟩
theorem OwnRow.but {S : Nat → Prop} {w w1 : World} {g n : Nat} {xs : List V2} (h : OwnRow w g n xs) (hb : But S w w1) (hn : ¬ S g) : OwnRow w1 g n xs :=
  ⟨Nat.lt_of_lt_of_le h.size hb.size, fun o => (hb.frz g o h.size).trans (h.frz o), fun o ho => by rw [hb.cell g o h.size hn]; exact h.all o ho, fun i x hx => by
    rw [hb.cell g _ h.size hn, hb.cell g _ h.size hn]; exact h.held i x hx⟩
theorem RowsOk.but {S : Nat → Prop} {w w1 : World} {rs : List R3} (h : RowsOk w rs) (hb : But S w w1) (hn : ∀ r ∈ rs, ¬ S r.1) : RowsOk w1 rs := fun r hr => ⟨(h r hr).1.but hb (hn r hr), (h r hr).2⟩
theorem GridAt.but {S : Nat → Prop} {w w1 : World} {G off : Nat} {rs : List R3} (h : GridAt w G off rs) (hG : G < w.heap.size) (hb : But S w w1) (hn : ¬ S G) : GridAt w1 G off rs := fun i r hr => (hb.cell G _ hG hn).trans (h i r hr)
theorem OwnRow.set {w : World} {g n i : Nat} {xs : List V2} (h : OwnRow w g n xs) (hi : i < xs.length) (hn : xs.length ≤ n) (b : Bool) (k : Int) :
    OwnRow ((w.setCell ⟨g, i * 2, none⟩ (.bool b)).setCell ⟨g, i * 2 + 1, none⟩ (.int .i64 k)) g n (xs.set i (b, k)) := by
  refine ⟨by simpa using h.size, fun o => by rw [frozen_setCell, frozen_setCell]; exact h.frz o, fun o ho => ?_, fun j x hx => ?_⟩
  · obtain ⟨v, hv⟩ := h.all o ho
    obtain ⟨z, hz⟩ := setCell_there (o' := i * 2) (v := .bool b) hv
    exact setCell_there hz
  · simp only [Nat.zero_add]
    by_cases hj : i = j
    · subst hj
      rw [List.getElem?_set_self hi] at hx
      simp only [Option.some.injEq] at hx
      subst hx
      obtain ⟨v0, h0⟩ := h.all (i * 2) (by omega)
      obtain ⟨v1, h1⟩ := h.all (i * 2 + 1) (by omega)
      obtain ⟨z, hz⟩ := setCell_there (o' := i * 2) (v := .bool b) h1
      refine ⟨?_, World.cell?_setCell_same _ _ _ hz⟩
      rw [setCell_other (by omega)]
      exact World.cell?_setCell_same _ _ _ h0
    · rw [List.getElem?_set_ne hj] at hx
      have := h.held j x hx
      simp only [Nat.zero_add] at this
      refine ⟨?_, ?_⟩
      · rw [setCell_other (by omega), setCell_other (by omega)]; exact this.1
      · rw [setCell_other (by omega), setCell_other (by omega)]; exact this.2
set_option maxHeartbeats 1000000 in
theorem markValS_calls (xs : List V2) (g cap k : Nat) (w : World) (ho : OwnRow w g xs.length xs) (b1 : xs.length ≤ 1048576) (bk : k ≤ 536870912) :
    Calls Tryd.prog 51 #[.slice (some ⟨g, 0, none⟩) xs.length cap, .int .i64 k] w fun e w' => e = .returned (.int .i64 ((k + 2 * xs.length : Nat) : Int)) ∧ OwnRow w' g xs.length (marks k xs.length) ∧ But (fun b => b = g) w w' := by
  go_enter Tryd.func51, Tryd.ntmps51
  go_wp2
  go_loopw [1, 5] (fun c s wr => ∃ i : Nat, i ≤ xs.length ∧ s = .int .i64 i ∧ c = .int .i64 ((k + 2 * i : Nat) : Int) ∧ OwnRow wr g xs.length (mset k xs i) ∧ But (fun b => b = g) w wr) (fun _ s _ => xs.length - (intOf s).toNat)
  case atStart => exact ⟨0, Nat.zero_le _, rfl, rfl, by rw [mset_zero]; exact ho, But.refl _ _⟩
  case round =>
    obtain ⟨i, hi, rfl, rfl, hO, hB⟩ := hrel
    by_cases hlt : i < xs.length
    · have j1 : (i : Int) < (xs.length : Int) := by omega
      have HN : Hid (OwnRow ((wr.setCell ⟨g, i * 2, none⟩ (.bool (mkV (k + 2 * i)).1)).setCell ⟨g, i * 2 + 1, none⟩ (.int .i64 (mkV (k + 2 * i)).2)) g xs.length (mset k xs (i + 1))) := by
        show OwnRow _ _ _ _
        rw [← mset_next k xs i hlt]
        exact hO.set (by rw [mset_length _ _ _ hi]; exact hlt) (by rw [mset_length _ _ _ hi]; omega) _ _
      have HB2 : Hid (But (fun b => b = g) w ((wr.setCell ⟨g, i * 2, none⟩ (.bool (mkV (k + 2 * i)).1)).setCell ⟨g, i * 2 + 1, none⟩ (.int .i64 (mkV (k + 2 * i)).2))) := (hB.set rfl _).set rfl _
      obtain ⟨u0, hu0⟩ := hO.all (i * 2) (by omega)
      obtain ⟨u1, hu1⟩ := hO.all (i * 2 + 1) (by omega)
      have hf := hO.frz
      have hs := hO.size
      clear hO hB
      simp only [mkV] at HN HB2
      obtain ⟨j, hj⟩ : ∃ j, j = k + 2 * i := ⟨_, rfl⟩
      have jb : j ≤ 541065216 := by omega
      rw [← hj] at HN HB2 ⊢
      have HJ := hide hj
      clear hj
      go_wp2
      go_roundw
      case rel => exact ⟨i + 1, by omega, by go_num, by rw [show k + 2 * (i + 1) = j + 1 + 1 by rw [unhide HJ]; omega]; go_num, HN.out, HB2.out⟩
      case measure => simp [intOf]; omega
    · obtain rfl : i = xs.length := by omega
      rw [mset_all] at hO
      go_wp2
      go_ret
      exact ⟨rfl, hO, hB⟩
set_option maxHeartbeats 1000000 in
theorem heldValS_calls (n : Nat) (g cap k : Nat) (w : World) (ho : OwnRow w g n (marks k n)) (b1 : n ≤ 1048576) (bk : k ≤ 536870912) :
    Calls Tryd.prog 52 #[.slice (some ⟨g, 0, none⟩) n cap, .int .i64 k] w fun e w' => e = .returned (.int .i64 ((k + 2 * n : Nat) : Int)) ∧ Below w.heap.size w w' := by
  go_enter Tryd.func52, Tryd.ntmps52
  go_wp2
  go_loopw [1, 5] (fun c s wr => ∃ i : Nat, i ≤ n ∧ s = .int .i64 i ∧ c = .int .i64 ((k + 2 * i : Nat) : Int) ∧ Below w.heap.size w wr) (fun _ s _ => n - (intOf s).toNat)
  case atStart => exact ⟨0, Nat.zero_le _, rfl, rfl, Below.refl _ _⟩
  case round =>
    obtain ⟨i, hi, rfl, rfl, hb⟩ := hrel
    by_cases hlt : i < n
    · have j1 : (i : Int) < (n : Int) := by omega
      obtain ⟨e0, e1⟩ := (ho.held.of ho.size hb).at i (by rw [marks_length]; exact hlt)
      rw [marks_at k n i hlt] at e0 e1
      simp only [mkV, Nat.zero_add] at e0 e1
      have q1 : g < wr.heap.size := Nat.lt_of_lt_of_le ho.size hb.size
      obtain ⟨j, hj⟩ : ∃ j, j = k + 2 * i := ⟨_, rfl⟩
      have jb : j ≤ 541065216 := by omega
      rw [← hj] at e0 e1 ⊢
      have HJ := hide hj
      clear hj
      have n0 : (((j : Int) % 3 == 0) != ((j : Int) % 3 == 0)) = false := by simp
      have n1 : (((j : Int) + 1) != ((j : Int) + 1)) = false := by simp
      go_wp2
      go_roundw
      case rel => exact ⟨i + 1, by omega, by go_num, by rw [show k + 2 * (i + 1) = j + 1 + 1 by rw [unhide HJ]; omega]; go_num, hb⟩
      case measure => simp [intOf]; omega
    · obtain rfl : i = n := by omega
      go_wp2
      go_ret
      exact ⟨rfl, hb⟩
end Go.Proofs.YteebidljiemegaaDoor
