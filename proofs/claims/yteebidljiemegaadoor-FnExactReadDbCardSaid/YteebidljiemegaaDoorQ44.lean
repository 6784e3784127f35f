import Derived.Test.YteebidljiemegaaDoorQ42
import Derived.Test.YteebidljiemegaaDoorPlanKit
import Derived.Laws.BytesArg
namespace Go.Proofs.YteebidljiemegaaDoor
open Go Go.RowKit
structure ButM (S : Nat → Prop) (w w' : World) : Prop where
  size : w.heap.size ≤ w'.heap.size
  cell : ∀ b o, b < w.heap.size → ¬ S b → w'.cell? ⟨b, o, none⟩ = w.cell? ⟨b, o, none⟩
  frz : ∀ b o, b < w.heap.size → w'.frozen? ⟨b, o, none⟩ = w.frozen? ⟨b, o, none⟩
  low : ∀ B, (∀ b, S b → B ≤ b) → B ≤ w.heap.size → Below B w w'
theorem ButM.refl (S : Nat → Prop) (w : World) : ButM S w w := ⟨Nat.le_refl _, fun _ _ _ _ => rfl, fun _ _ _ => rfl, fun _ _ _ => Below.refl _ _⟩
theorem ButM.trans {S : Nat → Prop} {w w1 w2 : World} (h : ButM S w w1) (h' : ButM S w1 w2) : ButM S w w2 :=
  ⟨Nat.le_trans h.size h'.size, fun b o hb hs => (h'.cell b o (Nat.lt_of_lt_of_le hb h.size) hs).trans (h.cell b o hb hs), fun b o hb => (h'.frz b o (Nat.lt_of_lt_of_le hb h.size)).trans (h.frz b o hb), fun B hB hs => (h.low B hB hs).trans (h'.low B hB (Nat.le_trans hs h.size))⟩
theorem ButM.mono {S T : Nat → Prop} {w w1 : World} (h : ButM S w w1) (hs : ∀ b, S b → T b) : ButM T w w1 :=
  ⟨h.size, fun b o hb hn => h.cell b o hb (fun hb' => hn (hs b hb')), h.frz, fun B hB hz => h.low B (fun b hb => hB b (hs b hb)) hz⟩
theorem ButM.set {S : Nat → Prop} {w w1 : World} (h : ButM S w w1) {g o : Nat} (hg : S g) (v : Value) : ButM S w (w1.setCell ⟨g, o, none⟩ v) :=
  ⟨by simpa using h.size, fun b o' hb hn => by rw [setCell_farN (fun (e : g = b) => hn (by rw [← e]; exact hg))]; exact h.cell b o' hb hn, fun b o' hb => by rw [frozen_setCellN]; exact h.frz b o' hb, fun B hB hs => (h.low B hB hs).setCell (hB g hg) v⟩
theorem ButM.ofBelow {S : Nat → Prop} {w w1 : World} (h : Below w.heap.size w w1) : ButM S w w1 :=
  ⟨h.size, fun b _ hb _ => h.cell (p := ⟨b, _, none⟩) hb, fun b _ hb => h.frozen (p := ⟨b, _, none⟩) hb, fun _ _ hs => h.mono hs⟩
theorem OwnOps.butM {S : Nat → Prop} {w w1 : World} {g n : Nat} {xs : List O2} (h : OwnOps w g n xs) (hb : ButM S w w1) (hn : ¬ S g) : OwnOps w1 g n xs :=
  ⟨Nat.lt_of_lt_of_le h.size hb.size, fun o => (hb.frz g o h.size).trans (h.frz o), fun o ho => by rw [hb.cell g o h.size hn]; exact h.all o ho, fun i x hx => by
    rw [hb.cell g _ h.size hn, hb.cell g _ h.size hn]; exact h.held i x hx⟩
theorem OwnOps.set {w : World} {g n i : Nat} {xs : List O2} (h : OwnOps w g n xs) (hi : i < xs.length) (hn : xs.length ≤ n) (b k : Int) :
    OwnOps ((w.setCell ⟨g, i * 2, none⟩ (.int .i64 b)).setCell ⟨g, i * 2 + 1, none⟩ (.int .i64 k)) g n (xs.set i (b, k)) := by
  refine ⟨by simpa using h.size, fun o => by rw [frozen_setCellO, frozen_setCellO]; exact h.frz o, fun o ho => ?_, fun j x hx => ?_⟩
  · obtain ⟨v, hv⟩ := h.all o ho
    obtain ⟨z, hz⟩ := setCell_thereO (o' := i * 2) (v := .int .i64 b) hv
    exact setCell_thereO hz
  · simp only [Nat.zero_add]
    by_cases hj : i = j
    · subst hj
      rw [List.getElem?_set_self hi] at hx
      simp only [Option.some.injEq] at hx
      subst hx
      obtain ⟨v0, h0⟩ := h.all (i * 2) (by omega)
      obtain ⟨v1, h1⟩ := h.all (i * 2 + 1) (by omega)
      obtain ⟨z, hz⟩ := setCell_thereO (o' := i * 2) (v := .int .i64 b) h1
      refine ⟨?_, World.cell?_setCell_same _ _ _ hz⟩
      rw [setCell_otherO (by omega)]
      exact World.cell?_setCell_same _ _ _ h0
    · rw [List.getElem?_set_ne hj] at hx
      have := h.held j x hx
      simp only [Nat.zero_add] at this
      refine ⟨?_, ?_⟩
      · rw [setCell_otherO (by omega), setCell_otherO (by omega)]; exact this.1
      · rw [setCell_otherO (by omega), setCell_otherO (by omega)]; exact this.2
def OpsM (w : World) (u : Value) (xs : List O2) (S : Nat → Prop) : Prop :=
  (xs = [] ∧ ∃ a c, u = .slice a 0 c) ∨ ∃ b c, u = .slice (some ⟨b, 0, none⟩) xs.length c ∧ xs.length ≤ c ∧ S b ∧ OwnOps w b xs.length xs
theorem OpsM.of {w w1 : World} {u : Value} {xs : List O2} {S : Nat → Prop} (h : OpsM w u xs S) (hb : Below w.heap.size w w1) : OpsM w1 u xs S := by
  rcases h with h | ⟨b, c, h1, h2, h3, h4⟩
  · exact Or.inl h
  · exact Or.inr ⟨b, c, h1, h2, h3, h4.of hb⟩
theorem OpsM.but {w w1 : World} {u : Value} {xs : List O2} {S T : Nat → Prop} (h : OpsM w u xs S) (hb : ButM T w w1) (hn : ∀ b, S b → ¬ T b) : OpsM w1 u xs S := by
  rcases h with h | ⟨b, c, h1, h2, h3, h4⟩
  · exact Or.inl h
  · exact Or.inr ⟨b, c, h1, h2, h3, h4.butM hb (hn b h3)⟩
theorem OpsM.mono {w : World} {u : Value} {xs : List O2} {S T : Nat → Prop} (h : OpsM w u xs S) (hs : ∀ b, b < w.heap.size → S b → T b) : OpsM w u xs T := by
  rcases h with h | ⟨b, c, h1, h2, h3, h4⟩
  · exact Or.inl h
  · exact Or.inr ⟨b, c, h1, h2, hs b h4.size h3, h4⟩
theorem OpsM.is {w : World} {u : Value} {xs : List O2} {S : Nat → Prop} (h : OpsM w u xs S) : IsOps w u xs := by
  rcases h with h | ⟨b, c, h1, h2, _, h4⟩
  · exact Or.inl h
  · exact Or.inr ⟨b, 0, c, h1, h2, h4.size, h4.held⟩
theorem OpsM.slice {w : World} {u : Value} {xs : List O2} {S : Nat → Prop} (h : OpsM w u xs S) : ∃ a c, u = .slice a xs.length c := isOps_slice h.is
end Go.Proofs.YteebidljiemegaaDoor
namespace Go.Proofs.YteebidljiemegaaDoor
open Go Go.RowKit
end Go.Proofs.YteebidljiemegaaDoor
namespace Go.Proofs.YteebidljiemegaaDoor
open Go Go.RowKit
def mtL : Nat → Nat → ByteArray → ByteArray
  | 0, _, t => t
  | f + 1, m, t => if m = 0 then t else mtL f (m / 10) (strOfNums [48 + (m : Int) % 10] ++ t)
theorem mtL_zero (f : Nat) (t : ByteArray) : mtL f 0 t = t := by cases f <;> simp [mtL]
def mtx (k : Nat) : ByteArray := ⟨#[109]⟩ ++ mtL k k ⟨#[]⟩
set_option maxRecDepth 100000 in
set_option maxHeartbeats 2000000 in
theorem markText_fun (k : Nat) (w : World) (h0 : 1 ≤ k) (bk : k ≤ 1073741824) : Calls Tryd.prog 37 #[.int .i64 k] w fun e w' => e = .returned (.string (mtx k)) ∧ Below w.heap.size w w' := by
  have h0' : ¬ (k : Int) ≤ 0 := by omega
  go_enter Tryd.func37, Tryd.ntmps37
  go_wp2
  go_loopw [0, 3] (fun c s wr => ∃ (m f : Nat) (t : ByteArray), c = .int .i64 m ∧ s = .string t ∧ t.size + m ≤ k ∧ m ≤ f ∧ mtL f m t = mtL k k ⟨#[]⟩ ∧ Below w.heap.size w wr) (fun c _ _ => (intOf c).toNat)
  case atStart => exact ⟨k, k, ⟨#[]⟩, rfl, rfl, by simp [ByteArray.size], Nat.le_refl _, rfl, Below.refl _ _⟩
  case round =>
    obtain ⟨m, f, t, rfl, rfl, hm, hf, he, hb⟩ := hrel
    by_cases h1 : 0 < (m : Int)
    · have hcv : (convert 77 9 (.slice (some ⟨wr.heap.size, 0, none⟩) 1 1)).run Tryd.prog (wr.alloc (.cells #[.int .u8 (48 + (m : Int) % 10)] 5)) = .ok (.string (strOfNums [48 + (m : Int) % 10])) (wr.alloc (.cells #[.int .u8 (48 + (m : Int) % 10)] 5)) :=
        run_convert_bytes_arg _ 77 5 Tryd.underlying77 Tryd.underlying5 wr.heap.size 0 1 1 [48 + (m : Int) % 10] rfl (fun i hi => by cases i with | zero => simp [go_sem] | succ n => omega) 9 Tryd.underlying9
      have hsz : (strOfNums [48 + (m : Int) % 10]).size = 1 := strOfNums_size _
      have hs2 : ¬ 9223372036854775807 < (strOfNums [48 + (m : Int) % 10]).size + t.size := by omega
      have HSZ := hide hsz
      have HE : Hid (∃ f', m / 10 ≤ f' ∧ mtL f' (m / 10) (strOfNums [48 + (m : Int) % 10] ++ t) = mtL k k ⟨#[]⟩) := by
        obtain ⟨f', rfl⟩ : ∃ f', f = f' + 1 := ⟨f - 1, by omega⟩
        refine ⟨f', by omega, ?_⟩
        rw [← he]
        unfold mtL
        rw [if_neg (by omega)]
        cases f' <;> rfl
      clear hsz he
      have e1 : (m : Int).tmod 10 = ((m % 10 : Nat) : Int) := rfl
      have e2 : (m : Int).tdiv 10 = ((m / 10 : Nat) : Int) := rfl
      go_wp2
      go_roundw
      case rel =>
        obtain ⟨f', g1, g2⟩ := unhide HE
        exact ⟨m / 10, f', _, by go_num, rfl, by have := unhide HSZ; simp; omega, g1, g2, bA hb _⟩
      case measure => simp [intOf]; omega
    · obtain rfl : m = 0 := by omega
      rw [mtL_zero] at he
      have HX : Hid (mtx k = ⟨#[109]⟩ ++ t) := by show _ = _; unfold mtx; rw [he]
      have hs3 : ¬ 9223372036854775807 < ({ data := #[109] } : ByteArray).size + t.size := by have hz : ({ data := #[109] } : ByteArray).size = 1 := rfl; omega
      clear he
      go_wp2
      go_ret
      exact ⟨congrArg (fun z => Ending.returned (.string z)) (unhide HX).symm, hb⟩
end Go.Proofs.YteebidljiemegaaDoor
