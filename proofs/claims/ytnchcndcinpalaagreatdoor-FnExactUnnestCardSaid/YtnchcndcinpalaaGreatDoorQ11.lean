import Derived.Test.YtnchcndcinpalaaGreatDoorQ7
import Derived.Test.YtnchcndcinpalaaGreatDoorQ10
import Derived.Test.YtnchcndcinpalaaGreatDoorQ2
import Derived.Deep.AppendLies
import Derived.OwnWalk
import Derived.WalkSpells
import Derived.Deep.RegionHeld3
import Derived.Deep.DeepCutAuto
namespace Go.Proofs.YtnchcndcinpalaaGreatDoor
open Go Go.RowKit
theorem wid_down {ts : List Tb} {ps : List Pn} {i : Nat} {env : Int} (hi : i < ps.length) (h : 0 ≤ wid ts ps i env) :
    UsedP ts ps[i] ∧ (0 < arity (ps[i]).K → ∃ e, 0 ≤ wid ts ps (ps[i]).L.toNat e) ∧ (1 < arity (ps[i]).K → ∃ e, 0 ≤ wid ts ps (ps[i]).R.toNat e) := by
  rw [wid, List.getElem?_eq_getElem hi] at h
  dsimp only at h
  by_cases hu : UsedP ts ps[i]
  · refine ⟨hu, fun ha => ?_, fun ha => ?_⟩
    · rw [if_neg (by simpa using hu), if_pos ha] at h
      by_cases hl : (ps[i]).L.toNat < i
      · rw [dif_pos hl] at h
        by_cases h0 : wid ts ps (ps[i]).L.toNat env < 0
        · rw [if_pos h0] at h; omega
        · exact ⟨env, by omega⟩
      · rw [dif_neg hl, if_pos (by omega)] at h
        omega
    · rw [if_neg (by simpa using hu)] at h
      generalize (if 0 < arity (ps[i]).K then (if _h : (ps[i]).L.toNat < i then wid ts ps (ps[i]).L.toNat env else -1) else 0) = l at h
      by_cases hl0 : l < 0
      · rw [if_pos hl0] at h; omega
      rw [if_neg hl0, if_pos ha] at h
      by_cases hr : (ps[i]).R.toNat < i
      · rw [dif_pos hr] at h
        by_cases h0 : wid ts ps (ps[i]).R.toNat (insideW (ps[i]).K env l) < 0
        · rw [if_pos h0] at h; omega
        · exact ⟨insideW (ps[i]).K env l, by omega⟩
      · rw [dif_neg hr, if_pos (by omega)] at h
        omega
  · rw [if_pos (by simpa using hu)] at h
    omega
theorem frm_fields {ps : List Pn} {i : Nat} (hi : i < ps.length) (h : frm (nds ps) i ≠ -1) : 1 ≤ (ps[i]).K ∧ (ps[i]).K ≤ 10 ∧ (arity (ps[i]).K = 0 → (ps[i]).L = 0) ∧ (arity (ps[i]).K ≠ 2 → (ps[i]).R = 0) := by
  have hk := kidsAt_nds hi
  unfold kidsP at hk
  have hK : arity (ps[i]).K ≠ -1 → 1 ≤ (ps[i]).K ∧ (ps[i]).K ≤ 10 := fun ha => by
    unfold arity at ha
    split at ha
    · omega
    split at ha
    · omega
    split at ha
    · assumption
    · exact absurd rfl ha
  rcases arity_cases (ps[i]).K with ha | ha | ha | ha
  · rw [if_neg (by omega), if_neg (by omega), if_neg (by omega)] at hk
    exact absurd (frm_neg hk) h
  · rw [if_pos ha] at hk
    by_cases hz : (ps[i]).L = 0 ∧ (ps[i]).R = 0
    · exact ⟨(hK (by omega)).1, (hK (by omega)).2, fun _ => hz.1, fun _ => hz.2⟩
    · rw [if_neg hz] at hk
      exact absurd (frm_neg hk) h
  · rw [if_neg (by omega), if_pos ha] at hk
    by_cases hz : (ps[i]).R = 0
    · exact ⟨(hK (by omega)).1, (hK (by omega)).2, fun h => by omega, fun _ => hz⟩
    · rw [if_neg hz] at hk
      exact absurd (frm_neg hk) h
  · exact ⟨(hK (by omega)).1, (hK (by omega)).2, fun h => by omega, fun h => absurd ha h⟩
theorem PlanV.fld {ts : List Tb} {ps : List Pn} (h : PlanV ts ps) : ∀ (i : Nat) (hi : i < ps.length), FldV ts.length ps[i] := by
  have hn := h.some
  have hs : Seg (nds ps) 0 (ps.length - 1 + 1) [((ps.length - 1 : Nat) : Int)] := (frm_seg (f := 0) (by simpa using h.all)).one
  have hall := hs.all (P := fun j => j < ps.length → ∃ e, 0 ≤ wid ts ps j e) (fun j hP x hx hxl => by
    by_cases hj : j < ps.length
    · obtain ⟨e, he⟩ := hP hj
      obtain ⟨_, d1, d2⟩ := wid_down hj he
      have hf := frm_fields hj (frm_all h.all j (by omega))
      rw [kidsAt_nds hj] at hx
      unfold kidsP at hx
      rcases arity_of hf.1 hf.2.1 with ha | ha | ha
      · rw [if_pos ha, if_pos ⟨hf.2.2.1 ha, hf.2.2.2 (by omega)⟩] at hx
        simp at hx
      · rw [if_neg (by omega), if_pos ha, if_pos (hf.2.2.2 (by omega))] at hx
        simp only [List.mem_singleton] at hx
        subst hx
        exact d1 (by omega)
      · rw [if_neg (by omega), if_neg (by omega), if_pos ha] at hx
        rcases List.mem_cons.1 hx with rfl | h'
        · exact d1 (by omega)
        · simp only [List.mem_singleton] at h'
          subst h'
          exact d2 (by omega)
    · have : kidsAt (nds ps) j = [] := by simp [kidsAt, nds, hj]
      rw [this] at hx
      simp at hx) (fun x hx _ => by
    simp only [List.mem_singleton] at hx
    subst hx
    exact ⟨0, by simpa using h.wide⟩)
  intro i hi
  obtain ⟨e, he⟩ := hall i (by omega) (by omega) hi
  have hf := frm_fields hi (frm_all h.all i (by omega))
  exact ⟨hf.1, hf.2.1, (wid_down hi he).1, hf.2.2.1, hf.2.2.2⟩
theorem PlanV.good {ts : List Tb} {ps : List Pn} (h : PlanV ts ps) : Good ts ps := ⟨h.db, h.some, h.fld, h.all⟩
theorem planV_of {ts : List Tb} {ps : List Pn} (h : Good ts ps) (h2 : ps.length ≤ 2000) {G : List Int} (hG : Handed ps (fun env left => env + iw ts ps left.toNat) 0 G) (hC : ∀ (i : Nat) (hi : i < ps.length), CondI ts ps G i ps[i]) : PlanV ts ps :=
  ⟨h.db, h.some, h2, h.ord, (h.iff hG).2 hC⟩
theorem not_planV {ts : List Tb} {ps : List Pn} (h : Good ts ps) {G : List Int} (hG : Handed ps (fun env left => env + iw ts ps left.toNat) 0 G) {i : Nat} (hi : i < ps.length) (hC : ¬ CondI ts ps G i ps[i]) : ¬ PlanV ts ps := fun hv => hC ((h.iff hG).1 hv.wide i hi)
end Go.Proofs.YtnchcndcinpalaaGreatDoor
namespace Go.Proofs.YtnchcndcinpalaaGreatDoor
open Go Go.RowKit
structure ButM (S : Nat → Prop) (w w' : World) : Prop where
  size : w.heap.size ≤ w'.heap.size
  cell : ∀ b o, b < w.heap.size → ¬ S b → w'.cell? ⟨b, o, none⟩ = w.cell? ⟨b, o, none⟩
  frz : ∀ b o, b < w.heap.size → w'.frozen? ⟨b, o, none⟩ = w.frozen? ⟨b, o, none⟩
  low : ∀ B, (∀ b, S b → B ≤ b) → B ≤ w.heap.size → Below B w w'
theorem ButM.refl (S : Nat → Prop) (w : World) : ButM S w w := ⟨Nat.le_refl _, fun _ _ _ _ => rfl, fun _ _ _ => rfl, fun _ _ _ => Below.refl _ _⟩
theorem ButM.trans {S : Nat → Prop} {w w1 w2 : World} (h : ButM S w w1) (h' : ButM S w1 w2) : ButM S w w2 :=
  ⟨Nat.le_trans h.size h'.size, fun b o hb hs => (h'.cell b o (Nat.lt_of_lt_of_le hb h.size) hs).trans (h.cell b o hb hs), fun b o hb => (h'.frz b o (Nat.lt_of_lt_of_le hb h.size)).trans (h.frz b o hb), fun B hB hs => (h.low B hB hs).trans (h'.low B hB (Nat.le_trans hs h.size))⟩
theorem ButM.mono {S T : Nat → Prop} {w w1 : World} (h : ButM S w w1) (hs : ∀ b, S b → T b) : ButM T w w1 :=
  ⟨h.size, fun b o hb hn => h.cell b o hb (fun hb' => hn (hs b hb')), h.frz, fun B hB hz => h.low B (fun b hb => hB b (hs b hb)) hz⟩
theorem ButM.set {S : Nat → Prop} {w w1 : World} (h : ButM S w w1) {g o : Nat} (hg : S g) (v : Value) : ButM S w (w1.setCell ⟨g, o, none⟩ v) :=
  ⟨by simpa using h.size, fun b o' hb hn => by rw [setCell_farN (fun (e : g = b) => hn (by rw [← e]; exact hg))]; exact h.cell b o' hb hn, fun b o' hb => by rw [frozen_setCellN]; exact h.frz b o' hb, fun B hB hs => (h.low B hB hs).setCell (hB g hg) v⟩
theorem ButM.ofBelow {S : Nat → Prop} {w w1 : World} (h : Below w.heap.size w w1) : ButM S w w1 :=
  ⟨h.size, fun b _ hb _ => h.cell (p := ⟨b, _, none⟩) hb, fun b _ hb => h.frozen (p := ⟨b, _, none⟩) hb, fun _ _ hs => h.mono hs⟩
theorem OwnOps.butM {S : Nat → Prop} {w w1 : World} {g n : Nat} {xs : List O2} (h : OwnOps w g n xs) (hb : ButM S w w1) (hn : ¬ S g) : OwnOps w1 g n xs :=
  ⟨Nat.lt_of_lt_of_le h.size hb.size, fun o => (hb.frz g o h.size).trans (h.frz o), fun o ho => by rw [hb.cell g o h.size hn]; exact h.all o ho, fun i x hx => by
    rw [hb.cell g _ h.size hn, hb.cell g _ h.size hn]; exact h.held i x hx⟩
theorem OwnOps.set {w : World} {g n i : Nat} {xs : List O2} (h : OwnOps w g n xs) (hi : i < xs.length) (hn : xs.length ≤ n) (b k : Int) :
    OwnOps ((w.setCell ⟨g, i * 2, none⟩ (.int .i64 b)).setCell ⟨g, i * 2 + 1, none⟩ (.int .i64 k)) g n (xs.set i (b, k)) := by
  refine ⟨by simpa using h.size, fun o => by rw [frozen_setCellO, frozen_setCellO]; exact h.frz o, fun o ho => ?_, fun j x hx => ?_⟩
  · obtain ⟨v, hv⟩ := h.all o ho
    obtain ⟨z, hz⟩ := setCell_thereO (o' := i * 2) (v := .int .i64 b) hv
    exact setCell_thereO hz
  · simp only [Nat.zero_add]
    by_cases hj : i = j
    · subst hj
      rw [List.getElem?_set_self hi] at hx
      simp only [Option.some.injEq] at hx
      subst hx
      obtain ⟨v0, h0⟩ := h.all (i * 2) (by omega)
      obtain ⟨v1, h1⟩ := h.all (i * 2 + 1) (by omega)
      obtain ⟨z, hz⟩ := setCell_thereO (o' := i * 2) (v := .int .i64 b) h1
      refine ⟨?_, World.cell?_setCell_same _ _ _ hz⟩
      rw [setCell_otherO (by omega)]
      exact World.cell?_setCell_same _ _ _ h0
    · rw [List.getElem?_set_ne hj] at hx
      have := h.held j x hx
      simp only [Nat.zero_add] at this
      refine ⟨?_, ?_⟩
      · rw [setCell_otherO (by omega), setCell_otherO (by omega)]; exact this.1
      · rw [setCell_otherO (by omega), setCell_otherO (by omega)]; exact this.2
def OpsM (w : World) (u : Value) (xs : List O2) (S : Nat → Prop) : Prop :=
  (xs = [] ∧ ∃ a c, u = .slice a 0 c) ∨ ∃ b c, u = .slice (some ⟨b, 0, none⟩) xs.length c ∧ xs.length ≤ c ∧ S b ∧ OwnOps w b xs.length xs
theorem OpsM.of {w w1 : World} {u : Value} {xs : List O2} {S : Nat → Prop} (h : OpsM w u xs S) (hb : Below w.heap.size w w1) : OpsM w1 u xs S := by
  rcases h with h | ⟨b, c, h1, h2, h3, h4⟩
  · exact Or.inl h
  · exact Or.inr ⟨b, c, h1, h2, h3, h4.of hb⟩
theorem OpsM.but {w w1 : World} {u : Value} {xs : List O2} {S T : Nat → Prop} (h : OpsM w u xs S) (hb : ButM T w w1) (hn : ∀ b, S b → ¬ T b) : OpsM w1 u xs S := by
  rcases h with h | ⟨b, c, h1, h2, h3, h4⟩
  · exact Or.inl h
  · exact Or.inr ⟨b, c, h1, h2, h3, h4.butM hb (hn b h3)⟩
theorem OpsM.mono {w : World} {u : Value} {xs : List O2} {S T : Nat → Prop} (h : OpsM w u xs S) (hs : ∀ b, b < w.heap.size → S b → T b) : OpsM w u xs T := by
  rcases h with h | ⟨b, c, h1, h2, h3, h4⟩
  · exact Or.inl h
  · exact Or.inr ⟨b, c, h1, h2, hs b h4.size h3, h4⟩
theorem OpsM.is {w : World} {u : Value} {xs : List O2} {S : Nat → Prop} (h : OpsM w u xs S) : IsOps w u xs := by
  rcases h with h | ⟨b, c, h1, h2, _, h4⟩
  · exact Or.inl h
  · exact Or.inr ⟨b, 0, c, h1, h2, h4.size, h4.held⟩
theorem OpsM.slice {w : World} {u : Value} {xs : List O2} {S : Nat → Prop} (h : OpsM w u xs S) : ∃ a c, u = .slice a xs.length c := isOps_slice h.is
def mkO (k : Nat) : O2 := ((k : Int), (k : Int) + 1)
def mOps (k n : Nat) : List O2 := (List.range n).map (fun j => mkO (k + 2 * j))
theorem mOps_length (k n : Nat) : (mOps k n).length = n := by simp [mOps]
theorem mOps_at (k n i : Nat) (h : i < n) : (mOps k n)[i]'(by rw [mOps_length]; exact h) = mkO (k + 2 * i) := by simp [mOps]
theorem mOps_zero (k : Nat) : mOps k 0 = [] := rfl
def msetO (k : Nat) (xs : List O2) (i : Nat) : List O2 := mOps k i ++ xs.drop i
theorem msetO_zero (k : Nat) (xs : List O2) : msetO k xs 0 = xs := by simp [msetO, mOps_zero]
theorem msetO_length (k : Nat) (xs : List O2) (i : Nat) (h : i ≤ xs.length) : (msetO k xs i).length = xs.length := by simp [msetO, mOps_length]; omega
theorem msetO_next (k : Nat) (xs : List O2) (i : Nat) (h : i < xs.length) : (msetO k xs i).set i (mkO (k + 2 * i)) = msetO k xs (i + 1) := by
  unfold msetO mOps
  rw [List.set_append_right _ _ (by simp), List.range_succ, List.map_append, List.append_assoc]
  congr 1
  simp
  rw [List.drop_eq_getElem_cons h, List.set_cons_zero]
theorem msetO_all (k : Nat) (xs : List O2) : msetO k xs xs.length = mOps k xs.length := by simp [msetO]
set_option maxHeartbeats 1000000 in
theorem markOpS_own (xs : List O2) (g cap k : Nat) (w : World) (ho : OwnOps w g xs.length xs) (b1 : xs.length ≤ 1048576) (bk : k ≤ 1073741824) :
    Calls Tryz.prog 73 #[.slice (some ⟨g, 0, none⟩) xs.length cap, .int .i64 k] w fun e w' => e = .returned (.int .i64 ((k + 2 * xs.length : Nat) : Int)) ∧ OwnOps w' g xs.length (mOps k xs.length) ∧ ButM (fun b => b = g) w w' := by
  go_enter Tryz.func73, Tryz.ntmps73
  go_wp2
  go_loopw [1, 5] (fun c s wr => ∃ i : Nat, i ≤ xs.length ∧ s = .int .i64 i ∧ c = .int .i64 ((k + 2 * i : Nat) : Int) ∧ OwnOps wr g xs.length (msetO k xs i) ∧ ButM (fun b => b = g) w wr) (fun _ s _ => xs.length - (intOf s).toNat)
  case atStart => exact ⟨0, Nat.zero_le _, rfl, rfl, by rw [msetO_zero]; exact ho, ButM.refl _ _⟩
  case round =>
    obtain ⟨i, hi, rfl, rfl, hO, hB⟩ := hrel
    by_cases hlt : i < xs.length
    · have j1 : (i : Int) < (xs.length : Int) := by omega
      have HN : Hid (OwnOps ((wr.setCell ⟨g, i * 2, none⟩ (.int .i64 (mkO (k + 2 * i)).1)).setCell ⟨g, i * 2 + 1, none⟩ (.int .i64 (mkO (k + 2 * i)).2)) g xs.length (msetO k xs (i + 1))) := by
        show OwnOps _ _ _ _
        rw [← msetO_next k xs i hlt]
        exact hO.set (by rw [msetO_length _ _ _ hi]; exact hlt) (by rw [msetO_length _ _ _ hi]; omega) _ _
      have HB2 : Hid (ButM (fun b => b = g) w ((wr.setCell ⟨g, i * 2, none⟩ (.int .i64 (mkO (k + 2 * i)).1)).setCell ⟨g, i * 2 + 1, none⟩ (.int .i64 (mkO (k + 2 * i)).2))) := (hB.set rfl _).set rfl _
      obtain ⟨u0, hu0⟩ := hO.all (i * 2) (by omega)
      obtain ⟨u1, hu1⟩ := hO.all (i * 2 + 1) (by omega)
      have hf := hO.frz
      have hs := hO.size
      clear hO hB
      simp only [mkO] at HN HB2
      obtain ⟨j, hj⟩ : ∃ j, j = k + 2 * i := ⟨_, rfl⟩
      have jb : j ≤ 1075838976 := by omega
      rw [← hj] at HN HB2 ⊢
      have HJ := hide hj
      clear hj
      go_wp2
      go_roundw
      case rel => exact ⟨i + 1, by omega, by go_num, by rw [show k + 2 * (i + 1) = j + 1 + 1 by rw [unhide HJ]; omega]; go_num, HN.out, HB2.out⟩
      case measure => simp [intOf]; omega
    · obtain rfl : i = xs.length := by omega
      rw [msetO_all] at hO
      go_wp2
      go_ret
      exact ⟨rfl, hO, hB⟩
theorem markOpS_calls (xs : List O2) (u : Value) (S : Nat → Prop) (k : Nat) (w : World) (h : OpsM w u xs S) (b1 : xs.length ≤ 1048576) (bk : k ≤ 1073741824) :
    Calls Tryz.prog 73 #[u, .int .i64 k] w fun e w' => e = .returned (.int .i64 ((k + 2 * xs.length : Nat) : Int)) ∧ OpsM w' u (mOps k xs.length) S ∧ ButM S w w' := by
  rcases h with ⟨rfl, a, c, rfl⟩ | ⟨b, c, rfl, h2, h3, h4⟩
  · go_enter Tryz.func73, Tryz.ntmps73
    go_wp2
    go_loopw [1, 5] (fun c s wr => s = .int .i64 0 ∧ c = .int .i64 (k : Int) ∧ wr = w) (fun _ _ _ => 0)
    case atStart => exact ⟨rfl, rfl, rfl⟩
    case round =>
      obtain ⟨rfl, rfl, rfl⟩ := hrel
      go_wp2
      go_ret
      exact ⟨by simp, Or.inl ⟨rfl, a, c, rfl⟩, ButM.refl _ _⟩
  · refine (markOpS_own xs b c k w h4 b1 bk).mono ?_
    rintro e w1 ⟨rfl, ho, hB⟩
    exact ⟨rfl, Or.inr ⟨b, c, by rw [mOps_length], by rw [mOps_length]; exact h2, h3, by rw [mOps_length]; exact ho⟩, hB.mono (fun b' hb => by rw [hb]; exact h3)⟩
set_option maxHeartbeats 1000000 in
theorem heldOpS_calls (n : Nat) (u : Value) (k : Nat) (w : World) (h : IsOps w u (mOps k n)) (b1 : n ≤ 1048576) (bk : k ≤ 1073741824) :
    Calls Tryz.prog 77 #[u, .int .i64 k] w fun e w' => e = .returned (.int .i64 ((k + 2 * n : Nat) : Int)) ∧ Below w.heap.size w w' := by
  rcases h with ⟨h0, a, c, rfl⟩ | ⟨g, off, c, rfl, _, hg, ho⟩
  · obtain rfl : n = 0 := by have := mOps_length k n; rw [h0] at this; simpa using this.symm
    clear h0
    go_enter Tryz.func77, Tryz.ntmps77
    go_wp2
    go_loopw [1, 5] (fun c s wr => s = .int .i64 0 ∧ c = .int .i64 (k : Int) ∧ wr = w) (fun _ _ _ => 0)
    case atStart => exact ⟨rfl, rfl, rfl⟩
    case round =>
      obtain ⟨rfl, rfl, rfl⟩ := hrel
      go_wp2
      go_ret
      exact ⟨by simp, Below.refl _ _⟩
  · rw [mOps_length]
    go_enter Tryz.func77, Tryz.ntmps77
    go_wp2
    go_loopw [1, 5] (fun c s wr => ∃ i : Nat, i ≤ n ∧ s = .int .i64 i ∧ c = .int .i64 ((k + 2 * i : Nat) : Int) ∧ Below w.heap.size w wr) (fun _ s _ => n - (intOf s).toNat)
    case atStart => exact ⟨0, Nat.zero_le _, rfl, rfl, Below.refl _ _⟩
    case round =>
      obtain ⟨i, hi, rfl, rfl, hb⟩ := hrel
      by_cases hlt : i < n
      · have j1 : (i : Int) < (n : Int) := by omega
        obtain ⟨e0, e1⟩ := (ho.of hg hb).at i (by rw [mOps_length]; exact hlt)
        rw [mOps_at k n i hlt] at e0 e1
        simp only [mkO] at e0 e1
        have q1 : g < wr.heap.size := Nat.lt_of_lt_of_le hg hb.size
        obtain ⟨j, hj⟩ : ∃ j, j = k + 2 * i := ⟨_, rfl⟩
        have jb : j ≤ 1075838976 := by omega
        rw [← hj] at e0 e1 ⊢
        have HJ := hide hj
        clear hj
        have n0 : ((j : Int) != (j : Int)) = false := by simp
        have n1 : (((j : Int) + 1) != ((j : Int) + 1)) = false := by simp
        go_wp2
        go_roundw
        case rel => exact ⟨i + 1, by omega, by go_num, by rw [show k + 2 * (i + 1) = j + 1 + 1 by rw [unhide HJ]; omega]; go_num, hb⟩
        case measure => simp [intOf]; omega
      · obtain rfl : i = n := by omega
        go_wp2
        go_ret
        exact ⟨rfl, hb⟩
end Go.Proofs.YtnchcndcinpalaaGreatDoor
namespace Go.Proofs.YtnchcndcinpalaaGreatDoor
open Go Go.RowKit
def OpssM (w : World) (u : Value) (oss : List (List O2)) (So : Nat → Prop) (Si : Nat → Nat → Prop) : Prop :=
  (oss = [] ∧ ∃ a c, u = .slice a 0 c) ∨ ∃ o c, u = .slice (some ⟨o, 0, none⟩) oss.length c ∧ So o ∧ o < w.heap.size ∧ ∀ i xs, oss[i]? = some xs → ∃ u', w.cell? ⟨o, i, none⟩ = some u' ∧ OpsM w u' xs (Si i)
theorem OpssM.of {w w1 : World} {u : Value} {oss : List (List O2)} {So : Nat → Prop} {Si : Nat → Nat → Prop} (h : OpssM w u oss So Si) (hb : Below w.heap.size w w1) : OpssM w1 u oss So Si := by
  rcases h with h | ⟨o, c, h1, h2, h3, h4⟩
  · exact Or.inl h
  · refine Or.inr ⟨o, c, h1, h2, Nat.lt_of_lt_of_le h3 hb.size, fun i xs hx => ?_⟩
    obtain ⟨u', hu, hr⟩ := h4 i xs hx
    exact ⟨u', (hb.cell (p := ⟨o, i, none⟩) h3).trans hu, hr.of hb⟩
theorem OpssM.but {w w1 : World} {u : Value} {oss : List (List O2)} {So : Nat → Prop} {Si : Nat → Nat → Prop} {T : Nat → Prop} (h : OpssM w u oss So Si) (hb : ButM T w w1) (hn : ∀ b, So b → ¬ T b) (hm : ∀ i b, Si i b → ¬ T b) : OpssM w1 u oss So Si := by
  rcases h with h | ⟨o, c, h1, h2, h3, h4⟩
  · exact Or.inl h
  · refine Or.inr ⟨o, c, h1, h2, Nat.lt_of_lt_of_le h3 hb.size, fun i xs hx => ?_⟩
    obtain ⟨u', hu, hr⟩ := h4 i xs hx
    exact ⟨u', (hb.cell o i h3 (hn o h2)).trans hu, hr.but hb (hm i)⟩
theorem OpssM.mono {w : World} {u : Value} {oss : List (List O2)} {So To : Nat → Prop} {Si Ti : Nat → Nat → Prop} (h : OpssM w u oss So Si) (ho : ∀ b, b < w.heap.size → So b → To b) (hi : ∀ i b, b < w.heap.size → Si i b → Ti i b) : OpssM w u oss To Ti := by
  rcases h with h | ⟨o, c, h1, h2, h3, h4⟩
  · exact Or.inl h
  · refine Or.inr ⟨o, c, h1, ho o h3 h2, h3, fun i xs hx => ?_⟩
    obtain ⟨u', hu, hr⟩ := h4 i xs hx
    exact ⟨u', hu, hr.mono (hi i)⟩
theorem OpssM.is {w : World} {u : Value} {oss : List (List O2)} {So : Nat → Prop} {Si : Nat → Nat → Prop} (h : OpssM w u oss So Si) : IsOpss w u oss := by
  rcases h with h | ⟨o, c, h1, _, h3, h4⟩
  · exact Or.inl h
  · refine Or.inr ⟨o, 0, c, h1, h3, fun i xs hx => ?_⟩
    obtain ⟨u', hu, hr⟩ := h4 i xs hx
    exact ⟨u', by rw [Nat.zero_add]; exact hu, hr.is⟩
def kOs (k : Nat) (oss : List (List O2)) (j : Nat) : Nat := k + 2 * bulkO (oss.take j)
theorem kOs_zero (k : Nat) (oss : List (List O2)) : kOs k oss 0 = k := by simp [kOs, bulkO]
theorem kOs_succ (k : Nat) (oss : List (List O2)) (j : Nat) (h : j < oss.length) : kOs k oss (j + 1) = kOs k oss j + 2 * (oss[j]).length := by
  unfold kOs
  rw [bulkO_take oss j h]
  omega
theorem kOs_le (k : Nat) (oss : List (List O2)) (j : Nat) : kOs k oss j ≤ k + 2 * bulkO oss := by
  have := bulkO_take_le oss j
  unfold kOs
  omega
theorem kOs_all (k : Nat) (oss : List (List O2)) : kOs k oss oss.length = k + 2 * bulkO oss := by
  unfold kOs
  rw [List.take_of_length_le (Nat.le_refl _)]
def mOpss (k : Nat) (oss : List (List O2)) : List (List O2) := (List.range oss.length).map fun j => mOps (kOs k oss j) (oss.getD j []).length
theorem mOpss_length (k : Nat) (oss : List (List O2)) : (mOpss k oss).length = oss.length := by simp [mOpss]
theorem mOpss_at (k : Nat) (oss : List (List O2)) (j : Nat) (h : j < oss.length) : (mOpss k oss)[j]? = some (mOps (kOs k oss j) (oss[j]).length) := by simp [mOpss, h]
set_option maxHeartbeats 1000000 in
theorem markOpSS_calls (oss : List (List O2)) (u : Value) (So : Nat → Prop) (Si : Nat → Nat → Prop) (k : Nat) (w : World) (h : OpssM w u oss So Si) (d1 : ∀ i b, So b → ¬ Si i b) (d2 : ∀ i j b, i ≠ j → Si i b → ¬ Si j b) (b1 : oss.length ≤ 1048576) (b2 : ∀ xs ∈ oss, xs.length ≤ 1048576) (bk : k + 2 * bulkO oss ≤ 1073741824) :
    Calls Tryz.prog 74 #[u, .int .i64 k] w fun e w' => e = .returned (.int .i64 ((k + 2 * bulkO oss : Nat) : Int)) ∧ OpssM w' u (mOpss k oss) So Si ∧ ButM (fun b => ∃ i, Si i b) w w' := by
  rcases h with ⟨rfl, a, c, rfl⟩ | ⟨o, c, rfl, h2, h3, h4⟩
  · clear b2
    go_enter Tryz.func74, Tryz.ntmps74
    go_wp2
    go_loopw [1, 5] (fun c s wr => s = .int .i64 0 ∧ c = .int .i64 (k : Int) ∧ wr = w) (fun _ _ _ => 0)
    case atStart => exact ⟨rfl, rfl, rfl⟩
    case round =>
      obtain ⟨rfl, rfl, rfl⟩ := hrel
      go_wp2
      go_ret
      exact ⟨by simp [bulkO], Or.inl ⟨rfl, a, c, rfl⟩, ButM.refl _ _⟩
  · have H4 := hide h4; have HD1 := hide d1; have HD2 := hide d2; have HB2 := hide b2; have H2 := hide h2
    clear h4 d1 d2 b2 h2
    go_enter Tryz.func74, Tryz.ntmps74
    go_wp2
    go_loopw [1, 5] (fun c s wr => ∃ i : Nat, i ≤ oss.length ∧ s = .int .i64 i ∧ c = .int .i64 ((kOs k oss i : Nat) : Int) ∧ (∀ j xs, oss[j]? = some xs → ∃ u', wr.cell? ⟨o, j, none⟩ = some u' ∧ OpsM wr u' (if j < i then mOps (kOs k oss j) xs.length else xs) (Si j)) ∧ ButM (fun b => ∃ i, Si i b) w wr) (fun _ s _ => oss.length - (intOf s).toNat)
    case atStart => exact ⟨0, Nat.zero_le _, rfl, by rw [kOs_zero], fun j xs hx => by
      obtain ⟨u', hu, hr⟩ := unhide H4 j xs hx
      exact ⟨u', hu, by rw [if_neg (by omega)]; exact hr⟩, ButM.refl _ _⟩
    case round =>
      obtain ⟨i, hi, rfl, rfl, hM, hB⟩ := hrel
      by_cases hlt : i < oss.length
      · have j1 : (i : Int) < (oss.length : Int) := by omega
        obtain ⟨u', hu, hr⟩ := hM i oss[i] (List.getElem?_eq_getElem hlt)
        rw [if_neg (by omega)] at hr
        have q1 : o < wr.heap.size := Nat.lt_of_lt_of_le h3 hB.size
        have hk1 := kOs_succ k oss i hlt
        have hk2 := kOs_le k oss i
        have MV := markOpS_calls oss[i] u' (Si i) (kOs k oss i) wr hr (unhide HB2 _ (List.getElem_mem hlt)) (by omega)
        obtain ⟨a', c', rfl⟩ := hr.slice
        have HMV := hide MV; have HK1 := hide hk1; have HM := hide hM; have HB := hide hB
        have hkb : kOs k oss i ≤ 1073741824 := by omega
        clear MV hk1 hk2 hM hB hr
        go_wp2_with fail
        refine (unhide HMV).mono ?_; rintro e w1 ⟨rfl, ho1, hB1⟩
        have HM1 : Hid (∀ j xs, oss[j]? = some xs → ∃ u', w1.cell? ⟨o, j, none⟩ = some u' ∧ OpsM w1 u' (if j < i + 1 then mOps (kOs k oss j) xs.length else xs) (Si j)) := fun j xs hx => by
          obtain ⟨u2, hu2, hr2⟩ := unhide HM j xs hx
          have hcell := (hB1.cell o j q1 (unhide HD1 i o (unhide H2)))
          by_cases e : j = i
          · subst e
            rw [List.getElem?_eq_getElem hlt] at hx
            obtain rfl := Option.some.inj hx
            rw [if_pos (by omega)]
            exact ⟨_, hcell.trans hu, ho1⟩
          · refine ⟨u2, hcell.trans hu2, ?_⟩
            have h' := hr2.but hB1 (fun b hb => unhide HD2 j i b e hb)
            by_cases hj : j < i
            · rw [if_pos hj] at h'; rw [if_pos (by omega)]; exact h'
            · rw [if_neg hj] at h'; rw [if_neg (by omega)]; exact h'
        have HB1 : Hid (ButM (fun b => ∃ i, Si i b) w w1) := (unhide HB).trans (hB1.mono (fun b hb => ⟨i, hb⟩))
        clear ho1 hB1 HM HB HMV
        go_wp2
        go_roundw
        case rel => exact ⟨i + 1, by omega, by go_num, by rw [unhide HK1, Int.natCast_add, Int.natCast_mul]; rfl, HM1.out, HB1.out⟩
        case measure => simp [intOf]; omega
      · obtain rfl : i = oss.length := by omega
        have HR : Hid (OpssM wr (.slice (some ⟨o, 0, none⟩) oss.length c) (mOpss k oss) So Si) := Or.inr ⟨o, c, by rw [mOpss_length], unhide H2, Nat.lt_of_lt_of_le h3 hB.size, fun j ys hy => by
          have hj : j < oss.length := by have := (List.getElem?_eq_some_iff.1 hy).1; rwa [mOpss_length] at this
          rw [mOpss_at k oss j hj] at hy
          obtain rfl := Option.some.inj hy
          obtain ⟨u2, hu2, hr2⟩ := hM j oss[j] (List.getElem?_eq_getElem hj)
          rw [if_pos hj] at hr2
          exact ⟨u2, hu2, hr2⟩⟩
        rw [kOs_all]
        clear hM H4 HD1 HD2 HB2 H2
        go_wp2
        go_ret
        exact ⟨rfl, unhide HR, hB⟩
set_option maxHeartbeats 1000000 in
theorem heldOpSS_calls (oss : List (List O2)) (u : Value) (k : Nat) (w : World) (h : IsOpss w u (mOpss k oss)) (b1 : oss.length ≤ 1048576) (b2 : ∀ xs ∈ oss, xs.length ≤ 1048576) (bk : k + 2 * bulkO oss ≤ 1073741824) :
    Calls Tryz.prog 78 #[u, .int .i64 k] w fun e w' => e = .returned (.int .i64 ((k + 2 * bulkO oss : Nat) : Int)) ∧ Below w.heap.size w w' := by
  rcases h with ⟨h0, a, c, rfl⟩ | ⟨g, off, c, rfl, hg, ho⟩
  · obtain rfl : oss = [] := by have := mOpss_length k oss; rw [h0] at this; exact List.eq_nil_of_length_eq_zero (by simpa using this.symm)
    clear h0 b2
    go_enter Tryz.func78, Tryz.ntmps78
    go_wp2
    go_loopw [1, 5] (fun c s wr => s = .int .i64 0 ∧ c = .int .i64 (k : Int) ∧ wr = w) (fun _ _ _ => 0)
    case atStart => exact ⟨rfl, rfl, rfl⟩
    case round =>
      obtain ⟨rfl, rfl, rfl⟩ := hrel
      go_wp2
      go_ret
      exact ⟨by simp [bulkO], Below.refl _ _⟩
  · rw [mOpss_length]
    have HO := hide ho; have HB2 := hide b2
    clear ho b2
    go_enter Tryz.func78, Tryz.ntmps78
    go_wp2
    go_loopw [1, 5] (fun c s wr => ∃ i : Nat, i ≤ oss.length ∧ s = .int .i64 i ∧ c = .int .i64 ((kOs k oss i : Nat) : Int) ∧ Below w.heap.size w wr) (fun _ s _ => oss.length - (intOf s).toNat)
    case atStart => exact ⟨0, Nat.zero_le _, rfl, by rw [kOs_zero], Below.refl _ _⟩
    case round =>
      obtain ⟨i, hi, rfl, rfl, hb⟩ := hrel
      by_cases hlt : i < oss.length
      · have j1 : (i : Int) < (oss.length : Int) := by omega
        obtain ⟨u', hu, hr⟩ := unhide HO i _ (mOpss_at k oss i hlt)
        have hcell := (hb.cell (p := ⟨g, off + i, none⟩) hg).trans hu
        have q1 : g < wr.heap.size := Nat.lt_of_lt_of_le hg hb.size
        have hk1 := kOs_succ k oss i hlt
        have hk2 := kOs_le k oss i
        have MV := heldOpS_calls (oss[i]).length u' (kOs k oss i) wr (hr.of hb) (unhide HB2 _ (List.getElem_mem hlt)) (by omega)
        obtain ⟨a', c', rfl⟩ := isOps_slice hr
        rw [mOps_length] at hcell MV
        have HMV := hide MV; have HK1 := hide hk1
        have hkb : kOs k oss i ≤ 1073741824 := by omega
        have hkn : ¬ (((kOs k oss i + 2 * (oss[i]).length : Nat) : Int) < 0) := by omega
        clear MV hk1 hk2 hr hu
        go_wp2_with fail
        refine (unhide HMV).mono ?_; rintro e w1 ⟨rfl, hb1⟩
        have d1 := bT hb hb1
        clear HMV
        go_wp2
        go_roundw
        case rel => exact ⟨i + 1, by omega, by go_num, by rw [unhide HK1, Int.natCast_add, Int.natCast_mul]; rfl, d1⟩
        case measure => simp [intOf]; omega
      · obtain rfl : i = oss.length := by omega
        rw [kOs_all]
        go_wp2
        go_ret
        exact ⟨rfl, hb⟩
end Go.Proofs.YtnchcndcinpalaaGreatDoor
namespace Go.Proofs.YtnchcndcinpalaaGreatDoor
open Go Go.RowKit
def OwnH (w : World) (B G cap : Nat) (hs : List Value) : Prop := w.ownsRow B 64 1 (.slice (some ⟨G, 0, none⟩) hs.length cap) hs.length hs
theorem OwnH.lt {w : World} {B g cap : Nat} {hs : List Value} (h : OwnH w B g cap hs) : g < w.heap.size ∧ B ≤ g ∧ hs.length ≤ cap ∧ cap ≤ maxLen := by
  rcases h.2 with ⟨h1, _⟩ | ⟨g', cap', cur, h1, h2, h3, h4, h5, _⟩
  · simp at h1
  · simp only [Value.slice.injEq, Option.some.injEq, Addr.mk.injEq, and_true, true_and] at h1
    obtain ⟨rfl, rfl⟩ := h1
    exact ⟨(Array.getElem?_eq_some_iff.1 h3).1, h2, h4, h5⟩
theorem OwnH.of {w w1 : World} {B g cap : Nat} {hs : List Value} (h : OwnH w B g cap hs) (hb : Below w.heap.size w w1) : OwnH w1 B g cap hs := by
  have hl := h.lt.1
  refine ⟨h.1, ?_⟩
  rcases h.2 with h1 | ⟨g', cap', cur, h1, h2, h3, h4⟩
  · exact Or.inl h1
  · have e : g' = g := by
      simp only [Value.slice.injEq, Option.some.injEq, Addr.mk.injEq, and_true, true_and] at h1
      exact h1.1.symm
    exact Or.inr ⟨g', cap', cur, h1, h2, by rw [hb.block g' (by rw [e]; exact hl)]; exact h3, h4⟩
theorem OwnH.grid {w : World} {B g cap : Nat} {hs : List Value} (h : OwnH w B g cap hs) : ∀ i u, hs[i]? = some u → w.cell? ⟨g, i, none⟩ = some u := by
  rcases h.2 with ⟨h1, _⟩ | ⟨g', cap', cur, h1, h2, h3, h4, h5, h6, h7⟩
  · simp at h1
  · simp only [Value.slice.injEq, Option.some.injEq, Addr.mk.injEq, and_true, true_and] at h1
    obtain ⟨rfl, rfl⟩ := h1
    intro i u hu
    have hi := (List.getElem?_eq_some_iff.1 hu).1
    rw [← h7, List.getElem?_take, if_pos (by omega)] at hu
    simp only [World.cell?, h3]
    simpa using hu
theorem OwnH.start (w : World) (B : Nat) (hB : B ≤ w.heap.size) : OwnH (w.alloc (.cells #[] 64)) B w.heap.size 0 [] :=
  ⟨rfl, Or.inr ⟨w.heap.size, 0, #[], rfl, hB, (MapKept.heap_alloc w _).1, Nat.le_refl _, Nat.zero_le _, rfl, rfl⟩⟩
structure GrowO (w : World) (B G c : Nat) (lb : Nat → Nat) (hs : List Value) (oss : List (List O2)) : Prop where
  own : OwnH w B G c hs
  len : hs.length = oss.length
  each : ∀ (i : Nat) (u : Value) (xs : List O2), hs[i]? = some u → oss[i]? = some xs → OpsM w u xs (fun b => B ≤ b ∧ b ≠ G ∧ lb b = i)
theorem GrowO.of {w w1 : World} {B G c : Nat} {lb : Nat → Nat} {hs : List Value} {oss : List (List O2)} (h : GrowO w B G c lb hs oss) (hb : Below w.heap.size w w1) : GrowO w1 B G c lb hs oss :=
  ⟨h.own.of hb, h.len, fun i u xs h1 h2 => (h.each i u xs h1 h2).of hb⟩
theorem GrowO.start (w : World) (B : Nat) (hB : B ≤ w.heap.size) (lb : Nat → Nat) : GrowO (w.alloc (.cells #[] 64)) B w.heap.size 0 lb [] [] :=
  ⟨OwnH.start w B hB, rfl, fun i u xs h => by simp at h⟩
theorem OpsM.grown {w w2 : World} {u : Value} {xs : List O2} {S : Nat → Prop} {row : Option Nat} (h : OpsM w u xs S) (hgr : w.grownBy w2 row) (hne : ∀ b, S b → some b ≠ row) : OpsM w2 u xs S := by
  rcases h with h | ⟨b, c, h1, h2, h3, h4⟩
  · exact Or.inl h
  · have hn := hne b h3
    refine Or.inr ⟨b, c, h1, h2, h3, Nat.lt_of_lt_of_le h4.size hgr.size, fun o => (hgr.frozen_far ⟨b, o, none⟩ h4.size hn).trans (h4.frz o), fun o ho => ?_, fun i x hx => ?_⟩
    · obtain ⟨v, hv⟩ := h4.all o ho
      exact ⟨v, (hgr.cell_far ⟨b, o, none⟩ h4.size hn).trans hv⟩
    · obtain ⟨e1, e2⟩ := h4.held i x hx
      exact ⟨(hgr.cell_far ⟨b, _, none⟩ h4.size hn).trans e1, (hgr.cell_far ⟨b, _, none⟩ h4.size hn).trans e2⟩
theorem GrowO.push {w w2 : World} {B G c G2 c2 n : Nat} {lb : Nat → Nat} {hs : List Value} {oss : List (List O2)} {u : Value} {xs : List O2} (h : GrowO w B G c lb hs oss) (hl : hs.length = n) {s : Nat}
    (hold : ∀ (i : Nat) (v : Value) (ys : List O2), hs[i]? = some v → oss[i]? = some ys → OpsM w v ys (fun b => B ≤ b ∧ b ≠ G ∧ lb b = i ∧ b < s)) (hB : B ≤ s) (hu : OpsM w u xs (fun b => s ≤ b ∧ b ≠ G))
    (hown : w2.ownsRow B 64 1 (.slice (some ⟨G2, 0, none⟩) (n + 1) c2) (n + 1) (hs ++ [u])) (hgr : w.grownBy w2 (some G)) (hat : G2 = G ∨ G2 = w.heap.size) : GrowO w2 B G2 c2 (fun b => if s ≤ b then n else lb b) (hs ++ [u]) (oss ++ [xs]) := by
  have hlen := h.len
  refine ⟨?_, by simp [hlen], fun i v ys h1 h2 => ?_⟩
  · unfold OwnH
    rw [List.length_append, hl]
    exact hown
  · by_cases hi : i < hs.length
    · rw [List.getElem?_append_left hi] at h1
      rw [List.getElem?_append_left (by omega)] at h2
      refine (((hold i v ys h1 h2).mono (T := fun b => (B ≤ b ∧ b ≠ G ∧ lb b = i ∧ b < s) ∧ b < w.heap.size) (fun b hb e => ⟨e, hb⟩)).grown hgr (fun b e => by have := e.1.2.1; simpa using this)).mono (fun b _ e => ?_)
      obtain ⟨⟨e1, e2, e3, e4⟩, e5⟩ := e
      exact ⟨e1, by omega, by rw [if_neg (by omega)]; exact e3⟩
    · have hi1 := (List.getElem?_eq_some_iff.1 h1).1
      simp at hi1
      obtain rfl : i = hs.length := by omega
      rw [List.getElem?_append_right (Nat.le_refl _)] at h1
      rw [List.getElem?_append_right (by omega)] at h2
      simp at h1
      simp [hlen] at h2
      subst h1 h2
      refine ((hu.mono (T := fun b => (s ≤ b ∧ b ≠ G) ∧ b < w.heap.size) (fun b hb e => ⟨e, hb⟩)).grown hgr (fun b e => by have := e.1.2; simpa using this)).mono (fun b _ e => ?_)
      obtain ⟨⟨e1, e2⟩, e3⟩ := e
      exact ⟨by omega, by omega, by rw [if_pos e1]; exact hl.symm⟩
theorem GrowO.low {w : World} {B G c : Nat} {lb : Nat → Nat} {hs : List Value} {oss : List (List O2)} (h : GrowO w B G c lb hs oss) : ∀ (i : Nat) (v : Value) (ys : List O2), hs[i]? = some v → oss[i]? = some ys → OpsM w v ys (fun b => B ≤ b ∧ b ≠ G ∧ lb b = i ∧ b < w.heap.size) := fun i v ys h1 h2 =>
  (h.each i v ys h1 h2).mono (fun _ hb e => ⟨e.1, e.2.1, e.2.2, hb⟩)
end Go.Proofs.YtnchcndcinpalaaGreatDoor
