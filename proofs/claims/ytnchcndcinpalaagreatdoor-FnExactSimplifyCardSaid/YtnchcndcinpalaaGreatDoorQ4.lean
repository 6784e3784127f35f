import Derived.Test.YtnchcndcinpalaaGreatDoorQ3
import Derived.Deep.AppendLies
import Derived.OwnWalk
import Derived.WalkSpells
import Derived.Deep.RegionHeld3
import Derived.Deep.DeepCutAuto
/-
  MARKS written into lists of lists of Ops of the call's own.
-/
namespace Go.Proofs.YtnchcndcinpalaaGreatDoor
open Go Go.RowKit

def OpssM (w : World) (u : Value) (oss : List (List O2)) (So : Nat → Prop) (Si : Nat → Nat → Prop) : Prop :=
  (oss = [] ∧ ∃ a c, u = .slice a 0 c) ∨ ∃ o c, u = .slice (some ⟨o, 0, none⟩) oss.length c ∧ So o ∧ o < w.heap.size ∧ ∀ i xs, oss[i]? = some xs → ∃ u', w.cell? ⟨o, i, none⟩ = some u' ∧ OpsM w u' xs (Si i)
theorem OpssM.of {w w1 : World} {u : Value} {oss : List (List O2)} {So : Nat → Prop} {Si : Nat → Nat → Prop} (h : OpssM w u oss So Si) (hb : Below w.heap.size w w1) : OpssM w1 u oss So Si := by
  rcases h with h | ⟨o, c, h1, h2, h3, h4⟩
  · exact Or.inl h
  · refine Or.inr ⟨o, c, h1, h2, Nat.lt_of_lt_of_le h3 hb.size, fun i xs hx => ?_⟩
    obtain ⟨u', hu, hr⟩ := h4 i xs hx
    exact ⟨u', (hb.cell (p := ⟨o, i, none⟩) h3).trans hu, hr.of hb⟩
theorem OpssM.but {w w1 : World} {u : Value} {oss : List (List O2)} {So : Nat → Prop} {Si : Nat → Nat → Prop} {T : Nat → Prop} (h : OpssM w u oss So Si) (hb : ButM T w w1) (hn : ∀ b, So b → ¬ T b) (hm : ∀ i b, Si i b → ¬ T b) : OpssM w1 u oss So Si := by
  rcases h with h | ⟨o, c, h1, h2, h3, h4⟩
  · exact Or.inl h
  · refine Or.inr ⟨o, c, h1, h2, Nat.lt_of_lt_of_le h3 hb.size, fun i xs hx => ?_⟩
    obtain ⟨u', hu, hr⟩ := h4 i xs hx
    exact ⟨u', (hb.cell o i h3 (hn o h2)).trans hu, hr.but hb (hm i)⟩
theorem OpssM.mono {w : World} {u : Value} {oss : List (List O2)} {So To : Nat → Prop} {Si Ti : Nat → Nat → Prop} (h : OpssM w u oss So Si) (ho : ∀ b, b < w.heap.size → So b → To b) (hi : ∀ i b, b < w.heap.size → Si i b → Ti i b) : OpssM w u oss To Ti := by
  rcases h with h | ⟨o, c, h1, h2, h3, h4⟩
  · exact Or.inl h
  · refine Or.inr ⟨o, c, h1, ho o h3 h2, h3, fun i xs hx => ?_⟩
    obtain ⟨u', hu, hr⟩ := h4 i xs hx
    exact ⟨u', hu, hr.mono (hi i)⟩
theorem OpssM.is {w : World} {u : Value} {oss : List (List O2)} {So : Nat → Prop} {Si : Nat → Nat → Prop} (h : OpssM w u oss So Si) : IsOpss w u oss := by
  rcases h with h | ⟨o, c, h1, _, h3, h4⟩
  · exact Or.inl h
  · refine Or.inr ⟨o, 0, c, h1, h3, fun i xs hx => ?_⟩
    obtain ⟨u', hu, hr⟩ := h4 i xs hx
    exact ⟨u', by rw [Nat.zero_add]; exact hu, hr.is⟩
/-- the number at list j -/
def kOs (k : Nat) (oss : List (List O2)) (j : Nat) : Nat := k + 2 * bulkO (oss.take j)
theorem kOs_zero (k : Nat) (oss : List (List O2)) : kOs k oss 0 = k := by simp [kOs, bulkO]
theorem kOs_succ (k : Nat) (oss : List (List O2)) (j : Nat) (h : j < oss.length) : kOs k oss (j + 1) = kOs k oss j + 2 * (oss[j]).length := by
  unfold kOs
  rw [bulkO_take oss j h]
  omega
theorem kOs_le (k : Nat) (oss : List (List O2)) (j : Nat) : kOs k oss j ≤ k + 2 * bulkO oss := by
  have := bulkO_take_le oss j
  unfold kOs
  omega
theorem kOs_all (k : Nat) (oss : List (List O2)) : kOs k oss oss.length = k + 2 * bulkO oss := by
  unfold kOs
  rw [List.take_of_length_le (Nat.le_refl _)]
def mOpss (k : Nat) (oss : List (List O2)) : List (List O2) := (List.range oss.length).map fun j => mOps (kOs k oss j) (oss.getD j []).length
theorem mOpss_length (k : Nat) (oss : List (List O2)) : (mOpss k oss).length = oss.length := by simp [mOpss]
theorem mOpss_at (k : Nat) (oss : List (List O2)) (j : Nat) (h : j < oss.length) : (mOpss k oss)[j]? = some (mOps (kOs k oss j) (oss[j]).length) := by simp [mOpss, h]
theorem bulkO_map {a b : List (List O2)} (h : a.map (fun x => x.length) = b.map (fun x => x.length)) : bulkO a = bulkO b := by
  induction a generalizing b with
  | nil => cases b with
    | nil => rfl
    | cons y b => simp at h
  | cons x a ih => cases b with
    | nil => simp at h
    | cons y b =>
      simp only [List.map_cons, List.cons.injEq] at h
      simp only [bulkO, h.1, ih h.2]
theorem bulkO_mOpss (k : Nat) (oss : List (List O2)) : bulkO (mOpss k oss) = bulkO oss := by
  apply bulkO_map
  apply List.ext_getElem
  · simp [mOpss]
  · intro i h1 h2
    simp [mOpss, mOps_length]
    simp at h2
    simp [h2]

set_option maxHeartbeats 1000000 in
theorem markOpSS_calls (oss : List (List O2)) (u : Value) (So : Nat → Prop) (Si : Nat → Nat → Prop) (k : Nat) (w : World) (h : OpssM w u oss So Si) (d1 : ∀ i b, So b → ¬ Si i b) (d2 : ∀ i j b, i ≠ j → Si i b → ¬ Si j b) (b1 : oss.length ≤ 1048576) (b2 : ∀ xs ∈ oss, xs.length ≤ 1048576) (bk : k + 2 * bulkO oss ≤ 1073741824) :
    Calls Tryz.prog 74 #[u, .int .i64 k] w fun e w' => e = .returned (.int .i64 ((k + 2 * bulkO oss : Nat) : Int)) ∧ OpssM w' u (mOpss k oss) So Si ∧ ButM (fun b => ∃ i, Si i b) w w' := by
  rcases h with ⟨rfl, a, c, rfl⟩ | ⟨o, c, rfl, h2, h3, h4⟩
  · clear b2
    go_enter Tryz.func74, Tryz.ntmps74
    go_wp2
    go_loopw [1, 5] (fun c s wr => s = .int .i64 0 ∧ c = .int .i64 (k : Int) ∧ wr = w) (fun _ _ _ => 0)
    case atStart => exact ⟨rfl, rfl, rfl⟩
    case round =>
      obtain ⟨rfl, rfl, rfl⟩ := hrel
      go_wp2
      go_ret
      exact ⟨by simp [bulkO], Or.inl ⟨rfl, a, c, rfl⟩, ButM.refl _ _⟩
  · have H4 := hide h4; have HD1 := hide d1; have HD2 := hide d2; have HB2 := hide b2; have H2 := hide h2
    clear h4 d1 d2 b2 h2
    go_enter Tryz.func74, Tryz.ntmps74
    go_wp2
    go_loopw [1, 5] (fun c s wr => ∃ i : Nat, i ≤ oss.length ∧ s = .int .i64 i ∧ c = .int .i64 ((kOs k oss i : Nat) : Int) ∧ (∀ j xs, oss[j]? = some xs → ∃ u', wr.cell? ⟨o, j, none⟩ = some u' ∧ OpsM wr u' (if j < i then mOps (kOs k oss j) xs.length else xs) (Si j)) ∧ ButM (fun b => ∃ i, Si i b) w wr) (fun _ s _ => oss.length - (intOf s).toNat)
    case atStart => exact ⟨0, Nat.zero_le _, rfl, by rw [kOs_zero], fun j xs hx => by
      obtain ⟨u', hu, hr⟩ := unhide H4 j xs hx
      exact ⟨u', hu, by rw [if_neg (by omega)]; exact hr⟩, ButM.refl _ _⟩
    case round =>
      obtain ⟨i, hi, rfl, rfl, hM, hB⟩ := hrel
      by_cases hlt : i < oss.length
      · have j1 : (i : Int) < (oss.length : Int) := by omega
        obtain ⟨u', hu, hr⟩ := hM i oss[i] (List.getElem?_eq_getElem hlt)
        rw [if_neg (by omega)] at hr
        have q1 : o < wr.heap.size := Nat.lt_of_lt_of_le h3 hB.size
        have hk1 := kOs_succ k oss i hlt
        have hk2 := kOs_le k oss i
        have MV := markOpS_calls oss[i] u' (Si i) (kOs k oss i) wr hr (unhide HB2 _ (List.getElem_mem hlt)) (by omega)
        obtain ⟨a', c', rfl⟩ := hr.slice
        have HMV := hide MV; have HK1 := hide hk1; have HM := hide hM; have HB := hide hB
        have hkb : kOs k oss i ≤ 1073741824 := by omega
        clear MV hk1 hk2 hM hB hr
        go_wp2_with fail
        refine (unhide HMV).mono ?_; rintro e w1 ⟨rfl, ho1, hB1⟩
        have HM1 : Hid (∀ j xs, oss[j]? = some xs → ∃ u', w1.cell? ⟨o, j, none⟩ = some u' ∧ OpsM w1 u' (if j < i + 1 then mOps (kOs k oss j) xs.length else xs) (Si j)) := fun j xs hx => by
          obtain ⟨u2, hu2, hr2⟩ := unhide HM j xs hx
          have hcell := (hB1.cell o j q1 (unhide HD1 i o (unhide H2)))
          by_cases e : j = i
          · subst e
            rw [List.getElem?_eq_getElem hlt] at hx
            obtain rfl := Option.some.inj hx
            rw [if_pos (by omega)]
            exact ⟨_, hcell.trans hu, ho1⟩
          · refine ⟨u2, hcell.trans hu2, ?_⟩
            have h' := hr2.but hB1 (fun b hb => unhide HD2 j i b e hb)
            by_cases hj : j < i
            · rw [if_pos hj] at h'; rw [if_pos (by omega)]; exact h'
            · rw [if_neg hj] at h'; rw [if_neg (by omega)]; exact h'
        have HB1 : Hid (ButM (fun b => ∃ i, Si i b) w w1) := (unhide HB).trans (hB1.mono (fun b hb => ⟨i, hb⟩))
        clear ho1 hB1 HM HB HMV
        go_wp2
        go_roundw
        case rel => exact ⟨i + 1, by omega, by go_num, by rw [unhide HK1, Int.natCast_add, Int.natCast_mul]; rfl, HM1.out, HB1.out⟩
        case measure => simp [intOf]; omega
      · obtain rfl : i = oss.length := by omega
        have HR : Hid (OpssM wr (.slice (some ⟨o, 0, none⟩) oss.length c) (mOpss k oss) So Si) := Or.inr ⟨o, c, by rw [mOpss_length], unhide H2, Nat.lt_of_lt_of_le h3 hB.size, fun j ys hy => by
          have hj : j < oss.length := by have := (List.getElem?_eq_some_iff.1 hy).1; rwa [mOpss_length] at this
          rw [mOpss_at k oss j hj] at hy
          obtain rfl := Option.some.inj hy
          obtain ⟨u2, hu2, hr2⟩ := hM j oss[j] (List.getElem?_eq_getElem hj)
          rw [if_pos hj] at hr2
          exact ⟨u2, hu2, hr2⟩⟩
        rw [kOs_all]
        clear hM H4 HD1 HD2 HB2 H2
        go_wp2
        go_ret
        exact ⟨rfl, unhide HR, hB⟩

set_option maxHeartbeats 1000000 in
theorem heldOpSS_calls (oss : List (List O2)) (u : Value) (k : Nat) (w : World) (h : IsOpss w u (mOpss k oss)) (b1 : oss.length ≤ 1048576) (b2 : ∀ xs ∈ oss, xs.length ≤ 1048576) (bk : k + 2 * bulkO oss ≤ 1073741824) :
    Calls Tryz.prog 78 #[u, .int .i64 k] w fun e w' => e = .returned (.int .i64 ((k + 2 * bulkO oss : Nat) : Int)) ∧ Below w.heap.size w w' := by
  rcases h with ⟨h0, a, c, rfl⟩ | ⟨g, off, c, rfl, hg, ho⟩
  · obtain rfl : oss = [] := by have := mOpss_length k oss; rw [h0] at this; exact List.eq_nil_of_length_eq_zero (by simpa using this.symm)
    clear h0 b2
    go_enter Tryz.func78, Tryz.ntmps78
    go_wp2
    go_loopw [1, 5] (fun c s wr => s = .int .i64 0 ∧ c = .int .i64 (k : Int) ∧ wr = w) (fun _ _ _ => 0)
    case atStart => exact ⟨rfl, rfl, rfl⟩
    case round =>
      obtain ⟨rfl, rfl, rfl⟩ := hrel
      go_wp2
      go_ret
      exact ⟨by simp [bulkO], Below.refl _ _⟩
  · rw [mOpss_length]
    have HO := hide ho; have HB2 := hide b2
    clear ho b2
    go_enter Tryz.func78, Tryz.ntmps78
    go_wp2
    go_loopw [1, 5] (fun c s wr => ∃ i : Nat, i ≤ oss.length ∧ s = .int .i64 i ∧ c = .int .i64 ((kOs k oss i : Nat) : Int) ∧ Below w.heap.size w wr) (fun _ s _ => oss.length - (intOf s).toNat)
    case atStart => exact ⟨0, Nat.zero_le _, rfl, by rw [kOs_zero], Below.refl _ _⟩
    case round =>
      obtain ⟨i, hi, rfl, rfl, hb⟩ := hrel
      by_cases hlt : i < oss.length
      · have j1 : (i : Int) < (oss.length : Int) := by omega
        obtain ⟨u', hu, hr⟩ := unhide HO i _ (mOpss_at k oss i hlt)
        have hcell := (hb.cell (p := ⟨g, off + i, none⟩) hg).trans hu
        have q1 : g < wr.heap.size := Nat.lt_of_lt_of_le hg hb.size
        have hk1 := kOs_succ k oss i hlt
        have hk2 := kOs_le k oss i
        have MV := heldOpS_calls (oss[i]).length u' (kOs k oss i) wr (hr.of hb) (unhide HB2 _ (List.getElem_mem hlt)) (by omega)
        obtain ⟨a', c', rfl⟩ := isOps_slice hr
        rw [mOps_length] at hcell MV
        have HMV := hide MV; have HK1 := hide hk1
        have hkb : kOs k oss i ≤ 1073741824 := by omega
        have hkn : ¬ (((kOs k oss i + 2 * (oss[i]).length : Nat) : Int) < 0) := by omega
        clear MV hk1 hk2 hr hu
        go_wp2_with fail
        refine (unhide HMV).mono ?_; rintro e w1 ⟨rfl, hb1⟩
        have d1 := bT hb hb1
        clear HMV
        go_wp2
        go_roundw
        case rel => exact ⟨i + 1, by omega, by go_num, by rw [unhide HK1, Int.natCast_add, Int.natCast_mul]; rfl, d1⟩
        case measure => simp [intOf]; omega
      · obtain rfl : i = oss.length := by omega
        rw [kOs_all]
        go_wp2
        go_ret
        exact ⟨rfl, hb⟩
end Go.Proofs.YtnchcndcinpalaaGreatDoor
/-
  LISTS OF LISTS OF OPS THAT GROW: a slice of the call's own whose elements are slices of the call's own, told apart by a label.
-/
namespace Go.Proofs.YtnchcndcinpalaaGreatDoor
open Go Go.RowKit

/-- a slice of slices' heads, of the call's own -/
def OwnH (w : World) (B G cap : Nat) (hs : List Value) : Prop := w.ownsRow B 64 1 (.slice (some ⟨G, 0, none⟩) hs.length cap) hs.length hs
theorem OwnH.lt {w : World} {B g cap : Nat} {hs : List Value} (h : OwnH w B g cap hs) : g < w.heap.size ∧ B ≤ g ∧ hs.length ≤ cap ∧ cap ≤ maxLen := by
  rcases h.2 with ⟨h1, _⟩ | ⟨g', cap', cur, h1, h2, h3, h4, h5, _⟩
  · simp at h1
  · simp only [Value.slice.injEq, Option.some.injEq, Addr.mk.injEq, and_true, true_and] at h1
    obtain ⟨rfl, rfl⟩ := h1
    exact ⟨(Array.getElem?_eq_some_iff.1 h3).1, h2, h4, h5⟩
theorem OwnH.of {w w1 : World} {B g cap : Nat} {hs : List Value} (h : OwnH w B g cap hs) (hb : Below w.heap.size w w1) : OwnH w1 B g cap hs := by
  have hl := h.lt.1
  refine ⟨h.1, ?_⟩
  rcases h.2 with h1 | ⟨g', cap', cur, h1, h2, h3, h4⟩
  · exact Or.inl h1
  · have e : g' = g := by
      simp only [Value.slice.injEq, Option.some.injEq, Addr.mk.injEq, and_true, true_and] at h1
      exact h1.1.symm
    exact Or.inr ⟨g', cap', cur, h1, h2, by rw [hb.block g' (by rw [e]; exact hl)]; exact h3, h4⟩
theorem OwnH.grid {w : World} {B g cap : Nat} {hs : List Value} (h : OwnH w B g cap hs) : ∀ i u, hs[i]? = some u → w.cell? ⟨g, i, none⟩ = some u := by
  rcases h.2 with ⟨h1, _⟩ | ⟨g', cap', cur, h1, h2, h3, h4, h5, h6, h7⟩
  · simp at h1
  · simp only [Value.slice.injEq, Option.some.injEq, Addr.mk.injEq, and_true, true_and] at h1
    obtain ⟨rfl, rfl⟩ := h1
    intro i u hu
    have hi := (List.getElem?_eq_some_iff.1 hu).1
    rw [← h7, List.getElem?_take, if_pos (by omega)] at hu
    simp only [World.cell?, h3]
    simpa using hu
theorem OwnH.start (w : World) (B : Nat) (hB : B ≤ w.heap.size) : OwnH (w.alloc (.cells #[] 64)) B w.heap.size 0 [] :=
  ⟨rfl, Or.inr ⟨w.heap.size, 0, #[], rfl, hB, (MapKept.heap_alloc w _).1, Nat.le_refl _, Nat.zero_le _, rfl, rfl⟩⟩
/-- the lists in the making: their heads hs, the lists oss; the blocks are the call's own (from B on), told apart by lb, none of them G -/
structure GrowO (w : World) (B G c : Nat) (lb : Nat → Nat) (hs : List Value) (oss : List (List O2)) : Prop where
  own : OwnH w B G c hs
  len : hs.length = oss.length
  each : ∀ (i : Nat) (u : Value) (xs : List O2), hs[i]? = some u → oss[i]? = some xs → OpsM w u xs (fun b => B ≤ b ∧ b ≠ G ∧ lb b = i)
theorem GrowO.of {w w1 : World} {B G c : Nat} {lb : Nat → Nat} {hs : List Value} {oss : List (List O2)} (h : GrowO w B G c lb hs oss) (hb : Below w.heap.size w w1) : GrowO w1 B G c lb hs oss :=
  ⟨h.own.of hb, h.len, fun i u xs h1 h2 => (h.each i u xs h1 h2).of hb⟩
theorem GrowO.start (w : World) (B : Nat) (hB : B ≤ w.heap.size) (lb : Nat → Nat) : GrowO (w.alloc (.cells #[] 64)) B w.heap.size 0 lb [] [] :=
  ⟨OwnH.start w B hB, rfl, fun i u xs h => by simp at h⟩
/-- what append has grown leaves lists elsewhere alone -/
theorem OpsM.grown {w w2 : World} {u : Value} {xs : List O2} {S : Nat → Prop} {row : Option Nat} (h : OpsM w u xs S) (hgr : w.grownBy w2 row) (hne : ∀ b, S b → some b ≠ row) : OpsM w2 u xs S := by
  rcases h with h | ⟨b, c, h1, h2, h3, h4⟩
  · exact Or.inl h
  · have hn := hne b h3
    refine Or.inr ⟨b, c, h1, h2, h3, Nat.lt_of_lt_of_le h4.size hgr.size, fun o => (hgr.frozen_far ⟨b, o, none⟩ h4.size hn).trans (h4.frz o), fun o ho => ?_, fun i x hx => ?_⟩
    · obtain ⟨v, hv⟩ := h4.all o ho
      exact ⟨v, (hgr.cell_far ⟨b, o, none⟩ h4.size hn).trans hv⟩
    · obtain ⟨e1, e2⟩ := h4.held i x hx
      exact ⟨(hgr.cell_far ⟨b, _, none⟩ h4.size hn).trans e1, (hgr.cell_far ⟨b, _, none⟩ h4.size hn).trans e2⟩
/-- one more list, by append -/
theorem GrowO.push {w w2 : World} {B G c G2 c2 n : Nat} {lb : Nat → Nat} {hs : List Value} {oss : List (List O2)} {u : Value} {xs : List O2} (h : GrowO w B G c lb hs oss) (hl : hs.length = n) {s : Nat}
    (hold : ∀ (i : Nat) (v : Value) (ys : List O2), hs[i]? = some v → oss[i]? = some ys → OpsM w v ys (fun b => B ≤ b ∧ b ≠ G ∧ lb b = i ∧ b < s)) (hB : B ≤ s) (hu : OpsM w u xs (fun b => s ≤ b ∧ b ≠ G))
    (hown : w2.ownsRow B 64 1 (.slice (some ⟨G2, 0, none⟩) (n + 1) c2) (n + 1) (hs ++ [u])) (hgr : w.grownBy w2 (some G)) (hat : G2 = G ∨ G2 = w.heap.size) : GrowO w2 B G2 c2 (fun b => if s ≤ b then n else lb b) (hs ++ [u]) (oss ++ [xs]) := by
  have hlen := h.len
  refine ⟨?_, by simp [hlen], fun i v ys h1 h2 => ?_⟩
  · unfold OwnH
    rw [List.length_append, hl]
    exact hown
  · by_cases hi : i < hs.length
    · rw [List.getElem?_append_left hi] at h1
      rw [List.getElem?_append_left (by omega)] at h2
      refine (((hold i v ys h1 h2).mono (T := fun b => (B ≤ b ∧ b ≠ G ∧ lb b = i ∧ b < s) ∧ b < w.heap.size) (fun b hb e => ⟨e, hb⟩)).grown hgr (fun b e => by have := e.1.2.1; simpa using this)).mono (fun b _ e => ?_)
      obtain ⟨⟨e1, e2, e3, e4⟩, e5⟩ := e
      exact ⟨e1, by omega, by rw [if_neg (by omega)]; exact e3⟩
    · have hi1 := (List.getElem?_eq_some_iff.1 h1).1
      simp at hi1
      obtain rfl : i = hs.length := by omega
      rw [List.getElem?_append_right (Nat.le_refl _)] at h1
      rw [List.getElem?_append_right (by omega)] at h2
      simp at h1
      simp [hlen] at h2
      subst h1 h2
      refine ((hu.mono (T := fun b => (s ≤ b ∧ b ≠ G) ∧ b < w.heap.size) (fun b hb e => ⟨e, hb⟩)).grown hgr (fun b e => by have := e.1.2; simpa using this)).mono (fun b _ e => ?_)
      obtain ⟨⟨e1, e2⟩, e3⟩ := e
      exact ⟨by omega, by omega, by rw [if_pos e1]; exact hl.symm⟩
theorem GrowO.low {w : World} {B G c : Nat} {lb : Nat → Nat} {hs : List Value} {oss : List (List O2)} (h : GrowO w B G c lb hs oss) : ∀ (i : Nat) (v : Value) (ys : List O2), hs[i]? = some v → oss[i]? = some ys → OpsM w v ys (fun b => B ≤ b ∧ b ≠ G ∧ lb b = i ∧ b < w.heap.size) := fun i v ys h1 h2 =>
  (h.each i v ys h1 h2).mono (fun _ hb e => ⟨e.1, e.2.1, e.2.2, hb⟩)
/-- .. as lists that share nothing -/
theorem GrowO.opssM {w : World} {B G c : Nat} {lb : Nat → Nat} {hs : List Value} {oss : List (List O2)} (h : GrowO w B G c lb hs oss) : OpssM w (.slice (some ⟨G, 0, none⟩) oss.length c) oss (fun b => b = G) (fun i b => B ≤ b ∧ b ≠ G ∧ lb b = i) := by
  refine Or.inr ⟨G, c, rfl, rfl, h.own.lt.1, fun i xs hx => ?_⟩
  have hi := (List.getElem?_eq_some_iff.1 hx).1
  have hi2 : i < hs.length := by have := h.len; omega
  exact ⟨hs[i], h.own.grid i hs[i] (List.getElem?_eq_getElem hi2), h.each i _ xs (List.getElem?_eq_getElem hi2) hx⟩
end Go.Proofs.YtnchcndcinpalaaGreatDoor
/-
  COPIES OF EXPRESSIONS, and columns as expressions, as the specification makes them.
-/
namespace Go.Proofs.YtnchcndcinpalaaGreatDoor
open Go Go.RowKit

def vOps (xs : List O2) : List Value := xs.flatMap fun x => [.int .i64 x.1, .int .i64 x.2]
theorem vOps_length (xs : List O2) : (vOps xs).length = 2 * xs.length := by
  induction xs with
  | nil => rfl
  | cons x r ih => simp only [vOps, List.flatMap_cons, List.length_append, List.length_cons, List.length_nil] at ih ⊢; omega
theorem vOps_at (xs : List O2) : ∀ (i : Nat) (x : O2), xs[i]? = some x → (vOps xs)[i * 2]? = some (.int .i64 x.1) ∧ (vOps xs)[i * 2 + 1]? = some (.int .i64 x.2) := by
  induction xs with
  | nil => intro i x h; simp at h
  | cons y r ih =>
    intro i x h
    cases i with
    | zero =>
      simp only [List.getElem?_cons_zero, Option.some.injEq] at h
      subst h
      exact ⟨rfl, rfl⟩
    | succ i =>
      have := ih i x (by simpa using h)
      have e : vOps (y :: r) = .int .i64 y.1 :: .int .i64 y.2 :: vOps r := rfl
      rw [e, show (i + 1) * 2 = i * 2 + 1 + 1 by omega]
      exact this
theorem one_vOps (xs : List O2) : ∀ u ∈ vOps xs, u.oneCell' = true := fun u hu => by
  unfold vOps at hu
  obtain ⟨x, _, hx⟩ := List.mem_flatMap.1 hu
  simp only [List.mem_cons, List.mem_nil_iff, or_false] at hx
  rcases hx with rfl | rfl <;> rfl
theorem news_ops {w : World} {g off : Nat} {xs : List O2} (h : OpsAt w g off xs) : ∀ j u, (vOps xs)[j]? = some u → w.cell? ((⟨g, off, none⟩ : Addr).add j) = some u := fun j u hu => by
  have hj := (List.getElem?_eq_some_iff.1 hu).1
  rw [vOps_length] at hj
  have hi : j / 2 < xs.length := by omega
  obtain ⟨f0, f1⟩ := vOps_at xs (j / 2) xs[j / 2] (List.getElem?_eq_getElem hi)
  obtain ⟨c0, c1⟩ := h (j / 2) xs[j / 2] (List.getElem?_eq_getElem hi)
  rw [Go.WideShapes.add_plain]
  by_cases e : j % 2 = 0
  · have e2 : j / 2 * 2 = j := by omega
    rw [e2] at f0 c0
    rw [f0] at hu
    rw [c0, ← hu]
  · have e2 : j / 2 * 2 + 1 = j := by omega
    rw [e2] at f1
    rw [show off + j / 2 * 2 + 1 = off + j by omega] at c1
    rw [f1] at hu
    rw [c1, ← hu]
/-- a slice of Ops that append has made -/
theorem opsM_of_owns {w : World} {B G c : Nat} {xs : List O2} (h : w.ownsRow B 72 2 (.slice (some ⟨G, 0, none⟩) xs.length c) xs.length (vOps xs)) : OpsM w (.slice (some ⟨G, 0, none⟩) xs.length c) xs (fun b => B ≤ b) := by
  rcases h.2 with ⟨h1, _⟩ | ⟨g', cap', cur, h1, h2, h3, h4, h5, h6, h7⟩
  · simp at h1
  · simp only [Value.slice.injEq, Option.some.injEq, Addr.mk.injEq, and_true, true_and] at h1
    obtain ⟨rfl, rfl⟩ := h1
    have hcell : ∀ i x, xs[i]? = some x → w.cell? ⟨G, i * 2, none⟩ = some (.int .i64 x.1) ∧ w.cell? ⟨G, i * 2 + 1, none⟩ = some (.int .i64 x.2) := fun i x hx => by
      have hi := (List.getElem?_eq_some_iff.1 hx).1
      obtain ⟨e0, e1⟩ := vOps_at xs i x hx
      rw [← h7, List.getElem?_take, if_pos (by omega)] at e0 e1
      simp only [World.cell?, h3]
      exact ⟨by simpa using e0, by simpa using e1⟩
    refine Or.inr ⟨G, c, rfl, h4, h2, (Array.getElem?_eq_some_iff.1 h3).1, fun o => ?_, fun o ho => ?_, fun i x hx => by simpa using hcell i x hx⟩
    · simp [World.frozen?, h3]
    · have hi : o / 2 < xs.length := by omega
      obtain ⟨e0, e1⟩ := hcell (o / 2) xs[o / 2] (List.getElem?_eq_getElem hi)
      by_cases e : o % 2 = 0
      · exact ⟨_, by rw [show o = o / 2 * 2 by omega]; exact e0⟩
      · exact ⟨_, by rw [show o = o / 2 * 2 + 1 by omega]; exact e1⟩

set_option maxRecDepth 100000 in
set_option maxHeartbeats 2000000 in
theorem l4Copy_calls (xs : List O2) (g off cap : Nat) (w : World) (hg : g < w.heap.size) (hr : OpsAt w g off xs) (hn : xs.length ≤ 1048576) :
    Calls Tryz.prog 58 #[.slice (some ⟨g, off, none⟩) xs.length cap] w fun e w' => ∃ u, e = .returned u ∧ OpsM w' u xs (fun b => w.heap.size ≤ b) ∧ Below w.heap.size w w' := by
  obtain ⟨i, hi, hz⟩ := Option.map_eq_some_iff.1 (show (Tryz.prog.info? 72).map (fun i => (i.zero, i.size, i.bytes)) = some (some (.agg #[.int .i64 0, .int .i64 0]), 2, 16) by kernel_rfl)
  simp only [Prod.mk.injEq] at hz
  obtain ⟨hz0, hz1, hz2⟩ := hz
  have HNw := hide (news_ops (hr.of hg (bA (Below.refl _ _) (.cells #[] 72))))
  have hO : Hid ((w.alloc (.cells #[] 72)).ownsRow w.heap.size 72 2 (.slice (some ⟨w.heap.size, 0, none⟩) 0 0) 0 []) := ⟨rfl, Or.inr ⟨w.heap.size, 0, #[], rfl, Nat.le_refl _, (MapKept.heap_alloc w _).1, Nat.le_refl _, Nat.zero_le _, rfl, rfl⟩⟩
  clear hr
  go_enter Tryz.func58, Tryz.ntmps58
  go_wp2_with (at_builtin; go_must (refine wpList_append_own _ rfl (.tmp 5) (.tmp 6) 64 rfl w.heap.size 72 i _ 2 16 Tryz.underlying64 hi hz0 hz1 hz2 rfl (by decide) (.slice (some ⟨w.heap.size, 0, none⟩) 0 0) 0 [] rfl (unhide hO) ⟨g, off, none⟩ xs.length cap (vOps xs) rfl (by rw [vOps_length]; omega) (unhide HNw) (one_vOps _) (by unfold maxLen; omega) (by omega) (by simp) ?_; intro v' w' hown hgrow hnn))
  have dB : Hid (Below w.heap.size w w') := (bA (Below.refl w.heap.size w) (.cells #[] 72)).grown hgrow (by simp) (fun k hk => by
    have : w.heap.size = k := by simpa [Value.ownBlock] using hk
    omega)
  have HM : Hid (OpsM w' v' xs (fun b => w.heap.size ≤ b)) := by
    show OpsM _ _ _ _
    rw [Nat.zero_add, List.nil_append] at hown
    rcases hown.2 with ⟨h1, h2⟩ | ⟨G, c, cur, h1, _⟩
    · have hx : xs = [] := List.eq_nil_of_length_eq_zero (by omega)
      subst hx
      exact Or.inl ⟨rfl, _, _, h1⟩
    · subst h1
      exact opsM_of_owns hown
  clear hown hgrow hnn
  go_wp2
  go_ret
  exact ⟨_, rfl, unhide HM, unhide dB⟩
end Go.Proofs.YtnchcndcinpalaaGreatDoor
