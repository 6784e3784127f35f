import Derived.Test.YteebidljiemegaaDoorQ34
import Derived.Test.YteebidljiemegaaDoorGridFns2
import Derived.BigQuiet
import Derived.Deep.RegionHeld3
import Derived.Deep.DeepCutAuto
namespace Go.Proofs.YteebidljiemegaaDoor
open Go Go.RowKit
def RowsE (w : World) (ua : Option Addr) (xss : List (List V2)) : Prop := xss = [] ∨ ∃ (G : Nat) (rs : List R3), ua = some ⟨G, 0, none⟩ ∧ G < w.heap.size ∧ GridAt w G 0 rs ∧ RowsOk w rs ∧ rs.map kR = xss
theorem RowsE.of {w w1 : World} {ua : Option Addr} {xss : List (List V2)} (h : RowsE w ua xss) (hb : Below w.heap.size w w1) : RowsE w1 ua xss := by
  rcases h with h | ⟨G, rs, h1, h2, h3, h4, h5⟩
  · exact Or.inl h
  · exact Or.inr ⟨G, rs, h1, Nat.lt_of_lt_of_le h2 hb.size, h3.of h2 hb, h4.of hb, h5⟩
def TabsE (w : World) (a : Option Addr) (ts : List Tb) : Prop := ∀ (i : Nat) (hi : i < ts.length), ∃ g ua uc, a = some ⟨g, 0, none⟩ ∧ g < w.heap.size ∧ w.cell? ⟨g, i * 3, none⟩ = some (.string (ts[i]).Name) ∧ w.cell? ⟨g, i * 3 + 1, none⟩ = some (.int .i64 (ts[i]).Cols) ∧ w.cell? ⟨g, i * 3 + 2, none⟩ = some (.slice ua (ts[i]).Rows.length uc) ∧ RowsE w ua (ts[i]).Rows
theorem TabsE.of {w w1 : World} {a : Option Addr} {ts : List Tb} (h : TabsE w a ts) (hb : Below w.heap.size w w1) : TabsE w1 a ts := fun i hi => by
  obtain ⟨g, ua, uc, h1, h2, h3, h4, h5, h6⟩ := h i hi
  exact ⟨g, ua, uc, h1, Nat.lt_of_lt_of_le h2 hb.size, (hb.cell (p := ⟨g, i * 3, none⟩) h2).trans h3, (hb.cell (p := ⟨g, i * 3 + 1, none⟩) h2).trans h4, (hb.cell (p := ⟨g, i * 3 + 2, none⟩) h2).trans h5, h6.of hb⟩
theorem RowsL.grid {w : World} {lab : Lt} {B i G n c : Nat} {rs : List R3} (h : RowsL w lab B i (.slice (some ⟨G, 0, none⟩) n c) rs) : G < w.heap.size ∧ GridAt w G 0 rs ∧ RowsOk w rs := by
  refine ⟨(h.1.lt G rfl).2, fun j r hr => ?_, fun r hr => ?_⟩
  · have hj := (List.getElem?_eq_some_iff.1 hr).1
    rcases h.1.2 with ⟨h1, _⟩ | ⟨G', cap', cur', h1, _⟩
    · simp at h1
    · have ho := h.1
      simp only [Value.slice.injEq, Option.some.injEq, Addr.mk.injEq, and_true] at h1
      obtain ⟨rfl, rfl, rfl⟩ := h1
      rw [Nat.zero_add, ho.cellAt j (by omega), List.getElem?_map, hr]
      rfl
  · obtain ⟨j, hj, rfl⟩ := List.getElem_of_mem hr
    obtain ⟨_, l2, l3⟩ := h.2.2 j _ (List.getElem?_eq_getElem hj)
    exact ⟨l2, l3⟩
theorem RowsL.form {w : World} {lab : Lt} {B i : Nat} {u : Value} {rs : List R3} (h : RowsL w lab B i u rs) : (∃ uc, u = .slice none rs.length uc ∧ rs = []) ∨ ∃ G uc, u = .slice (some ⟨G, 0, none⟩) rs.length uc := by
  rcases h.1.2 with ⟨h1, h2⟩ | ⟨G, cap, cur, h1, _⟩
  · exact Or.inl ⟨0, by rw [h1, h2], List.length_eq_zero_iff.1 h2⟩
  · exact Or.inr ⟨G, cap, h1⟩
theorem TabG.tabsE {w : World} {lab : Lt} {B : Nat} {a : Option Addr} {n c : Nat} {cs : List Value} {ts : List Tb} (h : TabG w lab B (.slice a n c) cs ts) : TabsE w a ts := fun i hi => by
  obtain ⟨u, rs, c0, c1, c2, hm, hr⟩ := h.tab i ts[i] (List.getElem?_eq_getElem hi)
  rcases h.own.2 with ⟨_, h2⟩ | ⟨g, cap, cur, h1, _, h3, _⟩
  · omega
  · have ho := h.own
    rw [h1] at ho
    simp only [Value.slice.injEq] at h1
    have hl : rs.length = (ts[i]).Rows.length := by rw [← hm]; simp
    rcases hr.form with ⟨uc, hu, hrs⟩ | ⟨G, uc, hu⟩
    · subst hu
      exact ⟨g, none, uc, h1.1, (Array.getElem?_eq_some_iff.1 h3).1, by rw [ho.cellAt _ (by omega)]; exact c0, by rw [ho.cellAt _ (by omega)]; exact c1, by rw [ho.cellAt _ (by omega), c2, hl], Or.inl (by rw [← hm, hrs]; rfl)⟩
    · subst hu
      obtain ⟨g1, g2, g3⟩ := hr.grid
      exact ⟨g, some ⟨G, 0, none⟩, uc, h1.1, (Array.getElem?_eq_some_iff.1 h3).1, by rw [ho.cellAt _ (by omega)]; exact c0, by rw [ho.cellAt _ (by omega)]; exact c1, by rw [ho.cellAt _ (by omega), c2, hl], Or.inr ⟨G, rs, rfl, g1, g2, g3, hm⟩⟩
set_option maxHeartbeats 1000000 in
theorem eqRowsE {xss : List (List V2)} (ua ua' : Option Addr) (uc uc' : Nat) (w : World) (hx : RowsE w ua xss) (hy : RowsE w ua' xss) (b1 : xss.length ≤ 1048576) (hx2 : bulk xss ≤ 1048576) :
    Calls Tryd.prog 50 #[.slice ua xss.length uc, .slice ua' xss.length uc'] w fun e w' => e = .returned (.bool true) ∧ Below w.heap.size w w' := by
  by_cases h0 : xss = []
  · subst h0
    clear hx hy
    go_enter Tryd.func50, Tryd.ntmps50
    go_wp2
    go_loopw [5] (fun c wr => c = .int .i64 0 ∧ wr = w) (fun c _ => 0)
    case atStart => exact ⟨rfl, rfl⟩
    case round =>
      obtain ⟨rfl, rfl⟩ := hrel
      go_wp2
      go_ret
      exact ⟨rfl, Below.refl _ _⟩
  · obtain ⟨G, rs, rfl, h2, h4, h5, h3⟩ := hx.resolve_left h0
    obtain ⟨G', qs, rfl, k2, k4, k5, k3⟩ := hy.resolve_left h0
    have l1 : rs.length = xss.length := by rw [← h3]; simp
    have l2 : qs.length = xss.length := by rw [← k3]; simp
    have := eqValSS_calls rs qs G 0 uc G' 0 uc' w h2 k2 h4 k4 h5 k5 (h3.trans k3.symm) (by omega) (fun r hr => Nat.le_trans (bulk_mem (by rw [← h3]; exact List.mem_map_of_mem hr)) hx2)
    rw [l1, l2] at this
    exact this
set_option maxHeartbeats 1000000 in
theorem eqTableE (S : ByteArray) (C : Int) (xss : List (List V2)) (ua ua' : Option Addr) (uc uc' : Nat) (w : World) (hx : RowsE w ua xss) (hy : RowsE w ua' xss) (b1 : xss.length ≤ 1048576) (hx2 : bulk xss ≤ 1048576) :
    Calls Tryd.prog 36 #[.agg #[.string S, .int .i64 C, .slice ua xss.length uc], .agg #[.string S, .int .i64 C, .slice ua' xss.length uc']] w fun e w' => e = .returned (.bool true) ∧ Below w.heap.size w w' := by
  have EI := fun W (hb : Below w.heap.size w W) => eqRowsE ua ua' uc uc' W (hx.of hb) (hy.of hb) b1 hx2
  have HEI := hide EI
  have eC : (C != C) = false := by simp
  have eS : (S.toList == S.toList) = true := by simp
  clear EI hx hy
  go_enter Tryd.func36, Tryd.ntmps36
  go_wp2_with fail
  refine (unhide HEI _ (bA (bA (Below.refl _ _) _) _)).mono ?_; rintro e w1 ⟨rfl, hb1⟩
  go_wp2
  go_ret
  exact ⟨rfl, bT (bA (bA (Below.refl _ _) _) _) hb1⟩
set_option maxHeartbeats 2000000 in
theorem eqTableSE (ts : List Tb) (a a' : Option Addr) (cap cap' : Nat) (w : World) (hx : TabsE w a ts) (hy : TabsE w a' ts) (b1 : ts.length ≤ 1048576) (hk : ∀ t ∈ ts, t.Rows.length ≤ 1048576 ∧ bulk t.Rows ≤ 1048576) :
    Calls Tryd.prog 19 #[.slice a ts.length cap, .slice a' ts.length cap'] w fun e w' => e = .returned (.bool true) ∧ Below w.heap.size w w' := by
  have e0 : ((ts.length : Int) != (ts.length : Int)) = false := by simp
  have HX := hide hx; have HY := hide hy; have HK := hide hk
  clear hx hy hk
  go_enter Tryd.func19, Tryd.ntmps19
  go_wp2
  go_loopw [5] (fun c wr => ∃ k : Nat, k ≤ ts.length ∧ c = .int .i64 k ∧ Below w.heap.size w wr) (fun c _ => ts.length - (intOf c).toNat)
  case atStart => exact ⟨0, Nat.zero_le _, rfl, Below.refl _ _⟩
  case round =>
    obtain ⟨k, hk1, rfl, hb⟩ := hrel
    by_cases l1 : k < ts.length
    · obtain ⟨g, xa, xc, hga, q1, x0, x1, x2, hmx⟩ := ((unhide HX).of hb) k l1
      obtain ⟨g', ya, yc, hgb, q2, y0, y1, y2, hmy⟩ := ((unhide HY).of hb) k l1
      subst hga
      subst hgb
      obtain ⟨hkl, hkb⟩ := unhide HK _ (List.getElem_mem l1)
      have j1 : (k : Int) < (ts.length : Int) := by omega
      cases e : ts[k] with | mk S C xss =>
      rw [e] at x0 x1 x2 y0 y1 y2 hmx hmy hkl hkb
      simp only at x0 x1 x2 y0 y1 y2 hmx hmy hkl hkb
      have EN : Hid (∀ W, Std wr W → Calls Tryd.prog 36 #[.agg #[.string S, .int .i64 C, .slice xa xss.length xc], .agg #[.string S, .int .i64 C, .slice ya xss.length yc]] W fun e w' => e = .returned (.bool true) ∧ Below W.heap.size W w') :=
        fun W h => eqTableE S C xss xa ya xc yc W (hmx.of h.2.2) (hmy.of h.2.2) hkl hkb
      clear e hmx hmy
      go_upto_region 6 with fail
      have h1 := Below.refl wr.heap.size wr
      have h2 := h1
      go_region_held3 (Std wr) (repeat (first | with_reducible assumption | with_reducible exact Std.refl _ | with_reducible refine Std.drew ?_ | with_reducible refine Std.alloc ?_ _ | with_reducible refine Std.setCell ?_ ?_ _ | with_reducible refine Std.call ?_ (by with_reducible assumption) | (simp <;> omega) | omega)) (first | (go_at_call 36; refine (unhide EN _ (by assumption)).mono ?_; rintro e w1 ⟨rfl, hb⟩; (first | have n3 := bT h2 hb | have n3 := bT (bA h2 _) hb | have n3 := bT (Below.drew h2) hb | have n3 := bT (Below.drew (bA h2 _)) hb | have n3 := bT (bA (Below.drew h2) _) hb); (first | have n2 := bT h1 hb | have n2 := bT (bA h1 _) hb | have n2 := bT (Below.drew h1) hb | have n2 := bT (Below.drew (bA h1 _)) hb | have n2 := bT (bA (Below.drew h1) _) hb); obtain ⟨c1, f1⟩ := bcell hb; obtain ⟨c2, f2⟩ := bcell n2; obtain ⟨c3, f3⟩ := bcell n3; have hs := hb.size; (try simp at hs); clear h1 h2; have h1 := hb; have h2 := n2; clear n2 hb))
      have hS : Std wr w1 := by assumption
      have d2 := bT hb hS.2.2
      go_wp2
      go_roundw
      case rel => exact ⟨k + 1, by omega, by go_num, d2⟩
      case measure => simp [intOf]; omega
    · go_wp2
      go_ret
      exact ⟨rfl, hb⟩
theorem eqDbE (ts : List Tb) (a a' : Option Addr) (cap cap' : Nat) (w : World) (hx : TabsE w a ts) (hy : TabsE w a' ts) (b1 : ts.length ≤ 1048576) (hk : ∀ t ∈ ts, t.Rows.length ≤ 1048576 ∧ bulk t.Rows ≤ 1048576) :
    Calls Tryd.prog 6 #[.agg #[.slice a ts.length cap], .agg #[.slice a' ts.length cap']] w fun e w' => e = .returned (.bool true) ∧ Below w.heap.size w w' := by
  have EN := fun W (hb : Below w.heap.size w W) => eqTableSE ts a a' cap cap' W (hx.of hb) (hy.of hb) b1 hk
  have HEN := hide EN
  clear EN hx hy hk
  go_enter Tryd.func6, Tryd.ntmps6
  go_wp2_with fail
  refine (unhide HEN _ (bA (bA (Below.refl _ _) _) _)).mono ?_; rintro e w1 ⟨rfl, hb1⟩
  go_wp2
  go_ret
  exact ⟨rfl, bT (bA (bA (Below.refl _ _) _) _) hb1⟩
end Go.Proofs.YteebidljiemegaaDoor
