import Derived.Test.YtnchcndcinpalaaGreatDoorSpecFlat11
/-
  THE SPECIFICATION's JUDGE OF FLAT PLANS.
-/
namespace Go.Proofs.YtnchcndcinpalaaGreatDoor
open Go Go.RowKit

set_option maxRecDepth 100000 in
set_option maxHeartbeats 4000000 in
theorem sFlatOk_calls (ts : List Tb) (fs : List Fn) (Rt : Int) (g cap gt capt : Nat) (w : World) (lt : ts.length ≤ 1048576) (hsm : SmallT ts) (fit : ∀ p ∈ fs, p.Ex.length ≤ 1048576 ∧ p.Exs.length ≤ 1048576 ∧ ∀ xs ∈ p.Exs, xs.length ≤ 1048576)
    (hg : g < w.heap.size) (hn : FnsAt w g 0 fs) (hgt : gt < w.heap.size) (ht : TablesAt w gt 0 ts) :
    Calls Tryz.prog 24 #[.agg #[.slice (some ⟨g, 0, none⟩) fs.length cap, .int .i64 Rt], .agg #[.slice (some ⟨gt, 0, none⟩) ts.length capt]] w fun e w' => e = flatE ts fs Rt ∧ Below w.heap.size w w' := by
  have HDb := hide (fun W (hb : Below w.heap.size w W) => sDbOk_calls ts gt capt W (Nat.lt_of_lt_of_le hgt hb.size) (ht.of hgt hb) lt hsm)
  have HNo := hide (fun (h : ¬ FlatV ts fs Rt) => flatE_no h)
  have HYes := hide (fun (h : FlatV ts fs Rt) => flatE_yes h)
  by_cases hd : DbV ts
  rotate_left
  · have HD : Hid (dB (DbV ts) = false) := dB_false hd
    have HE := hide (unhide HNo (fun h => hd h.db))
    clear HNo HYes hn ht hsm fit hd
    generalize dB (DbV ts) = B at *
    generalize flatE ts fs Rt = E at *
    obtain rfl := HD.out
    go_enter Tryz.func24, Tryz.ntmps24
    go_wp2_with fail
    refine (unhide HDb _ (bA (bA (Below.refl _ _) _) _)).mono ?_; rintro e w1 ⟨rfl, hb⟩
    have n1 := bT (bA (bA (Below.refl w.heap.size w) _) _) hb
    go_wp2
    go_ret2
    exact ⟨(unhide HE).symm, n1⟩
  have HD : Hid (dB (DbV ts) = true) := dB_true hd
  generalize hBd : dB (DbV ts) = B at *
  obtain rfl := HD.out
  clear hBd
  have HW := hide (fun (few : fs.length ≤ 8000) W (hb : Below w.heap.size w W) => l4Widths_calls ts fs Rt g cap gt capt W hd few fit (Nat.lt_of_lt_of_le hg hb.size) (hn.of hg hb) (Nat.lt_of_lt_of_le hgt hb.size) (ht.of hgt hb))
  clear hn ht hsm fit
  have HV := hide (fun h1 h2 h3 h4 h5 => unhide HYes ⟨hd, h1, h2, h3, h4, h5⟩)
  clear HYes hd
  generalize flatE ts fs Rt = E at *
  by_cases h1 : (fs.length : Int) < 1
  · have HE := hide (unhide HNo (fun h => by have := h.some; omega))
    clear HNo HW HV
    go_enter Tryz.func24, Tryz.ntmps24
    go_wp2_with fail
    refine (unhide HDb _ (bA (bA (Below.refl _ _) _) _)).mono ?_; rintro e w1 ⟨rfl, hb⟩
    have n1 := bT (bA (bA (Below.refl w.heap.size w) _) _) hb
    have F := FB.of (s := w.heap.size) (g := g) (nf := fs.length) (cap := cap) (Rt := Rt) (gt := gt) (nt := ts.length) (capt := capt) ⟨by simp [go_sem], by simp [go_sem], by simp [go_sem], (by simp <;> omega), (by simp <;> omega)⟩ hb
    clear hb
    obtain ⟨fp, frt, fd, fs0, fs1⟩ := id F
    go_wp2
    go_ret2
    exact ⟨(unhide HE).symm, n1⟩
  by_cases h2 : 8000 < (fs.length : Int)
  · have HE := hide (unhide HNo (fun h => by have := h.few; omega))
    clear HNo HW HV
    go_enter Tryz.func24, Tryz.ntmps24
    go_wp2_with fail
    refine (unhide HDb _ (bA (bA (Below.refl _ _) _) _)).mono ?_; rintro e w1 ⟨rfl, hb⟩
    have n1 := bT (bA (bA (Below.refl w.heap.size w) _) _) hb
    have F := FB.of (s := w.heap.size) (g := g) (nf := fs.length) (cap := cap) (Rt := Rt) (gt := gt) (nt := ts.length) (capt := capt) ⟨by simp [go_sem], by simp [go_sem], by simp [go_sem], (by simp <;> omega), (by simp <;> omega)⟩ hb
    clear hb
    obtain ⟨fp, frt, fd, fs0, fs1⟩ := id F
    go_wp2
    go_ret2
    exact ⟨(unhide HE).symm, n1⟩
  by_cases h3 : Rt < 0
  · have HE := hide (unhide HNo (fun h => by have := h.root0; omega))
    clear HNo HW HV
    go_enter Tryz.func24, Tryz.ntmps24
    go_wp2_with fail
    refine (unhide HDb _ (bA (bA (Below.refl _ _) _) _)).mono ?_; rintro e w1 ⟨rfl, hb⟩
    have n1 := bT (bA (bA (Below.refl w.heap.size w) _) _) hb
    have F := FB.of (s := w.heap.size) (g := g) (nf := fs.length) (cap := cap) (Rt := Rt) (gt := gt) (nt := ts.length) (capt := capt) ⟨by simp [go_sem], by simp [go_sem], by simp [go_sem], (by simp <;> omega), (by simp <;> omega)⟩ hb
    clear hb
    obtain ⟨fp, frt, fd, fs0, fs1⟩ := id F
    go_wp2
    go_ret2
    exact ⟨(unhide HE).symm, n1⟩
  by_cases h4 : (fs.length : Int) ≤ Rt
  · have HE := hide (unhide HNo (fun h => by have := h.root1; omega))
    clear HNo HW HV
    go_enter Tryz.func24, Tryz.ntmps24
    go_wp2_with fail
    refine (unhide HDb _ (bA (bA (Below.refl _ _) _) _)).mono ?_; rintro e w1 ⟨rfl, hb⟩
    have n1 := bT (bA (bA (Below.refl w.heap.size w) _) _) hb
    have F := FB.of (s := w.heap.size) (g := g) (nf := fs.length) (cap := cap) (Rt := Rt) (gt := gt) (nt := ts.length) (capt := capt) ⟨by simp [go_sem], by simp [go_sem], by simp [go_sem], (by simp <;> omega), (by simp <;> omega)⟩ hb
    clear hb
    obtain ⟨fp, frt, fd, fs0, fs1⟩ := id F
    go_wp2
    go_ret2
    exact ⟨(unhide HE).symm, n1⟩
  obtain ⟨q, rfl⟩ : ∃ q : Nat, Rt = (q : Int) := ⟨Rt.toNat, by omega⟩
  have hq : q < fs.length := by omega
  have hqi : (q : Int) < (fs.length : Int) := by omega
  have HW1 := hide (unhide HW (by omega))
  have HV1 := hide (fun h => unhide HV (by omega) (by omega) (by omega) (by omega) h)
  clear HW HV
  have h5 : ¬ (fs.length : Int) ≤ (q : Int) := h4
  go_enter Tryz.func24, Tryz.ntmps24
  go_wp2_with fail
  refine (unhide HDb _ (bA (bA (Below.refl _ _) _) _)).mono ?_; rintro e w1 ⟨rfl, hb⟩
  have n1 := bT (bA (bA (Below.refl w.heap.size w) _) _) hb
  have F := FB.of (s := w.heap.size) (g := g) (nf := fs.length) (cap := cap) (Rt := (q : Int)) (gt := gt) (nt := ts.length) (capt := capt) ⟨by simp [go_sem], by simp [go_sem], by simp [go_sem], (by simp <;> omega), (by simp <;> omega)⟩ hb
  clear hb
  obtain ⟨fp, frt, fd, fs0, fs1⟩ := id F
  go_wp2_with fail
  refine (unhide HW1 _ n1).mono ?_
  rintro e w2 ⟨⟨hok, g', cap', rfl, hO⟩ | ⟨hno, v, rfl⟩, hb⟩
  · have HE := hide (unhide HV1 hok)
    have n2 := bT n1 hb
    have F2 := F.of hb
    have c0 := hO.row.at q (by rw [fws_length]; exact hq)
    rw [fws_at ts fs fs.length q hq, Nat.zero_add] at c0
    have hz := hO.lt.1
    rw [show ((q : Int)).toNat = q by omega] at HE
    clear hb fp frt fd fs0 fs1 HV1 HW1 HNo HDb hok hO
    obtain ⟨fp, frt, fd, fs0, fs1⟩ := id F2
    generalize fw ts fs q = z at *
    go_wp2
    go_ret2
    exact ⟨(unhide HE).symm, n2⟩
  · have HE := hide (unhide HNo (fun h => hno h.all))
    have n2 := bT n1 hb
    clear HV1 HW1 HNo HDb hno hb
    go_wp2
    go_ret2
    exact ⟨(unhide HE).symm, n2⟩
end Go.Proofs.YtnchcndcinpalaaGreatDoor
