import Derived.Test.YtbbjhepagkkjeaaGreatDoorQ28
import Derived.Test.YtbbjhepagkkjeaaGreatDoorQ27
import Derived.Test.YtbbjhepagkkjeaaGreatDoorQ11
import Derived.Test.YtbbjhepagkkjeaaGreatDoorQ24
import Derived.Test.YtbbjhepagkkjeaaGreatDoorQ8
import Derived.Deep.AppendLies
import Derived.Deep.RegionHeld3
import Derived.Deep.DeepCutAuto
import Derived.Test.YtbbjhepagkkjeaaGreatDoorQ25
import Derived.BigQuiet
namespace Go.Proofs.YtbbjhepagkkjeaaGreatDoor
open Go Go.RowKit
structure PlanV (ts : List Tb) (ps : List Pn) : Prop where
  db : DbV ts
  some : 1 ≤ ps.length
  few : ps.length ≤ 2000
  all : frm (nds ps) (ps.length - 1) = 0
  wide : 0 ≤ wid ts ps (ps.length - 1) 0
structure PF (s g np cap gt nt capt : Nat) (W : World) : Prop where
  p : W.cell? ⟨s, 0, none⟩ = some (.slice (some ⟨g, 0, none⟩) np cap)
  d : W.cell? ⟨s + 1, 0, none⟩ = some (.slice (some ⟨gt, 0, none⟩) nt capt)
  sz : s + 1 < W.heap.size
theorem PF.of {s g np cap gt nt capt : Nat} {W W1 : World} (h : PF s g np cap gt nt capt W) (hb : Below W.heap.size W W1) : PF s g np cap gt nt capt W1 := by
  have hs := h.sz
  exact ⟨(hb.cell (p := ⟨s, 0, none⟩) (show s < _ by omega)).trans h.p, (hb.cell (p := ⟨s + 1, 0, none⟩) (show s + 1 < _ by omega)).trans h.d, Nat.lt_of_lt_of_le hs hb.size⟩
end Go.Proofs.YtbbjhepagkkjeaaGreatDoor
namespace Go.Proofs.YtbbjhepagkkjeaaGreatDoor
open Go Go.RowKit
theorem TabsX.at {w : World} {gt : Nat} {ts : List Tb} (h : TabsX w (some ⟨gt, 0, none⟩) ts) (i : Nat) (hi : i < ts.length) : gt < w.heap.size ∧ w.cell? ⟨gt, i * 3 + 1, none⟩ = some (.int .i64 (ts[i]).Cols) ∧ ∃ ua uc, w.cell? ⟨gt, i * 3 + 2, none⟩ = some (.slice ua (ts[i]).Rows.length uc) := by
  obtain ⟨g, ua, uc, h1, h2, h3, h4, h5, h6⟩ := h i hi
  obtain rfl : gt = g := by simpa using h1
  exact ⟨h2, h4, ua, uc, h5⟩
set_option maxRecDepth 100000 in
set_option maxHeartbeats 8000000 in
theorem checkPlan_scan (ts : List Tb) (g T cap gt capt : Nat) (w : World) (h : ScanAt w g T) (ht : TabsX w (some ⟨gt, 0, none⟩) ts) (hTl : T < ts.length) (lt : ts.length ≤ 1048576) (hsm : SmallT ts) (hd : DbV ts) (hTK : TKw w) (hTP : TPlan w) :
    Calls Tryz.prog 25 #[.agg #[.slice (some ⟨g, 0, none⟩) 1 cap], .agg #[.slice (some ⟨gt, 0, none⟩) ts.length capt]] w fun e w' => ∃ b, e = .returned (.tuple #[.slice (some ⟨b, 0, none⟩) 1 1, .bool true]) ∧ Below w.heap.size w w' := by
  have hDB : dB (DbV ts) = true := dB_true hd
  have HDb := hide (fun W (hb : Below w.heap.size w W) => hDB ▸ DbOk_X ts (some ⟨gt, 0, none⟩) capt W (ht.of hb) lt hsm (hTK.of hb))
  have hmf : ∀ (fn : Go.Fn) (first cap : Array Value) (w : World), (Instr.makeFunc fn first cap).run Tryz.prog w = .ok (.func fn first cap) w := fun _ _ _ _ => rfl
  have hcl := hd.each T hTl
  obtain ⟨hgt, ct, ua, uc, cr⟩ := ht.at T hTl
  have hC1 : 1 ≤ (ts[T]).Cols := by unfold TbV at hcl; omega
  have hC2 : (ts[T]).Cols ≤ 16 := by unfold TbV at hcl; omega
  have hFd : FldN ts.length 2 (T : Int) 0 0 0 0 0 := by
    unfold FldN usedP
    refine ⟨by omega, by omega, ?_, fun _ => rfl, fun _ => rfl⟩
    simp <;> omega
  have hFB : dB (FldN ts.length 2 (T : Int) 0 0 0 0 0) = true := dB_true hFd
  have HFO := hide (fun W (hbW : Below w.heap.size w W) => hFB ▸ fieldsOk_calls ts.length 2 (T : Int) 0 0 0 0 0 none none 0 0 W lt (by omega) (by omega) (hTP.of hbW))
  have HOO := hide (fun W (hbW : Below w.heap.size w W) => orderOk_scan g T cap W (h.of hbW) (hTP.of hbW))
  have HPW := hide (fun W (hbW : Below w.heap.size w W) => planWidths_scan g T cap gt ts.length capt (ts[T]).Cols W (h.of hbW) (Nat.lt_of_lt_of_le hgt hbW.size) hTl ((hbW.cell (p := ⟨gt, T * 3 + 1, none⟩) hgt).trans ct))
  have HHD := hide (fun W (hbW : Below w.heap.size w W) fv => handDown_scan g T cap 0 fv W (h.of hbW) (hTP.of hbW))
  generalize hCC : (ts[T]).Cols = C at *
  have HSO := hide (fun W (hbW : Below w.heap.size w W) b hb cb => seenOk_scan T b 0 C W (hTP.of hbW) hb cb (by omega) (by omega) (by omega) (by omega))
  have HSc := hide (fun W (hbW : Below w.heap.size w W) => h.of hbW)
  clear h ht hsm hd hTK hTP hDB hcl hFd hFB hCC ct cr
  generalize ts.length = nt at *
  go_enter Tryz.func25, Tryz.ntmps25
  go_wp2_with fail
  refine (unhide HDb _ (bA (bA (Below.refl _ _) _) _)).mono ?_; rintro e w1 ⟨rfl, hb⟩
  have n1 := bT (bA (bA (Below.refl w.heap.size w) _) _) hb
  have F := PF.of (s := w.heap.size) (g := g) (np := 1) (cap := cap) (gt := gt) (nt := nt) (capt := capt) ⟨by simp [go_sem], by simp [go_sem], by simp⟩ hb
  obtain ⟨hg, c0, c1, c2, c3, c4, c5, c6⟩ := unhide HSc _ n1
  clear hb HDb
  obtain ⟨fp, fd, fs⟩ := id F
  go_wp2
  refine wp_loop_rounds 2 ?_
  rw [rounds_succ]
  go_wp2_with fail
  refine (unhide HFO _ (bA n1 _)).mono ?_; rintro e w2 ⟨rfl, hb2⟩
  have n2 := bT (bA n1 _) hb2
  have F2 := (F.of (bA (Below.refl w1.heap.size w1) _)).of hb2
  clear hb2 HFO fp fd fs hg c0 c1 c2 c3 c4 c5 c6 F n1
  obtain ⟨fp, fd, fs⟩ := id F2
  go_wp2
  rw [rounds_succ]
  go_wp2_with fail
  refine (unhide HOO _ n2).mono ?_; rintro e w3 ⟨rfl, hb3⟩
  have n3 := bT n2 hb3
  have F3 := F2.of hb3
  clear hb3 HOO fp fd fs F2 n2
  obtain ⟨fp, fd, fs⟩ := id F3
  go_wp2_with fail
  refine (unhide HPW _ n3).mono ?_; rintro e w4 ⟨wb, rfl, hwb, hwl, cw, hb4⟩
  have n4 := bT n3 hb4
  have F4 := F3.of hb4
  clear hb4 HPW fp fd fs F3 n3
  obtain ⟨fp, fd, fs⟩ := id F4
  have s3 : w.heap.size < w4.heap.size := by omega
  go_wp2_with fail
  refine (unhide HHD _ (bA n4 _) _).mono ?_; rintro e w5 ⟨eb, rfl, heb, hel, ce, hb5⟩
  have n5 := bT (bA n4 _) hb5
  have F5 := (F4.of (bA (Below.refl w4.heap.size w4) _)).of hb5
  have fv : w5.cell? ⟨w4.heap.size, 0, none⟩ = some (.slice (some ⟨wb, 0, none⟩) 1 1) := (hb5.cell (p := ⟨w4.heap.size, 0, none⟩) (by simp)).trans (by simp [go_sem])
  have fvs : w4.heap.size < w5.heap.size := by have := hb5.size; simp at this; omega
  have cw5 : w5.cell? ⟨wb, 0, none⟩ = some (.int .i64 C) := (hb5.cell (p := ⟨wb, 0, none⟩) (by simp; omega)).trans (((bA (Below.refl w4.heap.size w4) _).cell (p := ⟨wb, 0, none⟩) hwl).trans cw)
  have hwl5 : wb < w5.heap.size := by omega
  obtain ⟨hg, c0, c1, c2, c3, c4, c5, c6⟩ := unhide HSc _ n5
  clear hb5 HHD fp fd fs F4 n4 cw HSc s3
  obtain ⟨fp, fd, fs⟩ := F5
  have fs0 : w.heap.size < w5.heap.size := by omega
  generalize w4.heap.size = vb at *
  have hB0 := bA (Below.refl w5.heap.size w5) (.cells #[.int .i64 2, .int .i64 (T : Int), .int .i64 0, .slice none 0 0, .slice none 0 0, .int .i64 0, .int .i64 0] 39)
  obtain ⟨x1, y1, hvar, m0, m1, m2, m3, m4, m5, m6⟩ := (fun Q (hQ : (w5.alloc (.cells #[.int .i64 2, .int .i64 (T : Int), .int .i64 0, .slice none 0 0, .slice none 0 0, .int .i64 0, .int .i64 0] 39)) = Q) => (by subst hQ; exact ⟨(hB0.cell (p := ⟨eb, 0, none⟩) hel).trans ce, (hB0.cell (p := ⟨wb, 0, none⟩) hwl5).trans cw5, (hB0.cell (p := ⟨vb, 0, none⟩) fvs).trans fv, by simp [go_sem], by simp [go_sem], by simp [go_sem], by simp [go_sem], by simp [go_sem], by simp [go_sem], by simp [go_sem]⟩ : Q.cell? ⟨eb, 0, none⟩ = some (.int .i64 0) ∧ Q.cell? ⟨wb, 0, none⟩ = some (.int .i64 C) ∧ Q.cell? ⟨vb, 0, none⟩ = some (.slice (some ⟨wb, 0, none⟩) 1 1) ∧ Q.cell? ⟨w5.heap.size, 0, none⟩ = some (.int .i64 2) ∧ Q.cell? ⟨w5.heap.size, 1, none⟩ = some (.int .i64 (T : Int)) ∧ Q.cell? ⟨w5.heap.size, 2, none⟩ = some (.int .i64 0) ∧ Q.cell? ⟨w5.heap.size, 3, none⟩ = some (.slice none 0 0) ∧ Q.cell? ⟨w5.heap.size, 4, none⟩ = some (.slice none 0 0) ∧ Q.cell? ⟨w5.heap.size, 5, none⟩ = some (.int .i64 0) ∧ Q.cell? ⟨w5.heap.size, 6, none⟩ = some (.int .i64 0))) _ rfl
  have z1 : vb < (w5.alloc (.cells #[.int .i64 2, .int .i64 (T : Int), .int .i64 0, .slice none 0 0, .slice none 0 0, .int .i64 0, .int .i64 0] 39)).heap.size := by simp; omega
  have z2 : wb < (w5.alloc (.cells #[.int .i64 2, .int .i64 (T : Int), .int .i64 0, .slice none 0 0, .slice none 0 0, .int .i64 0, .int .i64 0] 39)).heap.size := by simp; omega
  have z3 : eb < (w5.alloc (.cells #[.int .i64 2, .int .i64 (T : Int), .int .i64 0, .slice none 0 0, .slice none 0 0, .int .i64 0, .int .i64 0] 39)).heap.size := by simp; omega
  have z4 : w5.heap.size < (w5.alloc (.cells #[.int .i64 2, .int .i64 (T : Int), .int .i64 0, .slice none 0 0, .slice none 0 0, .int .i64 0, .int .i64 0] 39)).heap.size := by simp
  have HBw := hide (bT n5 hB0)
  have RX : Hid (∀ W, Std (w5.alloc (.cells #[.int .i64 2, .int .i64 (T : Int), .int .i64 0, .slice none 0 0, .slice none 0 0, .int .i64 0, .int .i64 0] 39)) W → Calls Tryz.prog 57 #[.agg #[.int .i64 2, .int .i64 (T : Int), .int .i64 0, .slice none 0 0, .slice none 0 0, .int .i64 0, .int .i64 0], .int .i64 0, .slice (some ⟨wb, 0, none⟩) 1 1] W fun e w' => e = .returned (.bool true) ∧ Below W.heap.size W w') := fun W hs => unhide HSO W (bT (unhide HBw) hs.2.2) wb (Nat.lt_of_lt_of_le z2 hs.2.2.size) ((hs.2.2.cell (p := ⟨wb, 0, none⟩) z2).trans y1)
  have hwp : IntKind.i64.wrap C = C := wrap_small _ (by omega) (by omega)
  have hA2 : ¬ 200 < C := by omega
  clear hB0 HSO cw5 hwl5 ce n5
  go_wp2
  refine wp_loop_rounds 2 ?_
  rw [rounds_succ]
  go_upto_region 16 with fail
  clear c0 c1 c2 c3 c4 c5 c6
  generalize (w5.alloc (.cells #[.int .i64 2, .int .i64 (T : Int), .int .i64 0, .slice none 0 0, .slice none 0 0, .int .i64 0, .int .i64 0] 39)) = Wb at *
  generalize w5.heap.size = bx at *
  refine wp_region_held_drew (S := Std Wb) (by kernel_rfl) (Std.drew (Std.refl _)) (fun hHeld => ?_)
  refine tW 0 62 (.slice (some ⟨eb, 0, none⟩) 1 1) ?_
  simp only [puts]
  refine tW 1 63 (.int .i64 0) ?_
  simp only [puts]
  refine tW 2 64 (.pointer (some ⟨eb, 0, none⟩)) ?_
  simp only [puts]
  refine tW 3 65 (.int .i64 0) ?_
  simp only [puts]
  refine tW 4 66 (.slice (some ⟨wb, 0, none⟩) 1 1) ?_
  simp only [puts]
  refine tW 5 67 (.int .i64 0) ?_
  simp only [puts]
  refine tW 6 68 (.pointer (some ⟨wb, 0, none⟩)) ?_
  simp only [puts]
  refine tW 7 69 (.int .i64 C) ?_
  simp only [puts]
  refine tW 8 70 (.int .i64 C) ?_
  simp only [puts]
  refine tW 9 71 (.bool false) ?_
  simp only [puts]
  refine tW 10 72 (.bool false) ?_
  simp only [puts]
  refine tW 11 73 (.pointer (some ⟨bx, 0, none⟩)) ?_
  simp only [puts]
  refine tW 12 74 (.int .i64 2) ?_
  simp only [puts]
  refine tW 13 75 (.bool false) ?_
  simp only [puts]
  refine tW 14 76 (.bool false) ?_
  simp only [puts]
  refine tU 15 77 ?_
  simp only [puts]
  refine tU 16 78 ?_
  simp only [puts]
  refine tU 17 79 ?_
  simp only [puts]
  refine tU 18 80 ?_
  simp only [puts]
  refine tU 19 81 ?_
  simp only [puts]
  refine tU 20 82 ?_
  simp only [puts]
  refine tU 21 83 ?_
  simp only [puts]
  refine tU 22 84 ?_
  simp only [puts]
  refine tU 23 85 ?_
  simp only [puts]
  refine tU 24 86 ?_
  simp only [puts]
  refine tU 25 87 ?_
  simp only [puts]
  refine tW 26 88 (.bool false) ?_
  simp only [puts]
  refine tW 27 89 (.bool false) ?_
  simp only [puts]
  refine tW 28 90 (.bool false) ?_
  simp only [puts]
  refine tW 29 91 (.agg #[.int .i64 2, .int .i64 (T : Int), .int .i64 0, .slice none 0 0, .slice none 0 0, .int .i64 0, .int .i64 0]) ?_
  simp only [puts]
  refine tW 30 92 (.slice (some ⟨eb, 0, none⟩) 1 1) ?_
  simp only [puts]
  refine tW 31 93 (.int .i64 0) ?_
  simp only [puts]
  refine tW 32 94 (.pointer (some ⟨eb, 0, none⟩)) ?_
  simp only [puts]
  refine tW 33 95 (.int .i64 0) ?_
  simp only [puts]
  refine tW 34 96 (.slice (some ⟨wb, 0, none⟩) 1 1) ?_
  simp only [puts]
  refine wpAnyH_ready (rs := [35]) (by kernel_rfl) (by simp) ?_
  refine AllReadyH.cons rfl (fun Kx hK => ?_) AllReadyH.nil
  go_simp
  refine (unhide RX _ (by assumption)).mono ?_
  rintro e w6 ⟨rfl, hb6⟩
  refine hK.out _ _ (Std.call (by assumption) hb6) (fun hHeld2 => ?_)
  clear hK Kx
  refine tW 36 98 (.bool false) ?_
  simp only [puts]
  refine tW 37 99 (.bool false) ?_
  simp only [puts]
  refine wpAnyH_done (by kernel_rfl) ?_ _
  have hb7 := hHeld2.2.2
  have HB := hide (bT (unhide HBw) hb7)
  have fv7 := (hb7.cell (p := ⟨vb, 0, none⟩) z1).trans hvar
  have fvs7 := Nat.lt_of_lt_of_le z1 hb7.size
  go_wp2
  rw [rounds_succ]
  go_wp2
  go_ret2
  exact ⟨wb, rfl, unhide HB⟩
end Go.Proofs.YtbbjhepagkkjeaaGreatDoor
namespace Go.Proofs.YtbbjhepagkkjeaaGreatDoor
open Go Go.RowKit
def capW (n : Int) : Int := if 2000 < n then 2000 + 1 else n
def rowsAt (ts : List Tb) (t : Int) : Int := ((ts[t.toNat]?.map (fun t => t.Rows.length)).getD 0 : Nat)
def siz (ts : List Tb) (ps : List Pn) (i : Nat) : Int :=
  match ps[i]? with
  | none => 0
  | some p =>
    let l := if _h : p.L.toNat < i then siz ts ps p.L.toNat else 0
    let r := if _h : p.R.toNat < i then siz ts ps p.R.toNat else 0
    if p.K = 1 then 1 else if p.K = 2 then capW (rowsAt ts p.T) else if p.K = 5 ∨ p.K = 6 then capW (l * r) else if p.K = 10 then capW (l + r) else l
  termination_by i
end Go.Proofs.YtbbjhepagkkjeaaGreatDoor
namespace Go.Proofs.YtbbjhepagkkjeaaGreatDoor
open Go Go.RowKit
def vInts (xs : List Int) : List Value := xs.map fun x => .int .i64 x
theorem vInts_append (a b : List Int) : vInts (a ++ b) = vInts a ++ vInts b := by simp [vInts]
theorem vInts_take (xs : List Int) (k : Nat) : vInts (xs.take k) = (vInts xs).take k := by simp [vInts, List.map_take]
def OwnI (w : World) (B g cap : Nat) (xs : List Int) : Prop := w.ownsRow B 3 1 (.slice (some ⟨g, 0, none⟩) xs.length cap) xs.length (vInts xs)
theorem OwnI.lt {w : World} {B g cap : Nat} {xs : List Int} (h : OwnI w B g cap xs) : g < w.heap.size ∧ B ≤ g ∧ xs.length ≤ cap ∧ cap ≤ maxLen := by
  rcases h.2 with ⟨h1, _⟩ | ⟨g', cap', cur, h1, h2, h3, h4, h5, _⟩
  · simp at h1
  · simp only [Value.slice.injEq, Option.some.injEq, Addr.mk.injEq, and_true, true_and] at h1
    obtain ⟨rfl, rfl⟩ := h1
    exact ⟨(Array.getElem?_eq_some_iff.1 h3).1, h2, h4, h5⟩
theorem OwnI.of {w w1 : World} {B g cap : Nat} {xs : List Int} (h : OwnI w B g cap xs) (hb : Below w.heap.size w w1) : OwnI w1 B g cap xs := by
  have hl := h.lt.1
  refine ⟨h.1, ?_⟩
  rcases h.2 with h1 | ⟨g', cap', cur, h1, h2, h3, h4⟩
  · exact Or.inl h1
  · have e : g' = g := by
      simp only [Value.slice.injEq, Option.some.injEq, Addr.mk.injEq, and_true, true_and] at h1
      exact h1.1.symm
    exact Or.inr ⟨g', cap', cur, h1, h2, by rw [hb.block g' (by rw [e]; exact hl)]; exact h3, h4⟩
theorem OwnI.cut {w : World} {B g cap : Nat} {xs : List Int} (h : OwnI w B g cap xs) (r : Nat) (hr : r ≤ xs.length) : w.ownsRow B 3 1 (.slice (some ⟨g, 0, none⟩) r cap) r (vInts (xs.take r)) := by
  refine ⟨by simp [vInts]; omega, ?_⟩
  rcases h.2 with ⟨h1, _⟩ | ⟨g', cap', cur, h1, h2, h3, h4, h5, h6, h7⟩
  · simp at h1
  · simp only [Value.slice.injEq, Option.some.injEq, Addr.mk.injEq, and_true, true_and] at h1
    obtain ⟨rfl, rfl⟩ := h1
    refine Or.inr ⟨g, cap, cur, rfl, h2, h3, by omega, h5, h6, ?_⟩
    rw [vInts_take, ← h7, List.take_take, Nat.min_eq_left (by omega), Nat.mul_one]
theorem OwnI.row {w : World} {B g cap : Nat} {xs : List Int} (h : OwnI w B g cap xs) : IntsAt w g 0 xs := by
  rcases h.2 with ⟨h1, _⟩ | ⟨g', cap', cur, h1, h2, h3, h4, h5, h6, h7⟩
  · simp at h1
  · simp only [Value.slice.injEq, Option.some.injEq, Addr.mk.injEq, and_true, true_and] at h1
    obtain ⟨rfl, rfl⟩ := h1
    intro i x hx
    have hi := (List.getElem?_eq_some_iff.1 hx).1
    have e0 : (vInts xs)[i]? = some (.int .i64 x) := by simp [vInts, hx]
    rw [← h7] at e0
    rw [List.getElem?_take, if_pos (by omega)] at e0
    simp only [Nat.zero_add, World.cell?, h3]
    simpa using e0
end Go.Proofs.YtbbjhepagkkjeaaGreatDoor
namespace Go.Proofs.YtbbjhepagkkjeaaGreatDoor
open Go Go.RowKit
theorem OwnI.push {w2 : World} {B g2 cap2 : Nat} {xs : List Int} {n : Nat} {z : Int} (hl : xs.length = n) (h : w2.ownsRow B 3 1 (.slice (some ⟨g2, 0, none⟩) (n + 1) cap2) (n + 1) (vInts xs ++ [.int .i64 z])) : OwnI w2 B g2 cap2 (xs ++ [z]) := by
  unfold OwnI
  rw [vInts_append, show (xs ++ [z]).length = n + 1 by simp [hl]]
  exact h
end Go.Proofs.YtbbjhepagkkjeaaGreatDoor
namespace Go.Proofs.YtbbjhepagkkjeaaGreatDoor
open Go Go.RowKit
theorem wid_down {ts : List Tb} {ps : List Pn} {i : Nat} {env : Int} (hi : i < ps.length) (h : 0 ≤ wid ts ps i env) :
    UsedP ts ps[i] ∧ (0 < arity (ps[i]).K → ∃ e, 0 ≤ wid ts ps (ps[i]).L.toNat e) ∧ (1 < arity (ps[i]).K → ∃ e, 0 ≤ wid ts ps (ps[i]).R.toNat e) := by
  rw [wid, List.getElem?_eq_getElem hi] at h
  dsimp only at h
  by_cases hu : UsedP ts ps[i]
  · refine ⟨hu, fun ha => ?_, fun ha => ?_⟩
    · rw [if_neg (by simpa using hu), if_pos ha] at h
      by_cases hl : (ps[i]).L.toNat < i
      · rw [dif_pos hl] at h
        by_cases h0 : wid ts ps (ps[i]).L.toNat env < 0
        · rw [if_pos h0] at h; omega
        · exact ⟨env, by omega⟩
      · rw [dif_neg hl, if_pos (by omega)] at h
        omega
    · rw [if_neg (by simpa using hu)] at h
      generalize (if 0 < arity (ps[i]).K then (if _h : (ps[i]).L.toNat < i then wid ts ps (ps[i]).L.toNat env else -1) else 0) = l at h
      by_cases hl0 : l < 0
      · rw [if_pos hl0] at h; omega
      rw [if_neg hl0, if_pos ha] at h
      by_cases hr : (ps[i]).R.toNat < i
      · rw [dif_pos hr] at h
        by_cases h0 : wid ts ps (ps[i]).R.toNat (insideW (ps[i]).K env l) < 0
        · rw [if_pos h0] at h; omega
        · exact ⟨insideW (ps[i]).K env l, by omega⟩
      · rw [dif_neg hr, if_pos (by omega)] at h
        omega
  · rw [if_pos (by simpa using hu)] at h
    omega
theorem frm_fields {ps : List Pn} {i : Nat} (hi : i < ps.length) (h : frm (nds ps) i ≠ -1) : 1 ≤ (ps[i]).K ∧ (ps[i]).K ≤ 10 ∧ (arity (ps[i]).K = 0 → (ps[i]).L = 0) ∧ (arity (ps[i]).K ≠ 2 → (ps[i]).R = 0) := by
  have hk := kidsAt_nds hi
  unfold kidsP at hk
  have hK : arity (ps[i]).K ≠ -1 → 1 ≤ (ps[i]).K ∧ (ps[i]).K ≤ 10 := fun ha => by
    unfold arity at ha
    split at ha
    · omega
    split at ha
    · omega
    split at ha
    · assumption
    · exact absurd rfl ha
  rcases arity_cases (ps[i]).K with ha | ha | ha | ha
  · rw [if_neg (by omega), if_neg (by omega), if_neg (by omega)] at hk
    exact absurd (frm_neg hk) h
  · rw [if_pos ha] at hk
    by_cases hz : (ps[i]).L = 0 ∧ (ps[i]).R = 0
    · exact ⟨(hK (by omega)).1, (hK (by omega)).2, fun _ => hz.1, fun _ => hz.2⟩
    · rw [if_neg hz] at hk
      exact absurd (frm_neg hk) h
  · rw [if_neg (by omega), if_pos ha] at hk
    by_cases hz : (ps[i]).R = 0
    · exact ⟨(hK (by omega)).1, (hK (by omega)).2, fun h => by omega, fun _ => hz⟩
    · rw [if_neg hz] at hk
      exact absurd (frm_neg hk) h
  · exact ⟨(hK (by omega)).1, (hK (by omega)).2, fun h => by omega, fun h => absurd ha h⟩
theorem PlanV.fld {ts : List Tb} {ps : List Pn} (h : PlanV ts ps) : ∀ (i : Nat) (hi : i < ps.length), FldV ts.length ps[i] := by
  have hn := h.some
  have hs : Seg (nds ps) 0 (ps.length - 1 + 1) [((ps.length - 1 : Nat) : Int)] := (frm_seg (f := 0) (by simpa using h.all)).one
  have hall := hs.all (P := fun j => j < ps.length → ∃ e, 0 ≤ wid ts ps j e) (fun j hP x hx hxl => by
    by_cases hj : j < ps.length
    · obtain ⟨e, he⟩ := hP hj
      obtain ⟨_, d1, d2⟩ := wid_down hj he
      have hf := frm_fields hj (frm_all h.all j (by omega))
      rw [kidsAt_nds hj] at hx
      unfold kidsP at hx
      rcases arity_of hf.1 hf.2.1 with ha | ha | ha
      · rw [if_pos ha, if_pos ⟨hf.2.2.1 ha, hf.2.2.2 (by omega)⟩] at hx
        simp at hx
      · rw [if_neg (by omega), if_pos ha, if_pos (hf.2.2.2 (by omega))] at hx
        simp only [List.mem_singleton] at hx
        subst hx
        exact d1 (by omega)
      · rw [if_neg (by omega), if_neg (by omega), if_pos ha] at hx
        rcases List.mem_cons.1 hx with rfl | h'
        · exact d1 (by omega)
        · simp only [List.mem_singleton] at h'
          subst h'
          exact d2 (by omega)
    · have : kidsAt (nds ps) j = [] := by simp [kidsAt, nds, hj]
      rw [this] at hx
      simp at hx) (fun x hx _ => by
    simp only [List.mem_singleton] at hx
    subst hx
    exact ⟨0, by simpa using h.wide⟩)
  intro i hi
  obtain ⟨e, he⟩ := hall i (by omega) (by omega) hi
  have hf := frm_fields hi (frm_all h.all i (by omega))
  exact ⟨hf.1, hf.2.1, (wid_down hi he).1, hf.2.2.1, hf.2.2.2⟩
theorem PlanV.good {ts : List Tb} {ps : List Pn} (h : PlanV ts ps) : Good ts ps := ⟨h.db, h.some, h.fld, h.all⟩
theorem PlanV.width {ts : List Tb} {ps : List Pn} (h : PlanV ts ps) : wid ts ps (ps.length - 1) 0 = iw ts ps (ps.length - 1) := h.good.wid_iw ps.length _ (by have := h.some; omega) (by have := h.some; omega) 0 h.wide
end Go.Proofs.YtbbjhepagkkjeaaGreatDoor
namespace Go.Proofs.YtbbjhepagkkjeaaGreatDoor
open Go Go.RowKit
end Go.Proofs.YtbbjhepagkkjeaaGreatDoor
namespace Go.Proofs.YtbbjhepagkkjeaaGreatDoor
open Go Go.RowKit
theorem cutOff_calls (n : Int) (w : World) : Calls Tryz.prog 60 #[.int .i64 n] w fun e w' => e = .returned (.int .i64 (capW n)) ∧ w' = w := by
  have HE : Hid (capW n = if 2000 < n then 2000 + 1 else n) := rfl
  generalize capW n = z at *
  go_enter Tryz.func60, Tryz.ntmps60
  go_wp2
  all_goals
    go_ret
    exact ⟨congrArg (fun z => Ending.returned (.int .i64 z)) (by have := unhide HE; split at this <;> omega), rfl⟩
def RTo (ts : List Tb) (ps : List Pn) (k : Nat) (xs : List Int) : Prop := xs.length = ps.length ∧ ∀ j, j < k → xs.getD j 0 = siz ts ps j
theorem RTo.set {ts : List Tb} {ps : List Pn} {k : Nat} {xs : List Int} (h : RTo ts ps k xs) (hk : k < ps.length) {v : Int} (hv : siz ts ps k = v) : RTo ts ps (k + 1) (xs.set k v) := by
  obtain ⟨h1, h2⟩ := h
  refine ⟨by simp [h1], fun j hj => ?_⟩
  rw [getD_set (by omega)]
  by_cases e : j = k
  · rw [if_pos e, e]; exact hv.symm
  · rw [if_neg e]; exact h2 j (by omega)
end Go.Proofs.YtbbjhepagkkjeaaGreatDoor
namespace Go.Proofs.YtbbjhepagkkjeaaGreatDoor
open Go Go.RowKit
end Go.Proofs.YtbbjhepagkkjeaaGreatDoor
namespace Go.Proofs.YtbbjhepagkkjeaaGreatDoor
open Go Go.RowKit
end Go.Proofs.YtbbjhepagkkjeaaGreatDoor
namespace Go.Proofs.YtbbjhepagkkjeaaGreatDoor
open Go Go.RowKit
end Go.Proofs.YtbbjhepagkkjeaaGreatDoor
namespace Go.Proofs.YtbbjhepagkkjeaaGreatDoor
open Go Go.RowKit
structure CF (s g np cap gt nt capt vb wb eb : Nat) (f : Nat → Int) (G : List Int) (W : World) : Prop where
  pf : PF s g np cap gt nt capt W
  var : W.cell? ⟨vb, 0, none⟩ = some (.slice (some ⟨wb, 0, none⟩) np np)
  vsz : vb < W.heap.size
  row : FnRow W wb np f
  env : IntRow W eb G
theorem CF.of {s g np cap gt nt capt vb wb eb : Nat} {f : Nat → Int} {G : List Int} {W W1 : World} (h : CF s g np cap gt nt capt vb wb eb f G W) (hb : Below W.heap.size W W1) : CF s g np cap gt nt capt vb wb eb f G W1 :=
  ⟨h.pf.of hb, (hb.cell (p := ⟨vb, 0, none⟩) h.vsz).trans h.var, Nat.lt_of_lt_of_le h.vsz hb.size, h.row.of hb, h.env.of hb⟩
end Go.Proofs.YtbbjhepagkkjeaaGreatDoor
namespace Go.Proofs.YtbbjhepagkkjeaaGreatDoor
open Go Go.RowKit
end Go.Proofs.YtbbjhepagkkjeaaGreatDoor
