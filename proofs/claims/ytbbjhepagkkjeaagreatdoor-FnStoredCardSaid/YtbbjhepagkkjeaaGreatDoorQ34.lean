import Derived.Test.YtbbjhepagkkjeaaGreatDoorQ29
import Derived.Test.YtbbjhepagkkjeaaGreatDoorQ33
import Derived.Test.YtbbjhepagkkjeaaGreatDoorQ23
import Derived.Test.YtbbjhepagkkjeaaGreatDoorQ11
import Derived.Deep.AppendLies
namespace Go.Proofs.YtbbjhepagkkjeaaGreatDoor
open Go Go.RowKit
set_option maxRecDepth 100000 in
set_option maxHeartbeats 8000000 in
theorem workOf_scan (g T cap gt nt capt : Nat) (ua : Option Addr) (n uc : Nat) (w : World) (h : ScanAt w g T) (hgt : gt < w.heap.size) (hT : T < nt) (hn : n ≤ 1000) (ct : w.cell? ⟨gt, T * 3 + 2, none⟩ = some (.slice ua n uc)) (hTP : TPlan w) :
    Calls Tryz.prog 26 #[.slice (some ⟨g, 0, none⟩) 1 cap, .slice (some ⟨gt, 0, none⟩) nt capt] w fun e w' => e = .returned (.int .i64 (n : Int)) ∧ Below w.heap.size w w' := by
  have hmf : ∀ (fn : Go.Fn) (first cap : Array Value) (w : World), (Instr.makeFunc fn first cap).run Tryz.prog w = .ok (.func fn first cap) w := fun _ _ _ _ => rfl
  have HPR := hide (planRows_scan g T cap gt nt capt ua n uc w h hgt hT ct)
  have HHD := hide (fun W (hbW : Below w.heap.size w W) fv => handDown_scan g T cap 1 fv W (h.of hbW) (hTP.of hbW))
  have hcw : capW (1 * (n : Int)) = (n : Int) := by unfold capW; rw [if_neg (by omega)]; omega
  have HCap := hide (fun W => cutOff_calls (1 * (n : Int)) W)
  rw [hcw] at HCap
  rw [Int.one_mul] at HCap
  clear h ct hTP hcw
  go_enter Tryz.func26, Tryz.ntmps26
  go_wp2_with fail
  refine (unhide HPR).mono ?_; rintro e w1 ⟨rb, rfl, hrb, hrl, cr, hb1⟩
  clear HPR
  go_wp2_with fail
  refine (unhide HHD _ (bA hb1 _) _).mono ?_; rintro e w5 ⟨eb, rfl, heb, hel, ce, hb5⟩
  have d5 := bT (bA hb1 _) hb5
  have fv : w5.cell? ⟨w1.heap.size, 0, none⟩ = some (.slice (some ⟨rb, 0, none⟩) 1 1) := (hb5.cell (p := ⟨w1.heap.size, 0, none⟩) (by simp)).trans (by simp [go_sem])
  have fvs : w1.heap.size < w5.heap.size := by have := hb5.size; simp at this; omega
  have cr5 : w5.cell? ⟨rb, 0, none⟩ = some (.int .i64 (n : Int)) := (hb5.cell (p := ⟨rb, 0, none⟩) (by simp; omega)).trans (((bA (Below.refl w1.heap.size w1) _).cell (p := ⟨rb, 0, none⟩) hrl).trans cr)
  have hrl5 : rb < w5.heap.size := by omega
  have HB5 := hide d5
  have hwp : IntKind.i64.wrap (n : Int) = (n : Int) := wrap_small _ (by omega) (by omega)
  have h0n : (0 : Int) ≤ (n : Int) := by omega
  clear hb5 HHD d5 cr hb1 hmf
  generalize w1.heap.size = vb at *
  go_wp2
  refine wp_loop_rounds 2 ?_
  rw [rounds_succ]
  go_upto_region 7 with fail
  by_cases hz : n = 0
  · subst hz
    have hw0 : IntKind.i64.wrap 0 = 0 := wrap_small _ (by omega) (by omega)
    refine wp_region_held_drew (S := Std w5) (by kernel_rfl) (Std.drew (Std.refl _)) (fun hHeld => ?_)
    refine tW 0 20 (.int .i64 0) ?_
    simp only [puts]
    refine tW 1 21 (.slice (some ⟨eb, 0, none⟩) 1 1) ?_
    simp only [puts]
    refine tW 2 22 (.int .i64 0) ?_
    simp only [puts]
    refine tW 3 23 (.pointer (some ⟨eb, 0, none⟩)) ?_
    simp only [puts]
    refine tW 4 24 (.int .i64 1) ?_
    simp only [puts]
    refine tW 5 25 (.slice (some ⟨rb, 0, none⟩) 1 1) ?_
    simp only [puts]
    refine tW 6 26 (.int .i64 0) ?_
    simp only [puts]
    refine tW 7 27 (.pointer (some ⟨rb, 0, none⟩)) ?_
    simp only [puts]
    refine tW 8 28 (.int .i64 0) ?_
    simp only [puts]
    refine tW 9 29 (.int .i64 0) ?_
    simp only [puts]
    refine wpAnyH_ready (rs := [10]) (by kernel_rfl) (by simp) ?_
    refine AllReadyH.cons rfl (fun Kx hK => ?_) AllReadyH.nil
    go_simp
    refine (unhide HCap _).mono ?_
    rintro e Wx ⟨rfl, hWx⟩
    subst hWx
    refine hK.out _ _ (by assumption) (fun hHeld2 => ?_)
    clear hK Kx
    refine tW 11 31 (.int .i64 0) ?_
    simp only [puts]
    refine tW 12 7 (.int .i64 0) ?_
    simp only [puts]
    refine wpAnyH_done (by kernel_rfl) ?_ _
    have HB := hide (bT (unhide HB5) hHeld2.2.2)
    go_wp2
    rw [rounds_succ]
    go_wp2
    go_ret
    exact ⟨rfl, unhide HB⟩
  · have h1 : (0 : Int) < (n : Int) := by omega
    have h2 : (n : Int) = 0 → False := by omega
    refine wp_region_held_drew (S := Std w5) (by kernel_rfl) (Std.drew (Std.refl _)) (fun hHeld => ?_)
    refine tW 0 20 (.int .i64 0) ?_
    simp only [puts]
    refine tW 1 21 (.slice (some ⟨eb, 0, none⟩) 1 1) ?_
    simp only [puts]
    refine tW 2 22 (.int .i64 0) ?_
    simp only [puts]
    refine tW 3 23 (.pointer (some ⟨eb, 0, none⟩)) ?_
    simp only [puts]
    refine tW 4 24 (.int .i64 1) ?_
    simp only [puts]
    refine tW 5 25 (.slice (some ⟨rb, 0, none⟩) 1 1) ?_
    simp only [puts]
    refine tW 6 26 (.int .i64 0) ?_
    simp only [puts]
    refine tW 7 27 (.pointer (some ⟨rb, 0, none⟩)) ?_
    simp only [puts]
    refine tW 8 28 (.int .i64 (n : Int)) ?_
    simp only [puts]
    refine tW 9 29 (.int .i64 (n : Int)) ?_
    simp only [puts]
    refine wpAnyH_ready (rs := [10]) (by kernel_rfl) (by simp) ?_
    refine AllReadyH.cons rfl (fun Kx hK => ?_) AllReadyH.nil
    go_simp
    refine (unhide HCap _).mono ?_
    rintro e Wx ⟨rfl, hWx⟩
    subst hWx
    refine hK.out _ _ (by assumption) (fun hHeld2 => ?_)
    clear hK Kx
    refine tW 11 31 (.int .i64 (n : Int)) ?_
    simp only [puts]
    refine tW 12 7 (.int .i64 (n : Int)) ?_
    simp only [puts]
    refine wpAnyH_done (by kernel_rfl) ?_ _
    have HB := hide (bT (unhide HB5) hHeld2.2.2)
    go_wp2
    rw [rounds_succ]
    go_wp2
    go_ret
    exact ⟨rfl, unhide HB⟩
theorem make_oper1 (w : World) : (Instr.makeSlice 103 (.int .i64 1) (.int .i64 1)).run Tryz.prog w = .ok (.slice (some ⟨w.heap.size, 0, none⟩) 1 1) (w.alloc (.cells #[.nilIface] 72)) := by
  have h := make_opers 1 (by omega) w
  have e : madeCells #[.nilIface] 1 = #[.nilIface] := by simp [madeCells]; exact ⟨0, rfl, rfl⟩
  rw [e] at h
  exact h
set_option maxRecDepth 100000 in
set_option maxHeartbeats 8000000 in
theorem operatorOf_scan (g T cap gt nt capt : Nat) (ua : Option Addr) (n uc : Nat) (w : World) (h : ScanAt w g T) (hgt : gt < w.heap.size) (hT : T < nt) (ct : w.cell? ⟨gt, T * 3 + 2, none⟩ = some (.slice ua n uc)) :
    Calls Tryz.prog 29 #[.slice (some ⟨g, 0, none⟩) 1 cap, .slice (some ⟨gt, 0, none⟩) nt capt] w fun e w' => e = .returned (.iface 107 (.agg #[.slice ua n uc])) ∧ Below w.heap.size w w' := by
  have hmk := make_oper1
  obtain ⟨hg, c0, c1, c2, c3, c4, c5, c6⟩ := h
  have hTi : (T : Int) < (nt : Int) := by omega
  go_enter Tryz.func29, Tryz.ntmps29
  go_wp2
  refine wp_loop_rounds 2 ?_
  rw [rounds_succ]
  go_upto_region 5 with fail
  have hB0 : Below w.heap.size w ((w.alloc (.cells #[.nilIface] 72)).alloc (.cells #[.int .i64 2, .int .i64 (T : Int), .int .i64 0, .slice none 0 0, .slice none 0 0, .int .i64 0, .int .i64 0] 39)) := bA (bA (Below.refl _ _) _) _
  have ct1 := (hB0.cell (p := ⟨gt, T * 3 + 2, none⟩) hgt).trans ct
  obtain ⟨n0, n1, n5, n6, r0⟩ := (fun Q (hQ : ((w.alloc (.cells #[.nilIface] 72)).alloc (.cells #[.int .i64 2, .int .i64 (T : Int), .int .i64 0, .slice none 0 0, .slice none 0 0, .int .i64 0, .int .i64 0] 39)) = Q) => (by subst hQ; exact ⟨by simp [go_sem], by simp [go_sem], by simp [go_sem], by simp [go_sem], by simp [go_sem]⟩ : Q.cell? ⟨w.heap.size + 1, 0, none⟩ = some (.int .i64 2) ∧ Q.cell? ⟨w.heap.size + 1, 1, none⟩ = some (.int .i64 (T : Int)) ∧ Q.cell? ⟨w.heap.size + 1, 5, none⟩ = some (.int .i64 0) ∧ Q.cell? ⟨w.heap.size + 1, 6, none⟩ = some (.int .i64 0) ∧ Q.cell? ⟨w.heap.size, 0, none⟩ = some .nilIface)) _ rfl
  have rf : ∀ o, ((w.alloc (.cells #[.nilIface] 72)).alloc (.cells #[.int .i64 2, .int .i64 (T : Int), .int .i64 0, .slice none 0 0, .slice none 0 0, .int .i64 0, .int .i64 0] 39)).frozen? ⟨w.heap.size, o, none⟩ = false := fun o => by simp [go_sem]
  have z0 : w.heap.size < ((w.alloc (.cells #[.nilIface] 72)).alloc (.cells #[.int .i64 2, .int .i64 (T : Int), .int .i64 0, .slice none 0 0, .slice none 0 0, .int .i64 0, .int .i64 0] 39)).heap.size := by simp; omega
  have z1 : w.heap.size + 1 < ((w.alloc (.cells #[.nilIface] 72)).alloc (.cells #[.int .i64 2, .int .i64 (T : Int), .int .i64 0, .slice none 0 0, .slice none 0 0, .int .i64 0, .int .i64 0] 39)).heap.size := by simp
  have z2 : gt < ((w.alloc (.cells #[.nilIface] 72)).alloc (.cells #[.int .i64 2, .int .i64 (T : Int), .int .i64 0, .slice none 0 0, .slice none 0 0, .int .i64 0, .int .i64 0] 39)).heap.size := by simp; omega
  have HB0 := hide hB0
  clear hB0 c0 c1 c2 c3 c4 c5 c6 ct hmk
  generalize ((w.alloc (.cells #[.nilIface] 72)).alloc (.cells #[.int .i64 2, .int .i64 (T : Int), .int .i64 0, .slice none 0 0, .slice none 0 0, .int .i64 0, .int .i64 0] 39)) = Wb at *
  refine wp_region_held_drew (S := Std Wb) (by kernel_rfl) (Std.drew (Std.refl _)) (fun hHeld => ?_)
  refine tW 0 20 (.slice (some ⟨w.heap.size, 0, none⟩) 1 1) ?_
  simp only [puts]
  refine tW 1 21 (.pointer (some ⟨w.heap.size + 1, 5, none⟩)) ?_
  simp only [puts]
  refine tW 2 22 (.int .i64 0) ?_
  simp only [puts]
  refine tW 3 23 (.pointer (some ⟨w.heap.size, 0, none⟩)) ?_
  simp only [puts]
  refine tW 4 24 (.nilIface) ?_
  simp only [puts]
  refine tW 5 25 (.slice (some ⟨w.heap.size, 0, none⟩) 1 1) ?_
  simp only [puts]
  refine tW 6 26 (.pointer (some ⟨w.heap.size + 1, 6, none⟩)) ?_
  simp only [puts]
  refine tW 7 27 (.int .i64 0) ?_
  simp only [puts]
  refine tW 8 28 (.pointer (some ⟨w.heap.size, 0, none⟩)) ?_
  simp only [puts]
  refine tW 9 29 (.nilIface) ?_
  simp only [puts]
  refine tW 10 8 (.nilIface) ?_
  simp only [puts]
  refine tW 11 9 (.nilIface) ?_
  simp only [puts]
  refine wpAnyH_done (by kernel_rfl) ?_ _
  have m0 : Wb.drew.cell? ⟨w.heap.size + 1, 0, none⟩ = some (.int .i64 2) := n0
  have m1 : Wb.drew.cell? ⟨w.heap.size + 1, 1, none⟩ = some (.int .i64 (T : Int)) := n1
  have ct2 : Wb.drew.cell? ⟨gt, T * 3 + 2, none⟩ = some (.slice ua n uc) := ct1
  have rkd : Wb.drew.cell? ⟨w.heap.size, 0, none⟩ = some .nilIface := r0
  have rfd : ∀ o, Wb.drew.frozen? ⟨w.heap.size, o, none⟩ = false := rf
  have y0 : w.heap.size < Wb.drew.heap.size := z0
  have y1 : w.heap.size + 1 < Wb.drew.heap.size := z1
  have y2 : gt < Wb.drew.heap.size := z2
  have HB1 : Hid (Below w.heap.size w Wb.drew) := (unhide HB0).drew
  clear hHeld n0 n1 n5 n6 r0 rf z0 z1 z2 ct1 HB0
  generalize Wb.drew = Wd at *
  go_wp2
  rw [rounds_succ]
  go_wp2
  go_ret
  exact ⟨rfl, (unhide HB1).setCell (p := ⟨w.heap.size, 0, none⟩) (Nat.le_refl _) _⟩
end Go.Proofs.YtbbjhepagkkjeaaGreatDoor
namespace Go.Proofs.YtbbjhepagkkjeaaGreatDoor
open Go Go.RowKit
end Go.Proofs.YtbbjhepagkkjeaaGreatDoor
namespace Go.Proofs.YtbbjhepagkkjeaaGreatDoor
open Go Go.RowKit
end Go.Proofs.YtbbjhepagkkjeaaGreatDoor
namespace Go.Proofs.YtbbjhepagkkjeaaGreatDoor
open Go Go.RowKit
theorem owns_of {w w1 : World} {B : Nat} {t : TypeId} {s : Nat} {v : Value} {n : Nat} {xs : List Value} (h : w.ownsRow B t s v n xs) (hb : ∀ g, v.ownBlock = some g → w1.heap[g]? = w.heap[g]?) : w1.ownsRow B t s v n xs := by
  refine ⟨h.1, ?_⟩
  rcases h.2 with h1 | ⟨g', cap', cur, h1, h2, h3, h4⟩
  · exact Or.inl h1
  · exact Or.inr ⟨g', cap', cur, h1, h2, by rw [hb g' (by rw [h1]; rfl)]; exact h3, h4⟩
theorem owns_lt {w : World} {B : Nat} {t : TypeId} {s : Nat} {v : Value} {n : Nat} {xs : List Value} (h : w.ownsRow B t s v n xs) (g : Nat) (hg : v.ownBlock = some g) : B ≤ g ∧ g < w.heap.size := by
  rcases h.2 with ⟨h1, _⟩ | ⟨g', cap', cur, h1, h2, h3, _⟩
  · rw [h1] at hg
    simp [Value.ownBlock] at hg
  · rw [h1] at hg
    obtain rfl : g' = g := by simpa [Value.ownBlock] using hg
    exact ⟨h2, (Array.getElem?_eq_some_iff.1 h3).1⟩
structure KS (X : Nat → Prop) (w1 : World) (b : Nat) (h : List (List V2)) (M : Nat → Prop) (W : World) (a : Option Addr) (c : Nat) (rs : List R3) : Prop where
  box : W.cell? ⟨b, 0, none⟩ = some (.slice a rs.length c)
  frz : W.frozen? ⟨b, 0, none⟩ = false
  lt : b < W.heap.size
  own : W.ownsRow (b + 1) 52 1 (.slice a rs.length c) rs.length (rs.map rvO)
  hist : rs.map kR = h
  rows : ∀ r ∈ rs, ROk W M r
  inb : M b
  ing : ∀ g, (Value.slice a rs.length c).ownBlock = some g → M g
  xin : ∀ x, X x → M x
  xs : ∀ x, X x → x < b ∧ W.heap[x]? = w1.heap[x]?
theorem KS.of {X : Nat → Prop} {w1 : World} {b : Nat} {h : List (List V2)} {M : Nat → Prop} {W W' : World} {a : Option Addr} {c : Nat} {rs : List R3} (k : KS X w1 b h M W a c rs) (hb : Below W.heap.size W W') : KS X w1 b h M W' a c rs :=
  ⟨(hb.cell (p := ⟨b, 0, none⟩) k.lt).trans k.box, (hb.frozen (p := ⟨b, 0, none⟩) k.lt).trans k.frz, Nat.lt_of_lt_of_le k.lt hb.size, owns_of k.own (fun g hg => hb.block g (owns_lt k.own g hg).2), k.hist, fun r hr => (k.rows r hr).of hb, k.inb, k.ing, k.xin,
    fun x hx => ⟨(k.xs x hx).1, (hb.block x (Nat.lt_trans (k.xs x hx).1 k.lt)).trans (k.xs x hx).2⟩⟩
theorem KS.push {X : Nat → Prop} {w1 : World} {b : Nat} {h : List (List V2)} {M : Nat → Prop} {W : World} {a : Option Addr} {c : Nat} {rs : List R3} (k : KS X w1 b h M W a c rs) (r : R3) (hr : ROk W M r) {o : Obj} {w' : World} {g cap : Nat}
    (hown : w'.ownsRow (b + 1) 52 1 (.slice (some ⟨g, 0, none⟩) (rs.length + 1) cap) (rs.length + 1) (rs.map rvO ++ [rvO r])) (hgrow : (W.alloc o).grownBy w' (Value.slice a rs.length c).ownBlock) (hat : (Value.slice a rs.length c).ownBlock = some g ∨ g = W.heap.size + 1) (hlt : g < w'.heap.size) :
    GV M W (fun x => M x ∨ x = g) (w'.setCell ⟨b, 0, none⟩ (.slice (some ⟨g, 0, none⟩) (rs.length + 1) cap)) ∧ KS X w1 b (h ++ [r.2.2]) (fun x => M x ∨ x = g) (w'.setCell ⟨b, 0, none⟩ (.slice (some ⟨g, 0, none⟩) (rs.length + 1) cap)) (some ⟨g, 0, none⟩) cap (rs ++ [r]) := by
  have hsz : (W.alloc o).heap.size = W.heap.size + 1 := by simp
  have hs2 : W.heap.size + 1 ≤ w'.heap.size := by rw [← hsz]; exact hgrow.size
  have hal := bA (Below.refl W.heap.size W) o
  have hbn : ∀ x, x < W.heap.size → some x ≠ (Value.slice a rs.length c).ownBlock → w'.heap[x]? = W.heap[x]? := fun x hx hne => (hgrow.block x (by rw [hsz]; omega) hne).trans (hal.block x hx)
  have hbb : some b ≠ (Value.slice a rs.length c).ownBlock := fun e => by
    have := (owns_lt k.own b e.symm).1
    omega
  have hK : ∀ x, x < W.heap.size → x ≠ b → some x ≠ (Value.slice a rs.length c).ownBlock → (w'.setCell ⟨b, 0, none⟩ (.slice (some ⟨g, 0, none⟩) (rs.length + 1) cap)).heap[x]? = W.heap[x]? := fun x hx hxb hne => (Below.heap_setCell _ _ _ _ hxb).trans (hbn x hx hne)
  have hgb : b + 1 ≤ g := (owns_lt hown g rfl).1
  have hG : GV M W (fun x => M x ∨ x = g) (w'.setCell ⟨b, 0, none⟩ (.slice (some ⟨g, 0, none⟩) (rs.length + 1) cap)) := by
    refine ⟨hgrow.os.trans hal.os, hgrow.tape.trans hal.tape, hgrow.output.trans hal.output, by simp; omega, fun x hx hn => hK x hx (fun e => hn (by rw [e]; exact k.inb)) (fun e => hn (k.ing x e.symm)), fun x hx => ?_⟩
    rcases hx with hx | rfl
    · exact Or.inl hx
    · rcases hat with e | e
      · exact Or.inl (k.ing _ e)
      · exact Or.inr (by omega)
  refine ⟨hG, ?_⟩
  have hcell : w'.cell? ⟨b, 0, none⟩ = some (.slice a rs.length c) := (cell_of_block (hbn b k.lt hbb) 0).trans k.box
  have hfrz : w'.frozen? ⟨b, 0, none⟩ = false := (World.frozen?_of_block (a := ⟨b, 0, none⟩) (hbn b k.lt hbb)).trans k.frz
  refine ⟨by rw [World.cell?_setCell_same _ _ _ hcell]; simp, by rw [frozen_setCell]; exact hfrz, by have := k.lt; simp; omega, ?_, by rw [List.map_append, k.hist]; rfl, fun q hq => ?_, Or.inl k.inb, fun x hx => Or.inr (by simpa [Value.ownBlock] using hx.symm), fun x hx => Or.inl (k.xin x hx), fun x hx => ⟨(k.xs x hx).1, ?_⟩⟩
  · rw [List.map_append, List.length_append]
    exact owns_of hown (fun x hx => by
      have e : g = x := by simpa [Value.ownBlock] using hx
      exact Below.heap_setCell _ _ _ _ (by show x ≠ b; omega))
  · rcases List.mem_append.1 hq with h1 | h1
    · exact (k.rows q h1).gv hG
    · rw [List.mem_singleton.1 h1]
      exact hr.gv hG
  · have hlx := (k.xs x hx).1
    have := k.lt
    refine (hK x (by omega) (by omega) (fun e => ?_)).trans (k.xs x hx).2
    have := (owns_lt k.own x e.symm).1
    omega
theorem ent_kept : Enters 64 := fun _ _ => by kernel_rfl
set_option maxRecDepth 100000 in
set_option maxHeartbeats 2000000 in
theorem kept_gives (w0 : World) (X : Nat → Prop) (w1 : World) (b m : Nat) (T : List (List V2)) (hT : T.length ≤ 100000) (hb0 : w0.heap.size ≤ b) :
    Gives w0 64 #[bp b] m T (fun h M W => ∃ a c rs, KS X w1 b h M W a c rs) (fun _ _ => False) := by
  refine ⟨ent_kept, fun h M W W' hs hb => ?_, ?_⟩
  · obtain ⟨a, c, rs, k⟩ := hs
    exact ⟨a, c, rs, k.of hb⟩
  intro h r M W hB hL hr hR hP hS
  obtain ⟨a, c, rs, k⟩ := hS
  obtain ⟨i, hi, hz⟩ := Option.map_eq_some_iff.1 (show (Tryz.prog.info? 52).map (fun i => (i.zero, i.size, i.bytes)) = some (some (.slice none 0 0), 1, 24) by kernel_rfl)
  simp only [Prod.mk.injEq] at hz
  obtain ⟨hz0, hz1, hz2⟩ := hz
  have hlen : rs.length ≤ 100000 := by
    have h1 := hP.length_le
    have h2 : rs.length = h.length := by rw [← k.hist]; simp
    simp at h1
    omega
  have p0 := k.box
  have f0 := k.frz
  have l0 := k.lt
  have hal := bA (Below.refl W.heap.size W) (.cells #[.slice (rA r) r.2.2.length r.2.1] 52)
  have HOW := hide (owns_of k.own (fun g hg => hal.block g (owns_lt k.own g hg).2))
  have HNw : Hid (∀ (j : Nat) u, ([.slice (rA r) r.2.2.length r.2.1] : List Value)[j]? = some u → (W.alloc (.cells #[.slice (rA r) r.2.2.length r.2.1] 52)).cell? ((⟨W.heap.size, 0, none⟩ : Addr).add j) = some u) := fun j u hj => by
    match j, hj with
    | 0, hj => simp at hj; subst hj; simp [Addr.add, go_sem]
  have HKS := hide k; have HR := hide hR; have HL := hide hL; have HLEN := hide hlen; have HRl := hide hr
  clear k hR hL hB hP hT hal hlen hr
  show Calls _ _ #[.slice (rA r) r.2.2.length r.2.1, bp b] _ _
  go_enter Tryz.func64, Tryz.ntmps64
  go_wp2_with (at_builtin; refine wpList_append_lies _ rfl (.tmp 4) (.tmp 6) 30 rfl (b + 1) 52 i _ 1 24 Tryz.underlying30 hi hz0 hz1 hz2 rfl (by decide) (.slice a rs.length c) rs.length (rs.map rvO) rfl (unhide HOW) ⟨W.heap.size, 0, none⟩ 1 1 [.slice (rA r) r.2.2.length r.2.1] rfl rfl (unhide HNw) (by intro u hu; simp at hu; subst hu; rfl) (by decide) (by have := unhide HLEN; unfold maxLen; omega) (by have := unhide HLEN; omega) (by simp; omega) (W.heap.size + 1) (by simp) ?_; intro g2 cap2 w5 hown2 hgrow hat hlt2; have HP := hide ((unhide HKS).push r (unhide HR) hown2 hgrow hat hlt2); have hbn := (hgrow.block b (by simp; omega) (fun e => by have := (owns_lt (unhide HKS).own b e.symm).1; omega)).trans ((bA (Below.refl W.heap.size W) _).block b l0); have q0 : w5.cell? ⟨b, 0, none⟩ = some (.slice a rs.length c) := (cell_of_block hbn 0).trans p0; have g0 : w5.frozen? ⟨b, 0, none⟩ = false := (World.frozen?_of_block (a := ⟨b, 0, none⟩) hbn).trans f0; have HGL : Hid (w0.heap.size ≤ g2 ∧ g2 < w5.heap.size) := ⟨(by have := (owns_lt hown2 g2 rfl).1; omega), hlt2⟩; have l5 : b < w5.heap.size := (by have := (owns_lt hown2 g2 rfl).1; omega); have HSz : Hid (W.heap.size ≤ w5.heap.size) := (by have := hgrow.size; simp at this; show _ ≤ _; omega); clear hown2 hgrow hat hlt2 hbn HOW HNw HKS)
  go_ret
  refine ⟨_, true, rfl, (unhide HP).1, Or.inl ⟨rfl, ⟨_, _, _, (unhide HP).2⟩, fun x hx => ?_⟩⟩
  rcases hx with hx | rfl
  · have := unhide HL x hx
    have := unhide HSz
    simp
    omega
  · have := unhide HGL
    simp
    omega
def KeptE (X : Nat → Prop) (W : World) (L : List (List V2)) (e : Ending) (W' : World) : Prop :=
  ∃ (a : Option Addr) (c : Nat) (rs : List R3), e = .returned (.slice a rs.length c) ∧ rs.map kR = L ∧ W'.ownsRow W.heap.size 52 1 (.slice a rs.length c) rs.length (rs.map rvO) ∧ (∀ r ∈ rs, ROk W' (fun x => X x ∨ (Value.slice a rs.length c).ownBlock = some x) r) ∧ Below W.heap.size W W'
set_option maxRecDepth 100000 in
set_option maxHeartbeats 2000000 in
theorem rowsOf_calls {w0 : World} {n m t : Nat} {v : Value} {R : List V2 → List (List V2)} (ho : RunsAs w0 t v n m R) (X : Nat → Prop) (r : R3) (W : World) (hB : Below w0.heap.size w0 W) (hX : Low w0.heap.size X W) (hn : r.2.2.length = n) (hR : ROk W X r) (hl : (R r.2.2).length ≤ 100000) :
    Calls Tryz.prog 28 #[.iface t v, rvO r] W (KeptE X W (R r.2.2)) := by
  obtain ⟨rf, rw', ⟨mr, er⟩, kr⟩ := ho.runs
  have a1 := bA (Below.refl W.heap.size W) (.cells #[.slice none 0 0] 30)
  have hks : KS X W W.heap.size [] (fun x => X x ∨ x = W.heap.size) (W.alloc (.cells #[.slice none 0 0] 30)) none 0 [] :=
    ⟨by simp [go_sem], by simp [go_sem], by simp, World.ownsRow_nil _ _ _ _, rfl, fun r hr => by simp at hr, Or.inr rfl, fun g hg => by simp [Value.ownBlock] at hg, fun x hx => Or.inl hx, fun x hx => ⟨(hX x hx).2, a1.block x (hX x hx).2⟩⟩
  have hlow : Low w0.heap.size (fun x => X x ∨ x = W.heap.size) (W.alloc (.cells #[.slice none 0 0] 30)) := fun x hx => by
    have := hB.size
    rcases hx with hx | rfl
    · have := hX x hx
      simp
      omega
    · simp
      omega
  have hrw : ROk (W.alloc (.cells #[.slice none 0 0] 30)) (fun x => X x ∨ x = W.heap.size) r := by
    refine ⟨fun hne => ?_, hR.cap⟩
    obtain ⟨h1, h2, h3⟩ := hR.lies hne
    obtain ⟨g1, _, g3⟩ := (hR.of a1).lies hne
    exact ⟨g1, fun h => by
      rcases h with h | h
      · exact h2 h
      · omega, g3⟩
  have H1 := hide (kr 64 _ (R r.2.2) _ _ (kept_gives w0 X W W.heap.size m (R r.2.2) hl hB.size) [] r _ _ (bT hB a1) hlow hn hrw (by simp) ⟨_, _, _, hks⟩)
  have HX := hide hX; have HB := hide hB; have HN := hide hn
  have HA1 := hide a1
  unfold Enters at er
  have HRV : Hid (rvO r = .slice (rA r) r.2.2.length r.2.1) := rfl
  rw [unhide HRV]
  rw [unhide HRV] at H1
  clear kr a1 hks hlow hrw hB hX hR ho hl hn
  go_enter Tryz.func28, Tryz.ntmps28
  go_wp2_with fail
  refine (unhide H1).mono ?_
  rintro e W1 ⟨M1, b, rfl, hg, hx⟩
  obtain ⟨hst, hlo⟩ : (∃ a c rs, KS X W W.heap.size ([] ++ R r.2.2) M1 W1 a c rs) ∧ Low w0.heap.size M1 W1 := by
    rcases hx with ⟨_, h1, h2⟩ | ⟨_, h1⟩
    · exact ⟨h1, h2⟩
    · exact h1.elim
  obtain ⟨a, c, rs, k⟩ := hst
  have q0 := k.box
  have l0 := k.lt
  have HK := hide k; have HG := hide hg
  clear k hg hx hlo H1
  go_wp2
  go_ret
  have hk := unhide HK
  have hG := unhide HG
  refine ⟨a, c, rs, rfl, by simpa using hk.hist, ⟨hk.own.1, ?_⟩, fun q hq => (hk.rows q hq).sub (fun x _ hx => ?_), ?_⟩
  · rcases hk.own.2 with h1 | ⟨g, cp, cur, h1, h2, h3⟩
    · exact Or.inl h1
    · exact Or.inr ⟨g, cp, cur, h1, by omega, h3⟩
  · rcases hx with hx | hx
    · exact hk.xin x hx
    · exact hk.ing x hx
  · have ha1 := unhide HA1
    refine ⟨hG.os.trans ha1.os, hG.tape.trans ha1.tape, hG.output.trans ha1.output, Nat.le_trans ha1.size hG.size, fun x hx => ?_⟩
    by_cases hxx : X x
    · exact (hk.xs x hxx).2
    · exact (hG.block x (Nat.lt_of_lt_of_le hx ha1.size) (fun h => by
        rcases h with h | h
        · exact hxx h
        · omega)).trans (ha1.block x hx)
end Go.Proofs.YtbbjhepagkkjeaaGreatDoor
namespace Go.Proofs.YtbbjhepagkkjeaaGreatDoor
open Go Go.RowKit
def GridO (W : World) (M : Nat → Prop) (a : Option Addr) (rs : List R3) : Prop := ∀ (i : Nat) (hi : i < rs.length), ∃ g, a = some ⟨g, 0, none⟩ ∧ g < W.heap.size ∧ ¬ M g ∧ W.cell? ⟨g, i, none⟩ = some (rvO rs[i])
theorem GridO.gv {W W' : World} {M M' : Nat → Prop} {a : Option Addr} {rs : List R3} (h : GridO W M a rs) (hg : GV M W M' W') : GridO W' M' a rs := fun i hi => by
  obtain ⟨g, h1, h2, h3, h4⟩ := h i hi
  obtain ⟨k1, k2, _⟩ := hg.stays h2 h3
  exact ⟨g, h1, k1, k2, (hg.cell h2 h3 i).trans h4⟩
theorem GridO.ofOwn {W : World} {B : Nat} {M : Nat → Prop} {a : Option Addr} {c : Nat} {rs : List R3} (h : W.ownsRow B 52 1 (.slice a rs.length c) rs.length (rs.map rvO)) (hM : ∀ x, M x → x < B) : GridO W M a rs := fun i hi => by
  rcases h.2 with ⟨_, h2⟩ | ⟨g, cap, cur, h1, h2, h3, h4, h5, h6, h7⟩
  · omega
  · simp only [Value.slice.injEq] at h1
    refine ⟨g, h1.1, (Array.getElem?_eq_some_iff.1 h3).1, fun hm => by have := hM g hm; omega, ?_⟩
    have e0 : (rs.map rvO)[i]? = some (rvO rs[i]) := by simp [hi]
    rw [← h7, List.getElem?_take, if_pos (by omega)] at e0
    simp only [World.cell?, h3]
    simpa using e0
end Go.Proofs.YtbbjhepagkkjeaaGreatDoor
namespace Go.Proofs.YtbbjhepagkkjeaaGreatDoor
open Go Go.RowKit
end Go.Proofs.YtbbjhepagkkjeaaGreatDoor
