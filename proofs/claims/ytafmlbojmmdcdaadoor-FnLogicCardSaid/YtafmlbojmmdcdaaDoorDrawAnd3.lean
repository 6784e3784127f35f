import Derived.Test.YtafmlbojmmdcdaaDoorDrawVal
import Derived.Test.YtafmlbojmmdcdaaDoorReader
import Derived.BigQuiet
namespace Go.Proofs.YtafmlbojmmdcdaaDoor
open Go Go.RowKit
/-- two boxes for the results, laid at the call's beginning -/
structure Two2 (w u : World) (b1 : Bool) (n1 : Int) (b2 : Bool) (n2 : Int) : Prop where
  s : w.heap.size + 1 < u.heap.size
  a0 : u.cell? ⟨w.heap.size, 0, none⟩ = some (.bool b1)
  a1 : u.cell? ⟨w.heap.size, 1, none⟩ = some (.int .i64 n1)
  c0 : u.cell? ⟨w.heap.size + 1, 0, none⟩ = some (.bool b2)
  c1 : u.cell? ⟨w.heap.size + 1, 1, none⟩ = some (.int .i64 n2)
  af : ∀ o, u.frozen? ⟨w.heap.size, o, none⟩ = false
  cf : ∀ o, u.frozen? ⟨w.heap.size + 1, o, none⟩ = false
theorem Two2.blocks {w u u1 : World} {b1 b2 : Bool} {n1 n2 : Int} (h : Two2 w u b1 n1 b2 n2) (hs : u.heap.size ≤ u1.heap.size) (hb : ∀ b, w.heap.size ≤ b → b ≤ w.heap.size + 1 → u1.heap[b]? = u.heap[b]?) : Two2 w u1 b1 n1 b2 n2 :=
  have e1 := hb w.heap.size (by omega) (by omega)
  have e2 := hb (w.heap.size + 1) (by omega) (by omega)
  ⟨by have := h.s; omega, (World.cell?_of_block e1).trans h.a0, (World.cell?_of_block e1).trans h.a1, (World.cell?_of_block e2).trans h.c0, (World.cell?_of_block e2).trans h.c1,
   fun o => (World.frozen?_of_block e1).trans (h.af o), fun o => (World.frozen?_of_block e2).trans (h.cf o)⟩
theorem Two2.below {w u u1 : World} {b1 b2 : Bool} {n1 n2 : Int} (h : Two2 w u b1 n1 b2 n2) (hb : Below u.heap.size u u1) : Two2 w u1 b1 n1 b2 n2 :=
  h.blocks hb.size (fun b _ h2 => hb.block b (by have := h.s; omega))
theorem Two2.drw {w u u1 : World} {b1 b2 : Bool} {n1 n2 : Int} {R : Nat} (h : Two2 w u b1 n1 b2 n2) (hd : Drw R u u1) (hR : w.heap.size + 1 < R) : Two2 w u1 b1 n1 b2 n2 :=
  h.blocks hd.size (fun b _ h2 => hd.block b (by have := h.s; omega) (by omega))
theorem Two2.start (w : World) (t : TypeId) : Two2 w ((w.alloc (.cells #[.bool false, .int .i64 0] t)).alloc (.cells #[.bool false, .int .i64 0] t)) false 0 false 0 :=
  ⟨by simp, by simp [go_sem], by simp [go_sem], by simp [go_sem], by simp [go_sem], fun o => by simp [go_sem], fun o => by simp [go_sem]⟩
set_option maxRecDepth 100000 in
set_option maxHeartbeats 1000000 in
theorem DrawAnd3_calls (v : Value) (cs : List Nat) (w : World) (hv : IsBytes w v cs) (hby : ∀ b ∈ cs, b ≤ 255) (hn : cs.length ≤ 1048576) :
    Calls Tryd.prog 6 #[v] w fun e w' => ∃ (b1 : Bool) (n1 : Int) (b2 : Bool) (n2 : Int), e = .returned (.tuple #[.agg #[.bool b1, .int .i64 n1], .agg #[.bool b2, .int .i64 n2]]) ∧ Below w.heap.size w w' := by
  have d0 := bA (bA (Below.refl w.heap.size w) (.cells #[.bool false, .int .i64 0] 24)) (.cells #[.bool false, .int .i64 0] 24)
  have HO := hide (l1Open_calls v cs _ (hv.of d0) hby hn)
  have HT := hide (Two2.start w 24)
  have HD0 := hide d0
  clear hv hby hn d0
  generalize cs.take 1500 = bs at *
  go_enter Tryd.func6, Tryd.ntmps6
  go_wp2_with fail
  refine (unhide HO).mono ?_; rintro e w1 ⟨R, rfl, ⟨a, cap, hr1⟩, hR, hb1⟩
  simp at hR
  have hT1 := (unhide HT).below hb1
  have HD1 := hide (bT (unhide HD0) hb1)
  have DV := hide (l1DrawVal_calls w1 R a cap bs 0 hr1)
  have hR1 := hr1.size
  clear HO HT HD0 hr1 hb1
  generalize dVal bs 0 = d at *
  obtain ⟨⟨b1, n1⟩, q1⟩ := d
  have HT1 := hide hT1
  clear hT1
  go_wp2_with fail
  refine (unhide DV).mono ?_; rintro e w2 ⟨rfl, hr2, hd2⟩
  have dv2 := bA (Below.refl w2.heap.size w2) (.cells #[.bool b1, .int .i64 n1] 24)
  have HT2 := hide (((unhide HT1).drw hd2 (by omega)).below dv2)
  have DV2 := hide (l1DrawVal_calls _ R a cap bs _ (hr2.of dv2))
  have hs2 := hd2.size
  have HD2 := hide (hd2.below (by omega) dv2)
  have HBX : Hid (Box (w2.alloc (.cells #[.bool b1, .int .i64 n1] 24)) w2.heap.size b1 n1) := ⟨by simp, by simp [go_sem], by simp [go_sem]⟩
  clear DV HT1 hr2 hd2 dv2
  generalize dVal bs q1 = d at *
  obtain ⟨⟨b2, n2⟩, q2⟩ := d
  go_wp2_with fail
  refine (unhide DV2).mono ?_; rintro e w3 ⟨rfl, hr3, hd3⟩
  have dv3 := bA (Below.refl w3.heap.size w3) (.cells #[.bool b2, .int .i64 n2] 24)
  have hs3 := hd3.size
  simp at hs3
  obtain ⟨_, ya0, ya1, yc0, yc1, yaf, ycf⟩ := (unhide HT2).drw hd3 (by omega)
  have yx0 : w3.cell? ⟨w2.heap.size, 0, none⟩ = some (.bool b1) := (hd3.cell 0 (by simp) (by omega)).trans (unhide HBX).c0
  have yx1 : w3.cell? ⟨w2.heap.size, 1, none⟩ = some (.int .i64 n1) := (hd3.cell 1 (by simp) (by omega)).trans (unhide HBX).c1
  have hT3 := ((unhide HT2).drw hd3 (by omega)).below dv3
  have hx0 : (w3.alloc (.cells #[.bool b2, .int .i64 n2] 24)).cell? ⟨w2.heap.size, 0, none⟩ = some (.bool b1) := (dv3.cell (p := ⟨w2.heap.size, 0, none⟩) (by show w2.heap.size < _; omega)).trans ((hd3.cell 0 (by simp) (by omega)).trans (unhide HBX).c0)
  have hx1 : (w3.alloc (.cells #[.bool b2, .int .i64 n2] 24)).cell? ⟨w2.heap.size, 1, none⟩ = some (.int .i64 n1) := (dv3.cell (p := ⟨w2.heap.size, 1, none⟩) (by show w2.heap.size < _; omega)).trans ((hd3.cell 1 (by simp) (by omega)).trans (unhide HBX).c1)
  have hy0 : (w3.alloc (.cells #[.bool b2, .int .i64 n2] 24)).cell? ⟨w3.heap.size, 0, none⟩ = some (.bool b2) := by simp [go_sem]
  have hy1 : (w3.alloc (.cells #[.bool b2, .int .i64 n2] 24)).cell? ⟨w3.heap.size, 1, none⟩ = some (.int .i64 n2) := by simp [go_sem]
  have HD3 := hide (((unhide HD2).trans hd3).below (by omega) dv3)
  have HL3 : Hid (Below w.heap.size w w3) := (unhide HD1).trans (((unhide HD2).trans hd3).low.mono (by omega))
  have HLOW : Hid (Below w.heap.size w (w3.alloc (.cells #[.bool b2, .int .i64 n2] 24))) := (unhide HD1).trans ((unhide HD3).low.mono (by omega))
  have hsz : (w3.alloc (.cells #[.bool b2, .int .i64 n2] 24)).heap.size = w3.heap.size + 1 := by simp
  clear DV2 HT2 hr3 hd3 dv3 HD2 HD1 HBX HD3
  obtain ⟨s0, a0, a1, c0, c1, af, cf⟩ := hT3
  have HX : Hid (∀ (u : World), Below w.heap.size w u → ∀ x y z t, Below w.heap.size w ((((u.setCell ⟨w.heap.size, 0, none⟩ x).setCell ⟨w.heap.size, 1, none⟩ y).setCell ⟨w.heap.size + 1, 0, none⟩ z).setCell ⟨w.heap.size + 1, 1, none⟩ t)) := fun u h x y z t => (((h.setCell (p := ⟨w.heap.size, 0, none⟩) (Nat.le_refl _) x).setCell (p := ⟨w.heap.size, 1, none⟩) (Nat.le_refl _) y).setCell (p := ⟨w.heap.size + 1, 0, none⟩) (Nat.le_succ _) z).setCell (p := ⟨w.heap.size + 1, 1, none⟩) (Nat.le_succ _) t
  have q1 : w2.heap.size < w3.heap.size := by omega
  have q2 : w.heap.size < w3.heap.size := by omega
  have q3 : w.heap.size + 1 < w3.heap.size := by omega
  go_wp2_with fail
  go_region
  all_goals
    go_wp2
    exact bodyPost_ret (v := .tuple #[.agg #[.bool b1, .int .i64 n1], .agg #[.bool b2, .int .i64 n2]]) (by simp [results, Tryd.results6, go_sem, ya0, ya1, yc0, yc1, q2, q3]) rfl ⟨b1, n1, b2, n2, rfl, Below.drew (bA (unhide HX w3 (unhide HL3) _ _ _ _) _)⟩
end Go.Proofs.YtafmlbojmmdcdaaDoor
