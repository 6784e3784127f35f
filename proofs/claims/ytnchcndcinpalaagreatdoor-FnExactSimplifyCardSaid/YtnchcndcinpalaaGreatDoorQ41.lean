import Derived.Test.YtnchcndcinpalaaGreatDoorQ40
import Derived.Test.YtnchcndcinpalaaGreatDoorQ0
/-
  Simplify, as the program does it.
-/
namespace Go.Proofs.YtnchcndcinpalaaGreatDoor
open Go Go.RowKit

set_option maxRecDepth 100000 in
set_option maxHeartbeats 8000000 in
theorem Simplify_calls (ts : List Tb) (fs : List Fn) (Rt : Int) (g cap gt capt : Nat) (w : World) (lt : ts.length ≤ 1048576) (hsm : SmallT ts) (fit : ∀ p ∈ fs, p.Ex.length ≤ 1048576 ∧ p.Exs.length ≤ 1048576 ∧ ∀ xs ∈ p.Exs, xs.length ≤ 1048576)
    (hg : g < w.heap.size) (hn : FnsAt w g 0 fs) (hgt : gt < w.heap.size) (ht : TablesAt w gt 0 ts) (hTK : TKw w) (hTF : TFlat w) (hTT : TTakes w) :
    Calls Tryz.prog 10 #[.agg #[.slice (some ⟨g, 0, none⟩) fs.length cap, .int .i64 Rt], .agg #[.slice (some ⟨gt, 0, none⟩) ts.length capt]] w fun e w' =>
      ((FlatV ts fs Rt ∧ ∃ (G : Nat) (lab : Lb), e = .returned (.tuple #[.agg #[.slice (some ⟨G, 0, none⟩) fs.length fs.length, .int .i64 Rt], .bool true]) ∧ FlM w' lab G (simpTo ts fs Rt fs.length) ∧ (∀ b, (lab b).1 ≤ 3 → w.heap.size ≤ b ∧ b < w'.heap.size)) ∨
        (¬ FlatV ts fs Rt ∧ e = .returned (.tuple #[.agg #[.slice none 0 0, .int .i64 0], .bool false]))) ∧ Below w.heap.size w w' := by
  have HCk := hide (fun W (hb : Below w.heap.size w W) => checkFlat_calls ts fs Rt g cap gt capt W lt hsm fit (Nat.lt_of_lt_of_le hg hb.size) (hn.of hg hb) (Nat.lt_of_lt_of_le hgt hb.size) (ht.of hgt hb) (hTK.of hb) (hTF.of hb) (hTT.of hb))
  have HN := hide hn; have HFit := hide fit; have HTF := hide hTF
  clear hsm fit ht hTK hTT hn hTF
  go_enter Tryz.func10, Tryz.ntmps10
  go_wp2_with fail
  refine (unhide HCk _ (bA (bA (bA (Below.refl _ _) _) _) _)).mono ?_; rintro e w1 ⟨hck, hb⟩
  have n1 := bT (bA (bA (bA (Below.refl w.heap.size w) _) _) _) hb
  have f0 : w1.cell? ⟨w.heap.size, 0, none⟩ = some (.slice (some ⟨g, 0, none⟩) fs.length cap) := (hb.cell (p := ⟨w.heap.size, 0, none⟩) (by simp; omega)).trans (by simp [go_sem])
  have f1 : w1.cell? ⟨w.heap.size, 1, none⟩ = some (.int .i64 Rt) := (hb.cell (p := ⟨w.heap.size, 1, none⟩) (by simp; omega)).trans (by simp [go_sem])
  have r0 : w1.cell? ⟨w.heap.size + 2, 0, none⟩ = some (.slice none 0 0) := (hb.cell (p := ⟨w.heap.size + 2, 0, none⟩) (by simp)).trans (by simp [go_sem])
  have r1 : w1.cell? ⟨w.heap.size + 2, 1, none⟩ = some (.int .i64 0) := (hb.cell (p := ⟨w.heap.size + 2, 1, none⟩) (by simp)).trans (by simp [go_sem])
  have rf : ∀ o, w1.frozen? ⟨w.heap.size + 2, o, none⟩ = false := fun o => (hb.frozen (p := ⟨w.heap.size + 2, o, none⟩) (by simp)).trans (by simp [go_sem])
  have rs : w.heap.size + 2 < w1.heap.size := by have := hb.size; simp at this; omega
  rcases hck with ⟨hV, bw, rfl, hbw, hrow⟩ | ⟨hno, rfl⟩
  rotate_left
  · have HNo := hide hno
    clear hno HCk HN HFit HTF hb
    go_wp2
    refine bodyPost_ret (v := .tuple #[.agg #[.slice none 0 0, .int .i64 0], .bool false]) (by simp [results, Tryz.results10, go_sem, r0, r1]) rfl ⟨Or.inr ⟨unhide HNo, rfl⟩, ?_⟩
    (repeat (first | refine Below.setCell ?_ (by dsimp only; omega) _ | exact n1))
  have few : fs.length ≤ 8000 := hV.few
  have HV := hide hV; have HRow := hide hrow
  have hbl : bw < w1.heap.size := hrow.lt
  clear hV hrow HCk hb
  have rs0 : w.heap.size < w1.heap.size := by omega
  have hmk := make_fns fs.length (by omega)
  go_upto_region 4 with fail
  go_cut [8] (fun s wx => ∃ B8 G lab, s = .pointer (some ⟨B8, 0, none⟩) ∧ OutS w1 wx B8 G fs.length Rt lab (firstF fs 0))
  case first =>
    go_region
    all_goals (
      go_wp2_with fail
      go_meet
      first
      | exact (OutS.startA w1 fs Rt).elim (fun lab h => ⟨_, _, lab, rfl, h⟩)
      | exact (OutS.startB w1 fs Rt).elim (fun lab h => ⟨_, _, lab, rfl, h⟩))
  case rest =>
    clear hmk hbw
    obtain ⟨B8, G, lab0, rfl, hO0⟩ := hcut
    have g0 := (hO0.low.cell (p := ⟨w.heap.size, 0, none⟩) rs0).trans f0
    have gs : w.heap.size < wc.heap.size := Nat.lt_of_lt_of_le rs0 hO0.low.size
    go_wp2
    go_loopw [35] (fun c wr => ∃ (k : Nat) (lab : Lb), k ≤ fs.length ∧ c = .int .i64 k ∧ OutS w1 wr B8 G fs.length Rt lab (firstF fs k)) (fun c _ => fs.length - (intOf c).toNat)
    case atStart => exact ⟨0, lab0, Nat.zero_le _, rfl, hO0⟩
    case round =>
      clear hO0 g0 gs
      obtain ⟨k, lab, hk, rfl, hO⟩ := hrel
      have d1 := bT n1 hO.low
      have q1 : g < wr.heap.size := Nat.lt_of_lt_of_le hg d1.size
      by_cases hlt : k < fs.length
      · obtain ⟨c0, c1, c2, c3, c6, c7, ⟨b4, c4, _, hb4, ho4⟩, b5, c5, _, hb5, ho5⟩ := ((unhide HN).of hg d1).at k hlt
        simp only [Nat.zero_add] at c0 c1 c2 c3 c4 c5 c6 c7
        obtain ⟨t1, t2, t3⟩ := unhide HFit _ (List.getElem_mem hlt)
        have j1 : (k : Int) < (fs.length : Int) := by omega
        have HSu := hide (firstF_succ fs k hlt)
        have HO := hide hO
        have hne := hO.ne
        have h8 := hO.s8
        have hGs := hO.q.size
        have o0 := hO.o0
        have HFz := hide hO.q.frz
        have HAl := hide hO.q.all
        generalize e : fs[k] = pk at *
        clear e
        obtain ⟨K, T, M, Wd, Ex, Exs, L, R⟩ := pk
        simp only at c0 c1 c2 c3 c4 c5 c6 c7 ho4 ho5 t1 t2 t3
        have HC4 := hide (fun W (hb : Below wr.heap.size wr W) => CloneOps_calls Ex b4 0 Ex.length W (Nat.lt_of_lt_of_le hb4 hb.size) (ho4.of hb4 hb) t1)
        have HC5 := hide (fun W (hb : Below wr.heap.size wr W) => cloneExs_calls Exs b5 Exs.length W (Nat.lt_of_lt_of_le hb5 hb.size) (ho5.of hb5 hb) t2 t3)
        clear ho4 ho5 t1 t2 t3 hO
        go_upto_region 8 with fail
        have hB0 := bA (Below.refl wr.heap.size wr) (.cells #[.int .i64 K, .int .i64 T, .int .i64 M, .int .i64 Wd, .slice (some ⟨b4, 0, none⟩) Ex.length Ex.length, .slice (some ⟨b5, 0, none⟩) Exs.length Exs.length, .int .i64 L, .int .i64 R] 67)
        have z0 : (wr.alloc (.cells #[.int .i64 K, .int .i64 T, .int .i64 M, .int .i64 Wd, .slice (some ⟨b4, 0, none⟩) Ex.length Ex.length, .slice (some ⟨b5, 0, none⟩) Exs.length Exs.length, .int .i64 L, .int .i64 R] 67)).cell? ⟨wr.heap.size, 0, none⟩ = some (.int .i64 K) := by simp [go_sem]
        have z1 : (wr.alloc (.cells #[.int .i64 K, .int .i64 T, .int .i64 M, .int .i64 Wd, .slice (some ⟨b4, 0, none⟩) Ex.length Ex.length, .slice (some ⟨b5, 0, none⟩) Exs.length Exs.length, .int .i64 L, .int .i64 R] 67)).cell? ⟨wr.heap.size, 1, none⟩ = some (.int .i64 T) := by simp [go_sem]
        have z2 : (wr.alloc (.cells #[.int .i64 K, .int .i64 T, .int .i64 M, .int .i64 Wd, .slice (some ⟨b4, 0, none⟩) Ex.length Ex.length, .slice (some ⟨b5, 0, none⟩) Exs.length Exs.length, .int .i64 L, .int .i64 R] 67)).cell? ⟨wr.heap.size, 2, none⟩ = some (.int .i64 M) := by simp [go_sem]
        have z3 : (wr.alloc (.cells #[.int .i64 K, .int .i64 T, .int .i64 M, .int .i64 Wd, .slice (some ⟨b4, 0, none⟩) Ex.length Ex.length, .slice (some ⟨b5, 0, none⟩) Exs.length Exs.length, .int .i64 L, .int .i64 R] 67)).cell? ⟨wr.heap.size, 3, none⟩ = some (.int .i64 Wd) := by simp [go_sem]
        have z4 : (wr.alloc (.cells #[.int .i64 K, .int .i64 T, .int .i64 M, .int .i64 Wd, .slice (some ⟨b4, 0, none⟩) Ex.length Ex.length, .slice (some ⟨b5, 0, none⟩) Exs.length Exs.length, .int .i64 L, .int .i64 R] 67)).cell? ⟨wr.heap.size, 4, none⟩ = some (.slice (some ⟨b4, 0, none⟩) Ex.length Ex.length) := by simp [go_sem]
        have z5 : (wr.alloc (.cells #[.int .i64 K, .int .i64 T, .int .i64 M, .int .i64 Wd, .slice (some ⟨b4, 0, none⟩) Ex.length Ex.length, .slice (some ⟨b5, 0, none⟩) Exs.length Exs.length, .int .i64 L, .int .i64 R] 67)).cell? ⟨wr.heap.size, 5, none⟩ = some (.slice (some ⟨b5, 0, none⟩) Exs.length Exs.length) := by simp [go_sem]
        have z6 : (wr.alloc (.cells #[.int .i64 K, .int .i64 T, .int .i64 M, .int .i64 Wd, .slice (some ⟨b4, 0, none⟩) Ex.length Ex.length, .slice (some ⟨b5, 0, none⟩) Exs.length Exs.length, .int .i64 L, .int .i64 R] 67)).cell? ⟨wr.heap.size, 6, none⟩ = some (.int .i64 L) := by simp [go_sem]
        have z7 : (wr.alloc (.cells #[.int .i64 K, .int .i64 T, .int .i64 M, .int .i64 Wd, .slice (some ⟨b4, 0, none⟩) Ex.length Ex.length, .slice (some ⟨b5, 0, none⟩) Exs.length Exs.length, .int .i64 L, .int .i64 R] 67)).cell? ⟨wr.heap.size, 7, none⟩ = some (.int .i64 R) := by simp [go_sem]
        have zf : ∀ o, (wr.alloc (.cells #[.int .i64 K, .int .i64 T, .int .i64 M, .int .i64 Wd, .slice (some ⟨b4, 0, none⟩) Ex.length Ex.length, .slice (some ⟨b5, 0, none⟩) Exs.length Exs.length, .int .i64 L, .int .i64 R] 67)).frozen? ⟨wr.heap.size, o, none⟩ = false := fun o => by simp [go_sem]
        have zs : (wr.alloc (.cells #[.int .i64 K, .int .i64 T, .int .i64 M, .int .i64 Wd, .slice (some ⟨b4, 0, none⟩) Ex.length Ex.length, .slice (some ⟨b5, 0, none⟩) Exs.length Exs.length, .int .i64 L, .int .i64 R] 67)).heap.size = wr.heap.size + 1 := by simp
        clear c0 c1 c2 c3 c4 c5 c6 c7
        generalize (wr.alloc (.cells #[.int .i64 K, .int .i64 T, .int .i64 M, .int .i64 Wd, .slice (some ⟨b4, 0, none⟩) Ex.length Ex.length, .slice (some ⟨b5, 0, none⟩) Exs.length Exs.length, .int .i64 L, .int .i64 R] 67)) = Wb at *
        have HB0 := hide hB0; have HZf := hide zf
        clear hB0 zf
        obtain ⟨x0, hx0⟩ : ∃ x0, wr.heap.size = x0 := ⟨_, rfl⟩
        have HX0 := hide hx0
        rw [hx0] at z0 z1 z2 z3 z4 z5 z6 z7 zs h8 hGs
        have HZf' : Hid (∀ o, Wb.frozen? ⟨x0, o, none⟩ = false) := by rw [← hx0]; exact HZf
        clear HZf
        rw [hx0]
        clear hx0 q1
        go_region_law (first
        | (go_simp
           go_at_call 32
           refine (unhide HC4 _ (Below.drew (unhide HB0))).mono ?_
           rintro e w4 ⟨u4, rfl, hu4, hb4x⟩
           obtain ⟨ua, uc, rfl⟩ := hu4.slice
           have hyp : x0 < Wb.heap.size := by omega
           have y0 : w4.cell? ⟨x0, 0, none⟩ = _ := (hb4x.cell (p := ⟨x0, 0, none⟩) hyp).trans z0
           have y1 : w4.cell? ⟨x0, 1, none⟩ = _ := (hb4x.cell (p := ⟨x0, 1, none⟩) hyp).trans z1
           have y2 : w4.cell? ⟨x0, 2, none⟩ = _ := (hb4x.cell (p := ⟨x0, 2, none⟩) hyp).trans z2
           have y3 : w4.cell? ⟨x0, 3, none⟩ = _ := (hb4x.cell (p := ⟨x0, 3, none⟩) hyp).trans z3
           have y4 : w4.cell? ⟨x0, 4, none⟩ = _ := (hb4x.cell (p := ⟨x0, 4, none⟩) hyp).trans z4
           have y5 : w4.cell? ⟨x0, 5, none⟩ = _ := (hb4x.cell (p := ⟨x0, 5, none⟩) hyp).trans z5
           have y6 : w4.cell? ⟨x0, 6, none⟩ = _ := (hb4x.cell (p := ⟨x0, 6, none⟩) hyp).trans z6
           have y7 : w4.cell? ⟨x0, 7, none⟩ = _ := (hb4x.cell (p := ⟨x0, 7, none⟩) hyp).trans z7
           have HYf : Hid (∀ o, w4.frozen? ⟨x0, o, none⟩ = false) := fun o => (hb4x.frozen (p := ⟨x0, o, none⟩) hyp).trans (unhide HZf' o)
           have ys : x0 < w4.heap.size := by have := hb4x.size; simp at this; omega
           have HU4 := hide (hu4.mono (T := fun b => x0 + 1 ≤ b) (fun b _ e => by (have h9 := e); (try simp at h9); omega))
           have HB4 := hide (bT (Below.drew (unhide HB0)) hb4x)
           clear hu4 hb4x hyp
           go_wp2_with fail)
        | (go_simp
           go_at_call 33
           refine (unhide HC5 _ (unhide HB4)).mono ?_
           rintro e w5 ⟨G5, lb5, rfl, hG5, hF5, hO5, hb5x⟩
           have v0 : w5.cell? ⟨x0, 0, none⟩ = _ := (hb5x.cell (p := ⟨x0, 0, none⟩) ys).trans y0
           have v1 : w5.cell? ⟨x0, 1, none⟩ = _ := (hb5x.cell (p := ⟨x0, 1, none⟩) ys).trans y1
           have v2 : w5.cell? ⟨x0, 2, none⟩ = _ := (hb5x.cell (p := ⟨x0, 2, none⟩) ys).trans y2
           have v3 : w5.cell? ⟨x0, 3, none⟩ = _ := (hb5x.cell (p := ⟨x0, 3, none⟩) ys).trans y3
           have v4 : w5.cell? ⟨x0, 4, none⟩ = _ := (hb5x.cell (p := ⟨x0, 4, none⟩) ys).trans y4
           have v5 : w5.cell? ⟨x0, 5, none⟩ = _ := (hb5x.cell (p := ⟨x0, 5, none⟩) ys).trans y5
           have v6 : w5.cell? ⟨x0, 6, none⟩ = _ := (hb5x.cell (p := ⟨x0, 6, none⟩) ys).trans y6
           have v7 : w5.cell? ⟨x0, 7, none⟩ = _ := (hb5x.cell (p := ⟨x0, 7, none⟩) ys).trans y7
           have vf : ∀ o, w5.frozen? ⟨x0, o, none⟩ = false := fun o => (hb5x.frozen (p := ⟨x0, o, none⟩) ys).trans (unhide HYf o)
           have vs : x0 < w5.heap.size := Nat.lt_of_lt_of_le ys hb5x.size
           have HB5 := hide (bT (unhide HB4) hb5x)
           have HQ := hide ((unhide HO).clone (j := k) (p := ⟨K, T, M, Wd, Ex, Exs, L, R⟩) hlt (unhide HX0) ys (unhide HB4) hb5x (unhide HU4) hG5 hF5 hO5)
           clear hG5 hF5 hO5 hb5x HU4 y0 y1 y2 y3 y4 y5 y6 y7 HYf z0 z1 z2 z3 z4 z5 z6 z7
           go_wp2_with fail))
        all_goals (
          obtain ⟨m0, hm0⟩ := unhide HAl (k * 8) (by omega)
          have p0 := ((unhide HB5).cell (p := ⟨G, k * 8, none⟩) (by rw [unhide HX0]; exact hGs)).trans hm0
          obtain ⟨m1, hm1⟩ := unhide HAl (k * 8 + 1) (by omega)
          have p1 := ((unhide HB5).cell (p := ⟨G, k * 8 + 1, none⟩) (by rw [unhide HX0]; exact hGs)).trans hm1
          obtain ⟨m2, hm2⟩ := unhide HAl (k * 8 + 2) (by omega)
          have p2 := ((unhide HB5).cell (p := ⟨G, k * 8 + 2, none⟩) (by rw [unhide HX0]; exact hGs)).trans hm2
          obtain ⟨m3, hm3⟩ := unhide HAl (k * 8 + 3) (by omega)
          have p3 := ((unhide HB5).cell (p := ⟨G, k * 8 + 3, none⟩) (by rw [unhide HX0]; exact hGs)).trans hm3
          obtain ⟨m4, hm4⟩ := unhide HAl (k * 8 + 4) (by omega)
          have p4 := ((unhide HB5).cell (p := ⟨G, k * 8 + 4, none⟩) (by rw [unhide HX0]; exact hGs)).trans hm4
          obtain ⟨m5, hm5⟩ := unhide HAl (k * 8 + 5) (by omega)
          have p5 := ((unhide HB5).cell (p := ⟨G, k * 8 + 5, none⟩) (by rw [unhide HX0]; exact hGs)).trans hm5
          obtain ⟨m6, hm6⟩ := unhide HAl (k * 8 + 6) (by omega)
          have p6 := ((unhide HB5).cell (p := ⟨G, k * 8 + 6, none⟩) (by rw [unhide HX0]; exact hGs)).trans hm6
          obtain ⟨m7, hm7⟩ := unhide HAl (k * 8 + 7) (by omega)
          have p7 := ((unhide HB5).cell (p := ⟨G, k * 8 + 7, none⟩) (by rw [unhide HX0]; exact hGs)).trans hm7
          have pf : ∀ o, w5.frozen? ⟨G, o, none⟩ = false := fun o => ((unhide HB5).frozen (p := ⟨G, o, none⟩) (by rw [unhide HX0]; exact hGs)).trans (unhide HFz o)
          have pb := ((unhide HB5).cell (p := ⟨B8, 0, none⟩) (by rw [unhide HX0]; exact h8)).trans o0
          have e1 : x0 ≠ B8 := by omega
          have e2 : x0 ≠ G := by omega
          have e3 : B8 < w5.heap.size := by omega
          have e4 : G < w5.heap.size := by omega
          clear HB4 HB5 HC4 HC5 HFz HAl o0 hm0 hm1 hm2 hm3 hm4 hm5 hm6 hm7 HO HB0
          go_wp2
          go_roundw
          case rel => exact ⟨k + 1, _, by omega, by go_num, (unhide HQ).fn (unhide HSu)⟩
          case measure => simp [intOf]; omega)
      · obtain rfl : k = fs.length := by omega
        have hO2 := hO.fn (secondF_start ts fs Rt)
        have a0 := (hO.low.cell (p := ⟨w.heap.size, 0, none⟩) rs0).trans f0
        have a1 := (hO.low.cell (p := ⟨w.heap.size, 1, none⟩) rs0).trans f1
        have asz : w.heap.size < wr.heap.size := Nat.lt_of_lt_of_le rs0 hO.low.size
        have HAs := hide (asksOf_calls ts fs Rt g cap wr few (unhide HV).all (unhide HV).root0 (unhide HV).root1 q1 ((unhide HN).of hg d1) ((unhide HTF).of d1))
        have HO2 := hide hO2
        clear hO hO2 hk
        go_wp2_with fail
        refine (unhide HAs).mono ?_; rintro e w2 ⟨b2, rfl, hb2, hr2, hbb⟩
        have hO3 := (unhide HO2).of hbb
        have y0 := (hbb.cell (p := ⟨w.heap.size, 0, none⟩) asz).trans a0
        have ys : w.heap.size < w2.heap.size := Nat.lt_of_lt_of_le asz hbb.size
        have hGb : G < b2 := Nat.lt_of_lt_of_le (unhide HO2).q.size hb2
        have hxl : (bump (asksRow fs fs.length) Rt).length = fs.length := by rw [bump_length]; exact (asksRow_get (unhide HV).all 0 fs.length (Nat.le_refl _)).2
        have HXl := hide hxl; have HO3 := hide hO3; have HR2 := hide hr2
        clear a0 a1 asz HAs HO2 hbb hb2 hxl hO3 hr2 d1 q1
        try clear wr
        go_wp2
        go_loopw [59] (fun c wv => ∃ (k : Nat) (lab : Lb), k ≤ fs.length ∧ c = .int .i64 k ∧ OutS w1 wv B8 G fs.length Rt lab (secondF ts fs Rt k) ∧ IntRow wv b2 (bump (asksRow fs fs.length) Rt)) (fun c _ => fs.length - (intOf c).toNat)
        case atStart => exact ⟨0, _, Nat.zero_le _, rfl, unhide HO3, unhide HR2⟩
        case round =>
          clear HO3 HR2 y0 ys
          obtain ⟨k, lab, hk, rfl, hO, hI⟩ := hrel
          have d1 := bT n1 hO.low
          have q1 : g < wr.heap.size := Nat.lt_of_lt_of_le hg d1.size
          have a0 := (hO.low.cell (p := ⟨w.heap.size, 0, none⟩) rs0).trans f0
          have asz : w.heap.size < wr.heap.size := Nat.lt_of_lt_of_le rs0 hO.low.size
          by_cases hlt : k < fs.length
          · obtain ⟨c0, c1, c2, c3, c6, c7, ⟨b4, c4, _, hb4, ho4⟩, b5, c5, _, hb5, ho5⟩ := ((unhide HN).of hg d1).at k hlt
            simp only [Nat.zero_add] at c0 c1 c2 c3 c4 c5 c6 c7
            obtain ⟨t1, -, -⟩ := unhide HFit _ (List.getElem_mem hlt)
            have j1 : (k : Int) < (fs.length : Int) := by omega
            have HCs := hide (simp_cases (unhide HV) hlt)
            have HSame := hide (fun h => secondF_same (ts := ts) (Rt := Rt) hlt h)
            have HStep := hide (fun q (hq : q < k) hL h => secondF_step (ts := ts) (Rt := Rt) hlt hq hL h)
            have HO := hide hO; have HI := hide hI
            have HNr := hide ((unhide HN).of hg d1)
            have HRr := hide ((unhide HRow).of hO.low)
            clear ho5
            generalize e : fs[k] = pk at *
            clear e
            obtain ⟨K, T, M, Wd, Ex, Exs, L, R⟩ := pk
            simp only at c0 c1 c2 c3 c4 c5 c6 c7 ho4 t1
            have HJ := hide (fun W (hb : Below wr.heap.size wr W) z => joinKind_calls Ex z b4 Ex.length W (Nat.lt_of_lt_of_le hb4 hb.size) (ho4.of hb4 hb) t1)
            clear ho4 t1 hO hI
            rcases unhide HCs with ⟨hK, hA⟩ | ⟨hK, q, pq, hL, hqk, hpq, hrest⟩
            · have HS2 := hide (unhide HSame hA)
              simp only at hK
              clear hA HSame HStep HCs HJ
              go_wp2
              go_roundw
              case rel => exact ⟨k + 1, lab, by omega, by go_num, ((unhide HO).fn (unhide HS2)).of (bA (Below.refl _ _) _), (unhide HI).of (bA (Below.refl _ _) _)⟩
              case measure => simp [intOf]; omega
            simp only at hK hL
            subst hK hL
            have hql : (q : Int) < (fs.length : Int) := by omega
            have e0 := (unhide HNr q pq hpq).c0
            rw [Nat.zero_add] at e0
            have e1 := (unhide HI).at q (by rw [unhide HXl]; omega)
            have e2 := (unhide HRr).at q (by omega)
            have i1 : b2 < wr.heap.size := (unhide HI).size
            have i2 : bw < wr.heap.size := (unhide HRr).lt
            clear HCs HNr HRr hpq
            obtain ⟨KQ, hKQ⟩ : ∃ KQ, pq.K = KQ := ⟨_, rfl⟩
            rw [hKQ] at e0 hrest
            obtain ⟨av, hav⟩ : ∃ av, (bump (asksRow fs fs.length) Rt).getD q 0 = av := ⟨_, rfl⟩
            rw [hav] at e1 hrest
            clear hKQ hav
            rcases hrest with ⟨h6, hA⟩ | ⟨rfl, ⟨h1, hA⟩ | ⟨h1, m, hm, hm2, hrest⟩⟩
            · have HS2 := hide (unhide HSame hA)
              clear hA HSame HStep HJ
              go_wp2
              go_roundw
              case rel => exact ⟨k + 1, lab, by omega, by go_num, ((unhide HO).fn (unhide HS2)).of (bA (Below.refl _ _) _), (unhide HI).of (bA (Below.refl _ _) _)⟩
              case measure => simp [intOf]; omega
            · have HS2 := hide (unhide HSame hA)
              clear hA HSame HStep HJ
              go_wp2
              go_roundw
              case rel => exact ⟨k + 1, lab, by omega, by go_num, ((unhide HO).fn (unhide HS2)).of (bA (Below.refl _ _) _), (unhide HI).of (bA (Below.refl _ _) _)⟩
              case measure => simp [intOf]; omega
            rw [hm] at e2
            have h1' : ¬ 1 < av := by omega
            have HX := hide (bA (Below.refl wr.heap.size wr) (.cells #[.int .i64 3, .int .i64 T, .int .i64 M, .int .i64 Wd, .slice (some ⟨b4, 0, none⟩) Ex.length Ex.length, .slice (some ⟨b5, 0, none⟩) Exs.length Exs.length, .int .i64 (q : Int), .int .i64 R] 67))
            have HRest := hide hrest
            clear hrest
            go_wp2_with fail
            refine (unhide HJ _ (unhide HX) (m : Int)).mono ?_; rintro e w3 ⟨rfl, hb3⟩
            obtain ⟨J, hJ⟩ : ∃ J, jkind Ex (m : Int) = J := ⟨_, rfl⟩
            try simp only at HRest
            rw [hJ] at HRest
            rw [hJ]
            have z6 : w3.cell? ⟨wr.heap.size, 6, none⟩ = some (.int .i64 (q : Int)) := (hb3.cell (p := ⟨wr.heap.size, 6, none⟩) (by simp)).trans (by simp [go_sem])
            have d3 := bT (unhide HX) hb3
            have zs : wr.heap.size < w3.heap.size := by have := hb3.size; simp at this; omega
            have HD3 := hide d3
            clear hb3 hJ c0 c1 c2 c3 c4 c5 c6 c7 e0 e1 e2
            rcases unhide HRest with ⟨rfl, hA⟩ | ⟨hJv, hA, hN⟩
            · have HS2 := hide (unhide HSame hA)
              clear hA HSame HStep HJ HRest d3
              go_wp2
              go_roundw
              case rel => exact ⟨k + 1, lab, by omega, by go_num, ((unhide HO).fn (unhide HS2)).of (unhide HD3), (unhide HI).of (unhide HD3)⟩
              case measure => simp [intOf]; omega
            have hJ0 : ¬ J = 0 := by omega
            have HS2 := unhide HStep q hqk rfl hA
            rw [hN, ← hJv] at HS2
            have HS3 := hide HS2
            clear HS2 HStep HSame hN hA hJv HRest HJ
            have hO3 := (unhide HO).of d3
            have HI3 := hide ((unhide HI).of d3)
            have o0 := hO3.o0
            have hne := hO3.ne
            have h8 := hO3.s8
            have hGs := hO3.q.size
            have hG0 : G < wr.heap.size := (unhide HO).q.size
            obtain ⟨vq, hvq⟩ := hO3.q.all (q * 8) (by omega)
            have hfq := hO3.q.frz
            have HOK := hide (hO3.setK (q := q) (by omega) J)
            have HM := hide (fun W => markOnly_calls q m J W (by omega))
            clear hO3 d3 HO HI
            go_upto_region 20 with fail
            have kb := (unhide HOK).o0
            have k6 : (w3.setCell ⟨G, q * 8, none⟩ (.int .i64 J)).cell? ⟨wr.heap.size, 6, none⟩ = some (.int .i64 (q : Int)) := by rw [setCell_farN (by omega)]; exact z6
            have HIK := hide ((unhide HI3).far (G := G) (O := q * 8) (by omega) (.int .i64 J))
            have ks : wr.heap.size < (w3.setCell ⟨G, q * 8, none⟩ (.int .i64 J)).heap.size := by simpa using zs
            have hG1 : G < (w3.setCell ⟨G, q * 8, none⟩ (.int .i64 J)).heap.size := by simpa using hGs
            have h81 : B8 < (w3.setCell ⟨G, q * 8, none⟩ (.int .i64 J)).heap.size := by simpa using h8
            clear o0 hvq hfq HI3 z6 zs hGs h8 HD3 HX a0
            generalize (w3.setCell ⟨G, q * 8, none⟩ (.int .i64 J)) = Wk at *
            have hx0 : wr.heap.size ≠ G := by omega
            clear hG0 d1 q1 asz i1 i2 hb4 hb5
            generalize wr.heap.size = x0 at *
            refine wp_region_held_drew (S := fun W => W.cell? ⟨B8, 0, none⟩ = some (.slice (some ⟨G, 0, none⟩) fs.length fs.length) ∧ W.cell? ⟨x0, 6, none⟩ = some (.int .i64 (q : Int))) (by kernel_rfl) ⟨kb, k6⟩ (fun hHeld => ?_)
            refine takeW 0 104 (.pointer (some ⟨B8, 0, none⟩)) rfl rfl (by kernel_rfl) (by kernel_rfl) (by kernel_rfl) (fun _ _ _ h => h) rfl (fun wx hSw => by obtain ⟨hs1, hs2⟩ := hSw; go_simp) (by assumption) ?_
            simp only [Act.put, List.setIfInBounds_toArray, List.set_cons_succ, List.set_cons_zero]
            refine takeW 1 105 (.slice (some ⟨G, 0, none⟩) fs.length fs.length) rfl rfl (by kernel_rfl) (by kernel_rfl) (by kernel_rfl) (fun _ _ _ h => h) rfl (fun wx hSw => by obtain ⟨hs1, hs2⟩ := hSw; go_simp) (by assumption) ?_
            simp only [Act.put, List.setIfInBounds_toArray, List.set_cons_succ, List.set_cons_zero]
            refine takeW 2 106 (.int .i64 (k : Int)) rfl rfl (by kernel_rfl) (by kernel_rfl) (by kernel_rfl) (fun _ _ _ h => h) rfl (fun wx hSw => by obtain ⟨hs1, hs2⟩ := hSw; go_simp) (by assumption) ?_
            simp only [Act.put, List.setIfInBounds_toArray, List.set_cons_succ, List.set_cons_zero]
            refine takeW 3 107 (.pointer (some ⟨x0, 6, none⟩)) rfl rfl (by kernel_rfl) (by kernel_rfl) (by kernel_rfl) (fun _ _ _ h => h) rfl (fun wx hSw => by obtain ⟨hs1, hs2⟩ := hSw; go_simp) (by assumption) ?_
            simp only [Act.put, List.setIfInBounds_toArray, List.set_cons_succ, List.set_cons_zero]
            refine takeW 4 108 (.int .i64 (q : Int)) rfl rfl (by kernel_rfl) (by kernel_rfl) (by kernel_rfl) (fun _ _ _ h => h) rfl (fun wx hSw => by obtain ⟨hs1, hs2⟩ := hSw; go_simp) (by assumption) ?_
            simp only [Act.put, List.setIfInBounds_toArray, List.set_cons_succ, List.set_cons_zero]
            refine takeW 5 109 (.int .i64 J) rfl rfl (by kernel_rfl) (by kernel_rfl) (by kernel_rfl) (fun _ _ _ h => h) rfl (fun wx hSw => by obtain ⟨hs1, hs2⟩ := hSw; go_simp) (by assumption) ?_
            simp only [Act.put, List.setIfInBounds_toArray, List.set_cons_succ, List.set_cons_zero]
            refine takeW 6 110 (.int .i64 (m : Int)) rfl rfl (by kernel_rfl) (by kernel_rfl) (by kernel_rfl) (fun _ _ _ h => h) rfl (fun wx hSw => by obtain ⟨hs1, hs2⟩ := hSw; go_simp) (by assumption) ?_
            simp only [Act.put, List.setIfInBounds_toArray, List.set_cons_succ, List.set_cons_zero]
            refine wpAnyH_ready (rs := [7]) (by kernel_rfl) (by simp) ?_
            refine AllReadyH.cons rfl (fun Kx hK => ?_) AllReadyH.nil
            go_simp
            refine (unhide HM _).mono ?_
            rintro e w7 ⟨G2, lb2, uv, rfl, hP, hb7x⟩
            obtain ⟨ua, un, uc, rfl⟩ : ∃ a n c, uv = .slice a n c := by rcases hP with ⟨-, a, c, h⟩ | ⟨o, c, h, -⟩ <;> exact ⟨_, _, _, h⟩
            have hb7 : Below Wk.heap.size Wk w7 := bT (Below.drew (Below.refl _ _)) hb7x
            have n0 := (hb7.cell (p := ⟨B8, 0, none⟩) h81).trans kb
            have n6 := (hb7.cell (p := ⟨x0, 6, none⟩) ks).trans k6
            obtain ⟨m0, p0⟩ := ((unhide HOK).of hb7).q.all (k * 8) (by omega)
            obtain ⟨m1, p1⟩ := ((unhide HOK).of hb7).q.all (k * 8 + 1) (by omega)
            obtain ⟨m2, p2⟩ := ((unhide HOK).of hb7).q.all (k * 8 + 2) (by omega)
            obtain ⟨m3, p3⟩ := ((unhide HOK).of hb7).q.all (k * 8 + 3) (by omega)
            obtain ⟨m4, p4⟩ := ((unhide HOK).of hb7).q.all (k * 8 + 4) (by omega)
            obtain ⟨m5, p5⟩ := ((unhide HOK).of hb7).q.all (k * 8 + 5) (by omega)
            obtain ⟨m6, p6⟩ := ((unhide HOK).of hb7).q.all (k * 8 + 6) (by omega)
            obtain ⟨m7, p7⟩ := ((unhide HOK).of hb7).q.all (k * 8 + 7) (by omega)
            have pf := ((unhide HOK).of hb7).q.frz
            have HQ := hide ((unhide HOK).put (j := k) (p := ⟨4, 0, 0, 0, [], colExs m ++ [[(1, if J = 10 then 1 else 0)]], (q : Int), 0⟩) (u4 := .slice none 0 0) (u5 := .slice ua un uc) (m := Wk.heap.size) hlt hb7 (Nat.le_refl _) (Or.inl ⟨rfl, _, _, rfl⟩) hP)
            have HI7 := hide (((unhide HIK).of hb7).but (putU_but w7 G (k * 8) ⟨4, 0, 0, 0, [], colExs m ++ [[(1, if J = 10 then 1 else 0)]], (q : Int), 0⟩ (.slice none 0 0) (.slice ua un uc)) (by omega))
            have t8 : B8 < w7.heap.size := Nat.lt_of_lt_of_le h81 hb7.size
            have tx : x0 < w7.heap.size := Nat.lt_of_lt_of_le ks hb7.size
            have tG : G < w7.heap.size := Nat.lt_of_lt_of_le hG1 hb7.size
            clear hP hb7x hb7 HOK HIK HM
            refine hK.out _ _ ⟨n0, n6⟩ (fun hHeld2 => ?_)
            clear hK Kx
            refine takeW 8 112 (.pointer (some ⟨G, k * 8, none⟩)) rfl rfl (by kernel_rfl) (by kernel_rfl) (by kernel_rfl) (fun _ _ _ h => h) rfl (fun wx hSw => by obtain ⟨hs1, hs2⟩ := hSw; go_simp) (by assumption) ?_
            simp only [Act.put, List.setIfInBounds_toArray, List.set_cons_succ, List.set_cons_zero]
            refine wpAnyH_ready (rs := [9]) (by kernel_rfl) (by simp) ?_
            refine AllReadyH.cons rfl (fun Kx hK => ?_) AllReadyH.nil
            go_simp
            refine hK.out _ _ ⟨?_, ?_⟩ (fun hHeld3 => ?_)
            · exact ((putU_but w7 G (k * 8) ⟨4, 0, 0, 0, [], colExs m ++ [[(1, if J = 10 then 1 else 0)]], (q : Int), 0⟩ (.slice none 0 0) (.slice ua un uc)).cell B8 0 t8 hne).trans n0
            · exact ((putU_but w7 G (k * 8) ⟨4, 0, 0, 0, [], colExs m ++ [[(1, if J = 10 then 1 else 0)]], (q : Int), 0⟩ (.slice none 0 0) (.slice ua un uc)).cell x0 6 tx hx0).trans n6
            clear hK Kx
            refine wpAnyH_done (by kernel_rfl) ?_ _
            clear hHeld hHeld2 hHeld3
            go_wp2
            go_roundw
            case rel => exact ⟨k + 1, _, by omega, by go_num, (unhide HQ).fn (unhide HS3), unhide HI7⟩
            case measure => simp [intOf]; omega
          · obtain rfl : k = fs.length := by omega
            have o0 := hO.o0
            have o1 := hO.o1
            have h8 := hO.s8
            have rs2 : w.heap.size + 2 < wr.heap.size := Nat.lt_of_lt_of_le rs hO.low.size
            have s0 := (hO.low.cell (p := ⟨w.heap.size + 2, 0, none⟩) rs).trans r0
            have s1 := (hO.low.cell (p := ⟨w.heap.size + 2, 1, none⟩) rs).trans r1
            have sf : ∀ o, wr.frozen? ⟨w.heap.size + 2, o, none⟩ = false := fun o => (hO.low.frozen (p := ⟨w.heap.size + 2, o, none⟩) rs).trans (rf o)
            have hFl : FlM wr lab G (simpTo ts fs Rt fs.length) := FlQ.full (B := w1.heap.size) (f := secondF ts fs Rt fs.length) (by rw [simpTo_length]; exact hO.q) (fun i => secondF_all ts fs Rt i)
            have HFl := hide hFl; have HRg := hide hO.q.rng; have HD1 := hide d1
            clear hO hI hFl d1 r0 r1 rf f0 f1 a0 asz
            go_wp2
            refine bodyPost_ret (v := .tuple #[.agg #[.slice (some ⟨G, 0, none⟩) fs.length fs.length, .int .i64 Rt], .bool true]) (by simp [results, Tryz.results10, go_sem, s0, s1]) rfl ⟨Or.inl ⟨unhide HV, G, lab, rfl, ?_, ?_⟩, ?_⟩
            · (repeat (refine FlM.but ?_ (ButM.set (S := fun x => x < w1.heap.size) (ButM.refl _ _) (by omega) _) (fun b hb => by have := unhide HRg b hb; omega)))
              exact unhide HFl
            · intro b hb
              have := unhide HRg b hb
              exact ⟨by omega, by simpa using this.2⟩
            · (repeat (first | refine Below.setCell ?_ (by dsimp only; omega) _ | exact unhide HD1))
end Go.Proofs.YtnchcndcinpalaaGreatDoor
/-
  WHAT A COUNT LEAVES, of no program.
-/
namespace Go.Proofs.YtnchcndcinpalaaGreatDoor
def szr (left : Int) (t : Nat) : Int := if left < (t : Int) then -1 else left - (t : Int)
end Go.Proofs.YtnchcndcinpalaaGreatDoor
