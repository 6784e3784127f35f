import Derived.Test.YtafmlbojmmdcdaaDoorLogicPack
import Derived.Test.YtafmlbojmmdcdaaDoorDrawAnd3
import Derived.Test.YtafmlbojmmdcdaaDoorDrawEvalEx
import Derived.Test.YtafmlbojmmdcdaaDoorOpenBytes
namespace Go.Proofs.YtafmlbojmmdcdaaDoor
open Go Go.RowKit
theorem IsBytes.slice {w : World} {v : Value} {cs : List Nat} (h : IsBytes w v cs) : ∃ a cap, v = .slice a cs.length cap := by
  rcases h with ⟨rfl, a, cap, rfl⟩ | ⟨g, off, cap, rfl, _⟩
  · exact ⟨a, cap, rfl⟩
  · exact ⟨_, cap, rfl⟩
theorem OpsAt.news {w : World} {g : Nat} {ops : List O2} (h : OpsAt w g 0 ops) : ∀ j u, (flatO ops)[j]? = some u → w.cell? ((⟨g, 0, none⟩ : Addr).add j) = some u := by
  intro j u hu
  have hj := (List.getElem?_eq_some_iff.1 hu).1
  rw [flatO_length] at hj
  have hi : j / 2 < ops.length := by omega
  obtain ⟨e0, e1⟩ := flatO_at ops (j / 2) ops[j / 2] (by simp [hi])
  obtain ⟨c0, c1⟩ := h (j / 2) ops[j / 2] (by simp [hi])
  rw [Addr.add_lit]
  simp only [Nat.zero_add] at c0 c1 ⊢
  rcases Nat.mod_two_eq_zero_or_one j with k | k
  · rw [show j / 2 * 2 = j by omega] at e0 c0
    rw [hu] at e0
    exact c0.trans e0.symm
  · rw [show j / 2 * 2 + 1 = j by omega] at e1 c1
    rw [hu] at e1
    exact c1.trans e1.symm
theorem Box.fresh (w : World) (b : Bool) (n : Int) (t : TypeId) : Box (w.alloc (.cells #[.bool b, .int .i64 n] t)) w.heap.size b n := ⟨by simp, by simp [go_sem], by simp [go_sem]⟩
set_option maxRecDepth 100000 in
set_option maxHeartbeats 4000000 in
theorem lawLogic_calls (v u : Value) (cs ms : List Nat) (w : World) (hv : IsBytes w v cs) (hu : IsBytes w u ms) (hl : (∀ b ∈ cs, b ≤ 255) ∧ cs.length ≤ maxLen) (hm : (∀ b ∈ ms, b ≤ 255) ∧ ms.length ≤ maxLen) (hTa : TAnd w) (hTv : TVal w) (hTn : TNot w) (hTo : TOr w) (hTc : TCmp w) (hTt : TTakes w) :
    Calls Tryd.prog 3 #[v, u] w fun e w' => e = .returned (.bool true) ∧ Below w.heap.size w w' := by
  have HT := hide (show Tabs w from ⟨hTv, hTn, hTa, hTo, hTc, hTt⟩)
  clear hTa hTv hTn hTo hTc hTt
  obtain ⟨a, cap, rfl⟩ := hv.slice
  obtain ⟨a', cap', rfl⟩ := hu.slice
  by_cases k1 : (1048576 : Int) < (cs.length : Int)
  · clear hv hl hu hm
    go_enter Tryd.func3, Tryd.ntmps3
    go_wp2
    go_ret
    exact ⟨rfl, Below.refl _ _⟩
  by_cases k2 : (1048576 : Int) < (ms.length : Int)
  · clear hv hl hu hm
    go_enter Tryd.func3, Tryd.ntmps3
    go_wp2
    go_ret
    exact ⟨rfl, Below.refl _ _⟩
  have HD1 := hide (DrawAnd3_calls (.slice a cs.length cap) cs w hv hl.1 (by omega))
  have HD2 := hide (fun w' h => DrawEvalEx_calls (.slice a' ms.length cap') ms w' h hm.1 (by omega))
  have HU := hide hu
  have HSM := hide (fun b n W => same_calls (b, n) W)
  clear hv hu hl hm
  go_enter Tryd.func3, Tryd.ntmps3
  go_wp2_with fail
  refine (unhide HD1).mono ?_; rintro e w1 ⟨ab, an, bb, bn, rfl, hb1⟩
  obtain ⟨⟨pb, pn⟩, ⟨xb, xn⟩, ⟨nab, nan⟩, ⟨nbb, nbn⟩, ⟨lb, ln⟩, ⟨qb, qn⟩, C, J1, J2, J3, J4, J5, J6, J7, J8, J9, J10, J11, J12, J13, J14⟩ := logic_pack (ab, an) (bb, bn)
  have K1 := hide J1; have K2 := hide J2; have K3 := hide J3; have K4 := hide J4; have K5 := hide J5; have K6 := hide J6; have K7 := hide J7; have K8 := hide J8; have K9 := hide J9; have K10 := hide J10; have K11 := hide J11; have K12 := hide J12; have K13 := hide J13; have K14 := hide J14
  clear J1 J2 J3 J4 J5 J6 J7 J8 J9 J10 J11 J12 J13 J14 HD1
  have e1 := bA (Below.refl w1.heap.size w1) (.cells #[.bool ab, .int .i64 an] 24)
  have hA := (Box.fresh w1 ab an 24).of (bA (Below.refl _ _) (.cells #[.bool bb, .int .i64 bn] 24))
  have hB := Box.fresh (w1.alloc (.cells #[.bool ab, .int .i64 an] 24)) bb bn 24
  have dA := bT hb1 (bA e1 (.cells #[.bool bb, .int .i64 bn] 24))
  rw [show (w1.alloc (.cells #[.bool ab, .int .i64 an] 24)).heap.size = w1.heap.size + 1 by simp] at hB
  have HA := hide hA; have HB := hide hB; have HDA := hide dA
  clear hA hB e1 hb1 dA
  go_wp2_with fail
  refine (unhide K1 _ ((unhide HT).of (unhide HDA))).mono ?_; rintro e w2 ⟨rfl, hb2⟩
  have HA2 := hide ((unhide HA).of hb2); have HB2 := hide ((unhide HB).of hb2); have HD2' := hide (bT (unhide HDA) hb2)
  clear HA HB HDA hb2
  go_wp2_with fail
  refine (unhide K2 _ ((unhide HT).of (unhide HD2'))).mono ?_; rintro e w3 ⟨rfl, hb3⟩
  have HA3 := hide (((unhide HA2).of hb3).of (bA (Below.refl _ _) (.cells #[.bool xb, .int .i64 xn] 24)))
  have HB3 := hide (((unhide HB2).of hb3).of (bA (Below.refl _ _) (.cells #[.bool xb, .int .i64 xn] 24)))
  have HX3 := hide (Box.fresh w3 xb xn 24)
  have HD3 := hide (bA (bT (unhide HD2') hb3) (.cells #[.bool xb, .int .i64 xn] 24))
  clear HA2 HB2 HD2' hb3
  generalize hp5 : w1.heap.size = p5 at *
  generalize hp7 : w3.heap.size = p7 at *
  go_upto_region 5 with fail
  generalize w3.alloc (.cells #[.bool xb, .int .i64 xn] 24) = wk at *
  obtain ⟨sA, xa0, xa1⟩ := unhide HA3
  obtain ⟨sB, xb0, xb1⟩ := unhide HB3
  obtain ⟨sX, xx0, xx1⟩ := unhide HX3
  have R3 : Hid (∀ W, Std wk W → Gives 7 #[av (ab, an)] W (nab, nan)) := fun W h => unhide K3 W (((unhide HT).of (unhide HD3)).of h.2.2)
  have R4 : Hid (∀ W, Std wk W → Gives 7 #[av (bb, bn)] W (nbb, nbn)) := fun W h => unhide K4 W (((unhide HT).of (unhide HD3)).of h.2.2)
  have R5 : Hid (∀ W, Std wk W → Gives 10 #[av (nab, nan), av (nbb, nbn)] W (xb, xn)) := fun W h => unhide K5 W (((unhide HT).of (unhide HD3)).of h.2.2)
  have h1 := Below.refl wk.heap.size wk
  have h2 := h1
  go_region_held3 (Std wk) (repeat (first | with_reducible assumption | with_reducible exact Std.refl _ | with_reducible refine Std.drew ?_ | with_reducible refine Std.alloc ?_ _ | with_reducible refine Std.setCell ?_ ?_ _ | with_reducible refine Std.call ?_ (by with_reducible assumption) | (simp <;> omega) | omega)) (first | (go_at_call_of 7 ab; refine (unhide R3 _ (by assumption)).mono ?_; rintro e w1 ⟨rfl, hb⟩; (first | have n3 := bT h2 hb | have n3 := bT (bA h2 _) hb | have n3 := bT (Below.drew h2) hb | have n3 := bT (Below.drew (bA h2 _)) hb | have n3 := bT (bA (Below.drew h2) _) hb); (first | have n2 := bT h1 hb | have n2 := bT (bA h1 _) hb | have n2 := bT (Below.drew h1) hb | have n2 := bT (Below.drew (bA h1 _)) hb | have n2 := bT (bA (Below.drew h1) _) hb); obtain ⟨c1, f1⟩ := bcell hb; obtain ⟨c2, f2⟩ := bcell n2; obtain ⟨c3, f3⟩ := bcell n3; have hs := hb.size; (try simp at hs); clear h1 h2; have h1 := hb; have h2 := n2; clear n2 hb) | (go_at_call_of 7 bb; refine (unhide R4 _ (by assumption)).mono ?_; rintro e w1 ⟨rfl, hb⟩; (first | have n3 := bT h2 hb | have n3 := bT (bA h2 _) hb | have n3 := bT (Below.drew h2) hb | have n3 := bT (Below.drew (bA h2 _)) hb | have n3 := bT (bA (Below.drew h2) _) hb); (first | have n2 := bT h1 hb | have n2 := bT (bA h1 _) hb | have n2 := bT (Below.drew h1) hb | have n2 := bT (Below.drew (bA h1 _)) hb | have n2 := bT (bA (Below.drew h1) _) hb); obtain ⟨c1, f1⟩ := bcell hb; obtain ⟨c2, f2⟩ := bcell n2; obtain ⟨c3, f3⟩ := bcell n3; have hs := hb.size; (try simp at hs); clear h1 h2; have h1 := hb; have h2 := n2; clear n2 hb) | (go_at_call 10; refine (unhide R5 _ (by assumption)).mono ?_; rintro e w1 ⟨rfl, hb⟩; (first | have n3 := bT h2 hb | have n3 := bT (bA h2 _) hb | have n3 := bT (Below.drew h2) hb | have n3 := bT (Below.drew (bA h2 _)) hb | have n3 := bT (bA (Below.drew h2) _) hb); (first | have n2 := bT h1 hb | have n2 := bT (bA h1 _) hb | have n2 := bT (Below.drew h1) hb | have n2 := bT (Below.drew (bA h1 _)) hb | have n2 := bT (bA (Below.drew h1) _) hb); obtain ⟨c1, f1⟩ := bcell hb; obtain ⟨c2, f2⟩ := bcell n2; obtain ⟨c3, f3⟩ := bcell n3; have hs := hb.size; (try simp at hs); clear h1 h2; have h1 := hb; have h2 := n2; clear n2 hb) | (go_at_call 9; refine (unhide HSM _ _ _).mono ?_; rintro e w1 ⟨rfl, hb⟩; (first | have n3 := bT h2 hb | have n3 := bT (bA h2 _) hb | have n3 := bT (Below.drew h2) hb | have n3 := bT (Below.drew (bA h2 _)) hb | have n3 := bT (bA (Below.drew h2) _) hb); (first | have n2 := bT h1 hb | have n2 := bT (bA h1 _) hb | have n2 := bT (Below.drew h1) hb | have n2 := bT (Below.drew (bA h1 _)) hb | have n2 := bT (bA (Below.drew h1) _) hb); obtain ⟨c1, f1⟩ := bcell hb; obtain ⟨c2, f2⟩ := bcell n2; obtain ⟨c3, f3⟩ := bcell n3; have hs := hb.size; (try simp at hs); clear h1 h2; have h1 := hb; have h2 := n2; clear n2 hb) | (go_at_call 12; refine (unhide K6 _).mono ?_; rintro e w1 ⟨rfl, hb⟩; (first | have n3 := bT h2 hb | have n3 := bT (bA h2 _) hb | have n3 := bT (Below.drew h2) hb | have n3 := bT (Below.drew (bA h2 _)) hb | have n3 := bT (bA (Below.drew h2) _) hb); (first | have n2 := bT h1 hb | have n2 := bT (bA h1 _) hb | have n2 := bT (Below.drew h1) hb | have n2 := bT (Below.drew (bA h1 _)) hb | have n2 := bT (bA (Below.drew h1) _) hb); obtain ⟨c1, f1⟩ := bcell hb; obtain ⟨c2, f2⟩ := bcell n2; obtain ⟨c3, f3⟩ := bcell n3; have hs := hb.size; (try simp at hs); clear h1 h2; have h1 := hb; have h2 := n2; clear n2 hb) | (go_at_call 11; refine (unhide K7 _).mono ?_; rintro e w1 ⟨rfl, hb⟩; (first | have n3 := bT h2 hb | have n3 := bT (bA h2 _) hb | have n3 := bT (Below.drew h2) hb | have n3 := bT (Below.drew (bA h2 _)) hb | have n3 := bT (bA (Below.drew h2) _) hb); (first | have n2 := bT h1 hb | have n2 := bT (bA h1 _) hb | have n2 := bT (Below.drew h1) hb | have n2 := bT (Below.drew (bA h1 _)) hb | have n2 := bT (bA (Below.drew h1) _) hb); obtain ⟨c1, f1⟩ := bcell hb; obtain ⟨c2, f2⟩ := bcell n2; obtain ⟨c3, f3⟩ := bcell n3; have hs := hb.size; (try simp at hs); clear h1 h2; have h1 := hb; have h2 := n2; clear n2 hb))
  have hS : Std wk w1 := by assumption
  have HD5 := hide (bT (unhide HD3) hS.2.2)
  have HA5 := hide ((unhide HA3).of hS.2.2)
  have HB5 := hide ((unhide HB3).of hS.2.2)
  clear hS R3 R4 R5 K1 K2 K3 K4 K5 K6 K7 HA3 HB3 HX3 HD3 h1 h2 hp7 hp5
  rename World => wm
  obtain ⟨sA5, wa0, wa1⟩ := unhide HA5
  obtain ⟨sB5, wb0, wb1⟩ := unhide HB5
  go_wp2_with fail
  refine (unhide K8 _ ((unhide HT).of (unhide HD5))).mono ?_; rintro e w4 ⟨rfl, hb4⟩
  have eL := bT hb4 (bA (Below.refl w4.heap.size w4) (.cells #[.bool lb, .int .i64 ln] 24))
  have HD6 := hide (bT (unhide HD5) eL)
  have HA6 := hide ((unhide HA5).of eL)
  have HB6 := hide ((unhide HB5).of eL)
  have HL6 := hide (Box.fresh w4 lb ln 24)
  obtain ⟨sA6, ya0, ya1⟩ := (unhide HA5).of hb4
  obtain ⟨sB6, yb0, yb1⟩ := (unhide HB5).of hb4
  generalize hp8 : w4.heap.size = p8 at *
  clear K8 HD5 HA5 HB5 hb4 eL
  go_wp2_with fail
  refine (unhide K9 _ ((unhide HT).of (unhide HD6))).mono ?_; rintro e w5 ⟨rfl, hb5⟩
  have eQ := bT hb5 (bA (Below.refl w5.heap.size w5) (.cells #[.bool qb, .int .i64 qn] 24))
  have HD7 := hide (bT (unhide HD6) eQ)
  have HA7 := hide ((unhide HA6).of eQ)
  have HB7 := hide ((unhide HB6).of eQ)
  have HL7 := hide ((unhide HL6).of eQ)
  have HQ7 := hide (Box.fresh w5 qb qn 24)
  generalize hp9 : w5.heap.size = p9 at *
  clear K9 HD6 HA6 HB6 HL6 hb5 eQ
  go_upto_region 9 with fail
  generalize w5.alloc (.cells #[.bool qb, .int .i64 qn] 24) = wn at *
  obtain ⟨sA7, za0, za1⟩ := unhide HA7
  obtain ⟨sB7, zb0, zb1⟩ := unhide HB7
  obtain ⟨sL7, zl0, zl1⟩ := unhide HL7
  obtain ⟨sQ7, zq0, zq1⟩ := unhide HQ7
  have R10 : Hid (∀ op W, Std wn W → Gives 13 #[.int .i64 op, av (ab, an), av (bb, bn)] W (C op)) := fun op W h => unhide K10 op W (((unhide HT).of (unhide HD7)).of h.2.2)
  have R11 : Hid (∀ W, Std wn W → Gives 7 #[av (lb, ln)] W (C 6)) := fun W h => unhide K11 W (((unhide HT).of (unhide HD7)).of h.2.2)
  have R12 : Hid (∀ W, Std wn W → Gives 7 #[av (qb, qn)] W (C 2)) := fun W h => unhide K12 W (((unhide HT).of (unhide HD7)).of h.2.2)
  have h1 := Below.refl wn.heap.size wn
  have h2 := h1
  go_region_held3 (Std wn) (repeat (first | with_reducible assumption | with_reducible exact Std.refl _ | with_reducible refine Std.drew ?_ | with_reducible refine Std.alloc ?_ _ | with_reducible refine Std.setCell ?_ ?_ _ | with_reducible refine Std.call ?_ (by with_reducible assumption) | (simp <;> omega) | omega)) (first | (go_at_call_of 7 lb; refine (unhide R11 _ (by assumption)).mono ?_; rintro e w1 ⟨rfl, hb⟩; (first | have n3 := bT h2 hb | have n3 := bT (bA h2 _) hb | have n3 := bT (Below.drew h2) hb | have n3 := bT (Below.drew (bA h2 _)) hb | have n3 := bT (bA (Below.drew h2) _) hb); (first | have n2 := bT h1 hb | have n2 := bT (bA h1 _) hb | have n2 := bT (Below.drew h1) hb | have n2 := bT (Below.drew (bA h1 _)) hb | have n2 := bT (bA (Below.drew h1) _) hb); obtain ⟨c1, f1⟩ := bcell hb; obtain ⟨c2, f2⟩ := bcell n2; obtain ⟨c3, f3⟩ := bcell n3; have hs := hb.size; (try simp at hs); clear h1 h2; have h1 := hb; have h2 := n2; clear n2 hb) | (go_at_call_of 7 qb; refine (unhide R12 _ (by assumption)).mono ?_; rintro e w1 ⟨rfl, hb⟩; (first | have n3 := bT h2 hb | have n3 := bT (bA h2 _) hb | have n3 := bT (Below.drew h2) hb | have n3 := bT (Below.drew (bA h2 _)) hb | have n3 := bT (bA (Below.drew h2) _) hb); (first | have n2 := bT h1 hb | have n2 := bT (bA h1 _) hb | have n2 := bT (Below.drew h1) hb | have n2 := bT (Below.drew (bA h1 _)) hb | have n2 := bT (bA (Below.drew h1) _) hb); obtain ⟨c1, f1⟩ := bcell hb; obtain ⟨c2, f2⟩ := bcell n2; obtain ⟨c3, f3⟩ := bcell n3; have hs := hb.size; (try simp at hs); clear h1 h2; have h1 := hb; have h2 := n2; clear n2 hb) | (go_at_call 13; refine (unhide R10 _ _ (by assumption)).mono ?_; rintro e w1 ⟨rfl, hb⟩; (first | have n3 := bT h2 hb | have n3 := bT (bA h2 _) hb | have n3 := bT (Below.drew h2) hb | have n3 := bT (Below.drew (bA h2 _)) hb | have n3 := bT (bA (Below.drew h2) _) hb); (first | have n2 := bT h1 hb | have n2 := bT (bA h1 _) hb | have n2 := bT (Below.drew h1) hb | have n2 := bT (Below.drew (bA h1 _)) hb | have n2 := bT (bA (Below.drew h1) _) hb); obtain ⟨c1, f1⟩ := bcell hb; obtain ⟨c2, f2⟩ := bcell n2; obtain ⟨c3, f3⟩ := bcell n3; have hs := hb.size; (try simp at hs); clear h1 h2; have h1 := hb; have h2 := n2; clear n2 hb) | (go_at_call 9; refine (unhide HSM _ _ _).mono ?_; rintro e w1 ⟨rfl, hb⟩; (first | have n3 := bT h2 hb | have n3 := bT (bA h2 _) hb | have n3 := bT (Below.drew h2) hb | have n3 := bT (Below.drew (bA h2 _)) hb | have n3 := bT (bA (Below.drew h2) _) hb); (first | have n2 := bT h1 hb | have n2 := bT (bA h1 _) hb | have n2 := bT (Below.drew h1) hb | have n2 := bT (Below.drew (bA h1 _)) hb | have n2 := bT (bA (Below.drew h1) _) hb); obtain ⟨c1, f1⟩ := bcell hb; obtain ⟨c2, f2⟩ := bcell n2; obtain ⟨c3, f3⟩ := bcell n3; have hs := hb.size; (try simp at hs); clear h1 h2; have h1 := hb; have h2 := n2; clear n2 hb))
  have hS9 : Std wn w1 := by assumption
  have HD9 := hide (bT (unhide HD7) hS9.2.2)
  have HA9 := hide ((unhide HA7).of hS9.2.2)
  have HB9 := hide ((unhide HB7).of hS9.2.2)
  have HL9 := hide ((unhide HL7).of hS9.2.2)
  have HQ9 := hide ((unhide HQ7).of hS9.2.2)
  clear hS9 R10 R11 R12 K10 K11 K12 HA7 HB7 HL7 HQ7 HD7 h1 h2
  rename World => wo
  obtain ⟨sA9, va0, va1⟩ := unhide HA9
  obtain ⟨sB9, vb0, vb1⟩ := unhide HB9
  obtain ⟨sL9, vl0, vl1⟩ := unhide HL9
  obtain ⟨sQ9, vq0, vq1⟩ := unhide HQ9
  go_upto_region 11 with fail
  have R13 : Hid (∀ W, Std wo W → Gives 10 #[av (lb, ln), av (qb, qn)] W (C 4)) := fun W h => unhide K13 W (((unhide HT).of (unhide HD9)).of h.2.2)
  have h1 := Below.refl wo.heap.size wo
  have h2 := h1
  go_region_held3 (Std wo) (repeat (first | with_reducible assumption | with_reducible exact Std.refl _ | with_reducible refine Std.drew ?_ | with_reducible refine Std.alloc ?_ _ | with_reducible refine Std.setCell ?_ ?_ _ | with_reducible refine Std.call ?_ (by with_reducible assumption) | (simp <;> omega) | omega)) (first | (go_at_call 10; refine (unhide R13 _ (by assumption)).mono ?_; rintro e w1 ⟨rfl, hb⟩; (first | have n3 := bT h2 hb | have n3 := bT (bA h2 _) hb | have n3 := bT (Below.drew h2) hb | have n3 := bT (Below.drew (bA h2 _)) hb | have n3 := bT (bA (Below.drew h2) _) hb); (first | have n2 := bT h1 hb | have n2 := bT (bA h1 _) hb | have n2 := bT (Below.drew h1) hb | have n2 := bT (Below.drew (bA h1 _)) hb | have n2 := bT (bA (Below.drew h1) _) hb); obtain ⟨c1, f1⟩ := bcell hb; obtain ⟨c2, f2⟩ := bcell n2; obtain ⟨c3, f3⟩ := bcell n3; have hs := hb.size; (try simp at hs); clear h1 h2; have h1 := hb; have h2 := n2; clear n2 hb) | (go_at_call 14; refine (unhide K14 _).mono ?_; rintro e w1 ⟨rfl, hb⟩; (first | have n3 := bT h2 hb | have n3 := bT (bA h2 _) hb | have n3 := bT (Below.drew h2) hb | have n3 := bT (Below.drew (bA h2 _)) hb | have n3 := bT (bA (Below.drew h2) _) hb); (first | have n2 := bT h1 hb | have n2 := bT (bA h1 _) hb | have n2 := bT (Below.drew h1) hb | have n2 := bT (Below.drew (bA h1 _)) hb | have n2 := bT (bA (Below.drew h1) _) hb); obtain ⟨c1, f1⟩ := bcell hb; obtain ⟨c2, f2⟩ := bcell n2; obtain ⟨c3, f3⟩ := bcell n3; have hs := hb.size; (try simp at hs); clear h1 h2; have h1 := hb; have h2 := n2; clear n2 hb) | (go_at_call 9; refine (unhide HSM _ _ _).mono ?_; rintro e w1 ⟨rfl, hb⟩; (first | have n3 := bT h2 hb | have n3 := bT (bA h2 _) hb | have n3 := bT (Below.drew h2) hb | have n3 := bT (Below.drew (bA h2 _)) hb | have n3 := bT (bA (Below.drew h2) _) hb); (first | have n2 := bT h1 hb | have n2 := bT (bA h1 _) hb | have n2 := bT (Below.drew h1) hb | have n2 := bT (Below.drew (bA h1 _)) hb | have n2 := bT (bA (Below.drew h1) _) hb); obtain ⟨c1, f1⟩ := bcell hb; obtain ⟨c2, f2⟩ := bcell n2; obtain ⟨c3, f3⟩ := bcell n3; have hs := hb.size; (try simp at hs); clear h1 h2; have h1 := hb; have h2 := n2; clear n2 hb))
  have hSB : Std wo w1 := by assumption
  have HDB := hide (bT (unhide HD9) hSB.2.2)
  clear hSB R13 K13 K14 HA9 HB9 HL9 HQ9 HD9 h1 h2
  rename World => wp
  go_wp2_with fail
  refine (unhide HD2 _ ((unhide HU).of (unhide HDB))).mono ?_; rintro e w6 ⟨g, c, gr, cr, ops, row, rfl, hX⟩
  have HX := hide hX
  have hlo := hX.len
  have hlr := hX.wid
  have HD6 := hide (bT (unhide HDB) hX.low)
  have HEV := hide (show Ev ops row g c gr cr w6 from ⟨(unhide HT).of (bT (unhide HDB) hX.low), hX.has.size, hX.has.held, hX.own.size, hX.own.held⟩)
  clear HD2 HU HDB hX
  obtain ⟨⟨vb, vn⟩, E, hE1, s1, s2, s3, s4⟩ := ev_pack ops row g c gr cr hlo
  have HE1 := hide hE1; have S1 := hide s1; have S2 := hide s2; have S3 := hide s3; have S4 := hide s4
  clear hE1 s1 s2 s3 s4
  go_wp2_with fail
  refine (unhide S1 _ (unhide HEV)).mono ?_; rintro e w7 ⟨rfl, hb7⟩
  have e7 := bT hb7 (bA (Below.refl w7.heap.size w7) (.cells #[.bool vb, .int .i64 vn] 24))
  have HEV7 := hide ((unhide HEV).of e7)
  have HD7 := hide (bT (unhide HD6) e7)
  clear S1 HEV HD6 hb7 e7
  go_wp2_with fail
  refine (unhide S2 _ (unhide HEV7)).mono ?_; rintro e w8 ⟨rfl, hb8⟩
  have e8 := bT hb8 (bA (Below.refl w8.heap.size w8) (.cells #[.bool vb, .int .i64 vn] 24))
  have HEV8 := hide ((unhide HEV7).of e8)
  have HD8 := hide (bT (unhide HD7) e8)
  have HV8 := hide (Box.fresh w8 vb vn 24)
  clear S2 HEV7 HD7 hb8 e8
  have hEE : (E != E) = false := by simp
  have hrl : ((row.length : Nat) : Int) = (row.length : Int) := rfl
  go_wp2_with fail
  refine (unhide S3 _ (unhide HEV8)).mono ?_; rintro e w9 ⟨rfl, hb9⟩
  have HEV9 := hide ((unhide HEV8).of hb9)
  have HD9 := hide (bT (unhide HD8) hb9)
  have HV9 := hide ((unhide HV8).of hb9)
  clear S3 HEV8 HD8 HV8 hb9
  generalize hp14 : w8.heap.size = p14 at *
  cases E
  · clear S4 HEV9 HV9
    go_wp2
    go_ret
    exact ⟨rfl, unhide HD9⟩
  by_cases h5 : 5000 ≤ ops.length
  · have j5 : (5000 : Int) ≤ (ops.length : Int) := by omega
    clear S4 HEV9 HV9
    go_wp2
    go_ret
    exact ⟨rfl, unhide HD9⟩
  have j5 : ¬ (5000 : Int) ≤ (ops.length : Int) := by omega
  have h5' : ops.length < 5000 := by omega
  have ho1 := unhide HE1 rfl
  obtain ⟨⟨ub, un⟩, t1, t2, t3⟩ := unhide S4 rfl h5'
  have T1 := hide t1; have T2 := hide t2; have T3 := hide t3
  clear t1 t2 t3 S4 HE1
  obtain ⟨i, hi, hz⟩ := Option.map_eq_some_iff.1 (show (Tryd.prog.info? 39).map (fun i => (i.zero, i.size, i.bytes)) = some (some (.agg #[.int .i64 0, .int .i64 0]), 2, 16) by kernel_rfl)
  simp only [Prod.mk.injEq] at hz
  obtain ⟨hz0, hz1, hz2⟩ := hz
  have HOE : Hid (OwnO (w9.alloc (.cells #[] 39)) w9.heap.size w9.heap.size 0 []) := ⟨rfl, Or.inr ⟨w9.heap.size, 0, #[], rfl, Nat.le_refl _, (MapKept.heap_alloc w9 _).1, Nat.le_refl _, Nat.zero_le _, rfl, rfl⟩⟩
  have HOW : Hid ((w9.alloc (.cells #[] 39)).ownsRow w9.heap.size 39 2 (.slice (some ⟨w9.heap.size, 0, none⟩) 0 0) 0 (flatO [])) := unhide HOE
  have HEVa := hide ((unhide HEV9).of (bA (Below.refl w9.heap.size w9) (.cells #[] 39)))
  have HNW := hide (unhide HEVa).o.news
  go_upto_region 22 with (at_builtin; refine wpList_append_lies _ rfl (.tmp 119) (.tmp 120) 31 rfl w9.heap.size 39 i _ 2 16 Tryd.underlying31 hi hz0 hz1 hz2 rfl (by decide) (.slice (some ⟨w9.heap.size, 0, none⟩) 0 0) 0 (flatO []) rfl (unhide HOW) ⟨g, 0, none⟩ ops.length c (flatO ops) rfl (flatO_length ops) (unhide HNW) (one_flatO ops) (by omega) (by unfold maxLen; omega) (by omega) (by simp) _ rfl ?_; intro gx cx wx hownx hgrowx hatx hltx)
  have hownO : OwnO wx w9.heap.size gx cx ops := by
    have h' := hownx
    rw [Nat.zero_add] at h'
    exact h'
  have hbx : Below w9.heap.size w9 wx := (bA (Below.refl w9.heap.size w9) (.cells #[] 39)).grown hgrowx (by simp) (fun j hj => by
    have : w9.heap.size = j := by simpa [Value.ownBlock] using hj
    omega)
  have hlx := hownO.lt
  have hszx := hbx.size
  have HOX := hide hownO
  have HO1 : Hid ((wx.alloc (.cells #[.int .i64 7, .int .i64 0] 39)).ownsRow w9.heap.size 39 2 (.slice (some ⟨gx, 0, none⟩) ops.length cx) ops.length (flatO ops)) := hownO.of (bA (Below.refl wx.heap.size wx) (.cells #[.int .i64 7, .int .i64 0] 39))
  have HBX := hide hbx
  clear hownx hgrowx hatx HOE HOW HEVa HNW hownO hbx
  go_upto_region 23 with (at_builtin; refine wpList_append_lies _ rfl (.tmp 122) (.tmp 124) 31 rfl w9.heap.size 39 i _ 2 16 Tryd.underlying31 hi hz0 hz1 hz2 rfl (by decide) (.slice (some ⟨gx, 0, none⟩) ops.length cx) ops.length (flatO ops) rfl (unhide HO1) ⟨wx.heap.size, 0, none⟩ 1 1 [.int .i64 7, .int .i64 0] rfl rfl (World.news_of_block (w := (wx.alloc (.cells #[.int .i64 7, .int .i64 0] 39))) (cs := #[.int .i64 7, .int .i64 0]) (MapKept.heap_alloc wx _).1) (by intro v hv; simp at hv; rcases hv with rfl | rfl <;> rfl) (by decide) (by unfold maxLen; omega) (by omega) (by simp; omega) _ rfl ?_; intro g2 c2 wy hown2 hgrow hat hlt2)
  have hlen : (ops ++ [((7, 0) : O2)]).length = ops.length + 1 := by rw [List.length_append]; rfl
  have HOY : Hid (OwnO wy w9.heap.size g2 c2 (ops ++ [(7, 0)])) := by
    show OwnO _ _ _ _ _
    unfold OwnO
    rw [hlen, flatO_append]
    exact hown2
  have HBY : Hid (Below w9.heap.size w9 wy) := (bA (unhide HBX) (.cells #[.int .i64 7, .int .i64 0] 39)).grown hgrow (by simp; omega) (fun j hj => by
    have : gx = j := by simpa [Value.ownBlock] using hj
    omega)
  have HEY : Hid (Ev (ops ++ [(7, 0)]) row g2 c2 gr cr wy) := by
    have h' := (unhide HEV9).of (unhide HBY)
    exact ⟨h'.t, (unhide HOY).lt.1, (unhide HOY).row, h'.rl, h'.r⟩
  have CT := unhide T3 g2 c2 wy (unhide HEY)
  rw [hlen] at CT
  have HCT := hide CT
  have HVY := hide ((unhide HV9).of (unhide HBY))
  have HDY := hide (bT (unhide HD9) (unhide HBY))
  clear hown2 hgrow hat HO1 HOX HBX CT T3 HOY HBY HEV9 HV9 HD9 HEY hlen
  go_wp2_with fail
  refine (unhide HCT).mono ?_; rintro e wz ⟨rfl, hbz⟩
  have ez := bT hbz (bA (Below.refl wz.heap.size wz) (.cells #[.bool ub, .int .i64 un] 24))
  have HVZ := hide ((unhide HVY).of ez)
  have HDZ := hide (bT (unhide HDY) ez)
  have HUZ := hide (Box.fresh wz ub un 24)
  generalize hp17 : wz.heap.size = p17 at *
  clear HCT HVY HDY hbz ez
  go_upto_region 24 with fail
  generalize wz.alloc (.cells #[.bool ub, .int .i64 un] 24) = wt at *
  obtain ⟨sV, tv0, tv1⟩ := unhide HVZ
  obtain ⟨sU, tu0, tu1⟩ := unhide HUZ
  have R1 : Hid (∀ W, Std wt W → Gives 7 #[av (vb, vn)] W (ub, un)) := fun W h => unhide T1 W (((unhide HT).of (unhide HDZ)).of h.2.2)
  have h1 := Below.refl wt.heap.size wt
  have h2 := h1
  go_region_held3 (Std wt) (repeat (first | with_reducible assumption | with_reducible exact Std.refl _ | with_reducible refine Std.drew ?_ | with_reducible refine Std.alloc ?_ _ | with_reducible refine Std.setCell ?_ ?_ _ | with_reducible refine Std.call ?_ (by with_reducible assumption) | (simp <;> omega) | omega)) (first | (go_at_call 7; refine (unhide R1 _ (by assumption)).mono ?_; rintro e w1 ⟨rfl, hb⟩; (first | have n3 := bT h2 hb | have n3 := bT (bA h2 _) hb | have n3 := bT (Below.drew h2) hb | have n3 := bT (Below.drew (bA h2 _)) hb | have n3 := bT (bA (Below.drew h2) _) hb); (first | have n2 := bT h1 hb | have n2 := bT (bA h1 _) hb | have n2 := bT (Below.drew h1) hb | have n2 := bT (Below.drew (bA h1 _)) hb | have n2 := bT (bA (Below.drew h1) _) hb); obtain ⟨c1, f1⟩ := bcell hb; obtain ⟨c2, f2⟩ := bcell n2; obtain ⟨c3, f3⟩ := bcell n3; have hs := hb.size; (try simp at hs); clear h1 h2; have h1 := hb; have h2 := n2; clear n2 hb) | (go_at_call 11; refine (unhide T2 _).mono ?_; rintro e w1 ⟨rfl, hb⟩; (first | have n3 := bT h2 hb | have n3 := bT (bA h2 _) hb | have n3 := bT (Below.drew h2) hb | have n3 := bT (Below.drew (bA h2 _)) hb | have n3 := bT (bA (Below.drew h2) _) hb); (first | have n2 := bT h1 hb | have n2 := bT (bA h1 _) hb | have n2 := bT (Below.drew h1) hb | have n2 := bT (Below.drew (bA h1 _)) hb | have n2 := bT (bA (Below.drew h1) _) hb); obtain ⟨c1, f1⟩ := bcell hb; obtain ⟨c2, f2⟩ := bcell n2; obtain ⟨c3, f3⟩ := bcell n3; have hs := hb.size; (try simp at hs); clear h1 h2; have h1 := hb; have h2 := n2; clear n2 hb) | (go_at_call 9; refine (unhide HSM _ _ _).mono ?_; rintro e w1 ⟨rfl, hb⟩; (first | have n3 := bT h2 hb | have n3 := bT (bA h2 _) hb | have n3 := bT (Below.drew h2) hb | have n3 := bT (Below.drew (bA h2 _)) hb | have n3 := bT (bA (Below.drew h2) _) hb); (first | have n2 := bT h1 hb | have n2 := bT (bA h1 _) hb | have n2 := bT (Below.drew h1) hb | have n2 := bT (Below.drew (bA h1 _)) hb | have n2 := bT (bA (Below.drew h1) _) hb); obtain ⟨c1, f1⟩ := bcell hb; obtain ⟨c2, f2⟩ := bcell n2; obtain ⟨c3, f3⟩ := bcell n3; have hs := hb.size; (try simp at hs); clear h1 h2; have h1 := hb; have h2 := n2; clear n2 hb))
  have hSZ : Std wt w1 := by assumption
  have HDF := hide (bT (unhide HDZ) hSZ.2.2)
  clear hSZ R1 T1 T2 HVZ HUZ HDZ h1 h2
  go_wp2
  go_ret
  exact ⟨rfl, unhide HDF⟩
end Go.Proofs.YtafmlbojmmdcdaaDoor
