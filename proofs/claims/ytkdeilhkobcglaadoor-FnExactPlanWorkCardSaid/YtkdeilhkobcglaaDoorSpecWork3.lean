import Derived.Test.YtkdeilhkobcglaaDoorGWork1
import Derived.Test.YtkdeilhkobcglaaDoorGSpec13
/-
  THE BOUNDS ON A PLAN's ROWS, as the specification finds them: the greatest bound below and at a node.
-/
namespace Go.Proofs.YtkdeilhkobcglaaDoor
open Go Go.RowKit

theorem Good.wrk {ts : List Tb} {ps : List Pn} (h : Good ts ps) {i : Nat} (hi : i < ps.length) (calls : Int) :
    Go.Proofs.YtkdeilhkobcglaaDoor.wrk ts ps i calls = max (max (capW (calls * siz ts ps i)) (if 0 < arity (ps[i]).K then Go.Proofs.YtkdeilhkobcglaaDoor.wrk ts ps (ps[i]).L.toNat calls else 0)) (if 1 < arity (ps[i]).K then Go.Proofs.YtkdeilhkobcglaaDoor.wrk ts ps (ps[i]).R.toNat (callsR ts ps ps[i] calls) else 0) := by
  obtain ⟨kl, kr⟩ := h.kids hi
  conv => lhs; rw [Go.Proofs.YtkdeilhkobcglaaDoor.wrk]
  rw [List.getElem?_eq_getElem hi]
  dsimp only
  congr 1
  · congr 1
    split
    · rename_i ha; rw [dif_pos (kl ha).2]
    · rfl
  · split
    · rename_i ha; rw [dif_pos (kr ha).2]
    · rfl
/-- the boxes of one run of l3Work -/
structure KF (s g np cap : Nat) (K T M L R : Int) (v3 v4 : Value) (W : World) : Prop where
  p : W.cell? ⟨s, 0, none⟩ = some (.slice (some ⟨g, 0, none⟩) np cap)
  k : W.cell? ⟨s + 1, 0, none⟩ = some (.int .i64 K)
  l : W.cell? ⟨s + 1, 5, none⟩ = some (.int .i64 L)
  r : W.cell? ⟨s + 1, 6, none⟩ = some (.int .i64 R)
  sz : s + 1 < W.heap.size
theorem KF.of {s g np cap : Nat} {K T M L R : Int} {v3 v4 : Value} {W W1 : World} (h : KF s g np cap K T M L R v3 v4 W) (hb : Below W.heap.size W W1) : KF s g np cap K T M L R v3 v4 W1 := by
  have hs := h.sz
  exact ⟨(hb.cell (p := ⟨s, 0, none⟩) (show s < _ by omega)).trans h.p, (hb.cell (p := ⟨s + 1, 0, none⟩) hs).trans h.k, (hb.cell (p := ⟨s + 1, 5, none⟩) hs).trans h.l, (hb.cell (p := ⟨s + 1, 6, none⟩) hs).trans h.r, Nat.lt_of_lt_of_le hs hb.size⟩

set_option maxRecDepth 100000 in
set_option maxHeartbeats 16000000 in
theorem l3Work_calls (ts : List Tb) (ps : List Pn) (g cap gs caps : Nat) (hG : Good ts ps) : ∀ (n i : Nat), i < n → i < ps.length → ∀ (calls : Int), 0 ≤ calls → calls ≤ 2001 → ∀ (w : World), g < w.heap.size → PnsAt w g 0 ps → gs < w.heap.size → IntsAt w gs 0 (sizTo ts ps ps.length) →
    Calls Tryd.prog 31 #[.agg #[.slice (some ⟨g, 0, none⟩) ps.length cap], .slice (some ⟨gs, 0, none⟩) ps.length caps, .int .i64 (i : Int), .int .i64 calls] w fun e w' => e = .returned (.int .i64 (wrk ts ps i calls)) ∧ Below w.heap.size w w' := by
  intro n
  induction n with
  | zero => intro i hi; omega
  | succ n ih =>
    intro i hin hi calls hc0 hc1 w hg hn hgs hs
    have hFk := hG.fld i hi
    have hKid := hG.kids hi
    have hwk := hG.wrk hi calls
    obtain ⟨c0, c1, c2, c5, c6, ⟨b3, c3, _⟩, b4, c4, _⟩ := hn.at i hi
    simp only [Nat.zero_add] at c0 c1 c2 c3 c4 c5 c6
    have si := hs i _ (sizTo_at ts ps hi)
    have hsl := fun (q : Nat) (hq : q < ps.length) => hs q _ (sizTo_at ts ps hq)
    simp only [Nat.zero_add] at si hsl
    obtain ⟨hz0, hz1⟩ := siz_range ts ps (i + 1) i (by omega)
    have hm0 : 0 ≤ calls * siz ts ps i := Int.mul_nonneg hc0 hz0
    have hm1 : calls * siz ts ps i ≤ 2001 * 2001 := Int.mul_le_mul hc1 hz1 hz0 (by omega)
    have hwp : IntKind.i64.wrap (calls * siz ts ps i) = calls * siz ts ps i := wrap_small _ (by omega) (by omega)
    have HCap := hide (fun W => l3Cap_calls (calls * siz ts ps i) W)
    obtain ⟨hm2, hm3⟩ := capW_range hm0
    have HI := hide (fun (q : Nat) (hq : q < i) (c : Int) h0 h1 W (hb : Below w.heap.size w W) => ih q (by omega) (by omega) c h0 h1 W (Nat.lt_of_lt_of_le hg hb.size) (hn.of hg hb) (Nat.lt_of_lt_of_le hgs hb.size) (hs.of hgs hb))
    have HWr := hide (fun (q : Nat) (c : Int) h0 h1 => wrk_range ts ps (q + 1) q (by omega) c h0 h1)
    have j1 : (i : Int) < (ps.length : Int) := by omega
    cases e : ps[i] with | mk K T M Ex Exs L R =>
    rw [e] at c0 c1 c2 c3 c4 c5 c6 hFk hKid hwk
    simp only at c0 c1 c2 c3 c4 c5 c6 hFk hKid
    have k1 : 1 ≤ K := hFk.1
    have k2 : K ≤ 10 := hFk.2.1
    have hc : K = 1 ∨ K = 2 ∨ K = 3 ∨ K = 4 ∨ K = 5 ∨ K = 6 ∨ K = 7 ∨ K = 8 ∨ K = 9 ∨ K = 10 := by omega
    have HW := hide hwk; have HKid := hide hKid; have HSl := hide hsl
    clear hn hs hFk hKid hwk hsl ih e hG
    generalize siz ts ps i = zi at *
    generalize hmm : capW (calls * zi) = m at *
    have HM := hide hmm
    clear hmm
    rcases hc with rfl | rfl | rfl | rfl | rfl | rfl | rfl | rfl | rfl | rfl
    · have HK : Hid (∀ W, Calls Tryd.prog 43 #[.int .i64 1] W fun e w' => e = .returned (.int .i64 0) ∧ w' = W) := fun W => l3Kids_calls 1 W
      have HE : Hid (wrk ts ps i calls = m) := by
        show _ = _
        rw [unhide HW]
        simp [arity]
        omega
      clear HW HI HWr HKid HSl HM
      go_enter Tryd.func31, Tryd.ntmps31
      go_wp2_with fail
      refine (unhide HCap _).mono ?_; rintro e w1 ⟨rfl, hw1⟩
      subst hw1
      go_wp2_with fail
      refine (unhide HK _).mono ?_; rintro e w1 ⟨rfl, hw1⟩
      subst hw1
      go_wp2_with fail
      refine (unhide HK _).mono ?_; rintro e w1 ⟨rfl, hw1⟩
      subst hw1
      go_wp2
      go_ret
      exact ⟨congrArg (fun z => Ending.returned (.int .i64 z)) (unhide HE).symm, bA (bA (Below.refl _ _) _) _⟩
    · have HK : Hid (∀ W, Calls Tryd.prog 43 #[.int .i64 2] W fun e w' => e = .returned (.int .i64 0) ∧ w' = W) := fun W => l3Kids_calls 2 W
      have HE : Hid (wrk ts ps i calls = m) := by
        show _ = _
        rw [unhide HW]
        simp [arity]
        omega
      clear HW HI HWr HKid HSl HM
      go_enter Tryd.func31, Tryd.ntmps31
      go_wp2_with fail
      refine (unhide HCap _).mono ?_; rintro e w1 ⟨rfl, hw1⟩
      subst hw1
      go_wp2_with fail
      refine (unhide HK _).mono ?_; rintro e w1 ⟨rfl, hw1⟩
      subst hw1
      go_wp2_with fail
      refine (unhide HK _).mono ?_; rintro e w1 ⟨rfl, hw1⟩
      subst hw1
      go_wp2
      go_ret
      exact ⟨congrArg (fun z => Ending.returned (.int .i64 z)) (unhide HE).symm, bA (bA (Below.refl _ _) _) _⟩
    · have HK : Hid (∀ W, Calls Tryd.prog 43 #[.int .i64 3] W fun e w' => e = .returned (.int .i64 1) ∧ w' = W) := fun W => l3Kids_calls 3 W
      obtain ⟨hL0, hL1⟩ := (unhide HKid).1 (by decide)
      obtain ⟨q, rfl⟩ : ∃ q : Nat, L = (q : Int) := ⟨L.toNat, by omega⟩
      have hq : q < i := by omega
      have HL := hide (fun W (hb : Below w.heap.size w W) => unhide HI q hq calls hc0 hc1 W hb)
      obtain ⟨l0, l1⟩ := unhide HWr q calls hc0 (by omega)
      clear HI HWr HKid HSl
      have HL0 := HW
      obtain ⟨l, hl⟩ : ∃ l, wrk ts ps q calls = l := ⟨_, rfl⟩
      have hW2 := unhide HW
      rw [show ((q : Int)).toNat = q by omega, hl] at hW2
      rw [hl] at HL l0 l1
      clear HW hl
      have HW := hide hW2
      clear hW2 hL0 hL1
      by_cases hgt : m < l
      · have HE : Hid (wrk ts ps i calls = l) := by
          show _ = _
          rw [unhide HW]
          simp only [arity]
          simp
          omega
        clear HW HM HL0
        go_enter Tryd.func31, Tryd.ntmps31
        go_wp2_with fail
        refine (unhide HCap _).mono ?_; rintro e w1 ⟨rfl, hw1⟩
        subst hw1
        go_wp2_with fail
        refine (unhide HK _).mono ?_; rintro e w1 ⟨rfl, hw1⟩
        subst hw1
        have d0 := bA (bA (Below.refl w.heap.size w) (.cells #[.slice (some ⟨g, 0, none⟩) ps.length cap] 34)) (.cells #[.int .i64 3, .int .i64 T, .int .i64 M, .slice (some ⟨b3, 0, none⟩) Ex.length Ex.length, .slice (some ⟨b4, 0, none⟩) Exs.length Exs.length, .int .i64 (q : Int), .int .i64 R] 93)
        have F0 : KF w.heap.size g ps.length cap 3 T M (q : Int) R (.bool true) (.bool true) ((w.alloc (.cells #[.slice (some ⟨g, 0, none⟩) ps.length cap] 34)).alloc (.cells #[.int .i64 3, .int .i64 T, .int .i64 M, .slice (some ⟨b3, 0, none⟩) Ex.length Ex.length, .slice (some ⟨b4, 0, none⟩) Exs.length Exs.length, .int .i64 (q : Int), .int .i64 R] 93)) := ⟨by simp [go_sem], by simp [go_sem], by simp [go_sem], by simp [go_sem], by simp⟩
        go_wp2_with fail
        refine (unhide HL _ d0).mono ?_; rintro e w2 ⟨rfl, hb2⟩
        have d2 := bT d0 hb2
        have F2 := F0.of hb2
        clear hb2 F0 d0
        obtain ⟨fp, fk, fl, fr, fs⟩ := id F2
        have fs0 : w.heap.size < w2.heap.size := by omega
        go_wp2_with fail
        refine (unhide HK _).mono ?_; rintro e w1 ⟨rfl, hw1⟩
        subst hw1
        go_wp2
        go_ret
        exact ⟨congrArg (fun z => Ending.returned (.int .i64 z)) (unhide HE).symm, d2⟩
      · have hle : ¬ m < l := hgt
        have HE : Hid (wrk ts ps i calls = m) := by
          show _ = _
          rw [unhide HW]
          simp only [arity]
          simp
          omega
        clear HW HM HL0
        go_enter Tryd.func31, Tryd.ntmps31
        go_wp2_with fail
        refine (unhide HCap _).mono ?_; rintro e w1 ⟨rfl, hw1⟩
        subst hw1
        go_wp2_with fail
        refine (unhide HK _).mono ?_; rintro e w1 ⟨rfl, hw1⟩
        subst hw1
        have d0 := bA (bA (Below.refl w.heap.size w) (.cells #[.slice (some ⟨g, 0, none⟩) ps.length cap] 34)) (.cells #[.int .i64 3, .int .i64 T, .int .i64 M, .slice (some ⟨b3, 0, none⟩) Ex.length Ex.length, .slice (some ⟨b4, 0, none⟩) Exs.length Exs.length, .int .i64 (q : Int), .int .i64 R] 93)
        have F0 : KF w.heap.size g ps.length cap 3 T M (q : Int) R (.bool true) (.bool true) ((w.alloc (.cells #[.slice (some ⟨g, 0, none⟩) ps.length cap] 34)).alloc (.cells #[.int .i64 3, .int .i64 T, .int .i64 M, .slice (some ⟨b3, 0, none⟩) Ex.length Ex.length, .slice (some ⟨b4, 0, none⟩) Exs.length Exs.length, .int .i64 (q : Int), .int .i64 R] 93)) := ⟨by simp [go_sem], by simp [go_sem], by simp [go_sem], by simp [go_sem], by simp⟩
        go_wp2_with fail
        refine (unhide HL _ d0).mono ?_; rintro e w2 ⟨rfl, hb2⟩
        have d2 := bT d0 hb2
        have F2 := F0.of hb2
        clear hb2 F0 d0
        obtain ⟨fp, fk, fl, fr, fs⟩ := id F2
        have fs0 : w.heap.size < w2.heap.size := by omega
        go_wp2_with fail
        refine (unhide HK _).mono ?_; rintro e w1 ⟨rfl, hw1⟩
        subst hw1
        go_wp2
        go_ret
        exact ⟨congrArg (fun z => Ending.returned (.int .i64 z)) (unhide HE).symm, d2⟩
    · have HK : Hid (∀ W, Calls Tryd.prog 43 #[.int .i64 4] W fun e w' => e = .returned (.int .i64 1) ∧ w' = W) := fun W => l3Kids_calls 4 W
      obtain ⟨hL0, hL1⟩ := (unhide HKid).1 (by decide)
      obtain ⟨q, rfl⟩ : ∃ q : Nat, L = (q : Int) := ⟨L.toNat, by omega⟩
      have hq : q < i := by omega
      have HL := hide (fun W (hb : Below w.heap.size w W) => unhide HI q hq calls hc0 hc1 W hb)
      obtain ⟨l0, l1⟩ := unhide HWr q calls hc0 (by omega)
      clear HI HWr HKid HSl
      have HL0 := HW
      obtain ⟨l, hl⟩ : ∃ l, wrk ts ps q calls = l := ⟨_, rfl⟩
      have hW2 := unhide HW
      rw [show ((q : Int)).toNat = q by omega, hl] at hW2
      rw [hl] at HL l0 l1
      clear HW hl
      have HW := hide hW2
      clear hW2 hL0 hL1
      by_cases hgt : m < l
      · have HE : Hid (wrk ts ps i calls = l) := by
          show _ = _
          rw [unhide HW]
          simp only [arity]
          simp
          omega
        clear HW HM HL0
        go_enter Tryd.func31, Tryd.ntmps31
        go_wp2_with fail
        refine (unhide HCap _).mono ?_; rintro e w1 ⟨rfl, hw1⟩
        subst hw1
        go_wp2_with fail
        refine (unhide HK _).mono ?_; rintro e w1 ⟨rfl, hw1⟩
        subst hw1
        have d0 := bA (bA (Below.refl w.heap.size w) (.cells #[.slice (some ⟨g, 0, none⟩) ps.length cap] 34)) (.cells #[.int .i64 4, .int .i64 T, .int .i64 M, .slice (some ⟨b3, 0, none⟩) Ex.length Ex.length, .slice (some ⟨b4, 0, none⟩) Exs.length Exs.length, .int .i64 (q : Int), .int .i64 R] 93)
        have F0 : KF w.heap.size g ps.length cap 4 T M (q : Int) R (.bool true) (.bool true) ((w.alloc (.cells #[.slice (some ⟨g, 0, none⟩) ps.length cap] 34)).alloc (.cells #[.int .i64 4, .int .i64 T, .int .i64 M, .slice (some ⟨b3, 0, none⟩) Ex.length Ex.length, .slice (some ⟨b4, 0, none⟩) Exs.length Exs.length, .int .i64 (q : Int), .int .i64 R] 93)) := ⟨by simp [go_sem], by simp [go_sem], by simp [go_sem], by simp [go_sem], by simp⟩
        go_wp2_with fail
        refine (unhide HL _ d0).mono ?_; rintro e w2 ⟨rfl, hb2⟩
        have d2 := bT d0 hb2
        have F2 := F0.of hb2
        clear hb2 F0 d0
        obtain ⟨fp, fk, fl, fr, fs⟩ := id F2
        have fs0 : w.heap.size < w2.heap.size := by omega
        go_wp2_with fail
        refine (unhide HK _).mono ?_; rintro e w1 ⟨rfl, hw1⟩
        subst hw1
        go_wp2
        go_ret
        exact ⟨congrArg (fun z => Ending.returned (.int .i64 z)) (unhide HE).symm, d2⟩
      · have hle : ¬ m < l := hgt
        have HE : Hid (wrk ts ps i calls = m) := by
          show _ = _
          rw [unhide HW]
          simp only [arity]
          simp
          omega
        clear HW HM HL0
        go_enter Tryd.func31, Tryd.ntmps31
        go_wp2_with fail
        refine (unhide HCap _).mono ?_; rintro e w1 ⟨rfl, hw1⟩
        subst hw1
        go_wp2_with fail
        refine (unhide HK _).mono ?_; rintro e w1 ⟨rfl, hw1⟩
        subst hw1
        have d0 := bA (bA (Below.refl w.heap.size w) (.cells #[.slice (some ⟨g, 0, none⟩) ps.length cap] 34)) (.cells #[.int .i64 4, .int .i64 T, .int .i64 M, .slice (some ⟨b3, 0, none⟩) Ex.length Ex.length, .slice (some ⟨b4, 0, none⟩) Exs.length Exs.length, .int .i64 (q : Int), .int .i64 R] 93)
        have F0 : KF w.heap.size g ps.length cap 4 T M (q : Int) R (.bool true) (.bool true) ((w.alloc (.cells #[.slice (some ⟨g, 0, none⟩) ps.length cap] 34)).alloc (.cells #[.int .i64 4, .int .i64 T, .int .i64 M, .slice (some ⟨b3, 0, none⟩) Ex.length Ex.length, .slice (some ⟨b4, 0, none⟩) Exs.length Exs.length, .int .i64 (q : Int), .int .i64 R] 93)) := ⟨by simp [go_sem], by simp [go_sem], by simp [go_sem], by simp [go_sem], by simp⟩
        go_wp2_with fail
        refine (unhide HL _ d0).mono ?_; rintro e w2 ⟨rfl, hb2⟩
        have d2 := bT d0 hb2
        have F2 := F0.of hb2
        clear hb2 F0 d0
        obtain ⟨fp, fk, fl, fr, fs⟩ := id F2
        have fs0 : w.heap.size < w2.heap.size := by omega
        go_wp2_with fail
        refine (unhide HK _).mono ?_; rintro e w1 ⟨rfl, hw1⟩
        subst hw1
        go_wp2
        go_ret
        exact ⟨congrArg (fun z => Ending.returned (.int .i64 z)) (unhide HE).symm, d2⟩
    · have HK : Hid (∀ W, Calls Tryd.prog 43 #[.int .i64 5] W fun e w' => e = .returned (.int .i64 2) ∧ w' = W) := fun W => l3Kids_calls 5 W
      obtain ⟨hL0, hL1⟩ := (unhide HKid).1 (by decide)
      obtain ⟨q, rfl⟩ : ∃ q : Nat, L = (q : Int) := ⟨L.toNat, by omega⟩
      have hq : q < i := by omega
      have HL := hide (fun W (hb : Below w.heap.size w W) => unhide HI q hq calls hc0 hc1 W hb)
      obtain ⟨l0, l1⟩ := unhide HWr q calls hc0 (by omega)
      obtain ⟨hR0, hR1⟩ := (unhide HKid).2 (by decide)
      obtain ⟨j, rfl⟩ : ∃ j : Nat, R = (j : Int) := ⟨R.toNat, by omega⟩
      have hj : j < i := by omega
      have hcr : callsR ts ps ⟨5, T, M, Ex, Exs, (q : Int), (j : Int)⟩ calls = calls := by simp [callsR]
      have HR := hide (fun W (hb : Below w.heap.size w W) => unhide HI j hj calls hc0 hc1 W hb)
      obtain ⟨r0, r1⟩ := unhide HWr j calls hc0 (by omega)
      obtain ⟨l, hl⟩ : ∃ l, wrk ts ps q calls = l := ⟨_, rfl⟩
      obtain ⟨r, hr⟩ : ∃ r, wrk ts ps j (calls) = r := ⟨_, rfl⟩
      have hW2 := unhide HW
      rw [if_pos (show (0 : Int) < arity 5 by decide), if_pos (show (1 : Int) < arity 5 by decide), hcr, show ((q : Int)).toNat = q by omega, show ((j : Int)).toNat = j by omega, hl, hr] at hW2
      rw [hl] at HL l0 l1
      rw [hr] at HR r0 r1
      clear HW hl hr hcr HI HWr HKid HSl
      have HW := hide hW2
      clear hW2 hL0 hL1 hR0 hR1
      by_cases hgt : m < l
      · by_cases hgt2 : l < r
        · have HE : Hid (wrk ts ps i calls = r) := by
            show _ = _
            rw [unhide HW]
            omega
          clear HW HM
          go_enter Tryd.func31, Tryd.ntmps31
          go_wp2_with fail
          refine (unhide HCap _).mono ?_; rintro e w1 ⟨rfl, hw1⟩
          subst hw1
          go_wp2_with fail
          refine (unhide HK _).mono ?_; rintro e w1 ⟨rfl, hw1⟩
          subst hw1
          have d0 := bA (bA (Below.refl w.heap.size w) (.cells #[.slice (some ⟨g, 0, none⟩) ps.length cap] 34)) (.cells #[.int .i64 5, .int .i64 T, .int .i64 M, .slice (some ⟨b3, 0, none⟩) Ex.length Ex.length, .slice (some ⟨b4, 0, none⟩) Exs.length Exs.length, .int .i64 (q : Int), .int .i64 (j : Int)] 93)
          have F0 : KF w.heap.size g ps.length cap 5 T M (q : Int) (j : Int) (.bool true) (.bool true) ((w.alloc (.cells #[.slice (some ⟨g, 0, none⟩) ps.length cap] 34)).alloc (.cells #[.int .i64 5, .int .i64 T, .int .i64 M, .slice (some ⟨b3, 0, none⟩) Ex.length Ex.length, .slice (some ⟨b4, 0, none⟩) Exs.length Exs.length, .int .i64 (q : Int), .int .i64 (j : Int)] 93)) := ⟨by simp [go_sem], by simp [go_sem], by simp [go_sem], by simp [go_sem], by simp⟩
          go_wp2_with fail
          refine (unhide HL _ d0).mono ?_; rintro e w2 ⟨rfl, hb2⟩
          have d2 := bT d0 hb2
          have F2 := F0.of hb2
          clear hb2 F0 d0
          obtain ⟨fp, fk, fl, fr, fs⟩ := id F2
          have fs0 : w.heap.size < w2.heap.size := by omega
          go_wp2_with fail
          refine (unhide HK _).mono ?_; rintro e w1 ⟨rfl, hw1⟩
          subst hw1
          go_wp2_with fail
          refine (unhide HR _ d2).mono ?_; rintro e w4 ⟨rfl, hb4⟩
          have d4 := bT d2 hb4
          clear hb4
          go_wp2
          go_ret
          exact ⟨congrArg (fun z => Ending.returned (.int .i64 z)) (unhide HE).symm, d4⟩
        · have hle2 : ¬ l < r := hgt2
          have HE : Hid (wrk ts ps i calls = l) := by
            show _ = _
            rw [unhide HW]
            omega
          clear HW HM
          go_enter Tryd.func31, Tryd.ntmps31
          go_wp2_with fail
          refine (unhide HCap _).mono ?_; rintro e w1 ⟨rfl, hw1⟩
          subst hw1
          go_wp2_with fail
          refine (unhide HK _).mono ?_; rintro e w1 ⟨rfl, hw1⟩
          subst hw1
          have d0 := bA (bA (Below.refl w.heap.size w) (.cells #[.slice (some ⟨g, 0, none⟩) ps.length cap] 34)) (.cells #[.int .i64 5, .int .i64 T, .int .i64 M, .slice (some ⟨b3, 0, none⟩) Ex.length Ex.length, .slice (some ⟨b4, 0, none⟩) Exs.length Exs.length, .int .i64 (q : Int), .int .i64 (j : Int)] 93)
          have F0 : KF w.heap.size g ps.length cap 5 T M (q : Int) (j : Int) (.bool true) (.bool true) ((w.alloc (.cells #[.slice (some ⟨g, 0, none⟩) ps.length cap] 34)).alloc (.cells #[.int .i64 5, .int .i64 T, .int .i64 M, .slice (some ⟨b3, 0, none⟩) Ex.length Ex.length, .slice (some ⟨b4, 0, none⟩) Exs.length Exs.length, .int .i64 (q : Int), .int .i64 (j : Int)] 93)) := ⟨by simp [go_sem], by simp [go_sem], by simp [go_sem], by simp [go_sem], by simp⟩
          go_wp2_with fail
          refine (unhide HL _ d0).mono ?_; rintro e w2 ⟨rfl, hb2⟩
          have d2 := bT d0 hb2
          have F2 := F0.of hb2
          clear hb2 F0 d0
          obtain ⟨fp, fk, fl, fr, fs⟩ := id F2
          have fs0 : w.heap.size < w2.heap.size := by omega
          go_wp2_with fail
          refine (unhide HK _).mono ?_; rintro e w1 ⟨rfl, hw1⟩
          subst hw1
          go_wp2_with fail
          refine (unhide HR _ d2).mono ?_; rintro e w4 ⟨rfl, hb4⟩
          have d4 := bT d2 hb4
          clear hb4
          go_wp2
          go_ret
          exact ⟨congrArg (fun z => Ending.returned (.int .i64 z)) (unhide HE).symm, d4⟩
      · have hle : ¬ m < l := hgt
        by_cases hgt2 : m < r
        · have HE : Hid (wrk ts ps i calls = r) := by
            show _ = _
            rw [unhide HW]
            omega
          clear HW HM
          go_enter Tryd.func31, Tryd.ntmps31
          go_wp2_with fail
          refine (unhide HCap _).mono ?_; rintro e w1 ⟨rfl, hw1⟩
          subst hw1
          go_wp2_with fail
          refine (unhide HK _).mono ?_; rintro e w1 ⟨rfl, hw1⟩
          subst hw1
          have d0 := bA (bA (Below.refl w.heap.size w) (.cells #[.slice (some ⟨g, 0, none⟩) ps.length cap] 34)) (.cells #[.int .i64 5, .int .i64 T, .int .i64 M, .slice (some ⟨b3, 0, none⟩) Ex.length Ex.length, .slice (some ⟨b4, 0, none⟩) Exs.length Exs.length, .int .i64 (q : Int), .int .i64 (j : Int)] 93)
          have F0 : KF w.heap.size g ps.length cap 5 T M (q : Int) (j : Int) (.bool true) (.bool true) ((w.alloc (.cells #[.slice (some ⟨g, 0, none⟩) ps.length cap] 34)).alloc (.cells #[.int .i64 5, .int .i64 T, .int .i64 M, .slice (some ⟨b3, 0, none⟩) Ex.length Ex.length, .slice (some ⟨b4, 0, none⟩) Exs.length Exs.length, .int .i64 (q : Int), .int .i64 (j : Int)] 93)) := ⟨by simp [go_sem], by simp [go_sem], by simp [go_sem], by simp [go_sem], by simp⟩
          go_wp2_with fail
          refine (unhide HL _ d0).mono ?_; rintro e w2 ⟨rfl, hb2⟩
          have d2 := bT d0 hb2
          have F2 := F0.of hb2
          clear hb2 F0 d0
          obtain ⟨fp, fk, fl, fr, fs⟩ := id F2
          have fs0 : w.heap.size < w2.heap.size := by omega
          go_wp2_with fail
          refine (unhide HK _).mono ?_; rintro e w1 ⟨rfl, hw1⟩
          subst hw1
          go_wp2_with fail
          refine (unhide HR _ d2).mono ?_; rintro e w4 ⟨rfl, hb4⟩
          have d4 := bT d2 hb4
          clear hb4
          go_wp2
          go_ret
          exact ⟨congrArg (fun z => Ending.returned (.int .i64 z)) (unhide HE).symm, d4⟩
        · have hle2 : ¬ m < r := hgt2
          have HE : Hid (wrk ts ps i calls = m) := by
            show _ = _
            rw [unhide HW]
            omega
          clear HW HM
          go_enter Tryd.func31, Tryd.ntmps31
          go_wp2_with fail
          refine (unhide HCap _).mono ?_; rintro e w1 ⟨rfl, hw1⟩
          subst hw1
          go_wp2_with fail
          refine (unhide HK _).mono ?_; rintro e w1 ⟨rfl, hw1⟩
          subst hw1
          have d0 := bA (bA (Below.refl w.heap.size w) (.cells #[.slice (some ⟨g, 0, none⟩) ps.length cap] 34)) (.cells #[.int .i64 5, .int .i64 T, .int .i64 M, .slice (some ⟨b3, 0, none⟩) Ex.length Ex.length, .slice (some ⟨b4, 0, none⟩) Exs.length Exs.length, .int .i64 (q : Int), .int .i64 (j : Int)] 93)
          have F0 : KF w.heap.size g ps.length cap 5 T M (q : Int) (j : Int) (.bool true) (.bool true) ((w.alloc (.cells #[.slice (some ⟨g, 0, none⟩) ps.length cap] 34)).alloc (.cells #[.int .i64 5, .int .i64 T, .int .i64 M, .slice (some ⟨b3, 0, none⟩) Ex.length Ex.length, .slice (some ⟨b4, 0, none⟩) Exs.length Exs.length, .int .i64 (q : Int), .int .i64 (j : Int)] 93)) := ⟨by simp [go_sem], by simp [go_sem], by simp [go_sem], by simp [go_sem], by simp⟩
          go_wp2_with fail
          refine (unhide HL _ d0).mono ?_; rintro e w2 ⟨rfl, hb2⟩
          have d2 := bT d0 hb2
          have F2 := F0.of hb2
          clear hb2 F0 d0
          obtain ⟨fp, fk, fl, fr, fs⟩ := id F2
          have fs0 : w.heap.size < w2.heap.size := by omega
          go_wp2_with fail
          refine (unhide HK _).mono ?_; rintro e w1 ⟨rfl, hw1⟩
          subst hw1
          go_wp2_with fail
          refine (unhide HR _ d2).mono ?_; rintro e w4 ⟨rfl, hb4⟩
          have d4 := bT d2 hb4
          clear hb4
          go_wp2
          go_ret
          exact ⟨congrArg (fun z => Ending.returned (.int .i64 z)) (unhide HE).symm, d4⟩
    · have HK : Hid (∀ W, Calls Tryd.prog 43 #[.int .i64 6] W fun e w' => e = .returned (.int .i64 2) ∧ w' = W) := fun W => l3Kids_calls 6 W
      obtain ⟨hL0, hL1⟩ := (unhide HKid).1 (by decide)
      obtain ⟨q, rfl⟩ : ∃ q : Nat, L = (q : Int) := ⟨L.toNat, by omega⟩
      have hq : q < i := by omega
      have HL := hide (fun W (hb : Below w.heap.size w W) => unhide HI q hq calls hc0 hc1 W hb)
      obtain ⟨l0, l1⟩ := unhide HWr q calls hc0 (by omega)
      obtain ⟨hR0, hR1⟩ := (unhide HKid).2 (by decide)
      obtain ⟨j, rfl⟩ : ∃ j : Nat, R = (j : Int) := ⟨R.toNat, by omega⟩
      have hj : j < i := by omega
      have sq := unhide HSl q (by omega)
      have hqn : (q : Int) < (ps.length : Int) := by omega
      obtain ⟨hy0, hy1⟩ := siz_range ts ps (q + 1) q (by omega)
      have hcr : callsR ts ps ⟨6, T, M, Ex, Exs, (q : Int), (j : Int)⟩ calls = capW (calls * siz ts ps q) := by simp [callsR]
      have hp00 : 0 ≤ calls * siz ts ps q := Int.mul_nonneg hc0 hy0
      have hp01 : calls * siz ts ps q ≤ 2001 * 2001 := Int.mul_le_mul hc1 hy1 hy0 (by omega)
      have hwp2 : IntKind.i64.wrap (calls * siz ts ps q) = calls * siz ts ps q := wrap_small _ (by omega) (by omega)
      have HCap2 := hide (fun W => l3Cap_calls (calls * siz ts ps q) W)
      obtain ⟨hx0, hx1⟩ := capW_range hp00
      have HR := hide (fun W (hb : Below w.heap.size w W) => unhide HI j hj (capW (calls * siz ts ps q)) hx0 (by omega) W hb)
      obtain ⟨r0, r1⟩ := unhide HWr j (capW (calls * siz ts ps q)) hx0 (by omega)
      obtain ⟨l, hl⟩ : ∃ l, wrk ts ps q calls = l := ⟨_, rfl⟩
      obtain ⟨r, hr⟩ : ∃ r, wrk ts ps j (capW (calls * siz ts ps q)) = r := ⟨_, rfl⟩
      have hW2 := unhide HW
      rw [if_pos (show (0 : Int) < arity 6 by decide), if_pos (show (1 : Int) < arity 6 by decide), hcr, show ((q : Int)).toNat = q by omega, show ((j : Int)).toNat = j by omega, hl, hr] at hW2
      rw [hl] at HL l0 l1
      rw [hr] at HR r0 r1
      clear HW hl hr hcr HI HWr HKid HSl
      have HW := hide hW2
      clear hW2 hL0 hL1 hR0 hR1
      generalize siz ts ps q = zq at *
      generalize capW (calls * zq) = cc at *
      by_cases hgt : m < l
      · by_cases hgt2 : l < r
        · have HE : Hid (wrk ts ps i calls = r) := by
            show _ = _
            rw [unhide HW]
            omega
          clear HW HM
          go_enter Tryd.func31, Tryd.ntmps31
          go_wp2_with fail
          refine (unhide HCap _).mono ?_; rintro e w1 ⟨rfl, hw1⟩
          subst hw1
          go_wp2_with fail
          refine (unhide HK _).mono ?_; rintro e w1 ⟨rfl, hw1⟩
          subst hw1
          have d0 := bA (bA (Below.refl w.heap.size w) (.cells #[.slice (some ⟨g, 0, none⟩) ps.length cap] 34)) (.cells #[.int .i64 6, .int .i64 T, .int .i64 M, .slice (some ⟨b3, 0, none⟩) Ex.length Ex.length, .slice (some ⟨b4, 0, none⟩) Exs.length Exs.length, .int .i64 (q : Int), .int .i64 (j : Int)] 93)
          have F0 : KF w.heap.size g ps.length cap 6 T M (q : Int) (j : Int) (.bool true) (.bool true) ((w.alloc (.cells #[.slice (some ⟨g, 0, none⟩) ps.length cap] 34)).alloc (.cells #[.int .i64 6, .int .i64 T, .int .i64 M, .slice (some ⟨b3, 0, none⟩) Ex.length Ex.length, .slice (some ⟨b4, 0, none⟩) Exs.length Exs.length, .int .i64 (q : Int), .int .i64 (j : Int)] 93)) := ⟨by simp [go_sem], by simp [go_sem], by simp [go_sem], by simp [go_sem], by simp⟩
          go_wp2_with fail
          refine (unhide HL _ d0).mono ?_; rintro e w2 ⟨rfl, hb2⟩
          have d2 := bT d0 hb2
          have F2 := F0.of hb2
          clear hb2 F0 d0
          obtain ⟨fp, fk, fl, fr, fs⟩ := id F2
          have fs0 : w.heap.size < w2.heap.size := by omega
          go_wp2_with fail
          refine (unhide HK _).mono ?_; rintro e w1 ⟨rfl, hw1⟩
          subst hw1
          have sqb := (d2.cell (p := ⟨gs, q, none⟩) hgs).trans sq
          have hgsb : gs < w1.heap.size := Nat.lt_of_lt_of_le hgs d2.size
          go_wp2_with fail
          refine (unhide HCap2 _).mono ?_; rintro e w1 ⟨rfl, hw1⟩
          subst hw1
          go_wp2_with fail
          refine (unhide HR _ d2).mono ?_; rintro e w4 ⟨rfl, hb4⟩
          have d4 := bT d2 hb4
          clear hb4
          go_wp2
          go_ret
          exact ⟨congrArg (fun z => Ending.returned (.int .i64 z)) (unhide HE).symm, d4⟩
        · have hle2 : ¬ l < r := hgt2
          have HE : Hid (wrk ts ps i calls = l) := by
            show _ = _
            rw [unhide HW]
            omega
          clear HW HM
          go_enter Tryd.func31, Tryd.ntmps31
          go_wp2_with fail
          refine (unhide HCap _).mono ?_; rintro e w1 ⟨rfl, hw1⟩
          subst hw1
          go_wp2_with fail
          refine (unhide HK _).mono ?_; rintro e w1 ⟨rfl, hw1⟩
          subst hw1
          have d0 := bA (bA (Below.refl w.heap.size w) (.cells #[.slice (some ⟨g, 0, none⟩) ps.length cap] 34)) (.cells #[.int .i64 6, .int .i64 T, .int .i64 M, .slice (some ⟨b3, 0, none⟩) Ex.length Ex.length, .slice (some ⟨b4, 0, none⟩) Exs.length Exs.length, .int .i64 (q : Int), .int .i64 (j : Int)] 93)
          have F0 : KF w.heap.size g ps.length cap 6 T M (q : Int) (j : Int) (.bool true) (.bool true) ((w.alloc (.cells #[.slice (some ⟨g, 0, none⟩) ps.length cap] 34)).alloc (.cells #[.int .i64 6, .int .i64 T, .int .i64 M, .slice (some ⟨b3, 0, none⟩) Ex.length Ex.length, .slice (some ⟨b4, 0, none⟩) Exs.length Exs.length, .int .i64 (q : Int), .int .i64 (j : Int)] 93)) := ⟨by simp [go_sem], by simp [go_sem], by simp [go_sem], by simp [go_sem], by simp⟩
          go_wp2_with fail
          refine (unhide HL _ d0).mono ?_; rintro e w2 ⟨rfl, hb2⟩
          have d2 := bT d0 hb2
          have F2 := F0.of hb2
          clear hb2 F0 d0
          obtain ⟨fp, fk, fl, fr, fs⟩ := id F2
          have fs0 : w.heap.size < w2.heap.size := by omega
          go_wp2_with fail
          refine (unhide HK _).mono ?_; rintro e w1 ⟨rfl, hw1⟩
          subst hw1
          have sqb := (d2.cell (p := ⟨gs, q, none⟩) hgs).trans sq
          have hgsb : gs < w1.heap.size := Nat.lt_of_lt_of_le hgs d2.size
          go_wp2_with fail
          refine (unhide HCap2 _).mono ?_; rintro e w1 ⟨rfl, hw1⟩
          subst hw1
          go_wp2_with fail
          refine (unhide HR _ d2).mono ?_; rintro e w4 ⟨rfl, hb4⟩
          have d4 := bT d2 hb4
          clear hb4
          go_wp2
          go_ret
          exact ⟨congrArg (fun z => Ending.returned (.int .i64 z)) (unhide HE).symm, d4⟩
      · have hle : ¬ m < l := hgt
        by_cases hgt2 : m < r
        · have HE : Hid (wrk ts ps i calls = r) := by
            show _ = _
            rw [unhide HW]
            omega
          clear HW HM
          go_enter Tryd.func31, Tryd.ntmps31
          go_wp2_with fail
          refine (unhide HCap _).mono ?_; rintro e w1 ⟨rfl, hw1⟩
          subst hw1
          go_wp2_with fail
          refine (unhide HK _).mono ?_; rintro e w1 ⟨rfl, hw1⟩
          subst hw1
          have d0 := bA (bA (Below.refl w.heap.size w) (.cells #[.slice (some ⟨g, 0, none⟩) ps.length cap] 34)) (.cells #[.int .i64 6, .int .i64 T, .int .i64 M, .slice (some ⟨b3, 0, none⟩) Ex.length Ex.length, .slice (some ⟨b4, 0, none⟩) Exs.length Exs.length, .int .i64 (q : Int), .int .i64 (j : Int)] 93)
          have F0 : KF w.heap.size g ps.length cap 6 T M (q : Int) (j : Int) (.bool true) (.bool true) ((w.alloc (.cells #[.slice (some ⟨g, 0, none⟩) ps.length cap] 34)).alloc (.cells #[.int .i64 6, .int .i64 T, .int .i64 M, .slice (some ⟨b3, 0, none⟩) Ex.length Ex.length, .slice (some ⟨b4, 0, none⟩) Exs.length Exs.length, .int .i64 (q : Int), .int .i64 (j : Int)] 93)) := ⟨by simp [go_sem], by simp [go_sem], by simp [go_sem], by simp [go_sem], by simp⟩
          go_wp2_with fail
          refine (unhide HL _ d0).mono ?_; rintro e w2 ⟨rfl, hb2⟩
          have d2 := bT d0 hb2
          have F2 := F0.of hb2
          clear hb2 F0 d0
          obtain ⟨fp, fk, fl, fr, fs⟩ := id F2
          have fs0 : w.heap.size < w2.heap.size := by omega
          go_wp2_with fail
          refine (unhide HK _).mono ?_; rintro e w1 ⟨rfl, hw1⟩
          subst hw1
          have sqb := (d2.cell (p := ⟨gs, q, none⟩) hgs).trans sq
          have hgsb : gs < w1.heap.size := Nat.lt_of_lt_of_le hgs d2.size
          go_wp2_with fail
          refine (unhide HCap2 _).mono ?_; rintro e w1 ⟨rfl, hw1⟩
          subst hw1
          go_wp2_with fail
          refine (unhide HR _ d2).mono ?_; rintro e w4 ⟨rfl, hb4⟩
          have d4 := bT d2 hb4
          clear hb4
          go_wp2
          go_ret
          exact ⟨congrArg (fun z => Ending.returned (.int .i64 z)) (unhide HE).symm, d4⟩
        · have hle2 : ¬ m < r := hgt2
          have HE : Hid (wrk ts ps i calls = m) := by
            show _ = _
            rw [unhide HW]
            omega
          clear HW HM
          go_enter Tryd.func31, Tryd.ntmps31
          go_wp2_with fail
          refine (unhide HCap _).mono ?_; rintro e w1 ⟨rfl, hw1⟩
          subst hw1
          go_wp2_with fail
          refine (unhide HK _).mono ?_; rintro e w1 ⟨rfl, hw1⟩
          subst hw1
          have d0 := bA (bA (Below.refl w.heap.size w) (.cells #[.slice (some ⟨g, 0, none⟩) ps.length cap] 34)) (.cells #[.int .i64 6, .int .i64 T, .int .i64 M, .slice (some ⟨b3, 0, none⟩) Ex.length Ex.length, .slice (some ⟨b4, 0, none⟩) Exs.length Exs.length, .int .i64 (q : Int), .int .i64 (j : Int)] 93)
          have F0 : KF w.heap.size g ps.length cap 6 T M (q : Int) (j : Int) (.bool true) (.bool true) ((w.alloc (.cells #[.slice (some ⟨g, 0, none⟩) ps.length cap] 34)).alloc (.cells #[.int .i64 6, .int .i64 T, .int .i64 M, .slice (some ⟨b3, 0, none⟩) Ex.length Ex.length, .slice (some ⟨b4, 0, none⟩) Exs.length Exs.length, .int .i64 (q : Int), .int .i64 (j : Int)] 93)) := ⟨by simp [go_sem], by simp [go_sem], by simp [go_sem], by simp [go_sem], by simp⟩
          go_wp2_with fail
          refine (unhide HL _ d0).mono ?_; rintro e w2 ⟨rfl, hb2⟩
          have d2 := bT d0 hb2
          have F2 := F0.of hb2
          clear hb2 F0 d0
          obtain ⟨fp, fk, fl, fr, fs⟩ := id F2
          have fs0 : w.heap.size < w2.heap.size := by omega
          go_wp2_with fail
          refine (unhide HK _).mono ?_; rintro e w1 ⟨rfl, hw1⟩
          subst hw1
          have sqb := (d2.cell (p := ⟨gs, q, none⟩) hgs).trans sq
          have hgsb : gs < w1.heap.size := Nat.lt_of_lt_of_le hgs d2.size
          go_wp2_with fail
          refine (unhide HCap2 _).mono ?_; rintro e w1 ⟨rfl, hw1⟩
          subst hw1
          go_wp2_with fail
          refine (unhide HR _ d2).mono ?_; rintro e w4 ⟨rfl, hb4⟩
          have d4 := bT d2 hb4
          clear hb4
          go_wp2
          go_ret
          exact ⟨congrArg (fun z => Ending.returned (.int .i64 z)) (unhide HE).symm, d4⟩
    · have HK : Hid (∀ W, Calls Tryd.prog 43 #[.int .i64 7] W fun e w' => e = .returned (.int .i64 2) ∧ w' = W) := fun W => l3Kids_calls 7 W
      obtain ⟨hL0, hL1⟩ := (unhide HKid).1 (by decide)
      obtain ⟨q, rfl⟩ : ∃ q : Nat, L = (q : Int) := ⟨L.toNat, by omega⟩
      have hq : q < i := by omega
      have HL := hide (fun W (hb : Below w.heap.size w W) => unhide HI q hq calls hc0 hc1 W hb)
      obtain ⟨l0, l1⟩ := unhide HWr q calls hc0 (by omega)
      obtain ⟨hR0, hR1⟩ := (unhide HKid).2 (by decide)
      obtain ⟨j, rfl⟩ : ∃ j : Nat, R = (j : Int) := ⟨R.toNat, by omega⟩
      have hj : j < i := by omega
      have sq := unhide HSl q (by omega)
      have hqn : (q : Int) < (ps.length : Int) := by omega
      obtain ⟨hy0, hy1⟩ := siz_range ts ps (q + 1) q (by omega)
      have hcr : callsR ts ps ⟨7, T, M, Ex, Exs, (q : Int), (j : Int)⟩ calls = capW (calls * siz ts ps q) := by simp [callsR]
      have hp00 : 0 ≤ calls * siz ts ps q := Int.mul_nonneg hc0 hy0
      have hp01 : calls * siz ts ps q ≤ 2001 * 2001 := Int.mul_le_mul hc1 hy1 hy0 (by omega)
      have hwp2 : IntKind.i64.wrap (calls * siz ts ps q) = calls * siz ts ps q := wrap_small _ (by omega) (by omega)
      have HCap2 := hide (fun W => l3Cap_calls (calls * siz ts ps q) W)
      obtain ⟨hx0, hx1⟩ := capW_range hp00
      have HR := hide (fun W (hb : Below w.heap.size w W) => unhide HI j hj (capW (calls * siz ts ps q)) hx0 (by omega) W hb)
      obtain ⟨r0, r1⟩ := unhide HWr j (capW (calls * siz ts ps q)) hx0 (by omega)
      obtain ⟨l, hl⟩ : ∃ l, wrk ts ps q calls = l := ⟨_, rfl⟩
      obtain ⟨r, hr⟩ : ∃ r, wrk ts ps j (capW (calls * siz ts ps q)) = r := ⟨_, rfl⟩
      have hW2 := unhide HW
      rw [if_pos (show (0 : Int) < arity 7 by decide), if_pos (show (1 : Int) < arity 7 by decide), hcr, show ((q : Int)).toNat = q by omega, show ((j : Int)).toNat = j by omega, hl, hr] at hW2
      rw [hl] at HL l0 l1
      rw [hr] at HR r0 r1
      clear HW hl hr hcr HI HWr HKid HSl
      have HW := hide hW2
      clear hW2 hL0 hL1 hR0 hR1
      generalize siz ts ps q = zq at *
      generalize capW (calls * zq) = cc at *
      by_cases hgt : m < l
      · by_cases hgt2 : l < r
        · have HE : Hid (wrk ts ps i calls = r) := by
            show _ = _
            rw [unhide HW]
            omega
          clear HW HM
          go_enter Tryd.func31, Tryd.ntmps31
          go_wp2_with fail
          refine (unhide HCap _).mono ?_; rintro e w1 ⟨rfl, hw1⟩
          subst hw1
          go_wp2_with fail
          refine (unhide HK _).mono ?_; rintro e w1 ⟨rfl, hw1⟩
          subst hw1
          have d0 := bA (bA (Below.refl w.heap.size w) (.cells #[.slice (some ⟨g, 0, none⟩) ps.length cap] 34)) (.cells #[.int .i64 7, .int .i64 T, .int .i64 M, .slice (some ⟨b3, 0, none⟩) Ex.length Ex.length, .slice (some ⟨b4, 0, none⟩) Exs.length Exs.length, .int .i64 (q : Int), .int .i64 (j : Int)] 93)
          have F0 : KF w.heap.size g ps.length cap 7 T M (q : Int) (j : Int) (.bool true) (.bool true) ((w.alloc (.cells #[.slice (some ⟨g, 0, none⟩) ps.length cap] 34)).alloc (.cells #[.int .i64 7, .int .i64 T, .int .i64 M, .slice (some ⟨b3, 0, none⟩) Ex.length Ex.length, .slice (some ⟨b4, 0, none⟩) Exs.length Exs.length, .int .i64 (q : Int), .int .i64 (j : Int)] 93)) := ⟨by simp [go_sem], by simp [go_sem], by simp [go_sem], by simp [go_sem], by simp⟩
          go_wp2_with fail
          refine (unhide HL _ d0).mono ?_; rintro e w2 ⟨rfl, hb2⟩
          have d2 := bT d0 hb2
          have F2 := F0.of hb2
          clear hb2 F0 d0
          obtain ⟨fp, fk, fl, fr, fs⟩ := id F2
          have fs0 : w.heap.size < w2.heap.size := by omega
          go_wp2_with fail
          refine (unhide HK _).mono ?_; rintro e w1 ⟨rfl, hw1⟩
          subst hw1
          have sqb := (d2.cell (p := ⟨gs, q, none⟩) hgs).trans sq
          have hgsb : gs < w1.heap.size := Nat.lt_of_lt_of_le hgs d2.size
          go_wp2_with fail
          refine (unhide HCap2 _).mono ?_; rintro e w1 ⟨rfl, hw1⟩
          subst hw1
          go_wp2_with fail
          refine (unhide HR _ d2).mono ?_; rintro e w4 ⟨rfl, hb4⟩
          have d4 := bT d2 hb4
          clear hb4
          go_wp2
          go_ret
          exact ⟨congrArg (fun z => Ending.returned (.int .i64 z)) (unhide HE).symm, d4⟩
        · have hle2 : ¬ l < r := hgt2
          have HE : Hid (wrk ts ps i calls = l) := by
            show _ = _
            rw [unhide HW]
            omega
          clear HW HM
          go_enter Tryd.func31, Tryd.ntmps31
          go_wp2_with fail
          refine (unhide HCap _).mono ?_; rintro e w1 ⟨rfl, hw1⟩
          subst hw1
          go_wp2_with fail
          refine (unhide HK _).mono ?_; rintro e w1 ⟨rfl, hw1⟩
          subst hw1
          have d0 := bA (bA (Below.refl w.heap.size w) (.cells #[.slice (some ⟨g, 0, none⟩) ps.length cap] 34)) (.cells #[.int .i64 7, .int .i64 T, .int .i64 M, .slice (some ⟨b3, 0, none⟩) Ex.length Ex.length, .slice (some ⟨b4, 0, none⟩) Exs.length Exs.length, .int .i64 (q : Int), .int .i64 (j : Int)] 93)
          have F0 : KF w.heap.size g ps.length cap 7 T M (q : Int) (j : Int) (.bool true) (.bool true) ((w.alloc (.cells #[.slice (some ⟨g, 0, none⟩) ps.length cap] 34)).alloc (.cells #[.int .i64 7, .int .i64 T, .int .i64 M, .slice (some ⟨b3, 0, none⟩) Ex.length Ex.length, .slice (some ⟨b4, 0, none⟩) Exs.length Exs.length, .int .i64 (q : Int), .int .i64 (j : Int)] 93)) := ⟨by simp [go_sem], by simp [go_sem], by simp [go_sem], by simp [go_sem], by simp⟩
          go_wp2_with fail
          refine (unhide HL _ d0).mono ?_; rintro e w2 ⟨rfl, hb2⟩
          have d2 := bT d0 hb2
          have F2 := F0.of hb2
          clear hb2 F0 d0
          obtain ⟨fp, fk, fl, fr, fs⟩ := id F2
          have fs0 : w.heap.size < w2.heap.size := by omega
          go_wp2_with fail
          refine (unhide HK _).mono ?_; rintro e w1 ⟨rfl, hw1⟩
          subst hw1
          have sqb := (d2.cell (p := ⟨gs, q, none⟩) hgs).trans sq
          have hgsb : gs < w1.heap.size := Nat.lt_of_lt_of_le hgs d2.size
          go_wp2_with fail
          refine (unhide HCap2 _).mono ?_; rintro e w1 ⟨rfl, hw1⟩
          subst hw1
          go_wp2_with fail
          refine (unhide HR _ d2).mono ?_; rintro e w4 ⟨rfl, hb4⟩
          have d4 := bT d2 hb4
          clear hb4
          go_wp2
          go_ret
          exact ⟨congrArg (fun z => Ending.returned (.int .i64 z)) (unhide HE).symm, d4⟩
      · have hle : ¬ m < l := hgt
        by_cases hgt2 : m < r
        · have HE : Hid (wrk ts ps i calls = r) := by
            show _ = _
            rw [unhide HW]
            omega
          clear HW HM
          go_enter Tryd.func31, Tryd.ntmps31
          go_wp2_with fail
          refine (unhide HCap _).mono ?_; rintro e w1 ⟨rfl, hw1⟩
          subst hw1
          go_wp2_with fail
          refine (unhide HK _).mono ?_; rintro e w1 ⟨rfl, hw1⟩
          subst hw1
          have d0 := bA (bA (Below.refl w.heap.size w) (.cells #[.slice (some ⟨g, 0, none⟩) ps.length cap] 34)) (.cells #[.int .i64 7, .int .i64 T, .int .i64 M, .slice (some ⟨b3, 0, none⟩) Ex.length Ex.length, .slice (some ⟨b4, 0, none⟩) Exs.length Exs.length, .int .i64 (q : Int), .int .i64 (j : Int)] 93)
          have F0 : KF w.heap.size g ps.length cap 7 T M (q : Int) (j : Int) (.bool true) (.bool true) ((w.alloc (.cells #[.slice (some ⟨g, 0, none⟩) ps.length cap] 34)).alloc (.cells #[.int .i64 7, .int .i64 T, .int .i64 M, .slice (some ⟨b3, 0, none⟩) Ex.length Ex.length, .slice (some ⟨b4, 0, none⟩) Exs.length Exs.length, .int .i64 (q : Int), .int .i64 (j : Int)] 93)) := ⟨by simp [go_sem], by simp [go_sem], by simp [go_sem], by simp [go_sem], by simp⟩
          go_wp2_with fail
          refine (unhide HL _ d0).mono ?_; rintro e w2 ⟨rfl, hb2⟩
          have d2 := bT d0 hb2
          have F2 := F0.of hb2
          clear hb2 F0 d0
          obtain ⟨fp, fk, fl, fr, fs⟩ := id F2
          have fs0 : w.heap.size < w2.heap.size := by omega
          go_wp2_with fail
          refine (unhide HK _).mono ?_; rintro e w1 ⟨rfl, hw1⟩
          subst hw1
          have sqb := (d2.cell (p := ⟨gs, q, none⟩) hgs).trans sq
          have hgsb : gs < w1.heap.size := Nat.lt_of_lt_of_le hgs d2.size
          go_wp2_with fail
          refine (unhide HCap2 _).mono ?_; rintro e w1 ⟨rfl, hw1⟩
          subst hw1
          go_wp2_with fail
          refine (unhide HR _ d2).mono ?_; rintro e w4 ⟨rfl, hb4⟩
          have d4 := bT d2 hb4
          clear hb4
          go_wp2
          go_ret
          exact ⟨congrArg (fun z => Ending.returned (.int .i64 z)) (unhide HE).symm, d4⟩
        · have hle2 : ¬ m < r := hgt2
          have HE : Hid (wrk ts ps i calls = m) := by
            show _ = _
            rw [unhide HW]
            omega
          clear HW HM
          go_enter Tryd.func31, Tryd.ntmps31
          go_wp2_with fail
          refine (unhide HCap _).mono ?_; rintro e w1 ⟨rfl, hw1⟩
          subst hw1
          go_wp2_with fail
          refine (unhide HK _).mono ?_; rintro e w1 ⟨rfl, hw1⟩
          subst hw1
          have d0 := bA (bA (Below.refl w.heap.size w) (.cells #[.slice (some ⟨g, 0, none⟩) ps.length cap] 34)) (.cells #[.int .i64 7, .int .i64 T, .int .i64 M, .slice (some ⟨b3, 0, none⟩) Ex.length Ex.length, .slice (some ⟨b4, 0, none⟩) Exs.length Exs.length, .int .i64 (q : Int), .int .i64 (j : Int)] 93)
          have F0 : KF w.heap.size g ps.length cap 7 T M (q : Int) (j : Int) (.bool true) (.bool true) ((w.alloc (.cells #[.slice (some ⟨g, 0, none⟩) ps.length cap] 34)).alloc (.cells #[.int .i64 7, .int .i64 T, .int .i64 M, .slice (some ⟨b3, 0, none⟩) Ex.length Ex.length, .slice (some ⟨b4, 0, none⟩) Exs.length Exs.length, .int .i64 (q : Int), .int .i64 (j : Int)] 93)) := ⟨by simp [go_sem], by simp [go_sem], by simp [go_sem], by simp [go_sem], by simp⟩
          go_wp2_with fail
          refine (unhide HL _ d0).mono ?_; rintro e w2 ⟨rfl, hb2⟩
          have d2 := bT d0 hb2
          have F2 := F0.of hb2
          clear hb2 F0 d0
          obtain ⟨fp, fk, fl, fr, fs⟩ := id F2
          have fs0 : w.heap.size < w2.heap.size := by omega
          go_wp2_with fail
          refine (unhide HK _).mono ?_; rintro e w1 ⟨rfl, hw1⟩
          subst hw1
          have sqb := (d2.cell (p := ⟨gs, q, none⟩) hgs).trans sq
          have hgsb : gs < w1.heap.size := Nat.lt_of_lt_of_le hgs d2.size
          go_wp2_with fail
          refine (unhide HCap2 _).mono ?_; rintro e w1 ⟨rfl, hw1⟩
          subst hw1
          go_wp2_with fail
          refine (unhide HR _ d2).mono ?_; rintro e w4 ⟨rfl, hb4⟩
          have d4 := bT d2 hb4
          clear hb4
          go_wp2
          go_ret
          exact ⟨congrArg (fun z => Ending.returned (.int .i64 z)) (unhide HE).symm, d4⟩
    · have HK : Hid (∀ W, Calls Tryd.prog 43 #[.int .i64 8] W fun e w' => e = .returned (.int .i64 2) ∧ w' = W) := fun W => l3Kids_calls 8 W
      obtain ⟨hL0, hL1⟩ := (unhide HKid).1 (by decide)
      obtain ⟨q, rfl⟩ : ∃ q : Nat, L = (q : Int) := ⟨L.toNat, by omega⟩
      have hq : q < i := by omega
      have HL := hide (fun W (hb : Below w.heap.size w W) => unhide HI q hq calls hc0 hc1 W hb)
      obtain ⟨l0, l1⟩ := unhide HWr q calls hc0 (by omega)
      obtain ⟨hR0, hR1⟩ := (unhide HKid).2 (by decide)
      obtain ⟨j, rfl⟩ : ∃ j : Nat, R = (j : Int) := ⟨R.toNat, by omega⟩
      have hj : j < i := by omega
      have sq := unhide HSl q (by omega)
      have hqn : (q : Int) < (ps.length : Int) := by omega
      obtain ⟨hy0, hy1⟩ := siz_range ts ps (q + 1) q (by omega)
      have hcr : callsR ts ps ⟨8, T, M, Ex, Exs, (q : Int), (j : Int)⟩ calls = capW (calls * siz ts ps q) := by simp [callsR]
      have hp00 : 0 ≤ calls * siz ts ps q := Int.mul_nonneg hc0 hy0
      have hp01 : calls * siz ts ps q ≤ 2001 * 2001 := Int.mul_le_mul hc1 hy1 hy0 (by omega)
      have hwp2 : IntKind.i64.wrap (calls * siz ts ps q) = calls * siz ts ps q := wrap_small _ (by omega) (by omega)
      have HCap2 := hide (fun W => l3Cap_calls (calls * siz ts ps q) W)
      obtain ⟨hx0, hx1⟩ := capW_range hp00
      have HR := hide (fun W (hb : Below w.heap.size w W) => unhide HI j hj (capW (calls * siz ts ps q)) hx0 (by omega) W hb)
      obtain ⟨r0, r1⟩ := unhide HWr j (capW (calls * siz ts ps q)) hx0 (by omega)
      obtain ⟨l, hl⟩ : ∃ l, wrk ts ps q calls = l := ⟨_, rfl⟩
      obtain ⟨r, hr⟩ : ∃ r, wrk ts ps j (capW (calls * siz ts ps q)) = r := ⟨_, rfl⟩
      have hW2 := unhide HW
      rw [if_pos (show (0 : Int) < arity 8 by decide), if_pos (show (1 : Int) < arity 8 by decide), hcr, show ((q : Int)).toNat = q by omega, show ((j : Int)).toNat = j by omega, hl, hr] at hW2
      rw [hl] at HL l0 l1
      rw [hr] at HR r0 r1
      clear HW hl hr hcr HI HWr HKid HSl
      have HW := hide hW2
      clear hW2 hL0 hL1 hR0 hR1
      generalize siz ts ps q = zq at *
      generalize capW (calls * zq) = cc at *
      by_cases hgt : m < l
      · by_cases hgt2 : l < r
        · have HE : Hid (wrk ts ps i calls = r) := by
            show _ = _
            rw [unhide HW]
            omega
          clear HW HM
          go_enter Tryd.func31, Tryd.ntmps31
          go_wp2_with fail
          refine (unhide HCap _).mono ?_; rintro e w1 ⟨rfl, hw1⟩
          subst hw1
          go_wp2_with fail
          refine (unhide HK _).mono ?_; rintro e w1 ⟨rfl, hw1⟩
          subst hw1
          have d0 := bA (bA (Below.refl w.heap.size w) (.cells #[.slice (some ⟨g, 0, none⟩) ps.length cap] 34)) (.cells #[.int .i64 8, .int .i64 T, .int .i64 M, .slice (some ⟨b3, 0, none⟩) Ex.length Ex.length, .slice (some ⟨b4, 0, none⟩) Exs.length Exs.length, .int .i64 (q : Int), .int .i64 (j : Int)] 93)
          have F0 : KF w.heap.size g ps.length cap 8 T M (q : Int) (j : Int) (.bool true) (.bool true) ((w.alloc (.cells #[.slice (some ⟨g, 0, none⟩) ps.length cap] 34)).alloc (.cells #[.int .i64 8, .int .i64 T, .int .i64 M, .slice (some ⟨b3, 0, none⟩) Ex.length Ex.length, .slice (some ⟨b4, 0, none⟩) Exs.length Exs.length, .int .i64 (q : Int), .int .i64 (j : Int)] 93)) := ⟨by simp [go_sem], by simp [go_sem], by simp [go_sem], by simp [go_sem], by simp⟩
          go_wp2_with fail
          refine (unhide HL _ d0).mono ?_; rintro e w2 ⟨rfl, hb2⟩
          have d2 := bT d0 hb2
          have F2 := F0.of hb2
          clear hb2 F0 d0
          obtain ⟨fp, fk, fl, fr, fs⟩ := id F2
          have fs0 : w.heap.size < w2.heap.size := by omega
          go_wp2_with fail
          refine (unhide HK _).mono ?_; rintro e w1 ⟨rfl, hw1⟩
          subst hw1
          have sqb := (d2.cell (p := ⟨gs, q, none⟩) hgs).trans sq
          have hgsb : gs < w1.heap.size := Nat.lt_of_lt_of_le hgs d2.size
          go_wp2_with fail
          refine (unhide HCap2 _).mono ?_; rintro e w1 ⟨rfl, hw1⟩
          subst hw1
          go_wp2_with fail
          refine (unhide HR _ d2).mono ?_; rintro e w4 ⟨rfl, hb4⟩
          have d4 := bT d2 hb4
          clear hb4
          go_wp2
          go_ret
          exact ⟨congrArg (fun z => Ending.returned (.int .i64 z)) (unhide HE).symm, d4⟩
        · have hle2 : ¬ l < r := hgt2
          have HE : Hid (wrk ts ps i calls = l) := by
            show _ = _
            rw [unhide HW]
            omega
          clear HW HM
          go_enter Tryd.func31, Tryd.ntmps31
          go_wp2_with fail
          refine (unhide HCap _).mono ?_; rintro e w1 ⟨rfl, hw1⟩
          subst hw1
          go_wp2_with fail
          refine (unhide HK _).mono ?_; rintro e w1 ⟨rfl, hw1⟩
          subst hw1
          have d0 := bA (bA (Below.refl w.heap.size w) (.cells #[.slice (some ⟨g, 0, none⟩) ps.length cap] 34)) (.cells #[.int .i64 8, .int .i64 T, .int .i64 M, .slice (some ⟨b3, 0, none⟩) Ex.length Ex.length, .slice (some ⟨b4, 0, none⟩) Exs.length Exs.length, .int .i64 (q : Int), .int .i64 (j : Int)] 93)
          have F0 : KF w.heap.size g ps.length cap 8 T M (q : Int) (j : Int) (.bool true) (.bool true) ((w.alloc (.cells #[.slice (some ⟨g, 0, none⟩) ps.length cap] 34)).alloc (.cells #[.int .i64 8, .int .i64 T, .int .i64 M, .slice (some ⟨b3, 0, none⟩) Ex.length Ex.length, .slice (some ⟨b4, 0, none⟩) Exs.length Exs.length, .int .i64 (q : Int), .int .i64 (j : Int)] 93)) := ⟨by simp [go_sem], by simp [go_sem], by simp [go_sem], by simp [go_sem], by simp⟩
          go_wp2_with fail
          refine (unhide HL _ d0).mono ?_; rintro e w2 ⟨rfl, hb2⟩
          have d2 := bT d0 hb2
          have F2 := F0.of hb2
          clear hb2 F0 d0
          obtain ⟨fp, fk, fl, fr, fs⟩ := id F2
          have fs0 : w.heap.size < w2.heap.size := by omega
          go_wp2_with fail
          refine (unhide HK _).mono ?_; rintro e w1 ⟨rfl, hw1⟩
          subst hw1
          have sqb := (d2.cell (p := ⟨gs, q, none⟩) hgs).trans sq
          have hgsb : gs < w1.heap.size := Nat.lt_of_lt_of_le hgs d2.size
          go_wp2_with fail
          refine (unhide HCap2 _).mono ?_; rintro e w1 ⟨rfl, hw1⟩
          subst hw1
          go_wp2_with fail
          refine (unhide HR _ d2).mono ?_; rintro e w4 ⟨rfl, hb4⟩
          have d4 := bT d2 hb4
          clear hb4
          go_wp2
          go_ret
          exact ⟨congrArg (fun z => Ending.returned (.int .i64 z)) (unhide HE).symm, d4⟩
      · have hle : ¬ m < l := hgt
        by_cases hgt2 : m < r
        · have HE : Hid (wrk ts ps i calls = r) := by
            show _ = _
            rw [unhide HW]
            omega
          clear HW HM
          go_enter Tryd.func31, Tryd.ntmps31
          go_wp2_with fail
          refine (unhide HCap _).mono ?_; rintro e w1 ⟨rfl, hw1⟩
          subst hw1
          go_wp2_with fail
          refine (unhide HK _).mono ?_; rintro e w1 ⟨rfl, hw1⟩
          subst hw1
          have d0 := bA (bA (Below.refl w.heap.size w) (.cells #[.slice (some ⟨g, 0, none⟩) ps.length cap] 34)) (.cells #[.int .i64 8, .int .i64 T, .int .i64 M, .slice (some ⟨b3, 0, none⟩) Ex.length Ex.length, .slice (some ⟨b4, 0, none⟩) Exs.length Exs.length, .int .i64 (q : Int), .int .i64 (j : Int)] 93)
          have F0 : KF w.heap.size g ps.length cap 8 T M (q : Int) (j : Int) (.bool true) (.bool true) ((w.alloc (.cells #[.slice (some ⟨g, 0, none⟩) ps.length cap] 34)).alloc (.cells #[.int .i64 8, .int .i64 T, .int .i64 M, .slice (some ⟨b3, 0, none⟩) Ex.length Ex.length, .slice (some ⟨b4, 0, none⟩) Exs.length Exs.length, .int .i64 (q : Int), .int .i64 (j : Int)] 93)) := ⟨by simp [go_sem], by simp [go_sem], by simp [go_sem], by simp [go_sem], by simp⟩
          go_wp2_with fail
          refine (unhide HL _ d0).mono ?_; rintro e w2 ⟨rfl, hb2⟩
          have d2 := bT d0 hb2
          have F2 := F0.of hb2
          clear hb2 F0 d0
          obtain ⟨fp, fk, fl, fr, fs⟩ := id F2
          have fs0 : w.heap.size < w2.heap.size := by omega
          go_wp2_with fail
          refine (unhide HK _).mono ?_; rintro e w1 ⟨rfl, hw1⟩
          subst hw1
          have sqb := (d2.cell (p := ⟨gs, q, none⟩) hgs).trans sq
          have hgsb : gs < w1.heap.size := Nat.lt_of_lt_of_le hgs d2.size
          go_wp2_with fail
          refine (unhide HCap2 _).mono ?_; rintro e w1 ⟨rfl, hw1⟩
          subst hw1
          go_wp2_with fail
          refine (unhide HR _ d2).mono ?_; rintro e w4 ⟨rfl, hb4⟩
          have d4 := bT d2 hb4
          clear hb4
          go_wp2
          go_ret
          exact ⟨congrArg (fun z => Ending.returned (.int .i64 z)) (unhide HE).symm, d4⟩
        · have hle2 : ¬ m < r := hgt2
          have HE : Hid (wrk ts ps i calls = m) := by
            show _ = _
            rw [unhide HW]
            omega
          clear HW HM
          go_enter Tryd.func31, Tryd.ntmps31
          go_wp2_with fail
          refine (unhide HCap _).mono ?_; rintro e w1 ⟨rfl, hw1⟩
          subst hw1
          go_wp2_with fail
          refine (unhide HK _).mono ?_; rintro e w1 ⟨rfl, hw1⟩
          subst hw1
          have d0 := bA (bA (Below.refl w.heap.size w) (.cells #[.slice (some ⟨g, 0, none⟩) ps.length cap] 34)) (.cells #[.int .i64 8, .int .i64 T, .int .i64 M, .slice (some ⟨b3, 0, none⟩) Ex.length Ex.length, .slice (some ⟨b4, 0, none⟩) Exs.length Exs.length, .int .i64 (q : Int), .int .i64 (j : Int)] 93)
          have F0 : KF w.heap.size g ps.length cap 8 T M (q : Int) (j : Int) (.bool true) (.bool true) ((w.alloc (.cells #[.slice (some ⟨g, 0, none⟩) ps.length cap] 34)).alloc (.cells #[.int .i64 8, .int .i64 T, .int .i64 M, .slice (some ⟨b3, 0, none⟩) Ex.length Ex.length, .slice (some ⟨b4, 0, none⟩) Exs.length Exs.length, .int .i64 (q : Int), .int .i64 (j : Int)] 93)) := ⟨by simp [go_sem], by simp [go_sem], by simp [go_sem], by simp [go_sem], by simp⟩
          go_wp2_with fail
          refine (unhide HL _ d0).mono ?_; rintro e w2 ⟨rfl, hb2⟩
          have d2 := bT d0 hb2
          have F2 := F0.of hb2
          clear hb2 F0 d0
          obtain ⟨fp, fk, fl, fr, fs⟩ := id F2
          have fs0 : w.heap.size < w2.heap.size := by omega
          go_wp2_with fail
          refine (unhide HK _).mono ?_; rintro e w1 ⟨rfl, hw1⟩
          subst hw1
          have sqb := (d2.cell (p := ⟨gs, q, none⟩) hgs).trans sq
          have hgsb : gs < w1.heap.size := Nat.lt_of_lt_of_le hgs d2.size
          go_wp2_with fail
          refine (unhide HCap2 _).mono ?_; rintro e w1 ⟨rfl, hw1⟩
          subst hw1
          go_wp2_with fail
          refine (unhide HR _ d2).mono ?_; rintro e w4 ⟨rfl, hb4⟩
          have d4 := bT d2 hb4
          clear hb4
          go_wp2
          go_ret
          exact ⟨congrArg (fun z => Ending.returned (.int .i64 z)) (unhide HE).symm, d4⟩
    · have HK : Hid (∀ W, Calls Tryd.prog 43 #[.int .i64 9] W fun e w' => e = .returned (.int .i64 1) ∧ w' = W) := fun W => l3Kids_calls 9 W
      obtain ⟨hL0, hL1⟩ := (unhide HKid).1 (by decide)
      obtain ⟨q, rfl⟩ : ∃ q : Nat, L = (q : Int) := ⟨L.toNat, by omega⟩
      have hq : q < i := by omega
      have HL := hide (fun W (hb : Below w.heap.size w W) => unhide HI q hq calls hc0 hc1 W hb)
      obtain ⟨l0, l1⟩ := unhide HWr q calls hc0 (by omega)
      clear HI HWr HKid HSl
      have HL0 := HW
      obtain ⟨l, hl⟩ : ∃ l, wrk ts ps q calls = l := ⟨_, rfl⟩
      have hW2 := unhide HW
      rw [show ((q : Int)).toNat = q by omega, hl] at hW2
      rw [hl] at HL l0 l1
      clear HW hl
      have HW := hide hW2
      clear hW2 hL0 hL1
      by_cases hgt : m < l
      · have HE : Hid (wrk ts ps i calls = l) := by
          show _ = _
          rw [unhide HW]
          simp only [arity]
          simp
          omega
        clear HW HM HL0
        go_enter Tryd.func31, Tryd.ntmps31
        go_wp2_with fail
        refine (unhide HCap _).mono ?_; rintro e w1 ⟨rfl, hw1⟩
        subst hw1
        go_wp2_with fail
        refine (unhide HK _).mono ?_; rintro e w1 ⟨rfl, hw1⟩
        subst hw1
        have d0 := bA (bA (Below.refl w.heap.size w) (.cells #[.slice (some ⟨g, 0, none⟩) ps.length cap] 34)) (.cells #[.int .i64 9, .int .i64 T, .int .i64 M, .slice (some ⟨b3, 0, none⟩) Ex.length Ex.length, .slice (some ⟨b4, 0, none⟩) Exs.length Exs.length, .int .i64 (q : Int), .int .i64 R] 93)
        have F0 : KF w.heap.size g ps.length cap 9 T M (q : Int) R (.bool true) (.bool true) ((w.alloc (.cells #[.slice (some ⟨g, 0, none⟩) ps.length cap] 34)).alloc (.cells #[.int .i64 9, .int .i64 T, .int .i64 M, .slice (some ⟨b3, 0, none⟩) Ex.length Ex.length, .slice (some ⟨b4, 0, none⟩) Exs.length Exs.length, .int .i64 (q : Int), .int .i64 R] 93)) := ⟨by simp [go_sem], by simp [go_sem], by simp [go_sem], by simp [go_sem], by simp⟩
        go_wp2_with fail
        refine (unhide HL _ d0).mono ?_; rintro e w2 ⟨rfl, hb2⟩
        have d2 := bT d0 hb2
        have F2 := F0.of hb2
        clear hb2 F0 d0
        obtain ⟨fp, fk, fl, fr, fs⟩ := id F2
        have fs0 : w.heap.size < w2.heap.size := by omega
        go_wp2_with fail
        refine (unhide HK _).mono ?_; rintro e w1 ⟨rfl, hw1⟩
        subst hw1
        go_wp2
        go_ret
        exact ⟨congrArg (fun z => Ending.returned (.int .i64 z)) (unhide HE).symm, d2⟩
      · have hle : ¬ m < l := hgt
        have HE : Hid (wrk ts ps i calls = m) := by
          show _ = _
          rw [unhide HW]
          simp only [arity]
          simp
          omega
        clear HW HM HL0
        go_enter Tryd.func31, Tryd.ntmps31
        go_wp2_with fail
        refine (unhide HCap _).mono ?_; rintro e w1 ⟨rfl, hw1⟩
        subst hw1
        go_wp2_with fail
        refine (unhide HK _).mono ?_; rintro e w1 ⟨rfl, hw1⟩
        subst hw1
        have d0 := bA (bA (Below.refl w.heap.size w) (.cells #[.slice (some ⟨g, 0, none⟩) ps.length cap] 34)) (.cells #[.int .i64 9, .int .i64 T, .int .i64 M, .slice (some ⟨b3, 0, none⟩) Ex.length Ex.length, .slice (some ⟨b4, 0, none⟩) Exs.length Exs.length, .int .i64 (q : Int), .int .i64 R] 93)
        have F0 : KF w.heap.size g ps.length cap 9 T M (q : Int) R (.bool true) (.bool true) ((w.alloc (.cells #[.slice (some ⟨g, 0, none⟩) ps.length cap] 34)).alloc (.cells #[.int .i64 9, .int .i64 T, .int .i64 M, .slice (some ⟨b3, 0, none⟩) Ex.length Ex.length, .slice (some ⟨b4, 0, none⟩) Exs.length Exs.length, .int .i64 (q : Int), .int .i64 R] 93)) := ⟨by simp [go_sem], by simp [go_sem], by simp [go_sem], by simp [go_sem], by simp⟩
        go_wp2_with fail
        refine (unhide HL _ d0).mono ?_; rintro e w2 ⟨rfl, hb2⟩
        have d2 := bT d0 hb2
        have F2 := F0.of hb2
        clear hb2 F0 d0
        obtain ⟨fp, fk, fl, fr, fs⟩ := id F2
        have fs0 : w.heap.size < w2.heap.size := by omega
        go_wp2_with fail
        refine (unhide HK _).mono ?_; rintro e w1 ⟨rfl, hw1⟩
        subst hw1
        go_wp2
        go_ret
        exact ⟨congrArg (fun z => Ending.returned (.int .i64 z)) (unhide HE).symm, d2⟩
    · have HK : Hid (∀ W, Calls Tryd.prog 43 #[.int .i64 10] W fun e w' => e = .returned (.int .i64 2) ∧ w' = W) := fun W => l3Kids_calls 10 W
      obtain ⟨hL0, hL1⟩ := (unhide HKid).1 (by decide)
      obtain ⟨q, rfl⟩ : ∃ q : Nat, L = (q : Int) := ⟨L.toNat, by omega⟩
      have hq : q < i := by omega
      have HL := hide (fun W (hb : Below w.heap.size w W) => unhide HI q hq calls hc0 hc1 W hb)
      obtain ⟨l0, l1⟩ := unhide HWr q calls hc0 (by omega)
      obtain ⟨hR0, hR1⟩ := (unhide HKid).2 (by decide)
      obtain ⟨j, rfl⟩ : ∃ j : Nat, R = (j : Int) := ⟨R.toNat, by omega⟩
      have hj : j < i := by omega
      have hcr : callsR ts ps ⟨10, T, M, Ex, Exs, (q : Int), (j : Int)⟩ calls = calls := by simp [callsR]
      have HR := hide (fun W (hb : Below w.heap.size w W) => unhide HI j hj calls hc0 hc1 W hb)
      obtain ⟨r0, r1⟩ := unhide HWr j calls hc0 (by omega)
      obtain ⟨l, hl⟩ : ∃ l, wrk ts ps q calls = l := ⟨_, rfl⟩
      obtain ⟨r, hr⟩ : ∃ r, wrk ts ps j (calls) = r := ⟨_, rfl⟩
      have hW2 := unhide HW
      rw [if_pos (show (0 : Int) < arity 10 by decide), if_pos (show (1 : Int) < arity 10 by decide), hcr, show ((q : Int)).toNat = q by omega, show ((j : Int)).toNat = j by omega, hl, hr] at hW2
      rw [hl] at HL l0 l1
      rw [hr] at HR r0 r1
      clear HW hl hr hcr HI HWr HKid HSl
      have HW := hide hW2
      clear hW2 hL0 hL1 hR0 hR1
      by_cases hgt : m < l
      · by_cases hgt2 : l < r
        · have HE : Hid (wrk ts ps i calls = r) := by
            show _ = _
            rw [unhide HW]
            omega
          clear HW HM
          go_enter Tryd.func31, Tryd.ntmps31
          go_wp2_with fail
          refine (unhide HCap _).mono ?_; rintro e w1 ⟨rfl, hw1⟩
          subst hw1
          go_wp2_with fail
          refine (unhide HK _).mono ?_; rintro e w1 ⟨rfl, hw1⟩
          subst hw1
          have d0 := bA (bA (Below.refl w.heap.size w) (.cells #[.slice (some ⟨g, 0, none⟩) ps.length cap] 34)) (.cells #[.int .i64 10, .int .i64 T, .int .i64 M, .slice (some ⟨b3, 0, none⟩) Ex.length Ex.length, .slice (some ⟨b4, 0, none⟩) Exs.length Exs.length, .int .i64 (q : Int), .int .i64 (j : Int)] 93)
          have F0 : KF w.heap.size g ps.length cap 10 T M (q : Int) (j : Int) (.bool true) (.bool true) ((w.alloc (.cells #[.slice (some ⟨g, 0, none⟩) ps.length cap] 34)).alloc (.cells #[.int .i64 10, .int .i64 T, .int .i64 M, .slice (some ⟨b3, 0, none⟩) Ex.length Ex.length, .slice (some ⟨b4, 0, none⟩) Exs.length Exs.length, .int .i64 (q : Int), .int .i64 (j : Int)] 93)) := ⟨by simp [go_sem], by simp [go_sem], by simp [go_sem], by simp [go_sem], by simp⟩
          go_wp2_with fail
          refine (unhide HL _ d0).mono ?_; rintro e w2 ⟨rfl, hb2⟩
          have d2 := bT d0 hb2
          have F2 := F0.of hb2
          clear hb2 F0 d0
          obtain ⟨fp, fk, fl, fr, fs⟩ := id F2
          have fs0 : w.heap.size < w2.heap.size := by omega
          go_wp2_with fail
          refine (unhide HK _).mono ?_; rintro e w1 ⟨rfl, hw1⟩
          subst hw1
          go_wp2_with fail
          refine (unhide HR _ d2).mono ?_; rintro e w4 ⟨rfl, hb4⟩
          have d4 := bT d2 hb4
          clear hb4
          go_wp2
          go_ret
          exact ⟨congrArg (fun z => Ending.returned (.int .i64 z)) (unhide HE).symm, d4⟩
        · have hle2 : ¬ l < r := hgt2
          have HE : Hid (wrk ts ps i calls = l) := by
            show _ = _
            rw [unhide HW]
            omega
          clear HW HM
          go_enter Tryd.func31, Tryd.ntmps31
          go_wp2_with fail
          refine (unhide HCap _).mono ?_; rintro e w1 ⟨rfl, hw1⟩
          subst hw1
          go_wp2_with fail
          refine (unhide HK _).mono ?_; rintro e w1 ⟨rfl, hw1⟩
          subst hw1
          have d0 := bA (bA (Below.refl w.heap.size w) (.cells #[.slice (some ⟨g, 0, none⟩) ps.length cap] 34)) (.cells #[.int .i64 10, .int .i64 T, .int .i64 M, .slice (some ⟨b3, 0, none⟩) Ex.length Ex.length, .slice (some ⟨b4, 0, none⟩) Exs.length Exs.length, .int .i64 (q : Int), .int .i64 (j : Int)] 93)
          have F0 : KF w.heap.size g ps.length cap 10 T M (q : Int) (j : Int) (.bool true) (.bool true) ((w.alloc (.cells #[.slice (some ⟨g, 0, none⟩) ps.length cap] 34)).alloc (.cells #[.int .i64 10, .int .i64 T, .int .i64 M, .slice (some ⟨b3, 0, none⟩) Ex.length Ex.length, .slice (some ⟨b4, 0, none⟩) Exs.length Exs.length, .int .i64 (q : Int), .int .i64 (j : Int)] 93)) := ⟨by simp [go_sem], by simp [go_sem], by simp [go_sem], by simp [go_sem], by simp⟩
          go_wp2_with fail
          refine (unhide HL _ d0).mono ?_; rintro e w2 ⟨rfl, hb2⟩
          have d2 := bT d0 hb2
          have F2 := F0.of hb2
          clear hb2 F0 d0
          obtain ⟨fp, fk, fl, fr, fs⟩ := id F2
          have fs0 : w.heap.size < w2.heap.size := by omega
          go_wp2_with fail
          refine (unhide HK _).mono ?_; rintro e w1 ⟨rfl, hw1⟩
          subst hw1
          go_wp2_with fail
          refine (unhide HR _ d2).mono ?_; rintro e w4 ⟨rfl, hb4⟩
          have d4 := bT d2 hb4
          clear hb4
          go_wp2
          go_ret
          exact ⟨congrArg (fun z => Ending.returned (.int .i64 z)) (unhide HE).symm, d4⟩
      · have hle : ¬ m < l := hgt
        by_cases hgt2 : m < r
        · have HE : Hid (wrk ts ps i calls = r) := by
            show _ = _
            rw [unhide HW]
            omega
          clear HW HM
          go_enter Tryd.func31, Tryd.ntmps31
          go_wp2_with fail
          refine (unhide HCap _).mono ?_; rintro e w1 ⟨rfl, hw1⟩
          subst hw1
          go_wp2_with fail
          refine (unhide HK _).mono ?_; rintro e w1 ⟨rfl, hw1⟩
          subst hw1
          have d0 := bA (bA (Below.refl w.heap.size w) (.cells #[.slice (some ⟨g, 0, none⟩) ps.length cap] 34)) (.cells #[.int .i64 10, .int .i64 T, .int .i64 M, .slice (some ⟨b3, 0, none⟩) Ex.length Ex.length, .slice (some ⟨b4, 0, none⟩) Exs.length Exs.length, .int .i64 (q : Int), .int .i64 (j : Int)] 93)
          have F0 : KF w.heap.size g ps.length cap 10 T M (q : Int) (j : Int) (.bool true) (.bool true) ((w.alloc (.cells #[.slice (some ⟨g, 0, none⟩) ps.length cap] 34)).alloc (.cells #[.int .i64 10, .int .i64 T, .int .i64 M, .slice (some ⟨b3, 0, none⟩) Ex.length Ex.length, .slice (some ⟨b4, 0, none⟩) Exs.length Exs.length, .int .i64 (q : Int), .int .i64 (j : Int)] 93)) := ⟨by simp [go_sem], by simp [go_sem], by simp [go_sem], by simp [go_sem], by simp⟩
          go_wp2_with fail
          refine (unhide HL _ d0).mono ?_; rintro e w2 ⟨rfl, hb2⟩
          have d2 := bT d0 hb2
          have F2 := F0.of hb2
          clear hb2 F0 d0
          obtain ⟨fp, fk, fl, fr, fs⟩ := id F2
          have fs0 : w.heap.size < w2.heap.size := by omega
          go_wp2_with fail
          refine (unhide HK _).mono ?_; rintro e w1 ⟨rfl, hw1⟩
          subst hw1
          go_wp2_with fail
          refine (unhide HR _ d2).mono ?_; rintro e w4 ⟨rfl, hb4⟩
          have d4 := bT d2 hb4
          clear hb4
          go_wp2
          go_ret
          exact ⟨congrArg (fun z => Ending.returned (.int .i64 z)) (unhide HE).symm, d4⟩
        · have hle2 : ¬ m < r := hgt2
          have HE : Hid (wrk ts ps i calls = m) := by
            show _ = _
            rw [unhide HW]
            omega
          clear HW HM
          go_enter Tryd.func31, Tryd.ntmps31
          go_wp2_with fail
          refine (unhide HCap _).mono ?_; rintro e w1 ⟨rfl, hw1⟩
          subst hw1
          go_wp2_with fail
          refine (unhide HK _).mono ?_; rintro e w1 ⟨rfl, hw1⟩
          subst hw1
          have d0 := bA (bA (Below.refl w.heap.size w) (.cells #[.slice (some ⟨g, 0, none⟩) ps.length cap] 34)) (.cells #[.int .i64 10, .int .i64 T, .int .i64 M, .slice (some ⟨b3, 0, none⟩) Ex.length Ex.length, .slice (some ⟨b4, 0, none⟩) Exs.length Exs.length, .int .i64 (q : Int), .int .i64 (j : Int)] 93)
          have F0 : KF w.heap.size g ps.length cap 10 T M (q : Int) (j : Int) (.bool true) (.bool true) ((w.alloc (.cells #[.slice (some ⟨g, 0, none⟩) ps.length cap] 34)).alloc (.cells #[.int .i64 10, .int .i64 T, .int .i64 M, .slice (some ⟨b3, 0, none⟩) Ex.length Ex.length, .slice (some ⟨b4, 0, none⟩) Exs.length Exs.length, .int .i64 (q : Int), .int .i64 (j : Int)] 93)) := ⟨by simp [go_sem], by simp [go_sem], by simp [go_sem], by simp [go_sem], by simp⟩
          go_wp2_with fail
          refine (unhide HL _ d0).mono ?_; rintro e w2 ⟨rfl, hb2⟩
          have d2 := bT d0 hb2
          have F2 := F0.of hb2
          clear hb2 F0 d0
          obtain ⟨fp, fk, fl, fr, fs⟩ := id F2
          have fs0 : w.heap.size < w2.heap.size := by omega
          go_wp2_with fail
          refine (unhide HK _).mono ?_; rintro e w1 ⟨rfl, hw1⟩
          subst hw1
          go_wp2_with fail
          refine (unhide HR _ d2).mono ?_; rintro e w4 ⟨rfl, hb4⟩
          have d4 := bT d2 hb4
          clear hb4
          go_wp2
          go_ret
          exact ⟨congrArg (fun z => Ending.returned (.int .i64 z)) (unhide HE).symm, d4⟩
end Go.Proofs.YtkdeilhkobcglaaDoor
