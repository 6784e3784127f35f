import Derived.Test.YtbbjhepagkkjeaaGreatDoorQ20
import Derived.Test.YtbbjhepagkkjeaaGreatDoorQ21
import Derived.Test.YtbbjhepagkkjeaaGreatDoorQ14
import Derived.Handy
namespace Go.Proofs.YtbbjhepagkkjeaaGreatDoor
open Go Go.RowKit
def TxR (R : Nat) (w : World) (e : Ending) (w' : World) : Prop := ∃ l : List UInt8, e = .returned (.string (mkS l)) ∧ Below R w w'
theorem Rd.seek {w : World} {R : Nat} {a : Option Addr} {cap : Nat} {bs : List Nat} {p : Nat} (h : Rd w R a cap bs p) (q : Nat) (hq : q ≤ 255) : Rd (w.setCell ⟨R, 1, none⟩ (.int .i64 (q : Int))) R a cap bs q := by
  refine ⟨by simpa using h.size, ?_, ?_, fun o => by rw [World.frozen?_setCell]; exact h.frz o, by omega, h.len, h.byte, ?_⟩
  · rw [World.cell?_setCell_other _ _ _ _ (by intro he; injection he; contradiction)]; exact h.c0
  · rw [World.cell?_setCell_same _ _ _ h.c1]
  · rcases h.byt with e | ⟨g, off, e, hg, hc⟩
    · exact Or.inl e
    · exact Or.inr ⟨g, off, e, hg, fun i b hi => by rw [World.cell?_setCell_other _ _ _ _ (by intro he; injection he; omega)]; exact hc i b hi⟩
set_option maxRecDepth 100000 in
set_option maxHeartbeats 8000000 in
theorem l3DrawDbText_calls (w : World) (R : Nat) (a : Option Addr) (cap : Nat) (bs : List Nat) (p : Nat) (h : Rd w R a cap bs p) :
    Calls Tryz.prog 11 #[.pointer (some ⟨R, 0, none⟩), .bool true] w (TxR R w) := by
  have hR := h.size
  have N1 := hide (next_calls _ R a cap bs p h)
  have hk := nxt_le h p
  clear h
  go_enter Tryz.func11, Tryz.ntmps11
  go_wp2_with fail
  refine (unhide N1).mono ?_; rintro e w1 ⟨rfl, hr1, hd1⟩
  have N2 := hide (l3DrawShortDb_calls w1 R a cap bs _ hr1)
  have hR1 := hr1.size
  have HD1 := hide hd1.low
  clear N1 hr1 hd1
  generalize nxt bs p = K at *
  go_wp2_with fail
  refine (unhide N2).mono ?_; rintro e w2 ⟨v, lab, d, q, rfl, hD, hd3, hr2, hd2, hpos, hsh⟩
  obtain ⟨va, vc, rfl⟩ := hD.form
  rw [hd3] at hD ⊢
  have hb3 := bA (Below.refl w2.heap.size w2) (.cells #[.slice va 3 vc] 26)
  have hR2 := hr2.size
  have HD3 := hide (hD.of hb3)
  have HSh := hide (hsh.of hD hb3)
  have HR3 := hide (hr2.of hb3)
  have HL3 := hide (((unhide HD1).trans hd2.low).trans (hb3.mono (Nat.le_of_lt hR2)))
  have HP := hide hpos; have Hd3 := hide hd3
  have hs12 := hd2.size
  have c3 : (w2.alloc (.cells #[.slice va 3 vc] 26)).cell? ⟨w2.heap.size, 0, none⟩ = some (.slice va 3 vc) := by simp [go_sem]
  have s3 : (w2.alloc (.cells #[.slice va 3 vc] 26)).heap.size = w2.heap.size + 1 := by simp
  clear N2 hD hr2 hd2 hpos hsh hb3 HD1 hd3
  go_upto_region 3 with fail
  generalize (w2.alloc (.cells #[.slice va 3 vc] 26)) = W at *
  have rc := (unhide HR3).c1
  have rf := (unhide HR3).frz
  have hRW : R < W.heap.size := by omega
  have hRb : ¬ R = w2.heap.size := by omega
  have hbR : ¬ w2.heap.size = R := by omega
  have hc : (K : Int) % 10 = 7 ∨ (K : Int) % 10 = 8 ∨ (K : Int) % 10 = 9 ∨ (K : Int) % 10 = 6 ∨ ((((K : Int) % 10 == 7) = false ∧ ((K : Int) % 10 == 8) = false) ∧ (((K : Int) % 10 == 9) = false ∧ ((K : Int) % 10 == 6) = false)) := by
    have : (K : Int) % 10 = 0 ∨ (K : Int) % 10 = 1 ∨ (K : Int) % 10 = 2 ∨ (K : Int) % 10 = 3 ∨ (K : Int) % 10 = 4 ∨ (K : Int) % 10 = 5 ∨ (K : Int) % 10 = 6 ∨ (K : Int) % 10 = 7 ∨ (K : Int) % 10 = 8 ∨ (K : Int) % 10 = 9 := by omega
    rcases this with e | e | e | e | e | e | e | e | e | e <;> simp [e]
  obtain ⟨P5, hP5⟩ : ∃ P5 : Nat, (K : Int) % 5 = (P5 : Int) := ⟨K % 5, by omega⟩
  have hP6 : P5 ≤ 255 := by omega
  have hRw1 : R < w1.heap.size := hR1
  rcases hc with y | y | y | y | ⟨⟨y1, y2⟩, ⟨y3, y4⟩⟩
  · have k4 : ButB (fun b => b = R) W (W.setCell ⟨R, 1, none⟩ (.int .i64 (P5 : Int))) := ButB.set (S := fun b => b = R) (ButB.refl _ _) (Or.inl rfl) _
    have hD4 := (unhide HD3).butB k4 (fun g e e' => by have := ((unhide HD3).own.lt g e).1; omega) (fun b e e' => by have := ((unhide HD3).rng b e).1; omega)
    have hr4 := (unhide HR3).seek P5 hP6
    have HL4 := hide ((unhide HL3).setCell (p := ⟨R, 1, none⟩) (Nat.le_refl _) (.int .i64 (P5 : Int)))
    have s4 : (W.setCell ⟨R, 1, none⟩ (.int .i64 (P5 : Int))).heap.size = W.heap.size := by simp
    have HSp := hide (l3SpoilDb_calls _ R a cap bs P5 hr4 lab w1.heap.size _ d hD4 hRw1 (by rw [s4]; omega) (unhide Hd3) (unhide HP))
    have c4 : (W.setCell ⟨R, 1, none⟩ (.int .i64 (P5 : Int))).cell? ⟨w2.heap.size, 0, none⟩ = some (.slice va 3 vc) := (k4.cell _ 0 (by omega) hbR).trans c3
    have z4 : w2.heap.size < (W.setCell ⟨R, 1, none⟩ (.int .i64 (P5 : Int))).heap.size := by omega
    clear k4 hD4 hr4 HD3 HSh HR3 HL3 HP Hd3
    go_upto_region 5 with fail
    generalize (W.setCell ⟨R, 1, none⟩ (.int .i64 (P5 : Int))) = W4 at *
    go_wp2_with fail
    refine (unhide HSp).mono ?_; rintro e w5 ⟨v5, lab5, d5, rfl, hD5, hb5⟩
    have HSr := hide (l3Shorten_calls w5 lab5 _ v5 d5 hD5)
    have HD5 := hide hD5
    have HL5 := hide ((unhide HL4).trans hb5)
    obtain ⟨va5, vc5, rfl⟩ := hD5.form
    have s5 : W4.heap.size ≤ w5.heap.size := hb5.size
    clear hD5 hb5 HSp HL4
    go_wp2_with fail
    refine (unhide HSr).mono ?_; rintro e w6 ⟨rfl, hs6, hsh6⟩
    have HTx := hide (l3DbText_calls w6 lab5 _ _ d5 ((unhide HD5).sht hs6) hsh6)
    have HL6 := hide ((unhide HL5).trans (hs6.but.below (B := R) (by omega) (fun b e => by have := ((unhide HD5).rng b (by rw [e]; simp)).1; omega)))
    have s6 := hs6.but.size
    clear hs6 hsh6 HSr HL5 HD5
    go_wp2_with fail
    refine (unhide HTx).mono ?_; rintro e w7 ⟨l, rfl, hl, hb7⟩
    have HFin : Hid (TxR R w (.returned (.string (mkS l))) w7) := ⟨l, rfl, (unhide HL6).trans (hb7.mono (by omega))⟩
    clear HTx HL6 hb7
    go_wp2
    go_returns
    exact unhide HFin
  · have HTx := hide (l3DbText_calls W lab _ _ d (unhide HD3) (unhide HSh))
    clear HD3 HSh HP
    go_wp2_with fail
    refine (unhide HTx).mono ?_; rintro e w5 ⟨l, rfl, hl, hb5⟩
    have hr5 := (unhide HR3).of hb5
    have rc5 := hr5.c1
    have rf5 := hr5.frz
    have rs5 := hr5.size
    have HCh := hide (l2Change_calls _ R a cap bs P5 (hr5.seek P5 hP6) l hl)
    have HL5 := hide ((unhide HL3).trans (hb5.mono (Nat.le_of_lt hRW)))
    clear hr5 hb5 HTx HR3 HL3
    go_wp2_with fail
    refine (unhide HCh).mono ?_; rintro e w7 ⟨q7, rfl, hd7⟩
    have HFin : Hid (TxR R w (.returned (.string (mkS q7))) w7) := ⟨q7, rfl, (((unhide HL5).setCell (p := ⟨R, 1, none⟩) (Nat.le_refl _) _).trans hd7.low)⟩
    clear HCh HL5 hd7
    go_wp2
    go_returns
    exact unhide HFin
  · have HTx := hide (l3DbText_calls W lab _ _ d (unhide HD3) (unhide HSh))
    clear HD3 HSh HP
    go_wp2_with fail
    refine (unhide HTx).mono ?_; rintro e w5 ⟨l, rfl, hl, hb5⟩
    have hsz := mkS_size l
    have HL5 := hide ((unhide HL3).trans (hb5.mono (Nat.le_of_lt hRW)))
    have s5 := hb5.size
    obtain ⟨M3, hM3⟩ : ∃ M3 : Nat, (K : Int) / 10 = (M3 : Int) := ⟨K / 10, by omega⟩
    obtain ⟨m3, hm3⟩ : ∃ m3 : Nat, (M3 : Int) % 3 = (m3 : Int) := ⟨M3 % 3, by omega⟩
    have hm4 : m3 ≤ 2 := by omega
    have u1 : IntKind.i64.wrap (20000 - (l.length : Int)) = 20000 - (l.length : Int) := wrap_small _ (by omega) (by omega)
    have u2 : IntKind.i64.wrap (20000 - (l.length : Int) + (m3 : Int)) = 20000 - (l.length : Int) + (m3 : Int) := wrap_small _ (by omega) (by omega)
    have u3 : IntKind.i64.wrap (20000 - (l.length : Int) + (m3 : Int) - 1) = 20000 - (l.length : Int) + (m3 : Int) - 1 := wrap_small _ (by omega) (by omega)
    have HRp := hide (fun W => l2Repeat_calls 32 (20000 - (l.length : Int) + (m3 : Int) - 1) (by omega) W)
    clear hb5 HTx HR3 HL3
    go_wp2_with fail
    refine (unhide HRp _).mono ?_; rintro e w7 ⟨l7, rfl, hl7, hb7⟩
    obtain ⟨q7, hq7, A7⟩ := cat_q l l7 (by omega)
    have HFin : Hid (TxR R w (.returned (.string (mkS q7))) w7) := ⟨q7, rfl, (unhide HL5).trans (hb7.mono (by omega))⟩
    clear HRp HL5 hb7
    go_wp2
    go_returns
    exact unhide HFin
  · have HTx := hide (l3DbText_calls W lab _ _ d (unhide HD3) (unhide HSh))
    clear HD3 HSh HP
    go_wp2_with fail
    refine (unhide HTx).mono ?_; rintro e w5 ⟨l, rfl, hl, hb5⟩
    have HL5 := hide ((unhide HL3).trans (hb5.mono (Nat.le_of_lt hRW)))
    have s5 := hb5.size
    obtain ⟨M3, hM3⟩ : ∃ M3 : Nat, (K : Int) / 10 = (M3 : Int) := ⟨K / 10, by omega⟩
    obtain ⟨m3, hm3⟩ : ∃ m3 : Nat, (M3 : Int) % 3 = (m3 : Int) := ⟨M3 % 3, by omega⟩
    have hm4 : m3 ≤ 2 := by omega
    have u1 : IntKind.i64.wrap (17 + (m3 : Int)) = 17 + (m3 : Int) := wrap_small _ (by omega) (by omega)
    have HRp := hide (fun W => l2Repeat_calls 52 (17 + (m3 : Int)) (by omega) W)
    obtain ⟨q1, hq1, A1⟩ := cat_q [10, 32, 32] l (by simp; omega)
    have A1' : ∀ w, (Op.stringOp .add ⟨#[10, 32, 32]⟩ (mkS l)).run Tryz.prog w = .ok (.string (mkS q1)) w := A1
    simp only [List.length_cons, List.length_nil] at hq1
    obtain ⟨q2, hq2, A2⟩ := cat_q q1 [114, 111, 119, 32, 32, 45, 48, 48, 55, 32, 32] (by simp; omega)
    have A2' : ∀ w, (Op.stringOp .add (mkS q1) ⟨#[114, 111, 119, 32, 32, 45, 48, 48, 55, 32, 32]⟩).run Tryz.prog w = .ok (.string (mkS q2)) w := A2
    simp only [List.length_cons, List.length_nil] at hq2
    have HQ2 : Hid (q2.length ≤ 300000100) := by show _ ≤ _; omega
    clear hb5 HTx HR3 HL3 A1 A2 hq1 hq2
    go_wp2_with fail
    refine (unhide HRp _).mono ?_; rintro e w7 ⟨l7, rfl, hl7, hb7⟩
    have hq2 := unhide HQ2
    obtain ⟨q3, hq3, A3⟩ := cat_q q2 l7 (by omega)
    obtain ⟨q4, hq4, A4⟩ := cat_q q3 [32, 78, 85, 76, 76, 32, 10, 10] (by simp; omega)
    have A4' : ∀ w, (Op.stringOp .add (mkS q3) ⟨#[32, 78, 85, 76, 76, 32, 10, 10]⟩).run Tryz.prog w = .ok (.string (mkS q4)) w := A4
    have HFin : Hid (TxR R w (.returned (.string (mkS q4))) w7) := ⟨q4, rfl, (unhide HL5).trans (hb7.mono (by omega))⟩
    clear HRp HL5 hb7 A4 hq3 hq4 hq2
    go_wp2
    go_returns
    exact unhide HFin
  · have HTx := hide (l3DbText_calls W lab _ _ d (unhide HD3) (unhide HSh))
    clear HD3 HSh HP
    go_wp2_with fail
    refine (unhide HTx).mono ?_; rintro e w5 ⟨l, rfl, hl, hb5⟩
    have HFin : Hid (TxR R w (.returned (.string (mkS l))) w5) := ⟨l, rfl, (unhide HL3).trans (hb5.mono (Nat.le_of_lt hRW))⟩
    clear hb5 HTx HR3 HL3
    go_wp2
    go_returns
    exact unhide HFin
set_option maxHeartbeats 2000000 in
theorem DrawReadDb_calls (v : Value) (cs : List Nat) (w : World) (hv : IsBytes w v cs) (hby : ∀ b ∈ cs, b ≤ 255) (hn : cs.length ≤ 1048576) :
    Calls Tryz.prog 4 #[v] w (TxR w.heap.size w) := by
  have HO := hide (l1Open_calls v cs w hv hby hn)
  clear hv hby hn
  go_enter Tryz.func4, Tryz.ntmps4
  go_wp2_with fail
  refine (unhide HO).mono ?_; rintro e w1 ⟨R, rfl, ⟨a, cap, hr1⟩, hR, hb1⟩
  have HT := hide (l3DrawDbText_calls w1 R a cap _ _ hr1)
  have HB1 := hide hb1
  clear HO hr1 hb1
  go_wp2_with fail
  refine (unhide HT).mono ?_; rintro e w2 ⟨l, rfl, hb2⟩
  have HFin : Hid (TxR w.heap.size w (.returned (.string (mkS l))) w2) := ⟨l, rfl, (unhide HB1).trans (hb2.mono hR)⟩
  clear HT HB1 hb2
  go_wp2
  go_returns
  exact unhide HFin
end Go.Proofs.YtbbjhepagkkjeaaGreatDoor
