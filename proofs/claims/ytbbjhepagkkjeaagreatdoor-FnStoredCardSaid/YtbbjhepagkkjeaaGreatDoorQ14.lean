import Derived.Test.YtbbjhepagkkjeaaGreatDoorQ12
import Derived.Test.YtbbjhepagkkjeaaGreatDoorQ9
import Derived.Laws.IdiomStrings
namespace Go.Proofs.YtbbjhepagkkjeaaGreatDoor
open Go Go.RowKit
def u8s (l : List UInt8) : List Value := l.map fun b => .int .u8 (b.toNat : Int)
theorem bytes1 (c : UInt8) (w : World) : ∃ cap w1, (convert 9 22 (.string ⟨#[c]⟩)).run Tryz.prog w = .ok (.slice (some ⟨w.heap.size, 0, none⟩) 1 cap) w1 ∧ Below w.heap.size w w1 ∧ w1.heap.size = w.heap.size + 1 ∧ w1.cell? ⟨w.heap.size, 0, none⟩ = some (.int .u8 (c.toNat : Int)) := by
  refine ⟨_, _, run_bytes_of_string w 9 22 5 ⟨#[c]⟩ Tryz.underlying9 Tryz.underlying22 Tryz.underlying5, bA (Below.refl w.heap.size w).drew _, by simp, ?_⟩
  have h1 := cell_of_row (w.drew.alloc _) w.heap.size 0 _ _ _ (MapKept.heap_alloc w.drew (.cells (bytesRow ⟨#[c]⟩ (grownCap w (⟨#[c]⟩ : ByteArray).size 0 5)) 5 ((bytesRow ⟨#[c]⟩ (grownCap w (⟨#[c]⟩ : ByteArray).size 0 5)).size, (bytesRow ⟨#[c]⟩ (grownCap w (⟨#[c]⟩ : ByteArray).size 0 5)).size + 1))).1
  refine h1.trans ?_
  simp [bytesRow]
  rw [Array.getElem?_append_left (by simp)]
  rfl
theorem back_of {w : World} {B n cap : Nat} {g : Nat} {l : List UInt8} (h : w.ownsRow B 5 1 (.slice (some ⟨g, 0, none⟩) n cap) n (u8s l)) (hl : l.length = n) : (convert 22 9 (.slice (some ⟨g, 0, none⟩) n cap)).run Tryz.prog w = .ok (.string (mkS l)) w := by
  subst hl
  refine run_convert_bytes_back (P := Tryz.prog) w 22 9 5 ⟨g, 0, none⟩ cap l Tryz.underlying22 Tryz.underlying5 Tryz.underlying9 (fun j hj => ?_)
  have := h.cellAt j (by omega)
  have hadd : (⟨g, 0, none⟩ : Addr).add j = ⟨g, j, none⟩ := by unfold Addr.add; split <;> simp_all
  rw [hadd, this]
  simp [u8s, hj]
set_option maxRecDepth 100000 in
set_option maxHeartbeats 4000000 in
theorem l2Repeat_calls (c : UInt8) (n : Int) (hn : n ≤ 100000) (w : World) : Calls Tryz.prog 38 #[.string ⟨#[c]⟩, .int .i64 n] w (TxtE w 100000) := by
  have H0 : Hid ((w.alloc (.cells #[] 5)).ownsRow w.heap.size 5 1 (.slice (some ⟨w.heap.size, 0, none⟩) 0 0) 0 (u8s [])) :=
    ⟨rfl, Or.inr ⟨w.heap.size, 0, #[], rfl, Nat.le_refl _, (MapKept.heap_alloc w _).1, Nat.le_refl _, Nat.zero_le _, rfl, rfl⟩⟩
  obtain ⟨i, hi, hz⟩ := Option.map_eq_some_iff.1 (show (Tryz.prog.info? 5).map (fun i => (i.zero, i.size, i.bytes)) = some (some (.int .u8 0), 1, 1) by kernel_rfl)
  simp only [Prod.mk.injEq] at hz
  obtain ⟨hz0, hz1, hz2⟩ := hz
  go_enter Tryz.func38, Tryz.ntmps38
  go_wp2
  go_loopw [5, 6] (fun s x wr => ∃ (k g cap : Nat) (l : List UInt8), k ≤ 100000 ∧ (k : Int) ≤ max n 0 ∧ x = .int .i64 k ∧ s = .slice (some ⟨g, 0, none⟩) k cap ∧ l.length = k ∧ wr.ownsRow w.heap.size 5 1 (.slice (some ⟨g, 0, none⟩) k cap) k (u8s l) ∧ Below w.heap.size w wr) (fun _ x _ => n.toNat - (intOf x).toNat)
  case atStart => exact ⟨0, w.heap.size, 0, [], by omega, by omega, rfl, rfl, rfl, H0.out, bA (Below.refl _ _) _⟩
  case round =>
    clear H0
    obtain ⟨k, g, cap, l, hk, hkn, rfl, rfl, hl, ho, hb⟩ := hrel
    by_cases hlt : (k : Int) < n
    · obtain ⟨c1, w1, hcv, hb1, hs1, d0⟩ := bytes1 c wr
      have HOW := hide (ownsRow_butB (S := fun _ => False) ho (ButB.ofBelow hb1) (fun _ _ e => e))
      have HB := hide hb; have HB1 := hide hb1; have HL := hide hl
      have hbs : w.heap.size ≤ w1.heap.size := by have := hb.size; omega
      clear ho hb hb1 hl
      go_wp2_with (at_builtin; refine wpList_append_lies _ rfl (.tmp 13) (.tmp 15) 22 rfl w.heap.size 5 i _ 1 1 Tryz.underlying22 hi hz0 hz1 hz2 rfl (by decide) (.slice (some ⟨g, 0, none⟩) k cap) k (u8s l) rfl (unhide HOW) ⟨wr.heap.size, 0, none⟩ 1 c1 [.int .u8 (c.toNat : Int)] rfl rfl (by intro j u hu; cases j with | zero => (simp at hu; subst hu; simpa [Addr.add] using d0) | succ j => simp at hu) (by intro u hu; simp at hu; subst hu; rfl) (by decide) (by unfold maxLen; omega) (by omega) hbs _ rfl ?_; intro g2 cap2 w5 hown2 hgrow hat hlt2)
      have HN : Hid (w5.ownsRow w.heap.size 5 1 (.slice (some ⟨g2, 0, none⟩) (k + 1) cap2) (k + 1) (u8s (l ++ [c]))) := by
        show World.ownsRow _ _ _ _ _ _ _
        unfold u8s
        rw [List.map_append]
        exact hown2
      have HB5 := hide ((bT (unhide HB) (unhide HB1)).grown hgrow hbs (fun j hj => ((unhide HOW).lt j hj).1))
      clear hown2 hgrow HOW
      go_wp2
      go_roundw
      case rel => exact ⟨k + 1, g2, cap2, l ++ [c], by omega, by omega, by go_num, rfl, by have := unhide HL; simp; omega, unhide HN, unhide HB5⟩
      case measure => simp [intOf]; omega
    · have hbk := back_of ho hl
      have HB := hide hb; have HL := hide hl
      clear ho hb hl
      go_wp2
      go_ret
      exact ⟨l, rfl, by have := unhide HL; omega, unhide HB⟩
end Go.Proofs.YtbbjhepagkkjeaaGreatDoor
namespace Go.Proofs.YtbbjhepagkkjeaaGreatDoor
open Go Go.RowKit
theorem ba_mk (b : ByteArray) : ∃ l : List UInt8, b = mkS l ∧ l.length = b.size := ⟨b.data.toList, by simp [mkS], by show b.data.toList.length = b.data.size; simp⟩
theorem sl_hi (l : List UInt8) (p : Nat) (hp : p ≤ l.length) : ∃ q : List UInt8, q.length = p ∧ ∀ w, (Instr.slice 9 (.string (mkS l)) none (some (.int .i64 (p : Int))) none).run Tryz.prog w = .ok (.string (mkS q)) w := by
  obtain ⟨q, hq, hl⟩ := ba_mk ((mkS l).extract 0 p)
  have hs := mkS_size l
  refine ⟨q, by rw [hl]; simp [ByteArray.size_extract]; omega, fun w => ?_⟩
  rw [← hq]
  have ht : Tryz.prog.underlying 9 = some .string := Tryz.underlying9
  rw [run_slice_string_h (P := Tryz.prog) _ _ _ ht .i64 (p : Int) (by omega) (by omega)]
  simp
theorem sl_lo (l : List UInt8) (p : Nat) (hp : p ≤ l.length) : ∃ q : List UInt8, q.length = l.length - p ∧ ∀ w, (Instr.slice 9 (.string (mkS l)) (some (.int .i64 (p : Int))) none none).run Tryz.prog w = .ok (.string (mkS q)) w := by
  obtain ⟨q, hq, hl⟩ := ba_mk ((mkS l).extract p (mkS l).size)
  have hs := mkS_size l
  refine ⟨q, by rw [hl]; simp [ByteArray.size_extract]; omega, fun w => ?_⟩
  rw [← hq]
  have ht : Tryz.prog.underlying 9 = some .string := Tryz.underlying9
  rw [run_slice_string_l (P := Tryz.prog) _ _ _ ht .i64 (p : Int) (by omega) (by omega)]
  simp
def ChE (R : Nat) (w : World) (e : Ending) (w' : World) : Prop := ∃ q : List UInt8, e = .returned (.string (mkS q)) ∧ Drw R w w'
set_option maxRecDepth 100000 in
set_option maxHeartbeats 4000000 in
theorem l2Change_calls (w : World) (R : Nat) (a : Option Addr) (cap : Nat) (bs : List Nat) (p : Nat) (h : Rd w R a cap bs p) (l : List UInt8) (hl : l.length ≤ 300000000) :
    Calls Tryz.prog 37 #[.pointer (some ⟨R, 0, none⟩), .string (mkS l)] w (ChE R w) := by
  have N1 := hide (next_calls w R a cap bs p h)
  have hk := nxt_le h p
  have hR := h.size
  have hsz := mkS_size l
  clear h
  go_enter Tryz.func37, Tryz.ntmps37
  go_wp2_with fail
  refine (unhide N1).mono ?_; rintro e w1 ⟨rfl, hr1, hd1⟩
  have N2 := hide (next_calls w1 R a cap bs _ hr1)
  have hk2 := nxt_le hr1 (adv bs p)
  clear N1 hr1
  go_wp2_with fail
  refine (unhide N2).mono ?_; rintro e w2 ⟨rfl, hr2, hd2⟩
  have N3 := hide (next_calls w2 R a cap bs _ hr2)
  have hk3 := nxt_le hr2 (adv bs (adv bs p))
  have HD2 := hide (hd1.trans hd2)
  clear N2 hr2 hd1 hd2
  generalize nxt bs p = K at *
  generalize nxt bs (adv bs p) = K2 at *
  generalize nxt bs (adv bs (adv bs p)) = K3 at *
  go_wp2_with fail
  refine (unhide N3).mono ?_; rintro e w3 ⟨rfl, hr3, hd3⟩
  have HD3 := hide ((unhide HD2).trans hd3)
  clear N3 hr3 hd3 HD2
  by_cases h0 : l.length = 0
  · go_wp2
    go_ret
    exact ⟨[45], rfl, unhide HD3⟩
  obtain ⟨P, hP⟩ : ∃ P : Nat, ((K2 : Int) * 256 + (K3 : Int)) % (l.length : Int) = (P : Int) := ⟨(K2 * 256 + K3) % l.length, by push_cast; rfl⟩
  have hPl : (P : Int) < (l.length : Int) := by rw [← hP]; exact Int.emod_lt_of_pos _ (by omega)
  have hPn : P < l.length := by omega
  have hPw : IntKind.i64.wrap ((P : Int) + 1) = (P : Int) + 1 := wrap_small _ (by omega) (by omega)
  obtain ⟨qa, ha, A1⟩ := sl_hi l P (by omega)
  obtain ⟨qb, hb, A2⟩ := sl_lo l (P + 1) (by omega)
  obtain ⟨qc, hc, A3⟩ := sl_hi l (P + 1) (by omega)
  obtain ⟨qd, hd, A4⟩ := sl_lo l P (by omega)
  rw [show ((P + 1 : Nat) : Int) = (P : Int) + 1 by omega] at A2 A3
  have hcase : ((K : Int) % 4 == 0) = true ∨ (((K : Int) % 4 == 0) = false ∧ ((K : Int) % 4 == 1) = true) ∨ (((K : Int) % 4 == 0) = false ∧ ((K : Int) % 4 == 1) = false) := by
    have : (K : Int) % 4 = 0 ∨ (K : Int) % 4 = 1 ∨ (K : Int) % 4 = 2 ∨ (K : Int) % 4 = 3 := by omega
    rcases this with e | e | e | e <;> simp [e]
  rcases hcase with y1 | ⟨y1, y2⟩ | ⟨y1, y2⟩
  · obtain ⟨q, hq, A5⟩ := cat_q qa qb (by omega)
    clear ha hb hc hd hq A3 A4
    go_upto_region 7 with fail
    refine wp_region_held_drew (S := Std w3) (by kernel_rfl) (Std.drew (Std.refl _)) (fun hHeld => ?_)
    refine tW 0 25 (.string (mkS l)) ?_
    simp only [puts]
    refine tW 1 26 (.int .i64 (P : Int)) ?_
    simp only [puts]
    refine tW 2 27 (.string (mkS qa)) ?_
    simp only [puts]
    refine tW 3 28 (.string (mkS l)) ?_
    simp only [puts]
    refine tW 4 29 (.int .i64 (P : Int)) ?_
    simp only [puts]
    refine tW 5 30 (.int .i64 ((P : Int) + 1)) ?_
    simp only [puts]
    refine tW 6 31 (.string (mkS qb)) ?_
    simp only [puts]
    refine tW 7 32 (.string (mkS q)) ?_
    simp only [puts]
    refine tW 8 4 (.string (mkS q)) ?_
    simp only [puts]
    refine wpAnyH_done (by kernel_rfl) ?_ _
    have HB := hide ((unhide HD3).below (Nat.le_of_lt (Nat.lt_of_lt_of_le hR (unhide HD3).size)) hHeld.2.2)
    go_wp2
    go_ret
    exact ⟨q, rfl, unhide HB⟩
  · obtain ⟨q, hq, A5⟩ := cat_q qc qd (by omega)
    clear ha hb hc hd hq A1 A2
    go_upto_region 9 with fail
    refine wp_region_held_drew (S := Std w3) (by kernel_rfl) (Std.drew (Std.refl _)) (fun hHeld => ?_)
    refine tW 0 36 (.string (mkS l)) ?_
    simp only [puts]
    refine tW 1 37 (.int .i64 (P : Int)) ?_
    simp only [puts]
    refine tW 2 38 (.int .i64 ((P : Int) + 1)) ?_
    simp only [puts]
    refine tW 3 39 (.string (mkS qc)) ?_
    simp only [puts]
    refine tW 4 40 (.string (mkS l)) ?_
    simp only [puts]
    refine tW 5 41 (.int .i64 (P : Int)) ?_
    simp only [puts]
    refine tW 6 42 (.string (mkS qd)) ?_
    simp only [puts]
    refine tW 7 43 (.string (mkS q)) ?_
    simp only [puts]
    refine tW 8 4 (.string (mkS q)) ?_
    simp only [puts]
    refine wpAnyH_done (by kernel_rfl) ?_ _
    have HB := hide ((unhide HD3).below (Nat.le_of_lt (Nat.lt_of_lt_of_le hR (unhide HD3).size)) hHeld.2.2)
    go_wp2
    go_ret
    exact ⟨q, rfl, unhide HB⟩
  · obtain ⟨M, hM⟩ : ∃ M : Nat, (K : Int) / 4 = (M : Int) := ⟨K / 4, by omega⟩
    have HOdd := hide (fun W => l2Odd_calls M W)
    have hMw : IntKind.i64.wrap (M : Int) = (M : Int) := wrap_small _ (by omega) (by omega)
    clear hb hc A2 A3
    go_upto_region 10 with fail
    refine wp_region_held_drew (S := Std w3) (by kernel_rfl) (Std.drew (Std.refl _)) (fun hHeld => ?_)
    refine tW 0 44 (.string (mkS l)) ?_
    simp only [puts]
    refine tW 1 45 (.int .i64 (P : Int)) ?_
    simp only [puts]
    refine tW 2 46 (.string (mkS qa)) ?_
    simp only [puts]
    refine tW 3 47 (.int .i64 (K : Int)) ?_
    simp only [puts]
    refine tW 4 48 (.int .i64 (M : Int)) ?_
    simp only [puts]
    refine tW 7 51 (.string (mkS l)) ?_
    simp only [puts]
    refine tW 8 52 (.int .i64 (P : Int)) ?_
    simp only [puts]
    refine tW 9 53 (.string (mkS qd)) ?_
    simp only [puts]
    refine wpAnyH_ready (rs := [5]) (by kernel_rfl) (by simp) ?_
    refine AllReadyH.cons rfl (fun Kx hK => ?_) AllReadyH.nil
    go_simp
    refine (unhide HOdd _).mono ?_
    rintro e w4 ⟨y, rfl, hy, hb4⟩
    obtain ⟨q, hq, A5⟩ := cat_q qa y (by omega)
    obtain ⟨q', hq', A6⟩ := cat_q q qd (by omega)
    refine hK.out _ _ (Std.call (by assumption) hb4) (fun hHeld2 => ?_)
    clear hK Kx ha hd hq hq' hy
    refine tW 6 50 (.string (mkS q)) ?_
    simp only [puts]
    refine tW 10 54 (.string (mkS q')) ?_
    simp only [puts]
    refine tW 11 4 (.string (mkS q')) ?_
    simp only [puts]
    refine wpAnyH_done (by kernel_rfl) ?_ _
    have HB := hide ((unhide HD3).below (Nat.le_of_lt (Nat.lt_of_lt_of_le hR (unhide HD3).size)) hHeld2.2.2)
    go_wp2
    go_ret
    exact ⟨q', rfl, unhide HB⟩
end Go.Proofs.YtbbjhepagkkjeaaGreatDoor
namespace Go.Proofs.YtbbjhepagkkjeaaGreatDoor
open Go Go.RowKit
set_option maxRecDepth 100000 in
set_option maxHeartbeats 4000000 in
theorem l2OddName_calls (k : Nat) (hk : k ≤ 255) (w : World) : Calls Tryz.prog 73 #[.int .i64 (k : Int)] w (TxtE w 100) := by
  have fin : ∀ (l : List UInt8), l.length ≤ 100 → TxtE w 100 (.returned (.string (mkS l))) w := fun l hl => ⟨l, rfl, hl, Below.refl _ _⟩
  have FIN := hide fin
  clear fin
  by_cases h6 : (k : Int) % 8 < 6
  · have hc : (k : Int) % 8 = 0 ∨ (k : Int) % 8 = 1 ∨ (k : Int) % 8 = 2 ∨ (k : Int) % 8 = 3 ∨ (k : Int) % 8 = 4 ∨ (k : Int) % 8 = 5 := by omega
    clear h6
    rcases hc with h | h | h | h | h | h
    all_goals (go_enter Tryz.func73, Tryz.ntmps73)
    all_goals go_wp2
    all_goals go_returns
    · exact unhide FIN [] (by decide)
    · exact unhide FIN [77, 65, 88] (by decide)
    · exact unhide FIN [109, 97, 120] (by decide)
    · exact unhide FIN [49, 97] (by decide)
    · exact unhide FIN [117] (by decide)
    · exact unhide FIN [114, 32, 115] (by decide)
  clear FIN
  have y0 : ((k : Int) % 8 == 0) = false := by simp; omega
  have y1 : ((k : Int) % 8 == 1) = false := by simp; omega
  have y2 : ((k : Int) % 8 == 2) = false := by simp; omega
  have y3 : ((k : Int) % 8 == 3) = false := by simp; omega
  have y4 : ((k : Int) % 8 == 4) = false := by simp; omega
  have y5 : ((k : Int) % 8 == 5) = false := by simp; omega
  obtain ⟨b, hb⟩ : ∃ b : Nat, (k : Int) / 8 % 2 = (b : Int) := ⟨k / 8 % 2, by omega⟩
  have hb2 : b ≤ 1 := by omega
  clear h6
  have H0 : Hid ((w.alloc (.cells #[] 5)).ownsRow w.heap.size 5 1 (.slice (some ⟨w.heap.size, 0, none⟩) 0 0) 0 (u8s [])) :=
    ⟨rfl, Or.inr ⟨w.heap.size, 0, #[], rfl, Nat.le_refl _, (MapKept.heap_alloc w _).1, Nat.le_refl _, Nat.zero_le _, rfl, rfl⟩⟩
  obtain ⟨i, hi, hz⟩ := Option.map_eq_some_iff.1 (show (Tryz.prog.info? 5).map (fun i => (i.zero, i.size, i.bytes)) = some (some (.int .u8 0), 1, 1) by kernel_rfl)
  simp only [Prod.mk.injEq] at hz
  obtain ⟨hz0, hz1, hz2⟩ := hz
  go_enter Tryz.func73, Tryz.ntmps73
  go_wp2
  go_loopw [3, 4] (fun s x wr => ∃ (j g cap : Nat) (l : List UInt8), j ≤ 64 + b ∧ x = .int .i64 j ∧ s = .slice (some ⟨g, 0, none⟩) j cap ∧ l.length = j ∧ wr.ownsRow w.heap.size 5 1 (.slice (some ⟨g, 0, none⟩) j cap) j (u8s l) ∧ Below w.heap.size w wr) (fun _ x _ => 64 + b - (intOf x).toNat)
  case atStart => exact ⟨0, w.heap.size, 0, [], by omega, rfl, rfl, rfl, H0.out, bA (Below.refl _ _) _⟩
  case round =>
    clear H0
    obtain ⟨j, g, cap, l, hj, rfl, rfl, hl, ho, hb'⟩ := hrel
    by_cases hlt : j < 64 + b
    · have j1 : (j : Int) < 64 + (b : Int) := by omega
      obtain ⟨m, hm⟩ : ∃ m : Nat, (j : Int) % 26 = (m : Int) := ⟨j % 26, by omega⟩
      have hm2 : m < 26 := by omega
      have hmw : IntKind.u8.wrap (97 + (m : Int)) = 97 + (m : Int) := by rw [IntKind.wrap_u8]; omega
      have HC : Hid (Value.int .u8 (97 + (m : Int)) = .int .u8 ((UInt8.ofNat (97 + m)).toNat : Int)) := by
        show _ = _
        congr 1
        rw [UInt8.toNat_ofNat']
        omega
      have HOW := hide (ownsRow_butB (S := fun _ => False) ho (ButB.ofBelow (bA (Below.refl wr.heap.size wr) (.cells #[.int .u8 (97 + (m : Int))] 5))) (fun _ _ e => e))
      have HB := hide hb'; have HL := hide hl
      have hbs := hb'.size
      clear ho hb' hl
      go_wp2_with (at_builtin; refine wpList_append_lies _ rfl (.tmp 32) (.tmp 37) 22 rfl w.heap.size 5 i _ 1 1 Tryz.underlying22 hi hz0 hz1 hz2 rfl (by decide) (.slice (some ⟨g, 0, none⟩) j cap) j (u8s l) rfl (unhide HOW) ⟨wr.heap.size, 0, none⟩ 1 1 [.int .u8 (97 + (m : Int))] rfl rfl (World.news_of_block (cs := #[.int .u8 (97 + (m : Int))]) (MapKept.heap_alloc wr _).1) (by intro u hu; simp at hu; subst hu; rfl) (by decide) (by unfold maxLen; omega) (by omega) (by simp; omega) _ rfl ?_; intro g2 cap2 w5 hown2 hgrow hat hlt2)
      have HN : Hid (w5.ownsRow w.heap.size 5 1 (.slice (some ⟨g2, 0, none⟩) (j + 1) cap2) (j + 1) (u8s (l ++ [UInt8.ofNat (97 + m)]))) := by
        show World.ownsRow _ _ _ _ _ _ _
        unfold u8s
        rw [List.map_append, List.map_cons, List.map_nil, ← unhide HC]
        exact hown2
      have HB5 := hide ((bA (unhide HB) _).grown hgrow (by simp; omega) (fun j hj => ((unhide HOW).lt j hj).1))
      clear hown2 hgrow HOW
      go_wp2
      go_roundw
      case rel => exact ⟨j + 1, g2, cap2, l ++ [UInt8.ofNat (97 + m)], by omega, by go_num, rfl, by have := unhide HL; simp; omega, unhide HN, unhide HB5⟩
      case measure => simp [intOf]; omega
    · have j1 : ¬ (j : Int) < 64 + (b : Int) := by omega
      have hbk := back_of ho hl
      have HB := hide hb'; have HL := hide hl
      clear ho hb' hl
      go_wp2
      go_ret
      exact ⟨l, rfl, by have := unhide HL; omega, unhide HB⟩
end Go.Proofs.YtbbjhepagkkjeaaGreatDoor
