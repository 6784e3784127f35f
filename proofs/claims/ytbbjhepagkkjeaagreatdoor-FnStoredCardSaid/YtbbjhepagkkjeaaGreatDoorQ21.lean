import Derived.Test.YtbbjhepagkkjeaaGreatDoorDwDraw2
import Derived.Test.YtbbjhepagkkjeaaGreatDoorQ20
import Derived.Test.YtbbjhepagkkjeaaGreatDoorQ12
namespace Go.Proofs.YtbbjhepagkkjeaaGreatDoor
open Go Go.RowKit
theorem ownsRow_base {w : World} {B B' e size n : Nat} {v : Value} {xs : List Value} (h : w.ownsRow B e size v n xs) (hB : B' ≤ B) : w.ownsRow B' e size v n xs := by
  refine ⟨h.1, ?_⟩
  rcases h.2 with h3 | ⟨g, c, cur, k1, k2, k3⟩
  · exact Or.inl h3
  · exact Or.inr ⟨g, c, cur, k1, Nat.le_trans hB k2, k3⟩
theorem DbS.base {w : World} {lab : Lq} {B B' : Nat} {v : Value} {d : List Td} (h : DbS w lab B v d) (hB : B' ≤ B) : DbS w lab B' v d :=
  ⟨ownsRow_base h.own hB, fun b e => ⟨Nat.le_trans hB (h.rng b e).1, (h.rng b e).2⟩, h.few, fun i t ht => have k := h.tab i t ht; ⟨k.nm, k.lo, k.hi, k.few, ownsRow_base k.own hB, k.blk, k.row⟩⟩
def DbH (w : World) (R : Nat) (a : Option Addr) (cap : Nat) (bs : List Nat) (e : Ending) (w' : World) : Prop :=
  ∃ (v : Value) (lab : Lq) (d : List Td) (p : Nat), e = .returned (.agg #[v]) ∧ DbS w' lab w.heap.size v d ∧ d.length = 3 ∧ Rd w' R a cap bs p ∧ Drw R w w' ∧ (∀ t ∈ d, 0 ≤ t.co ∧ t.co ≤ 3 ∧ t.rs.length ≤ 1000) ∧ ShD w' d
set_option maxRecDepth 100000 in
set_option maxHeartbeats 2000000 in
theorem l3DrawShortDb_calls (w : World) (R : Nat) (a : Option Addr) (cap : Nat) (bs : List Nat) (p : Nat) (h : Rd w R a cap bs p) :
    Calls Tryz.prog 33 #[.pointer (some ⟨R, 0, none⟩)] w (DbH w R a cap bs) := by
  have hR := h.size
  have H1 := hide (fun W (hW : Rd W R a cap bs p) => l3DrawDb_calls W R a cap bs p hW)
  have hb0 : Below w.heap.size w (w.alloc (.cells #[.slice none 0 0] 26)) := bA (Below.refl _ _) _
  have HR0 := hide (h.of hb0); have HB0 := hide hb0
  clear h hb0
  go_enter Tryz.func33, Tryz.ntmps33
  go_wp2_with fail
  refine (unhide H1 _ (unhide HR0)).mono ?_
  rintro e w1 ⟨v, lab, d, q, rfl, hD, hd3, hr1, hd1, hpos⟩
  obtain ⟨va, vc, rfl⟩ := hD.form
  have H2 := hide (l3Shorten_calls w1 lab _ _ d hD)
  have hz : w.heap.size < w1.heap.size := by have := hd1.size; simp at this; omega
  have q1 : w1.cell? ⟨w.heap.size, 0, none⟩ = some (.slice none 0 0) := (hd1.cell 0 (by simp) (by omega)).trans (by simp [go_sem])
  have q2 : ∀ o, w1.frozen? ⟨w.heap.size, o, none⟩ = false := fun o => (hd1.frozen o (by simp) (by omega)).trans (by simp [go_sem])
  have HD := hide hD; have HR1 := hide hr1; have HD1 := hide hd1; have HP := hide hpos
  have Hd3 := hide hd3
  have hBs : (w.alloc (.cells #[.slice none 0 0] 26)).heap.size = w.heap.size + 1 := by simp
  have hln : ¬ (lab w.heap.size).1 = 1 := fun e => by
    have := (hD.rng w.heap.size (by rw [e]; simp)).1
    omega
  clear hD hr1 hd1 hpos H1 hd3
  go_wp2_with fail
  refine (unhide H2).mono ?_
  rintro e w2 ⟨rfl, hs, hsh⟩
  have r1 := (hs.but.cell w.heap.size 0 hz hln).trans q1
  have r2 := fun o => (hs.but.frz w.heap.size o hz hln).trans (q2 o)
  have z2 : w.heap.size < w2.heap.size := Nat.lt_of_lt_of_le hz hs.but.size
  have HFin : Hid (DbH w R a cap bs (.returned (.agg #[.slice va d.length vc])) (w2.setCell ⟨w.heap.size, 0, none⟩ (.slice va d.length vc))) := by
    have k2 : ButB (fun b => b = w.heap.size) w2 (w2.setCell ⟨w.heap.size, 0, none⟩ (.slice va d.length vc)) := ButB.set (S := fun b => b = w.heap.size) (ButB.refl _ _) (Or.inl rfl) _
    have hD2 := (unhide HD).sht hs
    have hnl : ∀ b, (lab b).1 ≠ 0 → ¬ b = w.heap.size := fun b e e' => by
      have := (hD2.rng b e).1
      omega
    have hd1 := unhide HD1
    have h1 := hd1.butB hs.but (by omega) (fun b e => (hD2.rng b (by rw [e]; simp)).1)
    have h2 : Drw R w w2 := ((Drw.refl R w).below (Nat.le_of_lt hR) (unhide HB0)).trans h1
    refine ⟨_, lab, d, _, rfl, (hD2.butB k2 (fun g e e' => ?_) hnl).base (by omega), unhide Hd3, ((unhide HR1).butB hs.but (fun b e => by have := (hD2.rng b (by rw [e]; simp)).1; omega)).butB k2 (fun b e => by omega), h2.butB k2 (Nat.le_of_lt hR) (fun b e => by omega), unhide HP, fun i t ht r hr c hc => ?_⟩
    · have := (hD2.own.lt g e).1
      omega
    · obtain ⟨b, N, h3, h4, h5⟩ := hsh i t ht r hr c hc
      have hrl := (hD2.tab i t ht).row r hr
      have hne : ¬ r.1 = w.heap.size := hnl r.1 (by rw [hrl.1]; simp)
      exact ⟨b, N, (k2.cell _ _ hrl.2.2.size hne).trans h3, (k2.cell _ _ hrl.2.2.size hne).trans h4, h5⟩
  clear hs hsh H2 HD HR1 HD1 HP
  go_wp2
  refine bodyPost_ret (v := .agg #[.slice va d.length vc]) (by simp [results, Tryz.results33, go_sem, r1]) rfl (unhide HFin)
end Go.Proofs.YtbbjhepagkkjeaaGreatDoor
namespace Go.Proofs.YtbbjhepagkkjeaaGreatDoor
open Go Go.RowKit
set_option maxRecDepth 100000 in
set_option maxHeartbeats 8000000 in
theorem l3DbText_calls (w : World) (lab : Lq) (B : Nat) (v : Value) (d : List Td) (h : DbS w lab B v d) (hs : ShD w d) :
    Calls Tryz.prog 34 #[.agg #[v]] w (TxtE w 300000000) := by
  obtain ⟨a, c, rfl⟩ := h.form
  have hfw := h.few
  have HD := hide h; have HS := hide hs
  clear h hs
  go_enter Tryz.func34, Tryz.ntmps34
  go_wp2
  go_loopw [3, 4] (fun s k wr => ∃ (i : Nat) (l : List UInt8), i ≤ d.length ∧ k = .int .i64 i ∧ s = .string (mkS l) ∧ l.length ≤ i * 5000000 ∧ wr.cell? ⟨w.heap.size, 0, none⟩ = some (.slice a d.length c) ∧ w.heap.size < wr.heap.size ∧ Below w.heap.size w wr) (fun _ k _ => d.length - (intOf k).toNat)
  case atStart => exact ⟨0, [], Nat.zero_le _, rfl, rfl, by simp, by simp [go_sem], by simp, bA (Below.refl _ _) _⟩
  case round =>
    obtain ⟨i, l, hi, rfl, rfl, hl, cd, zs, hb⟩ := hrel
    by_cases hlt : i < d.length
    · have j1 : (i : Int) < (d.length : Int) := by omega
      obtain ⟨t, ht⟩ : ∃ t, d[i]? = some t := ⟨d[i], List.getElem?_eq_getElem hlt⟩
      obtain ⟨g, rfl, _, hg, _, c0, c1, c2⟩ := ((unhide HD).of hb).at i t ht
      have hT := ((unhide HD).of hb).tab i t ht
      obtain ⟨ua, uc, hu⟩ := hT.form
      rw [hu] at c2
      have hnm := hT.nm; have hlo := hT.lo; have hhi := hT.hi; have hfr := hT.few
      have HDec := hide (fun W => l2Dec_calls t.co (by omega) (by omega) W)
      have hdl : (Lib.itoa t.co).length ≤ 20 := itoa_le _ (by omega) (by omega)
      generalize Lib.itoa t.co = ld at *
      generalize t.nm = nm at *
      generalize t.co = C at *
      obtain ⟨q1, hq1, A1⟩ := cat_q l [116, 97, 98, 108, 101, 32] (by simp; omega)
      replace A1 : ∀ w, (Op.stringOp .add (mkS l) ⟨#[116, 97, 98, 108, 101, 32]⟩).run Tryz.prog w = .ok (.string (mkS q1)) w := A1
      simp only [List.length_cons, List.length_nil] at hq1
      obtain ⟨q2, hq2, A2⟩ := cat_q q1 nm (by omega)
      obtain ⟨q3, hq3, A3⟩ := cat_q q2 [32] (by simp; omega)
      replace A3 : ∀ w, (Op.stringOp .add (mkS q2) ⟨#[32]⟩).run Tryz.prog w = .ok (.string (mkS q3)) w := A3
      simp only [List.length_cons, List.length_nil] at hq3
      obtain ⟨q4, hq4, A4⟩ := cat_q q3 ld (by omega)
      obtain ⟨q5, hq5, A5⟩ := cat_q q4 [10] (by simp; omega)
      replace A5 : ∀ w, (Op.stringOp .add (mkS q4) ⟨#[10]⟩).run Tryz.prog w = .ok (.string (mkS q5)) w := A5
      simp only [List.length_cons, List.length_nil] at hq5
      have hl2 : q5.length ≤ i * 5000000 + 1000 := by omega
      clear hq1 hq2 hq3 hq4 hq5 hl
      have HT := hide hT; have HU := hide hu
      clear hT hu hdl hlo hhi hnm
      have hB0 := bA (Below.refl wr.heap.size wr) (.cells #[.string (mkS nm), .int .i64 C, .slice ua t.rs.length uc] 32)
      obtain ⟨n0, n1, n2⟩ := (fun Q (hQ : (wr.alloc (.cells #[.string (mkS nm), .int .i64 C, .slice ua t.rs.length uc] 32)) = Q) => (by subst hQ; exact ⟨by simp [go_sem], by simp [go_sem], by simp [go_sem]⟩ : Q.cell? ⟨wr.heap.size, 0, none⟩ = some (.string (mkS nm)) ∧ Q.cell? ⟨wr.heap.size, 1, none⟩ = some (.int .i64 C) ∧ Q.cell? ⟨wr.heap.size, 2, none⟩ = some (.slice ua t.rs.length uc))) _ rfl
      have z1 : wr.heap.size < (wr.alloc (.cells #[.string (mkS nm), .int .i64 C, .slice ua t.rs.length uc] 32)).heap.size := by simp
      have z2 : w.heap.size < (wr.alloc (.cells #[.string (mkS nm), .int .i64 C, .slice ua t.rs.length uc] 32)).heap.size := by simp; omega
      have cdb := (hB0.cell (p := ⟨w.heap.size, 0, none⟩) zs).trans cd
      have HT2 := hide ((unhide HT).butB (S := fun _ => False) (ButB.ofBelow hB0) (fun _ _ e => e))
      have HS2 := hide (fun r hr c hc => ((unhide HS).of (unhide HD) (hb.trans (hB0.mono hb.size))) i t ht r hr c hc)
      have HBw := hide (bT hb hB0)
      have HI := hide hi; have HLt := hide hlt; have HCd := hide cdb; have HZ2 := hide z2
      clear HT hB0 hb hi cdb z2
      go_upto_region 6 with fail
      clear c0 c1 c2 cd zs hlt
      generalize (wr.alloc (.cells #[.string (mkS nm), .int .i64 C, .slice ua t.rs.length uc] 32)) = Wb at *
      generalize wr.heap.size = bx at *
      refine wp_region_held_drew (S := Std Wb) (by kernel_rfl) (Std.drew (Std.refl _)) (fun hHeld => ?_)
      refine tW 0 20 (.string (mkS l)) ?_
      simp only [puts]
      refine tW 1 21 (.string (mkS q1)) ?_
      simp only [puts]
      refine tW 2 22 (.pointer (some ⟨bx, 0, none⟩)) ?_
      simp only [puts]
      refine tW 3 23 (.string (mkS nm)) ?_
      simp only [puts]
      refine tW 4 24 (.string (mkS q2)) ?_
      simp only [puts]
      refine tW 5 25 (.string (mkS q3)) ?_
      simp only [puts]
      refine tW 6 26 (.pointer (some ⟨bx, 1, none⟩)) ?_
      simp only [puts]
      refine tW 7 27 (.int .i64 C) ?_
      simp only [puts]
      refine wpAnyH_ready (rs := [8]) (by kernel_rfl) (by simp) ?_
      refine AllReadyH.cons rfl (fun Kx hK => ?_) AllReadyH.nil
      go_simp
      refine (unhide HDec _).mono ?_
      rintro e w6 ⟨rfl, hb6⟩
      refine hK.out _ _ (Std.call (by assumption) hb6) (fun hHeld2 => ?_)
      clear hK Kx
      refine tW 9 29 (.string (mkS q4)) ?_
      simp only [puts]
      refine tW 10 30 (.string (mkS q5)) ?_
      simp only [puts]
      refine tW 11 3 (.string (mkS q5)) ?_
      simp only [puts]
      refine wpAnyH_done (by kernel_rfl) ?_ _
      clear hHeld A1 A2 A3 A4 A5 HDec
      have hb7 := hHeld2.2.2
      have HB7 := hide hb7; have HN2 := hide n2; have HZ1 := hide z1
      clear hb6 hHeld2 n0 n1 n2 z1
      go_wp2
      rename World => wo
      go_loopw [3, 6] (fun s k wr => ∃ (j : Nat) (m : List UInt8), j ≤ t.rs.length ∧ k = .int .i64 j ∧ s = .string (mkS m) ∧ m.length ≤ i * 5000000 + 1000 + j * 2000 ∧ Below Wb.heap.size Wb wr) (fun _ k _ => t.rs.length - (intOf k).toNat)
      case atStart => exact ⟨0, q5, Nat.zero_le _, rfl, rfl, by omega, unhide HB7⟩
      case round =>
        clear hb7 HB7
        obtain ⟨j, m, hj, rfl, rfl, hm, hb⟩ := hrel
        have cu := (hb.cell (p := ⟨bx, 2, none⟩) (unhide HZ1)).trans (unhide HN2)
        have zu : bx < wr.heap.size := Nat.lt_of_lt_of_le (unhide HZ1) hb.size
        by_cases hjl : j < t.rs.length
        · have j1 : (j : Int) < (t.rs.length : Int) := by omega
          obtain ⟨G, hG, hGs, _, cG⟩ := ((unhide HT2).butB (S := fun _ => False) (ButB.ofBelow hb) (fun _ _ e => e)).at (unhide HU) j hjl
          subst hG
          have hmem : t.rs[j] ∈ t.rs := List.getElem_mem hjl
          have hrow := (unhide HT2).row _ hmem
          have hsh := unhide HS2 _ hmem
          have HSz := hide hrow.2.2.size
          have hln := hrow.2.1
          clear hrow
          generalize t.rs[j] = r at *
          obtain ⟨rg, rc, rx⟩ := r
          unfold rv at cG
          simp only at cG hln hsh HSz
          generalize rx.length = rn at *
          obtain ⟨q, hq, A1⟩ := cat_q m [114, 111, 119] (by simp; omega)
          replace A1 : ∀ w, (Op.stringOp .add (mkS m) ⟨#[114, 111, 119]⟩).run Tryz.prog w = .ok (.string (mkS q)) w := A1
          simp only [List.length_cons, List.length_nil] at hq
          have HJ := hide hj; have HM := hide hm; have HB := hide hb; have HSh := hide hsh; have HQ := hide hq; have HJl := hide hjl; have HCu := hide cu; have HCg := hide cG; have HGs := hide (Nat.lt_of_lt_of_le hGs (Nat.le_refl _)); have HHm := hide hmem
          clear hj hm hsh hq hb hmem
          go_wp2
          rename World => w8
          go_loopw [3, 7] (fun s k wr => ∃ (c : Nat) (o : List UInt8), c ≤ rn ∧ k = .int .i64 c ∧ s = .string (mkS o) ∧ o.length ≤ i * 5000000 + 1000 + j * 2000 + 3 + c * 21 ∧ Below w8.heap.size w8 wr) (fun _ k _ => rn - (intOf k).toNat)
          case atStart => exact ⟨0, q, Nat.zero_le _, rfl, rfl, by have := unhide HQ; have := unhide HM; omega, Below.refl _ _⟩
          case round =>
            obtain ⟨x, o, hx, rfl, rfl, ho, hb⟩ := hrel
            have cu := (hb.cell (p := ⟨bx, 2, none⟩) zu).trans (unhide HCu)
            have zu2 : bx < wr.heap.size := Nat.lt_of_lt_of_le zu hb.size
            have cG := (hb.cell (p := ⟨G, j, none⟩) (unhide HGs)).trans (unhide HCg)
            have zG : G < wr.heap.size := Nat.lt_of_lt_of_le (unhide HGs) hb.size
            by_cases hxl : x < rn
            · have x1 : (x : Int) < (rn : Int) := by omega
              obtain ⟨b, N, v0, v1, N0, N1⟩ := unhide HSh x hxl
              have hr8 := (unhide HB).trans (hb.mono (unhide HB).size)
              have v0' := (hr8.cell (p := ⟨rg, x * 2, none⟩) (unhide HSz)).trans v0
              have v1' := (hr8.cell (p := ⟨rg, x * 2 + 1, none⟩) (unhide HSz)).trans v1
              have zr : rg < wr.heap.size := Nat.lt_of_lt_of_le (unhide HSz) hr8.size
              have HVT := hide (fun W => l3ValText_calls b N N0 N1 W)
              obtain ⟨p1, hp1, A1⟩ := cat_q o [32] (by simp; omega)
              replace A1 : ∀ w, (Op.stringOp .add (mkS o) ⟨#[32]⟩).run Tryz.prog w = .ok (.string (mkS p1)) w := A1
              simp only [List.length_cons, List.length_nil] at hp1
              have HHx := hide hx; have HHo := hide ho; have HHb := hide hb; have HP1 := hide hp1
              clear v0 v1 N0 N1 hr8 hx ho hb hp1
              go_wp2_with fail
              refine (unhide HVT _).mono ?_; rintro e w9 ⟨y, rfl, hy, hb9⟩
              obtain ⟨p2, hp2, A2⟩ := cat_q p1 y (by have := unhide HP1; have := unhide HHo; omega)
              have HE := hide (show p2.length ≤ i * 5000000 + 1000 + j * 2000 + 3 + (x + 1) * 21 by have := unhide HP1; have := unhide HHo; omega)
              have HHb2 := hide (bT (unhide HHb) hb9)
              clear hb9 HVT hp2 hy
              go_wp2
              go_roundw
              case rel => exact ⟨x + 1, p2, by omega, by go_num, rfl, unhide HE, unhide HHb2⟩
              case measure => simp [intOf]; omega
            · obtain rfl : x = rn := by omega
              obtain ⟨p1, hp1, A1⟩ := cat_q o [10] (by simp; omega)
              replace A1 : ∀ w, (Op.stringOp .add (mkS o) ⟨#[10]⟩).run Tryz.prog w = .ok (.string (mkS p1)) w := A1
              simp only [List.length_cons, List.length_nil] at hp1
              have HE := hide (show p1.length ≤ i * 5000000 + 1000 + (j + 1) * 2000 by omega)
              have HHb := hide ((unhide HB).trans (hb.mono (unhide HB).size))
              clear hb hp1 ho hx
              go_wp2
              go_roundw
              case rel => exact ⟨j + 1, p1, unhide HJl, by go_num, rfl, unhide HE, unhide HHb⟩
              case measure => have := unhide HJl; simp [intOf]; omega
        · obtain rfl : j = t.rs.length := by omega
          have HB := hide (bT (unhide HBw) hb)
          have HE := hide (show m.length ≤ (i + 1) * 5000000 by omega)
          have HCd2 := hide ((hb.cell (p := ⟨w.heap.size, 0, none⟩) (unhide HZ2)).trans (unhide HCd))
          have HZ3 := hide (Nat.lt_of_lt_of_le (unhide HZ2) hb.size)
          clear hb hm
          go_wp2
          go_roundw
          case rel => exact ⟨i + 1, m, unhide HLt, by go_num, rfl, unhide HE, unhide HCd2, unhide HZ3, unhide HB⟩
          case measure => have := unhide HLt; simp [intOf]; omega
    · obtain rfl : i = d.length := by omega
      go_wp2
      go_ret
      exact ⟨l, rfl, by omega, hb⟩
end Go.Proofs.YtbbjhepagkkjeaaGreatDoor
