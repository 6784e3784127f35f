import Derived.Test.YtbbjhepagkkjeaaGreatDoorDwTxt
import Derived.Test.YtbbjhepagkkjeaaGreatDoorQ36
import Derived.Test.YtbbjhepagkkjeaaGreatDoorQ37
import Derived.Test.YtbbjhepagkkjeaaGreatDoorQ45
import Derived.Test.YtbbjhepagkkjeaaGreatDoorRdSDb
import Derived.Test.YtbbjhepagkkjeaaGreatDoorQ0
import Derived.OpenShut
import Derived.ChangeSlices
import Derived.ChangeAt
import Derived.Deep.Slices
import Derived.Test.YtbbjhepagkkjeaaGreatDoorCards
import Derived.Test.YtbbjhepagkkjeaaGreatDoorTie
import Derived.Stop.Joined
import Derived.Lib.SmallJoins
import Derived.Lay
import Derived.ChangeMaps5
namespace Go.Proofs.YtbbjhepagkkjeaaGreatDoor
open Go Go.RowKit
theorem bytes_slice {w : World} {v : Value} {cs : List Nat} (h : IsBytes w v cs) : ∃ a cap, v = .slice a cs.length cap := by
  rcases h with ⟨rfl, a, cap, rfl⟩ | ⟨g, off, cap, rfl, _⟩
  · exact ⟨a, cap, rfl⟩
  · exact ⟨_, cap, rfl⟩
theorem srt_wide' {D : List (List V2)} {k : Nat} (hw : ∀ x ∈ D, x.length ≤ k) : ∀ x ∈ srt D, x.length ≤ k := fun x hx => by
  obtain ⟨y, hy, rfl⟩ := List.mem_map.1 ((srt_perm D).mem_iff.1 hx)
  rw [List.length_map]
  exact hw y hy
def ScanR (xss : List (List V2)) (w : World) (e : Ending) (w' : World) : Prop := (∃ G c, e = .returned (.tuple #[.slice (some ⟨G, 0, none⟩) (srt xss).length c, .bool true]) ∧ RowsE w' (some ⟨G, 0, none⟩) (srt xss)) ∧ Below w.heap.size w w'
theorem ScanE.rows {xss : List (List V2)} {w w' : World} {e : Ending} (h : ScanE xss w e w') : ScanR xss w e w' := by
  obtain ⟨G, c, qs, rfl, ho, hr, hm, hb⟩ := h
  have hl : qs.length = (srt xss).length := by rw [← hm]; simp
  exact ⟨⟨G, c, by rw [hl], Or.inr ⟨G, qs, rfl, ho.lt.1, ho.grid, hr, hm⟩⟩, hb⟩
structure LsI (w0 W : World) (bw bd : Nat) (a0 a1 : Option Addr) (c0 c1 : Nat) (ts : List Tb) : Prop where
  e0 : W.cell? ⟨bw, 0, none⟩ = some (.slice a0 ts.length c0)
  e1 : W.cell? ⟨bd, 0, none⟩ = some (.slice a1 ts.length c1)
  z0 : bw < W.heap.size
  z1 : bd < W.heap.size
  tc : TabsC W a0 ts
  te : TabsE W a1 ts
  tx : TabsX W a1 ts
  kw : TKw W
  pl : TPlan W
  low : Below w0.heap.size w0 W
theorem LsI.of {w0 W W1 : World} {bw bd : Nat} {a0 a1 : Option Addr} {c0 c1 : Nat} {ts : List Tb} (h : LsI w0 W bw bd a0 a1 c0 c1 ts) (hb : Below W.heap.size W W1) : LsI w0 W1 bw bd a0 a1 c0 c1 ts :=
  ⟨(hb.cell (p := ⟨bw, 0, none⟩) h.z0).trans h.e0, (hb.cell (p := ⟨bd, 0, none⟩) h.z1).trans h.e1, Nat.lt_of_lt_of_le h.z0 hb.size, Nat.lt_of_lt_of_le h.z1 hb.size, h.tc.of hb, h.te.of hb, h.tx.of hb, h.kw.of hb, h.pl.of hb, bT h.low hb⟩
set_option maxRecDepth 100000 in
set_option maxHeartbeats 8000000 in
theorem lawStored_calls (v : Value) (cs : List Nat) (w : World) (hv : IsBytes w v cs) (hl : (∀ b ∈ cs, b ≤ 255) ∧ cs.length ≤ maxLen) (hK : TKw w) (hTP : TPlan w) :
    Calls Tryz.prog 3 #[v] w fun e w' => e = .returned (.bool true) ∧ Below w.heap.size w w' := by
  obtain ⟨a, cap, rfl⟩ := bytes_slice hv
  by_cases c1 : (1048576 : Int) < (cs.length : Int)
  · clear hv hl hK hTP
    go_enter Tryz.func3, Tryz.ntmps3
    go_wp2
    go_ret
    exact ⟨rfl, Below.refl _ _⟩
  have HD := hide (DrawReadDb_calls (.slice a cs.length cap) cs w hv hl.1 (by omega))
  have HKw := hide hK; have HPl := hide hTP
  clear hv hl hK hTP
  go_enter Tryz.func3, Tryz.ntmps3
  go_wp2_with fail
  refine (unhide HD).mono ?_; rintro e w1 ⟨l, rfl, hb1⟩
  have HB1 := hide hb1
  clear HD hb1
  generalize mkS l = T at *
  have HS := hide (fun W => (sReadDb_calls T W).mono (fun _ _ hp => hp.res))
  have HI := hide (fun W (hb : Below w.heap.size w W) => (ReadDb_calls T W ((unhide HKw).of hb)).mono (fun _ _ hp => hp.res))
  have hsm := dbRes_small T
  have hco := dbRes_code T
  generalize (dbRes T).2 = code at *
  generalize (dbRes T).1 = ts at *
  have ec : ((code : Int) != code) = false := by simp
  have hn0 : ts.length ≤ 1048576 := by omega
  have HCo := hide hco; have HSm := hide hsm
  clear hco hsm
  go_wp2_with fail
  refine (unhide HS _).mono ?_; rintro e w2 ⟨⟨a0, c0, lab0, cs0, B0, rfl, hB0, hT0⟩, hb2⟩
  have HB2 := hide (bT (unhide HB1) hb2)
  have HT0 := hide hT0
  clear HS hT0 hb2 HB1
  go_wp2_with fail
  refine (unhide HI _ (by (repeat (first | exact unhide HB2 | refine Below.setCell ?_ (by dsimp only; omega) _ | refine bA ?_ _)))).mono ?_
  rintro e w3 ⟨⟨a1, c1', lab1, cs1, B1, rfl, hB1, hT1⟩, hb3⟩
  have hal := bA (Below.refl w3.heap.size w3) (.cells #[.slice a1 ts.length c1'] 26)
  have p0 : w3.cell? ⟨w2.heap.size, 0, none⟩ = some (.slice a0 ts.length c0) := (hb3.cell (p := ⟨w2.heap.size, 0, none⟩) (by simp)).trans (by simp [go_sem])
  have s23 : w2.heap.size + 1 ≤ w3.heap.size := by have := hb3.size; simpa using this
  have hb23 : Below w2.heap.size w2 w3 := bT (bA (Below.refl _ _) (.cells #[.slice a0 ts.length c0] 26)) hb3
  have HJ : Hid (LsI w (w3.alloc (.cells #[.slice a1 ts.length c1'] 26)) w2.heap.size w3.heap.size a0 a1 c0 c1' ts) :=
    ⟨(hal.cell (p := ⟨w2.heap.size, 0, none⟩) (by dsimp only; omega)).trans p0, by simp [go_sem], by simp; omega, by simp, (((unhide HT0).tabsC.of hb23).of hal), hT1.tabsE.of hal, hT1.tabsX.of hal, (unhide HKw).of (bT (bT (unhide HB2) hb23) hal), (unhide HPl).of (bT (bT (unhide HB2) hb23) hal), bT (bT (unhide HB2) hb23) hal⟩
  clear hT1 hb3 hal p0 hb23 HT0 HI HB2 HKw HPl hB0 hB1
  have x0 := (unhide HJ).e0; have x1 := (unhide HJ).e1; have y0 := (unhide HJ).z0; have y1 := (unhide HJ).z1
  rcases unhide HCo with ⟨hc0, hdv⟩ | ⟨hc0, hnil⟩
  case inr =>
    subst hnil
    have j1 : ((code : Int) != 0) = true := by simpa using hc0
    have HLow := hide (unhide HJ).low
    clear HCo HSm HJ
    simp only [List.length_nil] at x1
    go_wp2
    go_ret
    exact ⟨rfl, unhide HLow⟩
  subst hc0
  have HDv := hide hdv
  have hsT : SmallT ts := by have := unhide HSm; unfold SmallT; omega
  have HST := hide hsT
  have htr : dB (DbV ts) = true := dB_true hdv
  have HOk := hide (fun W (hW : LsI w W w2.heap.size w3.heap.size a0 a1 c0 c1' ts) => DbOk_X ts a1 c1' W hW.tx hn0 hsT hW.kw)
  rw [htr] at HOk
  clear hdv hsT htr HCo
  go_upto_region 6 with fail
  generalize (w3.alloc (.cells #[.slice a1 ts.length c1'] 26)) = W at *
  go_wp2_with fail
  refine (unhide HOk W (unhide HJ)).mono ?_; rintro e w4 ⟨rfl, hb4⟩
  have HJ4 := hide ((unhide HJ).of hb4)
  have el : ((ts.length : Int) != (ts.length : Int)) = false := by simp
  clear HJ HOk hb4 x0 x1 y0 y1
  have x0 := (unhide HJ4).e0; have x1 := (unhide HJ4).e1; have y0 := (unhide HJ4).z0; have y1 := (unhide HJ4).z1
  go_wp2
  go_loopw [8] (fun c wr => ∃ k : Nat, k ≤ ts.length ∧ c = .int .i64 k ∧ LsI w wr w2.heap.size w3.heap.size a0 a1 c0 c1' ts) (fun c _ => ts.length - (intOf c).toNat)
  case atStart => exact ⟨0, Nat.zero_le _, rfl, unhide HJ4⟩
  case round =>
    clear HJ4 x0 x1 y0 y1
    obtain ⟨k, hk, rfl, hJ⟩ := hrel
    have x0 := hJ.e0; have x1 := hJ.e1; have y0 := hJ.z0; have y1 := hJ.z1
    by_cases hlt : k < ts.length
    · have j1 : (k : Int) < (ts.length : Int) := by omega
      obtain ⟨g0, ua0, uc0, ra0, q0, q1, q2, q3, q4, q5⟩ := hJ.tc k hlt
      obtain ⟨g1, ua1, uc1, ra1, r0, r1, r2, r3, r4⟩ := hJ.te k hlt
      subst ra0 ra1
      have hbm := bulkT_mem (List.getElem_mem hlt)
      have hlr : (ts[k]).Rows.length ≤ 20001 := by have := unhide HSm; omega
      have hbr : ∀ x ∈ (ts[k]).Rows, x.length ≤ 1048576 := fun x hx => by have := bulk_mem hx; have := unhide HSm; omega
      have HEv := hide (fun W (hW : LsI w W w2.heap.size w3.heap.size (some ⟨g0, 0, none⟩) (some ⟨g1, 0, none⟩) c0 c1' ts) g (hg : ScanAt W g k) => (EvalPlan_scan ts g k 1 g1 c1' W hg hW.tx hW.te hlt hn0 (unhide HST) (unhide HDv) hW.kw hW.pl).mono (fun _ _ h => h.rows))
      have HQ5 := hide q4; have HC5 := hide q5; have HR4 := hide r4; have HBr := hide hbr
      have HLr := hide hlr
      clear q4 q5 r4 hbr hbm hlr
      generalize (ts[k]).Rows = xss at *
      generalize (ts[k]).Name = N at *
      generalize (ts[k]).Cols = C at *
      have eC : ((C : Int) != C) = false := by simp
      have hJa := hJ.of (bA (Below.refl wr.heap.size wr) (.cells #[.string N, .int .i64 C, .slice ua0 xss.length uc0] 32))
      have hb5 := bA (Below.refl wr.heap.size wr) (.cells #[.string N, .int .i64 C, .slice ua0 xss.length uc0] 32)
      have HQ6 := hide ((unhide HQ5).of hb5); have HR5 := hide ((unhide HR4).of hb5)
      have HJa := hide hJa
      clear hJ hJa HQ5 HR4
      go_upto_region 16 with fail
      have v0 := (hb5.cell (p := ⟨w2.heap.size, 0, none⟩) y0).trans x0
      have v1 := (hb5.cell (p := ⟨w3.heap.size, 0, none⟩) y1).trans x1
      have v2 := (hb5.cell (p := ⟨g1, k * 3, none⟩) r0).trans r1
      have v3 := (hb5.cell (p := ⟨g1, k * 3 + 1, none⟩) r0).trans r2
      have v4 := (hb5.cell (p := ⟨g1, k * 3 + 2, none⟩) r0).trans r3
      obtain ⟨t0, t1, t2, s5⟩ := (fun Q (hQ : (wr.alloc (.cells #[.string N, .int .i64 C, .slice ua0 xss.length uc0] 32)) = Q) => (by subst hQ; exact ⟨by simp [go_sem], by simp [go_sem], by simp [go_sem], by simp⟩ : Q.cell? ⟨wr.heap.size, 0, none⟩ = some (.string N) ∧ Q.cell? ⟨wr.heap.size, 1, none⟩ = some (.int .i64 C) ∧ Q.cell? ⟨wr.heap.size, 2, none⟩ = some (.slice ua0 xss.length uc0) ∧ Q.heap.size = wr.heap.size + 1)) _ rfl
      generalize (wr.alloc (.cells #[.string N, .int .i64 C, .slice ua0 xss.length uc0] 32)) = W5 at *
      have y2 : wr.heap.size < W5.heap.size := by omega
      have y3 : w2.heap.size < W5.heap.size := by omega
      have y4 : w3.heap.size < W5.heap.size := by omega
      have y5 : g1 < W5.heap.size := by omega
      generalize wr.heap.size = bt at *
      clear hb5 x0 x1 y0 y1 q0 q1 q2 q3 r0 r1 r2 r3 s5
      have HSm5 := hide (fun W (hb : Below W5.heap.size W5 W) => lwSameE ua1 ua0 uc1 uc0 W ((unhide HR5).of hb) ((unhide HQ6).of hb) (by have := unhide HLr; omega) (unhide HBr))
      have h1 := Below.refl W5.heap.size W5
      have h2 := h1
      go_region_held3 (Std W5) (repeat (first | with_reducible assumption | with_reducible exact Std.refl _ | with_reducible refine Std.drew ?_ | with_reducible refine Std.alloc ?_ _ | with_reducible refine Std.setCell ?_ ?_ _ | with_reducible refine Std.call ?_ (by with_reducible assumption) | (simp <;> omega) | omega)) (first | (go_at_call 8; refine (unhide HSm5 _ (by first | exact h2 | exact h2.drew | exact (Below.refl _ _).drew | exact Below.refl _ _)).mono ?_; rintro e w1 ⟨rfl, hb⟩; (first | have n3 := bT h2 hb | have n3 := bT (bA h2 _) hb | have n3 := bT (Below.drew h2) hb | have n3 := bT (Below.drew (bA h2 _)) hb | have n3 := bT (bA (Below.drew h2) _) hb); (first | have n2 := bT h1 hb | have n2 := bT (bA h1 _) hb | have n2 := bT (Below.drew h1) hb | have n2 := bT (Below.drew (bA h1 _)) hb | have n2 := bT (bA (Below.drew h1) _) hb); obtain ⟨c1, f1⟩ := bcell hb; obtain ⟨c2, f2⟩ := bcell n2; obtain ⟨c3, f3⟩ := bcell n3; have hs := hb.size; (try simp at hs); clear h1 h2; have h1 := hb; have h2 := n2; clear n2 hb))
      obtain ⟨w6, hw6⟩ : ∃ w6, w6 = w1 := ⟨_, rfl⟩
      subst hw6
      have HJ6 := hide ((unhide HJa).of h2)
      have HQ7 := hide ((unhide HQ6).of h2)
      have t6 := (h2.cell (p := ⟨bt, 2, none⟩) y2).trans t2
      have z6 : bt < w6.heap.size := Nat.lt_of_lt_of_le y2 h2.size
      have p6 := (unhide HJ6).e1
      have pz := (unhide HJ6).z1
      clear v0 v1 v2 v3 v4 t0 t1 t2 y2 y3 y4 y5 HSm5 HJa HQ6 HR5
      have hal6 := bA (Below.refl w6.heap.size w6) (.cells #[.int .i64 2, .int .i64 (k : Int), .int .i64 0, .slice none 0 0, .slice none 0 0, .int .i64 0, .int .i64 0] 39)
      have hsc : ScanAt (w6.alloc (.cells #[.int .i64 2, .int .i64 (k : Int), .int .i64 0, .slice none 0 0, .slice none 0 0, .int .i64 0, .int .i64 0] 39)) w6.heap.size k :=
        ⟨by simp, by simp [go_sem], by simp [go_sem], by simp [go_sem], by simp [go_sem], by simp [go_sem], by simp [go_sem], by simp [go_sem]⟩
      have HE := hide (unhide HEv _ ((unhide HJ6).of hal6) w6.heap.size hsc)
      have HA6 := hide hal6
      clear hsc hal6 HEv
      go_wp2_with fail
      refine (unhide HE).mono ?_; rintro e w7 ⟨⟨G7, c7, rfl, hR7⟩, hb7⟩
      have hb67 := bT (unhide HA6) hb7
      have HJ7 := hide ((unhide HJ6).of hb67)
      have t7 := (hb67.cell (p := ⟨bt, 2, none⟩) z6).trans t6
      have z7 : bt < w7.heap.size := Nat.lt_of_lt_of_le z6 hb67.size
      have HSo := hide (sSortE ua0 uc0 w7 ((unhide HQ7).of hb67) (unhide HC5) (by have := unhide HLr; omega) (unhide HBr))
      have HR7 := hide hR7
      have hEl : (srt xss).length ≤ 1048576 := by rw [srt_length]; have := unhide HLr; omega
      have HEw := hide (srt_wide' (unhide HBr))
      clear hb7 hb67 hR7 HE HA6 HJ6 HQ7 t6 z6 p6 pz
      go_wp2_with fail
      refine (unhide HSo).mono ?_; rintro e w8 ⟨⟨G8, c8, rfl, hR8⟩, hb8⟩
      have HJ8 := hide ((unhide HJ7).of hb8)
      have HSa := hide (lwSameE (some ⟨G7, 0, none⟩) (some ⟨G8, 0, none⟩) c7 c8 w8 ((unhide HR7).of hb8) hR8 hEl (unhide HEw))
      clear hb8 hR8 HSo HR7 HJ7
      go_wp2_with fail
      refine (unhide HSa).mono ?_; rintro e w9 ⟨rfl, hb9⟩
      have HJ9 := hide ((unhide HJ8).of hb9)
      clear hb9 HSa HJ8
      go_wp2
      go_roundw
      case rel => exact ⟨k + 1, by omega, by go_num, unhide HJ9⟩
      case measure => simp [intOf]; omega
    · have j1 : ¬ (k : Int) < (ts.length : Int) := by omega
      have HLow := hide hJ.low
      clear hJ
      go_wp2
      go_ret
      exact ⟨rfl, unhide HLow⟩
end Go.Proofs.YtbbjhepagkkjeaaGreatDoor
namespace Go.Proofs.YtbbjhepagkkjeaaGreatDoor
open Go Go.RowKit Go.WideShapes Go.ChangeShapes Go.ChangeAt
set_option maxRecDepth 100000 in
theorem open_bytes {H : Type} {enc : TypeId × Value → H} {w : World} {base : Nat} {v : Value} {d : DataW H} {p : List MemPlace} (hv : Value.okWide Tryz.prog w .any base 22 v)
    (h : DataW.Trod enc Tryz.prog w 0 (fun _ => true) true 22 v d p) : ∃ cs, IsBytes w v cs ∧ ((∀ b ∈ cs, b ≤ 255) ∧ cs.length ≤ maxLen) := by
  obtain ⟨a1, len, cap, rfl⟩ := okWide_slice Tryz.underlying22 hv
  obtain ⟨fuel, hf⟩ := h
  rcases open_ints Tryz.underlying22 Tryz.underlying5 (by kernel_rfl) hf with ⟨hcs, hx⟩ | ⟨a, len', cap', zs, hcs, _, hl, hm, hz, hx, hcell, hwz⟩
  · simp [Value.cells] at hcs
    obtain ⟨rfl, rfl, rfl⟩ := hcs
    exact ⟨[], Or.inl ⟨rfl, _, _, rfl⟩, by simp, by simp⟩
  · simp [Value.cells] at hcs
    obtain ⟨rfl, rfl, rfl⟩ := hcs
    simp only [if_true] at hz
    have hzl : len ≤ zs.length := by omega
    have hlen : ((zs.take len).map Int.toNat).length = len := by simp; omega
    have hget : ∀ i, i < len → zs[i]?.getD 0 = zs.getD i 0 := fun i _ => by rw [List.getD_eq_getElem?_getD]
    by_cases h0 : len = 0
    · subst h0
      exact ⟨[], Or.inl ⟨rfl, _, _, rfl⟩, by simp, by simp⟩
    obtain ⟨g, off, spot⟩ := a
    have hspot : spot = none := by simpa [Addr.add] using World.cell?_spot (hcell 0 (by omega))
    subst hspot
    refine ⟨(zs.take len).map Int.toNat, Or.inr ⟨g, off, cap, by rw [hlen], by omega, ?_, fun i b hi => ?_⟩, fun b hb => ?_, by omega⟩
    · have := hcell 0 (by omega)
      rw [Addr.add_lit] at this
      exact World.block_lt_of_cell? w _ this
    · have hil := (List.getElem?_eq_some_iff.1 hi).1
      rw [hlen] at hil
      have hc := hcell i (by omega)
      rw [Addr.add_lit] at hc
      rw [hc]
      have hr := range_u8 hwz i
      rw [List.getElem?_map, List.getElem?_take, if_pos hil, List.getElem?_eq_getElem (by omega)] at hi
      rw [List.getElem?_eq_getElem (by omega)] at hr
      simp at hi hr
      rw [List.getD_eq_getElem?_getD, List.getElem?_eq_getElem (by omega)]
      simp
      omega
    · obtain ⟨z, hz', rfl⟩ := List.mem_map.1 hb
      obtain ⟨i, hi, rfl⟩ := List.mem_iff_getElem.1 (List.mem_of_mem_take hz')
      have hr := range_u8 hwz i
      rw [List.getElem?_eq_getElem hi] at hr
      simp at hr
      omega
end Go.Proofs.YtbbjhepagkkjeaaGreatDoor
namespace Go.Proofs.YtbbjhepagkkjeaaGreatDoor.fnStored
open Go.ChangeShapes Go.WideShapes Go.ChangeAt Go.RowKit Go.Joins
theorem own : ownKnob Tryz.prog.godebug = none := by kernel_rfl
theorem laidOut : laidOutB Tryz.prog = true := by kernel_rfl
theorem hTKw {W : World} (h : laidMetH Tryz.prog Rows.fnStoredRow.laid W) : TKw W := by
  obtain ⟨h1, h2⟩ := Tables.cells_of_laid (n := "loop.example/s0035/impl.keywords") (d := Rows.laid_loop_example_s0035_impl_keywords) h (by kernel_rfl) (by simp [Rows.fnStoredRow]) (g := 1) (t := 162) (by kernel_rfl) (by kernel_rfl) 4 (by kernel_rfl)
  exact ⟨h1, h2⟩
theorem hTPlan {W : World} (h : laidMetH Tryz.prog Rows.fnStoredRow.laid W) : TPlan W := by
  obtain ⟨h1, h2⟩ := Tables.cells_of_laid (n := "loop.example/s0035/impl.planFields") (d := Rows.laid_loop_example_s0035_impl_planFields) h (by kernel_rfl) (by simp [Rows.fnStoredRow]) (g := 0) (t := 150) (by kernel_rfl) (by kernel_rfl) 4 (by kernel_rfl)
  exact ⟨h1, h2⟩
set_option maxRecDepth 100000 in
theorem lifted (os : Os) (started : os.Started) (H : Type) (enc : TypeId × Value → H) :
    ReturnsInHanded {} Tryz.checked os 3 .any (fun w args => (Rows.fnStoredSpec.pre enc Tryz.prog Tryz.f3 [] false w args ∧ laidMetH Tryz.prog Rows.fnStoredRow.laid w) ∧ sizedMet enc Tryz.prog Tryz.f3 (OpenSpec.ofChange Rows.fnStoredSpec) false w args)
      (Rows.fnStoredSpec.post enc Tryz.prog Tryz.f3 false true false false) := by
  refine returnsInHanded_of_change_and (C := Tryz.checked) (X := fun w _ => laidMetH Tryz.prog Rows.fnStoredRow.laid w) (fun _ _ _ hh h => h.of_heap hh) own started (by kernel_rfl) Tryz.func3
    (ChangeSpec.witness_shaped (enc := enc) (C := Tryz.checked) (os := os) (X := fun w _ => laidMetH Tryz.prog Rows.fnStoredRow.laid w) false (World.laidAll Tryz.prog os Rows.fnStoredRow.laid) #[.slice none 0 0] 8 (World.laidAll_os _ _ _)
      (World.shaped_of_ZipB (by kernel_rfl) (by kernel_rfl)) (by kernel_rfl) (by kernel_rfl) (by kernel_rfl)
      (by rw [MakeChecks.laidMetH_plain _ _ _ (by kernel_rfl)]; exact laidMet_laidAll _ (by kernel_rfl) (by kernel_rfl))) ?_
  intro W base args ds gs before hval0 hW _ _ hL _
  have hval : ∀ (j : Nat) t v, Tryz.f3.params[j]? = some t → args[j]? = some v → Value.okWide Tryz.prog W .any base t v := hval0
  have hW' := hW
  obtain ⟨p, q, hA0, hV, rfl, hfz, hnd⟩ := hW
  have hA : DataW.TrodAll enc Tryz.prog W 0 (fun _ => true) true Tryz.f3.params.toList args.toList ds p := hA0
  rw [Tryz.params3] at hA hval
  obtain ⟨v0, vs0, d0, ds0, p0, q0, hargs, rfl, rfl, h0, r0⟩ := trodAll_cons hA
  obtain ⟨rfl, rfl, rfl⟩ := trodAll_nil r0
  obtain rfl : args = #[v0] := by cases args; simp_all
  obtain ⟨xs0, hr0, hl0⟩ := open_bytes (hval 0 22 v0 rfl rfl) h0
  refine (lawStored_calls v0 xs0 W hr0 hl0 (hTKw hL) (hTPlan hL)).mono fun e W' ⟨he, hb⟩ => ?_
  subst he
  obtain ⟨g0, g1, g2, rfl⟩ := Frame.len3 (Frame.trodVars_length hV)
  exact ⟨_, rfl, Frame.law_post laidOut (by kernel_rfl) (by kernel_rfl) (by kernel_rfl) Tryz.underlying4 hW' rfl hb⟩
theorem said : Rows.FnStoredSaid :=
  OpenClaim.holds_of_wide 3 Tryz.f3 rfl rfl rfl rfl rfl rfl rfl ⟨rfl, rfl, rfl, rfl, rfl⟩ rfl rfl rfl rfl rfl (by kernel_rfl) Tryz.func3 (by kernel_rfl)
    (of_decide_eq_true (by kernel_rfl)) (by unfold Func.isWrapper; first | (rw [if_pos (by decide +kernel)]; kernel_rfl) | (rw [if_neg (by decide +kernel)]; exact ⟨rfl, rfl⟩))
    (fun os started H enc _ => lifted os started H enc)
theorem plain (f : FuncId) (fn : Func) (hf : Tryz.pinned.checked.prog.funcNamed "loop.example/s0035/laws.FnStored" = some f) (hfn : Tryz.pinned.checked.prog.funcs[f]? = some fn) :
    true = Tryz.pinned.checked.prog.looks [] ∧ ∀ (j : Nat) t, fn.params[j]? = some t → Tryz.pinned.checked.prog.wantsStandIn t = false := by
  obtain rfl : f = 3 := Option.some.inj ((show Tryz.prog.funcNamed "loop.example/s0035/laws.FnStored" = some 3 by kernel_rfl).symm.trans hf) |>.symm
  obtain rfl : fn = Tryz.f3 := (Option.some.inj (Tryz.func3.symm.trans hfn)).symm
  have hall : (Tryz.f3.params.toList.all fun u => !Tryz.prog.wantsStandIn u) = true := by kernel_rfl
  refine ⟨by kernel_rfl, fun j t ht => ?_⟩
  have := List.all_eq_true.1 hall t (Array.mem_toList_iff.2 (Array.mem_of_getElem? ht))
  exact (show Tryz.prog.wantsStandIn t = false by simpa using this)
theorem card : Rows.FnStoredCardSaid :=
  Claim7.holds_tied_plain_at .later [] _ _ _ _ said (fun _ h => by cases h) (by kernel_rfl) (fun _ h => by cases h) fnStored_row_tie rfl ⟨rfl, rfl⟩ (by kernel_rfl) rfl plain (by kernel_rfl)
end Go.Proofs.YtbbjhepagkkjeaaGreatDoor.fnStored
namespace Go.Proofs.YtbbjhepagkkjeaaGreatDoor
theorem fnStored_card : Rows.FnStoredCardSaid := fnStored.card
end Go.Proofs.YtbbjhepagkkjeaaGreatDoor
