import Derived.Test.YtbbjhepagkkjeaaGreatDoorQ29
import Derived.Test.YtbbjhepagkkjeaaGreatDoorQ35
import Derived.Test.YtbbjhepagkkjeaaGreatDoorQ11
import Derived.Test.YtbbjhepagkkjeaaGreatDoorQ33
import Derived.Test.YtbbjhepagkkjeaaGreatDoorQ27
import Derived.Test.YtbbjhepagkkjeaaGreatDoorQ5
import Derived.BigQuiet
import Derived.Deep.RegionHeld3
import Derived.Deep.DeepCutAuto
import Derived.Test.YtbbjhepagkkjeaaGreatDoorQ34
import Derived.Test.YtbbjhepagkkjeaaGreatDoorQ0
import Derived.Test.YtbbjhepagkkjeaaGreatDoorQ30
import Derived.Test.YtbbjhepagkkjeaaGreatDoorQ3
namespace Go.Proofs.YtbbjhepagkkjeaaGreatDoor
open Go Go.RowKit
structure KF (s g np cap : Nat) (K T M L R : Int) (v3 v4 : Value) (W : World) : Prop where
  p : W.cell? ⟨s, 0, none⟩ = some (.slice (some ⟨g, 0, none⟩) np cap)
  k : W.cell? ⟨s + 1, 0, none⟩ = some (.int .i64 K)
  l : W.cell? ⟨s + 1, 5, none⟩ = some (.int .i64 L)
  r : W.cell? ⟨s + 1, 6, none⟩ = some (.int .i64 R)
  sz : s + 1 < W.heap.size
theorem KF.of {s g np cap : Nat} {K T M L R : Int} {v3 v4 : Value} {W W1 : World} (h : KF s g np cap K T M L R v3 v4 W) (hb : Below W.heap.size W W1) : KF s g np cap K T M L R v3 v4 W1 := by
  have hs := h.sz
  exact ⟨(hb.cell (p := ⟨s, 0, none⟩) (show s < _ by omega)).trans h.p, (hb.cell (p := ⟨s + 1, 0, none⟩) hs).trans h.k, (hb.cell (p := ⟨s + 1, 5, none⟩) hs).trans h.l, (hb.cell (p := ⟨s + 1, 6, none⟩) hs).trans h.r, Nat.lt_of_lt_of_le hs hb.size⟩
end Go.Proofs.YtbbjhepagkkjeaaGreatDoor
namespace Go.Proofs.YtbbjhepagkkjeaaGreatDoor
open Go Go.RowKit
end Go.Proofs.YtbbjhepagkkjeaaGreatDoor
namespace Go.Proofs.YtbbjhepagkkjeaaGreatDoor
open Go Go.RowKit
end Go.Proofs.YtbbjhepagkkjeaaGreatDoor
namespace Go.Proofs.YtbbjhepagkkjeaaGreatDoor
open Go Go.RowKit
end Go.Proofs.YtbbjhepagkkjeaaGreatDoor
namespace Go.Proofs.YtbbjhepagkkjeaaGreatDoor
open Go Go.RowKit
def RowsE (w : World) (ua : Option Addr) (xss : List (List V2)) : Prop := xss = [] ∨ ∃ (G : Nat) (rs : List R3), ua = some ⟨G, 0, none⟩ ∧ G < w.heap.size ∧ GridAt w G 0 rs ∧ RowsOk w rs ∧ rs.map kR = xss
theorem RowsE.of {w w1 : World} {ua : Option Addr} {xss : List (List V2)} (h : RowsE w ua xss) (hb : Below w.heap.size w w1) : RowsE w1 ua xss := by
  rcases h with h | ⟨G, rs, h1, h2, h3, h4, h5⟩
  · exact Or.inl h
  · exact Or.inr ⟨G, rs, h1, Nat.lt_of_lt_of_le h2 hb.size, h3.of h2 hb, h4.of hb, h5⟩
def TabsE (w : World) (a : Option Addr) (ts : List Tb) : Prop := ∀ (i : Nat) (hi : i < ts.length), ∃ g ua uc, a = some ⟨g, 0, none⟩ ∧ g < w.heap.size ∧ w.cell? ⟨g, i * 3, none⟩ = some (.string (ts[i]).Name) ∧ w.cell? ⟨g, i * 3 + 1, none⟩ = some (.int .i64 (ts[i]).Cols) ∧ w.cell? ⟨g, i * 3 + 2, none⟩ = some (.slice ua (ts[i]).Rows.length uc) ∧ RowsE w ua (ts[i]).Rows
theorem TabsE.of {w w1 : World} {a : Option Addr} {ts : List Tb} (h : TabsE w a ts) (hb : Below w.heap.size w w1) : TabsE w1 a ts := fun i hi => by
  obtain ⟨g, ua, uc, h1, h2, h3, h4, h5, h6⟩ := h i hi
  exact ⟨g, ua, uc, h1, Nat.lt_of_lt_of_le h2 hb.size, (hb.cell (p := ⟨g, i * 3, none⟩) h2).trans h3, (hb.cell (p := ⟨g, i * 3 + 1, none⟩) h2).trans h4, (hb.cell (p := ⟨g, i * 3 + 2, none⟩) h2).trans h5, h6.of hb⟩
theorem RowsL.grid {w : World} {lab : Lt} {B i G n c : Nat} {rs : List R3} (h : RowsL w lab B i (.slice (some ⟨G, 0, none⟩) n c) rs) : G < w.heap.size ∧ GridAt w G 0 rs ∧ RowsOk w rs := by
  refine ⟨(h.1.lt G rfl).2, fun j r hr => ?_, fun r hr => ?_⟩
  · have hj := (List.getElem?_eq_some_iff.1 hr).1
    rcases h.1.2 with ⟨h1, _⟩ | ⟨G', cap', cur', h1, _⟩
    · simp at h1
    · have ho := h.1
      simp only [Value.slice.injEq, Option.some.injEq, Addr.mk.injEq, and_true] at h1
      obtain ⟨rfl, rfl, rfl⟩ := h1
      rw [Nat.zero_add, ho.cellAt j (by omega), List.getElem?_map, hr]
      rfl
  · obtain ⟨j, hj, rfl⟩ := List.getElem_of_mem hr
    obtain ⟨_, l2, l3⟩ := h.2.2 j _ (List.getElem?_eq_getElem hj)
    exact ⟨l2, l3⟩
theorem RowsL.form {w : World} {lab : Lt} {B i : Nat} {u : Value} {rs : List R3} (h : RowsL w lab B i u rs) : (∃ uc, u = .slice none rs.length uc ∧ rs = []) ∨ ∃ G uc, u = .slice (some ⟨G, 0, none⟩) rs.length uc := by
  rcases h.1.2 with ⟨h1, h2⟩ | ⟨G, cap, cur, h1, _⟩
  · exact Or.inl ⟨0, by rw [h1, h2], List.length_eq_zero_iff.1 h2⟩
  · exact Or.inr ⟨G, cap, h1⟩
theorem TabG.tabsE {w : World} {lab : Lt} {B : Nat} {a : Option Addr} {n c : Nat} {cs : List Value} {ts : List Tb} (h : TabG w lab B (.slice a n c) cs ts) : TabsE w a ts := fun i hi => by
  obtain ⟨u, rs, c0, c1, c2, hm, hr⟩ := h.tab i ts[i] (List.getElem?_eq_getElem hi)
  rcases h.own.2 with ⟨_, h2⟩ | ⟨g, cap, cur, h1, _, h3, _⟩
  · omega
  · have ho := h.own
    rw [h1] at ho
    simp only [Value.slice.injEq] at h1
    have hl : rs.length = (ts[i]).Rows.length := by rw [← hm]; simp
    rcases hr.form with ⟨uc, hu, hrs⟩ | ⟨G, uc, hu⟩
    · subst hu
      exact ⟨g, none, uc, h1.1, (Array.getElem?_eq_some_iff.1 h3).1, by rw [ho.cellAt _ (by omega)]; exact c0, by rw [ho.cellAt _ (by omega)]; exact c1, by rw [ho.cellAt _ (by omega), c2, hl], Or.inl (by rw [← hm, hrs]; rfl)⟩
    · subst hu
      obtain ⟨g1, g2, g3⟩ := hr.grid
      exact ⟨g, some ⟨G, 0, none⟩, uc, h1.1, (Array.getElem?_eq_some_iff.1 h3).1, by rw [ho.cellAt _ (by omega)]; exact c0, by rw [ho.cellAt _ (by omega)]; exact c1, by rw [ho.cellAt _ (by omega), c2, hl], Or.inr ⟨G, rs, rfl, g1, g2, g3, hm⟩⟩
end Go.Proofs.YtbbjhepagkkjeaaGreatDoor
namespace Go.Proofs.YtbbjhepagkkjeaaGreatDoor
open Go Go.RowKit
set_option maxRecDepth 100000 in
set_option maxHeartbeats 2000000 in
theorem run_scan0 {w0 : World} {n m : Nat} (ua : Option Addr) (uc : Nat) :
    RunsAs w0 107 (.agg #[.slice ua 0 uc]) n m (fun _ => []) := by
  refine ⟨fun y hy z hz => by simp at hz, 166, _, meet_scan _, ?_⟩
  intro gf caps T St Fin hG h r M W hB hL hn hR hT hS
  have hb1 := bA (Below.refl W.heap.size W) (.cells #[.slice ua 0 uc] 107)
  have hst0 := hG.keep _ _ _ _ hS hb1
  have HS0 := hide hst0; have HB1 := hide hb1; have HL := hide hL
  clear hG hB hL hR hT hS hb1 hst0 hn
  have HRV : Hid (rvO r = .slice (rA r) r.2.2.length r.2.1) := rfl
  rw [unhide HRV]
  go_enter Tryz.func166, Tryz.ntmps166
  go_wp2
  refine wp_loop_rounds 1 ?_
  rw [rounds_succ]
  go_wp2
  go_ret
  exact ⟨M, true, rfl, GV.ofBelow (unhide HB1), Or.inl ⟨rfl, by simpa using unhide HS0, (unhide HL).of (unhide HB1).size⟩⟩
theorem scan_runs {w : World} {ua : Option Addr} {uc m : Nat} {xss : List (List V2)} (h : RowsE w ua xss) (hw : ∀ xs ∈ xss, xs.length = m) (hm : m ≤ 1000) (hl : xss.length ≤ 1048576) :
    ∃ R, RunsAs w 107 (.agg #[.slice ua xss.length uc]) 0 m R ∧ R [] = xss := by
  rcases h with rfl | ⟨G, rs, rfl, hG, hgr, hro, rfl⟩
  · exact ⟨fun _ => [], run_scan0 ua uc, rfl⟩
  · refine ⟨fun y => (rs.map kR).map fun q => y ++ q, ?_, by simp⟩
    rw [List.length_map]
    refine run_scan (m' := m) rs hG hgr (fun q hq => ⟨(hro q hq).1.size, (hro q hq).1.held, ?_⟩) (by omega) hm (by simpa using hl)
    exact hw _ (List.mem_map.2 ⟨q, hq, rfl⟩)
def ScanE (xss : List (List V2)) (w : World) (e : Ending) (w' : World) : Prop := ∃ G c qs, e = .returned (.tuple #[.slice (some ⟨G, 0, none⟩) qs.length c, .bool true]) ∧ OwnG w' w.heap.size G c qs ∧ RowsOk w' qs ∧ qs.map kR = srt xss ∧ Below w.heap.size w w'
set_option maxRecDepth 100000 in
set_option maxHeartbeats 4000000 in
theorem EvalPlan_scan (ts : List Tb) (g T cap gt capt : Nat) (w : World) (h : ScanAt w g T) (ht : TabsX w (some ⟨gt, 0, none⟩) ts) (he : TabsE w (some ⟨gt, 0, none⟩) ts) (hTl : T < ts.length) (lt : ts.length ≤ 1048576) (hsm : SmallT ts) (hd : DbV ts) (hTK : TKw w) (hTP : TPlan w) :
    Calls Tryz.prog 9 #[.agg #[.slice (some ⟨g, 0, none⟩) 1 cap], .agg #[.slice (some ⟨gt, 0, none⟩) ts.length capt]] w (ScanE (ts[T]).Rows w) := by
  have HC := hide (fun W (hb : Below w.heap.size w W) => checkPlan_scan ts g T cap gt capt W (h.of hb) (ht.of hb) hTl lt hsm hd (hTK.of hb) (hTP.of hb))
  obtain ⟨g', ua, uc, hg', hgt, x1, x2, c2, hrE⟩ := he T hTl
  obtain rfl : gt = g' := by simpa using hg'
  have hn : (ts[T]).Rows.length ≤ 1000 := by
    have h1 := hd.rows
    have h2 := sumR_append (ts.take T) (ts.drop T)
    rw [List.take_append_drop, List.drop_eq_getElem_cons hTl] at h2
    simp only [sumR] at h2
    omega
  have hcl := hd.each T hTl
  have hC1 : 1 ≤ (ts[T]).Cols := by unfold TbV at hcl; omega
  have hC2 : (ts[T]).Cols ≤ 16 := by unfold TbV at hcl; omega
  have hwd : ∀ xs ∈ (ts[T]).Rows, xs.length = (ts[T]).Cols.toNat := fun xs hx => by
    have := hcl.2.2.2.2 xs hx
    omega
  have hcm : (ts[T]).Cols.toNat ≤ 16 := by omega
  have HWk := hide (fun W (hb : Below w.heap.size w W) => workOf_scan g T cap gt ts.length capt ua (ts[T]).Rows.length uc W (h.of hb) (Nat.lt_of_lt_of_le hgt hb.size) hTl hn ((hb.cell (p := ⟨gt, T * 3 + 2, none⟩) hgt).trans c2) (hTP.of hb))
  have HOp := hide (fun W (hb : Below w.heap.size w W) => operatorOf_scan g T cap gt ts.length capt ua (ts[T]).Rows.length uc W (h.of hb) (Nat.lt_of_lt_of_le hgt hb.size) hTl ((hb.cell (p := ⟨gt, T * 3 + 2, none⟩) hgt).trans c2))
  have a2 := bA (bA (Below.refl w.heap.size w) (.cells #[.slice (some ⟨g, 0, none⟩) 1 cap] 42)) (.cells #[.slice (some ⟨gt, 0, none⟩) ts.length capt] 26)
  have HRE := hide hrE; have HWd := hide hwd; have HCm := hide hcm
  have HA2 := hide a2
  clear h ht he hsm hd hTK hTP hcl hC1 hC2 c2 hrE hwd hcm a2 hg' x1 x2
  generalize (ts[T]).Cols.toNat = m at *
  generalize (ts[T]).Rows = xss at *
  clear hTl
  generalize ts.length = nt at *
  clear lt
  have hz1 : ¬ (xss.length : Int) > 2000 := by omega
  have HN := hide hn
  clear hn
  go_enter Tryz.func9, Tryz.ntmps9
  go_wp2_with fail
  refine (unhide HC _ (unhide HA2)).mono ?_
  rintro e w1 ⟨b, rfl, hb⟩
  have d1 := bT (unhide HA2) hb
  have q0 : w1.cell? ⟨w.heap.size, 0, none⟩ = some (.slice (some ⟨g, 0, none⟩) 1 cap) := ((bcell hb).1 (w.heap.size) 0 (by simp; try omega)).trans (by simp [go_sem])
  have q1 : w1.cell? ⟨w.heap.size + 1, 0, none⟩ = some (.slice (some ⟨gt, 0, none⟩) nt capt) := ((bcell hb).1 (w.heap.size + 1) 0 (by simp; try omega)).trans (by simp [go_sem])
  have t2 : w.heap.size + 1 < w1.heap.size := by have := hb.size; simp at this; omega
  have t1 : w.heap.size < w1.heap.size := by omega
  have HD1 := hide d1
  clear hb d1 HC
  have HW := hide (unhide HWk w1 (unhide HD1))
  clear HWk
  go_wp2_with fail
  refine (unhide HW).mono ?_
  rintro e w2 ⟨rfl, hb2⟩
  have HD2 := hide (bT (unhide HD1) hb2)
  have q0' : w2.cell? ⟨w.heap.size, 0, none⟩ = some (.slice (some ⟨g, 0, none⟩) 1 cap) := ((bcell hb2).1 (w.heap.size) 0 t1).trans q0
  have q1' : w2.cell? ⟨w.heap.size + 1, 0, none⟩ = some (.slice (some ⟨gt, 0, none⟩) nt capt) := ((bcell hb2).1 (w.heap.size + 1) 0 t2).trans q1
  have t1' : w.heap.size < w2.heap.size := Nat.lt_of_lt_of_le t1 hb2.size
  have t2' : w.heap.size + 1 < w2.heap.size := Nat.lt_of_lt_of_le t2 hb2.size
  clear hb2 HW q0 q1 t1 t2
  go_wp2_with fail
  refine (unhide HOp _ (unhide HD2)).mono ?_
  rintro e w3 ⟨rfl, hb3⟩
  have HD3 := hide (bT (unhide HD2) hb3)
  obtain ⟨R, hra, hR0⟩ := scan_runs (uc := uc) ((unhide HRE).of (unhide HD3)) (unhide HWd) (by have := unhide HCm; omega) (by have := unhide HN; omega)
  have H3 := hide (rowsOf_calls hra (fun _ => False) r0 w3 (Below.refl _ _) (fun _ h => h.elim) rfl ⟨fun h => absurd rfl h, Nat.le_refl _⟩ (by show (R []).length ≤ _; rw [hR0]; have := unhide HN; omega))
  have e0 : rvO r0 = .slice none 0 0 := by unfold rvO; rw [rA_nil rfl]; rfl
  have e1 : R r0.2.2 = xss := hR0
  rw [e0, e1] at H3
  clear hb3 hra e0 e1 HOp hR0
  go_wp2_with fail
  refine (unhide H3).mono ?_
  rintro e w4 ⟨a, c, rs, rfl, hks, how, hro, hb4⟩
  have hlen : rs.length ≤ 1048576 := by
    have h1 := unhide HN
    have h2 := congrArg List.length hks
    rw [List.length_map] at h2
    omega
  have H4 := hide (SortRowsO_calls rs a c w4 (GridO.ofOwn how (fun _ h => h.elim)) (fun q hq => (hro q hq).sub (fun _ _ h => h.elim)) hlen (fun q hq => by
    have := unhide HWd q.2.2 (by rw [← hks]; exact List.mem_map.2 ⟨q, hq, rfl⟩)
    have := unhide HCm
    omega))
  have HKS := hide hks; have HD4 := hide (bT (unhide HD3) hb4)
  clear hks how hro hb4 hlen H3
  go_wp2_with fail
  refine (unhide H4).mono ?_
  rintro e w5 ⟨G5, c5, qs, rfl, ho5, hr5, hl5, hnd5, hmp5, hb5⟩
  have hl : rs.length = qs.length := by
    have := congrArg List.length hmp5
    rw [List.length_map, msF_length, List.length_map] at this
    exact this.symm
  have hfin : qs.map kR = srt xss := by
    rw [hmp5]
    have e1 : rs.map cleanR = xss.map (List.map clnV) := by
      rw [← unhide HKS, List.map_map]
      exact List.map_congr_left fun _ _ => rfl
    have e2 : rs.length = xss.length := by simpa using congrArg List.length e1
    rw [e1, e2]
    rfl
  have hs4 := (unhide HD4).size
  have HFin : Hid (ScanE xss w (.returned (.tuple #[.slice (some ⟨G5, 0, none⟩) rs.length c5, .bool true])) w5) :=
    ⟨G5, c5, qs, by rw [hl], ho5.mono hs4, hr5, hfin, bT (unhide HD4) hb5⟩
  clear ho5 hr5 hl5 hnd5 hmp5 hb5 hl hfin H4
  go_wp2
  go_returns
  exact unhide HFin
end Go.Proofs.YtbbjhepagkkjeaaGreatDoor
namespace Go.Proofs.YtbbjhepagkkjeaaGreatDoor
open Go Go.RowKit
theorem lwSameVal_calls (b c : Bool) (n m : Int) (w : World) :
    Calls Tryz.prog 24 #[.agg #[.bool b, .int .i64 n], .agg #[.bool c, .int .i64 m]] w fun e w' => e = .returned (.bool (b == c && n == m)) ∧ Below w.heap.size w w' := by
  by_cases h2 : n = m
  · subst h2
    have hn : (n == n) = true := by simp
    cases b <;> cases c
    all_goals
      go_enter Tryz.func24, Tryz.ntmps24
      go_wp2
      go_ret
      exact ⟨by simp, bA (bA (Below.refl _ _) _) _⟩
  · have hn : (n == m) = false := by simpa using h2
    cases b <;> cases c
    all_goals
      go_enter Tryz.func24, Tryz.ntmps24
      go_wp2
      go_ret
      exact ⟨by simp [h2], bA (bA (Below.refl _ _) _) _⟩
end Go.Proofs.YtbbjhepagkkjeaaGreatDoor
namespace Go.Proofs.YtbbjhepagkkjeaaGreatDoor
open Go Go.RowKit
set_option maxHeartbeats 1000000 in
theorem lwSameRows_calls (rs qs : List R3) (G off cap G' off' cap' : Nat) (w : World) (hG : G < w.heap.size) (hG' : G' < w.heap.size) (hx : GridAt w G off rs) (hy : GridAt w G' off' qs) (hrx : RowsOk w rs) (hry : RowsOk w qs) (he : rs.map kR = qs.map kR) (b1 : rs.length ≤ 1048576) (b2 : ∀ r ∈ rs, r.2.2.length ≤ 1048576) :
    Calls Tryz.prog 8 #[.slice (some ⟨G, off, none⟩) rs.length cap, .slice (some ⟨G', off', none⟩) qs.length cap'] w fun e w' => e = .returned (.bool true) ∧ Below w.heap.size w w' := by
  have hlen : rs.length = qs.length := by simpa using congrArg List.length he
  rw [← hlen]
  have HL := hide hlen
  clear hlen
  have e0 : ((rs.length : Int) != (rs.length : Int)) = false := by simp
  go_enter Tryz.func8, Tryz.ntmps8
  go_wp2
  go_loopw [5, 6] (fun c _ wr => ∃ k : Nat, k ≤ rs.length ∧ c = .int .i64 k ∧ Below w.heap.size w wr) (fun c _ _ => rs.length - (intOf c).toNat)
  case atStart => exact ⟨0, Nat.zero_le _, rfl, Below.refl _ _⟩
  case round =>
    obtain ⟨k, hk1, rfl, hb⟩ := hrel
    by_cases l1 : k < rs.length
    · have l2 : k < qs.length := by rw [← unhide HL]; exact l1
      have x0 := (hx.of hG hb) k rs[k] (by simp [l1])
      have y0 := (hy.of hG' hb) k qs[k] (by simp [l2])
      have hm1 : rs[k] ∈ rs := List.getElem_mem l1
      have hm2 : qs[k] ∈ qs := List.getElem_mem l2
      have ex := (hrx.of hb) _ hm1
      have ey := (hry.of hb) _ hm2
      have bx := b2 _ hm1
      have exy : qs[k].2.2 = rs[k].2.2 := by
        have := congrArg (fun l => l[k]?) he
        simp [l1, l2, kR] at this
        exact this.symm
      unfold rv at x0 y0
      generalize rs[k] = r at *
      generalize qs[k] = q at *
      obtain ⟨rg, rc, rx⟩ := r
      obtain ⟨qg, qc, qx⟩ := q
      simp only at exy
      subst exy
      have j1 : (k : Int) < (rs.length : Int) := by omega
      have q1 : G < wr.heap.size := Nat.lt_of_lt_of_le hG hb.size
      have q2 : G' < wr.heap.size := Nat.lt_of_lt_of_le hG' hb.size
      have e1 : ((qx.length : Int) != (qx.length : Int)) = false := by simp
      have HEX := hide ex; have HEY := hide ey
      clear ex ey hm1 hm2
      go_wp2_with fail
      rename World => wo
      go_quiet (fail)
      go_wp2
      go_loopw [6] (fun c w2 => ∃ j : Nat, j ≤ qx.length ∧ c = .int .i64 j ∧ Below wo.heap.size wo w2) (fun c _ => qx.length - (intOf c).toNat)
      case atStart => exact ⟨0, Nat.zero_le _, rfl, below_drewN (Below.refl _ _) _⟩
      case round =>
        obtain ⟨j, hj1, rfl, hb2⟩ := hrel
        have xG : wr.cell? ⟨G, off + k, none⟩ = some (.slice (some ⟨rg, 0, none⟩) qx.length rc) := (hb2.cell (p := ⟨G, off + k, none⟩) q1).trans x0
        have yG : wr.cell? ⟨G', off' + k, none⟩ = some (.slice (some ⟨qg, 0, none⟩) qx.length qc) := (hb2.cell (p := ⟨G', off' + k, none⟩) q2).trans y0
        have q3 : G < wr.heap.size := Nat.lt_of_lt_of_le q1 hb2.size
        have q4 : G' < wr.heap.size := Nat.lt_of_lt_of_le q2 hb2.size
        by_cases l3 : j < qx.length
        · have r1 := (unhide HEX).1.of hb2
          have r2 := (unhide HEY).1.of hb2
          obtain ⟨a0, a1⟩ := RowAt.at r1.held j l3
          obtain ⟨c0, c1⟩ := RowAt.at r2.held j l3
          simp only [Nat.zero_add] at a0 a1 c0 c1
          have q5 := r1.size
          have q6 := r2.size
          have j3 : (j : Int) < (qx.length : Int) := by omega
          have hbool : ((qx[j].1 == qx[j].1) && (qx[j].2 == qx[j].2)) = true := by simp
          clear r1 r2 x0 y0
          go_upto_region 11 with fail
          have h1 := Below.refl wr.heap.size wr
          have h2 := h1
          go_region_held3 (Std wr) (repeat (first | with_reducible assumption | with_reducible exact Std.refl _ | with_reducible refine Std.drew ?_ | with_reducible refine Std.alloc ?_ _ | with_reducible refine Std.setCell ?_ ?_ _ | with_reducible refine Std.call ?_ (by with_reducible assumption) | (simp <;> omega) | omega)) (first | (go_at_call 24; refine (lwSameVal_calls _ _ _ _ _).mono ?_; rintro e w1 ⟨rfl, hb⟩; (first | have n3 := bT h2 hb | have n3 := bT (bA h2 _) hb | have n3 := bT (Below.drew h2) hb | have n3 := bT (Below.drew (bA h2 _)) hb | have n3 := bT (bA (Below.drew h2) _) hb); (first | have n2 := bT h1 hb | have n2 := bT (bA h1 _) hb | have n2 := bT (Below.drew h1) hb | have n2 := bT (Below.drew (bA h1 _)) hb | have n2 := bT (bA (Below.drew h1) _) hb); obtain ⟨c1, f1⟩ := bcell hb; obtain ⟨c2, f2⟩ := bcell n2; obtain ⟨c3, f3⟩ := bcell n3; have hs := hb.size; (try simp at hs); clear h1 h2; have h1 := hb; have h2 := n2; clear n2 hb))
          have d2 := bT hb2 h2
          go_wp2
          go_roundw
          case rel => exact ⟨j + 1, by omega, by go_num, d2⟩
          case measure => simp [intOf]; omega
        · have j3 : ¬ (j : Int) < (qx.length : Int) := by omega
          clear x0 y0
          have d2 := bT hb hb2
          go_wp2
          go_roundw
          case rel => exact ⟨k + 1, by omega, by go_num, d2⟩
          case measure => simp [intOf]; omega
    · go_wp2
      go_ret
      exact ⟨rfl, hb⟩
end Go.Proofs.YtbbjhepagkkjeaaGreatDoor
