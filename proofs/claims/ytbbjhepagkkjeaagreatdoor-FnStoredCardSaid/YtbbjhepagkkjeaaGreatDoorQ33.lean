import Derived.Test.YtbbjhepagkkjeaaGreatDoorQ32
import Derived.Test.YtbbjhepagkkjeaaGreatDoorQ11
import Derived.Test.YtbbjhepagkkjeaaGreatDoorQ23
import Derived.Laws.EntriesVeiled
import Derived.WideLaws
import Derived.Test.YtbbjhepagkkjeaaGreatDoorQ29
namespace Go.Proofs.YtbbjhepagkkjeaaGreatDoor
open Go Go.RowKit
theorem pre_map {α β : Type} (f : List α → List β) (hf : ∀ a b, f (a ++ b) = f a ++ f b) {a b : List α} (h : a <+: b) : f a <+: f b := by
  obtain ⟨t, rfl⟩ := h
  rw [hf]
  exact List.prefix_append _ _
theorem pre_front {α : Type} {c a b : List α} (h : a <+: b) : c ++ a <+: c ++ b := by
  obtain ⟨t, rfl⟩ := h
  rw [← List.append_assoc]
  exact List.prefix_append _ _
abbrev bp (b : Nat) : Value := .pointer (some ⟨b, 0, none⟩)
end Go.Proofs.YtbbjhepagkkjeaaGreatDoor
namespace Go.Proofs.YtbbjhepagkkjeaaGreatDoor
open Go Go.RowKit
theorem Concat2_calls (q1 q2 : P3) (A cA : Nat) (w : World) (hA : A < w.heap.size) (c0 : w.cell? ⟨A, 0, none⟩ = some (.slice q1.1 q1.2.2.length q1.2.1)) (c1 : w.cell? ⟨A, 1, none⟩ = some (.slice q2.1 q2.2.2.length q2.2.1)) (h1 : PartOk w q1) (h2 : PartOk w q2) (hn : q1.2.2.length + q2.2.2.length ≤ 1048576) :
    Calls Tryz.prog 167 #[.slice (some ⟨A, 0, none⟩) 2 cA] w (CatE w (q1.2.2 ++ q2.2.2)) := by
  have := Concat_calls [q1, q2] A cA w (by simp) hA (fun i hi => by
    match i, hi with
    | 0, _ => exact c0
    | 1, _ => exact c1) (fun q hq => by
    simp only [List.mem_cons, List.mem_nil_iff, or_false] at hq
    rcases hq with rfl | rfl
    · exact h1
    · exact h2) (by simp [plen]; omega)
  have e : pcat [q1, q2] [q1, q2].length = q1.2.2 ++ q2.2.2 := by simp [pcat]
  rw [e] at this
  exact this
theorem Cat_at {wr : World} (q1 q2 : P3) (t : TypeId) (h1 : PartOk wr q1) (h2 : PartOk wr q2) (hn : q1.2.2.length + q2.2.2.length ≤ 1048576) :
    Calls Tryz.prog 167 #[.slice (some ⟨wr.heap.size, 0, none⟩) 2 2] (wr.alloc (.cells #[.slice q1.1 q1.2.2.length q1.2.1, .slice q2.1 q2.2.2.length q2.2.1] t)) fun e w' => CatE wr (q1.2.2 ++ q2.2.2) e w' := by
  refine (Concat2_calls q1 q2 wr.heap.size 2 _ (by simp) (by rw [World.cell?_alloc_at _ t _ 0 rfl]; rfl) (by rw [World.cell?_alloc_at _ t _ 1 rfl]; rfl) (h1.of (bA (Below.refl _ _) _)) (h2.of (bA (Below.refl _ _) _)) hn).mono ?_
  rintro e w' ⟨r, h1, h2, h3, h4⟩
  exact ⟨r, h1, h2, h3.sub (fun b hb hm => by simp; omega), bT (bA (Below.refl _ _) _) h4⟩
theorem CatE.sub {w w' : World} {x : List V2} {e : Ending} (h : CatE w x e w') : ∃ r : R3, e = .returned (rvO r) ∧ r.2.2 = x ∧ ROk w' (fun b => b < w.heap.size) r ∧ Below w.heap.size w w' := h
theorem ent_scan : Enters 166 := fun _ _ => by kernel_rfl
theorem meet_scan (v : Value) : Meets 107 v 166 v := ⟨fun _ => by kernel_rfl, ent_scan⟩
set_option maxRecDepth 100000 in
set_option maxHeartbeats 2000000 in
theorem run_scan {w0 : World} {n m m' G cg : Nat} (rs : List R3) (hG0 : G < w0.heap.size) (hgr : GridAt w0 G 0 rs) (hrs : ∀ q ∈ rs, q.1 < w0.heap.size ∧ RowAt w0 q.1 0 q.2.2 ∧ q.2.2.length = m') (hm : n + m' = m) (hm2 : m ≤ 1000) (hl : rs.length ≤ 1048576) :
    RunsAs w0 107 (.agg #[.slice (some ⟨G, 0, none⟩) rs.length cg]) n m (fun y => (rs.map kR).map fun q => y ++ q) := by
  refine ⟨fun y hy z hz => ?_, 166, _, meet_scan _, ?_⟩
  · simp only [List.mem_map] at hz
    obtain ⟨_, ⟨q, hq, rfl⟩, rfl⟩ := hz
    rw [List.length_append, hy, (hrs q hq).2.2, hm]
  intro gf caps T St Fin hG h r M W hB hL hn hR hT hS
  have HE := hG.enters
  unfold Enters at HE
  have hb1 := bA (Below.refl W.heap.size W) (.cells #[.slice (some ⟨G, 0, none⟩) rs.length cg] 107)
  have hst0 := hG.keep _ _ _ _ hS hb1
  have HB := hide hB; have HL := hide hL; have HR := hide hR; have HT := hide hT; have HGi := hide hG; have HRS := hide hrs; have HB1 := hide hb1; have HGR := hide hgr; have HLn := hide hl; have HN := hide hn; have HM := hide hm; have HM2 := hide hm2; have HS0 := hide hst0
  clear hB hL hR hT hG hrs hb1 hgr hn hm hm2 hst0 hS
  have HRV : Hid (rvO r = .slice (rA r) r.2.2.length r.2.1) := rfl
  rw [unhide HRV]
  go_enter Tryz.func166, Tryz.ntmps166
  go_wp2
  go_loopw [6, 8, 12] (fun _ _ c wr => ∃ (k : Nat) (M' : Nat → Prop), k ≤ rs.length ∧ c = .int .i64 k ∧ St (h ++ ((rs.map kR).take k).map fun q => r.2.2 ++ q) M' wr ∧ Low w0.heap.size M' wr ∧ GV M W M' wr) (fun _ _ c _ => rs.length - (intOf c).toNat)
  case atStart => exact ⟨0, M, Nat.zero_le _, rfl, by simpa using unhide HS0, (unhide HL).of (unhide HB1).size, GV.ofBelow (unhide HB1)⟩
  case round =>
    obtain ⟨k, M', hk, rfl, hst, hlo, hgv⟩ := hrel
    have HK := hide hk; have HST := hide hst; have HLO := hide hlo; have HGV := hide hgv
    have HBW := hide (hgv.base (unhide HB) (Nat.le_refl _) (unhide HL))
    clear hk hst hlo hgv HS0
    by_cases hlt : k < rs.length
    · have j1 : (k : Int) < (rs.length : Int) := by omega
      have hmem : rs[k] ∈ rs := List.getElem_mem hlt
      have e0 := ((unhide HBW).cell (p := ⟨G, k, none⟩) hG0).trans (by simpa using unhide HGR k rs[k] (List.getElem?_eq_getElem hlt))
      obtain ⟨f1, f2, f3⟩ := unhide HRS _ hmem
      have hsn : h ++ ((rs.map kR).take (k + 1)).map (fun q => r.2.2 ++ q) = (h ++ ((rs.map kR).take k).map fun q => r.2.2 ++ q) ++ [r.2.2 ++ (rs[k]).2.2] := by
        rw [take_snoc _ k (by simpa using hlt), List.map_append, List.append_assoc]
        simp
      have hpre : (h ++ ((rs.map kR).take k).map fun q => r.2.2 ++ q) ++ [r.2.2 ++ (rs[k]).2.2] <+: T := by
        rw [← hsn]
        refine (pre_front ?_).trans (unhide HT)
        exact pre_map (fun l : List (List V2) => l.map fun q => r.2.2 ++ q) (fun a b => by simp) (List.take_prefix _ _)
      have HSN := hide hsn; have HPR := hide hpre
      have HF2 := hide (f2.of f1 (unhide HBW)); have HF3 := hide f3
      have hgk : G < wr.heap.size := Nat.lt_of_lt_of_le hG0 (unhide HBW).size
      have f1' : (rs[k]).1 < wr.heap.size := Nat.lt_of_lt_of_le f1 (unhide HBW).size
      unfold rv at e0
      have HLT := hide hlt
      clear hsn hpre f2 f3 hmem f1
      generalize rs[k] = q at *
      clear hlt
      obtain ⟨qg, qc, qx⟩ := q
      simp only at e0 f1' HF2 HF3 HPR HSN
      have HRk := hide ((unhide HR).gv (unhide HGV))
      have HCat := hide (Cat_at (rA r, r.2.1, r.2.2) (some ⟨qg, 0, none⟩, qc, qx) 52 (unhide HRk).part (Or.inl ⟨qg, 0, rfl, f1', unhide HF2⟩) (by have := unhide HN; have := unhide HM; have := unhide HM2; have := unhide HF3; simp; omega))
      go_wp2_with fail
      refine (unhide HCat).mono ?_
      rintro e W1 ⟨r1, rfl, hr1, hr1o, hbc⟩
      have HC := hide ((unhide HGi).call _ r1 M' W1 (bT (unhide HBW) hbc) ((unhide HLO).of hbc.size) (by rw [hr1, List.length_append, unhide HN, unhide HF3, unhide HM]) (hr1o.sub (fun b _ hb => (unhide HLO b hb).2)) (by rw [hr1]; exact unhide HPR) ((unhide HGi).keep _ _ _ _ (unhide HST) hbc))
      have HBc := hide hbc; have HR1 := hide hr1
      clear hr1 hr1o hbc HCat
      go_wp2_with fail
      refine (unhide HC).mono ?_
      rintro e W2 ⟨M2, b, rfl, hg2, hx2⟩
      have HG2 := hide ((unhide HGV).trans ((GV.ofBelow (unhide HBc)).trans hg2)); have HX2 := hide hx2
      clear hg2 hx2 HC
      cases b with
      | false =>
        go_wp2
        go_ret
        rcases unhide HX2 with ⟨h1, _⟩ | h1
        · exact absurd h1 (by simp)
        exact ⟨M2, false, rfl, unhide HG2, Or.inr ⟨rfl, h1.2⟩⟩
      | true =>
        have hx : St (h ++ ((rs.map kR).take (k + 1)).map fun q => r.2.2 ++ q) M2 W2 ∧ Low w0.heap.size M2 W2 := by
          rcases unhide HX2 with ⟨_, h1⟩ | ⟨h1, _⟩
          · rw [unhide HSN]
            rw [unhide HR1] at h1
            exact h1
          · exact absurd h1 (by simp)
        have HX := hide hx
        clear hx HX2
        go_wp2
        go_roundw
        case rel => exact ⟨k + 1, M2, unhide HLT, by go_num, (unhide HX).1, (unhide HX).2, unhide HG2⟩
        case measure => have := unhide HLT; simp [intOf]; omega
    · obtain rfl : k = rs.length := by have := unhide HK; omega
      clear hlt
      have hx : St (h ++ (rs.map kR).map fun q => r.2.2 ++ q) M' wr := by
        have := unhide HST
        rwa [List.take_of_length_le (by simp)] at this
      have HX := hide hx
      clear hx HST
      go_wp2
      go_ret
      exact ⟨M', true, rfl, unhide HGV, Or.inl ⟨rfl, unhide HX, unhide HLO⟩⟩
end Go.Proofs.YtbbjhepagkkjeaaGreatDoor
namespace Go.Proofs.YtbbjhepagkkjeaaGreatDoor
open Go Go.RowKit
structure ValBx (W : World) (b : Nat) (v : V2) : Prop where
  lt : b < W.heap.size
  c0 : W.cell? ⟨b, 0, none⟩ = some (.bool v.1)
  c1 : W.cell? ⟨b, 1, none⟩ = some (.int .i64 v.2)
  frz : ∀ o, W.frozen? ⟨b, o, none⟩ = false
theorem ValBx.of {W W' : World} {b : Nat} {v : V2} (h : ValBx W b v) (hb : Below W.heap.size W W') : ValBx W' b v :=
  ⟨Nat.lt_of_lt_of_le h.lt hb.size, (hb.cell (p := ⟨b, 0, none⟩) h.lt).trans h.c0, (hb.cell (p := ⟨b, 1, none⟩) h.lt).trans h.c1, fun o => (hb.frozen (p := ⟨b, o, none⟩) h.lt).trans (h.frz o)⟩
theorem ValBx.set {W : World} {b : Nat} {v : V2} (h : ValBx W b v) (u : V2) : ValBx ((W.setCell ⟨b, 0, none⟩ (.bool u.1)).setCell ⟨b, 1, none⟩ (.int .i64 u.2)) b u := by
  refine ⟨by simpa using h.lt, ?_, ?_, fun o => by rw [frozen_setCell, frozen_setCell]; exact h.frz o⟩
  · rw [setCell_other (by omega)]
    exact World.cell?_setCell_same _ _ _ h.c0
  · have h1 : (W.setCell ⟨b, 0, none⟩ (.bool u.1)).cell? ⟨b, 1, none⟩ = some (.int .i64 v.2) := by rw [setCell_other (by omega)]; exact h.c1
    exact World.cell?_setCell_same _ _ _ h1
end Go.Proofs.YtbbjhepagkkjeaaGreatDoor
namespace Go.Proofs.YtbbjhepagkkjeaaGreatDoor
open Go Go.RowKit
theorem ValBx.made (W : World) (v : V2) (t : TypeId) (b : Nat) (hb : b = W.heap.size) : ValBx (W.alloc (.cells #[.bool v.1, .int .i64 v.2] t)) b v := by
  subst hb
  exact ⟨by simp, by simp [go_sem], by simp [go_sem], fun o => by simp [go_sem]⟩
end Go.Proofs.YtbbjhepagkkjeaaGreatDoor
namespace Go.Proofs.YtbbjhepagkkjeaaGreatDoor
open Go Go.RowKit
def stepF (m : Int) : Nat := if m = 3 then 96 else if m = 4 then 98 else 99
end Go.Proofs.YtbbjhepagkkjeaaGreatDoor
namespace Go.Proofs.YtbbjhepagkkjeaaGreatDoor
open Go Go.RowKit
abbrev tabR (ts : List Tb) (p : Pn) : List (List V2) := (ts[p.T.toNat]?.map Tb.Rows).getD []
def OpK (w wr : World) (ts : List Tb) (p : Pn) (Lk Rk : Nat → Value → Prop) (t : Nat) (v : Value) : Prop :=
  (p.K = 1 ∧ t = 105 ∧ v = .agg #[]) ∨
  (p.K = 2 ∧ ∃ (G : Nat) (rs : List R3), t = 107 ∧ v = .agg #[.slice (some ⟨G, 0, none⟩) rs.length rs.length] ∧ rs.map kR = tabR ts p ∧ G < w.heap.size ∧ GridAt w G 0 rs ∧ ∀ q ∈ rs, q.1 < w.heap.size ∧ RowAt w q.1 0 q.2.2) ∨
  (p.K = 3 ∧ ∃ (lt : Nat) (lv : Value) (ge : Nat), t = 109 ∧ v = .agg #[.slice (some ⟨ge, 0, none⟩) p.Ex.length p.Ex.length, .iface lt lv] ∧ Lk lt lv ∧ ge < w.heap.size ∧ OpsAt w ge 0 p.Ex) ∨
  (p.K = 4 ∧ ∃ (lt : Nat) (lv : Value) (ge : Nat), t = 111 ∧ v = .agg #[.slice (some ⟨ge, 0, none⟩) p.Exs.length p.Exs.length, .iface lt lv] ∧ Lk lt lv ∧ ge < w.heap.size ∧ OpssAt w ge p.Exs) ∨
  (p.K = 5 ∧ ∃ (lt : Nat) (lv : Value) (rt : Nat) (rv : Value), t = 113 ∧ v = .agg #[.iface lt lv, .iface rt rv] ∧ Lk lt lv ∧ Rk rt rv) ∨
  (p.K = 6 ∧ ∃ (lt : Nat) (lv : Value) (rt : Nat) (rv : Value), t = 114 ∧ v = .agg #[.iface lt lv, .iface rt rv] ∧ Lk lt lv ∧ Rk rt rv) ∨
  (p.K = 7 ∧ ∃ (lt : Nat) (lv : Value) (rt : Nat) (rv : Value) (ge : Nat), t = 116 ∧ v = .agg #[.slice (some ⟨ge, 0, none⟩) p.Ex.length p.Ex.length, .iface lt lv, .iface rt rv] ∧ Lk lt lv ∧ Rk rt rv ∧ ge < w.heap.size ∧ OpsAt w ge 0 p.Ex) ∨
  (p.K = 8 ∧ ∃ (lt : Nat) (lv : Value) (rt : Nat) (rv : Value) (ge ce : Nat), t = 123 ∧ v = .agg #[.bool (noneP p.M).1, .int .i64 (noneP p.M).2, .func (.func (stepF p.M)) #[] #[], .slice (some ⟨ge, 0, none⟩) (aggX p).length ce, .iface lt lv, .iface rt rv] ∧ Lk lt lv ∧ Rk rt rv ∧ ((ge < w.heap.size ∧ OpsAt w ge 0 (aggX p)) ∨ (w.heap.size < ge ∧ ge < wr.heap.size ∧ OpsAt wr ge 0 (aggX p)))) ∨
  (p.K = 9 ∧ ∃ (lt : Nat) (lv : Value), t = 125 ∧ v = .agg #[.iface lt lv] ∧ Lk lt lv) ∨
  (p.K = 10 ∧ ∃ (lt : Nat) (lv : Value) (rt : Nat) (rv : Value), t = 126 ∧ v = .agg #[.iface lt lv, .iface rt rv] ∧ Lk lt lv ∧ Rk rt rv)
theorem OpK.mono {w wr wr' : World} {ts : List Tb} {p : Pn} {Lk Rk Lk' Rk' : Nat → Value → Prop} {t : Nat} {v : Value} (h : OpK w wr ts p Lk Rk t v) (hL : ∀ t v, Lk t v → Lk' t v) (hR : ∀ t v, Rk t v → Rk' t v) (hw : ∀ ge, w.heap.size < ge → ge < wr.heap.size → OpsAt wr ge 0 (aggX p) → ge < wr'.heap.size ∧ OpsAt wr' ge 0 (aggX p)) : OpK w wr' ts p Lk' Rk' t v := by
  rcases h with h | h | ⟨h0, lt, lv, ge, h1, h2, h3, h4⟩ | ⟨h0, lt, lv, ge, h1, h2, h3, h4⟩ | ⟨h0, lt, lv, rt, rv, h1, h2, h3, h4⟩ | ⟨h0, lt, lv, rt, rv, h1, h2, h3, h4⟩ | ⟨h0, lt, lv, rt, rv, ge, h1, h2, h3, h4, h5⟩ | ⟨h0, lt, lv, rt, rv, ge, ce, h1, h2, h3, h4, h5⟩ | ⟨h0, lt, lv, h1, h2, h3⟩ | ⟨h0, lt, lv, rt, rv, h1, h2, h3, h4⟩
  · exact Or.inl h
  · exact Or.inr (Or.inl h)
  · exact Or.inr (Or.inr (Or.inl ⟨h0, lt, lv, ge, h1, h2, hL _ _ h3, h4⟩))
  · exact Or.inr (Or.inr (Or.inr (Or.inl ⟨h0, lt, lv, ge, h1, h2, hL _ _ h3, h4⟩)))
  · exact Or.inr (Or.inr (Or.inr (Or.inr (Or.inl ⟨h0, lt, lv, rt, rv, h1, h2, hL _ _ h3, hR _ _ h4⟩))))
  · exact Or.inr (Or.inr (Or.inr (Or.inr (Or.inr (Or.inl ⟨h0, lt, lv, rt, rv, h1, h2, hL _ _ h3, hR _ _ h4⟩)))))
  · exact Or.inr (Or.inr (Or.inr (Or.inr (Or.inr (Or.inr (Or.inl ⟨h0, lt, lv, rt, rv, ge, h1, h2, hL _ _ h3, hR _ _ h4, h5⟩))))))
  · refine Or.inr (Or.inr (Or.inr (Or.inr (Or.inr (Or.inr (Or.inr (Or.inl ⟨h0, lt, lv, rt, rv, ge, ce, h1, h2, hL _ _ h3, hR _ _ h4, ?_⟩)))))))
    rcases h5 with h5 | ⟨h5, h6, h7⟩
    · exact Or.inl h5
    · exact Or.inr ⟨h5, hw ge h5 h6 h7⟩
  · exact Or.inr (Or.inr (Or.inr (Or.inr (Or.inr (Or.inr (Or.inr (Or.inr (Or.inl ⟨h0, lt, lv, h1, h2, hL _ _ h3⟩))))))))
  · exact Or.inr (Or.inr (Or.inr (Or.inr (Or.inr (Or.inr (Or.inr (Or.inr (Or.inr ⟨h0, lt, lv, rt, rv, h1, h2, hL _ _ h3, hR _ _ h4⟩))))))))
def OpIs (w wr : World) (ts : List Tb) (ps : List Pn) : Nat → Nat → Nat → Value → Prop
  | 0, _, _, _ => False
  | f + 1, i, t, v => ∃ p, ps[i]? = some p ∧ OpK w wr ts p (OpIs w wr ts ps f p.L.toNat) (OpIs w wr ts ps f p.R.toNat) t v
theorem ops_gv {w wr wr' : World} (hg : GV (fun x => x = w.heap.size) wr (fun x => x = w.heap.size) wr') (xs : List O2) (ge : Nat) (h1 : w.heap.size < ge) (h2 : ge < wr.heap.size) (h3 : OpsAt wr ge 0 xs) : ge < wr'.heap.size ∧ OpsAt wr' ge 0 xs :=
  ⟨Nat.lt_of_lt_of_le h2 hg.size, fun i x hx => by rw [hg.cell h2 (by omega), hg.cell h2 (by omega)]; exact h3 i x hx⟩
theorem OpIs.gv {w wr wr' : World} (hg : GV (fun x => x = w.heap.size) wr (fun x => x = w.heap.size) wr') {ts : List Tb} {ps : List Pn} : ∀ (f i t : Nat) (v : Value), OpIs w wr ts ps f i t v → OpIs w wr' ts ps f i t v
  | 0, _, _, _, h => h.elim
  | f + 1, _, _, _, h => by
    obtain ⟨p, h1, h2⟩ := h
    exact ⟨p, h1, h2.mono (OpIs.gv hg f _) (OpIs.gv hg f _) (ops_gv hg _)⟩
end Go.Proofs.YtbbjhepagkkjeaaGreatDoor
namespace Go.Proofs.YtbbjhepagkkjeaaGreatDoor
open Go Go.RowKit
theorem make_opers (n : Nat) (hn : n ≤ 1048576) (w : World) :
    (Instr.makeSlice 103 (.int .i64 (n : Int)) (.int .i64 (n : Int))).run Tryz.prog w = .ok (.slice (some ⟨w.heap.size, 0, none⟩) n n) (w.alloc (.cells (madeCells #[.nilIface] n) 72)) := by
  obtain ⟨i, hi, hz⟩ := Option.map_eq_some_iff.1 (show (Tryz.prog.info? 72).map (fun i => (i.zero, i.size, i.bytes)) = some (some .nilIface, 1, 16) by kernel_rfl)
  simp only [Prod.mk.injEq] at hz
  have := run_make (P := Tryz.prog) w 103 72 i _ Tryz.underlying103 hi hz.1 .i64 .i64 (n : Int) (n : Int) (by omega) (by omega) (by rw [hz.2.2]; omega) (by omega)
  rw [hz.2.1] at this
  simpa [Value.cells] using this
structure Mkg (w wr : World) (ts : List Tb) (ps : List Pn) (k : Nat) : Prop where
  size : w.heap.size < wr.heap.size
  frz : ∀ o, wr.frozen? ⟨w.heap.size, o, none⟩ = false
  done : ∀ i, i < k → ∃ t v, wr.cell? ⟨w.heap.size, i, none⟩ = some (.iface t v) ∧ ∀ f, i < f → OpIs w wr ts ps f i t v
  rest : ∀ i, k ≤ i → i < ps.length → wr.cell? ⟨w.heap.size, i, none⟩ = some .nilIface
  low : Below w.heap.size w wr
theorem Mkg.set {w wr wr' : World} {ts : List Tb} {ps : List Pn} {k : Nat} (h : Mkg w wr ts ps k) (hk : k < ps.length) (hb : Below wr.heap.size wr wr') (t : Nat) (v : Value) (hv : OpK w (wr'.setCell ⟨w.heap.size, k, none⟩ (.iface t v)) ts ps[k] (fun t v => ∀ f, (ps[k]).L.toNat < f → OpIs w wr ts ps f (ps[k]).L.toNat t v) (fun t v => ∀ f, (ps[k]).R.toNat < f → OpIs w wr ts ps f (ps[k]).R.toNat t v) t v) (hL : (ps[k]).L.toNat < k ∨ arity (ps[k]).K = 0) (hR : (ps[k]).R.toNat < k ∨ arity (ps[k]).K ≠ 2) (hK : 1 ≤ (ps[k]).K ∧ (ps[k]).K ≤ 10) :
    Mkg w (wr'.setCell ⟨w.heap.size, k, none⟩ (.iface t v)) ts ps (k + 1) := by
  have hg : GV (fun x => x = w.heap.size) wr (fun x => x = w.heap.size) (wr'.setCell ⟨w.heap.size, k, none⟩ (.iface t v)) :=
    ⟨hb.os, hb.tape, hb.output, by simpa using hb.size, fun x hx hn => (Below.heap_setCell _ _ _ _ hn).trans (hb.block x hx), fun _ h => Or.inl h⟩
  have hcl : ∀ i, wr'.cell? ⟨w.heap.size, i, none⟩ = wr.cell? ⟨w.heap.size, i, none⟩ := fun i => hb.cell (p := ⟨w.heap.size, i, none⟩) h.size
  refine ⟨by have := hb.size; have := h.size; simp; omega, fun o => by rw [frozen_setCell]; exact (hb.frozen (p := ⟨w.heap.size, o, none⟩) h.size).trans (h.frz o), fun i hi => ?_, fun i h1 h2 => by rw [setCell_other (by omega), hcl]; exact h.rest i (by omega) h2, (h.low.trans (hb.mono (Nat.le_of_lt h.size))).setCell (Nat.le_refl _) _⟩
  by_cases e : i = k
  · subst e
    have hc := h.rest i (Nat.le_refl _) hk
    rw [← hcl] at hc
    refine ⟨t, v, World.cell?_setCell_same _ _ _ hc, fun f hf => ?_⟩
    obtain ⟨f, rfl⟩ : ∃ f', f = f' + 1 := ⟨f - 1, by omega⟩
    refine ⟨ps[i], List.getElem?_eq_getElem hk, ?_⟩
    obtain ⟨ak2, ak1, ak0⟩ := arity_k (k := (ps[i]).K)
    have kL : (ps[i]).K ≠ 1 → (ps[i]).K ≠ 2 → (ps[i]).L.toNat < f := fun n1 n2 => by
      rcases hL with h | h
      · omega
      · exfalso
        by_cases e2 : (ps[i]).K = 5 ∨ (ps[i]).K = 6 ∨ (ps[i]).K = 7 ∨ (ps[i]).K = 8 ∨ (ps[i]).K = 10
        · rw [ak2 e2] at h; omega
        · rw [ak1 (by omega)] at h; omega
    have kR : ((ps[i]).K = 5 ∨ (ps[i]).K = 6 ∨ (ps[i]).K = 7 ∨ (ps[i]).K = 8 ∨ (ps[i]).K = 10) → (ps[i]).R.toNat < f := fun e2 => by
      rcases hR with h | h
      · omega
      · exact absurd (ak2 e2) h
    rcases hv with h | h | ⟨h0, lt, lv, ge, h1, h2, h3, h4⟩ | ⟨h0, lt, lv, ge, h1, h2, h3, h4⟩ | ⟨h0, lt, lv, rt, rv, h1, h2, h3, h4⟩ | ⟨h0, lt, lv, rt, rv, h1, h2, h3, h4⟩ | ⟨h0, lt, lv, rt, rv, ge, h1, h2, h3, h4, h5⟩ | ⟨h0, lt, lv, rt, rv, ge, ce, h1, h2, h3, h4, h5⟩ | ⟨h0, lt, lv, h1, h2, h3⟩ | ⟨h0, lt, lv, rt, rv, h1, h2, h3, h4⟩
    · exact Or.inl h
    · exact Or.inr (Or.inl h)
    · exact Or.inr (Or.inr (Or.inl ⟨h0, lt, lv, ge, h1, h2, OpIs.gv hg _ _ _ _ (h3 f (kL (by omega) (by omega))), h4⟩))
    · exact Or.inr (Or.inr (Or.inr (Or.inl ⟨h0, lt, lv, ge, h1, h2, OpIs.gv hg _ _ _ _ (h3 f (kL (by omega) (by omega))), h4⟩)))
    · exact Or.inr (Or.inr (Or.inr (Or.inr (Or.inl ⟨h0, lt, lv, rt, rv, h1, h2, OpIs.gv hg _ _ _ _ (h3 f (kL (by omega) (by omega))), OpIs.gv hg _ _ _ _ (h4 f (kR (by omega)))⟩))))
    · exact Or.inr (Or.inr (Or.inr (Or.inr (Or.inr (Or.inl ⟨h0, lt, lv, rt, rv, h1, h2, OpIs.gv hg _ _ _ _ (h3 f (kL (by omega) (by omega))), OpIs.gv hg _ _ _ _ (h4 f (kR (by omega)))⟩)))))
    · exact Or.inr (Or.inr (Or.inr (Or.inr (Or.inr (Or.inr (Or.inl ⟨h0, lt, lv, rt, rv, ge, h1, h2, OpIs.gv hg _ _ _ _ (h3 f (kL (by omega) (by omega))), OpIs.gv hg _ _ _ _ (h4 f (kR (by omega))), h5⟩))))))
    · exact Or.inr (Or.inr (Or.inr (Or.inr (Or.inr (Or.inr (Or.inr (Or.inl ⟨h0, lt, lv, rt, rv, ge, ce, h1, h2, OpIs.gv hg _ _ _ _ (h3 f (kL (by omega) (by omega))), OpIs.gv hg _ _ _ _ (h4 f (kR (by omega))), h5⟩)))))))
    · exact Or.inr (Or.inr (Or.inr (Or.inr (Or.inr (Or.inr (Or.inr (Or.inr (Or.inl ⟨h0, lt, lv, h1, h2, OpIs.gv hg _ _ _ _ (h3 f (kL (by omega) (by omega)))⟩))))))))
    · exact Or.inr (Or.inr (Or.inr (Or.inr (Or.inr (Or.inr (Or.inr (Or.inr (Or.inr ⟨h0, lt, lv, rt, rv, h1, h2, OpIs.gv hg _ _ _ _ (h3 f (kL (by omega) (by omega))), OpIs.gv hg _ _ _ _ (h4 f (kR (by omega)))⟩))))))))
  · obtain ⟨t', v', h1, h2⟩ := h.done i (by omega)
    exact ⟨t', v', by rw [setCell_other (by omega), hcl]; exact h1, fun f hf => OpIs.gv hg _ _ _ _ (h2 f hf)⟩
end Go.Proofs.YtbbjhepagkkjeaaGreatDoor
