import Derived.Test.YtafmlbojmmdcdaaDoorCopy2
import Derived.Deep.AppendLies
import Derived.Deep.RegionHeld3
import Derived.Deep.DeepCutAuto
namespace Go.Proofs.YtafmlbojmmdcdaaDoor
open Go Go.RowKit


/-- the stack, a slice of the call's own -/
def OwnS (w : World) (B g cap : Nat) (bs : List V2) : Prop := w.ownsRow B 24 2 (.slice (some ⟨g, 0, none⟩) bs.length cap) bs.length (flatV bs)
theorem OwnS.lt {w : World} {B g cap : Nat} {bs : List V2} (h : OwnS w B g cap bs) : g < w.heap.size ∧ B ≤ g ∧ bs.length ≤ cap ∧ cap ≤ maxLen := by
  rcases h.2 with ⟨h1, _⟩ | ⟨g', cap', cur, h1, h2, h3, h4, h5, _⟩
  · simp at h1
  · simp only [Value.slice.injEq, Option.some.injEq, Addr.mk.injEq, and_true, true_and] at h1
    obtain ⟨rfl, rfl⟩ := h1
    exact ⟨(Array.getElem?_eq_some_iff.1 h3).1, h2, h4, h5⟩
theorem OwnS.of {w w1 : World} {B g cap : Nat} {bs : List V2} (h : OwnS w B g cap bs) (hb : Below w.heap.size w w1) : OwnS w1 B g cap bs := by
  have hl := h.lt.1
  refine ⟨h.1, ?_⟩
  rcases h.2 with h1 | ⟨g', cap', cur, h1, h2, h3, h4⟩
  · exact Or.inl h1
  · have e : g' = g := by
      simp only [Value.slice.injEq, Option.some.injEq, Addr.mk.injEq, and_true, true_and] at h1
      exact h1.1.symm
    exact Or.inr ⟨g', cap', cur, h1, h2, by rw [hb.block g' (by rw [e]; exact hl)]; exact h3, h4⟩
/-- the first r of them -/
theorem OwnS.cut {w : World} {B g cap : Nat} {bs : List V2} (h : OwnS w B g cap bs) (r : Nat) (hr : r ≤ bs.length) : w.ownsRow B 24 2 (.slice (some ⟨g, 0, none⟩) r cap) r (flatV (bs.take r)) := by
  refine ⟨by rw [flatV_length]; simp; omega, ?_⟩
  rcases h.2 with ⟨h1, _⟩ | ⟨g', cap', cur, h1, h2, h3, h4, h5, h6, h7⟩
  · simp at h1
  · simp only [Value.slice.injEq, Option.some.injEq, Addr.mk.injEq, and_true, true_and] at h1
    obtain ⟨rfl, rfl⟩ := h1
    refine Or.inr ⟨g, cap, cur, rfl, h2, h3, by omega, h5, h6, ?_⟩
    rw [flatV_take, ← h7, List.take_take, Nat.min_eq_left (by omega)]
theorem OwnS.row {w : World} {B g cap : Nat} {bs : List V2} (h : OwnS w B g cap bs) : RowAt w g 0 bs := by
  rcases h.2 with ⟨h1, _⟩ | ⟨g', cap', cur, h1, h2, h3, h4, h5, h6, h7⟩
  · simp at h1
  · simp only [Value.slice.injEq, Option.some.injEq, Addr.mk.injEq, and_true, true_and] at h1
    obtain ⟨rfl, rfl⟩ := h1
    intro i x hx
    have hi := (List.getElem?_eq_some_iff.1 hx).1
    obtain ⟨e0, e1⟩ := flatV_at bs i x hx
    rw [← h7] at e0 e1
    rw [List.getElem?_take, if_pos (by omega)] at e0 e1
    simp only [Nat.zero_add, World.cell?, h3]
    exact ⟨by simpa using e0, by simpa using e1⟩

/-- the Op and the two Vals that it takes, in the round's own boxes -/
abbrev A6 (Z : Nat) (K N : Int) (a b : V2) (w : World) : Prop := Z + 1 < w.heap.size ∧ w.cell? ⟨Z, 0, none⟩ = some (.int .i64 K) ∧ w.cell? ⟨Z, 1, none⟩ = some (.int .i64 N) ∧
  w.cell? ⟨Z + 1, 0, none⟩ = some (.bool a.1) ∧ w.cell? ⟨Z + 1, 1, none⟩ = some (.int .i64 a.2) ∧ w.cell? ⟨Z + 1, 2, none⟩ = some (.bool b.1) ∧ w.cell? ⟨Z + 1, 3, none⟩ = some (.int .i64 b.2)
theorem A6.map {Z : Nat} {K N : Int} {a b : V2} {w w1 : World} (h : A6 Z K N a b w) (hs : Z + 1 < w1.heap.size) (hc : ∀ g o, g = Z ∨ g = Z + 1 → w1.cell? ⟨g, o, none⟩ = w.cell? ⟨g, o, none⟩) : A6 Z K N a b w1 := by
  obtain ⟨_, h1, h2, h3, h4, h5, h6⟩ := h
  exact ⟨hs, (hc Z 0 (.inl rfl)).trans h1, (hc Z 1 (.inl rfl)).trans h2, (hc (Z + 1) 0 (.inr rfl)).trans h3, (hc (Z + 1) 1 (.inr rfl)).trans h4, (hc (Z + 1) 2 (.inr rfl)).trans h5, (hc (Z + 1) 3 (.inr rfl)).trans h6⟩
theorem A6.of {Z : Nat} {K N : Int} {a b : V2} {w w1 : World} (h : A6 Z K N a b w) (hb : Below w.heap.size w w1) : A6 Z K N a b w1 :=
  h.map (Nat.lt_of_lt_of_le h.1 hb.size) fun g o hg => hb.cell (p := ⟨g, o, none⟩) (by have := h.1; show g < _; omega)
theorem A6.drew {Z : Nat} {K N : Int} {a b : V2} {w : World} (h : A6 Z K N a b w) : A6 Z K N a b w.drew := h.map h.1 fun _ _ _ => rfl
theorem A6.alloc {Z : Nat} {K N : Int} {a b : V2} {w : World} (h : A6 Z K N a b w) (o : Obj) : A6 Z K N a b (w.alloc o) := h.of (bA (Below.refl _ _) _)
theorem A6.grown {Z : Nat} {K N : Int} {a b : V2} {w w1 : World} {g : Nat} (h : A6 Z K N a b w) (hg : w.grownBy w1 (some g)) (hne : g < Z) : A6 Z K N a b w1 :=
  h.map (Nat.lt_of_lt_of_le h.1 hg.size) fun g' o hg' => hg.cell_far ⟨g', o, none⟩ (by have := h.1; show g' < _; omega) (by intro e; have := Option.some.inj e; simp at this; omega)
theorem A6.start (w : World) (K N : Int) (a b : V2) (t u : TypeId) : A6 w.heap.size K N a b ((w.alloc (.cells #[.int .i64 K, .int .i64 N] t)).alloc (.cells #[.bool a.1, .int .i64 a.2, .bool b.1, .int .i64 b.2] u)) := by
  simp [A6, go_sem]

/-- stack[r:] -/
theorem slice_low (g n cap r : Nat) (hr : r ≤ n) (_hn : n ≤ cap) : ∃ o, (r < n → o = r * 2) ∧ ∀ w : World, (Instr.slice 32 (.slice (some ⟨g, 0, none⟩) n cap) (some (.int .i64 (r : Int))) none none).run Tryd.prog w = .ok (.slice (some ⟨g, o, none⟩) (n - r) (cap - r)) w := by
  have ht : Tryd.prog.underlying 32 = some (.slice (Tryd.prog.elem 32)) := by kernel_rfl
  have hs : ∀ w, (sizeOf (Tryd.prog.elem 32)).run Tryd.prog w = .ok 2 w := fun _ => by kernel_rfl
  by_cases h : cap = r
  · refine ⟨0, fun h' => by omega, fun w => ?_⟩
    rw [run_slice_l _ _ _ _ _ ht .i64 r (by omega) (by omega), hs]
    simp [Result.andThen, sliced, h]
  · refine ⟨r * 2, fun _ => rfl, fun w => ?_⟩
    rw [run_slice_l _ _ _ _ _ ht .i64 r (by omega) (by omega), hs]
    by_cases h0 : r = 0
    · subst h0; simp [Result.andThen, sliced, h, Addr.add]
    · have h2 : ¬ r * 2 = 0 := by omega
      simp [Result.andThen, sliced, h, Addr.add, h2]
/-- stack[:r] -/
theorem slice_high (g n cap r : Nat) (hr : r ≤ cap) (w : World) : (Instr.slice 32 (.slice (some ⟨g, 0, none⟩) n cap) none (some (.int .i64 (r : Int))) none).run Tryd.prog w = .ok (.slice (some ⟨g, 0, none⟩) r cap) w := by
  have ht : Tryd.prog.underlying 32 = some (.slice (Tryd.prog.elem 32)) := by kernel_rfl
  have hs : ∀ w, (sizeOf (Tryd.prog.elem 32)).run Tryd.prog w = .ok 2 w := fun _ => by kernel_rfl
  rw [run_slice_h _ _ _ _ _ ht .i64 r (by omega) (by omega), hs]
  simp [Result.andThen, sliced, Addr.add]

set_option maxHeartbeats 1000000 in
theorem runEx_calls (ops : List O2) (row : List V2) (g off cap gr offr capr : Nat) (w : World) (hT : TTakes w) (hTv : TVal w) (hTn : TNot w) (hTa : TAnd w) (hTo : TOr w) (hTc : TCmp w)
    (hg : g < w.heap.size) (hr : OpsAt w g off ops) (hgr : gr < w.heap.size) (hrr : RowAt w gr offr row) (b1 : ops.length ≤ 5000) (hF : fwd row.length ops 0 = some 1) :
    Calls Tryd.prog 33 #[.slice (some ⟨g, off, none⟩) ops.length cap, .slice (some ⟨gr, offr, none⟩) row.length capr] w fun e w' => e = .returned (.agg #[.bool ((stk row ops ops.length).getD 0 (false, 0)).1, .int .i64 ((stk row ops ops.length).getD 0 (false, 0)).2]) ∧ Below w.heap.size w w' := by
  go_enter Tryd.func33, Tryd.ntmps33
  go_wp2
  go_loopw [5, 7, 8, 9, 13] (fun s _ _ _ c wr => ∃ k g' cap' : Nat, k ≤ ops.length ∧ c = .int .i64 k ∧ s = .slice (some ⟨g', 0, none⟩) (stk row ops k).length cap' ∧ OwnS wr (w.heap.size + 1) g' cap' (stk row ops k) ∧ Below (w.heap.size + 1) (w.alloc (.cells #[.bool false, .int .i64 0] 24)) wr) (fun _ _ _ _ c _ => ops.length - (intOf c).toNat)
  case atStart =>
    refine ⟨0, w.heap.size + 1, 0, Nat.zero_le _, rfl, rfl, ?_, ?_⟩
    · refine ⟨rfl, Or.inr ⟨w.heap.size + 1, 0, #[], rfl, Nat.le_refl _, ?_, Nat.le_refl _, Nat.zero_le _, rfl, rfl⟩⟩
      have := (MapKept.heap_alloc (w.alloc (.cells #[.bool false, .int .i64 0] 24)) (.cells #[] 24)).1
      simpa using this
    · exact (Below.refl _ _).alloc (by simp) _
  case round =>
    obtain ⟨k, g', cap', hk, rfl, rfl, hO, hb⟩ := hrel
    by_cases hlt : k < ops.length
    · have hbw : Below w.heap.size w wr := (bA (Below.refl w.heap.size w) _).trans (hb.mono (by omega))
      obtain ⟨m, hm, ht0, htm⟩ := fwd_at row.length ops hF k hlt
      have hbl := stk_length row ops k m (by omega) hm
      have hmk := fwd_le row.length (ops.take k) 0 m hm
      simp at hmk
      have hss := stk_succ row ops k hlt
      unfold stepS at hss
      obtain ⟨x0, x1⟩ := (hr.of hg hbw).at k hlt
      have hL := takes_lookI (hT.of hbw) ops[k].1 ops[k].2 row.length ht0
      obtain ⟨hk1, hk8⟩ := tk_kind ht0
      have htr := tk_range ops[k].1 ops[k].2 row.length
      have OPV0 := fun a b w => opVal_calls ops[k].1 ops[k].2 a b row gr offr capr w ht0
      generalize tk ops[k].1 ops[k].2 row.length = t at *
      generalize ops[k].1 = K at *
      generalize ops[k].2 = N at *
      generalize hbs : stk row ops k = bs at *
      obtain ⟨r, hr'⟩ : ∃ r : Nat, (bs.length : Int) - t = (r : Int) := ⟨((bs.length : Int) - t).toNat, by omega⟩
      have hrt : bs.length - t.toNat = r := by omega
      rw [hrt] at hss
      obtain ⟨hg1, hg2, hg3, hg4⟩ := hO.lt
      obtain ⟨o7, ho7, hsl⟩ := slice_low g' bs.length cap' r (by omega) hg3
      have hsh := slice_high g' bs.length cap' r (by omega)
      have hq : g < wr.heap.size := Nat.lt_of_lt_of_le hg hbw.size
      have htk := hT.size
      have hwz := hbw.size
      have z5_0 : 5 < wr.heap.size := (by have := Nat.lt_of_lt_of_le htk hwz; omega); have z5_1 : 5 < wr.heap.size + 1 := (by have := Nat.lt_of_lt_of_le htk hwz; omega); have z5_2 : 5 < wr.heap.size + 1 + 1 := (by have := Nat.lt_of_lt_of_le htk hwz; omega); have z5_3 : 5 < wr.heap.size + 1 + 1 + 1 := (by have := Nat.lt_of_lt_of_le htk hwz; omega); have z5_4 : 5 < wr.heap.size + 1 + 1 + 1 + 1 := (by have := Nat.lt_of_lt_of_le htk hwz; omega)
      have k0 : (0 : Int) ≤ K := by omega
      have k9 : K < 9 := by omega
      have j1 : (k : Int) < (ops.length : Int) := by omega
      have HO := hide hO
      have hcp := copy_args 3 (wr.alloc (.cells #[.int .i64 K, .int .i64 N] 39)) g' o7 (cap' - r) (bs.drop r) (by simp; omega)
        (fun i x hx => by
          have := (hO.row.of (w1 := wr.alloc (.cells #[.int .i64 K, .int .i64 N] 39)) hg1 (bA (Below.refl _ _) _)) (r + i) x (by simpa using hx)
          have hi : r < bs.length := by have := (List.getElem?_eq_some_iff.1 hx).1; simp at this; omega
          rw [ho7 hi]
          simp only [Nat.zero_add] at this
          rw [show r * 2 + i * 2 = (r + i) * 2 from by omega]
          exact this) (by simp; omega)
      rw [show (bs.drop r).getD 0 (false, 0) = bs.getD r (false, 0) from by simp [List.getD], show (bs.drop r).getD 1 (false, 0) = bs.getD (r + 1) (false, 0) from by simp [List.getD], List.length_drop, World.size_alloc] at hcp
      generalize bs.getD r (false, 0) = va at *
      generalize bs.getD (r + 1) (false, 0) = vb at *
      have OPV := fun w => OPV0 va vb w
      clear OPV0
      generalize opv K N va vb row = y at *
      have HC := hide hcp
      have HSS := hide hss
      have HOPV := hide OPV
      have hb5 : bs.length ≤ 5000 := by omega
      have hr5 : r ≤ bs.length := by omega
      clear hcp hss OPV hO hbs hbl hm hF ho7 hmk hrt
      have hw1 := wrap_small ((bs.length : Int) - t) (by omega) (by omega)
      go_upto_region 7 with fail
      have HC' := unhide HC
      go_region_held3 (fun _ => True) (trivial) (fail)
      clear HC'
      go_upto_region 8 with fail
      obtain ⟨i, hi, hz⟩ := Option.map_eq_some_iff.1 (show (Tryd.prog.info? 24).map (fun i => (i.zero, i.size, i.bytes)) = some (some (.agg #[.bool false, .int .i64 0]), 2, 16) by kernel_rfl)
      simp only [Prod.mk.injEq] at hz
      obtain ⟨hz0, hz1, hz2⟩ := hz
      have h8 := A6.start wr K N va vb 39 73
      have e8 : Below wr.heap.size wr ((wr.alloc (.cells #[.int .i64 K, .int .i64 N] 39)).alloc (.cells #[.bool va.1, .int .i64 va.2, .bool vb.1, .int .i64 vb.2] 73)).drew.drew := Below.drew (Below.drew (bA (bA (Below.refl _ _) _) _))
      have d8 := bT hbw e8
      have H8 := hide h8
      clear h8 hsl
      go_region_held3 (A6 wr.heap.size K N va vb) (first | with_reducible assumption | exact A6.drew (A6.drew (unhide H8)) | exact A6.of (by with_reducible assumption) hb1 | exact A6.alloc (by with_reducible assumption) _ | exact A6.grown (by with_reducible assumption) hgrow hg1)
        (first
          | (go_at_call 44; refine (unhide HOPV _ (hTv.of d8) (hTn.of d8) (hTa.of d8) (hTo.of d8) (hTc.of d8) (Nat.lt_of_lt_of_le hgr d8.size) (hrr.of hgr d8)).mono ?_; rintro e w1 ⟨rfl, hb1⟩)
          | (refine step_append_lies _ rfl (.tmp 32) (.tmp 40) 32 rfl (w.heap.size + 1) 24 i _ 2 16 Tryd.underlying32 hi hz0 hz1 hz2 rfl (by decide) (.slice (some ⟨g', 0, none⟩) r cap') r (flatV (bs.take r)) rfl (((unhide HO).of (bA (bT e8 hb1) _)).cut r hr5) ⟨w1.heap.size, 0, none⟩ 1 1 [.bool y.1, .int .i64 y.2] rfl rfl (World.news_of_block (cs := #[.bool y.1, .int .i64 y.2]) (MapKept.heap_alloc w1 _).1) (by intro u hu; simp at hu; rcases hu with rfl | rfl <;> rfl) (by decide) (by unfold maxLen; omega) (by omega) (by have := hb1.size; simp at this; simp; omega) _ rfl ?_; intro g2 cap2 w2 hown2 hgrow hat hlt2))
      have hlen : (stk row ops (k + 1)).length = r + 1 := by rw [unhide HSS]; simp; omega
      have HO2 : Hid (OwnS w2 (w.heap.size + 1) g2 cap2 (stk row ops (k + 1))) := by
        show OwnS _ _ _ _ _
        unfold OwnS
        rw [hlen, unhide HSS, flatV_append]
        exact hown2
      have HB2 : Hid (Below (w.heap.size + 1) (w.alloc (.cells #[.bool false, .int .i64 0] 24)) w2) := by
        have s1 := hb.size
        simp at s1
        have e1 : Below (w.heap.size + 1) (w.alloc (.cells #[.bool false, .int .i64 0] 24)) (w1.alloc (.cells #[.bool y.1, .int .i64 y.2] 24)) := hb.trans ((bA (bT e8 hb1) _).mono s1)
        exact e1.grown hgrow (by have := e1.size; simp at this; simp; omega) (fun j hj => by
          have : g' = j := by simpa [Value.ownBlock] using hj
          omega)
      have HLEN := hide hlen
      clear hlen hown2 hgrow hat HSS HO HC HOPV H8 e8 d8
      go_wp2
      go_roundw
      case rel => exact ⟨k + 1, g2, cap2, by omega, by go_num, by rw [unhide HLEN], HO2.out, HB2.out⟩
      case measure => simp [intOf]; omega
    · obtain rfl : k = ops.length := by omega
      have hl := stk_length row ops ops.length 1 (Nat.le_refl _) (by rw [List.take_length]; exact hF)
      obtain ⟨x, hx⟩ : ∃ x, stk row ops ops.length = [x] := by
        match h : stk row ops ops.length, hl with
        | [x], _ => exact ⟨x, rfl⟩
      rw [hx] at hO ⊢
      obtain ⟨hg1, hg2, hg3, hg4⟩ := hO.lt
      obtain ⟨c0, c1⟩ := hO.row 0 x rfl
      simp only [Nat.zero_mul, Nat.zero_add] at c0 c1
      have r0 : wr.cell? ⟨w.heap.size, 0, none⟩ = some (.bool false) := (hb.cell (p := ⟨w.heap.size, 0, none⟩) (by show w.heap.size < _; omega)).trans (by simp [go_sem])
      have r1 : wr.cell? ⟨w.heap.size, 1, none⟩ = some (.int .i64 0) := (hb.cell (p := ⟨w.heap.size, 1, none⟩) (by show w.heap.size < _; omega)).trans (by simp [go_sem])
      have f0 : ∀ o, wr.frozen? ⟨w.heap.size, o, none⟩ = false := fun o => (hb.frozen (p := ⟨w.heap.size, o, none⟩) (by show w.heap.size < _; omega)).trans (by simp [go_sem])
      have hbw : Below w.heap.size w wr := (bA (Below.refl w.heap.size w) _).trans (hb.mono (by omega))
      have HX := hide hx
      clear hO hb hl hx hF
      go_wp2
      refine bodyPost_ret (v := .agg #[.bool x.1, .int .i64 x.2]) ?_ rfl ⟨by rw [unhide HX]; rfl, ?_⟩
      · simp [results, Tryd.results33, go_sem, r0, r1]
      · exact (hbw.setCell (Nat.le_refl _) _).setCell (Nat.le_refl _) _
end Go.Proofs.YtafmlbojmmdcdaaDoor
