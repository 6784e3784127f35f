import Derived.Test.YtbbjhepagkkjeaaGreatDoorQ12
namespace Go.Proofs.YtbbjhepagkkjeaaGreatDoor
open Go Go.RowKit
def DbE (w : World) (R : Nat) (a : Option Addr) (cap : Nat) (bs : List Nat) (e : Ending) (w' : World) : Prop :=
  ∃ (v : Value) (lab : Lq) (d : List Td) (p : Nat), e = .returned (.agg #[v]) ∧ DbS w' lab w.heap.size v d ∧ d.length = 3 ∧ Rd w' R a cap bs p ∧ Drw R w w' ∧ ∀ t ∈ d, 0 ≤ t.co ∧ t.co ≤ 3 ∧ t.rs.length ≤ 1000
structure DwI (w wr : World) (R : Nat) (a : Option Addr) (cap : Nat) (bs : List Nat) (i : Nat) (v : Value) (lab : Lq) (d : List Td) (p : Nat) : Prop where
  db : DbS wr lab w.heap.size v d
  len : d.length = i
  rd : Rd wr R a cap bs p
  drw : Drw R w wr
  box : wr.cell? ⟨w.heap.size + 1 + 1, 0, none⟩ = some v
  frz : ∀ o, wr.frozen? ⟨w.heap.size + 1 + 1, o, none⟩ = false
  res : wr.cell? ⟨w.heap.size, 0, none⟩ = some (.slice none 0 0)
  rfz : ∀ o, wr.frozen? ⟨w.heap.size, o, none⟩ = false
  siz : w.heap.size + 1 + 1 < wr.heap.size
  lbx : (lab (w.heap.size + 1 + 1)).1 = 0 ∧ (lab w.heap.size).1 = 0
  far : v.ownBlock ≠ some (w.heap.size + 1 + 1) ∧ v.ownBlock ≠ some w.heap.size
  pos : ∀ t ∈ d, 0 ≤ t.co ∧ t.co ≤ 3 ∧ t.rs.length ≤ 1000
theorem Drw.butB {S : Nat → Prop} {R : Nat} {w w1 w2 : World} (h : Drw R w w1) (k : ButB S w1 w2) (hR : R ≤ w.heap.size) (hS : ∀ b, S b → w.heap.size ≤ b) : Drw R w w2 :=
  ⟨Nat.le_trans h.size k.size, fun b hb hn => (k.block b (Nat.lt_of_lt_of_le hb h.size) (fun e => by have := hS b e; omega)).trans (h.block b hb hn),
    h.low.trans (k.below (Nat.le_trans hR h.size) (fun b e => Nat.le_trans hR (hS b e)))⟩
theorem Rd.butB {S : Nat → Prop} {w1 w2 : World} {R : Nat} {a : Option Addr} {cap : Nat} {bs : List Nat} {p : Nat} (h : Rd w1 R a cap bs p) (k : ButB S w1 w2) (hS : ∀ b, S b → R < b) : Rd w2 R a cap bs p :=
  h.blocks k.size (fun b hb => k.block b (Nat.lt_of_le_of_lt hb h.size) (fun e => by have := hS b e; omega))
theorem Drw.toBut {R : Nat} {w w1 : World} (h : Drw R w w1) : ButB (fun b => b = R) w w1 := ⟨h.low.os, h.low.tape, h.low.output, h.size, h.block⟩
section
variable {w wr w2 : World} {R : Nat} {a : Option Addr} {cap : Nat} {bs : List Nat} {i : Nat} {v : Value} {lab : Lq} {d : List Td} {p q : Nat}
theorem DwI.butB {S : Nat → Prop} (h : DwI w wr R a cap bs i v lab d p) (hR : R < w.heap.size) (k : ButB S wr w2) (hS : ∀ b, S b → w.heap.size + 1 + 1 < b) (hv : ∀ g, v.ownBlock = some g → ¬ S g) (hl : ∀ b, (lab b).1 ≠ 0 → ¬ S b) : DwI w w2 R a cap bs i v lab d p :=
  ⟨h.db.butB k hv hl, h.len, h.rd.butB k (fun b e => by have := hS b e; omega), h.drw.butB k (Nat.le_of_lt hR) (fun b e => by have := hS b e; omega), (k.cell _ 0 h.siz (fun e => by have := hS _ e; omega)).trans h.box, fun o => (k.frz _ o h.siz (fun e => by have := hS _ e; omega)).trans (h.frz o), (k.cell _ 0 (by have := h.siz; omega) (fun e => by have := hS _ e; omega)).trans h.res, fun o => (k.frz _ o (by have := h.siz; omega) (fun e => by have := hS _ e; omega)).trans (h.rfz o), Nat.lt_of_lt_of_le h.siz k.size, h.lbx, h.far, h.pos⟩
theorem DwI.below (h : DwI w wr R a cap bs i v lab d p) (hR : R < w.heap.size) (hb : Below wr.heap.size wr w2) : DwI w w2 R a cap bs i v lab d p :=
  h.butB (S := fun _ => False) hR (ButB.ofBelow hb) (fun _ e => e.elim) (fun _ _ e => e) (fun _ _ e => e)
theorem DwI.draw (h : DwI w wr R a cap bs i v lab d p) (hR : R < w.heap.size) (hd : Drw R wr w2) (hr : Rd w2 R a cap bs q) : DwI w w2 R a cap bs i v lab d q := by
  have k := hd.toBut
  have hs := h.siz
  refine ⟨h.db.butB k (fun g e e' => ?_) (fun b e e' => ?_), h.len, hr, h.drw.trans hd, (k.cell _ 0 h.siz (by omega)).trans h.box, fun o => (k.frz _ o h.siz (by omega)).trans (h.frz o), (k.cell _ 0 (by omega) (by omega)).trans h.res, fun o => (k.frz _ o (by omega) (by omega)).trans (h.rfz o), Nat.lt_of_lt_of_le h.siz k.size, h.lbx, h.far, h.pos⟩
  · have := (h.db.own.lt g e).1
    omega
  · have := (h.db.rng b e).1
    omega
theorem DwI.push {w5 : World} {v' : Value} {lab' : Lq} {t : Td} (h : DwI w wr R a cap bs i v lab d p) (hR : R < w.heap.size) (hdb : DbS w5 lab' w.heap.size v' (d ++ [t])) (hgr : wr.grownBy w5 v.ownBlock)
    (hvl : ∀ g, v'.ownBlock = some g → v.ownBlock = some g ∨ wr.heap.size ≤ g) (hlb : (lab' (w.heap.size + 1 + 1)).1 = 0 ∧ (lab' w.heap.size).1 = 0) (hp : 0 ≤ t.co ∧ t.co ≤ 3 ∧ t.rs.length ≤ 1000) : DwI w (w5.setCell ⟨w.heap.size + 1 + 1, 0, none⟩ v') R a cap bs (i + 1) v' lab' (d ++ [t]) p := by
  have k : ButB (fun b => v.ownBlock = some b) wr w5 := ButB.grown hgr (fun b e => e)
  have hs := h.siz
  have hvB : ∀ b, v.ownBlock = some b → w.heap.size ≤ b := fun b e => (h.db.own.lt b e).1
  have hb1 := (k.cell (w.heap.size + 1 + 1) 0 hs h.far.1).trans h.box
  have k2 : ButB (fun b => b = w.heap.size + 1 + 1) w5 (w5.setCell ⟨w.heap.size + 1 + 1, 0, none⟩ v') := ButB.set (S := fun b => b = w.heap.size + 1 + 1) (ButB.refl _ _) (Or.inl rfl) _
  have hf : v'.ownBlock ≠ some (w.heap.size + 1 + 1) ∧ v'.ownBlock ≠ some w.heap.size := by
    constructor
    · intro e
      rcases hvl _ e with h1 | h1
      · exact h.far.1 h1
      · omega
    · intro e
      rcases hvl _ e with h1 | h1
      · exact h.far.2 h1
      · omega
  have hs5 := k.size
  refine ⟨hdb.butB k2 (fun g e e' => hf.1 (by rw [e, e'])) (fun b e e' => e (by rw [e']; exact hlb.1)), by simp [h.len], (h.rd.butB k (fun b e => by have := hvB b e; omega)).butB k2 (fun b e => by omega), (h.drw.butB k (Nat.le_of_lt hR) hvB).butB k2 (Nat.le_of_lt hR) (fun b e => by omega), World.cell?_setCell_same _ _ _ hb1, fun o => ?_, ?_, fun o => ?_, by simp; omega, hlb, hf, fun t' ht' => ?_⟩
  · rw [World.frozen?_setCell]; exact (k.frz _ o hs h.far.1).trans (h.frz o)
  · exact (k2.cell w.heap.size 0 (by omega) (by omega)).trans ((k.cell w.heap.size 0 (by omega) h.far.2).trans h.res)
  · exact (k2.frz w.heap.size o (by omega) (by omega)).trans ((k.frz w.heap.size o (by omega) h.far.2).trans (h.rfz o))
  · rcases List.mem_append.1 ht' with h1 | h1
    · exact h.pos t' h1
    · simp only [List.mem_singleton] at h1
      rw [h1]
      exact hp
end
set_option maxRecDepth 100000 in
set_option maxHeartbeats 8000000 in
theorem l3DrawDb_calls (w : World) (R : Nat) (a : Option Addr) (cap : Nat) (bs : List Nat) (p : Nat) (h : Rd w R a cap bs p) :
    Calls Tryz.prog 69 #[.pointer (some ⟨R, 0, none⟩)] w (DbE w R a cap bs) := by
  have hR := h.size
  have H0 : Hid (DwI w (((w.alloc (.cells #[.slice none 0 0] 26)).alloc (.cells #[] 32)).alloc (.cells #[.slice (some ⟨w.heap.size + 1, 0, none⟩) 0 0] 26)) R a cap bs 0 (.slice (some ⟨w.heap.size + 1, 0, none⟩) 0 0) (fun _ => (0, 0)) [] p) := by
    have hb : Below w.heap.size w (((w.alloc (.cells #[.slice none 0 0] 26)).alloc (.cells #[] 32)).alloc (.cells #[.slice (some ⟨w.heap.size + 1, 0, none⟩) 0 0] 26)) := bA (bA (bA (Below.refl _ _) _) _) _
    refine ⟨⟨?_, fun b e => by simp at e, by simp, fun i t ht => by simp at ht⟩, rfl, h.of hb, (Drw.refl R w).below (Nat.le_of_lt hR) hb, by simp [go_sem], fun o => by simp [go_sem], by simp [go_sem], fun o => by simp [go_sem], by simp, ⟨rfl, rfl⟩, by simp [Value.ownBlock], fun t ht => by simp at ht⟩
    refine ⟨rfl, Or.inr ⟨w.heap.size + 1, 0, #[], rfl, by omega, ?_, Nat.le_refl _, Nat.zero_le _, rfl, rfl⟩⟩
    have h1 := (MapKept.heap_alloc (w.alloc (.cells #[.slice none 0 0] 26)) (.cells #[] 32)).1
    have h2 := (bA (Below.refl ((w.alloc (.cells #[.slice none 0 0] 26)).alloc (.cells #[] 32)).heap.size ((w.alloc (.cells #[.slice none 0 0] 26)).alloc (.cells #[] 32))) (.cells #[.slice (some ⟨w.heap.size + 1, 0, none⟩) 0 0] 26)).block (w.heap.size + 1) (by simp)
    rw [h2]
    simpa using h1
  have NX := hide (next_calls _ R a cap bs p (unhide H0).rd)
  clear h
  go_enter Tryz.func69, Tryz.ntmps69
  go_wp2_with fail
  refine (unhide NX).mono ?_; rintro e w1 ⟨rfl, hr1, hd1⟩
  have HD1 := hide ((unhide H0).draw hR hd1 hr1)
  have hkb := nxt_le hr1 p
  clear NX H0 hr1 hd1
  generalize nxt bs p = K0 at *
  generalize adv bs p = p0 at *
  obtain ⟨ti, hti, hz⟩ := Option.map_eq_some_iff.1 (show (Tryz.prog.info? 32).map (fun i => (i.zero, i.size, i.bytes)) = some (some (.agg #[.string ⟨#[]⟩, .int .i64 0, .slice none 0 0]), 3, 48) by kernel_rfl)
  simp only [Prod.mk.injEq] at hz
  obtain ⟨hz0, hz1, hz2⟩ := hz
  go_wp2
  go_loopw [4, 5] (fun kk c wr => ∃ (i K : Nat) (v : Value) (lab : Lq) (d : List Td) (p : Nat), i ≤ 3 ∧ K ≤ 255 ∧ kk = .int .i64 K ∧ c = .int .i64 i ∧ DwI w wr R a cap bs i v lab d p) (fun _ c _ => 3 - (intOf c).toNat)
  case atStart => exact ⟨0, K0, _, _, _, p0, Nat.zero_le _, hkb, rfl, rfl, unhide HD1⟩
  case round =>
    clear HD1 hkb
    obtain ⟨i, K, v, lab, d, p, hi, hK, rfl, rfl, hI⟩ := hrel
    by_cases hlt : i < 3
    · have j1 : (i : Int) < 3 := by omega
      obtain ⟨m, hm⟩ : ∃ m : Nat, (K : Int) % 4 = (m : Int) := ⟨K % 4, by omega⟩
      obtain ⟨K2, hK2⟩ : ∃ K2 : Nat, (K : Int) / 4 = (K2 : Int) := ⟨K / 4, by omega⟩
      have hm4 : m ≤ 3 := by omega
      have hK3 : K2 ≤ 255 := by omega
      have HTN := hide (fun W => l2TableName_calls i W); have HTC := hide (fun W => l2TableCols_calls i W)
      have HI := hide hI
      obtain ⟨ta, tc, hvf⟩ := hI.db.form
      have hdl := hI.len
      rw [hdl] at hvf
      subst hvf
      clear hI
      have hcase : (0 < (K2 : Int) ∧ (i == 0) = true ∧ i = 0) ∨ (0 < (K2 : Int) ∧ ((i : Int) == 0) = false) ∨ ¬ (0 < (K2 : Int)) := by
        by_cases h1 : 0 < (K2 : Int)
        · by_cases h2 : i = 0
          · exact Or.inl ⟨h1, by simp [h2], h2⟩
          · exact Or.inr (Or.inl ⟨h1, by simp; omega⟩)
        · exact Or.inr (Or.inr h1)
      rcases hcase with ⟨y1, y2, y3⟩ | ⟨y1, y2⟩ | y1
      · subst y3
        have HN : Hid (m + 1 ≤ 1000) := by show _ ≤ _; omega
        go_wp2_with fail
        refine (unhide HTN _).mono ?_; rintro e wx ⟨⟨nm, rfl, hnm⟩, rfl⟩
        go_wp2_with fail
        refine (unhide HTC _).mono ?_; rintro e wy ⟨⟨cw, rfl, hcw⟩, rfl⟩
        have hsz := (unhide HI).siz
        have HDI := hide ((unhide HI).below hR (bA (Below.refl wy.heap.size wy) (.cells #[.string (mkS nm), .int .i64 (cw : Int), .slice none 0 0] 32)))
        have LR := l1DrawRows_calls _ R a cap bs p (m + 1) cw (unhide HDI).rd (unhide HN) (by omega)
        rw [show ((m + 1 : Nat) : Int) = (m : Int) + 1 by omega] at LR
        have HLR := hide LR
        clear LR HTN HTC
        go_wp2_with fail
        refine (unhide HLR).mono ?_; rintro e w2 ⟨G, co, qs, rfl, hG⟩
        clear HLR
        have e0 : (wy.alloc (.cells #[.string (mkS nm), .int .i64 (cw : Int), .slice none 0 0] 32)).heap.size = wy.heap.size + 1 := by simp
        have b0 : w2.cell? ⟨wy.heap.size, 0, none⟩ = some (.string (mkS nm)) := (hG.drw.cell 0 (by omega) (by omega)).trans (by simp [go_sem])
        have b1 : w2.cell? ⟨wy.heap.size, 1, none⟩ = some (.int .i64 (cw : Int)) := (hG.drw.cell 1 (by omega) (by omega)).trans (by simp [go_sem])
        have b2 : w2.cell? ⟨wy.heap.size, 2, none⟩ = some (.slice none 0 0) := (hG.drw.cell 2 (by omega) (by omega)).trans (by simp [go_sem])
        have bf : ∀ o, w2.frozen? ⟨wy.heap.size, o, none⟩ = false := fun o => (hG.drw.frozen o (by omega) (by omega)).trans (by simp [go_sem])
        have hs2 : wy.heap.size < w2.heap.size := by have := hG.drw.size; omega
        have hI2 := (unhide HDI).draw hR hG.drw hG.rd
        have hI0 := unhide HI
        have lbt : ∀ b, (lab b).1 ≠ 0 → b < wy.heap.size := fun b e => (hI0.db.rng b e).2.1
        have vbt : ∀ g, (Value.slice ta 0 tc).ownBlock = some g → g < wy.heap.size := fun g e => (hI0.db.own.lt g e).2
        have kB : ButB (fun b => b = wy.heap.size) w2 (w2.setCell ⟨wy.heap.size, 2, none⟩ (.slice (some ⟨G, 0, none⟩) (m + 1) co)) := ButB.set (S := fun b => b = wy.heap.size) (ButB.refl _ _) (Or.inl rfl) _
        have hI3 := hI2.butB hR kB (fun b e => by omega) (fun g e e' => by have := vbt g e; omega) (fun b e e' => by have := lbt b e; omega)
        have hGl := hG.own.lt
        have hqn : qs.length = m + 1 := by rw [hG.len, dRowsN_length]
        have hT2 : TdS w2 (labG lab (wy.heap.size + 1) G d.length qs) w.heap.size d.length ⟨nm, (cw : Int), .slice (some ⟨G, 0, none⟩) (m + 1) co, qs⟩ := by
          have := TdS.drawn (lab := lab) (i := d.length) hG (Below.refl _ _) (B := w.heap.size) (by omega) hnm (C := (cw : Int)) (by omega) (by omega) hqn (by have := unhide HN; omega) (fun x hx => by have := dRowsN_wide bs p cw _ x hx; omega)
          rw [e0] at this
          exact this
        have hnw : ∀ b, (labG lab (wy.heap.size + 1) G d.length qs b).1 ≠ 0 → (lab b).1 ≠ 0 ∨ (wy.heap.size + 1 ≤ b ∧ b < w2.heap.size) := fun b e => by
          rcases labG_new b e with h1 | ⟨h1, h2⟩
          · exact Or.inl h1
          · refine Or.inr ⟨h1, ?_⟩
            rcases h2 with h2 | ⟨r, hr, h2⟩
            · rw [h2]; exact hGl.1
            · rw [← h2]; exact (hG.rows r hr).1.size
        have hT3 := hT2.butB kB (fun b e e' => by
          rcases hnw b e with h1 | h1
          · have := lbt b h1; omega
          · omega)
        have hs3 : (w2.setCell ⟨wy.heap.size, 2, none⟩ (.slice (some ⟨G, 0, none⟩) (m + 1) co)).heap.size = w2.heap.size := by simp
        have hT4 := hT3.butB (S := fun _ => False) (ButB.ofBelow (bA (Below.refl _ _) (.cells #[.string (mkS nm), .int .i64 (cw : Int), .slice (some ⟨G, 0, none⟩) (m + 1) co] 32))) (fun _ _ e => e)
        have hI4 := hI3.below hR (bA (Below.refl _ _) (.cells #[.string (mkS nm), .int .i64 (cw : Int), .slice (some ⟨G, 0, none⟩) (m + 1) co] 32))
        have HOW : Hid (((w2.setCell ⟨wy.heap.size, 2, none⟩ (.slice (some ⟨G, 0, none⟩) (m + 1) co)).alloc (.cells #[.string (mkS nm), .int .i64 (cw : Int), .slice (some ⟨G, 0, none⟩) (m + 1) co] 32)).ownsRow w.heap.size 32 3 (.slice ta 0 tc) 0 (tcs d)) := by
          have := hI4.db.own
          rw [hdl] at this
          exact this
        have xb := hI3.box
        have xs := hI3.siz
        have HX4 := hide (And.intro hI4.box (And.intro hI4.frz (And.intro hI4.siz hI4.far.1)))
        have HI4 := hide hI4; have HT4 := hide hT4; have HNw := hide hnw; have HLb := hide lbt; have HS3 := hide hs3; have HVb := hide vbt
        have HQN := hide hqn
        clear hG hI2 hI0 lbt vbt kB hI3 hGl hqn hT2 hT3 hT4 hI4 hnw HDI
        go_wp2_with (at_builtin; refine wpList_append_lies _ rfl (.tmp 40) (.tmp 42) 24 rfl w.heap.size 32 ti _ 3 48 Tryz.underlying24 hti hz0 hz1 hz2 rfl (by decide) (.slice ta 0 tc) 0 (tcs d) rfl (unhide HOW) ⟨w2.heap.size, 0, none⟩ 1 1 [.string (mkS nm), .int .i64 (cw : Int), .slice (some ⟨G, 0, none⟩) (m + 1) co] rfl rfl (World.news_of_block (cs := #[.string (mkS nm), .int .i64 (cw : Int), .slice (some ⟨G, 0, none⟩) (m + 1) co]) (by have := (MapKept.heap_alloc (w2.setCell ⟨wy.heap.size, 2, none⟩ (.slice (some ⟨G, 0, none⟩) (m + 1) co)) (.cells #[.string (mkS nm), .int .i64 (cw : Int), .slice (some ⟨G, 0, none⟩) (m + 1) co] 32)).1; rw [hs3] at this; exact this)) (by intro u hu; simp at hu; rcases hu with rfl | rfl | rfl <;> rfl) (by decide) (by unfold maxLen; omega) (by omega) (by simp; omega) _ rfl ?_; intro g2 cap2 w5 hown2 hgrow hat hlt2; obtain ⟨y4, y5, y6, y7⟩ := unhide HX4; have k5 := ButB.grown (S := fun b => _ = some b) hgrow (fun b e => e); have y8 := (k5.cell _ 0 y6 y7).trans y4; have y9 := fun o => (k5.frz _ o y6 y7).trans (y5 o); have y10 := Nat.lt_of_lt_of_le y6 k5.size; clear y4 y5 y6 y7 k5)
        have HI5 : Hid (DwI w (w5.setCell ⟨w.heap.size + 1 + 1, 0, none⟩ (.slice (some ⟨g2, 0, none⟩) (0 + 1) cap2)) R a cap bs (0 + 1) (.slice (some ⟨g2, 0, none⟩) (0 + 1) cap2) (labG lab (wy.heap.size + 1) G d.length qs) (d ++ [⟨nm, (cw : Int), .slice (some ⟨G, 0, none⟩) (m + 1) co, qs⟩]) (dRowsN bs p cw (m + 1)).2) := by
          have hI := unhide HI4
          have hdb := hI.db.push (t := ⟨nm, (cw : Int), .slice (some ⟨G, 0, none⟩) (m + 1) co, qs⟩) (g2 := g2) (c2 := cap2) (w2 := w5) (unhide HT4) (labG_old (fun b e => by have := unhide HLb b e; omega)) (fun b e => by
            rcases unhide HNw b e with h1 | ⟨h1, h2⟩
            · exact Or.inl h1
            · refine Or.inr ⟨by omega, by rw [World.size_alloc, unhide HS3]; omega, fun e' => ?_⟩
              have := unhide HVb b e'
              omega) (by omega) (by rw [hdl]; exact hown2) hgrow (by rcases hat with h1 | h1; exact Or.inl h1; exact Or.inr h1)
          rw [show d.length + 1 = 0 + 1 by omega] at hdb
          refine hI.push hR hdb hgrow (fun g e => ?_) ?_ ⟨(by show (0 : Int) ≤ (cw : Int); omega), (by show (cw : Int) ≤ 3; omega), (by show qs.length ≤ 1000; have h1 := unhide HQN; have h2 := unhide HN; omega)⟩
          · simp [Value.ownBlock] at e
            subst e
            rcases hat with h1 | h1
            · exact Or.inl h1
            · exact Or.inr (Nat.le_of_eq h1.symm)
          · unfold labG
            rw [if_pos (by omega), if_pos (by omega)]
            exact hI.lbx
        have f1 := (unhide HI5).siz
        have HI6 := HI5
        clear HI4 HT4 HNw HLb HS3 HVb HOW HI HX4
        go_roundw
        case rel => exact ⟨0 + 1, K2, _, _, _, _, by omega, hK3, rfl, by go_num, unhide HI6⟩
        case measure => simp [intOf] <;> omega
      · skip
        have HN : Hid (m ≤ 1000) := by show _ ≤ _; omega
        go_wp2_with fail
        refine (unhide HTN _).mono ?_; rintro e wx ⟨⟨nm, rfl, hnm⟩, rfl⟩
        go_wp2_with fail
        refine (unhide HTC _).mono ?_; rintro e wy ⟨⟨cw, rfl, hcw⟩, rfl⟩
        have hsz := (unhide HI).siz
        have HDI := hide ((unhide HI).below hR (bA (Below.refl wy.heap.size wy) (.cells #[.string (mkS nm), .int .i64 (cw : Int), .slice none 0 0] 32)))
        have LR := l1DrawRows_calls _ R a cap bs p (m) cw (unhide HDI).rd (unhide HN) (by omega)
        have HLR := hide LR
        clear LR HTN HTC
        go_wp2_with fail
        refine (unhide HLR).mono ?_; rintro e w2 ⟨G, co, qs, rfl, hG⟩
        clear HLR
        have e0 : (wy.alloc (.cells #[.string (mkS nm), .int .i64 (cw : Int), .slice none 0 0] 32)).heap.size = wy.heap.size + 1 := by simp
        have b0 : w2.cell? ⟨wy.heap.size, 0, none⟩ = some (.string (mkS nm)) := (hG.drw.cell 0 (by omega) (by omega)).trans (by simp [go_sem])
        have b1 : w2.cell? ⟨wy.heap.size, 1, none⟩ = some (.int .i64 (cw : Int)) := (hG.drw.cell 1 (by omega) (by omega)).trans (by simp [go_sem])
        have b2 : w2.cell? ⟨wy.heap.size, 2, none⟩ = some (.slice none 0 0) := (hG.drw.cell 2 (by omega) (by omega)).trans (by simp [go_sem])
        have bf : ∀ o, w2.frozen? ⟨wy.heap.size, o, none⟩ = false := fun o => (hG.drw.frozen o (by omega) (by omega)).trans (by simp [go_sem])
        have hs2 : wy.heap.size < w2.heap.size := by have := hG.drw.size; omega
        have hI2 := (unhide HDI).draw hR hG.drw hG.rd
        have hI0 := unhide HI
        have lbt : ∀ b, (lab b).1 ≠ 0 → b < wy.heap.size := fun b e => (hI0.db.rng b e).2.1
        have vbt : ∀ g, (Value.slice ta i tc).ownBlock = some g → g < wy.heap.size := fun g e => (hI0.db.own.lt g e).2
        have kB : ButB (fun b => b = wy.heap.size) w2 (w2.setCell ⟨wy.heap.size, 2, none⟩ (.slice (some ⟨G, 0, none⟩) (m) co)) := ButB.set (S := fun b => b = wy.heap.size) (ButB.refl _ _) (Or.inl rfl) _
        have hI3 := hI2.butB hR kB (fun b e => by omega) (fun g e e' => by have := vbt g e; omega) (fun b e e' => by have := lbt b e; omega)
        have hGl := hG.own.lt
        have hqn : qs.length = m := by rw [hG.len, dRowsN_length]
        have hT2 : TdS w2 (labG lab (wy.heap.size + 1) G d.length qs) w.heap.size d.length ⟨nm, (cw : Int), .slice (some ⟨G, 0, none⟩) (m) co, qs⟩ := by
          have := TdS.drawn (lab := lab) (i := d.length) hG (Below.refl _ _) (B := w.heap.size) (by omega) hnm (C := (cw : Int)) (by omega) (by omega) hqn (by have := unhide HN; omega) (fun x hx => by have := dRowsN_wide bs p cw _ x hx; omega)
          rw [e0] at this
          exact this
        have hnw : ∀ b, (labG lab (wy.heap.size + 1) G d.length qs b).1 ≠ 0 → (lab b).1 ≠ 0 ∨ (wy.heap.size + 1 ≤ b ∧ b < w2.heap.size) := fun b e => by
          rcases labG_new b e with h1 | ⟨h1, h2⟩
          · exact Or.inl h1
          · refine Or.inr ⟨h1, ?_⟩
            rcases h2 with h2 | ⟨r, hr, h2⟩
            · rw [h2]; exact hGl.1
            · rw [← h2]; exact (hG.rows r hr).1.size
        have hT3 := hT2.butB kB (fun b e e' => by
          rcases hnw b e with h1 | h1
          · have := lbt b h1; omega
          · omega)
        have hs3 : (w2.setCell ⟨wy.heap.size, 2, none⟩ (.slice (some ⟨G, 0, none⟩) (m) co)).heap.size = w2.heap.size := by simp
        have hT4 := hT3.butB (S := fun _ => False) (ButB.ofBelow (bA (Below.refl _ _) (.cells #[.string (mkS nm), .int .i64 (cw : Int), .slice (some ⟨G, 0, none⟩) (m) co] 32))) (fun _ _ e => e)
        have hI4 := hI3.below hR (bA (Below.refl _ _) (.cells #[.string (mkS nm), .int .i64 (cw : Int), .slice (some ⟨G, 0, none⟩) (m) co] 32))
        have HOW : Hid (((w2.setCell ⟨wy.heap.size, 2, none⟩ (.slice (some ⟨G, 0, none⟩) (m) co)).alloc (.cells #[.string (mkS nm), .int .i64 (cw : Int), .slice (some ⟨G, 0, none⟩) (m) co] 32)).ownsRow w.heap.size 32 3 (.slice ta i tc) i (tcs d)) := by
          have := hI4.db.own
          rw [hdl] at this
          exact this
        have xb := hI3.box
        have xs := hI3.siz
        have HX4 := hide (And.intro hI4.box (And.intro hI4.frz (And.intro hI4.siz hI4.far.1)))
        have HI4 := hide hI4; have HT4 := hide hT4; have HNw := hide hnw; have HLb := hide lbt; have HS3 := hide hs3; have HVb := hide vbt
        have HQN := hide hqn
        clear hG hI2 hI0 lbt vbt kB hI3 hGl hqn hT2 hT3 hT4 hI4 hnw HDI
        go_wp2_with (at_builtin; refine wpList_append_lies _ rfl (.tmp 40) (.tmp 42) 24 rfl w.heap.size 32 ti _ 3 48 Tryz.underlying24 hti hz0 hz1 hz2 rfl (by decide) (.slice ta i tc) i (tcs d) rfl (unhide HOW) ⟨w2.heap.size, 0, none⟩ 1 1 [.string (mkS nm), .int .i64 (cw : Int), .slice (some ⟨G, 0, none⟩) (m) co] rfl rfl (World.news_of_block (cs := #[.string (mkS nm), .int .i64 (cw : Int), .slice (some ⟨G, 0, none⟩) (m) co]) (by have := (MapKept.heap_alloc (w2.setCell ⟨wy.heap.size, 2, none⟩ (.slice (some ⟨G, 0, none⟩) (m) co)) (.cells #[.string (mkS nm), .int .i64 (cw : Int), .slice (some ⟨G, 0, none⟩) (m) co] 32)).1; rw [hs3] at this; exact this)) (by intro u hu; simp at hu; rcases hu with rfl | rfl | rfl <;> rfl) (by decide) (by unfold maxLen; omega) (by omega) (by simp; omega) _ rfl ?_; intro g2 cap2 w5 hown2 hgrow hat hlt2; obtain ⟨y4, y5, y6, y7⟩ := unhide HX4; have k5 := ButB.grown (S := fun b => _ = some b) hgrow (fun b e => e); have y8 := (k5.cell _ 0 y6 y7).trans y4; have y9 := fun o => (k5.frz _ o y6 y7).trans (y5 o); have y10 := Nat.lt_of_lt_of_le y6 k5.size; clear y4 y5 y6 y7 k5)
        have HI5 : Hid (DwI w (w5.setCell ⟨w.heap.size + 1 + 1, 0, none⟩ (.slice (some ⟨g2, 0, none⟩) (i + 1) cap2)) R a cap bs (i + 1) (.slice (some ⟨g2, 0, none⟩) (i + 1) cap2) (labG lab (wy.heap.size + 1) G d.length qs) (d ++ [⟨nm, (cw : Int), .slice (some ⟨G, 0, none⟩) (m) co, qs⟩]) (dRowsN bs p cw (m)).2) := by
          have hI := unhide HI4
          have hdb := hI.db.push (t := ⟨nm, (cw : Int), .slice (some ⟨G, 0, none⟩) (m) co, qs⟩) (g2 := g2) (c2 := cap2) (w2 := w5) (unhide HT4) (labG_old (fun b e => by have := unhide HLb b e; omega)) (fun b e => by
            rcases unhide HNw b e with h1 | ⟨h1, h2⟩
            · exact Or.inl h1
            · refine Or.inr ⟨by omega, by rw [World.size_alloc, unhide HS3]; omega, fun e' => ?_⟩
              have := unhide HVb b e'
              omega) (by omega) (by rw [hdl]; exact hown2) hgrow (by rcases hat with h1 | h1; exact Or.inl h1; exact Or.inr h1)
          rw [show d.length + 1 = i + 1 by omega] at hdb
          refine hI.push hR hdb hgrow (fun g e => ?_) ?_ ⟨(by show (0 : Int) ≤ (cw : Int); omega), (by show (cw : Int) ≤ 3; omega), (by show qs.length ≤ 1000; have h1 := unhide HQN; have h2 := unhide HN; omega)⟩
          · simp [Value.ownBlock] at e
            subst e
            rcases hat with h1 | h1
            · exact Or.inl h1
            · exact Or.inr (Nat.le_of_eq h1.symm)
          · unfold labG
            rw [if_pos (by omega), if_pos (by omega)]
            exact hI.lbx
        have f1 := (unhide HI5).siz
        have HI6 := HI5
        clear HI4 HT4 HNw HLb HS3 HVb HOW HI HX4
        go_roundw
        case rel => exact ⟨i + 1, K2, _, _, _, _, by omega, hK3, rfl, by go_num, unhide HI6⟩
        case measure => simp [intOf] <;> omega
      · skip
        have HN : Hid (m ≤ 1000) := by show _ ≤ _; omega
        go_wp2_with fail
        refine (unhide HTN _).mono ?_; rintro e wx ⟨⟨nm, rfl, hnm⟩, rfl⟩
        go_wp2_with fail
        refine (unhide HTC _).mono ?_; rintro e wy ⟨⟨cw, rfl, hcw⟩, rfl⟩
        have hsz := (unhide HI).siz
        have HDI := hide ((unhide HI).below hR (bA (Below.refl wy.heap.size wy) (.cells #[.string (mkS nm), .int .i64 (cw : Int), .slice none 0 0] 32)))
        have LR := l1DrawRows_calls _ R a cap bs p (m) cw (unhide HDI).rd (unhide HN) (by omega)
        have HLR := hide LR
        clear LR HTN HTC
        go_wp2_with fail
        refine (unhide HLR).mono ?_; rintro e w2 ⟨G, co, qs, rfl, hG⟩
        clear HLR
        have e0 : (wy.alloc (.cells #[.string (mkS nm), .int .i64 (cw : Int), .slice none 0 0] 32)).heap.size = wy.heap.size + 1 := by simp
        have b0 : w2.cell? ⟨wy.heap.size, 0, none⟩ = some (.string (mkS nm)) := (hG.drw.cell 0 (by omega) (by omega)).trans (by simp [go_sem])
        have b1 : w2.cell? ⟨wy.heap.size, 1, none⟩ = some (.int .i64 (cw : Int)) := (hG.drw.cell 1 (by omega) (by omega)).trans (by simp [go_sem])
        have b2 : w2.cell? ⟨wy.heap.size, 2, none⟩ = some (.slice none 0 0) := (hG.drw.cell 2 (by omega) (by omega)).trans (by simp [go_sem])
        have bf : ∀ o, w2.frozen? ⟨wy.heap.size, o, none⟩ = false := fun o => (hG.drw.frozen o (by omega) (by omega)).trans (by simp [go_sem])
        have hs2 : wy.heap.size < w2.heap.size := by have := hG.drw.size; omega
        have hI2 := (unhide HDI).draw hR hG.drw hG.rd
        have hI0 := unhide HI
        have lbt : ∀ b, (lab b).1 ≠ 0 → b < wy.heap.size := fun b e => (hI0.db.rng b e).2.1
        have vbt : ∀ g, (Value.slice ta i tc).ownBlock = some g → g < wy.heap.size := fun g e => (hI0.db.own.lt g e).2
        have kB : ButB (fun b => b = wy.heap.size) w2 (w2.setCell ⟨wy.heap.size, 2, none⟩ (.slice (some ⟨G, 0, none⟩) (m) co)) := ButB.set (S := fun b => b = wy.heap.size) (ButB.refl _ _) (Or.inl rfl) _
        have hI3 := hI2.butB hR kB (fun b e => by omega) (fun g e e' => by have := vbt g e; omega) (fun b e e' => by have := lbt b e; omega)
        have hGl := hG.own.lt
        have hqn : qs.length = m := by rw [hG.len, dRowsN_length]
        have hT2 : TdS w2 (labG lab (wy.heap.size + 1) G d.length qs) w.heap.size d.length ⟨nm, (cw : Int), .slice (some ⟨G, 0, none⟩) (m) co, qs⟩ := by
          have := TdS.drawn (lab := lab) (i := d.length) hG (Below.refl _ _) (B := w.heap.size) (by omega) hnm (C := (cw : Int)) (by omega) (by omega) hqn (by have := unhide HN; omega) (fun x hx => by have := dRowsN_wide bs p cw _ x hx; omega)
          rw [e0] at this
          exact this
        have hnw : ∀ b, (labG lab (wy.heap.size + 1) G d.length qs b).1 ≠ 0 → (lab b).1 ≠ 0 ∨ (wy.heap.size + 1 ≤ b ∧ b < w2.heap.size) := fun b e => by
          rcases labG_new b e with h1 | ⟨h1, h2⟩
          · exact Or.inl h1
          · refine Or.inr ⟨h1, ?_⟩
            rcases h2 with h2 | ⟨r, hr, h2⟩
            · rw [h2]; exact hGl.1
            · rw [← h2]; exact (hG.rows r hr).1.size
        have hT3 := hT2.butB kB (fun b e e' => by
          rcases hnw b e with h1 | h1
          · have := lbt b h1; omega
          · omega)
        have hs3 : (w2.setCell ⟨wy.heap.size, 2, none⟩ (.slice (some ⟨G, 0, none⟩) (m) co)).heap.size = w2.heap.size := by simp
        have hT4 := hT3.butB (S := fun _ => False) (ButB.ofBelow (bA (Below.refl _ _) (.cells #[.string (mkS nm), .int .i64 (cw : Int), .slice (some ⟨G, 0, none⟩) (m) co] 32))) (fun _ _ e => e)
        have hI4 := hI3.below hR (bA (Below.refl _ _) (.cells #[.string (mkS nm), .int .i64 (cw : Int), .slice (some ⟨G, 0, none⟩) (m) co] 32))
        have HOW : Hid (((w2.setCell ⟨wy.heap.size, 2, none⟩ (.slice (some ⟨G, 0, none⟩) (m) co)).alloc (.cells #[.string (mkS nm), .int .i64 (cw : Int), .slice (some ⟨G, 0, none⟩) (m) co] 32)).ownsRow w.heap.size 32 3 (.slice ta i tc) i (tcs d)) := by
          have := hI4.db.own
          rw [hdl] at this
          exact this
        have xb := hI3.box
        have xs := hI3.siz
        have HX4 := hide (And.intro hI4.box (And.intro hI4.frz (And.intro hI4.siz hI4.far.1)))
        have HI4 := hide hI4; have HT4 := hide hT4; have HNw := hide hnw; have HLb := hide lbt; have HS3 := hide hs3; have HVb := hide vbt
        have HQN := hide hqn
        clear hG hI2 hI0 lbt vbt kB hI3 hGl hqn hT2 hT3 hT4 hI4 hnw HDI
        go_wp2_with (at_builtin; refine wpList_append_lies _ rfl (.tmp 40) (.tmp 42) 24 rfl w.heap.size 32 ti _ 3 48 Tryz.underlying24 hti hz0 hz1 hz2 rfl (by decide) (.slice ta i tc) i (tcs d) rfl (unhide HOW) ⟨w2.heap.size, 0, none⟩ 1 1 [.string (mkS nm), .int .i64 (cw : Int), .slice (some ⟨G, 0, none⟩) (m) co] rfl rfl (World.news_of_block (cs := #[.string (mkS nm), .int .i64 (cw : Int), .slice (some ⟨G, 0, none⟩) (m) co]) (by have := (MapKept.heap_alloc (w2.setCell ⟨wy.heap.size, 2, none⟩ (.slice (some ⟨G, 0, none⟩) (m) co)) (.cells #[.string (mkS nm), .int .i64 (cw : Int), .slice (some ⟨G, 0, none⟩) (m) co] 32)).1; rw [hs3] at this; exact this)) (by intro u hu; simp at hu; rcases hu with rfl | rfl | rfl <;> rfl) (by decide) (by unfold maxLen; omega) (by omega) (by simp; omega) _ rfl ?_; intro g2 cap2 w5 hown2 hgrow hat hlt2; obtain ⟨y4, y5, y6, y7⟩ := unhide HX4; have k5 := ButB.grown (S := fun b => _ = some b) hgrow (fun b e => e); have y8 := (k5.cell _ 0 y6 y7).trans y4; have y9 := fun o => (k5.frz _ o y6 y7).trans (y5 o); have y10 := Nat.lt_of_lt_of_le y6 k5.size; clear y4 y5 y6 y7 k5)
        have HI5 : Hid (DwI w (w5.setCell ⟨w.heap.size + 1 + 1, 0, none⟩ (.slice (some ⟨g2, 0, none⟩) (i + 1) cap2)) R a cap bs (i + 1) (.slice (some ⟨g2, 0, none⟩) (i + 1) cap2) (labG lab (wy.heap.size + 1) G d.length qs) (d ++ [⟨nm, (cw : Int), .slice (some ⟨G, 0, none⟩) (m) co, qs⟩]) (dRowsN bs p cw (m)).2) := by
          have hI := unhide HI4
          have hdb := hI.db.push (t := ⟨nm, (cw : Int), .slice (some ⟨G, 0, none⟩) (m) co, qs⟩) (g2 := g2) (c2 := cap2) (w2 := w5) (unhide HT4) (labG_old (fun b e => by have := unhide HLb b e; omega)) (fun b e => by
            rcases unhide HNw b e with h1 | ⟨h1, h2⟩
            · exact Or.inl h1
            · refine Or.inr ⟨by omega, by rw [World.size_alloc, unhide HS3]; omega, fun e' => ?_⟩
              have := unhide HVb b e'
              omega) (by omega) (by rw [hdl]; exact hown2) hgrow (by rcases hat with h1 | h1; exact Or.inl h1; exact Or.inr h1)
          rw [show d.length + 1 = i + 1 by omega] at hdb
          refine hI.push hR hdb hgrow (fun g e => ?_) ?_ ⟨(by show (0 : Int) ≤ (cw : Int); omega), (by show (cw : Int) ≤ 3; omega), (by show qs.length ≤ 1000; have h1 := unhide HQN; have h2 := unhide HN; omega)⟩
          · simp [Value.ownBlock] at e
            subst e
            rcases hat with h1 | h1
            · exact Or.inl h1
            · exact Or.inr (Nat.le_of_eq h1.symm)
          · unfold labG
            rw [if_pos (by omega), if_pos (by omega)]
            exact hI.lbx
        have f1 := (unhide HI5).siz
        have HI6 := HI5
        clear HI4 HT4 HNw HLb HS3 HVb HOW HI HX4
        go_roundw
        case rel => exact ⟨i + 1, K2, _, _, _, _, by omega, hK3, rfl, by go_num, unhide HI6⟩
        case measure => simp [intOf] <;> omega
    · obtain rfl : i = 3 := by omega
      have HI := hide hI
      have k0 := hI.box; have k1 := hI.res; have k2 := hI.rfz; have k3 := hI.siz
      have k4 : w.heap.size < wr.heap.size := by omega
      obtain ⟨ta, tc, hvf⟩ := hI.db.form
      have hdl := hI.len
      rw [hdl] at hvf
      subst hvf
      clear hI
      have HFin : Hid (DbE w R a cap bs (.returned (.agg #[.slice ta 3 tc])) (wr.setCell ⟨w.heap.size, 0, none⟩ (.slice ta 3 tc))) := by
        have hI := unhide HI
        have k2 : ButB (fun b => b = w.heap.size) wr (wr.setCell ⟨w.heap.size, 0, none⟩ (.slice ta 3 tc)) := ButB.set (S := fun b => b = w.heap.size) (ButB.refl _ _) (Or.inl rfl) _
        refine ⟨_, lab, d, p, rfl, ?_, hdl, hI.rd.butB k2 (fun b e => by omega), hI.drw.butB k2 (Nat.le_of_lt hR) (fun b e => by omega), hI.pos⟩
        exact hI.db.butB k2 (fun g e e' => hI.far.2 (by rw [e, e'])) (fun b e e' => e (by rw [e']; exact hI.lbx.2))
      go_wp2
      refine bodyPost_ret (v := .agg #[.slice ta 3 tc]) (by simp [results, Tryz.results69, go_sem, k1]) rfl (unhide HFin)
end Go.Proofs.YtbbjhepagkkjeaaGreatDoor
