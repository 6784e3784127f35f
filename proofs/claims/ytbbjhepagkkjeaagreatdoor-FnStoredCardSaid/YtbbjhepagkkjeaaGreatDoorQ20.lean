import Derived.Test.YtbbjhepagkkjeaaGreatDoorDwSpo0
import Derived.Test.YtbbjhepagkkjeaaGreatDoorQ17
import Derived.Test.YtbbjhepagkkjeaaGreatDoorDwSpo4
import Derived.Test.YtbbjhepagkkjeaaGreatDoorDwSpo5
import Derived.Test.YtbbjhepagkkjeaaGreatDoorQ12
namespace Go.Proofs.YtbbjhepagkkjeaaGreatDoor
open Go Go.RowKit
theorem l3SpoilDb_calls (w : World) (R : Nat) (a : Option Addr) (cap : Nat) (bs : List Nat) (p : Nat) (h : Rd w R a cap bs p) (lab : Lq) (B : Nat) (v : Value) (d : List Td) (hD : DbS w lab B v d) (hRB : R < B) (hBw : B ≤ w.heap.size) (hd3 : d.length = 3) (hpos : ∀ t ∈ d, 0 ≤ t.co ∧ t.co ≤ 3 ∧ t.rs.length ≤ 1000) :
    Calls Tryz.prog 36 #[.pointer (some ⟨R, 0, none⟩), .agg #[v]] w (SpE w R B) := by
  have hc : (nxt bs p : Int) % 8 = 0 ∨ (nxt bs p : Int) % 8 = 1 ∨ (nxt bs p : Int) % 8 = 2 ∨ (nxt bs p : Int) % 8 = 3 ∨ (nxt bs p : Int) % 8 = 4 ∨ (nxt bs p : Int) % 8 = 5 ∨ (nxt bs p : Int) % 8 = 6 ∨ (nxt bs p : Int) % 8 = 7 := by omega
  rcases hc with y | y | y | y | y | y | y | y
  · exact l3SpoilDb_DwSpo0 w R a cap bs p h lab B v d hD hRB hBw hd3 hpos (Or.inl y)
  · exact l3SpoilDb_DwSpo0 w R a cap bs p h lab B v d hD hRB hBw hd3 hpos (Or.inr (Or.inl y))
  · exact l3SpoilDb_DwSpo2 w R a cap bs p h lab B v d hD hRB hBw hd3 hpos y
  · exact l3SpoilDb_DwSpo0 w R a cap bs p h lab B v d hD hRB hBw hd3 hpos (Or.inr (Or.inr (Or.inl y)))
  · exact l3SpoilDb_DwSpo4 w R a cap bs p h lab B v d hD hRB hBw hd3 hpos y
  · exact l3SpoilDb_DwSpo5 w R a cap bs p h lab B v d hD hRB hBw hd3 hpos y
  · exact l3SpoilDb_DwSpo0 w R a cap bs p h lab B v d hD hRB hBw hd3 hpos (Or.inr (Or.inr (Or.inr (Or.inl y))))
  · exact l3SpoilDb_DwSpo0 w R a cap bs p h lab B v d hD hRB hBw hd3 hpos (Or.inr (Or.inr (Or.inr (Or.inr y))))
end Go.Proofs.YtbbjhepagkkjeaaGreatDoor
namespace Go.Proofs.YtbbjhepagkkjeaaGreatDoor
open Go Go.RowKit
structure Sht (lab : Lq) (w w1 : World) : Prop where
  but : ButB (fun b => (lab b).1 = 1) w w1
  frz : ∀ b o, b < w.heap.size → w1.frozen? ⟨b, o, none⟩ = w.frozen? ⟨b, o, none⟩
  bool : ∀ b o x, b < w.heap.size → w.cell? ⟨b, o, none⟩ = some (.bool x) → ∃ y, w1.cell? ⟨b, o, none⟩ = some (.bool y)
  int : ∀ b o x, b < w.heap.size → w.cell? ⟨b, o, none⟩ = some (.int .i64 x) → ∃ y, w1.cell? ⟨b, o, none⟩ = some (.int .i64 y) ∧ (y = x ∨ y = 999999999999999999)
theorem Sht.refl (lab : Lq) (w : World) : Sht lab w w := ⟨ButB.refl _ _, fun _ _ _ => rfl, fun _ _ x _ h => ⟨x, h⟩, fun _ _ x _ h => ⟨x, h, Or.inl rfl⟩⟩
theorem Sht.trans {lab : Lq} {w w1 w2 : World} (h : Sht lab w w1) (k : Sht lab w1 w2) : Sht lab w w2 :=
  ⟨h.but.trans k.but, fun b o hb => (k.frz b o (Nat.lt_of_lt_of_le hb h.but.size)).trans (h.frz b o hb), fun b o x hb hx => by
    obtain ⟨y, hy⟩ := h.bool b o x hb hx
    exact k.bool b o y (Nat.lt_of_lt_of_le hb h.but.size) hy, fun b o x hb hx => by
    obtain ⟨y, hy, e⟩ := h.int b o x hb hx
    obtain ⟨z, hz, e2⟩ := k.int b o y (Nat.lt_of_lt_of_le hb h.but.size) hy
    exact ⟨z, hz, by omega⟩⟩
theorem Sht.ofBelow {lab : Lq} {w w1 : World} (h : Below w.heap.size w w1) : Sht lab w w1 :=
  ⟨ButB.ofBelow h, fun b o hb => h.frozen (p := ⟨b, o, none⟩) hb, fun b o x hb hx => ⟨x, (h.cell (p := ⟨b, o, none⟩) hb).trans hx⟩, fun b o x hb hx => ⟨x, (h.cell (p := ⟨b, o, none⟩) hb).trans hx, Or.inl rfl⟩⟩
theorem Sht.setB {lab : Lq} {w : World} {g o : Nat} {x : Bool} (hl : (lab g).1 = 1) (hg : w.cell? ⟨g, o, none⟩ = some (.bool x)) (y : Bool) : Sht lab w (w.setCell ⟨g, o, none⟩ (.bool y)) := by
  refine ⟨ButB.set (S := fun b => (lab b).1 = 1) (ButB.refl _ _) (Or.inl hl) _, fun b o' hb => by rw [World.frozen?_setCell], fun b o' z hb hz => ?_, fun b o' z hb hz => ?_⟩
  · by_cases e : (⟨g, o, none⟩ : Addr) = ⟨b, o', none⟩
    · rw [← e]; exact ⟨y, World.cell?_setCell_same _ _ _ hg⟩
    · rw [World.cell?_setCell_other _ _ _ _ e]; exact ⟨z, hz⟩
  · by_cases e : (⟨g, o, none⟩ : Addr) = ⟨b, o', none⟩
    · rw [← e, hg] at hz; simp at hz
    · rw [World.cell?_setCell_other _ _ _ _ e]; exact ⟨z, hz, Or.inl rfl⟩
theorem Sht.setI {lab : Lq} {w : World} {g o : Nat} {x : Int} (hl : (lab g).1 = 1) (hg : w.cell? ⟨g, o, none⟩ = some (.int .i64 x)) : Sht lab w (w.setCell ⟨g, o, none⟩ (.int .i64 999999999999999999)) := by
  refine ⟨ButB.set (S := fun b => (lab b).1 = 1) (ButB.refl _ _) (Or.inl hl) _, fun b o' hb => by rw [World.frozen?_setCell], fun b o' z hb hz => ?_, fun b o' z hb hz => ?_⟩
  · by_cases e : (⟨g, o, none⟩ : Addr) = ⟨b, o', none⟩
    · rw [← e, hg] at hz; simp at hz
    · rw [World.cell?_setCell_other _ _ _ _ e]; exact ⟨z, hz⟩
  · by_cases e : (⟨g, o, none⟩ : Addr) = ⟨b, o', none⟩
    · rw [← e]; exact ⟨_, World.cell?_setCell_same _ _ _ hg, Or.inr rfl⟩
    · rw [World.cell?_setCell_other _ _ _ _ e]; exact ⟨z, hz, Or.inl rfl⟩
theorem Sht.far {lab : Lq} {w w1 : World} (h : Sht lab w w1) {g o : Nat} (hg : w.heap.size ≤ g) (v : Value) : Sht lab w (w1.setCell ⟨g, o, none⟩ v) := by
  have hne : ∀ b o', b < w.heap.size → (⟨g, o, none⟩ : Addr) ≠ ⟨b, o', none⟩ := fun b o' hb e => by
    simp only [Addr.mk.injEq] at e
    omega
  refine ⟨h.but.set (Or.inr hg) _, fun b o' hb => by rw [World.frozen?_setCell]; exact h.frz b o' hb, fun b o' x hb hx => ?_, fun b o' x hb hx => ?_⟩
  · rw [World.cell?_setCell_other _ _ _ _ (hne b o' hb)]; exact h.bool b o' x hb hx
  · rw [World.cell?_setCell_other _ _ _ _ (hne b o' hb)]; exact h.int b o' x hb hx
theorem RowT.sht {lab : Lq} {w w1 : World} {g n : Nat} (h : RowT w g n) (hs : Sht lab w w1) : RowT w1 g n :=
  ⟨Nat.lt_of_lt_of_le h.size hs.but.size, fun o => (hs.frz g o h.size).trans (h.frz o), fun c hc => by
    obtain ⟨b, N, h1, h2⟩ := h.cell c hc
    obtain ⟨b', h1'⟩ := hs.bool g _ b h.size h1
    obtain ⟨N', h2', _⟩ := hs.int g _ N h.size h2
    exact ⟨b', N', h1', h2'⟩⟩
theorem ShC.sht {lab : Lq} {w w1 : World} {g c : Nat} (h : ShC w g c) (hs : Sht lab w w1) (hg : g < w.heap.size) : ShC w1 g c := by
  obtain ⟨b, N, h1, h2, h3⟩ := h
  obtain ⟨b', h1'⟩ := hs.bool g _ b hg h1
  obtain ⟨N', h2', e⟩ := hs.int g _ N hg h2
  exact ⟨b', N', h1', h2', by omega⟩
theorem TdS.sht {lab : Lq} {w w1 : World} {B i : Nat} {t : Td} (h : TdS w lab B i t) (hs : Sht lab w w1) : TdS w1 lab B i t :=
  ⟨h.nm, h.lo, h.hi, h.few, ownsRow_butB h.own hs.but (fun g e => by rw [h.blk g e]; simp), h.blk, fun r hr => ⟨(h.row r hr).1, (h.row r hr).2.1, (h.row r hr).2.2.sht hs⟩⟩
theorem DbS.sht {lab : Lq} {w w1 : World} {B : Nat} {v : Value} {d : List Td} (h : DbS w lab B v d) (hs : Sht lab w w1) : DbS w1 lab B v d :=
  ⟨ownsRow_butB h.own hs.but (fun g e hh => (h.rng g (by rw [hh]; simp)).2.2 e), fun b e => ⟨(h.rng b e).1, Nat.lt_of_lt_of_le (h.rng b e).2.1 hs.but.size, (h.rng b e).2.2⟩, h.few, fun i t ht => (h.tab i t ht).sht hs⟩
def ShE (n : Int) (w : World) (e : Ending) (w' : World) : Prop := (∃ b, e = .returned (.bool b) ∧ (b = true → -1000000000000000000 < n ∧ n < 1000000000000000000)) ∧ Below w.heap.size w w'
set_option maxHeartbeats 2000000 in
theorem l2Short_calls (n : Int) (w : World) : Calls Tryz.prog 72 #[.int .i64 n] w (ShE n w) := by
  by_cases h1 : -1000000000000000000 < n
  · by_cases h2 : n < 1000000000000000000
    · have HE := hide (And.intro h1 h2)
      go_enter Tryz.func72, Tryz.ntmps72
      go_wp2
      go_ret
      exact ⟨⟨true, rfl, fun _ => unhide HE⟩, Below.refl _ _⟩
    · go_enter Tryz.func72, Tryz.ntmps72
      go_wp2
      go_ret
      exact ⟨⟨false, rfl, fun h => by cases h⟩, Below.refl _ _⟩
  · go_enter Tryz.func72, Tryz.ntmps72
    go_wp2
    go_ret
    exact ⟨⟨false, rfl, fun h => by cases h⟩, Below.refl _ _⟩
def SrtE (lab : Lq) (v : Value) (d : List Td) (w : World) (e : Ending) (w' : World) : Prop := e = .returned (.agg #[v]) ∧ Sht lab w w' ∧ ShD w' d
theorem DbS.zero {w : World} {lab : Lq} {B : Nat} {v : Value} {d : List Td} (h : DbS w lab B v d) {b : Nat} (hb : w.heap.size ≤ b) : ¬ (lab b).1 = 1 := fun e => by
  have := (h.rng b (by rw [e]; simp)).2.1
  omega
set_option maxRecDepth 100000 in
set_option maxHeartbeats 8000000 in
theorem l3Shorten_calls (w : World) (lab : Lq) (B : Nat) (v : Value) (d : List Td) (h : DbS w lab B v d) :
    Calls Tryz.prog 35 #[.agg #[v]] w (SrtE lab v d w) := by
  obtain ⟨a, c, rfl⟩ := h.form
  have hfw := h.few
  have l0 := h.zero (Nat.le_refl w.heap.size)
  have l1 := h.zero (Nat.le_succ w.heap.size)
  have hB2 : Below w.heap.size w ((w.alloc (.cells #[.slice a d.length c] 26)).alloc (.cells #[.slice none 0 0] 26)) := bA (bA (Below.refl _ _) _) _
  have HD := hide (h.of hB2)
  obtain ⟨k0, k1, k2⟩ := (fun Q (hQ : ((w.alloc (.cells #[.slice a d.length c] 26)).alloc (.cells #[.slice none 0 0] 26)) = Q) => (by subst hQ; exact ⟨by simp [go_sem], by simp [go_sem], by simp⟩ : Q.cell? ⟨w.heap.size, 0, none⟩ = some (.slice a d.length c) ∧ Q.cell? ⟨w.heap.size + 1, 0, none⟩ = some (.slice none 0 0) ∧ Q.heap.size = w.heap.size + 2)) _ rfl
  have k3 : ∀ o, ((w.alloc (.cells #[.slice a d.length c] 26)).alloc (.cells #[.slice none 0 0] 26)).frozen? ⟨w.heap.size + 1, o, none⟩ = false := fun o => by simp [go_sem]
  have HB2 := hide hB2; have HL := hide (And.intro l0 l1); have HK := hide (And.intro k0 (And.intro k1 (And.intro k2 k3)))
  clear h hB2 l0 l1 k0 k1 k2 k3
  go_enter Tryz.func35, Tryz.ntmps35
  go_wp2
  generalize ((w.alloc (.cells #[.slice a d.length c] 26)).alloc (.cells #[.slice none 0 0] 26)) = Wa at *
  go_loopw [3] (fun k wr => ∃ (i : Nat), i ≤ d.length ∧ k = .int .i64 i ∧ Sht lab Wa wr ∧ (∀ (i' : Nat) (t : Td), d[i']? = some t → i' < i → ∀ r ∈ t.rs, ∀ c, c < r.2.2.length → ShC wr r.1 c)) (fun k _ => d.length - (intOf k).toNat)
  case atStart => exact ⟨0, Nat.zero_le _, rfl, Sht.refl _ _, fun i' t _ h => by omega⟩
  case round =>
    obtain ⟨i, hi, rfl, hs, hv⟩ := hrel
    obtain ⟨k0, k1, k2, k3⟩ := unhide HK
    obtain ⟨l0, l1⟩ := unhide HL
    have cd := (hs.but.cell w.heap.size 0 (by omega) l0).trans k0
    have zs : w.heap.size < wr.heap.size := by have := hs.but.size; omega
    by_cases hlt : i < d.length
    · have j1 : (i : Int) < (d.length : Int) := by omega
      obtain ⟨t, ht⟩ : ∃ t, d[i]? = some t := ⟨d[i], List.getElem?_eq_getElem hlt⟩
      have hD := (unhide HD).sht hs
      obtain ⟨g, rfl, _, hg, _, c0, c1, c2⟩ := hD.at i t ht
      have hT := hD.tab i t ht
      obtain ⟨ua, uc, hu⟩ := hT.form
      rw [hu] at c2
      have hfr := hT.few
      have HU := hide hu; have HT := hide hT; have HV := hide hv; have HS := hide hs; have HI := hide hi; have HLt := hide hlt; have HTi := hide ht
      clear hu hT hv hi ht hD c0 c1 k0 k1 k2 k3 l0 l1
      go_wp2
      rename World => wo
      go_loopw [5] (fun k wr => ∃ (j : Nat), j ≤ t.rs.length ∧ k = .int .i64 j ∧ Sht lab wo wr ∧ (∀ (j' : Nat) (r : R3), t.rs[j']? = some r → j' < j → ∀ c, c < r.2.2.length → ShC wr r.1 c)) (fun k _ => t.rs.length - (intOf k).toNat)
      case atStart => exact ⟨0, Nat.zero_le _, rfl, Sht.refl _ _, fun j' r _ h => by omega⟩
      case round =>
        clear cd zs hs c2
        obtain ⟨j, hj, rfl, hs, hv⟩ := hrel
        by_cases hjl : j < t.rs.length
        · have j2 : (j : Int) < (t.rs.length : Int) := by omega
          have hT := (unhide HT).sht hs
          obtain ⟨G, hG, hGs, hGl, cG⟩ := hT.at (unhide HU) j hjl
          subst hG
          have hrow := hT.row _ (List.getElem_mem hjl)
          have hjr : t.rs[j]? = some t.rs[j] := List.getElem?_eq_getElem hjl
          have hln := hrow.2.1
          have HJr := hide hjr; have HRow := hide hrow.2.2; have HLb := hide hrow.1; have HV2 := hide hv; have HS2 := hide hs; have HJ := hide hj; have HJl := hide hjl
          clear hrow hjr hT hv hj
          generalize t.rs[j] = r at *
          obtain ⟨rg, rc, rx⟩ := r
          unfold rv at cG
          simp only at cG HRow HLb hln
          have HCG := hide cG; have HGl := hide hGl; have HGs := hide hGs
          have HXl := hide (show (rg, rc, rx).2.2.length = rx.length from rfl)
          clear hs hGl
          go_wp2
          rename World => w8
          go_loopw [6] (fun k wr => ∃ (x : Nat), x ≤ rx.length ∧ k = .int .i64 x ∧ Sht lab w8 wr ∧ (∀ x', x' < x → ShC wr rg x')) (fun k _ => rx.length - (intOf k).toNat)
          case atStart => exact ⟨0, Nat.zero_le _, rfl, Sht.refl _ _, fun x' h => by omega⟩
          case round =>
            clear cG hGs
            obtain ⟨x, hx, rfl, hs, hv⟩ := hrel
            have hGn : ¬ (lab G).1 = 1 := by rw [unhide HGl]; simp
            have cG := (hs.but.cell G j (unhide HGs) hGn).trans (unhide HCG)
            have zG : G < wr.heap.size := Nat.lt_of_lt_of_le (unhide HGs) hs.but.size
            have hRow := (unhide HRow).sht hs
            have zr := hRow.size
            have fr := hRow.frz
            have hlb := unhide HLb
            clear hGn
            by_cases hxl : x < rx.length
            · have x1 : (x : Int) < (rx.length : Int) := by omega
              obtain ⟨b, N, v0, v1⟩ := hRow.cell x hxl
              have HSh := hide (fun W => l2Short_calls N W); have HNum := hide (fun W => l1NumD_calls 999999999999999999 W)
              have HV3 := hide hv; have HS3 := hide hs; have HX := hide hx; have HR3 := hide hRow; have HXll := hide hxl
              clear hv hs hx hRow
              go_wp2_with fail
              refine (unhide HSh _).mono ?_; rintro e w9 ⟨⟨B9, rfl, hB9⟩, hb9⟩
              have v0' := (hb9.cell (p := ⟨rg, x * 2, none⟩) zr).trans v0
              have v1' := (hb9.cell (p := ⟨rg, x * 2 + 1, none⟩) zr).trans v1
              have cG9 := (hb9.cell (p := ⟨G, j, none⟩) zG).trans cG
              have zG9 : G < w9.heap.size := Nat.lt_of_lt_of_le zG hb9.size
              have zr9 : rg < w9.heap.size := Nat.lt_of_lt_of_le zr hb9.size
              have fr9 := fun o => (hb9.frozen (p := ⟨rg, o, none⟩) zr).trans (fr o)
              have HS9 := hide (Sht.ofBelow (lab := lab) hb9)
              have HZr := hide zr
              clear v0 v1 cG zG zr fr HSh hb9
              cases B9 with
              | true =>
                have HN := hide (hB9 rfl)
                have HSh : Hid (∀ x', x' < x + 1 → ShC w9 rg x') := fun x' hx' => by
                  by_cases e : x' = x
                  · subst e; exact ⟨b, N, v0', v1', unhide HN⟩
                  · exact (unhide HV3 x' (by omega)).sht (unhide HS9) (unhide HZr)
                clear hB9 v0' v1' HN
                go_wp2
                go_roundw
                case rel => exact ⟨x + 1, unhide HXll, by go_num, (unhide HS3).trans (unhide HS9), unhide HSh⟩
                case measure => have := unhide HXll; simp [intOf]; omega
              | false =>
                have hne : ¬ G = rg := fun e => by have h1 := unhide HGl; rw [e, hlb] at h1; simp at h1
                have hne2 : ¬ rg = G := fun e => hne e.symm
                clear hB9
                go_upto_region 12 with fail
                refine wp_region_held_drew (S := fun W => W.cell? ⟨G, j, none⟩ = some (.slice (some ⟨rg, 0, none⟩) rx.length rc) ∧ W.cell? ⟨G, j, none⟩ = some (.slice (some ⟨rg, 0, none⟩) rx.length rc)) (by kernel_rfl) ⟨cG9, cG9⟩ (fun hHeld => ?_)
                refine tW 0 45 (.slice (some ⟨G, 0, none⟩) t.rs.length uc) ?_
                simp only [puts]
                refine tW 1 46 (.int .i64 (j : Int)) ?_
                simp only [puts]
                refine tW 2 47 (.pointer (some ⟨G, j, none⟩)) ?_
                simp only [puts]
                refine tW 3 48 (.slice (some ⟨rg, 0, none⟩) rx.length rc) ?_
                simp only [puts]
                refine tW 4 49 (.int .i64 (x : Int)) ?_
                simp only [puts]
                refine wpAnyH_ready (rs := [5]) (by kernel_rfl) (by simp) ?_
                refine AllReadyH.cons rfl (fun Kx hK => ?_) AllReadyH.nil
                go_simp
                refine (unhide HNum _).mono ?_
                rintro e w10 ⟨rfl, hb10⟩
                have v0 := (hb10.cell (p := ⟨rg, x * 2, none⟩) zr9).trans v0'
                have v1 := (hb10.cell (p := ⟨rg, x * 2 + 1, none⟩) zr9).trans v1'
                have fr := fun o => (hb10.frozen (p := ⟨rg, o, none⟩) zr9).trans (fr9 o)
                have zr : rg < w10.heap.size := Nat.lt_of_lt_of_le zr9 hb10.size
                have cG10 := (hb10.cell (p := ⟨G, j, none⟩) zG9).trans cG9
                have HS10 := hide (Sht.ofBelow (lab := lab) (Below.trans (Below.refl w9.heap.size w9).drew hb10))
                clear v0' v1' fr9 zr9 hb10
                refine hK.out _ _ ⟨cG10, cG10⟩ (fun hHeld2 => ?_)
                clear hK Kx
                refine tW 6 51 (.pointer (some ⟨rg, x * 2, none⟩)) ?_
                simp only [puts]
                refine wpAnyH_ready (rs := [7]) (by kernel_rfl) (by simp) ?_
                refine AllReadyH.cons rfl (fun Kx hK => ?_) AllReadyH.nil
                go_simp
                have cG11 : ((w10.setCell ⟨rg, x * 2, none⟩ (.bool false)).setCell ⟨rg, x * 2 + 1, none⟩ (.int .i64 999999999999999999)).cell? ⟨G, j, none⟩ = some (.slice (some ⟨rg, 0, none⟩) rx.length rc) := by rw [setCell_farN hne2, setCell_farN hne2]; exact cG10
                refine hK.out _ _ ⟨cG11, cG11⟩ (fun hHeld3 => ?_)
                clear hK Kx
                refine wpAnyH_done (by kernel_rfl) ?_ _
                have v1b : (w10.setCell ⟨rg, x * 2, none⟩ (.bool false)).cell? ⟨rg, x * 2 + 1, none⟩ = some (.int .i64 N) := by rw [setCell_otherN (by omega)]; exact v1
                have hst : Sht lab w10 ((w10.setCell ⟨rg, x * 2, none⟩ (.bool false)).setCell ⟨rg, x * 2 + 1, none⟩ (.int .i64 999999999999999999)) := (Sht.setB hlb v0 false).trans (Sht.setI hlb v1b)
                have HSn := hide (((unhide HS3).trans (unhide HS9)).trans ((unhide HS10).trans hst))
                have HSh : Hid (∀ x', x' < x + 1 → ShC ((w10.setCell ⟨rg, x * 2, none⟩ (.bool false)).setCell ⟨rg, x * 2 + 1, none⟩ (.int .i64 999999999999999999)) rg x') := fun x' hx' => by
                  by_cases e : x' = x
                  · subst e
                    refine ⟨false, 999999999999999999, ?_, World.cell?_setCell_same _ _ _ v1b, by omega, by omega⟩
                    rw [setCell_otherN (by omega)]
                    exact World.cell?_setCell_same _ _ _ v0
                  · exact (unhide HV3 x' (by omega)).sht ((unhide HS9).trans ((unhide HS10).trans hst)) (unhide HZr)
                clear v0 v1 v1b hst cG11 cG10 cG9
                go_wp2
                go_roundw
                case rel => exact ⟨x + 1, unhide HXll, by go_num, unhide HSn, unhide HSh⟩
                case measure => have := unhide HXll; simp [intOf]; omega
            · obtain rfl : x = rx.length := by omega
              have HVn : Hid (∀ (j' : Nat) (r : R3), t.rs[j']? = some r → j' < j + 1 → ∀ c, c < r.2.2.length → ShC wr r.1 c) := fun j' r hr hj' c hc => by
                by_cases e : j' = j
                · subst e
                  rw [unhide HJr] at hr
                  simp only [Option.some.injEq] at hr
                  subst hr
                  exact hv c hc
                · exact (unhide HV2 j' r hr (by omega) c hc).sht hs (((unhide HT).sht (unhide HS2)).row r (List.mem_of_getElem? hr)).2.2.size
              have HSn := hide ((unhide HS2).trans hs)
              clear hv hs hRow
              go_wp2
              go_roundw
              case rel => exact ⟨j + 1, unhide HJl, by go_num, unhide HSn, unhide HVn⟩
              case measure => have := unhide HJl; simp [intOf]; omega
        · obtain rfl : j = t.rs.length := by omega
          have HVn : Hid (∀ (i' : Nat) (t : Td), d[i']? = some t → i' < i + 1 → ∀ r ∈ t.rs, ∀ c, c < r.2.2.length → ShC wr r.1 c) := fun i' t' ht' hi' r hr c hc => by
            by_cases e : i' = i
            · subst e
              rw [unhide HTi] at ht'
              simp only [Option.some.injEq] at ht'
              subst ht'
              obtain ⟨j', hj', rfl⟩ := List.getElem_of_mem hr
              exact hv j' _ (List.getElem?_eq_getElem hj') hj' c hc
            · exact (unhide HV i' t' ht' (by omega) r hr c hc).sht hs ((((unhide HD).sht (unhide HS)).tab i' t' ht').row r hr).2.2.size
          have HSn := hide ((unhide HS).trans hs)
          clear hv hs
          go_wp2
          go_roundw
          case rel => exact ⟨i + 1, unhide HLt, by go_num, unhide HSn, unhide HVn⟩
          case measure => have := unhide HLt; simp [intOf]; omega
    · obtain rfl : i = d.length := by omega
      have r1 := (hs.but.cell (w.heap.size + 1) 0 (by omega) l1).trans k1
      have r2 := fun o => (hs.but.frz (w.heap.size + 1) o (by omega) l1).trans (k3 o)
      have z1 : w.heap.size + 1 < wr.heap.size := by have := hs.but.size; omega
      have HV := hide hv; have HS := hide hs
      clear hv hs hi k0 k1 k2 k3
      have HFin : Hid (SrtE lab (.slice a d.length c) d w (.returned (.agg #[.slice a d.length c])) (wr.setCell ⟨w.heap.size + 1, 0, none⟩ (.slice a d.length c))) := by
        refine ⟨rfl, ((Sht.ofBelow (unhide HB2)).trans (unhide HS)).far (by omega) _, fun i t ht r hr x hx => ?_⟩
        obtain ⟨b, N, h1, h2, h3⟩ := unhide HV i t ht (List.getElem?_eq_some_iff.1 ht).1 r hr x hx
        have hrl := ((unhide HD).tab i t ht).row r hr
        have hne : ∀ o, (⟨w.heap.size + 1, 0, none⟩ : Addr) ≠ ⟨r.1, o, none⟩ := fun o e => by
          simp only [Addr.mk.injEq] at e
          rw [← e.1] at hrl
          exact l1 hrl.1
        exact ⟨b, N, by rw [World.cell?_setCell_other _ _ _ _ (hne _)]; exact h1, by rw [World.cell?_setCell_other _ _ _ _ (hne _)]; exact h2, h3⟩
      go_wp2
      refine bodyPost_ret (v := .agg #[.slice a d.length c]) (by simp [results, Tryz.results35, go_sem, r1]) rfl (unhide HFin)
end Go.Proofs.YtbbjhepagkkjeaaGreatDoor
