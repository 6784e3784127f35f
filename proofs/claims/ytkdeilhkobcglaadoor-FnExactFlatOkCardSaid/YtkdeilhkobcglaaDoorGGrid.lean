import Derived.Test.YtkdeilhkobcglaaDoorGRow
import Derived.Deep.RegionHeld3
import Derived.Deep.DeepCutAuto
/-
  ROWS OF ROWS IN MEMORY. A row is told by its block, its capacity and its Vals.
-/
namespace Go.Proofs.YtkdeilhkobcglaaDoor
open Go Go.RowKit

abbrev R3 : Type := Nat × Nat × List V2
def rv (r : R3) : Value := .slice (some ⟨r.1, 0, none⟩) r.2.2.length r.2.1
def GridAt (w : World) (G off : Nat) (rs : List R3) : Prop := ∀ i r, rs[i]? = some r → w.cell? ⟨G, off + i, none⟩ = some (rv r)
/-- each row lies in a block of its own making -/
def RowsOk (w : World) (rs : List R3) : Prop := ∀ r ∈ rs, OwnRow w r.1 r.2.2.length r.2.2 ∧ r.2.2.length ≤ r.2.1
/-- an argument: a slice of slices -/
def IsRows (w : World) (v : Value) (xss : List (List V2)) : Prop :=
  (xss = [] ∧ ∃ a cap, v = .slice a 0 cap) ∨ ∃ g off cap, v = .slice (some ⟨g, off, none⟩) xss.length cap ∧ g < w.heap.size ∧ ∀ i xs, xss[i]? = some xs → ∃ u, w.cell? ⟨g, off + i, none⟩ = some u ∧ IsRow w u xs

theorem GridAt.of {w w1 : World} {G off : Nat} {rs : List R3} (h : GridAt w G off rs) (hG : G < w.heap.size) (hb : Below w.heap.size w w1) : GridAt w1 G off rs := fun i r hr => (hb.cell (p := ⟨G, off + i, none⟩) hG).trans (h i r hr)
theorem RowsOk.of {w w1 : World} {rs : List R3} (h : RowsOk w rs) (hb : Below w.heap.size w w1) : RowsOk w1 rs := fun r hr => ⟨(h r hr).1.of hb, (h r hr).2⟩
theorem IsRows.of {w w1 : World} {v : Value} {xss : List (List V2)} (h : IsRows w v xss) (hb : Below w.heap.size w w1) : IsRows w1 v xss := by
  rcases h with h | ⟨g, off, cap, h1, h2, h3⟩
  · exact Or.inl h
  · refine Or.inr ⟨g, off, cap, h1, Nat.lt_of_lt_of_le h2 hb.size, fun i xs hx => ?_⟩
    obtain ⟨u, hu, hr⟩ := h3 i xs hx
    exact ⟨u, (hb.cell (p := ⟨g, off + i, none⟩) h2).trans hu, hr.of hb⟩

theorem setCell_far {w : World} {g o G O : Nat} {v : Value} (h : G ≠ g) : (w.setCell ⟨G, O, none⟩ v).cell? ⟨g, o, none⟩ = w.cell? ⟨g, o, none⟩ :=
  World.cell?_setCell_other _ _ _ _ (by intro he; injection he; contradiction)
theorem OwnRow.far {w : World} {g n : Nat} {xs : List V2} (h : OwnRow w g n xs) {G O : Nat} (hne : G ≠ g) (v : Value) : OwnRow (w.setCell ⟨G, O, none⟩ v) g n xs :=
  ⟨by simpa using h.size, fun o => by rw [frozen_setCell]; exact h.frz o, fun o ho => by rw [setCell_far hne]; exact h.all o ho, fun i x hx => by rw [setCell_far hne, setCell_far hne]; exact h.held i x hx⟩
theorem RowsOk.far {w : World} {rs : List R3} (h : RowsOk w rs) {G O : Nat} (hne : ∀ r ∈ rs, G ≠ r.1) (v : Value) : RowsOk (w.setCell ⟨G, O, none⟩ v) rs := fun r hr => ⟨(h r hr).1.far (hne r hr) v, (h r hr).2⟩

/-- a slice of slices in the making -/
structure OwnGrid (w : World) (G n : Nat) (rs : List R3) : Prop where
  size : G < w.heap.size
  frz : ∀ o, w.frozen? ⟨G, o, none⟩ = false
  all : ∀ o, o < n → ∃ v, w.cell? ⟨G, o, none⟩ = some v
  held : GridAt w G 0 rs
theorem OwnGrid.of {w w1 : World} {G n : Nat} {rs : List R3} (h : OwnGrid w G n rs) (hb : Below w.heap.size w w1) : OwnGrid w1 G n rs :=
  ⟨Nat.lt_of_lt_of_le h.size hb.size, fun o => (hb.frozen (p := ⟨G, o, none⟩) h.size).trans (h.frz o), fun o ho => by
    obtain ⟨v, hv⟩ := h.all o ho
    exact ⟨v, (hb.cell (p := ⟨G, o, none⟩) h.size).trans hv⟩, h.held.of h.size hb⟩
theorem OwnGrid.push {w : World} {G n : Nat} {rs : List R3} (h : OwnGrid w G n rs) (hn : rs.length < n) (r : R3) : OwnGrid (w.setCell ⟨G, rs.length, none⟩ (rv r)) G n (rs ++ [r]) := by
  refine ⟨by simpa using h.size, fun o => by rw [frozen_setCell]; exact h.frz o, fun o ho => ?_, fun i x hx => ?_⟩
  · obtain ⟨v, hv⟩ := h.all o ho
    exact setCell_there hv
  · simp only [Nat.zero_add]
    by_cases hi : i < rs.length
    · rw [List.getElem?_append_left hi] at hx
      rw [setCell_other (by omega)]
      have := h.held i x hx
      simpa using this
    · obtain rfl : i = rs.length := by
        have := (List.getElem?_eq_some_iff.1 hx).1
        simp at this; omega
      simp at hx
      subst hx
      obtain ⟨v0, h0⟩ := h.all rs.length hn
      exact World.cell?_setCell_same _ _ _ h0
theorem OwnGrid.made (w : World) (n : Nat) (C : Array Value) (t : TypeId) (hC : C.size = n) : OwnGrid (w.alloc (.cells C t)) w.heap.size n [] :=
  ⟨by simp, fun o => by simp [go_sem], fun o ho => ⟨C[o]'(by omega), by rw [World.cell?_alloc_at C t _ o rfl]; simp⟩, fun i x hx => by simp at hx⟩

/-- how many Vals and rows -/
def bulk : List (List V2) → Nat
  | [] => 0
  | xs :: r => xs.length + bulk r
theorem bulk_append (a b : List (List V2)) : bulk (a ++ b) = bulk a + bulk b := by
  induction a with
  | nil => simp [bulk]
  | cons x a ih => simp only [List.cons_append, bulk, ih]; omega
theorem bulk_take (xss : List (List V2)) (k : Nat) (hk : k < xss.length) : bulk (xss.take (k + 1)) = bulk (xss.take k) + xss[k].length := by
  rw [take_snoc xss k hk, bulk_append]; simp [bulk]
theorem bulk_take_le (xss : List (List V2)) (k : Nat) : bulk (xss.take k) ≤ bulk xss := by
  have := bulk_append (xss.take k) (xss.drop k)
  rw [List.take_append_drop] at this
  omega
theorem bulk_mem {xss : List (List V2)} {xs : List V2} (h : xs ∈ xss) : xs.length ≤ bulk xss := by
  induction xss with
  | nil => cases h
  | cons x r ih =>
    simp only [bulk]
    cases List.mem_cons.1 h with
    | inl e => subst e; omega
    | inr e => have := ih e; omega
end Go.Proofs.YtkdeilhkobcglaaDoor
namespace Go.Proofs.YtkdeilhkobcglaaDoor
open Go Go.RowKit

/-- make([][]impl.Val, n) -/
theorem make_rows (n : Nat) (hn : n ≤ 1048576) (w : World) :
    (Instr.makeSlice 83 (.int .i64 (n : Int)) (.int .i64 (n : Int))).run Tryd.prog w = .ok (.slice (some ⟨w.heap.size, 0, none⟩) n n) (w.alloc (.cells (madeCells #[.slice none 0 0] n) 88)) := by
  obtain ⟨i, hi, hz⟩ := Option.map_eq_some_iff.1 (show (Tryd.prog.info? 88).map (fun i => (i.zero, i.size, i.bytes)) = some (some (.slice none 0 0), 1, 24) by kernel_rfl)
  simp only [Prod.mk.injEq] at hz
  have := run_make (P := Tryd.prog) w 83 88 i _ Tryd.underlying83 hi hz.1 .i64 .i64 (n : Int) (n : Int) (by omega) (by omega) (by rw [hz.2.2]; omega) (by omega)
  rw [hz.2.1] at this
  simpa [Value.cells] using this
theorem make_rows0 (w : World) : (Instr.makeSlice 83 (.int .i64 0) (.int .i64 0)).run Tryd.prog w = .ok (.slice (some ⟨w.heap.size, 0, none⟩) 0 0) (w.alloc (.cells #[] 88)) := by
  have := make_rows 0 (by omega) w
  rw [show madeCells #[.slice none 0 0] 0 = #[] from Array.eq_empty_of_size_eq_zero (by simp [size_madeCells])] at this
  simpa using this

set_option maxHeartbeats 1000000 in
theorem toValSS_calls (v : Value) (xss : List (List V2)) (w : World) (hv : IsRows w v xss) (hn : xss.length ≤ 1048576) (hx : bulk xss ≤ 1048576) :
    Calls Tryd.prog 80 #[v] w fun e w' => ∃ G rs, e = .returned (.slice (some ⟨G, 0, none⟩) xss.length xss.length) ∧ rs.map (fun r : R3 => r.2.2) = xss ∧ w.heap.size ≤ G ∧ OwnGrid w' G xss.length rs ∧ RowsOk w' rs ∧ (∀ r ∈ rs, G < r.1 ∧ r.2.1 = r.2.2.length) ∧ (rs.map (fun r : R3 => r.1)).Nodup ∧ Below w.heap.size w w' := by
  rcases hv with ⟨rfl, a, cap, rfl⟩ | ⟨g, off, cap, rfl, hg, hr⟩
  · have hmk := make_rows0
    clear hn hx
    go_enter Tryd.func80, Tryd.ntmps80
    go_wp2
    go_loopw [4] (fun i wr => i = .int .i64 0 ∧ OwnGrid wr w.heap.size 0 [] ∧ Below w.heap.size w wr) (fun _ _ => 0)
    case atStart => exact ⟨rfl, OwnGrid.made w 0 #[] _ rfl, bA (Below.refl _ _) _⟩
    case round =>
      obtain ⟨rfl, ho, hb⟩ := hrel
      go_wp2
      go_ret
      exact ⟨_, [], rfl, rfl, Nat.le_refl _, ho, fun r hr => (by simp at hr), fun r hr => (by simp at hr), by simp, hb⟩
  · have hmk := make_rows xss.length hn
    have hO : Hid (OwnGrid (w.alloc (.cells (madeCells #[.slice none 0 0] xss.length) 88)) w.heap.size xss.length []) := OwnGrid.made w _ _ _ (by simp [size_madeCells])
    go_enter Tryd.func80, Tryd.ntmps80
    go_wp2
    go_loopw [4] (fun i wr => ∃ (k : Nat) (rs : List R3), k ≤ xss.length ∧ i = .int .i64 k ∧ rs.map (fun r : R3 => r.2.2) = xss.take k ∧ OwnGrid wr w.heap.size xss.length rs ∧ RowsOk wr rs ∧ (∀ r ∈ rs, w.heap.size < r.1 ∧ r.2.1 = r.2.2.length) ∧ (rs.map (fun r : R3 => r.1)).Nodup ∧ Below w.heap.size w wr) (fun i _ => xss.length - (intOf i).toNat)
    case atStart => exact ⟨0, [], Nat.zero_le _, rfl, by simp, hO.out, fun r hr => (by simp at hr), fun r hr => (by simp at hr), by simp, bA (Below.refl _ _) _⟩
    case round =>
      clear hO hmk
      obtain ⟨k, rs, hk, rfl, hm, ho, hro, hlt', hnd, hb⟩ := hrel
      by_cases hlt : k < xss.length
      · obtain ⟨u, hu, hru⟩ := hr k xss[k] (by simp [hlt])
        have e0 : wr.cell? ⟨g, off + k, none⟩ = some u := (hb.cell (p := ⟨g, off + k, none⟩) hg).trans hu
        have hlen : rs.length = k := by have := congrArg List.length hm; simp at this; omega
        have hxk : xss[k].length ≤ 1048576 := Nat.le_trans (bulk_mem (List.getElem_mem hlt)) hx
        go_wp2_with fail
        refine (toValS_calls u xss[k] _ (hru.of hb) hxk).mono ?_; rintro e w1 ⟨g1, rfl, hg1, ho1, hb1⟩
        have d1 := bT hb hb1
        have hoG := ho.of hb1
        have hN : Hid (OwnGrid (w1.setCell ⟨w.heap.size, k, none⟩ (.slice (some ⟨g1, 0, none⟩) xss[k].length xss[k].length)) w.heap.size xss.length (rs ++ [(g1, xss[k].length, xss[k])])) := by
          have := hoG.push (by omega) (g1, xss[k].length, xss[k])
          rw [hlen] at this
          exact this
        have hgw : w.heap.size < g1 := Nat.lt_of_lt_of_le ho.size hg1
        have hR : Hid (RowsOk (w1.setCell ⟨w.heap.size, k, none⟩ (.slice (some ⟨g1, 0, none⟩) xss[k].length xss[k].length)) (rs ++ [(g1, xss[k].length, xss[k])])) := by
          intro r hr'
          rcases List.mem_append.1 hr' with h | h
          · exact ((hro.of hb1).far (fun r hr => by have := (hlt' r hr).1; omega) _) r h
          · simp at h
            subst h
            exact ⟨ho1.far (by omega) _, Nat.le_refl _⟩
        have hND : Hid ((rs ++ [(g1, xss[k].length, xss[k])]).map (fun r : R3 => r.1)).Nodup := by
          show List.Nodup _
          rw [List.map_append, List.nodup_append]
          refine ⟨hnd, by simp, fun a ha b hb' e => ?_⟩
          simp at hb'
          obtain ⟨r, hr1, hr2⟩ := List.mem_map.1 ha
          have := (hro r hr1).1.size
          omega
        obtain ⟨u0, hu0⟩ := hoG.all k (by omega)
        have hf := hoG.frz
        clear ho hoG hb1
        go_wp2
        go_roundw
        case rel =>
          refine ⟨k + 1, rs ++ [(g1, xss[k].length, xss[k])], by omega, by go_num, ?_, hN.out, hR.out, ?_, hND.out, d1.setCell (Nat.le_refl _) _⟩
          · rw [List.map_append, hm, take_snoc xss k hlt]; rfl
          · intro r hr'
            rcases List.mem_append.1 hr' with h | h
            · exact hlt' r h
            · simp at h
              subst h
              exact ⟨hgw, rfl⟩
        case measure => simp [intOf]; omega
      · obtain rfl : k = xss.length := by omega
        rw [List.take_length] at hm
        go_wp2
        go_ret
        exact ⟨_, rs, rfl, hm, Nat.le_refl _, ho, hro, hlt', hnd, hb⟩
end Go.Proofs.YtkdeilhkobcglaaDoor
namespace Go.Proofs.YtkdeilhkobcglaaDoor
open Go Go.RowKit

/-- what szValSS answers -/
def szA (left : Int) (xss : List (List V2)) : Int := if left < (xss.length : Int) + bulk xss then -1 else left - xss.length - bulk xss
set_option maxHeartbeats 1000000 in
theorem szValSS_calls (v : Value) (xss : List (List V2)) (left : Int) (w : World) (hv : IsRows w v xss) (hl : xss.length ≤ maxLen) (hl2 : ∀ xs ∈ xss, xs.length ≤ maxLen) (h0 : 0 ≤ left) (h1 : left ≤ 1048576) :
    Calls Tryd.prog 74 #[v, .int .i64 left] w fun e w' => e = .returned (.int .i64 (szA left xss)) ∧ w' = w := by
  unfold maxLen at hl
  rcases hv with ⟨rfl, a, cap, rfl⟩ | ⟨g, off, cap, rfl, hg, hr⟩
  · have HE : Hid (szA left [] = left) := by show _ = _; simp [szA, bulk]; omega
    go_enter Tryd.func74, Tryd.ntmps74
    go_wp2
    go_loopw [1, 5] (fun l i wr => l = .int .i64 left ∧ i = .int .i64 0 ∧ wr = w) (fun _ _ _ => 0)
    case atStart => exact ⟨rfl, rfl, rfl⟩
    case round =>
      obtain ⟨rfl, rfl, rfl⟩ := hrel
      go_wp2
      go_ret
      exact ⟨congrArg (fun z => Ending.returned (.int .i64 z)) HE.out.symm, rfl⟩
  · by_cases c : left < (xss.length : Int)
    · have HE : Hid (szA left xss = -1) := by show _ = _; unfold szA; rw [if_pos (by omega)]
      go_enter Tryd.func74, Tryd.ntmps74
      go_wp2
      go_ret
      exact ⟨congrArg (fun z => Ending.returned (.int .i64 z)) HE.out.symm, rfl⟩
    · go_enter Tryd.func74, Tryd.ntmps74
      go_wp2
      go_loopw [1, 5] (fun l i wr => ∃ k : Nat, k ≤ xss.length ∧ i = .int .i64 k ∧ l = .int .i64 (left - xss.length - bulk (xss.take k)) ∧ (bulk (xss.take k) : Int) ≤ left - xss.length ∧ wr = w) (fun _ i _ => xss.length - (intOf i).toNat)
      case atStart => exact ⟨0, Nat.zero_le _, rfl, by simp [bulk], by simp [bulk]; omega, rfl⟩
      case round =>
        obtain ⟨k, hk, rfl, rfl, hbk, rfl⟩ := hrel
        by_cases hlt : k < xss.length
        · obtain ⟨u, hu, hru⟩ := hr k xss[k] (by simp [hlt])
          have hbt := bulk_take xss k hlt
          have hble := bulk_take_le xss (k + 1)
          have SZ := szValS_calls u xss[k] (left - xss.length - bulk (xss.take k)) wr hru (hl2 _ (List.getElem_mem hlt)) (by omega) (by omega)
          have j1 : (k : Int) < (xss.length : Int) := by omega
          by_cases c2 : left - xss.length - bulk (xss.take k) < (xss[k].length : Int)
          · have HE : Hid (szA left xss = -1) := by show _ = _; unfold szA; rw [if_pos (by omega)]
            rw [if_pos c2] at SZ
            have HS := hide SZ
            clear SZ hbt hble
            generalize bulk (xss.take k) = B at *
            go_wp2_with fail
            refine (unhide HS).mono ?_; rintro e w1 ⟨rfl, rfl⟩
            go_wp2
            go_ret
            exact ⟨congrArg (fun z => Ending.returned (.int .i64 z)) HE.out.symm, rfl⟩
          · rw [if_neg c2] at SZ
            have HS := hide SZ
            have HB := hide hbt
            clear SZ hbt hble
            have c3 : ¬ left - xss.length - bulk (xss.take k) - (xss[k].length : Int) < 0 := by omega
            go_wp2_with fail
            refine (unhide HS).mono ?_; rintro e w1 ⟨rfl, rfl⟩
            go_wp2
            go_roundw
            case rel => exact ⟨k + 1, by omega, by go_num, by rw [unhide HB]; congr 1; omega, by rw [unhide HB]; omega, by first | rfl | trivial⟩
            case measure => simp [intOf]; omega
        · obtain rfl : k = xss.length := by omega
          rw [List.take_length] at hbk ⊢
          have HE : Hid (szA left xss = left - xss.length - bulk xss) := by show _ = _; unfold szA; rw [if_neg (by omega)]
          generalize bulk xss = B at *
          go_wp2
          go_ret
          exact ⟨congrArg (fun z => Ending.returned (.int .i64 z)) HE.out.symm, rfl⟩

set_option maxHeartbeats 1000000 in
theorem eqValSS_calls (rs qs : List R3) (G off cap G' off' cap' : Nat) (w : World) (hG : G < w.heap.size) (hG' : G' < w.heap.size) (hx : GridAt w G off rs) (hy : GridAt w G' off' qs) (hrx : RowsOk w rs) (hry : RowsOk w qs) (he : rs.map (fun r : R3 => r.2.2) = qs.map (fun r : R3 => r.2.2)) (b1 : rs.length ≤ 1048576) (b2 : ∀ r ∈ rs, r.2.2.length ≤ 1048576) :
    Calls Tryd.prog 88 #[.slice (some ⟨G, off, none⟩) rs.length cap, .slice (some ⟨G', off', none⟩) qs.length cap'] w fun e w' => e = .returned (.bool true) ∧ Below w.heap.size w w' := by
  have hlen : rs.length = qs.length := by simpa using congrArg List.length he
  rw [← hlen]
  have HL := hide hlen
  clear hlen
  have e0 : ((rs.length : Int) != (rs.length : Int)) = false := by simp
  go_enter Tryd.func88, Tryd.ntmps88
  go_wp2
  go_loopw [5] (fun c wr => ∃ k : Nat, k ≤ rs.length ∧ c = .int .i64 k ∧ Below w.heap.size w wr) (fun c _ => rs.length - (intOf c).toNat)
  case atStart => exact ⟨0, Nat.zero_le _, rfl, Below.refl _ _⟩
  case round =>
    obtain ⟨k, hk1, rfl, hb⟩ := hrel
    by_cases l1 : k < rs.length
    · have l2 : k < qs.length := by rw [← unhide HL]; exact l1
      have x0 := (hx.of hG hb) k rs[k] (by simp [l1])
      have y0 := (hy.of hG' hb) k qs[k] (by simp [l2])
      have hm1 : rs[k] ∈ rs := List.getElem_mem l1
      have hm2 : qs[k] ∈ qs := List.getElem_mem l2
      have ex := (hrx.of (Below.drew hb)) _ hm1
      have ey := (hry.of (Below.drew hb)) _ hm2
      have bx := b2 _ hm1
      have exy : qs[k].2.2 = rs[k].2.2 := by
        have := congrArg (fun l => l[k]?) he
        simp [l1, l2] at this
        exact this.symm
      unfold rv at x0 y0
      generalize rs[k] = r at *
      generalize qs[k] = q at *
      obtain ⟨rg, rc, rx⟩ := r
      obtain ⟨qg, qc, qx⟩ := q
      simp only at exy
      subst exy
      have j1 : (k : Int) < (rs.length : Int) := by omega
      have q1 : G < wr.heap.size := Nat.lt_of_lt_of_le hG hb.size
      have q2 : G' < wr.heap.size := Nat.lt_of_lt_of_le hG' hb.size
      have EQ := fun w h1 h2 h3 h4 => eqValS_calls qx rg 0 rc qg 0 qc w h1 h2 h3 h4 bx
      have HEQ := hide EQ
      clear EQ hm1 hm2
      simp only at x0 y0 ex ey
      have HEX := hide ex; have HEY := hide ey
      clear ex ey bx
      go_upto_region 6 with fail
      have h1 := Below.refl wr.heap.size wr
      have h2 := h1
      go_region_held3 (Std wr) (repeat (first | with_reducible assumption | with_reducible exact Std.refl _ | with_reducible refine Std.drew ?_ | with_reducible refine Std.alloc ?_ _ | with_reducible refine Std.setCell ?_ ?_ _ | with_reducible refine Std.call ?_ (by with_reducible assumption) | (simp <;> omega) | omega)) (first | (go_at_call 104; refine (unhide HEQ _ (unhide HEX).1.size (unhide HEY).1.size (unhide HEX).1.held (unhide HEY).1.held).mono ?_; rintro e w1 ⟨rfl, hb⟩; (first | have n3 := bT h2 hb | have n3 := bT (bA h2 _) hb | have n3 := bT (Below.drew h2) hb | have n3 := bT (Below.drew (bA h2 _)) hb | have n3 := bT (bA (Below.drew h2) _) hb); (first | have n2 := bT h1 hb | have n2 := bT (bA h1 _) hb | have n2 := bT (Below.drew h1) hb | have n2 := bT (Below.drew (bA h1 _)) hb | have n2 := bT (bA (Below.drew h1) _) hb); obtain ⟨c1, f1⟩ := bcell hb; obtain ⟨c2, f2⟩ := bcell n2; obtain ⟨c3, f3⟩ := bcell n3; have hs := hb.size; (try simp at hs); clear h1 h2; have h1 := hb; have h2 := n2; clear n2 hb))
      have d2 := bT hb h2
      go_wp2
      go_roundw
      case rel => exact ⟨k + 1, by omega, by go_num, d2⟩
      case measure => simp [intOf]; omega
    · go_wp2
      go_ret
      exact ⟨rfl, hb⟩
end Go.Proofs.YtkdeilhkobcglaaDoor
