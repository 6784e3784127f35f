import Derived.Test.YtbbjhepagkkjeaaGreatDoorQ2
import Derived.Deep.AppendLies
import Derived.OwnWalk
import Derived.WalkSpells
import Derived.Test.YtbbjhepagkkjeaaGreatDoorQ1
import Derived.Deep.RegionHeld3
import Derived.Deep.DeepCutAuto
namespace Go.Proofs.YtbbjhepagkkjeaaGreatDoor
open Go Go.RowKit
set_option maxHeartbeats 1000000 in
theorem l1Row_calls (xs : List V2) (g off cap : Nat) (w : World) (hg : g < w.heap.size) (hr : RowAt w g off xs) (hn : xs.length ≤ 1048576) :
    Calls Tryz.prog 30 #[.slice (some ⟨g, off, none⟩) xs.length cap] w fun e w' => ∃ g' cap', e = .returned (.slice (some ⟨g', 0, none⟩) xs.length cap') ∧ OwnS w' w.heap.size g' cap' (xs.map clnV) ∧ Below w.heap.size w w' := by
  go_enter Tryz.func30, Tryz.ntmps30
  go_wp2
  go_loopw [3, 4] (fun s c wr => ∃ k g' cap' : Nat, k ≤ xs.length ∧ c = .int .i64 k ∧ s = .slice (some ⟨g', 0, none⟩) k cap' ∧ OwnS wr w.heap.size g' cap' ((xs.map clnV).take k) ∧ Below w.heap.size w wr) (fun _ c _ => xs.length - (intOf c).toNat)
  case atStart =>
    refine ⟨0, w.heap.size, 0, Nat.zero_le _, rfl, rfl, ?_, ?_⟩
    · refine ⟨rfl, Or.inr ⟨w.heap.size, 0, #[], rfl, Nat.le_refl _, (MapKept.heap_alloc w _).1, Nat.le_refl _, Nat.zero_le _, rfl, rfl⟩⟩
    · exact (Below.refl _ _).alloc (by simp) _
  case round =>
    obtain ⟨k, g', cap', hk, rfl, rfl, hO, hb⟩ := hrel
    by_cases hlt : k < xs.length
    · obtain ⟨x0, x1⟩ := (hr.of hg hb).at k hlt
      have j1 : (k : Int) < (xs.length : Int) := by omega
      have q1 : g < wr.heap.size := Nat.lt_of_lt_of_le hg hb.size
      have hts : (xs.map clnV).take (k + 1) = (xs.map clnV).take k ++ [clnV xs[k]] := by rw [take_snoc _ _ (by simpa using hlt)]; simp
      have CL := fun w => l1Clean_calls' xs[k].1 xs[k].2 w
      have hlk : ((xs.map clnV).take k).length = k := by simp; omega
      generalize (xs.map clnV).take k = bs at *
      generalize xs[k] = x at *
      obtain ⟨xb, xn⟩ := x
      simp only at CL x0 x1 hts
      generalize clnV (xb, xn) = y at *
      have HCL := hide CL; have HTS := hide hts; have HLK := hide hlk
      have hOl := hO.lt
      have HO := hide hO
      clear CL hts hO
      obtain ⟨i, hi, hz⟩ := Option.map_eq_some_iff.1 (show (Tryz.prog.info? 54).map (fun i => (i.zero, i.size, i.bytes)) = some (some (.agg #[.bool false, .int .i64 0]), 2, 16) by kernel_rfl)
      simp only [Prod.mk.injEq] at hz
      obtain ⟨hz0, hz1, hz2⟩ := hz
      go_wp2_with fail
      refine (unhide HCL _).mono ?_; rintro e w1 ⟨rfl, hb1⟩
      have d1 := bT hb hb1
      have HO1 := hide (((unhide HO).of hb1).of (bA (Below.refl _ _) (.cells #[.bool y.1, .int .i64 y.2] 54)))
      have hsz1 := d1.size
      clear HO HCL
      go_wp2_with (at_builtin; refine wpList_append_lies _ rfl (.tmp 12) (.tmp 18) 52 rfl w.heap.size 54 i _ 2 16 Tryz.underlying52 hi hz0 hz1 hz2 rfl (by decide) (.slice (some ⟨g', 0, none⟩) k cap') k (flatV bs) rfl (by have := unhide HO1; unfold OwnS at this; rw [unhide HLK] at this; exact this) ⟨w1.heap.size, 0, none⟩ 1 1 [.bool y.1, .int .i64 y.2] rfl rfl (World.news_of_block (cs := #[.bool y.1, .int .i64 y.2]) (MapKept.heap_alloc w1 _).1) (by intro u hu; simp at hu; rcases hu with rfl | rfl <;> rfl) (by decide) (by unfold maxLen; omega) (by omega) (by simp; omega) _ rfl ?_; intro g2 cap2 w2 hown2 hgrow hat hlt2)
      have HO2 : Hid (OwnS w2 w.heap.size g2 cap2 ((xs.map clnV).take (k + 1))) := by
        show OwnS _ _ _ _ _
        unfold OwnS
        rw [unhide HTS, flatV_append, show (bs ++ [y]).length = k + 1 by simp; exact unhide HLK]
        exact hown2
      have HB2 : Hid (Below w.heap.size w w2) := (bA d1 (.cells #[.bool y.1, .int .i64 y.2] 54)).grown hgrow (by simp; omega) (fun j hj => by
          have : g' = j := by simpa [Value.ownBlock] using hj
          omega)
      clear hown2 hgrow hat HTS HLK HO1
      go_wp2
      go_roundw
      case rel => exact ⟨k + 1, g2, cap2, by omega, by go_num, rfl, HO2.out, HB2.out⟩
      case measure => simp [intOf]; omega
    · obtain rfl : k = xs.length := by omega
      rw [List.take_of_length_le (by simp)] at hO
      go_wp2
      go_ret
      exact ⟨_, _, rfl, hO, hb⟩
end Go.Proofs.YtbbjhepagkkjeaaGreatDoor
namespace Go.Proofs.YtbbjhepagkkjeaaGreatDoor
open Go Go.RowKit
abbrev R3 : Type := Nat × Nat × List V2
abbrev kR (r : R3) : List V2 := r.2.2
def rv (r : R3) : Value := .slice (some ⟨r.1, 0, none⟩) r.2.2.length r.2.1
def GridAt (w : World) (G off : Nat) (rs : List R3) : Prop := ∀ i r, rs[i]? = some r → w.cell? ⟨G, off + i, none⟩ = some (rv r)
def RowsOk (w : World) (rs : List R3) : Prop := ∀ r ∈ rs, OwnRow w r.1 r.2.2.length r.2.2 ∧ r.2.2.length ≤ r.2.1
def IsRows (w : World) (v : Value) (xss : List (List V2)) : Prop :=
  (xss = [] ∧ ∃ a cap, v = .slice a 0 cap) ∨ ∃ g off cap, v = .slice (some ⟨g, off, none⟩) xss.length cap ∧ g < w.heap.size ∧ ∀ i xs, xss[i]? = some xs → ∃ u, w.cell? ⟨g, off + i, none⟩ = some u ∧ IsRow w u xs
theorem GridAt.of {w w1 : World} {G off : Nat} {rs : List R3} (h : GridAt w G off rs) (hG : G < w.heap.size) (hb : Below w.heap.size w w1) : GridAt w1 G off rs := fun i r hr => (hb.cell (p := ⟨G, off + i, none⟩) hG).trans (h i r hr)
theorem RowsOk.of {w w1 : World} {rs : List R3} (h : RowsOk w rs) (hb : Below w.heap.size w w1) : RowsOk w1 rs := fun r hr => ⟨(h r hr).1.of hb, (h r hr).2⟩
theorem IsRows.of {w w1 : World} {v : Value} {xss : List (List V2)} (h : IsRows w v xss) (hb : Below w.heap.size w w1) : IsRows w1 v xss := by
  rcases h with h | ⟨g, off, cap, h1, h2, h3⟩
  · exact Or.inl h
  · refine Or.inr ⟨g, off, cap, h1, Nat.lt_of_lt_of_le h2 hb.size, fun i xs hx => ?_⟩
    obtain ⟨u, hu, hr⟩ := h3 i xs hx
    exact ⟨u, (hb.cell (p := ⟨g, off + i, none⟩) h2).trans hu, hr.of hb⟩
theorem setCell_far {w : World} {g o G O : Nat} {v : Value} (h : G ≠ g) : (w.setCell ⟨G, O, none⟩ v).cell? ⟨g, o, none⟩ = w.cell? ⟨g, o, none⟩ :=
  World.cell?_setCell_other _ _ _ _ (by intro he; injection he; contradiction)
theorem OwnRow.far {w : World} {g n : Nat} {xs : List V2} (h : OwnRow w g n xs) {G O : Nat} (hne : G ≠ g) (v : Value) : OwnRow (w.setCell ⟨G, O, none⟩ v) g n xs :=
  ⟨by simpa using h.size, fun o => by rw [frozen_setCell]; exact h.frz o, fun o ho => by rw [setCell_far hne]; exact h.all o ho, fun i x hx => by rw [setCell_far hne, setCell_far hne]; exact h.held i x hx⟩
theorem RowsOk.far {w : World} {rs : List R3} (h : RowsOk w rs) {G O : Nat} (hne : ∀ r ∈ rs, G ≠ r.1) (v : Value) : RowsOk (w.setCell ⟨G, O, none⟩ v) rs := fun r hr => ⟨(h r hr).1.far (hne r hr) v, (h r hr).2⟩
structure OwnGrid (w : World) (G n : Nat) (rs : List R3) : Prop where
  size : G < w.heap.size
  frz : ∀ o, w.frozen? ⟨G, o, none⟩ = false
  all : ∀ o, o < n → ∃ v, w.cell? ⟨G, o, none⟩ = some v
  held : GridAt w G 0 rs
theorem OwnGrid.of {w w1 : World} {G n : Nat} {rs : List R3} (h : OwnGrid w G n rs) (hb : Below w.heap.size w w1) : OwnGrid w1 G n rs :=
  ⟨Nat.lt_of_lt_of_le h.size hb.size, fun o => (hb.frozen (p := ⟨G, o, none⟩) h.size).trans (h.frz o), fun o ho => by
    obtain ⟨v, hv⟩ := h.all o ho
    exact ⟨v, (hb.cell (p := ⟨G, o, none⟩) h.size).trans hv⟩, h.held.of h.size hb⟩
theorem OwnGrid.push {w : World} {G n : Nat} {rs : List R3} (h : OwnGrid w G n rs) (hn : rs.length < n) (r : R3) : OwnGrid (w.setCell ⟨G, rs.length, none⟩ (rv r)) G n (rs ++ [r]) := by
  refine ⟨by simpa using h.size, fun o => by rw [frozen_setCell]; exact h.frz o, fun o ho => ?_, fun i x hx => ?_⟩
  · obtain ⟨v, hv⟩ := h.all o ho
    exact setCell_there hv
  · simp only [Nat.zero_add]
    by_cases hi : i < rs.length
    · rw [List.getElem?_append_left hi] at hx
      rw [setCell_other (by omega)]
      have := h.held i x hx
      simpa using this
    · obtain rfl : i = rs.length := by
        have := (List.getElem?_eq_some_iff.1 hx).1
        simp at this; omega
      simp at hx
      subst hx
      obtain ⟨v0, h0⟩ := h.all rs.length hn
      exact World.cell?_setCell_same _ _ _ h0
theorem OwnGrid.made (w : World) (n : Nat) (C : Array Value) (t : TypeId) (hC : C.size = n) : OwnGrid (w.alloc (.cells C t)) w.heap.size n [] :=
  ⟨by simp, fun o => by simp [go_sem], fun o ho => ⟨C[o]'(by omega), by rw [World.cell?_alloc_at C t _ o rfl]; simp⟩, fun i x hx => by simp at hx⟩
def bulk : List (List V2) → Nat
  | [] => 0
  | xs :: r => xs.length + bulk r
theorem bulk_mem {xss : List (List V2)} {xs : List V2} (h : xs ∈ xss) : xs.length ≤ bulk xss := by
  induction xss with
  | nil => cases h
  | cons x r ih =>
    simp only [bulk]
    cases List.mem_cons.1 h with
    | inl e => subst e; omega
    | inr e => have := ih e; omega
end Go.Proofs.YtbbjhepagkkjeaaGreatDoor
namespace Go.Proofs.YtbbjhepagkkjeaaGreatDoor
open Go Go.RowKit
def OwnG (w : World) (B G cap : Nat) (rs : List R3) : Prop := w.ownsRow B 52 1 (.slice (some ⟨G, 0, none⟩) rs.length cap) rs.length (rs.map rv)
theorem OwnG.lt {w : World} {B g cap : Nat} {bs : List R3} (h : OwnG w B g cap bs) : g < w.heap.size ∧ B ≤ g ∧ bs.length ≤ cap ∧ cap ≤ maxLen := by
  rcases h.2 with ⟨h1, _⟩ | ⟨g', cap', cur, h1, h2, h3, h4, h5, _⟩
  · simp at h1
  · simp only [Value.slice.injEq, Option.some.injEq, Addr.mk.injEq, and_true, true_and] at h1
    obtain ⟨rfl, rfl⟩ := h1
    exact ⟨(Array.getElem?_eq_some_iff.1 h3).1, h2, h4, h5⟩
theorem OwnG.of {w w1 : World} {B g cap : Nat} {bs : List R3} (h : OwnG w B g cap bs) (hb : Below w.heap.size w w1) : OwnG w1 B g cap bs := by
  have hl := h.lt.1
  refine ⟨h.1, ?_⟩
  rcases h.2 with h1 | ⟨g', cap', cur, h1, h2, h3, h4⟩
  · exact Or.inl h1
  · have e : g' = g := by
      simp only [Value.slice.injEq, Option.some.injEq, Addr.mk.injEq, and_true, true_and] at h1
      exact h1.1.symm
    exact Or.inr ⟨g', cap', cur, h1, h2, by rw [hb.block g' (by rw [e]; exact hl)]; exact h3, h4⟩
theorem OwnG.grid {w : World} {B g cap : Nat} {bs : List R3} (h : OwnG w B g cap bs) : GridAt w g 0 bs := by
  rcases h.2 with ⟨h1, _⟩ | ⟨g', cap', cur, h1, h2, h3, h4, h5, h6, h7⟩
  · simp at h1
  · simp only [Value.slice.injEq, Option.some.injEq, Addr.mk.injEq, and_true, true_and] at h1
    obtain ⟨rfl, rfl⟩ := h1
    intro i x hx
    have hi := (List.getElem?_eq_some_iff.1 hx).1
    have e0 : (bs.map rv)[i]? = some (rv x) := by simp [hx]
    rw [← h7, List.getElem?_take, if_pos (by omega)] at e0
    simp only [Nat.zero_add, World.cell?, h3]
    simpa using e0
theorem OwnG.mono {w : World} {B B' g cap : Nat} {bs : List R3} (h : OwnG w B g cap bs) (hB : B' ≤ B) : OwnG w B' g cap bs := by
  refine ⟨h.1, ?_⟩
  rcases h.2 with h1 | ⟨g', cap', cur, h1, h2, h3⟩
  · exact Or.inl h1
  · exact Or.inr ⟨g', cap', cur, h1, by omega, h3⟩
theorem one_rv (rs : List R3) : ∀ u ∈ rs.map rv, u.oneCell' = true := fun u hu => by
  obtain ⟨r, _, rfl⟩ := List.mem_map.1 hu
  rfl
theorem news_grid {w : World} {G off : Nat} {rs : List R3} (h : GridAt w G off rs) : ∀ j u, (rs.map rv)[j]? = some u → w.cell? ((⟨G, off, none⟩ : Addr).add j) = some u := fun j u hu => by
  rw [List.getElem?_map, Option.map_eq_some_iff] at hu
  obtain ⟨r, hr, rfl⟩ := hu
  rw [Go.WideShapes.add_plain]
  exact h j r hr
set_option maxRecDepth 100000 in
set_option maxHeartbeats 1000000 in
theorem Clone_calls (rs : List R3) (G off cap : Nat) (w : World) (hG : G < w.heap.size) (hr : GridAt w G off rs) (b1 : rs.length ≤ 1048576) :
    Calls Tryz.prog 93 #[.slice (some ⟨G, off, none⟩) rs.length cap] w fun e w' => ∃ G' cap', e = .returned (.slice (some ⟨G', 0, none⟩) rs.length cap') ∧ OwnG w' w.heap.size G' cap' rs ∧ Below w.heap.size w w' := by
  obtain ⟨i, hi, hz⟩ := Option.map_eq_some_iff.1 (show (Tryz.prog.info? 52).map (fun i => (i.zero, i.size, i.bytes)) = some (some (.slice none 0 0), 1, 24) by kernel_rfl)
  simp only [Prod.mk.injEq] at hz
  obtain ⟨hz0, hz1, hz2⟩ := hz
  have hnil := fun w => Lib.run_eql_slice_nil (P := Tryz.prog) w 30 52 (some ⟨G, off, none⟩) rs.length cap 0 0 Tryz.underlying30
  have hGa : GridAt (w.alloc (.cells #[] 52)) G off rs := hr.of hG (bA (Below.refl _ _) _)
  have hO : (w.alloc (.cells #[] 52)).ownsRow w.heap.size 52 1 (.slice (some ⟨w.heap.size, 0, none⟩) 0 0) 0 [] := ⟨rfl, Or.inr ⟨w.heap.size, 0, #[], rfl, Nat.le_refl _, (MapKept.heap_alloc w _).1, Nat.le_refl _, Nat.zero_le _, rfl, rfl⟩⟩
  have HN := hide (news_grid hGa); have HO := hide hO
  clear hGa hO hr
  go_enter Tryz.func93, Tryz.ntmps93
  go_wp2_with (at_builtin; go_must (refine wpList_append_own _ rfl (.tmp 5) (.tmp 6) 30 rfl w.heap.size 52 i _ 1 24 Tryz.underlying30 hi hz0 hz1 hz2 rfl (by decide) (.slice (some ⟨w.heap.size, 0, none⟩) 0 0) 0 [] rfl (unhide HO) ⟨G, off, none⟩ rs.length cap (rs.map rv) rfl (by simp) (unhide HN) (one_rv rs) (by unfold maxLen; omega) (by omega) (by simp) ?_; intro v' w' hown hgrow hnn))
  have dB : Below w.heap.size w w' := (bA (Below.refl w.heap.size w) (.cells #[] 52)).grown hgrow (by simp) (fun k hk => by
    have : w.heap.size = k := by simpa [Value.ownBlock] using hk
    omega)
  obtain ⟨g', cap', rfl⟩ : ∃ g' cap', v' = .slice (some ⟨g', 0, none⟩) rs.length cap' := by
    rcases hown.2 with ⟨h1, _⟩ | ⟨g', cap', cur, h1, _⟩
    · exact absurd (hnn.1 h1).1 (by simp)
    · exact ⟨g', cap', by rw [h1, Nat.zero_add]⟩
  have HOW : Hid (OwnG w' w.heap.size g' cap' rs) := by
    show OwnG _ _ _ _ _
    unfold OwnG
    rw [Nat.zero_add, List.nil_append] at hown
    exact hown
  go_ret
  exact ⟨g', cap', rfl, HOW.out, dB⟩
end Go.Proofs.YtbbjhepagkkjeaaGreatDoor
namespace Go.Proofs.YtbbjhepagkkjeaaGreatDoor
open Go Go.RowKit
theorem CompareI_calls (n m : Int) (w : World) :
    Calls Tryz.prog 95 #[.int .i64 n, .int .i64 m] w fun e w' => e = .returned (.int .i64 (cmpv n m)) ∧ w' = w := by
  have hn : (n != n) = false := by simp
  have hm : (m != m) = false := by simp
  by_cases h1 : n < m
  · go_enter Tryz.func95, Tryz.ntmps95
    go_wp2
    go_ret
    exact ⟨by simp [cmpv, h1], rfl⟩
  · by_cases h2 : m < n
    · go_enter Tryz.func95, Tryz.ntmps95
      go_wp2
      go_ret
      exact ⟨by simp [cmpv, h2, Int.not_lt.2 (Int.le_of_lt h2)], rfl⟩
    · have h3 : n = m := by omega
      subst h3
      go_enter Tryz.func95, Tryz.ntmps95
      go_wp2
      go_ret
      exact ⟨by simp [cmpv], rfl⟩
end Go.Proofs.YtbbjhepagkkjeaaGreatDoor
namespace Go.Proofs.YtbbjhepagkkjeaaGreatDoor
open Go Go.RowKit
def vcmp (x y : V2) : Int := if x.1 = true ∧ y.1 = true then 0 else if x.1 = true then -1 else if y.1 = true then 1 else cmpv x.2 y.2
def rcmp : List V2 → List V2 → Int
  | [], [] => 0
  | [], _ :: _ => -1
  | _ :: _, [] => 1
  | x :: xs, y :: ys => if vcmp x y = 0 then rcmp xs ys else vcmp x y
theorem l1ValCmp_calls (b c : Bool) (n m : Int) (w : World) :
    Calls Tryz.prog 68 #[.agg #[.bool b, .int .i64 n], .agg #[.bool c, .int .i64 m]] w fun e w' => e = .returned (.int .i64 (vcmp (b, n) (c, m))) ∧ Below w.heap.size w w' := by
  cases b <;> cases c
  · by_cases h1 : n < m
    · go_enter Tryz.func68, Tryz.ntmps68
      go_wp2
      go_ret
      exact ⟨by simp [vcmp, cmpv, h1], bA (bA (Below.refl _ _) _) _⟩
    · by_cases h2 : m < n
      · go_enter Tryz.func68, Tryz.ntmps68
        go_wp2
        go_ret
        exact ⟨by simp [vcmp, cmpv, Int.not_lt.2 (Int.le_of_lt h2), h2], bA (bA (Below.refl _ _) _) _⟩
      · obtain rfl : n = m := by omega
        go_enter Tryz.func68, Tryz.ntmps68
        go_wp2
        go_ret
        exact ⟨by simp [vcmp, cmpv], bA (bA (Below.refl _ _) _) _⟩
  all_goals
    go_enter Tryz.func68, Tryz.ntmps68
    go_wp2
    go_ret
    exact ⟨by simp [vcmp], bA (bA (Below.refl _ _) _) _⟩
theorem valCmp_calls (b c : Bool) (n m : Int) (w : World) :
    Calls Tryz.prog 94 #[.agg #[.bool b, .int .i64 n], .agg #[.bool c, .int .i64 m]] w fun e w' => e = .returned (.int .i64 (vcmp (b, n) (c, m))) ∧ Below w.heap.size w w' := by
  cases b <;> cases c
  · go_enter Tryz.func94, Tryz.ntmps94
    go_wp2_with (go_at_call 114; refine (Compare_calls _ _ _).mono ?_; rintro e w1 ⟨rfl, rfl⟩)
    go_ret
    exact ⟨by simp [vcmp], bA (bA (Below.refl _ _) _) _⟩
  all_goals
    go_enter Tryz.func94, Tryz.ntmps94
    go_wp2
    go_ret
    exact ⟨by simp [vcmp], bA (bA (Below.refl _ _) _) _⟩
end Go.Proofs.YtbbjhepagkkjeaaGreatDoor
namespace Go.Proofs.YtbbjhepagkkjeaaGreatDoor
open Go Go.RowKit
def from1 (off cap : Nat) : Nat := if cap = 1 then off else off + 2
theorem slice1 (g off n cap : Nat) (w : World) : (Instr.slice 52 (.slice (some ⟨g, off, none⟩) (n + 1) cap) (some (.int .i64 1)) none none).run Tryz.prog w = .ok (.slice (some ⟨g, from1 off cap, none⟩) n (cap - 1)) w := by
  have ht : Tryz.prog.underlying 52 = some (.slice (Tryz.prog.elem 52)) := by kernel_rfl
  have hs : ∀ w, (sizeOf (Tryz.prog.elem 52)).run Tryz.prog w = .ok 2 w := fun _ => by kernel_rfl
  rw [run_slice_l _ _ _ _ _ ht .i64 1 (by omega) (by omega), hs]
  by_cases h : cap = 1
  · simp [Result.andThen, sliced, from1, h]
  · simp [Result.andThen, sliced, from1, h, Addr.add]
theorem RowAt.from1 {w : World} {g off cap : Nat} {x : V2} {xs : List V2} (h : RowAt w g off (x :: xs)) (hc : xs.length + 1 ≤ cap) : RowAt w g (from1 off cap) xs := by
  unfold Go.Proofs.YtbbjhepagkkjeaaGreatDoor.from1
  split
  · have : xs = [] := List.eq_nil_of_length_eq_zero (by omega)
    subst this
    intro i y hy
    simp at hy
  · exact h.tail
set_option maxHeartbeats 1000000 in
theorem sRowCmp_calls : ∀ (xs ys : List V2) (g off cap g' off' cap' : Nat) (w : World), g < w.heap.size → g' < w.heap.size → RowAt w g off xs → RowAt w g' off' ys → xs.length ≤ cap → ys.length ≤ cap' → xs.length ≤ 1048576 → ys.length ≤ 1048576 →
    Calls Tryz.prog 31 #[.slice (some ⟨g, off, none⟩) xs.length cap, .slice (some ⟨g', off', none⟩) ys.length cap'] w fun e w' => e = .returned (.int .i64 (rcmp xs ys)) ∧ Below w.heap.size w w'
  | [], [], g, off, cap, g', off', cap', w, hg, hg', hx, hy, k1, k2, b1, b2 => by
    go_enter Tryz.func31, Tryz.ntmps31
    go_wp2
    go_ret
    exact ⟨by simp [rcmp], Below.refl _ _⟩
  | [], y :: ys, g, off, cap, g', off', cap', w, hg, hg', hx, hy, k1, k2, b1, b2 => by
    have e1 : (((ys.length : Int) + 1) == 0) = false := by simp; omega
    go_enter Tryz.func31, Tryz.ntmps31
    go_wp2
    go_ret
    exact ⟨by simp [rcmp], Below.refl _ _⟩
  | x :: xs, [], g, off, cap, g', off', cap', w, hg, hg', hx, hy, k1, k2, b1, b2 => by
    have e1 : (((xs.length : Int) + 1) == 0) = false := by simp; omega
    go_enter Tryz.func31, Tryz.ntmps31
    go_wp2
    go_ret
    exact ⟨by simp [rcmp], Below.refl _ _⟩
  | x :: xs, y :: ys, g, off, cap, g', off', cap', w, hg, hg', hx, hy, k1, k2, b1, b2 => by
    have IH : Hid (∀ o o' cap cap' w, g < w.heap.size → g' < w.heap.size → RowAt w g o xs → RowAt w g' o' ys → xs.length ≤ cap → ys.length ≤ cap' → Calls Tryz.prog 31 #[.slice (some ⟨g, o, none⟩) xs.length cap, .slice (some ⟨g', o', none⟩) ys.length cap'] w fun e w' => e = .returned (.int .i64 (rcmp xs ys)) ∧ Below w.heap.size w w') :=
      fun o o' cap cap' w h1 h2 h3 h4 h5 h6 => sRowCmp_calls xs ys g o cap g' o' cap' w h1 h2 h3 h4 h5 h6 (by simp at b1; omega) (by simp at b2; omega)
    have e1 : (((xs.length : Int) + 1) == 0) = false := by simp; omega
    have e2 : (((ys.length : Int) + 1) == 0) = false := by simp; omega
    obtain ⟨x0, x1⟩ := hx 0 x rfl
    obtain ⟨y0, y1⟩ := hy 0 y rfl
    simp only [Nat.zero_mul, Nat.add_zero] at x0 x1 y0 y1
    simp only [List.length_cons] at k1 k2 b1 b2
    go_enter Tryz.func31, Tryz.ntmps31
    go_upto_region 7 with fail
    have h1 := Below.refl w.heap.size w
    have h2 := h1
    go_region_held3 (Std w) (repeat (first | with_reducible assumption | with_reducible exact Std.refl _ | with_reducible refine Std.drew ?_ | with_reducible refine Std.alloc ?_ _ | with_reducible refine Std.setCell ?_ ?_ _ | with_reducible refine Std.call ?_ (by with_reducible assumption) | (simp <;> omega) | omega)) (first | (go_at_call 68; refine (l1ValCmp_calls _ _ _ _ _).mono ?_; rintro e w1 ⟨rfl, hb⟩; (first | have n3 := bT h2 hb | have n3 := bT (bA h2 _) hb | have n3 := bT (Below.drew h2) hb | have n3 := bT (Below.drew (bA h2 _)) hb | have n3 := bT (bA (Below.drew h2) _) hb); (first | have n2 := bT h1 hb | have n2 := bT (bA h1 _) hb | have n2 := bT (Below.drew h1) hb | have n2 := bT (Below.drew (bA h1 _)) hb | have n2 := bT (bA (Below.drew h1) _) hb); obtain ⟨c1, f1⟩ := bcell hb; obtain ⟨c2, f2⟩ := bcell n2; obtain ⟨c3, f3⟩ := bcell n3; have hs := hb.size; (try simp at hs); clear h1 h2; have h1 := hb; have h2 := n2; clear n2 hb))
    by_cases hv : vcmp x y = 0
    · have e3 : (vcmp x y != 0) = false := by simp [hv]
      have HV : Hid (rcmp (x :: xs) (y :: ys) = rcmp xs ys) := by show _ = _; simp [rcmp, hv]
      clear hv
      have q1 : g < w1.heap.size := Nat.lt_of_lt_of_le hg h2.size
      have q2 : g' < w1.heap.size := Nat.lt_of_lt_of_le hg' h2.size
      have r1 : RowAt w1.drew g (from1 off cap) xs := fun i x hx' => (hx.of hg h2).from1 k1 i x hx'
      have r2 : RowAt w1.drew g' (from1 off' cap') ys := fun i x hx' => (hy.of hg' h2).from1 k2 i x hx'
      have s1 := slice1 g off xs.length cap
      have s2 := slice1 g' off' ys.length cap'
      generalize from1 off cap = o at *
      generalize from1 off' cap' = o' at *
      go_wp2_with fail
      go_region_held3 (Std w1) (repeat (first | with_reducible assumption | with_reducible exact Std.refl _ | with_reducible refine Std.drew ?_ | with_reducible refine Std.alloc ?_ _ | with_reducible refine Std.setCell ?_ ?_ _ | with_reducible refine Std.call ?_ (by with_reducible assumption) | (simp <;> omega) | omega)) (first | (go_at_call 31; refine (IH.out o o' _ _ w1.drew q1 q2 r1 r2 (by omega) (by omega)).mono ?_; rintro e w2 ⟨rfl, hb2⟩))
      go_wp2
      go_ret
      exact ⟨congrArg (fun z => Ending.returned (.int .i64 z)) HV.out.symm, bT h2 (Below.drew (Below.refl _ _)) |>.trans (hb2.mono h2.size)⟩
    · have e3 : (vcmp x y != 0) = true := by simp [hv]
      have HV : Hid (rcmp (x :: xs) (y :: ys) = vcmp x y) := by show _ = _; simp [rcmp, hv]
      clear hv
      go_wp2
      go_ret
      exact ⟨congrArg (fun z => Ending.returned (.int .i64 z)) HV.out.symm, h2⟩
end Go.Proofs.YtbbjhepagkkjeaaGreatDoor
