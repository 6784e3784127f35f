import Derived.Test.YtbbjhepagkkjeaaGreatDoorQ34
import Derived.Test.YtbbjhepagkkjeaaGreatDoorQ4
import Derived.Test.YtbbjhepagkkjeaaGreatDoorQ5
import Derived.Test.YtbbjhepagkkjeaaGreatDoorQ30
import Derived.Test.YtbbjhepagkkjeaaGreatDoorQ32
import Derived.Lib.SliceRun
import Derived.Test.YtbbjhepagkkjeaaGreatDoorQ29
import Derived.Test.YtbbjhepagkkjeaaGreatDoorQ33
import Derived.Handy
import Derived.Laws.OwnMore
namespace Go.Proofs.YtbbjhepagkkjeaaGreatDoor
open Go Go.RowKit
end Go.Proofs.YtbbjhepagkkjeaaGreatDoor
namespace Go.Proofs.YtbbjhepagkkjeaaGreatDoor
open Go Go.RowKit
end Go.Proofs.YtbbjhepagkkjeaaGreatDoor
namespace Go.Proofs.YtbbjhepagkkjeaaGreatDoor
open Go Go.RowKit
def GridAtO (w : World) (G off : Nat) (rs : List R3) : Prop := ∀ i r, rs[i]? = some r → w.cell? ⟨G, off + i, none⟩ = some (rvO r)
theorem GridAtO.of {w w1 : World} {G off : Nat} {rs : List R3} (h : GridAtO w G off rs) (hG : G < w.heap.size) (hb : Below w.heap.size w w1) : GridAtO w1 G off rs := fun i r hr => (hb.cell (p := ⟨G, off + i, none⟩) hG).trans (h i r hr)
def RowsO (w : World) (rs : List R3) : Prop := ∀ r ∈ rs, ROk w (fun _ => False) r
theorem RowsO.of {w w1 : World} {rs : List R3} (h : RowsO w rs) (hb : Below w.heap.size w w1) : RowsO w1 rs := fun r hr => (h r hr).of hb
def OwnGO (w : World) (B G cap : Nat) (rs : List R3) : Prop := w.ownsRow B 52 1 (.slice (some ⟨G, 0, none⟩) rs.length cap) rs.length (rs.map rvO)
theorem OwnGO.lt {w : World} {B g cap : Nat} {bs : List R3} (h : OwnGO w B g cap bs) : g < w.heap.size ∧ B ≤ g ∧ bs.length ≤ cap ∧ cap ≤ maxLen := by
  rcases h.2 with ⟨h1, _⟩ | ⟨g', cap', cur, h1, h2, h3, h4, h5, _⟩
  · simp at h1
  · simp only [Value.slice.injEq, Option.some.injEq, Addr.mk.injEq, and_true, true_and] at h1
    obtain ⟨rfl, rfl⟩ := h1
    exact ⟨(Array.getElem?_eq_some_iff.1 h3).1, h2, h4, h5⟩
theorem OwnGO.of {w w1 : World} {B g cap : Nat} {bs : List R3} (h : OwnGO w B g cap bs) (hb : Below w.heap.size w w1) : OwnGO w1 B g cap bs := by
  have hl := h.lt.1
  refine ⟨h.1, ?_⟩
  rcases h.2 with h1 | ⟨g', cap', cur, h1, h2, h3, h4⟩
  · exact Or.inl h1
  · have e : g' = g := by
      simp only [Value.slice.injEq, Option.some.injEq, Addr.mk.injEq, and_true, true_and] at h1
      exact h1.1.symm
    exact Or.inr ⟨g', cap', cur, h1, h2, by rw [hb.block g' (by rw [e]; exact hl)]; exact h3, h4⟩
theorem OwnGO.grid {w : World} {B g cap : Nat} {bs : List R3} (h : OwnGO w B g cap bs) : GridAtO w g 0 bs := by
  rcases h.2 with ⟨h1, _⟩ | ⟨g', cap', cur, h1, h2, h3, h4, h5, h6, h7⟩
  · simp at h1
  · simp only [Value.slice.injEq, Option.some.injEq, Addr.mk.injEq, and_true, true_and] at h1
    obtain ⟨rfl, rfl⟩ := h1
    intro i x hx
    have hi := (List.getElem?_eq_some_iff.1 hx).1
    have e0 : (bs.map rvO)[i]? = some (rvO x) := by simp [hx]
    rw [← h7, List.getElem?_take, if_pos (by omega)] at e0
    simp only [Nat.zero_add, World.cell?, h3]
    simpa using e0
theorem OwnGO.mono {w : World} {B B' g cap : Nat} {bs : List R3} (h : OwnGO w B g cap bs) (hB : B' ≤ B) : OwnGO w B' g cap bs := by
  refine ⟨h.1, ?_⟩
  rcases h.2 with h1 | ⟨g', cap', cur, h1, h2, h3⟩
  · exact Or.inl h1
  · exact Or.inr ⟨g', cap', cur, h1, by omega, h3⟩
theorem GridAtO.take {w : World} {G off : Nat} {rs : List R3} (h : GridAtO w G off rs) (k : Nat) : GridAtO w G off (rs.take k) := fun i r hr => h i r (by rw [List.getElem?_take] at hr; split at hr <;> simp_all)
theorem GridAtO.drop {w : World} {G off : Nat} {rs : List R3} (h : GridAtO w G off rs) (k : Nat) : GridAtO w G (off + k) (rs.drop k) := fun i r hr => by
  have := h (k + i) r (by simpa using hr)
  rw [show off + k + i = off + (k + i) from by omega]
  exact this
theorem RowsO.sub {w : World} {rs qs : List R3} (h : RowsO w rs) (hs : ∀ r ∈ qs, r ∈ rs) : RowsO w qs := fun r hr => h r (hs r hr)
theorem OwnGO.room (w : World) (n : Nat) (hn : n ≤ 1048576) : OwnGO (w.alloc (.cells (madeCells #[.slice none 0 0] n) 52)) w.heap.size w.heap.size n [] :=
  ⟨rfl, Or.inr ⟨w.heap.size, n, _, rfl, Nat.le_refl _, (MapKept.heap_alloc w _).1, Nat.zero_le _, by unfold maxLen; omega, by simp [size_madeCells], by simp⟩⟩
end Go.Proofs.YtbbjhepagkkjeaaGreatDoor
namespace Go.Proofs.YtbbjhepagkkjeaaGreatDoor
open Go Go.RowKit
theorem GridAtO.ofB {w w1 : World} {G off B : Nat} {rs : List R3} (h : GridAtO w G off rs) (hG : G < B) (hb : Below B w w1) : GridAtO w1 G off rs := fun i r hr => (hb.cell (p := ⟨G, off + i, none⟩) hG).trans (h i r hr)
theorem GridAtO.tail1 {w : World} {G off o : Nat} {x : R3} {l : List R3} (h : GridAtO w G off (x :: l)) (ho : 0 < l.length → o = off + 1) : GridAtO w G o l := fun i r hr => by
  have hi := (List.getElem?_eq_some_iff.1 hr).1
  have := h (i + 1) r (by simpa using hr)
  rw [ho (by omega), show off + 1 + i = off + (i + 1) from by omega]
  exact this
end Go.Proofs.YtbbjhepagkkjeaaGreatDoor
namespace Go.Proofs.YtbbjhepagkkjeaaGreatDoor
open Go Go.RowKit
abbrev r0 : R3 := (0, 0, [])
theorem GridAtO.set {w : World} {G : Nat} {qs : List R3} (h : GridAtO w G 0 qs) (k : Nat) (x : R3) : GridAtO (w.setCell ⟨G, k, none⟩ (rvO x)) G 0 (qs.set k x) := fun i r hr => by
  rw [Nat.zero_add]
  by_cases e : k = i
  · subst e
    have hl : k < qs.length := by have := (List.getElem?_eq_some_iff.1 hr).1; simpa using this
    have := h k qs[k] (List.getElem?_eq_getElem hl)
    rw [Nat.zero_add] at this
    rw [World.cell?_setCell_same _ _ _ this]
    rw [List.getElem?_set_self hl] at hr
    rw [Option.some.inj hr]
  · rw [setCell_other e]
    rw [List.getElem?_set_ne e] at hr
    have := h i r hr
    rwa [Nat.zero_add] at this
end Go.Proofs.YtbbjhepagkkjeaaGreatDoor
namespace Go.Proofs.YtbbjhepagkkjeaaGreatDoor
open Go Go.RowKit
theorem OwnGO.frz {w : World} {B g cap : Nat} {bs : List R3} (h : OwnGO w B g cap bs) (o : Nat) : w.frozen? ⟨g, o, none⟩ = false := by
  rcases h.2 with ⟨h1, _⟩ | ⟨g', cap', cur, h1, h2, h3, _⟩
  · simp at h1
  · simp only [Value.slice.injEq, Option.some.injEq, Addr.mk.injEq, and_true, true_and] at h1
    obtain ⟨rfl, rfl⟩ := h1
    simp [World.frozen?, h3]
end Go.Proofs.YtbbjhepagkkjeaaGreatDoor
namespace Go.Proofs.YtbbjhepagkkjeaaGreatDoor
open Go Go.RowKit
end Go.Proofs.YtbbjhepagkkjeaaGreatDoor
namespace Go.Proofs.YtbbjhepagkkjeaaGreatDoor
open Go
end Go.Proofs.YtbbjhepagkkjeaaGreatDoor
namespace Go.Proofs.YtbbjhepagkkjeaaGreatDoor
open Go Go.RowKit
end Go.Proofs.YtbbjhepagkkjeaaGreatDoor
namespace Go.Proofs.YtbbjhepagkkjeaaGreatDoor
open Go Go.RowKit
set_option maxHeartbeats 1000000 in
theorem copyRowO_calls (xs : List V2) (ra : Option Addr) (g off cap : Nat) (w : World) (hra : ra = some ⟨g, off, none⟩ ∨ xs = []) (hg : g < w.heap.size) (hr : RowAt w g off xs) (hn : xs.length ≤ 1048576) :
    Calls Tryz.prog 61 #[.slice ra xs.length cap] w fun e w' => ∃ g', e = .returned (.slice (some ⟨g', 0, none⟩) xs.length xs.length) ∧ w.heap.size ≤ g' ∧ OwnRow w' g' xs.length (xs.map clnV) ∧ Below w.heap.size w w' := by
  have HA := hide hra
  clear hra
  have hmk := make_vals xs.length hn
  have hO : Hid (OwnRow (w.alloc (.cells (madeCells #[.bool false, .int .i64 0] (xs.length * 2)) 54)) w.heap.size xs.length []) := OwnRow.made w _ _ _ (by simp [size_madeCells])
  go_enter Tryz.func61, Tryz.ntmps61
  go_wp2
  go_loopw [4, 5, 11] (fun _ _ i wr => ∃ k : Nat, k ≤ xs.length ∧ i = .int .i64 k ∧ OwnRow wr w.heap.size xs.length ((xs.map clnV).take k) ∧ Below w.heap.size w wr) (fun _ _ i _ => xs.length - (intOf i).toNat)
  case atStart => exact ⟨0, Nat.zero_le _, rfl, by simpa using hO.out, bA (Below.refl _ _) _⟩
  case round =>
    clear hO hmk
    obtain ⟨k, hk, rfl, ho, hb⟩ := hrel
    by_cases hlt : k < xs.length
    · obtain rfl : ra = some ⟨g, off, none⟩ := (unhide HA).resolve_right (fun h => by rw [h] at hlt; simp at hlt)
      clear HA
      obtain ⟨e0, e1⟩ := (hr.of hg hb).at k hlt
      have j1 : (k : Int) < (xs.length : Int) := by omega
      have hlm : k < (xs.map clnV).length := by simpa using hlt
      have hmk : (xs.map clnV)[k] = clnV xs[k] := by simp
      have CV := fun w => cleanVal_calls' xs[k].1 xs[k].2 w
      have HC := hide CV
      clear CV
      have q1 : g < wr.heap.size := Nat.lt_of_lt_of_le hg hb.size
      go_wp2_with fail
      refine (unhide HC _).mono ?_; rintro e w1 ⟨rfl, hb1⟩
      have d1 := bT (bA hb _) hb1
      have ho1 := ho.of (bT (bA (Below.refl wr.heap.size wr) _) hb1)
      have hN : Hid (OwnRow ((w1.setCell ⟨w.heap.size, k * 2, none⟩ (.bool (clnV xs[k]).1)).setCell ⟨w.heap.size, k * 2 + 1, none⟩ (.int .i64 (clnV xs[k]).2)) w.heap.size xs.length ((xs.map clnV).take (k + 1))) := by
        have := ho1.next hlm (by simpa using hlt)
        rw [hmk] at this
        exact this
      obtain ⟨u0, hu0⟩ := ho1.all (k * 2) (by omega)
      obtain ⟨u1, hu1⟩ := ho1.all (k * 2 + 1) (by omega)
      have hf := ho1.frz
      clear ho ho1 hb1 hmk hlm HC
      go_wp2
      go_roundw
      case rel => exact ⟨k + 1, by omega, by go_num, hN.out, (d1.setCell (Nat.le_refl _) _).setCell (Nat.le_refl _) _⟩
      case measure => simp [intOf]; omega
    · obtain rfl : k = xs.length := by omega
      rw [List.take_of_length_le (by simp)] at ho
      go_wp2
      go_ret
      exact ⟨_, rfl, Nat.le_refl _, ho, hb⟩
set_option maxHeartbeats 1000000 in
theorem SortRowsO_calls (rs : List R3) (a : Option Addr) (cap : Nat) (w : World) (hr : GridO w (fun _ => False) a rs) (hro : ∀ r ∈ rs, ROk w (fun _ => False) r) (b1 : rs.length ≤ 1048576) (b2 : ∀ r ∈ rs, r.2.2.length ≤ 1048576) :
    Calls Tryz.prog 27 #[.slice a rs.length cap] w fun e w' => ∃ G' cap' qs, e = .returned (.slice (some ⟨G', 0, none⟩) rs.length cap') ∧ OwnG w' w.heap.size G' cap' qs ∧ RowsOk w' qs ∧ (∀ r ∈ qs, w.heap.size ≤ r.1 ∧ r.1 < G') ∧ (qs.map (fun r : R3 => r.1)).Nodup ∧ qs.map kR = msF (fun x => x) rs.length (rs.map cleanR) ∧ Below w.heap.size w w' := by
  have HGr := hide hr
  have HRo := hide hro
  clear hr hro
  have hmk := make_rows rs.length b1
  have hO : Hid (OwnGrid (w.alloc (.cells (madeCells #[.slice none 0 0] rs.length) 52)) w.heap.size rs.length []) := OwnGrid.made w _ _ _ (by simp [size_madeCells])
  go_enter Tryz.func27, Tryz.ntmps27
  go_wp2
  go_loopw [4, 5, 11] (fun _ _ i wr => ∃ (k : Nat) (qs : List R3), k ≤ rs.length ∧ i = .int .i64 k ∧ qs.map kR = (rs.map cleanR).take k ∧ OwnGrid wr w.heap.size rs.length qs ∧ RowsOk wr qs ∧ (∀ r ∈ qs, w.heap.size < r.1) ∧ (qs.map (fun r : R3 => r.1)).Nodup ∧ Below w.heap.size w wr) (fun _ _ i _ => rs.length - (intOf i).toNat)
  case atStart => exact ⟨0, [], Nat.zero_le _, rfl, by simp, hO.out, fun r hr => (by simp at hr), fun r hr => (by simp at hr), by simp, bA (Below.refl _ _) _⟩
  case round =>
    clear hO hmk
    obtain ⟨k, qs, hk, rfl, hm, ho, hqo, hlt', hnd, hb⟩ := hrel
    have hlen : qs.length = k := by have := congrArg List.length hm; simp at this; omega
    by_cases hlt : k < rs.length
    · obtain ⟨G, ga, q1, _, e0⟩ := (unhide HGr).gv (GV.ofBelow hb) k hlt
      have hmem : rs[k] ∈ rs := List.getElem_mem hlt
      have hrk := (unhide HRo _ hmem).of hb
      obtain ⟨gr, s1, s2, s3⟩ := hrk.at (Nat.zero_lt_of_lt q1)
      clear hrk
      have hrk := And.intro s1 s2
      have hbk := b2 _ hmem
      have hck : (rs.map cleanR)[k]'(by simpa using hlt) = cleanR rs[k] := by simp
      unfold rvO at e0
      have s3' := s3
      clear s3
      generalize rs[k] = r at *
      obtain ⟨rg, rc, rx⟩ := r
      simp only at e0 hrk hbk s1 s2 s3'
      generalize rA (rg, rc, rx) = ra at *
      have CR := fun w h1 h2 => copyRowO_calls rx ra gr 0 rc w s3' h1 h2 hbk
      have HC := hide CR; have HRK := hide hrk; have HCK := hide hck
      have j1 : (k : Int) < (rs.length : Int) := by omega
      clear CR hrk hck hmem hbk s1 s2 s3'
      subst ga
      go_wp2_with fail
      refine (unhide HC _ (unhide HRK).1 (unhide HRK).2).mono ?_; rintro e w1 ⟨g1, rfl, hg1, ho1, hb1⟩
      have d1 := bT hb hb1
      have hoG := ho.of hb1
      have hgw : w.heap.size < g1 := Nat.lt_of_lt_of_le ho.size hg1
      have hN : Hid (OwnGrid (w1.setCell ⟨w.heap.size, k, none⟩ (.slice (some ⟨g1, 0, none⟩) rx.length rx.length)) w.heap.size rs.length (qs ++ [(g1, rx.length, rx.map clnV)])) := by
        show OwnGrid _ _ _ _
        have := hoG.push (by omega) (g1, rx.length, rx.map clnV)
        rw [hlen] at this
        simpa [rv] using this
      have hR : Hid (RowsOk (w1.setCell ⟨w.heap.size, k, none⟩ (.slice (some ⟨g1, 0, none⟩) rx.length rx.length)) (qs ++ [(g1, rx.length, rx.map clnV)])) := by
        intro r hr'
        rcases List.mem_append.1 hr' with h | h
        · exact ((hqo.of hb1).far (fun r hr => by have := hlt' r hr; omega) _) r h
        · simp at h
          subst h
          simp only [List.length_map]
          exact ⟨ho1.far (by omega) _, Nat.le_refl _⟩
      have hND : Hid ((qs ++ [(g1, rx.length, rx.map clnV)]).map (fun r : R3 => r.1)).Nodup := by
        show List.Nodup _
        rw [List.map_append, List.nodup_append]
        refine ⟨hnd, by simp, fun a ha b hb' e => ?_⟩
        simp at hb'
        obtain ⟨r, hr1, hr2⟩ := List.mem_map.1 ha
        have := (hqo r hr1).1.size
        omega
      obtain ⟨u0, hu0⟩ := hoG.all k (by omega)
      have hf := hoG.frz
      clear ho hoG hb1 HC HRK
      go_wp2
      go_roundw
      case rel =>
        refine ⟨k + 1, qs ++ [(g1, rx.length, rx.map clnV)], by omega, by go_num, ?_, hN.out, hR.out, ?_, hND.out, d1.setCell (Nat.le_refl _) _⟩
        · rw [List.map_append, hm, take_snoc (rs.map cleanR) k (by simpa using hlt), unhide HCK]; rfl
        · intro r hr'
          rcases List.mem_append.1 hr' with h | h
          · exact hlt' r h
          · simp at h
            subst h
            exact hgw
      case measure => simp [intOf]; omega
    · obtain rfl : k = rs.length := by omega
      rw [List.take_of_length_le (by simp)] at hm
      have hq2 : ∀ r ∈ qs, r.2.2.length ≤ 1048576 := fun r hr => by
        have : r.2.2 ∈ rs.map cleanR := by rw [← hm]; exact List.mem_map.2 ⟨r, hr, rfl⟩
        obtain ⟨r', hr', e⟩ := List.mem_map.1 this
        have := b2 r' hr'
        rw [← e]; simpa using this
      have SC := sorted_calls rs.length qs w.heap.size 0 rs.length wr (by omega) ho.size ho.held hqo (by omega) (by omega) hq2
      rw [hlen] at SC
      have HSC := hide SC
      clear SC
      go_wp2_with fail
      refine (unhide HSC).mono ?_; rintro e w1 ⟨G', cap', rfl, how, hb1⟩
      have hp := msF_perm kR rs.length qs
      have hG' := how.lt.2.1
      have F1 : Hid (RowsOk w1 (msF kR rs.length qs)) := (hqo.of hb1).sub (fun r hr => hp.mem_iff.1 hr)
      have F2 : Hid (∀ r ∈ msF kR rs.length qs, w.heap.size ≤ r.1 ∧ r.1 < G') := fun r hr => by
        have hm' := hp.mem_iff.1 hr
        have := hlt' r hm'
        have := (hqo r hm').1.size
        omega
      have F3 : Hid ((msF kR rs.length qs).map (fun r : R3 => r.1)).Nodup := (List.Perm.nodup_iff (hp.map _)).2 hnd
      have F4 : Hid ((msF kR rs.length qs).map kR = msF (fun x => x) rs.length (rs.map cleanR)) := by
        show _ = _
        rw [msF_map kR (fun x => x) kR (fun _ => rfl), hm]
      have F5 : Hid (OwnG w1 w.heap.size G' cap' (msF kR rs.length qs)) := how.mono hb.size
      have d1 := bT hb hb1
      clear how
      go_wp2
      go_ret
      exact ⟨G', cap', _, rfl, F5.out, F1.out, F2.out, F3.out, F4.out, d1⟩
end Go.Proofs.YtbbjhepagkkjeaaGreatDoor
namespace Go.Proofs.YtbbjhepagkkjeaaGreatDoor
open Go Go.RowKit
def Ans (w : World) (rows : List (List V2)) (e : Ending) (w' : World) : Prop := ∃ (G c : Nat) (rs : List R3), e = .returned (.slice (some ⟨G, 0, none⟩) rs.length c) ∧ Made w' w.heap.size G c rs ∧ rs.map (fun r : R3 => r.2.2) = rows ∧ Below w.heap.size w w' ∧ ∀ r ∈ rs, w.heap.size ≤ r.1
theorem Made.low {w : World} {B B' G c : Nat} {rs : List R3} (h : Made w B G c rs) (hB : B' ≤ B) : Made w B' G c rs := ⟨h.own.mono hB, h.rows, h.far⟩
theorem Ans.low {w W : World} {rows : List (List V2)} {e : Ending} {w' : World} (h : Ans W rows e w') (hb : Below w.heap.size w W) : Ans w rows e w' := by
  obtain ⟨G, c, rs, h1, h2, h3, h4, h5⟩ := h
  exact ⟨G, c, rs, h1, h2.low hb.size, h3, bT hb h4, fun r hr => Nat.le_trans hb.size (h5 r hr)⟩
theorem Made.pushs {w w2 : World} {B G c G2 c2 : Nat} {rs qs : List R3} (h : Made w B G c rs) (hq : RowsOk w qs) (hne : ∀ r ∈ qs, r.1 ≠ G) (n : Nat) (hn : rs.length + qs.length = n)
    (hown : w2.ownsRow B 52 1 (.slice (some ⟨G2, 0, none⟩) n c2) n (rs.map rv ++ qs.map rv)) (hgr : w.grownBy w2 (some G)) (hat : G2 = G ∨ G2 = w.heap.size) : Made w2 B G2 c2 (rs ++ qs) := by
  subst hn
  refine ⟨?_, ?_, ?_⟩
  · unfold OwnG
    rw [List.map_append, List.length_append]
    exact hown
  · intro x hx
    rcases List.mem_append.1 hx with h' | h'
    · exact h.rows.grown hgr (fun y hy => by have := h.far y hy; simpa using this) x h'
    · exact hq.grown hgr (fun y hy => by have := hne y hy; simpa using this) x h'
  · intro x hx
    rcases List.mem_append.1 hx with h' | h'
    · have h1 := h.far x h'
      have h2 := (h.rows x h').1.size
      rcases hat with e | e <;> omega
    · have h1 := hne x h'
      have h2 := (hq x h').1.size
      rcases hat with e | e <;> omega
end Go.Proofs.YtbbjhepagkkjeaaGreatDoor
namespace Go.Proofs.YtbbjhepagkkjeaaGreatDoor
open Go Go.RowKit
end Go.Proofs.YtbbjhepagkkjeaaGreatDoor
namespace Go.Proofs.YtbbjhepagkkjeaaGreatDoor
open Go Go.RowKit
theorem Made.grown {w w2 : World} {B G c X : Nat} {rs : List R3} (h : Made w B G c rs) (hgr : w.grownBy w2 (some X)) (hne : G ≠ X) (hr : ∀ r ∈ rs, r.1 ≠ X) : Made w2 B G c rs := by
  refine ⟨?_, h.rows.grown hgr (fun r hr' => by have := hr r hr'; simpa using this), h.far⟩
  have hl := h.own.lt.1
  obtain ⟨o1, o2⟩ := h.own
  refine ⟨o1, ?_⟩
  rcases o2 with o2 | ⟨g, cap, cur, e1, e2, e3, e4⟩
  · exact Or.inl o2
  · have eg : G = g := by
      simp only [Value.slice.injEq, Option.some.injEq, Addr.mk.injEq, and_true, true_and] at e1
      exact e1.1
    refine Or.inr ⟨g, cap, cur, e1, e2, ?_, e4⟩
    rw [hgr.block g (by omega) (by simp; omega)]
    exact e3
theorem Made.nil (w : World) (B b : Nat) (hb : w.heap.size = b) (hB : B ≤ b) : Made (w.alloc (.cells #[] 52)) B b 0 [] := by
  subst hb
  exact ⟨⟨rfl, Or.inr ⟨w.heap.size, 0, #[], rfl, hB, (MapKept.heap_alloc w _).1, Nat.le_refl _, Nat.zero_le _, rfl, rfl⟩⟩, fun r hr => by simp at hr, fun r hr => by simp at hr⟩
structure Lp (w Wb : World) (G1 c1 : Nat) (rs1 : List R3) (rows : List (List V2)) (Go co : Nat) (rso : List R3) (wr : World) : Prop where
  out : Made wr (w.heap.size + 3) Go co rso
  map : rso.map (fun r : R3 => r.2.2) = rows
  left : Made wr (w.heap.size + 3) G1 c1 rs1
  ne : G1 ≠ Go
  nes : ∀ r ∈ rs1, r.1 ≠ Go
  new : ∀ r ∈ rso, w.heap.size ≤ r.1
  size : w.heap.size + 3 ≤ wr.heap.size
  low : Below (w.heap.size + 3) Wb wr
theorem Lp.of {w Wb : World} {G1 c1 : Nat} {rs1 : List R3} {rows : List (List V2)} {Go co : Nat} {rso : List R3} {wr w1 : World} (h : Lp w Wb G1 c1 rs1 rows Go co rso wr) (hb : Below wr.heap.size wr w1) : Lp w Wb G1 c1 rs1 rows Go co rso w1 :=
  ⟨h.out.of hb, h.map, h.left.of hb, h.ne, h.nes, h.new, Nat.le_trans h.size hb.size, h.low.trans (hb.mono h.size)⟩
theorem Lp.push {w Wb : World} {G1 c1 : Nat} {rs1 : List R3} {rows : List (List V2)} {Go co : Nat} {rso : List R3} {wr w2 : World} (h : Lp w Wb G1 c1 rs1 rows Go co rso wr) (qs : List R3) (hq : RowsOk wr qs) (hqn : ∀ r ∈ qs, r.1 ≠ Go ∧ w.heap.size ≤ r.1) {g2 c2 : Nat} (n : Nat) (hn : rso.length + qs.length = n)
    (hown : w2.ownsRow (w.heap.size + 3) 52 1 (.slice (some ⟨g2, 0, none⟩) n c2) n (rso.map rv ++ qs.map rv)) (hgr : wr.grownBy w2 (some Go)) (hat : g2 = Go ∨ g2 = wr.heap.size) : Lp w Wb G1 c1 rs1 (rows ++ qs.map (fun r : R3 => r.2.2)) g2 c2 (rso ++ qs) w2 := by
  have hGo := h.out.own.lt
  refine ⟨Made.pushs h.out hq (fun r hr => (hqn r hr).1) n hn hown hgr hat, by rw [List.map_append, h.map], h.left.grown hgr h.ne h.nes, ?_, fun r hr => ?_, fun r hr => ?_, Nat.le_trans h.size hgr.size, h.low.grown hgr h.size (fun j hj => ?_)⟩
  · have := h.left.own.lt.1
    have := h.ne
    rcases hat with e | e <;> omega
  · have h1 := h.nes r hr
    have h2 := (h.left.rows r hr).1.size
    rcases hat with e | e <;> omega
  · rcases List.mem_append.1 hr with h' | h'
    · exact h.new r h'
    · exact (hqn r h').2
  · have : Go = j := by simpa using hj
    omega
end Go.Proofs.YtbbjhepagkkjeaaGreatDoor
namespace Go.Proofs.YtbbjhepagkkjeaaGreatDoor
open Go Go.RowKit
end Go.Proofs.YtbbjhepagkkjeaaGreatDoor
namespace Go.Proofs.YtbbjhepagkkjeaaGreatDoor
open Go Go.RowKit
end Go.Proofs.YtbbjhepagkkjeaaGreatDoor
namespace Go.Proofs.YtbbjhepagkkjeaaGreatDoor
open Go Go.RowKit
structure Sm (w : World) (G5 c5 : Nat) (rs5 : List R3) (Go : Nat) (wr : World) : Prop where
  made : Made wr (w.heap.size + 3) G5 c5 rs5
  ne : G5 ≠ Go
  nes : ∀ r ∈ rs5, r.1 ≠ Go
theorem Sm.of {w : World} {G5 c5 : Nat} {rs5 : List R3} {Go : Nat} {wr w1 : World} (h : Sm w G5 c5 rs5 Go wr) (hb : Below wr.heap.size wr w1) : Sm w G5 c5 rs5 Go w1 := ⟨h.made.of hb, h.ne, h.nes⟩
theorem Sm.push {w : World} {G5 c5 : Nat} {rs5 : List R3} {Go g2 : Nat} {wr w2 : World} (h : Sm w G5 c5 rs5 Go wr) (hgr : wr.grownBy w2 (some Go)) (hat : g2 = Go ∨ g2 = wr.heap.size) : Sm w G5 c5 rs5 g2 w2 := by
  refine ⟨h.made.grown hgr h.ne h.nes, ?_, fun r hr => ?_⟩
  · have := h.made.own.lt.1
    have := h.ne
    rcases hat with e | e <;> omega
  · have h1 := h.nes r hr
    have h2 := (h.made.rows r hr).1.size
    rcases hat with e | e <;> omega
end Go.Proofs.YtbbjhepagkkjeaaGreatDoor
namespace Go.Proofs.YtbbjhepagkkjeaaGreatDoor
open Go Go.RowKit
end Go.Proofs.YtbbjhepagkkjeaaGreatDoor
namespace Go.Proofs.YtbbjhepagkkjeaaGreatDoor
open Go Go.RowKit
end Go.Proofs.YtbbjhepagkkjeaaGreatDoor
namespace Go.Proofs.YtbbjhepagkkjeaaGreatDoor
open Go Go.RowKit
end Go.Proofs.YtbbjhepagkkjeaaGreatDoor
namespace Go.Proofs.YtbbjhepagkkjeaaGreatDoor
open Go Go.RowKit
end Go.Proofs.YtbbjhepagkkjeaaGreatDoor
namespace Go.Proofs.YtbbjhepagkkjeaaGreatDoor
open Go Go.RowKit
theorem PF.ofB {s g np cap gt nt capt b : Nat} {W W1 : World} (h : PF s g np cap gt nt capt W) (hb : Below b W W1) (hs : s + 1 < b) (hz : b ≤ W.heap.size) : PF s g np cap gt nt capt W1 :=
  ⟨(hb.cell (p := ⟨s, 0, none⟩) (show s < _ by omega)).trans h.p, (hb.cell (p := ⟨s + 1, 0, none⟩) hs).trans h.d, by have := hb.size; omega⟩
end Go.Proofs.YtbbjhepagkkjeaaGreatDoor
