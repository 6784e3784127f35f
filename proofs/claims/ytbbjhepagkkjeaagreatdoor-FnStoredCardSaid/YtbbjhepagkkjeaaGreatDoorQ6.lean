import Derived.Test.YtbbjhepagkkjeaaGreatDoorQ2
import Derived.Test.YtbbjhepagkkjeaaGreatDoorQ3
import Derived.Test.YtbbjhepagkkjeaaGreatDoorQ5
namespace Go.Proofs.YtbbjhepagkkjeaaGreatDoor
open Go Go.RowKit
def dStep (bs : List Nat) (width : Nat) (s : List (List V2) × Nat) : List (List V2) × Nat :=
  if nxt bs s.2 % 4 = 3 ∧ 0 < s.1.length then (s.1 ++ [(s.1.getD (nxt bs s.2 / 4 % s.1.length) []).map clnV], adv bs s.2)
  else (s.1 ++ [(dRowN bs (adv bs s.2) width).1], (dRowN bs (adv bs s.2) width).2)
def dRowsN (bs : List Nat) (p width : Nat) : Nat → List (List V2) × Nat
  | 0 => ([], p)
  | i + 1 => dStep bs width (dRowsN bs p width i)
theorem dStep_length (bs : List Nat) (width : Nat) (s : List (List V2) × Nat) : (dStep bs width s).1.length = s.1.length + 1 := by unfold dStep; split <;> simp
theorem dRowsN_length (bs : List Nat) (p width : Nat) : ∀ n, (dRowsN bs p width n).1.length = n
  | 0 => rfl
  | n + 1 => by rw [dRowsN, dStep_length, dRowsN_length bs p width n]
theorem dRowsN_wide (bs : List Nat) (p width : Nat) : ∀ n, ∀ x ∈ (dRowsN bs p width n).1, x.length = width
  | 0 => by simp [dRowsN]
  | n + 1 => by
    intro x hx
    have ih := dRowsN_wide bs p width n
    rw [dRowsN, dStep] at hx
    split at hx
    · rename_i hc
      rcases List.mem_append.1 hx with h | h
      · exact ih x h
      · simp only [List.mem_singleton] at h
        have hj : nxt bs (dRowsN bs p width n).2 / 4 % (dRowsN bs p width n).1.length < (dRowsN bs p width n).1.length := Nat.mod_lt _ hc.2
        rw [h, List.length_map, List.getD_eq_getElem?_getD, List.getElem?_eq_getElem hj]
        exact ih _ (List.getElem_mem hj)
    · rcases List.mem_append.1 hx with h | h
      · exact ih x h
      · simp only [List.mem_singleton] at h
        rw [h, dRowN_length]
theorem OwnRow.blk {w w1 : World} {g n : Nat} {xs : List V2} (h : OwnRow w g n xs) (hs : w.heap.size ≤ w1.heap.size) (hb : w1.heap[g]? = w.heap[g]?) : OwnRow w1 g n xs :=
  ⟨Nat.lt_of_lt_of_le h.size hs, fun o => (World.frozen?_of_block hb).trans (h.frz o), fun o ho => by
    obtain ⟨v, hv⟩ := h.all o ho
    exact ⟨v, (World.cell?_of_block hb).trans hv⟩, fun i x hx => ⟨(World.cell?_of_block hb).trans (h.held i x hx).1, (World.cell?_of_block hb).trans (h.held i x hx).2⟩⟩
theorem RowsOk.blk {w w1 : World} {rs : List R3} (h : RowsOk w rs) (hs : w.heap.size ≤ w1.heap.size) (hb : ∀ r ∈ rs, w1.heap[r.1]? = w.heap[r.1]?) : RowsOk w1 rs := fun r hr => ⟨(h r hr).1.blk hs (hb r hr), (h r hr).2⟩
theorem OwnG.blk {w w1 : World} {B g cap : Nat} {bs : List R3} (h : OwnG w B g cap bs) (hb : w1.heap[g]? = w.heap[g]?) : OwnG w1 B g cap bs := by
  refine ⟨h.1, ?_⟩
  rcases h.2 with h1 | ⟨g', cap', cur, h1, h2, h3, h4⟩
  · exact Or.inl h1
  · have e : g' = g := by
      simp only [Value.slice.injEq, Option.some.injEq, Addr.mk.injEq, and_true, true_and] at h1
      exact h1.1.symm
    exact Or.inr ⟨g', cap', cur, h1, h2, by rw [e, hb, ← e]; exact h3, h4⟩
theorem RowsOk.drw {R : Nat} {w w1 : World} {rs : List R3} (h : RowsOk w rs) (hd : Drw R w w1) (hn : ∀ r ∈ rs, r.1 ≠ R) : RowsOk w1 rs := h.blk hd.size (fun r hr => hd.block _ (h r hr).1.size (hn r hr))
structure Gst (w wr : World) (R : Nat) (a : Option Addr) (cap : Nat) (bs : List Nat) (st : List (List V2) × Nat) (G co : Nat) (qs : List R3) : Prop where
  own : OwnG wr w.heap.size G co qs
  rows : RowsOk wr qs
  new : ∀ r ∈ qs, w.heap.size ≤ r.1 ∧ r.1 ≠ G
  vals : qs.map kR = st.1
  rd : Rd wr R a cap bs st.2
  drw : Drw R w wr
theorem Gst.len {w wr : World} {R : Nat} {a : Option Addr} {cap : Nat} {bs : List Nat} {st : List (List V2) × Nat} {G co : Nat} {qs : List R3} (h : Gst w wr R a cap bs st G co qs) : qs.length = st.1.length := by rw [← h.vals]; simp
theorem Gst.push {w wr w1 w2 : World} {R : Nat} {a : Option Addr} {cap : Nat} {bs : List Nat} {st : List (List V2) × Nat} {G co g1 c1 G2 c2 : Nat} {qs : List R3} {xs : List V2} {q : Nat} {o : Obj} (h : Gst w wr R a cap bs st G co qs) (hR : R < w.heap.size)
    (hd : Drw R wr w1) (hr : Rd w1 R a cap bs q) (hx : OwnRow w1 g1 xs.length xs) (hxc : xs.length ≤ c1) (hg1 : wr.heap.size ≤ g1)
    (hown : OwnG w2 w.heap.size G2 c2 (qs ++ [(g1, c1, xs)])) (hgrow : (w1.alloc o).grownBy w2 (some G)) (hat : G2 = G ∨ G2 = (w1.alloc o).heap.size) : Gst w w2 R a cap bs (st.1 ++ [xs], q) G2 c2 (qs ++ [(g1, c1, xs)]) := by
  have hG := h.own.lt
  have hs1 := hd.size
  have hra := hr.of (bA (Below.refl w1.heap.size w1) o)
  have hxs := hx.size
  have hal : ∀ b, b < w1.heap.size → (w1.alloc o).heap[b]? = w1.heap[b]? := fun b hb => (bA (Below.refl w1.heap.size w1) o).block b hb
  have hsz : (w1.alloc o).heap.size = w1.heap.size + 1 := by simp
  have hb2 : ∀ b, b < w1.heap.size → b ≠ G → w2.heap[b]? = w1.heap[b]? := fun b hb hn => (hgrow.block b (by omega) (by intro e; exact hn (Option.some.inj e))).trans (hal b hb)
  have hs2 := hgrow.size
  refine ⟨hown, fun r hr' => ?_, fun r hr' => ?_, by simp [h.vals], hra.grown hgrow (by omega), ((h.drw.trans hd).alloc (by omega) o).grown (g := G) hgrow (by omega) (by omega) (by omega)⟩
  · rcases List.mem_append.1 hr' with hm | hm
    · have hlt := (h.rows r hm).1.size
      have hne := (h.new r hm)
      refine ⟨(h.rows r hm).1.blk (by omega) ?_, (h.rows r hm).2⟩
      rw [hb2 r.1 (by omega) hne.2]
      exact hd.block r.1 hlt (by omega)
    · simp only [List.mem_singleton] at hm
      subst hm
      exact ⟨hx.blk (by omega) (hb2 g1 hxs (by omega)), hxc⟩
  · rcases List.mem_append.1 hr' with hm | hm
    · have hlt := (h.rows r hm).1.size
      have hne := (h.new r hm)
      exact ⟨hne.1, by rcases hat with e | e <;> omega⟩
    · simp only [List.mem_singleton] at hm
      subst hm
      exact ⟨by show w.heap.size ≤ g1; omega, by show g1 ≠ G2; rcases hat with e | e <;> omega⟩
end Go.Proofs.YtbbjhepagkkjeaaGreatDoor
namespace Go.Proofs.YtbbjhepagkkjeaaGreatDoor
open Go Go.RowKit
set_option maxRecDepth 100000 in
set_option maxHeartbeats 2000000 in
theorem l1DrawRows_calls (w : World) (R : Nat) (a : Option Addr) (cap : Nat) (bs : List Nat) (p n width : Nat) (h : Rd w R a cap bs p) (hn : n ≤ 1000) (hwd : width ≤ 1000) :
    Calls Tryz.prog 102 #[.pointer (some ⟨R, 0, none⟩), .int .i64 (n : Int), .int .i64 (width : Int)] w fun e w' => ∃ G co qs, e = .returned (.slice (some ⟨G, 0, none⟩) n co) ∧ Gst w w' R a cap bs (dRowsN bs p width n) G co qs := by
  have hR := h.size
  have HST : Hid (Gst w (w.alloc (.cells #[] 52)) R a cap bs ([], p) w.heap.size 0 []) := by
    refine ⟨?_, fun r hr => (by simp at hr), fun r hr => (by simp at hr), rfl, h.of (bA (Below.refl _ _) _), (Drw.refl R w).alloc (Nat.le_of_lt hR) _⟩
    exact ⟨rfl, Or.inr ⟨w.heap.size, 0, #[], rfl, Nat.le_refl _, (MapKept.heap_alloc w _).1, Nat.le_refl _, Nat.zero_le _, rfl, rfl⟩⟩
  clear h
  go_enter Tryz.func102, Tryz.ntmps102
  go_wp2
  go_loopw [7, 8] (fun s c wr => ∃ (k G co : Nat) (qs : List R3), k ≤ n ∧ c = .int .i64 k ∧ s = .slice (some ⟨G, 0, none⟩) k co ∧ Gst w wr R a cap bs (dRowsN bs p width k) G co qs) (fun _ c _ => n - (intOf c).toNat)
  case atStart => exact ⟨0, w.heap.size, 0, [], Nat.zero_le _, rfl, rfl, HST.out⟩
  case round =>
    clear HST
    obtain ⟨k, G, co, qs, hk, rfl, rfl, hS⟩ := hrel
    by_cases hlt : k < n
    · have j1 : (k : Int) < (n : Int) := by omega
      have hlk := dRowsN_length bs p width k
      have hst : dRowsN bs p width (k + 1) = dStep bs width (dRowsN bs p width k) := rfl
      have hqw : ∀ r ∈ qs, r.2.2.length = width := fun r hr => dRowsN_wide bs p width k _ (by rw [← hS.vals]; exact List.mem_map.2 ⟨r, hr, rfl⟩)
      generalize dRowsN bs p width k = st at *
      have NX := next_calls wr R a cap bs _ hS.rd
      have hkb := nxt_le hS.rd st.2
      have hql : qs.length = k := by rw [hS.len]; exact hlk
      unfold dStep at hst
      rw [hlk] at hst
      generalize nxt bs st.2 = K at *
      have HNX := hide NX; have HS := hide hS; have HQ := hide hql
      have hGl := hS.own.lt
      clear NX hS
      rw [hql] at hGl
      obtain ⟨i, hi, hz⟩ := Option.map_eq_some_iff.1 (show (Tryz.prog.info? 52).map (fun i => (i.zero, i.size, i.bytes)) = some (some (.slice none 0 0), 1, 24) by kernel_rfl)
      simp only [Prod.mk.injEq] at hz
      obtain ⟨hz0, hz1, hz2⟩ := hz
      by_cases c1 : K % 4 = 3 ∧ 0 < k
      · rw [if_pos c1] at hst
        obtain ⟨c1, c2⟩ := c1
        have i1 : ((K : Int) % 4 == 3) = true := by simp; omega
        have i2 : (0 : Int) < (k : Int) := by omega
        obtain ⟨j, hj⟩ : ∃ j, j = K / 4 % k := ⟨_, rfl⟩
        have hjk : j < k := by rw [hj]; exact Nat.mod_lt _ c2
        have i3 : (K : Int) / 4 % (k : Int) = (j : Int) := by rw [hj]; norm_cast
        rw [← hj] at hst
        have hjq : j < qs.length := by rw [hql]; exact hjk
        have hval : st.1.getD j [] = qs[j].2.2 := by rw [← (unhide HS).vals, List.getD_eq_getElem?_getD]; simp [hjq]
        rw [hval] at hst
        have hmem : qs[j] ∈ qs := List.getElem_mem hjq
        have hrow := (unhide HS).rows _ hmem
        have hrn := (unhide HS).new _ hmem
        have hrw := hqw _ hmem
        have hcell := (unhide HS).own.grid j qs[j] (by simp [hjq])
        generalize qs[j] = r at *
        obtain ⟨rg, rc, rx⟩ := r
        unfold rv at hcell
        simp only [Nat.zero_add] at hcell hrow hrn hrw hst
        have HST := hide hst; have HROW := hide hrow; have HRN := hide hrn
        have hrb : rx.length ≤ 1000 := by omega
        clear hst hj c1 hval hmem hrow hrn hrw hqw
        go_wp2_with fail
        refine (unhide HNX).mono ?_; rintro e w1 ⟨rfl, hr1, hd1⟩
        clear HNX
        have hcell1 : w1.cell? ⟨G, j, none⟩ = some (.slice (some ⟨rg, 0, none⟩) rx.length rc) := (hd1.cell j hGl.1 (by omega)).trans hcell
        have hro1 := (unhide HROW).1.drw hd1 (by have := (unhide HRN).1; omega)
        have LR := l1Row_calls rx rg 0 rc w1 hro1.size hro1.held (by omega)
        have HLR := hide LR
        have hgs1 : G < w1.heap.size := Nat.lt_of_lt_of_le hGl.1 hd1.size
        have hs01 := hd1.size
        have HD1 := hide hd1; have HR1 := hide hr1
        clear LR hcell hd1 hr1 hro1 HROW HRN
        go_wp2_with fail
        refine (unhide HLR).mono ?_; rintro e w2 ⟨g1, c1, rfl, ho1, hb1⟩
        have hg1 : wr.heap.size ≤ g1 := by have := ho1.lt.2.1; omega
        have HD2 := hide ((unhide HD1).below (by omega) hb1)
        have HR2 := hide ((unhide HR1).of hb1)
        have HX := hide ho1.ownRow
        have HXC := hide ho1.lt.2.2.1
        have hs12 := hb1.size
        have HOW : Hid ((w2.alloc (.cells #[.slice (some ⟨g1, 0, none⟩) rx.length c1] 52)).ownsRow w.heap.size 52 1 (.slice (some ⟨G, 0, none⟩) k co) k (qs.map rv)) := by
          have := (((unhide HS).own.blk ((unhide HD1).block G hGl.1 (by omega))).of hb1).of (bA (Below.refl w2.heap.size w2) (.cells #[.slice (some ⟨g1, 0, none⟩) rx.length c1] 52))
          unfold OwnG at this
          rw [unhide HQ] at this
          exact this
        clear HLR HD1 HR1 ho1 hb1 hcell1
        go_wp2_with (at_builtin; refine wpList_append_lies _ rfl (.tmp 26) (.tmp 36) 30 rfl w.heap.size 52 i _ 1 24 Tryz.underlying30 hi hz0 hz1 hz2 rfl (by decide) (.slice (some ⟨G, 0, none⟩) k co) k (qs.map rv) rfl (unhide HOW) ⟨w2.heap.size, 0, none⟩ 1 1 [.slice (some ⟨g1, 0, none⟩) rx.length c1] rfl rfl (World.news_of_block (w := (w2.alloc (.cells #[.slice (some ⟨g1, 0, none⟩) rx.length c1] 52))) (cs := #[.slice (some ⟨g1, 0, none⟩) rx.length c1]) (MapKept.heap_alloc w2 _).1) (by intro u hu; simp at hu; subst hu; rfl) (by decide) (by unfold maxLen; omega) (by omega) (by simp; omega) _ rfl ?_; intro G2 c2 w5 hown2 hgrow hat hlt2)
        have HNEW : Hid (Gst w w5 R a cap bs (dRowsN bs p width (k + 1)) G2 c2 (qs ++ [(g1, c1, rx.map clnV)])) := by
          show Gst _ _ _ _ _ _ _ _ _ _
          rw [unhide HST]
          refine (unhide HS).push hR (unhide HD2) (unhide HR2) (unhide HX) (unhide HXC) hg1 ?_ (o := .cells #[.slice (some ⟨g1, 0, none⟩) rx.length c1] 52) hgrow (by rcases hat with e | e; exact Or.inl (Option.some.inj e).symm; exact Or.inr e)
          unfold OwnG
          rw [show (qs ++ [(g1, c1, rx.map clnV)]).length = k + 1 by simp; exact unhide HQ, List.map_append]
          have hrv : rv (g1, c1, rx.map clnV) = .slice (some ⟨g1, 0, none⟩) rx.length c1 := by simp [rv]
          rw [List.map_cons, List.map_nil, hrv]
          exact hown2
        clear hown2 hgrow hat HOW HS HD2 HR2 HX HXC HST
        go_wp2
        go_roundw
        case rel => exact ⟨k + 1, G2, c2, _, by omega, by go_num, rfl, HNEW.out⟩
        case measure => simp [intOf]; omega
      · rw [if_neg c1] at hst
        have HST := hide hst
        clear hst
        have i1 : ((K : Int) % 4 == 3) = false ∨ (((K : Int) % 4 == 3) = true ∧ k = 0) := by
          by_cases e : K % 4 = 3
          · exact Or.inr ⟨by simp; omega, by omega⟩
          · exact Or.inl (by simp; omega)
        have hnot : ∀ z : Nat, ¬ (z : Int) < 0 := fun z => by omega
        clear c1
        rcases i1 with i1 | ⟨i1, i2⟩
        · clear hnot
          go_wp2_with fail
          refine (unhide HNX).mono ?_; rintro e w1 ⟨rfl, hr1, hd1⟩
          clear HNX
          have LR := l1DrawRow_calls w1 R a cap bs _ width hr1 hwd
          have HLR := hide LR
          have hs01 := hd1.size
          have HD1 := hide hd1
          clear LR hd1 hr1
          go_wp2_with fail
          refine (unhide HLR).mono ?_; rintro e w2 ⟨⟨g1, c1, rfl, ho1⟩, hr2, hd2⟩
          have hg1 : wr.heap.size ≤ g1 := by have := ho1.lt.2.1; omega
          have HD2 := hide ((unhide HD1).trans hd2)
          have HR2 := hide hr2
          have hxl := dRowN_length bs (adv bs st.2) width
          have HX := hide ho1.ownRow
          have HXC := hide ho1.lt.2.2.1
          have hs12 := hd2.size
          have HOW : Hid ((w2.alloc (.cells #[.slice (some ⟨g1, 0, none⟩) width c1] 52)).ownsRow w.heap.size 52 1 (.slice (some ⟨G, 0, none⟩) k co) k (qs.map rv)) := by
            have := (((unhide HS).own.blk ((unhide HD2).block G hGl.1 (by omega)))).of (bA (Below.refl w2.heap.size w2) (.cells #[.slice (some ⟨g1, 0, none⟩) width c1] 52))
            unfold OwnG at this
            rw [unhide HQ] at this
            exact this
          clear HLR HD1 hr2 hd2 ho1
          generalize (dRowN bs (adv bs st.2) width).1 = xs at *
          have HXL := hide hxl
          clear hxl
          go_wp2_with (at_builtin; refine wpList_append_lies _ rfl (.tmp 38) (.tmp 42) 30 rfl w.heap.size 52 i _ 1 24 Tryz.underlying30 hi hz0 hz1 hz2 rfl (by decide) (.slice (some ⟨G, 0, none⟩) k co) k (qs.map rv) rfl (unhide HOW) ⟨w2.heap.size, 0, none⟩ 1 1 [.slice (some ⟨g1, 0, none⟩) width c1] rfl rfl (World.news_of_block (w := (w2.alloc (.cells #[.slice (some ⟨g1, 0, none⟩) width c1] 52))) (cs := #[.slice (some ⟨g1, 0, none⟩) width c1]) (MapKept.heap_alloc w2 _).1) (by intro u hu; simp at hu; subst hu; rfl) (by decide) (by unfold maxLen; omega) (by omega) (by simp; omega) _ rfl ?_; intro G2 c2 w5 hown2 hgrow hat hlt2)
          have HNEW : Hid (Gst w w5 R a cap bs (dRowsN bs p width (k + 1)) G2 c2 (qs ++ [(g1, c1, xs)])) := by
            show Gst _ _ _ _ _ _ _ _ _ _
            rw [unhide HST]
            refine (unhide HS).push hR (unhide HD2) (unhide HR2) (unhide HX) (unhide HXC) hg1 ?_ (o := .cells #[.slice (some ⟨g1, 0, none⟩) width c1] 52) hgrow (by rcases hat with e | e; exact Or.inl (Option.some.inj e).symm; exact Or.inr e)
            unfold OwnG
            rw [show (qs ++ [(g1, c1, xs)]).length = k + 1 by simp; exact unhide HQ, List.map_append]
            have hrv : rv (g1, c1, xs) = .slice (some ⟨g1, 0, none⟩) width c1 := by simp [rv, unhide HXL]
            rw [List.map_cons, List.map_nil, hrv]
            exact hown2
          clear hown2 hgrow hat HOW HS HD2 HR2 HX HXC HST
          go_wp2
          go_roundw
          case rel => exact ⟨k + 1, G2, c2, _, by omega, by go_num, rfl, HNEW.out⟩
          case measure => simp [intOf]; omega
        · have i3 : ¬ (0 : Int) < (k : Int) := by omega
          have i4 : decide ((0 : Int) < (k : Int)) = false := by simp; omega
          clear i2 hnot
          go_wp2_with fail
          refine (unhide HNX).mono ?_; rintro e w1 ⟨rfl, hr1, hd1⟩
          clear HNX
          have LR := l1DrawRow_calls w1 R a cap bs _ width hr1 hwd
          have HLR := hide LR
          have hs01 := hd1.size
          have HD1 := hide hd1
          clear LR hd1 hr1
          go_wp2_with fail
          refine (unhide HLR).mono ?_; rintro e w2 ⟨⟨g1, c1, rfl, ho1⟩, hr2, hd2⟩
          have hg1 : wr.heap.size ≤ g1 := by have := ho1.lt.2.1; omega
          have HD2 := hide ((unhide HD1).trans hd2)
          have HR2 := hide hr2
          have hxl := dRowN_length bs (adv bs st.2) width
          have HX := hide ho1.ownRow
          have HXC := hide ho1.lt.2.2.1
          have hs12 := hd2.size
          have HOW : Hid ((w2.alloc (.cells #[.slice (some ⟨g1, 0, none⟩) width c1] 52)).ownsRow w.heap.size 52 1 (.slice (some ⟨G, 0, none⟩) k co) k (qs.map rv)) := by
            have := (((unhide HS).own.blk ((unhide HD2).block G hGl.1 (by omega)))).of (bA (Below.refl w2.heap.size w2) (.cells #[.slice (some ⟨g1, 0, none⟩) width c1] 52))
            unfold OwnG at this
            rw [unhide HQ] at this
            exact this
          clear HLR HD1 hr2 hd2 ho1
          generalize (dRowN bs (adv bs st.2) width).1 = xs at *
          have HXL := hide hxl
          clear hxl
          go_wp2_with (at_builtin; refine wpList_append_lies _ rfl (.tmp 38) (.tmp 42) 30 rfl w.heap.size 52 i _ 1 24 Tryz.underlying30 hi hz0 hz1 hz2 rfl (by decide) (.slice (some ⟨G, 0, none⟩) k co) k (qs.map rv) rfl (unhide HOW) ⟨w2.heap.size, 0, none⟩ 1 1 [.slice (some ⟨g1, 0, none⟩) width c1] rfl rfl (World.news_of_block (w := (w2.alloc (.cells #[.slice (some ⟨g1, 0, none⟩) width c1] 52))) (cs := #[.slice (some ⟨g1, 0, none⟩) width c1]) (MapKept.heap_alloc w2 _).1) (by intro u hu; simp at hu; subst hu; rfl) (by decide) (by unfold maxLen; omega) (by omega) (by simp; omega) _ rfl ?_; intro G2 c2 w5 hown2 hgrow hat hlt2)
          have HNEW : Hid (Gst w w5 R a cap bs (dRowsN bs p width (k + 1)) G2 c2 (qs ++ [(g1, c1, xs)])) := by
            show Gst _ _ _ _ _ _ _ _ _ _
            rw [unhide HST]
            refine (unhide HS).push hR (unhide HD2) (unhide HR2) (unhide HX) (unhide HXC) hg1 ?_ (o := .cells #[.slice (some ⟨g1, 0, none⟩) width c1] 52) hgrow (by rcases hat with e | e; exact Or.inl (Option.some.inj e).symm; exact Or.inr e)
            unfold OwnG
            rw [show (qs ++ [(g1, c1, xs)]).length = k + 1 by simp; exact unhide HQ, List.map_append]
            have hrv : rv (g1, c1, xs) = .slice (some ⟨g1, 0, none⟩) width c1 := by simp [rv, unhide HXL]
            rw [List.map_cons, List.map_nil, hrv]
            exact hown2
          clear hown2 hgrow hat HOW HS HD2 HR2 HX HXC HST
          go_wp2
          go_roundw
          case rel => exact ⟨k + 1, G2, c2, _, by omega, by go_num, rfl, HNEW.out⟩
          case measure => simp [intOf]; omega
    · obtain rfl : k = n := by omega
      go_wp2
      go_ret
      exact ⟨_, _, _, rfl, hS⟩
end Go.Proofs.YtbbjhepagkkjeaaGreatDoor
