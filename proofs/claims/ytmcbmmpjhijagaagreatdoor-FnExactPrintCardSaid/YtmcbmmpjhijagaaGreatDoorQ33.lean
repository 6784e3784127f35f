import Derived.Test.YtmcbmmpjhijagaaGreatDoorQ32
import Derived.OneCell
import Derived.OwnWalk
import Derived.Test.YtmcbmmpjhijagaaGreatDoorQ6
namespace Go.Proofs.YtmcbmmpjhijagaaGreatDoor
open Go Go.RowKit
theorem make_ints (n : Nat) (hn : n ≤ 1048576) (w : World) :
    (Instr.makeSlice 47 (.int .i64 (n : Int)) (.int .i64 (n : Int))).run Tryz.prog w = .ok (.slice (some ⟨w.heap.size, 0, none⟩) n n) (w.alloc (.cells (madeCells #[.int .i64 0] n) 3)) := by
  obtain ⟨i, hi, hz⟩ := Option.map_eq_some_iff.1 (show (Tryz.prog.info? 3).map (fun i => (i.zero, i.size, i.bytes)) = some (some (.int .i64 0), 1, 8) by kernel_rfl)
  simp only [Prod.mk.injEq] at hz
  have := run_make (P := Tryz.prog) w 47 3 i _ Tryz.underlying47 hi hz.1 .i64 .i64 (n : Int) (n : Int) (by omega) (by omega) (by rw [hz.2.2]; omega) (by omega)
  rw [hz.2.1] at this
  simpa [Value.cells] using this
theorem make_ints0 (w : World) : (Instr.makeSlice 47 (.int .i64 0) (.int .i64 0)).run Tryz.prog w = .ok (.slice (some ⟨w.heap.size, 0, none⟩) 0 0) (w.alloc (.cells #[] 3)) := by
  have := make_ints 0 (by omega) w
  rw [show madeCells #[.int .i64 0] 0 = #[] from Array.eq_empty_of_size_eq_zero (by simp [size_madeCells])] at this
  simpa using this
theorem OwnInts.set {w : World} {g n : Nat} {xs : List Int} (h : OwnInts w g n xs) (i : Nat) (hi : i < xs.length) (hn : i < n) (v : Int) : OwnInts (w.setCell ⟨g, i, none⟩ (.int .i64 v)) g n (xs.set i v) := by
  refine ⟨by simpa using h.size, fun o => by rw [frozen_setCellN]; exact h.frz o, fun o ho => ?_, fun j x hx => ?_⟩
  · obtain ⟨v, hv⟩ := h.all o ho
    exact setCell_thereN hv
  · simp only [Nat.zero_add]
    by_cases e : i = j
    · subst e
      rw [List.getElem?_set_self hi] at hx
      injection hx with hx
      subst hx
      obtain ⟨v0, h0⟩ := h.all i hn
      exact World.cell?_setCell_same _ _ _ h0
    · rw [List.getElem?_set_ne e] at hx
      rw [setCell_otherN e]
      have := h.held j x hx
      simpa using this
theorem madeInts (w : World) (n : Nat) (t : TypeId) : OwnInts (w.alloc (.cells (madeCells #[.int .i64 0] n) t)) w.heap.size n (List.replicate n 0) := by
  have h := OwnInts.made w n (madeCells #[.int .i64 0] n) t (by simp [size_madeCells])
  refine ⟨h.size, h.frz, h.all, fun i x hx => ?_⟩
  obtain ⟨hi, rfl⟩ := List.getElem?_eq_some_iff.1 hx
  simp at hi
  simp only [Nat.zero_add, List.getElem_replicate]
  rw [World.cell?_alloc_at _ t _ i rfl]
  rw [← Array.getElem?_toList, toList_madeCells_one]
  simp [hi]
def dl (ns : List Nd) (n k : Nat) : List Int := depTo ns k ++ List.replicate (n - k) 0
theorem dl_length (ns : List Nd) (n k : Nat) (h : k ≤ n) : (dl ns n k).length = n := by simp [dl, depTo_length]; omega
theorem dl_low (ns : List Nd) (n k p : Nat) (h : p < k) (v : Int) : ((dl ns n k).set k v)[p]? = some ((depTo ns k).getD p 0) := by
  rw [List.getElem?_set_ne (by omega)]
  unfold dl
  rw [List.getElem?_append_left (by rw [depTo_length]; exact h), List.getD_eq_getElem?_getD, List.getElem?_eq_getElem (by rw [depTo_length]; exact h)]
  rfl
theorem dl_mid (ns : List Nd) (n k : Nat) (h : k < n) (v : Int) : ((dl ns n k).set k v)[k]? = some v := List.getElem?_set_self (by rw [dl_length _ _ _ (by omega)]; exact h)
theorem dl_zero (ns : List Nd) (n k : Nat) (h : k < n) : (dl ns n k).set k 0 = dl ns n k := by
  apply List.ext_getElem?
  intro i
  by_cases e : k = i
  · subst e
    rw [dl_mid _ _ _ h]
    unfold dl
    rw [List.getElem?_append_right (by rw [depTo_length]; exact Nat.le_refl _), depTo_length, Nat.sub_self, List.getElem?_replicate, if_pos (by omega)]
  · rw [List.getElem?_set_ne e]
theorem dl_next (ns : List Nd) (n k : Nat) (h : k < n) : (dl ns n k).set k (dep ns k) = dl ns n (k + 1) := by
  unfold dl
  rw [List.set_append_right _ _ (by rw [depTo_length]; exact Nat.le_refl _), depTo_length, Nat.sub_self, show n - k = (n - (k + 1)) + 1 by omega, List.replicate_succ, List.set_cons_zero, depTo]
  simp [dep]
structure Fr (wi w : World) (s g len cap b6 : Nat) (n : Nd) (kg : Nat) (v : Value) (L : List Int) : Prop where
  ba : wi.cell? ⟨w.heap.size, 0, none⟩ = some (.slice (some ⟨g, 0, none⟩) len cap)
  n0 : wi.cell? ⟨b6, 0, none⟩ = some (.int .i64 n.K)
  n1 : wi.cell? ⟨b6, 1, none⟩ = some (.int .i64 n.N)
  n2 : wi.cell? ⟨b6, 2, none⟩ = some (.int .i64 n.M)
  n3 : wi.cell? ⟨b6, 3, none⟩ = some (.string n.S)
  n4 : wi.cell? ⟨b6, 4, none⟩ = some (.string n.T)
  n5 : wi.cell? ⟨b6, 5, none⟩ = some (.slice (some ⟨kg, 0, none⟩) n.Kids.length n.Kids.length)
  sz : b6 < wi.heap.size
  sa : w.heap.size < wi.heap.size
  own : wi.ownsRow s 3 1 v L.length (vInts L)
  below : Below w.heap.size w wi
theorem own_below {w w1 : World} {s n : Nat} {v : Value} {xs : List Value} {t : TypeId} (h : w.ownsRow s t 1 v n xs) (hb : Below w.heap.size w w1) : w1.ownsRow s t 1 v n xs := by
  refine ⟨h.1, ?_⟩
  rcases h.2 with h1 | ⟨g', cap', cur, h1, h2, h3, h4⟩
  · exact Or.inl h1
  · exact Or.inr ⟨g', cap', cur, h1, h2, by rw [hb.block g' (Array.getElem?_eq_some_iff.1 h3).1]; exact h3, h4⟩
theorem own_lt {w : World} {s n : Nat} {v : Value} {xs : List Value} {t : TypeId} (h : w.ownsRow s t 1 v n xs) : ∀ b, v.ownBlock = some b → s ≤ b ∧ b < w.heap.size := by
  intro b hb
  rcases h.2 with ⟨h1, _⟩ | ⟨g', cap', cur, h1, h2, h3, h4⟩
  · subst h1; simp [Value.ownBlock] at hb
  · subst h1
    simp [Value.ownBlock] at hb
    subst hb
    exact ⟨h2, (Array.getElem?_eq_some_iff.1 h3).1⟩
theorem Fr.of {wi w w1 : World} {s g len cap b6 : Nat} {n : Nd} {kg : Nat} {v : Value} {L : List Int} (h : Fr wi w s g len cap b6 n kg v L) (hb : Below wi.heap.size wi w1) : Fr w1 w s g len cap b6 n kg v L :=
  ⟨(hb.cell (p := ⟨w.heap.size, 0, none⟩) h.sa).trans h.ba, (hb.cell (p := ⟨b6, 0, none⟩) h.sz).trans h.n0, (hb.cell (p := ⟨b6, 1, none⟩) h.sz).trans h.n1, (hb.cell (p := ⟨b6, 2, none⟩) h.sz).trans h.n2,
    (hb.cell (p := ⟨b6, 3, none⟩) h.sz).trans h.n3, (hb.cell (p := ⟨b6, 4, none⟩) h.sz).trans h.n4, (hb.cell (p := ⟨b6, 5, none⟩) h.sz).trans h.n5, Nat.lt_of_lt_of_le h.sz hb.size, Nat.lt_of_lt_of_le h.sa hb.size, own_below h.own hb, bT h.below hb⟩
theorem Fr.set {wi w : World} {s g len cap b6 : Nat} {n : Nd} {kg : Nat} {v : Value} {L : List Int} (h : Fr wi w s g len cap b6 n kg v L) {X O : Nat} (h1 : w.heap.size < X) (h2 : X ≠ b6) (h3 : v.ownBlock ≠ some X) (u : Value) :
    Fr (wi.setCell ⟨X, O, none⟩ u) w s g len cap b6 n kg v L :=
  ⟨by rw [setCell_farN (by omega)]; exact h.ba, by rw [setCell_farN h2]; exact h.n0, by rw [setCell_farN h2]; exact h.n1, by rw [setCell_farN h2]; exact h.n2, by rw [setCell_farN h2]; exact h.n3,
    by rw [setCell_farN h2]; exact h.n4, by rw [setCell_farN h2]; exact h.n5, by simpa using h.sz, by simpa using h.sa, ownsRow_setCell_other h.own h3 u, h.below.setCell (Nat.le_of_lt h1) u⟩
theorem iv_step {ns : List Nd} (h : IV ns) {k : Nat} (hk : k < ns.length) {L : List Int} (hs : Seg ns 0 k L) :
    Flds ns[k] ∧ (ns[k]).Kids.length ≤ L.length ∧ (ns[k]).Kids = L.drop (L.length - (ns[k]).Kids.length) ∧ dep ns k ≤ 200 ∧ KidsI (ns[k]).K (ns[k]).N (kindsOf ns (ns[k]).Kids) := by
  obtain ⟨h1, h2⟩ := h.fit k ns[k] (List.getElem?_eq_getElem hk)
  obtain ⟨L', hL'⟩ := h.seg.prefix (k + 1) (by omega) (by omega)
  obtain ⟨h3, h4⟩ := hs.stuck hL'
  rw [kidsAt_some (List.getElem?_eq_getElem hk)] at h3 h4
  exact ⟨h1, h3, h4.symm, h.deep k hk, h2⟩
theorem iv_end {ns : List Nd} {L : List Int} (h1 : 1 ≤ ns.length) (h2 : ns.length ≤ 10000) (hs : Seg ns 0 ns.length L) (hf : ∀ (i : Nat) (hi : i < ns.length), FitI ns[i] (kindsOf ns (ns[i]).Kids)) (hd : ∀ i, i < ns.length → dep ns i ≤ 200) :
    IV ns ↔ (L.length = 1 ∧ quB (kindAt ns (ns.length - 1)) = true) := by
  constructor
  · intro h
    have := hs.uniqK _ h.seg
    exact ⟨by rw [← this]; rfl, h.top⟩
  · intro ⟨h3, h4⟩
    refine ⟨h1, h2, ?_, fun i n hn => ?_, hd, h4⟩
    · obtain ⟨A, hA⟩ := Seg.last (k := ns.length - 1) (by rw [show ns.length - 1 + 1 = ns.length by omega]; exact hs)
      have : A = [] := by
        rw [hA] at h3
        simp at h3
        exact h3
      rw [hA, this] at hs
      exact hs
    · obtain ⟨hi, rfl⟩ := List.getElem?_eq_some_iff.1 hn
      exact hf i hi
end Go.Proofs.YtmcbmmpjhijagaaGreatDoor
namespace Go.Proofs.YtmcbmmpjhijagaaGreatDoor
open Go Go.RowKit
theorem mkS_add (P : Program) (w : World) (l : List UInt8) (c : UInt8) (h : l.length ≤ 1048576) : (Op.stringOp .add (mkS l) ⟨#[c]⟩).run P w = .ok (.string (mkS (l ++ [c]))) w := by
  have := run_string_add_lists (P := P) w l [c] (by omega) (by simp)
  exact this
def KidsIn (ns : List Nd) (ks : List Int) : Prop := ∀ x ∈ ks, 0 ≤ x ∧ x < (ns.length : Int)
theorem kindsOf_take (ns : List Nd) (ks : List Int) (k : Nat) (hk : k < ks.length) : ((kindsOf ns ks).map ltr).take (k + 1) = ((kindsOf ns ks).map ltr).take k ++ [ltr (kindAt ns (ks[k]).toNat)] := by
  have hl : k < ((kindsOf ns ks).map ltr).length := by simp [kindsOf, hk]
  rw [take_snocN _ k hl]
  simp [kindsOf]
set_option maxHeartbeats 2000000 in
theorem kinds_calls (ns : List Nd) (g cap i : Nat) (w : World) (hg : g < w.heap.size) (hn : NodesAt w g 0 ns) (_ : ns.length ≤ 10000) (hi : i < ns.length) (hk : KidsIn ns (ns[i]).Kids) (hkl : (ns[i]).Kids.length ≤ 10000) :
    Calls Tryz.prog 51 #[.slice (some ⟨g, 0, none⟩) ns.length cap, .int .i64 (i : Int)] w fun e w' => e = .returned (.string (mkS ((kindsOf ns (ns[i]).Kids).map ltr))) ∧ w' = w := by
  obtain ⟨⟨_, _, _, _, _⟩, kg, c5, _, hkg, hks⟩ := hn.at i hi
  generalize (ns[i]).Kids = ks at *
  have j0 : (i : Int) < (ns.length : Int) := by omega
  have hlen : ((kindsOf ns ks).map ltr).length = ks.length := by simp [kindsOf]
  have htk := kindsOf_take ns ks
  have HK := hide hk; have HT := hide htk; have HN := hide hn; have HS := hide hks; have HLn := hide hlen
  clear hk htk hn hks hlen
  simp only [Nat.zero_add] at c5
  go_enter Tryz.func51, Tryz.ntmps51
  go_wp2
  go_loopw [5, 6, 7] (fun o c _ wr => ∃ k : Nat, k ≤ ks.length ∧ c = .int .i64 k ∧ o = .string (mkS (((kindsOf ns ks).map ltr).take k)) ∧ wr = w) (fun _ c _ _ => ks.length - (intOf c).toNat)
  case atStart => exact ⟨0, Nat.zero_le _, rfl, rfl, rfl⟩
  case round =>
    obtain ⟨k, hk, rfl, rfl, rfl⟩ := hrel
    by_cases hlt : k < ks.length
    · have j1 : (k : Int) < (ks.length : Int) := by omega
      have e0 := (unhide HS).at k hlt
      obtain ⟨p, hp⟩ := Int.eq_ofNat_of_zero_le ((unhide HK) ks[k] (List.getElem_mem hlt)).1
      have hpl : p < ns.length := by have := ((unhide HK) ks[k] (List.getElem_mem hlt)).2; omega
      obtain ⟨⟨d0, _, _, _, _⟩, _⟩ := (unhide HN).at p hpl
      have j2 : (p : Int) < (ns.length : Int) := by omega
      have ht := unhide HT k hlt
      rw [hp] at ht
      rw [show ((p : Int)).toNat = p by simp, kindAt_some (List.getElem?_eq_getElem hpl)] at ht
      rw [hp] at e0
      simp only [Nat.zero_add] at e0 d0
      generalize (ns[p]).K = K at *
      have hll : (((kindsOf ns ks).map ltr).take k).length ≤ 1048576 := by have := unhide HLn; simp at this ⊢; omega
      have SC := fun w => sIsScalar_calls K w
      have QC := fun w => sIsQuery_calls K w
      have A1 := fun w => mkS_add Tryz.prog w (((kindsOf ns ks).map ltr).take k) 115 hll
      have A2 := fun w => mkS_add Tryz.prog w (((kindsOf ns ks).map ltr).take k) 102 hll
      have A3 := fun w => mkS_add Tryz.prog w (((kindsOf ns ks).map ltr).take k) 113 hll
      have A4 := fun w => mkS_add Tryz.prog w (((kindsOf ns ks).map ltr).take k) 99 hll
      have HTk := hide ht
      clear ht hll
      generalize ((kindsOf ns ks).map ltr).take k = l at *
      have HL : Hid (ltr K = if scB K then 115 else if K = 5 then 102 else if quB K then 113 else 99) := rfl
      generalize scB K = b1 at *
      generalize quB K = b2 at *
      have HSC := hide SC; have HQC := hide QC
      clear SC QC hp
      cases b1
      · cases h5 : (K == 5)
        · have h5' : ¬ K = 5 := by simpa using h5
          cases b2
          · have HX : Hid (mkS (l ++ [99]) = mkS (((kindsOf ns ks).map ltr).take (k + 1))) := by show _ = _; rw [unhide HTk, HL.out]; simp [h5']
            clear HL HTk h5'
            go_wp2_with fail
            refine (unhide HSC _).mono ?_; rintro e w1 ⟨rfl, rfl⟩
            go_wp2_with fail
            refine (unhide HQC _).mono ?_; rintro e w1 ⟨rfl, rfl⟩
            go_wp2
            go_roundw
            case rel => exact ⟨k + 1, by omega, by go_num, by rw [← HX.out], by first | rfl | trivial⟩
            case measure => simp [intOf]; omega
          · have HX : Hid (mkS (l ++ [113]) = mkS (((kindsOf ns ks).map ltr).take (k + 1))) := by show _ = _; rw [unhide HTk, HL.out]; simp [h5']
            clear HL HTk h5'
            go_wp2_with fail
            refine (unhide HSC _).mono ?_; rintro e w1 ⟨rfl, rfl⟩
            go_wp2_with fail
            refine (unhide HQC _).mono ?_; rintro e w1 ⟨rfl, rfl⟩
            go_wp2
            go_roundw
            case rel => exact ⟨k + 1, by omega, by go_num, by rw [← HX.out], by first | rfl | trivial⟩
            case measure => simp [intOf]; omega
        · have h5' : K = 5 := by simpa using h5
          have HX : Hid (mkS (l ++ [102]) = mkS (((kindsOf ns ks).map ltr).take (k + 1))) := by show _ = _; rw [unhide HTk, HL.out]; simp [h5']
          clear HL HTk h5'
          go_wp2_with fail
          refine (unhide HSC _).mono ?_; rintro e w1 ⟨rfl, rfl⟩
          go_wp2
          go_roundw
          case rel => exact ⟨k + 1, by omega, by go_num, by rw [← HX.out], by first | rfl | trivial⟩
          case measure => simp [intOf]; omega
      · have HX : Hid (mkS (l ++ [115]) = mkS (((kindsOf ns ks).map ltr).take (k + 1))) := by show _ = _; rw [unhide HTk, HL.out]; simp
        clear HL HTk
        go_wp2_with fail
        refine (unhide HSC _).mono ?_; rintro e w1 ⟨rfl, rfl⟩
        go_wp2
        go_roundw
        case rel => exact ⟨k + 1, by omega, by go_num, by rw [← HX.out], by first | rfl | trivial⟩
        case measure => simp [intOf]; omega
    · obtain rfl : k = ks.length := by omega
      have HE : Hid (mkS (((kindsOf ns ks).map ltr).take ks.length) = mkS ((kindsOf ns ks).map ltr)) := by show _ = _; rw [List.take_of_length_le (by rw [unhide HLn]; exact Nat.le_refl _)]
      generalize mkS (((kindsOf ns ks).map ltr).take ks.length) = z at *
      go_wp2
      go_ret
      exact ⟨congrArg (fun z => Ending.returned (.string z)) HE.out, rfl⟩
end Go.Proofs.YtmcbmmpjhijagaaGreatDoor
