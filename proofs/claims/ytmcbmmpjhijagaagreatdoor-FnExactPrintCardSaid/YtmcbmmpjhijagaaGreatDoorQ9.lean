import Derived.Test.YtmcbmmpjhijagaaGreatDoorQ8
import Derived.Test.YtmcbmmpjhijagaaGreatDoorQ7
namespace Go.Proofs.YtmcbmmpjhijagaaGreatDoor
open Go Go.RowKit
theorem l2Dec_nat : ∀ (u : Nat), u ≤ 9223372036854775807 → ∀ w : World, Calls Tryz.prog 24 #[.int .i64 (u : Int)] w fun e w' => e = .returned (.string (mkS (Lib.decDigits u))) ∧ Below w.heap.size w w' := by
  intro u
  induction u using Nat.strongRecOn with
  | _ u ih =>
    intro hm w
    by_cases h : u < 10
    · exact l2Dec_small u h w
    · exact l2Dec_big u (u % 10) (by omega) hm rfl w (fun W => ih (u / 10) (by omega) (by omega) W)
set_option maxRecDepth 100000 in
set_option maxHeartbeats 2000000 in
theorem l2Dec_calls (n : Int) (h0 : -9223372036854775808 < n) (h1 : n ≤ 9223372036854775807) (w : World) : Calls Tryz.prog 24 #[.int .i64 n] w fun e w' => e = .returned (.string (mkS (Lib.itoa n))) ∧ Below w.heap.size w w' := by
  by_cases hn : n < 0
  · obtain ⟨u, hu⟩ : ∃ u : Nat, -n = (u : Int) := ⟨n.natAbs, by omega⟩
    have e0 : Lib.itoa n = 45 :: Lib.decDigits u := by
      unfold Lib.itoa
      rw [if_pos hn]
      congr 2
      omega
    rw [e0]
    have IH := hide (fun W => l2Dec_nat u (by omega) W)
    have hdl : (Lib.decDigits u).length ≤ 100 := by
      rw [Lib.decDigits_length]
      have := nDig_le 19 u (by omega)
      omega
    have A1 : ∀ w, (Op.stringOp .add ⟨#[45]⟩ (mkS (Lib.decDigits u))).run Tryz.prog w = .ok (.string (mkS (45 :: Lib.decDigits u))) w := fun w => cat_is Tryz.prog w [45] (Lib.decDigits u) (by simp; omega)
    have hw1 : IntKind.i64.wrap (-n) = (u : Int) := by rw [IntKind.wrap_i64]; omega
    have hn1 : ¬ n = -9223372036854775808 := by omega
    clear e0 hdl hu
    generalize Lib.decDigits u = l at *
    go_enter Tryz.func24, Tryz.ntmps24
    go_wp2_with fail
    refine (unhide IH _).mono ?_
    rintro e w1 ⟨rfl, hb⟩
    have HB := hide hb
    clear hb
    go_wp2
    go_returns
    exact ⟨rfl, unhide HB⟩
  · obtain ⟨u, rfl⟩ : ∃ u : Nat, n = (u : Int) := ⟨n.toNat, by omega⟩
    have e0 : Lib.itoa (u : Int) = Lib.decDigits u := by
      unfold Lib.itoa
      rw [if_neg hn]
      simp
    rw [e0]
    exact l2Dec_nat u (by omega) w
end Go.Proofs.YtmcbmmpjhijagaaGreatDoor
namespace Go.Proofs.YtmcbmmpjhijagaaGreatDoor
open Go Go.RowKit
theorem strs_one (xs : List (List UInt8)) : ∀ u ∈ strs xs, u.oneCell' = true := fun u hu => by
  obtain ⟨x, _, rfl⟩ := List.mem_map.1 hu
  rfl
theorem add_cells {w : World} {g o : Nat} {vs : List Value} (h : ∀ (j : Nat) u, vs[j]? = some u → w.cell? ⟨g, o + j, none⟩ = some u) : ∀ (j : Nat) u, vs[j]? = some u → w.cell? ((⟨g, o, none⟩ : Addr).add j) = some u := fun j u hj => by
  have := h j u hj
  by_cases h0 : j = 0
  · subst h0; simpa [Addr.add] using this
  · simpa [Addr.add, h0] using this
set_option maxRecDepth 100000 in
set_option maxHeartbeats 2000000 in
theorem say_calls (p B gb ob cb : Nat) (G : Option Nat) (ws xs : List (List UInt8)) (w : World) (hP : PB w p B G ws) (hx : ∀ (j : Nat) u, (strs xs)[j]? = some u → w.cell? ⟨gb, ob + j, none⟩ = some u) (hm : 0 < xs.length) (hl : ws.length + xs.length ≤ 100000000) :
    Calls Tryz.prog 34 #[.pointer (some ⟨p, 0, none⟩), .slice (some ⟨gb, ob, none⟩) xs.length cb] w fun e w' => e = .returned (.tuple #[]) ∧ ∃ Gn, PN p B w w' G Gn (ws ++ xs) := by
  obtain ⟨i, hi, hz⟩ := Option.map_eq_some_iff.1 (show (Tryz.prog.info? 9).map (fun i => (i.zero, i.size, i.bytes)) = some (some (.string ByteArray.empty), 1, 16) by kernel_rfl)
  simp only [Prod.mk.injEq] at hz
  obtain ⟨hz0, hz1, hz2⟩ := hz
  obtain ⟨v, hc, ho, hG⟩ := hP.box
  have hlow := hP.low
  have hsz := hP.sz
  have hfz := hP.frz
  have hplt : p < w.heap.size := by omega
  have hvb : v.ownBlock ≠ some p := by
    intro e
    have := (ho.lt p e).1
    omega
  have HA := hide (add_cells hx)
  have HO := hide ho
  have HP := hide hP
  clear hx ho hP
  go_enter Tryz.func34, Tryz.ntmps34
  go_wp2_with (at_builtin; refine wpList_append_lies _ rfl (.tmp 8) (.tmp 9) 37 rfl B 9 i _ 1 16 Tryz.underlying37 hi hz0 hz1 hz2 rfl (by decide) v ws.length (strs ws) rfl (unhide HO) ⟨gb, ob, none⟩ xs.length cb (strs xs) rfl (by rw [strs_len, Nat.mul_one]) (unhide HA) (strs_one xs) hm (by unfold maxLen; omega) (by omega) hsz _ rfl ?_; intro g2 c2 w2 hown2 hgrow hat hlt2; have cc := (World.cell?_of_block (a := ⟨p, 0, none⟩) (hgrow.block p hplt (fun e => hvb e.symm))).trans hc; have ff := (World.frozen?_of_block (a := ⟨p, 0, none⟩) (hgrow.block p hplt (fun e => hvb e.symm))).trans hfz)
  go_end0
  have hg2 : g2 ≠ p := by
    intro e
    rcases hat with h | h
    · rw [e] at h; exact hvb h
    · omega
  have hgB : B ≤ g2 := by
    rcases hat with h | h
    · exact ((unhide HO).lt g2 h).1
    · omega
  refine ⟨rfl, some g2, ⟨(ButB.grown (S := fun b => b = p ∨ some b = G) hgrow (fun b e => Or.inr (by rw [← hG]; exact e.symm))).set (Or.inl (Or.inl rfl)) _, ⟨hlow, ?_, ?_, .slice (some ⟨g2, 0, none⟩) (ws.length + xs.length) c2, ?_, ?_, rfl⟩, ?_⟩⟩
  · have := hgrow.size; simp; omega
  · rw [frozen_setCellN]; exact ff
  · exact World.cell?_setCell_same _ _ _ cc
  · rw [strs_app, List.length_append]
    refine ⟨hown2.1, ?_⟩
    rcases hown2.2 with e | ⟨g, cap, cur, e1, e2, e3, e4⟩
    · exact Or.inl e
    · have eg : g2 = g := by
        simp only [Value.slice.injEq, Option.some.injEq, Addr.mk.injEq, and_true, true_and] at e1
        exact e1.1
      refine Or.inr ⟨g, cap, cur, e1, e2, ?_, e4⟩
      rw [Below.heap_setCell w2 ⟨p, 0, none⟩ _ g (by dsimp only; intro e; exact hg2 (eg.trans e))]
      exact e3
  · rcases hat with h | h
    · exact Or.inl (by rw [← hG]; exact h.symm)
    · exact Or.inr ⟨g2, rfl, by omega⟩
theorem say_new {p B : Nat} {G : Option Nat} {ws : List (List UInt8)} {w : World} (hP : PB w p B G ws) (xs : List (List UInt8)) (C : Array Value) (t : TypeId) (b n c : Nat) (hb : w.heap.size = b) (hC : C = (strs xs).toArray) (hn : n = xs.length) (hm : 0 < xs.length) (hl : ws.length + xs.length ≤ 100000000) :
    Calls Tryz.prog 34 #[.pointer (some ⟨p, 0, none⟩), .slice (some ⟨b, 0, none⟩) n c] (w.alloc (.cells C t)) fun e w' => e = .returned (.tuple #[]) ∧ ∃ Gn, PN p B w w' G Gn (ws ++ xs) := by
  subst hn hC hb
  refine (say_calls p B w.heap.size 0 c G ws xs _ (hP.below (bA (Below.refl _ _) _)) (fun j u hj => ?_) hm hl).mono ?_
  · rw [World.cell?_alloc_at _ t _ (0 + j) rfl]
    simpa using hj
  · rintro e w1 ⟨rfl, Gn, h⟩
    exact ⟨rfl, Gn, h.ahead (bA (Below.refl _ _) _)⟩
def Wrs (p B fn : Nat) (u : Value) (xs : List (List UInt8)) (w : World) : Prop := ∀ (W : World) (G : Option Nat) (ws : List (List UInt8)), Kp p B w W → PB W p B G ws → ws.length + xs.length ≤ 100000000 →
  Calls Tryz.prog fn #[.pointer (some ⟨p, 0, none⟩), u] W fun e w' => e = .returned (.tuple #[]) ∧ ∃ Gn, PN p B W w' G Gn (ws ++ xs)
end Go.Proofs.YtmcbmmpjhijagaaGreatDoor
namespace Go.Proofs.YtmcbmmpjhijagaaGreatDoor
open Go Go.RowKit
theorem ownB {w w1 : World} {B : Nat} {e : TypeId} {v : Value} {n : Nat} {xs : List Value} (h : w.ownsRow B e 1 v n xs) (hb : Below w.heap.size w w1) : w1.ownsRow B e 1 v n xs := by
  refine ⟨h.1, ?_⟩
  rcases h.2 with e1 | ⟨g, cap, cur, e1, e2, e3, e4⟩
  · exact Or.inl e1
  · exact Or.inr ⟨g, cap, cur, e1, e2, by rw [hb.block g (Array.getElem?_eq_some_iff.1 e3).1]; exact e3, e4⟩
theorem own_grown {w w2 : World} {B : Nat} {e : TypeId} {v : Value} {n : Nat} {xs : List Value} (h : w.ownsRow B e 1 v n xs) (hg : w.grownBy w2 v.ownBlock) (hB : B ≤ w.heap.size) : Below B w w2 :=
  (ButB.grown (S := fun b => B ≤ b) hg (fun b e => (h.lt b e).1)).below hB (fun _ h => h)
theorem own_cells {w : World} {B : Nat} {v : Value} {ts : List (List UInt8)} (h : w.ownsRow B 9 1 v ts.length (strs ts)) (hpos : 0 < ts.length) : ∃ g cap, v = .slice (some ⟨g, 0, none⟩) ts.length cap ∧ g < w.heap.size ∧ ts.length ≤ cap ∧ ∀ (j : Nat) t, ts[j]? = some t → w.cell? ⟨g, j, none⟩ = some (.string (mkS t)) := by
  obtain ⟨g, cap, rfl, _, hgs⟩ := h.form hpos
  refine ⟨g, cap, rfl, hgs, ?_, fun j t hj => ?_⟩
  · rcases h.2 with ⟨h, _⟩ | ⟨g', c', cur, h, _, _, h4, _⟩
    · cases h
    · simp only [Value.slice.injEq, Option.some.injEq, Addr.mk.injEq, and_true, true_and] at h
      omega
  · rw [h.cellAt j (by have := (List.getElem?_eq_some_iff.1 hj).1; omega)]
    unfold strs
    rw [List.getElem?_map, hj]
    rfl
set_option maxRecDepth 100000 in
set_option maxHeartbeats 2000000 in
theorem l2Inner_calls (ns : List Nd) (g cap i : Nat) (a b : Int) (w : World) (hn : NodesAt w g 0 ns) (hi : i < ns.length) (t : List UInt8) (ht : t.length ≤ 5000000)
    (HT : ∀ W, Below w.heap.size w W → Calls Tryz.prog 11 #[.slice (some ⟨g, 0, none⟩) ns.length cap, .int .i64 (i : Int)] W fun e w' => e = .returned (.string (mkS t)) ∧ Below W.heap.size W w') :
    Calls Tryz.prog 23 #[.slice (some ⟨g, 0, none⟩) ns.length cap, .int .i64 (i : Int), .int .i64 a, .int .i64 b] w fun e w' => e = .returned (.string (mkS (if kindAt ns i = a ∨ kindAt ns i = b then [40, 32] ++ t ++ [32, 41] else t))) ∧ Below w.heap.size w w' := by
  obtain ⟨⟨d0, _, _, _, _⟩, _⟩ := hn.at i hi
  rw [kindAt_some (List.getElem?_eq_getElem hi)]
  simp only [Nat.zero_add] at d0
  generalize (ns[i]).K = K at *
  have j0 : (i : Int) < (ns.length : Int) := by omega
  have H := hide HT
  have A1 : ∀ w, (Op.stringOp .add ⟨#[40, 32]⟩ (mkS t)).run Tryz.prog w = .ok (.string (mkS ([40, 32] ++ t))) w := fun w => cat_is Tryz.prog w [40, 32] t (by simp; omega)
  have A2 : ∀ w, (Op.stringOp .add (mkS ([40, 32] ++ t)) ⟨#[32, 41]⟩).run Tryz.prog w = .ok (.string (mkS ([40, 32] ++ t ++ [32, 41]))) w := fun w => cat_is Tryz.prog w ([40, 32] ++ t) [32, 41] (by simp; omega)
  obtain ⟨t1, h1⟩ : ∃ t1, [40, 32] ++ t = t1 := ⟨_, rfl⟩
  rw [h1] at A1 A2
  obtain ⟨t2, h2⟩ : ∃ t2, t1 ++ [32, 41] = t2 := ⟨_, rfl⟩
  rw [h2] at A2
  rw [h1, h2]
  clear HT hn ht h1 h2
  by_cases ha : K = a
  · subst ha
    rw [if_pos (Or.inl rfl)]
    go_enter Tryz.func23, Tryz.ntmps23
    go_wp2_with fail
    refine (unhide H _ (by first | exact Below.refl _ _ | exact (Below.refl _ _).drew)).mono ?_
    rintro e w1 ⟨rfl, hb⟩
    have HB := hide hb
    clear hb
    go_wp2
    go_returns
    exact ⟨rfl, unhide HB⟩
  have ha' : (K == a) = false := by simp [ha]
  by_cases hb : K = b
  · subst hb
    rw [if_pos (Or.inr rfl)]
    go_enter Tryz.func23, Tryz.ntmps23
    go_wp2_with fail
    refine (unhide H _ (by first | exact Below.refl _ _ | exact (Below.refl _ _).drew)).mono ?_
    rintro e w1 ⟨rfl, hb⟩
    have HB := hide hb
    clear hb
    go_wp2
    go_returns
    exact ⟨rfl, unhide HB⟩
  · rw [if_neg (by omega)]
    have hb' : (K == b) = false := by simp [hb]
    go_enter Tryz.func23, Tryz.ntmps23
    go_wp2_with fail
    refine (unhide H _ (by first | exact Below.refl _ _ | exact (Below.refl _ _).drew)).mono ?_
    rintro e w1 ⟨rfl, hb⟩
    have HB := hide hb
    clear hb
    go_wp2
    go_returns
    exact ⟨rfl, unhide HB⟩
end Go.Proofs.YtmcbmmpjhijagaaGreatDoor
