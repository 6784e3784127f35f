import Derived.Test.YtafmlbojmmdcdaaDoorDrawEx
namespace Go.Proofs.YtafmlbojmmdcdaaDoor
open Go Go.RowKit
set_option maxRecDepth 100000 in
set_option maxHeartbeats 4000000 in
theorem l1DrawEx_calls (R : Nat) (a : Option Addr) (cap : Nat) (bs : List Nat) (W : Nat) (hW : 1 ≤ W) (hW2 : W ≤ 1000) : ∀ (m s : Nat), s < m → s ≤ 100 → ∀ (w : World) (p : Nat), Rd w R a cap bs p →
    Calls Tryd.prog 39 #[.pointer (some ⟨R, 0, none⟩), .int .i64 (W : Int), .int .i64 (s : Int)] w fun e w' => ∃ g c ops, e = .returned (.slice (some ⟨g, 0, none⟩) ops.length c) ∧ DEx w w' R a cap bs s g c ops
  | 0, s, h, _, _, _, _ => by omega
  | m + 1, s, hsm, hs, w, p, h => by
    have hR := h.size
    have NX := next_calls w R a cap bs p h
    have hk := nxt_le h p
    generalize nxt bs p = k at *
    have HNX := hide NX
    clear NX h
    obtain ⟨i, hi, hz⟩ := Option.map_eq_some_iff.1 (show (Tryd.prog.info? 39).map (fun i => (i.zero, i.size, i.bytes)) = some (some (.agg #[.int .i64 0, .int .i64 0]), 2, 16) by kernel_rfl)
    simp only [Prod.mk.injEq] at hz
    obtain ⟨hz0, hz1, hz2⟩ := hz
    by_cases c0 : s < 2 ∨ k % 8 = 0
    · have i0 : (s : Int) < 2 ∨ (¬ (s : Int) < 2 ∧ ((k : Int) % 8 == 0) = true) := by
        by_cases e : s < 2
        · exact Or.inl (by omega)
        · exact Or.inr ⟨by omega, by simp; omega⟩
      clear c0
      rcases i0 with i0 | ⟨i0, i1⟩
      all_goals
        go_enter Tryd.func39, Tryd.ntmps39
        go_wp2_with fail
        refine (unhide HNX).mono ?_; rintro e w1 ⟨rfl, hr1, hd1⟩
        have LF := hide (l1DrawLeaf_calls w1 R a cap bs _ W hr1 hW hW2)
        have HD1 := hide hd1
        have hs1 := hd1.size
        clear HNX hr1 hd1
        go_wp2_with fail
        refine (unhide LF).mono ?_; rintro e u ⟨⟨k', n', rfl⟩, hr2, hd2⟩
        have hs2 := hd2.size
        have HE : Hid (DEx w (u.alloc (.cells #[.int .i64 k', .int .i64 n'] 39)) R a cap bs s u.heap.size 1 [(k', n')]) := by
          obtain ⟨q, hq⟩ := hr2
          exact ⟨OwnO.made u _ k' n' (by omega), by simp, Or.inl (by simp), ⟨q, hq.of (bA (Below.refl _ _) _)⟩, ((unhide HD1).trans hd2).alloc (by omega) _⟩
        clear LF hr2 hd2 HD1
        go_wp2
        go_ret
        exact ⟨_, _, [(k', n')], rfl, HE.out⟩
    have c1 : 2 ≤ s ∧ ¬ k % 8 = 0 := by omega
    obtain ⟨c1, c2⟩ := c1
    have i0 : ¬ (s : Int) < 2 := by omega
    have i1 : ((k : Int) % 8 == 0) = false := by simp; omega
    have IHa : Hid (∀ w p, Rd w R a cap bs p → Calls Tryd.prog 39 #[.pointer (some ⟨R, 0, none⟩), .int .i64 (W : Int), .int .i64 ((s : Int) - 1)] w fun e w' => ∃ g c ops, e = .returned (.slice (some ⟨g, 0, none⟩) ops.length c) ∧ DEx w w' R a cap bs (s - 1) g c ops) := fun w p h => by
      have := l1DrawEx_calls R a cap bs W hW hW2 m (s - 1) (by omega) (by omega) w p h
      rw [show ((s - 1 : Nat) : Int) = (s : Int) - 1 by omega] at this
      exact this
    have IHb : Hid (∀ w p, Rd w R a cap bs p → Calls Tryd.prog 39 #[.pointer (some ⟨R, 0, none⟩), .int .i64 (W : Int), .int .i64 ((s : Int) / 2)] w fun e w' => ∃ g c ops, e = .returned (.slice (some ⟨g, 0, none⟩) ops.length c) ∧ DEx w w' R a cap bs (s / 2) g c ops) := fun w p h => by
      have := l1DrawEx_calls R a cap bs W hW hW2 m (s / 2) (by omega) (by omega) w p h
      rw [show ((s / 2 : Nat) : Int) = (s : Int) / 2 by omega] at this
      exact this
    by_cases d1 : k % 8 = 1
    · have i2 : ((k : Int) % 8 == 1) = true := by simp; omega
      clear c0 c2 d1
      go_enter Tryd.func39, Tryd.ntmps39
      go_wp2_with fail
      refine (unhide HNX).mono ?_; rintro e w1 ⟨rfl, hr1, hd1⟩
      have CA := hide (unhide IHa w1 _ hr1)
      have HD1 := hide hd1
      have hs1 := hd1.size
      clear HNX hr1 hd1
      go_wp2_with fail
      refine (unhide CA).mono ?_; rintro e u ⟨g, c, ops, rfl, hx⟩
      have hs2 := hx.drw.size
      have hl := hx.own.lt
      have ho1 := hx.one
      have ho2 := hx.len
      have HO := hide (hx.own.mono hs1)
      have HD := hide ((unhide HD1).trans hx.drw)
      have HQ := hide hx.rd
      have HO1 : Hid ((u.alloc (.cells #[.int .i64 7, .int .i64 0] 39)).ownsRow w.heap.size 39 2 (.slice (some ⟨g, 0, none⟩) ops.length c) ops.length (flatO ops)) := (unhide HO).of (bA (Below.refl u.heap.size u) (.cells #[.int .i64 7, .int .i64 0] 39))
      clear CA hx HD1 IHa IHb
      go_wp2_with (at_builtin; refine wpList_append_lies _ rfl (.tmp 29) (.tmp 31) 31 rfl w.heap.size 39 i _ 2 16 Tryd.underlying31 hi hz0 hz1 hz2 rfl (by decide) (.slice (some ⟨g, 0, none⟩) ops.length c) ops.length (flatO ops) rfl (unhide HO1) ⟨u.heap.size, 0, none⟩ 1 1 [.int .i64 7, .int .i64 0] rfl rfl (World.news_of_block (w := (u.alloc (.cells #[.int .i64 7, .int .i64 0] 39))) (cs := #[.int .i64 7, .int .i64 0]) (MapKept.heap_alloc u _).1) (by intro v hv; simp at hv; rcases hv with rfl | rfl <;> rfl) (by decide) (by unfold maxLen; omega) (by omega) (by simp; omega) _ rfl ?_; intro g2 c2 w2 hown2 hgrow hat hlt2)
      have HP := hide (push_op (unhide HO) (unhide HD) (unhide HQ) hR hown2 hgrow)
      clear hown2 hgrow hat HO HD HQ HO1
      go_wp2
      go_ret
      exact ⟨g2, c2, ops ++ [(7, 0)], by simp, (unhide HP).1, by simp, by simp; omega, (unhide HP).2.1, (unhide HP).2.2⟩
    have i2 : ((k : Int) % 8 == 1) = false := by simp; omega
    by_cases d2 : k % 8 = 2
    · have i3 : ((k : Int) % 8 == 2) = true := by simp; omega
      clear c0 c2 d2 d1
      go_enter Tryd.func39, Tryd.ntmps39
      go_wp2_with fail
      refine (unhide HNX).mono ?_; rintro e w1 ⟨rfl, hr1, hd1⟩
      have CA := hide (unhide IHa w1 _ hr1)
      have HD1 := hide hd1
      have hs1 := hd1.size
      clear HNX hr1 hd1
      go_wp2_with fail
      refine (unhide CA).mono ?_; rintro e u ⟨g, c, ops, rfl, hx⟩
      have hs2 := hx.drw.size
      have hl := hx.own.lt
      have ho1 := hx.one
      have ho2 := hx.len
      have HO := hide (hx.own.mono hs1)
      have HD := hide ((unhide HD1).trans hx.drw)
      have HQ := hide hx.rd
      have HO1 : Hid ((u.alloc (.cells #[.int .i64 8, .int .i64 0] 39)).ownsRow w.heap.size 39 2 (.slice (some ⟨g, 0, none⟩) ops.length c) ops.length (flatO ops)) := (unhide HO).of (bA (Below.refl u.heap.size u) (.cells #[.int .i64 8, .int .i64 0] 39))
      clear CA hx HD1 IHa IHb
      go_wp2_with (at_builtin; refine wpList_append_lies _ rfl (.tmp 40) (.tmp 42) 31 rfl w.heap.size 39 i _ 2 16 Tryd.underlying31 hi hz0 hz1 hz2 rfl (by decide) (.slice (some ⟨g, 0, none⟩) ops.length c) ops.length (flatO ops) rfl (unhide HO1) ⟨u.heap.size, 0, none⟩ 1 1 [.int .i64 8, .int .i64 0] rfl rfl (World.news_of_block (w := (u.alloc (.cells #[.int .i64 8, .int .i64 0] 39))) (cs := #[.int .i64 8, .int .i64 0]) (MapKept.heap_alloc u _).1) (by intro v hv; simp at hv; rcases hv with rfl | rfl <;> rfl) (by decide) (by unfold maxLen; omega) (by omega) (by simp; omega) _ rfl ?_; intro g2 c2 w2 hown2 hgrow hat hlt2)
      have HP := hide (push_op (unhide HO) (unhide HD) (unhide HQ) hR hown2 hgrow)
      clear hown2 hgrow hat HO HD HQ HO1
      go_wp2
      go_ret
      exact ⟨g2, c2, ops ++ [(8, 0)], by simp, (unhide HP).1, by simp, by simp; omega, (unhide HP).2.1, (unhide HP).2.2⟩
    have i3 : ((k : Int) % 8 == 2) = false := by simp; omega
    clear IHa
    have hcs : ((k : Int) % 8 == 3) = true ∨ (((k : Int) % 8 == 3) = false ∧ ((k : Int) % 8 == 4) = true) ∨ (((k : Int) % 8 == 3) = false ∧ ((k : Int) % 8 == 4) = false) := by
      cases ((k : Int) % 8 == 3) <;> cases ((k : Int) % 8 == 4) <;> simp
    clear c0 c2 d1 d2
    rcases hcs with hcs | ⟨hcs, hcs2⟩ | ⟨hcs, hcs2⟩
    · go_enter Tryd.func39, Tryd.ntmps39
      go_wp2_with fail
      refine (unhide HNX).mono ?_; rintro e w1 ⟨rfl, hr1, hd1⟩
      have CA := hide (unhide IHb w1 _ hr1)
      have HD1 := hide hd1
      have hs1 := hd1.size
      clear HNX hr1 hd1
      go_wp2_with fail
      refine (unhide CA).mono ?_; rintro e u1 ⟨g1, c1', ops1, rfl, hx⟩
      have hs2 := hx.drw.size
      have hl1 := hx.own.lt
      have ho1 := hx.one
      have ho2 := hx.len
      have HO1 := hide (hx.own.mono hs1)
      have HD2 := hide ((unhide HD1).trans hx.drw)
      obtain ⟨q1, hq1⟩ := hx.rd
      have CB := hide (unhide IHb u1 q1 hq1)
      clear CA hx HD1 IHb hq1
      go_wp2_with fail
      refine (unhide CB).mono ?_; rintro e u ⟨g, c, ops, rfl, hx⟩
      have hs3 := hx.drw.size
      have hl := hx.own.lt
      have ho3 := hx.one
      have ho4 := hx.len
      have HO2 := hide hx.own
      have HD3 := hide ((unhide HD2).trans hx.drw)
      have HO1u := hide ((unhide HO1).drw hx.drw (by omega))
      have HQ := hide hx.rd
      have HOW : Hid (u.ownsRow w.heap.size 39 2 (.slice (some ⟨g1, 0, none⟩) ops1.length c1') ops1.length (flatO ops1)) := unhide HO1u
      clear CB hx HD2 HO1
      go_upto_region 10 with (at_builtin; refine wpList_append_lies _ rfl (.tmp 49) (.tmp 54) 31 rfl w.heap.size 39 i _ 2 16 Tryd.underlying31 hi hz0 hz1 hz2 rfl (by decide) (.slice (some ⟨g1, 0, none⟩) ops1.length c1') ops1.length (flatO ops1) rfl (unhide HOW) ⟨g, 0, none⟩ ops.length c (flatO ops) rfl (flatO_length ops) (unhide HO2).news (one_flatO ops) (by omega) (by unfold maxLen; omega) (by omega) (by omega) _ rfl ?_; intro gx cx wx hownx hgrowx hatx hltx)
      have HPX := hide (push_ops (unhide HO1u) (unhide HD3) (unhide HQ) hR hownx hgrowx)
      have hsx := hgrowx.size
      have hlx := (unhide HPX).1.lt
      clear hownx hgrowx hatx HO2 HD3 HO1u HQ HOW
      have HO1 : Hid ((wx.alloc (.cells #[.int .i64 5, .int .i64 0] 39)).ownsRow w.heap.size 39 2 (.slice (some ⟨gx, 0, none⟩) (ops1.length + ops.length) cx) (ops1.length + ops.length) (flatO (ops1 ++ ops))) := by
        have := (unhide HPX).1.of (bA (Below.refl wx.heap.size wx) (.cells #[.int .i64 5, .int .i64 0] 39))
        unfold OwnO at this
        rw [List.length_append] at this
        exact this
      go_wp2_with (at_builtin; refine wpList_append_lies _ rfl (.tmp 59) (.tmp 61) 31 rfl w.heap.size 39 i _ 2 16 Tryd.underlying31 hi hz0 hz1 hz2 rfl (by decide) (.slice (some ⟨gx, 0, none⟩) (ops1.length + ops.length) cx) (ops1.length + ops.length) (flatO (ops1 ++ ops)) rfl (unhide HO1) ⟨wx.heap.size, 0, none⟩ 1 1 [.int .i64 5, .int .i64 0] rfl rfl (World.news_of_block (w := (wx.alloc (.cells #[.int .i64 5, .int .i64 0] 39))) (cs := #[.int .i64 5, .int .i64 0]) (MapKept.heap_alloc wx _).1) (by intro v hv; simp at hv; rcases hv with rfl | rfl <;> rfl) (by decide) (by unfold maxLen; omega) (by omega) (by simp; omega) _ rfl ?_; intro g2 c2 w2 hown2 hgrow hat hlt2)
      have HP := hide (push_op (unhide HPX).1 (unhide HPX).2.2 (unhide HPX).2.1 hR (k := 5) (n := 0) (by rw [List.length_append]; exact hown2) hgrow)
      clear hown2 hgrow hat HO1 HPX
      go_wp2
      go_ret
      have hl3 : ((ops1 ++ ops) ++ [((5, 0) : O2)]).length = ops1.length + ops.length + 1 := by rw [List.length_append, List.length_append]; rfl
      exact ⟨g2, c2, (ops1 ++ ops) ++ [(5, 0)], by rw [hl3]; rfl, (unhide HP).1, by rw [hl3]; omega, by rw [hl3]; omega, (unhide HP).2.1, (unhide HP).2.2⟩
    · go_enter Tryd.func39, Tryd.ntmps39
      go_wp2_with fail
      refine (unhide HNX).mono ?_; rintro e w1 ⟨rfl, hr1, hd1⟩
      have CA := hide (unhide IHb w1 _ hr1)
      have HD1 := hide hd1
      have hs1 := hd1.size
      clear HNX hr1 hd1
      go_wp2_with fail
      refine (unhide CA).mono ?_; rintro e u1 ⟨g1, c1', ops1, rfl, hx⟩
      have hs2 := hx.drw.size
      have hl1 := hx.own.lt
      have ho1 := hx.one
      have ho2 := hx.len
      have HO1 := hide (hx.own.mono hs1)
      have HD2 := hide ((unhide HD1).trans hx.drw)
      obtain ⟨q1, hq1⟩ := hx.rd
      have CB := hide (unhide IHb u1 q1 hq1)
      clear CA hx HD1 IHb hq1
      go_wp2_with fail
      refine (unhide CB).mono ?_; rintro e u ⟨g, c, ops, rfl, hx⟩
      have hs3 := hx.drw.size
      have hl := hx.own.lt
      have ho3 := hx.one
      have ho4 := hx.len
      have HO2 := hide hx.own
      have HD3 := hide ((unhide HD2).trans hx.drw)
      have HO1u := hide ((unhide HO1).drw hx.drw (by omega))
      have HQ := hide hx.rd
      have HOW : Hid (u.ownsRow w.heap.size 39 2 (.slice (some ⟨g1, 0, none⟩) ops1.length c1') ops1.length (flatO ops1)) := unhide HO1u
      clear CB hx HD2 HO1
      go_upto_region 10 with (at_builtin; refine wpList_append_lies _ rfl (.tmp 49) (.tmp 54) 31 rfl w.heap.size 39 i _ 2 16 Tryd.underlying31 hi hz0 hz1 hz2 rfl (by decide) (.slice (some ⟨g1, 0, none⟩) ops1.length c1') ops1.length (flatO ops1) rfl (unhide HOW) ⟨g, 0, none⟩ ops.length c (flatO ops) rfl (flatO_length ops) (unhide HO2).news (one_flatO ops) (by omega) (by unfold maxLen; omega) (by omega) (by omega) _ rfl ?_; intro gx cx wx hownx hgrowx hatx hltx)
      have HPX := hide (push_ops (unhide HO1u) (unhide HD3) (unhide HQ) hR hownx hgrowx)
      have hsx := hgrowx.size
      have hlx := (unhide HPX).1.lt
      clear hownx hgrowx hatx HO2 HD3 HO1u HQ HOW
      have HO1 : Hid ((wx.alloc (.cells #[.int .i64 6, .int .i64 0] 39)).ownsRow w.heap.size 39 2 (.slice (some ⟨gx, 0, none⟩) (ops1.length + ops.length) cx) (ops1.length + ops.length) (flatO (ops1 ++ ops))) := by
        have := (unhide HPX).1.of (bA (Below.refl wx.heap.size wx) (.cells #[.int .i64 6, .int .i64 0] 39))
        unfold OwnO at this
        rw [List.length_append] at this
        exact this
      go_wp2_with (at_builtin; refine wpList_append_lies _ rfl (.tmp 66) (.tmp 68) 31 rfl w.heap.size 39 i _ 2 16 Tryd.underlying31 hi hz0 hz1 hz2 rfl (by decide) (.slice (some ⟨gx, 0, none⟩) (ops1.length + ops.length) cx) (ops1.length + ops.length) (flatO (ops1 ++ ops)) rfl (unhide HO1) ⟨wx.heap.size, 0, none⟩ 1 1 [.int .i64 6, .int .i64 0] rfl rfl (World.news_of_block (w := (wx.alloc (.cells #[.int .i64 6, .int .i64 0] 39))) (cs := #[.int .i64 6, .int .i64 0]) (MapKept.heap_alloc wx _).1) (by intro v hv; simp at hv; rcases hv with rfl | rfl <;> rfl) (by decide) (by unfold maxLen; omega) (by omega) (by simp; omega) _ rfl ?_; intro g2 c2 w2 hown2 hgrow hat hlt2)
      have HP := hide (push_op (unhide HPX).1 (unhide HPX).2.2 (unhide HPX).2.1 hR (k := 6) (n := 0) (by rw [List.length_append]; exact hown2) hgrow)
      clear hown2 hgrow hat HO1 HPX
      go_wp2
      go_ret
      have hl3 : ((ops1 ++ ops) ++ [((6, 0) : O2)]).length = ops1.length + ops.length + 1 := by rw [List.length_append, List.length_append]; rfl
      exact ⟨g2, c2, (ops1 ++ ops) ++ [(6, 0)], by rw [hl3]; rfl, (unhide HP).1, by rw [hl3]; omega, by rw [hl3]; omega, (unhide HP).2.1, (unhide HP).2.2⟩
    · go_enter Tryd.func39, Tryd.ntmps39
      go_wp2_with fail
      refine (unhide HNX).mono ?_; rintro e w1 ⟨rfl, hr1, hd1⟩
      have CA := hide (unhide IHb w1 _ hr1)
      have HD1 := hide hd1
      have hs1 := hd1.size
      clear HNX hr1 hd1
      go_wp2_with fail
      refine (unhide CA).mono ?_; rintro e u1 ⟨g1, c1', ops1, rfl, hx⟩
      have hs2 := hx.drw.size
      have hl1 := hx.own.lt
      have ho1 := hx.one
      have ho2 := hx.len
      have HO1 := hide (hx.own.mono hs1)
      have HD2 := hide ((unhide HD1).trans hx.drw)
      obtain ⟨q1, hq1⟩ := hx.rd
      have CB := hide (unhide IHb u1 q1 hq1)
      clear CA hx HD1 IHb hq1
      go_wp2_with fail
      refine (unhide CB).mono ?_; rintro e u ⟨g, c, ops, rfl, hx⟩
      have hs3 := hx.drw.size
      have hl := hx.own.lt
      have ho3 := hx.one
      have ho4 := hx.len
      have HO2 := hide hx.own
      have HD3 := hide ((unhide HD2).trans hx.drw)
      have HO1u := hide ((unhide HO1).drw hx.drw (by omega))
      have HQ := hide hx.rd
      have HOW : Hid (u.ownsRow w.heap.size 39 2 (.slice (some ⟨g1, 0, none⟩) ops1.length c1') ops1.length (flatO ops1)) := unhide HO1u
      clear CB hx HD2 HO1
      go_upto_region 10 with (at_builtin; refine wpList_append_lies _ rfl (.tmp 49) (.tmp 54) 31 rfl w.heap.size 39 i _ 2 16 Tryd.underlying31 hi hz0 hz1 hz2 rfl (by decide) (.slice (some ⟨g1, 0, none⟩) ops1.length c1') ops1.length (flatO ops1) rfl (unhide HOW) ⟨g, 0, none⟩ ops.length c (flatO ops) rfl (flatO_length ops) (unhide HO2).news (one_flatO ops) (by omega) (by unfold maxLen; omega) (by omega) (by omega) _ rfl ?_; intro gx cx wx hownx hgrowx hatx hltx)
      have HPX := hide (push_ops (unhide HO1u) (unhide HD3) (unhide HQ) hR hownx hgrowx)
      have hsx := hgrowx.size
      have hlx := (unhide HPX).1.lt
      clear hownx hgrowx hatx HO2 HD3 HO1u HQ HOW
      have HO1 : Hid ((wx.alloc (.cells #[.int .i64 4, .int .i64 (1 + (k : Int) / 8 % 6)] 39)).ownsRow w.heap.size 39 2 (.slice (some ⟨gx, 0, none⟩) (ops1.length + ops.length) cx) (ops1.length + ops.length) (flatO (ops1 ++ ops))) := by
        have := (unhide HPX).1.of (bA (Below.refl wx.heap.size wx) (.cells #[.int .i64 4, .int .i64 (1 + (k : Int) / 8 % 6)] 39))
        unfold OwnO at this
        rw [List.length_append] at this
        exact this
      go_wp2_with (at_builtin; refine wpList_append_lies _ rfl (.tmp 70) (.tmp 76) 31 rfl w.heap.size 39 i _ 2 16 Tryd.underlying31 hi hz0 hz1 hz2 rfl (by decide) (.slice (some ⟨gx, 0, none⟩) (ops1.length + ops.length) cx) (ops1.length + ops.length) (flatO (ops1 ++ ops)) rfl (unhide HO1) ⟨wx.heap.size, 0, none⟩ 1 1 [.int .i64 4, .int .i64 (1 + (k : Int) / 8 % 6)] rfl rfl (World.news_of_block (w := (wx.alloc (.cells #[.int .i64 4, .int .i64 (1 + (k : Int) / 8 % 6)] 39))) (cs := #[.int .i64 4, .int .i64 (1 + (k : Int) / 8 % 6)]) (MapKept.heap_alloc wx _).1) (by intro v hv; simp at hv; rcases hv with rfl | rfl <;> rfl) (by decide) (by unfold maxLen; omega) (by omega) (by simp; omega) _ rfl ?_; intro g2 c2 w2 hown2 hgrow hat hlt2)
      have HP := hide (push_op (unhide HPX).1 (unhide HPX).2.2 (unhide HPX).2.1 hR (k := 4) (n := (1 + (k : Int) / 8 % 6)) (by rw [List.length_append]; exact hown2) hgrow)
      clear hown2 hgrow hat HO1 HPX
      go_wp2
      go_ret
      have hl3 : ((ops1 ++ ops) ++ [((4, (1 + (k : Int) / 8 % 6)) : O2)]).length = ops1.length + ops.length + 1 := by rw [List.length_append, List.length_append]; rfl
      exact ⟨g2, c2, (ops1 ++ ops) ++ [(4, (1 + (k : Int) / 8 % 6))], by rw [hl3]; rfl, (unhide HP).1, by rw [hl3]; omega, by rw [hl3]; omega, (unhide HP).2.1, (unhide HP).2.2⟩
end Go.Proofs.YtafmlbojmmdcdaaDoor
