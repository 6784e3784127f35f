import Derived.Test.YtafmlbojmmdcdaaDoorDrawEx
namespace Go.Proofs.YtafmlbojmmdcdaaDoor
open Go Go.RowKit
theorem oslice_high (g n cap r : Nat) (hr : r ≤ cap) (w : World) : (Instr.slice 31 (.slice (some ⟨g, 0, none⟩) n cap) none (some (.int .i64 (r : Int))) none).run Tryd.prog w = .ok (.slice (some ⟨g, 0, none⟩) r cap) w := by
  have ht : Tryd.prog.underlying 31 = some (.slice (Tryd.prog.elem 31)) := by kernel_rfl
  have hs : ∀ w, (sizeOf (Tryd.prog.elem 31)).run Tryd.prog w = .ok 2 w := fun _ => by kernel_rfl
  rw [run_slice_h _ _ _ _ _ ht .i64 r (by omega) (by omega), hs]
  simp [Result.andThen, sliced, Addr.add]
theorem OwnO.frz {w : World} {B g cap : Nat} {bs : List O2} (h : OwnO w B g cap bs) : ∀ o, w.frozen? ⟨g, o, none⟩ = false := by
  rcases h.2 with ⟨h1, _⟩ | ⟨g', cap', cur, h1, h2, h3, h4, h5, h6, h7⟩
  · simp at h1
  · simp only [Value.slice.injEq, Option.some.injEq, Addr.mk.injEq, and_true, true_and] at h1
    obtain ⟨rfl, rfl⟩ := h1
    intro o
    simp [World.frozen?, h3]
/-- what l1SpoilEx and l1DrawExFor leave -/
structure SEx (w0 w' : World) (R : Nat) (a : Option Addr) (cap : Nat) (bs : List Nat) (L g : Nat) (ops : List O2) : Prop where
  has : HasOps w' w0.heap.size g ops
  len : ops.length ≤ L
  rd : ∃ q, Rd w' R a cap bs q
  drw : Drw R w0 w'
theorem Rd.far {w : World} {R g o : Nat} {a : Option Addr} {cap : Nat} {bs : List Nat} {q : Nat} (h : Rd w R a cap bs q) (hg : R < g) (v : Value) : Rd (w.setCell ⟨g, o, none⟩ v) R a cap bs q :=
  h.ofB (B := g) hg ((Below.refl g w).setCell (p := ⟨g, o, none⟩) (Nat.le_refl _) v)
set_option maxRecDepth 100000 in
set_option maxHeartbeats 4000000 in
theorem l1SpoilEx_calls (w0 w : World) (R : Nat) (a : Option Addr) (cap : Nat) (bs : List Nat) (p W g c : Nat) (ops : List O2) (h : Rd w R a cap bs p) (hW : 1 ≤ W) (hW2 : W ≤ 1000) (hO : OwnO w w0.heap.size g c ops) (h1 : 1 ≤ ops.length) (h2 : ops.length ≤ 1000) (hD : Drw R w0 w) (hR : R < w0.heap.size) :
    Calls Tryd.prog 40 #[.pointer (some ⟨R, 0, none⟩), .slice (some ⟨g, 0, none⟩) ops.length c, .int .i64 (W : Int)] w fun e w' => ∃ g' c' ops', e = .returned (.slice (some ⟨g', 0, none⟩) ops'.length c') ∧ SEx w0 w' R a cap bs (ops.length + 1) g' ops' := by
  have NX := next_calls w R a cap bs p h
  have hk := nxt_le h p
  have hk2 := nxt_le h (adv bs p)
  have HP := hide (fun w1 h1 => next_calls w1 R a cap bs (adv bs p) h1)
  generalize nxt bs p = k at *
  generalize nxt bs (adv bs p) = k2 at *
  have HNX := hide NX
  clear NX h
  have l0 : (0 : Int) < (ops.length : Int) := by omega
  obtain ⟨j, hj⟩ : ∃ j, j = k2 % ops.length := ⟨_, rfl⟩
  have hjl : j < ops.length := by rw [hj]; exact Nat.mod_lt _ (by omega)
  have i3 : (k2 : Int) % (ops.length : Int) = (j : Int) := by rw [hj]; norm_cast
  have i4 : ¬ (ops.length : Int) = 0 := by omega
  have i5 : ((ops.length : Int) == 0) = false := beq_eq_false_iff_ne.2 i4
  have i6 : (j : Int) < (ops.length : Int) := by omega
  have hgl := hO.lt
  have hds := hD.size
  have HO := hide hO
  have HD := hide hD
  clear hO hD hj
  obtain ⟨i, hi, hz⟩ := Option.map_eq_some_iff.1 (show (Tryd.prog.info? 39).map (fun i => (i.zero, i.size, i.bytes)) = some (some (.agg #[.int .i64 0, .int .i64 0]), 2, 16) by kernel_rfl)
  simp only [Prod.mk.injEq] at hz
  obtain ⟨hz0, hz1, hz2⟩ := hz
  have hsl := oslice_high g ops.length c j (by omega)
  by_cases d0 : k % 6 = 0
  · have t0 : ((k : Int) % 6 == 0) = true := by simp; omega
    clear d0
    go_enter Tryd.func40, Tryd.ntmps40
    go_wp2_with fail
    refine (unhide HNX).mono ?_; rintro e w1 ⟨rfl, hr1, hd1⟩
    have hs1 := hd1.size
    have CP := hide (unhide HP w1 hr1)
    have HO1 := hide ((unhide HO).drw hd1 (by omega))
    have HD1 := hide ((unhide HD).trans hd1)
    clear HNX HO HD hr1 hd1 HP
    go_wp2_with fail
    refine (unhide CP).mono ?_; rintro e u ⟨rfl, hr2, hd2⟩
    have hs2 := hd2.size
    have HOu := hide ((unhide HO1).drw hd2 (by omega))
    have HDu := hide ((unhide HD1).trans hd2)
    have HRu := hide hr2
    clear CP HO1 HD1 hr2 hd2
    have hgu := (unhide HOu).lt.1
    have LF := hide (l1DrawLeaf_calls u R a cap bs _ W (unhide HRu) hW hW2)
    go_wp2_with fail
    refine (unhide LF).mono ?_; rintro e u2 ⟨⟨k', n', rfl⟩, hr3, hd3⟩
    have hs3 := hd3.size
    have HO2 := hide ((unhide HOu).drw hd3 (by omega))
    have HD2 := hide ((unhide HDu).trans hd3)
    have HQ := hide hr3
    have HO1 : Hid ((u2.alloc (.cells #[.int .i64 k', .int .i64 n'] 39)).ownsRow w0.heap.size 39 2 (.slice (some ⟨g, 0, none⟩) ops.length c) ops.length (flatO ops)) := (unhide HO2).of (bA (Below.refl u2.heap.size u2) (.cells #[.int .i64 k', .int .i64 n'] 39))
    clear LF hr3 hd3 HOu HDu HRu
    go_wp2_with (at_builtin; refine wpList_append_lies _ rfl (.tmp 22) (.tmp 26) 31 rfl w0.heap.size 39 i _ 2 16 Tryd.underlying31 hi hz0 hz1 hz2 rfl (by decide) (.slice (some ⟨g, 0, none⟩) ops.length c) ops.length (flatO ops) rfl (unhide HO1) ⟨u2.heap.size, 0, none⟩ 1 1 [.int .i64 k', .int .i64 n'] rfl rfl (World.news_of_block (w := (u2.alloc (.cells #[.int .i64 k', .int .i64 n'] 39))) (cs := #[.int .i64 k', .int .i64 n']) (MapKept.heap_alloc u2 _).1) (by intro v hv; simp at hv; rcases hv with rfl | rfl <;> rfl) (by decide) (by unfold maxLen; omega) (by omega) (by simp; omega) _ rfl ?_; intro g2 c2 wz hown2 hgrow hat hlt2)
    have HZ := hide (push_op (unhide HO2) (unhide HD2) (unhide HQ) hR hown2 hgrow)
    clear hown2 hgrow hat HO1 HO2 HD2 HQ
    go_wp2
    go_ret
    exact ⟨g2, c2, ops ++ [(k', n')], by simp, (unhide HZ).1.has, by simp, (unhide HZ).2.1, (unhide HZ).2.2⟩
  have t0 : ((k : Int) % 6 == 0) = false := by simp; omega
  by_cases d1 : k % 6 = 1
  · have t1 : ((k : Int) % 6 == 1) = true := by simp; omega
    clear d1 d0
    go_enter Tryd.func40, Tryd.ntmps40
    go_wp2_with fail
    refine (unhide HNX).mono ?_; rintro e w1 ⟨rfl, hr1, hd1⟩
    have hs1 := hd1.size
    have CP := hide (unhide HP w1 hr1)
    have HO1 := hide ((unhide HO).drw hd1 (by omega))
    have HD1 := hide ((unhide HD).trans hd1)
    clear HNX HO HD hr1 hd1 HP
    go_wp2_with fail
    refine (unhide CP).mono ?_; rintro e u ⟨rfl, hr2, hd2⟩
    have hs2 := hd2.size
    have HOu := hide ((unhide HO1).drw hd2 (by omega))
    have HDu := hide ((unhide HD1).trans hd2)
    have HRu := hide hr2
    clear CP HO1 HD1 hr2 hd2
    have hgu := (unhide HOu).lt.1
    have HQ : Hid (∃ q, Rd u R a cap bs q) := ⟨_, unhide HRu⟩
    have HO1 : Hid ((u.alloc (.cells #[.int .i64 5, .int .i64 0] 39)).ownsRow w0.heap.size 39 2 (.slice (some ⟨g, 0, none⟩) ops.length c) ops.length (flatO ops)) := (unhide HOu).of (bA (Below.refl u.heap.size u) (.cells #[.int .i64 5, .int .i64 0] 39))
    go_wp2_with (at_builtin; refine wpList_append_lies _ rfl (.tmp 31) (.tmp 33) 31 rfl w0.heap.size 39 i _ 2 16 Tryd.underlying31 hi hz0 hz1 hz2 rfl (by decide) (.slice (some ⟨g, 0, none⟩) ops.length c) ops.length (flatO ops) rfl (unhide HO1) ⟨u.heap.size, 0, none⟩ 1 1 [.int .i64 5, .int .i64 0] rfl rfl (World.news_of_block (w := (u.alloc (.cells #[.int .i64 5, .int .i64 0] 39))) (cs := #[.int .i64 5, .int .i64 0]) (MapKept.heap_alloc u _).1) (by intro v hv; simp at hv; rcases hv with rfl | rfl <;> rfl) (by decide) (by unfold maxLen; omega) (by omega) (by simp; omega) _ rfl ?_; intro g2 c2 wz hown2 hgrow hat hlt2)
    have HZ := hide (push_op (unhide HOu) (unhide HDu) (unhide HQ) hR hown2 hgrow)
    clear hown2 hgrow hat HO1 HOu HDu HQ HRu
    go_wp2
    go_ret
    exact ⟨g2, c2, ops ++ [(5, 0)], by simp, (unhide HZ).1.has, by simp, (unhide HZ).2.1, (unhide HZ).2.2⟩
  have t1 : ((k : Int) % 6 == 1) = false := by simp; omega
  by_cases d2 : k % 6 = 2
  · have t2 : ((k : Int) % 6 == 2) = true := by simp; omega
    clear d2 d0 d1
    go_enter Tryd.func40, Tryd.ntmps40
    go_wp2_with fail
    refine (unhide HNX).mono ?_; rintro e w1 ⟨rfl, hr1, hd1⟩
    have hs1 := hd1.size
    have CP := hide (unhide HP w1 hr1)
    have HO1 := hide ((unhide HO).drw hd1 (by omega))
    have HD1 := hide ((unhide HD).trans hd1)
    clear HNX HO HD hr1 hd1 HP
    go_wp2_with fail
    refine (unhide CP).mono ?_; rintro e u ⟨rfl, hr2, hd2⟩
    have hs2 := hd2.size
    have HOu := hide ((unhide HO1).drw hd2 (by omega))
    have HDu := hide ((unhide HD1).trans hd2)
    have HRu := hide hr2
    clear CP HO1 HD1 hr2 hd2
    have hgu := (unhide HOu).lt.1
    have hf := (unhide HOu).frz
    have hcl := (unhide HOu).row j ops[j] (by simp [hjl])
    simp only [Nat.zero_add] at hcl
    obtain ⟨x0, x1⟩ := hcl
    have HF : Hid (∀ n : Int, SEx w0 (u.setCell ⟨g, j * 2 + 1, none⟩ (.int .i64 n)) R a cap bs (ops.length + 1) g (ops.set j (ops[j].1, n))) := fun n => ⟨(unhide HOu).has.set1 j hjl n, by simp, ⟨_, (unhide HRu).far (by omega) _⟩, (unhide HDu).far (by omega) (by omega) _⟩
    clear HOu HDu HRu
    go_wp2
    go_ret
    exact ⟨g, c, _, by rw [List.length_set]; rfl, unhide HF _⟩
  have t2 : ((k : Int) % 6 == 2) = false := by simp; omega
  by_cases d3 : k % 6 = 3
  · have t3 : ((k : Int) % 6 == 3) = true := by simp; omega
    clear d3 d0 d1 d2
    go_enter Tryd.func40, Tryd.ntmps40
    go_wp2_with fail
    refine (unhide HNX).mono ?_; rintro e w1 ⟨rfl, hr1, hd1⟩
    have hs1 := hd1.size
    have CP := hide (unhide HP w1 hr1)
    have HO1 := hide ((unhide HO).drw hd1 (by omega))
    have HD1 := hide ((unhide HD).trans hd1)
    clear HNX HO HD hr1 hd1 HP
    go_wp2_with fail
    refine (unhide CP).mono ?_; rintro e u ⟨rfl, hr2, hd2⟩
    have hs2 := hd2.size
    have HOu := hide ((unhide HO1).drw hd2 (by omega))
    have HDu := hide ((unhide HD1).trans hd2)
    have HRu := hide hr2
    clear CP HO1 HD1 hr2 hd2
    have hgu := (unhide HOu).lt.1
    have hf := (unhide HOu).frz
    have hcl := (unhide HOu).row j ops[j] (by simp [hjl])
    simp only [Nat.zero_add] at hcl
    obtain ⟨x0, x1⟩ := hcl
    have HF : Hid (∀ n : Int, SEx w0 (u.setCell ⟨g, j * 2, none⟩ (.int .i64 n)) R a cap bs (ops.length + 1) g (ops.set j (n, ops[j].2))) := fun n => ⟨(unhide HOu).has.set0 j hjl n, by simp, ⟨_, (unhide HRu).far (by omega) _⟩, (unhide HDu).far (by omega) (by omega) _⟩
    clear HOu HDu HRu
    go_wp2
    go_ret
    exact ⟨g, c, _, by rw [List.length_set]; rfl, unhide HF _⟩
  have t3 : ((k : Int) % 6 == 3) = false := by simp; omega
  by_cases d4 : k % 6 = 4
  · have t4 : ((k : Int) % 6 == 4) = true := by simp; omega
    clear d4 d0 d1 d2 d3
    go_enter Tryd.func40, Tryd.ntmps40
    go_wp2_with fail
    refine (unhide HNX).mono ?_; rintro e w1 ⟨rfl, hr1, hd1⟩
    have hs1 := hd1.size
    have CP := hide (unhide HP w1 hr1)
    have HO1 := hide ((unhide HO).drw hd1 (by omega))
    have HD1 := hide ((unhide HD).trans hd1)
    clear HNX HO HD hr1 hd1 HP
    go_wp2_with fail
    refine (unhide CP).mono ?_; rintro e u ⟨rfl, hr2, hd2⟩
    have hs2 := hd2.size
    have HOu := hide ((unhide HO1).drw hd2 (by omega))
    have HDu := hide ((unhide HD1).trans hd2)
    have HRu := hide hr2
    clear CP HO1 HD1 hr2 hd2
    have hgu := (unhide HOu).lt.1
    have hf := (unhide HOu).frz
    have hcl := (unhide HOu).row j ops[j] (by simp [hjl])
    simp only [Nat.zero_add] at hcl
    obtain ⟨x0, x1⟩ := hcl
    have HF : Hid (∀ n m : Int, ∃ ops', ops'.length = ops.length ∧ SEx w0 ((u.setCell ⟨g, j * 2, none⟩ (.int .i64 n)).setCell ⟨g, j * 2 + 1, none⟩ (.int .i64 m)) R a cap bs (ops.length + 1) g ops') := fun n m => ⟨_, by rw [List.length_set, List.length_set], ((unhide HOu).has.set0 j hjl n).set1 j (by rw [List.length_set]; exact hjl) m, by rw [List.length_set, List.length_set]; omega, ⟨_, ((unhide HRu).far (by omega) _).far (by omega) _⟩, ((unhide HDu).far (by omega) (by omega) _).far (by omega) (by omega) _⟩
    clear HOu HDu HRu
    go_wp2
    go_ret
    obtain ⟨ops', e1, e2⟩ := unhide HF 3 ((W : Int) - 1 + (k : Int) / 6 % 3)
    exact ⟨g, c, ops', by rw [e1]; rfl, e2⟩
  have t4 : ((k : Int) % 6 == 4) = false := by simp; omega
  clear d0 d1 d2 d3 d4
  go_enter Tryd.func40, Tryd.ntmps40
  go_wp2_with fail
  refine (unhide HNX).mono ?_; rintro e w1 ⟨rfl, hr1, hd1⟩
  have hs1 := hd1.size
  have CP := hide (unhide HP w1 hr1)
  have HO1 := hide ((unhide HO).drw hd1 (by omega))
  have HD1 := hide ((unhide HD).trans hd1)
  clear HNX HO HD hr1 hd1 HP
  go_wp2_with fail
  refine (unhide CP).mono ?_; rintro e u ⟨rfl, hr2, hd2⟩
  have hs2 := hd2.size
  have HOu := hide ((unhide HO1).drw hd2 (by omega))
  have HDu := hide ((unhide HD1).trans hd2)
  have HRu := hide hr2
  clear CP HO1 HD1 hr2 hd2
  have hgu := (unhide HOu).lt.1
  have HF : Hid (SEx w0 u R a cap bs (ops.length + 1) g (ops.take j)) := ⟨(unhide HOu).has.take j, by rw [List.length_take]; omega, ⟨_, unhide HRu⟩, unhide HDu⟩
  clear HOu HDu HRu
  go_wp2
  go_ret
  exact ⟨g, c, _, by rw [List.length_take, Nat.min_eq_left (by omega)]; rfl, unhide HF⟩
end Go.Proofs.YtafmlbojmmdcdaaDoor
