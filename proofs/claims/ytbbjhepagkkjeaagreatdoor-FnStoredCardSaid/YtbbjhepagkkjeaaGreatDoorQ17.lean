import Derived.Test.YtbbjhepagkkjeaaGreatDoorQ11
import Derived.Test.YtbbjhepagkkjeaaGreatDoorDwSpA
namespace Go.Proofs.YtbbjhepagkkjeaaGreatDoor
open Go
section
variable {P : Program} {ops : Array Oper} {Q : Exit → Act → World → Prop} {md : Region.Mode} {S : World → Prop} {m : Nat}
def wpM (P : Program) (md : Region.Mode) (ops : Array Oper) (Q : Exit → Act → World → Prop) (S : World → Prop) (m : Nat) : Nat → Array Bool → Act → World → Prop
  | 0, L, a, w => Region.ready md ops L = [] ∧ Q .normal a w
  | n + 1, L, a, w => (Region.ready md ops L = [] → Q .normal a w) ∧ ∀ i ∈ Region.ready md ops L, wpOp P ops Q i (fun a' w' => ((L.setIfInBounds i true).getD m true = false → S w') ∧ wpM P md ops Q S m n (L.setIfInBounds i true) a' w') a w
theorem wpM_any : ∀ (n : Nat) (L : Array Bool) (a : Act) (w : World), wpM P md ops Q S m n L a w → wpAny P md ops Q n L a w
  | 0, _, _, _, h => h
  | n + 1, _, _, _, h => ⟨h.1, fun i hi => wpOp_mono (fun a' w' h' => wpM_any n _ a' w' h'.2) (h.2 i hi)⟩
def waits (md : Region.Mode) (ops : Array Oper) (m i : Nat) : Bool := match ops[m]? with | some o => o.after.any (fun e => Region.binds md e && e.on == i) | none => false
theorem waits_no {i : Nat} {L : Array Bool} (h : waits md ops m i = true) (hi : L.getD i true = false) : m ∉ Region.ready md ops L := fun hm => by
  obtain ⟨_, o, ho, hall⟩ := mem_ready.1 hm
  unfold waits at h
  rw [ho] at h
  simp only [Array.any_eq_true] at h
  obtain ⟨k, hk, he⟩ := h
  rw [Bool.and_eq_true] at he
  have h1 := hall _ (Array.getElem_mem hk) he.1
  rw [beq_iff_eq.1 he.2] at h1
  rcases Nat.lt_or_ge i L.size with h' | h'
  · simp [h'] at hi h1
    rw [hi] at h1
    cases h1
  · simp [Array.getElem?_eq_none h'] at h1
theorem wpM_first {i : Nat} {oi : Oper} {v : Value} (hi : ops[i]? = some oi) (hw : waits md ops m i = true) (him : i ≠ m) (hsel : ∀ (j : Nat) (o : Oper) cs b, ops[j]? = some o → o.op ≠ .select cs b)
    (hQ : ∀ c a w, Q (.panic c) (a.put oi.dst v) w → Q (.panic c) a w) : ∀ (n : Nat) (L : Array Bool) (a : Act) (w : World),
      (∀ j oj, ops[j]? = some oj → j ≠ i → L.getD j true = false → (∀ e ∈ oj.after, Region.binds md e = true → e.on ≠ i) → oi.apart ops oj = true) →
      i ∈ Region.ready md ops L → L.getD m true = false → YieldsIf P ops S oi v a → S w →
      wpM P md ops Q S m n (L.setIfInBounds i true) (a.put oi.dst v) w → wpM P md ops Q S m (n + 1) L a w := by
  intro n
  induction n with
  | zero =>
    intro L a w _ hr _ hy hS H
    refine ⟨fun h => (by rw [h] at hr; cases hr), fun j hj => ?_⟩
    by_cases hji : j = i
    · subst hji
      exact hy.wpOp hi hS ⟨fun _ => hS, H⟩
    · have h1 := ready_mono hj hji
      rw [H.1] at h1
      cases h1
  | succ n ih =>
    intro L a w hfree hr hm hy hS H
    refine ⟨fun h => (by rw [h] at hr; cases hr), fun j hj => ?_⟩
    by_cases hji : j = i
    · subst hji
      exact hy.wpOp hi hS ⟨fun _ => hS, H⟩
    · have hi0 := (mem_ready.1 hr).1
      have hjm : j ≠ m := fun e => by
        subst e
        exact waits_no hw hi0 hj
      have h1 := H.2 j (ready_mono hj hji)
      obtain ⟨hjun, oj, hoj, hall⟩ := mem_ready.1 hj
      have hnot : ∀ e ∈ oj.after, Region.binds md e = true → e.on ≠ i := fun e he hb heq => by
        have h1 := hall e he hb
        rw [heq] at h1
        rcases Nat.lt_or_ge i L.size with h' | h'
        · simp [h'] at hi0 h1
          rw [hi0] at h1
          cases h1
        · simp [Array.getElem?_eq_none h'] at h1
      have h2 := wpOp_putIf hoj (hfree j oj hoj hji hjun hnot) (fun cs b => hsel i oi cs b hi) (fun cs b => hsel j oj cs b hoj) hQ hy h1
      have hmj : (L.setIfInBounds j true).getD m true = false := by rw [getD_set_ne true hjm]; exact hm
      have hmij : ((L.setIfInBounds i true).setIfInBounds j true).getD m true = false := by rw [getD_set_ne true hjm, getD_set_ne true him]; exact hm
      refine wpOp_mono (fun a' w' h3 => ⟨fun _ => h3.2.1 hmij, ih (L.setIfInBounds j true) a' w' (fun k ok hk hki hun hno => ?_) (ready_mono hr (Ne.symm hji)) hmj h3.1 (h3.2.1 hmij) ?_⟩) h2
      · refine hfree k ok hk hki ?_ hno
        by_cases hjk : j = k
        · subst hjk; exact hjun
        · rw [getD_set_ne true hjk] at hun; exact hun
      · rw [Array.setIfInBounds_comm _ _ hji]
        exact h3.2.2
theorem tM (i d : Nat) (v : Value) {oi : Oper} {n : Nat} {L : Array Bool} {a : Act} {w : World}
    (h : wpM P md ops Q S m n (L.setIfInBounds i true) (a.put (some d) v) w) (hi : ops[i]? = some oi := by rfl) (hd : oi.dst = some d := by rfl)
    (hwt : waits md ops m i = true := by kernel_rfl) (him : i ≠ m := by decide) (hm0 : L.getD m true = false := by kernel_rfl)
    (hs : Region.noSelect ops = true := by kernel_rfl) (hf : Region.free md ops L i = true := by kernel_rfl) (hr : (Region.ready md ops L).contains i = true := by kernel_rfl)
    (hQ : ∀ c a w, Q (.panic c) (a.put oi.dst v) w → Q (.panic c) a w := by exact fun _ _ _ h => h) (hw : Region.wanted oi (yielded ops a.tmps) = true := by rfl)
    (hy : ∀ w, S w → (execOp a.eval oi).run P w = .ok (.value v) w := by intro wx hSw; obtain ⟨hs1, hs2⟩ := hSw; go_simp) (hS : S w := by assumption) :
    wpM P md ops Q S m (n + 1) L a w := by
  rw [← hd] at h
  exact wpM_first hi hwt him (Region.noSelect_spec hs) hQ n L a w (Region.free_spec hi hf) (by simpa using hr) hm0 (Or.inl ⟨hw, hy⟩) hS h
def AllM (P : Program) (md : Region.Mode) (ops : Array Oper) (Q : Exit → Act → World → Prop) (S : World → Prop) (m n : Nat) (L : Array Bool) (a : Act) (w : World) (rs : List Nat) : Prop :=
  ∀ i ∈ rs, wpOp P ops Q i (fun a' w' => ((L.setIfInBounds i true).getD m true = false → S w') ∧ wpM P md ops Q S m n (L.setIfInBounds i true) a' w') a w
theorem AllM.nil {n : Nat} {L : Array Bool} {a : Act} {w : World} : AllM P md ops Q S m n L a w [] := fun _ h => by cases h
theorem AllM.cons {n : Nat} {L : Array Bool} {a : Act} {w : World} {i : Nat} {o : Oper} {rs : List Nat} (ho : ops[i]? = some o)
    (h : ∀ K' : Act → World → Prop, Shut (∀ a w, ((L.setIfInBounds i true).getD m true = false → S w) → wpM P md ops Q S m n (L.setIfInBounds i true) a w → K' a w) → if Region.wanted o (yielded ops a.tmps) = true then Oper.wp P o a w K' Q else K' (a.put o.dst undef) w)
    (hs : AllM P md ops Q S m n L a w rs) : AllM P md ops Q S m n L a w (i :: rs) := fun j hj => by
  rcases List.mem_cons.1 hj with rfl | hj
  · exact wpOp_step ho (fun K' hK => h K' (fun a w hS hW => hK a w ⟨hS, hW⟩))
  · exact hs j hj
theorem wpM_ready {rs : List Nat} {n : Nat} {L : Array Bool} {a : Act} {w : World} (hr : Region.ready md ops L = rs) (hne : rs ≠ []) (h : AllM P md ops Q S m n L a w rs) : wpM P md ops Q S m (n + 1) L a w :=
  ⟨fun h0 => absurd (hr ▸ h0) hne, hr ▸ h⟩
theorem wpM_done {L : Array Bool} {a : Act} {w : World} (hr : Region.ready md ops L = []) (h : Q .normal a w) : ∀ n, wpM P md ops Q S m n L a w
  | 0 => ⟨hr, h⟩
  | _ + 1 => ⟨fun _ => h, by rw [hr]; simp⟩
theorem wp_region_M (S : World → Prop) (m : Nat) {id : Nat} {a : Act} {w : World} (hm : P.follows .mixedOrders = true) (hS : S w.drew)
    (h : S w.drew → wpM P .any ops Q S m ops.size (Array.replicate ops.size false) a w.drew) : (Code.region id ops true).wp P Q a w := wp_region_any hm (wpM_any _ _ _ _ (h hS))
end
end Go.Proofs.YtbbjhepagkkjeaaGreatDoor
namespace Go.Proofs.YtbbjhepagkkjeaaGreatDoor
open Go Go.RowKit
set_option maxRecDepth 100000 in
set_option maxHeartbeats 16000000 in
theorem l3SpoilDb_DwSpo2 (w : World) (R : Nat) (a : Option Addr) (cap : Nat) (bs : List Nat) (p : Nat) (h : Rd w R a cap bs p) (lab : Lq) (B : Nat) (v : Value) (d : List Td) (hD : DbS w lab B v d) (hRB : R < B) (hBw : B ≤ w.heap.size) (hd3 : d.length = 3) (hpos : ∀ t ∈ d, 0 ≤ t.co ∧ t.co ≤ 3 ∧ t.rs.length ≤ 1000) (hy9 : (nxt bs p : Int) % 8 = 2) :
    Calls Tryz.prog 36 #[.pointer (some ⟨R, 0, none⟩), .agg #[v]] w (SpE w R B) := by
  have HY := hide hy9
  clear hy9
  obtain ⟨va, vc, rfl⟩ := hD.form
  rw [hd3] at hD ⊢
  have hR := h.size
  have hBb : Below w.heap.size w ((w.alloc (.cells #[.slice va 3 vc] 26)).alloc (.cells #[.slice none 0 0] 26)) := bA (bA (Below.refl _ _) _) _
  have N1 := hide (next_calls _ R a cap bs p (h.of hBb))
  have hk := nxt_le h p
  have HD := hide (hD.of hBb); have HBb := hide hBb
  have hl0 : (lab w.heap.size).1 = 0 := by
    apply Classical.byContradiction
    intro e
    have := (hD.rng _ e).2.1
    omega
  have HVw : Hid (∀ g, (Value.slice va 3 vc).ownBlock = some g → g < w.heap.size) := fun g e => (hD.own.lt g e).2
  have hl1 : (lab (w.heap.size + 1)).1 = 0 := by
    apply Classical.byContradiction
    intro e
    have := (hD.rng _ e).2.1
    omega
  clear h hBb hD
  go_enter Tryz.func36, Tryz.ntmps36
  go_wp2_with fail
  refine (unhide N1).mono ?_; rintro e w1 ⟨rfl, hr1, hd1⟩
  have N2 := hide (fun W hW => next_calls W R a cap bs (adv bs p) hW)
  have q0 : w1.cell? ⟨w.heap.size, 0, none⟩ = some (.slice va 3 vc) := (hd1.cell 0 (by simp; omega) (by omega)).trans (by simp [go_sem])
  have q1 : w1.cell? ⟨w.heap.size + 1, 0, none⟩ = some (.slice none 0 0) := (hd1.cell 0 (by simp) (by omega)).trans (by simp [go_sem])
  have q2 : ∀ o, w1.frozen? ⟨w.heap.size + 1, o, none⟩ = false := fun o => (hd1.frozen o (by simp) (by omega)).trans (by simp [go_sem])
  have HZ1 : Hid (∀ o, w1.frozen? ⟨w.heap.size, o, none⟩ = false) := fun o => (hd1.frozen o (by simp; omega) (by omega)).trans (by simp [go_sem])
  have qs : w.heap.size + 1 < w1.heap.size := by have := hd1.size; simp at this; omega
  have qs0 : w.heap.size < w1.heap.size := by omega
  have hk2 := nxt_le hr1 (adv bs p)
  have HN2 := hide (unhide N2 w1.drew (hr1.of (Below.refl _ _).drew))
  have HD1 := hide ((unhide HD).butB hd1.toBut (fun g e e' => by have := ((unhide HD).own.lt g e).1; omega) (fun b e e' => by have := ((unhide HD).rng b e).1; omega))
  have HL1 := hide ((unhide HBb).mono (show R ≤ w.heap.size by omega) |>.trans hd1.low)
  clear N1 N2 hr1 hd1 HD HBb
  generalize nxt bs p = K at *
  generalize nxt bs (adv bs p) = K2 at *
  generalize adv bs (adv bs p) = p2 at *
  obtain ⟨I, hI⟩ : ∃ I : Nat, (K2 : Int) % 3 = (I : Int) := ⟨K2 % 3, by omega⟩
  have hI3 : I < 3 := by omega
  have hIt : (K2 : Int).tmod 3 = (I : Int) := by rw [Int.tmod_eq_emod_of_nonneg (by omega)]; exact hI
  go_upto_region 2 with fail
  refine wp_region_held_drew (S := fun W => W.cell? ⟨w.heap.size, 0, none⟩ = some (.slice va 3 vc) ∧ W.cell? ⟨w.heap.size, 0, none⟩ = some (.slice va 3 vc)) (by kernel_rfl) ⟨q0, q0⟩ (fun hHeld => ?_)
  refine tW 0 12 (.pointer (some ⟨R, 0, none⟩)) ?_
  simp only [puts]
  refine tW 2 14 (.pointer (some ⟨w.heap.size, 0, none⟩)) ?_
  simp only [puts]
  refine tW 3 15 (.slice va 3 vc) ?_
  simp only [puts]
  refine tW 4 16 (.int .i64 3) ?_
  simp only [puts]
  refine wpAnyH_ready (rs := [1]) (by kernel_rfl) (by simp) ?_
  refine AllReadyH.cons rfl (fun Kx hK => ?_) AllReadyH.nil
  go_simp
  refine (unhide HN2).mono ?_
  rintro e w2 ⟨rfl, hr2, hd2⟩
  have q0' : w2.cell? ⟨w.heap.size, 0, none⟩ = some (.slice va 3 vc) := (hd2.cell 0 qs0 (by omega)).trans q0
  have q1' : w2.cell? ⟨w.heap.size + 1, 0, none⟩ = some (.slice none 0 0) := (hd2.cell 0 qs (by omega)).trans q1
  have q2' : ∀ o, w2.frozen? ⟨w.heap.size + 1, o, none⟩ = false := fun o => (hd2.frozen o qs (by omega)).trans (q2 o)
  have HZ2 : Hid (∀ o, w2.frozen? ⟨w.heap.size, o, none⟩ = false) := fun o => (hd2.frozen o qs0 (by omega)).trans (unhide HZ1 o)
  have qs' : w.heap.size + 1 < w2.heap.size := Nat.lt_of_lt_of_le qs hd2.size
  have qs0' : w.heap.size < w2.heap.size := by omega
  refine hK.out _ _ ⟨q0', q0'⟩ (fun hHeld2 => ?_)
  clear hK Kx
  refine tW 5 17 (.int .i64 (I : Int)) ?_
  simp only [puts]
  refine tW 6 6 (.int .i64 (I : Int)) ?_
  simp only [puts]
  refine wpAnyH_done (by kernel_rfl) ?_ _
  have hDr := (unhide HD1).of (Below.refl w1.heap.size w1).drew
  have hD2 := hDr.butB hd2.toBut (fun g e e' => by have := (hDr.own.lt g e).1; omega) (fun b e e' => by have := (hDr.rng b e).1; omega)
  have HL2 := hide ((unhide HL1).trans ((Below.refl R w1).drew.trans hd2.low))
  obtain ⟨t, ht⟩ : ∃ t, d[I]? = some t := ⟨d[I]'(by omega), List.getElem?_eq_getElem (by omega)⟩
  obtain ⟨g, rfl, hgB, hg, hgl, c0, c1, c2⟩ := hD2.at I t ht
  have hT := hD2.tab I t ht
  obtain ⟨ua, uc, hu⟩ := hT.form
  rw [hu] at c2
  have hgw : g < w.heap.size := unhide HVw g rfl
  have hI3' : (I : Int) < 3 := by omega
  have HD2 := hide hD2; have HT2 := hide hT; have HU := hide hu; have HTi := hide ht; have HR2 := hide hr2
  have hgf := fun o => (hd3 ▸ hD2.own).frozenAt o
  clear hHeld hHeld2 hDr hD2 hT hu ht hr2 hd2 HD1 HL1 HN2 q0 q1 q2 qs qs0 hI
  have hB3 := bA (Below.refl w2.heap.size w2) (.cells #[.string (mkS t.nm), .int .i64 t.co, .slice ua t.rs.length uc] 32)
  have hD3 := (unhide HD2).of hB3
  have hT3 := (unhide HT2).butB (S := fun _ => False) (ButB.ofBelow hB3) (fun _ _ e => e)
  have e0 := (hB3.cell (p := ⟨g, I * 3, none⟩) hg).trans c0
  have e1 := (hB3.cell (p := ⟨g, I * 3 + 1, none⟩) hg).trans c1
  have e2 := (hB3.cell (p := ⟨g, I * 3 + 2, none⟩) hg).trans c2
  have ef := fun o => (hB3.frozen (p := ⟨g, o, none⟩) hg).trans (hgf o)
  have r0 := (hB3.cell (p := ⟨w.heap.size, 0, none⟩) qs0').trans q0'
  have r1 := (hB3.cell (p := ⟨w.heap.size + 1, 0, none⟩) qs').trans q1'
  have r2 := fun o => (hB3.frozen (p := ⟨w.heap.size + 1, o, none⟩) qs').trans (q2' o)
  have HZ3 := hide (fun o => (hB3.frozen (p := ⟨w.heap.size, o, none⟩) qs0').trans (unhide HZ2 o))
  obtain ⟨b0, b1, b2⟩ := (fun Q (hQ : (w2.alloc (.cells #[.string (mkS t.nm), .int .i64 t.co, .slice ua t.rs.length uc] 32)) = Q) => (by subst hQ; exact ⟨by simp [go_sem], by simp [go_sem], by simp [go_sem]⟩ : Q.cell? ⟨w2.heap.size, 0, none⟩ = some (.string (mkS t.nm)) ∧ Q.cell? ⟨w2.heap.size, 1, none⟩ = some (.int .i64 t.co) ∧ Q.cell? ⟨w2.heap.size, 2, none⟩ = some (.slice ua t.rs.length uc))) _ rfl
  have bf : ∀ o, (w2.alloc (.cells #[.string (mkS t.nm), .int .i64 t.co, .slice ua t.rs.length uc] 32)).frozen? ⟨w2.heap.size, o, none⟩ = false := fun o => by simp [go_sem]
  have z0 : w.heap.size + 1 < (w2.alloc (.cells #[.string (mkS t.nm), .int .i64 t.co, .slice ua t.rs.length uc] 32)).heap.size := by simp; omega
  have z1 : w2.heap.size < (w2.alloc (.cells #[.string (mkS t.nm), .int .i64 t.co, .slice ua t.rs.length uc] 32)).heap.size := by simp
  have z2 : g < (w2.alloc (.cells #[.string (mkS t.nm), .int .i64 t.co, .slice ua t.rs.length uc] 32)).heap.size := by simp; omega
  have z3 : w.heap.size < (w2.alloc (.cells #[.string (mkS t.nm), .int .i64 t.co, .slice ua t.rs.length uc] 32)).heap.size := by omega
  have x1 : w.heap.size + 1 < w2.heap.size := qs'
  have HD3 := hide hD3; have HT3 := hide hT3; have HR3 := hide ((unhide HR2).of hB3)
  have HL3 := hide (bT2 (unhide HL2) hB3)
  have hlb : (lab w2.heap.size).1 = 0 := by
    apply Classical.byContradiction
    intro e
    have := ((unhide HD2).rng _ e).2.1
    omega
  have hpt := hpos t (List.mem_of_getElem? (unhide HTi))
  clear hB3 hD3 hT3 HD2 HT2 HR2 HL2 hgf
  go_upto_region 4 with fail
  clear c0 c1 c2 q0' q1' q2' qs' qs0' hg hI3'
  generalize (w2.alloc (.cells #[.string (mkS t.nm), .int .i64 t.co, .slice ua t.rs.length uc] 32)) = W at *
  generalize w2.heap.size = bt at *
  obtain ⟨M, hM⟩ : ∃ M : Nat, (K : Int) / 8 = (M : Int) := ⟨K / 8, by omega⟩
  have hM2 : M ≤ 31 := by omega
  have hMw : IntKind.i64.wrap (M : Int) = (M : Int) := wrap_small _ (by omega) (by omega)
  have hI3' : (I : Int) < 3 := by omega
  have n1 : ¬ g = bt := by omega
  have n2 : ¬ bt = g := by omega
  have n3 : ¬ g = w.heap.size := by omega
  have n4 : ¬ g = w.heap.size + 1 := by omega
  have n5 : ¬ bt = w.heap.size := by omega
  have n6 : ¬ bt = w.heap.size + 1 := by omega
  have n7 : ¬ w.heap.size = g := by omega
  have n8 : ¬ w.heap.size + 1 = g := by omega
  have n9 : ¬ w.heap.size = bt := by omega
  have n10 : ¬ w.heap.size + 1 = bt := by omega
  have HF0 : Hid (SpF w W g bt I vc t t.nm t.co t.u) := ⟨e0, e1, by rw [unhide HU]; exact e2, ef, r0, r1, r2, b0, b1, by rw [unhide HU]; exact b2, bf, z2, z0, z1⟩
  have HBt : Hid (∀ b, (lab b).1 ≠ 0 → ¬ b = bt) := fun b e e' => e (by rw [e']; exact hlb)
  have hRg : R ≤ g := by omega
  have hRb : R ≤ bt := by omega
  have y := unhide HY
  obtain ⟨cc, hcc⟩ : ∃ cc : Nat, (M : Int) % 4 = (cc : Int) := ⟨M % 4, by omega⟩
  have hc4 : cc ≤ 3 := by omega
  have hcct : (M : Int).tmod 4 = (cc : Int) := by rw [Int.tmod_eq_emod_of_nonneg (by omega)]; exact hcc
  clear hcc
  have hLr : t.rs.length ≤ 1000 := hpt.2.2
  have hL0 : SpL w W R B g bt I vc a cap bs t d lab (.slice ua t.rs.length uc) t.rs p2 := ⟨by rw [← unhide HU]; exact unhide HF0, (unhide HD3).toJ I, by rw [← unhide HU]; exact unhide HT3, unhide HR3, unhide HL3, hl1, hl0, hlb, hgl, hRB, hBw, hgB, hgw, x1⟩
  obtain ⟨ti, hti, hz⟩ := Option.map_eq_some_iff.1 (show (Tryz.prog.info? 52).map (fun i => (i.zero, i.size, i.bytes)) = some (some (.slice none 0 0), 1, 24) by kernel_rfl)
  simp only [Prod.mk.injEq] at hz
  obtain ⟨hz0, hz1, hz2⟩ := hz
  have HL0 := hide hL0
  clear hL0 HF0 HBt HD3 HT3 HR3 HL3
  have L1 := hide ((unhide HL0).of (Below.refl W.heap.size W).drew)
  have HDR := hide (l1DrawRow_calls _ R a cap bs p2 cc (unhide L1).rd (by omega))
  clear HL0
  go_upto_region 9 with fail
  refine wp_region_M (fun W => W.cell? ⟨bt, 2, none⟩ = some (Value.slice ua t.rs.length uc) ∧ W.cell? ⟨bt, 2, none⟩ = some (Value.slice ua t.rs.length uc)) 10 (by kernel_rfl) ⟨b2, b2⟩ (fun hHeld => ?_)
  refine tM 0 40 (.pointer (some ⟨bt, 2, none⟩)) ?_
  simp only [puts]
  refine tM 1 41 (.slice ua t.rs.length uc) ?_
  simp only [puts]
  refine tM 2 42 (.pointer (some ⟨R, 0, none⟩)) ?_
  simp only [puts]
  refine tM 3 43 (.int .i64 (K : Int)) ?_
  simp only [puts]
  refine tM 4 44 (.int .i64 (M : Int)) ?_
  simp only [puts]
  refine tM 5 45 (.int .i64 (cc : Int)) ?_
  simp only [puts]
  refine wpM_ready (rs := [6]) (by kernel_rfl) (by simp) ?_
  refine AllM.cons rfl (fun Kx hK => ?_) AllM.nil
  go_simp
  refine (unhide HDR).mono ?_
  rintro e w6 ⟨⟨g1, k1, rfl, ho1⟩, hr6, hd6⟩
  have L2 := hide ((unhide L1).draw hd6 hr6)
  have hg1 : W.heap.size ≤ g1 := ho1.lt.2.1
  have hg2 : g1 < w6.heap.size := ho1.lt.1
  have HRT := hide (ho1.ownRow.rowT)
  have hH6 := And.intro (unhide L2).f.b2 (unhide L2).f.b2
  clear ho1 hr6 hd6
  refine hK.out _ _ (fun _ => hH6) ?_
  clear hK Kx
  refine wpM_ready (rs := [7]) (by kernel_rfl) (by simp) ?_
  refine AllM.cons rfl (fun Kx hK => ?_) AllM.nil
  go_simp
  have hal := bA (Below.refl w6.heap.size w6) (.cells #[.slice (some ⟨g1, 0, none⟩) cc k1] 52)
  have L3 := hide ((unhide L2).of hal)
  have hH7 := And.intro (unhide L3).f.b2 (unhide L3).f.b2
  refine hK.out _ _ (fun _ => hH7) ?_
  clear hK Kx
  refine wpM_ready (rs := [8]) (by kernel_rfl) (by simp) ?_
  refine AllM.cons rfl (fun Kx hK => ?_) AllM.nil
  refine step_append_lies _ rfl (.tmp 41) (.tmp 47) 30 rfl B 52 ti _ 1 24 Tryz.underlying30 hti hz0 hz1 hz2 rfl (by decide) (Value.slice ua t.rs.length uc) t.rs.length (t.rs.map rv) rfl (show World.ownsRow _ B _ 1 (Value.slice ua t.rs.length uc) t.rs.length (t.rs.map rv) from by have h' := (unhide L3).td.own; exact h') ⟨w6.heap.size, 0, none⟩ 1 1 [.slice (some ⟨g1, 0, none⟩) cc k1] rfl rfl (World.news_of_block (cs := #[.slice (some ⟨g1, 0, none⟩) cc k1]) (MapKept.heap_alloc w6 _).1) (by intro u hu; simp at hu; subst hu; rfl) (by decide) (by unfold maxLen; omega) (by omega) (by simp; omega) _ rfl ?_
  intro G2 c3 w7 hown hgrow hat hlt2
  have hrv : rv (g1, k1, (dRowN bs p2 cc).1) = .slice (some ⟨g1, 0, none⟩) cc k1 := by simp [rv, dRowN_length]
  rw [← hrv] at hown
  have hB7 := (ButB.grown (S := fun b => (Value.slice ua t.rs.length uc).ownBlock = some b) hgrow (fun b e => e))
  have hno7 : ¬ (Value.slice ua t.rs.length uc).ownBlock = some bt := fun e => by
    have h1 := (unhide L3).td.blk bt e
    have h2 := (unhide L3).lb
    rw [h1] at h2
    simp at h2
  have y3 := (hB7.cell bt 2 (unhide L3).f.zb hno7).trans (unhide L3).f.b2
  have y3b := (hB7.cell bt 2 (unhide L3).f.zb hno7).trans (unhide L3).f.b2
  have y4 := fun o => (hB7.frz bt o (unhide L3).f.zb hno7).trans ((unhide L3).f.bf o)
  have y5 : bt < w7.heap.size := Nat.lt_of_lt_of_le (unhide L3).f.zb hB7.size
  have HP := hide (SpL.push (rfl) (unhide L3) ((unhide HRT).butB (S := fun _ => False) (ButB.ofBelow hal) (fun e => e)) (by rw [dRowN_length]; omega) (by
    apply Classical.byContradiction
    intro e
    have h1 := ((unhide L1).db.rng _ e).2.1
    have h2 : W.drew.heap.size = W.heap.size := rfl
    omega) (by omega) hown hgrow hat (by omega))
  clear hown hgrow hat hlt2 L2 L3 HRT hal hB7 hno7 hrv
  refine hK.out _ _ (fun _ => ⟨y3, y3b⟩) ?_
  clear hK Kx
  (try simp only [puts])
  refine tM 9 49 (.pointer (some ⟨bt, 2, none⟩)) ?_ (hS := ⟨y3, y3b⟩)
  (try simp only [puts])
  refine wpM_ready (rs := [10]) (by kernel_rfl) (by simp) ?_
  refine AllM.cons rfl (fun Kx hK => ?_) AllM.nil
  go_simp
  refine hK.out _ _ (fun h => Bool.noConfusion (show true = false from h)) ?_
  clear hK Kx
  refine wpM_done (by kernel_rfl) ?_ _
  have HFin := hide (SpE.finJ (unhide HP).db hd3 hI3 (unhide HP).td (unhide HP).low hR hRg (unhide HP).l1 n4)
  have HF := hide (unhide HP).f
  clear HP HDR L1
  go_upto_region 24 with fail
  generalize (w7.setCell ⟨bt, 2, none⟩ (.slice (some ⟨G2, 0, none⟩) (t.rs.length + 1) c3)) = W5 at *
  clear e0 e1 e2 ef r0 r1 r2 b0 b1 b2 bf z0 z1 z2 z3 y3 y3b y4 y5
  obtain ⟨e0, e1, e2, ef, r0, r1, r2, b0, b1, b2, bf, zg, z0, zb⟩ := unhide HF
  rw [unhide HU] at e2
  have z3 : w.heap.size < W5.heap.size := by omega
  go_wp2
  refine bodyPost_ret (v := .agg #[.slice (some ⟨g, 0, none⟩) 3 vc]) (by simp [results, Tryz.results36, go_sem, r1]) rfl (unhide HFin)
end Go.Proofs.YtbbjhepagkkjeaaGreatDoor
