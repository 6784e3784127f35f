import Derived.Test.YtnchcndcinpalaaGreatDoorSpecSimp
import Derived.Test.YtnchcndcinpalaaGreatDoorQ41
import Derived.Test.YtnchcndcinpalaaGreatDoorQ17
import Derived.Test.YtnchcndcinpalaaGreatDoorQ42
import Derived.Test.YtnchcndcinpalaaGreatDoorQ43
import Derived.Test.YtnchcndcinpalaaGreatDoorQ44
import Derived.Test.YtnchcndcinpalaaGreatDoorQ45
import Derived.Test.YtnchcndcinpalaaGreatDoorQ26
import Derived.Test.YtnchcndcinpalaaGreatDoorQ25
import Derived.Test.YtnchcndcinpalaaGreatDoorQ46
import Derived.Deep.RegionHeld3
/-
  THE LAW OF Simplify: bounds, and the state of its walk.
-/
namespace Go.Proofs.YtnchcndcinpalaaGreatDoor
open Go Go.RowKit

/-- a flat plan's nodes that may be marked, none at all among them -/
def OwnF (w : World) (lab : Lb) (v : Value) (out : List Fn) : Prop :=
  (out = [] ∧ ∃ a c, v = .slice a 0 c) ∨ ∃ G c, v = .slice (some ⟨G, 0, none⟩) out.length c ∧ FlM w lab G out
theorem OwnF.of {w w1 : World} {lab : Lb} {v : Value} {out : List Fn} (h : OwnF w lab v out) (hb : Below w.heap.size w w1) : OwnF w1 lab v out := by
  rcases h with h | ⟨G, c, h1, h2⟩
  · exact Or.inl h
  · exact Or.inr ⟨G, c, h1, h2.of hb⟩
theorem OwnF.but {w w1 : World} {lab : Lb} {v : Value} {out : List Fn} {T : Nat → Prop} (h : OwnF w lab v out) (hb : ButM T w w1) (hT : ∀ b, (lab b).1 ≤ 3 → ¬ T b) : OwnF w1 lab v out := by
  rcases h with h | ⟨G, c, h1, h2⟩
  · exact Or.inl h
  · exact Or.inr ⟨G, c, h1, h2.but hb hT⟩
theorem OwnF.is {w : World} {lab : Lb} {v : Value} {out : List Fn} (h : OwnF w lab v out) : IsFns w v out := by
  rcases h with h | ⟨G, c, h1, h2⟩
  · exact Or.inl h
  · subst h1; exact h2.isFns c
theorem OwnF.keeps {s : Nat} {w w' : World} {lab : Lb} {v : Value} {out : List Fn} (h : OwnF w lab v out) (hl : ∀ b, (lab b).1 ≤ 3 → s ≤ b) (hk : Keeps s w w') : IsFns w' v out := by
  rcases h with h | ⟨G, c, h1, h2⟩
  · exact Or.inl h
  · subst h1; exact h2.keeps hl hk c
theorem markFlat_own (out : List Fn) (Rt : Int) (lab : Lb) (v : Value) (k : Nat) (w : World) (h : OwnF w lab v out) (b1 : out.length ≤ 1048576) (b2 : ∀ p ∈ out, p.Ex.length ≤ 1048576 ∧ p.Exs.length ≤ 1048576 ∧ ∀ xs ∈ p.Exs, xs.length ≤ 1048576) (bk : k + kNs out ≤ 536870912) :
    Calls Tryz.prog 13 #[.agg #[v, .int .i64 Rt], .int .i64 k] w fun e w' => e = .returned (.int .i64 ((k + kNs out : Nat) : Int)) ∧ OwnF w' lab v (mFns k out) ∧ ButM (fun b => (lab b).1 ≤ 3) w w' := by
  rcases h with ⟨rfl, a, c, rfl⟩ | ⟨G, c, rfl, h2⟩
  · refine (markFlat_nil a Rt c k w).mono ?_; rintro e w' ⟨rfl, hb⟩
    exact ⟨rfl, Or.inl ⟨by simp [mFns], a, c, rfl⟩, ButM.ofBelow hb⟩
  · refine (markFlat_calls out Rt lab G c k w h2 b1 b2 bk).mono ?_; rintro e w' ⟨rfl, hF, hB⟩
    exact ⟨rfl, Or.inr ⟨G, c, by simp [mFns], hF⟩, hB⟩

theorem kNs_le (fs : List Fn) : kNs fs ≤ 6 * fs.length + 2 * bulkF fs := by
  induction fs with
  | nil => simp [kNs]
  | cons p r ih => simp only [kNs, kN, bulkF, List.length_cons]; omega
theorem kTs_le (ts : List Tb) : kTs ts ≤ 2 * ts.length + 2 * bulkT ts := by
  induction ts with
  | nil => simp [kTs]
  | cons p r ih => simp only [kTs, bulkT, List.length_cons]; omega
theorem bulkO_app (a b : List (List O2)) : bulkO (a ++ b) = bulkO a + bulkO b := by
  induction a with
  | nil => simp [bulkO]
  | cons x a ih => simp only [List.cons_append, bulkO, ih]; omega
theorem bulkO_colExs : ∀ m, bulkO (colExs m) = m := fun m => by
  induction m with
  | zero => simp [colExs, bulkO]
  | succ m ih =>
    have : colExs (m + 1) = colExs m ++ [[((3 : Int), (m : Int))]] := by simp [colExs, List.range_succ]
    rw [this, bulkO_app, ih]
    simp [bulkO]
theorem askedN_small {ts : List Tb} {fs : List Fn} {Rt : Int} (hV : FlatV ts fs Rt) {j : Nat} (hj : j < fs.length) (fit : ∀ p ∈ fs, p.Ex.length ≤ 1048576 ∧ p.Exs.length ≤ 1048576 ∧ ∀ xs ∈ p.Exs, xs.length ≤ 1048576) :
    kN (askedN ts fs Rt fs[j]) ≤ kN fs[j] + 410 ∧ (askedN ts fs Rt fs[j]).Ex.length ≤ 1048576 ∧ (askedN ts fs Rt fs[j]).Exs.length ≤ 1048576 ∧ ∀ xs ∈ (askedN ts fs Rt fs[j]).Exs, xs.length ≤ 1048576 := by
  unfold askedN
  split
  · obtain ⟨q, m, h1, h2, h3, h4⟩ := asks_pos hV.db hV.all hj (by assumption)
    have e : (fw ts fs (fs[j]).L.toNat - 1).toNat = m := by rw [h1, show ((q : Int)).toNat = q by omega, h3]; omega
    rw [e]
    refine ⟨?_, by simp, by simp [colExs_length]; omega, fun xs hx => ?_⟩
    · simp only [kN, bulkO_app, bulkO_colExs, List.length_nil]
      simp [bulkO]
      omega
    · rcases List.mem_append.1 hx with hx | hx
      · simp only [colExs, List.mem_map] at hx
        obtain ⟨_, _, rfl⟩ := hx
        simp
      · simp at hx
        subst hx
        simp
  · exact ⟨by omega, fit _ (List.getElem_mem hj)⟩
theorem simpTo_kNs {ts : List Tb} {fs : List Fn} {Rt : Int} (hV : FlatV ts fs Rt) (fit : ∀ p ∈ fs, p.Ex.length ≤ 1048576 ∧ p.Exs.length ≤ 1048576 ∧ ∀ xs ∈ p.Exs, xs.length ≤ 1048576) : ∀ k, k ≤ fs.length → kNs (simpTo ts fs Rt k) ≤ kNs (fs.take k) + 410 * k := fun k => by
  induction k with
  | zero => intro _; simp [simpTo, kNs]
  | succ k ih =>
    intro hk
    have hk' : k < fs.length := by omega
    rw [simpTo_succ ts fs Rt k hk', kNs_append, kNs_take fs k hk']
    have h1 := (askedN_small hV hk' fit).1
    have h2 : kNs [simpN ts fs Rt k fs[k]] = kN (askedN ts fs Rt fs[k]) := by simp [kNs, simpN, kN]
    have := ih (by omega)
    omega
theorem simpTo_fit {ts : List Tb} {fs : List Fn} {Rt : Int} (hV : FlatV ts fs Rt) (fit : ∀ p ∈ fs, p.Ex.length ≤ 1048576 ∧ p.Exs.length ≤ 1048576 ∧ ∀ xs ∈ p.Exs, xs.length ≤ 1048576) : ∀ p ∈ simpTo ts fs Rt fs.length, p.Ex.length ≤ 1048576 ∧ p.Exs.length ≤ 1048576 ∧ ∀ xs ∈ p.Exs, xs.length ≤ 1048576 := fun p hp => by
  unfold simpTo at hp
  obtain ⟨i, hi, rfl⟩ := List.mem_map.1 hp
  have hi' := List.mem_range.1 hi
  rw [List.getD_eq_getElem?_getD, List.getElem?_eq_getElem hi']
  exact (askedN_small hV hi' fit).2

/-- the boxes of the walk, and where what they hold lies -/
structure LS (Wb W : World) (n nt : Nat) (Rt Ro : Int) (X0 X1 X2 gx gd B T : Nat) (labx labg : Lb) (vg : Value) : Prop where
  low : Below Wb.heap.size Wb W
  x0 : W.cell? ⟨X0, 0, none⟩ = some (.slice (some ⟨gx, 0, none⟩) n n)
  x0r : W.cell? ⟨X0, 1, none⟩ = some (.int .i64 Rt)
  x1 : W.cell? ⟨X1, 0, none⟩ = some (.slice (some ⟨gd, 0, none⟩) nt nt)
  x2 : W.cell? ⟨X2, 0, none⟩ = some vg
  x2r : W.cell? ⟨X2, 1, none⟩ = some (.int .i64 Ro)
  o1 : Wb.heap.size ≤ X0
  o2 : X0 < X1
  o3 : X1 < X2
  o4 : X2 < W.heap.size
  rx : ∀ b, (labx b).1 ≤ 3 → Wb.heap.size ≤ b ∧ b < X0
  rd : X0 < B ∧ T ≤ X1
  rg : ∀ b, (labg b).1 ≤ 3 → X1 < b ∧ b < X2
theorem LS.of {Wb W W' : World} {n nt : Nat} {Rt Ro : Int} {X0 X1 X2 gx gd B T : Nat} {labx labg : Lb} {vg : Value} (h : LS Wb W n nt Rt Ro X0 X1 X2 gx gd B T labx labg vg) (hb : Below W.heap.size W W') : LS Wb W' n nt Rt Ro X0 X1 X2 gx gd B T labx labg vg := by
  have h2 := h.o2; have h3 := h.o3; have h4 := h.o4
  exact ⟨bT h.low hb, (hb.cell (p := ⟨X0, 0, none⟩) (by dsimp only; omega)).trans h.x0, (hb.cell (p := ⟨X0, 1, none⟩) (by dsimp only; omega)).trans h.x0r, (hb.cell (p := ⟨X1, 0, none⟩) (by dsimp only; omega)).trans h.x1, (hb.cell (p := ⟨X2, 0, none⟩) h4).trans h.x2, (hb.cell (p := ⟨X2, 1, none⟩) h4).trans h.x2r, h.o1, h2, h3, Nat.lt_of_lt_of_le h4 hb.size, h.rx, h.rd, h.rg⟩
theorem LS.but {Wb W W' : World} {n nt : Nat} {Rt Ro : Int} {X0 X1 X2 gx gd B T : Nat} {labx labg : Lb} {vg : Value} {S : Nat → Prop} (h : LS Wb W n nt Rt Ro X0 X1 X2 gx gd B T labx labg vg) (hb : ButM S W W') (hS : ∀ b, S b → Wb.heap.size ≤ b ∧ b ≠ X0 ∧ b ≠ X1 ∧ b ≠ X2) : LS Wb W' n nt Rt Ro X0 X1 X2 gx gd B T labx labg vg := by
  have h2 := h.o2; have h3 := h.o3; have h4 := h.o4
  have k0 : ¬ S X0 := fun e => (hS _ e).2.1 rfl
  have k1 : ¬ S X1 := fun e => (hS _ e).2.2.1 rfl
  have k2 : ¬ S X2 := fun e => (hS _ e).2.2.2 rfl
  exact ⟨h.low.trans (hb.low _ (fun b e => (hS b e).1) h.low.size), (hb.cell X0 0 (by omega) k0).trans h.x0, (hb.cell X0 1 (by omega) k0).trans h.x0r, (hb.cell X1 0 (by omega) k1).trans h.x1, (hb.cell X2 0 h4 k2).trans h.x2, (hb.cell X2 1 h4 k2).trans h.x2r, h.o1, h2, h3, Nat.lt_of_lt_of_le h4 hb.size, h.rx, h.rd, h.rg⟩
structure LG (s : Nat) (Rt : Int) (va vb : Value) (W : World) : Prop where
  a : W.cell? ⟨s, 0, none⟩ = some va
  r : W.cell? ⟨s, 1, none⟩ = some (.int .i64 Rt)
  b : W.cell? ⟨s + 1, 0, none⟩ = some vb
  sz : s + 1 < W.heap.size
theorem LG.of {s : Nat} {Rt : Int} {va vb : Value} {W W1 : World} (h : LG s Rt va vb W) (hb : Below W.heap.size W W1) : LG s Rt va vb W1 := by
  have hs := h.sz
  exact ⟨(hb.cell (p := ⟨s, 0, none⟩) (show s < _ by omega)).trans h.a, (hb.cell (p := ⟨s, 1, none⟩) (show s < _ by omega)).trans h.r, (hb.cell (p := ⟨s + 1, 0, none⟩) (show s + 1 < _ by omega)).trans h.b, Nat.lt_of_lt_of_le hs hb.size⟩
theorem smallT_eachF {ts : List Tb} (h : SmallT ts) : ∀ t ∈ ts, t.Rows.length ≤ 1048576 ∧ bulk t.Rows ≤ 1048576 := fun t ht => by
  have := bulkT_mem ht
  unfold SmallT at h
  exact ⟨by omega, by omega⟩
theorem smallF_each {ps : List Fn} (h : bulkF ps ≤ 1048576) : ∀ p ∈ ps, p.Ex.length ≤ 1048576 ∧ p.Exs.length ≤ 1048576 ∧ bulkO p.Exs ≤ 1048576 := fun p hp => by
  have := bulkF_mem hp
  exact ⟨by omega, by omega, by omega⟩
theorem smallF_fit {ps : List Fn} (h : bulkF ps ≤ 1048576) : ∀ p ∈ ps, p.Ex.length ≤ 1048576 ∧ p.Exs.length ≤ 1048576 ∧ ∀ xs ∈ p.Exs, xs.length ≤ 1048576 := fun p hp => by
  have := bulkF_mem hp
  exact ⟨by omega, by omega, fun xs hx => by have := bulkO_mem hx; omega⟩
/-- a box that holds a flat plan -/
structure BoxF (w : World) (X : Nat) (v : Value) (Ro : Int) (out : List Fn) : Prop where
  c0 : w.cell? ⟨X, 0, none⟩ = some v
  c1 : w.cell? ⟨X, 1, none⟩ = some (.int .i64 Ro)
  sz : X < w.heap.size
  is : IsFns w v out
theorem BoxF.of {w w1 : World} {X : Nat} {v : Value} {Ro : Int} {out : List Fn} (h : BoxF w X v Ro out) (hb : Below w.heap.size w w1) : BoxF w1 X v Ro out :=
  ⟨(hb.cell (p := ⟨X, 0, none⟩) h.sz).trans h.c0, (hb.cell (p := ⟨X, 1, none⟩) h.sz).trans h.c1, Nat.lt_of_lt_of_le h.sz hb.size, h.is.of hb⟩
theorem box_leaf1 {s X : Nat} {w : World} {v : Value} {Ro : Int} {out : List Fn} {u0 u1 : Value} (hk : ∀ W', Keeps s w W' → IsFns W' v out) (hX : X < s) (b0 : w.cell? ⟨X, 0, none⟩ = some u0) (b1 : w.cell? ⟨X, 1, none⟩ = some u1) (bs : X < w.heap.size) :
    BoxF ((w.setCell ⟨X, 0, none⟩ v).setCell ⟨X, 1, none⟩ (.int .i64 Ro)) X v Ro out :=
  ⟨by rw [setCell_otherN (by omega)]; exact World.cell?_setCell_same _ _ _ b0, World.cell?_setCell_same _ _ _ (by rw [setCell_otherN (by omega)]; exact b1), by simpa using bs, hk _ (((Keeps.refl s w).set (Or.inl hX) _).set (Or.inl hX) _)⟩
theorem box_leaf2 {s : Nat} {w : World} {v : Value} {Ro : Int} {out : List Fn} {t : TypeId} (hk : ∀ W', Keeps s w W' → IsFns W' v out) : BoxF (w.alloc (.cells #[v, .int .i64 Ro] t)) w.heap.size v Ro out :=
  ⟨by simp [go_sem], by simp [go_sem], by simp, hk _ ((Keeps.refl s w).of (bA (Below.refl _ _) _))⟩
end Go.Proofs.YtnchcndcinpalaaGreatDoor
/-
  THE LAW OF Simplify: both sides, side by side.
-/
namespace Go.Proofs.YtnchcndcinpalaaGreatDoor
open Go Go.RowKit

theorem simp_both (ts : List Tb) (ps : List Fn) (Rt : Int) (w : World) (lt : ts.length ≤ 1048576) (hsm : SmallT ts) (lp : ps.length ≤ 1048576) (hpb : bulkF ps ≤ 1048576) (hTK : TKw w) (hTF : TFlat w) (hTT : TTakes w) :
    ∃ (out : List Fn) (Ro : Int) (E : Bool) (no : Nat), out.length = no ∧
      (∀ g gt W, g < W.heap.size → FnsAt W g 0 ps → gt < W.heap.size → TablesAt W gt 0 ts → Below w.heap.size w W → Calls Tryz.prog 7 #[.agg #[.slice (some ⟨g, 0, none⟩) ps.length ps.length, .int .i64 Rt], .agg #[.slice (some ⟨gt, 0, none⟩) ts.length ts.length]] W fun e w' => ∃ va vc, e = .returned (.tuple #[.agg #[.slice va no vc, .int .i64 Ro], .bool E]) ∧ (∀ W', Keeps W.heap.size w' W' → IsFns W' (.slice va no vc) out) ∧ Below W.heap.size W w') ∧
      (∀ g gt W, g < W.heap.size → FnsAt W g 0 ps → gt < W.heap.size → TablesAt W gt 0 ts → Below w.heap.size w W → Calls Tryz.prog 10 #[.agg #[.slice (some ⟨g, 0, none⟩) ps.length ps.length, .int .i64 Rt], .agg #[.slice (some ⟨gt, 0, none⟩) ts.length ts.length]] W fun e w' => ∃ va vc lab, e = .returned (.tuple #[.agg #[.slice va no vc, .int .i64 Ro], .bool E]) ∧ OwnF w' lab (.slice va no vc) out ∧ (∀ b, (lab b).1 ≤ 3 → W.heap.size ≤ b ∧ b < w'.heap.size) ∧ Below W.heap.size W w') ∧
      out.length ≤ 1048576 ∧ (∀ p ∈ out, p.Ex.length ≤ 1048576 ∧ p.Exs.length ≤ 1048576 ∧ ∀ xs ∈ p.Exs, xs.length ≤ 1048576) ∧ 1 + kNs out ≤ 536870912 := by
  have hfit := smallF_fit hpb
  by_cases hV : FlatV ts ps Rt
  · refine ⟨simpTo ts ps Rt ps.length, Rt, true, ps.length, simpTo_length ts ps Rt _, fun g gt W h1 h2 h3 h4 _ => ?_, fun g gt W h1 h2 h3 h4 hb => ?_, by rw [simpTo_length]; exact lp, simpTo_fit hV hfit, ?_⟩
    · refine (sSimplify_calls ts ps Rt g ps.length gt ts.length W lt hsm hfit h1 h2 h3 h4 hV).mono ?_
      rintro e w' ⟨v, rfl, hk, hb'⟩
      obtain ⟨va, vc, hv⟩ := isFns_slice (hk w' (Keeps.refl _ _))
      rw [simpTo_length] at hv
      subst hv
      exact ⟨va, vc, rfl, hk, hb'⟩
    · refine (Simplify_calls ts ps Rt g ps.length gt ts.length W lt hsm hfit h1 h2 h3 h4 (hTK.of hb) (hTF.of hb) (hTT.of hb)).mono ?_
      rintro e w' ⟨⟨_, G, lab, rfl, hF, hrg⟩ | ⟨hno, _⟩, hb'⟩
      · exact ⟨_, _, lab, rfl, Or.inr ⟨G, _, by rw [simpTo_length], hF⟩, hrg, hb'⟩
      · exact absurd hV hno
    · have h1 := simpTo_kNs hV hfit ps.length (Nat.le_refl _)
      rw [List.take_length] at h1
      have h2 := kNs_le ps
      have := hV.few
      omega
  · refine ⟨[], 0, false, 0, rfl, fun g gt W h1 h2 h3 h4 _ => ?_, fun g gt W h1 h2 h3 h4 hb => ?_, by simp, fun p hp => by simp at hp, by simp [kNs]⟩
    · refine (sSimplify_no ts ps Rt g ps.length gt ts.length W lt hsm hfit h1 h2 h3 h4 hV).mono ?_
      rintro e w' ⟨rfl, hb'⟩
      exact ⟨none, 0, rfl, fun W' _ => Or.inl ⟨rfl, _, _, rfl⟩, hb'⟩
    · refine (Simplify_calls ts ps Rt g ps.length gt ts.length W lt hsm hfit h1 h2 h3 h4 (hTK.of hb) (hTF.of hb) (hTT.of hb)).mono ?_
      rintro e w' ⟨⟨hy, _⟩ | ⟨_, rfl⟩, hb'⟩
      · exact absurd hy hV
      · exact ⟨none, 0, fun _ => (4, 0, 0), rfl, Or.inl ⟨rfl, _, _, rfl⟩, fun b hb2 => by simp at hb2, hb'⟩
end Go.Proofs.YtnchcndcinpalaaGreatDoor
