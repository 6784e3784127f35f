import Derived.Test.YtnchcndcinpalaaGreatDoorQ11
import Derived.Test.YtnchcndcinpalaaGreatDoorQ12
import Derived.Deep.RegionHeld3
import Derived.Deep.DeepCutAuto
namespace Go.Proofs.YtnchcndcinpalaaGreatDoor
open Go Go.RowKit
def uN (ts : List Tb) (ps : List Pn) : Nat → Nat → Int → Int → List Fn → List Fn × Int
  | 0, _, d, _, out => (out, d)
  | f + 1, i, d, w, out => match ps[i]? with
    | none => (out, d)
    | some p =>
      if p.K = 1 then (out, d)
      else if p.K = 2 then ((out ++ [⟨2, p.T, 0, 0, [], [], 0, 0⟩]) ++ [⟨5, 0, 0, 0, [], [], d, (out.length : Int)⟩], (out.length : Int) + 1)
      else
        let r := uN ts ps f p.L.toNat d w out
        if p.K = 3 then (r.1 ++ [⟨3, 0, 0, 0, p.Ex, [], r.2, 0⟩], (r.1.length : Int))
        else if p.K = 4 then (r.1 ++ [⟨4, 0, 0, 0, p.Ex, colExs w.toNat ++ p.Exs, r.2, 0⟩], (r.1.length : Int))
        else if p.K = 9 then (r.1 ++ [⟨8, 0, 0, 0, p.Ex, [], r.2, 0⟩], (r.1.length : Int))
        else if p.K = 5 ∨ p.K = 10 then
          let s := uN ts ps f p.R.toNat d w r.1
          (s.1 ++ [⟨if p.K = 5 then 5 else 9, 0, 0, if p.K = 5 then w else 0, p.Ex, [], r.2, s.2⟩], (s.1.length : Int))
        else
          let s := uN ts ps f p.R.toNat (r.1.length : Int) (w + iw ts ps p.L.toNat) (r.1 ++ [⟨8, 0, 0, 0, [], [], r.2, 0⟩])
          (s.1 ++ [⟨if p.K = 7 then 6 else if p.K = 8 then 7 else 5, 0, p.M, w + iw ts ps p.L.toNat, p.Ex, [], r.2, s.2⟩], (s.1.length : Int))
theorem uN_1 {ts : List Tb} {ps : List Pn} {f i : Nat} {d w : Int} {out : List Fn} {p : Pn} (hi : ps[i]? = some p) (hK : p.K = 1) : uN ts ps (f + 1) i d w out = (out, d) := by
  simp [uN, hi, hK]
theorem uN_2 {ts : List Tb} {ps : List Pn} {f i : Nat} {d w : Int} {out : List Fn} {p : Pn} (hi : ps[i]? = some p) (hK : p.K = 2) : uN ts ps (f + 1) i d w out = ((out ++ [⟨2, p.T, 0, 0, [], [], 0, 0⟩]) ++ [⟨5, 0, 0, 0, [], [], d, (out.length : Int)⟩], (out.length : Int) + 1) := by
  simp [uN, hi, hK]
theorem uN_3 {ts : List Tb} {ps : List Pn} {f i : Nat} {d w : Int} {out : List Fn} {p : Pn} (hi : ps[i]? = some p) (hK : p.K = 3) : uN ts ps (f + 1) i d w out = ((uN ts ps f p.L.toNat d w out).1 ++ [⟨3, 0, 0, 0, p.Ex, [], (uN ts ps f p.L.toNat d w out).2, 0⟩], ((uN ts ps f p.L.toNat d w out).1.length : Int)) := by
  simp [uN, hi, hK]
theorem uN_4 {ts : List Tb} {ps : List Pn} {f i : Nat} {d w : Int} {out : List Fn} {p : Pn} (hi : ps[i]? = some p) (hK : p.K = 4) : uN ts ps (f + 1) i d w out = ((uN ts ps f p.L.toNat d w out).1 ++ [⟨4, 0, 0, 0, p.Ex, colExs w.toNat ++ p.Exs, (uN ts ps f p.L.toNat d w out).2, 0⟩], ((uN ts ps f p.L.toNat d w out).1.length : Int)) := by
  simp [uN, hi, hK]
theorem uN_9 {ts : List Tb} {ps : List Pn} {f i : Nat} {d w : Int} {out : List Fn} {p : Pn} (hi : ps[i]? = some p) (hK : p.K = 9) : uN ts ps (f + 1) i d w out = ((uN ts ps f p.L.toNat d w out).1 ++ [⟨8, 0, 0, 0, p.Ex, [], (uN ts ps f p.L.toNat d w out).2, 0⟩], ((uN ts ps f p.L.toNat d w out).1.length : Int)) := by
  simp [uN, hi, hK]
theorem uN_5 {ts : List Tb} {ps : List Pn} {f i : Nat} {d w : Int} {out : List Fn} {p : Pn} (hi : ps[i]? = some p) (hK : p.K = 5 ∨ p.K = 10) : uN ts ps (f + 1) i d w out = ((uN ts ps f p.R.toNat d w (uN ts ps f p.L.toNat d w out).1).1 ++ [⟨if p.K = 5 then 5 else 9, 0, 0, if p.K = 5 then w else 0, p.Ex, [], (uN ts ps f p.L.toNat d w out).2, (uN ts ps f p.R.toNat d w (uN ts ps f p.L.toNat d w out).1).2⟩], ((uN ts ps f p.R.toNat d w (uN ts ps f p.L.toNat d w out).1).1.length : Int)) := by
  rcases hK with hK | hK <;> simp [uN, hi, hK]
theorem uN_6 {ts : List Tb} {ps : List Pn} {f i : Nat} {d w : Int} {out : List Fn} {p : Pn} (hi : ps[i]? = some p) (hK : p.K = 6 ∨ p.K = 7 ∨ p.K = 8) {r : List Fn} {a : Int} (hr : uN ts ps f p.L.toNat d w out = (r, a)) :
    uN ts ps (f + 1) i d w out = ((uN ts ps f p.R.toNat (r.length : Int) (w + iw ts ps p.L.toNat) (r ++ [⟨8, 0, 0, 0, [], [], a, 0⟩])).1 ++ [⟨if p.K = 7 then 6 else if p.K = 8 then 7 else 5, 0, p.M, w + iw ts ps p.L.toNat, p.Ex, [], a, (uN ts ps f p.R.toNat (r.length : Int) (w + iw ts ps p.L.toNat) (r ++ [⟨8, 0, 0, 0, [], [], a, 0⟩])).2⟩], ((uN ts ps f p.R.toNat (r.length : Int) (w + iw ts ps p.L.toNat) (r ++ [⟨8, 0, 0, 0, [], [], a, 0⟩])).1.length : Int)) := by
  rcases hK with hK | hK | hK <;> simp [uN, hi, hK, hr]
noncomputable def szP (ps : List Pn) (i : Nat) : Nat := i + 1 - (frm (nds ps) i).toNat
theorem wid_kidL {ts : List Tb} {ps : List Pn} {i : Nat} {env : Int} (hi : i < ps.length) (h : 0 ≤ wid ts ps i env) (ha : 0 < arity (ps[i]).K) : 0 ≤ wid ts ps (ps[i]).L.toNat env := by
  rw [wid, List.getElem?_eq_getElem hi] at h
  dsimp only at h
  by_cases hu : UsedP ts ps[i]
  · rw [if_neg (by simpa using hu), if_pos ha] at h
    by_cases hl : (ps[i]).L.toNat < i
    · rw [dif_pos hl] at h
      by_cases h0 : wid ts ps (ps[i]).L.toNat env < 0
      · rw [if_pos h0] at h; omega
      · omega
    · rw [dif_neg hl, if_pos (by omega)] at h
      omega
  · rw [if_pos (by simpa using hu)] at h
    omega
theorem wid_kidR {ts : List Tb} {ps : List Pn} {i : Nat} {env : Int} (hi : i < ps.length) (h : 0 ≤ wid ts ps i env) (hl : (ps[i]).L.toNat < i) (ha : 1 < arity (ps[i]).K) : 0 ≤ wid ts ps (ps[i]).R.toNat (insideW (ps[i]).K env (wid ts ps (ps[i]).L.toNat env)) := by
  have h1 := wid_kidL hi h (by omega)
  rw [wid, List.getElem?_eq_getElem hi] at h
  dsimp only at h
  by_cases hu : UsedP ts ps[i]
  · rw [if_neg (by simpa using hu), if_pos (by omega : 0 < arity (ps[i]).K), dif_pos hl, if_neg (by omega), if_pos ha] at h
    by_cases hr : (ps[i]).R.toNat < i
    · rw [dif_pos hr] at h
      by_cases h0 : wid ts ps (ps[i]).R.toNat (insideW (ps[i]).K env (wid ts ps (ps[i]).L.toNat env)) < 0
      · rw [if_pos h0] at h; omega
      · omega
    · rw [dif_neg hr, if_pos (by omega)] at h
      omega
  · rw [if_pos (by simpa using hu)] at h
    omega
theorem un_one {ts : List Tb} {ps : List Pn} (hG : Good ts ps) {i : Nat} (hi : i < ps.length) (ha : arity (ps[i]).K = 1) {w : Int} (hw : 0 ≤ wid ts ps i w) :
    ∃ q : Nat, (ps[i]).L = (q : Int) ∧ i = q + 1 ∧ frm (nds ps) q = frm (nds ps) i ∧ szP ps i = szP ps q + 1 ∧ 0 ≤ wid ts ps q w := by
  obtain ⟨j, e1, e2, _, e3⟩ := kid_one' hi (hG.frm hi) ha
  have h1 := wid_kidL hi hw (by omega)
  rw [e2, show ((j : Int)).toNat = j by omega] at h1
  have h2 := frm_le (nds ps) j
  have h3 : frm (nds ps) j ≠ -1 := hG.frm (by omega)
  exact ⟨j, e2, e1, e3, by unfold szP; rw [e3] at h2 h3 ⊢; omega, h1⟩
theorem un_two {ts : List Tb} {ps : List Pn} (hG : Good ts ps) {i : Nat} (hi : i < ps.length) (ha : arity (ps[i]).K = 2) {w : Int} (hw : 0 ≤ wid ts ps i w) :
    ∃ q j : Nat, (ps[i]).L = (q : Int) ∧ (ps[i]).R = (j : Int) ∧ i = j + 1 ∧ q < j ∧ frm (nds ps) q = frm (nds ps) i ∧ frm (nds ps) j = (q : Int) + 1 ∧ szP ps i = szP ps q + szP ps j + 1 ∧ 0 ≤ wid ts ps q w ∧ wid ts ps q w = iw ts ps q ∧ 0 ≤ wid ts ps j (insideW (ps[i]).K w (iw ts ps q)) := by
  obtain ⟨q, j, e1, e2, e3, e4, e5, e6⟩ := kid_two' hi (hG.frm hi) ha
  have h1 := wid_kidL hi hw (by omega)
  have h2 := wid_kidR hi hw (by omega) (by omega)
  rw [e3, show ((q : Int)).toNat = q by omega] at h1 h2
  rw [e4, show ((j : Int)).toNat = j by omega] at h2
  have h3 := frm_le (nds ps) q
  have h4 : frm (nds ps) q ≠ -1 := hG.frm (by omega)
  have h5 := hG.wid_iw (q + 1) q (by omega) (by omega) w h1
  rw [h5] at h2
  exact ⟨q, j, e3, e4, e1, e2, e5, e6, by unfold szP; rw [e5] at h3 h4 ⊢; rw [e6]; omega, h1, h5, h2⟩
theorem szP_pos {ps : List Pn} (i : Nat) : 1 ≤ szP ps i := by
  have := frm_le (nds ps) i
  unfold szP
  omega
theorem kind_ar {k : Int} (h1 : 1 ≤ k) (h2 : k ≤ 10) (n1 : k ≠ 1) (n2 : k ≠ 2) : (k = 3 ∨ k = 4 ∨ k = 9) ∨ (k = 5 ∨ k = 10) ∨ (k = 6 ∨ k = 7 ∨ k = 8) := by omega
theorem insideW_dep {k w l : Int} (h : k = 6 ∨ k = 7 ∨ k = 8) : insideW k w l = w + l := by unfold insideW; rw [if_pos h]
theorem insideW_no {k w l : Int} (h : ¬ (k = 6 ∨ k = 7 ∨ k = 8)) : insideW k w l = w := by unfold insideW; rw [if_neg h]
theorem uN_len {ts : List Tb} {ps : List Pn} (hG : Good ts ps) : ∀ (f i : Nat), i < f → i < ps.length → ∀ (d w : Int) (out : List Fn), 0 ≤ wid ts ps i w → (uN ts ps f i d w out).1.length ≤ out.length + 2 * szP ps i := by
  intro f
  induction f with
  | zero => intro i hi; omega
  | succ f ih =>
    intro i hif hi d w out hw
    have hp : ps[i]? = some ps[i] := List.getElem?_eq_getElem hi
    have hF := hG.fld i hi
    have hs := szP_pos (ps := ps) i
    by_cases h1 : (ps[i]).K = 1
    · rw [uN_1 hp h1]; simp
    by_cases h2 : (ps[i]).K = 2
    · rw [uN_2 hp h2]; simp; omega
    rcases kind_ar hF.1 hF.2.1 h1 h2 with h | h | h
    · obtain ⟨q, e1, e2, _, e4, e5⟩ := un_one hG hi (arity_k.2.1 h) hw
      have hq := ih q (by omega) (by omega) d w out e5
      have hL : (ps[i]).L.toNat = q := by omega
      rcases h with h | h | h
      · rw [uN_3 hp h, hL]; simp; omega
      · rw [uN_4 hp h, hL]; simp; omega
      · rw [uN_9 hp h, hL]; simp; omega
    · obtain ⟨q, j, e1, e2, e3, e4, _, _, e5, e6, _, e7⟩ := un_two hG hi (arity_k.1 (by omega)) hw
      rw [insideW_no (by omega)] at e7
      have hq := ih q (by omega) (by omega) d w out e6
      have hj := ih j (by omega) (by omega) d w (uN ts ps f q d w out).1 e7
      have hL : (ps[i]).L.toNat = q := by omega
      have hR : (ps[i]).R.toNat = j := by omega
      rw [uN_5 hp h, hL, hR]; simp; omega
    · obtain ⟨q, j, e1, e2, e3, e4, _, _, e5, e6, _, e7⟩ := un_two hG hi (arity_k.1 (by omega)) hw
      rw [insideW_dep h] at e7
      have hq := ih q (by omega) (by omega) d w out e6
      have hL : (ps[i]).L.toNat = q := by omega
      have hR : (ps[i]).R.toNat = j := by omega
      obtain ⟨r, a, hra⟩ : ∃ r a, uN ts ps f q d w out = (r, a) := ⟨_, _, rfl⟩
      have hj := ih j (by omega) (by omega) (r.length : Int) (w + iw ts ps q) (r ++ [⟨8, 0, 0, 0, [], [], a, 0⟩]) e7
      rw [uN_6 (r := r) (a := a) hp h (by rw [hL]; exact hra), hL, hR]
      rw [hra] at hq
      simp at hq hj ⊢
      omega
end Go.Proofs.YtnchcndcinpalaaGreatDoor
namespace Go.Proofs.YtnchcndcinpalaaGreatDoor
open Go Go.RowKit
abbrev Lb : Type := Nat → Nat × Nat × Nat
structure FnM (w : World) (lab : Lb) (G i : Nat) (p : Fn) : Prop where
  c0 : w.cell? ⟨G, i * 8, none⟩ = some (.int .i64 p.K)
  c1 : w.cell? ⟨G, i * 8 + 1, none⟩ = some (.int .i64 p.T)
  c2 : w.cell? ⟨G, i * 8 + 2, none⟩ = some (.int .i64 p.M)
  c3 : w.cell? ⟨G, i * 8 + 3, none⟩ = some (.int .i64 p.W)
  c6 : w.cell? ⟨G, i * 8 + 6, none⟩ = some (.int .i64 p.L)
  c7 : w.cell? ⟨G, i * 8 + 7, none⟩ = some (.int .i64 p.R)
  ex : ∃ u, w.cell? ⟨G, i * 8 + 4, none⟩ = some u ∧ OpsM w u p.Ex (fun b => lab b = (0, i, 0))
  exs : ∃ u, w.cell? ⟨G, i * 8 + 5, none⟩ = some u ∧ OpssM w u p.Exs (fun b => lab b = (1, i, 0)) (fun j b => lab b = (2, i, j))
theorem FnM.of {w w1 : World} {lab : Lb} {G i : Nat} {p : Fn} (h : FnM w lab G i p) (hg : G < w.heap.size) (hb : Below w.heap.size w w1) : FnM w1 lab G i p := by
  obtain ⟨c0, c1, c2, c3, c6, c7, ⟨u, c4, h4⟩, u', c5, h5⟩ := h
  exact ⟨(hb.cell (p := ⟨G, i * 8, none⟩) hg).trans c0, (hb.cell (p := ⟨G, i * 8 + 1, none⟩) hg).trans c1, (hb.cell (p := ⟨G, i * 8 + 2, none⟩) hg).trans c2, (hb.cell (p := ⟨G, i * 8 + 3, none⟩) hg).trans c3, (hb.cell (p := ⟨G, i * 8 + 6, none⟩) hg).trans c6, (hb.cell (p := ⟨G, i * 8 + 7, none⟩) hg).trans c7,
    ⟨u, (hb.cell (p := ⟨G, i * 8 + 4, none⟩) hg).trans c4, h4.of hb⟩, u', (hb.cell (p := ⟨G, i * 8 + 5, none⟩) hg).trans c5, h5.of hb⟩
theorem FnM.but {w w1 : World} {lab : Lb} {G i : Nat} {p : Fn} {T : Nat → Prop} (h : FnM w lab G i p) (hg : G < w.heap.size) (hb : ButM T w w1) (hG : ¬ T G) (h0 : ∀ b, lab b = (0, i, 0) → ¬ T b) (h1 : ∀ b, lab b = (1, i, 0) → ¬ T b) (h2 : ∀ j b, lab b = (2, i, j) → ¬ T b) : FnM w1 lab G i p := by
  obtain ⟨c0, c1, c2, c3, c6, c7, ⟨u, c4, h4⟩, u', c5, h5⟩ := h
  exact ⟨(hb.cell G _ hg hG).trans c0, (hb.cell G _ hg hG).trans c1, (hb.cell G _ hg hG).trans c2, (hb.cell G _ hg hG).trans c3, (hb.cell G _ hg hG).trans c6, (hb.cell G _ hg hG).trans c7,
    ⟨u, (hb.cell G _ hg hG).trans c4, h4.but hb h0⟩, u', (hb.cell G _ hg hG).trans c5, h5.but hb h1 h2⟩
theorem FnM.far {w : World} {lab : Lb} {G i : Nat} {p : Fn} (h : FnM w lab G i p) (hl : lab G = (3, 0, 0)) {O : Nat} (hO : O < i * 8 ∨ i * 8 + 7 < O) (v : Value) : FnM (w.setCell ⟨G, O, none⟩ v) lab G i p := by
  obtain ⟨c0, c1, c2, c3, c6, c7, ⟨u, c4, h4⟩, u', c5, h5⟩ := h
  have hB : ButM (fun b => b = G) w (w.setCell ⟨G, O, none⟩ v) := ButM.set (S := fun b => b = G) (ButM.refl _ _) rfl v
  have hk : ∀ k, k ≤ 7 → (w.setCell ⟨G, O, none⟩ v).cell? ⟨G, i * 8 + k, none⟩ = w.cell? ⟨G, i * 8 + k, none⟩ := fun k hk => by rw [setCell_otherN (by omega)]
  have h0 := hk 0 (by omega)
  rw [Nat.add_zero] at h0
  have d : ∀ b x, lab b = x → x ≠ (3, 0, 0) → ¬ b = G := fun b x hb hx e => hx (by rw [← hb, e, hl])
  exact ⟨h0.trans c0, (hk 1 (by omega)).trans c1, (hk 2 (by omega)).trans c2, (hk 3 (by omega)).trans c3, (hk 6 (by omega)).trans c6, (hk 7 (by omega)).trans c7,
    ⟨u, (hk 4 (by omega)).trans c4, h4.but hB (fun b hb => d b _ hb (by simp))⟩, u', (hk 5 (by omega)).trans c5, h5.but hB (fun b hb => d b _ hb (by simp)) (fun j b hb => d b _ hb (by simp))⟩
theorem FnM.is {w : World} {lab : Lb} {G i : Nat} {p : Fn} (h : FnM w lab G i p) : (∃ u, w.cell? ⟨G, i * 8 + 4, none⟩ = some u ∧ IsOps w u p.Ex) ∧ ∃ u, w.cell? ⟨G, i * 8 + 5, none⟩ = some u ∧ IsOpss w u p.Exs := by
  obtain ⟨u, c4, h4⟩ := h.ex
  obtain ⟨u', c5, h5⟩ := h.exs
  exact ⟨⟨u, c4, h4.is⟩, u', c5, h5.is⟩
structure FlM (w : World) (lab : Lb) (G : Nat) (fs : List Fn) : Prop where
  size : G < w.heap.size
  lab3 : lab G = (3, 0, 0)
  frz : ∀ o, w.frozen? ⟨G, o, none⟩ = false
  all : ∀ o, o < fs.length * 8 → ∃ v, w.cell? ⟨G, o, none⟩ = some v
  node : ∀ i p, fs[i]? = some p → FnM w lab G i p
theorem FlM.of {w w1 : World} {lab : Lb} {G : Nat} {fs : List Fn} (h : FlM w lab G fs) (hb : Below w.heap.size w w1) : FlM w1 lab G fs :=
  ⟨Nat.lt_of_lt_of_le h.size hb.size, h.lab3, fun o => (hb.frozen (p := ⟨G, o, none⟩) h.size).trans (h.frz o), fun o ho => by
    obtain ⟨v, hv⟩ := h.all o ho
    exact ⟨v, (hb.cell (p := ⟨G, o, none⟩) h.size).trans hv⟩, fun i p hp => (h.node i p hp).of h.size hb⟩
theorem FlM.but {w w1 : World} {lab : Lb} {G : Nat} {fs : List Fn} {T : Nat → Prop} (h : FlM w lab G fs) (hb : ButM T w w1) (hT : ∀ b, (lab b).1 ≤ 3 → ¬ T b) : FlM w1 lab G fs :=
  ⟨Nat.lt_of_lt_of_le h.size hb.size, h.lab3, fun o => (hb.frz G o h.size).trans (h.frz o), fun o ho => by
    rw [hb.cell G o h.size (hT G (by rw [h.lab3]; omega))]; exact h.all o ho, fun i p hp => (h.node i p hp).but h.size hb (hT G (by rw [h.lab3]; omega)) (fun b e => hT b (by rw [e]; omega)) (fun b e => hT b (by rw [e]; omega)) (fun j b e => hT b (by rw [e]; omega))⟩
theorem FlM.isFns {w : World} {lab : Lb} {G : Nat} {fs : List Fn} (h : FlM w lab G fs) (cap : Nat) : IsFns w (.slice (some ⟨G, 0, none⟩) fs.length cap) fs := by
  refine Or.inr ⟨G, 0, cap, rfl, h.size, fun i p hp => ?_⟩
  have hn := h.node i p hp
  obtain ⟨h4, h5⟩ := hn.is
  rw [Nat.zero_add]
  exact ⟨hn.c0, hn.c1, hn.c2, hn.c3, hn.c6, hn.c7, h4, h5⟩
def kN (p : Fn) : Nat := 6 + 2 * p.Ex.length + 2 * bulkO p.Exs
def kNs : List Fn → Nat
  | [] => 0
  | p :: r => kN p + kNs r
theorem kNs_append (a b : List Fn) : kNs (a ++ b) = kNs a + kNs b := by
  induction a with
  | nil => simp [kNs]
  | cons x a ih => simp only [List.cons_append, kNs, ih]; omega
theorem kNs_take (fs : List Fn) (k : Nat) (hk : k < fs.length) : kNs (fs.take (k + 1)) = kNs (fs.take k) + kN fs[k] := by
  rw [take_snocN fs k hk, kNs_append]; simp [kNs]
theorem kNs_take_le (fs : List Fn) (k : Nat) : kNs (fs.take k) ≤ kNs fs := by
  have := kNs_append (fs.take k) (fs.drop k)
  rw [List.take_append_drop] at this
  omega
def mFn (k : Nat) (p : Fn) : Fn := ⟨(k : Int), (k : Int) + 1, (k : Int) + 2, (k : Int) + 3, mOps (k + 4) p.Ex.length, mOpss (k + 4 + 2 * p.Ex.length) p.Exs, ((k + 4 + 2 * p.Ex.length + 2 * bulkO p.Exs : Nat) : Int), ((k + 4 + 2 * p.Ex.length + 2 * bulkO p.Exs : Nat) : Int) + 1⟩
def mFns (k : Nat) (fs : List Fn) : List Fn := (List.range fs.length).map fun j => mFn (k + kNs (fs.take j)) (fs.getD j ⟨0, 0, 0, 0, [], [], 0, 0⟩)
theorem mFns_length (k : Nat) (fs : List Fn) : (mFns k fs).length = fs.length := by simp [mFns]
theorem mFns_at (k : Nat) (fs : List Fn) (j : Nat) (h : j < fs.length) : (mFns k fs)[j]? = some (mFn (k + kNs (fs.take j)) fs[j]) := by simp [mFns, h]
set_option maxRecDepth 100000 in
set_option maxHeartbeats 4000000 in
theorem markFNodeS_calls (fs : List Fn) (lab : Lb) (G cap k : Nat) (w : World) (h : FlM w lab G fs) (b1 : fs.length ≤ 1048576) (b2 : ∀ p ∈ fs, p.Ex.length ≤ 1048576 ∧ p.Exs.length ≤ 1048576 ∧ ∀ xs ∈ p.Exs, xs.length ≤ 1048576) (bk : k + kNs fs ≤ 536870912) :
    Calls Tryz.prog 39 #[.slice (some ⟨G, 0, none⟩) fs.length cap, .int .i64 k] w fun e w' => e = .returned (.int .i64 ((k + kNs fs : Nat) : Int)) ∧ FlM w' lab G (mFns k fs) ∧ ButM (fun b => (lab b).1 ≤ 3) w w' := by
  have hG := h.size
  have hl3 := h.lab3
  have HNd := hide h.node; have HB2 := hide b2; have HFz := hide h.frz; have HAll := hide h.all
  clear h b2
  go_enter Tryz.func39, Tryz.ntmps39
  go_wp2
  go_loopw [1, 5] (fun c s wr => ∃ i : Nat, i ≤ fs.length ∧ s = .int .i64 i ∧ c = .int .i64 ((k + kNs (fs.take i) : Nat) : Int) ∧ (∀ j p, fs[j]? = some p → FnM wr lab G j (if j < i then mFn (k + kNs (fs.take j)) p else p)) ∧ ButM (fun b => (lab b).1 ≤ 3) w wr) (fun _ s _ => fs.length - (intOf s).toNat)
  case atStart => exact ⟨0, Nat.zero_le _, rfl, by simp [kNs], fun j p hp => by rw [if_neg (by omega)]; exact unhide HNd j p hp, ButM.refl _ _⟩
  case round =>
    obtain ⟨i, hi, rfl, rfl, hM, hB⟩ := hrel
    by_cases hlt : i < fs.length
    · have j1 : (i : Int) < (fs.length : Int) := by omega
      have hn := hM i fs[i] (List.getElem?_eq_getElem hlt)
      rw [if_neg (by omega)] at hn
      have q1 : G < wr.heap.size := Nat.lt_of_lt_of_le hG hB.size
      have hf : ∀ o, wr.frozen? ⟨G, o, none⟩ = false := fun o => (hB.frz G o hG).trans (unhide HFz o)
      obtain ⟨x1, x2, x3⟩ := unhide HB2 _ (List.getElem_mem hlt)
      have hk1 := kNs_take fs i hlt
      have hk2 := kNs_take_le fs (i + 1)
      have hkN : kN fs[i] = 6 + 2 * (fs[i]).Ex.length + 2 * bulkO (fs[i]).Exs := rfl
      obtain ⟨j, hj⟩ : ∃ j, j = k + kNs (fs.take i) := ⟨_, rfl⟩
      have hjb : j + kN fs[i] ≤ 536870912 := by omega
      obtain ⟨c0, c1, c2, c3, c6, c7, ⟨u, c4, h4⟩, u', c5, h5⟩ := hn
      have HM := hide hM; have HB := hide hB
      have HK1 : Hid (k + kNs (fs.take (i + 1)) = j + kN fs[i]) := by show _ = _; omega
      rw [← hj]
      have HJ := hide hj
      clear hM hB hj hk1 hk2
      generalize hp : fs[i] = p at *
      have HP := hide hp
      clear hp
      have hBa : ButM (fun b => b = G) wr ((((wr.setCell ⟨G, i * 8, none⟩ (.int .i64 (j : Int))).setCell ⟨G, i * 8 + 1, none⟩ (.int .i64 ((j : Int) + 1))).setCell ⟨G, i * 8 + 2, none⟩ (.int .i64 ((j : Int) + 1 + 1))).setCell ⟨G, i * 8 + 3, none⟩ (.int .i64 ((j : Int) + 1 + 1 + 1))) := ButM.set (S := fun b => b = G) (ButM.set (S := fun b => b = G) (ButM.set (S := fun b => b = G) (ButM.set (S := fun b => b = G) (ButM.refl _ _) rfl _) rfl _) rfl _) rfl _
      have dG : ∀ b x, lab b = x → x ≠ (3, 0, 0) → ¬ b = G := fun b x hb hx e => hx (by rw [← hb, e, hl3])
      have h4a := h4.but hBa (fun b hb => dG b _ hb (by simp))
      have h5a := h5.but hBa (fun b hb => dG b _ hb (by simp)) (fun j b hb => dG b _ hb (by simp))
      have n0 : ((((wr.setCell ⟨G, i * 8, none⟩ (.int .i64 (j : Int))).setCell ⟨G, i * 8 + 1, none⟩ (.int .i64 ((j : Int) + 1))).setCell ⟨G, i * 8 + 2, none⟩ (.int .i64 ((j : Int) + 1 + 1))).setCell ⟨G, i * 8 + 3, none⟩ (.int .i64 ((j : Int) + 1 + 1 + 1))).cell? ⟨G, i * 8, none⟩ = some (.int .i64 (j : Int)) := by
        rw [setCell_otherN (by omega), setCell_otherN (by omega), setCell_otherN (by omega)]; exact World.cell?_setCell_same _ _ _ c0
      have n1 : ((((wr.setCell ⟨G, i * 8, none⟩ (.int .i64 (j : Int))).setCell ⟨G, i * 8 + 1, none⟩ (.int .i64 ((j : Int) + 1))).setCell ⟨G, i * 8 + 2, none⟩ (.int .i64 ((j : Int) + 1 + 1))).setCell ⟨G, i * 8 + 3, none⟩ (.int .i64 ((j : Int) + 1 + 1 + 1))).cell? ⟨G, i * 8 + 1, none⟩ = some (.int .i64 ((j : Int) + 1)) := by
        rw [setCell_otherN (by omega), setCell_otherN (by omega)]; exact World.cell?_setCell_same _ _ _ (by rw [setCell_otherN (by omega)]; exact c1)
      have n2 : ((((wr.setCell ⟨G, i * 8, none⟩ (.int .i64 (j : Int))).setCell ⟨G, i * 8 + 1, none⟩ (.int .i64 ((j : Int) + 1))).setCell ⟨G, i * 8 + 2, none⟩ (.int .i64 ((j : Int) + 1 + 1))).setCell ⟨G, i * 8 + 3, none⟩ (.int .i64 ((j : Int) + 1 + 1 + 1))).cell? ⟨G, i * 8 + 2, none⟩ = some (.int .i64 ((j : Int) + 1 + 1)) := by
        rw [setCell_otherN (by omega)]; exact World.cell?_setCell_same _ _ _ (by rw [setCell_otherN (by omega), setCell_otherN (by omega)]; exact c2)
      have n3 : ((((wr.setCell ⟨G, i * 8, none⟩ (.int .i64 (j : Int))).setCell ⟨G, i * 8 + 1, none⟩ (.int .i64 ((j : Int) + 1))).setCell ⟨G, i * 8 + 2, none⟩ (.int .i64 ((j : Int) + 1 + 1))).setCell ⟨G, i * 8 + 3, none⟩ (.int .i64 ((j : Int) + 1 + 1 + 1))).cell? ⟨G, i * 8 + 3, none⟩ = some (.int .i64 ((j : Int) + 1 + 1 + 1)) :=
        World.cell?_setCell_same _ _ _ (by rw [setCell_otherN (by omega), setCell_otherN (by omega), setCell_otherN (by omega)]; exact c3)
      have n4 : ((((wr.setCell ⟨G, i * 8, none⟩ (.int .i64 (j : Int))).setCell ⟨G, i * 8 + 1, none⟩ (.int .i64 ((j : Int) + 1))).setCell ⟨G, i * 8 + 2, none⟩ (.int .i64 ((j : Int) + 1 + 1))).setCell ⟨G, i * 8 + 3, none⟩ (.int .i64 ((j : Int) + 1 + 1 + 1))).cell? ⟨G, i * 8 + 4, none⟩ = some u := by
        rw [setCell_otherN (by omega), setCell_otherN (by omega), setCell_otherN (by omega), setCell_otherN (by omega)]; exact c4
      have n5 : ((((wr.setCell ⟨G, i * 8, none⟩ (.int .i64 (j : Int))).setCell ⟨G, i * 8 + 1, none⟩ (.int .i64 ((j : Int) + 1))).setCell ⟨G, i * 8 + 2, none⟩ (.int .i64 ((j : Int) + 1 + 1))).setCell ⟨G, i * 8 + 3, none⟩ (.int .i64 ((j : Int) + 1 + 1 + 1))).cell? ⟨G, i * 8 + 5, none⟩ = some u' := by
        rw [setCell_otherN (by omega), setCell_otherN (by omega), setCell_otherN (by omega), setCell_otherN (by omega)]; exact c5
      have n6 : ((((wr.setCell ⟨G, i * 8, none⟩ (.int .i64 (j : Int))).setCell ⟨G, i * 8 + 1, none⟩ (.int .i64 ((j : Int) + 1))).setCell ⟨G, i * 8 + 2, none⟩ (.int .i64 ((j : Int) + 1 + 1))).setCell ⟨G, i * 8 + 3, none⟩ (.int .i64 ((j : Int) + 1 + 1 + 1))).cell? ⟨G, i * 8 + 6, none⟩ = some (.int .i64 p.L) := by
        rw [setCell_otherN (by omega), setCell_otherN (by omega), setCell_otherN (by omega), setCell_otherN (by omega)]; exact c6
      have n7 : ((((wr.setCell ⟨G, i * 8, none⟩ (.int .i64 (j : Int))).setCell ⟨G, i * 8 + 1, none⟩ (.int .i64 ((j : Int) + 1))).setCell ⟨G, i * 8 + 2, none⟩ (.int .i64 ((j : Int) + 1 + 1))).setCell ⟨G, i * 8 + 3, none⟩ (.int .i64 ((j : Int) + 1 + 1 + 1))).cell? ⟨G, i * 8 + 7, none⟩ = some (.int .i64 p.R) := by
        rw [setCell_otherN (by omega), setCell_otherN (by omega), setCell_otherN (by omega), setCell_otherN (by omega)]; exact c7
      have hfa : ∀ o, ((((wr.setCell ⟨G, i * 8, none⟩ (.int .i64 (j : Int))).setCell ⟨G, i * 8 + 1, none⟩ (.int .i64 ((j : Int) + 1))).setCell ⟨G, i * 8 + 2, none⟩ (.int .i64 ((j : Int) + 1 + 1))).setCell ⟨G, i * 8 + 3, none⟩ (.int .i64 ((j : Int) + 1 + 1 + 1))).frozen? ⟨G, o, none⟩ = false := fun o => by
        rw [frozen_setCellN, frozen_setCellN, frozen_setCellN, frozen_setCellN]; exact hf o
      have hza : G < ((((wr.setCell ⟨G, i * 8, none⟩ (.int .i64 (j : Int))).setCell ⟨G, i * 8 + 1, none⟩ (.int .i64 ((j : Int) + 1))).setCell ⟨G, i * 8 + 2, none⟩ (.int .i64 ((j : Int) + 1 + 1))).setCell ⟨G, i * 8 + 3, none⟩ (.int .i64 ((j : Int) + 1 + 1 + 1))).heap.size := by simpa using q1
      have hoth : ∀ jj q, jj ≠ i → FnM wr lab G jj q → FnM ((((wr.setCell ⟨G, i * 8, none⟩ (.int .i64 (j : Int))).setCell ⟨G, i * 8 + 1, none⟩ (.int .i64 ((j : Int) + 1))).setCell ⟨G, i * 8 + 2, none⟩ (.int .i64 ((j : Int) + 1 + 1))).setCell ⟨G, i * 8 + 3, none⟩ (.int .i64 ((j : Int) + 1 + 1 + 1))) lab G jj q := fun jj q hne hq =>
        (((hq.far hl3 (by omega) _).far hl3 (by omega) _).far hl3 (by omega) _).far hl3 (by omega) _
      have HOth := hide hoth; have H4a := hide h4a; have H5a := hide h5a; have HBa := hide hBa
      have s4 := h4.slice
      have s5 := isOpss_slice h5.is
      clear hoth h4a h5a hBa h4 h5 c4 c5
      obtain ⟨ua, uc, rfl⟩ := s4
      obtain ⟨ua', uc', rfl⟩ := s5
      go_upto_region 12 with fail
      clear c0 c1 c2 c3 c6 c7 hf
      generalize ((((wr.setCell ⟨G, i * 8, none⟩ (.int .i64 (j : Int))).setCell ⟨G, i * 8 + 1, none⟩ (.int .i64 ((j : Int) + 1))).setCell ⟨G, i * 8 + 2, none⟩ (.int .i64 ((j : Int) + 1 + 1))).setCell ⟨G, i * 8 + 3, none⟩ (.int .i64 ((j : Int) + 1 + 1 + 1))) = wa at *
      have HM4 : Hid (∀ kz : Int, kz = ((j + 4 : Nat) : Int) → Calls Tryz.prog 73 #[.slice ua p.Ex.length uc, .int .i64 kz] wa fun e w' => e = .returned (.int .i64 ((j + 4 + 2 * p.Ex.length : Nat) : Int)) ∧ OpsM w' (.slice ua p.Ex.length uc) (mOps (j + 4) p.Ex.length) (fun b => lab b = (0, i, 0)) ∧ ButM (fun b => lab b = (0, i, 0)) wa w') := fun kz hkz => by
        subst hkz
        exact markOpS_calls p.Ex _ _ (j + 4) wa (unhide H4a) x1 (by omega)
      go_wp2_with fail
      refine (unhide HM4 _ (by push_cast; omega)).mono ?_; rintro e wb ⟨rfl, ho4, hBb⟩
      have dl : ∀ b x y, lab b = x → lab b = y → x = y := fun b x y h1 h2 => h1.symm.trans h2
      have hG0 : ¬ lab G = (0, i, 0) := fun h => by have := dl G _ _ hl3 h; simp at this
      have m0 := (hBb.cell G (i * 8) hza hG0).trans n0
      have m1 := (hBb.cell G (i * 8 + 1) hza hG0).trans n1
      have m2 := (hBb.cell G (i * 8 + 2) hza hG0).trans n2
      have m3 := (hBb.cell G (i * 8 + 3) hza hG0).trans n3
      have m4 := (hBb.cell G (i * 8 + 4) hza hG0).trans n4
      have m5 := (hBb.cell G (i * 8 + 5) hza hG0).trans n5
      have m6 := (hBb.cell G (i * 8 + 6) hza hG0).trans n6
      have m7 := (hBb.cell G (i * 8 + 7) hza hG0).trans n7
      have hfb : ∀ o, wb.frozen? ⟨G, o, none⟩ = false := fun o => (hBb.frz G o hza).trans (hfa o)
      have hzb : G < wb.heap.size := Nat.lt_of_lt_of_le hza hBb.size
      have H5b := hide ((unhide H5a).but hBb (fun b h h' => by have := dl b _ _ h h'; simp at this) (fun jj b h h' => by have := dl b _ _ h h'; simp at this))
      have HO4 := hide ho4; have HBb := hide hBb
      clear ho4 hBb HM4 H4a H5a n0 n1 n2 n3 n4 n5 n6 n7 hfa
      have HM5 : Hid (∀ kz : Int, kz = ((j + 4 + 2 * p.Ex.length : Nat) : Int) → Calls Tryz.prog 74 #[.slice ua' p.Exs.length uc', .int .i64 kz] wb fun e w' => e = .returned (.int .i64 ((j + 4 + 2 * p.Ex.length + 2 * bulkO p.Exs : Nat) : Int)) ∧ OpssM w' (.slice ua' p.Exs.length uc') (mOpss (j + 4 + 2 * p.Ex.length) p.Exs) (fun b => lab b = (1, i, 0)) (fun jj b => lab b = (2, i, jj)) ∧ ButM (fun b => ∃ jj, lab b = (2, i, jj)) wb w') := fun kz hkz => by
        subst hkz
        exact markOpSS_calls p.Exs _ _ _ (j + 4 + 2 * p.Ex.length) wb (unhide H5b) (fun jj b h h' => by have := dl b _ _ h h'; simp at this) (fun j1 j2 b hne h h' => by have := dl b _ _ h h'; simp at this; exact hne this) x2 x3 (by omega)
      obtain ⟨j5, hj5⟩ : ∃ j5, j5 = j + 4 + 2 * p.Ex.length := ⟨_, rfl⟩
      rw [← hj5] at HM5 ⊢
      have HJ5 := hide hj5
      have j5b : j5 ≤ 536870912 := by omega
      clear hj5
      go_wp2_with fail
      refine (unhide HM5 _ rfl).mono ?_; rintro e wc ⟨rfl, ho5, hBc⟩
      have hG2 : ¬ ∃ jj, lab G = (2, i, jj) := fun ⟨jj, h⟩ => by have := dl G _ _ hl3 h; simp at this
      have o0 := (hBc.cell G (i * 8) hzb hG2).trans m0
      have o1 := (hBc.cell G (i * 8 + 1) hzb hG2).trans m1
      have o2 := (hBc.cell G (i * 8 + 2) hzb hG2).trans m2
      have o3 := (hBc.cell G (i * 8 + 3) hzb hG2).trans m3
      have o4 := (hBc.cell G (i * 8 + 4) hzb hG2).trans m4
      have o5 := (hBc.cell G (i * 8 + 5) hzb hG2).trans m5
      have o6 := (hBc.cell G (i * 8 + 6) hzb hG2).trans m6
      have o7 := (hBc.cell G (i * 8 + 7) hzb hG2).trans m7
      have hfc : ∀ o, wc.frozen? ⟨G, o, none⟩ = false := fun o => (hBc.frz G o hzb).trans (hfb o)
      have hzc : G < wc.heap.size := Nat.lt_of_lt_of_le hzb hBc.size
      obtain ⟨j6, hj6⟩ : ∃ j6, j6 = j5 + 2 * bulkO p.Exs := ⟨_, rfl⟩
      rw [← hj6]
      have hj6' : j6 = j + 4 + 2 * p.Ex.length + 2 * bulkO p.Exs := by have := unhide HJ5; omega
      have j6b : j6 ≤ 536870912 := by omega
      have hBd : ButM (fun b => b = G) wc ((wc.setCell ⟨G, i * 8 + 6, none⟩ (.int .i64 (j6 : Int))).setCell ⟨G, i * 8 + 7, none⟩ (.int .i64 ((j6 : Int) + 1))) := ButM.set (S := fun b => b = G) (ButM.set (S := fun b => b = G) (ButM.refl _ _) rfl _) rfl _
      have HNew : Hid (FnM ((wc.setCell ⟨G, i * 8 + 6, none⟩ (.int .i64 (j6 : Int))).setCell ⟨G, i * 8 + 7, none⟩ (.int .i64 ((j6 : Int) + 1))) lab G i (mFn j p)) := by
        refine ⟨?_, ?_, ?_, ?_, ?_, ?_, ⟨.slice ua p.Ex.length uc, ?_, ?_⟩, .slice ua' p.Exs.length uc', ?_, ?_⟩
        · rw [setCell_otherN (by omega), setCell_otherN (by omega)]; exact o0
        · rw [setCell_otherN (by omega), setCell_otherN (by omega)]; exact o1
        · rw [setCell_otherN (by omega), setCell_otherN (by omega), o2]; simp [mFn]; omega
        · rw [setCell_otherN (by omega), setCell_otherN (by omega), o3]; simp [mFn]; omega
        · rw [setCell_otherN (by omega), World.cell?_setCell_same _ _ _ o6]; simp only [mFn, hj6']
        · rw [World.cell?_setCell_same _ _ _ (show _ = some _ by rw [setCell_otherN (by omega)]; exact o7)]; simp only [mFn, hj6']
        · rw [setCell_otherN (by omega), setCell_otherN (by omega)]; exact o4
        · exact ((unhide HO4).but hBc (fun b h ⟨jj, h'⟩ => by have := dl b _ _ h h'; simp at this)).but hBd (fun b hb => dG b _ hb (by simp))
        · rw [setCell_otherN (by omega), setCell_otherN (by omega)]; exact o5
        · have := ho5.but hBd (fun b hb => dG b _ hb (by simp)) (fun jj b hb => dG b _ hb (by simp))
          rw [unhide HJ5] at this
          exact this
      have HM1 : Hid (∀ jj q, fs[jj]? = some q → FnM ((wc.setCell ⟨G, i * 8 + 6, none⟩ (.int .i64 (j6 : Int))).setCell ⟨G, i * 8 + 7, none⟩ (.int .i64 ((j6 : Int) + 1))) lab G jj (if jj < i + 1 then mFn (k + kNs (fs.take jj)) q else q)) := fun jj q hq => by
        by_cases e : jj = i
        · subst e
          rw [List.getElem?_eq_getElem hlt] at hq
          obtain rfl := Option.some.inj hq
          rw [if_pos (by omega), ← unhide HJ, unhide HP]
          exact unhide HNew
        · have h1 := unhide HOth jj _ e (unhide HM jj q hq)
          have h2 := h1.but hza (unhide HBb) hG0 (fun b h h' => by have := dl b _ _ h h'; simp at this; exact e this) (fun b h h' => by have := dl b _ _ h h'; simp at this) (fun j1 b h h' => by have := dl b _ _ h h'; simp at this)
          have h3 := h2.but hzb hBc hG2 (fun b h ⟨j1, h'⟩ => by have := dl b _ _ h h'; simp at this) (fun b h ⟨j1, h'⟩ => by have := dl b _ _ h h'; simp at this) (fun j2 b h ⟨j1, h'⟩ => by have := dl b _ _ h h'; simp at this; exact e this.1)
          have h4 := (h3.far hl3 (O := i * 8 + 6) (by omega) (.int .i64 (j6 : Int))).far hl3 (O := i * 8 + 7) (by omega) (.int .i64 ((j6 : Int) + 1))
          by_cases hj : jj < i
          · rw [if_pos hj] at h4; rw [if_pos (by omega)]; exact h4
          · rw [if_neg hj] at h4; rw [if_neg (by omega)]; exact h4
      have HB5 : Hid (ButM (fun b => (lab b).1 ≤ 3) w ((wc.setCell ⟨G, i * 8 + 6, none⟩ (.int .i64 (j6 : Int))).setCell ⟨G, i * 8 + 7, none⟩ (.int .i64 ((j6 : Int) + 1)))) :=
        ((((unhide HB).trans ((unhide HBa).mono (fun b hb => by rw [hb, hl3]; omega))).trans ((unhide HBb).mono (fun b hb => by rw [hb]; omega))).trans (hBc.mono (fun b ⟨jj, hb⟩ => by rw [hb]; omega))).trans (hBd.mono (fun b hb => by rw [hb, hl3]; omega))
      have HK6 : Hid (k + kNs (fs.take (i + 1)) = j6 + 1 + 1) := by show _ = _; have := unhide HK1; omega
      clear ho5 hBc hBd HNew HM HB HBa HBb HOth HO4 H5b HM5 o0 o1 o2 o3 o4 o5 m0 m1 m2 m3 m4 m5 m6 m7 hfb hj6 hj6' HJ5 HK1 HP HJ dl dG hG0 hG2
      go_wp2
      go_roundw
      case rel => exact ⟨i + 1, by omega, by go_num, by rw [unhide HK6]; go_num, unhide HM1, unhide HB5⟩
      case measure => simp [intOf]; omega
    · obtain rfl : i = fs.length := by omega
      have HR : Hid (FlM wr lab G (mFns k fs)) := ⟨Nat.lt_of_lt_of_le hG hB.size, hl3, fun o => (hB.frz G o hG).trans (unhide HFz o), fun o ho => by
        rw [mFns_length] at ho
        have hd : o / 8 < fs.length := by omega
        have hn := hM (o / 8) fs[o / 8] (List.getElem?_eq_getElem hd)
        have : o % 8 < 8 := Nat.mod_lt _ (by omega)
        have e : o = o / 8 * 8 + o % 8 := by omega
        rw [e]
        generalize o % 8 = r at *
        obtain ⟨c0, c1, c2, c3, c6, c7, ⟨u, c4, _⟩, u', c5, _⟩ := hn
        have hc : r = 0 ∨ r = 1 ∨ r = 2 ∨ r = 3 ∨ r = 4 ∨ r = 5 ∨ r = 6 ∨ r = 7 := by omega
        rcases hc with rfl | rfl | rfl | rfl | rfl | rfl | rfl | rfl
        · exact ⟨_, by rw [Nat.add_zero]; exact c0⟩
        · exact ⟨_, c1⟩
        · exact ⟨_, c2⟩
        · exact ⟨_, c3⟩
        · exact ⟨_, c4⟩
        · exact ⟨_, c5⟩
        · exact ⟨_, c6⟩
        · exact ⟨_, c7⟩, fun j q hq => by
        have hj : j < fs.length := by have := (List.getElem?_eq_some_iff.1 hq).1; rwa [mFns_length] at this
        rw [mFns_at k fs j hj] at hq
        obtain rfl := Option.some.inj hq
        have hn := hM j fs[j] (List.getElem?_eq_getElem hj)
        rw [if_pos hj] at hn
        exact hn⟩
      rw [List.take_length]
      clear hM HNd HB2 HFz HAll
      go_wp2
      go_ret
      exact ⟨rfl, unhide HR, hB⟩
end Go.Proofs.YtnchcndcinpalaaGreatDoor
