import Derived.Test.YtmcbmmpjhijagaaGreatDoorQ13
import Derived.Test.YtmcbmmpjhijagaaGreatDoorQ14
import Derived.Test.YtmcbmmpjhijagaaGreatDoorQ15
import Derived.Test.YtmcbmmpjhijagaaGreatDoorPrFnC
import Derived.Test.YtmcbmmpjhijagaaGreatDoorPrFnD
import Derived.Test.YtmcbmmpjhijagaaGreatDoorQ2
namespace Go.Proofs.YtmcbmmpjhijagaaGreatDoor
open Go Go.RowKit
theorem wher_all {r : List (Int × List (List UInt8))} (h : ∀ x ∈ r, x.1 = 5) : srcs r = r.map (·.2) ∧ wher r = [] := by
  induction r with
  | nil => simp [srcs, wher]
  | cons x r ih =>
    obtain ⟨h1, h2⟩ := ih (fun y hy => h y (by simp [hy]))
    have hx := h x (by simp)
    refine ⟨?_, ?_⟩
    · unfold srcs at h1 ⊢
      rw [List.filter_cons_of_pos (by simp [hx]), List.map_cons, h1, List.map_cons]
    · unfold wher
      rw [if_pos h2, if_pos hx]
theorem wher_last {r : List (Int × List (List UInt8))} (h : ∀ x ∈ r, x.1 = 5) (y : Int × List (List UInt8)) (hy : y.1 ≠ 5) : srcs (r ++ [y]) = r.map (·.2) ∧ wher (r ++ [y]) = [kWHERE] ++ y.2 := by
  induction r with
  | nil => simp [srcs, wher, hy]
  | cons x r ih =>
    obtain ⟨h1, h2⟩ := ih (fun z hz => h z (by simp [hz]))
    have hx := h x (by simp)
    refine ⟨?_, ?_⟩
    · unfold srcs at h1 ⊢
      rw [List.cons_append, List.filter_cons_of_pos (by simp [hx]), List.map_cons, h1, List.map_cons]
    · rw [List.cons_append]
      unfold wher
      rw [if_neg (by rw [h2]; simp), h2]
def TyK (k : Int) (t : Nat) : Prop := (t = 104 ↔ k = 14) ∧ (t = 105 ↔ k = 15)
theorem TrN.ty {ns : List Nd} {w : World} {S : Nat → Prop} {R : Nat → Value → Prop} {n : Nd} {v : Value} (h : TrN ns w S R n v) (hK : 1 ≤ n.K ∧ n.K ≤ 15) : ∃ t x, v = .iface t x ∧ TyK n.K t := by
  unfold TrN at h
  unfold TyK
  by_cases k1 : n.K = 1
  · rw [if_pos k1] at h; exact ⟨_, _, h, by rw [k1]; decide⟩
  rw [if_neg k1] at h
  by_cases k2 : n.K = 2
  · rw [if_pos k2] at h; exact ⟨_, _, h, by rw [k2]; decide⟩
  rw [if_neg k2] at h
  by_cases k3 : n.K = 3
  · rw [if_pos k3] at h; exact ⟨_, _, h, by rw [k3]; decide⟩
  rw [if_neg k3] at h
  by_cases k4 : n.K = 4
  · rw [if_pos k4] at h; obtain ⟨_, _, _, h, _⟩ := h; exact ⟨_, _, h, by rw [k4]; decide⟩
  rw [if_neg k4] at h
  by_cases k5 : n.K = 5
  · rw [if_pos k5] at h; exact ⟨_, _, h, by rw [k5]; decide⟩
  rw [if_neg k5] at h
  by_cases k6 : n.K = 6
  · rw [if_pos k6] at h; obtain ⟨_, _, _, h, _⟩ := h; exact ⟨_, _, h, by rw [k6]; decide⟩
  rw [if_neg k6] at h
  by_cases k7 : n.K = 7
  · rw [if_pos k7] at h; obtain ⟨_, h, _⟩ := h; exact ⟨_, _, h, by rw [k7]; decide⟩
  rw [if_neg k7] at h
  by_cases k8 : n.K = 8
  · rw [if_pos k8] at h; obtain ⟨_, _, h, _⟩ := h; exact ⟨_, _, h, by rw [k8]; decide⟩
  rw [if_neg k8] at h
  by_cases k9 : n.K = 9
  · rw [if_pos k9] at h; obtain ⟨_, h, _⟩ := h; exact ⟨_, _, h, by rw [k9]; decide⟩
  rw [if_neg k9] at h
  by_cases k10 : n.K = 10
  · rw [if_pos k10] at h; obtain ⟨_, h, _⟩ := h; exact ⟨_, _, h, by rw [k10]; decide⟩
  rw [if_neg k10] at h
  by_cases k11 : n.K = 11
  · rw [if_pos k11] at h; obtain ⟨_, _, h, _⟩ := h; exact ⟨_, _, h, by rw [k11]; decide⟩
  rw [if_neg k11] at h
  by_cases k12 : n.K = 12
  · rw [if_pos k12] at h; obtain ⟨_, _, h, _⟩ := h; exact ⟨_, _, h, by rw [k12]; decide⟩
  rw [if_neg k12] at h
  by_cases k13 : n.K = 13
  · rw [if_pos k13] at h; obtain ⟨_, h, _⟩ := h; exact ⟨_, _, h, by rw [k13]; decide⟩
  rw [if_neg k13] at h
  by_cases k14 : n.K = 14
  · rw [if_pos k14] at h; obtain ⟨_, h, _⟩ := h; exact ⟨_, _, h, by rw [k14]; decide⟩
  rw [if_neg k14] at h
  have k15 : n.K = 15 := by omega
  obtain ⟨_, h, _⟩ := h; exact ⟨_, _, h, by rw [k15]; decide⟩
theorem lst_LW {p B fn : Nat} {w : World} {R : Nat → Value → Prop} {ks : List Int} {l : Value} (h : LstV w (fun b => b < B ∧ b ≠ p) R ks l) (hk : ks.length ≤ 1000000) (F : Int → List (List UInt8)) (hR : ∀ x t u, x ∈ ks → R x.toNat (.iface t u) → Wrs p B fn (.iface t u) (F x) w) :
    (∃ a n c, l = .slice a n c) ∧ LW p B fn l (ks.map F) w := by
  obtain ⟨g, o, c, rfl, _, h3, _, h5⟩ := h
  refine ⟨⟨_, _, _, rfl⟩, g, o, c, (List.range ks.length).map (fun j => (w.cell? ⟨g, o + j, none⟩).getD .nilIface), by simp, by simp, fun j u hj => ?_, h3.1, h3.2, by simpa using hk, fun j u xs hj hx => ?_⟩
  · obtain ⟨hj1, hj2⟩ := List.getElem?_eq_some_iff.1 hj
    simp at hj1 hj2
    obtain ⟨t, v, e1, _⟩ := h5 j ks[j] (List.getElem?_eq_getElem hj1)
    rw [e1] at hj2 ⊢
    simpa using hj2
  · obtain ⟨hj1, hj2⟩ := List.getElem?_eq_some_iff.1 hj
    simp at hj1 hj2
    obtain ⟨t, v, e1, e2⟩ := h5 j ks[j] (List.getElem?_eq_getElem hj1)
    rw [e1] at hj2
    simp at hj2
    subst hj2
    rw [List.getElem?_map, List.getElem?_eq_getElem hj1] at hx
    simp at hx
    subst hx
    exact hR _ _ _ (List.getElem_mem hj1) e2
theorem blk_all {p B : Nat} {ns : List Nd} {w : World} {R : Nat → Value → Prop} {n : Nd} {l q u : Value} (h : BlkV ns w (fun b => b < B ∧ b ≠ p) R n l q u) (hB : BlkI (kindsOf ns n.Kids) n.N) (hk : n.Kids.length ≤ 1000000) (F : Int → List (List UInt8)) (hR : ∀ x t u, x ∈ n.Kids → R x.toNat (.iface t u) → Wrs p B 14 (.iface t u) (F x) w) :
    ∃ a1 n1 c1 a2 n2 c2, l = .slice a1 n1 c1 ∧ q = .slice a2 n2 c2 ∧ LW p B 14 l ((n.Kids.take n.N.toNat).map F) w ∧ (u = .nilIface ∨ ∃ t v, u = .iface t v) ∧
      Wrs p B 64 (.agg #[l, q, u]) (tailW ((n.Kids.map fun x => (kindAt ns x.toNat, F x)).drop n.N.toNat)) w := by
  obtain ⟨h1, h2, h3⟩ := h
  obtain ⟨⟨a1, n1, c1, rfl⟩, L1⟩ := lst_LW h1 (by simp; omega) F (fun x t u hx => hR x t u (List.mem_of_mem_take hx))
  obtain ⟨_, _, b3, b4⟩ := hB
  generalize hr : n.Kids.drop n.N.toNat = r at h2 h3
  have hrm : ∀ x ∈ r, x ∈ n.Kids := fun x hx => List.mem_of_mem_drop (by rw [hr]; exact hx)
  have hrl : r.length ≤ 1000000 := by rw [← hr]; simp; omega
  have ek : (kindsOf ns n.Kids).drop n.N.toNat = r.map fun x => kindAt ns x.toNat := by unfold kindsOf; rw [← List.map_drop, hr]
  have ed : (n.Kids.map fun x => (kindAt ns x.toNat, F x)).drop n.N.toNat = r.map fun x => (kindAt ns x.toNat, F x) := by rw [← List.map_drop, hr]
  rw [ek] at b3 b4
  rw [ed]
  unfold tailW
  have hgl : ((r.map fun x => kindAt ns x.toNat).getLast?).any cdB = (r.getLast?).any (fun x => cdB (kindAt ns x.toNat)) := by
    rw [List.getLast?_map]
    cases r.getLast? <;> rfl
  unfold cutI at b3
  rw [hgl] at b3
  unfold WhV at h3
  unfold srcK at h2
  by_cases hc : (r.getLast?).any (fun x => cdB (kindAt ns x.toNat)) = true
  · rw [if_pos hc] at b3 h3 h2
    obtain ⟨y, hy⟩ : ∃ y, r.getLast? = some y := by
      cases e : r.getLast? with
      | none => rw [e] at hc; cases hc
      | some y => exact ⟨y, rfl⟩
    rw [hy] at hc h3
    obtain ⟨s, rfl⟩ := List.getLast?_eq_some_iff.1 hy
    simp only [List.map_append, List.map_cons, List.map_nil, List.dropLast_concat, Option.getD_some] at b3 h2 h3 ⊢
    obtain ⟨⟨a2, n2, c2, rfl⟩, L2⟩ := lst_LW h2 (by simp at hrl; omega) F (fun x t u hx => hR x t u (hrm x (by simp [hx])))
    obtain ⟨h31, t, v, rfl⟩ := h3
    have h5 : ∀ x ∈ s.map (fun x => (kindAt ns x.toNat, F x)), x.1 = 5 := by
      intro x hx
      obtain ⟨z, hz, rfl⟩ := List.mem_map.1 hx
      have := b3 _ (List.mem_map.2 ⟨z, hz, rfl⟩)
      simpa [fives] using this
    obtain ⟨e1, e2⟩ := wher_last h5 (kindAt ns y.toNat, F y) (by
      have : cdB (kindAt ns y.toNat) = true := hc
      unfold cdB at this
      simp at this ⊢
      omega)
    rw [e1, e2, List.map_map]
    exact ⟨a1, n1, c1, a2, n2, c2, rfl, rfl, L1, Or.inr ⟨t, v, rfl⟩, tail_i L2 (hR y t v (hrm y (by simp)) h31)⟩
  · rw [if_neg hc] at b3 h3 h2
    subst h3
    obtain ⟨⟨a2, n2, c2, rfl⟩, L2⟩ := lst_LW h2 hrl F (fun x t u hx => hR x t u (hrm x hx))
    have h5 : ∀ x ∈ r.map (fun x => (kindAt ns x.toNat, F x)), x.1 = 5 := by
      intro x hx
      obtain ⟨z, hz, rfl⟩ := List.mem_map.1 hx
      have := b3 _ (List.mem_map.2 ⟨z, hz, rfl⟩)
      simpa [fives] using this
    obtain ⟨e1, e2⟩ := wher_all h5
    rw [e1, e2, List.map_map, List.append_nil]
    exact ⟨a1, n1, c1, a2, n2, c2, rfl, rfl, L1, Or.inl rfl, tail_n L2⟩
structure PrOk (ns : List Nd) : Prop where
  fit : ∀ (i : Nat) (n : Nd), ns[i]? = some n → FitI n (kindsOf ns n.Kids)
  len : ∀ (i : Nat) (n : Nd), ns[i]? = some n → n.Kids.length ≤ 1000000
theorem Flds.num {n : Nd} (h : Flds n) : -9223372036854775808 ≤ n.N ∧ n.N ≤ 9223372036854775807 := by
  obtain ⟨_, _, h1, h2, _⟩ := h
  unfold rule at h1 h2
  have key : ∀ k : Int, -9223372036854775808 ≤ (rule k).1 ∧ (rule k).2.1 ≤ 9223372036854775807 := by
    intro k
    unfold rule
    by_cases k1 : k = 1
    · rw [if_pos k1]; decide
    rw [if_neg k1]
    by_cases k3 : k = 3
    · rw [if_pos k3]; decide
    rw [if_neg k3]
    by_cases k4 : k = 4
    · rw [if_pos k4]; decide
    rw [if_neg k4]
    by_cases k5 : k = 5
    · rw [if_pos k5]; decide
    rw [if_neg k5]
    by_cases k6 : k = 6
    · rw [if_pos k6]; decide
    rw [if_neg k6]
    by_cases k8 : k = 8
    · rw [if_pos k8]; decide
    rw [if_neg k8]
    by_cases k9 : k = 9
    · rw [if_pos k9]; decide
    rw [if_neg k9]
    by_cases k11 : k = 11
    · rw [if_pos k11]; decide
    rw [if_neg k11]
    by_cases k12 : k = 12
    · rw [if_pos k12]; decide
    rw [if_neg k12]; decide
  have := key n.K
  unfold rule at this
  omega
theorem two_of {l : List Int} (h : l.length = 2) : ∃ a b, l = [a, b] := by
  match l, h with
  | [a, b], _ => exact ⟨a, b, rfl⟩
theorem one_of {l : List Int} (h : l.length = 1) : ∃ a, l = [a] := by
  match l, h with
  | [a], _ => exact ⟨a, rfl⟩
set_option maxHeartbeats 1000000 in
theorem write_all {p B : Nat} {ns : List Nd} {w : World} (hO : PrOk ns) (hp : 8 ≤ p) (hpB : p < B) (hT : TP w) : ∀ (f i : Nat) (v : Value), TrV ns w (fun b => b < B ∧ b ≠ p) f i v →
    ∃ t x, v = .iface t x ∧ TyK (kindAt ns i) t ∧ Wrs p B 14 v (wd ns f i) w
  | 0, _, _, h => h.elim
  | f + 1, i, v, ⟨n, hn, hN⟩ => by
    have hfit := hO.fit i n hn
    have hlen := hO.len i n hn
    obtain ⟨hF, hKid⟩ := hfit
    have hrange := hF.1
    obtain ⟨t, x, rfl, hty⟩ := hN.ty hrange
    refine ⟨t, x, rfl, by rw [kindAt_some hn]; exact hty, ?_⟩
    rw [wd_at hn]
    have IH := write_all hO hp hpB hT f
    have hnum := hF.num
    have hpl : ∀ x : Int, inB n.K x = false → ∀ t u, TrV ns w (fun b => b < B ∧ b ≠ p) f x.toNat (.iface t u) → True := fun _ _ _ _ _ => trivial
    clear hpl
    unfold TrN at hN
    have hkl : (kindsOf ns n.Kids).length = n.Kids.length := by simp [kindsOf]
    have hW : ∀ (x : Int) (t : Nat) (u : Value), TrV ns w (fun b => b < B ∧ b ≠ p) f x.toNat (.iface t u) → Wrs p B 14 (.iface t u) (wd ns f x.toNat) w := fun x t u h => by
      obtain ⟨_, _, _, _, h3⟩ := IH _ _ h
      exact h3
    have hWP : ∀ (x : Int) (t : Nat) (u : Value), TrV ns w (fun b => b < B ∧ b ≠ p) f x.toNat (.iface t u) → Wrs p B 43 (.iface t u) (brk (decide (kindAt ns x.toNat = 14) || decide (kindAt ns x.toNat = 15)) (wd ns f x.toNat)) w := fun x t u h => by
      obtain ⟨_, _, e, h2, h3⟩ := IH _ _ h
      obtain ⟨rfl, rfl⟩ : t = _ ∧ u = _ := by injection e with e1 e2; exact ⟨e1, e2⟩
      exact prim_wrs h3 _ (by simp only [h2.1, h2.2])
    have hWC : ∀ (x : Int) (t : Nat) (u : Value), TrV ns w (fun b => b < B ∧ b ≠ p) f x.toNat (.iface t u) → Wrs p B 44 (.iface t u) (brk (decide (kindAt ns x.toNat = 15)) (wd ns f x.toNat)) w := fun x t u h => by
      obtain ⟨_, _, e, h2, h3⟩ := IH _ _ h
      obtain ⟨rfl, rfl⟩ : t = _ ∧ u = _ := by injection e with e1 e2; exact ⟨e1, e2⟩
      exact conj_wrs h3 _ (by simp only [h2.2])
    have hIf : ∀ (x : Nat) (u : Value), TrV ns w (fun b => b < B ∧ b ≠ p) f x u → ∃ t y, u = .iface t y := fun x u h => by
      obtain ⟨t, y, e, _, _⟩ := IH _ _ h
      exact ⟨t, y, e⟩
    clear IH
    by_cases k1 : n.K = 1
    · rw [if_pos k1] at hN
      rw [show form n (kw ns f n) = [Lib.itoa n.N] by simp [form, k1], hN]
      exact wr_1 n.N hnum.1 hnum.2 hp hpB hT
    rw [if_neg k1] at hN
    by_cases k2 : n.K = 2
    · rw [if_pos k2] at hN
      rw [show form n (kw ns f n) = [kNULL] by simp [form, k2], hN]
      exact wr_2
    rw [if_neg k2] at hN
    by_cases k3 : n.K = 3
    · rw [if_pos k3] at hN
      rw [show form n (kw ns f n) = [n.S.toList, kDot, Lib.itoa n.N] by simp [form, k3], hN]
      exact wr_3 n.S n.N hnum.1 hnum.2 hp hpB hT
    rw [if_neg k3] at hN
    by_cases k4 : n.K = 4
    · rw [if_pos k4] at hN
      obtain ⟨l, q, u, e, hb⟩ := hN
      rw [e]
      have hk : BlkI (kindsOf ns n.Kids) n.N := by unfold KidsI at hKid; rw [if_pos (by omega)] at hKid; exact hKid
      have ekw : kw ns f n = n.Kids.map fun x => (kindAt ns x.toNat, wd ns f x.toNat) := by unfold kw; simp [inB, k4, brk]
      have etk : ((kw ns f n).take n.N.toNat).map (·.2) = (n.Kids.take n.N.toNat).map (fun x => wd ns f x.toNat) := by rw [ekw, ← List.map_take, List.map_map]; rfl
      obtain ⟨a1, n1, c1, a2, n2, c2, rfl, rfl, L1, hu, hW2⟩ := blk_all hb hk hlen (fun x => wd ns f x.toNat) (fun x t u _ h => hW x t u h)
      rw [← ekw] at hW2
      rw [← etk] at L1
      clear hb e
      obtain ⟨_, hMN, hN0, hN1, hM0, hM1, _⟩ := hF
      simp only [rule, k4] at hN0 hN1 hM0 hM1
      have hMN := hMN k4
      simp at hN0 hN1 hM0 hM1
      have hx1 : (((kw ns f n).take n.N.toNat).map (·.2)).length ≤ 1 := by simp; omega
      by_cases hM : n.M = 1
      · have hz := hMN.1 hM
        have ef : form n (kw ns f n) = [kOpen, kSELECT, aggw 1, kOpen] ++ [kStar] ++ iL [] (((kw ns f n).take n.N.toNat).map (·.2)) ++ [kShut] ++ tailW ((kw ns f n).drop n.N.toNat) ++ [kShut] := by simp [form, k4, hz, hM, iL]
        rw [ef, hM]
        generalize ((kw ns f n).take n.N.toNat).map (·.2) = xss at *
        generalize tailW ((kw ns f n).drop n.N.toNat) = tl at *
        rcases hu with rfl | ⟨t, v, rfl⟩
        · exact wr_4n (agg_n1 hp hpB hT L1 hx1 hW2)
        · exact wr_4i (agg_i1 hp hpB hT L1 hx1 hW2)
      · have hz : n.N = 1 := by have := fun e => hM (hMN.2 e); omega
        have ef : form n (kw ns f n) = [kOpen, kSELECT, aggw n.M, kOpen] ++ iL [] (((kw ns f n).take n.N.toNat).map (·.2)) ++ [kShut] ++ tailW ((kw ns f n).drop n.N.toNat) ++ [kShut] := by
          simp only [form, k4, hz]
          cases kw ns f n <;> simp [iL]
        rw [ef]
        generalize ((kw ns f n).take n.N.toNat).map (·.2) = xss at *
        generalize tailW ((kw ns f n).drop n.N.toNat) = tl at *
        rcases hu with rfl | ⟨t, v, rfl⟩
        · exact wr_4n (agg_n0 n.M (by omega) (by omega) hp hpB hT L1 hx1 hW2)
        · exact wr_4i (agg_i0 n.M (by omega) (by omega) hp hpB hT L1 hx1 hW2)
    rw [if_neg k4] at hN
    by_cases k5 : n.K = 5
    · rw [if_pos k5] at hN
      rw [show form n (kw ns f n) = (if n.S = n.T then [n.S.toList] else [n.S.toList, n.T.toList]) by simp [form, k5], hN]
      by_cases hst : n.S = n.T
      · rw [if_pos hst, ← hst]; exact wr_5 src_same
      · rw [if_neg hst]
        exact wr_5 (src_two (by simp only [beq_eq_false_iff_ne, ne_eq]; exact fun e => hst (ext_toList e).symm))
    rw [if_neg k5] at hN
    by_cases k6 : n.K = 6
    · rw [if_pos k6] at hN
      obtain ⟨l, q, u, e, hb⟩ := hN
      rw [e]
      have hk : BlkI (kindsOf ns n.Kids) n.N := by unfold KidsI at hKid; rw [if_pos (by omega)] at hKid; exact hKid
      have ekw : kw ns f n = n.Kids.map fun x => (kindAt ns x.toNat, wd ns f x.toNat) := by unfold kw; simp [inB, k6, brk]
      have etk : ((kw ns f n).take n.N.toNat).map (·.2) = (n.Kids.take n.N.toNat).map (fun x => wd ns f x.toNat) := by rw [ekw, ← List.map_take, List.map_map]; rfl
      obtain ⟨a1, n1, c1, a2, n2, c2, rfl, rfl, L1, hu, hW2⟩ := blk_all hb hk hlen (fun x => wd ns f x.toNat) (fun x t u _ h => hW x t u h)
      rw [← ekw] at hW2
      rw [← etk] at L1
      clear hb e
      rw [show form n (kw ns f n) = [kSELECT] ++ (if n.M = 1 then [kDISTINCT] else []) ++ iL [kComma] (((kw ns f n).take n.N.toNat).map (·.2)) ++ tailW ((kw ns f n).drop n.N.toNat) by simp [form, k6]]
      generalize ((kw ns f n).take n.N.toNat).map (·.2) = xss at *
      generalize tailW ((kw ns f n).drop n.N.toNat) = tl at *
      by_cases hM : n.M = 1
      · rw [if_pos hM, show (n.M == 1) = true by simp [hM]]
        rcases hu with rfl | ⟨t, v, rfl⟩
        · exact wr_6n (sel_n1 L1 hW2)
        · exact wr_6i (sel_i1 L1 hW2)
      · rw [if_neg hM, show (n.M == 1) = false by simp [hM], List.append_nil]
        rcases hu with rfl | ⟨t, v, rfl⟩
        · exact wr_6n (sel_n0 L1 hW2)
        · exact wr_6i (sel_i0 L1 hW2)
    rw [if_neg k6] at hN
    by_cases k7 : n.K = 7
    · rw [if_pos k7] at hN
      obtain ⟨l, e, hb⟩ := hN
      rw [e]
      have etk : (kw ns f n).map (·.2) = n.Kids.map (fun x => wd ns f x.toNat) := by unfold kw; rw [List.map_map]; refine List.map_congr_left fun x _ => ?_; simp [inB, k7, brk]
      rw [show form n (kw ns f n) = iL [kUNION, kALL] ((kw ns f n).map (·.2)) by simp [form, k7], etk]
      obtain ⟨⟨a1, n1, c1, rfl⟩, L1⟩ := lst_LW (fn := 14) hb hlen (fun x => wd ns f x.toNat) (fun x t u _ h => hW x t u h)
      exact wr_7 L1
    rw [if_neg k7] at hN
    by_cases k8 : n.K = 8
    · rw [if_pos k8] at hN
      obtain ⟨u0, u1, e, r0, r1⟩ := hN
      rw [e]
      have hk : n.Kids.length = 2 := by unfold KidsI at hKid; simp [k8, hkl] at hKid; omega
      obtain ⟨a, b, hab⟩ := two_of hk
      rw [hab] at r0 r1
      obtain ⟨t0, v0, rfl⟩ := hIf _ _ r0
      obtain ⟨t1, v1, rfl⟩ := hIf _ _ r1
      have ef : form n (kw ns f n) = wd ns f a.toNat ++ [comp n.M] ++ wd ns f b.toNat := by simp [form, k8, kw, hab, inB, brk]
      rw [ef]
      obtain ⟨_, _, hN0, hN1, hM0, hM1, _⟩ := hF
      simp [rule, k8] at hN0 hN1 hM0 hM1
      exact wr_8 n.M (by omega) (by omega) hp hpB hT (hW a t0 v0 r0) (hW b t1 v1 r1)
    rw [if_neg k8] at hN
    by_cases k9 : n.K = 9
    · rw [if_pos k9] at hN
      obtain ⟨u0, e, r0⟩ := hN
      rw [e]
      have hk : n.Kids.length = 1 := by unfold KidsI at hKid; simp [k9, hkl] at hKid; omega
      obtain ⟨a, hab⟩ := one_of hk
      rw [hab] at r0
      obtain ⟨t0, v0, rfl⟩ := hIf _ _ r0
      have ef : form n (kw ns f n) = wd ns f a.toNat ++ [kIS] ++ notW n.M ++ [kNULL] := by simp [form, k9, kw, hab, inB, brk]
      rw [ef]
      exact wr_9 n.M (hW a t0 v0 r0)
    rw [if_neg k9] at hN
    by_cases k10 : n.K = 10
    · rw [if_pos k10] at hN
      obtain ⟨u0, e, r0⟩ := hN
      rw [e]
      have hk : n.Kids.length = 1 := by unfold KidsI at hKid; simp [k10, hkl] at hKid; omega
      obtain ⟨a, hab⟩ := one_of hk
      rw [hab] at r0
      obtain ⟨t0, v0, rfl⟩ := hIf _ _ r0
      have ef : form n (kw ns f n) = [kEXISTS, kOpen] ++ wd ns f a.toNat ++ [kShut] := by simp [form, k10, kw, hab, inB, brk]
      rw [ef]
      exact wr_10 (hW a t0 v0 r0)
    rw [if_neg k10] at hN
    by_cases k11 : n.K = 11
    · rw [if_pos k11] at hN
      obtain ⟨u0, u1, e, r0, r1⟩ := hN
      rw [e]
      have hk : n.Kids.length = 2 := by unfold KidsI at hKid; simp [k11, hkl] at hKid; omega
      obtain ⟨a, b, hab⟩ := two_of hk
      rw [hab] at r0 r1
      obtain ⟨t0, v0, rfl⟩ := hIf _ _ r0
      obtain ⟨t1, v1, rfl⟩ := hIf _ _ r1
      have ef : form n (kw ns f n) = wd ns f a.toNat ++ notW n.M ++ [kIN, kOpen] ++ wd ns f b.toNat ++ [kShut] := by simp [form, k11, kw, hab, inB, brk]
      rw [ef]
      exact wr_11 n.M (hW a t0 v0 r0) (hW b t1 v1 r1)
    rw [if_neg k11] at hN
    by_cases k12 : n.K = 12
    · rw [if_pos k12] at hN
      obtain ⟨u0, u1, e, r0, r1⟩ := hN
      rw [e]
      have hk : n.Kids.length = 2 := by unfold KidsI at hKid; simp [k12, hkl] at hKid; omega
      obtain ⟨a, b, hab⟩ := two_of hk
      rw [hab] at r0 r1
      obtain ⟨t0, v0, rfl⟩ := hIf _ _ r0
      obtain ⟨t1, v1, rfl⟩ := hIf _ _ r1
      have ef : form n (kw ns f n) = wd ns f a.toNat ++ [comp n.M, if n.N = 2 then kALL else kANY, kOpen] ++ wd ns f b.toNat ++ [kShut] := by simp [form, k12, kw, hab, inB, brk]
      rw [ef]
      obtain ⟨_, _, hN0, hN1, hM0, hM1, _⟩ := hF
      simp [rule, k12] at hN0 hN1 hM0 hM1
      have hc : n.N = 1 ∨ n.N = 2 := by omega
      rcases hc with hc | hc
      · rw [hc, if_neg (by decide)]; exact wr_12 (quant_one n.M (by omega) (by omega) hp hpB hT (hW a t0 v0 r0) (hW b t1 v1 r1))
      · rw [hc, if_pos rfl]; exact wr_12 (quant_two n.M (by omega) (by omega) hp hpB hT (hW a t0 v0 r0) (hW b t1 v1 r1))
    rw [if_neg k12] at hN
    by_cases k13 : n.K = 13
    · rw [if_pos k13] at hN
      obtain ⟨u0, e, r0⟩ := hN
      rw [e]
      have hk : n.Kids.length = 1 := by unfold KidsI at hKid; simp [k13, hkl] at hKid; omega
      obtain ⟨a, hab⟩ := one_of hk
      rw [hab] at r0
      obtain ⟨t0, v0, rfl⟩ := hIf _ _ r0
      have ef : form n (kw ns f n) = [kNOT] ++ brk (decide (kindAt ns a.toNat = 14) || decide (kindAt ns a.toNat = 15)) (wd ns f a.toNat) := by simp [form, k13, kw, hab, inB]
      rw [ef]
      exact wr_13 (hWP a t0 v0 r0)
    rw [if_neg k13] at hN
    by_cases k14 : n.K = 14
    · rw [if_pos k14] at hN
      obtain ⟨l, e, hb⟩ := hN
      rw [e]
      have etk : (kw ns f n).map (·.2) = n.Kids.map (fun x => brk (decide (kindAt ns x.toNat = 14) || decide (kindAt ns x.toNat = 15)) (wd ns f x.toNat)) := by unfold kw; rw [List.map_map]; refine List.map_congr_left fun x _ => ?_; simp [inB, k14]
      rw [show form n (kw ns f n) = iL [kAND] ((kw ns f n).map (·.2)) by simp [form, k14], etk]
      obtain ⟨⟨a1, n1, c1, rfl⟩, L1⟩ := lst_LW (fn := 43) hb hlen (fun x => brk (decide (kindAt ns x.toNat = 14) || decide (kindAt ns x.toNat = 15)) (wd ns f x.toNat)) (fun x t u _ h => hWP x t u h)
      exact wr_14 L1
    rw [if_neg k14] at hN
    have k15 : n.K = 15 := by omega
    obtain ⟨l, e, hb⟩ := hN
    rw [e]
    have etk : (kw ns f n).map (·.2) = n.Kids.map (fun x => brk (decide (kindAt ns x.toNat = 15)) (wd ns f x.toNat)) := by unfold kw; rw [List.map_map]; refine List.map_congr_left fun x _ => ?_; simp [inB, k15]
    rw [show form n (kw ns f n) = iL [kOR] ((kw ns f n).map (·.2)) by simp [form, k15], etk]
    obtain ⟨⟨a1, n1, c1, rfl⟩, L1⟩ := lst_LW (fn := 44) hb hlen (fun x => brk (decide (kindAt ns x.toNat = 15)) (wd ns f x.toNat)) (fun x t u _ h => hWC x t u h)
    exact wr_15 L1
end Go.Proofs.YtmcbmmpjhijagaaGreatDoor
