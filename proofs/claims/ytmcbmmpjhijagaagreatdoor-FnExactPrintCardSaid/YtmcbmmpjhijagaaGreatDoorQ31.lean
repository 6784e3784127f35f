import Derived.Test.YtmcbmmpjhijagaaGreatDoorQ27
import Derived.Test.YtmcbmmpjhijagaaGreatDoorPrBlock1
import Derived.Test.YtmcbmmpjhijagaaGreatDoorPrBlock2
import Derived.Test.YtmcbmmpjhijagaaGreatDoorQ30
import Derived.Test.YtmcbmmpjhijagaaGreatDoorPrWrite
namespace Go.Proofs.YtmcbmmpjhijagaaGreatDoor
open Go Go.RowKit
def Rng (ns : List Nd) : Prop := ∀ (i : Nat) (n : Nd), ns[i]? = some n → 1 ≤ n.K ∧ n.K ≤ 15
theorem TrV.ifc {ns : List Nd} (hr : Rng ns) {w : World} {S : Nat → Prop} : ∀ {f i : Nat} {v : Value}, TrV ns w S f i v → ∃ t x, v = .iface t x
  | 0, _, _, h => h.elim
  | _ + 1, _, _, ⟨n, hn, hT⟩ => by
    obtain ⟨t, x, e, _⟩ := hT.ty (hr _ n hn)
    exact ⟨t, x, e⟩
theorem TrV.up {ns : List Nd} {w : World} {S : Nat → Prop} : ∀ {f i : Nat} {v : Value}, TrV ns w S f i v → TrV ns w S (f + 1) i v
  | 0, _, _, h => h.elim
  | _ + 1, _, _, ⟨n, hn, hT⟩ => ⟨n, hn, hT.mono (fun _ h1 h2 => ⟨h1, h2, rfl⟩) (fun _ _ h => TrV.up h)⟩
theorem TrV.fuel {ns : List Nd} {w : World} {S : Nat → Prop} {f g i : Nat} {v : Value} (h : TrV ns w S f i v) (hle : f ≤ g) : TrV ns w S g i v := by
  induction hle with
  | refl => exact h
  | step _ ih => exact ih.up
theorem block_cond {ns : List Nd} (hr : Rng ns) {w : World} {S : Nat → Prop} {f i : Nat} {V : Value} (hV : TrV ns w S f i V) (hk : cdB (kindAt ns i) = true) {kg m N : Nat} {W : World} (hN : N < m) (hm : m ≤ 1000000) (hkg : kg < W.heap.size) (hc : W.cell? ⟨kg, m - 1, none⟩ = some V) :
    Calls Tryz.prog 65 #[.slice (some ⟨kg, 0, none⟩) m m, .int .i64 (N : Int)] W fun e w' => e = .returned (.agg #[.slice (some ⟨kg, 0, none⟩) N m, .slice (some ⟨kg, N, none⟩) (m - N - 1) (m - N), V]) ∧ Below W.heap.size W w' := by
  obtain _ | f := f
  · exact hV.elim
  obtain ⟨n, hn, hT⟩ := hV
  rw [kindAt_some hn] at hk
  unfold cdB at hk
  simp at hk
  unfold TrN at hT
  rw [if_neg (by omega), if_neg (by omega), if_neg (by omega), if_neg (by omega), if_neg (by omega), if_neg (by omega), if_neg (by omega)] at hT
  by_cases k8 : n.K = 8
  · rw [if_pos k8] at hT
    obtain ⟨u0, u1, rfl, r0, r1⟩ := hT
    obtain ⟨t0, v0, rfl⟩ := r0.ifc hr
    obtain ⟨t1, v1, rfl⟩ := r1.ifc hr
    exact block_8 hN hm hkg hc
  rw [if_neg k8] at hT
  by_cases k9 : n.K = 9
  · rw [if_pos k9] at hT
    obtain ⟨u0, rfl, r0⟩ := hT
    obtain ⟨t0, v0, rfl⟩ := r0.ifc hr
    exact block_9 hN hm hkg hc
  rw [if_neg k9] at hT
  by_cases k10 : n.K = 10
  · rw [if_pos k10] at hT
    obtain ⟨u0, rfl, r0⟩ := hT
    obtain ⟨t0, v0, rfl⟩ := r0.ifc hr
    exact block_10 hN hm hkg hc
  rw [if_neg k10] at hT
  by_cases k11 : n.K = 11
  · rw [if_pos k11] at hT
    obtain ⟨u0, u1, rfl, r0, r1⟩ := hT
    obtain ⟨t0, v0, rfl⟩ := r0.ifc hr
    obtain ⟨t1, v1, rfl⟩ := r1.ifc hr
    exact block_11 hN hm hkg hc
  rw [if_neg k11] at hT
  by_cases k12 : n.K = 12
  · rw [if_pos k12] at hT
    obtain ⟨u0, u1, rfl, r0, r1⟩ := hT
    obtain ⟨t0, v0, rfl⟩ := r0.ifc hr
    obtain ⟨t1, v1, rfl⟩ := r1.ifc hr
    exact block_12 hN hm hkg hc
  rw [if_neg k12] at hT
  by_cases k13 : n.K = 13
  · rw [if_pos k13] at hT
    obtain ⟨u0, rfl, r0⟩ := hT
    obtain ⟨t0, v0, rfl⟩ := r0.ifc hr
    exact block_13 hN hm hkg hc
  rw [if_neg k13] at hT
  by_cases k14 : n.K = 14
  · rw [if_pos k14] at hT
    obtain ⟨l, rfl, g, o, c, rfl, _⟩ := hT
    exact block_14 hN hm hkg hc
  rw [if_neg k14] at hT
  obtain ⟨l, rfl, g, o, c, rfl, _⟩ := hT
  exact block_15 hN hm hkg hc
theorem LstV.cut {w : World} {S : Nat → Prop} {R : Nat → Value → Prop} {ks : List Int} {kg o c : Nat} (hc : ks.length ≤ c) (hS : S kg) (hk : kg < w.heap.size) (h : ∀ (j : Nat) x, ks[j]? = some x → ∃ t u, w.cell? ⟨kg, o + j, none⟩ = some (.iface t u) ∧ R x.toNat (.iface t u)) : LstV w S R ks (.slice (some ⟨kg, o, none⟩) ks.length c) :=
  ⟨kg, o, c, rfl, hc, hS, hk, h⟩
theorem blockOf_calls {ns : List Nd} (hr : Rng ns) {n : Nd} {kg : Nat} {w : World} {S : Nat → Prop} {f : Nat} (hB : BlkI (kindsOf ns n.Kids) n.N) (hN0 : 0 ≤ n.N) (hm : n.Kids.length ≤ 1000000) (hk : kg < w.heap.size) (hS : S kg)
    (hcells : ∀ (j : Nat) x, n.Kids[j]? = some x → ∃ t u, w.cell? ⟨kg, j, none⟩ = some (.iface t u) ∧ TrV ns w S f x.toNat (.iface t u)) (W : World) (hW : Below w.heap.size w W) :
    Calls Tryz.prog 65 #[.slice (some ⟨kg, 0, none⟩) n.Kids.length n.Kids.length, .int .i64 n.N] W fun e w' => (∃ a1 n1 c1 a2 n2 c2 u, e = .returned (.agg #[.slice a1 n1 c1, .slice a2 n2 c2, u]) ∧ (u = .nilIface ∨ ∃ t v, u = .iface t v) ∧ BlkV ns w S (TrV ns w S f) n (.slice a1 n1 c1) (.slice a2 n2 c2) u) ∧ Below W.heap.size W w' := by
  obtain ⟨N, hN⟩ : ∃ N : Nat, n.N = (N : Int) := ⟨n.N.toNat, by omega⟩
  obtain ⟨hb1, _, hb3, hb4⟩ := hB
  unfold BlkV
  rw [hN] at hb3 hb4 ⊢
  simp only [Int.toNat_natCast] at hb3 hb4 ⊢
  have ek : (kindsOf ns n.Kids).drop N = (n.Kids.drop N).map fun x => kindAt ns x.toNat := by unfold kindsOf; rw [← List.map_drop]
  rw [ek] at hb3 hb4
  have hne : n.Kids.drop N ≠ [] := by
    intro e
    rw [e] at hb4
    simp [cutI] at hb4
  have hNm : N < n.Kids.length := by
    rcases Nat.lt_or_ge N n.Kids.length with h | h
    · exact h
    · exact absurd (List.drop_eq_nil_of_le h) hne
  obtain ⟨y, hy⟩ : ∃ y, n.Kids[n.Kids.length - 1]? = some y := ⟨n.Kids[n.Kids.length - 1]'(by omega), List.getElem?_eq_getElem (by omega)⟩
  have hlast : (n.Kids.drop N).getLast? = some y := by
    rw [List.getLast?_eq_getElem?, List.getElem?_drop, List.length_drop, show N + (n.Kids.length - N - 1) = n.Kids.length - 1 by omega, hy]
  obtain ⟨t, u, hc, hT⟩ := hcells _ y hy
  have hcW : W.cell? ⟨kg, n.Kids.length - 1, none⟩ = some (.iface t u) := ((bcell hW).1 kg _ hk).trans hc
  have hkW : kg < W.heap.size := Nat.lt_of_lt_of_le hk hW.size
  have L1 : LstV w S (TrV ns w S f) (n.Kids.take N) (.slice (some ⟨kg, 0, none⟩) N n.Kids.length) := by
    have := LstV.cut (w := w) (S := S) (R := TrV ns w S f) (ks := n.Kids.take N) (kg := kg) (o := 0) (c := n.Kids.length) (by simp; omega) hS hk (fun j x hj => by
      rw [Nat.zero_add]
      rw [List.getElem?_take] at hj
      split at hj
      · exact hcells j x hj
      · cases hj)
    rwa [show (n.Kids.take N).length = N by simp; omega] at this
  have hcd : ∀ (j : Nat) x, (n.Kids.drop N)[j]? = some x → ∃ t u, w.cell? ⟨kg, N + j, none⟩ = some (.iface t u) ∧ TrV ns w S f x.toNat (.iface t u) := fun j x hj => by
    rw [List.getElem?_drop] at hj
    exact hcells _ x hj
  have hgl : ((n.Kids.drop N).map fun x => kindAt ns x.toNat).getLast? = some (kindAt ns y.toNat) := by rw [List.getLast?_map, hlast]; rfl
  unfold cutI at hb3
  rw [hgl] at hb3
  unfold srcK WhV
  rw [hlast]
  simp only [Option.any_some, Option.getD_some] at hb3 ⊢
  by_cases hcond : cdB (kindAt ns y.toNat) = true
  · simp only [hcond, if_true]
    refine (block_cond hr hT hcond hNm hm hkW hcW).mono ?_
    rintro e w1 ⟨rfl, hb⟩
    refine ⟨⟨_, _, _, _, _, _, _, rfl, Or.inr ⟨t, u, rfl⟩, L1, ?_, hT, t, u, rfl⟩, hb⟩
    have := LstV.cut (w := w) (S := S) (R := TrV ns w S f) (ks := (n.Kids.drop N).dropLast) (kg := kg) (o := N) (c := n.Kids.length - N) (by simp) hS hk (fun j x hj => by
      refine hcd j x ?_
      rw [List.getElem?_dropLast] at hj
      split at hj
      · exact hj
      · cases hj)
    rwa [show ((n.Kids.drop N).dropLast).length = n.Kids.length - N - 1 by simp] at this
  · rw [if_neg hcond] at hb3
    simp only [if_neg hcond]
    have h5 : kindAt ns y.toNat = 5 := by
      have := hb3 _ (List.mem_of_getLast? hgl)
      simpa [fives] using this
    obtain _ | f := f
    · exact hT.elim
    obtain ⟨n', hn', hT'⟩ := hT
    rw [kindAt_some hn'] at h5
    unfold TrN at hT'
    rw [if_neg (by omega), if_neg (by omega), if_neg (by omega), if_neg (by omega), if_pos h5] at hT'
    rw [hT'] at hcW
    refine (block_5 hNm hm hkW hcW).mono ?_
    rintro e w1 ⟨rfl, hb⟩
    refine ⟨⟨_, _, _, _, _, _, _, rfl, Or.inl rfl, L1, ?_, rfl⟩, hb⟩
    have := LstV.cut (w := w) (S := S) (R := TrV ns w S (f + 1)) (ks := n.Kids.drop N) (kg := kg) (o := N) (c := n.Kids.length - N) (by simp) hS hk hcd
    rwa [show (n.Kids.drop N).length = n.Kids.length - N by simp] at this
theorem treeOf_calls {ns : List Nd} (hr : Rng ns) {n : Nd} {kg : Nat} {w : World} {S : Nat → Prop} {f : Nat} (hF : FitI n (kindsOf ns n.Kids)) (hm : n.Kids.length ≤ 1000000) (hk : kg < w.heap.size) (hS : S kg)
    (hcells : ∀ (j : Nat) x, n.Kids[j]? = some x → ∃ t u, w.cell? ⟨kg, j, none⟩ = some (.iface t u) ∧ TrV ns w S f x.toNat (.iface t u)) (ka : Option Addr) (kn kc : Nat) :
    Calls Tryz.prog 45 #[.agg #[.int .i64 n.K, .int .i64 n.N, .int .i64 n.M, .string n.S, .string n.T, .slice ka kn kc], .slice (some ⟨kg, 0, none⟩) n.Kids.length n.Kids.length] w fun e w' => (∃ v, e = .returned v ∧ TrN ns w S (TrV ns w S f) n v) ∧ Below w.heap.size w w' := by
  obtain ⟨hFl, hK⟩ := hF
  have hkl : (kindsOf ns n.Kids).length = n.Kids.length := by simp [kindsOf]
  have hN0 : n.K = 4 ∨ n.K = 6 → 0 ≤ n.N := fun h => by
    obtain ⟨_, _, h1, _⟩ := hFl
    rcases h with h | h <;> (simp [rule, h] at h1; omega)
  have hL : LstV w S (TrV ns w S f) n.Kids (.slice (some ⟨kg, 0, none⟩) n.Kids.length n.Kids.length) := LstV.cut (Nat.le_refl _) hS hk (fun j x hj => by rw [Nat.zero_add]; exact hcells j x hj)
  have hrange := hFl.1
  unfold TrN
  by_cases k1 : n.K = 1
  · simp only [if_pos k1]
    rw [k1]
    exact tree_1.mono fun e w' ⟨h1, h2⟩ => ⟨⟨_, h1, rfl⟩, h2⟩
  by_cases k2 : n.K = 2
  · simp only [if_pos k2, if_neg k1]
    rw [k2]
    exact tree_2.mono fun e w' ⟨h1, h2⟩ => ⟨⟨_, h1, rfl⟩, h2⟩
  by_cases k3 : n.K = 3
  · simp only [if_pos k3, if_neg k1, if_neg k2]
    rw [k3]
    exact tree_3.mono fun e w' ⟨h1, h2⟩ => ⟨⟨_, h1, rfl⟩, h2⟩
  by_cases k4 : n.K = 4
  · simp only [if_pos k4, if_neg k1, if_neg k2, if_neg k3]
    rw [k4]
    have hb : BlkI (kindsOf ns n.Kids) n.N := by unfold KidsI at hK; rw [if_pos (by omega)] at hK; exact hK
    refine (tree_4 (Q := fun l q u => BlkV ns w S (TrV ns w S f) n l q u) (fun W hW => blockOf_calls hr hb (hN0 (by omega)) hm hk hS hcells W hW)).mono ?_
    rintro e w1 ⟨⟨l, q, u, rfl, hQ⟩, hb1⟩
    exact ⟨⟨_, rfl, l, q, u, rfl, hQ⟩, hb1⟩
  by_cases k5 : n.K = 5
  · simp only [if_pos k5, if_neg k1, if_neg k2, if_neg k3, if_neg k4]
    rw [k5]
    exact tree_5.mono fun e w' ⟨h1, h2⟩ => ⟨⟨_, h1, rfl⟩, h2⟩
  by_cases k6 : n.K = 6
  · simp only [if_pos k6, if_neg k1, if_neg k2, if_neg k3, if_neg k4, if_neg k5]
    rw [k6]
    have hb : BlkI (kindsOf ns n.Kids) n.N := by unfold KidsI at hK; rw [if_pos (by omega)] at hK; exact hK
    refine (tree_6 (Q := fun l q u => BlkV ns w S (TrV ns w S f) n l q u) (fun W hW => blockOf_calls hr hb (hN0 (by omega)) hm hk hS hcells W hW)).mono ?_
    rintro e w1 ⟨⟨l, q, u, rfl, hQ⟩, hb1⟩
    exact ⟨⟨_, rfl, l, q, u, rfl, hQ⟩, hb1⟩
  by_cases k7 : n.K = 7
  · simp only [if_pos k7, if_neg k1, if_neg k2, if_neg k3, if_neg k4, if_neg k5, if_neg k6]
    rw [k7]
    exact tree_7.mono fun e w' ⟨h1, h2⟩ => ⟨⟨_, h1, _, rfl, hL⟩, h2⟩
  by_cases k8 : n.K = 8
  · simp only [if_pos k8, if_neg k1, if_neg k2, if_neg k3, if_neg k4, if_neg k5, if_neg k6, if_neg k7]
    rw [k8]
    have hlen : n.Kids.length = 2 := by unfold KidsI at hK; simp [k8, hkl] at hK; omega
    obtain ⟨a, b, hab⟩ := two_of hlen
    rw [hlen]
    obtain ⟨t0, v0, c0, r0⟩ := hcells 0 a (by rw [hab]; rfl)
    obtain ⟨t1, v1, c1, r1⟩ := hcells 1 b (by rw [hab]; rfl)
    exact (tree_8 hk c0 c1).mono fun e w' ⟨h1, h2⟩ => ⟨⟨_, h1, _, _, rfl, by rw [hab]; exact r0, by rw [hab]; exact r1⟩, h2⟩
  by_cases k9 : n.K = 9
  · simp only [if_pos k9, if_neg k1, if_neg k2, if_neg k3, if_neg k4, if_neg k5, if_neg k6, if_neg k7, if_neg k8]
    rw [k9]
    have hlen : n.Kids.length = 1 := by unfold KidsI at hK; simp [k9, hkl] at hK; omega
    obtain ⟨a, hab⟩ := one_of hlen
    rw [hlen]
    obtain ⟨t0, v0, c0, r0⟩ := hcells 0 a (by rw [hab]; rfl)
    exact (tree_9 hk c0).mono fun e w' ⟨h1, h2⟩ => ⟨⟨_, h1, _, rfl, by rw [hab]; exact r0⟩, h2⟩
  by_cases k10 : n.K = 10
  · simp only [if_pos k10, if_neg k1, if_neg k2, if_neg k3, if_neg k4, if_neg k5, if_neg k6, if_neg k7, if_neg k8, if_neg k9]
    rw [k10]
    have hlen : n.Kids.length = 1 := by unfold KidsI at hK; simp [k10, hkl] at hK; omega
    obtain ⟨a, hab⟩ := one_of hlen
    rw [hlen]
    obtain ⟨t0, v0, c0, r0⟩ := hcells 0 a (by rw [hab]; rfl)
    exact (tree_10 hk c0).mono fun e w' ⟨h1, h2⟩ => ⟨⟨_, h1, _, rfl, by rw [hab]; exact r0⟩, h2⟩
  by_cases k11 : n.K = 11
  · simp only [if_pos k11, if_neg k1, if_neg k2, if_neg k3, if_neg k4, if_neg k5, if_neg k6, if_neg k7, if_neg k8, if_neg k9, if_neg k10]
    rw [k11]
    have hlen : n.Kids.length = 2 := by unfold KidsI at hK; simp [k11, hkl] at hK; omega
    obtain ⟨a, b, hab⟩ := two_of hlen
    rw [hlen]
    obtain ⟨t0, v0, c0, r0⟩ := hcells 0 a (by rw [hab]; rfl)
    obtain ⟨t1, v1, c1, r1⟩ := hcells 1 b (by rw [hab]; rfl)
    exact (tree_11 hk c0 c1).mono fun e w' ⟨h1, h2⟩ => ⟨⟨_, h1, _, _, rfl, by rw [hab]; exact r0, by rw [hab]; exact r1⟩, h2⟩
  by_cases k12 : n.K = 12
  · simp only [if_pos k12, if_neg k1, if_neg k2, if_neg k3, if_neg k4, if_neg k5, if_neg k6, if_neg k7, if_neg k8, if_neg k9, if_neg k10, if_neg k11]
    rw [k12]
    have hlen : n.Kids.length = 2 := by unfold KidsI at hK; simp [k12, hkl] at hK; omega
    obtain ⟨a, b, hab⟩ := two_of hlen
    rw [hlen]
    obtain ⟨t0, v0, c0, r0⟩ := hcells 0 a (by rw [hab]; rfl)
    obtain ⟨t1, v1, c1, r1⟩ := hcells 1 b (by rw [hab]; rfl)
    exact (tree_12 hk c0 c1).mono fun e w' ⟨h1, h2⟩ => ⟨⟨_, h1, _, _, rfl, by rw [hab]; exact r0, by rw [hab]; exact r1⟩, h2⟩
  by_cases k13 : n.K = 13
  · simp only [if_pos k13, if_neg k1, if_neg k2, if_neg k3, if_neg k4, if_neg k5, if_neg k6, if_neg k7, if_neg k8, if_neg k9, if_neg k10, if_neg k11, if_neg k12]
    rw [k13]
    have hlen : n.Kids.length = 1 := by unfold KidsI at hK; simp [k13, hkl] at hK; omega
    obtain ⟨a, hab⟩ := one_of hlen
    rw [hlen]
    obtain ⟨t0, v0, c0, r0⟩ := hcells 0 a (by rw [hab]; rfl)
    exact (tree_13 hk c0).mono fun e w' ⟨h1, h2⟩ => ⟨⟨_, h1, _, rfl, by rw [hab]; exact r0⟩, h2⟩
  by_cases k14 : n.K = 14
  · simp only [if_pos k14, if_neg k1, if_neg k2, if_neg k3, if_neg k4, if_neg k5, if_neg k6, if_neg k7, if_neg k8, if_neg k9, if_neg k10, if_neg k11, if_neg k12, if_neg k13]
    rw [k14]
    exact tree_14.mono fun e w' ⟨h1, h2⟩ => ⟨⟨_, h1, _, rfl, hL⟩, h2⟩
  have k15 : n.K = 15 := by omega
  simp only [if_neg k1, if_neg k2, if_neg k3, if_neg k4, if_neg k5, if_neg k6, if_neg k7, if_neg k8, if_neg k9, if_neg k10, if_neg k11, if_neg k12, if_neg k13, if_neg k14]
  rw [k15]
  exact tree_15.mono fun e w' ⟨h1, h2⟩ => ⟨⟨_, h1, _, rfl, hL⟩, h2⟩
end Go.Proofs.YtmcbmmpjhijagaaGreatDoor
namespace Go.Proofs.YtmcbmmpjhijagaaGreatDoor
open Go Go.RowKit
theorem make_trees (n : Nat) (hn : n ≤ 1048576) (w : World) :
    (Instr.makeSlice 73 (.int .i64 (n : Int)) (.int .i64 (n : Int))).run Tryz.prog w = .ok (.slice (some ⟨w.heap.size, 0, none⟩) n n) (w.alloc (.cells (madeCells #[.nilIface] n) 42)) := by
  obtain ⟨i, hi, hz⟩ := Option.map_eq_some_iff.1 (show (Tryz.prog.info? 42).map (fun i => (i.zero, i.size, i.bytes)) = some (some .nilIface, 1, 16) by kernel_rfl)
  simp only [Prod.mk.injEq] at hz
  have := run_make (P := Tryz.prog) w 73 42 i _ Tryz.underlying73 hi hz.1 .i64 .i64 (n : Int) (n : Int) (by omega) (by omega) (by rw [hz.2.2]; omega) (by omega)
  rw [hz.2.1] at this
  simpa [Value.cells] using this
structure VRow (w : World) (g : Nat) (vs : List Value) : Prop where
  size : g < w.heap.size
  frz : ∀ o, w.frozen? ⟨g, o, none⟩ = false
  held : ∀ (j : Nat) v, vs[j]? = some v → w.cell? ⟨g, j, none⟩ = some v
theorem VRow.made (w : World) (n : Nat) (t : TypeId) (b : Nat) (hb : w.heap.size = b) : VRow (w.alloc (.cells (madeCells #[.nilIface] n) t)) b (List.replicate n .nilIface) := by
  subst hb
  refine ⟨by simp, fun o => by simp [go_sem], fun j v hj => ?_⟩
  obtain ⟨hi, rfl⟩ := List.getElem?_eq_some_iff.1 hj
  simp at hi
  simp only [List.getElem_replicate]
  rw [World.cell?_alloc_at _ t _ j rfl, ← Array.getElem?_toList, toList_madeCells_one]
  simp [hi]
theorem VRow.of {w w1 : World} {B g : Nat} {vs : List Value} (h : VRow w g vs) (hg : g < B) (hb : Below B w w1) : VRow w1 g vs :=
  ⟨Nat.lt_of_lt_of_le h.size hb.size, fun o => (World.frozen?_of_block (a := ⟨g, o, none⟩) (hb.block g hg)).trans (h.frz o), fun j v hj => (World.cell?_of_block (a := ⟨g, j, none⟩) (hb.block g hg)).trans (h.held j v hj)⟩
theorem VRow.set {w : World} {g i : Nat} {vs : List Value} (h : VRow w g vs) (hi : i < vs.length) (u : Value) : VRow (w.setCell ⟨g, i, none⟩ u) g (vs.set i u) := by
  refine ⟨by simpa using h.size, fun o => by rw [frozen_setCellN]; exact h.frz o, fun j v hj => ?_⟩
  by_cases e : i = j
  · subst e
    rw [List.getElem?_set_self hi] at hj
    injection hj with hj
    subst hj
    exact World.cell?_setCell_same _ _ _ (h.held i vs[i] (List.getElem?_eq_getElem hi))
  · rw [List.getElem?_set_ne e] at hj
    rw [setCell_otherN e]
    exact h.held j v hj
def Trs (ns : List Nd) (w : World) (tg k : Nat) (ts : List Value) : Prop := ∀ j, j < k → ∃ v, ts[j]? = some v ∧ TrV ns w (fun b => tg < b) (j + 1) j v
theorem Trs.mono {ns : List Nd} {w w1 : World} {tg k : Nat} {ts : List Value} (h : Trs ns w tg k ts) (hb : ∀ b, tg < b → b < w.heap.size → b < w1.heap.size ∧ w1.heap[b]? = w.heap[b]?) : Trs ns w1 tg k ts := fun j hj => by
  obtain ⟨v, h1, h2⟩ := h j hj
  exact ⟨v, h1, TrV.mono (fun b h3 h4 => ⟨h3, (hb b h3 h4).1, (hb b h3 h4).2⟩) _ _ _ h2⟩
theorem Trs.below {ns : List Nd} {w w1 : World} {tg k : Nat} {ts : List Value} (h : Trs ns w tg k ts) (hb : Below w.heap.size w w1) : Trs ns w1 tg k ts :=
  h.mono fun b _ h2 => ⟨Nat.lt_of_lt_of_le h2 hb.size, hb.block b h2⟩
end Go.Proofs.YtmcbmmpjhijagaaGreatDoor
