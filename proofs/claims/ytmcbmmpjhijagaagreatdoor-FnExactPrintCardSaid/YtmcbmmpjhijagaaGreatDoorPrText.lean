import Derived.Test.YtmcbmmpjhijagaaGreatDoorQ19
import Derived.Test.YtmcbmmpjhijagaaGreatDoorPrTxC
import Derived.Test.YtmcbmmpjhijagaaGreatDoorPrTxD
import Derived.Test.YtmcbmmpjhijagaaGreatDoorPrTxE
import Derived.Test.YtmcbmmpjhijagaaGreatDoorPrTxF
import Derived.Test.YtmcbmmpjhijagaaGreatDoorPrTxG
namespace Go.Proofs.YtmcbmmpjhijagaaGreatDoor
open Go Go.RowKit
theorem single_le {a : Nat} : ∀ {l : List Nat}, a ∈ l → a ≤ l.sum
  | x :: r, h => by
    rw [List.sum_cons]
    rcases List.mem_cons.1 h with rfl | h
    · omega
    · have := single_le h
      omega
theorem sum_leI {f g : Int → Nat} : ∀ (l : List Int), (∀ x ∈ l, f x ≤ g x) → (l.map f).sum ≤ (l.map g).sum
  | [], _ => by simp
  | x :: r, h => by
    have := sum_leI r (fun y hy => h y (by simp [hy]))
    have := h x (by simp)
    simp only [List.map_cons, List.sum_cons]
    omega
theorem sum_add (f : Int → Nat) (c : Nat) : ∀ (l : List Int), (l.map fun x => f x + c).sum = (l.map f).sum + c * l.length
  | [] => by simp
  | x :: r => by
    have := sum_add f c r
    simp only [List.map_cons, List.sum_cons, List.length_cons, Nat.mul_succ]
    omega
theorem kidsum_of {ns : List Nd} (h : IV ns) {i : Nat} {n : Nd} (hi : ns[i]? = some n) : (n.Kids.map fun x => wl (wds ns x.toNat) + 16).sum ≤ 3000000 ∧ n.Kids.length ≤ 10000 ∧ ∀ x ∈ n.Kids, 0 ≤ x ∧ x.toNat < i ∧ x < (ns.length : Int) ∧ wl (wds ns x.toNat) ≤ 3000000 := by
  have hlt : i < ns.length := (List.getElem?_eq_some_iff.1 hi).1
  have h2 := h.hi
  obtain ⟨c, hc⟩ := h.seg.each i (Nat.zero_le _) hlt
  rw [kidsAt_some hi] at hc
  have h3 := seg_wl h.fore h.fit hc (by omega)
  have h4 := hc.len
  refine ⟨by omega, by omega, fun x hx => ?_⟩
  obtain ⟨p, rfl, _, h6⟩ := hc.kid x hx
  have h7 : wl (wds ns ((p : Int)).toNat) + 16 ≤ (n.Kids.map fun x => wl (wds ns x.toNat) + 16).sum := single_le (List.mem_map.2 ⟨(p : Int), hx, rfl⟩)
  refine ⟨by omega, by simpa using h6, by omega, by omega⟩
set_option maxHeartbeats 2000000 in
theorem l2Text_all (ns : List Nd) (hI : IV ns) (g cap : Nat) : ∀ (i : Nat), i < ns.length → ∀ w : World, g < w.heap.size → NodesAt w g 0 ns →
    Calls Tryz.prog 11 #[.slice (some ⟨g, 0, none⟩) ns.length cap, .int .i64 (i : Int)] w fun e w' => e = .returned (.string (mkS (tj (wds ns i)))) ∧ Below w.heap.size w w' := by
  intro i
  induction i using Nat.strongRecOn with
  | _ i ih =>
    intro hi w hg hn
    have hni : ns[i]? = some ns[i] := List.getElem?_eq_getElem hi
    generalize ns[i] = n at hni
    obtain ⟨hsum, hm, hkd⟩ := kidsum_of hI hni
    have hk : ∀ x ∈ n.Kids, 0 ≤ x ∧ x < (ns.length : Int) := fun x hx => ⟨(hkd x hx).1, (hkd x hx).2.2.1⟩
    have hfit := hI.fit i n hni
    obtain ⟨hF, hKid⟩ := hfit
    have hrange := hF.1
    have hkl : (kindsOf ns n.Kids).length = n.Kids.length := by simp [kindsOf]
    have hne : ∀ x ∈ n.Kids, wds ns x.toNat ≠ [] := fun x hx => wds_ne hI.fore hI.fit (by have := (hkd x hx).2.1; omega)
    have hnum := rule_num n.K
    have hS : n.S.toList.length ≤ 64 := hF.2.2.2.2.2.2.1.len
    have hT : n.T.toList.length ≤ 64 := hF.2.2.2.2.2.2.2.len
    have hN0 : -9223372036854775808 < n.N ∧ n.N ≤ 9223372036854775807 := by
      have e1 := hF.2.2.1
      have e2 := hF.2.2.2.1
      have e3 : -9223372036854775808 < (rule n.K).1 ∧ (rule n.K).2.1 ≤ 9223372036854775807 := rule_num' n.K
      omega
    have hTl : ∀ x ∈ n.Kids, (tj (wds ns x.toNat)).length ≤ 5000000 := fun x hx => by
      have := tj_len (wds ns x.toNat)
      have := (hkd x hx).2.2.2
      omega
    have hTs : (n.Kids.map fun x => (tj (wds ns x.toNat)).length + 20).sum ≤ 100000000 := by
      have h1 := sum_leI (f := fun x => (tj (wds ns x.toNat)).length + 20) (g := fun x => wl (wds ns x.toNat) + 16 + 4) n.Kids (fun x _ => by have := tj_len (wds ns x.toNat); omega)
      have h2 := sum_add (fun x => wl (wds ns x.toNat) + 16) 4 n.Kids
      omega
    have HT : ∀ W, Below w.heap.size w W → ∀ x ∈ n.Kids, Calls Tryz.prog 11 #[.slice (some ⟨g, 0, none⟩) ns.length cap, .int .i64 x] W fun e w' => e = .returned (.string (mkS (tj (wds ns x.toNat)))) ∧ Below W.heap.size W w' := fun W hW x hx => by
      obtain ⟨h1, h2, h3, _⟩ := hkd x hx
      obtain ⟨p, rfl⟩ : ∃ p : Nat, x = (p : Int) := ⟨x.toNat, by omega⟩
      simp only [Int.toNat_natCast] at h2 ⊢
      exact ih p h2 (by omega) W (Nat.lt_of_lt_of_le hg hW.size) (hn.of hg hW)
    have HIn : ∀ (a b : Int) (W : World), Below w.heap.size w W → ∀ x ∈ n.Kids, Calls Tryz.prog 23 #[.slice (some ⟨g, 0, none⟩) ns.length cap, .int .i64 x, .int .i64 a, .int .i64 b] W fun e w' => e = .returned (.string (mkS (tj (brk (decide (kindAt ns x.toNat = a) || decide (kindAt ns x.toNat = b)) (wds ns x.toNat))))) ∧ Below W.heap.size W w' := fun a b W hW x hx => by
      obtain ⟨h1, h2, h3, _⟩ := hkd x hx
      have hx2 := hne x hx
      have hx3 := hTl x hx
      have hx4 := fun V (hV : Below W.heap.size W V) => HT V (bT hW hV) x hx
      obtain ⟨p, rfl⟩ : ∃ p : Nat, x = (p : Int) := ⟨x.toNat, by omega⟩
      simp only [Int.toNat_natCast] at h2 hx2 hx3 hx4 ⊢
      refine (l2Inner_calls ns g cap p a b W (hn.of hg hW) (by omega) _ hx3 hx4).mono ?_
      rintro e w1 ⟨rfl, hb⟩
      refine ⟨?_, hb⟩
      rw [tj_brk _ hx2]
      simp
    have hTlB : ∀ b : Int → Bool, (∀ x ∈ n.Kids, (tj (brk (b x) (wds ns x.toNat))).length ≤ 5000000) ∧ (n.Kids.map fun x => (tj (brk (b x) (wds ns x.toNat))).length + 20).sum ≤ 100000000 := fun b => by
      refine ⟨fun x hx => ?_, ?_⟩
      · have h1 := tj_len (brk (b x) (wds ns x.toNat))
        have h2 := wl_brk (b x) (wds ns x.toNat)
        have := (hkd x hx).2.2.2
        omega
      · have h1 := sum_leI (f := fun x => (tj (brk (b x) (wds ns x.toNat))).length + 20) (g := fun x => wl (wds ns x.toNat) + 16 + 8) n.Kids (fun x _ => by have h1 := tj_len (brk (b x) (wds ns x.toNat)); have h2 := wl_brk (b x) (wds ns x.toNat); omega)
        have h2 := sum_add (fun x => wl (wds ns x.toNat) + 16) 8 n.Kids
        omega
    rw [wds_at hI.fore hni]
    by_cases k1 : n.K = 1
    · skip
      have h0 : n.Kids.length = 0 := by rw [← hkl]; unfold KidsI at hKid; simpa [k1] using hKid
      exact (text_1 ns g cap i n w hg hn hni k1 h0 hN0.1 hN0.2).mono fun e w' ⟨h1, h2⟩ => ⟨by rw [h1]; simp [form, k1, tj_one], h2⟩
    by_cases k2 : n.K = 2
    · skip
      have h0 : n.Kids.length = 0 := by rw [← hkl]; unfold KidsI at hKid; simpa [k2] using hKid
      exact (text_2 ns g cap i n w hg hn hni k2 h0).mono fun e w' ⟨h1, h2⟩ => ⟨by rw [h1]; simp [form, k2, tj_one], h2⟩
    by_cases k3 : n.K = 3
    · skip
      have h0 : n.Kids.length = 0 := by rw [← hkl]; unfold KidsI at hKid; simpa [k3] using hKid
      exact (text_3 ns g cap i n w hg hn hni k3 h0 hN0.1 hN0.2 hS).mono fun e w' ⟨h1, h2⟩ => ⟨by rw [h1]; simp [form, k3, tj_one, tj_cons], h2⟩
    by_cases k4 : n.K = 4
    · skip
      have hb : BlkI (kindsOf ns n.Kids) n.N := by unfold KidsI at hKid; rw [if_pos (by omega)] at hKid; exact hKid
      obtain ⟨_, hMN, hf1, hf2, hf3, hf4, _⟩ := hF
      simp [rule, k4] at hf1 hf2 hf3 hf4
      obtain ⟨N, hN⟩ : ∃ N : Nat, n.N = (N : Int) := ⟨n.N.toNat, by omega⟩
      have hNm : n.N ≤ n.Kids.length := by have := hb.1; rw [hkl] at this; exact this
      obtain ⟨ht1, ht2⟩ := tail_tx (ns := ns) (r := n.Kids.drop n.N.toNat) hb (by unfold kindsOf; rw [← List.map_drop]) (fun x => wds ns x.toNat) (fun x hx => hne x (List.mem_of_mem_drop hx))
      have hs3 : (n.Kids.map fun x => (tj (wds ns x.toNat)).length + 3).sum ≤ 100000000 := Nat.le_trans (sum_leI n.Kids (fun x _ => by omega)) hTs
      have HBk : ∀ W, Below w.heap.size w W → _ := fun W hW => l2BlockText_calls ns g cap i n W (Nat.lt_of_lt_of_le hg hW.size) (hn.of hg hW) hni (by omega) hNm hm hk (fun x => tj (wds ns x.toNat)) hTl hs3 ht2 (fun V hV x hx => HT V (bT hW hV) x hx)
      rw [← ht1] at HBk
      have hbl : (tj (tailW ((n.Kids.drop n.N.toNat).map fun x => (kindAt ns x.toNat, wds ns x.toNat)))).length ≤ 150000000 := by
        have h1 := tj_len (tailW ((n.Kids.drop n.N.toNat).map fun x => (kindAt ns x.toNat, wds ns x.toNat)))
        have h2 := kwl_tail ((n.Kids.drop n.N.toNat).map fun x => (kindAt ns x.toNat, wds ns x.toNat))
        have h3 : kwl ((n.Kids.drop n.N.toNat).map fun x => (kindAt ns x.toNat, wds ns x.toNat)) ≤ 3000000 := by
          unfold kwl
          rw [List.map_map]
          refine Nat.le_trans (sum_leI (g := fun x => wl (wds ns x.toNat) + 16) _ (fun x _ => by simp)) (Nat.le_trans (sum_drop_le _ _ _) hsum)
        omega
      have htn : tailW ((n.Kids.drop n.N.toNat).map fun x => (kindAt ns x.toNat, wds ns x.toNat)) ≠ [] := by simp [tailW]
      have ekd : kds ns n = n.Kids.map fun x => (kindAt ns x.toNat, wds ns x.toNat) := by unfold kds; exact List.map_congr_left fun x _ => by simp [inB, k4, brk]
      have ed : (kds ns n).drop n.N.toNat = (n.Kids.drop n.N.toNat).map fun x => (kindAt ns x.toNat, wds ns x.toNat) := by rw [ekd, List.map_drop]
      have et : ((kds ns n).take n.N.toNat).map (·.2) = (n.Kids.take N).map fun x => wds ns x.toNat := by rw [ekd, ← List.map_take, List.map_map, hN]; rfl
      have hMN := hMN k4
      obtain ⟨hw, hhw, hhd, hwn⟩ : ∃ hw : List (List UInt8), (if n.N = 0 then [kStar] else ((kds ns n).getD 0 (0, [])).2) = hw ∧ ((n.Kids.take N).map (fun x => tj (wds ns x.toNat)) ++ [[42]])[0]? = some (tj hw) ∧ hw ≠ [] ∧ (tj hw).length ≤ 5000000 := by
        refine ⟨_, rfl, ?_⟩
        have hc : N = 0 ∨ N = 1 := by omega
        rcases hc with rfl | rfl
        · rw [if_pos (by omega)]; exact ⟨by simp [tj_one], by simp, by simp [tj_one]⟩
        · rw [if_neg (by omega), ekd]
          have hlen : 1 ≤ n.Kids.length := by omega
          have hne' := hne; have hTl' := hTl
          generalize n.Kids = l at hlen hne' hTl'
          match l, hlen with
          | x :: r, _ => exact ⟨by simp, by simpa using hne' x (by simp), by simpa using hTl' x (by simp)⟩
      have hf : form n (kds ns n) = [kOpen, kSELECT, aggw n.M, kOpen] ++ hw ++ [kShut] ++ tailW ((n.Kids.drop n.N.toNat).map fun x => (kindAt ns x.toNat, wds ns x.toNat)) ++ [kShut] := by rw [← hhw, ← ed]; simp [form, k4]
      rw [hf, m4 hwn.1 htn]
      have hM : n.M = 1 ∨ n.M = 2 ∨ n.M = 3 ∨ n.M = 4 := by omega
      rcases hM with hM | hM | hM | hM
      · refine (text_41 ns g cap i n w hg hn hni k4 N hN (by omega) hM hm hk (fun x => tj (wds ns x.toNat)) HT _ hbl HBk (tj hw) hwn.2 hhd).mono fun e w' ⟨h1, h2⟩ => ⟨?_, h2⟩
        rw [h1, hM]
        rfl
      · refine (text_42 ns g cap i n w hg hn hni k4 N hN (by omega) hM hm hk (fun x => tj (wds ns x.toNat)) HT _ hbl HBk (tj hw) hwn.2 hhd).mono fun e w' ⟨h1, h2⟩ => ⟨?_, h2⟩
        rw [h1, hM]
        rfl
      · refine (text_43 ns g cap i n w hg hn hni k4 N hN (by omega) hM hm hk (fun x => tj (wds ns x.toNat)) HT _ hbl HBk (tj hw) hwn.2 hhd).mono fun e w' ⟨h1, h2⟩ => ⟨?_, h2⟩
        rw [h1, hM]
        rfl
      · refine (text_44 ns g cap i n w hg hn hni k4 N hN (by omega) hM hm hk (fun x => tj (wds ns x.toNat)) HT _ hbl HBk (tj hw) hwn.2 hhd).mono fun e w' ⟨h1, h2⟩ => ⟨?_, h2⟩
        rw [h1, hM]
        rfl
    by_cases k5 : n.K = 5
    · skip
      have h0 : n.Kids.length = 0 := by rw [← hkl]; unfold KidsI at hKid; simpa [k5] using hKid
      by_cases hst : n.S = n.T
      · exact (text_5s ns g cap i n w hg hn hni k5 h0 hst).mono fun e w' ⟨h1, h2⟩ => ⟨by rw [h1]; simp [form, k5, tj_one, hst], h2⟩
      · exact (text_5t ns g cap i n w hg hn hni k5 h0 (by simp only [beq_eq_false_iff_ne, ne_eq]; exact fun e => hst (ext_toList e)) hS hT).mono fun e w' ⟨h1, h2⟩ => ⟨by rw [h1]; simp [form, k5, tj_one, tj_cons, hst], h2⟩
    by_cases k6 : n.K = 6
    · skip
      have hb : BlkI (kindsOf ns n.Kids) n.N := by unfold KidsI at hKid; rw [if_pos (by omega)] at hKid; exact hKid
      obtain ⟨_, hMN, hf1, hf2, hf3, hf4, _⟩ := hF
      simp [rule, k6] at hf1 hf2 hf3 hf4
      obtain ⟨N, hN⟩ : ∃ N : Nat, n.N = (N : Int) := ⟨n.N.toNat, by omega⟩
      have hNm : n.N ≤ n.Kids.length := by have := hb.1; rw [hkl] at this; exact this
      obtain ⟨ht1, ht2⟩ := tail_tx (ns := ns) (r := n.Kids.drop n.N.toNat) hb (by unfold kindsOf; rw [← List.map_drop]) (fun x => wds ns x.toNat) (fun x hx => hne x (List.mem_of_mem_drop hx))
      have hs3 : (n.Kids.map fun x => (tj (wds ns x.toNat)).length + 3).sum ≤ 100000000 := Nat.le_trans (sum_leI n.Kids (fun x _ => by omega)) hTs
      have HBk : ∀ W, Below w.heap.size w W → _ := fun W hW => l2BlockText_calls ns g cap i n W (Nat.lt_of_lt_of_le hg hW.size) (hn.of hg hW) hni (by omega) hNm hm hk (fun x => tj (wds ns x.toNat)) hTl hs3 ht2 (fun V hV x hx => HT V (bT hW hV) x hx)
      rw [← ht1] at HBk
      have hbl : (tj (tailW ((n.Kids.drop n.N.toNat).map fun x => (kindAt ns x.toNat, wds ns x.toNat)))).length ≤ 150000000 := by
        have h1 := tj_len (tailW ((n.Kids.drop n.N.toNat).map fun x => (kindAt ns x.toNat, wds ns x.toNat)))
        have h2 := kwl_tail ((n.Kids.drop n.N.toNat).map fun x => (kindAt ns x.toNat, wds ns x.toNat))
        have h3 : kwl ((n.Kids.drop n.N.toNat).map fun x => (kindAt ns x.toNat, wds ns x.toNat)) ≤ 3000000 := by
          unfold kwl
          rw [List.map_map]
          refine Nat.le_trans (sum_leI (g := fun x => wl (wds ns x.toNat) + 16) _ (fun x _ => by simp)) (Nat.le_trans (sum_drop_le _ _ _) hsum)
        omega
      have htn : tailW ((n.Kids.drop n.N.toNat).map fun x => (kindAt ns x.toNat, wds ns x.toNat)) ≠ [] := by simp [tailW]
      have ekd : kds ns n = n.Kids.map fun x => (kindAt ns x.toNat, wds ns x.toNat) := by unfold kds; exact List.map_congr_left fun x _ => by simp [inB, k6, brk]
      have ed : (kds ns n).drop n.N.toNat = (n.Kids.drop n.N.toNat).map fun x => (kindAt ns x.toNat, wds ns x.toNat) := by rw [ekd, List.map_drop]
      have et : ((kds ns n).take n.N.toNat).map (·.2) = (n.Kids.take N).map fun x => wds ns x.toNat := by rw [ekd, ← List.map_take, List.map_map, hN]; rfl
      have hxs : ∀ x ∈ (n.Kids.take N).map (fun x => wds ns x.toNat), x ≠ [] := fun x hx => by obtain ⟨z, hz, rfl⟩ := List.mem_map.1 hx; exact hne z (List.mem_of_mem_take hz)
      have hxn : iL [kComma] ((n.Kids.take N).map fun x => wds ns x.toNat) ≠ [] := by
        have hl : 0 < ((n.Kids.take N).map fun x => wds ns x.toNat).length := by simp; omega
        generalize (n.Kids.take N).map (fun x => wds ns x.toNat) = l at hl hxs
        match l, hl, hxs with
        | [x], _, hxs => simpa [iL] using hxs x (by simp)
        | x :: y :: r, _, _ => simp [iL]
      rw [show form n (kds ns n) = [kSELECT] ++ (if n.M = 1 then [kDISTINCT] else []) ++ iL [kComma] (((kds ns n).take n.N.toNat).map (·.2)) ++ tailW ((kds ns n).drop n.N.toNat) by simp [form, k6], et, ed, m6 hxn htn, tj_iL (by simp) _ hxs, show ([32] ++ tj [kComma] ++ [32] : List UInt8) = [32, 44, 32] by simp [tj_one], List.map_map]
      have hM : n.M = 0 ∨ n.M = 1 := by omega
      rcases hM with hM | hM
      · refine (text_6n ns g cap i n w hg hn hni k6 N hN (by omega) (by omega) hM hm hk (fun x => tj (wds ns x.toNat)) hTs HT _ hbl HBk).mono fun e w' ⟨h1, h2⟩ => ⟨?_, h2⟩
        rw [h1, hM, if_neg (by decide)]
        rfl
      · refine (text_6d ns g cap i n w hg hn hni k6 N hN (by omega) (by omega) hM hm hk (fun x => tj (wds ns x.toNat)) hTs HT _ hbl HBk).mono fun e w' ⟨h1, h2⟩ => ⟨?_, h2⟩
        rw [h1, hM, if_pos rfl]
        rfl
    by_cases k7 : n.K = 7
    · skip
      have hl2 : 2 ≤ n.Kids.length := by rw [← hkl]; unfold KidsI at hKid; simp [k7] at hKid; omega
      refine (text_7 ns g cap i n w hg hn hni k7 (by omega) hm hk (fun x => tj (wds ns x.toNat)) hTs HT).mono fun e w' ⟨h1, h2⟩ => ⟨?_, h2⟩
      rw [h1, show form n (kds ns n) = iL [kUNION, kALL] ((kds ns n).map (·.2)) by simp [form, k7], show (kds ns n).map (·.2) = n.Kids.map (fun x => wds ns x.toNat) by unfold kds; rw [List.map_map]; exact List.map_congr_left fun x _ => by simp [inB, k7, brk], tj_iL (by simp) _ (fun x hx => by obtain ⟨z, hz, rfl⟩ := List.mem_map.1 hx; exact hne z hz), List.map_map, show ([32] ++ tj [kUNION, kALL] ++ [32] : List UInt8) = [32, 85, 78, 73, 79, 78, 32, 65, 76, 76, 32] by simp [tj_one, tj_cons]]
      rfl
    by_cases k8 : n.K = 8
    · skip
      have hlen : n.Kids.length = 2 := by unfold KidsI at hKid; simp [k8, hkl] at hKid; omega
      obtain ⟨a, b, hab⟩ := two_of hlen
      have ha := hne a (by rw [hab]; simp)
      have hb := hne b (by rw [hab]; simp)
      obtain ⟨_, _, hf1, hf2, hf3, hf4, _⟩ := hF
      simp [rule, k8] at hf1 hf2 hf3 hf4
      rw [show form n (kds ns n) = wds ns a.toNat ++ [comp n.M] ++ wds ns b.toNat by simp [form, k8, kds, hab, inB, brk]]
      refine (text_8 ns g cap i n w hg hn hni k8 (by omega) hm hk (fun x => tj (wds ns x.toNat)) hTs (by omega) (by omega) HT).mono fun e w' ⟨h1, h2⟩ => ⟨?_, h2⟩
      rw [h1, m8 ha hb, hab]
      rfl
    by_cases k9 : n.K = 9
    · skip
      have hlen : n.Kids.length = 1 := by unfold KidsI at hKid; simp [k9, hkl] at hKid; omega
      obtain ⟨a, hab⟩ := one_of hlen
      have ha := hne a (by rw [hab]; simp)
      rw [show form n (kds ns n) = wds ns a.toNat ++ [kIS] ++ notW n.M ++ [kNULL] by simp [form, k9, kds, hab, inB, brk]]
      refine (text_9 ns g cap i n w hg hn hni k9 a hab hm hk (fun x => tj (wds ns x.toNat)) hTl HT).mono fun e w' ⟨h1, h2⟩ => ⟨?_, h2⟩
      rw [h1, m9 ha]
    by_cases k10 : n.K = 10
    · skip
      have hlen : n.Kids.length = 1 := by unfold KidsI at hKid; simp [k10, hkl] at hKid; omega
      obtain ⟨a, hab⟩ := one_of hlen
      have ha := hne a (by rw [hab]; simp)
      rw [show form n (kds ns n) = [kEXISTS, kOpen] ++ wds ns a.toNat ++ [kShut] by simp [form, k10, kds, hab, inB, brk]]
      refine (text_10 ns g cap i n w hg hn hni k10 a hab hm hk (fun x => tj (wds ns x.toNat)) hTl HT).mono fun e w' ⟨h1, h2⟩ => ⟨?_, h2⟩
      rw [h1, m10 ha]
    by_cases k11 : n.K = 11
    · skip
      have hlen : n.Kids.length = 2 := by unfold KidsI at hKid; simp [k11, hkl] at hKid; omega
      obtain ⟨a, b, hab⟩ := two_of hlen
      have ha := hne a (by rw [hab]; simp)
      have hb := hne b (by rw [hab]; simp)
      rw [show form n (kds ns n) = wds ns a.toNat ++ notW n.M ++ [kIN, kOpen] ++ wds ns b.toNat ++ [kShut] by simp [form, k11, kds, hab, inB, brk]]
      refine (text_11 ns g cap i n w hg hn hni k11 a b hab hm hk (fun x => tj (wds ns x.toNat)) hTl HT).mono fun e w' ⟨h1, h2⟩ => ⟨?_, h2⟩
      rw [h1, m11 ha hb]
    by_cases k12 : n.K = 12
    · skip
      have hlen : n.Kids.length = 2 := by unfold KidsI at hKid; simp [k12, hkl] at hKid; omega
      obtain ⟨a, b, hab⟩ := two_of hlen
      have ha := hne a (by rw [hab]; simp)
      have hb := hne b (by rw [hab]; simp)
      obtain ⟨_, _, hf1, hf2, hf3, hf4, _⟩ := hF
      simp [rule, k12] at hf1 hf2 hf3 hf4
      rw [show form n (kds ns n) = wds ns a.toNat ++ [comp n.M, if n.N = 2 then kALL else kANY, kOpen] ++ wds ns b.toNat ++ [kShut] by simp [form, k12, kds, hab, inB, brk]]
      have hc : n.N = 1 ∨ n.N = 2 := by omega
      rcases hc with hc | hc
      · refine (text_12one ns g cap i n w hg hn hni k12 a b hab hc (by omega) (by omega) hm hk (fun x => tj (wds ns x.toNat)) hTl HT).mono fun e w' ⟨h1, h2⟩ => ⟨?_, h2⟩
        rw [h1, m12 ha hb, hc, if_neg (by decide)]
      · refine (text_12two ns g cap i n w hg hn hni k12 a b hab hc (by omega) (by omega) hm hk (fun x => tj (wds ns x.toNat)) hTl HT).mono fun e w' ⟨h1, h2⟩ => ⟨?_, h2⟩
        rw [h1, m12 ha hb, hc, if_pos rfl]
    by_cases k13 : n.K = 13
    · skip
      have hlen : n.Kids.length = 1 := by unfold KidsI at hKid; simp [k13, hkl] at hKid; omega
      obtain ⟨a, hab⟩ := one_of hlen
      have ha := hne a (by rw [hab]; simp)
      rw [show form n (kds ns n) = [kNOT] ++ brk (decide (kindAt ns a.toNat = 14) || decide (kindAt ns a.toNat = 15)) (wds ns a.toNat) by simp [form, k13, kds, hab, inB]]
      refine (text_13 ns g cap i n w hg hn hni k13 a hab hm hk (fun x => tj (brk (decide (kindAt ns x.toNat = 14) || decide (kindAt ns x.toNat = 15)) (wds ns x.toNat))) (hTlB (fun x => decide (kindAt ns x.toNat = 14) || decide (kindAt ns x.toNat = 15))).1 (HIn 14 15)).mono fun e w' ⟨h1, h2⟩ => ⟨?_, h2⟩
      rw [h1, m13 (by unfold brk; split <;> simp [ha])]
    by_cases k14 : n.K = 14
    · skip
      have hl2 : 2 ≤ n.Kids.length := by rw [← hkl]; unfold KidsI at hKid; simp [k14] at hKid; omega
      refine (text_14 ns g cap i n w hg hn hni k14 (by omega) hm hk (fun x => tj (brk (decide (kindAt ns x.toNat = 14) || decide (kindAt ns x.toNat = 15)) (wds ns x.toNat))) (hTlB (fun x => decide (kindAt ns x.toNat = 14) || decide (kindAt ns x.toNat = 15))).2 (HIn 14 15)).mono fun e w' ⟨h1, h2⟩ => ⟨?_, h2⟩
      rw [h1, show form n (kds ns n) = iL [kAND] ((kds ns n).map (·.2)) by simp [form, k14], show (kds ns n).map (·.2) = n.Kids.map (fun x => brk (decide (kindAt ns x.toNat = 14) || decide (kindAt ns x.toNat = 15)) (wds ns x.toNat)) by unfold kds; rw [List.map_map]; exact List.map_congr_left fun x _ => by simp [inB, k14], tj_iL (by simp) _ (fun x hx => by obtain ⟨z, hz, rfl⟩ := List.mem_map.1 hx; unfold brk; split <;> simp [hne z hz]), List.map_map, show ([32] ++ tj [kAND] ++ [32] : List UInt8) = [32, 65, 78, 68, 32] by simp [tj_one]]
      rfl
    have k15 : n.K = 15 := by omega
    · skip
      have hl2 : 2 ≤ n.Kids.length := by rw [← hkl]; unfold KidsI at hKid; simp [k15] at hKid; omega
      refine (text_15 ns g cap i n w hg hn hni k15 (by omega) hm hk (fun x => tj (brk (decide (kindAt ns x.toNat = 15) || decide (kindAt ns x.toNat = 15)) (wds ns x.toNat))) (hTlB (fun x => decide (kindAt ns x.toNat = 15) || decide (kindAt ns x.toNat = 15))).2 (HIn 15 15)).mono fun e w' ⟨h1, h2⟩ => ⟨?_, h2⟩
      rw [h1, show form n (kds ns n) = iL [kOR] ((kds ns n).map (·.2)) by simp [form, k15], show (kds ns n).map (·.2) = n.Kids.map (fun x => brk (decide (kindAt ns x.toNat = 15) || decide (kindAt ns x.toNat = 15)) (wds ns x.toNat)) by unfold kds; rw [List.map_map]; exact List.map_congr_left fun x _ => by simp [inB, k15], tj_iL (by simp) _ (fun x hx => by obtain ⟨z, hz, rfl⟩ := List.mem_map.1 hx; unfold brk; split <;> simp [hne z hz]), List.map_map, show ([32] ++ tj [kOR] ++ [32] : List UInt8) = [32, 79, 82, 32] by simp [tj_one]]
      rfl
end Go.Proofs.YtmcbmmpjhijagaaGreatDoor
