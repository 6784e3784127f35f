import Derived.Test.YtbbjhepagkkjeaaGreatDoorQ36
import Derived.Test.YtbbjhepagkkjeaaGreatDoorQ32
import Derived.Test.YtbbjhepagkkjeaaGreatDoorQ30
import Derived.Test.YtbbjhepagkkjeaaGreatDoorQ7
import Derived.Test.YtbbjhepagkkjeaaGreatDoorQ10
import Derived.Lib.ParseIntB
namespace Go.Proofs.YtbbjhepagkkjeaaGreatDoor
open Go Go.RowKit
def TabsC (w : World) (a : Option Addr) (ts : List Tb) : Prop := ∀ (i : Nat) (hi : i < ts.length), ∃ g ua uc, a = some ⟨g, 0, none⟩ ∧ g < w.heap.size ∧ w.cell? ⟨g, i * 3, none⟩ = some (.string (ts[i]).Name) ∧ w.cell? ⟨g, i * 3 + 1, none⟩ = some (.int .i64 (ts[i]).Cols) ∧ w.cell? ⟨g, i * 3 + 2, none⟩ = some (.slice ua (ts[i]).Rows.length uc) ∧ RowsE w ua (ts[i]).Rows ∧ (ts[i]).Rows.length ≤ uc
theorem TabsC.of {w w1 : World} {a : Option Addr} {ts : List Tb} (h : TabsC w a ts) (hb : Below w.heap.size w w1) : TabsC w1 a ts := fun i hi => by
  obtain ⟨g, ua, uc, h1, h2, h3, h4, h5, h6, h7⟩ := h i hi
  exact ⟨g, ua, uc, h1, Nat.lt_of_lt_of_le h2 hb.size, (hb.cell (p := ⟨g, i * 3, none⟩) h2).trans h3, (hb.cell (p := ⟨g, i * 3 + 1, none⟩) h2).trans h4, (hb.cell (p := ⟨g, i * 3 + 2, none⟩) h2).trans h5, h6.of hb, h7⟩
theorem TabG.tabsC {w : World} {lab : Lt} {B : Nat} {a : Option Addr} {n c : Nat} {cs : List Value} {ts : List Tb} (h : TabG w lab B (.slice a n c) cs ts) : TabsC w a ts := fun i hi => by
  obtain ⟨u, rs, c0, c1, c2, hm, hr⟩ := h.tab i ts[i] (List.getElem?_eq_getElem hi)
  rcases h.own.2 with ⟨_, h2⟩ | ⟨g, cap, cur, h1, _, h3, _⟩
  · omega
  · have ho := h.own
    rw [h1] at ho
    simp only [Value.slice.injEq] at h1
    have hl : rs.length = (ts[i]).Rows.length := by rw [← hm]; simp
    rcases hr.1.2 with ⟨hu, hn⟩ | ⟨G, uc, cur', hu, _, _, hle, _⟩
    · have hrs : rs = [] := List.length_eq_zero_iff.1 hn
      subst hu
      exact ⟨g, none, 0, h1.1, (Array.getElem?_eq_some_iff.1 h3).1, by rw [ho.cellAt _ (by omega)]; exact c0, by rw [ho.cellAt _ (by omega)]; exact c1, by rw [ho.cellAt _ (by omega), c2, ← hl, hn], Or.inl (by rw [← hm, hrs]; rfl), by omega⟩
    · subst hu
      obtain ⟨g1, g2, g3⟩ := hr.grid
      exact ⟨g, some ⟨G, 0, none⟩, uc, h1.1, (Array.getElem?_eq_some_iff.1 h3).1, by rw [ho.cellAt _ (by omega)]; exact c0, by rw [ho.cellAt _ (by omega)]; exact c1, by rw [ho.cellAt _ (by omega), c2, hl], Or.inr ⟨G, rs, rfl, g1, g2, g3, hm⟩, by omega⟩
set_option maxHeartbeats 1000000 in
theorem lwSameE {xss : List (List V2)} (ua ua' : Option Addr) (uc uc' : Nat) (w : World) (hx : RowsE w ua xss) (hy : RowsE w ua' xss) (b1 : xss.length ≤ 1048576) (b2 : ∀ x ∈ xss, x.length ≤ 1048576) :
    Calls Tryz.prog 8 #[.slice ua xss.length uc, .slice ua' xss.length uc'] w fun e w' => e = .returned (.bool true) ∧ Below w.heap.size w w' := by
  by_cases h0 : xss = []
  · subst h0
    clear hx hy
    go_enter Tryz.func8, Tryz.ntmps8
    go_wp2
    refine wp_loop_rounds 1 ?_
    rw [rounds_succ]
    go_wp2
    go_ret
    exact ⟨rfl, Below.refl _ _⟩
  · obtain ⟨G, rs, rfl, h2, h4, h5, h3⟩ := hx.resolve_left h0
    obtain ⟨G', qs, rfl, k2, k4, k5, k3⟩ := hy.resolve_left h0
    have l1 : rs.length = xss.length := by rw [← h3]; simp
    have l2 : qs.length = xss.length := by rw [← k3]; simp
    have := lwSameRows_calls rs qs G 0 uc G' 0 uc' w h2 k2 h4 k4 h5 k5 (h3.trans k3.symm) (by omega) (fun r hr => b2 _ (by rw [← h3]; exact List.mem_map_of_mem (f := kR) hr))
    rw [l1, l2] at this
    exact this
def SrtRE (xss : List (List V2)) (w : World) (e : Ending) (w' : World) : Prop := (∃ G c, e = .returned (.slice (some ⟨G, 0, none⟩) (srt xss).length c) ∧ RowsE w' (some ⟨G, 0, none⟩) (srt xss)) ∧ Below w.heap.size w w'
set_option maxHeartbeats 1000000 in
theorem sSortE {xss : List (List V2)} (ua : Option Addr) (uc : Nat) (w : World) (hx : RowsE w ua xss) (hc : xss.length ≤ uc) (b1 : xss.length ≤ 1048576) (b2 : ∀ x ∈ xss, x.length ≤ 1048576) :
    Calls Tryz.prog 10 #[.slice ua xss.length uc] w (SrtRE xss w) := by
  by_cases h0 : xss = []
  · subst h0
    clear hx
    have hfin : Hid (SrtRE [] w (.returned (.slice (some ⟨w.heap.size, 0, none⟩) 0 0)) (w.alloc (.cells #[] 52))) := ⟨⟨_, _, rfl, Or.inl rfl⟩, bA (Below.refl _ _) _⟩
    go_enter Tryz.func10, Tryz.ntmps10
    go_wp2
    go_ret
    exact unhide hfin
  · obtain ⟨G, rs, rfl, h2, h4, h5, h3⟩ := hx.resolve_left h0
    have l1 : rs.length = xss.length := by rw [← h3]; simp
    have := ssort_calls xss.length rs G 0 uc w (by omega) h2 h4 h5 (by omega) (by omega) (fun r hr => b2 _ (by rw [← h3]; exact List.mem_map_of_mem (f := kR) hr))
    rw [l1] at this
    refine this.mono ?_
    rintro e w' ⟨G', c', qs, rfl, ho, ⟨hro, _⟩, hm, hb⟩
    have hs : qs.map kR = srt xss := by
      rw [hm, srt, ← h3, List.map_map]
      rfl
    refine ⟨⟨G', c', by rw [srt_length], Or.inr ⟨G', qs, rfl, ho.lt.1, ho.grid, hro, hs⟩⟩, hb⟩
end Go.Proofs.YtbbjhepagkkjeaaGreatDoor
namespace Go.Proofs.YtbbjhepagkkjeaaGreatDoor
open Go
def dg (b : UInt8) : Bool := digit (b.toNat : Int)
theorem dg_iff (b : UInt8) : dg b = true ↔ 48 ≤ b.toNat ∧ b.toNat ≤ 57 := by
  unfold dg digit
  simp
  omega
theorem byt_get (s : ByteArray) (i : Nat) (h : i < s.size) : ∃ b, s.toList[i]? = some b ∧ byt s i = (b.toNat : Int) := by
  have hl : i < s.toList.length := by rw [size_toList]; exact h
  refine ⟨s.toList[i], List.getElem?_eq_getElem hl, ?_⟩
  unfold byt
  rw [List.getD_eq_getElem?_getD, List.getElem?_eq_getElem hl]
  rfl
theorem byt_range (s : ByteArray) (i : Nat) : 0 ≤ byt s i ∧ byt s i ≤ 255 := by
  unfold byt
  have := UInt8.toNat_lt (s.toList.getD i 0)
  omega
def frn (s : ByteArray) : Nat := if 0 < s.size ∧ byt s 0 = 45 then 1 else 0
theorem frn_le (s : ByteArray) : frn s ≤ 1 ∧ frn s ≤ s.size := by unfold frn; split <;> omega
def NumB (s : ByteArray) : Prop := frn s < s.size ∧ ∀ i, frn s ≤ i → i < s.size → digit (byt s i) = true
def vF (a : Nat) (l : List UInt8) : Nat := l.foldl (fun a b => a * 10 + (b.toNat - 48)) a
theorem vF_bound : ∀ (l : List UInt8) (a k : Nat), (∀ b ∈ l, dg b = true) → a < 10 ^ k → vF a l < 10 ^ (k + l.length)
  | [], a, k, _, h => by simpa [vF] using h
  | b :: l, a, k, hd, h => by
    have hb := (dg_iff b).1 (hd b (by simp))
    have h1 : a * 10 + (b.toNat - 48) < 10 ^ (k + 1) := by
      rw [Nat.pow_succ]; omega
    have := vF_bound l (a * 10 + (b.toNat - 48)) (k + 1) (fun x hx => hd x (by simp [hx])) h1
    rw [List.length_cons, show k + (l.length + 1) = k + 1 + l.length by omega]
    exact this
def vTo (s : ByteArray) (k : Nat) : Nat := vF 0 ((s.toList.take k).filter dg)
theorem vTo_zero (s : ByteArray) : vTo s 0 = 0 := by simp [vTo, vF]
theorem take_at (s : ByteArray) (k : Nat) (b : UInt8) (h : s.toList[k]? = some b) : s.toList.take (k + 1) = s.toList.take k ++ [b] := by
  rw [List.take_add_one, h]; rfl
theorem vTo_digit (s : ByteArray) (k : Nat) (h : k < s.size) (hd : digit (byt s k) = true) : (vTo s (k + 1) : Int) = (vTo s k : Int) * 10 + (byt s k - 48) := by
  obtain ⟨b, hb, e⟩ := byt_get s k h
  have hdb : dg b = true := by unfold dg; rw [← e]; exact hd
  have hr := (dg_iff b).1 hdb
  unfold vTo
  rw [take_at s k b hb, List.filter_append, List.filter_cons_of_pos hdb, List.filter_nil]
  unfold vF
  rw [List.foldl_append]
  simp only [List.foldl_cons, List.foldl_nil]
  rw [e]
  omega
theorem vTo_other (s : ByteArray) (k : Nat) (h : k < s.size) (hd : digit (byt s k) = false) : vTo s (k + 1) = vTo s k := by
  obtain ⟨b, hb, e⟩ := byt_get s k h
  have hdb : ¬ dg b = true := by unfold dg; rw [← e, hd]; simp
  unfold vTo
  rw [take_at s k b hb, List.filter_append, List.filter_cons_of_neg hdb, List.filter_nil, List.append_nil]
theorem vTo_bound (s : ByteArray) (k : Nat) : vTo s k < 10 ^ ((s.toList.take k).filter dg).length := by
  have := vF_bound ((s.toList.take k).filter dg) 0 0 (fun b hb => (List.mem_filter.1 hb).2) (by simp)
  simpa [vTo] using this
theorem filter_len (s : ByteArray) (k : Nat) (h : frn s = 1 → digit (byt s 0) = false) : ((s.toList.take k).filter dg).length ≤ s.size - frn s := by
  by_cases hf : frn s = 1
  · have hs : 0 < s.size := by have := frn_le s; omega
    obtain ⟨b, hb, e⟩ := byt_get s 0 hs
    have hdb : ¬ dg b = true := by unfold dg; rw [← e, h hf]; simp
    cases hl : s.toList with
    | nil => rw [hl] at hb; simp at hb
    | cons c r =>
      rw [hl] at hb
      simp at hb
      subst hb
      have hlen := size_toList s
      rw [hl] at hlen
      simp at hlen
      cases k with
      | zero => simp
      | succ k =>
        rw [List.take_succ_cons, List.filter_cons_of_neg hdb]
        have h1 := List.length_filter_le dg (r.take k)
        have h2 := List.length_take_le' k r
        omega
  · have : frn s = 0 := by have := frn_le s; omega
    have h1 := List.length_filter_le dg (s.toList.take k)
    have h2 := List.length_take_le' k s.toList
    rw [size_toList] at h2
    omega
theorem digit_45 : digit 45 = false := by decide
theorem frn_one {s : ByteArray} (h : frn s = 1) : 0 < s.size ∧ byt s 0 = 45 := by
  unfold frn at h
  split at h
  · assumption
  · omega
theorem vTo_small (s : ByteArray) (k : Nat) (h : s.size - frn s ≤ 18) : vTo s k < 1000000000000000000 := by
  have h1 := vTo_bound s k
  have h2 := filter_len s k (fun e => by rw [(frn_one e).2]; exact digit_45)
  have h3 : 10 ^ ((s.toList.take k).filter dg).length ≤ 10 ^ 18 := Nat.pow_le_pow_right (by omega) (by omega)
  have : (10 : Nat) ^ 18 = 1000000000000000000 := by decide
  omega
def nVal (s : ByteArray) : Int := if byt s 0 = 45 then - (vTo s s.size : Int) else (vTo s s.size : Int)
theorem parseM_ok : ∀ (l : List UInt8) (a k : Nat), (∀ b ∈ l, dg b = true) → a < 10 ^ k → k + l.length ≤ 18 → Lib.parseUintM 18446744073709551615 a l = .ok (vF a l)
  | [], a, k, _, _, _ => rfl
  | b :: l, a, k, hd, ha, hk => by
    have hb := (dg_iff b).1 (hd b (by simp))
    have hl : (b :: l).length = l.length + 1 := rfl
    have h1 : a * 10 + (b.toNat - 48) < 10 ^ (k + 1) := by rw [Nat.pow_succ]; omega
    have h2 : 10 ^ (k + 1) ≤ 10 ^ 18 := Nat.pow_le_pow_right (by omega) (by omega)
    have h3 : (10 : Nat) ^ 18 = 1000000000000000000 := by decide
    unfold Lib.parseUintM
    rw [if_pos hb, if_neg (by omega), if_neg (by omega), parseM_ok l _ (k + 1) (fun x hx => hd x (by simp [hx])) h1 (by omega)]
    rfl
theorem parse_ok (s : ByteArray) (h : NumB s) (h18 : s.size - frn s ≤ 18) : Lib.parseIntB 64 s.data.toList = .ok (nVal s) := by
  have hsm := vTo_small s s.size h18
  obtain ⟨h1, h2⟩ := h
  have hlen := size_toList s
  have hall : s.toList.take s.size = s.toList := List.take_of_length_le (by omega)
  rw [Go.ByteArray.toList_eq] at hlen hall
  have hbyt : ∀ (i : Nat) b, s.data.toList[i]? = some b → byt s i = (b.toNat : Int) := fun i b hb => by
    unfold byt
    rw [Go.ByteArray.toList_eq, List.getD_eq_getElem?_getD, hb]
    rfl
  unfold nVal
  unfold vTo at hsm ⊢
  rw [Go.ByteArray.toList_eq, hall] at hsm ⊢
  cases hl : s.data.toList with
  | nil => rw [hl] at hlen; simp at hlen; omega
  | cons c r =>
    rw [hl] at hlen hsm
    have hc := hbyt 0 c (by rw [hl]; rfl)
    have hr : ∀ b ∈ r, dg b = true := fun b hb => by
      obtain ⟨i, hi⟩ := List.getElem?_of_mem hb
      have hil := (List.getElem?_eq_some_iff.1 hi).1
      have e := hbyt (i + 1) b (by rw [hl]; simpa using hi)
      have := h2 (i + 1) (by have := frn_le s; omega) (by simp at hlen; omega)
      unfold dg
      rw [← e]
      exact this
    simp at hlen
    unfold Lib.parseIntB
    simp only []
    by_cases h45 : c.toNat = 45
    · have hf : frn s = 1 := by unfold frn; rw [if_pos ⟨by omega, by rw [hc, h45]; rfl⟩]
      have hcd : ¬ dg c = true := by unfold dg; rw [h45]; decide
      rw [List.filter_cons_of_neg hcd, List.filter_eq_self.2 hr] at hsm ⊢
      have hne : r ≠ [] := fun e => by rw [e] at hlen; simp at hlen; omega
      rw [if_pos (Or.inr h45)]
      unfold Lib.parseUintB
      rw [if_neg hne, show (2 : Nat) ^ 64 - 1 = 18446744073709551615 by decide, parseM_ok r 0 0 hr (by simp) (by omega)]
      simp only []
      rw [if_neg (by simp [h45]), if_neg (by intro e; have := e.2; have h63 : (2 : Nat) ^ (64 - 1) = 9223372036854775808 := by decide
                                             omega), if_pos h45, if_pos (by rw [hc, h45]; rfl)]
    · have hf : frn s = 0 := by unfold frn; rw [if_neg (fun e => h45 (by have := e.2; rw [hc] at this; omega))]
      have hcd : dg c = true := by
        have := h2 0 (by omega) (by omega)
        unfold dg
        rw [← hc]
        exact this
      have h43 : c.toNat ≠ 43 := by have := (dg_iff c).1 hcd; omega
      have hall' : ∀ b ∈ c :: r, dg b = true := fun b hb => by
        cases List.mem_cons.1 hb with
        | inl e => rw [e]; exact hcd
        | inr e => exact hr b e
      rw [List.filter_eq_self.2 hall'] at hsm ⊢
      rw [if_neg (by omega)]
      unfold Lib.parseUintB
      rw [if_neg (by simp), show (2 : Nat) ^ 64 - 1 = 18446744073709551615 by decide, parseM_ok (c :: r) 0 0 hall' (by simp) (by simp; omega)]
      simp only []
      rw [if_neg (by intro e; have := e.2; have h63 : (2 : Nat) ^ (64 - 1) = 9223372036854775808 := by decide
                     omega), if_neg (by omega), if_neg h45, if_neg (by rw [hc]; omega)]
def dsp (s : ByteArray) : Nat := (s.toList.takeWhile dg).length
theorem dsp_le (s : ByteArray) : dsp s ≤ s.size := by
  rw [← size_toList]
  exact (List.takeWhile_sublist _).length_le
theorem ext_size (s : ByteArray) (a b : Nat) (h : b ≤ s.size) : (s.extract a b).size = b - a := by
  rw [ByteArray.size_extract]; omega
theorem ext_list (s : ByteArray) (a b : Nat) : (s.extract a b).toList = (s.toList.drop a).take (b - a) := by
  rw [Go.ByteArray.toList_eq, Go.ByteArray.toList_eq, ByteArray.data_extract]
  simp
theorem ext_byt (s : ByteArray) (a b i : Nat) (h : i < b - a) : byt (s.extract a b) i = byt s (a + i) := by
  unfold byt
  rw [ext_list, List.getD_eq_getElem?_getD, List.getElem?_take, if_pos h, List.getElem?_drop, List.getD_eq_getElem?_getD]
theorem ext_all (s : ByteArray) : s.extract 0 s.size = s := ByteArray.extract_zero_size
end Go.Proofs.YtbbjhepagkkjeaaGreatDoor
