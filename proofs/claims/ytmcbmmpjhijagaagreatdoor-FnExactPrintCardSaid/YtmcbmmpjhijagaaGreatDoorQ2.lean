import Derived.Test.YtmcbmmpjhijagaaGreatDoorAstFit
import Derived.Lib.Join
import Derived.Lib.ItoaNum
namespace Go.Proofs.YtmcbmmpjhijagaaGreatDoor
open Go
abbrev kSELECT : List UInt8 := [83, 69, 76, 69, 67, 84]
abbrev kDISTINCT : List UInt8 := [68, 73, 83, 84, 73, 78, 67, 84]
abbrev kFROM : List UInt8 := [70, 82, 79, 77]
abbrev kWHERE : List UInt8 := [87, 72, 69, 82, 69]
abbrev kUNION : List UInt8 := [85, 78, 73, 79, 78]
abbrev kALL : List UInt8 := [65, 76, 76]
abbrev kANY : List UInt8 := [65, 78, 89]
abbrev kAND : List UInt8 := [65, 78, 68]
abbrev kOR : List UInt8 := [79, 82]
abbrev kNOT : List UInt8 := [78, 79, 84]
abbrev kEXISTS : List UInt8 := [69, 88, 73, 83, 84, 83]
abbrev kIN : List UInt8 := [73, 78]
abbrev kIS : List UInt8 := [73, 83]
abbrev kNULL : List UInt8 := [78, 85, 76, 76]
abbrev kCOUNT : List UInt8 := [67, 79, 85, 78, 84]
abbrev kMIN : List UInt8 := [77, 73, 78]
abbrev kMAX : List UInt8 := [77, 65, 88]
abbrev kOpen : List UInt8 := [40]
abbrev kShut : List UInt8 := [41]
abbrev kComma : List UInt8 := [44]
abbrev kDot : List UInt8 := [46]
abbrev kStar : List UInt8 := [42]
def comp (m : Int) : List UInt8 := if m = 1 then [61] else if m = 2 then [60, 62] else if m = 3 then [60] else if m = 4 then [60, 61] else if m = 5 then [62] else [62, 61]
def aggw (m : Int) : List UInt8 := if m = 3 then kMIN else if m = 4 then kMAX else kCOUNT
def iL (sep : List (List UInt8)) : List (List (List UInt8)) → List (List UInt8)
  | [] => []
  | [x] => x
  | x :: y :: r => x ++ sep ++ iL sep (y :: r)
theorem iL_snoc (sep : List (List UInt8)) (x : List (List UInt8)) : ∀ (xs : List (List (List UInt8))), xs ≠ [] → iL sep (xs ++ [x]) = iL sep xs ++ sep ++ x
  | [], h => absurd rfl h
  | [y], _ => by simp [iL]
  | y :: z :: r, _ => by
    have := iL_snoc sep x (z :: r) (by simp)
    simp only [List.cons_append] at this ⊢
    simp [iL, this, List.append_assoc]
def brk (b : Bool) (ws : List (List UInt8)) : List (List UInt8) := if b then [kOpen] ++ ws ++ [kShut] else ws
def inB (K k : Int) : Bool := if K = 13 ∨ K = 14 then decide (k = 14) || decide (k = 15) else if K = 15 then decide (k = 15) else false
def notW (m : Int) : List (List UInt8) := if m = 1 then [kNOT] else []
def srcs (ks : List (Int × List (List UInt8))) : List (List (List UInt8)) := (ks.filter fun x => decide (x.1 = 5)).map (·.2)
def wher : List (Int × List (List UInt8)) → List (List UInt8)
  | [] => []
  | x :: r => if wher r = [] then (if x.1 = 5 then [] else [kWHERE] ++ x.2) else wher r
def tailW (ks : List (Int × List (List UInt8))) : List (List UInt8) := [kFROM] ++ iL [kComma] (srcs ks) ++ wher ks
def form (n : Nd) (ks : List (Int × List (List UInt8))) : List (List UInt8) :=
  let k0 := (ks.getD 0 (0, [])).2
  let k1 := (ks.getD 1 (0, [])).2
  if n.K = 1 then [Lib.itoa n.N]
  else if n.K = 2 then [kNULL]
  else if n.K = 3 then [n.S.toList, kDot, Lib.itoa n.N]
  else if n.K = 4 then [kOpen, kSELECT, aggw n.M, kOpen] ++ (if n.N = 0 then [kStar] else k0) ++ [kShut] ++ tailW (ks.drop n.N.toNat) ++ [kShut]
  else if n.K = 5 then (if n.S = n.T then [n.S.toList] else [n.S.toList, n.T.toList])
  else if n.K = 6 then [kSELECT] ++ (if n.M = 1 then [kDISTINCT] else []) ++ iL [kComma] ((ks.take n.N.toNat).map (·.2)) ++ tailW (ks.drop n.N.toNat)
  else if n.K = 7 then iL [kUNION, kALL] (ks.map (·.2))
  else if n.K = 8 then k0 ++ [comp n.M] ++ k1
  else if n.K = 9 then k0 ++ [kIS] ++ notW n.M ++ [kNULL]
  else if n.K = 10 then [kEXISTS, kOpen] ++ k0 ++ [kShut]
  else if n.K = 11 then k0 ++ notW n.M ++ [kIN, kOpen] ++ k1 ++ [kShut]
  else if n.K = 12 then k0 ++ [comp n.M, if n.N = 2 then kALL else kANY, kOpen] ++ k1 ++ [kShut]
  else if n.K = 13 then [kNOT] ++ k0
  else if n.K = 14 then iL [kAND] (ks.map (·.2))
  else iL [kOR] (ks.map (·.2))
def wd (ns : List Nd) : Nat → Nat → List (List UInt8)
  | 0, _ => []
  | f + 1, i => match ns[i]? with
    | none => []
    | some n => form n (n.Kids.map fun x => (kindAt ns x.toNat, brk (inB n.K (kindAt ns x.toNat)) (wd ns f x.toNat)))
def kw (ns : List Nd) (f : Nat) (n : Nd) : List (Int × List (List UInt8)) := n.Kids.map fun x => (kindAt ns x.toNat, brk (inB n.K (kindAt ns x.toNat)) (wd ns f x.toNat))
theorem wd_at {ns : List Nd} {i : Nat} {n : Nd} (h : ns[i]? = some n) (f : Nat) : wd ns (f + 1) i = form n (kw ns f n) := by simp [wd, h, kw]
def wl (ws : List (List UInt8)) : Nat := (ws.map fun x => x.length + 1).sum
theorem wl_nil : wl [] = 0 := rfl
theorem wl_cons (x : List UInt8) (r : List (List UInt8)) : wl (x :: r) = x.length + 1 + wl r := by simp [wl]
theorem wl_append (a b : List (List UInt8)) : wl (a ++ b) = wl a + wl b := by simp [wl]
theorem wl_iL (sep : List (List UInt8)) (s : Nat) (hs : wl sep ≤ s) : ∀ xs : List (List (List UInt8)), wl (iL sep xs) ≤ (xs.map fun x => wl x + s).sum
  | [] => by simp [iL, wl]
  | [x] => by simp [iL]
  | x :: y :: r => by
    have := wl_iL sep s hs (y :: r)
    simp only [iL, wl_append, List.map_cons, List.sum_cons] at this ⊢
    omega
theorem join_le (ws : List (List UInt8)) : (Lib.join ws [32]).length ≤ wl ws := by
  cases ws with
  | nil => simp [Lib.join_nil]
  | cons x r =>
    rw [Lib.join_cons, wl_cons]
    have : (Lib.joinTail [32] r).length = wl r := by
      unfold Lib.joinTail wl
      induction r with
      | nil => rfl
      | cons y r ih => simp [List.map_cons] at ih ⊢; omega
    simp; omega
theorem join_app (a b : List (List UInt8)) (ha : a ≠ []) (hb : b ≠ []) : Lib.join (a ++ b) [32] = Lib.join a [32] ++ [32] ++ Lib.join b [32] := by
  obtain ⟨x, r, rfl⟩ := List.exists_cons_of_ne_nil ha
  obtain ⟨y, s, rfl⟩ := List.exists_cons_of_ne_nil hb
  rw [List.cons_append, Lib.join_cons, Lib.join_cons, Lib.join_cons]
  unfold Lib.joinTail
  simp [List.append_assoc]
end Go.Proofs.YtmcbmmpjhijagaaGreatDoor
namespace Go.Proofs.YtmcbmmpjhijagaaGreatDoor
open Go
def wds (ns : List Nd) (i : Nat) : List (List UInt8) := wd ns (i + 1) i
def Fore (ns : List Nd) : Prop := ∀ (i : Nat) (n : Nd), ns[i]? = some n → ∀ x ∈ n.Kids, x.toNat < i
theorem IV.fore {ns : List Nd} (h : IV ns) : Fore ns := fun i n hi x hx => by
  have hlt : i < ns.length := (List.getElem?_eq_some_iff.1 hi).1
  obtain ⟨c, hc⟩ := h.seg.each i (Nat.zero_le _) hlt
  rw [kidsAt_some hi] at hc
  obtain ⟨p, rfl, _, h2⟩ := hc.kid x hx
  simpa using h2
theorem wd_fuel {ns : List Nd} (hF : Fore ns) : ∀ (i f : Nat), i < f → wd ns f i = wds ns i := by
  intro i
  induction i using Nat.strongRecOn with
  | _ i ih =>
    intro f hf
    obtain ⟨f, rfl⟩ : ∃ f', f = f' + 1 := ⟨f - 1, by omega⟩
    unfold wds
    cases hn : ns[i]? with
    | none => simp [wd, hn]
    | some n =>
      rw [wd_at hn, wd_at hn]
      congr 1
      unfold kw
      refine List.map_congr_left fun x hx => ?_
      have hlt := hF i n hn x hx
      rw [ih x.toNat hlt f (by omega), ih x.toNat hlt i hlt]
def kds (ns : List Nd) (n : Nd) : List (Int × List (List UInt8)) := n.Kids.map fun x => (kindAt ns x.toNat, brk (inB n.K (kindAt ns x.toNat)) (wds ns x.toNat))
theorem wds_at {ns : List Nd} (hF : Fore ns) {i : Nat} {n : Nd} (h : ns[i]? = some n) : wds ns i = form n (kds ns n) := by
  unfold wds
  rw [wd_at h]
  congr 1
  unfold kw kds
  refine List.map_congr_left fun x hx => ?_
  rw [wd_fuel hF _ _ (hF i n h x hx)]
theorem wl_brk (b : Bool) (ws : List (List UInt8)) : wl (brk b ws) ≤ wl ws + 4 := by
  unfold brk
  cases b <;> simp [wl_append, wl_cons, wl_nil]; omega
theorem wl_len (ws : List (List UInt8)) : ws.length ≤ wl ws := by
  induction ws with
  | nil => simp
  | cons x r ih => rw [wl_cons, List.length_cons]; omega
theorem comp_len (m : Int) : (comp m).length ≤ 2 := by
  unfold comp
  by_cases h1 : m = 1
  · simp [h1]
  by_cases h2 : m = 2
  · simp [h2]
  by_cases h3 : m = 3
  · simp [h3]
  by_cases h4 : m = 4
  · simp [h4]
  by_cases h5 : m = 5
  · simp [h5]
  simp [h1, h2, h3, h4, h5]
theorem aggw_len (m : Int) : (aggw m).length ≤ 5 := by
  unfold aggw
  by_cases h1 : m = 3
  · simp [h1]
  by_cases h2 : m = 4
  · simp [h2]
  simp [h1, h2]
theorem wl_notW (m : Int) : wl (notW m) ≤ 4 := by unfold notW; split <;> simp [wl]
def kwl (ks : List (Int × List (List UInt8))) : Nat := (ks.map fun x => wl x.2 + 12).sum
theorem kwl_nil : kwl [] = 0 := rfl
theorem kwl_cons (x : Int × List (List UInt8)) (r : List (Int × List (List UInt8))) : kwl (x :: r) = wl x.2 + 12 + kwl r := by simp [kwl]
theorem kwl_app (a b : List (Int × List (List UInt8))) : kwl (a ++ b) = kwl a + kwl b := by simp [kwl]
theorem kwl_iL (sep : List (List UInt8)) (hs : wl sep ≤ 12) (ks : List (Int × List (List UInt8))) : wl (iL sep (ks.map (·.2))) ≤ kwl ks := by
  have := wl_iL sep 12 hs (ks.map (·.2))
  rw [List.map_map] at this
  exact this
theorem kwl_01 (ks : List (Int × List (List UInt8))) : wl (ks.getD 0 (0, [])).2 + wl (ks.getD 1 (0, [])).2 ≤ kwl ks := by
  match ks with
  | [] => simp [wl]
  | [x] => simp [kwl_cons, kwl_nil, wl_nil]
  | x :: y :: r => simp [kwl_cons]; omega
theorem kwl_srcs (ks : List (Int × List (List UInt8))) : wl (iL [kComma] (srcs ks)) + wl (wher ks) ≤ kwl ks + 6 := by
    have h1 : ∀ ks : List (Int × List (List UInt8)), ((srcs ks).map fun x => wl x + 2).sum + wl (wher ks) ≤ kwl ks := by
      intro ks
      induction ks with
      | nil => simp [srcs, wher, kwl_nil, wl_nil]
      | cons x r ih =>
        rw [kwl_cons]
        unfold wher
        by_cases h5 : x.1 = 5
        · have : srcs (x :: r) = x.2 :: srcs r := by simp [srcs, h5]
          rw [this, List.map_cons, List.sum_cons, if_pos h5]
          split
          · rw [wl_nil]; omega
          · omega
        · have : srcs (x :: r) = srcs r := by simp [srcs, h5]
          rw [this, if_neg h5]
          split
          · have : wl ([kWHERE] ++ x.2) = 6 + wl x.2 := by simp [wl_cons]
            omega
          · omega
    have h2 := wl_iL [kComma] 2 (by simp [wl]) (srcs ks)
    have := h1 ks
    omega
theorem kwl_tail (ks : List (Int × List (List UInt8))) : wl (tailW ks) ≤ kwl ks + 20 := by
  have := kwl_srcs ks
  unfold tailW
  rw [wl_append, wl_append]
  have : wl [kFROM] = 5 := by simp [wl]
  omega
theorem kwl_cut (k : Nat) (ks : List (Int × List (List UInt8))) : kwl (ks.take k) + kwl (ks.drop k) = kwl ks := by
  rw [← kwl_app, List.take_append_drop]
theorem form_wl (n : Nd) (ks : List (Int × List (List UInt8))) (hS : n.S.toList.length ≤ 64) (hT : n.T.toList.length ≤ 64) (hN : (Lib.itoa n.N).length ≤ 30) (h4 : n.K = 4 → 0 ≤ n.N ∧ n.N ≤ 1) : wl (form n ks) ≤ kwl ks + 250 := by
  have c := comp_len n.M
  have a := aggw_len n.M
  have h01 := kwl_01 ks
  have hnw := wl_notW n.M
  unfold form
  dsimp only
  by_cases k1 : n.K = 1
  · rw [if_pos k1]
    simp [wl_cons, wl_nil]; omega
  rw [if_neg k1]
  by_cases k2 : n.K = 2
  · rw [if_pos k2]
    simp [wl_cons, wl_nil]
  rw [if_neg k2]
  by_cases k3 : n.K = 3
  · rw [if_pos k3]
    simp [wl_cons, wl_nil]; omega
  rw [if_neg k3]
  by_cases k4 : n.K = 4
  · rw [if_pos k4]
    have h := k4
    have h5 := kwl_tail (ks.drop n.N.toNat)
    have h6 := kwl_cut n.N.toNat ks
    have h7 : wl (if n.N = 0 then [kStar] else (ks.getD 0 (0, [])).2) ≤ kwl (ks.take n.N.toNat) + 2 := by
      split
      · simp [wl_cons, wl_nil]
      · rename_i hz
        have := h4 h
        have h8 : n.N.toNat = 0 ∨ n.N.toNat = 1 := by omega
        rcases h8 with e | e
        · omega
        · rw [e]
          cases ks with
          | nil => simp [wl_nil]
          | cons x r => simp [kwl_cons, kwl_nil]; omega
    simp [wl_cons, wl_nil, wl_append] at h5 h6 h7 ⊢
    omega
  rw [if_neg k4]
  by_cases k5 : n.K = 5
  · rw [if_pos k5]
    split <;> simp [wl_cons, wl_nil] <;> omega
  rw [if_neg k5]
  by_cases k6 : n.K = 6
  · rw [if_pos k6]
    have h5 := kwl_tail (ks.drop n.N.toNat)
    have h6 := kwl_cut n.N.toNat ks
    have h7 := kwl_iL [kComma] (by simp [wl]) (ks.take n.N.toNat)
    have h8 : wl (if n.M = 1 then [kDISTINCT] else []) ≤ 9 := by split <;> simp [wl]
    simp only [wl_append] at h5 h6 h7 ⊢
    simp only [wl_cons, wl_nil, List.length_cons, List.length_nil]
    omega
  rw [if_neg k6]
  by_cases k7 : n.K = 7
  · rw [if_pos k7]
    have := kwl_iL [kUNION, kALL] (by simp [wl]) ks; omega
  rw [if_neg k7]
  by_cases k8 : n.K = 8
  · rw [if_pos k8]
    simp only [wl_append, wl_cons, wl_nil]; omega
  rw [if_neg k8]
  by_cases k9 : n.K = 9
  · rw [if_pos k9]
    simp only [wl_append, wl_cons, wl_nil, List.length_cons, List.length_nil]; omega
  rw [if_neg k9]
  by_cases k10 : n.K = 10
  · rw [if_pos k10]
    simp only [wl_append, wl_cons, wl_nil, List.length_cons, List.length_nil]; omega
  rw [if_neg k10]
  by_cases k11 : n.K = 11
  · rw [if_pos k11]
    simp only [wl_append, wl_cons, wl_nil, List.length_cons, List.length_nil]; omega
  rw [if_neg k11]
  by_cases k12 : n.K = 12
  · rw [if_pos k12]
    have : (if n.N = 2 then kALL else kANY).length ≤ 3 := by split <;> simp
    simp only [wl_append, wl_cons, wl_nil, List.length_cons, List.length_nil]; omega
  rw [if_neg k12]
  by_cases k13 : n.K = 13
  · rw [if_pos k13]
    simp only [wl_append, wl_cons, wl_nil, List.length_cons, List.length_nil]; omega
  rw [if_neg k13]
  by_cases k14 : n.K = 14
  · rw [if_pos k14]
    have := kwl_iL [kAND] (by simp [wl]) ks; omega
  rw [if_neg k14]
  have := kwl_iL [kOR] (by simp [wl]) ks; omega
end Go.Proofs.YtmcbmmpjhijagaaGreatDoor
namespace Go.Proofs.YtmcbmmpjhijagaaGreatDoor
open Go
theorem nDig_le : ∀ (k u : Nat), u < 10 ^ (k + 1) → Lib.nDigits u ≤ k + 1
  | 0, u, h => by rw [Lib.nDigits_small (by simpa using h)]; omega
  | k + 1, u, h => by
    by_cases h9 : u < 10
    · rw [Lib.nDigits_small h9]; omega
    · rw [Lib.nDigits_big h9]
      have : u / 10 < 10 ^ (k + 1) := by
        rw [Nat.pow_succ] at h
        omega
      have := nDig_le k (u / 10) this
      omega
theorem itoa_len {n : Int} (h0 : -9223372036854775808 ≤ n) (h1 : n ≤ 9223372036854775807) : (Lib.itoa n).length ≤ 30 := by
  unfold Lib.itoa
  split
  · rw [List.length_cons, Lib.decDigits_length]
    have := nDig_le 19 n.natAbs (by omega)
    omega
  · rw [Lib.decDigits_length]
    have := nDig_le 19 n.toNat (by omega)
    omega
theorem rule_num (k : Int) : -9223372036854775808 ≤ (rule k).1 ∧ (rule k).2.1 ≤ 9223372036854775807 := by
  unfold rule
  by_cases k1 : k = 1
  · rw [if_pos k1]; decide
  rw [if_neg k1]
  by_cases k3 : k = 3
  · rw [if_pos k3]; decide
  rw [if_neg k3]
  by_cases k4 : k = 4
  · rw [if_pos k4]; decide
  rw [if_neg k4]
  by_cases k5 : k = 5
  · rw [if_pos k5]; decide
  rw [if_neg k5]
  by_cases k6 : k = 6
  · rw [if_pos k6]; decide
  rw [if_neg k6]
  by_cases k8 : k = 8
  · rw [if_pos k8]; decide
  rw [if_neg k8]
  by_cases k9 : k = 9
  · rw [if_pos k9]; decide
  rw [if_neg k9]
  by_cases k11 : k = 11
  · rw [if_pos k11]; decide
  rw [if_neg k11]
  by_cases k12 : k = 12
  · rw [if_pos k12]; decide
  rw [if_neg k12]; decide
theorem rule_num' (k : Int) : -9223372036854775808 < (rule k).1 ∧ (rule k).2.1 ≤ 9223372036854775807 := by
  unfold rule
  by_cases k1 : k = 1
  · rw [if_pos k1]; decide
  rw [if_neg k1]
  by_cases k3 : k = 3
  · rw [if_pos k3]; decide
  rw [if_neg k3]
  by_cases k4 : k = 4
  · rw [if_pos k4]; decide
  rw [if_neg k4]
  by_cases k5 : k = 5
  · rw [if_pos k5]; decide
  rw [if_neg k5]
  by_cases k6 : k = 6
  · rw [if_pos k6]; decide
  rw [if_neg k6]
  by_cases k8 : k = 8
  · rw [if_pos k8]; decide
  rw [if_neg k8]
  by_cases k9 : k = 9
  · rw [if_pos k9]; decide
  rw [if_neg k9]
  by_cases k11 : k = 11
  · rw [if_pos k11]; decide
  rw [if_neg k11]
  by_cases k12 : k = 12
  · rw [if_pos k12]; decide
  rw [if_neg k12]; decide
theorem NameFits.len {s : ByteArray} {b : Bool} (h : NameFits s b) : s.toList.length ≤ 64 := by
  unfold NameFits at h
  cases b
  · simp at h; rw [h]; simp
  · simp at h; rw [size_toList]; exact h.2.1
theorem fit_wl {n : Nd} {kk : List Int} (h : FitI n kk) (ks : List (Int × List (List UInt8))) : wl (form n ks) ≤ kwl ks + 250 := by
  obtain ⟨⟨_, _, h1, h2, _, _, h5, h6⟩, _⟩ := h
  have hr := rule_num n.K
  refine form_wl n ks h5.len h6.len (itoa_len (by omega) (by omega)) (fun h4 => ?_)
  rw [h4] at h1 h2
  simp [rule] at h1 h2
  omega
theorem kwl_kds (ns : List Nd) (n : Nd) : kwl (kds ns n) ≤ (n.Kids.map fun x => wl (wds ns x.toNat) + 16).sum := by
  unfold kds kwl
  generalize n.Kids = l
  induction l with
  | nil => simp
  | cons x r ih =>
    simp only [List.map_cons, List.sum_cons] at ih ⊢
    have := wl_brk (inB n.K (kindAt ns x.toNat)) (wds ns x.toNat)
    omega
theorem seg_wl {ns : List Nd} (hF : Fore ns) (hfit : ∀ (i : Nat) (n : Nd), ns[i]? = some n → FitI n (kindsOf ns n.Kids)) {a b : Nat} {ks : List Int} (h : Seg ns a b ks) : b ≤ ns.length → (ks.map fun x => wl (wds ns x.toNat) + 16).sum ≤ 300 * (b - a) := by
  induction h with
  | nil a => intro _; simp
  | @snoc a c p ks h1 h2 i1 i2 =>
    intro hb
    have l1 := h1.le
    have l2 := h2.le
    have e1 := i1 (by omega)
    have e2 := i2 (by omega)
    obtain ⟨n, hn⟩ : ∃ n, ns[p]? = some n := ⟨ns[p]'(by omega), List.getElem?_eq_getElem (by omega)⟩
    rw [kidsAt_some hn] at e2
    have e3 := fit_wl (hfit p n hn) (kds ns n)
    rw [← wds_at hF hn] at e3
    have e4 := kwl_kds ns n
    simp only [List.map_append, List.sum_append, List.map_cons, List.map_nil, List.sum_cons, List.sum_nil, Int.toNat_natCast]
    omega
theorem IV.wl {ns : List Nd} (h : IV ns) : wl (wds ns (ns.length - 1)) ≤ 3000000 := by
  have := seg_wl h.fore h.fit h.seg (Nat.le_refl _)
  have h2 := h.hi
  simp at this
  omega
theorem IV.kids {ns : List Nd} (h : IV ns) : ∀ (i : Nat) (n : Nd), ns[i]? = some n → n.Kids.length ≤ 10000 ∧ ∀ x ∈ n.Kids, 0 ≤ x := fun i n hi => by
  have hlt : i < ns.length := (List.getElem?_eq_some_iff.1 hi).1
  obtain ⟨c, hc⟩ := h.seg.each i (Nat.zero_le _) hlt
  rw [kidsAt_some hi] at hc
  have := hc.len
  have h2 := h.hi
  refine ⟨by omega, fun x hx => ?_⟩
  obtain ⟨p, rfl, _, _⟩ := hc.kid x hx
  omega
theorem iL_ne {sep : List (List UInt8)} (hs : sep ≠ []) {xss : List (List (List UInt8))} (h : 2 ≤ xss.length) : iL sep xss ≠ [] := by
  match xss, h with
  | x :: y :: r, _ => simp [iL, hs]
theorem form_ne {n : Nd} {kk : List Int} (h : FitI n kk) (ks : List (Int × List (List UInt8))) (hl : ks.length = kk.length) : form n ks ≠ [] := by
  obtain ⟨⟨hr, _⟩, hK⟩ := h
  unfold form
  dsimp only
  by_cases k1 : n.K = 1
  · rw [if_pos k1]; simp
  rw [if_neg k1]
  by_cases k2 : n.K = 2
  · rw [if_pos k2]; simp
  rw [if_neg k2]
  by_cases k3 : n.K = 3
  · rw [if_pos k3]; simp
  rw [if_neg k3]
  by_cases k4 : n.K = 4
  · rw [if_pos k4]; simp
  rw [if_neg k4]
  by_cases k5 : n.K = 5
  · rw [if_pos k5]; split <;> simp
  rw [if_neg k5]
  by_cases k6 : n.K = 6
  · rw [if_pos k6]; simp
  rw [if_neg k6]
  unfold KidsI at hK
  by_cases k7 : n.K = 7
  · rw [if_pos k7]; rw [if_neg (by omega), if_pos k7] at hK; exact iL_ne (by simp) (by simp; omega)
  rw [if_neg k7]
  by_cases k8 : n.K = 8
  · rw [if_pos k8]; simp
  rw [if_neg k8]
  by_cases k9 : n.K = 9
  · rw [if_pos k9]; simp
  rw [if_neg k9]
  by_cases k10 : n.K = 10
  · rw [if_pos k10]; simp
  rw [if_neg k10]
  by_cases k11 : n.K = 11
  · rw [if_pos k11]; simp
  rw [if_neg k11]
  by_cases k12 : n.K = 12
  · rw [if_pos k12]; simp
  rw [if_neg k12]
  by_cases k13 : n.K = 13
  · rw [if_pos k13]; simp
  rw [if_neg k13]
  rw [if_neg (by omega), if_neg (by omega), if_neg (by omega), if_neg (by omega), if_neg (by omega), if_neg (by omega), if_neg (by omega), if_pos (by omega)] at hK
  by_cases k14 : n.K = 14
  · rw [if_pos k14]; exact iL_ne (by simp) (by simp; omega)
  rw [if_neg k14]; exact iL_ne (by simp) (by simp; omega)
theorem wds_ne {ns : List Nd} (hF : Fore ns) (hfit : ∀ (i : Nat) (n : Nd), ns[i]? = some n → FitI n (kindsOf ns n.Kids)) {i : Nat} (hi : i < ns.length) : wds ns i ≠ [] := by
  have hn : ns[i]? = some ns[i] := List.getElem?_eq_getElem hi
  rw [wds_at hF hn]
  exact form_ne (hfit i _ hn) _ (by simp [kds, kindsOf])
end Go.Proofs.YtmcbmmpjhijagaaGreatDoor
