import Derived.Test.YtmcbmmpjhijagaaGreatDoorQ2
import Derived.Test.YtmcbmmpjhijagaaGreatDoorQ6
import Derived.Test.YtmcbmmpjhijagaaGreatDoorQ7
import Derived.Handy
import Derived.Deep.RegionHeld3
import Derived.Laws.IdiomStrings
namespace Go.Proofs.YtmcbmmpjhijagaaGreatDoor
open Go Go.RowKit
theorem cat_is (P : Program) (w : World) (l m : List UInt8) (h : l.length + m.length ≤ 9000000000) : (Op.stringOp .add (mkS l) (mkS m)).run P w = .ok (.string (mkS (l ++ m))) w := by
  rw [run_string_add_sum w _ _ (by rw [mkS_size, mkS_size]; omega)]
  unfold mkS
  rw [ByteArray.mk_append_mk]
set_option maxRecDepth 100000 in
theorem l2Not_calls (M : Int) (w : World) : Calls Tryz.prog 28 #[.int .i64 M] w fun e w' => e = .returned (.string (mkS (if M = 1 then [78, 79, 84, 32] else []))) ∧ w' = w := by
  by_cases h : M = 1
  · subst h
    go_enter Tryz.func28, Tryz.ntmps28
    go_wp2
    go_returns
    exact ⟨rfl, rfl⟩
  · rw [if_neg h]
    go_enter Tryz.func28, Tryz.ntmps28
    go_wp2
    go_returns
    exact ⟨rfl, rfl⟩
set_option maxRecDepth 100000 in
theorem l2CompText_calls (M : Int) (h1 : 1 ≤ M) (h2 : M ≤ 6) (w : World) : Calls Tryz.prog 27 #[.int .i64 M] w fun e w' => e = .returned (.string (mkS (comp M))) ∧ w' = w := by
  have hc : M = 1 ∨ M = 2 ∨ M = 3 ∨ M = 4 ∨ M = 5 ∨ M = 6 := by omega
  clear h1 h2
  rcases hc with rfl | rfl | rfl | rfl | rfl | rfl
  all_goals
    go_enter Tryz.func27, Tryz.ntmps27
    go_wp2
    go_returns
    exact ⟨rfl, rfl⟩
theorem join_snoc (sep t : List UInt8) : ∀ ts : List (List UInt8), ts ≠ [] → Lib.join (ts ++ [t]) sep = Lib.join ts sep ++ sep ++ t
  | [], h => absurd rfl h
  | x :: r, _ => by
    rw [List.cons_append, Lib.join_cons, Lib.join_cons]
    unfold Lib.joinTail
    simp [List.append_assoc]
theorem join_len (sep : List UInt8) : ∀ ts : List (List UInt8), (Lib.join ts sep).length ≤ (ts.map fun t => t.length + sep.length).sum
  | [] => by simp [Lib.join_nil]
  | x :: r => by
    rw [Lib.join_cons, List.length_append, Lib.joinTail_length, List.map_cons, List.sum_cons]
    have : Lib.lens r + sep.length * r.length = (r.map fun t => t.length + sep.length).sum := by
      unfold Lib.lens
      induction r with
      | nil => simp
      | cons y r ih =>
        simp only [List.map_cons, List.sum_cons, List.length_cons, Nat.mul_succ] at ih ⊢
        omega
    omega
theorem sum_take_le (f : List UInt8 → Nat) : ∀ (ts : List (List UInt8)) (k : Nat), ((ts.take k).map f).sum ≤ (ts.map f).sum
  | [], k => by simp
  | x :: r, 0 => by simp
  | x :: r, k + 1 => by
    have := sum_take_le f r k
    simp only [List.take_succ_cons, List.map_cons, List.sum_cons]
    omega
set_option maxRecDepth 100000 in
set_option maxHeartbeats 2000000 in
theorem l2Join_calls (ts : List (List UInt8)) (sep : List UInt8) (g cap : Nat) (w : World) (hg : g < w.heap.size) (hc : ∀ (j : Nat) t, ts[j]? = some t → w.cell? ⟨g, j, none⟩ = some (.string (mkS t))) (hn : ts.length ≤ 1000000) (hb : (ts.map fun t => t.length + sep.length).sum ≤ 1000000000) (hs : sep.length ≤ 100) :
    Calls Tryz.prog 25 #[.slice (some ⟨g, 0, none⟩) ts.length cap, .string (mkS sep)] w fun e w' => e = .returned (.string (mkS (Lib.join ts sep))) ∧ w' = w := by
  have HC := hide hc
  have HB := hide hb
  clear hc hb
  go_enter Tryz.func25, Tryz.ntmps25
  go_wp2
  go_loopw [5, 6] (fun o c wr => ∃ k : Nat, k ≤ ts.length ∧ c = .int .i64 k ∧ o = .string (mkS (Lib.join (ts.take k) sep)) ∧ wr = w) (fun _ c _ => ts.length - (intOf c).toNat)
  case atStart => exact ⟨0, Nat.zero_le _, rfl, rfl, rfl⟩
  case round =>
    obtain ⟨k, hk, rfl, rfl, rfl⟩ := hrel
    by_cases hlt : k < ts.length
    · have j1 : (k : Int) < (ts.length : Int) := by omega
      obtain ⟨t, ht⟩ : ∃ t, ts[k]? = some t := ⟨ts[k], List.getElem?_eq_getElem hlt⟩
      have e0 := unhide HC k t ht
      have htk : ts.take (k + 1) = ts.take k ++ [t] := by rw [List.take_add_one, ht]; rfl
      have hl0 := join_len sep (ts.take k)
      have hl1 := sum_take_le (fun t => t.length + sep.length) ts k
      have hl2 := sum_take_le (fun t => t.length + sep.length) ts (k + 1)
      rw [htk, List.map_append, List.sum_append] at hl2
      simp only [List.map_cons, List.map_nil, List.sum_cons, List.sum_nil] at hl2
      have hb := unhide HB
      by_cases h0 : k = 0
      · subst h0
        have A1 := fun w => cat_is Tryz.prog w (Lib.join (ts.take 0) sep) t (by omega)
        have HR : Hid (Lib.join (ts.take 0) sep ++ t = Lib.join (ts.take (0 + 1)) sep) := by
          show _ = _
          rw [htk]
          simp [Lib.join_nil, Lib.join_one]
        clear hl0 hl1 hl2 hb htk ht
        generalize Lib.join (ts.take 0) sep = l at *
        go_wp2
        go_roundw
        case rel => exact ⟨0 + 1, by omega, by go_num, by rw [← unhide HR], by first | rfl | trivial⟩
        case measure => simp [intOf]; omega
      · have hne : ts.take k ≠ [] := by
          intro e
          have := congrArg List.length e
          rw [List.length_take, List.length_nil] at this
          omega
        have A1 := fun w => cat_is Tryz.prog w (Lib.join (ts.take k) sep) sep (by omega)
        have A2 := fun w => cat_is Tryz.prog w (Lib.join (ts.take k) sep ++ sep) t (by rw [List.length_append]; omega)
        have HR : Hid (Lib.join (ts.take k) sep ++ sep ++ t = Lib.join (ts.take (k + 1)) sep) := by
          show _ = _
          rw [htk, join_snoc _ _ _ hne]
        have hk0 : (0 : Int) < (k : Int) := by omega
        clear hl0 hl1 hl2 hb htk ht hne
        generalize Lib.join (ts.take k) sep = l at *
        go_wp2
        go_roundw
        case rel => exact ⟨k + 1, by omega, by go_num, by rw [← unhide HR]; first | rfl | simp only [List.append_assoc], by first | rfl | trivial⟩
        case measure => simp [intOf]; omega
    · obtain rfl : k = ts.length := by omega
      go_wp2
      go_returns
      exact ⟨by rw [List.take_length]; rfl, rfl⟩
end Go.Proofs.YtmcbmmpjhijagaaGreatDoor
namespace Go.Proofs.YtmcbmmpjhijagaaGreatDoor
open Go
section
variable {P : Program} {ops : Array Oper} {Q : Exit → Act → World → Prop} {md : Region.Mode} {S : World → Prop}
theorem takeU (i d : Nat) {oi : Oper} {fuel : Nat} {listed : Array Bool} {a : Act} {w : World} (hi : ops[i]? = some oi) (hd : oi.dst = some d)
    (hs : Region.noSelect ops = true) (hf : Region.free md ops listed i = true) (hr : (Region.ready md ops listed).contains i = true)
    (hQ : ∀ c a w, Q (.panic c) (a.put oi.dst undef) w → Q (.panic c) a w) (hw : Region.wanted oi (yielded ops a.tmps) = false) (hS : S w)
    (h : wpAnyH P md ops Q S fuel (listed.setIfInBounds i true) (a.put (some d) undef) w) : wpAnyH P md ops Q S (fuel + 1) listed a w := by
  rw [← hd] at h
  exact wpAnyH_take hi hs hf hr hQ (Or.inr ⟨hw, rfl⟩) hS h
theorem takeW (i d : Nat) (v : Value) {oi : Oper} {fuel : Nat} {listed : Array Bool} {a : Act} {w : World} (hi : ops[i]? = some oi) (hd : oi.dst = some d)
    (hs : Region.noSelect ops = true) (hf : Region.free md ops listed i = true) (hr : (Region.ready md ops listed).contains i = true)
    (hQ : ∀ c a w, Q (.panic c) (a.put oi.dst v) w → Q (.panic c) a w) (hw : Region.wanted oi (yielded ops a.tmps) = true) (hy : ∀ w, S w → (execOp a.eval oi).run P w = .ok (.value v) w) (hS : S w)
    (h : wpAnyH P md ops Q S fuel (listed.setIfInBounds i true) (a.put (some d) v) w) : wpAnyH P md ops Q S (fuel + 1) listed a w := by
  rw [← hd] at h
  exact wpAnyH_take hi hs hf hr hQ (Or.inl ⟨hw, hy⟩) hS h
end
theorem puts : (∀ (a : Act) (d : Nat) (v : Value), a.put (some d) v = { a with tmps := a.tmps.setIfInBounds d v }) ∧ (∀ {α : Type} (l : List α) (i : Nat) (x : α), l.toArray.setIfInBounds i x = (l.set i x).toArray) ∧
    (∀ {α : Type} (y : α) (l : List α) (n : Nat) (x : α), (y :: l).set (n + 1) x = y :: l.set n x) ∧ (∀ {α : Type} (y : α) (l : List α) (x : α), (y :: l).set 0 x = x :: l) :=
  ⟨fun _ _ _ => rfl, List.setIfInBounds_toArray, fun _ _ _ _ => rfl, fun _ _ _ => rfl⟩
section
variable {P : Program} {ops : Array Oper} {Q : Exit → Act → World → Prop} {md : Region.Mode} {S : World → Prop}
theorem tW (i d : Nat) (v : Value) {oi : Oper} {fuel : Nat} {listed : Array Bool} {a : Act} {w : World}
    (h : wpAnyH P md ops Q S fuel (listed.setIfInBounds i true) (a.put (some d) v) w) (hi : ops[i]? = some oi := by rfl) (hd : oi.dst = some d := by rfl)
    (hs : Region.noSelect ops = true := by kernel_rfl) (hf : Region.free md ops listed i = true := by kernel_rfl) (hr : (Region.ready md ops listed).contains i = true := by kernel_rfl)
    (hQ : ∀ c a w, Q (.panic c) (a.put oi.dst v) w → Q (.panic c) a w := by exact fun _ _ _ h => h) (hw : Region.wanted oi (yielded ops a.tmps) = true := by rfl)
    (hy : ∀ w, S w → (execOp a.eval oi).run P w = .ok (.value v) w := by intro wx hSw; obtain ⟨hs1, hs2⟩ := hSw; go_simp) (hS : S w := by assumption) :
    wpAnyH P md ops Q S (fuel + 1) listed a w := takeW i d v hi hd hs hf hr hQ hw hy hS h
end
end Go.Proofs.YtmcbmmpjhijagaaGreatDoor
namespace Go.Proofs.YtmcbmmpjhijagaaGreatDoor
open Go Go.RowKit
theorem conv1 (w : World) (b : Nat) (c : UInt8) (k : Int) (hk : k = (c.toNat : Int)) (h : w.cell? ⟨b, 0, none⟩ = some (.int .u8 k)) : (convert 108 9 (.slice (some ⟨b, 0, none⟩) 1 1)).run Tryz.prog w = .ok (.string (mkS [c])) w :=
  run_convert_bytes_back (P := Tryz.prog) w 108 9 5 ⟨b, 0, none⟩ 1 [c] Tryz.underlying108 Tryz.underlying5 Tryz.underlying9 (fun j hj => by
    simp at hj
    subst hj
    subst hk
    simpa [Addr.add] using h)
set_option maxRecDepth 100000 in
set_option maxHeartbeats 2000000 in
theorem l2Dec_small (u : Nat) (hu : u < 10) (w : World) : Calls Tryz.prog 24 #[.int .i64 (u : Int)] w fun e w' => e = .returned (.string (mkS (Lib.decDigits u))) ∧ Below w.heap.size w w' := by
  rw [Lib.decDigits_one hu]
  have hc : u = 0 ∨ u = 1 ∨ u = 2 ∨ u = 3 ∨ u = 4 ∨ u = 5 ∨ u = 6 ∨ u = 7 ∨ u = 8 ∨ u = 9 := by omega
  clear hu
  rcases hc with rfl | rfl | rfl | rfl | rfl | rfl | rfl | rfl | rfl | rfl
  · have CV := conv1 (w.alloc (.cells #[.int .u8 48] 5)) w.heap.size 48 48 rfl (by simp [go_sem])
    go_enter Tryz.func24, Tryz.ntmps24
    go_wp2
    go_returns
    exact ⟨rfl, bA (Below.refl _ _) _⟩
  · have CV := conv1 (w.alloc (.cells #[.int .u8 49] 5)) w.heap.size 49 49 rfl (by simp [go_sem])
    go_enter Tryz.func24, Tryz.ntmps24
    go_wp2
    go_returns
    exact ⟨rfl, bA (Below.refl _ _) _⟩
  · have CV := conv1 (w.alloc (.cells #[.int .u8 50] 5)) w.heap.size 50 50 rfl (by simp [go_sem])
    go_enter Tryz.func24, Tryz.ntmps24
    go_wp2
    go_returns
    exact ⟨rfl, bA (Below.refl _ _) _⟩
  · have CV := conv1 (w.alloc (.cells #[.int .u8 51] 5)) w.heap.size 51 51 rfl (by simp [go_sem])
    go_enter Tryz.func24, Tryz.ntmps24
    go_wp2
    go_returns
    exact ⟨rfl, bA (Below.refl _ _) _⟩
  · have CV := conv1 (w.alloc (.cells #[.int .u8 52] 5)) w.heap.size 52 52 rfl (by simp [go_sem])
    go_enter Tryz.func24, Tryz.ntmps24
    go_wp2
    go_returns
    exact ⟨rfl, bA (Below.refl _ _) _⟩
  · have CV := conv1 (w.alloc (.cells #[.int .u8 53] 5)) w.heap.size 53 53 rfl (by simp [go_sem])
    go_enter Tryz.func24, Tryz.ntmps24
    go_wp2
    go_returns
    exact ⟨rfl, bA (Below.refl _ _) _⟩
  · have CV := conv1 (w.alloc (.cells #[.int .u8 54] 5)) w.heap.size 54 54 rfl (by simp [go_sem])
    go_enter Tryz.func24, Tryz.ntmps24
    go_wp2
    go_returns
    exact ⟨rfl, bA (Below.refl _ _) _⟩
  · have CV := conv1 (w.alloc (.cells #[.int .u8 55] 5)) w.heap.size 55 55 rfl (by simp [go_sem])
    go_enter Tryz.func24, Tryz.ntmps24
    go_wp2
    go_returns
    exact ⟨rfl, bA (Below.refl _ _) _⟩
  · have CV := conv1 (w.alloc (.cells #[.int .u8 56] 5)) w.heap.size 56 56 rfl (by simp [go_sem])
    go_enter Tryz.func24, Tryz.ntmps24
    go_wp2
    go_returns
    exact ⟨rfl, bA (Below.refl _ _) _⟩
  · have CV := conv1 (w.alloc (.cells #[.int .u8 57] 5)) w.heap.size 57 57 rfl (by simp [go_sem])
    go_enter Tryz.func24, Tryz.ntmps24
    go_wp2
    go_returns
    exact ⟨rfl, bA (Below.refl _ _) _⟩
set_option maxRecDepth 100000 in
set_option maxHeartbeats 2000000 in
theorem l2Dec_big (u d : Nat) (hu : 10 ≤ u) (hmax : u ≤ 9223372036854775807) (hd : u % 10 = d) (w : World) (ih : ∀ W, Calls Tryz.prog 24 #[.int .i64 ((u / 10 : Nat) : Int)] W fun e w' => e = .returned (.string (mkS (Lib.decDigits (u / 10)))) ∧ Below W.heap.size W w') :
    Calls Tryz.prog 24 #[.int .i64 (u : Int)] w fun e w' => e = .returned (.string (mkS (Lib.decDigits u))) ∧ Below w.heap.size w w' := by
  have hd10 : d < 10 := by omega
  have e0 : Lib.decDigits u = Lib.decDigits (u / 10) ++ [UInt8.ofNat (48 + d)] := by rw [Lib.decDigits, dif_neg (by omega), hd]
  obtain ⟨ch, hch⟩ : ∃ ch, UInt8.ofNat (48 + d) = ch := ⟨_, rfl⟩
  rw [e0, hch]
  have hr : (u : Int).tmod 10 = (d : Int) := by rw [Int.tmod_eq_emod_of_nonneg (by omega)]; omega
  have hw1 : IntKind.i64.wrap ((u : Int) / 10) = (u : Int) / 10 := by rw [IntKind.wrap_i64]; omega
  have hw2 : IntKind.i64.wrap (48 + (d : Int)) = 48 + (d : Int) := by rw [IntKind.wrap_i64]; omega
  have hw3 : IntKind.u8.wrap (48 + (d : Int)) = 48 + (d : Int) := by rw [IntKind.wrap_u8]; omega
  have HCh : Hid ((48 + (d : Int)) = (ch.toNat : Int)) := by show _ = _; rw [← hch, UInt8.toNat_ofNat_of_lt' (by simp [UInt8.size]; omega)]; omega
  have hdl : (Lib.decDigits (u / 10)).length ≤ 100 := by
    rw [Lib.decDigits_length]
    have := nDig_le 19 (u / 10) (by omega)
    omega
  have A1 := fun w => cat_is Tryz.prog w (Lib.decDigits (u / 10)) [ch] (by simp; omega)
  have hn1 : ¬ (u : Int) = -9223372036854775808 := by omega
  have hn2 : ¬ (u : Int) < 0 := by omega
  have hn3 : ¬ (u : Int) < 10 := by omega
  have IH := hide ih
  clear ih e0 hch
  go_enter Tryz.func24, Tryz.ntmps24
  go_upto_region 7 with fail
  refine wp_region_held_drew (S := Std w) (by kernel_rfl) (Std.drew (Std.refl _)) (fun hHeld => ?_)
  refine tW 0 18 (.int .i64 (u : Int)) ?_
  simp only [puts]
  refine tW 1 19 (.int .i64 ((u / 10 : Nat) : Int)) ?_
  simp only [puts]
  refine tW 3 21 (.int .i64 (u : Int)) ?_
  simp only [puts]
  refine tW 4 22 (.int .i64 (d : Int)) ?_
  simp only [puts]
  refine tW 5 23 (.int .i64 (48 + d : Int)) ?_
  simp only [puts]
  refine tW 6 24 (.int .u8 (48 + d : Int)) ?_
  simp only [puts]
  refine wpAnyH_ready (rs := [2, 7]) (by kernel_rfl) (by simp) ?_
  refine AllReadyH.cons rfl (fun Kx hK => ?_) (AllReadyH.cons rfl (fun Kx hK => ?_) AllReadyH.nil)
  · skip
    go_simp
    refine (unhide IH _).mono ?_
    rintro e w2 ⟨rfl, hb2⟩
    refine hK.out _ _ (Std.call (by assumption) hb2) (fun hHeld2 => ?_)
    clear hK Kx
    refine wpAnyH_ready (rs := [7]) (by kernel_rfl) (by simp) ?_
    refine AllReadyH.cons rfl (fun Kx hK => ?_) AllReadyH.nil
    go_simp
    refine hK.out _ _ (Std.alloc hHeld2 _) (fun hHeld3 => ?_)
    clear hK Kx
    have CV := conv1 (w2.alloc (.cells #[.int .u8 (48 + (d : Int))] 5)) (w2.heap.size) (ch) _ (unhide HCh) (by simp [go_sem])
    refine wpAnyH_ready (rs := [8]) (by kernel_rfl) (by simp) ?_
    refine AllReadyH.cons rfl (fun Kx hK => ?_) AllReadyH.nil
    go_simp
    refine hK.out _ _ hHeld3 (fun hHeld4 => ?_)
    clear hK Kx CV
    refine tW 9 27 (.string (mkS (Lib.decDigits (u / 10) ++ [ch]))) ?_
    simp only [puts]
    refine tW 10 2 (.string (mkS (Lib.decDigits (u / 10) ++ [ch]))) ?_
    simp only [puts]
    refine wpAnyH_done (by kernel_rfl) ?_ _
    have HB : Hid (Below w.heap.size w (w2.alloc (.cells #[.int .u8 (48 + (d : Int))] 5))) := (by assumption : Std w (w2.alloc (.cells #[.int .u8 (48 + (d : Int))] 5))).2.2
    go_wp2
    go_returns
    exact ⟨rfl, unhide HB⟩
  · skip
    go_simp
    refine hK.out _ _ (Std.alloc hHeld _) (fun hHeld2 => ?_)
    clear hK Kx
    refine wpAnyH_ready (rs := [2, 8]) (by kernel_rfl) (by simp) ?_
    refine AllReadyH.cons rfl (fun Kx hK => ?_) (AllReadyH.cons rfl (fun Kx hK => ?_) AllReadyH.nil)
    · skip
      go_simp
      refine (unhide IH _).mono ?_
      rintro e w2 ⟨rfl, hb2⟩
      have hc2 : w2.cell? ⟨w.heap.size, 0, none⟩ = some (.int .u8 (48 + (d : Int))) := ((bcell hb2).1 w.heap.size 0 (by simp)).trans (by simp [go_sem])
      refine hK.out _ _ (Std.call hHeld2 hb2) (fun hHeld3 => ?_)
      clear hK Kx
      have CV := conv1 (w2) (w.heap.size) (ch) _ (unhide HCh) (hc2)
      refine wpAnyH_ready (rs := [8]) (by kernel_rfl) (by simp) ?_
      refine AllReadyH.cons rfl (fun Kx hK => ?_) AllReadyH.nil
      go_simp
      refine hK.out _ _ hHeld3 (fun hHeld4 => ?_)
      clear hK Kx CV
      refine tW 9 27 (.string (mkS (Lib.decDigits (u / 10) ++ [ch]))) ?_
      simp only [puts]
      refine tW 10 2 (.string (mkS (Lib.decDigits (u / 10) ++ [ch]))) ?_
      simp only [puts]
      refine wpAnyH_done (by kernel_rfl) ?_ _
      have HB : Hid (Below w.heap.size w w2) := (by assumption : Std w w2).2.2
      go_wp2
      go_returns
      exact ⟨rfl, unhide HB⟩
    · skip
      have CV := conv1 (w.alloc (.cells #[.int .u8 (48 + (d : Int))] 5)).drew (w.heap.size) (ch) _ (unhide HCh) (by simp [go_sem])
      go_simp
      refine hK.out _ _ hHeld2 (fun hHeld3 => ?_)
      clear hK Kx CV
      refine wpAnyH_ready (rs := [2]) (by kernel_rfl) (by simp) ?_
      refine AllReadyH.cons rfl (fun Kx hK => ?_) AllReadyH.nil
      go_simp
      refine (unhide IH _).mono ?_
      rintro e w2 ⟨rfl, hb2⟩
      refine hK.out _ _ (Std.call (by assumption) hb2) (fun hHeld4 => ?_)
      clear hK Kx
      refine tW 9 27 (.string (mkS (Lib.decDigits (u / 10) ++ [ch]))) ?_
      simp only [puts]
      refine tW 10 2 (.string (mkS (Lib.decDigits (u / 10) ++ [ch]))) ?_
      simp only [puts]
      refine wpAnyH_done (by kernel_rfl) ?_ _
      have HB : Hid (Below w.heap.size w w2) := (by assumption : Std w w2).2.2
      go_wp2
      go_returns
      exact ⟨rfl, unhide HB⟩
end Go.Proofs.YtmcbmmpjhijagaaGreatDoor
