import Derived.Test.YtbbjhepagkkjeaaGreatDoorQ10
import Derived.Test.YtbbjhepagkkjeaaGreatDoorQ9
import Derived.Deep.RegionHeld3
import Derived.Deep.AppendLies
import Derived.OwnWalk
import Derived.WalkSpells
import Derived.Deep.DeepCutAuto
import Derived.Handy
import Derived.Laws.IdiomStrings
namespace Go.Proofs.YtbbjhepagkkjeaaGreatDoor
open Go Go.RowKit
def spn (s : ByteArray) : Nat := (s.toList.takeWhile (fun b => part (b.toNat : Int))).length
theorem takeWhile_len {α : Type} (p : α → Bool) (d : α) : ∀ (l : List α) (k : Nat), (∀ i, i < k → p (l.getD i d) = true) → k ≤ l.length → (k = l.length ∨ p (l.getD k d) = false) → (l.takeWhile p).length = k
  | [], k, _, h2, _ => by simp at h2; subst h2; rfl
  | x :: l, 0, _, _, h3 => by
    rcases h3 with h | h
    · simp at h
    · simp at h
      simp [List.takeWhile, h]
  | x :: l, k + 1, h1, h2, h3 => by
    have hx : p x = true := by simpa using h1 0 (by omega)
    have := takeWhile_len p d l k (fun i hi => by simpa using h1 (i + 1) (by omega)) (by simpa using h2) (by simpa using h3)
    simp [List.takeWhile, hx, this]
theorem spn_eq (s : ByteArray) (k : Nat) (h1 : ∀ i, i < k → part (byt s i) = true) (h2 : k ≤ s.size) (h3 : k = s.size ∨ part (byt s k) = false) : spn s = k :=
  takeWhile_len _ 0 s.toList k h1 (by rw [size_toList]; exact h2) (by rw [size_toList]; exact h3)
theorem spn_le (s : ByteArray) : spn s ≤ s.size := by
  rw [← size_toList]
  exact (List.takeWhile_sublist _).length_le
theorem takeWhile_full {α : Type} (p : α → Bool) (d : α) : ∀ (l : List α), (l.takeWhile p).length = l.length → ∀ i, i < l.length → p (l.getD i d) = true
  | [], _, i, hi => by simp at hi
  | x :: l, h, i, hi => by
    cases hx : p x
    · simp [List.takeWhile, hx] at h
    · simp [List.takeWhile, hx] at h
      cases i with
      | zero => simpa using hx
      | succ i => simpa using takeWhile_full p d l h i (by simpa using hi)
theorem spn_full (s : ByteArray) (h : spn s = s.size) (i : Nat) (hi : i < s.size) : part (byt s i) = true :=
  takeWhile_full _ 0 s.toList (by rw [size_toList]; exact h) i (by rw [size_toList]; exact hi)
set_option maxHeartbeats 1000000 in
theorem spanLen_calls (s : ByteArray) (w : World) (hs : s.size ≤ 1048576) : Calls Tryz.prog 86 #[.string s, .func (Fn.func 87) #[] #[]] w fun e w' => e = .returned (.int .i64 (spn s)) ∧ w' = w := by
  go_enter Tryz.func86, Tryz.ntmps86
  go_wp2
  go_loopw [5] (fun i wr => ∃ k : Nat, k ≤ s.size ∧ i = .int .i64 k ∧ (∀ j, j < k → part (byt s j) = true) ∧ wr = w) (fun i _ => s.size - (intOf i).toNat)
  case atStart => exact ⟨0, Nat.zero_le _, rfl, fun i hi => by omega, rfl⟩
  case round =>
    obtain ⟨k, hk, rfl, hw, rfl⟩ := hrel
    have HW := hide hw
    clear hw
    by_cases hlt : k < s.size
    · have eb := byt_eq s k hlt
      have PC := fun w => isWordPart_calls (byt s k) w
      have j1 : (k : Int) < (s.size : Int) := by omega
      have hnext : part (byt s k) = true → ∀ j, j < k + 1 → part (byt s j) = true := fun h j hj => by
        by_cases e : j = k
        · subst e; exact h
        · exact unhide HW j (by omega)
      have hend : part (byt s k) = false → spn s = k := fun h => spn_eq s k (unhide HW) hk (Or.inr h)
      have Hn := hide hnext; have He := hide hend
      clear hnext hend
      generalize byt s k = c at *
      generalize part c = p at *
      have HP := hide PC
      clear PC
      cases p
      · go_wp2_with fail
        refine (unhide HP _).mono ?_; rintro e w1 ⟨rfl, rfl⟩
        go_wp2
        go_ret
        exact ⟨congrArg (fun z : Nat => Ending.returned (.int .i64 (z : Int))) (unhide He (by first | rfl | trivial)).symm, rfl⟩
      · go_wp2_with fail
        refine (unhide HP _).mono ?_; rintro e w1 ⟨rfl, rfl⟩
        go_wp2
        go_roundw
        case rel => exact ⟨k + 1, by omega, by go_num, unhide Hn (by first | rfl | trivial), by first | rfl | trivial⟩
        case measure => simp [intOf]; omega
    · obtain rfl : k = s.size := by omega
      have He := hide (spn_eq s s.size (unhide HW) hk (Or.inl rfl))
      go_wp2
      go_ret
      exact ⟨congrArg (fun z : Nat => Ending.returned (.int .i64 (z : Int))) (unhide He).symm, rfl⟩
theorem name_iff (s : ByteArray) : NameB s ↔ (s.toList ≠ [] ∧ s.size ≤ 64 ∧ letter (byt s 0) = true ∧ spn s = s.size ∧ s.toList ∉ kws) := by
  unfold NameB WordB
  constructor
  · intro ⟨⟨h0, h1, h2⟩, h3, h4⟩
    refine ⟨fun e => ?_, h3, h1, spn_eq s _ h2 (Nat.le_refl _) (Or.inl rfl), h4⟩
    rw [← size_toList, e] at h0
    simp at h0
  · intro ⟨h0, h3, h1, h2, h4⟩
    refine ⟨⟨?_, h1, spn_full s h2⟩, h3, h4⟩
    rw [← size_toList]
    exact List.length_pos_iff.2 h0
set_option maxHeartbeats 1000000 in
theorem sIsName_calls (s : ByteArray) (w : World) (hs : s.size ≤ 1048576) : Calls Tryz.prog 44 #[.string s] w fun e w' => e = .returned (.bool (dB (NameB s))) ∧ w' = w := by
  have WC := fun w => isWord_calls s w hs
  have KC := fun w => keyword_calls s w
  have HN : Hid (NameB s ↔ (dB (WordB s) = true ∧ s.size ≤ 64 ∧ ¬ decide (s.toList ∈ kws) = true)) := by
    show _ ↔ _
    rw [dB_iff]; unfold NameB; simp
  generalize dB (WordB s) = b at *
  generalize decide (s.toList ∈ kws) = k at *
  have HW := hide WC; have HK := hide KC
  clear WC KC
  cases b
  · have HE : Hid (dB (NameB s) = false) := dB_false (fun h => by have := (HN.out.1 h).1; simp at this)
    clear HN
    go_enter Tryz.func44, Tryz.ntmps44
    go_wp2_with fail
    refine (unhide HW _).mono ?_; rintro e w1 ⟨rfl, rfl⟩
    go_wp2
    go_ret
    exact ⟨congrArg (fun z => Ending.returned (.bool z)) HE.out.symm, rfl⟩
  · by_cases h64 : (s.size : Int) ≤ 64
    · cases k
      · have HE : Hid (dB (NameB s) = true) := dB_true (HN.out.2 ⟨rfl, by omega, by simp⟩)
        clear HN
        go_enter Tryz.func44, Tryz.ntmps44
        go_wp2_with fail
        refine (unhide HW _).mono ?_; rintro e w1 ⟨rfl, rfl⟩
        go_wp2_with fail
        refine (unhide HK _).mono ?_; rintro e w1 ⟨rfl, rfl⟩
        go_wp2
        go_ret
        exact ⟨congrArg (fun z => Ending.returned (.bool z)) HE.out.symm, rfl⟩
      · have HE : Hid (dB (NameB s) = false) := dB_false (fun h => by have := (HN.out.1 h).2.2; simp at this)
        clear HN
        go_enter Tryz.func44, Tryz.ntmps44
        go_wp2_with fail
        refine (unhide HW _).mono ?_; rintro e w1 ⟨rfl, rfl⟩
        go_wp2_with fail
        refine (unhide HK _).mono ?_; rintro e w1 ⟨rfl, rfl⟩
        go_wp2
        go_ret
        exact ⟨congrArg (fun z => Ending.returned (.bool z)) HE.out.symm, rfl⟩
    · have HE : Hid (dB (NameB s) = false) := dB_false (fun h => by have := (HN.out.1 h).2.1; omega)
      clear HN
      go_enter Tryz.func44, Tryz.ntmps44
      go_wp2_with fail
      refine (unhide HW _).mono ?_; rintro e w1 ⟨rfl, rfl⟩
      go_wp2
      go_ret
      exact ⟨congrArg (fun z => Ending.returned (.bool z)) HE.out.symm, rfl⟩
end Go.Proofs.YtbbjhepagkkjeaaGreatDoor
namespace Go.Proofs.YtbbjhepagkkjeaaGreatDoor
open Go Go.RowKit
def mkS (l : List UInt8) : ByteArray := ⟨l.toArray⟩
theorem mkS_toList (l : List UInt8) : (mkS l).toList = l := Go.ByteArray.toList_mk l
theorem mkS_size (l : List UInt8) : (mkS l).size = l.length := by rw [← size_toList, mkS_toList]
end Go.Proofs.YtbbjhepagkkjeaaGreatDoor
namespace Go.Proofs.YtbbjhepagkkjeaaGreatDoor
open Go
section
variable {P : Program} {ops : Array Oper} {Q : Exit → Act → World → Prop} {md : Region.Mode} {S : World → Prop}
theorem takeU (i d : Nat) {oi : Oper} {fuel : Nat} {listed : Array Bool} {a : Act} {w : World} (hi : ops[i]? = some oi) (hd : oi.dst = some d)
    (hs : Region.noSelect ops = true) (hf : Region.free md ops listed i = true) (hr : (Region.ready md ops listed).contains i = true)
    (hQ : ∀ c a w, Q (.panic c) (a.put oi.dst undef) w → Q (.panic c) a w) (hw : Region.wanted oi (yielded ops a.tmps) = false) (hS : S w)
    (h : wpAnyH P md ops Q S fuel (listed.setIfInBounds i true) (a.put (some d) undef) w) : wpAnyH P md ops Q S (fuel + 1) listed a w := by
  rw [← hd] at h
  exact wpAnyH_take hi hs hf hr hQ (Or.inr ⟨hw, rfl⟩) hS h
theorem takeW (i d : Nat) (v : Value) {oi : Oper} {fuel : Nat} {listed : Array Bool} {a : Act} {w : World} (hi : ops[i]? = some oi) (hd : oi.dst = some d)
    (hs : Region.noSelect ops = true) (hf : Region.free md ops listed i = true) (hr : (Region.ready md ops listed).contains i = true)
    (hQ : ∀ c a w, Q (.panic c) (a.put oi.dst v) w → Q (.panic c) a w) (hw : Region.wanted oi (yielded ops a.tmps) = true) (hy : ∀ w, S w → (execOp a.eval oi).run P w = .ok (.value v) w) (hS : S w)
    (h : wpAnyH P md ops Q S fuel (listed.setIfInBounds i true) (a.put (some d) v) w) : wpAnyH P md ops Q S (fuel + 1) listed a w := by
  rw [← hd] at h
  exact wpAnyH_take hi hs hf hr hQ (Or.inl ⟨hw, hy⟩) hS h
end
theorem puts : (∀ (a : Act) (d : Nat) (v : Value), a.put (some d) v = { a with tmps := a.tmps.setIfInBounds d v }) ∧ (∀ {α : Type} (l : List α) (i : Nat) (x : α), l.toArray.setIfInBounds i x = (l.set i x).toArray) ∧
    (∀ {α : Type} (y : α) (l : List α) (n : Nat) (x : α), (y :: l).set (n + 1) x = y :: l.set n x) ∧ (∀ {α : Type} (y : α) (l : List α) (x : α), (y :: l).set 0 x = x :: l) :=
  ⟨fun _ _ _ => rfl, List.setIfInBounds_toArray, fun _ _ _ _ => rfl, fun _ _ _ => rfl⟩
section
variable {P : Program} {ops : Array Oper} {Q : Exit → Act → World → Prop} {md : Region.Mode} {S : World → Prop}
theorem tU (i d : Nat) {oi : Oper} {fuel : Nat} {listed : Array Bool} {a : Act} {w : World}
    (h : wpAnyH P md ops Q S fuel (listed.setIfInBounds i true) (a.put (some d) undef) w) (hi : ops[i]? = some oi := by rfl) (hd : oi.dst = some d := by rfl)
    (hs : Region.noSelect ops = true := by kernel_rfl) (hf : Region.free md ops listed i = true := by kernel_rfl) (hr : (Region.ready md ops listed).contains i = true := by kernel_rfl)
    (hQ : ∀ c a w, Q (.panic c) (a.put oi.dst undef) w → Q (.panic c) a w := by exact fun _ _ _ h => h) (hw : Region.wanted oi (yielded ops a.tmps) = false := by rfl) (hS : S w := by assumption) :
    wpAnyH P md ops Q S (fuel + 1) listed a w := takeU i d hi hd hs hf hr hQ hw hS h
theorem tW (i d : Nat) (v : Value) {oi : Oper} {fuel : Nat} {listed : Array Bool} {a : Act} {w : World}
    (h : wpAnyH P md ops Q S fuel (listed.setIfInBounds i true) (a.put (some d) v) w) (hi : ops[i]? = some oi := by rfl) (hd : oi.dst = some d := by rfl)
    (hs : Region.noSelect ops = true := by kernel_rfl) (hf : Region.free md ops listed i = true := by kernel_rfl) (hr : (Region.ready md ops listed).contains i = true := by kernel_rfl)
    (hQ : ∀ c a w, Q (.panic c) (a.put oi.dst v) w → Q (.panic c) a w := by exact fun _ _ _ h => h) (hw : Region.wanted oi (yielded ops a.tmps) = true := by rfl)
    (hy : ∀ w, S w → (execOp a.eval oi).run P w = .ok (.value v) w := by intro wx hSw; obtain ⟨hs1, hs2⟩ := hSw; go_simp) (hS : S w := by assumption) :
    wpAnyH P md ops Q S (fuel + 1) listed a w := takeW i d v hi hd hs hf hr hQ hw hy hS h
end
end Go.Proofs.YtbbjhepagkkjeaaGreatDoor
namespace Go.Proofs.YtbbjhepagkkjeaaGreatDoor
open Go Go.RowKit
theorem cat_is (P : Program) (w : World) (l m : List UInt8) (h : l.length + m.length ≤ 9000000000) : (Op.stringOp .add (mkS l) (mkS m)).run P w = .ok (.string (mkS (l ++ m))) w := by
  rw [run_string_add_sum w _ _ (by rw [mkS_size, mkS_size]; omega)]
  unfold mkS
  rw [ByteArray.mk_append_mk]
end Go.Proofs.YtbbjhepagkkjeaaGreatDoor
namespace Go.Proofs.YtbbjhepagkkjeaaGreatDoor
open Go Go.RowKit
theorem conv1 (w : World) (b : Nat) (c : UInt8) (k : Int) (hk : k = (c.toNat : Int)) (h : w.cell? ⟨b, 0, none⟩ = some (.int .u8 k)) : (convert 22 9 (.slice (some ⟨b, 0, none⟩) 1 1)).run Tryz.prog w = .ok (.string (mkS [c])) w :=
  run_convert_bytes_back (P := Tryz.prog) w 22 9 5 ⟨b, 0, none⟩ 1 [c] Tryz.underlying22 Tryz.underlying5 Tryz.underlying9 (fun j hj => by
    simp at hj
    subst hj
    subst hk
    simpa [Addr.add] using h)
set_option maxRecDepth 100000 in
set_option maxHeartbeats 2000000 in
theorem l2Dec_small (u : Nat) (hu : u < 10) (w : World) : Calls Tryz.prog 70 #[.int .i64 (u : Int)] w fun e w' => e = .returned (.string (mkS (Lib.decDigits u))) ∧ Below w.heap.size w w' := by
  rw [Lib.decDigits_one hu]
  have hc : u = 0 ∨ u = 1 ∨ u = 2 ∨ u = 3 ∨ u = 4 ∨ u = 5 ∨ u = 6 ∨ u = 7 ∨ u = 8 ∨ u = 9 := by omega
  clear hu
  rcases hc with rfl | rfl | rfl | rfl | rfl | rfl | rfl | rfl | rfl | rfl
  · have CV := conv1 (w.alloc (.cells #[.int .u8 48] 5)) w.heap.size 48 48 rfl (by simp [go_sem])
    go_enter Tryz.func70, Tryz.ntmps70
    go_wp2
    go_returns
    exact ⟨rfl, bA (Below.refl _ _) _⟩
  · have CV := conv1 (w.alloc (.cells #[.int .u8 49] 5)) w.heap.size 49 49 rfl (by simp [go_sem])
    go_enter Tryz.func70, Tryz.ntmps70
    go_wp2
    go_returns
    exact ⟨rfl, bA (Below.refl _ _) _⟩
  · have CV := conv1 (w.alloc (.cells #[.int .u8 50] 5)) w.heap.size 50 50 rfl (by simp [go_sem])
    go_enter Tryz.func70, Tryz.ntmps70
    go_wp2
    go_returns
    exact ⟨rfl, bA (Below.refl _ _) _⟩
  · have CV := conv1 (w.alloc (.cells #[.int .u8 51] 5)) w.heap.size 51 51 rfl (by simp [go_sem])
    go_enter Tryz.func70, Tryz.ntmps70
    go_wp2
    go_returns
    exact ⟨rfl, bA (Below.refl _ _) _⟩
  · have CV := conv1 (w.alloc (.cells #[.int .u8 52] 5)) w.heap.size 52 52 rfl (by simp [go_sem])
    go_enter Tryz.func70, Tryz.ntmps70
    go_wp2
    go_returns
    exact ⟨rfl, bA (Below.refl _ _) _⟩
  · have CV := conv1 (w.alloc (.cells #[.int .u8 53] 5)) w.heap.size 53 53 rfl (by simp [go_sem])
    go_enter Tryz.func70, Tryz.ntmps70
    go_wp2
    go_returns
    exact ⟨rfl, bA (Below.refl _ _) _⟩
  · have CV := conv1 (w.alloc (.cells #[.int .u8 54] 5)) w.heap.size 54 54 rfl (by simp [go_sem])
    go_enter Tryz.func70, Tryz.ntmps70
    go_wp2
    go_returns
    exact ⟨rfl, bA (Below.refl _ _) _⟩
  · have CV := conv1 (w.alloc (.cells #[.int .u8 55] 5)) w.heap.size 55 55 rfl (by simp [go_sem])
    go_enter Tryz.func70, Tryz.ntmps70
    go_wp2
    go_returns
    exact ⟨rfl, bA (Below.refl _ _) _⟩
  · have CV := conv1 (w.alloc (.cells #[.int .u8 56] 5)) w.heap.size 56 56 rfl (by simp [go_sem])
    go_enter Tryz.func70, Tryz.ntmps70
    go_wp2
    go_returns
    exact ⟨rfl, bA (Below.refl _ _) _⟩
  · have CV := conv1 (w.alloc (.cells #[.int .u8 57] 5)) w.heap.size 57 57 rfl (by simp [go_sem])
    go_enter Tryz.func70, Tryz.ntmps70
    go_wp2
    go_returns
    exact ⟨rfl, bA (Below.refl _ _) _⟩
set_option maxRecDepth 100000 in
set_option maxHeartbeats 2000000 in
theorem l2Dec_big (u d : Nat) (hu : 10 ≤ u) (hmax : u ≤ 9223372036854775807) (hd : u % 10 = d) (w : World) (ih : ∀ W, Calls Tryz.prog 70 #[.int .i64 ((u / 10 : Nat) : Int)] W fun e w' => e = .returned (.string (mkS (Lib.decDigits (u / 10)))) ∧ Below W.heap.size W w') :
    Calls Tryz.prog 70 #[.int .i64 (u : Int)] w fun e w' => e = .returned (.string (mkS (Lib.decDigits u))) ∧ Below w.heap.size w w' := by
  have hd10 : d < 10 := by omega
  have e0 : Lib.decDigits u = Lib.decDigits (u / 10) ++ [UInt8.ofNat (48 + d)] := by rw [Lib.decDigits, dif_neg (by omega), hd]
  obtain ⟨ch, hch⟩ : ∃ ch, UInt8.ofNat (48 + d) = ch := ⟨_, rfl⟩
  rw [e0, hch]
  have hr : (u : Int).tmod 10 = (d : Int) := by rw [Int.tmod_eq_emod_of_nonneg (by omega)]; omega
  have hw1 : IntKind.i64.wrap ((u : Int) / 10) = (u : Int) / 10 := by rw [IntKind.wrap_i64]; omega
  have hw2 : IntKind.i64.wrap (48 + (d : Int)) = 48 + (d : Int) := by rw [IntKind.wrap_i64]; omega
  have hw3 : IntKind.u8.wrap (48 + (d : Int)) = 48 + (d : Int) := by rw [IntKind.wrap_u8]; omega
  have HCh : Hid ((48 + (d : Int)) = (ch.toNat : Int)) := by show _ = _; rw [← hch, UInt8.toNat_ofNat_of_lt' (by simp [UInt8.size]; omega)]; omega
  have hdl : (Lib.decDigits (u / 10)).length ≤ 100 := by
    rw [Lib.decDigits_length]
    have := nDig_le 19 (u / 10) (by omega)
    omega
  have A1 := fun w => cat_is Tryz.prog w (Lib.decDigits (u / 10)) [ch] (by simp; omega)
  have hn1 : ¬ (u : Int) = -9223372036854775808 := by omega
  have hn2 : ¬ (u : Int) < 0 := by omega
  have hn3 : ¬ (u : Int) < 10 := by omega
  have IH := hide ih
  clear ih e0 hch
  go_enter Tryz.func70, Tryz.ntmps70
  go_upto_region 7 with fail
  refine wp_region_held_drew (S := Std w) (by kernel_rfl) (Std.drew (Std.refl _)) (fun hHeld => ?_)
  refine tW 0 18 (.int .i64 (u : Int)) ?_
  simp only [puts]
  refine tW 1 19 (.int .i64 ((u / 10 : Nat) : Int)) ?_
  simp only [puts]
  refine tW 3 21 (.int .i64 (u : Int)) ?_
  simp only [puts]
  refine tW 4 22 (.int .i64 (d : Int)) ?_
  simp only [puts]
  refine tW 5 23 (.int .i64 (48 + d : Int)) ?_
  simp only [puts]
  refine tW 6 24 (.int .u8 (48 + d : Int)) ?_
  simp only [puts]
  refine wpAnyH_ready (rs := [2, 7]) (by kernel_rfl) (by simp) ?_
  refine AllReadyH.cons rfl (fun Kx hK => ?_) (AllReadyH.cons rfl (fun Kx hK => ?_) AllReadyH.nil)
  · skip
    go_simp
    refine (unhide IH _).mono ?_
    rintro e w2 ⟨rfl, hb2⟩
    refine hK.out _ _ (Std.call (by assumption) hb2) (fun hHeld2 => ?_)
    clear hK Kx
    refine wpAnyH_ready (rs := [7]) (by kernel_rfl) (by simp) ?_
    refine AllReadyH.cons rfl (fun Kx hK => ?_) AllReadyH.nil
    go_simp
    refine hK.out _ _ (Std.alloc hHeld2 _) (fun hHeld3 => ?_)
    clear hK Kx
    have CV := conv1 (w2.alloc (.cells #[.int .u8 (48 + (d : Int))] 5)) (w2.heap.size) (ch) _ (unhide HCh) (by simp [go_sem])
    refine wpAnyH_ready (rs := [8]) (by kernel_rfl) (by simp) ?_
    refine AllReadyH.cons rfl (fun Kx hK => ?_) AllReadyH.nil
    go_simp
    refine hK.out _ _ hHeld3 (fun hHeld4 => ?_)
    clear hK Kx CV
    refine tW 9 27 (.string (mkS (Lib.decDigits (u / 10) ++ [ch]))) ?_
    simp only [puts]
    refine tW 10 2 (.string (mkS (Lib.decDigits (u / 10) ++ [ch]))) ?_
    simp only [puts]
    refine wpAnyH_done (by kernel_rfl) ?_ _
    have HB : Hid (Below w.heap.size w (w2.alloc (.cells #[.int .u8 (48 + (d : Int))] 5))) := (by assumption : Std w (w2.alloc (.cells #[.int .u8 (48 + (d : Int))] 5))).2.2
    go_wp2
    go_returns
    exact ⟨rfl, unhide HB⟩
  · skip
    go_simp
    refine hK.out _ _ (Std.alloc hHeld _) (fun hHeld2 => ?_)
    clear hK Kx
    refine wpAnyH_ready (rs := [2, 8]) (by kernel_rfl) (by simp) ?_
    refine AllReadyH.cons rfl (fun Kx hK => ?_) (AllReadyH.cons rfl (fun Kx hK => ?_) AllReadyH.nil)
    · skip
      go_simp
      refine (unhide IH _).mono ?_
      rintro e w2 ⟨rfl, hb2⟩
      have hc2 : w2.cell? ⟨w.heap.size, 0, none⟩ = some (.int .u8 (48 + (d : Int))) := ((bcell hb2).1 w.heap.size 0 (by simp)).trans (by simp [go_sem])
      refine hK.out _ _ (Std.call hHeld2 hb2) (fun hHeld3 => ?_)
      clear hK Kx
      have CV := conv1 (w2) (w.heap.size) (ch) _ (unhide HCh) (hc2)
      refine wpAnyH_ready (rs := [8]) (by kernel_rfl) (by simp) ?_
      refine AllReadyH.cons rfl (fun Kx hK => ?_) AllReadyH.nil
      go_simp
      refine hK.out _ _ hHeld3 (fun hHeld4 => ?_)
      clear hK Kx CV
      refine tW 9 27 (.string (mkS (Lib.decDigits (u / 10) ++ [ch]))) ?_
      simp only [puts]
      refine tW 10 2 (.string (mkS (Lib.decDigits (u / 10) ++ [ch]))) ?_
      simp only [puts]
      refine wpAnyH_done (by kernel_rfl) ?_ _
      have HB : Hid (Below w.heap.size w w2) := (by assumption : Std w w2).2.2
      go_wp2
      go_returns
      exact ⟨rfl, unhide HB⟩
    · skip
      have CV := conv1 (w.alloc (.cells #[.int .u8 (48 + (d : Int))] 5)).drew (w.heap.size) (ch) _ (unhide HCh) (by simp [go_sem])
      go_simp
      refine hK.out _ _ hHeld2 (fun hHeld3 => ?_)
      clear hK Kx CV
      refine wpAnyH_ready (rs := [2]) (by kernel_rfl) (by simp) ?_
      refine AllReadyH.cons rfl (fun Kx hK => ?_) AllReadyH.nil
      go_simp
      refine (unhide IH _).mono ?_
      rintro e w2 ⟨rfl, hb2⟩
      refine hK.out _ _ (Std.call (by assumption) hb2) (fun hHeld4 => ?_)
      clear hK Kx
      refine tW 9 27 (.string (mkS (Lib.decDigits (u / 10) ++ [ch]))) ?_
      simp only [puts]
      refine tW 10 2 (.string (mkS (Lib.decDigits (u / 10) ++ [ch]))) ?_
      simp only [puts]
      refine wpAnyH_done (by kernel_rfl) ?_ _
      have HB : Hid (Below w.heap.size w w2) := (by assumption : Std w w2).2.2
      go_wp2
      go_returns
      exact ⟨rfl, unhide HB⟩
end Go.Proofs.YtbbjhepagkkjeaaGreatDoor
namespace Go.Proofs.YtbbjhepagkkjeaaGreatDoor
open Go Go.RowKit
theorem l2Dec_nat : ∀ (u : Nat), u ≤ 9223372036854775807 → ∀ w : World, Calls Tryz.prog 70 #[.int .i64 (u : Int)] w fun e w' => e = .returned (.string (mkS (Lib.decDigits u))) ∧ Below w.heap.size w w' := by
  intro u
  induction u using Nat.strongRecOn with
  | _ u ih =>
    intro hm w
    by_cases h : u < 10
    · exact l2Dec_small u h w
    · exact l2Dec_big u (u % 10) (by omega) hm rfl w (fun W => ih (u / 10) (by omega) (by omega) W)
set_option maxRecDepth 100000 in
set_option maxHeartbeats 2000000 in
theorem l2Dec_calls (n : Int) (h0 : -9223372036854775808 < n) (h1 : n ≤ 9223372036854775807) (w : World) : Calls Tryz.prog 70 #[.int .i64 n] w fun e w' => e = .returned (.string (mkS (Lib.itoa n))) ∧ Below w.heap.size w w' := by
  by_cases hn : n < 0
  · obtain ⟨u, hu⟩ : ∃ u : Nat, -n = (u : Int) := ⟨n.natAbs, by omega⟩
    have e0 : Lib.itoa n = 45 :: Lib.decDigits u := by
      unfold Lib.itoa
      rw [if_pos hn]
      congr 2
      omega
    rw [e0]
    have IH := hide (fun W => l2Dec_nat u (by omega) W)
    have hdl : (Lib.decDigits u).length ≤ 100 := by
      rw [Lib.decDigits_length]
      have := nDig_le 19 u (by omega)
      omega
    have A1 : ∀ w, (Op.stringOp .add ⟨#[45]⟩ (mkS (Lib.decDigits u))).run Tryz.prog w = .ok (.string (mkS (45 :: Lib.decDigits u))) w := fun w => cat_is Tryz.prog w [45] (Lib.decDigits u) (by simp; omega)
    have hw1 : IntKind.i64.wrap (-n) = (u : Int) := by rw [IntKind.wrap_i64]; omega
    have hn1 : ¬ n = -9223372036854775808 := by omega
    clear e0 hdl hu
    generalize Lib.decDigits u = l at *
    go_enter Tryz.func70, Tryz.ntmps70
    go_wp2_with fail
    refine (unhide IH _).mono ?_
    rintro e w1 ⟨rfl, hb⟩
    have HB := hide hb
    clear hb
    go_wp2
    go_returns
    exact ⟨rfl, unhide HB⟩
  · obtain ⟨u, rfl⟩ : ∃ u : Nat, n = (u : Int) := ⟨n.toNat, by omega⟩
    have e0 : Lib.itoa (u : Int) = Lib.decDigits u := by
      unfold Lib.itoa
      rw [if_neg hn]
      simp
    rw [e0]
    exact l2Dec_nat u (by omega) w
end Go.Proofs.YtbbjhepagkkjeaaGreatDoor
