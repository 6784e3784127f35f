import Derived.Test.YtbbjhepagkkjeaaGreatDoorQ3
import Derived.Deep.RegionHeld3
import Derived.Deep.DeepCutAuto
namespace Go.Proofs.YtbbjhepagkkjeaaGreatDoor
open Go Go.RowKit
theorem rcmp_step (xs ys : List V2) (k : Nat) (h1 : k < xs.length) (h2 : k < ys.length) :
    rcmp (xs.drop k) (ys.drop k) = if vcmp xs[k] ys[k] = 0 then rcmp (xs.drop (k + 1)) (ys.drop (k + 1)) else vcmp xs[k] ys[k] := by
  rw [List.drop_eq_getElem_cons h1, List.drop_eq_getElem_cons h2, rcmp]
theorem rcmp_end (xs ys : List V2) (k : Nat) (h1 : k ≤ xs.length) (h2 : k ≤ ys.length) (h : k = xs.length ∨ k = ys.length) : rcmp (xs.drop k) (ys.drop k) = cmpv xs.length ys.length := by
  unfold cmpv
  rcases h with rfl | rfl
  · rw [List.drop_length]
    cases hd : ys.drop xs.length with
    | nil =>
      have : ys.length ≤ xs.length := List.drop_eq_nil_iff.1 hd
      rw [if_neg (by omega), if_neg (by omega), rcmp]
    | cons y r =>
      have : (ys.drop xs.length).length = r.length + 1 := by rw [hd]; rfl
      simp at this
      rw [if_pos (by omega), rcmp]
  · rw [List.drop_length]
    cases hd : xs.drop ys.length with
    | nil =>
      have : xs.length ≤ ys.length := List.drop_eq_nil_iff.1 hd
      rw [if_neg (by omega), if_neg (by omega), rcmp]
    | cons y r =>
      have : (xs.drop ys.length).length = r.length + 1 := by rw [hd]; rfl
      simp at this
      rw [if_neg (by omega), if_pos (by omega), rcmp]
set_option maxHeartbeats 1000000 in
theorem RowCmp_calls (xs ys : List V2) (g off cap g' off' cap' : Nat) (w : World) (hg : g < w.heap.size) (hg' : g' < w.heap.size) (hx : RowAt w g off xs) (hy : RowAt w g' off' ys) (b1 : xs.length ≤ 1048576) (b2 : ys.length ≤ 1048576) :
    Calls Tryz.prog 63 #[.slice (some ⟨g, off, none⟩) xs.length cap, .slice (some ⟨g', off', none⟩) ys.length cap'] w fun e w' => e = .returned (.int .i64 (rcmp xs ys)) ∧ Below w.heap.size w w' := by
  by_cases hmn : (ys.length : Int) < (xs.length : Int)
  all_goals
    go_enter Tryz.func63, Tryz.ntmps63
    go_wp2
    go_loopw [5, 6, 12] (fun _ _ c wr => ∃ k : Nat, k ≤ xs.length ∧ k ≤ ys.length ∧ c = .int .i64 k ∧ rcmp xs ys = rcmp (xs.drop k) (ys.drop k) ∧ Below w.heap.size w wr) (fun _ _ c _ => xs.length - (intOf c).toNat)
    case atStart => exact ⟨0, Nat.zero_le _, Nat.zero_le _, rfl, by simp, Below.refl _ _⟩
    case round =>
      obtain ⟨k, hk1, hk2, rfl, hr0, hb⟩ := hrel
      have HR : Hid (rcmp xs ys = rcmp (xs.drop k) (ys.drop k)) := hr0
      clear hr0
      by_cases hlt : k < xs.length ∧ k < ys.length
      · obtain ⟨l1, l2⟩ := hlt
        obtain ⟨x0, x1⟩ := (hx.of hg hb).at k l1
        obtain ⟨y0, y1⟩ := (hy.of hg' hb).at k l2
        have j1 : (k : Int) < (xs.length : Int) := by omega
        have j2 : (k : Int) < (ys.length : Int) := by omega
        have q1 : g < wr.heap.size := Nat.lt_of_lt_of_le hg hb.size
        have q2 : g' < wr.heap.size := Nat.lt_of_lt_of_le hg' hb.size
        go_upto_region 4 with fail
        have h1 := Below.refl wr.heap.size wr
        have h2 := h1
        go_region_held3 (Std wr) (repeat (first | with_reducible assumption | with_reducible exact Std.refl _ | with_reducible refine Std.drew ?_ | with_reducible refine Std.alloc ?_ _ | with_reducible refine Std.setCell ?_ ?_ _ | with_reducible refine Std.call ?_ (by with_reducible assumption) | (simp <;> omega) | omega)) (first | (go_at_call 94; refine (valCmp_calls _ _ _ _ _).mono ?_; rintro e w1 ⟨rfl, hb⟩; (first | have n3 := bT h2 hb | have n3 := bT (bA h2 _) hb | have n3 := bT (Below.drew h2) hb | have n3 := bT (Below.drew (bA h2 _)) hb | have n3 := bT (bA (Below.drew h2) _) hb); (first | have n2 := bT h1 hb | have n2 := bT (bA h1 _) hb | have n2 := bT (Below.drew h1) hb | have n2 := bT (Below.drew (bA h1 _)) hb | have n2 := bT (bA (Below.drew h1) _) hb); obtain ⟨c1, f1⟩ := bcell hb; obtain ⟨c2, f2⟩ := bcell n2; obtain ⟨c3, f3⟩ := bcell n3; have hs := hb.size; (try simp at hs); clear h1 h2; have h1 := hb; have h2 := n2; clear n2 hb))
        have d2 := bT hb h2
        by_cases hv : vcmp xs[k] ys[k] = 0
        · have e3 : (vcmp xs[k] ys[k] != 0) = false := by simp [hv]
          have HV : Hid (rcmp xs ys = rcmp (xs.drop (k + 1)) (ys.drop (k + 1))) := by show _ = _; rw [HR.out, rcmp_step xs ys k l1 l2, if_pos hv]
          clear hv
          go_wp2
          go_roundw
          case rel => exact ⟨k + 1, by omega, by omega, by go_num, HV.out, d2⟩
          case measure => simp [intOf]; omega
        · have e3 : (vcmp xs[k] ys[k] != 0) = true := by simp [hv]
          have HV : Hid (rcmp xs ys = vcmp xs[k] ys[k]) := by show _ = _; rw [HR.out, rcmp_step xs ys k l1 l2, if_neg hv]
          clear hv
          go_wp2
          go_ret
          exact ⟨congrArg (fun z => Ending.returned (.int .i64 z)) HV.out.symm, d2⟩
      · have j1 : ¬ ((k : Int) < (xs.length : Int) ∧ (k : Int) < (ys.length : Int)) := by omega
        have HE : Hid (rcmp xs ys = cmpv xs.length ys.length) := by show _ = _; rw [HR.out, rcmp_end xs ys k hk1 hk2 (by omega)]
        go_wp2_with (go_at_call 95; refine (CompareI_calls _ _ _).mono ?_; rintro e w1 ⟨rfl, rfl⟩)
        go_ret
        exact ⟨congrArg (fun z => Ending.returned (.int .i64 z)) HE.out.symm, hb⟩
end Go.Proofs.YtbbjhepagkkjeaaGreatDoor
namespace Go.Proofs.YtbbjhepagkkjeaaGreatDoor
section
variable {α : Type} (key : α → List V2)
def mrgF : Nat → List α → List α → List α
  | 0, a, b => a ++ b
  | _ + 1, [], b => b
  | _ + 1, x :: a, [] => x :: a
  | n + 1, x :: a, y :: b => if rcmp (key x) (key y) ≤ 0 then x :: mrgF n a (y :: b) else y :: mrgF n (x :: a) b
def msF : Nat → List α → List α
  | 0, l => l
  | n + 1, l => if l.length < 2 then l else mrgF key l.length (msF n (l.take (l.length / 2))) (msF n (l.drop (l.length / 2)))
theorem mrgF_nil_left (n : Nat) (b : List α) : mrgF key n [] b = b := by cases n <;> simp [mrgF]
theorem mrgF_nil_right (n : Nat) (a : List α) : mrgF key n a [] = a := by cases n <;> cases a <;> simp [mrgF]
theorem mrgF_length : ∀ (n : Nat) (a b : List α), (mrgF key n a b).length = a.length + b.length
  | 0, a, b => by simp [mrgF]
  | _ + 1, [], b => by simp [mrgF]
  | _ + 1, x :: a, [] => by simp [mrgF]
  | n + 1, x :: a, y :: b => by
    simp only [mrgF]
    split
    · simp only [List.length_cons, mrgF_length n a (y :: b)]; omega
    · simp only [List.length_cons, mrgF_length n (x :: a) b]; omega
theorem msF_length : ∀ (n : Nat) (l : List α), (msF key n l).length = l.length
  | 0, l => rfl
  | n + 1, l => by
    simp only [msF]
    split
    · rfl
    · rw [mrgF_length, msF_length n, msF_length n]; simp; omega
theorem mrgF_perm : ∀ (n : Nat) (a b : List α), List.Perm (mrgF key n a b) (a ++ b)
  | 0, a, b => by simp [mrgF]
  | _ + 1, [], b => by simp [mrgF]
  | _ + 1, x :: a, [] => by simp [mrgF]
  | n + 1, x :: a, y :: b => by
    simp only [mrgF]
    split
    · exact (mrgF_perm n a (y :: b)).cons x
    · refine ((mrgF_perm n (x :: a) b).cons y).trans ?_
      exact (List.perm_middle (a := y) (l₁ := x :: a) (l₂ := b)).symm
theorem msF_perm : ∀ (n : Nat) (l : List α), List.Perm (msF key n l) l
  | 0, l => .refl _
  | n + 1, l => by
    simp only [msF]
    split
    · exact .refl _
    · refine (mrgF_perm key _ _ _).trans ?_
      refine ((msF_perm n (l.take (l.length / 2))).append (msF_perm n (l.drop (l.length / 2)))).trans ?_
      rw [List.take_append_drop]
end
section
variable {α β : Type} (key : α → List V2) (key' : β → List V2) (f : α → β)
theorem mrgF_map (hk : ∀ x, key' (f x) = key x) : ∀ (n : Nat) (a b : List α), (mrgF key n a b).map f = mrgF key' n (a.map f) (b.map f)
  | 0, a, b => by simp [mrgF]
  | _ + 1, [], b => by simp [mrgF]
  | _ + 1, x :: a, [] => by simp [mrgF]
  | n + 1, x :: a, y :: b => by
    simp only [mrgF, List.map_cons, hk]
    split
    · simp only [List.map_cons, mrgF_map hk n a (y :: b)]
    · simp only [List.map_cons, mrgF_map hk n (x :: a) b]
theorem msF_map (hk : ∀ x, key' (f x) = key x) : ∀ (n : Nat) (l : List α), (msF key n l).map f = msF key' n (l.map f)
  | 0, l => rfl
  | n + 1, l => by
    simp only [msF, List.length_map]
    split
    · rfl
    · rw [mrgF_map key key' f hk, msF_map hk n, msF_map hk n, List.map_take, List.map_drop]
end
end Go.Proofs.YtbbjhepagkkjeaaGreatDoor
namespace Go.Proofs.YtbbjhepagkkjeaaGreatDoor
open Go Go.RowKit
theorem GridAt.take {w : World} {G off : Nat} {rs : List R3} (h : GridAt w G off rs) (k : Nat) : GridAt w G off (rs.take k) := fun i r hr => h i r (by rw [List.getElem?_take] at hr; split at hr <;> simp_all)
theorem GridAt.drop {w : World} {G off : Nat} {rs : List R3} (h : GridAt w G off rs) (k : Nat) : GridAt w G (off + k) (rs.drop k) := fun i r hr => by
  have := h (k + i) r (by simpa using hr)
  rw [show off + k + i = off + (k + i) from by omega]
  exact this
theorem RowsOk.sub {w : World} {rs qs : List R3} (h : RowsOk w rs) (hs : ∀ r ∈ qs, r ∈ rs) : RowsOk w qs := fun r hr => h r (hs r hr)
theorem gslice_high (G off n cap h : Nat) (hh : h ≤ cap) (w : World) : (Instr.slice 30 (.slice (some ⟨G, off, none⟩) n cap) none (some (.int .i64 (h : Int))) none).run Tryz.prog w = .ok (.slice (some ⟨G, off, none⟩) h cap) w := by
  have ht : Tryz.prog.underlying 30 = some (.slice (Tryz.prog.elem 30)) := by kernel_rfl
  have hs : ∀ w, (sizeOf (Tryz.prog.elem 30)).run Tryz.prog w = .ok 1 w := fun _ => by kernel_rfl
  rw [run_slice_h _ _ _ _ _ ht .i64 h (by omega) (by omega), hs]
  simp [Result.andThen, sliced, Addr.add]
theorem gslice_low (G off n cap h : Nat) (hh : h ≤ n) (_hn : n ≤ cap) : ∃ o, (h < n → o = off + h) ∧ ∀ w : World, (Instr.slice 30 (.slice (some ⟨G, off, none⟩) n cap) (some (.int .i64 (h : Int))) none none).run Tryz.prog w = .ok (.slice (some ⟨G, o, none⟩) (n - h) (cap - h)) w := by
  have ht : Tryz.prog.underlying 30 = some (.slice (Tryz.prog.elem 30)) := by kernel_rfl
  have hs : ∀ w, (sizeOf (Tryz.prog.elem 30)).run Tryz.prog w = .ok 1 w := fun _ => by kernel_rfl
  by_cases hc : cap = h
  · refine ⟨off, fun h' => by omega, fun w => ?_⟩
    rw [run_slice_l _ _ _ _ _ ht .i64 h (by omega) (by omega), hs]
    simp [Result.andThen, sliced, hc]
  · refine ⟨off + h, fun _ => rfl, fun w => ?_⟩
    rw [run_slice_l _ _ _ _ _ ht .i64 h (by omega) (by omega), hs]
    by_cases h0 : h = 0
    · subst h0; simp [Result.andThen, sliced, hc, Addr.add]
    · simp [Result.andThen, sliced, hc, Addr.add, h0]
theorem gslice_one (G off n cap : Nat) (hn : n + 1 ≤ cap) : ∃ o, (0 < n → o = off + 1) ∧ ∀ w : World, (Instr.slice 30 (.slice (some ⟨G, off, none⟩) (n + 1) cap) (some (.int .i64 1)) none none).run Tryz.prog w = .ok (.slice (some ⟨G, o, none⟩) n (cap - 1)) w := by
  obtain ⟨o, h1, h2⟩ := gslice_low G off (n + 1) cap 1 (by omega) hn
  exact ⟨o, fun h => h1 (by omega), h2⟩
theorem make_room (n : Nat) (hn : n ≤ 1048576) (w : World) :
    (Instr.makeSlice 30 (.int .i64 0) (.int .i64 (n : Int))).run Tryz.prog w = .ok (.slice (some ⟨w.heap.size, 0, none⟩) 0 n) (w.alloc (.cells (madeCells #[.slice none 0 0] n) 52)) := by
  obtain ⟨i, hi, hz⟩ := Option.map_eq_some_iff.1 (show (Tryz.prog.info? 52).map (fun i => (i.zero, i.size, i.bytes)) = some (some (.slice none 0 0), 1, 24) by kernel_rfl)
  simp only [Prod.mk.injEq] at hz
  have := run_make (P := Tryz.prog) w 30 52 i _ Tryz.underlying30 hi hz.1 .i64 .i64 0 (n : Int) (by omega) (by omega) (by rw [hz.2.2]; omega) (by omega)
  rw [hz.2.1] at this
  simpa [Value.cells] using this
theorem OwnG.room (w : World) (n : Nat) (hn : n ≤ 1048576) : OwnG (w.alloc (.cells (madeCells #[.slice none 0 0] n) 52)) w.heap.size w.heap.size n [] :=
  ⟨rfl, Or.inr ⟨w.heap.size, n, _, rfl, Nat.le_refl _, (MapKept.heap_alloc w _).1, Nat.zero_le _, by unfold maxLen; omega, by simp [size_madeCells], by simp⟩⟩
theorem msF_small (n : Nat) (rs : List R3) (h : rs.length < 2) : msF kR n rs = rs := by cases n <;> simp [msF, h]
def SortedSaid (n : Nat) : Prop := ∀ (rs : List R3) (G off cap : Nat) (w : World), rs.length ≤ n → G < w.heap.size → GridAt w G off rs → RowsOk w rs → rs.length ≤ cap → rs.length ≤ 1048576 → (∀ r ∈ rs, r.2.2.length ≤ 1048576) →
    Calls Tryz.prog 62 #[.slice (some ⟨G, off, none⟩) rs.length cap, .func (Fn.func 63) #[] #[]] w fun e w' => ∃ G' cap', e = .returned (.slice (some ⟨G', 0, none⟩) rs.length cap') ∧ OwnG w' w.heap.size G' cap' (msF kR n rs) ∧ Below w.heap.size w w'
theorem sorted_small (n : Nat) (rs : List R3) (G off cap : Nat) (w : World) (hl : rs.length < 2) (hG : G < w.heap.size) (hr : GridAt w G off rs) :
    Calls Tryz.prog 62 #[.slice (some ⟨G, off, none⟩) rs.length cap, .func (Fn.func 63) #[] #[]] w fun e w' => ∃ G' cap', e = .returned (.slice (some ⟨G', 0, none⟩) rs.length cap') ∧ OwnG w' w.heap.size G' cap' (msF kR n rs) ∧ Below w.heap.size w w' := by
  rw [msF_small n rs hl]
  have hl' : (rs.length : Int) < 2 := by omega
  go_enter Tryz.func62, Tryz.ntmps62
  go_wp2_with fail
  refine (Clone_calls rs G off cap w hG hr (by omega)).mono ?_; rintro e w1 ⟨G', cap', rfl, ho, hb⟩
  go_wp2
  go_ret
  exact ⟨G', cap', rfl, ho, hb⟩
end Go.Proofs.YtbbjhepagkkjeaaGreatDoor
