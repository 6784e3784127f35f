import Derived.Test.YtbbjhepagkkjeaaGreatDoorQ45
import Derived.Test.YtbbjhepagkkjeaaGreatDoorQ43
namespace Go.Proofs.YtbbjhepagkkjeaaGreatDoor
open Go Go.RowKit
set_option maxHeartbeats 2000000 in
theorem l3IsVal_calls (s : ByteArray) (w : World) (h0 : 0 < s.size) (hs : s.size ≤ 1048576) : Calls Tryz.prog 41 #[.string s] w fun e w' => e = .returned (.bool (dB (ValB s))) ∧ w' = w := by
  have HN := hide (fun W => l2IsNumber_calls s W hs)
  have HD := hide (fun W => l2Digits_calls s W hs h0)
  by_cases hN : IsNul s
  · have hN' := isNul_beq hN
    have HE : Hid (dB (ValB s) = true) := dB_true (Or.inl hN)
    clear hN
    go_enter Tryz.func41, Tryz.ntmps41
    go_wp2
    go_ret
    exact ⟨congrArg (fun z => Ending.returned (.bool z)) (unhide HE).symm, rfl⟩
  · have hN' := notNul_beq hN
    by_cases h1 : NumB s
    · rw [dB_true h1] at HN
      by_cases h2 : s.size - frn s ≤ 18
      · have HE : Hid (dB (ValB s) = true) := dB_true (Or.inr ⟨h1, h2⟩)
        generalize s.size - frn s = d at *
        have j : (d : Int) ≤ 18 := by omega
        have j' : decide ((d : Int) ≤ 18) = true := by simp; omega
        clear hN h1 h2
        go_enter Tryz.func41, Tryz.ntmps41
        go_wp2_with fail
        refine (unhide HN _).mono ?_; rintro e w1 ⟨rfl, rfl⟩
        go_wp2_with fail
        refine (unhide HD _).mono ?_; rintro e w1 ⟨rfl, rfl⟩
        go_wp2
        go_ret
        exact ⟨congrArg (fun z => Ending.returned (.bool z)) (unhide HE).symm, rfl⟩
      · have HE : Hid (dB (ValB s) = false) := dB_false (fun h => h.elim hN (fun h => h2 h.2))
        generalize s.size - frn s = d at *
        have j : ¬ (d : Int) ≤ 18 := by omega
        have j' : decide ((d : Int) ≤ 18) = false := by simp; omega
        clear hN h1 h2
        go_enter Tryz.func41, Tryz.ntmps41
        go_wp2_with fail
        refine (unhide HN _).mono ?_; rintro e w1 ⟨rfl, rfl⟩
        go_wp2_with fail
        refine (unhide HD _).mono ?_; rintro e w1 ⟨rfl, rfl⟩
        go_wp2
        go_ret
        exact ⟨congrArg (fun z => Ending.returned (.bool z)) (unhide HE).symm, rfl⟩
    · rw [dB_false h1] at HN
      have HE : Hid (dB (ValB s) = false) := dB_false (fun h => h.elim hN (fun h => h1 h.1))
      clear hN h1
      go_enter Tryz.func41, Tryz.ntmps41
      go_wp2_with fail
      refine (unhide HN _).mono ?_; rintro e w1 ⟨rfl, rfl⟩
      go_wp2
      go_ret
      exact ⟨congrArg (fun z => Ending.returned (.bool z)) (unhide HE).symm, rfl⟩
set_option maxHeartbeats 2000000 in
theorem l3ValOf_calls (s : ByteArray) (w : World) (h0 : 0 < s.size) (h : ValB s) : Calls Tryz.prog 17 #[.string s] w fun e w' => e = .returned (.agg #[.bool (valW s).1, .int .i64 (valW s).2]) ∧ Below w.heap.size w w' := by
  by_cases hN : IsNul s
  · rw [valW_null hN]
    have hN' := isNul_beq hN
    clear hN h
    go_enter Tryz.func17, Tryz.ntmps17
    go_wp2
    go_returns
    refine ⟨rfl, ?_⟩
    (repeat (first | refine Below.setCell ?_ (by dsimp only; omega) _ | refine bA ?_ _ | refine Below.drew ?_)); exact Below.refl _ _
  · rw [valW_num hN]
    have hN' := notNul_beq hN
    have HV := hide (fun W => l2Value_calls s W h0 (h.resolve_left hN).2)
    generalize nVal s = V at *
    clear hN h
    go_enter Tryz.func17, Tryz.ntmps17
    go_wp2_with (first | (go_at_call 15; refine (unhide HV _).mono ?_; rintro e w1 ⟨rfl, rfl⟩) | go_in)
    go_returns
    refine ⟨rfl, ?_⟩
    (repeat (first | refine Below.setCell ?_ (by dsimp only; omega) _ | refine bA ?_ _ | refine Below.drew ?_)); exact Below.refl _ _
def IsTabW (ws : List ByteArray) : Prop := ∃ a b c, ws = [a, b, c] ∧ a.toList = tabL ∧ ColB c
set_option maxRecDepth 100000 in
set_option maxHeartbeats 4000000 in
theorem l3IsTable_calls (A cap : Nat) (ws : List ByteArray) (w : World) (hW : WordsAt w A 0 ws) (hx : ∀ x ∈ ws, 0 < x.size ∧ x.size ≤ 1048576) (hwl : ws.length ≤ 1048576) :
    Calls Tryz.prog 14 #[.slice (some ⟨A, 0, none⟩) ws.length cap] w fun e w' => e = .returned (.bool (dB (IsTabW ws))) ∧ w' = w := by
  have hA := hW.1
  by_cases h3 : ws.length = 3
  · match ws, h3 with
    | [a, b, c], _ =>
      have d0 : w.cell? ⟨A, 0, none⟩ = some (.string a) := hW.2 0 a rfl
      have d2 : w.cell? ⟨A, 2, none⟩ = some (.string c) := hW.2 2 c rfl
      obtain ⟨q1, q2⟩ := hx c (by simp)
      have HN := hide (fun W => l2IsNumber_calls c W q2)
      have HDg := hide (fun W => digit_calls (byt c 0) W)
      have eb := byt_eq c 0 q1
      have j0 : (0 : Int) < (c.size : Int) := by omega
      have hiff : IsTabW [a, b, c] ↔ (a.toList = tabL ∧ ColB c) := ⟨fun ⟨a', b', c', e, h1, h2⟩ => by
        simp at e
        obtain ⟨rfl, rfl, rfl⟩ := e
        exact ⟨h1, h2⟩, fun ⟨h1, h2⟩ => ⟨a, b, c, rfl, h1, h2⟩⟩
      have HI := hide hiff
      clear hiff hW hx hwl
      by_cases h1 : a.toList = tabL
      · have b1 : (a.toList == [116, 97, 98, 108, 101]) = true := beq_yes h1
        by_cases h2 : NumB c
        · rw [dB_true h2] at HN
          by_cases h4 : digit (byt c 0) = true
          · rw [h4] at HDg
            by_cases h5 : c.size ≤ 6
            · have HE : Hid (dB (IsTabW [a, b, c]) = true) := dB_true ((unhide HI).2 ⟨h1, h2, h4, h5⟩)
              have j5 : (c.size : Int) ≤ 6 := by omega
              have j5' : decide ((c.size : Int) ≤ 6) = true := by simp; omega
              generalize byt c 0 = b0 at *
              clear HI h1 h2 h4
              go_enter Tryz.func14, Tryz.ntmps14
              go_wp2_with fail
              refine (unhide HN _).mono ?_; rintro e w1 ⟨rfl, rfl⟩
              go_wp2_with fail
              refine (unhide HDg _).mono ?_; rintro e w1 ⟨rfl, rfl⟩
              go_wp2
              go_ret
              exact ⟨congrArg (fun z => Ending.returned (.bool z)) (unhide HE).symm, rfl⟩
            · have HE : Hid (dB (IsTabW [a, b, c]) = false) := dB_false (fun h => h5 ((unhide HI).1 h).2.2.2)
              have j5 : ¬ (c.size : Int) ≤ 6 := by omega
              have j5' : decide ((c.size : Int) ≤ 6) = false := by simp; omega
              generalize byt c 0 = b0 at *
              clear HI h1 h2 h4
              go_enter Tryz.func14, Tryz.ntmps14
              go_wp2_with fail
              refine (unhide HN _).mono ?_; rintro e w1 ⟨rfl, rfl⟩
              go_wp2_with fail
              refine (unhide HDg _).mono ?_; rintro e w1 ⟨rfl, rfl⟩
              go_wp2
              go_ret
              exact ⟨congrArg (fun z => Ending.returned (.bool z)) (unhide HE).symm, rfl⟩
          · have h4' : digit (byt c 0) = false := by simpa using h4
            rw [h4'] at HDg
            have HE : Hid (dB (IsTabW [a, b, c]) = false) := dB_false (fun h => h4 ((unhide HI).1 h).2.2.1)
            generalize byt c 0 = b0 at *
            clear HI h1 h2 h4 h4'
            go_enter Tryz.func14, Tryz.ntmps14
            go_wp2_with fail
            refine (unhide HN _).mono ?_; rintro e w1 ⟨rfl, rfl⟩
            go_wp2_with fail
            refine (unhide HDg _).mono ?_; rintro e w1 ⟨rfl, rfl⟩
            go_wp2
            go_ret
            exact ⟨congrArg (fun z => Ending.returned (.bool z)) (unhide HE).symm, rfl⟩
        · rw [dB_false h2] at HN
          have HE : Hid (dB (IsTabW [a, b, c]) = false) := dB_false (fun h => h2 ((unhide HI).1 h).2.1)
          clear HI h1 h2
          go_enter Tryz.func14, Tryz.ntmps14
          go_wp2_with fail
          refine (unhide HN _).mono ?_; rintro e w1 ⟨rfl, rfl⟩
          go_wp2
          go_ret
          exact ⟨congrArg (fun z => Ending.returned (.bool z)) (unhide HE).symm, rfl⟩
      · have b1 : (a.toList == [116, 97, 98, 108, 101]) = false := beq_no h1
        have HE : Hid (dB (IsTabW [a, b, c]) = false) := dB_false (fun h => h1 ((unhide HI).1 h).1)
        clear HI h1
        go_enter Tryz.func14, Tryz.ntmps14
        go_wp2
        go_ret
        exact ⟨congrArg (fun z => Ending.returned (.bool z)) (unhide HE).symm, rfl⟩
  · have HE : Hid (dB (IsTabW ws) = false) := dB_false (fun ⟨a, b, c, e, _⟩ => h3 (by rw [e]; rfl))
    have j3 : ((ws.length : Int) == 3) = false := by simp; omega
    clear hW hx
    go_enter Tryz.func14, Tryz.ntmps14
    go_wp2
    go_ret
    exact ⟨congrArg (fun z => Ending.returned (.bool z)) (unhide HE).symm, rfl⟩
def IsRowW (ws : List ByteArray) : Prop := ∃ a r, ws = a :: r ∧ a.toList = rowL ∧ ∀ x ∈ r, ValB x
set_option maxRecDepth 100000 in
set_option maxHeartbeats 4000000 in
theorem l3IsRow_calls (A cap : Nat) (a : ByteArray) (r : List ByteArray) (w : World) (hW : WordsAt w A 0 (a :: r)) (hx : ∀ x ∈ a :: r, 0 < x.size ∧ x.size ≤ 1048576) (hwl : r.length + 1 ≤ 1048576) :
    Calls Tryz.prog 16 #[.slice (some ⟨A, 0, none⟩) (r.length + 1) cap] w fun e w' => e = .returned (.bool (dB (IsRowW (a :: r)))) ∧ w' = w := by
  have hA := hW.1
  have d0 : w.cell? ⟨A, 0, none⟩ = some (.string a) := hW.2 0 a rfl
  have hiff : IsRowW (a :: r) ↔ (a.toList = rowL ∧ ∀ x ∈ r, ValB x) := ⟨fun ⟨a', r', e, h1, h2⟩ => by
    simp at e
    obtain ⟨rfl, rfl⟩ := e
    exact ⟨h1, h2⟩, fun ⟨h1, h2⟩ => ⟨a, r, rfl, h1, h2⟩⟩
  have HI := hide hiff
  clear hiff
  by_cases h1 : a.toList = rowL
  · have b1 : (a.toList == [114, 111, 119]) = true := beq_yes h1
    have b1' : (a.toList != [114, 111, 119]) = false := by simp [bne, b1]
    have HW := hide hW; have HX := hide hx; have H1 := hide h1
    clear hW hx h1
    go_enter Tryz.func16, Tryz.ntmps16
    go_wp2
    go_loopw [3] (fun p wr => ∃ k : Nat, k ≤ r.length ∧ p = .int .i64 ((k : Int) + 1) ∧ (∀ (j : Nat) (hj : j < r.length), j < k → ValB r[j]) ∧ wr = w) (fun p _ => r.length + 1 - (intOf p).toNat)
    case atStart => exact ⟨0, Nat.zero_le _, rfl, fun j _ hj => by omega, rfl⟩
    case round =>
      obtain ⟨k, hk, rfl, hV, rfl⟩ := hrel
      have HV := hide hV
      clear hV
      by_cases hlt : k < r.length
      · have j1 : (k : Int) < (r.length : Int) := by omega
        have hwk := (unhide HW).2 (k + 1) r[k] (by simp [hlt])
        rw [Nat.zero_add] at hwk
        obtain ⟨q0, q1⟩ := unhide HX r[k] (by simp)
        have HVC := hide (l3IsVal_calls r[k] wr q0 q1)
        by_cases hvk : ValB r[k]
        · rw [dB_true hvk] at HVC
          have HV2 : Hid (∀ (j : Nat) (hj : j < r.length), j < k + 1 → ValB r[j]) := fun j hj hjk => by
            by_cases e : j = k
            · subst e; exact hvk
            · exact unhide HV j hj (by omega)
          clear HV hvk
          generalize r[k] = x at *
          go_wp2_with fail
          refine (unhide HVC).mono ?_; rintro e w1 ⟨rfl, rfl⟩
          go_wp2
          go_roundw
          case rel => exact ⟨k + 1, by omega, by go_num, unhide HV2, by first | rfl | trivial⟩
          case measure => simp [intOf]; omega
        · rw [dB_false hvk] at HVC
          have HE : Hid (dB (IsRowW (a :: r)) = false) := dB_false (fun h => hvk (((unhide HI).1 h).2 _ (List.getElem_mem hlt)))
          clear HV hvk
          generalize r[k] = x at *
          go_wp2_with fail
          refine (unhide HVC).mono ?_; rintro e w1 ⟨rfl, rfl⟩
          go_wp2
          go_ret
          exact ⟨congrArg (fun z => Ending.returned (.bool z)) (unhide HE).symm, rfl⟩
      · obtain rfl : k = r.length := by omega
        have HE : Hid (dB (IsRowW (a :: r)) = true) := dB_true ((unhide HI).2 ⟨unhide H1, fun x hx' => by
          obtain ⟨j, hj, rfl⟩ := List.getElem_of_mem hx'
          exact unhide HV j hj hj⟩)
        clear HV HI
        go_wp2
        go_ret
        exact ⟨congrArg (fun z => Ending.returned (.bool z)) (unhide HE).symm, rfl⟩
  · have b1 : (a.toList == [114, 111, 119]) = false := beq_no h1
    have b1' : (a.toList != [114, 111, 119]) = true := by simp [bne, b1]
    have HE : Hid (dB (IsRowW (a :: r)) = false) := dB_false (fun h => h1 ((unhide HI).1 h).1)
    clear HI h1 hW hx
    go_enter Tryz.func16, Tryz.ntmps16
    go_wp2
    go_ret
    exact ⟨congrArg (fun z => Ending.returned (.bool z)) (unhide HE).symm, rfl⟩
end Go.Proofs.YtbbjhepagkkjeaaGreatDoor
namespace Go.Proofs.YtbbjhepagkkjeaaGreatDoor
open Go Go.RowKit
def flatR (xs : List V2) : List Value := xs.flatMap fun x => [.bool x.1, .int .i64 x.2]
theorem flatR_length : ∀ (xs : List V2), (flatR xs).length = xs.length * 2
  | [] => rfl
  | x :: xs => by
    have := flatR_length xs
    simp only [flatR, List.flatMap_cons, List.length_append, List.length_cons, List.length_nil] at this ⊢
    omega
theorem flatR_append (a b : List V2) : flatR (a ++ b) = flatR a ++ flatR b := by simp [flatR]
theorem flatR_at : ∀ (xs : List V2) (i : Nat) (x : V2), xs[i]? = some x → (flatR xs)[i * 2]? = some (.bool x.1) ∧ (flatR xs)[i * 2 + 1]? = some (.int .i64 x.2)
  | [], i, x, h => by simp at h
  | y :: xs, 0, x, h => by
    simp at h
    subst h
    exact ⟨rfl, rfl⟩
  | y :: xs, i + 1, x, h => by
    have := flatR_at xs i x (by simpa using h)
    simp only [flatR, List.flatMap_cons] at this ⊢
    rw [show (i + 1) * 2 = i * 2 + 2 from by omega, show i * 2 + 2 + 1 = i * 2 + 1 + 2 from by omega]
    exact this
theorem ownR {w : World} {B g cap n : Nat} {xs : List V2} (h : w.ownsRow B 54 2 (.slice (some ⟨g, 0, none⟩) n cap) n (flatR xs)) (hn : n = xs.length) : OwnRow w g xs.length xs ∧ n ≤ cap ∧ B ≤ g := by
  subst hn
  refine ⟨⟨(h.lt g rfl).2, fun o => h.frozenAt o, fun o ho => ⟨(flatR xs)[o]'(by rw [flatR_length]; exact ho), by rw [h.cellAt o ho, List.getElem?_eq_getElem]⟩, fun i x hx => ?_⟩, ?_, (h.lt g rfl).1⟩
  · have hi := (List.getElem?_eq_some_iff.1 hx).1
    have := flatR_at xs i x hx
    rw [Nat.zero_add]
    exact ⟨(h.cellAt _ (by omega)).trans this.1, (h.cellAt _ (by omega)).trans this.2⟩
  · rcases h.2 with ⟨h1, _⟩ | ⟨g', cap', cur, h1, _, _, h4, _⟩
    · simp at h1
    · simp only [Value.slice.injEq] at h1
      omega
theorem lnW_isRow {ts : List Tb} {a : ByteArray} {r : List ByteArray} (h : IsRowW (a :: r)) (ht : ts ≠ []) : lnW ts (a :: r) = some (addR ts (r.map valW)) := by
  obtain ⟨a', r', e, h1, h2⟩ := h
  simp at e
  obtain ⟨rfl, rfl⟩ := e
  exact lnW_row h1 ht h2
theorem lnW_bad {ts : List Tb} {a : ByteArray} {r : List ByteArray} (h1 : ¬ IsTabW (a :: r)) (h2 : ¬ (IsRowW (a :: r) ∧ ts ≠ [])) : lnW ts (a :: r) = none := by
  by_cases ht : a.toList = tabL
  · by_cases hr : r.length = 2
    · match r, hr with
      | [b, c], _ => exact lnW_tabn ht (fun hc => h1 ⟨a, b, c, rfl, ht, hc⟩)
    · exact lnW_tabl ht hr
  · exact lnW_rown ht (fun e => h2 ⟨⟨a, r, rfl, e.1, e.2.2⟩, e.2.1⟩)
end Go.Proofs.YtbbjhepagkkjeaaGreatDoor
