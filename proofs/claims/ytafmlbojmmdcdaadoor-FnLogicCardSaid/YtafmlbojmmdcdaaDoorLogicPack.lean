import Derived.Test.YtafmlbojmmdcdaaDoorLogicMath
import Derived.Test.YtafmlbojmmdcdaaDoorLwVal
import Derived.Test.YtafmlbojmmdcdaaDoorSAnd
import Derived.Test.YtafmlbojmmdcdaaDoorSOr
namespace Go.Proofs.YtafmlbojmmdcdaaDoor
open Go Go.RowKit
structure Tabs (w : World) : Prop where
  v : TVal w
  n : TNot w
  a : TAnd w
  o : TOr w
  c : TCmp w
  t : TTakes w
theorem Tabs.of {w w1 : World} (h : Tabs w) (hb : Below w.heap.size w w1) : Tabs w1 := ⟨h.v.of hb, h.n.of hb, h.a.of hb, h.o.of hb, h.c.of hb, h.t.of hb⟩
/-- a call that gives a Val -/
abbrev Gives (f : FuncId) (args : Array Value) (W : World) (x : V2) : Prop := Calls Tryd.prog f args W fun e w' => e = .returned (.agg #[.bool x.1, .int .i64 x.2]) ∧ Below W.heap.size W w'
abbrev av (x : V2) : Value := .agg #[.bool x.1, .int .i64 x.2]
theorem same_calls (x : V2) (W : World) : Calls Tryd.prog 9 #[av x, av x] W fun e w' => e = .returned (.bool true) ∧ Below W.heap.size W w' := by
  have h := lwSameVal_calls x.1 x.1 x.2 x.2 W
  rw [show (x.1 == x.1 && x.2 == x.2) = true by simp] at h
  exact h
theorem logic_pack (A B : V2) : ∃ (P X NA NB L Q : V2) (C : Int → V2),
    (∀ W, Tabs W → Gives 8 #[av A, av B] W P) ∧ (∀ W, Tabs W → Gives 7 #[av P] W X) ∧ (∀ W, Tabs W → Gives 7 #[av A] W NA) ∧ (∀ W, Tabs W → Gives 7 #[av B] W NB) ∧
    (∀ W, Tabs W → Gives 10 #[av NA, av NB] W X) ∧ (∀ W, Gives 12 #[av A, av B] W P) ∧ (∀ W, Gives 11 #[av P] W X) ∧
    (∀ W, Tabs W → Gives 13 #[.int .i64 3, av A, av B] W L) ∧ (∀ W, Tabs W → Gives 13 #[.int .i64 1, av A, av B] W Q) ∧ (∀ op W, Tabs W → Gives 13 #[.int .i64 op, av A, av B] W (C op)) ∧
    (∀ W, Tabs W → Gives 7 #[av L] W (C 6)) ∧ (∀ W, Tabs W → Gives 7 #[av Q] W (C 2)) ∧ (∀ W, Tabs W → Gives 10 #[av L, av Q] W (C 4)) ∧ (∀ W, Gives 14 #[.int .i64 4, av A, av B] W (C 4)) := by
  refine ⟨a3 A B, n3 (a3 A B), n3 A, n3 B, c3 3 A B, c3 1 A B, fun op => c3 op A B, fun W h => And3_calls _ _ _ _ W h.v h.a, fun W h => Not3_calls _ _ W h.v h.n, fun W h => Not3_calls _ _ W h.v h.n, fun W h => Not3_calls _ _ W h.v h.n, fun W h => ?_, fun W => sAnd3_calls _ _ _ _ W, fun W => sNot3_calls _ _ W, fun W h => Cmp3_calls 3 _ _ _ _ W h.v h.c, fun W h => Cmp3_calls 1 _ _ _ _ W h.v h.c, fun op W h => Cmp3_calls op _ _ _ _ W h.v h.c, fun W h => ?_, fun W h => ?_, fun W h => ?_, fun W => sCmp3_calls 4 _ _ _ _ W⟩
  · rw [← law1]; exact Or3_calls _ _ _ _ W h.v h.o
  · show Gives _ _ _ (c3 6 A B)
    rw [← law2]; exact Not3_calls _ _ W h.v h.n
  · show Gives _ _ _ (c3 2 A B)
    rw [← law3]; exact Not3_calls _ _ W h.v h.n
  · show Gives _ _ _ (c3 4 A B)
    rw [← law4]; exact Or3_calls _ _ _ _ W h.v h.o
/-- EvalEx of both sides over ops in memory -/
structure Ev (ops : List O2) (row : List V2) (g c gr cr : Nat) (W : World) : Prop where
  t : Tabs W
  gl : g < W.heap.size
  o : OpsAt W g 0 ops
  rl : gr < W.heap.size
  r : RowAt W gr 0 row
theorem Ev.of {ops : List O2} {row : List V2} {g c gr cr : Nat} {W W1 : World} (h : Ev ops row g c gr cr W) (hb : Below W.heap.size W W1) : Ev ops row g c gr cr W1 :=
  ⟨h.t.of hb, Nat.lt_of_lt_of_le h.gl hb.size, h.o.of h.gl hb, Nat.lt_of_lt_of_le h.rl hb.size, h.r.of h.rl hb⟩
abbrev Gives2 (f : FuncId) (args : Array Value) (W : World) (x : V2) (E : Bool) : Prop := Calls Tryd.prog f args W fun e w' => e = .returned (.tuple #[.agg #[.bool x.1, .int .i64 x.2], .bool E]) ∧ Below W.heap.size W w'
theorem ev_pack (ops : List O2) (row : List V2) (g c gr cr : Nat) (hl : ops.length ≤ 6000) : ∃ (V : V2) (E : Bool), (E = true → 1 ≤ ops.length) ∧
    (∀ W, Ev ops row g c gr cr W → Gives2 16 #[.slice (some ⟨g, 0, none⟩) ops.length c, .slice (some ⟨gr, 0, none⟩) row.length cr] W V E) ∧
    (∀ W, Ev ops row g c gr cr W → Gives2 17 #[.slice (some ⟨g, 0, none⟩) ops.length c, .slice (some ⟨gr, 0, none⟩) row.length cr] W V E) ∧
    (∀ W, Ev ops row g c gr cr W → Calls Tryd.prog 18 #[.slice (some ⟨g, 0, none⟩) ops.length c, .int .i64 (row.length : Int)] W fun e w' => e = .returned (.bool E) ∧ Below W.heap.size W w') ∧
    (E = true → ops.length < 5000 → ∃ U : V2, (∀ W, Tabs W → Gives 7 #[av V] W U) ∧ (∀ W, Gives 11 #[av V] W U) ∧
      ∀ (g' c' : Nat) W, Ev (ops ++ [(7, 0)]) row g' c' gr cr W → Gives2 17 #[.slice (some ⟨g', 0, none⟩) (ops ++ [((7, 0) : O2)]).length c', .slice (some ⟨gr, 0, none⟩) row.length cr] W U true) := by
  refine ⟨evx row ops, exOk row.length ops, fun h => ?_, fun W h => sEvalEx_calls ops row g 0 c gr 0 cr W h.gl h.o h.rl h.r (by omega), fun W h => EvalEx_calls ops row g 0 c gr 0 cr W h.t.t h.t.v h.t.n h.t.a h.t.o h.t.c h.gl h.o h.rl h.r (by omega), fun W h => ExOk_calls ops g 0 c row.length W h.t.t h.gl h.o (by omega), fun hE hlt => ?_⟩
  · simp only [exOk, decide_eq_true_eq] at h
    exact exOk_len h.2.2
  · refine ⟨n3 (evx row ops), fun W h => Not3_calls _ _ W h.v h.n, fun W => sNot3_calls _ _ W, fun g' c' W h => ?_⟩
    have := EvalEx_calls (ops ++ [(7, 0)]) row g' 0 c' gr 0 cr W h.t.t h.t.v h.t.n h.t.a h.t.o h.t.c h.gl h.o h.rl h.r (by simp; omega)
    rw [evx_not hE hlt, exOk_not hE hlt] at this
    exact this
end Go.Proofs.YtafmlbojmmdcdaaDoor
