import Derived.Test.YtbbjhepagkkjeaaGreatDoorQ0
import Derived.Test.YtbbjhepagkkjeaaGreatDoorQ11
import Derived.Test.YtbbjhepagkkjeaaGreatDoorQ6
import Derived.Test.YtbbjhepagkkjeaaGreatDoorQ9
import Derived.Deep.AppendLies
namespace Go.Proofs.YtbbjhepagkkjeaaGreatDoor
open Go Go.RowKit
theorem cat_q (l m : List UInt8) (h : l.length + m.length ≤ 9000000000) : ∃ q : List UInt8, q.length = l.length + m.length ∧ ∀ w, (Op.stringOp .add (mkS l) (mkS m)).run Tryz.prog w = .ok (.string (mkS q)) w :=
  ⟨l ++ m, List.length_append, fun w => cat_is Tryz.prog w l m h⟩
def TxtE (w : World) (n : Nat) (e : Ending) (w' : World) : Prop := ∃ l : List UInt8, e = .returned (.string (mkS l)) ∧ l.length ≤ n ∧ Below w.heap.size w w'
set_option maxRecDepth 100000 in
set_option maxHeartbeats 2000000 in
theorem l2Odd_calls (k : Nat) (w : World) : Calls Tryz.prog 75 #[.int .i64 (k : Int)] w (TxtE w 20) := by
  have hc : (k : Int) % 12 = 0 ∨ (k : Int) % 12 = 1 ∨ (k : Int) % 12 = 2 ∨ (k : Int) % 12 = 3 ∨ (k : Int) % 12 = 4 ∨ (k : Int) % 12 = 5 ∨ (k : Int) % 12 = 6 ∨ (k : Int) % 12 = 7 ∨ (k : Int) % 12 = 8 ∨ (k : Int) % 12 = 9 ∨ (k : Int) % 12 = 10 ∨ (k : Int) % 12 = 11 := by omega
  have fin : ∀ (l : List UInt8), l.length ≤ 20 → TxtE w 20 (.returned (.string (mkS l))) w := fun l hl => ⟨l, rfl, hl, Below.refl _ _⟩
  have FIN := hide fin
  clear fin
  rcases hc with h | h | h | h | h | h | h | h | h | h | h | h
  all_goals (go_enter Tryz.func75, Tryz.ntmps75)
  all_goals go_wp2
  all_goals go_returns
  · exact unhide FIN [32, 40, 32] (by decide)
  · exact unhide FIN [32, 41, 32] (by decide)
  · exact unhide FIN [32, 78, 79, 84, 32] (by decide)
  · exact unhide FIN [32, 65, 78, 68, 32] (by decide)
  · exact unhide FIN [32, 44, 32] (by decide)
  · exact unhide FIN [59] (by decide)
  · exact unhide FIN [45] (by decide)
  · exact unhide FIN [32, 78, 85, 76, 76, 32] (by decide)
  · exact unhide FIN [32, 65, 76, 76, 32] (by decide)
  · exact unhide FIN [32, 70, 82, 79, 77, 32, 114, 32] (by decide)
  · exact unhide FIN [57, 57, 57, 57, 57, 57, 57, 57, 57, 57, 57, 57, 57, 57, 57, 57, 57] (by decide)
  · exact unhide FIN [120] (by decide)
theorem itoa_le (n : Int) (h0 : -1000000000000000000 < n) (h1 : n < 1000000000000000000) : (Lib.itoa n).length ≤ 20 := by
  have hd : (Lib.decDigits n.natAbs).length ≤ 19 := by
    rw [Lib.decDigits_length]
    have := nDig_le 18 n.natAbs (by omega)
    omega
  unfold Lib.itoa
  split
  · simp only [List.length_cons]
    have : (-n).toNat = n.natAbs := by omega
    first | omega | (rw [this]; omega)
  · have : n.toNat = n.natAbs := by omega
    first | omega | (rw [this]; omega)
set_option maxRecDepth 100000 in
set_option maxHeartbeats 2000000 in
theorem l3ValText_calls (b : Bool) (n : Int) (h0 : -1000000000000000000 < n) (h1 : n < 1000000000000000000) (w : World) : Calls Tryz.prog 71 #[.agg #[.bool b, .int .i64 n]] w (TxtE w 20) := by
  cases b
  · have HD := hide (fun W => l2Dec_calls n (by omega) (by omega) W)
    have hl : (Lib.itoa n).length ≤ 20 := itoa_le n h0 h1
    generalize Lib.itoa n = l at *
    clear h0 h1
    go_enter Tryz.func71, Tryz.ntmps71
    go_wp2_with fail
    refine (unhide HD _).mono ?_; rintro e w1 ⟨rfl, hb⟩
    have HB := hide (bT (bA (Below.refl w.heap.size w) _) hb)
    clear hb
    go_wp2
    go_returns
    exact ⟨l, rfl, hl, unhide HB⟩
  · clear h0 h1
    go_enter Tryz.func71, Tryz.ntmps71
    go_wp2
    go_returns
    exact ⟨[78, 85, 76, 76], rfl, by decide, bA (Below.refl _ _) _⟩
end Go.Proofs.YtbbjhepagkkjeaaGreatDoor
namespace Go.Proofs.YtbbjhepagkkjeaaGreatDoor
open Go Go.RowKit
structure Td where
  nm : List UInt8
  co : Int
  u : Value
  rs : List R3
def tcs (d : List Td) : List Value := d.flatMap fun t => [.string (mkS t.nm), .int .i64 t.co, t.u]
theorem tcs_cons (t : Td) (d : List Td) : tcs (t :: d) = .string (mkS t.nm) :: .int .i64 t.co :: t.u :: tcs d := rfl
theorem tcs_append (d : List Td) (t : Td) : tcs (d ++ [t]) = tcs d ++ [.string (mkS t.nm), .int .i64 t.co, t.u] := by simp [tcs]
theorem tcs_at : ∀ (d : List Td) (i : Nat) (t : Td), d[i]? = some t → (tcs d)[i * 3]? = some (.string (mkS t.nm)) ∧ (tcs d)[i * 3 + 1]? = some (.int .i64 t.co) ∧ (tcs d)[i * 3 + 2]? = some t.u
  | [], i, t, h => by simp at h
  | a :: d, 0, t, h => by
    simp at h
    subst h
    exact ⟨rfl, rfl, rfl⟩
  | a :: d, i + 1, t, h => by
    have := tcs_at d i t (by simpa using h)
    rw [tcs_cons]
    rw [show (i + 1) * 3 = i * 3 + 1 + 1 + 1 by omega]
    simpa using this
structure RowT (w : World) (g n : Nat) : Prop where
  size : g < w.heap.size
  frz : ∀ o, w.frozen? ⟨g, o, none⟩ = false
  cell : ∀ c, c < n → ∃ (b : Bool) (N : Int), w.cell? ⟨g, c * 2, none⟩ = some (.bool b) ∧ w.cell? ⟨g, c * 2 + 1, none⟩ = some (.int .i64 N)
theorem RowT.butB {S : Nat → Prop} {w w1 : World} {g n : Nat} (h : RowT w g n) (hb : ButB S w w1) (hn : ¬ S g) : RowT w1 g n :=
  ⟨Nat.lt_of_lt_of_le h.size hb.size, fun o => (hb.frz g o h.size hn).trans (h.frz o), fun c hc => by
    rw [hb.cell g _ h.size hn, hb.cell g _ h.size hn]; exact h.cell c hc⟩
theorem OwnRow.rowT {w : World} {g n : Nat} {xs : List V2} (h : OwnRow w g n xs) : RowT w g xs.length :=
  ⟨h.size, h.frz, fun c hc => by
    have := h.held c xs[c] (by simp [hc])
    simp only [Nat.zero_add] at this
    exact ⟨_, _, this⟩⟩
abbrev Lq : Type := Nat → Nat × Nat
structure TdS (w : World) (lab : Lq) (B i : Nat) (t : Td) : Prop where
  nm : t.nm.length ≤ 100
  lo : -1000 ≤ t.co
  hi : t.co ≤ 1000
  few : t.rs.length ≤ 1100
  own : w.ownsRow B 52 1 t.u t.rs.length (t.rs.map rv)
  blk : ∀ G, t.u.ownBlock = some G → lab G = (2, i)
  row : ∀ r ∈ t.rs, (lab r.1).1 = 1 ∧ r.2.2.length ≤ 40 ∧ RowT w r.1 r.2.2.length
structure DbS (w : World) (lab : Lq) (B : Nat) (v : Value) (d : List Td) : Prop where
  own : w.ownsRow B 32 3 v d.length (tcs d)
  rng : ∀ b, (lab b).1 ≠ 0 → B ≤ b ∧ b < w.heap.size ∧ v.ownBlock ≠ some b
  few : d.length ≤ 60
  tab : ∀ i t, d[i]? = some t → TdS w lab B i t
theorem TdS.butB {S : Nat → Prop} {w w1 : World} {lab : Lq} {B i : Nat} {t : Td} (h : TdS w lab B i t) (hb : ButB S w w1) (hl : ∀ b, (lab b).1 ≠ 0 → ¬ S b) : TdS w1 lab B i t :=
  ⟨h.nm, h.lo, h.hi, h.few, ownsRow_butB h.own hb (fun g e => hl g (by rw [h.blk g e]; simp)), h.blk, fun r hr => ⟨(h.row r hr).1, (h.row r hr).2.1, (h.row r hr).2.2.butB hb (hl _ (by rw [(h.row r hr).1]; simp))⟩⟩
theorem DbS.butB {S : Nat → Prop} {w w1 : World} {lab : Lq} {B : Nat} {v : Value} {d : List Td} (h : DbS w lab B v d) (hb : ButB S w w1) (hv : ∀ g, v.ownBlock = some g → ¬ S g) (hl : ∀ b, (lab b).1 ≠ 0 → ¬ S b) : DbS w1 lab B v d :=
  ⟨ownsRow_butB h.own hb hv, fun b e => ⟨(h.rng b e).1, Nat.lt_of_lt_of_le (h.rng b e).2.1 hb.size, (h.rng b e).2.2⟩, h.few, fun i t ht => (h.tab i t ht).butB hb hl⟩
theorem DbS.of {w w1 : World} {lab : Lq} {B : Nat} {v : Value} {d : List Td} (h : DbS w lab B v d) (hb : Below w.heap.size w w1) : DbS w1 lab B v d :=
  h.butB (S := fun _ => False) (ButB.ofBelow hb) (fun _ _ e => e) (fun _ _ e => e)
theorem DbS.nil (w : World) (B : Nat) : DbS w (fun _ => (0, 0)) B (.slice none 0 0) [] :=
  ⟨World.ownsRow_nil w B _ 3, fun b e => by simp at e, by simp, fun i t ht => by simp at ht⟩
theorem DbS.form {w : World} {lab : Lq} {B : Nat} {v : Value} {d : List Td} (h : DbS w lab B v d) : ∃ a c, v = .slice a d.length c := by
  rcases h.own.2 with ⟨h1, h2⟩ | ⟨g, cap, cur, h1, _⟩
  · exact ⟨none, 0, by rw [h1, h2]⟩
  · exact ⟨_, _, h1⟩
theorem DbS.at {w : World} {lab : Lq} {B n c : Nat} {a : Option Addr} {d : List Td} (h : DbS w lab B (.slice a n c) d) (i : Nat) (t : Td) (hi : d[i]? = some t) :
    ∃ g, a = some ⟨g, 0, none⟩ ∧ B ≤ g ∧ g < w.heap.size ∧ (lab g).1 = 0 ∧ w.cell? ⟨g, i * 3, none⟩ = some (.string (mkS t.nm)) ∧ w.cell? ⟨g, i * 3 + 1, none⟩ = some (.int .i64 t.co) ∧ w.cell? ⟨g, i * 3 + 2, none⟩ = some t.u := by
  have hlt := (List.getElem?_eq_some_iff.1 hi).1
  obtain ⟨c0, c1, c2⟩ := tcs_at d i t hi
  rcases h.own.2 with ⟨_, h2⟩ | ⟨g, cap, cur, h1, hB, h3, _⟩
  · omega
  · have ho := h.own
    have hr := h.rng g
    rw [h1] at ho
    rw [h1] at hr
    simp only [Value.slice.injEq] at h1
    refine ⟨g, h1.1, hB, (Array.getElem?_eq_some_iff.1 h3).1, ?_, by rw [ho.cellAt _ (by omega)]; exact c0, by rw [ho.cellAt _ (by omega)]; exact c1, by rw [ho.cellAt _ (by omega)]; exact c2⟩
    apply Classical.byContradiction
    intro hh
    exact (hr hh).2.2 rfl
theorem TdS.form {w : World} {lab : Lq} {B i : Nat} {t : Td} (h : TdS w lab B i t) : ∃ a c, t.u = .slice a t.rs.length c := by
  rcases h.own.2 with ⟨h1, h2⟩ | ⟨g, cap, cur, h1, _⟩
  · exact ⟨none, 0, by rw [h1, h2]⟩
  · exact ⟨_, _, h1⟩
theorem TdS.at {w : World} {lab : Lq} {B i n c : Nat} {a : Option Addr} {t : Td} (h : TdS w lab B i t) (hu : t.u = .slice a n c) (j : Nat) (hj : j < t.rs.length) :
    ∃ G, a = some ⟨G, 0, none⟩ ∧ G < w.heap.size ∧ (lab G).1 = 2 ∧ w.cell? ⟨G, j, none⟩ = some (rv t.rs[j]) := by
  rcases h.own.2 with ⟨_, h2⟩ | ⟨g, cap, cur, h1, hB, h3, _⟩
  · omega
  · have ho := h.own
    have hb := h.blk g (by rw [h1]; rfl)
    rw [h1] at ho
    rw [hu] at h1
    simp only [Value.slice.injEq] at h1
    exact ⟨g, h1.1, (Array.getElem?_eq_some_iff.1 h3).1, by rw [hb], by rw [ho.cellAt j (by omega), List.getElem?_map, List.getElem?_eq_getElem hj]; rfl⟩
def ShC (w : World) (g c : Nat) : Prop := ∃ (b : Bool) (N : Int), w.cell? ⟨g, c * 2, none⟩ = some (.bool b) ∧ w.cell? ⟨g, c * 2 + 1, none⟩ = some (.int .i64 N) ∧ -1000000000000000000 < N ∧ N < 1000000000000000000
def ShD (w : World) (d : List Td) : Prop := ∀ (i : Nat) (t : Td), d[i]? = some t → ∀ r ∈ t.rs, ∀ c, c < r.2.2.length → ShC w r.1 c
theorem ShD.of {w w1 : World} {lab : Lq} {B : Nat} {v : Value} {d : List Td} (h : ShD w d) (hd : DbS w lab B v d) (hb : Below w.heap.size w w1) : ShD w1 d := fun i t hi r hr c hc => by
  obtain ⟨b, N, h1, h2, h3⟩ := h i t hi r hr c hc
  have hs := ((hd.tab i t hi).row r hr).2.2.size
  exact ⟨b, N, (hb.cell (p := ⟨r.1, c * 2, none⟩) hs).trans h1, (hb.cell (p := ⟨r.1, c * 2 + 1, none⟩) hs).trans h2, h3⟩
end Go.Proofs.YtbbjhepagkkjeaaGreatDoor
namespace Go.Proofs.YtbbjhepagkkjeaaGreatDoor
open Go Go.RowKit
theorem TdS.relab {w : World} {lab lab' : Lq} {B i : Nat} {t : Td} (h : TdS w lab B i t) (hl : ∀ b, (lab b).1 ≠ 0 → lab' b = lab b) : TdS w lab' B i t :=
  ⟨h.nm, h.lo, h.hi, h.few, h.own, fun G e => by rw [hl G (by rw [h.blk G e]; simp)]; exact h.blk G e, fun r hr => by
    rw [hl r.1 (by rw [(h.row r hr).1]; simp)]; exact h.row r hr⟩
theorem DbS.push {w w2 : World} {lab lab' : Lq} {B g2 c2 : Nat} {v : Value} {d : List Td} {t : Td} (h : DbS w lab B v d) (ht : TdS w lab' B d.length t)
    (hlab : ∀ b, (lab b).1 ≠ 0 → lab' b = lab b) (hnew : ∀ b, (lab' b).1 ≠ 0 → (lab b).1 ≠ 0 ∨ (B ≤ b ∧ b < w.heap.size ∧ v.ownBlock ≠ some b)) (hfew : d.length < 60)
    (hown : w2.ownsRow B 32 3 (.slice (some ⟨g2, 0, none⟩) (d.length + 1) c2) (d.length + 1) (tcs d ++ [.string (mkS t.nm), .int .i64 t.co, t.u])) (hgr : w.grownBy w2 v.ownBlock) (hat : v.ownBlock = some g2 ∨ g2 = w.heap.size) :
    DbS w2 lab' B (.slice (some ⟨g2, 0, none⟩) (d.length + 1) c2) (d ++ [t]) := by
  have hB : ButB (fun b => v.ownBlock = some b) w w2 := ButB.grown hgr (fun b e => e)
  have hk : ∀ b, (lab' b).1 ≠ 0 → B ≤ b ∧ b < w.heap.size ∧ v.ownBlock ≠ some b := fun b e => by
    rcases hnew b e with h1 | h1
    · exact h.rng b h1
    · exact h1
  refine ⟨by rw [tcs_append, List.length_append]; exact hown, fun b e => ?_, by simp; omega, fun i t' ht' => ?_⟩
  · obtain ⟨k1, k2, k3⟩ := hk b e
    refine ⟨k1, Nat.lt_of_lt_of_le k2 hB.size, fun e' => ?_⟩
    simp [Value.ownBlock] at e'
    subst e'
    rcases hat with h1 | h1
    · exact k3 h1
    · omega
  · by_cases hi : i < d.length
    · rw [List.getElem?_append_left hi] at ht'
      exact ((h.tab i t' ht').relab hlab).butB hB (fun b e e' => (hk b e).2.2 e')
    · have hl := (List.getElem?_eq_some_iff.1 ht').1
      simp at hl
      obtain rfl : i = d.length := by omega
      rw [List.getElem?_append_right (Nat.le_refl _)] at ht'
      simp at ht'
      subst ht'
      exact ht.butB hB (fun b e e' => (hk b e).2.2 e')
def labG (lab : Lq) (z G i : Nat) (qs : List R3) : Lq := fun b => if b < z then lab b else if b = G then (2, i) else if qs.any (fun r => r.1 == b) then (1, 0) else (0, 0)
theorem TdS.drawn {w w0 wr : World} {lab : Lq} {B R G co i n : Nat} {a : Option Addr} {cap : Nat} {bs : List Nat} {st : List (List V2) × Nat} {qs : List R3} {nm : List UInt8} {C : Int}
    (hG : Gst w0 wr R a cap bs st G co qs) (hb : Below wr.heap.size wr w) (hB : B ≤ w0.heap.size) (hnm : nm.length ≤ 100) (hC0 : -1000 ≤ C) (hC1 : C ≤ 1000) (hn : qs.length = n) (hn2 : n ≤ 1100) (hw : ∀ x ∈ st.1, x.length ≤ 40) :
    TdS w (labG lab w0.heap.size G i qs) B i ⟨nm, C, .slice (some ⟨G, 0, none⟩) n co, qs⟩ := by
  have hGl := hG.own.lt
  refine ⟨hnm, hC0, hC1, by simpa [hn] using hn2, ?_, fun G' e => ?_, fun r hr => ?_⟩
  · have h1 := hG.own
    unfold OwnG at h1
    rw [hn] at h1
    have h2 := ownsRow_butB (S := fun _ => False) h1 (ButB.ofBelow hb) (fun _ _ e => e)
    simp only [hn]
    refine ⟨h2.1, ?_⟩
    rcases h2.2 with h3 | ⟨g, c, cur, k1, k2, k3⟩
    · exact Or.inl h3
    · exact Or.inr ⟨g, c, cur, k1, Nat.le_trans hB k2, k3⟩
  · simp [Value.ownBlock] at e
    subst e
    unfold labG
    rw [if_neg (by omega), if_pos rfl]
  · have h1 := hG.new r hr
    have h2 := hG.rows r hr
    refine ⟨?_, hw _ (by rw [← hG.vals]; exact List.mem_map.2 ⟨r, hr, rfl⟩), h2.1.rowT.butB (S := fun _ => False) (ButB.ofBelow hb) (fun e => e)⟩
    unfold labG
    rw [if_neg (by omega), if_neg h1.2, if_pos (List.any_eq_true.2 ⟨r, hr, by simp⟩)]
theorem labG_old {lab : Lq} {z G i : Nat} {qs : List R3} (hz : ∀ b, (lab b).1 ≠ 0 → b < z) (b : Nat) (h : (lab b).1 ≠ 0) : labG lab z G i qs b = lab b := by unfold labG; rw [if_pos (hz b h)]
theorem labG_new {lab : Lq} {z G i : Nat} {qs : List R3} (b : Nat) (h : (labG lab z G i qs b).1 ≠ 0) : (lab b).1 ≠ 0 ∨ (z ≤ b ∧ (b = G ∨ ∃ r ∈ qs, r.1 = b)) := by
  unfold labG at h
  by_cases h1 : b < z
  · rw [if_pos h1] at h; exact Or.inl h
  · rw [if_neg h1] at h
    by_cases h2 : b = G
    · exact Or.inr ⟨by omega, Or.inl h2⟩
    · rw [if_neg h2] at h
      by_cases h3 : (qs.any (fun r => r.1 == b)) = true
      · obtain ⟨r, hr, e⟩ := List.any_eq_true.1 h3
        exact Or.inr ⟨by omega, Or.inr ⟨r, hr, by simpa using e⟩⟩
      · rw [if_neg h3] at h; simp at h
def NmE (w : World) (e : Ending) (w' : World) : Prop := (∃ l : List UInt8, e = .returned (.string (mkS l)) ∧ l.length ≤ 100) ∧ w' = w
def CoE (w : World) (e : Ending) (w' : World) : Prop := (∃ n : Nat, e = .returned (.int .i64 (n : Int)) ∧ n ≤ 3) ∧ w' = w
set_option maxHeartbeats 2000000 in
theorem l2TableName_calls (i : Nat) (w : World) : Calls Tryz.prog 100 #[.int .i64 (i : Int)] w (NmE w) := by
  have hc : (i : Int) % 3 = 0 ∨ (i : Int) % 3 = 1 ∨ (i : Int) % 3 = 2 := by omega
  rcases hc with h | h | h
  all_goals (go_enter Tryz.func100, Tryz.ntmps100)
  all_goals go_wp2
  all_goals go_ret
  · exact ⟨⟨[114], rfl, by decide⟩, rfl⟩
  · exact ⟨⟨[115], rfl, by decide⟩, rfl⟩
  · exact ⟨⟨[116], rfl, by decide⟩, rfl⟩
set_option maxHeartbeats 2000000 in
theorem l2TableCols_calls (i : Nat) (w : World) : Calls Tryz.prog 101 #[.int .i64 (i : Int)] w (CoE w) := by
  have hc : (i : Int) % 3 = 0 ∨ (i : Int) % 3 = 1 ∨ (i : Int) % 3 = 2 := by omega
  rcases hc with h | h | h
  all_goals (go_enter Tryz.func101, Tryz.ntmps101)
  all_goals go_wp2
  all_goals go_ret
  · exact ⟨⟨2, rfl, by decide⟩, rfl⟩
  · exact ⟨⟨1, rfl, by decide⟩, rfl⟩
  · exact ⟨⟨3, rfl, by decide⟩, rfl⟩
end Go.Proofs.YtbbjhepagkkjeaaGreatDoor
