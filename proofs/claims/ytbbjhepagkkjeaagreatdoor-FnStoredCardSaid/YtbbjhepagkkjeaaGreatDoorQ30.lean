import Derived.Test.YtbbjhepagkkjeaaGreatDoorQ3
import Derived.Handy
import Derived.OwnWalk
import Derived.Lib.AppendZeros
import Derived.Test.YtbbjhepagkkjeaaGreatDoorQ1
import Derived.Test.YtbbjhepagkkjeaaGreatDoorQ2
import Derived.Test.YtbbjhepagkkjeaaGreatDoorQ4
namespace Go.Proofs.YtbbjhepagkkjeaaGreatDoor
open Go Go.RowKit
def rA (r : R3) : Option Addr := if r.2.2 = [] then none else some ⟨r.1, 0, none⟩
theorem rA_nil {r : R3} (h : r.2.2 = []) : rA r = none := by unfold rA; rw [if_pos h]
theorem rA_some {r : R3} (h : r.2.2 ≠ []) : rA r = some ⟨r.1, 0, none⟩ := by unfold rA; rw [if_neg h]
def rvO (r : R3) : Value := .slice (rA r) r.2.2.length r.2.1
structure ROk (W : World) (M : Nat → Prop) (r : R3) : Prop where
  lies : r.2.2 ≠ [] → r.1 < W.heap.size ∧ ¬ M r.1 ∧ RowAt W r.1 0 r.2.2
  cap : r.2.2.length ≤ r.2.1
def Low (B0 : Nat) (M : Nat → Prop) (W : World) : Prop := ∀ b, M b → B0 ≤ b ∧ b < W.heap.size
structure GV (M : Nat → Prop) (W : World) (M' : Nat → Prop) (W' : World) : Prop where
  os : W'.os = W.os
  tape : W'.tape = W.tape
  output : W'.output = W.output
  size : W.heap.size ≤ W'.heap.size
  block : ∀ k, k < W.heap.size → ¬ M k → W'.heap[k]? = W.heap[k]?
  new : ∀ b, M' b → M b ∨ W.heap.size ≤ b
theorem GV.refl (M : Nat → Prop) (W : World) : GV M W M W := ⟨rfl, rfl, rfl, Nat.le_refl _, fun _ _ _ => rfl, fun _ h => Or.inl h⟩
theorem GV.trans {M M1 M2 : Nat → Prop} {W W1 W2 : World} (h : GV M W M1 W1) (k : GV M1 W1 M2 W2) : GV M W M2 W2 :=
  ⟨k.os.trans h.os, k.tape.trans h.tape, k.output.trans h.output, Nat.le_trans h.size k.size, fun b hb hn => (k.block b (Nat.lt_of_lt_of_le hb h.size) (fun h1 => by
    rcases h.new b h1 with h2 | h2
    · exact hn h2
    · omega)).trans (h.block b hb hn), fun b hb => by
      rcases k.new b hb with h1 | h1
      · exact h.new b h1
      · exact Or.inr (Nat.le_trans h.size h1)⟩
theorem GV.ofBelow {M : Nat → Prop} {W W' : World} (h : Below W.heap.size W W') : GV M W M W' := ⟨h.os, h.tape, h.output, h.size, fun k hk _ => h.block k hk, fun _ h => Or.inl h⟩
theorem GV.below {B : Nat} {M M' : Nat → Prop} {W W' : World} (h : GV M W M' W') (hB : B ≤ W.heap.size) (hM : ∀ b, M b → B ≤ b) : Below B W W' :=
  ⟨h.os, h.tape, h.output, h.size, fun k hk => h.block k (by omega) (fun hm => by have := hM k hm; omega)⟩
theorem GV.base {B0 : Nat} {w0 : World} {M M' : Nat → Prop} {W W' : World} (h : GV M W M' W') (hb : Below B0 w0 W) (h0 : B0 ≤ w0.heap.size) (hM : Low B0 M W) : Below B0 w0 W' :=
  hb.trans (h.below (Nat.le_trans h0 hb.size) fun b hb => (hM b hb).1)
theorem GV.stays {M M' : Nat → Prop} {W W' : World} (h : GV M W M' W') {b : Nat} (hb : b < W.heap.size) (hn : ¬ M b) : b < W'.heap.size ∧ ¬ M' b ∧ W'.heap[b]? = W.heap[b]? :=
  ⟨Nat.lt_of_lt_of_le hb h.size, fun h1 => by
    rcases h.new b h1 with h2 | h2
    · exact hn h2
    · omega, h.block b hb hn⟩
theorem cell_of_block {W W' : World} {b : Nat} (h : W'.heap[b]? = W.heap[b]?) (o : Nat) : W'.cell? ⟨b, o, none⟩ = W.cell? ⟨b, o, none⟩ := by
  simp only [World.cell?, h]
theorem GV.cell {M M' : Nat → Prop} {W W' : World} (h : GV M W M' W') {b : Nat} (hb : b < W.heap.size) (hn : ¬ M b) (o : Nat) : W'.cell? ⟨b, o, none⟩ = W.cell? ⟨b, o, none⟩ := cell_of_block (h.block b hb hn) o
theorem ROk.gv {M M' : Nat → Prop} {W W' : World} {r : R3} (hr : ROk W M r) (h : GV M W M' W') : ROk W' M' r :=
  ⟨fun hne => by
    obtain ⟨h1, h2, h3⟩ := hr.lies hne
    obtain ⟨g1, g2, _⟩ := h.stays h1 h2
    exact ⟨g1, g2, fun i x hx => by rw [h.cell h1 h2, h.cell h1 h2]; exact h3 i x hx⟩, hr.cap⟩
theorem ROk.of {M : Nat → Prop} {W W' : World} {r : R3} (hr : ROk W M r) (h : Below W.heap.size W W') : ROk W' M r := hr.gv (GV.ofBelow h)
theorem ROk.sub {M M' : Nat → Prop} {W : World} {r : R3} (hr : ROk W M r) (h : ∀ b, b < W.heap.size → M' b → M b) : ROk W M' r :=
  ⟨fun hne => by
    obtain ⟨h1, h2, h3⟩ := hr.lies hne
    exact ⟨h1, fun hm => h2 (h _ h1 hm), h3⟩, hr.cap⟩
theorem ROk.at {M : Nat → Prop} {W : World} {r : R3} (hr : ROk W M r) (h0 : 0 < W.heap.size) : ∃ g, g < W.heap.size ∧ RowAt W g 0 r.2.2 ∧ (rA r = some ⟨g, 0, none⟩ ∨ r.2.2 = []) := by
  by_cases h : r.2.2 = []
  · exact ⟨0, h0, fun i x hx => by rw [h] at hx; simp at hx, Or.inr h⟩
  · obtain ⟨h1, _, h3⟩ := hr.lies h
    exact ⟨r.1, h1, h3, Or.inl (rA_some h)⟩
theorem Low.of {B0 : Nat} {M : Nat → Prop} {W W' : World} (h : Low B0 M W) (hs : W.heap.size ≤ W'.heap.size) : Low B0 M W' := fun b hb => ⟨(h b hb).1, Nat.lt_of_lt_of_le (h b hb).2 hs⟩
def Enters (gf : Nat) : Prop := ∀ (args : Array Value) (w : World), (callFunc gf args).run Tryz.prog w = .ok (.enter gf args) w
structure Meets (t : Nat) (v : Value) (rf : Nat) (rv : Value) : Prop where
  find : ∀ w : World, (method 344 t v "loop.example/s0035/impl.run").run Tryz.prog w = .ok (rf, rv) w
  enters : Enters rf
def Ends (B0 : Nat) (M : Nat → Prop) (W : World) (Done : (Nat → Prop) → World → Prop) (Fin : (Nat → Prop) → World → Prop) (e : Ending) (W' : World) : Prop :=
  ∃ (M' : Nat → Prop) (b : Bool), e = .returned (.bool b) ∧ GV M W M' W' ∧ ((b = true ∧ Done M' W' ∧ Low B0 M' W') ∨ (b = false ∧ Fin M' W'))
structure Gives (w0 : World) (gf : Nat) (caps : Array Value) (m : Nat) (T : List (List V2)) (St : List (List V2) → (Nat → Prop) → World → Prop) (Fin : (Nat → Prop) → World → Prop) : Prop where
  enters : Enters gf
  keep : ∀ h M W W', St h M W → Below W.heap.size W W' → St h M W'
  call : ∀ (h : List (List V2)) (r : R3) (M : Nat → Prop) (W : World), Below w0.heap.size w0 W → Low w0.heap.size M W → r.2.2.length = m → ROk W M r → (h ++ [r.2.2]) <+: T → St h M W → Calls Tryz.prog gf (#[rvO r] ++ caps) W (Ends w0.heap.size M W (St (h ++ [r.2.2])) Fin)
structure RunsAs (w0 : World) (ot : Nat) (ow : Value) (n m : Nat) (R : List V2 → List (List V2)) : Prop where
  wide : ∀ y, y.length = n → ∀ z ∈ R y, z.length = m
  runs : ∃ rf rv, Meets ot ow rf rv ∧ ∀ (gf : Nat) (caps : Array Value) (T : List (List V2)) (St : List (List V2) → (Nat → Prop) → World → Prop) (Fin : (Nat → Prop) → World → Prop), Gives w0 gf caps m T St Fin →
    ∀ (h : List (List V2)) (r : R3) (M : Nat → Prop) (W : World), Below w0.heap.size w0 W → Low w0.heap.size M W → r.2.2.length = n → ROk W M r → (h ++ R r.2.2) <+: T → St h M W →
      Calls Tryz.prog rf #[rv, rvO r, .func (.func gf) #[] caps] W (Ends w0.heap.size M W (St (h ++ R r.2.2)) Fin)
end Go.Proofs.YtbbjhepagkkjeaaGreatDoor
namespace Go.Proofs.YtbbjhepagkkjeaaGreatDoor
open Go Go.RowKit
theorem one_flat (xs : List V2) : ∀ u ∈ flatV xs, u.oneCell' = true := fun u hu => by
  unfold flatV at hu
  obtain ⟨x, _, hx⟩ := List.mem_flatMap.1 hu
  simp only [List.mem_cons, List.mem_nil_iff, or_false] at hx
  rcases hx with rfl | rfl <;> rfl
end Go.Proofs.YtbbjhepagkkjeaaGreatDoor
namespace Go.Proofs.YtbbjhepagkkjeaaGreatDoor
open Go Go.RowKit
set_option maxRecDepth 100000 in
set_option maxHeartbeats 2000000 in
theorem Grow_none (w : World) : Calls Tryz.prog 168 #[.slice none 0 0, .int .i64 0] w fun e w' => e = .returned (.slice none 0 0) ∧ Below w.heap.size w w' := by
  go_enter Tryz.func168, Tryz.ntmps168
  go_wp2
  go_ret
  exact ⟨rfl, Below.refl _ _⟩
theorem own_zeros (w : World) (n cap : Nat) (z : Value) (hz : z.cells.size = 2) (hn : n ≤ cap) (hc : cap ≤ maxLen) : (w.drew.alloc (.cells (Builtin.zeroCells z.cells n ++ Builtin.zeroCells z.cells (cap - n)) 54)).ownsRow w.heap.size 54 2 (.slice (some ⟨w.heap.size, 0, none⟩) 0 cap) 0 [] :=
  ⟨rfl, Or.inr ⟨w.heap.size, cap, _, rfl, Nat.le_refl _, (MapKept.heap_alloc w.drew _).1, Nat.zero_le _, hc, by rw [Array.size_append, size_zeroCells, size_zeroCells, hz]; omega, by simp⟩⟩
theorem vslice_high0 (g n c : Nat) (w : World) : (Instr.slice 52 (.slice (some ⟨g, 0, none⟩) n c) none (some (.int .i64 0)) none).run Tryz.prog w = .ok (.slice (some ⟨g, 0, none⟩) 0 c) w := by
  have ht : Tryz.prog.underlying 52 = some (.slice (Tryz.prog.elem 52)) := by kernel_rfl
  have hs : ∀ w, (sizeOf (Tryz.prog.elem 52)).run Tryz.prog w = .ok 2 w := fun _ => by kernel_rfl
  rw [run_slice_h _ _ _ _ _ ht .i64 0 (by omega) (by omega), hs]
  simp [Result.andThen, sliced, Addr.add]
set_option maxRecDepth 100000 in
set_option maxHeartbeats 2000000 in
theorem Grow_some (n : Nat) (h0 : 0 < n) (hn : n ≤ 1048576) (w : World) : Calls Tryz.prog 168 #[.slice none 0 0, .int .i64 (n : Int)] w fun e w' => ∃ g c, e = .returned (.slice (some ⟨g, 0, none⟩) 0 c) ∧ w'.ownsRow w.heap.size 54 2 (.slice (some ⟨g, 0, none⟩) 0 c) 0 [] ∧ Below w.heap.size w w' := by
  obtain ⟨i, hi, hz⟩ := Option.map_eq_some_iff.1 (show (Tryz.prog.info? 54).map (fun i => (i.zero, i.size, i.bytes)) = some (some (.agg #[.bool false, .int .i64 0]), 2, 16) by kernel_rfl)
  simp only [Prod.mk.injEq] at hz
  obtain ⟨hz0, hz1, hz2⟩ := hz
  have hti : Tryz.prog.underlying 3 = some (.int .i64) := by kernel_rfl
  have HR := hide (Lib.run_append_nil_zeros (P := Tryz.prog) w 52 3 52 54 i _ .i64 .i64 Tryz.underlying52 hti hi hz0 n h0 (by omega) (by omega) (by rw [hz2]; omega))
  have HO := hide (own_zeros w n (grownCap w n 0 54) (.agg #[.bool false, .int .i64 0]) rfl (grownCap_ge w n 0 _) (grownCap_le_maxLen w n 0 _ (by unfold maxLen; omega)))
  have HB : Hid (Below w.heap.size w (w.drew.alloc (.cells (Builtin.zeroCells (Value.agg #[.bool false, .int .i64 0]).cells n ++ Builtin.zeroCells (Value.agg #[.bool false, .int .i64 0]).cells (grownCap w n 0 54 - n)) 54))) := bA (Below.drew (Below.refl _ _)) _
  generalize (w.drew.alloc (.cells (Builtin.zeroCells (Value.agg #[.bool false, .int .i64 0]).cells n ++ Builtin.zeroCells (Value.agg #[.bool false, .int .i64 0]).cells (grownCap w n 0 54 - n)) 54)) = W at HR HO HB
  generalize grownCap w n 0 54 = c at HR HO
  have h1 : ¬ (n : Int) < 0 := by omega
  have h2 : (n : Int) > 0 := by omega
  have hsl := vslice_high0 w.heap.size n c
  have hw : IntKind.i64.wrap (n : Int) = n := wrap_small _ (by omega) (by omega)
  go_enter Tryz.func168, Tryz.ntmps168
  go_wp2_with (at_builtin; refine Lib.wpList_append_run _ rfl _ _ _ _ rfl _ _ rfl rfl _ _ (unhide HR) ?_)
  go_ret
  exact ⟨_, _, rfl, unhide HO, unhide HB⟩
theorem news_flatO {w : World} {g o : Nat} {xs : List V2} (h : RowAt w g o xs) : ∀ j u, (flatV xs)[j]? = some u → w.cell? ((⟨g, o, none⟩ : Addr).add j) = some u := fun j u hu => by
  have hj := (List.getElem?_eq_some_iff.1 hu).1
  rw [flatV_length] at hj
  have hi : j / 2 < xs.length := by omega
  obtain ⟨f0, f1⟩ := flatV_at xs (j / 2) xs[j / 2] (List.getElem?_eq_getElem hi)
  obtain ⟨c0, c1⟩ := h (j / 2) xs[j / 2] (List.getElem?_eq_getElem hi)
  rw [Go.WideShapes.add_plain]
  by_cases e : j % 2 = 0
  · have e2 : j / 2 * 2 = j := by omega
    rw [e2] at f0 c0
    rw [f0] at hu
    rw [c0, ← hu]
  · have e2 : j / 2 * 2 + 1 = j := by omega
    rw [e2] at f1
    rw [show o + j / 2 * 2 + 1 = o + j by omega] at c1
    rw [f1] at hu
    rw [c1, ← hu]
abbrev P3 : Type := Option Addr × Nat × List V2
def PartOk (W : World) (q : P3) : Prop := (∃ g o, q.1 = some ⟨g, o, none⟩ ∧ g < W.heap.size ∧ RowAt W g o q.2.2) ∨ (q.1 = none ∧ q.2.2 = [])
theorem PartOk.of {W W' : World} {q : P3} (h : PartOk W q) (hb : Below W.heap.size W W') : PartOk W' q := by
  rcases h with ⟨g, o, h1, h2, h3⟩ | h
  · exact Or.inl ⟨g, o, h1, Nat.lt_of_lt_of_le h2 hb.size, h3.of h2 hb⟩
  · exact Or.inr h
theorem ROk.part {W : World} {M : Nat → Prop} {r : R3} (h : ROk W M r) : PartOk W (rA r, r.2.1, r.2.2) := by
  by_cases hn : r.2.2 = []
  · exact Or.inr ⟨rA_nil hn, hn⟩
  · exact Or.inl ⟨r.1, 0, rA_some hn, (h.lies hn).1, (h.lies hn).2.2⟩
def plen (ps : List P3) (k : Nat) : Nat := ((ps.take k).map fun q => q.2.2.length).sum
theorem plen_succ (ps : List P3) (k : Nat) (hk : k < ps.length) : plen ps (k + 1) = plen ps k + (ps[k]).2.2.length := by
  unfold plen
  rw [take_snoc ps k hk, List.map_append, List.sum_append]
  simp
theorem plen_le (ps : List P3) (k : Nat) : plen ps k ≤ plen ps ps.length := by
  unfold plen
  have := List.take_append_drop k ps
  rw [List.take_of_length_le (Nat.le_refl ps.length)]
  conv => rhs; rw [← this, List.map_append, List.sum_append]
  omega
def pcat (ps : List P3) (k : Nat) : List V2 := ((ps.take k).map fun q => q.2.2).flatten
theorem pcat_succ (ps : List P3) (k : Nat) (hk : k < ps.length) : pcat ps (k + 1) = pcat ps k ++ (ps[k]).2.2 := by
  unfold pcat
  rw [take_snoc ps k hk, List.map_append, List.flatten_append]
  simp
theorem pcat_len (ps : List P3) (k : Nat) : (pcat ps k).length = plen ps k := by
  unfold pcat plen
  rw [List.length_flatten, List.map_map]
  rfl
theorem append_none (v : Value) (a : Option Addr) (n c : Nat) (hv : v = .slice a n c) (hnc : n ≤ c) (w : World) : (Builtin.append_ #[52, 52] 52 #[v, .slice none 0 0]).run Tryz.prog w = .ok v w := by
  subst hv
  obtain ⟨i, hi, hz⟩ := Option.map_eq_some_iff.1 (show (Tryz.prog.info? 54).map (fun i => (i.zero, i.size, i.bytes)) = some (some (.agg #[.bool false, .int .i64 0]), 2, 16) by kernel_rfl)
  simp only [Prod.mk.injEq] at hz
  obtain ⟨hz0, hz1, hz2⟩ := hz
  have hL : (Builtin.lenOf (Value.slice none 0 0)).run Tryz.prog w = .ok 0 w := by simp [Builtin.lenOf]
  have hF : (Builtin.firstCells 2 0 (Value.slice none 0 0)).run Tryz.prog w = .ok #[] w := by simp [Builtin.firstCells]
  cases a <;> simp [Builtin.append_, run_underlying Tryz.underlying52, sizeOf, typeInfo, zeroValue, hi, hz0, hz1, hL, hF, hnc, storeCells]
theorem own_slice {w : World} {B : Nat} {v : Value} {n : Nat} {xs : List Value} (h : w.ownsRow B 54 2 v n xs) : ∃ a c, v = .slice a n c ∧ n ≤ c := by
  rcases h.2 with ⟨h1, h2⟩ | ⟨g, c, _, h1, _, _, h4, _⟩
  · exact ⟨none, 0, by rw [h1, h2], by omega⟩
  · exact ⟨_, _, h1, h4⟩
theorem own_none {w : World} {B n c : Nat} {a : Option Addr} {xs : List Value} (h : w.ownsRow B 54 2 (.slice a n c) n xs) : (Value.slice a n c = .slice none 0 0 ↔ a = none) := by
  rcases h.2 with ⟨h1, h2⟩ | ⟨g, c, _, h1, _, _, h4, _⟩
  · rw [h1]
    simp only [Value.slice.injEq] at h1
    simp [h1.1]
  · simp only [Value.slice.injEq] at h1
    simp [h1.1]
theorem own_row {w : World} {B n : Nat} {a : Option Addr} {c : Nat} {xs : List V2} (h : w.ownsRow B 54 2 (.slice a n c) n (flatV xs)) (hn : n = xs.length) (hs : a ≠ none) : ∃ g, a = some ⟨g, 0, none⟩ ∧ OwnS w B g c xs := by
  subst hn
  rcases h.2 with ⟨h1, _⟩ | ⟨g, c', _, h1, _⟩
  · simp only [Value.slice.injEq] at h1
    exact absurd h1.1 hs
  · simp only [Value.slice.injEq] at h1
    obtain ⟨rfl, _, rfl⟩ := h1
    exact ⟨g, rfl, h⟩
def CatE (w : World) (x : List V2) (e : Ending) (w' : World) : Prop := ∃ r : R3, e = .returned (rvO r) ∧ r.2.2 = x ∧ ROk w' (fun b => b < w.heap.size) r ∧ Below w.heap.size w w'
set_option maxRecDepth 100000 in
set_option maxHeartbeats 2000000 in
theorem Concat_calls (ps : List P3) (A cA : Nat) (w : World) (hl : ps.length ≤ 1000) (hA : A < w.heap.size) (hc : ∀ (i : Nat) (hi : i < ps.length), w.cell? ⟨A, i, none⟩ = some (.slice (ps[i]).1 (ps[i]).2.2.length (ps[i]).2.1)) (hp : ∀ q ∈ ps, PartOk w q) (hn : plen ps ps.length ≤ 1048576) :
    Calls Tryz.prog 167 #[.slice (some ⟨A, 0, none⟩) ps.length cA] w (CatE w (pcat ps ps.length)) := by
  obtain ⟨i, hi, hz⟩ := Option.map_eq_some_iff.1 (show (Tryz.prog.info? 54).map (fun i => (i.zero, i.size, i.bytes)) = some (some (.agg #[.bool false, .int .i64 0]), 2, 16) by kernel_rfl)
  simp only [Prod.mk.injEq] at hz
  obtain ⟨hz0, hz1, hz2⟩ := hz
  have HL := hide hl; have HC := hide hc; have HP := hide hp; have HN := hide hn
  clear hc hp hn
  go_enter Tryz.func167, Tryz.ntmps167
  go_wp2
  go_loopw [3, 5, 11] (fun s _ c wr => ∃ k : Nat, k ≤ ps.length ∧ c = .int .i64 k ∧ s = .int .i64 (plen ps k : Nat) ∧ wr = w) (fun _ _ c _ => ps.length - (intOf c).toNat)
  case atStart => exact ⟨0, Nat.zero_le _, rfl, rfl, rfl⟩
  case round =>
    obtain ⟨k, hk, rfl, rfl, rfl⟩ := hrel
    have HK := hide hk
    by_cases hlt : k < ps.length
    · have j1 : (k : Int) < (ps.length : Int) := by omega
      have e0 := unhide HC k hlt
      have e1 : ((plen ps k : Nat) : Int) + ((ps[k]).2.2.length : Int) = (plen ps (k + 1) : Nat) := by rw [plen_succ ps k hlt]; omega
      have e2 := plen_le ps (k + 1)
      have e3 := unhide HN
      have e4 : IntKind.i64.wrap ((plen ps (k + 1) : Nat) : Int) = (plen ps (k + 1) : Nat) := wrap_small _ (by omega) (by omega)
      have e5 : ¬ ((plen ps (k + 1) : Nat) : Int) < 0 := by omega
      have HLT := hide hlt
      clear e2 e3 hk
      obtain ⟨z, hzz⟩ : ∃ z, plen ps (k + 1) = z := ⟨_, rfl⟩
      rw [hzz] at e1 e4 e5
      have HZZ := hide hzz
      clear hzz
      generalize (ps[k]) = q at *
      go_wp2
      go_roundw
      case rel => exact ⟨k + 1, unhide HLT, by go_num, by rw [unhide HZZ], by first | rfl | trivial⟩
      case measure => have := unhide HLT; simp [intOf]; omega
    · obtain rfl : k = ps.length := by omega
      clear hlt hk HK
      have HG : Hid (Calls Tryz.prog 168 #[.slice none 0 0, .int .i64 (plen ps ps.length : Nat)] wr fun e w' => ∃ v, e = .returned v ∧ w'.ownsRow wr.heap.size 54 2 v 0 [] ∧ (v = .slice none 0 0 ↔ plen ps ps.length = 0) ∧ Below wr.heap.size wr w') := by
        by_cases h0 : plen ps ps.length = 0
        · rw [h0]
          exact (Grow_none wr).mono (by rintro e w' ⟨rfl, hb⟩; exact ⟨_, rfl, World.ownsRow_nil _ _ _ _, by simp, hb⟩)
        · exact (Grow_some _ (by omega) (unhide HN) wr).mono (by rintro e w' ⟨g, c, rfl, ho, hb⟩; exact ⟨_, rfl, ho, by simp [h0], hb⟩)
      go_wp2_with fail
      refine (unhide HG).mono ?_
      rintro e w1 ⟨v0, rfl, ho0, hv0, hb0⟩
      have HO0 := hide ho0; have HV0 := hide hv0; have HB0 := hide hb0
      clear ho0 hv0 hb0 HG
      obtain ⟨a0, c0, rfl, _⟩ := own_slice (unhide HO0)
      have HN0 : Hid (a0 = none ↔ plen ps ps.length = 0) := (own_none (unhide HO0)).symm.trans (unhide HV0)
      clear HV0
      go_wp2
      rename World => wo
      go_loopw [6, 8, 27] (fun s _ c wr' => ∃ (k : Nat) (a : Option Addr) (c' : Nat), k ≤ ps.length ∧ c = .int .i64 k ∧ s = .slice a (plen ps k) c' ∧ wr'.ownsRow wr.heap.size 54 2 (.slice a (plen ps k) c') (plen ps k) (flatV (pcat ps k)) ∧ (a = none ↔ plen ps ps.length = 0) ∧ Below wr.heap.size wr wr') (fun _ _ c _ => ps.length - (intOf c).toNat)
      case atStart => exact ⟨0, a0, c0, Nat.zero_le _, rfl, rfl, unhide HO0, unhide HN0, unhide HB0⟩
      case round =>
        clear HO0 HN0 HB0
        obtain ⟨k, a, c', hk, rfl, rfl, ho, hv, hb⟩ := hrel
        rename World => wk
        have HK := hide hk; have HO := hide ho; have HV := hide hv; have HB := hide hb
        have hbs := hb.size
        clear hk ho hv hb
        by_cases hlt : k < ps.length
        · have j1 : (k : Int) < (ps.length : Int) := by omega
          have e0 := (unhide HB).cell (p := ⟨A, k, none⟩) hA |>.trans (unhide HC k hlt)
          have hAk : A < wk.heap.size := by omega
          have hq := (unhide HP (ps[k]) (List.getElem_mem hlt)).of (unhide HB)
          have HP1 : Hid (plen ps (k + 1) = plen ps k + (ps[k]).2.2.length) := plen_succ ps k hlt
          have HP2 : Hid (pcat ps (k + 1) = pcat ps k ++ (ps[k]).2.2) := pcat_succ ps k hlt
          have hle : plen ps k + (ps[k]).2.2.length ≤ 1048576 := by have := plen_le ps (k + 1); have := unhide HN; rw [unhide HP1] at *; omega
          have HLE := hide hle
          have HLT := hide hlt
          clear hle
          generalize (ps[k]) = q at *
          clear hlt
          obtain ⟨qa, qc, qx⟩ := q
          simp only at e0 hq HP1 HP2 HLE
          obtain ⟨_, _, e9, hcc⟩ := own_slice (unhide HO)
          simp only [Value.slice.injEq] at e9
          obtain ⟨rfl, _, rfl⟩ := e9
          have HCC := hide hcc
          clear hcc
          generalize hpk : plen ps k = pk at *
          clear hpk
          rcases hq with ⟨g, o, h1, hg, hr⟩ | ⟨h1, h2⟩
          · simp only at h1
            subst h1
            have HNw := hide (news_flatO hr)
            clear hr
            go_wp2_with (at_builtin; refine wpList_append_own _ rfl (.tmp 31) (.tmp 32) 52 rfl wr.heap.size 54 i _ 2 16 Tryz.underlying52 hi hz0 hz1 hz2 rfl (by decide) (.slice a pk c') pk (flatV (pcat ps k)) rfl (unhide HO) ⟨g, o, none⟩ qx.length qc (flatV qx) rfl (by rw [flatV_length]) (unhide HNw) (one_flat _) (by have := unhide HLE; unfold maxLen; omega) (by have := unhide HLE; omega) hbs ?_; intro v' w' hown hgrow hnn)
            have dB : Below wr.heap.size wr w' := (unhide HB).grown hgrow hbs (fun k9 hk9 => by
              rcases (unhide HO).2 with ⟨h1, _⟩ | ⟨g', c9, _, h1, h2, _⟩
              · rw [h1] at hk9
                simp [Value.ownBlock] at hk9
              · rw [h1] at hk9
                have e9 : g' = k9 := by simpa [Value.ownBlock] using hk9
                omega)
            obtain ⟨a9, c9, rfl, _⟩ := own_slice hown
            have HNW : Hid (w'.ownsRow wr.heap.size 54 2 (.slice a9 (plen ps (k + 1)) c9) (plen ps (k + 1)) (flatV (pcat ps (k + 1))) ∧ (a9 = none ↔ plen ps ps.length = 0)) := by
              refine ⟨by rw [unhide HP1, unhide HP2, flatV_append]; exact hown, ?_⟩
              rw [← own_none hown, hnn, own_none (unhide HO), unhide HV]
              refine ⟨fun h => h.1, fun h => ⟨h, ?_⟩⟩
              have := plen_le ps (k + 1)
              rw [unhide HP1] at this
              omega
            clear hown hgrow hnn
            go_wp2
            go_roundw
            case rel => exact ⟨k + 1, a9, c9, unhide HLT, by go_num, by rw [unhide HP1], (unhide HNW).1, (unhide HNW).2, dB⟩
            case measure => have := unhide HLT; simp [intOf]; omega
          · simp only at h1 h2
            subst h1 h2
            have HR := hide (append_none (.slice a pk c') a pk c' rfl (unhide HCC) wk)
            simp only [List.length_nil] at e0
            go_wp2_with (at_builtin; refine Lib.wpList_append_run _ rfl _ _ _ _ rfl _ _ rfl rfl _ _ (unhide HR) ?_)
            go_roundw
            case rel => exact ⟨k + 1, a, c', unhide HLT, by go_num, by rw [unhide HP1]; rfl, by rw [unhide HP1, unhide HP2, List.append_nil]; exact unhide HO, unhide HV, unhide HB⟩
            case measure => have := unhide HLT; simp [intOf]; omega
        · obtain rfl : k = ps.length := by have := unhide HK; omega
          have j1 : ¬ (ps.length : Int) < (ps.length : Int) := by omega
          clear hlt
          have HX : Hid (∃ r : R3, Value.slice a (plen ps ps.length) c' = rvO r ∧ r.2.2 = pcat ps ps.length ∧ ROk wk (fun b => b < wr.heap.size) r) := by
            by_cases hn : a = none
            · have h0 := (unhide HV).1 hn
              have hx : pcat ps ps.length = [] := List.length_eq_zero_iff.1 (by rw [pcat_len]; exact h0)
              obtain ⟨_, _, e9, _⟩ := own_slice (unhide HO)
              have e8 := (own_none (unhide HO)).2 hn
              refine ⟨(0, 0, []), ?_, hx.symm, ⟨fun h => absurd rfl h, Nat.le_refl _⟩⟩
              rw [e8]
              unfold rvO
              rw [rA_nil rfl]
              rfl
            · obtain ⟨g, rfl, hOS⟩ := own_row (unhide HO) (pcat_len ps ps.length).symm hn
              have hx : pcat ps ps.length ≠ [] := fun h => hn ((unhide HV).2 (by rw [← pcat_len, h]; rfl))
              refine ⟨(g, c', pcat ps ps.length), ?_, rfl, ⟨fun _ => ⟨hOS.lt.1, fun h => ?_, hOS.row⟩, hOS.lt.2.2.1⟩⟩
              · unfold rvO
                rw [rA_some hx, ← pcat_len]
              · have := hOS.lt.2.1
                omega
          go_wp2
          go_ret
          obtain ⟨r, h1, h2, h3⟩ := unhide HX
          exact ⟨r, congrArg Ending.returned h1, h2, h3, unhide HB⟩
end Go.Proofs.YtbbjhepagkkjeaaGreatDoor
namespace Go.Proofs.YtbbjhepagkkjeaaGreatDoor
open Go Go.RowKit
end Go.Proofs.YtbbjhepagkkjeaaGreatDoor
namespace Go.Proofs.YtbbjhepagkkjeaaGreatDoor
open Go Go.RowKit
end Go.Proofs.YtbbjhepagkkjeaaGreatDoor
namespace Go.Proofs.YtbbjhepagkkjeaaGreatDoor
def srt (rows : List (List V2)) : List (List V2) := msF (fun x => x) rows.length (rows.map (List.map clnV))
theorem srt_perm (rows : List (List V2)) : List.Perm (srt rows) (rows.map (List.map clnV)) := msF_perm _ _ _
theorem srt_length (rows : List (List V2)) : (srt rows).length = rows.length := by simp [srt, msF_length]
end Go.Proofs.YtbbjhepagkkjeaaGreatDoor
