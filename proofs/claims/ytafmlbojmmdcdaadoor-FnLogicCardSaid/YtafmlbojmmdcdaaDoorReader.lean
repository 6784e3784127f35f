/-
  THE READER OF A DRAW: a block R of two cells, the bytes and the place; each draw moves the place on, and nothing else that is old.
-/
import Derived.Test.YtafmlbojmmdcdaaDoorBase
import Derived.OwnWalk
import Derived.BigQuiet
namespace Go.Proofs.YtafmlbojmmdcdaaDoor
open Go Go.RowKit
def nxt (bs : List Nat) (p : Nat) : Nat := bs.getD p 0
def adv (bs : List Nat) (p : Nat) : Nat := if p < bs.length then p + 1 else p
theorem adv_le {bs : List Nat} {p : Nat} (h : p ≤ bs.length) : adv bs p ≤ bs.length := by unfold adv; split <;> omega
/-- all but block R is as it was -/
structure Drw (R : Nat) (w w' : World) : Prop where
  size : w.heap.size ≤ w'.heap.size
  block : ∀ b, b < w.heap.size → b ≠ R → w'.heap[b]? = w.heap[b]?
  low : Below R w w'
theorem Drw.refl (R : Nat) (w : World) : Drw R w w := ⟨Nat.le_refl _, fun _ _ _ => rfl, Below.refl _ _⟩
theorem Drw.trans {R : Nat} {w w1 w2 : World} (h : Drw R w w1) (k : Drw R w1 w2) : Drw R w w2 :=
  ⟨Nat.le_trans h.size k.size, fun b hb hn => (k.block b (Nat.lt_of_lt_of_le hb h.size) hn).trans (h.block b hb hn), h.low.trans k.low⟩
theorem Drw.below {R : Nat} {w w1 w2 : World} (h : Drw R w w1) (hR : R ≤ w1.heap.size) (k : Below w1.heap.size w1 w2) : Drw R w w2 :=
  ⟨Nat.le_trans h.size k.size, fun b hb hn => (k.block b (Nat.lt_of_lt_of_le hb h.size)).trans (h.block b hb hn), h.low.trans (k.mono hR)⟩
theorem Drw.set {R o : Nat} {w w1 : World} (h : Drw R w w1) (v : Value) : Drw R w (w1.setCell ⟨R, o, none⟩ v) :=
  ⟨by simpa using h.size, fun b hb hn => (Below.heap_setCell w1 ⟨R, o, none⟩ v b hn).trans (h.block b hb hn), h.low.setCell (Nat.le_refl _) v⟩
theorem Drw.drewN {R : Nat} {w w1 : World} (h : Drw R w w1) (n : Nat) : Drw R w (w1.drewN n) := ⟨h.size, h.block, below_drewN h.low n⟩
theorem Drw.drew {R : Nat} {w w1 : World} (h : Drw R w w1) : Drw R w w1.drew := ⟨h.size, h.block, h.low.drew⟩
theorem Drw.cell {R : Nat} {w w1 : World} (h : Drw R w w1) {b : Nat} (o : Nat) (hb : b < w.heap.size) (hn : b ≠ R) : w1.cell? ⟨b, o, none⟩ = w.cell? ⟨b, o, none⟩ := World.cell?_of_block (h.block b hb hn)
theorem Drw.frozen {R : Nat} {w w1 : World} (h : Drw R w w1) {b : Nat} (o : Nat) (hb : b < w.heap.size) (hn : b ≠ R) : w1.frozen? ⟨b, o, none⟩ = w.frozen? ⟨b, o, none⟩ := World.frozen?_of_block (h.block b hb hn)

/-- the reader at place p -/
structure Rd (w : World) (R : Nat) (a : Option Addr) (cap : Nat) (bs : List Nat) (p : Nat) : Prop where
  size : R < w.heap.size
  c0 : w.cell? ⟨R, 0, none⟩ = some (.slice a bs.length cap)
  c1 : w.cell? ⟨R, 1, none⟩ = some (.int .i64 (p : Int))
  frz : ∀ o, w.frozen? ⟨R, o, none⟩ = false
  ple : p ≤ bs.length
  len : bs.length ≤ 1500
  byte : ∀ b ∈ bs, b ≤ 255
  byt : bs = [] ∨ ∃ g off, a = some ⟨g, off, none⟩ ∧ g < R ∧ ∀ (i b : Nat), bs[i]? = some b → w.cell? ⟨g, off + i, none⟩ = some (.int .u8 (b : Int))
theorem Rd.blocks {w w1 : World} {R : Nat} {a : Option Addr} {cap : Nat} {bs : List Nat} {p : Nat} (h : Rd w R a cap bs p) (hs : w.heap.size ≤ w1.heap.size) (hb : ∀ b, b ≤ R → w1.heap[b]? = w.heap[b]?) : Rd w1 R a cap bs p := by
  refine ⟨Nat.lt_of_lt_of_le h.size hs, (World.cell?_of_block (hb R (Nat.le_refl _))).trans h.c0, (World.cell?_of_block (hb R (Nat.le_refl _))).trans h.c1, fun o => (World.frozen?_of_block (hb R (Nat.le_refl _))).trans (h.frz o), h.ple, h.len, h.byte, ?_⟩
  rcases h.byt with e | ⟨g, off, e, hg, hc⟩
  · exact Or.inl e
  · exact Or.inr ⟨g, off, e, hg, fun i b hi => (World.cell?_of_block (hb g (Nat.le_of_lt hg))).trans (hc i b hi)⟩
theorem Rd.of {w w1 : World} {R : Nat} {a : Option Addr} {cap : Nat} {bs : List Nat} {p : Nat} (h : Rd w R a cap bs p) (hb : Below w.heap.size w w1) : Rd w1 R a cap bs p :=
  h.blocks hb.size (fun b hle => hb.block b (Nat.lt_of_le_of_lt hle h.size))
theorem Rd.ofB {w w1 : World} {B R : Nat} {a : Option Addr} {cap : Nat} {bs : List Nat} {p : Nat} (h : Rd w R a cap bs p) (hB : R < B) (hb : Below B w w1) : Rd w1 R a cap bs p :=
  h.blocks hb.size (fun b hle => hb.block b (Nat.lt_of_le_of_lt hle hB))
theorem nxt_le {w : World} {R : Nat} {a : Option Addr} {cap : Nat} {bs : List Nat} {p : Nat} (h : Rd w R a cap bs p) (q : Nat) : nxt bs q ≤ 255 := by
  unfold nxt
  by_cases hq : q < bs.length
  · rw [List.getD_eq_getElem?_getD, List.getElem?_eq_getElem hq]
    exact h.byte _ (List.getElem_mem hq)
  · rw [List.getD_eq_getElem?_getD, List.getElem?_eq_none (by omega)]
    simp
theorem Rd.step {w : World} {R : Nat} {a : Option Addr} {cap : Nat} {bs : List Nat} {p : Nat} (h : Rd w R a cap bs p) (hp : p < bs.length) : Rd (w.setCell ⟨R, 1, none⟩ (.int .i64 ((p : Int) + 1))) R a cap bs (adv bs p) := by
  have hadv : adv bs p = p + 1 := by unfold adv; rw [if_pos hp]
  rw [hadv]
  refine ⟨by simpa using h.size, ?_, ?_, fun o => by rw [World.frozen?_setCell]; exact h.frz o, hp, h.len, h.byte, ?_⟩
  · rw [World.cell?_setCell_other _ _ _ _ (by intro he; injection he; contradiction)]; exact h.c0
  · rw [World.cell?_setCell_same _ _ _ h.c1]; simp
  · rcases h.byt with e | ⟨g, off, e, hg, hc⟩
    · exact Or.inl e
    · exact Or.inr ⟨g, off, e, hg, fun i b hi => by rw [World.cell?_setCell_other _ _ _ _ (by intro he; injection he; omega)]; exact hc i b hi⟩
set_option maxHeartbeats 1000000 in
theorem next_calls (w : World) (R : Nat) (a : Option Addr) (cap : Nat) (bs : List Nat) (p : Nat) (h : Rd w R a cap bs p) :
    Calls Tryd.prog 29 #[.pointer (some ⟨R, 0, none⟩)] w fun e w' => e = .returned (.int .i64 (nxt bs p : Int)) ∧ Rd w' R a cap bs (adv bs p) ∧ Drw R w w' := by
  have c0 := h.c0; have c1 := h.c1; have hf := h.frz; have hs := h.size; have hl := h.len; have hple := h.ple
  by_cases hp : p < bs.length
  · rcases h.byt with e | ⟨g, off, rfl, hg, hc⟩
    · rw [e] at hp; simp at hp
    have hcb := hc p bs[p] (by simp [hp])
    have hN : Hid (∀ n, Rd ((w.drewN n).setCell ⟨R, 1, none⟩ (.int .i64 ((p : Int) + 1))) R (some ⟨g, off, none⟩) cap bs (adv bs p)) := fun n => (h.of (below_drewN (Below.refl _ _) n)).step hp
    have hE : Hid (nxt bs p = bs[p]) := by show _ = _; unfold nxt; simp [hp]
    have hb : bs[p] ≤ 255 := h.byte _ (List.getElem_mem hp)
    have hp' : (p : Int) < (bs.length : Int) := by omega
    have hgs : g < w.heap.size := by omega
    clear h hc
    generalize bs[p] = b at *
    go_enter Tryd.func29, Tryd.ntmps29
    go_wp2_with fail
    go_quiet (fail)
    go_wp2_with fail
    go_quiet (fail)
    go_wp2
    go_ret
    exact ⟨congrArg (fun z : Nat => Ending.returned (.int .i64 (z : Int))) hE.out.symm, hN.out _, ((Drw.refl _ _).drewN _).set _⟩
  · obtain rfl : p = bs.length := by omega
    have hE : Hid (nxt bs bs.length = 0) := by show _ = _; unfold nxt; simp
    have hA : Hid (adv bs bs.length = bs.length) := by show _ = _; unfold adv; simp
    have HR := hide h
    clear h
    go_enter Tryd.func29, Tryd.ntmps29
    go_wp2_with fail
    go_quiet (fail)
    go_wp2
    go_ret
    exact ⟨congrArg (fun z : Nat => Ending.returned (.int .i64 (z : Int))) hE.out.symm, by rw [hA.out]; exact (unhide HR).of (below_drewN (Below.refl _ _) _), Drw.drewN (Drw.refl _ _) _⟩
theorem left_calls (w : World) (R : Nat) (a : Option Addr) (cap : Nat) (bs : List Nat) (p : Nat) (h : Rd w R a cap bs p) :
    Calls Tryd.prog 38 #[.pointer (some ⟨R, 0, none⟩)] w fun e w' => e = .returned (.int .i64 (((bs.length - p : Nat) : Nat) : Int)) ∧ Below w.heap.size w w' := by
  have c0 := h.c0; have c1 := h.c1; have hs := h.size; have hl := h.len; have hple := h.ple
  have hE : Hid (((bs.length - p : Nat) : Int) = (bs.length : Int) - (p : Int)) := by show _ = _; omega
  clear h
  go_enter Tryd.func38, Tryd.ntmps38
  go_wp2_with fail
  go_quiet (fail)
  go_wp2
  go_ret
  exact ⟨congrArg (fun z : Int => Ending.returned (.int .i64 z)) hE.out.symm, below_drewN (Below.refl _ _) _⟩
/-- an argument: a slice of bytes -/
def IsBytes (w : World) (v : Value) (cs : List Nat) : Prop :=
  (cs = [] ∧ ∃ a cap, v = .slice a 0 cap) ∨ ∃ g off cap, v = .slice (some ⟨g, off, none⟩) cs.length cap ∧ cs.length ≤ cap ∧ g < w.heap.size ∧ ∀ (i b : Nat), cs[i]? = some b → w.cell? ⟨g, off + i, none⟩ = some (.int .u8 (b : Int))
theorem IsBytes.of {w w1 : World} {v : Value} {cs : List Nat} (h : IsBytes w v cs) (hb : Below w.heap.size w w1) : IsBytes w1 v cs := by
  rcases h with h | ⟨g, off, cap, h1, h2, h3, h4⟩
  · exact Or.inl h
  · exact Or.inr ⟨g, off, cap, h1, h2, Nat.lt_of_lt_of_le h3 hb.size, fun i b hi => (hb.cell (p := ⟨g, off + i, none⟩) h3).trans (h4 i b hi)⟩
theorem Rd.made {w : World} {t : TypeId} {a : Option Addr} {cap : Nat} {bs : List Nat} (hl : bs.length ≤ 1500) (hby : ∀ b ∈ bs, b ≤ 255)
    (hc : bs = [] ∨ ∃ g off, a = some ⟨g, off, none⟩ ∧ g < w.heap.size ∧ ∀ (i b : Nat), bs[i]? = some b → w.cell? ⟨g, off + i, none⟩ = some (.int .u8 (b : Int))) :
    Rd (w.alloc (.cells #[.slice a bs.length cap, .int .i64 0] t)) w.heap.size a cap bs 0 := by
  refine ⟨by simp, by rw [World.cell?_alloc_at _ t _ 0 rfl]; rfl, by rw [World.cell?_alloc_at _ t _ 1 rfl]; rfl, fun o => by simp [go_sem], Nat.zero_le _, hl, hby, ?_⟩
  rcases hc with e | ⟨g, off, e, hg, hc⟩
  · exact Or.inl e
  · exact Or.inr ⟨g, off, e, hg, fun i b hi => by rw [World.cell?_alloc_past _ g _ hg]; exact hc i b hi⟩
theorem bslice_high (G off n cap : Nat) (hh : 1500 ≤ cap) (w : World) : (Instr.slice 22 (.slice (some ⟨G, off, none⟩) n cap) none (some (.int .i64 1500)) none).run Tryd.prog w = .ok (.slice (some ⟨G, off, none⟩) 1500 cap) w := by
  have ht : Tryd.prog.underlying 22 = some (.slice (Tryd.prog.elem 22)) := by kernel_rfl
  have hs : ∀ w, (sizeOf (Tryd.prog.elem 22)).run Tryd.prog w = .ok 1 w := fun _ => by kernel_rfl
  rw [run_slice_h _ _ _ _ _ ht .i64 1500 (by omega) (by omega), hs]
  simp [Result.andThen, sliced, Addr.add]
theorem l1Open_calls (v : Value) (cs : List Nat) (w : World) (hv : IsBytes w v cs) (hby : ∀ b ∈ cs, b ≤ 255) (hn : cs.length ≤ 1048576) :
    Calls Tryd.prog 21 #[v] w fun e w' => ∃ R, e = .returned (.pointer (some ⟨R, 0, none⟩)) ∧ (∃ a cap, Rd w' R a cap (cs.take 1500) 0) ∧ w.heap.size ≤ R ∧ Below w.heap.size w w' := by
  by_cases hl : 1500 < cs.length
  · rcases hv with ⟨rfl, _⟩ | ⟨g, off, cap, rfl, hcap, hg, hc⟩
    · simp at hl
    have hl' : (1500 : Int) < (cs.length : Int) := by omega
    have hsl := bslice_high g off cs.length cap (by omega)
    have hlen : (cs.take 1500).length = 1500 := by simp; omega
    have hM := fun t => Rd.made (w := w) (t := t) (a := some ⟨g, off, none⟩) (cap := cap) (bs := cs.take 1500) (by omega) (fun b hb => hby b (List.mem_of_mem_take hb)) (Or.inr ⟨g, off, rfl, hg, fun i b hi => hc i b (by rw [List.getElem?_take] at hi; split at hi <;> simp_all)⟩)
    rw [hlen] at hM
    have HM := hide hM
    clear hM hc
    go_enter Tryd.func21, Tryd.ntmps21
    go_wp2
    go_ret
    exact ⟨_, rfl, ⟨_, _, unhide HM _⟩, Nat.le_refl _, bA (Below.refl _ _) _⟩
  · have hl' : ¬ (1500 : Int) < (cs.length : Int) := by omega
    obtain ⟨a, cap, rfl, hc⟩ : ∃ a cap, v = .slice a cs.length cap ∧ (cs = [] ∨ ∃ g off, a = some ⟨g, off, none⟩ ∧ g < w.heap.size ∧ ∀ (i b : Nat), cs[i]? = some b → w.cell? ⟨g, off + i, none⟩ = some (.int .u8 (b : Int))) := by
      rcases hv with ⟨rfl, a, cap, rfl⟩ | ⟨g, off, cap, rfl, hcap, hg, hc⟩
      · exact ⟨a, cap, rfl, Or.inl rfl⟩
      · exact ⟨_, cap, rfl, Or.inr ⟨g, off, rfl, hg, hc⟩⟩
    have hM := fun t => Rd.made (w := w) (t := t) (a := a) (cap := cap) (bs := cs) (by omega) hby hc
    rw [List.take_of_length_le (by omega)]
    have HM := hide hM
    clear hM hc hv
    go_enter Tryd.func21, Tryd.ntmps21
    go_wp2
    go_ret
    exact ⟨_, rfl, ⟨_, _, unhide HM _⟩, Nat.le_refl _, bA (Below.refl _ _) _⟩
end Go.Proofs.YtafmlbojmmdcdaaDoor
