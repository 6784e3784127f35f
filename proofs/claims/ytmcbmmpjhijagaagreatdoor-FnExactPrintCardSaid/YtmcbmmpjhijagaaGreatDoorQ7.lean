import Derived.Test.YtmcbmmpjhijagaaGreatDoorQ3
import Derived.Test.YtmcbmmpjhijagaaGreatDoorQ2
import Derived.Test.YtmcbmmpjhijagaaGreatDoorQ6
import Derived.Deep.AppendLies
import Derived.OwnWalk
import Derived.WalkSpells
import Derived.Deep.RegionHeld3
import Derived.Deep.DeepCutAuto
namespace Go.Proofs.YtmcbmmpjhijagaaGreatDoor
open Go Go.RowKit
structure ButB (S : Nat → Prop) (w w' : World) : Prop where
  os : w'.os = w.os
  tape : w'.tape = w.tape
  output : w'.output = w.output
  size : w.heap.size ≤ w'.heap.size
  block : ∀ k, k < w.heap.size → ¬ S k → w'.heap[k]? = w.heap[k]?
theorem ButB.refl (S : Nat → Prop) (w : World) : ButB S w w := ⟨rfl, rfl, rfl, Nat.le_refl _, fun _ _ _ => rfl⟩
theorem ButB.trans {S : Nat → Prop} {w w1 w2 : World} (h : ButB S w w1) (h' : ButB S w1 w2) : ButB S w w2 :=
  ⟨h'.os.trans h.os, h'.tape.trans h.tape, h'.output.trans h.output, Nat.le_trans h.size h'.size, fun k hk hs => (h'.block k (Nat.lt_of_lt_of_le hk h.size) hs).trans (h.block k hk hs)⟩
theorem ButB.trans' {S T : Nat → Prop} {w w1 w2 : World} (h : ButB S w w1) (h' : ButB T w1 w2) (hT : ∀ b, T b → S b ∨ w.heap.size ≤ b) : ButB S w w2 :=
  ⟨h'.os.trans h.os, h'.tape.trans h.tape, h'.output.trans h.output, Nat.le_trans h.size h'.size, fun k hk hs => (h'.block k (Nat.lt_of_lt_of_le hk h.size) (fun ht => (hT k ht).elim hs (fun h1 => absurd hk (by omega)))).trans (h.block k hk hs)⟩
theorem ButB.mono {S T : Nat → Prop} {w w1 : World} (h : ButB S w w1) (hs : ∀ b, S b → T b) : ButB T w w1 := ⟨h.os, h.tape, h.output, h.size, fun k hk ht => h.block k hk (fun e => ht (hs k e))⟩
theorem ButB.ofBelow {S : Nat → Prop} {w w1 : World} (h : Below w.heap.size w w1) : ButB S w w1 := ⟨h.os, h.tape, h.output, h.size, fun k hk _ => h.block k hk⟩
theorem ButB.below {S : Nat → Prop} {w w1 : World} (h : ButB S w w1) {B : Nat} (hB : B ≤ w.heap.size) (hs : ∀ b, S b → B ≤ b) : Below B w w1 := ⟨h.os, h.tape, h.output, h.size, fun k hk => h.block k (by omega) (fun e => by have := hs k e; omega)⟩
theorem ButB.grown {S : Nat → Prop} {w w1 : World} {row : Option Nat} (hg : w.grownBy w1 row) (hr : ∀ b, row = some b → S b) : ButB S w w1 := ⟨hg.os, hg.tape, hg.output, hg.size, fun k hk hs => hg.block k hk (fun e => hs (hr k e.symm))⟩
theorem ButB.set {S : Nat → Prop} {w w1 : World} (h : ButB S w w1) {g o : Nat} (hg : S g ∨ w.heap.size ≤ g) (v : Value) : ButB S w (w1.setCell ⟨g, o, none⟩ v) := by
  have hb : Below g w1 (w1.setCell ⟨g, o, none⟩ v) := (Below.refl g w1).setCell (p := ⟨g, o, none⟩) (Nat.le_refl _) v
  exact ⟨hb.os.trans h.os, hb.tape.trans h.tape, hb.output.trans h.output, Nat.le_trans h.size hb.size, fun k hk hs => by
    rw [Below.heap_setCell w1 ⟨g, o, none⟩ v k (by dsimp only; intro e; subst e; exact hg.elim hs (fun h1 => absurd hk (by omega)))]
    exact h.block k hk hs⟩
theorem ButB.cell {S : Nat → Prop} {w w1 : World} (h : ButB S w w1) (b o : Nat) (hb : b < w.heap.size) (hs : ¬ S b) : w1.cell? ⟨b, o, none⟩ = w.cell? ⟨b, o, none⟩ := World.cell?_of_block (a := ⟨b, o, none⟩) (h.block b hb hs)
theorem ButB.frz {S : Nat → Prop} {w w1 : World} (h : ButB S w w1) (b o : Nat) (hb : b < w.heap.size) (hs : ¬ S b) : w1.frozen? ⟨b, o, none⟩ = w.frozen? ⟨b, o, none⟩ := World.frozen?_of_block (a := ⟨b, o, none⟩) (h.block b hb hs)
end Go.Proofs.YtmcbmmpjhijagaaGreatDoor
namespace Go.Proofs.YtmcbmmpjhijagaaGreatDoor
open Go Go.RowKit
def strs (ws : List (List UInt8)) : List Value := ws.map fun x => .string (mkS x)
theorem strs_len (ws : List (List UInt8)) : (strs ws).length = ws.length := by simp [strs]
theorem strs_app (a b : List (List UInt8)) : strs (a ++ b) = strs a ++ strs b := by simp [strs]
structure PB (w : World) (p B : Nat) (G : Option Nat) (ws : List (List UInt8)) : Prop where
  low : p < B
  sz : B ≤ w.heap.size
  frz : w.frozen? ⟨p, 0, none⟩ = false
  box : ∃ v, w.cell? ⟨p, 0, none⟩ = some v ∧ w.ownsRow B 9 1 v ws.length (strs ws) ∧ v.ownBlock = G
theorem PB.blk {w : World} {p B : Nat} {G : Option Nat} {ws : List (List UInt8)} (h : PB w p B G ws) : ∀ g, G = some g → B ≤ g ∧ g < w.heap.size := fun g hg => by
  obtain ⟨v, _, h2, h3⟩ := h.box
  exact h2.lt g (h3.trans hg)
structure PN (p B : Nat) (w w' : World) (G Gn : Option Nat) (ws : List (List UInt8)) : Prop where
  but : ButB (fun b => b = p ∨ some b = G) w w'
  pb : PB w' p B Gn ws
  rel : Gn = G ∨ ∃ g, Gn = some g ∧ w.heap.size ≤ g
theorem PB.of {w w1 : World} {p B : Nat} {G : Option Nat} {ws : List (List UInt8)} (h : PB w p B G ws) {S : Nat → Prop} (hb : ButB S w w1) (hp : ¬ S p) (hG : ∀ g, G = some g → ¬ S g) : PB w1 p B G ws := by
  have hlt : p < w.heap.size := Nat.lt_of_lt_of_le h.low h.sz
  refine ⟨h.low, Nat.le_trans h.sz hb.size, (hb.frz p 0 hlt hp).trans h.frz, ?_⟩
  obtain ⟨v, h1, h2, h3⟩ := h.box
  refine ⟨v, (hb.cell p 0 hlt hp).trans h1, ⟨h2.1, ?_⟩, h3⟩
  rcases h2.2 with e | ⟨g, cap, cur, e1, e2, e3, e4⟩
  · exact Or.inl e
  · refine Or.inr ⟨g, cap, cur, e1, e2, ?_, e4⟩
    rw [hb.block g (Array.getElem?_eq_some_iff.1 e3).1 (hG g (by rw [← h3, e1]; rfl))]
    exact e3
theorem PB.below {w w1 : World} {p B : Nat} {G : Option Nat} {ws : List (List UInt8)} (h : PB w p B G ws) (hb : Below w.heap.size w w1) : PB w1 p B G ws :=
  h.of (S := fun _ => False) (ButB.ofBelow hb) (fun e => e) (fun _ _ e => e)
theorem PN.refl {w : World} {p B : Nat} {G : Option Nat} {ws : List (List UInt8)} (h : PB w p B G ws) : PN p B w w G G ws := ⟨ButB.refl _ _, h, Or.inl rfl⟩
theorem PN.trans {w w1 w2 : World} {p B : Nat} {G G1 G2 : Option Nat} {ws ws2 : List (List UInt8)} (h : PN p B w w1 G G1 ws) (h2 : PN p B w1 w2 G1 G2 ws2) : PN p B w w2 G G2 ws2 := by
  refine ⟨h.but.trans' h2.but (fun b hb => ?_), h2.pb, ?_⟩
  · rcases hb with e | e
    · exact Or.inl (Or.inl e)
    · rcases h.rel with e1 | ⟨g, e1, hg⟩
      · exact Or.inl (Or.inr (e.trans e1))
      · rw [e1] at e; injection e with e; subst e; exact Or.inr hg
  · rcases h2.rel with rfl | ⟨g, rfl, hg⟩
    · exact h.rel
    · exact Or.inr ⟨g, rfl, Nat.le_trans h.but.size hg⟩
theorem PN.below {w w1 w2 : World} {p B : Nat} {G Gn : Option Nat} {ws : List (List UInt8)} (h : PN p B w w1 G Gn ws) (hb : Below w1.heap.size w1 w2) : PN p B w w2 G Gn ws :=
  h.trans ⟨ButB.ofBelow hb, h.pb.below hb, Or.inl rfl⟩
theorem PN.ahead {w w1 w2 : World} {p B : Nat} {G Gn : Option Nat} {ws : List (List UInt8)} (hb : Below w.heap.size w w1) (h : PN p B w1 w2 G Gn ws) : PN p B w w2 G Gn ws :=
  ⟨(ButB.ofBelow hb).trans h.but, h.pb, h.rel.imp id (fun ⟨g, e, hg⟩ => ⟨g, e, Nat.le_trans hb.size hg⟩)⟩
structure Bx (w : World) (p x : Nat) (G : Option Nat) : Prop where
  lt : x < w.heap.size
  np : x ≠ p
  ng : some x ≠ G
theorem Bx.step {w w1 : World} {p B x : Nat} {G Gn : Option Nat} {ws : List (List UInt8)} (h : Bx w p x G) (hn : PN p B w w1 G Gn ws) : Bx w1 p x Gn :=
  ⟨Nat.lt_of_lt_of_le h.lt hn.but.size, h.np, fun e => by
    have hlt := h.lt
    rcases hn.rel with e1 | ⟨g, e1, hg⟩
    · exact h.ng (e.trans e1)
    · rw [e1] at e; injection e with e; omega⟩
theorem Bx.cell {w w1 : World} {p B x : Nat} {G Gn : Option Nat} {ws : List (List UInt8)} (h : Bx w p x G) (hn : PN p B w w1 G Gn ws) (o : Nat) : w1.cell? ⟨x, o, none⟩ = w.cell? ⟨x, o, none⟩ :=
  hn.but.cell x o h.lt (fun e => e.elim h.np h.ng)
theorem Bx.made {w w1 : World} {p B : Nat} {G : Option Nat} {ws : List (List UInt8)} (h : PB w p B G ws) (x : Nat) (hx : w.heap.size ≤ x) (hl : x < w1.heap.size) : Bx w1 p x G :=
  ⟨hl, by have := h.low; have := h.sz; omega, fun e => by have := (h.blk x e.symm).2; omega⟩
structure Kp (p B : Nat) (w W : World) : Prop where
  sz : B ≤ w.heap.size
  size : w.heap.size ≤ W.heap.size
  block : ∀ b, b < B → b ≠ p → W.heap[b]? = w.heap[b]?
theorem Kp.refl {p B : Nat} {w : World} (h : B ≤ w.heap.size) : Kp p B w w := ⟨h, Nat.le_refl _, fun _ _ _ => rfl⟩
theorem Kp.step {p B : Nat} {w W W1 : World} {G Gn : Option Nat} {ws0 ws : List (List UInt8)} (h : Kp p B w W) (hP : PB W p B G ws0) (hn : PN p B W W1 G Gn ws) : Kp p B w W1 :=
  ⟨h.sz, Nat.le_trans h.size hn.but.size, fun b hb hp => (hn.but.block b (by have := h.sz; have := h.size; omega) (fun e => e.elim hp (fun e => by have := (hP.blk b e.symm).1; omega))).trans (h.block b hb hp)⟩
theorem Kp.below {p B : Nat} {w W W1 : World} (h : Kp p B w W) (hb : Below W.heap.size W W1) : Kp p B w W1 :=
  ⟨h.sz, Nat.le_trans h.size hb.size, fun b hb1 hp => (hb.block b (by have := h.sz; have := h.size; omega)).trans (h.block b hb1 hp)⟩
theorem Kp.cell {p B : Nat} {w W : World} (h : Kp p B w W) (b o : Nat) (hb : b < B) (hp : b ≠ p) : W.cell? ⟨b, o, none⟩ = w.cell? ⟨b, o, none⟩ := World.cell?_of_block (a := ⟨b, o, none⟩) (h.block b hb hp)
def LstV (w : World) (S : Nat → Prop) (R : Nat → Value → Prop) (ks : List Int) (l : Value) : Prop :=
  ∃ g o c, l = .slice (some ⟨g, o, none⟩) ks.length c ∧ ks.length ≤ c ∧ S g ∧ g < w.heap.size ∧ ∀ (j : Nat) x, ks[j]? = some x → ∃ t u, w.cell? ⟨g, o + j, none⟩ = some (.iface t u) ∧ R x.toNat (.iface t u)
def srcK (ns : List Nd) (r : List Int) : List Int := if (r.getLast?).any (fun x => cdB (kindAt ns x.toNat)) then r.dropLast else r
def WhV (ns : List Nd) (R : Nat → Value → Prop) (r : List Int) (u : Value) : Prop :=
  if (r.getLast?).any (fun x => cdB (kindAt ns x.toNat)) then R (r.getLast?.getD 0).toNat u ∧ (∃ t v, u = .iface t v) else u = .nilIface
def BlkV (ns : List Nd) (w : World) (S : Nat → Prop) (R : Nat → Value → Prop) (n : Nd) (l q u : Value) : Prop :=
  LstV w S R (n.Kids.take n.N.toNat) l ∧ LstV w S R (srcK ns (n.Kids.drop n.N.toNat)) q ∧ WhV ns R (n.Kids.drop n.N.toNat) u
def TrN (ns : List Nd) (w : World) (S : Nat → Prop) (R : Nat → Value → Prop) (n : Nd) (v : Value) : Prop :=
  if n.K = 1 then v = .iface 66 (.agg #[.int .i64 n.N])
  else if n.K = 2 then v = .iface 70 (.agg #[])
  else if n.K = 3 then v = .iface 72 (.agg #[.string n.S, .int .i64 n.N])
  else if n.K = 4 then ∃ l q u, v = .iface 77 (.agg #[l, q, u, .int .i64 n.M]) ∧ BlkV ns w S R n l q u
  else if n.K = 5 then v = .iface 80 (.agg #[.string n.S, .string n.T])
  else if n.K = 6 then ∃ l q u, v = .iface 83 (.agg #[l, q, u, .bool (n.M == 1)]) ∧ BlkV ns w S R n l q u
  else if n.K = 7 then ∃ l, v = .iface 86 (.agg #[l]) ∧ LstV w S R n.Kids l
  else if n.K = 8 then ∃ u0 u1, v = .iface 89 (.agg #[.int .i64 n.M, u0, u1]) ∧ R (n.Kids.getD 0 0).toNat u0 ∧ R (n.Kids.getD 1 0).toNat u1
  else if n.K = 9 then ∃ u0, v = .iface 92 (.agg #[.bool (n.M == 1), u0]) ∧ R (n.Kids.getD 0 0).toNat u0
  else if n.K = 10 then ∃ u0, v = .iface 95 (.agg #[u0]) ∧ R (n.Kids.getD 0 0).toNat u0
  else if n.K = 11 then ∃ u0 u1, v = .iface 97 (.agg #[.bool (n.M == 1), u0, u1]) ∧ R (n.Kids.getD 0 0).toNat u0 ∧ R (n.Kids.getD 1 0).toNat u1
  else if n.K = 12 then ∃ u0 u1, v = .iface 99 (.agg #[.int .i64 n.M, .int .i64 n.N, u0, u1]) ∧ R (n.Kids.getD 0 0).toNat u0 ∧ R (n.Kids.getD 1 0).toNat u1
  else if n.K = 13 then ∃ u0, v = .iface 102 (.agg #[u0]) ∧ R (n.Kids.getD 0 0).toNat u0
  else if n.K = 14 then ∃ l, v = .iface 104 (.agg #[l]) ∧ LstV w S R n.Kids l
  else ∃ l, v = .iface 105 (.agg #[l]) ∧ LstV w S R n.Kids l
def TrV (ns : List Nd) (w : World) (S : Nat → Prop) : Nat → Nat → Value → Prop
  | 0, _, _ => False
  | f + 1, i, v => ∃ n, ns[i]? = some n ∧ TrN ns w S (TrV ns w S f) n v
theorem LstV.mono {w w1 : World} {S T : Nat → Prop} {R R1 : Nat → Value → Prop} {ks : List Int} {l : Value} (h : LstV w S R ks l) (hs : ∀ b, S b → b < w.heap.size → T b ∧ b < w1.heap.size ∧ w1.heap[b]? = w.heap[b]?) (hR : ∀ x u, R x u → R1 x u) : LstV w1 T R1 ks l := by
  obtain ⟨g, o, c, e1, e2, e3, e4, e5⟩ := h
  obtain ⟨a1, a2, a3⟩ := hs g e3 e4
  refine ⟨g, o, c, e1, e2, a1, a2, fun j x hx => ?_⟩
  obtain ⟨t, u, h1, h2⟩ := e5 j x hx
  exact ⟨t, u, (World.cell?_of_block (a := ⟨g, o + j, none⟩) a3).trans h1, hR _ _ h2⟩
theorem BlkV.mono {ns : List Nd} {w w1 : World} {S T : Nat → Prop} {R R1 : Nat → Value → Prop} {n : Nd} {l q u : Value} (h : BlkV ns w S R n l q u) (hs : ∀ b, S b → b < w.heap.size → T b ∧ b < w1.heap.size ∧ w1.heap[b]? = w.heap[b]?) (hR : ∀ x u, R x u → R1 x u) : BlkV ns w1 T R1 n l q u := by
  obtain ⟨h1, h2, h3⟩ := h
  refine ⟨h1.mono hs hR, h2.mono hs hR, ?_⟩
  unfold WhV at h3 ⊢
  split
  · rename_i e; rw [if_pos e] at h3; exact ⟨hR _ _ h3.1, h3.2⟩
  · rename_i e; rw [if_neg e] at h3; exact h3
theorem TrN.mono {ns : List Nd} {w w1 : World} {S T : Nat → Prop} {R R1 : Nat → Value → Prop} {n : Nd} {v : Value} (h : TrN ns w S R n v) (hs : ∀ b, S b → b < w.heap.size → T b ∧ b < w1.heap.size ∧ w1.heap[b]? = w.heap[b]?) (hR : ∀ x u, R x u → R1 x u) : TrN ns w1 T R1 n v := by
  unfold TrN at h ⊢
  by_cases k1 : n.K = 1
  · rw [if_pos k1] at h ⊢; exact h
  rw [if_neg k1] at h ⊢
  by_cases k2 : n.K = 2
  · rw [if_pos k2] at h ⊢; exact h
  rw [if_neg k2] at h ⊢
  by_cases k3 : n.K = 3
  · rw [if_pos k3] at h ⊢; exact h
  rw [if_neg k3] at h ⊢
  by_cases k4 : n.K = 4
  · rw [if_pos k4] at h ⊢; obtain ⟨l, q, u, e, hb⟩ := h; exact ⟨l, q, u, e, hb.mono hs hR⟩
  rw [if_neg k4] at h ⊢
  by_cases k5 : n.K = 5
  · rw [if_pos k5] at h ⊢; exact h
  rw [if_neg k5] at h ⊢
  by_cases k6 : n.K = 6
  · rw [if_pos k6] at h ⊢; obtain ⟨l, q, u, e, hb⟩ := h; exact ⟨l, q, u, e, hb.mono hs hR⟩
  rw [if_neg k6] at h ⊢
  by_cases k7 : n.K = 7
  · rw [if_pos k7] at h ⊢; obtain ⟨l, e, hb⟩ := h; exact ⟨l, e, hb.mono hs hR⟩
  rw [if_neg k7] at h ⊢
  by_cases k8 : n.K = 8
  · rw [if_pos k8] at h ⊢; obtain ⟨a, b, e, h1, h2⟩ := h; exact ⟨a, b, e, hR _ _ h1, hR _ _ h2⟩
  rw [if_neg k8] at h ⊢
  by_cases k9 : n.K = 9
  · rw [if_pos k9] at h ⊢; obtain ⟨a, e, h1⟩ := h; exact ⟨a, e, hR _ _ h1⟩
  rw [if_neg k9] at h ⊢
  by_cases k10 : n.K = 10
  · rw [if_pos k10] at h ⊢; obtain ⟨a, e, h1⟩ := h; exact ⟨a, e, hR _ _ h1⟩
  rw [if_neg k10] at h ⊢
  by_cases k11 : n.K = 11
  · rw [if_pos k11] at h ⊢; obtain ⟨a, b, e, h1, h2⟩ := h; exact ⟨a, b, e, hR _ _ h1, hR _ _ h2⟩
  rw [if_neg k11] at h ⊢
  by_cases k12 : n.K = 12
  · rw [if_pos k12] at h ⊢; obtain ⟨a, b, e, h1, h2⟩ := h; exact ⟨a, b, e, hR _ _ h1, hR _ _ h2⟩
  rw [if_neg k12] at h ⊢
  by_cases k13 : n.K = 13
  · rw [if_pos k13] at h ⊢; obtain ⟨a, e, h1⟩ := h; exact ⟨a, e, hR _ _ h1⟩
  rw [if_neg k13] at h ⊢
  by_cases k14 : n.K = 14
  · rw [if_pos k14] at h ⊢; obtain ⟨l, e, hb⟩ := h; exact ⟨l, e, hb.mono hs hR⟩
  rw [if_neg k14] at h ⊢
  obtain ⟨l, e, hb⟩ := h; exact ⟨l, e, hb.mono hs hR⟩
theorem TrV.mono {ns : List Nd} {w w1 : World} {S T : Nat → Prop} (hs : ∀ b, S b → b < w.heap.size → T b ∧ b < w1.heap.size ∧ w1.heap[b]? = w.heap[b]?) : ∀ (f i : Nat) (v : Value), TrV ns w S f i v → TrV ns w1 T f i v
  | 0, _, _, h => h
  | f + 1, _, _, ⟨n, h1, h2⟩ => ⟨n, h1, h2.mono hs (fun x u => TrV.mono hs f x u)⟩
end Go.Proofs.YtmcbmmpjhijagaaGreatDoor
