import Derived.Test.YteebidljiemegaaDoorEqDbX
import Derived.Test.YteebidljiemegaaDoorQ44
import Derived.Test.YteebidljiemegaaDoorQ45
namespace Go.Proofs.YteebidljiemegaaDoor
open Go Go.RowKit
def GridK (w : World) (lab : Lt) (j : Nat) (u : Value) (rs : List R3) : Prop :=
  (∃ c, u = .slice none 0 c ∧ rs = []) ∨ ∃ G c, u = .slice (some ⟨G, 0, none⟩) rs.length c ∧ G < w.heap.size ∧ lab G = (0, j, 0) ∧ GridAt w G 0 rs ∧ ∀ (jj : Nat) r, rs[jj]? = some r → lab r.1 = (1, j, jj) ∧ r.1 < w.heap.size
theorem GridK.but {S : Nat → Prop} {w w1 : World} {lab : Lt} {j : Nat} {u : Value} {rs : List R3} (h : GridK w lab j u rs) (hb : ButM S w w1) (hn : ∀ b, lab b = (0, j, 0) → ¬ S b) : GridK w1 lab j u rs := by
  rcases h with h | ⟨G, c, h1, h2, h3, h4, h5⟩
  · exact Or.inl h
  · exact Or.inr ⟨G, c, h1, Nat.lt_of_lt_of_le h2 hb.size, h3, fun i r hr => (hb.cell G _ h2 (hn G h3)).trans (h4 i r hr), fun jj r hr => ⟨(h5 jj r hr).1, Nat.lt_of_lt_of_le (h5 jj r hr).2 hb.size⟩⟩
structure UnT (w : World) (lab : Lt) (g j : Nat) (u : Value) (rs : List R3) : Prop where
  cu : w.cell? ⟨g, j * 3 + 2, none⟩ = some u
  grid : GridK w lab j u rs
  rows : RowsOk w rs
  labs : ∀ (jj : Nat) r, rs[jj]? = some r → lab r.1 = (1, j, jj)
structure MkT (w : World) (lab : Lt) (g j : Nat) (u : Value) (rs : List R3) (K : Nat) : Prop where
  c0 : w.cell? ⟨g, j * 3, none⟩ = some (.string (mtx K))
  c1 : w.cell? ⟨g, j * 3 + 1, none⟩ = some (.int .i64 ((K : Int) + 1))
  cu : w.cell? ⟨g, j * 3 + 2, none⟩ = some u
  grid : GridK w lab j u rs
  mkd : Marked w (K + 2) rs rs.length
  labs : ∀ (jj : Nat) r, rs[jj]? = some r → lab r.1 = (1, j, jj)
theorem UnT.but {S : Nat → Prop} {w w1 : World} {lab : Lt} {g j : Nat} {u : Value} {rs : List R3} (h : UnT w lab g j u rs) (hc : w1.cell? ⟨g, j * 3 + 2, none⟩ = w.cell? ⟨g, j * 3 + 2, none⟩) (hb : ButM S w w1) (hn : ∀ b, (lab b).1 ≤ 1 → (lab b).2.1 = j → ¬ S b) : UnT w1 lab g j u rs :=
  ⟨hc.trans h.cu, h.grid.but hb (fun b e => hn b (by rw [e]; simp) (by rw [e])), fun r hr => by
    obtain ⟨jj, hj, rfl⟩ := List.getElem_of_mem hr
    have l := h.labs jj _ (List.getElem?_eq_getElem hj)
    exact ⟨(h.rows _ hr).1.butM hb (hn _ (by rw [l]; simp) (by rw [l])), (h.rows _ hr).2⟩, h.labs⟩
theorem MkT.but {S : Nat → Prop} {w w1 : World} {lab : Lt} {g j : Nat} {u : Value} {rs : List R3} {K : Nat} (h : MkT w lab g j u rs K) (hc : ∀ o, o < 3 → w1.cell? ⟨g, j * 3 + o, none⟩ = w.cell? ⟨g, j * 3 + o, none⟩) (hb : ButM S w w1) (hn : ∀ b, (lab b).1 ≤ 1 → (lab b).2.1 = j → ¬ S b) : MkT w1 lab g j u rs K :=
  ⟨(hc 0 (by omega)).trans h.c0, (hc 1 (by omega)).trans h.c1, (hc 2 (by omega)).trans h.cu, h.grid.but hb (fun b e => hn b (by rw [e]; simp) (by rw [e])), fun jj hj hn' => by
    have l := h.labs jj _ (List.getElem?_eq_getElem hj)
    exact (h.mkd jj hj hn').butM hb (hn _ (by rw [l]; simp) (by rw [l])), h.labs⟩
theorem UnT.of {w w1 : World} {lab : Lt} {g j : Nat} {u : Value} {rs : List R3} (h : UnT w lab g j u rs) (hg : g < w.heap.size) (hb : Below w.heap.size w w1) : UnT w1 lab g j u rs :=
  h.but (hb.cell (p := ⟨g, _, none⟩) hg) (ButM.ofBelow (S := fun _ => False) hb) (fun _ _ _ e => e)
theorem MkT.of {w w1 : World} {lab : Lt} {g j : Nat} {u : Value} {rs : List R3} {K : Nat} (h : MkT w lab g j u rs K) (hg : g < w.heap.size) (hb : Below w.heap.size w w1) : MkT w1 lab g j u rs K :=
  h.but (fun _ _ => hb.cell (p := ⟨g, _, none⟩) hg) (ButM.ofBelow (S := fun _ => False) hb) (fun _ _ _ e => e)
def MkAll (w : World) (lab : Lt) (a : Option Addr) (k : Nat) (ts : List Tb) (us : Nat → Value) (rss : Nat → List R3) : Prop :=
  ∀ (j : Nat) (hj : j < ts.length), ∃ g, a = some ⟨g, 0, none⟩ ∧ g < w.heap.size ∧ ¬ (lab g).1 ≤ 1 ∧ MkT w lab g j (us j) (rss j) (k + kTs (ts.take j)) ∧ (rss j).map kR = (ts[j]).Rows
theorem MkAll.of {w w1 : World} {lab : Lt} {a : Option Addr} {k : Nat} {ts : List Tb} {us : Nat → Value} {rss : Nat → List R3} (h : MkAll w lab a k ts us rss) (hb : Below w.heap.size w w1) : MkAll w1 lab a k ts us rss := fun j hj => by
  obtain ⟨g, h1, h2, h3, h4, h5⟩ := h j hj
  exact ⟨g, h1, Nat.lt_of_lt_of_le h2 hb.size, h3, h4.of h2 hb, h5⟩
theorem TabG.unmarked {w : World} {lab : Lt} {B g n c : Nat} {cs : List Value} {ts : List Tb} (h : TabG w lab B (.slice (some ⟨g, 0, none⟩) n c) cs ts) :
    ∃ (us : Nat → Value) (rss : Nat → List R3), ∀ (j : Nat) (hj : j < ts.length), UnT w lab g j (us j) (rss j) ∧ (rss j).map kR = (ts[j]).Rows := by
  have key : ∀ j : Nat, ∃ p : Value × List R3, ∀ (hj : j < ts.length), UnT w lab g j p.1 p.2 ∧ p.2.map kR = (ts[j]).Rows := fun j => by
    by_cases hj : j < ts.length
    · obtain ⟨u, rs, c0, c1, c2, hm, hr⟩ := h.tab j ts[j] (List.getElem?_eq_getElem hj)
      refine ⟨(u, rs), fun _ => ⟨⟨?_, ?_, ?_, fun jj r hr' => (hr.2.2 jj r hr').1⟩, hm⟩⟩
      · rcases h.own.2 with ⟨_, h2⟩ | ⟨g', cap', cur', h1, _⟩
        · omega
        · have ho := h.own
          rw [h1] at ho
          simp only [Value.slice.injEq, Option.some.injEq, Addr.mk.injEq, and_true] at h1
          rw [h1.1, ho.cellAt _ (by omega)]
          exact c2
      · rcases hr.form with ⟨uc, hu, hrs⟩ | ⟨G, uc, hu⟩
        · exact Or.inl ⟨uc, by rw [hu, hrs]; rfl, hrs⟩
        · subst hu
          obtain ⟨g1, g2, g3⟩ := hr.grid
          exact Or.inr ⟨G, uc, rfl, g1, hr.2.1 G rfl, g2, fun jj r hr' => ⟨(hr.2.2 jj r hr').1, (hr.2.2 jj r hr').2.1.size⟩⟩
      · intro r hr'
        obtain ⟨jj, hjj, rfl⟩ := List.getElem_of_mem hr'
        exact (hr.2.2 jj _ (List.getElem?_eq_getElem hjj)).2
    · exact ⟨(.bool true, []), fun hj' => absurd hj' hj⟩
  obtain ⟨f, hf⟩ := Classical.skolem.1 key
  exact ⟨fun j => (f j).1, fun j => (f j).2, fun j hj => hf j hj⟩
set_option maxHeartbeats 1000000 in
theorem markRowsK (rs : List R3) (u : Value) (lab : Lt) (j k : Nat) (w : World) (hg : GridK w lab j u rs) (hro : RowsOk w rs) (hlb : ∀ (jj : Nat) r, rs[jj]? = some r → lab r.1 = (1, j, jj)) (b1 : rs.length ≤ 1048576) (b2 : k + 2 * bulk (rs.map kR) ≤ 536870912) (b3 : ∀ r ∈ rs, r.2.2.length ≤ 1048576) :
    Calls Tryd.prog 38 #[u, .int .i64 k] w fun e w' => e = .returned (.int .i64 ((k + 2 * bulk (rs.map kR) : Nat) : Int)) ∧ Marked w' k rs rs.length ∧ ButM (fun b => ∃ jj, lab b = (1, j, jj)) w w' := by
  rcases hg with ⟨c, rfl, rfl⟩ | ⟨G, c, rfl, hG, hl, hgr, _⟩
  · clear hro hlb
    have hbz : Hid (k + 2 * bulk (([] : List R3).map kR) = k) := by show _ = _; simp [bulk]
    go_enter Tryd.func38, Tryd.ntmps38
    go_wp2
    go_loopw [1, 5] (fun q p wr => p = .int .i64 0 ∧ q = .int .i64 (k : Int) ∧ wr = w) (fun _ _ _ => 0)
    case atStart => exact ⟨rfl, rfl, rfl⟩
    case round =>
      obtain ⟨rfl, rfl, rfl⟩ := hrel
      go_wp2
      go_ret
      exact ⟨by rw [unhide hbz]; rfl, fun jj hj => by simp at hj, ButM.refl _ _⟩
  · have hnd : (rs.map (fun r : R3 => r.1)).Nodup := by
      unfold List.Nodup
      rw [List.pairwise_iff_getElem]
      intro i1 i2 h1 h2 hlt e
      simp only [List.length_map] at h1 h2
      simp only [List.getElem_map] at e
      have l1 := hlb i1 _ (List.getElem?_eq_getElem h1)
      have l2 := hlb i2 _ (List.getElem?_eq_getElem h2)
      rw [e, l2] at l1
      simp at l1
      omega
    refine (markValSS_calls rs G c k w hG hgr hro hnd (fun r hr e => ?_) b1 b2 b3).mono ?_
    · obtain ⟨jj, hjj, rfl⟩ := List.getElem_of_mem hr
      have l1 := hlb jj _ (List.getElem?_eq_getElem hjj)
      rw [e, hl] at l1
      simp at l1
    · rintro e w' ⟨h1, h2, h3⟩
      refine ⟨h1, h2, h3.butM.mono (fun b ⟨r, hr, e⟩ => ?_)⟩
      obtain ⟨jj, hjj, rfl⟩ := List.getElem_of_mem hr
      exact ⟨jj, by rw [← e]; exact hlb jj _ (List.getElem?_eq_getElem hjj)⟩
set_option maxHeartbeats 1000000 in
theorem heldRowsK (rs : List R3) (u : Value) (lab : Lt) (j k : Nat) (w : World) (hg : GridK w lab j u rs) (hM : Marked w k rs rs.length) (b1 : rs.length ≤ 1048576) (b2 : k + 2 * bulk (rs.map kR) ≤ 536870912) (b3 : ∀ r ∈ rs, r.2.2.length ≤ 1048576) :
    Calls Tryd.prog 39 #[u, .int .i64 k] w fun e w' => e = .returned (.int .i64 ((k + 2 * bulk (rs.map kR) : Nat) : Int)) ∧ Below w.heap.size w w' := by
  rcases hg with ⟨c, rfl, rfl⟩ | ⟨G, c, rfl, hG, _, hgr, _⟩
  · clear hM
    have hbz : Hid (k + 2 * bulk (([] : List R3).map kR) = k) := by show _ = _; simp [bulk]
    go_enter Tryd.func39, Tryd.ntmps39
    go_wp2
    go_loopw [1, 5] (fun q p wr => p = .int .i64 0 ∧ q = .int .i64 (k : Int) ∧ wr = w) (fun _ _ _ => 0)
    case atStart => exact ⟨rfl, rfl, rfl⟩
    case round =>
      obtain ⟨rfl, rfl, rfl⟩ := hrel
      go_wp2
      go_ret
      exact ⟨by rw [unhide hbz]; rfl, Below.refl _ _⟩
  · exact heldValSS_calls rs G c k w hG hgr hM b1 b2 b3
end Go.Proofs.YteebidljiemegaaDoor
