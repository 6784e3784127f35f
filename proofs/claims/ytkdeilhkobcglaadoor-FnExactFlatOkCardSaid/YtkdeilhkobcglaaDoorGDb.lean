import Derived.Test.YtkdeilhkobcglaaDoorNodeKit
import Derived.Test.YtkdeilhkobcglaaDoorGGrid
import Derived.OwnWalk
import Derived.Test.YtkdeilhkobcglaaDoorSzKit
import Derived.BigQuiet
import Derived.Deep.RegionHeld3
import Derived.Deep.DeepCutAuto
/-
  TABLES IN MEMORY, of no program. A table has three cells: its name, the number of its columns, the slice of its rows.
-/
namespace Go.Proofs.YtkdeilhkobcglaaDoor
open Go Go.RowKit

structure Tb where
  Name : ByteArray
  Cols : Int
  Rows : List (List V2)

/-- an argument: a slice of tables -/
def IsTables (w : World) (v : Value) (ts : List Tb) : Prop :=
  (ts = [] ∧ ∃ a cap, v = .slice a 0 cap) ∨ ∃ g off cap, v = .slice (some ⟨g, off, none⟩) ts.length cap ∧ g < w.heap.size ∧
    ∀ i t, ts[i]? = some t → w.cell? ⟨g, off + i * 3, none⟩ = some (.string t.Name) ∧ w.cell? ⟨g, off + i * 3 + 1, none⟩ = some (.int .i64 t.Cols) ∧
      ∃ u, w.cell? ⟨g, off + i * 3 + 2, none⟩ = some u ∧ IsRows w u t.Rows
theorem IsTables.of {w w1 : World} {v : Value} {ts : List Tb} (h : IsTables w v ts) (hb : Below w.heap.size w w1) : IsTables w1 v ts := by
  rcases h with h | ⟨g, off, cap, h1, h2, h3⟩
  · exact Or.inl h
  · refine Or.inr ⟨g, off, cap, h1, Nat.lt_of_lt_of_le h2 hb.size, fun i t ht => ?_⟩
    obtain ⟨c0, c1, u, c2, hu⟩ := h3 i t ht
    exact ⟨(hb.cell (p := ⟨g, off + i * 3, none⟩) h2).trans c0, (hb.cell (p := ⟨g, off + i * 3 + 1, none⟩) h2).trans c1, u, (hb.cell (p := ⟨g, off + i * 3 + 2, none⟩) h2).trans c2, hu.of hb⟩

/-- rows of the call's own making, all in blocks behind g -/
def MadeRows (w : World) (g G : Nat) (xss : List (List V2)) : Prop :=
  g < G ∧ G < w.heap.size ∧ ∃ rs : List R3, rs.map (fun r : R3 => r.2.2) = xss ∧ GridAt w G 0 rs ∧ RowsOk w rs ∧ ∀ r ∈ rs, G < r.1
theorem MadeRows.of {w w1 : World} {g G : Nat} {xss : List (List V2)} (h : MadeRows w g G xss) (hb : Below w.heap.size w w1) : MadeRows w1 g G xss := by
  obtain ⟨h1, h2, rs, h3, h4, h5, h6⟩ := h
  exact ⟨h1, Nat.lt_of_lt_of_le h2 hb.size, rs, h3, h4.of h2 hb, h5.of hb, h6⟩
theorem GridAt.far {w : World} {G off : Nat} {rs : List R3} (h : GridAt w G off rs) {X O : Nat} (hne : X ≠ G) (v : Value) : GridAt (w.setCell ⟨X, O, none⟩ v) G off rs := fun i r hr => by
  rw [setCell_far hne]
  exact h i r hr
theorem MadeRows.far {w : World} {g G : Nat} {xss : List (List V2)} (h : MadeRows w g G xss) {X O : Nat} (hX : X ≤ g) (v : Value) : MadeRows (w.setCell ⟨X, O, none⟩ v) g G xss := by
  obtain ⟨h1, h2, rs, h3, h4, h5, h6⟩ := h
  exact ⟨h1, by simpa using h2, rs, h3, h4.far (by omega) v, h5.far (fun r hr => by have := h6 r hr; omega) v, h6⟩

/-- tables of the call's own making -/
def TablesAt (w : World) (g off : Nat) (ts : List Tb) : Prop := ∀ i t, ts[i]? = some t → w.cell? ⟨g, off + i * 3, none⟩ = some (.string t.Name) ∧ w.cell? ⟨g, off + i * 3 + 1, none⟩ = some (.int .i64 t.Cols) ∧
  ∃ G, w.cell? ⟨g, off + i * 3 + 2, none⟩ = some (.slice (some ⟨G, 0, none⟩) t.Rows.length t.Rows.length) ∧ MadeRows w g G t.Rows
theorem TablesAt.of {w w1 : World} {g off : Nat} {ts : List Tb} (h : TablesAt w g off ts) (hg : g < w.heap.size) (hb : Below w.heap.size w w1) : TablesAt w1 g off ts := fun i t ht => by
  obtain ⟨c0, c1, G, c2, hG⟩ := h i t ht
  exact ⟨(hb.cell (p := ⟨g, off + i * 3, none⟩) hg).trans c0, (hb.cell (p := ⟨g, off + i * 3 + 1, none⟩) hg).trans c1, G, (hb.cell (p := ⟨g, off + i * 3 + 2, none⟩) hg).trans c2, hG.of hb⟩
theorem TablesAt.at {w : World} {g off : Nat} {ts : List Tb} (h : TablesAt w g off ts) (i : Nat) (hi : i < ts.length) : w.cell? ⟨g, off + i * 3, none⟩ = some (.string (ts[i]).Name) ∧ w.cell? ⟨g, off + i * 3 + 1, none⟩ = some (.int .i64 (ts[i]).Cols) ∧
  ∃ G, w.cell? ⟨g, off + i * 3 + 2, none⟩ = some (.slice (some ⟨G, 0, none⟩) (ts[i]).Rows.length (ts[i]).Rows.length) ∧ MadeRows w g G (ts[i]).Rows := h i ts[i] (by simp [hi])
theorem TablesAt.far {w : World} {g off : Nat} {ts : List Tb} (h : TablesAt w g off ts) {X O : Nat} (hX : X < g) (v : Value) : TablesAt (w.setCell ⟨X, O, none⟩ v) g off ts := fun i t ht => by
  obtain ⟨c0, c1, G, c2, hG⟩ := h i t ht
  refine ⟨?_, ?_, G, ?_, hG.far (Nat.le_of_lt hX) v⟩
  · rw [setCell_far (by omega)]; exact c0
  · rw [setCell_far (by omega)]; exact c1
  · rw [setCell_far (by omega)]; exact c2
/-- the length of a row that was made -/
theorem MadeRows.row {w : World} {g G : Nat} {xss : List (List V2)} (h : MadeRows w g G xss) (i : Nat) (hi : i < xss.length) : ∃ r : R3, w.cell? ⟨G, i, none⟩ = some (rv r) ∧ r.2.2 = xss[i] ∧ RowAt w r.1 0 r.2.2 ∧ r.1 < w.heap.size ∧ G < r.1 ∧ r.2.2.length ≤ r.2.1 := by
  obtain ⟨h1, h2, rs, h3, h4, h5, h6⟩ := h
  have hl : rs.length = xss.length := by rw [← h3]; simp
  have hi' : i < rs.length := by omega
  have hm : rs[i] ∈ rs := List.getElem_mem hi'
  refine ⟨rs[i], ?_, ?_, (h5 _ hm).1.held, (h5 _ hm).1.size, h6 _ hm, (h5 _ hm).2⟩
  · have := h4 i rs[i] (List.getElem?_eq_getElem hi')
    simpa using this
  · have : (rs.map (fun r : R3 => r.2.2))[i]'(by simpa using hi') = xss[i] := by simp only [h3]
    simpa using this

structure OwnTables (w : World) (g n : Nat) (ts : List Tb) : Prop where
  size : g < w.heap.size
  frz : ∀ o, w.frozen? ⟨g, o, none⟩ = false
  all : ∀ o, o < n * 3 → ∃ v, w.cell? ⟨g, o, none⟩ = some v
  held : TablesAt w g 0 ts
theorem OwnTables.of {w w1 : World} {g n : Nat} {ts : List Tb} (h : OwnTables w g n ts) (hb : Below w.heap.size w w1) : OwnTables w1 g n ts :=
  ⟨Nat.lt_of_lt_of_le h.size hb.size, fun o => (hb.frozen (p := ⟨g, o, none⟩) h.size).trans (h.frz o), fun o ho => by
    obtain ⟨v, hv⟩ := h.all o ho
    exact ⟨v, (hb.cell (p := ⟨g, o, none⟩) h.size).trans hv⟩, h.held.of h.size hb⟩
theorem OwnTables.made (w : World) (n : Nat) (C : Array Value) (t : TypeId) (hC : C.size = n * 3) : OwnTables (w.alloc (.cells C t)) w.heap.size n [] :=
  ⟨by simp, fun o => by simp [go_sem], fun o ho => ⟨C[o]'(by omega), by rw [World.cell?_alloc_at C t _ o rfl]; simp⟩, fun i x hx => by simp at hx⟩
def putTable (w : World) (g o : Nat) (t : Tb) (G : Nat) : World :=
  ((w.setCell ⟨g, o, none⟩ (.string t.Name)).setCell ⟨g, o + 1, none⟩ (.int .i64 t.Cols)).setCell ⟨g, o + 2, none⟩ (.slice (some ⟨G, 0, none⟩) t.Rows.length t.Rows.length)
theorem putTable_below {w0 w : World} {s : Nat} (h : Below s w0 w) {g o : Nat} (hg : s ≤ g) (t : Tb) (G : Nat) : Below s w0 (putTable w g o t G) :=
  ((h.setCell (p := ⟨g, o, none⟩) hg _).setCell (p := ⟨g, o + 1, none⟩) hg _).setCell (p := ⟨g, o + 2, none⟩) hg _
theorem OwnTables.put {w : World} {g n k : Nat} {ts : List Tb} (h : OwnTables w g n (ts.take k)) (hk : k < ts.length) (hn : k < n) (G : Nat) (hG : MadeRows w g G (ts[k]).Rows) :
    OwnTables (putTable w g (k * 3) ts[k] G) g n (ts.take (k + 1)) := by
  refine ⟨by simpa [putTable] using h.size, fun o => by unfold putTable; simp only [frozen_setCell]; exact h.frz o, fun o ho => ?_, fun i x hx => ?_⟩
  · obtain ⟨v, hv⟩ := h.all o ho
    unfold putTable
    obtain ⟨v, hv⟩ := setCell_there (o' := k * 3) (v := .string (ts[k]).Name) hv
    obtain ⟨v, hv⟩ := setCell_there (o' := k * 3 + 1) (v := .int .i64 (ts[k]).Cols) hv
    exact setCell_there hv
  · rw [take_snoc ts k hk] at hx
    have hl : (ts.take k).length = k := by simp; omega
    unfold putTable
    by_cases hi : i < k
    · rw [List.getElem?_append_left (by omega)] at hx
      obtain ⟨c0, c1, G', c2, hG'⟩ := h.held i x hx
      refine ⟨?_, ?_, G', ?_, ((hG'.far (Nat.le_refl _) _).far (Nat.le_refl _) _).far (Nat.le_refl _) _⟩
      · rw [setCell_other (by omega), setCell_other (by omega), setCell_other (by omega)]; exact c0
      · rw [setCell_other (by omega), setCell_other (by omega), setCell_other (by omega)]; exact c1
      · rw [setCell_other (by omega), setCell_other (by omega), setCell_other (by omega)]; exact c2
    · obtain rfl : i = k := by
        have := (List.getElem?_eq_some_iff.1 hx).1
        simp at this; omega
      rw [List.getElem?_append_right (by omega)] at hx
      simp [hl] at hx
      subst hx
      simp only [Nat.zero_add]
      obtain ⟨v0, c0⟩ := h.all (i * 3) (by omega)
      obtain ⟨v1, c1⟩ := h.all (i * 3 + 1) (by omega)
      obtain ⟨v2, c2⟩ := h.all (i * 3 + 2) (by omega)
      refine ⟨?_, ?_, G, ?_, ((hG.far (Nat.le_refl _) _).far (Nat.le_refl _) _).far (Nat.le_refl _) _⟩
      · rw [setCell_other (by omega), setCell_other (by omega)]; exact World.cell?_setCell_same _ _ _ c0
      · rw [setCell_other (by omega)]; exact World.cell?_setCell_same _ _ _ (by rw [setCell_other (by omega)]; exact c1)
      · exact World.cell?_setCell_same _ _ _ (by rw [setCell_other (by omega), setCell_other (by omega)]; exact c2)

/-- how much tables hold, as the law counts it -/
def bulkT : List Tb → Nat
  | [] => 0
  | t :: r => t.Name.size + (t.Rows.length + bulk t.Rows) + bulkT r
theorem bulkT_append (a b : List Tb) : bulkT (a ++ b) = bulkT a + bulkT b := by
  induction a with
  | nil => simp [bulkT]
  | cons x a ih => simp only [List.cons_append, bulkT, ih]; omega
theorem bulkT_take (ts : List Tb) (k : Nat) (hk : k < ts.length) : bulkT (ts.take (k + 1)) = bulkT (ts.take k) + ((ts[k]).Name.size + ((ts[k]).Rows.length + bulk (ts[k]).Rows)) := by
  rw [take_snoc ts k hk, bulkT_append]; simp [bulkT]
theorem bulkT_take_le (ts : List Tb) (k : Nat) : bulkT (ts.take k) ≤ bulkT ts := by
  have := bulkT_append (ts.take k) (ts.drop k)
  rw [List.take_append_drop] at this
  omega
theorem bulkT_mem {ts : List Tb} {t : Tb} (h : t ∈ ts) : t.Name.size + (t.Rows.length + bulk t.Rows) ≤ bulkT ts := by
  induction ts with
  | nil => cases h
  | cons x r ih =>
    simp only [bulkT]
    cases List.mem_cons.1 h with
    | inl e => subst e; omega
    | inr e => have := ih e; omega
end Go.Proofs.YtkdeilhkobcglaaDoor
/-
  COPIES OF TABLES.
-/
namespace Go.Proofs.YtkdeilhkobcglaaDoor
open Go Go.RowKit

/-- make([]impl.Table, n) -/
theorem make_tables (n : Nat) (hn : n ≤ 1048576) (w : World) :
    (Instr.makeSlice 36 (.int .i64 (n : Int)) (.int .i64 (n : Int))).run Tryd.prog w = .ok (.slice (some ⟨w.heap.size, 0, none⟩) n n) (w.alloc (.cells (madeCells #[.string ByteArray.empty, .int .i64 0, .slice none 0 0] (n * 3)) 85)) := by
  obtain ⟨i, hi, hz⟩ := Option.map_eq_some_iff.1 (show (Tryd.prog.info? 85).map (fun i => (i.zero, i.size, i.bytes)) = some (some (.agg #[.string ByteArray.empty, .int .i64 0, .slice none 0 0]), 3, 48) by kernel_rfl)
  simp only [Prod.mk.injEq] at hz
  have := run_make (P := Tryd.prog) w 36 85 i _ Tryd.underlying36 hi hz.1 .i64 .i64 (n : Int) (n : Int) (by omega) (by omega) (by rw [hz.2.2]; omega) (by omega)
  rw [hz.2.1] at this
  simpa [Value.cells] using this
theorem make_tables0 (w : World) : (Instr.makeSlice 36 (.int .i64 0) (.int .i64 0)).run Tryd.prog w = .ok (.slice (some ⟨w.heap.size, 0, none⟩) 0 0) (w.alloc (.cells #[] 85)) := by
  have := make_tables 0 (by omega) w
  rw [show madeCells #[.string ByteArray.empty, .int .i64 0, .slice none 0 0] (0 * 3) = #[] from Array.eq_empty_of_size_eq_zero (by simp [size_madeCells])] at this
  simpa using this
theorem isRows_slice {w : World} {v : Value} {xss : List (List V2)} (hv : IsRows w v xss) : ∃ a cap, v = .slice a xss.length cap := by
  rcases hv with ⟨rfl, a, cap, rfl⟩ | ⟨g, off, cap, rfl, _⟩
  · exact ⟨a, cap, rfl⟩
  · exact ⟨_, cap, rfl⟩
theorem isTables_slice {w : World} {v : Value} {ts : List Tb} (hv : IsTables w v ts) : ∃ a cap, v = .slice a ts.length cap := by
  rcases hv with ⟨rfl, a, cap, rfl⟩ | ⟨g, off, cap, rfl, _⟩
  · exact ⟨a, cap, rfl⟩
  · exact ⟨_, cap, rfl⟩

set_option maxHeartbeats 1000000 in
theorem toTable_calls (S : ByteArray) (C : Int) (v : Value) (xss : List (List V2)) (w : World) (hv : IsRows w v xss) (hn : xss.length ≤ 1048576) (hx : bulk xss ≤ 1048576) :
    Calls Tryd.prog 48 #[.agg #[.string S, .int .i64 C, v]] w fun e w' => ∃ G, e = .returned (.agg #[.string S, .int .i64 C, .slice (some ⟨G, 0, none⟩) xss.length xss.length]) ∧ w.heap.size ≤ G ∧ (∀ g, g < w.heap.size → MadeRows w' g G xss) ∧ Below w.heap.size w w' := by
  have TI := fun W (hb : Below w.heap.size w W) => toValSS_calls v xss W (hv.of hb) hn hx
  have HT := hide TI
  obtain ⟨a, cap, rfl⟩ := isRows_slice hv
  clear TI hv
  go_enter Tryd.func48, Tryd.ntmps48
  go_wp2_with fail
  refine (unhide HT _ (by (repeat (first | exact Below.refl _ _ | refine bA ?_ _ | refine Below.setCell ?_ (by simp <;> omega) _)))).mono ?_; rintro e w1 ⟨G, rs, rfl, hm, hG, hog, hro, hrl, _, hb1⟩
  obtain ⟨hc, hf⟩ := bcell hb1
  have hs1 : w.heap.size + 3 ≤ w1.heap.size := by have := hb1.size; simpa using this
  have hG1 : w.heap.size + 3 ≤ G := by simpa using hG
  have hMR : ∀ g, g < w.heap.size + 3 → MadeRows w1 g G xss := fun g hg => ⟨by omega, hog.size, rs, hm, hog.held, hro, fun r hr => (hrl r hr).1⟩
  have HO := hide hMR; have HB := hide (bT (by (repeat (first | exact Below.refl _ _ | refine bA ?_ _))) hb1 : Below w.heap.size w w1)
  clear hMR hb1 hG hm hog hro hrl
  go_wp2
  refine bodyPost_ret (v := .agg #[.string S, .int .i64 C, .slice (some ⟨G, 0, none⟩) xss.length xss.length]) (by simp [results, Tryd.results48, go_sem, hc]) rfl ⟨G, rfl, by omega, ?_, ?_⟩
  · intro g hg
    have h2 := ((((unhide HO (w.heap.size + 1 + 1) (by omega)).far (X := w.heap.size + 1 + 1) (O := 2) (by omega) (.slice (some ⟨G, 0, none⟩) xss.length xss.length)).far (X := w.heap.size + 1) (O := 0) (by omega) (.string S)).far (X := w.heap.size + 1) (O := 1) (by omega) (.int .i64 C)).far (X := w.heap.size + 1) (O := 2) (by omega) (.slice (some ⟨G, 0, none⟩) xss.length xss.length)
    exact ⟨by omega, h2.2.1, h2.2.2⟩
  · exact ((((unhide HB).setCell (p := ⟨w.heap.size + 1 + 1, 2, none⟩) (by dsimp only; omega) _).setCell (p := ⟨w.heap.size + 1, 0, none⟩) (by dsimp only; omega) _).setCell (p := ⟨w.heap.size + 1, 1, none⟩) (by dsimp only; omega) _).setCell (p := ⟨w.heap.size + 1, 2, none⟩) (by dsimp only; omega) _

set_option maxHeartbeats 2000000 in
theorem toTableS_calls (v : Value) (ts : List Tb) (w : World) (hv : IsTables w v ts) (hn : ts.length ≤ 1048576) (hk : ∀ t ∈ ts, t.Rows.length ≤ 1048576 ∧ bulk t.Rows ≤ 1048576) :
    Calls Tryd.prog 27 #[v] w fun e w' => ∃ g, e = .returned (.slice (some ⟨g, 0, none⟩) ts.length ts.length) ∧ w.heap.size ≤ g ∧ OwnTables w' g ts.length ts ∧ Below w.heap.size w w' := by
  rcases hv with ⟨rfl, a, cap, rfl⟩ | ⟨g, off, cap, rfl, hg, hr⟩
  · have hmk := make_tables0
    clear hn hk
    go_enter Tryd.func27, Tryd.ntmps27
    go_wp2
    go_loopw [4] (fun i wr => i = .int .i64 0 ∧ OwnTables wr w.heap.size 0 [] ∧ Below w.heap.size w wr) (fun _ _ => 0)
    case atStart => exact ⟨rfl, OwnTables.made w 0 #[] _ rfl, bA (Below.refl _ _) _⟩
    case round =>
      obtain ⟨rfl, ho, hb⟩ := hrel
      go_wp2
      go_ret
      exact ⟨_, rfl, Nat.le_refl _, ho, hb⟩
  · have hmk := make_tables ts.length hn
    have hO : Hid (OwnTables (w.alloc (.cells (madeCells #[.string ByteArray.empty, .int .i64 0, .slice none 0 0] (ts.length * 3)) 85)) w.heap.size ts.length []) := OwnTables.made w _ _ _ (by simp [size_madeCells])
    have HK := hide hk
    have HR := hide hr
    clear hk hr
    go_enter Tryd.func27, Tryd.ntmps27
    go_wp2
    go_loopw [4] (fun i wr => ∃ k : Nat, k ≤ ts.length ∧ i = .int .i64 k ∧ OwnTables wr w.heap.size ts.length (ts.take k) ∧ Below w.heap.size w wr) (fun i _ => ts.length - (intOf i).toNat)
    case atStart => exact ⟨0, Nat.zero_le _, rfl, by simpa using hO.out, bA (Below.refl _ _) _⟩
    case round =>
      clear hO hmk
      obtain ⟨k, hk, rfl, ho, hb⟩ := hrel
      by_cases hlt : k < ts.length
      · obtain ⟨c0w, c1w, u, hu, hiu⟩ := (unhide HR) k ts[k] (List.getElem?_eq_getElem hlt)
        have c0 := (hb.cell (p := ⟨g, off + k * 3, none⟩) hg).trans c0w
        have c1 := (hb.cell (p := ⟨g, off + k * 3 + 1, none⟩) hg).trans c1w
        have c2 := (hb.cell (p := ⟨g, off + k * 3 + 2, none⟩) hg).trans hu
        obtain ⟨hkl, hkb⟩ := unhide HK _ (List.getElem_mem hlt)
        have hput := fun (w1 : World) (h : OwnTables w1 w.heap.size ts.length (ts.take k)) G h1 => h.put hlt hlt G h1
        have hTN := fun W (hbW : Below w.heap.size w W) => toTable_calls (ts[k]).Name (ts[k]).Cols u (ts[k]).Rows W (hiu.of hbW) hkl hkb
        cases e : ts[k] with | mk S C xss =>
        rw [e] at c0 c1 hput hTN hiu hkl hkb
        simp only at c0 c1 hput hTN hiu hkl hkb
        obtain ⟨ua, ucap, rfl⟩ := isRows_slice hiu
        have HTN := hide hTN; have HPut := hide hput
        have HO := hide ho
        have q1 : g < wr.heap.size := Nat.lt_of_lt_of_le hg hb.size
        have j1 : (k : Int) < (ts.length : Int) := by omega
        clear hTN hput hu hiu e ho c0w c1w
        go_wp2_with fail
        refine (unhide HTN _ hb).mono ?_; rintro e w1 ⟨G, rfl, hG, hoi, hb1⟩
        have d1 := bT hb hb1
        have ho1 := (unhide HO).of hb1
        have hN := unhide HPut w1 ho1 G (hoi _ (unhide HO).size)
        obtain ⟨u0, hu0⟩ := ho1.all (k * 3) (by omega)
        obtain ⟨u1, hu1⟩ := ho1.all (k * 3 + 1) (by omega)
        obtain ⟨u2, hu2⟩ := ho1.all (k * 3 + 2) (by omega)
        have hf := ho1.frz
        have HN := hide hN
        have HB := hide (putTable_below (g := w.heap.size) (o := k * 3) d1 (Nat.le_refl _) ⟨S, C, xss⟩ G)
        clear hN ho1 hoi hb1 HO HPut HTN c0 c1 c2 hG
        go_wp2
        go_roundw
        case rel => exact ⟨k + 1, by omega, by go_num, unhide HN, unhide HB⟩
        case measure => simp [intOf]; omega
      · obtain rfl : k = ts.length := by omega
        rw [List.take_length] at ho
        go_wp2
        go_ret
        exact ⟨_, rfl, Nat.le_refl _, ho, hb⟩

set_option maxHeartbeats 1000000 in
theorem toDb_calls (v : Value) (ts : List Tb) (w : World) (hv : IsTables w v ts) (hn : ts.length ≤ 1048576) (hk : ∀ t ∈ ts, t.Rows.length ≤ 1048576 ∧ bulk t.Rows ≤ 1048576) :
    Calls Tryd.prog 10 #[.agg #[v]] w fun e w' => ∃ g, e = .returned (.agg #[.slice (some ⟨g, 0, none⟩) ts.length ts.length]) ∧ w.heap.size ≤ g ∧ g < w'.heap.size ∧ TablesAt w' g 0 ts ∧ Below w.heap.size w w' := by
  have TI := fun W (hb : Below w.heap.size w W) => toTableS_calls v ts W (hv.of hb) hn hk
  have HT := hide TI
  obtain ⟨a, cap, rfl⟩ := isTables_slice hv
  clear TI hv
  go_enter Tryd.func10, Tryd.ntmps10
  go_wp2_with fail
  refine (unhide HT _ (by (repeat (first | exact Below.refl _ _ | refine bA ?_ _)))).mono ?_; rintro e w1 ⟨g, rfl, hg, ho, hb1⟩
  obtain ⟨hc, hf⟩ := bcell hb1
  have hs1 : w.heap.size + 3 ≤ w1.heap.size := by have := hb1.size; simpa using this
  have hg1 : w.heap.size + 3 ≤ g := by simpa using hg
  have HO := hide ho; have HB := hide (bT (by (repeat (first | exact Below.refl _ _ | refine bA ?_ _))) hb1 : Below w.heap.size w w1)
  clear ho hb1 hg
  go_wp2
  refine bodyPost_ret (v := .agg #[.slice (some ⟨g, 0, none⟩) ts.length ts.length]) (by simp [results, Tryd.results10, go_sem, hc]) rfl ⟨g, rfl, by omega, ?_, ?_, ?_⟩
  · have := (unhide HO).size
    simpa using this
  · exact ((unhide HO).held.far (X := w.heap.size + 1 + 1) (O := 0) (by omega) _).far (X := w.heap.size + 1) (O := 0) (by omega) _
  · exact ((unhide HB).setCell (p := ⟨w.heap.size + 1 + 1, 0, none⟩) (by dsimp only; omega) _).setCell (p := ⟨w.heap.size + 1, 0, none⟩) (by dsimp only; omega) _
end Go.Proofs.YtkdeilhkobcglaaDoor
/-
  HOW MUCH TABLES HOLD, as the law counts it.
-/
namespace Go.Proofs.YtkdeilhkobcglaaDoor
open Go Go.RowKit

theorem szA_szr (left : Int) (xss : List (List V2)) : szA left xss = szr left (xss.length + bulk xss) := by
  unfold szA szr
  by_cases h : left < (xss.length : Int) + bulk xss
  · rw [if_pos h, if_pos (by omega)]
  · rw [if_neg h, if_neg (by omega)]; omega

set_option maxHeartbeats 1000000 in
theorem szTable_calls (S : ByteArray) (C : Int) (v : Value) (xss : List (List V2)) (left : Int) (w : World) (hv : IsRows w v xss) (hl : xss.length ≤ maxLen) (hl2 : ∀ xs ∈ xss, xs.length ≤ maxLen) (hS : S.size ≤ maxLen) (h0 : 0 ≤ left) (h1 : left ≤ 1048576) :
    Calls Tryd.prog 40 #[.agg #[.string S, .int .i64 C, v], .int .i64 left] w fun e w' => e = .returned (.int .i64 (szr left (S.size + (xss.length + bulk xss)))) ∧ Below w.heap.size w w' := by
  have SZ := fun W (hb : Below w.heap.size w W) (l : Int) h0 h1 => szValSS_calls v xss l W (hv.of hb) hl hl2 h0 h1
  have HZ := hide SZ
  obtain ⟨a, cap, rfl⟩ := isRows_slice hv
  clear SZ hv hl2
  unfold maxLen at hl hS
  by_cases c1 : left < (S.size : Int)
  · have HE : Hid (szr left (S.size + (xss.length + bulk xss)) = -1) := by show _ = _; unfold szr; rw [if_pos (by omega)]
    go_enter Tryd.func40, Tryd.ntmps40
    go_wp2
    go_ret
    exact ⟨congrArg (fun z => Ending.returned (.int .i64 z)) HE.out.symm, bA (Below.refl _ _) _⟩
  have SZ2 := fun W hb => unhide HZ W hb (left - (S.size : Int)) (by omega) (by omega)
  have hz : szA (left - (S.size : Int)) xss = szr left (S.size + (xss.length + bulk xss)) := by
    rw [szA_szr]
    unfold szr
    by_cases h : left - (S.size : Int) < ((xss.length + bulk xss : Nat) : Int)
    · rw [if_pos h, if_pos (by omega)]
    · rw [if_neg h, if_neg (by omega)]; omega
  rw [hz] at SZ2
  have hz2 : szr left (S.size + (xss.length + bulk xss)) = -1 ∨ 0 ≤ szr left (S.size + (xss.length + bulk xss)) := by unfold szr; split <;> omega
  generalize szr left (S.size + (xss.length + bulk xss)) = z at *
  have HZ2 := hide SZ2
  clear SZ2 HZ hz
  by_cases hz' : z < 0
  · have : z = -1 := by omega
    have HZ := hide this
    clear this hz2
    go_enter Tryd.func40, Tryd.ntmps40
    go_wp2_with fail
    refine (unhide HZ2 _ (bA (Below.refl _ _) _)).mono ?_; rintro e w1 ⟨rfl, rfl⟩
    go_wp2
    go_ret
    exact ⟨congrArg (fun z => Ending.returned (.int .i64 z)) (unhide HZ).symm, bA (Below.refl _ _) _⟩
  · clear hz2
    go_enter Tryd.func40, Tryd.ntmps40
    go_wp2_with fail
    refine (unhide HZ2 _ (bA (Below.refl _ _) _)).mono ?_; rintro e w1 ⟨rfl, rfl⟩
    go_wp2
    go_ret
    exact ⟨rfl, bA (Below.refl _ _) _⟩

/-- no text and no list is longer than an argument can be -/
def FitsT (ts : List Tb) : Prop := ∀ t ∈ ts, t.Name.size ≤ maxLen ∧ t.Rows.length ≤ maxLen ∧ ∀ xs ∈ t.Rows, xs.length ≤ maxLen

set_option maxHeartbeats 2000000 in
theorem szTableS_calls (v : Value) (ts : List Tb) (left : Int) (w : World) (hv : IsTables w v ts) (hl : ts.length ≤ maxLen) (hf : FitsT ts) (h0 : 0 ≤ left) (h1 : left ≤ 1048576) :
    Calls Tryd.prog 22 #[v, .int .i64 left] w fun e w' => e = .returned (.int .i64 (szr left (ts.length + bulkT ts))) ∧ Below w.heap.size w w' := by
  have HV := hide hv
  obtain ⟨a, cap, rfl⟩ := isTables_slice hv
  have HF := hide hf
  clear hv hf
  unfold maxLen at hl
  by_cases c1 : left < (ts.length : Int)
  · have HE : Hid (szr left (ts.length + bulkT ts) = -1) := by show _ = _; unfold szr; rw [if_pos (by omega)]
    go_enter Tryd.func22, Tryd.ntmps22
    go_wp2
    go_ret
    exact ⟨congrArg (fun z => Ending.returned (.int .i64 z)) HE.out.symm, Below.refl _ _⟩
  go_enter Tryd.func22, Tryd.ntmps22
  go_wp2
  go_loopw [1, 5] (fun l c wr => ∃ (k : Nat) (lv : Int), k ≤ ts.length ∧ c = .int .i64 k ∧ l = .int .i64 lv ∧ lv = left - (ts.length : Int) - (bulkT (ts.take k) : Int) ∧ 0 ≤ lv ∧ Below w.heap.size w wr) (fun _ c _ => ts.length - (intOf c).toNat)
  case atStart => exact ⟨0, _, Nat.zero_le _, rfl, rfl, by simp [bulkT], by omega, Below.refl _ _⟩
  case round =>
    obtain ⟨k, lv, hk, rfl, rfl, hlv, hlv0, hb⟩ := hrel
    have HLV := hide hlv
    have hlv1 : lv ≤ 1048576 := by omega
    clear hlv
    by_cases hlt : k < ts.length
    · obtain ⟨g, off, rfl, hg, c0w, c1w, ua, ucap, hu, hiu⟩ : ∃ g off, a = some ⟨g, off, none⟩ ∧ g < w.heap.size ∧ w.cell? ⟨g, off + k * 3, none⟩ = some (.string (ts[k]).Name) ∧ w.cell? ⟨g, off + k * 3 + 1, none⟩ = some (.int .i64 (ts[k]).Cols) ∧
          ∃ ua ucap, w.cell? ⟨g, off + k * 3 + 2, none⟩ = some (.slice ua (ts[k]).Rows.length ucap) ∧ IsRows w (.slice ua (ts[k]).Rows.length ucap) (ts[k]).Rows := by
        rcases unhide HV with ⟨h, _⟩ | ⟨g, off, cap', he, hg, hr⟩
        · subst h; simp at hlt
        · simp only [Value.slice.injEq, true_and] at he
          obtain ⟨rfl, rfl⟩ := he
          obtain ⟨hc0, hc1, u, hu, hiu⟩ := hr k ts[k] (List.getElem?_eq_getElem hlt)
          obtain ⟨ua, ucap, rfl⟩ := isRows_slice hiu
          exact ⟨g, off, rfl, hg, hc0, hc1, ua, ucap, hu, hiu⟩
      have c0 := (hb.cell (p := ⟨g, off + k * 3, none⟩) hg).trans c0w
      have c1' := (hb.cell (p := ⟨g, off + k * 3 + 1, none⟩) hg).trans c1w
      have c2 := (hb.cell (p := ⟨g, off + k * 3 + 2, none⟩) hg).trans hu
      obtain ⟨fS, fR, fX⟩ := unhide HF _ (List.getElem_mem hlt)
      have SN := szTable_calls (ts[k]).Name (ts[k]).Cols _ (ts[k]).Rows lv wr (hiu.of hb) fR fX fS hlv0 hlv1
      have hbt := bulkT_take ts k hlt
      have hble := bulkT_take_le ts (k + 1)
      have q1 : g < wr.heap.size := Nat.lt_of_lt_of_le hg hb.size
      have j1 : (k : Int) < (ts.length : Int) := by omega
      clear hu hiu fS fR fX c0w c1w
      generalize (ts[k]).Name.size + ((ts[k]).Rows.length + bulk (ts[k]).Rows) = tot at *
      cases e : ts[k] with | mk S C xss =>
      rw [e] at c0 c1' c2 SN
      simp only at c0 c1' c2 SN
      clear e
      by_cases hlow : lv < (tot : Int)
      · have HE : Hid (szr left (ts.length + bulkT ts) = -1) := by
          show _ = _
          have := unhide HLV
          unfold szr
          rw [if_pos (by omega)]
        have e2 : szr lv tot = -1 := by unfold szr; rw [if_pos hlow]
        rw [e2] at SN
        have HSN := hide SN
        clear SN e2
        go_wp2_with fail
        refine (unhide HSN).mono ?_; rintro e w1 ⟨rfl, hb1⟩
        go_wp2
        go_ret
        exact ⟨congrArg (fun z => Ending.returned (.int .i64 z)) HE.out.symm, bT hb hb1⟩
      · have e2 : szr lv tot = lv - (tot : Int) := by unfold szr; rw [if_neg hlow]
        rw [e2] at SN
        have HSN := hide SN; have HBT := hide hbt
        have n1 : ¬ lv - (tot : Int) < 0 := by omega
        clear SN e2 hbt hble
        go_wp2_with fail
        refine (unhide HSN).mono ?_; rintro e w1 ⟨rfl, hb1⟩
        go_wp2
        go_roundw
        case rel => exact ⟨k + 1, _, by omega, by go_num, rfl, by have := unhide HLV; have := unhide HBT; omega, by omega, bT hb hb1⟩
        case measure => simp [intOf]; omega
    · obtain rfl : k = ts.length := by omega
      have HE : Hid (szr left (ts.length + bulkT ts) = lv) := by
        show _ = _
        have := unhide HLV
        rw [List.take_length] at this
        unfold szr
        rw [if_neg (by omega)]
        omega
      clear HLV
      go_wp2
      go_ret
      exact ⟨congrArg (fun z => Ending.returned (.int .i64 z)) HE.out.symm, hb⟩

theorem szDb_calls (v : Value) (ts : List Tb) (left : Int) (w : World) (hv : IsTables w v ts) (hl : ts.length ≤ maxLen) (hf : FitsT ts) (h0 : 0 ≤ left) (h1 : left ≤ 1048576) :
    Calls Tryd.prog 7 #[.agg #[v], .int .i64 left] w fun e w' => e = .returned (.int .i64 (szr left (ts.length + bulkT ts))) ∧ Below w.heap.size w w' := by
  have SN := fun W (hb : Below w.heap.size w W) => szTableS_calls v ts left W (hv.of hb) hl hf h0 h1
  obtain ⟨a, cap, rfl⟩ := isTables_slice hv
  have hz : szr left (ts.length + bulkT ts) = -1 ∨ 0 ≤ szr left (ts.length + bulkT ts) := by unfold szr; split <;> omega
  generalize szr left (ts.length + bulkT ts) = z at *
  have HSN := hide SN
  clear SN hv hf
  by_cases hz' : z < 0
  · have : z = -1 := by omega
    have HZ := hide this
    clear this hz
    go_enter Tryd.func7, Tryd.ntmps7
    go_wp2_with fail
    refine (unhide HSN _ (bA (Below.refl _ _) _)).mono ?_; rintro e w1 ⟨rfl, hb1⟩
    go_wp2
    go_ret
    exact ⟨congrArg (fun z => Ending.returned (.int .i64 z)) (unhide HZ).symm, bT (bA (Below.refl _ _) _) hb1⟩
  · clear hz
    go_enter Tryd.func7, Tryd.ntmps7
    go_wp2_with fail
    refine (unhide HSN _ (bA (Below.refl _ _) _)).mono ?_; rintro e w1 ⟨rfl, hb1⟩
    go_wp2
    go_ret
    exact ⟨rfl, bT (bA (Below.refl _ _) _) hb1⟩
end Go.Proofs.YtkdeilhkobcglaaDoor
/-
  TABLES THAT ARE ALIKE.
-/
namespace Go.Proofs.YtkdeilhkobcglaaDoor
open Go Go.RowKit

theorem eqRows {xss : List (List V2)} (g G g' G' : Nat) (w : World) (hx : MadeRows w g G xss) (hy : MadeRows w g' G' xss) (b1 : xss.length ≤ 1048576) (hx2 : bulk xss ≤ 1048576) :
    Calls Tryd.prog 88 #[.slice (some ⟨G, 0, none⟩) xss.length xss.length, .slice (some ⟨G', 0, none⟩) xss.length xss.length] w fun e w' => e = .returned (.bool true) ∧ Below w.heap.size w w' := by
  obtain ⟨_, h2, rs, h3, h4, h5, _⟩ := hx
  obtain ⟨_, k2, qs, k3, k4, k5, _⟩ := hy
  have l1 : rs.length = xss.length := by rw [← h3]; simp
  have l2 : qs.length = xss.length := by rw [← k3]; simp
  have := eqValSS_calls rs qs G 0 xss.length G' 0 xss.length w h2 k2 h4 k4 h5 k5 (h3.trans k3.symm) (by omega) (fun r hr => Nat.le_trans (bulk_mem (by rw [← h3]; exact List.mem_map_of_mem hr)) hx2)
  rw [l1, l2] at this
  exact this

set_option maxHeartbeats 1000000 in
theorem eqTable_calls (S : ByteArray) (C : Int) (xss : List (List V2)) (g G g' G' : Nat) (w : World) (hx : MadeRows w g G xss) (hy : MadeRows w g' G' xss) (b1 : xss.length ≤ 1048576) (hx2 : bulk xss ≤ 1048576) :
    Calls Tryd.prog 57 #[.agg #[.string S, .int .i64 C, .slice (some ⟨G, 0, none⟩) xss.length xss.length], .agg #[.string S, .int .i64 C, .slice (some ⟨G', 0, none⟩) xss.length xss.length]] w fun e w' => e = .returned (.bool true) ∧ Below w.heap.size w w' := by
  have EI := fun W (hb : Below w.heap.size w W) => eqRows g G g' G' W (hx.of hb) (hy.of hb) b1 hx2
  have HEI := hide EI
  have eC : (C != C) = false := by simp
  have eS : (S.toList == S.toList) = true := by simp
  clear EI hx hy
  go_enter Tryd.func57, Tryd.ntmps57
  go_wp2_with fail
  refine (unhide HEI _ (bA (bA (Below.refl _ _) _) _)).mono ?_; rintro e w1 ⟨rfl, hb1⟩
  go_wp2
  go_ret
  exact ⟨rfl, bT (bA (bA (Below.refl _ _) _) _) hb1⟩

set_option maxHeartbeats 2000000 in
theorem eqTableS_calls (ts : List Tb) (g g' cap cap' : Nat) (w : World) (hg : g < w.heap.size) (hg' : g' < w.heap.size) (hx : TablesAt w g 0 ts) (hy : TablesAt w g' 0 ts) (b1 : ts.length ≤ 1048576) (hk : ∀ t ∈ ts, t.Rows.length ≤ 1048576 ∧ bulk t.Rows ≤ 1048576) :
    Calls Tryd.prog 30 #[.slice (some ⟨g, 0, none⟩) ts.length cap, .slice (some ⟨g', 0, none⟩) ts.length cap'] w fun e w' => e = .returned (.bool true) ∧ Below w.heap.size w w' := by
  have e0 : ((ts.length : Int) != (ts.length : Int)) = false := by simp
  have HX := hide hx; have HY := hide hy; have HK := hide hk
  clear hx hy hk
  go_enter Tryd.func30, Tryd.ntmps30
  go_wp2
  go_loopw [5] (fun c wr => ∃ k : Nat, k ≤ ts.length ∧ c = .int .i64 k ∧ Below w.heap.size w wr) (fun c _ => ts.length - (intOf c).toNat)
  case atStart => exact ⟨0, Nat.zero_le _, rfl, Below.refl _ _⟩
  case round =>
    obtain ⟨k, hk1, rfl, hb⟩ := hrel
    by_cases l1 : k < ts.length
    · obtain ⟨x0, x1, Gx, x2, hmx⟩ := ((unhide HX).of hg hb).at k l1
      obtain ⟨y0, y1, Gy, y2, hmy⟩ := ((unhide HY).of hg' hb).at k l1
      obtain ⟨hkl, hkb⟩ := unhide HK _ (List.getElem_mem l1)
      simp only [Nat.zero_add] at x0 x1 x2 y0 y1 y2
      have j1 : (k : Int) < (ts.length : Int) := by omega
      have q1 : g < wr.heap.size := Nat.lt_of_lt_of_le hg hb.size
      have q2 : g' < wr.heap.size := Nat.lt_of_lt_of_le hg' hb.size
      cases e : ts[k] with | mk S C xss =>
      rw [e] at x0 x1 x2 y0 y1 y2 hmx hmy hkl hkb
      simp only at x0 x1 x2 y0 y1 y2 hmx hmy hkl hkb
      have EN : Hid (∀ W, Std wr W → Calls Tryd.prog 57 #[.agg #[.string S, .int .i64 C, .slice (some ⟨Gx, 0, none⟩) xss.length xss.length], .agg #[.string S, .int .i64 C, .slice (some ⟨Gy, 0, none⟩) xss.length xss.length]] W fun e w' => e = .returned (.bool true) ∧ Below W.heap.size W w') :=
        fun W h => eqTable_calls S C xss g Gx g' Gy W (hmx.of h.2.2) (hmy.of h.2.2) hkl hkb
      clear e hmx hmy
      go_upto_region 6 with fail
      have h1 := Below.refl wr.heap.size wr
      have h2 := h1
      go_region_held3 (Std wr) (repeat (first | with_reducible assumption | with_reducible exact Std.refl _ | with_reducible refine Std.drew ?_ | with_reducible refine Std.alloc ?_ _ | with_reducible refine Std.setCell ?_ ?_ _ | with_reducible refine Std.call ?_ (by with_reducible assumption) | (simp <;> omega) | omega)) (first | (go_at_call 57; refine (unhide EN _ (by assumption)).mono ?_; rintro e w1 ⟨rfl, hb⟩; (first | have n3 := bT h2 hb | have n3 := bT (bA h2 _) hb | have n3 := bT (Below.drew h2) hb | have n3 := bT (Below.drew (bA h2 _)) hb | have n3 := bT (bA (Below.drew h2) _) hb); (first | have n2 := bT h1 hb | have n2 := bT (bA h1 _) hb | have n2 := bT (Below.drew h1) hb | have n2 := bT (Below.drew (bA h1 _)) hb | have n2 := bT (bA (Below.drew h1) _) hb); obtain ⟨c1, f1⟩ := bcell hb; obtain ⟨c2, f2⟩ := bcell n2; obtain ⟨c3, f3⟩ := bcell n3; have hs := hb.size; (try simp at hs); clear h1 h2; have h1 := hb; have h2 := n2; clear n2 hb))
      have hS : Std wr w1 := by assumption
      have d2 := bT hb hS.2.2
      go_wp2
      go_roundw
      case rel => exact ⟨k + 1, by omega, by go_num, d2⟩
      case measure => simp [intOf]; omega
    · go_wp2
      go_ret
      exact ⟨rfl, hb⟩

theorem eqDb_calls (ts : List Tb) (g g' cap cap' : Nat) (w : World) (hg : g < w.heap.size) (hg' : g' < w.heap.size) (hx : TablesAt w g 0 ts) (hy : TablesAt w g' 0 ts) (b1 : ts.length ≤ 1048576) (hk : ∀ t ∈ ts, t.Rows.length ≤ 1048576 ∧ bulk t.Rows ≤ 1048576) :
    Calls Tryd.prog 13 #[.agg #[.slice (some ⟨g, 0, none⟩) ts.length cap], .agg #[.slice (some ⟨g', 0, none⟩) ts.length cap']] w fun e w' => e = .returned (.bool true) ∧ Below w.heap.size w w' := by
  have EN := fun W (hb : Below w.heap.size w W) => eqTableS_calls ts g g' cap cap' W (Nat.lt_of_lt_of_le hg hb.size) (Nat.lt_of_lt_of_le hg' hb.size) (hx.of hg hb) (hy.of hg' hb) b1 hk
  have HEN := hide EN
  clear EN hx hy hk
  go_enter Tryd.func13, Tryd.ntmps13
  go_wp2_with fail
  refine (unhide HEN _ (bA (bA (Below.refl _ _) _) _)).mono ?_; rintro e w1 ⟨rfl, hb1⟩
  go_wp2
  go_ret
  exact ⟨rfl, bT (bA (bA (Below.refl _ _) _) _) hb1⟩
end Go.Proofs.YtkdeilhkobcglaaDoor
