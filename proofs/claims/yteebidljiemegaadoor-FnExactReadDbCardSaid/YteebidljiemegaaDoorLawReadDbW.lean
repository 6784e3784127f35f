import Derived.Test.YteebidljiemegaaDoorRdSDb
import Derived.Test.YteebidljiemegaaDoorDbMk2
namespace Go.Proofs.YteebidljiemegaaDoor
open Go Go.RowKit
open Classical in
noncomputable def dbRes (T : ByteArray) : List Tb × Int :=
  if 20000 < T.size then ([], 1) else
    match readL [] (linesOf T) with
    | none => ([], 2)
    | some ts => if DbV ts then (ts, 0) else ([], 3)
theorem ReadPost.res {T : ByteArray} {w w' : World} {e : Ending} (h : ReadPost T w e w') :
    (∃ a cap lab cs B, e = .returned (.tuple #[.agg #[.slice a (dbRes T).1.length cap], .int .i64 (dbRes T).2]) ∧ w.heap.size ≤ B ∧ TabG w' lab B (.slice a (dbRes T).1.length cap) cs (dbRes T).1) ∧ Below w.heap.size w w' := by
  obtain ⟨h, hb⟩ := h
  refine ⟨?_, hb⟩
  have nilc : ∀ k : Int, dbRes T = ([], k) → e = noDb k → ∃ a cap lab cs B, e = .returned (.tuple #[.agg #[.slice a (dbRes T).1.length cap], .int .i64 (dbRes T).2]) ∧ w.heap.size ≤ B ∧ TabG w' lab B (.slice a (dbRes T).1.length cap) cs (dbRes T).1 := fun k hd he => by
    rw [hd]
    exact ⟨none, 0, _, [], w.heap.size, he, Nat.le_refl _, TabG.nil _ _⟩
  rcases h with ⟨h1, h2⟩ | ⟨h1, h2, h3⟩ | ⟨ts, h1, h2, (⟨h3, h4⟩ | ⟨h3, v, lab, cs, B, h4, h5, h6⟩)⟩
  · exact nilc 1 (by unfold dbRes; rw [if_pos h1]) h2
  · exact nilc 2 (by unfold dbRes; rw [if_neg (by omega), h2]) h3
  · exact nilc 3 (by unfold dbRes; rw [if_neg (by omega), h2]; simp only []; rw [if_neg h3]) h4
  · have hd : dbRes T = (ts, 0) := by unfold dbRes; rw [if_neg (by omega), h2]; simp only []; rw [if_pos h3]
    rw [hd]
    obtain ⟨a, c, rfl⟩ := h6.slice
    exact ⟨a, c, lab, cs, B, h4, h5, h6⟩
theorem kTs_le : ∀ (ts : List Tb), kTs ts ≤ 2 * ts.length + 2 * bulkT ts
  | [] => by simp [kTs]
  | t :: r => by
    have := kTs_le r
    simp only [kTs, bulkT, List.length_cons]
    omega
theorem dbRes_small (T : ByteArray) : bulkT (dbRes T).1 + (dbRes T).1.length ≤ 20001 := by
  unfold dbRes
  split
  · simp [bulkT]
  · cases hr : readL [] (linesOf T) with
    | none => simp [bulkT]
    | some ts =>
      simp only []
      split
      · have h1 := readL_bulk _ _ _ hr
        have h2 := wt_lines T
        simp only [bulkT, List.length_nil] at h1
        simp only []
        omega
      · simp [bulkT]
set_option maxRecDepth 100000 in
set_option maxHeartbeats 8000000 in
theorem lawReadDb_calls (T : ByteArray) (w : World) (hK : TKw w) : Calls Tryd.prog 3 #[.string T] w fun e w' => e = .returned (.bool true) ∧ Below w.heap.size w w' := by
  by_cases hbig : 1048576 < T.size
  · have j : (1048576 : Int) < (T.size : Int) := by omega
    clear hK
    go_enter Tryd.func3, Tryd.ntmps3
    go_wp2
    go_ret
    exact ⟨rfl, Below.refl _ _⟩
  have j : ¬ (1048576 : Int) < (T.size : Int) := by omega
  have HS := hide (fun W => (sReadDb_calls T W).mono (fun _ _ hp => hp.res))
  have HI := hide (fun W (hb : Below w.heap.size w W) => (ReadDb_calls T W (hK.of hb)).mono (fun _ _ hp => hp.res))
  have hsm := dbRes_small T
  generalize (dbRes T).2 = code at *
  generalize (dbRes T).1 = ts at *
  have b1 : ts.length ≤ 1048576 := by omega
  have hk : ∀ t ∈ ts, t.Rows.length ≤ 1048576 ∧ bulk t.Rows ≤ 1048576 := fun t ht => by have := bulkT_mem ht; omega
  have hkt := kTs_le ts
  have HKs := hide hk
  have ec : ((code : Int) != code) = false := by simp
  clear hK hk
  go_enter Tryd.func3, Tryd.ntmps3
  go_wp2_with fail
  refine (unhide HS _).mono ?_; rintro e w1 ⟨⟨a0, c0, lab0, cs0, B0, rfl, hB0, hT0⟩, hb1⟩
  have HT0 := hide hT0; have HB1 := hide hb1
  have hs1 := hb1.size
  clear hT0 hb1 HS
  go_wp2_with fail
  refine (unhide HI _ (by (repeat (first | exact unhide HB1 | refine Below.setCell ?_ (by dsimp only; omega) _ | refine bA ?_ _)))).mono ?_
  rintro e w2 ⟨⟨a1, c1, lab1, cs1, B1, rfl, hB1, hT1⟩, hb2⟩
  have hs2 : w1.heap.size + 1 ≤ w2.heap.size := by have := hb2.size; simpa using this
  have hB1' : w1.heap.size + 1 ≤ B1 := by simpa using hB1
  have p0 : w2.cell? ⟨w1.heap.size, 0, none⟩ = some (.slice a0 ts.length c0) := (hb2.cell (p := ⟨w1.heap.size, 0, none⟩) (by simp)).trans (by simp [go_sem])
  have HQ2 := hide (bT (bA (Below.refl w1.heap.size w1) (.cells #[.slice a0 ts.length c0] 24)) hb2)
  have HP3 := hide (bA (unhide HQ2) (.cells #[.slice a1 ts.length c1] 24))
  have HT1 := hide (hT1.of (bA (Below.refl w2.heap.size w2) (.cells #[.slice a1 ts.length c1] 24)))
  have HOw : Hid (∀ b, ((Value.slice a1 ts.length c1).ownBlock = some b ∨ (lab1 b).1 ≤ 1) → w1.heap.size + 1 ≤ b ∧ b < w2.heap.size) := fun b hb => by
    rcases hb with e | e
    · have := hT1.blk b e; omega
    · have := hT1.rng b e; omega
  have HEq := hide (eqDbE ts a1 a0 c1 c0 _ (unhide HT1).tabsE ((unhide HT0).of (unhide HP3)).tabsE b1 (unhide HKs))
  have e0a := (alloc_cell w2 (.cells #[.slice a1 ts.length c1] 24) w1.heap.size 0 (by omega)).trans p0
  obtain ⟨w3, hw3⟩ : ∃ w3, w3 = w2.alloc (.cells #[.slice a1 ts.length c1] 24) := ⟨_, rfl⟩
  have e1 : w3.cell? ⟨w2.heap.size, 0, none⟩ = some (.slice a1 ts.length c1) := by rw [hw3]; simp [go_sem]
  have hs3 : w3.heap.size = w2.heap.size + 1 := by rw [hw3]; simp
  have e0 : w3.cell? ⟨w1.heap.size, 0, none⟩ = some (.slice a0 ts.length c0) := by rw [hw3]; exact e0a
  rw [← hw3] at HP3 HT1 HEq
  clear hT1 hb2 p0 HQ2 hB1
  go_wp2_with fail
  rw [← hw3]
  clear hw3 e0a
  refine (unhide HEq).mono ?_; rintro e w4 ⟨rfl, hb4⟩
  have q0 := (hb4.cell (p := ⟨w1.heap.size, 0, none⟩) (by dsimp only; omega)).trans e0
  have q1 := (hb4.cell (p := ⟨w2.heap.size, 0, none⟩) (by dsimp only; omega)).trans e1
  have hs4 := hb4.size
  have HP4 := hide ((unhide HP3).trans (hb4.mono (by omega)))
  have HMk := hide (markDb_K ts a1 lab1 B1 c1 1 cs1 w4 ((unhide HT1).of hb4) b1 (unhide HKs) (Nat.le_refl _) (by omega))
  clear hb4 e0 e1 HP3 HT1 HEq
  generalize hkk : 1 + kTs ts = kk at *
  have kn : ¬ ((kk : Int) < 0) := by omega
  have ek : ((kk : Int) != (kk : Int)) = false := by simp
  go_wp2_with fail
  refine (unhide HMk).mono ?_; rintro e w5 ⟨rfl, ⟨us, rss, hMA⟩, hBM⟩
  have hl5 : Below (w1.heap.size + 1) w4 w5 := hBM.low _ (fun b hb => (unhide HOw b hb).1) (by omega)
  have r0 := (hl5.cell (p := ⟨w1.heap.size, 0, none⟩) (by dsimp only; omega)).trans q0
  have r1 := (hBM.cell w2.heap.size 0 (by omega) (fun hb => by have := unhide HOw _ hb; omega)).trans q1
  have hs5 := hBM.size
  have HP5 := hide ((unhide HP4).trans (hl5.mono (by omega)))
  have HMA := hide hMA
  have HH5 : Hid (∀ W, Below w5.heap.size w5 W → Calls Tryd.prog 8 #[.agg #[.slice a1 ts.length c1], .int .i64 1] W fun e w' => e = .returned (.int .i64 (kk : Int)) ∧ Below W.heap.size W w') := fun W hb => by
    have := heldDb_K ts a1 lab1 c1 1 us rss W ((unhide HMA).of hb) b1 (unhide HKs) (Nat.le_refl _) (by omega)
    rw [hkk] at this
    exact this
  clear hMA hBM hl5 q0 q1 HP4 HMk HOw
  go_wp2_with fail
  refine (unhide HH5 _ (Below.refl _ _)).mono ?_; rintro e w6 ⟨rfl, hb6⟩
  have t0 := (hb6.cell (p := ⟨w1.heap.size, 0, none⟩) (by dsimp only; omega)).trans r0
  have t1 := (hb6.cell (p := ⟨w2.heap.size, 0, none⟩) (by dsimp only; omega)).trans r1
  have hs6 := hb6.size
  have HP6 := hide ((unhide HP5).trans (hb6.mono (by omega)))
  have HB6 := hide hb6
  clear hb6 r0 r1 HP5
  go_wp2_with fail
  refine (unhide HI _ ((unhide HB1).trans ((unhide HP6).mono hs1))).mono ?_
  rintro e w7 ⟨⟨a2, c2, lab2, cs2, B2, rfl, hB2, hT2⟩, hb7⟩
  have hs7 := hb7.size
  have y0 := (hb7.cell (p := ⟨w1.heap.size, 0, none⟩) (by dsimp only; omega)).trans t0
  have y1 := (hb7.cell (p := ⟨w2.heap.size, 0, none⟩) (by dsimp only; omega)).trans t1
  have y0a := (alloc_cell w7 (.cells #[.slice a2 ts.length c2] 24) w1.heap.size 0 (by omega)).trans y0
  have y1a := (alloc_cell w7 (.cells #[.slice a2 ts.length c2] 24) w2.heap.size 0 (by omega)).trans y1
  obtain ⟨w8, hw8⟩ : ∃ w8, w8 = w7.alloc (.cells #[.slice a2 ts.length c2] 24) := ⟨_, rfl⟩
  have z0 : w8.cell? ⟨w1.heap.size, 0, none⟩ = some (.slice a0 ts.length c0) := by rw [hw8]; exact (alloc_cell _ _ _ _ (by omega)).trans y0
  have z1 : w8.cell? ⟨w2.heap.size, 0, none⟩ = some (.slice a1 ts.length c1) := by rw [hw8]; exact (alloc_cell _ _ _ _ (by omega)).trans y1
  have z2 : w8.cell? ⟨w7.heap.size, 0, none⟩ = some (.slice a2 ts.length c2) := by rw [hw8]; simp [go_sem]
  have hb8 : Below w7.heap.size w7 w8 := by rw [hw8]; exact bA (Below.refl _ _) _
  have hs8 : w8.heap.size = w7.heap.size + 1 := by rw [hw8]; simp
  have HP8 := hide ((unhide HP6).trans ((hb7.mono (by omega)).trans (hb8.mono (by omega))))
  have HB8 := hide (((unhide HB6).trans (hb7.mono hs6)).trans (hb8.mono (by omega)))
  have HEq := hide (eqDbE ts a2 a0 c2 c0 w8 ((hT2.of hb8)).tabsE ((unhide HT0).of (unhide HP8)).tabsE b1 (unhide HKs))
  clear hT2 hb7 y0 y1 hb8 HP6 HB6 HI t0 t1
  go_wp2_with fail
  rw [← hw8]
  clear hw8 y0a y1a
  refine (unhide HEq).mono ?_; rintro e w9 ⟨rfl, hb9⟩
  have x1 := (hb9.cell (p := ⟨w2.heap.size, 0, none⟩) (by dsimp only; omega)).trans z1
  have hs9 := hb9.size
  have HB9 := hide ((unhide HB8).trans (hb9.mono (by omega)))
  have HP9 := hide ((unhide HP8).trans (hb9.mono (by omega)))
  clear hb9 z0 z1 z2 HP8 HB8 HEq
  go_wp2_with fail
  refine (unhide HH5 _ (unhide HB9)).mono ?_; rintro e w10 ⟨rfl, hb10⟩
  have HPe := hide ((unhide HB1).trans (((unhide HP9).trans (hb10.mono (by omega))).mono hs1))
  clear hb10 x1 HP9 HB9
  go_wp2
  go_ret
  exact ⟨rfl, unhide HPe⟩
end Go.Proofs.YteebidljiemegaaDoor
