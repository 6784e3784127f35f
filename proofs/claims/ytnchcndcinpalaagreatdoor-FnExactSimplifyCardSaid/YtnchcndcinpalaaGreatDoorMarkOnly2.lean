import Derived.Test.YtnchcndcinpalaaGreatDoorQ33
/-
  THE MAP THAT STANDS WHERE A SELECT ASKED OF A MARK: the walk.
-/
namespace Go.Proofs.YtnchcndcinpalaaGreatDoor
open Go Go.RowKit

set_option maxRecDepth 100000 in
set_option maxHeartbeats 4000000 in
theorem markOnly_calls (q n : Nat) (K : Int) (w : World) (hn : n ≤ 1048575) :
    Calls Tryz.prog 36 #[.int .i64 (q : Int), .int .i64 K, .int .i64 (n : Int)] w fun e w' => ∃ (G2 : Nat) (lb : Nat → Nat) (u5 : Value), e = .returned (.agg #[.int .i64 4, .int .i64 0, .int .i64 0, .int .i64 0, .slice none 0 0, u5, .int .i64 (q : Int), .int .i64 0]) ∧
      OpssM w' u5 (colExs n ++ [[(1, if K = 10 then 1 else 0)]]) (fun b => w.heap.size ≤ b ∧ b = G2) (fun i b => w.heap.size ≤ b ∧ b ≠ G2 ∧ lb b = i) ∧ Below w.heap.size w w' := by
  obtain ⟨i, hi, hz⟩ := Option.map_eq_some_iff.1 (show (Tryz.prog.info? 64).map (fun i => (i.zero, i.size, i.bytes)) = some (some (.slice none 0 0), 1, 24) by kernel_rfl)
  simp only [Prod.mk.injEq] at hz
  obtain ⟨hz0, hz1, hz2⟩ := hz
  have HF := hide (fun W => flag_calls (K == 10) W)
  have HC := hide (fun W => columnExs_calls n n rfl W (by omega))
  have HV : (if (K == 10) = true then (1 : Int) else 0) = if K = 10 then 1 else 0 := by by_cases h : K = 10 <;> simp [h]
  have HL := hide (colExs_length n)
  rw [HV] at HF
  generalize (if K = 10 then (1 : Int) else 0) = V at *
  clear HV
  generalize colExs n = oss at *
  go_enter Tryz.func36, Tryz.ntmps36
  go_wp2_with fail
  have hb0 := bA (Below.refl w.heap.size w) (.cells #[.int .i64 0, .int .i64 0, .int .i64 0, .int .i64 0, .slice none 0 0, .slice none 0 0, .int .i64 0, .int .i64 0] 67)
  have ha0 : ∀ o, o < 8 → ∃ v, (w.alloc (.cells #[.int .i64 0, .int .i64 0, .int .i64 0, .int .i64 0, .slice none 0 0, .slice none 0 0, .int .i64 0, .int .i64 0] 67)).cell? ⟨w.heap.size, o, none⟩ = some v := fun o ho => ⟨_, by rw [World.cell?_alloc_at _ _ _ o rfl]; exact Array.getElem?_eq_getElem (by simpa using ho)⟩
  have hf0 : ∀ o, (w.alloc (.cells #[.int .i64 0, .int .i64 0, .int .i64 0, .int .i64 0, .slice none 0 0, .slice none 0 0, .int .i64 0, .int .i64 0] 67)).frozen? ⟨w.heap.size, o, none⟩ = false := fun o => by simp [go_sem]
  have hs0 : w.heap.size < (w.alloc (.cells #[.int .i64 0, .int .i64 0, .int .i64 0, .int .i64 0, .slice none 0 0, .slice none 0 0, .int .i64 0, .int .i64 0] 67)).heap.size := by simp
  have HA0 := hide ha0; have HF0 := hide hf0; have HB0 := hide hb0
  clear ha0 hf0 hb0
  generalize (w.alloc (.cells #[.int .i64 0, .int .i64 0, .int .i64 0, .int .i64 0, .slice none 0 0, .slice none 0 0, .int .i64 0, .int .i64 0] 67)) = W0 at *
  refine (unhide HF _).mono ?_; rintro e w1 ⟨rfl, hb1⟩
  have hs1 : w.heap.size < w1.heap.size := Nat.lt_of_lt_of_le hs0 hb1.size
  have HA1 := hide (fun o (ho : o < 8) => by obtain ⟨v, hv⟩ := unhide HA0 o ho; exact ⟨v, (hb1.cell (p := ⟨w.heap.size, o, none⟩) hs0).trans hv⟩ : ∀ o, o < 8 → ∃ v, w1.cell? ⟨w.heap.size, o, none⟩ = some v)
  have HF1 := hide (fun o => (hb1.frozen (p := ⟨w.heap.size, o, none⟩) hs0).trans (unhide HF0 o) : ∀ o, w1.frozen? ⟨w.heap.size, o, none⟩ = false)
  have HB1 := hide (bT (unhide HB0) hb1)
  clear HA0 HF0 HB0 hb1 hs0 HF
  clear W0
  go_upto_region 2 with fail
  have c0 : (w1.alloc (.cells #[.int .i64 1, .int .i64 V] 72)).cell? ⟨w1.heap.size, 0, none⟩ = some (.int .i64 1) := by simp [go_sem]
  have c1 : (w1.alloc (.cells #[.int .i64 1, .int .i64 V] 72)).cell? ⟨w1.heap.size, 1, none⟩ = some (.int .i64 V) := by simp [go_sem]
  have hx := bA (Below.refl w1.heap.size w1) (.cells #[.int .i64 1, .int .i64 V] 72)
  have hs2 : w1.heap.size < (w1.alloc (.cells #[.int .i64 1, .int .i64 V] 72)).heap.size := by simp
  have HA2 := hide (fun o (ho : o < 8) => by obtain ⟨v, hv⟩ := unhide HA1 o ho; exact ⟨v, (hx.cell (p := ⟨w.heap.size, o, none⟩) hs1).trans hv⟩ : ∀ o, o < 8 → ∃ v, (w1.alloc (.cells #[.int .i64 1, .int .i64 V] 72)).cell? ⟨w.heap.size, o, none⟩ = some v)
  have HF2 := hide (fun o => (hx.frozen (p := ⟨w.heap.size, o, none⟩) hs1).trans (unhide HF1 o) : ∀ o, (w1.alloc (.cells #[.int .i64 1, .int .i64 V] 72)).frozen? ⟨w.heap.size, o, none⟩ = false)
  have HB2 := hide (bT (unhide HB1) hx)
  clear HA1 HF1 HB1 hx
  generalize (w1.alloc (.cells #[.int .i64 1, .int .i64 V] 72)) = W at *
  have hs3 : w.heap.size < W.heap.size := by omega
  generalize w1.heap.size = bb at *
  clear w1
  go_region_law (first
    | (go_simp
       go_at_call 70
       refine (unhide HC _).mono ?_
       rintro e w4 ⟨G, lb, rfl, hG, hF, hO, hb⟩
       have hs4 : W.heap.size ≤ w4.heap.size := by have := hb.size; simp at this; omega
       have k0 : w4.cell? ⟨bb, 0, none⟩ = some (.int .i64 1) := (hb.cell (p := ⟨bb, 0, none⟩) (by simp; omega)).trans (by first | exact ((Below.drew (Below.refl _ _)).cell (p := ⟨bb, 0, none⟩) hs2).trans c0 | exact ((bA (Below.drew (Below.refl _ _)) _).cell (p := ⟨bb, 0, none⟩) hs2).trans c0 | exact ((bA (bA (Below.drew (Below.refl _ _)) _) _).cell (p := ⟨bb, 0, none⟩) hs2).trans c0)
       have k1 : w4.cell? ⟨bb, 1, none⟩ = some (.int .i64 V) := (hb.cell (p := ⟨bb, 1, none⟩) (by simp; omega)).trans (by first | exact ((Below.drew (Below.refl _ _)).cell (p := ⟨bb, 1, none⟩) hs2).trans c1 | exact ((bA (Below.drew (Below.refl _ _)) _).cell (p := ⟨bb, 1, none⟩) hs2).trans c1 | exact ((bA (bA (Below.drew (Below.refl _ _)) _) _).cell (p := ⟨bb, 1, none⟩) hs2).trans c1)
       have k2 : bb < w4.heap.size := by omega
       have HX := hide (And.intro hG (And.intro hF (And.intro hO hb)))
       clear hG hF hO hb
       go_wp2_with fail)
    | (obtain ⟨hG, hF, hO, hb⟩ := unhide HX
       have hGl : W.heap.size ≤ G := by (have h' := hG); (try simp at h'); omega
       have hBW : Below W.heap.size W ((w4.alloc (.cells #[.int .i64 1, .int .i64 V] 72)).alloc (.cells #[.slice (some ⟨w4.heap.size, 0, none⟩) 1 1] 64)) := bA (bA (bT (Below.drew (Below.refl _ _)) hb) _) _
       have T : Tail1 ((w4.alloc (.cells #[.int .i64 1, .int .i64 V] 72)).alloc (.cells #[.slice (some ⟨w4.heap.size, 0, none⟩) 1 1] 64)) (w.heap.size + 1) G n w4.heap.size lb oss [(1, V)] := (Tail1.after (by omega) (unhide HL) hF hO (Nat.le_refl _) (bA (Below.refl _ _) _) ((opsM_one 72 (Nat.le_refl _)).mono (fun b hb e => by simp at hb; omega))).of (bA (Below.refl _ _) _)
       obtain ⟨cs, hcs1, hcs2⟩ := T.owns (by omega)
       refine step_append_lies _ rfl (.tmp 14) (.tmp 17) 65 rfl (w.heap.size + 1) 64 i _ 1 24 Tryz.underlying65 hi hz0 hz1 hz2 rfl (by decide) (.slice (some ⟨G, 0, none⟩) n n) n cs rfl hcs1 ⟨_, 0, none⟩ 1 1 [.slice (some ⟨w4.heap.size, 0, none⟩) 1 1] rfl rfl (World.news_of_block (cs := #[.slice (some ⟨w4.heap.size, 0, none⟩) 1 1]) (B := w4.heap.size + 1) (by have h' := (MapKept.heap_alloc (w4.alloc (.cells #[.int .i64 1, .int .i64 V] 72)) (.cells #[.slice (some ⟨w4.heap.size, 0, none⟩) 1 1] 64)).1; rw [show (w4.alloc (.cells #[.int .i64 1, .int .i64 V] 72)).heap.size = w4.heap.size + 1 by simp] at h'; exact h')) (by intro u hu; simp at hu; subst hu; rfl) (by decide) (by unfold maxLen; omega) (by omega) (by (try simp); omega) _ rfl ?_
       intro G2 c2 w7 hown hgrow hat hlt2
       have hbs : w4.heap.size < (((w4.alloc (.cells #[.int .i64 1, .int .i64 V] 72)).alloc (.cells #[.slice (some ⟨w4.heap.size, 0, none⟩) 1 1] 64))).heap.size := by (have h9 := hb.size); (try simp at h9); (try simp); omega
       obtain ⟨lb2, hP⟩ := T.push hcs2 (by have := hcs1.1; omega) hbs hown hgrow hat
       have HP := hide hP
       have HB7 := hide (((unhide HB2).trans (hBW.mono (Nat.le_of_lt hs3))).grown hgrow (by have := hBW.size; omega) (fun k hk => by have : G = k := (by simpa [Value.ownBlock] using hk); omega))
       have HA7 := hide (fun o (ho : o < 8) => by obtain ⟨v, hv⟩ := unhide HA2 o ho; exact ⟨v, hgrow.cell ((hBW.cell (p := ⟨w.heap.size, o, none⟩) hs3).trans hv) (by simp [Value.ownBlock]; omega)⟩ : ∀ o, o < 8 → ∃ v, w7.cell? ⟨w.heap.size, o, none⟩ = some v)
       have HF7 := hide (fun o => (World.frozen?_of_block (a := ⟨w.heap.size, o, none⟩) (hgrow.block w.heap.size (by have := hBW.size; omega) (by simp [Value.ownBlock]; omega))).trans ((hBW.frozen (p := ⟨w.heap.size, o, none⟩) hs3).trans (unhide HF2 o)) : ∀ o, w7.frozen? ⟨w.heap.size, o, none⟩ = false)
       have hs7 : w.heap.size < w7.heap.size := by have := hgrow.size; have := hBW.size; omega
       obtain ⟨v0, a0⟩ := unhide HA7 0 (by omega)
       obtain ⟨v1, a1⟩ := unhide HA7 1 (by omega)
       obtain ⟨v2, a2⟩ := unhide HA7 2 (by omega)
       obtain ⟨v3, a3⟩ := unhide HA7 3 (by omega)
       obtain ⟨v4, a4⟩ := unhide HA7 4 (by omega)
       obtain ⟨v5, a5⟩ := unhide HA7 5 (by omega)
       obtain ⟨v6, a6⟩ := unhide HA7 6 (by omega)
       obtain ⟨v7, a7⟩ := unhide HA7 7 (by omega)
       have hf7 := unhide HF7
       clear hP hown hgrow hat T hcs1 hcs2 hBW hG hF hO hb HX k0 k1 k2 HA7 HF7 hlt2 hs4 hGl hbs)
    | (obtain ⟨hG, hF, hO, hb⟩ := unhide HX
       have hGl : W.heap.size ≤ G := by (have h' := hG); (try simp at h'); omega
       have hBW : Below W.heap.size W (w4.alloc (.cells #[.slice (some ⟨W.heap.size, 0, none⟩) 1 1] 64)) := bA (bT (Below.drew (bA (Below.refl _ _) _)) hb) _
       have T : Tail1 (w4.alloc (.cells #[.slice (some ⟨W.heap.size, 0, none⟩) 1 1] 64)) (w.heap.size + 1) G n W.heap.size lb oss [(1, V)] := (Tail1.lists (w := (W.alloc (.cells #[.int .i64 1, .int .i64 V] 72)).drew) (by omega) ((((opsM_one 72 (Nat.le_refl _)).mono (fun b hb e => by simp at hb; omega)) : OpsM (W.alloc (.cells #[.int .i64 1, .int .i64 V] 72)) (.slice (some ⟨W.heap.size, 0, none⟩) 1 1) [(1, V)] (fun b => b = W.heap.size)).of (Below.drew (Below.refl _ _))) (by simp) hb (unhide HL) hG hF hO).of (bA (Below.refl _ _) _)
       obtain ⟨cs, hcs1, hcs2⟩ := T.owns (by omega)
       refine step_append_lies _ rfl (.tmp 14) (.tmp 17) 65 rfl (w.heap.size + 1) 64 i _ 1 24 Tryz.underlying65 hi hz0 hz1 hz2 rfl (by decide) (.slice (some ⟨G, 0, none⟩) n n) n cs rfl hcs1 ⟨_, 0, none⟩ 1 1 [.slice (some ⟨W.heap.size, 0, none⟩) 1 1] rfl rfl (World.news_of_block (cs := #[.slice (some ⟨W.heap.size, 0, none⟩) 1 1]) (MapKept.heap_alloc w4 (.cells #[.slice (some ⟨W.heap.size, 0, none⟩) 1 1] 64)).1) (by intro u hu; simp at hu; subst hu; rfl) (by decide) (by unfold maxLen; omega) (by omega) (by (try simp); omega) _ rfl ?_
       intro G2 c2 w7 hown hgrow hat hlt2
       have hbs : W.heap.size < ((w4.alloc (.cells #[.slice (some ⟨W.heap.size, 0, none⟩) 1 1] 64))).heap.size := by (have h9 := hb.size); (try simp at h9); (try simp); omega
       obtain ⟨lb2, hP⟩ := T.push hcs2 (by have := hcs1.1; omega) hbs hown hgrow hat
       have HP := hide hP
       have HB7 := hide (((unhide HB2).trans (hBW.mono (Nat.le_of_lt hs3))).grown hgrow (by have := hBW.size; omega) (fun k hk => by have : G = k := (by simpa [Value.ownBlock] using hk); omega))
       have HA7 := hide (fun o (ho : o < 8) => by obtain ⟨v, hv⟩ := unhide HA2 o ho; exact ⟨v, hgrow.cell ((hBW.cell (p := ⟨w.heap.size, o, none⟩) hs3).trans hv) (by simp [Value.ownBlock]; omega)⟩ : ∀ o, o < 8 → ∃ v, w7.cell? ⟨w.heap.size, o, none⟩ = some v)
       have HF7 := hide (fun o => (World.frozen?_of_block (a := ⟨w.heap.size, o, none⟩) (hgrow.block w.heap.size (by have := hBW.size; omega) (by simp [Value.ownBlock]; omega))).trans ((hBW.frozen (p := ⟨w.heap.size, o, none⟩) hs3).trans (unhide HF2 o)) : ∀ o, w7.frozen? ⟨w.heap.size, o, none⟩ = false)
       have hs7 : w.heap.size < w7.heap.size := by have := hgrow.size; have := hBW.size; omega
       obtain ⟨v0, a0⟩ := unhide HA7 0 (by omega)
       obtain ⟨v1, a1⟩ := unhide HA7 1 (by omega)
       obtain ⟨v2, a2⟩ := unhide HA7 2 (by omega)
       obtain ⟨v3, a3⟩ := unhide HA7 3 (by omega)
       obtain ⟨v4, a4⟩ := unhide HA7 4 (by omega)
       obtain ⟨v5, a5⟩ := unhide HA7 5 (by omega)
       obtain ⟨v6, a6⟩ := unhide HA7 6 (by omega)
       obtain ⟨v7, a7⟩ := unhide HA7 7 (by omega)
       have hf7 := unhide HF7
       clear hP hown hgrow hat T hcs1 hcs2 hBW hG hF hO hb HX k0 k1 k2 HA7 HF7 hlt2 hs4 hGl hbs)
    | (obtain ⟨hG, hF, hO, hb⟩ := unhide HX
       have hGl : W.heap.size ≤ G := by (have h' := hG); (try simp at h'); omega
       have hBW : Below W.heap.size W w4 := bT (Below.drew (bA (bA (Below.refl _ _) _) _)) hb
       have T : Tail1 w4 (w.heap.size + 1) G n W.heap.size lb oss [(1, V)] := Tail1.lists (w := ((W.alloc (.cells #[.int .i64 1, .int .i64 V] 72)).alloc (.cells #[.slice (some ⟨W.heap.size, 0, none⟩) 1 1] 64)).drew) (by omega) ((((opsM_one 72 (Nat.le_refl _)).mono (fun b hb e => by simp at hb; omega)) : OpsM (W.alloc (.cells #[.int .i64 1, .int .i64 V] 72)) (.slice (some ⟨W.heap.size, 0, none⟩) 1 1) [(1, V)] (fun b => b = W.heap.size)).of (Below.drew (bA (Below.refl _ _) _))) (by simp; omega) hb (unhide HL) hG hF hO
       obtain ⟨cs, hcs1, hcs2⟩ := T.owns (by omega)
       refine step_append_lies _ rfl (.tmp 14) (.tmp 17) 65 rfl (w.heap.size + 1) 64 i _ 1 24 Tryz.underlying65 hi hz0 hz1 hz2 rfl (by decide) (.slice (some ⟨G, 0, none⟩) n n) n cs rfl hcs1 ⟨_, 0, none⟩ 1 1 [.slice (some ⟨W.heap.size, 0, none⟩) 1 1] rfl rfl (fun j u hj => by have hj0 : j = 0 := (by have := (List.getElem?_eq_some_iff.1 hj).1; simp at this; omega); subst hj0; simp at hj; subst hj; exact (hb.cell (p := ⟨W.heap.size + 1, 0, none⟩) (by simp)).trans (by simp [go_sem])) (by intro u hu; simp at hu; subst hu; rfl) (by decide) (by unfold maxLen; omega) (by omega) (by (try simp); omega) _ rfl ?_
       intro G2 c2 w7 hown hgrow hat hlt2
       have hbs : W.heap.size < (w4).heap.size := by (have h9 := hb.size); (try simp at h9); (try simp); omega
       obtain ⟨lb2, hP⟩ := T.push hcs2 (by have := hcs1.1; omega) hbs hown hgrow hat
       have HP := hide hP
       have HB7 := hide (((unhide HB2).trans (hBW.mono (Nat.le_of_lt hs3))).grown hgrow (by have := hBW.size; omega) (fun k hk => by have : G = k := (by simpa [Value.ownBlock] using hk); omega))
       have HA7 := hide (fun o (ho : o < 8) => by obtain ⟨v, hv⟩ := unhide HA2 o ho; exact ⟨v, hgrow.cell ((hBW.cell (p := ⟨w.heap.size, o, none⟩) hs3).trans hv) (by simp [Value.ownBlock]; omega)⟩ : ∀ o, o < 8 → ∃ v, w7.cell? ⟨w.heap.size, o, none⟩ = some v)
       have HF7 := hide (fun o => (World.frozen?_of_block (a := ⟨w.heap.size, o, none⟩) (hgrow.block w.heap.size (by have := hBW.size; omega) (by simp [Value.ownBlock]; omega))).trans ((hBW.frozen (p := ⟨w.heap.size, o, none⟩) hs3).trans (unhide HF2 o)) : ∀ o, w7.frozen? ⟨w.heap.size, o, none⟩ = false)
       have hs7 : w.heap.size < w7.heap.size := by have := hgrow.size; have := hBW.size; omega
       obtain ⟨v0, a0⟩ := unhide HA7 0 (by omega)
       obtain ⟨v1, a1⟩ := unhide HA7 1 (by omega)
       obtain ⟨v2, a2⟩ := unhide HA7 2 (by omega)
       obtain ⟨v3, a3⟩ := unhide HA7 3 (by omega)
       obtain ⟨v4, a4⟩ := unhide HA7 4 (by omega)
       obtain ⟨v5, a5⟩ := unhide HA7 5 (by omega)
       obtain ⟨v6, a6⟩ := unhide HA7 6 (by omega)
       obtain ⟨v7, a7⟩ := unhide HA7 7 (by omega)
       have hf7 := unhide HF7
       clear hP hown hgrow hat T hcs1 hcs2 hBW hG hF hO hb HX k0 k1 k2 HA7 HF7 hlt2 hs4 hGl hbs))
  all_goals (
    go_wp2
    refine bodyPost_ret (v := .agg #[.int .i64 4, .int .i64 0, .int .i64 0, .int .i64 0, .slice none 0 0, .slice (some ⟨G2, 0, none⟩) (n + 1) c2, .int .i64 (q : Int), .int .i64 0]) (by simp [results, Tryz.results36, go_sem, a0, a1, a2, a3, a4, a5, a6, a7]) rfl ⟨G2, lb2, _, rfl, ?_, ?_⟩
    · refine OpssM.mono (So := fun b => w.heap.size + 1 ≤ b ∧ b = G2) (Si := fun i b => w.heap.size + 1 ≤ b ∧ b ≠ G2 ∧ lb2 b = i) ?_ (fun b _ e => ⟨by omega, e.2⟩) (fun _ b _ e => ⟨by omega, e.2⟩)
      (repeat (refine OpssM.stored ?_ (fun b hb => by omega) (fun _ b hb => by omega) _))
      exact unhide HP
    · (repeat (refine Below.setCell ?_ (by dsimp only; omega) _))
      exact unhide HB7)
end Go.Proofs.YtnchcndcinpalaaGreatDoor
