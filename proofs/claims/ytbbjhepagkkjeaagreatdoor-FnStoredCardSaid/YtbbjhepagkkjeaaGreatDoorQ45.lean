import Derived.Test.YtbbjhepagkkjeaaGreatDoorRdDb
import Derived.Test.YtbbjhepagkkjeaaGreatDoorQ42
import Derived.Deep.AppendLies
import Derived.Handy
namespace Go.Proofs.YtbbjhepagkkjeaaGreatDoor
open Go Go.RowKit
open Classical in
noncomputable def dbRes (T : ByteArray) : List Tb × Int :=
  if 20000 < T.size then ([], 1) else
    match readL [] (linesOf T) with
    | none => ([], 2)
    | some ts => if DbV ts then (ts, 0) else ([], 3)
theorem ReadPost.res {T : ByteArray} {w w' : World} {e : Ending} (h : ReadPost T w e w') :
    (∃ a cap lab cs B, e = .returned (.tuple #[.agg #[.slice a (dbRes T).1.length cap], .int .i64 (dbRes T).2]) ∧ w.heap.size ≤ B ∧ TabG w' lab B (.slice a (dbRes T).1.length cap) cs (dbRes T).1) ∧ Below w.heap.size w w' := by
  obtain ⟨h, hb⟩ := h
  refine ⟨?_, hb⟩
  have nilc : ∀ k : Int, dbRes T = ([], k) → e = noDb k → ∃ a cap lab cs B, e = .returned (.tuple #[.agg #[.slice a (dbRes T).1.length cap], .int .i64 (dbRes T).2]) ∧ w.heap.size ≤ B ∧ TabG w' lab B (.slice a (dbRes T).1.length cap) cs (dbRes T).1 := fun k hd he => by
    rw [hd]
    exact ⟨none, 0, _, [], w.heap.size, he, Nat.le_refl _, TabG.nil _ _⟩
  rcases h with ⟨h1, h2⟩ | ⟨h1, h2, h3⟩ | ⟨ts, h1, h2, (⟨h3, h4⟩ | ⟨h3, v, lab, cs, B, h4, h5, h6⟩)⟩
  · exact nilc 1 (by unfold dbRes; rw [if_pos h1]) h2
  · exact nilc 2 (by unfold dbRes; rw [if_neg (by omega), h2]) h3
  · exact nilc 3 (by unfold dbRes; rw [if_neg (by omega), h2]; simp only []; rw [if_neg h3]) h4
  · have hd : dbRes T = (ts, 0) := by unfold dbRes; rw [if_neg (by omega), h2]; simp only []; rw [if_pos h3]
    rw [hd]
    obtain ⟨a, c, rfl⟩ := h6.slice
    exact ⟨a, c, lab, cs, B, h4, h5, h6⟩
theorem dbRes_small (T : ByteArray) : bulkT (dbRes T).1 + (dbRes T).1.length ≤ 20001 := by
  unfold dbRes
  split
  · simp [bulkT]
  · cases hr : readL [] (linesOf T) with
    | none => simp [bulkT]
    | some ts =>
      simp only []
      split
      · have h1 := readL_bulk _ _ _ hr
        have h2 := wt_lines T
        simp only [bulkT, List.length_nil] at h1
        simp only []
        omega
      · simp [bulkT]
end Go.Proofs.YtbbjhepagkkjeaaGreatDoor
namespace Go.Proofs.YtbbjhepagkkjeaaGreatDoor
open Go Go.RowKit
theorem dbRes_code (T : ByteArray) : ((dbRes T).2 = 0 ∧ DbV (dbRes T).1) ∨ ((dbRes T).2 ≠ 0 ∧ (dbRes T).1 = []) := by
  unfold dbRes
  split
  · exact Or.inr ⟨by simp, rfl⟩
  · cases hr : readL [] (linesOf T) with
    | none => exact Or.inr ⟨by simp, rfl⟩
    | some ts =>
      simp only []
      split
      · rename_i h
        exact Or.inl ⟨rfl, h⟩
      · exact Or.inr ⟨by simp, rfl⟩
end Go.Proofs.YtbbjhepagkkjeaaGreatDoor
namespace Go.Proofs.YtbbjhepagkkjeaaGreatDoor
open Go Go.RowKit
def mkB (l : List UInt8) : ByteArray := ⟨l.toArray⟩
def pieces (c : UInt8) (e : Bool) (s : ByteArray) : List ByteArray := (cut c e s.data.toList).map mkB
theorem pieces_lines (s : ByteArray) : pieces 10 true s = linesOf s := rfl
theorem pieces_words (s : ByteArray) : pieces 32 false s = wordsOf s := rfl
def subL (s : ByteArray) (f k : Nat) : List UInt8 := (s.data.toList.drop f).take (k - f)
theorem sub_ext (s : ByteArray) (f k : Nat) : s.extract f k = mkB (subL s f k) := by
  have h1 := ext_list s f k
  rw [Go.ByteArray.toList_eq, Go.ByteArray.toList_eq] at h1
  apply ByteArray.ext
  apply Array.toList_inj.1
  rw [h1]
  rfl
theorem sub_len (s : ByteArray) (f k : Nat) (h : k ≤ s.size) : (subL s f k).length = k - f := by
  have h3 : s.data.toList.length = s.size := Array.length_toList
  unfold subL
  rw [List.length_take, List.length_drop]
  omega
theorem sub_nil (s : ByteArray) (f k : Nat) (h : k ≤ s.size) : subL s f k ≠ [] ↔ f < k := by
  rw [← List.length_pos_iff, sub_len s f k h]
  omega
theorem drop_at (s : ByteArray) (k : Nat) (h : k < s.size) : ∃ b, s.data.toList.drop k = b :: s.data.toList.drop (k + 1) ∧ byt s k = (b.toNat : Int) ∧ s.data.toList[k]? = some b := by
  obtain ⟨b, hb, e⟩ := byt_get s k h
  rw [Go.ByteArray.toList_eq] at hb
  obtain ⟨hl, hx⟩ := List.getElem?_eq_some_iff.1 hb
  exact ⟨b, by rw [List.drop_eq_getElem_cons hl, hx], e, hb⟩
theorem sub_snoc (s : ByteArray) (f k : Nat) (b : UInt8) (hf : f ≤ k) (h : s.data.toList[k]? = some b) : subL s f (k + 1) = subL s f k ++ [b] := by
  unfold subL
  rw [show k + 1 - f = (k - f) + 1 by omega, List.take_add_one, List.getElem?_drop, show f + (k - f) = k by omega, h]
  rfl
def CutTo (c : UInt8) (e : Bool) (s : ByteArray) (acc : List (List UInt8)) (f k : Nat) : Prop :=
  (k ≤ s.size ∧ f ≤ k ∧ acc ++ cutF c e (subL s f k) (s.data.toList.drop k) = cut c e s.data.toList) ∨ (k = s.size + 1 ∧ acc = cut c e s.data.toList)
theorem CutTo.start (c : UInt8) (e : Bool) (s : ByteArray) : CutTo c e s [] 0 0 := Or.inl ⟨Nat.zero_le _, Nat.le_refl _, by simp [subL, cut]⟩
theorem CutTo.hit {c : UInt8} {e : Bool} {s : ByteArray} {acc : List (List UInt8)} {f k : Nat} (h : CutTo c e s acc f k) (hk : k ≤ s.size) (hc : k = s.size ∨ byt s k = (c.toNat : Int)) :
    CutTo c e s (acc ++ (if e = true ∨ f < k then [subL s f k] else [])) (k + 1) (k + 1) := by
  rcases h with ⟨_, h2, h3⟩ | ⟨h2, _⟩
  · have hif : (if e = true ∨ f < k then [subL s f k] else []) = if e = true ∨ subL s f k ≠ [] then [subL s f k] else [] := by
      by_cases e1 : e = true ∨ f < k
      · rw [if_pos e1, if_pos (e1.imp id (sub_nil s f k hk).2)]
      · rw [if_neg e1, if_neg (fun x => e1 (x.imp id (sub_nil s f k hk).1))]
    rw [hif]
    by_cases hks : k = s.size
    · refine Or.inr ⟨by omega, ?_⟩
      have hd : s.data.toList.drop k = [] := List.drop_eq_nil_of_le (by rw [Array.length_toList]; exact Nat.le_of_eq hks.symm)
      rw [hd, cutF_end] at h3
      exact h3
    · have hb := hc.resolve_left hks
      obtain ⟨b, hd, eb, _⟩ := drop_at s k (by omega)
      have : b = c := UInt8.toNat_inj.1 (by omega)
      subst this
      refine Or.inl ⟨by omega, Nat.le_refl _, ?_⟩
      rw [hd, cutF_hit] at h3
      rw [List.append_assoc, show subL s (k + 1) (k + 1) = [] by simp [subL]]
      exact h3
  · omega
theorem CutTo.miss {c : UInt8} {e : Bool} {s : ByteArray} {acc : List (List UInt8)} {f k : Nat} (h : CutTo c e s acc f k) (hk : k < s.size) (hc : byt s k ≠ (c.toNat : Int)) : CutTo c e s acc f (k + 1) := by
  rcases h with ⟨_, h2, h3⟩ | ⟨h2, _⟩
  · obtain ⟨b, hd, eb, hg⟩ := drop_at s k hk
    have hbc : b ≠ c := fun e' => hc (by rw [eb, e'])
    rw [hd, cutF, if_neg hbc] at h3
    exact Or.inl ⟨by omega, by omega, by rw [sub_snoc s f k b h2 hg]; exact h3⟩
  · omega
theorem CutTo.len {c : UInt8} {e : Bool} {s : ByteArray} {acc : List (List UInt8)} {f k : Nat} (h : CutTo c e s acc f k) : acc.length ≤ s.size + 1 := by
  have h1 : acc.length ≤ (cut c e s.data.toList).length := by
    rcases h with ⟨_, _, h3⟩ | ⟨_, h3⟩
    · rw [← h3, List.length_append]; omega
    · rw [h3]; exact Nat.le_refl _
  have h2 := cutF_wt c e s.data.toList []
  have h3 : ∀ ps : List (List UInt8), ps.length ≤ wtL ps := fun ps => by
    induction ps with
    | nil => simp
    | cons x r ih => rw [wtL_cons]; simp; omega
  have h4 := h3 (cutF c e [] s.data.toList)
  have h5 : s.data.toList.length = s.size := Array.length_toList
  unfold cut at h1
  simp at h2
  omega
set_option maxRecDepth 100000 in
set_option maxHeartbeats 4000000 in
theorem l3Cut_calls (s : ByteArray) (c : UInt8) (em : Bool) (w : World) (hs : s.size ≤ 1048576) :
    Calls Tryz.prog 13 #[.string s, .int .u8 (c.toNat : Int), .bool em] w fun e w' => ∃ g cap, e = .returned (.slice (some ⟨g, 0, none⟩) (pieces c em s).length cap) ∧ w'.ownsRow w.heap.size 9 1 (.slice (some ⟨g, 0, none⟩) (pieces c em s).length cap) (pieces c em s).length ((pieces c em s).map Value.string) ∧ Below w.heap.size w w' := by
  obtain ⟨i, hi, hz⟩ := Option.map_eq_some_iff.1 (show (Tryz.prog.info? 9).map (fun i => (i.zero, i.size, i.bytes)) = some (some (.string ⟨#[]⟩), 1, 16) by kernel_rfl)
  simp only [Prod.mk.injEq] at hz
  obtain ⟨hz0, hz1, hz2⟩ := hz
  have hpc : ∀ acc, acc = cut c em s.data.toList → pieces c em s = acc.map mkB := fun acc h => by rw [h]; rfl
  have HPc := hide hpc
  clear hpc
  go_enter Tryz.func13, Tryz.ntmps13
  go_wp2
  go_loopw [7, 8, 9] (fun o f p wr => ∃ (k fr : Nat) (acc : List (List UInt8)) (g cap : Nat), k ≤ s.size + 1 ∧ p = .int .i64 k ∧ f = .int .i64 fr ∧ fr ≤ s.size + 1 ∧ CutTo c em s acc fr k ∧ o = .slice (some ⟨g, 0, none⟩) acc.length cap ∧ wr.ownsRow w.heap.size 9 1 (.slice (some ⟨g, 0, none⟩) acc.length cap) acc.length ((acc.map mkB).map Value.string) ∧ Below w.heap.size w wr) (fun _ _ p _ => s.size + 1 - (intOf p).toNat)
  case atStart => exact ⟨0, 0, [], w.heap.size, 0, Nat.zero_le _, rfl, rfl, Nat.zero_le _, CutTo.start c em s, rfl, World.ownsRow_made w #[] 0 (Nat.le_refl _) (by unfold maxLen; decide) rfl, bA (Below.refl _ _) _⟩
  case round =>
    obtain ⟨k, fr, acc, g, cap, hk, rfl, rfl, hfr, hcut, rfl, hown, hb⟩ := hrel
    by_cases hlt : k ≤ s.size
    · have j1 : (k : Int) ≤ (s.size : Int) := by omega
      have HCut := hide hcut; have HO := hide hown; have HB := hide hb
      have hlen := hcut.len
      have hfk : fr ≤ k := by rcases hcut with h | h <;> omega
      clear hcut hown hb
      by_cases hks : k = s.size
      · subst hks
        have HH := hide ((unhide HCut).hit (Nat.le_refl _) (Or.inl rfl))
        clear HCut hlt
        cases em
        · by_cases hf : fr < s.size
          · have HHit := hide (unhide HH)
            rw [if_pos (Or.inr hf)] at HHit
            have jf : (fr : Int) < (s.size : Int) := by omega
            have jf' : decide ((fr : Int) < (s.size : Int)) = true := by simp; omega
            go_wp2_with (at_builtin; refine wpList_append_lies _ rfl (.tmp 34) (.tmp 39) 48 rfl w.heap.size 9 i _ 1 16 Tryz.underlying48 hi hz0 hz1 hz2 rfl (by decide) (.slice (some ⟨g, 0, none⟩) acc.length cap) acc.length ((acc.map mkB).map Value.string) rfl ((unhide HO).alloc _) ⟨wr.heap.size, 0, none⟩ 1 1 [.string (s.extract fr s.size)] rfl rfl (World.news_of_block (cs := #[.string (s.extract fr s.size)]) (MapKept.heap_alloc wr _).1) (by intro u hu; simp at hu; subst hu; rfl) (by decide) (by unfold maxLen; omega) (by omega) (by have := (unhide HB).size; simp; omega) _ rfl ?_; intro G2 c2 w5 hown2 hgrow hat hlt2)
            have HO2 : Hid (w5.ownsRow w.heap.size 9 1 (.slice (some ⟨G2, 0, none⟩) (acc ++ [subL s fr s.size]).length c2) (acc ++ [subL s fr s.size]).length (((acc ++ [subL s fr s.size]).map mkB).map Value.string)) := by
              show World.ownsRow _ _ _ _ _ _ _
              rw [List.map_append, List.map_append, List.length_append, List.length_singleton, List.map_singleton, List.map_singleton, ← sub_ext]
              exact hown2
            have HB2 := hide ((bA (unhide HB) (.cells #[.string (s.extract fr s.size)] 9)).grown hgrow (by have := (unhide HB).size; simp; omega) (fun j hj => ((unhide HO).lt j hj).1))
            clear hown2 hgrow hat HO HB
            go_roundw
            case rel => exact ⟨s.size + 1, s.size + 1, acc ++ [subL s fr s.size], G2, c2, by omega, by go_num, by go_num, by omega, unhide HHit, by simp, unhide HO2, unhide HB2⟩
            case measure => simp [intOf]
          · have HHit := hide (unhide HH)
            rw [if_neg (by simp [hf]), List.append_nil] at HHit
            have jf : ¬ (fr : Int) < (s.size : Int) := by omega
            have jf' : decide ((fr : Int) < (s.size : Int)) = false := by simp; omega
            go_wp2
            go_roundw
            case rel => exact ⟨s.size + 1, s.size + 1, acc, g, cap, by omega, by go_num, by go_num, by omega, unhide HHit, rfl, unhide HO, unhide HB⟩
            case measure => simp [intOf]
        · have HHit := hide (unhide HH)
          rw [if_pos (Or.inl rfl)] at HHit
          go_wp2_with (at_builtin; refine wpList_append_lies _ rfl (.tmp 34) (.tmp 39) 48 rfl w.heap.size 9 i _ 1 16 Tryz.underlying48 hi hz0 hz1 hz2 rfl (by decide) (.slice (some ⟨g, 0, none⟩) acc.length cap) acc.length ((acc.map mkB).map Value.string) rfl ((unhide HO).alloc _) ⟨wr.heap.size, 0, none⟩ 1 1 [.string (s.extract fr s.size)] rfl rfl (World.news_of_block (cs := #[.string (s.extract fr s.size)]) (MapKept.heap_alloc wr _).1) (by intro u hu; simp at hu; subst hu; rfl) (by decide) (by unfold maxLen; omega) (by omega) (by have := (unhide HB).size; simp; omega) _ rfl ?_; intro G2 c2 w5 hown2 hgrow hat hlt2)
          have HO2 : Hid (w5.ownsRow w.heap.size 9 1 (.slice (some ⟨G2, 0, none⟩) (acc ++ [subL s fr s.size]).length c2) (acc ++ [subL s fr s.size]).length (((acc ++ [subL s fr s.size]).map mkB).map Value.string)) := by
            show World.ownsRow _ _ _ _ _ _ _
            rw [List.map_append, List.map_append, List.length_append, List.length_singleton, List.map_singleton, List.map_singleton, ← sub_ext]
            exact hown2
          have HB2 := hide ((bA (unhide HB) (.cells #[.string (s.extract fr s.size)] 9)).grown hgrow (by have := (unhide HB).size; simp; omega) (fun j hj => ((unhide HO).lt j hj).1))
          clear hown2 hgrow hat HO HB
          go_roundw
          case rel => exact ⟨s.size + 1, s.size + 1, acc ++ [subL s fr s.size], G2, c2, by omega, by go_num, by go_num, by omega, unhide HHit, by simp, unhide HO2, unhide HB2⟩
          case measure => simp [intOf]
      · have hkl : k < s.size := by omega
        have j2 : ((k : Int) == (s.size : Int)) = false := by simp; omega
        have j3 : (k : Int) < (s.size : Int) := by omega
        have eb := byt_eq s k hkl
        by_cases hbc : byt s k = (c.toNat : Int)
        · have HH := hide ((unhide HCut).hit (by omega) (Or.inr hbc))
          rw [hbc] at eb
          clear HCut hlt hbc
          cases em
          · by_cases hf : fr < k
            · have HHit := hide (unhide HH)
              rw [if_pos (Or.inr hf)] at HHit
              have jf : (fr : Int) < (k : Int) := by omega
              have jf' : decide ((fr : Int) < (k : Int)) = true := by simp; omega
              go_wp2_with (at_builtin; refine wpList_append_lies _ rfl (.tmp 34) (.tmp 39) 48 rfl w.heap.size 9 i _ 1 16 Tryz.underlying48 hi hz0 hz1 hz2 rfl (by decide) (.slice (some ⟨g, 0, none⟩) acc.length cap) acc.length ((acc.map mkB).map Value.string) rfl ((unhide HO).alloc _) ⟨wr.heap.size, 0, none⟩ 1 1 [.string (s.extract fr k)] rfl rfl (World.news_of_block (cs := #[.string (s.extract fr k)]) (MapKept.heap_alloc wr _).1) (by intro u hu; simp at hu; subst hu; rfl) (by decide) (by unfold maxLen; omega) (by omega) (by have := (unhide HB).size; simp; omega) _ rfl ?_; intro G2 c2 w5 hown2 hgrow hat hlt2)
              have HO2 : Hid (w5.ownsRow w.heap.size 9 1 (.slice (some ⟨G2, 0, none⟩) (acc ++ [subL s fr k]).length c2) (acc ++ [subL s fr k]).length (((acc ++ [subL s fr k]).map mkB).map Value.string)) := by
                show World.ownsRow _ _ _ _ _ _ _
                rw [List.map_append, List.map_append, List.length_append, List.length_singleton, List.map_singleton, List.map_singleton, ← sub_ext]
                exact hown2
              have HB2 := hide ((bA (unhide HB) (.cells #[.string (s.extract fr k)] 9)).grown hgrow (by have := (unhide HB).size; simp; omega) (fun j hj => ((unhide HO).lt j hj).1))
              clear hown2 hgrow hat HO HB
              go_roundw
              case rel => exact ⟨k + 1, k + 1, acc ++ [subL s fr k], G2, c2, by omega, by go_num, by go_num, by omega, unhide HHit, by simp, unhide HO2, unhide HB2⟩
              case measure => simp [intOf]; omega
            · have HHit := hide (unhide HH)
              rw [if_neg (by simp [hf]), List.append_nil] at HHit
              have jf : ¬ (fr : Int) < (k : Int) := by omega
              have jf' : decide ((fr : Int) < (k : Int)) = false := by simp; omega
              go_wp2
              go_roundw
              case rel => exact ⟨k + 1, k + 1, acc, g, cap, by omega, by go_num, by go_num, by omega, unhide HHit, rfl, unhide HO, unhide HB⟩
              case measure => simp [intOf]; omega
          · have HHit := hide (unhide HH)
            rw [if_pos (Or.inl rfl)] at HHit
            go_wp2_with (at_builtin; refine wpList_append_lies _ rfl (.tmp 34) (.tmp 39) 48 rfl w.heap.size 9 i _ 1 16 Tryz.underlying48 hi hz0 hz1 hz2 rfl (by decide) (.slice (some ⟨g, 0, none⟩) acc.length cap) acc.length ((acc.map mkB).map Value.string) rfl ((unhide HO).alloc _) ⟨wr.heap.size, 0, none⟩ 1 1 [.string (s.extract fr k)] rfl rfl (World.news_of_block (cs := #[.string (s.extract fr k)]) (MapKept.heap_alloc wr _).1) (by intro u hu; simp at hu; subst hu; rfl) (by decide) (by unfold maxLen; omega) (by omega) (by have := (unhide HB).size; simp; omega) _ rfl ?_; intro G2 c2 w5 hown2 hgrow hat hlt2)
            have HO2 : Hid (w5.ownsRow w.heap.size 9 1 (.slice (some ⟨G2, 0, none⟩) (acc ++ [subL s fr k]).length c2) (acc ++ [subL s fr k]).length (((acc ++ [subL s fr k]).map mkB).map Value.string)) := by
              show World.ownsRow _ _ _ _ _ _ _
              rw [List.map_append, List.map_append, List.length_append, List.length_singleton, List.map_singleton, List.map_singleton, ← sub_ext]
              exact hown2
            have HB2 := hide ((bA (unhide HB) (.cells #[.string (s.extract fr k)] 9)).grown hgrow (by have := (unhide HB).size; simp; omega) (fun j hj => ((unhide HO).lt j hj).1))
            clear hown2 hgrow hat HO HB
            go_roundw
            case rel => exact ⟨k + 1, k + 1, acc ++ [subL s fr k], G2, c2, by omega, by go_num, by go_num, by omega, unhide HHit, by simp, unhide HO2, unhide HB2⟩
            case measure => simp [intOf]; omega
        · have HH := hide ((unhide HCut).miss hkl hbc)
          have jb : (byt s k == (c.toNat : Int)) = false := by simp; omega
          clear HCut hlt
          generalize byt s k = bb at *
          go_wp2
          go_roundw
          case rel => exact ⟨k + 1, fr, acc, g, cap, by omega, by go_num, rfl, by omega, unhide HH, rfl, unhide HO, unhide HB⟩
          case measure => simp [intOf]; omega
    · obtain rfl : k = s.size + 1 := by omega
      have hacc : acc = cut c em s.data.toList := by
        rcases hcut with h | h
        · omega
        · exact h.2
      have hp := unhide HPc acc hacc
      have HR : Hid (∃ g cap, Ending.returned (.slice (some ⟨g, 0, none⟩) acc.length cap) = .returned (.slice (some ⟨g, 0, none⟩) (pieces c em s).length cap)) := ⟨g, cap, by rw [hp, List.length_map]⟩
      have HF : Hid (wr.ownsRow w.heap.size 9 1 (.slice (some ⟨g, 0, none⟩) (pieces c em s).length cap) (pieces c em s).length ((pieces c em s).map Value.string)) := by
        show World.ownsRow _ _ _ _ _ _ _
        rw [hp, List.length_map]
        exact hown
      have HLn : Hid ((pieces c em s).length = acc.length) := by show _ = _; rw [hp, List.length_map]
      have HB := hide hb
      clear hacc hp hown hb HR hcut
      have j1 : ¬ ((s.size : Int) + 1 ≤ (s.size : Int)) := by omega
      go_wp2
      go_ret
      exact ⟨g, cap, by rw [unhide HLn]; rfl, unhide HF, unhide HB⟩
end Go.Proofs.YtbbjhepagkkjeaaGreatDoor
