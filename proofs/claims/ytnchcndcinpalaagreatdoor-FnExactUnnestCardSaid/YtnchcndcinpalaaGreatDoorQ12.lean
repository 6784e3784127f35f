import Derived.Test.YtnchcndcinpalaaGreatDoorQ11
import Derived.Test.YtnchcndcinpalaaGreatDoorQ2
namespace Go.Proofs.YtnchcndcinpalaaGreatDoor
open Go Go.RowKit
def vOps (xs : List O2) : List Value := xs.flatMap fun x => [.int .i64 x.1, .int .i64 x.2]
theorem vOps_length (xs : List O2) : (vOps xs).length = 2 * xs.length := by
  induction xs with
  | nil => rfl
  | cons x r ih => simp only [vOps, List.flatMap_cons, List.length_append, List.length_cons, List.length_nil] at ih ⊢; omega
theorem vOps_at (xs : List O2) : ∀ (i : Nat) (x : O2), xs[i]? = some x → (vOps xs)[i * 2]? = some (.int .i64 x.1) ∧ (vOps xs)[i * 2 + 1]? = some (.int .i64 x.2) := by
  induction xs with
  | nil => intro i x h; simp at h
  | cons y r ih =>
    intro i x h
    cases i with
    | zero =>
      simp only [List.getElem?_cons_zero, Option.some.injEq] at h
      subst h
      exact ⟨rfl, rfl⟩
    | succ i =>
      have := ih i x (by simpa using h)
      have e : vOps (y :: r) = .int .i64 y.1 :: .int .i64 y.2 :: vOps r := rfl
      rw [e, show (i + 1) * 2 = i * 2 + 1 + 1 by omega]
      exact this
theorem one_vOps (xs : List O2) : ∀ u ∈ vOps xs, u.oneCell' = true := fun u hu => by
  unfold vOps at hu
  obtain ⟨x, _, hx⟩ := List.mem_flatMap.1 hu
  simp only [List.mem_cons, List.mem_nil_iff, or_false] at hx
  rcases hx with rfl | rfl <;> rfl
theorem news_ops {w : World} {g off : Nat} {xs : List O2} (h : OpsAt w g off xs) : ∀ j u, (vOps xs)[j]? = some u → w.cell? ((⟨g, off, none⟩ : Addr).add j) = some u := fun j u hu => by
  have hj := (List.getElem?_eq_some_iff.1 hu).1
  rw [vOps_length] at hj
  have hi : j / 2 < xs.length := by omega
  obtain ⟨f0, f1⟩ := vOps_at xs (j / 2) xs[j / 2] (List.getElem?_eq_getElem hi)
  obtain ⟨c0, c1⟩ := h (j / 2) xs[j / 2] (List.getElem?_eq_getElem hi)
  rw [Go.WideShapes.add_plain]
  by_cases e : j % 2 = 0
  · have e2 : j / 2 * 2 = j := by omega
    rw [e2] at f0 c0
    rw [f0] at hu
    rw [c0, ← hu]
  · have e2 : j / 2 * 2 + 1 = j := by omega
    rw [e2] at f1
    rw [show off + j / 2 * 2 + 1 = off + j by omega] at c1
    rw [f1] at hu
    rw [c1, ← hu]
theorem opsM_of_owns {w : World} {B G c : Nat} {xs : List O2} (h : w.ownsRow B 72 2 (.slice (some ⟨G, 0, none⟩) xs.length c) xs.length (vOps xs)) : OpsM w (.slice (some ⟨G, 0, none⟩) xs.length c) xs (fun b => B ≤ b) := by
  rcases h.2 with ⟨h1, _⟩ | ⟨g', cap', cur, h1, h2, h3, h4, h5, h6, h7⟩
  · simp at h1
  · simp only [Value.slice.injEq, Option.some.injEq, Addr.mk.injEq, and_true, true_and] at h1
    obtain ⟨rfl, rfl⟩ := h1
    have hcell : ∀ i x, xs[i]? = some x → w.cell? ⟨G, i * 2, none⟩ = some (.int .i64 x.1) ∧ w.cell? ⟨G, i * 2 + 1, none⟩ = some (.int .i64 x.2) := fun i x hx => by
      have hi := (List.getElem?_eq_some_iff.1 hx).1
      obtain ⟨e0, e1⟩ := vOps_at xs i x hx
      rw [← h7, List.getElem?_take, if_pos (by omega)] at e0 e1
      simp only [World.cell?, h3]
      exact ⟨by simpa using e0, by simpa using e1⟩
    refine Or.inr ⟨G, c, rfl, h4, h2, (Array.getElem?_eq_some_iff.1 h3).1, fun o => ?_, fun o ho => ?_, fun i x hx => by simpa using hcell i x hx⟩
    · simp [World.frozen?, h3]
    · have hi : o / 2 < xs.length := by omega
      obtain ⟨e0, e1⟩ := hcell (o / 2) xs[o / 2] (List.getElem?_eq_getElem hi)
      by_cases e : o % 2 = 0
      · exact ⟨_, by rw [show o = o / 2 * 2 by omega]; exact e0⟩
      · exact ⟨_, by rw [show o = o / 2 * 2 + 1 by omega]; exact e1⟩
set_option maxRecDepth 100000 in
set_option maxHeartbeats 2000000 in
theorem l4Copy_calls (xs : List O2) (g off cap : Nat) (w : World) (hg : g < w.heap.size) (hr : OpsAt w g off xs) (hn : xs.length ≤ 1048576) :
    Calls Tryz.prog 58 #[.slice (some ⟨g, off, none⟩) xs.length cap] w fun e w' => ∃ u, e = .returned u ∧ OpsM w' u xs (fun b => w.heap.size ≤ b) ∧ Below w.heap.size w w' := by
  obtain ⟨i, hi, hz⟩ := Option.map_eq_some_iff.1 (show (Tryz.prog.info? 72).map (fun i => (i.zero, i.size, i.bytes)) = some (some (.agg #[.int .i64 0, .int .i64 0]), 2, 16) by kernel_rfl)
  simp only [Prod.mk.injEq] at hz
  obtain ⟨hz0, hz1, hz2⟩ := hz
  have HNw := hide (news_ops (hr.of hg (bA (Below.refl _ _) (.cells #[] 72))))
  have hO : Hid ((w.alloc (.cells #[] 72)).ownsRow w.heap.size 72 2 (.slice (some ⟨w.heap.size, 0, none⟩) 0 0) 0 []) := ⟨rfl, Or.inr ⟨w.heap.size, 0, #[], rfl, Nat.le_refl _, (MapKept.heap_alloc w _).1, Nat.le_refl _, Nat.zero_le _, rfl, rfl⟩⟩
  clear hr
  go_enter Tryz.func58, Tryz.ntmps58
  go_wp2_with (at_builtin; go_must (refine wpList_append_own _ rfl (.tmp 5) (.tmp 6) 64 rfl w.heap.size 72 i _ 2 16 Tryz.underlying64 hi hz0 hz1 hz2 rfl (by decide) (.slice (some ⟨w.heap.size, 0, none⟩) 0 0) 0 [] rfl (unhide hO) ⟨g, off, none⟩ xs.length cap (vOps xs) rfl (by rw [vOps_length]; omega) (unhide HNw) (one_vOps _) (by unfold maxLen; omega) (by omega) (by simp) ?_; intro v' w' hown hgrow hnn))
  have dB : Hid (Below w.heap.size w w') := (bA (Below.refl w.heap.size w) (.cells #[] 72)).grown hgrow (by simp) (fun k hk => by
    have : w.heap.size = k := by simpa [Value.ownBlock] using hk
    omega)
  have HM : Hid (OpsM w' v' xs (fun b => w.heap.size ≤ b)) := by
    show OpsM _ _ _ _
    rw [Nat.zero_add, List.nil_append] at hown
    rcases hown.2 with ⟨h1, h2⟩ | ⟨G, c, cur, h1, _⟩
    · have hx : xs = [] := List.eq_nil_of_length_eq_zero (by omega)
      subst hx
      exact Or.inl ⟨rfl, _, _, h1⟩
    · subst h1
      exact opsM_of_owns hown
  clear hown hgrow hnn
  go_wp2
  go_ret
  exact ⟨_, rfl, unhide HM, unhide dB⟩
end Go.Proofs.YtnchcndcinpalaaGreatDoor
namespace Go.Proofs.YtnchcndcinpalaaGreatDoor
open Go Go.RowKit
set_option maxRecDepth 100000 in
set_option maxHeartbeats 4000000 in
theorem l4CopyAll_calls (oss : List (List O2)) (g cap : Nat) (w : World) (hg : g < w.heap.size) (hr : OpssAt w g oss) (hn : oss.length ≤ 1048576) (hk : ∀ xs ∈ oss, xs.length ≤ 1048576) :
    Calls Tryz.prog 59 #[.slice (some ⟨g, 0, none⟩) oss.length cap] w fun e w' => ∃ (G c : Nat) (lb : Nat → Nat) (hs : List Value), e = .returned (.slice (some ⟨G, 0, none⟩) oss.length c) ∧ GrowO w' w.heap.size G c lb hs oss ∧ Below w.heap.size w w' := by
  obtain ⟨i, hi, hz⟩ := Option.map_eq_some_iff.1 (show (Tryz.prog.info? 64).map (fun i => (i.zero, i.size, i.bytes)) = some (some (.slice none 0 0), 1, 24) by kernel_rfl)
  simp only [Prod.mk.injEq] at hz
  obtain ⟨hz0, hz1, hz2⟩ := hz
  have HR := hide hr; have HK := hide hk
  clear hr hk
  go_enter Tryz.func59, Tryz.ntmps59
  go_wp2
  go_loopw [3, 4] (fun s c wr => ∃ (k G c' : Nat) (lb : Nat → Nat) (hs : List Value), k ≤ oss.length ∧ c = .int .i64 k ∧ s = .slice (some ⟨G, 0, none⟩) k c' ∧ GrowO wr w.heap.size G c' lb hs (oss.take k) ∧ Below w.heap.size w wr) (fun _ c _ => oss.length - (intOf c).toNat)
  case atStart => exact ⟨0, w.heap.size, 0, fun _ => 0, [], Nat.zero_le _, rfl, rfl, by rw [List.take_zero]; exact GrowO.start w _ (Nat.le_refl _) _, bA (Below.refl _ _) _⟩
  case round =>
    obtain ⟨k, G, c', lb, hs, hk, rfl, rfl, hM, hb⟩ := hrel
    by_cases hlt : k < oss.length
    · obtain ⟨bx, c0, _, hbx, hox⟩ := ((unhide HR).of hg hb) k oss[k] (List.getElem?_eq_getElem hlt)
      have hkl := unhide HK _ (List.getElem_mem hlt)
      have j1 : (k : Int) < (oss.length : Int) := by omega
      have q1 : g < wr.heap.size := Nat.lt_of_lt_of_le hg hb.size
      have htk := take_snocN oss k hlt
      have HC := hide (l4Copy_calls oss[k] bx 0 (oss[k]).length wr hbx hox hkl)
      have hlen : hs.length = k := by have := hM.len; simp at this; omega
      have hMl := hM.own.lt
      have hsz := hb.size
      have HM := hide hM; have HTk := hide htk; have HLn := hide hlen
      clear hM htk hox hlen hkl
      generalize oss[k] = xs at *
      go_wp2_with fail
      refine (unhide HC).mono ?_; rintro e w1 ⟨u, rfl, hu, hb1⟩
      obtain ⟨ua, uc, rfl⟩ := hu.slice
      have d1 := bT hb hb1
      have hs1 := hb1.size
      have hx := bA (Below.refl w1.heap.size w1) (.cells #[.slice ua xs.length uc] 64)
      have HG := hide (((unhide HM).of hb1).of hx)
      have HOld : Hid (∀ (i : Nat) (v : Value) (ys : List O2), hs[i]? = some v → (oss.take k)[i]? = some ys → OpsM (w1.alloc (.cells #[.slice ua xs.length uc] 64)) v ys (fun b => w.heap.size ≤ b ∧ b ≠ G ∧ lb b = i ∧ b < wr.heap.size)) := fun i v ys h1 h2 => (((unhide HM).low i v ys h1 h2).of hb1).of hx
      have HU : Hid (OpsM (w1.alloc (.cells #[.slice ua xs.length uc] 64)) (.slice ua xs.length uc) xs (fun b => wr.heap.size ≤ b ∧ b ≠ G)) := (hu.of hx).mono (fun b _ e => ⟨e, by omega⟩)
      have HB1 := hide d1
      clear HC HM hu hb1 d1 hx c0
      go_wp2_with (at_builtin; refine wpList_append_lies _ rfl (.tmp 12) (.tmp 18) 65 rfl w.heap.size 64 i _ 1 24 Tryz.underlying65 hi hz0 hz1 hz2 rfl (by decide) (.slice (some ⟨G, 0, none⟩) k c') k hs rfl (by have := (unhide HG).own; unfold OwnH at this; rw [unhide HLn] at this; exact this) ⟨w1.heap.size, 0, none⟩ 1 1 [.slice ua xs.length uc] rfl rfl (World.news_of_block (cs := #[.slice ua xs.length uc]) (MapKept.heap_alloc w1 _).1) (by intro u hu; simp at hu; subst hu; rfl) (by decide) (by unfold maxLen; omega) (by omega) (by simp; omega) _ rfl ?_; intro g2 cap2 w2 hown2 hgrow hat hlt2)
      have HG2 : Hid (GrowO w2 w.heap.size g2 cap2 (fun b => if wr.heap.size ≤ b then k else lb b) (hs ++ [.slice ua xs.length uc]) (oss.take (k + 1))) := by
        show GrowO _ _ _ _ _ _ _
        rw [unhide HTk]
        refine GrowO.push (unhide HG) (unhide HLn) (unhide HOld) hsz (unhide HU) hown2 hgrow ?_
        rcases hat with e | e
        · exact Or.inl (by simpa [Value.ownBlock] using e.symm)
        · exact Or.inr e
      have HB2 : Hid (Below w.heap.size w w2) := (bA (unhide HB1) (.cells #[.slice ua xs.length uc] 64)).grown hgrow (by simp; omega) (fun j hj => by
        have : G = j := by simpa [Value.ownBlock] using hj
        omega)
      clear hown2 hgrow hat HG HOld HU HTk HLn HB1
      go_wp2
      go_roundw
      case rel => exact ⟨k + 1, g2, cap2, _, _, by omega, by go_num, rfl, unhide HG2, unhide HB2⟩
      case measure => simp [intOf]; omega
    · obtain rfl : k = oss.length := by omega
      rw [List.take_length] at hM
      go_wp2
      go_ret
      exact ⟨_, _, _, _, rfl, hM, hb⟩
def colExs (n : Nat) : List (List O2) := (List.range n).map fun (i : Nat) => [((3 : Int), (i : Int))]
theorem colExs_length (n : Nat) : (colExs n).length = n := by simp [colExs]
theorem colExs_succ (n : Nat) : colExs (n + 1) = colExs n ++ [[((3 : Int), (n : Int))]] := by simp [colExs, List.range_succ]
theorem opsM_one {w : World} {x y : Int} (t : TypeId) {B : Nat} (hB : B ≤ w.heap.size) : OpsM (w.alloc (.cells #[.int .i64 x, .int .i64 y] t)) (.slice (some ⟨w.heap.size, 0, none⟩) 1 1) [(x, y)] (fun b => B ≤ b) := by
  refine Or.inr ⟨w.heap.size, 1, rfl, Nat.le_refl _, hB, by simp, fun o => by simp [go_sem], fun o ho => ?_, fun i z hz => ?_⟩
  · simp only [List.length_cons, List.length_nil] at ho
    have : o = 0 ∨ o = 1 := by omega
    rcases this with rfl | rfl
    · exact ⟨_, by simp [go_sem]; rfl⟩
    · exact ⟨_, by simp [go_sem]; rfl⟩
  · have hi := (List.getElem?_eq_some_iff.1 hz).1
    simp at hi
    subst hi
    simp at hz
    subst hz
    simp [go_sem]
set_option maxRecDepth 100000 in
set_option maxHeartbeats 4000000 in
theorem l4Exs_calls (n : Nat) (nz : Int) (hnz : nz = (n : Int)) (w : World) (hn : n ≤ 1048576) :
    Calls Tryz.prog 28 #[.int .i64 nz] w fun e w' => ∃ (G c : Nat) (lb : Nat → Nat) (hs : List Value), e = .returned (.slice (some ⟨G, 0, none⟩) n c) ∧ GrowO w' w.heap.size G c lb hs (colExs n) ∧ Below w.heap.size w w' := by
  subst hnz
  obtain ⟨i, hi, hz⟩ := Option.map_eq_some_iff.1 (show (Tryz.prog.info? 64).map (fun i => (i.zero, i.size, i.bytes)) = some (some (.slice none 0 0), 1, 24) by kernel_rfl)
  simp only [Prod.mk.injEq] at hz
  obtain ⟨hz0, hz1, hz2⟩ := hz
  go_enter Tryz.func28, Tryz.ntmps28
  go_wp2
  go_loopw [3, 4] (fun s c wr => ∃ (k G c' : Nat) (lb : Nat → Nat) (hs : List Value), k ≤ n ∧ c = .int .i64 k ∧ s = .slice (some ⟨G, 0, none⟩) k c' ∧ GrowO wr w.heap.size G c' lb hs (colExs k) ∧ Below w.heap.size w wr) (fun _ c _ => n - (intOf c).toNat)
  case atStart => exact ⟨0, w.heap.size, 0, fun _ => 0, [], Nat.zero_le _, rfl, rfl, GrowO.start w _ (Nat.le_refl _) _, bA (Below.refl _ _) _⟩
  case round =>
    obtain ⟨k, G, c', lb, hs, hk, rfl, rfl, hM, hb⟩ := hrel
    by_cases hlt : k < n
    · have j1 : (k : Int) < (n : Int) := by omega
      have hlen : hs.length = k := by have := hM.len; rw [colExs_length] at this; exact this
      have hMl := hM.own.lt
      have hsz := hb.size
      have hx1 := bA (Below.refl wr.heap.size wr) (.cells #[.int .i64 3, .int .i64 (k : Int)] 72)
      have hx := bA hx1 (.cells #[.slice (some ⟨wr.heap.size, 0, none⟩) 1 1] 64)
      have HG := hide (hM.of hx)
      have HOld : Hid (∀ (i : Nat) (v : Value) (ys : List O2), hs[i]? = some v → (colExs k)[i]? = some ys → OpsM ((wr.alloc (.cells #[.int .i64 3, .int .i64 (k : Int)] 72)).alloc (.cells #[.slice (some ⟨wr.heap.size, 0, none⟩) 1 1] 64)) v ys (fun b => w.heap.size ≤ b ∧ b ≠ G ∧ lb b = i ∧ b < wr.heap.size)) := fun i v ys h1 h2 => (hM.low i v ys h1 h2).of hx
      have HU : Hid (OpsM ((wr.alloc (.cells #[.int .i64 3, .int .i64 (k : Int)] 72)).alloc (.cells #[.slice (some ⟨wr.heap.size, 0, none⟩) 1 1] 64)) (.slice (some ⟨wr.heap.size, 0, none⟩) 1 1) [((3 : Int), (k : Int))] (fun b => wr.heap.size ≤ b ∧ b ≠ G)) := ((opsM_one 72 (Nat.le_refl _)).of (bA (Below.refl _ _) _)).mono (fun b _ e => ⟨e, by omega⟩)
      have HB1 := hide (bT hb hx)
      have HLn := hide hlen
      have HNw : Hid (∀ j u, ([.slice (some ⟨wr.heap.size, 0, none⟩) 1 1] : List Value)[j]? = some u → ((wr.alloc (.cells #[.int .i64 3, .int .i64 (k : Int)] 72)).alloc (.cells #[.slice (some ⟨wr.heap.size, 0, none⟩) 1 1] 64)).cell? ((⟨(wr.alloc (.cells #[.int .i64 3, .int .i64 (k : Int)] 72)).heap.size, 0, none⟩ : Addr).add j) = some u) := World.news_of_block (cs := #[.slice (some ⟨wr.heap.size, 0, none⟩) 1 1]) (MapKept.heap_alloc (wr.alloc (.cells #[.int .i64 3, .int .i64 (k : Int)] 72)) _).1
      rw [show (wr.alloc (.cells #[.int .i64 3, .int .i64 (k : Int)] 72)).heap.size = wr.heap.size + 1 by simp] at HNw
      clear hM hx hx1 hlen
      go_wp2_with (at_builtin; refine wpList_append_lies _ rfl (.tmp 11) (.tmp 15) 65 rfl w.heap.size 64 i _ 1 24 Tryz.underlying65 hi hz0 hz1 hz2 rfl (by decide) (.slice (some ⟨G, 0, none⟩) k c') k hs rfl (by have := (unhide HG).own; unfold OwnH at this; rw [unhide HLn] at this; exact this) ⟨wr.heap.size + 1, 0, none⟩ 1 1 [.slice (some ⟨wr.heap.size, 0, none⟩) 1 1] rfl rfl (unhide HNw) (by intro u hu; simp at hu; subst hu; rfl) (by decide) (by unfold maxLen; omega) (by omega) (by simp; omega) _ rfl ?_; intro g2 cap2 w2 hown2 hgrow hat hlt2)
      have HG2 : Hid (GrowO w2 w.heap.size g2 cap2 (fun b => if wr.heap.size ≤ b then k else lb b) (hs ++ [.slice (some ⟨wr.heap.size, 0, none⟩) 1 1]) (colExs (k + 1))) := by
        show GrowO _ _ _ _ _ _ _
        rw [colExs_succ]
        refine GrowO.push (unhide HG) (unhide HLn) (unhide HOld) hsz (unhide HU) hown2 hgrow ?_
        rcases hat with e | e
        · exact Or.inl (by simpa [Value.ownBlock] using e.symm)
        · exact Or.inr e
      have HB2 : Hid (Below w.heap.size w w2) := (unhide HB1).grown hgrow (by simp; omega) (fun j hj => by
        have : G = j := by simpa [Value.ownBlock] using hj
        omega)
      clear hown2 hgrow hat HG HOld HU HLn HB1 HNw
      go_wp2
      go_roundw
      case rel => exact ⟨k + 1, g2, cap2, _, _, by omega, by go_num, rfl, unhide HG2, unhide HB2⟩
      case measure => simp [intOf]; omega
    · obtain rfl : k = n := by omega
      go_wp2
      go_ret
      exact ⟨_, _, _, _, rfl, hM, hb⟩
end Go.Proofs.YtnchcndcinpalaaGreatDoor
namespace Go.Proofs.YtnchcndcinpalaaGreatDoor
open Go Go.RowKit
structure Fn where
  K : Int
  T : Int
  M : Int
  W : Int
  Ex : List O2
  Exs : List (List O2)
  L : Int
  R : Int
def IsFns (w : World) (v : Value) (ps : List Fn) : Prop :=
  (ps = [] ∧ ∃ a cap, v = .slice a 0 cap) ∨ ∃ g off cap, v = .slice (some ⟨g, off, none⟩) ps.length cap ∧ g < w.heap.size ∧
    ∀ i p, ps[i]? = some p → w.cell? ⟨g, off + i * 8, none⟩ = some (.int .i64 p.K) ∧ w.cell? ⟨g, off + i * 8 + 1, none⟩ = some (.int .i64 p.T) ∧ w.cell? ⟨g, off + i * 8 + 2, none⟩ = some (.int .i64 p.M) ∧ w.cell? ⟨g, off + i * 8 + 3, none⟩ = some (.int .i64 p.W) ∧ w.cell? ⟨g, off + i * 8 + 6, none⟩ = some (.int .i64 p.L) ∧ w.cell? ⟨g, off + i * 8 + 7, none⟩ = some (.int .i64 p.R) ∧
      (∃ u, w.cell? ⟨g, off + i * 8 + 4, none⟩ = some u ∧ IsOps w u p.Ex) ∧ ∃ u, w.cell? ⟨g, off + i * 8 + 5, none⟩ = some u ∧ IsOpss w u p.Exs
theorem IsFns.of {w w1 : World} {v : Value} {ps : List Fn} (h : IsFns w v ps) (hb : Below w.heap.size w w1) : IsFns w1 v ps := by
  rcases h with h | ⟨g, off, cap, h1, h2, h3⟩
  · exact Or.inl h
  · refine Or.inr ⟨g, off, cap, h1, Nat.lt_of_lt_of_le h2 hb.size, fun i p hp => ?_⟩
    obtain ⟨c0, c1, c2, c3, c6, c7, ⟨u, c4, hu⟩, u', c5, hu'⟩ := h3 i p hp
    exact ⟨(hb.cell (p := ⟨g, off + i * 8, none⟩) h2).trans c0, (hb.cell (p := ⟨g, off + i * 8 + 1, none⟩) h2).trans c1, (hb.cell (p := ⟨g, off + i * 8 + 2, none⟩) h2).trans c2, (hb.cell (p := ⟨g, off + i * 8 + 3, none⟩) h2).trans c3, (hb.cell (p := ⟨g, off + i * 8 + 6, none⟩) h2).trans c6, (hb.cell (p := ⟨g, off + i * 8 + 7, none⟩) h2).trans c7,
      ⟨u, (hb.cell (p := ⟨g, off + i * 8 + 4, none⟩) h2).trans c4, hu.of hb⟩, u', (hb.cell (p := ⟨g, off + i * 8 + 5, none⟩) h2).trans c5, hu'.of hb⟩
theorem isFns_slice {w : World} {v : Value} {ps : List Fn} (hv : IsFns w v ps) : ∃ a cap, v = .slice a ps.length cap := by
  rcases hv with ⟨rfl, a, cap, rfl⟩ | ⟨g, off, cap, rfl, _⟩
  · exact ⟨a, cap, rfl⟩
  · exact ⟨_, cap, rfl⟩
structure FnAt (w : World) (g o : Nat) (p : Fn) : Prop where
  c0 : w.cell? ⟨g, o, none⟩ = some (.int .i64 p.K)
  c1 : w.cell? ⟨g, o + 1, none⟩ = some (.int .i64 p.T)
  c2 : w.cell? ⟨g, o + 2, none⟩ = some (.int .i64 p.M)
  c3 : w.cell? ⟨g, o + 3, none⟩ = some (.int .i64 p.W)
  c6 : w.cell? ⟨g, o + 6, none⟩ = some (.int .i64 p.L)
  c7 : w.cell? ⟨g, o + 7, none⟩ = some (.int .i64 p.R)
  ex : ∃ b, w.cell? ⟨g, o + 4, none⟩ = some (.slice (some ⟨b, 0, none⟩) p.Ex.length p.Ex.length) ∧ g < b ∧ b < w.heap.size ∧ OpsAt w b 0 p.Ex
  exs : ∃ b, w.cell? ⟨g, o + 5, none⟩ = some (.slice (some ⟨b, 0, none⟩) p.Exs.length p.Exs.length) ∧ g < b ∧ b < w.heap.size ∧ OpssAt w b p.Exs
theorem FnAt.of {w w1 : World} {g o : Nat} {p : Fn} (h : FnAt w g o p) (hg : g < w.heap.size) (hb : Below w.heap.size w w1) : FnAt w1 g o p := by
  obtain ⟨c0, c1, c2, c3, c6, c7, ⟨b, c4, e1, e2, e3⟩, b', c5, f1, f2, f3⟩ := h
  exact ⟨(hb.cell (p := ⟨g, o, none⟩) hg).trans c0, (hb.cell (p := ⟨g, o + 1, none⟩) hg).trans c1, (hb.cell (p := ⟨g, o + 2, none⟩) hg).trans c2, (hb.cell (p := ⟨g, o + 3, none⟩) hg).trans c3, (hb.cell (p := ⟨g, o + 6, none⟩) hg).trans c6, (hb.cell (p := ⟨g, o + 7, none⟩) hg).trans c7,
    ⟨b, (hb.cell (p := ⟨g, o + 4, none⟩) hg).trans c4, e1, Nat.lt_of_lt_of_le e2 hb.size, e3.of e2 hb⟩, b', (hb.cell (p := ⟨g, o + 5, none⟩) hg).trans c5, f1, Nat.lt_of_lt_of_le f2 hb.size, f3.of f2 hb⟩
theorem FnAt.far {w : World} {g o : Nat} {p : Fn} (h : FnAt w g o p) {X O : Nat} (hX : X < g ∨ (X = g ∧ (O < o ∨ o + 7 < O))) (v : Value) : FnAt (w.setCell ⟨X, O, none⟩ v) g o p := by
  have hk : ∀ k, k ≤ 7 → (w.setCell ⟨X, O, none⟩ v).cell? ⟨g, o + k, none⟩ = w.cell? ⟨g, o + k, none⟩ := fun k hk => by
    rcases hX with h | ⟨rfl, h⟩
    · rw [setCell_farN (by omega)]
    · rw [setCell_otherN (by omega)]
  have h0 := hk 0 (by omega)
  rw [Nat.add_zero] at h0
  obtain ⟨c0, c1, c2, c3, c6, c7, ⟨b, c4, e1, e2, e3⟩, b', c5, f1, f2, f3⟩ := h
  exact ⟨h0.trans c0, (hk 1 (by omega)).trans c1, (hk 2 (by omega)).trans c2, (hk 3 (by omega)).trans c3, (hk 6 (by omega)).trans c6, (hk 7 (by omega)).trans c7, ⟨b, (hk 4 (by omega)).trans c4, e1, by simpa using e2, e3.far (by omega) v⟩, b', (hk 5 (by omega)).trans c5, f1, by simpa using f2, f3.far (by omega) v⟩
def FnsAt (w : World) (g off : Nat) (ps : List Fn) : Prop := ∀ i p, ps[i]? = some p → FnAt w g (off + i * 8) p
theorem FnsAt.of {w w1 : World} {g off : Nat} {ps : List Fn} (h : FnsAt w g off ps) (hg : g < w.heap.size) (hb : Below w.heap.size w w1) : FnsAt w1 g off ps := fun i p hp => (h i p hp).of hg hb
theorem FnsAt.far {w : World} {g off : Nat} {ps : List Fn} (h : FnsAt w g off ps) {X O : Nat} (hX : X < g) (v : Value) : FnsAt (w.setCell ⟨X, O, none⟩ v) g off ps := fun i p hp => (h i p hp).far (Or.inl hX) v
theorem FnsAt.at {w : World} {g off : Nat} {ps : List Fn} (h : FnsAt w g off ps) (i : Nat) (hi : i < ps.length) : FnAt w g (off + i * 8) ps[i] := h i ps[i] (by simp [hi])
structure OwnFns (w : World) (g n : Nat) (ps : List Fn) : Prop where
  size : g < w.heap.size
  frz : ∀ o, w.frozen? ⟨g, o, none⟩ = false
  all : ∀ o, o < n * 8 → ∃ v, w.cell? ⟨g, o, none⟩ = some v
  held : FnsAt w g 0 ps
theorem OwnFns.of {w w1 : World} {g n : Nat} {ps : List Fn} (h : OwnFns w g n ps) (hb : Below w.heap.size w w1) : OwnFns w1 g n ps :=
  ⟨Nat.lt_of_lt_of_le h.size hb.size, fun o => (hb.frozen (p := ⟨g, o, none⟩) h.size).trans (h.frz o), fun o ho => by
    obtain ⟨v, hv⟩ := h.all o ho
    exact ⟨v, (hb.cell (p := ⟨g, o, none⟩) h.size).trans hv⟩, h.held.of h.size hb⟩
theorem OwnFns.made (w : World) (n : Nat) (C : Array Value) (t : TypeId) (hC : C.size = n * 8) : OwnFns (w.alloc (.cells C t)) w.heap.size n [] :=
  ⟨by simp, fun o => by simp [go_sem], fun o ho => ⟨C[o]'(by omega), by rw [World.cell?_alloc_at C t _ o rfl]; simp⟩, fun i x hx => by simp at hx⟩
def putFn (w : World) (g o : Nat) (p : Fn) (b b' : Nat) : World := ((((((((w.setCell ⟨g, o, none⟩ (.int .i64 p.K)).setCell ⟨g, o + 1, none⟩ (.int .i64 p.T)).setCell ⟨g, o + 2, none⟩ (.int .i64 p.M)).setCell ⟨g, o + 3, none⟩ (.int .i64 p.W)).setCell ⟨g, o + 4, none⟩ (.slice (some ⟨b, 0, none⟩) p.Ex.length p.Ex.length)).setCell ⟨g, o + 5, none⟩ (.slice (some ⟨b', 0, none⟩) p.Exs.length p.Exs.length)).setCell ⟨g, o + 6, none⟩ (.int .i64 p.L)).setCell ⟨g, o + 7, none⟩ (.int .i64 p.R))
theorem OwnFns.put {w : World} {g n k : Nat} {ps : List Fn} (h : OwnFns w g n (ps.take k)) (hk : k < ps.length) (hn : k < n) (b b' : Nat) (h1 : g < b) (h2 : b < w.heap.size) (h3 : OpsAt w b 0 (ps[k]).Ex) (f1 : g < b') (f2 : b' < w.heap.size) (f3 : OpssAt w b' (ps[k]).Exs) :
    OwnFns (putFn w g (k * 8) ps[k] b b') g n (ps.take (k + 1)) := by
  have hsz : (putFn w g (k * 8) ps[k] b b').heap.size = w.heap.size := by simp [putFn]
  have hi8 : ∀ o, o < 8 → ∃ v, w.cell? ⟨g, k * 8 + o, none⟩ = some v := fun o ho => h.all _ (by omega)
  refine ⟨by rw [hsz]; exact h.size, fun o => by unfold putFn; simp only [frozen_setCellN]; exact h.frz o, fun o ho => ?_, fun i x hx => ?_⟩
  · obtain ⟨v, hv⟩ := h.all o ho
    unfold putFn
    obtain ⟨v, hv⟩ := setCell_thereN (o' := k * 8) (v := .int .i64 (ps[k]).K) hv
    obtain ⟨v, hv⟩ := setCell_thereN (o' := k * 8 + 1) (v := .int .i64 (ps[k]).T) hv
    obtain ⟨v, hv⟩ := setCell_thereN (o' := k * 8 + 2) (v := .int .i64 (ps[k]).M) hv
    obtain ⟨v, hv⟩ := setCell_thereN (o' := k * 8 + 3) (v := .int .i64 (ps[k]).W) hv
    obtain ⟨v, hv⟩ := setCell_thereN (o' := k * 8 + 4) (v := .slice (some ⟨b, 0, none⟩) (ps[k]).Ex.length (ps[k]).Ex.length) hv
    obtain ⟨v, hv⟩ := setCell_thereN (o' := k * 8 + 5) (v := .slice (some ⟨b', 0, none⟩) (ps[k]).Exs.length (ps[k]).Exs.length) hv
    obtain ⟨v, hv⟩ := setCell_thereN (o' := k * 8 + 6) (v := .int .i64 (ps[k]).L) hv
    exact setCell_thereN hv
  · rw [take_snocN ps k hk] at hx
    have hl : (ps.take k).length = k := by simp; omega
    by_cases hi : i < k
    · rw [List.getElem?_append_left (by omega)] at hx
      have := h.held i x hx
      unfold putFn
      exact ((((((((this.far (Or.inr ⟨rfl, by omega⟩) _).far (Or.inr ⟨rfl, by omega⟩) _).far (Or.inr ⟨rfl, by omega⟩) _).far (Or.inr ⟨rfl, by omega⟩) _).far (Or.inr ⟨rfl, by omega⟩) _).far (Or.inr ⟨rfl, by omega⟩) _).far (Or.inr ⟨rfl, by omega⟩) _).far (Or.inr ⟨rfl, by omega⟩) _)
    · obtain rfl : i = k := by
        have := (List.getElem?_eq_some_iff.1 hx).1
        simp at this; omega
      rw [List.getElem?_append_right (by omega)] at hx
      simp [hl] at hx
      subst hx
      simp only [Nat.zero_add]
      obtain ⟨v0, c0⟩ := hi8 0 (by omega)
      obtain ⟨v1, c1⟩ := hi8 1 (by omega)
      obtain ⟨v2, c2⟩ := hi8 2 (by omega)
      obtain ⟨v3, c3⟩ := hi8 3 (by omega)
      obtain ⟨v4, c4⟩ := hi8 4 (by omega)
      obtain ⟨v5, c5⟩ := hi8 5 (by omega)
      obtain ⟨v6, c6⟩ := hi8 6 (by omega)
      obtain ⟨v7, c7⟩ := hi8 7 (by omega)
      refine ⟨by unfold putFn; rw [setCell_otherN (by omega), setCell_otherN (by omega), setCell_otherN (by omega), setCell_otherN (by omega), setCell_otherN (by omega), setCell_otherN (by omega), setCell_otherN (by omega)]; exact World.cell?_setCell_same _ _ _ c0, by unfold putFn; rw [setCell_otherN (by omega), setCell_otherN (by omega), setCell_otherN (by omega), setCell_otherN (by omega), setCell_otherN (by omega), setCell_otherN (by omega)]; exact World.cell?_setCell_same _ _ _ (by rw [setCell_otherN (by omega)]; exact c1), by unfold putFn; rw [setCell_otherN (by omega), setCell_otherN (by omega), setCell_otherN (by omega), setCell_otherN (by omega), setCell_otherN (by omega)]; exact World.cell?_setCell_same _ _ _ (by rw [setCell_otherN (by omega), setCell_otherN (by omega)]; exact c2), by unfold putFn; rw [setCell_otherN (by omega), setCell_otherN (by omega), setCell_otherN (by omega), setCell_otherN (by omega)]; exact World.cell?_setCell_same _ _ _ (by rw [setCell_otherN (by omega), setCell_otherN (by omega), setCell_otherN (by omega)]; exact c3), by unfold putFn; rw [setCell_otherN (by omega)]; exact World.cell?_setCell_same _ _ _ (by rw [setCell_otherN (by omega), setCell_otherN (by omega), setCell_otherN (by omega), setCell_otherN (by omega), setCell_otherN (by omega), setCell_otherN (by omega)]; exact c6), by unfold putFn; exact World.cell?_setCell_same _ _ _ (by rw [setCell_otherN (by omega), setCell_otherN (by omega), setCell_otherN (by omega), setCell_otherN (by omega), setCell_otherN (by omega), setCell_otherN (by omega), setCell_otherN (by omega)]; exact c7), ⟨b, by unfold putFn; rw [setCell_otherN (by omega), setCell_otherN (by omega), setCell_otherN (by omega)]; exact World.cell?_setCell_same _ _ _ (by rw [setCell_otherN (by omega), setCell_otherN (by omega), setCell_otherN (by omega), setCell_otherN (by omega)]; exact c4), h1, by rw [hsz]; exact h2, ?_⟩, b', by unfold putFn; rw [setCell_otherN (by omega), setCell_otherN (by omega)]; exact World.cell?_setCell_same _ _ _ (by rw [setCell_otherN (by omega), setCell_otherN (by omega), setCell_otherN (by omega), setCell_otherN (by omega), setCell_otherN (by omega)]; exact c5), f1, by rw [hsz]; exact f2, ?_⟩
      · unfold putFn
        exact ((((((((h3.far (by omega) _).far (by omega) _).far (by omega) _).far (by omega) _).far (by omega) _).far (by omega) _).far (by omega) _).far (by omega) _)
      · unfold putFn
        exact ((((((((f3.far (by omega) _).far (by omega) _).far (by omega) _).far (by omega) _).far (by omega) _).far (by omega) _).far (by omega) _).far (by omega) _)
end Go.Proofs.YtnchcndcinpalaaGreatDoor
