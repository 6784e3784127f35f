import Derived.Test.YtnchcndcinpalaaGreatDoorQ46
import Derived.Test.YtnchcndcinpalaaGreatDoorQ23
import Derived.Test.YtnchcndcinpalaaGreatDoorQ42
import Derived.Test.YtnchcndcinpalaaGreatDoorQ43
import Derived.Test.YtnchcndcinpalaaGreatDoorQ44
import Derived.Test.YtnchcndcinpalaaGreatDoorQ45
import Derived.Test.YtnchcndcinpalaaGreatDoorQ15
import Derived.Deep.RegionHeld3
namespace Go.Proofs.YtnchcndcinpalaaGreatDoor
open Go Go.RowKit
theorem TbT.put {wr w1 : World} {lo : Nat → Nat} {B g k G : Nat} {rs : List R3} {ts : List Tb} (h : TbT wr lo B g k ts) (hg : g < wr.heap.size) (hk : k < ts.length) (hb1 : Below wr.heap.size wr w1) (hG0 : wr.heap.size ≤ G)
    (hm : rs.map (fun r : R3 => r.2.2) = (ts[k]).Rows) (hG : G < w1.heap.size) (hgr : GridAt w1 G 0 rs) (hro : RowsOk w1 rs) (hnd : (rs.map (fun r : R3 => r.1)).Nodup) (hrl : ∀ r ∈ rs, G < r.1) (hall : ∀ o, o < 3 → ∃ v, w1.cell? ⟨g, k * 3 + o, none⟩ = some v) :
    TbT (putTable w1 g (k * 3) ts[k] G) (fun i => if i ≤ k then lo i else w1.heap.size) B g (k + 1) ts := by
  have hsz : (putTable w1 g (k * 3) ts[k] G).heap.size = w1.heap.size := by simp [putTable]
  have hle := hb1.size
  have htop := h.top
  have hBt : ButM (fun x => x = g) w1 (putTable w1 g (k * 3) ts[k] G) := by
    unfold putTable
    exact ((ButM.set (S := fun x => x = g) (ButM.refl _ _) rfl _).set rfl _).set rfl _
  refine ⟨h.g0, by rw [if_pos (Nat.zero_le _)]; exact h.g1, fun i j hij hj => ?_, by rw [if_neg (by omega), hsz]; exact Nat.le_refl _, fun i t ht => ?_⟩
  · by_cases h1 : j ≤ k
    · rw [if_pos h1, if_pos (by omega)]; exact h.mono i j hij h1
    · rw [if_neg h1]
      by_cases h2 : i ≤ k
      · rw [if_pos h2]; have := h.mono i k h2 (Nat.le_refl _); omega
      · rw [if_neg h2]; exact Nat.le_refl _
  · rw [take_snoc ts k hk] at ht
    have hl : (ts.take k).length = k := by simp; omega
    by_cases hi : i < k
    · rw [List.getElem?_append_left (by omega)] at ht
      rw [if_pos (by omega), if_pos (by omega)]
      have h1 := (h.row i t ht).of hg hb1
      have hml := h.mono (i + 1) k (by omega) (Nat.le_refl _)
      have hm0 := h.mono 0 i (by omega) (by omega)
      have hg1 := h.g1
      refine h1.but hBt ?_ (fun b hb1 hb2 e => by omega)
      unfold putTable
      rw [setCell_other (by omega), setCell_other (by omega), setCell_other (by omega)]
    · obtain rfl : i = k := by
        have := (List.getElem?_eq_some_iff.1 ht).1
        simp at this; omega
      rw [List.getElem?_append_right (by omega)] at ht
      simp [hl] at ht
      subst ht
      rw [if_pos (Nat.le_refl _), if_neg (by omega)]
      obtain ⟨v2, c2⟩ := hall 2 (by omega)
      refine ⟨G, rs, ?_, hm, by rw [hsz]; exact hG, fun j r hr => (hBt.cell G _ hG (by omega)).trans (hgr j r hr), fun r hr => ⟨(hro r hr).1.butM hBt (by have := hrl r hr; omega), (hro r hr).2⟩, hnd, by omega, hG, fun r hr => ⟨hrl r hr, (hro r hr).1.size⟩⟩
      unfold putTable
      exact World.cell?_setCell_same _ _ _ (by rw [setCell_other (by omega), setCell_other (by omega)]; exact c2)
set_option maxHeartbeats 2000000 in
theorem toTableS_M (v : Value) (ts : List Tb) (w : World) (hv : IsTables w v ts) (hn : ts.length ≤ 1048576) (hk : ∀ t ∈ ts, t.Rows.length ≤ 1048576 ∧ bulk t.Rows ≤ 1048576) :
    Calls Tryz.prog 30 #[v] w fun e w' => ∃ (g : Nat) (lo : Nat → Nat), e = .returned (.slice (some ⟨g, 0, none⟩) ts.length ts.length) ∧ w.heap.size ≤ g ∧ OwnTables w' g ts.length ts ∧ TbT w' lo w.heap.size g ts.length ts ∧ Below w.heap.size w w' := by
  rcases hv with ⟨rfl, a, cap, rfl⟩ | ⟨g, off, cap, rfl, hg, hr⟩
  · have hmk := make_tables0
    clear hn hk
    go_enter Tryz.func30, Tryz.ntmps30
    go_wp2
    go_loopw [4] (fun i wr => i = .int .i64 0 ∧ OwnTables wr w.heap.size 0 [] ∧ Below w.heap.size w wr) (fun _ _ => 0)
    case atStart => exact ⟨rfl, OwnTables.made w 0 #[] _ rfl, bA (Below.refl _ _) _⟩
    case round =>
      obtain ⟨rfl, ho, hb⟩ := hrel
      have hsz := ho.size
      go_wp2
      go_ret
      exact ⟨_, fun _ => w.heap.size + 1, rfl, Nat.le_refl _, ho, ⟨Nat.le_refl _, by omega, fun _ _ _ _ => Nat.le_refl _, by omega, fun i t ht => by simp at ht⟩, hb⟩
  · have hmk := make_tables ts.length hn
    have hO : Hid (OwnTables (w.alloc (.cells (madeCells #[.string ByteArray.empty, .int .i64 0, .slice none 0 0] (ts.length * 3)) 112)) w.heap.size ts.length []) := OwnTables.made w _ _ _ (by simp [size_madeCells])
    have HK := hide hk
    have HR := hide hr
    clear hk hr
    go_enter Tryz.func30, Tryz.ntmps30
    go_wp2
    go_loopw [4] (fun i wr => ∃ k : Nat, k ≤ ts.length ∧ i = .int .i64 k ∧ OwnTables wr w.heap.size ts.length (ts.take k) ∧ (∃ lo : Nat → Nat, TbT wr lo w.heap.size w.heap.size k ts) ∧ Below w.heap.size w wr) (fun i _ => ts.length - (intOf i).toNat)
    case atStart => exact ⟨0, Nat.zero_le _, rfl, by simpa using hO.out, ⟨fun _ => w.heap.size + 1, Nat.le_refl _, by omega, fun _ _ _ _ => Nat.le_refl _, by simp, fun i t ht => by simp at ht⟩, bA (Below.refl _ _) _⟩
    case round =>
      clear hO hmk
      obtain ⟨k, hk, rfl, ho, ⟨lo, hl⟩, hb⟩ := hrel
      by_cases hlt : k < ts.length
      · obtain ⟨c0w, c1w, u, hu, hiu⟩ := (unhide HR) k ts[k] (List.getElem?_eq_getElem hlt)
        have c0 := (hb.cell (p := ⟨g, off + k * 3, none⟩) hg).trans c0w
        have c1 := (hb.cell (p := ⟨g, off + k * 3 + 1, none⟩) hg).trans c1w
        have c2 := (hb.cell (p := ⟨g, off + k * 3 + 2, none⟩) hg).trans hu
        obtain ⟨hkl, hkb⟩ := unhide HK _ (List.getElem_mem hlt)
        have hput := fun (w1 : World) (h : OwnTables w1 w.heap.size ts.length (ts.take k)) G h1 => h.put hlt hlt G h1
        have hputM := fun (w1 : World) G rs h1 h2 h3 h4 h5 h6 h7 h8 h9 => hl.put (w1 := w1) (G := G) (rs := rs) ho.size hlt h1 h2 h3 h4 h5 h6 h7 h8 h9
        have hTN := fun W (hbW : Below w.heap.size w W) => toTable_M (ts[k]).Name (ts[k]).Cols u (ts[k]).Rows W (hiu.of hbW) hkl hkb
        cases e : ts[k] with | mk S C xss =>
        rw [e] at c0 c1 hput hputM hTN hiu hkl hkb
        simp only at c0 c1 hput hputM hTN hiu hkl hkb
        obtain ⟨ua, ucap, rfl⟩ := isRows_slice hiu
        have HTN := hide hTN; have HPut := hide hput; have HPutM := hide hputM
        have HO := hide ho
        have q1 : g < wr.heap.size := Nat.lt_of_lt_of_le hg hb.size
        have j1 : (k : Int) < (ts.length : Int) := by omega
        clear hTN hput hputM hu hiu e ho hl c0w c1w
        go_wp2_with fail
        refine (unhide HTN _ hb).mono ?_; rintro e w1 ⟨G, rs, rfl, hG, hoi, hm, hGs, hgr, hro, hnd, hrl, hb1⟩
        have d1 := bT hb hb1
        have ho1 := (unhide HO).of hb1
        have hN := unhide HPut w1 ho1 G (hoi _ (unhide HO).size)
        have hN2 := unhide HPutM w1 G rs hb1 hG hm hGs hgr hro hnd hrl (fun o ho => ho1.all (k * 3 + o) (by omega))
        obtain ⟨u0, hu0⟩ := ho1.all (k * 3) (by omega)
        obtain ⟨u1, hu1⟩ := ho1.all (k * 3 + 1) (by omega)
        obtain ⟨u2, hu2⟩ := ho1.all (k * 3 + 2) (by omega)
        have hf := ho1.frz
        have HN := hide hN; have HN2 := hide hN2
        have HB := hide (putTable_below (g := w.heap.size) (o := k * 3) d1 (Nat.le_refl _) ⟨S, C, xss⟩ G)
        clear hN hN2 ho1 hoi hb1 HO HPut HPutM HTN c0 c1 c2 hG hm hGs hgr hro hnd hrl
        go_wp2
        go_roundw
        case rel => exact ⟨k + 1, by omega, by go_num, unhide HN, ⟨_, unhide HN2⟩, unhide HB⟩
        case measure => simp [intOf]; omega
      · obtain rfl : k = ts.length := by omega
        rw [List.take_length] at ho
        go_wp2
        go_ret
        exact ⟨_, lo, rfl, Nat.le_refl _, ho, hl, hb⟩
structure DbM (w : World) (lo : Nat → Nat) (B T g : Nat) (ts : List Tb) : Prop where
  size : g < w.heap.size
  frz : ∀ o, w.frozen? ⟨g, o, none⟩ = false
  all : ∀ o, o < ts.length * 3 → ∃ v, w.cell? ⟨g, o, none⟩ = some v
  tab : TbT w lo B g ts.length ts
  low : lo ts.length ≤ T
theorem DbM.of {w w1 : World} {lo : Nat → Nat} {B T g : Nat} {ts : List Tb} (h : DbM w lo B T g ts) (hb : Below w.heap.size w w1) : DbM w1 lo B T g ts :=
  ⟨Nat.lt_of_lt_of_le h.size hb.size, fun o => (hb.frozen (p := ⟨g, o, none⟩) h.size).trans (h.frz o), fun o ho => by
    obtain ⟨v, hv⟩ := h.all o ho
    exact ⟨v, (hb.cell (p := ⟨g, o, none⟩) h.size).trans hv⟩, ⟨h.tab.g0, h.tab.g1, h.tab.mono, Nat.le_trans h.tab.top hb.size, fun i t ht => (h.tab.row i t ht).of h.size hb⟩, h.low⟩
theorem DbM.but {w w1 : World} {lo : Nat → Nat} {B T g : Nat} {ts : List Tb} {S : Nat → Prop} (h : DbM w lo B T g ts) (hb : ButM S w w1) (hn : ∀ b, B ≤ b → b < T → ¬ S b) : DbM w1 lo B T g ts := by
  have hgT : g < T := by have := h.tab.g1; have := h.tab.mono 0 ts.length (Nat.zero_le _) (Nat.le_refl _); have := h.low; omega
  have hg : ¬ S g := hn g h.tab.g0 hgT
  refine ⟨Nat.lt_of_lt_of_le h.size hb.size, fun o => (hb.frz g o h.size).trans (h.frz o), fun o ho => by rw [hb.cell g o h.size hg]; exact h.all o ho, ⟨h.tab.g0, h.tab.g1, h.tab.mono, Nat.le_trans h.tab.top hb.size, fun i t ht => ?_⟩, h.low⟩
  have hi : i < ts.length := by have := (List.getElem?_eq_some_iff.1 ht).1; simp at this; omega
  have h1 := h.tab.mono 0 i (Nat.zero_le _) (by omega)
  have h2 := h.tab.mono (i + 1) ts.length (by omega) (Nat.le_refl _)
  have h3 := h.tab.g1
  have h4 := h.tab.g0
  have h5 := h.low
  exact (h.tab.row i t ht).but hb (hb.cell g _ h.size hg) (fun b e1 e2 => hn b (by omega) (by omega))
set_option maxHeartbeats 1000000 in
theorem toDb_M (v : Value) (ts : List Tb) (w : World) (hv : IsTables w v ts) (hn : ts.length ≤ 1048576) (hk : ∀ t ∈ ts, t.Rows.length ≤ 1048576 ∧ bulk t.Rows ≤ 1048576) :
    Calls Tryz.prog 9 #[.agg #[v]] w fun e w' => ∃ (g : Nat) (lo : Nat → Nat), e = .returned (.agg #[.slice (some ⟨g, 0, none⟩) ts.length ts.length]) ∧ w.heap.size ≤ g ∧ g < w'.heap.size ∧ TablesAt w' g 0 ts ∧ DbM w' lo (w.heap.size + 3) w'.heap.size g ts ∧ Below w.heap.size w w' := by
  have TI := fun W (hb : Below w.heap.size w W) => toTableS_M v ts W (hv.of hb) hn hk
  have HT := hide TI
  obtain ⟨a, cap, rfl⟩ := isTables_slice hv
  clear TI hv
  go_enter Tryz.func9, Tryz.ntmps9
  go_wp2_with fail
  refine (unhide HT _ (by (repeat (first | exact Below.refl _ _ | refine bA ?_ _)))).mono ?_; rintro e w1 ⟨g, lo, rfl, hg, ho, hl, hb1⟩
  obtain ⟨hc, hf⟩ := bcell hb1
  have hs1 : w.heap.size + 3 ≤ w1.heap.size := by have := hb1.size; simpa using this
  have hg1 : w.heap.size + 3 ≤ g := by simpa using hg
  have HO := hide ho; have HB := hide (bT (by (repeat (first | exact Below.refl _ _ | refine bA ?_ _))) hb1 : Below w.heap.size w w1)
  have HD : Hid (DbM w1 lo (w.heap.size + 3) w1.heap.size g ts) := ⟨ho.size, ho.frz, ho.all, by simpa using hl, hl.top⟩
  clear ho hb1 hg hl
  go_wp2
  refine bodyPost_ret (v := .agg #[.slice (some ⟨g, 0, none⟩) ts.length ts.length]) (by simp [results, Tryz.results9, go_sem, hc]) rfl ⟨g, lo, rfl, by omega, ?_, ?_, ?_, ?_⟩
  · have := (unhide HO).size
    simpa using this
  · (repeat (refine TablesAt.far ?_ (by omega) _))
    exact (unhide HO).held
  · simp only [World.size_setCell]
    (repeat (refine DbM.but ?_ (ButM.set (S := fun x => x < w.heap.size + 3) (ButM.refl _ _) (by omega) _) (fun b hb _ => by omega)))
    exact unhide HD
  · (repeat (refine Below.setCell ?_ (by dsimp only; omega) _))
    exact unhide HB
def kTs : List Tb → Nat
  | [] => 0
  | t :: r => 2 + 2 * bulk t.Rows + kTs r
theorem kTs_append (a b : List Tb) : kTs (a ++ b) = kTs a + kTs b := by
  induction a with
  | nil => simp [kTs]
  | cons x a ih => simp only [List.cons_append, kTs, ih]; omega
theorem kTs_take (ts : List Tb) (k : Nat) (hk : k < ts.length) : kTs (ts.take (k + 1)) = kTs (ts.take k) + (2 + 2 * bulk (ts[k]).Rows) := by
  rw [take_snoc ts k hk, kTs_append]; simp [kTs]
theorem kTs_take_le (ts : List Tb) (k : Nat) : kTs (ts.take k) ≤ kTs ts := by
  have := kTs_append (ts.take k) (ts.drop k)
  rw [List.take_append_drop] at this
  omega
set_option maxRecDepth 100000 in
set_option maxHeartbeats 4000000 in
theorem markTableS_calls (ts : List Tb) (lo : Nat → Nat) (B T g cap k : Nat) (w : World) (h : DbM w lo B T g ts) (b1 : ts.length ≤ 1048576) (b2 : ∀ t ∈ ts, t.Rows.length ≤ 1048576 ∧ bulk t.Rows ≤ 1048576) (bk : k + kTs ts ≤ 268435456) :
    Calls Tryz.prog 40 #[.slice (some ⟨g, 0, none⟩) ts.length cap, .int .i64 k] w fun e w' => e = .returned (.int .i64 ((k + kTs ts : Nat) : Int)) ∧ ButM (fun b => B ≤ b ∧ b < T) w w' := by
  have hG := h.size
  have hlow := h.low
  have hg0 := h.tab.g0
  have hg1 := h.tab.g1
  have HMo := hide h.tab.mono
  have HRow : Hid (∀ i t, ts[i]? = some t → TbRow w g i t (lo i) (lo (i + 1))) := fun i t ht => h.tab.row i t (by rw [List.take_length]; exact ht)
  have HB2 := hide b2; have HFz := hide h.frz; have HAll := hide h.all
  clear h b2
  have hgT : g < T := by have := unhide HMo 0 ts.length (Nat.zero_le _) (Nat.le_refl _); omega
  go_enter Tryz.func40, Tryz.ntmps40
  go_wp2
  go_loopw [1, 5] (fun c s wr => ∃ i : Nat, i ≤ ts.length ∧ s = .int .i64 i ∧ c = .int .i64 ((k + kTs (ts.take i) : Nat) : Int) ∧ (∀ j t, i ≤ j → ts[j]? = some t → TbRow wr g j t (lo j) (lo (j + 1))) ∧ (∀ o, o < ts.length * 3 → ∃ v, wr.cell? ⟨g, o, none⟩ = some v) ∧ ButM (fun b => B ≤ b ∧ b < T) w wr) (fun _ s _ => ts.length - (intOf s).toNat)
  case atStart => exact ⟨0, Nat.zero_le _, rfl, by simp [kTs], fun j t _ ht => unhide HRow j t ht, unhide HAll, ButM.refl _ _⟩
  case round =>
    obtain ⟨i, hi, rfl, rfl, hM, hA, hB⟩ := hrel
    by_cases hlt : i < ts.length
    · have j1 : (i : Int) < (ts.length : Int) := by omega
      have hrow := hM i ts[i] (Nat.le_refl _) (List.getElem?_eq_getElem hlt)
      obtain ⟨x1, x2⟩ := unhide HB2 _ (List.getElem_mem hlt)
      have hk1 := kTs_take ts i hlt
      have hk2 := kTs_take_le ts (i + 1)
      obtain ⟨j, hj⟩ : ∃ j, j = k + kTs (ts.take i) := ⟨_, rfl⟩
      rw [← hj]
      have HK1 : Hid (k + kTs (ts.take (i + 1)) = j + (2 + 2 * bulk (ts[i]).Rows)) := by show _ = _; omega
      have hjb : j + 2 + 2 * bulk (ts[i]).Rows ≤ 268435456 := by omega
      have q1 : g < wr.heap.size := Nat.lt_of_lt_of_le hG hB.size
      have hf : ∀ o, wr.frozen? ⟨g, o, none⟩ = false := fun o => (hB.frz g o hG).trans (unhide HFz o)
      have m1 := unhide HMo 0 i (Nat.zero_le _) (by omega)
      have m2 := unhide HMo (i + 1) ts.length (by omega) (Nat.le_refl _)
      have HM := hide hM; have HA := hide hA; have HB := hide hB; have HRw := hide hrow
      have HMT := hide (markText_calls j wr (by omega))
      clear hM hA hB hrow hj hk1 hk2
      go_wp2_with fail
      refine (unhide HMT).mono ?_; rintro e wa ⟨⟨s, rfl, _⟩, hba⟩
      have qa : g < wa.heap.size := Nat.lt_of_lt_of_le q1 hba.size
      have hfa : ∀ o, wa.frozen? ⟨g, o, none⟩ = false := fun o => (hba.frozen (p := ⟨g, o, none⟩) q1).trans (hf o)
      obtain ⟨u0, hu0⟩ := unhide HA (i * 3) (by omega)
      obtain ⟨u1, hu1⟩ := unhide HA (i * 3 + 1) (by omega)
      have d0 := (hba.cell (p := ⟨g, i * 3, none⟩) q1).trans hu0
      have d1 := (hba.cell (p := ⟨g, i * 3 + 1, none⟩) q1).trans hu1
      have hBt : ButM (fun x => x = g) wa ((wa.setCell ⟨g, i * 3, none⟩ (.string s)).setCell ⟨g, i * 3 + 1, none⟩ (.int .i64 ((j : Int) + 1))) := (ButM.set (S := fun x => x = g) (ButM.refl _ _) rfl _).set rfl _
      have hrb : TbRow ((wa.setCell ⟨g, i * 3, none⟩ (.string s)).setCell ⟨g, i * 3 + 1, none⟩ (.int .i64 ((j : Int) + 1))) g i ts[i] (lo i) (lo (i + 1)) := ((unhide HRw).of q1 hba).but hBt (by rw [setCell_other (by omega), setCell_other (by omega)]) (fun b e1 e2 e => by omega)
      have hMb : ∀ jj t, i + 1 ≤ jj → ts[jj]? = some t → TbRow ((wa.setCell ⟨g, i * 3, none⟩ (.string s)).setCell ⟨g, i * 3 + 1, none⟩ (.int .i64 ((j : Int) + 1))) g jj t (lo jj) (lo (jj + 1)) := fun jj t hjj ht => by
        have hjl : jj < ts.length := (List.getElem?_eq_some_iff.1 ht).1
        have := unhide HMo 0 jj (Nat.zero_le _) (by omega)
        exact ((unhide HM jj t (by omega) ht).of q1 hba).but hBt (by rw [setCell_other (by omega), setCell_other (by omega)]) (fun b e1 e2 e => by omega)
      have hAb : ∀ o, o < ts.length * 3 → ∃ v, ((wa.setCell ⟨g, i * 3, none⟩ (.string s)).setCell ⟨g, i * 3 + 1, none⟩ (.int .i64 ((j : Int) + 1))).cell? ⟨g, o, none⟩ = some v := fun o ho => by
        obtain ⟨v, hv⟩ := unhide HA o ho
        obtain ⟨v, hv⟩ := setCell_there (o' := i * 3) (v := .string s) ((hba.cell (p := ⟨g, o, none⟩) q1).trans hv)
        exact setCell_there hv
      have hBb : ButM (fun b => B ≤ b ∧ b < T) w ((wa.setCell ⟨g, i * 3, none⟩ (.string s)).setCell ⟨g, i * 3 + 1, none⟩ (.int .i64 ((j : Int) + 1))) := ((unhide HB).trans (ButM.ofBelow hba)).trans (hBt.mono (fun b e => by omega))
      have qb : g < ((wa.setCell ⟨g, i * 3, none⟩ (.string s)).setCell ⟨g, i * 3 + 1, none⟩ (.int .i64 ((j : Int) + 1))).heap.size := by simpa using qa
      have HMb := hide hMb; have HAb := hide hAb; have HBb := hide hBb; have HRb := hide hrb
      clear hMb hAb hBb hrb hBt hba HM HA HB HRw HMT hf hu0 hu1
      go_upto_region 8 with fail
      clear d0 d1 hfa
      generalize ((wa.setCell ⟨g, i * 3, none⟩ (.string s)).setCell ⟨g, i * 3 + 1, none⟩ (.int .i64 ((j : Int) + 1))) = wb at *
      obtain ⟨G, rs, c2, hm, hGs, hgr, hro, hnd, hlo, hhi, hrl⟩ := unhide HRb
      have hbulk : bulk (rs.map kR) = bulk (ts[i]).Rows := by rw [← hm]
      have hrsl : rs.length = (ts[i]).Rows.length := by rw [← hm]; simp
      have HMV : Hid (∀ kz : Int, kz = ((j + 2 : Nat) : Int) → Calls Tryz.prog 76 #[.slice (some ⟨G, 0, none⟩) (ts[i]).Rows.length (ts[i]).Rows.length, .int .i64 kz] wb fun e w' => e = .returned (.int .i64 ((j + 2 + 2 * bulk (ts[i]).Rows : Nat) : Int)) ∧ Marked w' (j + 2) rs rs.length ∧ But (fun b => ∃ r ∈ rs, r.1 = b) wb w') := fun kz hkz => by
        subst hkz
        have h := markValSS_calls rs G (ts[i]).Rows.length (j + 2) wb hGs hgr hro hnd (fun r hr => by have := hrl r hr; omega) (by omega) (by rw [hbulk]; omega) (fun r hr => by
          have hmem : r.2.2 ∈ (ts[i]).Rows := by rw [← hm]; exact List.mem_map.2 ⟨r, hr, rfl⟩
          have := bulk_mem hmem
          omega)
        rw [hbulk, hrsl] at h
        rw [hrsl]
        exact h
      have HNB : Hid (∀ b, (∃ r ∈ rs, r.1 = b) → lo i ≤ b ∧ b < lo (i + 1)) := fun b ⟨r, hr, e⟩ => by have := hrl r hr; omega
      clear hm hgr hro hnd hrl HRb hbulk hrsl
      generalize hbr : bulk (ts[i]).Rows = br at *
      have HBR := hide hbr
      clear hbr
      generalize (ts[i]).Rows.length = rl at *
      go_wp2_with fail
      refine (unhide HMV _ (by push_cast; omega)).mono ?_; rintro e wc ⟨rfl, _, hBc⟩
      have hgc : ¬ ∃ r ∈ rs, r.1 = g := fun h => by have := unhide HNB g h; omega
      have HM2 : Hid (∀ jj t, i + 1 ≤ jj → ts[jj]? = some t → TbRow wc g jj t (lo jj) (lo (jj + 1))) := fun jj t hjj ht => by
        have hjl : jj < ts.length := (List.getElem?_eq_some_iff.1 ht).1
        have := unhide HMo (i + 1) jj hjj (by omega)
        exact (unhide HMb jj t hjj ht).but hBc.butM (hBc.cell g _ qb hgc) (fun b e1 e2 e => by have := unhide HNB b e; omega)
      have HA2 : Hid (∀ o, o < ts.length * 3 → ∃ v, wc.cell? ⟨g, o, none⟩ = some v) := fun o ho => by
        rw [hBc.cell g o qb hgc]
        exact unhide HAb o ho
      have HB3 : Hid (ButM (fun b => B ≤ b ∧ b < T) w wc) := (unhide HBb).trans (hBc.butM.mono (fun b e => by have := unhide HNB b e; omega))
      have HK6 : Hid (k + kTs (ts.take (i + 1)) = j + 2 + 2 * br) := by show _ = _; have := unhide HK1; have := unhide HBR; omega
      clear hBc HMb HAb HBb HMV HNB HK1 HBR c2
      go_wp2
      go_roundw
      case rel => exact ⟨i + 1, by omega, by go_num, by rw [unhide HK6]; go_num, unhide HM2, unhide HA2, unhide HB3⟩
      case measure => simp [intOf]; omega
    · obtain rfl : i = ts.length := by omega
      rw [List.take_length]
      clear hM hA
      go_wp2
      go_ret
      exact ⟨rfl, hB⟩
theorem markDb_calls (ts : List Tb) (lo : Nat → Nat) (B T g cap k : Nat) (w : World) (h : DbM w lo B T g ts) (b1 : ts.length ≤ 1048576) (b2 : ∀ t ∈ ts, t.Rows.length ≤ 1048576 ∧ bulk t.Rows ≤ 1048576) (bk : k + kTs ts ≤ 268435456) :
    Calls Tryz.prog 14 #[.agg #[.slice (some ⟨g, 0, none⟩) ts.length cap], .int .i64 k] w fun e w' => e = .returned (.int .i64 ((k + kTs ts : Nat) : Int)) ∧ ButM (fun b => B ≤ b ∧ b < T) w w' := by
  have HM := hide (fun W (hb : Below w.heap.size w W) => markTableS_calls ts lo B T g cap k W (h.of hb) b1 b2 bk)
  clear h b2
  go_enter Tryz.func14, Tryz.ntmps14
  go_wp2_with fail
  refine (unhide HM _ (bA (Below.refl _ _) _)).mono ?_; rintro e w1 ⟨rfl, hB⟩
  have HB := hide ((ButM.ofBelow (S := fun b => B ≤ b ∧ b < T) (bA (Below.refl w.heap.size w) (.cells #[.slice (some ⟨g, 0, none⟩) ts.length cap] 38))).trans hB)
  clear hB HM
  go_wp2
  go_ret
  exact ⟨rfl, unhide HB⟩
end Go.Proofs.YtnchcndcinpalaaGreatDoor
namespace Go.Proofs.YtnchcndcinpalaaGreatDoor
open Go Go.RowKit
def OwnF (w : World) (lab : Lb) (v : Value) (out : List Fn) : Prop :=
  (out = [] ∧ ∃ a c, v = .slice a 0 c) ∨ ∃ G c, v = .slice (some ⟨G, 0, none⟩) out.length c ∧ FlM w lab G out
theorem OwnF.of {w w1 : World} {lab : Lb} {v : Value} {out : List Fn} (h : OwnF w lab v out) (hb : Below w.heap.size w w1) : OwnF w1 lab v out := by
  rcases h with h | ⟨G, c, h1, h2⟩
  · exact Or.inl h
  · exact Or.inr ⟨G, c, h1, h2.of hb⟩
theorem OwnF.but {w w1 : World} {lab : Lb} {v : Value} {out : List Fn} {T : Nat → Prop} (h : OwnF w lab v out) (hb : ButM T w w1) (hT : ∀ b, (lab b).1 ≤ 3 → ¬ T b) : OwnF w1 lab v out := by
  rcases h with h | ⟨G, c, h1, h2⟩
  · exact Or.inl h
  · exact Or.inr ⟨G, c, h1, h2.but hb hT⟩
theorem OwnF.is {w : World} {lab : Lb} {v : Value} {out : List Fn} (h : OwnF w lab v out) : IsFns w v out := by
  rcases h with h | ⟨G, c, h1, h2⟩
  · exact Or.inl h
  · subst h1; exact h2.isFns c
theorem OwnF.keeps {s : Nat} {w w' : World} {lab : Lb} {v : Value} {out : List Fn} (h : OwnF w lab v out) (hl : ∀ b, (lab b).1 ≤ 3 → s ≤ b) (hk : Keeps s w w') : IsFns w' v out := by
  rcases h with h | ⟨G, c, h1, h2⟩
  · exact Or.inl h
  · subst h1; exact h2.keeps hl hk c
theorem markFlat_own (out : List Fn) (Rt : Int) (lab : Lb) (v : Value) (k : Nat) (w : World) (h : OwnF w lab v out) (b1 : out.length ≤ 1048576) (b2 : ∀ p ∈ out, p.Ex.length ≤ 1048576 ∧ p.Exs.length ≤ 1048576 ∧ ∀ xs ∈ p.Exs, xs.length ≤ 1048576) (bk : k + kNs out ≤ 536870912) :
    Calls Tryz.prog 13 #[.agg #[v, .int .i64 Rt], .int .i64 k] w fun e w' => e = .returned (.int .i64 ((k + kNs out : Nat) : Int)) ∧ OwnF w' lab v (mFns k out) ∧ ButM (fun b => (lab b).1 ≤ 3) w w' := by
  rcases h with ⟨rfl, a, c, rfl⟩ | ⟨G, c, rfl, h2⟩
  · refine (markFlat_nil a Rt c k w).mono ?_; rintro e w' ⟨rfl, hb⟩
    exact ⟨rfl, Or.inl ⟨by simp [mFns], a, c, rfl⟩, ButM.ofBelow hb⟩
  · refine (markFlat_calls out Rt lab G c k w h2 b1 b2 bk).mono ?_; rintro e w' ⟨rfl, hF, hB⟩
    exact ⟨rfl, Or.inr ⟨G, c, by simp [mFns], hF⟩, hB⟩
theorem kTs_le (ts : List Tb) : kTs ts ≤ 2 * ts.length + 2 * bulkT ts := by
  induction ts with
  | nil => simp [kTs]
  | cons p r ih => simp only [kTs, bulkT, List.length_cons]; omega
structure LS (Wb W : World) (n nt : Nat) (Ro : Int) (X0 X1 X2 gx gd B T : Nat) (labx labg : Lb) (vg : Value) : Prop where
  low : Below Wb.heap.size Wb W
  x0 : W.cell? ⟨X0, 0, none⟩ = some (.slice (some ⟨gx, 0, none⟩) n n)
  x1 : W.cell? ⟨X1, 0, none⟩ = some (.slice (some ⟨gd, 0, none⟩) nt nt)
  x2 : W.cell? ⟨X2, 0, none⟩ = some vg
  x2r : W.cell? ⟨X2, 1, none⟩ = some (.int .i64 Ro)
  o1 : Wb.heap.size ≤ X0
  o2 : X0 < X1
  o3 : X1 < X2
  o4 : X2 < W.heap.size
  rx : ∀ b, (labx b).1 ≤ 3 → Wb.heap.size ≤ b ∧ b < X0
  rd : X0 < B ∧ T ≤ X1
  rg : ∀ b, (labg b).1 ≤ 3 → X1 < b ∧ b < X2
theorem LS.of {Wb W W' : World} {n nt : Nat} {Ro : Int} {X0 X1 X2 gx gd B T : Nat} {labx labg : Lb} {vg : Value} (h : LS Wb W n nt Ro X0 X1 X2 gx gd B T labx labg vg) (hb : Below W.heap.size W W') : LS Wb W' n nt Ro X0 X1 X2 gx gd B T labx labg vg := by
  have h2 := h.o2; have h3 := h.o3; have h4 := h.o4
  exact ⟨bT h.low hb, (hb.cell (p := ⟨X0, 0, none⟩) (by dsimp only; omega)).trans h.x0, (hb.cell (p := ⟨X1, 0, none⟩) (by dsimp only; omega)).trans h.x1, (hb.cell (p := ⟨X2, 0, none⟩) h4).trans h.x2, (hb.cell (p := ⟨X2, 1, none⟩) h4).trans h.x2r, h.o1, h2, h3, Nat.lt_of_lt_of_le h4 hb.size, h.rx, h.rd, h.rg⟩
theorem LS.but {Wb W W' : World} {n nt : Nat} {Ro : Int} {X0 X1 X2 gx gd B T : Nat} {labx labg : Lb} {vg : Value} {S : Nat → Prop} (h : LS Wb W n nt Ro X0 X1 X2 gx gd B T labx labg vg) (hb : ButM S W W') (hS : ∀ b, S b → Wb.heap.size ≤ b ∧ b ≠ X0 ∧ b ≠ X1 ∧ b ≠ X2) : LS Wb W' n nt Ro X0 X1 X2 gx gd B T labx labg vg := by
  have h2 := h.o2; have h3 := h.o3; have h4 := h.o4
  have k0 : ¬ S X0 := fun e => (hS _ e).2.1 rfl
  have k1 : ¬ S X1 := fun e => (hS _ e).2.2.1 rfl
  have k2 : ¬ S X2 := fun e => (hS _ e).2.2.2 rfl
  exact ⟨h.low.trans (hb.low _ (fun b e => (hS b e).1) h.low.size), (hb.cell X0 0 (by omega) k0).trans h.x0, (hb.cell X1 0 (by omega) k1).trans h.x1, (hb.cell X2 0 h4 k2).trans h.x2, (hb.cell X2 1 h4 k2).trans h.x2r, h.o1, h2, h3, Nat.lt_of_lt_of_le h4 hb.size, h.rx, h.rd, h.rg⟩
structure LG (s : Nat) (va vb : Value) (W : World) : Prop where
  a : W.cell? ⟨s, 0, none⟩ = some va
  b : W.cell? ⟨s + 1, 0, none⟩ = some vb
  sz : s + 1 < W.heap.size
theorem LG.of {s : Nat} {va vb : Value} {W W1 : World} (h : LG s va vb W) (hb : Below W.heap.size W W1) : LG s va vb W1 := by
  have hs := h.sz
  exact ⟨(hb.cell (p := ⟨s, 0, none⟩) (show s < _ by omega)).trans h.a, (hb.cell (p := ⟨s + 1, 0, none⟩) (show s + 1 < _ by omega)).trans h.b, Nat.lt_of_lt_of_le hs hb.size⟩
theorem smallT_eachF {ts : List Tb} (h : SmallT ts) : ∀ t ∈ ts, t.Rows.length ≤ 1048576 ∧ bulk t.Rows ≤ 1048576 := fun t ht => by
  have := bulkT_mem ht
  unfold SmallT at h
  exact ⟨by omega, by omega⟩
theorem smallP_each {ps : List Pn} (h : bulkP ps ≤ 1048576) : ∀ p ∈ ps, p.Ex.length ≤ 1048576 ∧ p.Exs.length ≤ 1048576 ∧ bulkO p.Exs ≤ 1048576 := fun p hp => by
  have := bulkP_mem hp
  exact ⟨by omega, by omega, by omega⟩
theorem smallP_fit {ps : List Pn} (h : bulkP ps ≤ 1048576) : ∀ p ∈ ps, p.Ex.length ≤ 1048576 ∧ p.Exs.length ≤ 1048576 ∧ ∀ xs ∈ p.Exs, xs.length ≤ 1048576 := fun p hp => by
  have := bulkP_mem hp
  exact ⟨by omega, by omega, fun xs hx => by have := bulkO_mem hx; omega⟩
structure BoxF (w : World) (X : Nat) (v : Value) (Ro : Int) (out : List Fn) : Prop where
  c0 : w.cell? ⟨X, 0, none⟩ = some v
  c1 : w.cell? ⟨X, 1, none⟩ = some (.int .i64 Ro)
  sz : X < w.heap.size
  is : IsFns w v out
theorem BoxF.of {w w1 : World} {X : Nat} {v : Value} {Ro : Int} {out : List Fn} (h : BoxF w X v Ro out) (hb : Below w.heap.size w w1) : BoxF w1 X v Ro out :=
  ⟨(hb.cell (p := ⟨X, 0, none⟩) h.sz).trans h.c0, (hb.cell (p := ⟨X, 1, none⟩) h.sz).trans h.c1, Nat.lt_of_lt_of_le h.sz hb.size, h.is.of hb⟩
theorem box_leaf1 {s X : Nat} {w : World} {v : Value} {Ro : Int} {out : List Fn} {u0 u1 : Value} (hk : ∀ W', Keeps s w W' → IsFns W' v out) (hX : X < s) (b0 : w.cell? ⟨X, 0, none⟩ = some u0) (b1 : w.cell? ⟨X, 1, none⟩ = some u1) (bs : X < w.heap.size) :
    BoxF ((w.setCell ⟨X, 0, none⟩ v).setCell ⟨X, 1, none⟩ (.int .i64 Ro)) X v Ro out :=
  ⟨by rw [setCell_otherN (by omega)]; exact World.cell?_setCell_same _ _ _ b0, World.cell?_setCell_same _ _ _ (by rw [setCell_otherN (by omega)]; exact b1), by simpa using bs, hk _ (((Keeps.refl s w).set (Or.inl hX) _).set (Or.inl hX) _)⟩
theorem box_leaf2 {s : Nat} {w : World} {v : Value} {Ro : Int} {out : List Fn} {t : TypeId} (hk : ∀ W', Keeps s w W' → IsFns W' v out) : BoxF (w.alloc (.cells #[v, .int .i64 Ro] t)) w.heap.size v Ro out :=
  ⟨by simp [go_sem], by simp [go_sem], by simp, hk _ ((Keeps.refl s w).of (bA (Below.refl _ _) _))⟩
theorem un_both (ts : List Tb) (ps : List Pn) (w : World) (lt : ts.length ≤ 1048576) (hsm : SmallT ts) (lp : ps.length ≤ 1048576) (hpb : bulkP ps ≤ 1048576) (hTK : TKw w) (hTP : TPlan w) (hTT : TTakes w) (hTF : TFlat w) (hTk : TKinds w) :
    ∃ (out : List Fn) (Ro : Int) (E : Bool) (no : Nat), out.length = no ∧
      (∀ g gt W, g < W.heap.size → PnsAt W g 0 ps → gt < W.heap.size → TablesAt W gt 0 ts → Below w.heap.size w W → Calls Tryz.prog 17 #[.agg #[.slice (some ⟨g, 0, none⟩) ps.length ps.length], .agg #[.slice (some ⟨gt, 0, none⟩) ts.length ts.length]] W fun e w' => ∃ va vc, e = .returned (.tuple #[.agg #[.slice va no vc, .int .i64 Ro], .bool E]) ∧ (∀ W', Keeps W.heap.size w' W' → IsFns W' (.slice va no vc) out) ∧ Below W.heap.size W w') ∧
      (∀ g gt W, g < W.heap.size → PnsAt W g 0 ps → gt < W.heap.size → TablesAt W gt 0 ts → Below w.heap.size w W → Calls Tryz.prog 19 #[.agg #[.slice (some ⟨g, 0, none⟩) ps.length ps.length], .agg #[.slice (some ⟨gt, 0, none⟩) ts.length ts.length]] W fun e w' => ∃ va vc lab, e = .returned (.tuple #[.agg #[.slice va no vc, .int .i64 Ro], .bool E]) ∧ OwnF w' lab (.slice va no vc) out ∧ (∀ b, (lab b).1 ≤ 3 → W.heap.size ≤ b ∧ b < w'.heap.size) ∧ Below W.heap.size W w') ∧
      out.length ≤ 1048576 ∧ (∀ p ∈ out, p.Ex.length ≤ 1048576 ∧ p.Exs.length ≤ 1048576 ∧ ∀ xs ∈ p.Exs, xs.length ≤ 1048576) ∧ 1 + kNs out ≤ 536870912 := by
  have hfit := smallP_fit hpb
  by_cases hV : PlanV ts ps
  · refine ⟨(unN ts ps).1, (unN ts ps).2, true, (unN ts ps).1.length, rfl, fun g gt W h1 h2 h3 h4 _ => ?_, fun g gt W h1 h2 h3 h4 hb => ?_, by have := unN_len hV; have := hV.few; omega, (unN_bound hV hfit).2, ?_⟩
    · exact sUnnest_calls ts ps g ps.length gt ts.length W lp lt hsm hfit h1 h2 h3 h4 hV
    · refine (Unnest_calls ts ps g ps.length gt ts.length W lp lt hsm hfit h1 h2 h3 h4 (hTK.of hb) (hTP.of hb) (hTT.of hb) (hTF.of hb) (hTk.of hb)).mono ?_
      rintro e w' ⟨⟨_, G, k, lab, rfl, hF, hrg⟩ | ⟨hno, _⟩, hb'⟩
      · exact ⟨_, _, lab, rfl, Or.inr ⟨G, _, rfl, hF⟩, hrg, hb'⟩
      · exact absurd hV hno
    · have h1 := (unN_bound hV hfit).1
      have := hV.few
      omega
  · refine ⟨[], 0, false, 0, rfl, fun g gt W h1 h2 h3 h4 _ => ?_, fun g gt W h1 h2 h3 h4 hb => ?_, by simp, fun p hp => by simp at hp, by simp [kNs]⟩
    · refine (sUnnest_no ts ps g ps.length gt ts.length W lp lt hsm hfit h1 h2 h3 h4 hV).mono ?_
      rintro e w' ⟨rfl, hb'⟩
      exact ⟨none, 0, rfl, fun W' _ => Or.inl ⟨rfl, _, _, rfl⟩, hb'⟩
    · refine (Unnest_calls ts ps g ps.length gt ts.length W lp lt hsm hfit h1 h2 h3 h4 (hTK.of hb) (hTP.of hb) (hTT.of hb) (hTF.of hb) (hTk.of hb)).mono ?_
      rintro e w' ⟨⟨hy, _⟩ | ⟨_, rfl⟩, hb'⟩
      · exact absurd hy hV
      · exact ⟨none, 0, fun _ => (4, 0, 0), rfl, Or.inl ⟨rfl, _, _, rfl⟩, fun b hb2 => by simp at hb2, hb'⟩
end Go.Proofs.YtnchcndcinpalaaGreatDoor
