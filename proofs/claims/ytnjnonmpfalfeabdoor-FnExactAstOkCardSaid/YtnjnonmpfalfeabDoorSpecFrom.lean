/-
  THE BEGINNING OF A STRETCH, as the specification finds it.
-/
import Derived.Test.YtnjnonmpfalfeabDoorNodeKit
namespace Go.Proofs.YtnjnonmpfalfeabDoor
open Go Go.RowKit

open Classical in
noncomputable def frm (ns : List Nd) (i : Nat) : Int := if h : ∃ f, Seg ns f i (kidsAt ns i) then ((Classical.choose h : Nat) : Int) else -1
theorem frm_some {ns : List Nd} {f i : Nat} (h : Seg ns f i (kidsAt ns i)) : frm ns i = (f : Int) := by
  unfold frm
  rw [dif_pos ⟨f, h⟩]
  have := h.uniqL _ (Classical.choose_spec (⟨f, h⟩ : ∃ f, Seg ns f i (kidsAt ns i)))
  rw [this]
theorem frm_none {ns : List Nd} {i : Nat} (h : ∀ f, ¬ Seg ns f i (kidsAt ns i)) : frm ns i = -1 := by
  unfold frm
  rw [dif_neg (fun ⟨f, hf⟩ => h f hf)]
theorem frm_cases (ns : List Nd) (i : Nat) : (frm ns i = -1 ∧ ∀ f, ¬ Seg ns f i (kidsAt ns i)) ∨ ∃ f : Nat, frm ns i = (f : Int) ∧ Seg ns f i (kidsAt ns i) := by
  by_cases h : ∃ f, Seg ns f i (kidsAt ns i)
  · obtain ⟨f, hf⟩ := h
    exact Or.inr ⟨f, frm_some hf, hf⟩
  · have h' : ∀ f, ¬ Seg ns f i (kidsAt ns i) := fun f hf => h ⟨f, hf⟩
    exact Or.inl ⟨frm_none h', h'⟩
/-- what a whole row of kids says of one of them -/
theorem Seg.mid {ns : List Nd} {f i a m : Nat} {ks : List Int} (h : Seg ns f i ks) (hm : m < ks.length) (ha : Seg ns a i (ks.drop (m + 1))) : ∃ p c, a = p + 1 ∧ ks[m] = (p : Int) ∧ Seg ns c p (kidsAt ns p) := by
  rw [← List.take_append_drop (m + 1) ks] at h
  obtain ⟨c, h1, h2⟩ := h.split'
  obtain rfl := ha.uniqL _ h2
  rw [take_snocN ks m hm] at h1
  obtain ⟨p, c', e1, e2, _, h4⟩ := h1.inv
  exact ⟨p, c', e1, e2, h4⟩

set_option maxHeartbeats 2000000 in
theorem from_calls (ns : List Nd) (g cap : Nat) (hb1 : ns.length ≤ 1048576) (hkb : ∀ n ∈ ns, n.Kids.length ≤ 1048576) : ∀ (n i : Nat), i < n → i < ns.length → ∀ (w : World), g < w.heap.size → NodesAt w g 0 ns →
    Calls Tryd.prog 41 #[.slice (some ⟨g, 0, none⟩) ns.length cap, .int .i64 (i : Int)] w fun e w' => e = .returned (.int .i64 (frm ns i)) ∧ w' = w := by
  intro n
  induction n with
  | zero => intro i hi; omega
  | succ n ih =>
    intro i hin hi w hg hn
    obtain ⟨_, kg, c5, _, hkg, hks⟩ := hn.at i hi
    have hkl : (ns[i]).Kids.length ≤ 1048576 := hkb _ (List.getElem_mem hi)
    have hka : kidsAt ns i = (ns[i]).Kids := kidsAt_some (List.getElem?_eq_getElem hi)
    have IH := fun (p : Nat) (hp : p < i) => ih p (by omega) (by omega) w hg hn
    have HC := hide (frm_cases ns i)
    have hsome := fun (f : Nat) (h : Seg ns f i (ns[i]).Kids) => frm_some (ns := ns) (f := f) (i := i) (by rw [hka]; exact h)
    have hnone := fun (h : ∀ f, ¬ Seg ns f i (ns[i]).Kids) => frm_none (ns := ns) (i := i) (by rw [hka]; exact h)
    generalize (ns[i]).Kids = ks at *
    have HI := hide IH; have H1 := hide hsome; have H2 := hide hnone; have HS := hide hks
    clear ih IH hsome hnone hks hn hka
    simp only [Nat.zero_add] at c5
    have j0 : (i : Int) < (ns.length : Int) := by omega
    go_enter Tryd.func41, Tryd.ntmps41
    go_wp2
    go_loopw [5, 7, 8] (fun nx c _ wr => ∃ (m a : Nat) (nv cv : Int), m ≤ ks.length ∧ a ≤ i ∧ nx = .int .i64 nv ∧ c = .int .i64 cv ∧ nv = (a : Int) - 1 ∧ cv = (m : Int) - 1 ∧ Seg ns a i (ks.drop m) ∧ wr = w) (fun _ c _ _ => (intOf c + 1).toNat)
    case atStart => exact ⟨ks.length, i, _, _, Nat.le_refl _, Nat.le_refl _, rfl, rfl, by omega, by omega, by rw [List.drop_length]; exact Seg.nil i, rfl⟩
    case round =>
      obtain ⟨m, a, nv, cv, hm, ha, rfl, rfl, hnv, hcv, hseg, rfl⟩ := hrel
      have HG := hide hseg
      clear hseg
      have Hnv := hide hnv; have Hcv := hide hcv
      cases m with
      | zero =>
        have e0 : ¬ 0 ≤ cv := by omega
        have HE : Hid (frm ns i = nv + 1) := by
          show _ = _
          rw [unhide H1 a (by simpa using unhide HG), hnv]; omega
        clear hnv hcv
        have b1 : -1 ≤ nv := by have := unhide Hnv; omega
        have b2 : nv ≤ 1048576 := by have := unhide Hnv; omega
        clear Hnv Hcv
        go_wp2
        go_ret
        exact ⟨congrArg (fun z => Ending.returned (.int .i64 z)) HE.out.symm, rfl⟩
      | succ m =>
        have hlt : m < ks.length := by omega
        obtain rfl : cv = (m : Int) := by omega
        have x0 := (unhide HS).at m hlt
        simp only [Nat.zero_add] at x0
        have hmid := fun (f : Nat) (h : Seg ns f i ks) => h.mid hlt (unhide HG)
        have hgo : ∀ (p f : Nat), a = p + 1 → ks[m] = (p : Int) → Seg ns f p (kidsAt ns p) → Seg ns f i (ks.drop m) := fun p f h1 h2 h3 => by
          rw [List.drop_eq_getElem_cons hlt, h2]
          have := h3.one.join (h1 ▸ unhide HG)
          simpa using this
        have Hmid := hide hmid; have Hgo := hide hgo
        clear hmid hgo
        generalize ks[m] = x at *
        cases a with
        | zero =>
          have e1 : nv < 0 := by omega
          have HE : Hid (frm ns i = -1) := unhide H2 (fun f hf => by obtain ⟨p, c, e, _⟩ := unhide Hmid f hf; omega)
          clear hnv hcv
          go_wp2
          go_ret
          exact ⟨congrArg (fun z => Ending.returned (.int .i64 z)) HE.out.symm, rfl⟩
        | succ p =>
          obtain rfl : nv = (p : Int) := by omega
          have e1 : ¬ (p : Int) < 0 := by omega
          by_cases hx : x = (p : Int)
          · have hx' : (x != (p : Int)) = false := by simp [hx]
            have HX := hide hx
            clear hx
            have IHp := unhide HI p (by omega)
            rcases frm_cases ns p with ⟨hf, hno⟩ | ⟨f, hf, hseg⟩
            · rw [hf] at IHp
              have HIp := hide IHp
              have HE : Hid (frm ns i = -1) := unhide H2 (fun f hf => by
                obtain ⟨p', c, e, _, hs⟩ := unhide Hmid f hf
                obtain rfl : p' = p := by omega
                exact hno c hs)
              clear hnv hcv IHp hf hno
              go_wp2_with fail
              refine (unhide HIp).mono ?_; rintro e w1 ⟨rfl, rfl⟩
              go_wp2
              go_ret
              exact ⟨congrArg (fun z => Ending.returned (.int .i64 z)) HE.out.symm, rfl⟩
            · rw [hf] at IHp
              have HIp := hide IHp
              have hfp : f ≤ p := hseg.le
              have HE : Hid (Seg ns f i (ks.drop m)) := unhide Hgo p f rfl (unhide HX) hseg
              clear hnv hcv IHp hf hseg
              go_wp2_with fail
              refine (unhide HIp).mono ?_; rintro e w1 ⟨rfl, rfl⟩
              go_wp2
              go_roundw
              case rel => exact ⟨m, f, _, _, by omega, by omega, rfl, rfl, by first | rfl | omega, by first | rfl | omega, HE.out, by first | rfl | trivial⟩
              case measure => simp [intOf]
          · have hx' : (x != (p : Int)) = true := by simp [hx]
            have HE : Hid (frm ns i = -1) := unhide H2 (fun f hf => by
              obtain ⟨p', c, e, e2, _⟩ := unhide Hmid f hf
              exact hx (by omega))
            clear hnv hcv hx
            go_wp2
            go_ret
            exact ⟨congrArg (fun z => Ending.returned (.int .i64 z)) HE.out.symm, rfl⟩
end Go.Proofs.YtnjnonmpfalfeabDoor
