import Derived.Test.YtafmlbojmmdcdaaSorted3
import Derived.Test.YtafmlbojmmdcdaaGridFns2
import Derived.Test.YtafmlbojmmdcdaaCopyRow
namespace Go.Proofs.Ytafmlbojmmdcdaa
open Go Go.RowKit
abbrev cleanR (r : R3) : List V2 := r.2.2.map clnV
set_option maxHeartbeats 1000000 in
theorem SortRows_calls (rs : List R3) (G off cap : Nat) (w : World) (hG : G < w.heap.size) (hr : GridAt w G off rs) (hro : RowsOk w rs) (b1 : rs.length ≤ 1048576) (b2 : ∀ r ∈ rs, r.2.2.length ≤ 1048576) :
    Calls Try.prog 5 #[.slice (some ⟨G, off, none⟩) rs.length cap] w fun e w' => ∃ G' cap' qs, e = .returned (.slice (some ⟨G', 0, none⟩) rs.length cap') ∧ OwnG w' w.heap.size G' cap' qs ∧ RowsOk w' qs ∧ (∀ r ∈ qs, w.heap.size ≤ r.1 ∧ r.1 < G') ∧ (qs.map (fun r : R3 => r.1)).Nodup ∧ qs.map kR = msF (fun x => x) rs.length (rs.map cleanR) ∧ Below w.heap.size w w' := by
  have hmk := make_rows rs.length b1
  have hO : Hid (OwnGrid (w.alloc (.cells (madeCells #[.slice none 0 0] rs.length) 27)) w.heap.size rs.length []) := OwnGrid.made w _ _ _ (by simp [size_madeCells])
  go_enter Try.func5, Try.ntmps5
  go_wp2
  go_loopw [4, 5, 11] (fun _ _ i wr => ∃ (k : Nat) (qs : List R3), k ≤ rs.length ∧ i = .int .i64 k ∧ qs.map kR = (rs.map cleanR).take k ∧ OwnGrid wr w.heap.size rs.length qs ∧ RowsOk wr qs ∧ (∀ r ∈ qs, w.heap.size < r.1) ∧ (qs.map (fun r : R3 => r.1)).Nodup ∧ Below w.heap.size w wr) (fun _ _ i _ => rs.length - (intOf i).toNat)
  case atStart => exact ⟨0, [], Nat.zero_le _, rfl, by simp, hO.out, fun r hr => (by simp at hr), fun r hr => (by simp at hr), by simp, bA (Below.refl _ _) _⟩
  case round =>
    clear hO hmk
    obtain ⟨k, qs, hk, rfl, hm, ho, hqo, hlt', hnd, hb⟩ := hrel
    have hlen : qs.length = k := by have := congrArg List.length hm; simp at this; omega
    by_cases hlt : k < rs.length
    · have e0 := (hr.of hG hb) k rs[k] (by simp [hlt])
      have hmem : rs[k] ∈ rs := List.getElem_mem hlt
      have hrk := (hro.of hb) _ hmem
      have hbk := b2 _ hmem
      have hck : (rs.map cleanR)[k]'(by simpa using hlt) = cleanR rs[k] := by simp
      unfold rv at e0
      generalize rs[k] = r at *
      obtain ⟨rg, rc, rx⟩ := r
      simp only at e0 hrk hbk
      have CR := fun w h1 h2 => copyRow_calls rx rg 0 rc w h1 h2 hbk
      have HC := hide CR; have HRK := hide hrk; have HCK := hide hck
      have j1 : (k : Int) < (rs.length : Int) := by omega
      have q1 : G < wr.heap.size := Nat.lt_of_lt_of_le hG hb.size
      clear CR hrk hck hmem hbk
      go_wp2_with fail
      refine (unhide HC _ (unhide HRK).1.size (unhide HRK).1.held).mono ?_; rintro e w1 ⟨g1, rfl, hg1, ho1, hb1⟩
      have d1 := bT hb hb1
      have hoG := ho.of hb1
      have hgw : w.heap.size < g1 := Nat.lt_of_lt_of_le ho.size hg1
      have hN : Hid (OwnGrid (w1.setCell ⟨w.heap.size, k, none⟩ (.slice (some ⟨g1, 0, none⟩) rx.length rx.length)) w.heap.size rs.length (qs ++ [(g1, rx.length, rx.map clnV)])) := by
        show OwnGrid _ _ _ _
        have := hoG.push (by omega) (g1, rx.length, rx.map clnV)
        rw [hlen] at this
        simpa [rv] using this
      have hR : Hid (RowsOk (w1.setCell ⟨w.heap.size, k, none⟩ (.slice (some ⟨g1, 0, none⟩) rx.length rx.length)) (qs ++ [(g1, rx.length, rx.map clnV)])) := by
        intro r hr'
        rcases List.mem_append.1 hr' with h | h
        · exact ((hqo.of hb1).far (fun r hr => by have := hlt' r hr; omega) _) r h
        · simp at h
          subst h
          simp only [List.length_map]
          exact ⟨ho1.far (by omega) _, Nat.le_refl _⟩
      have hND : Hid ((qs ++ [(g1, rx.length, rx.map clnV)]).map (fun r : R3 => r.1)).Nodup := by
        show List.Nodup _
        rw [List.map_append, List.nodup_append]
        refine ⟨hnd, by simp, fun a ha b hb' e => ?_⟩
        simp at hb'
        obtain ⟨r, hr1, hr2⟩ := List.mem_map.1 ha
        have := (hqo r hr1).1.size
        omega
      obtain ⟨u0, hu0⟩ := hoG.all k (by omega)
      have hf := hoG.frz
      clear ho hoG hb1 HC HRK
      go_wp2
      go_roundw
      case rel =>
        refine ⟨k + 1, qs ++ [(g1, rx.length, rx.map clnV)], by omega, by go_num, ?_, hN.out, hR.out, ?_, hND.out, d1.setCell (Nat.le_refl _) _⟩
        · rw [List.map_append, hm, take_snoc (rs.map cleanR) k (by simpa using hlt), unhide HCK]; rfl
        · intro r hr'
          rcases List.mem_append.1 hr' with h | h
          · exact hlt' r h
          · simp at h
            subst h
            exact hgw
      case measure => simp [intOf]; omega
    · obtain rfl : k = rs.length := by omega
      rw [List.take_of_length_le (by simp)] at hm
      have hq2 : ∀ r ∈ qs, r.2.2.length ≤ 1048576 := fun r hr => by
        have : r.2.2 ∈ rs.map cleanR := by rw [← hm]; exact List.mem_map.2 ⟨r, hr, rfl⟩
        obtain ⟨r', hr', e⟩ := List.mem_map.1 this
        have := b2 r' hr'
        rw [← e]; simpa using this
      have SC := sorted_calls rs.length qs w.heap.size 0 rs.length wr (by omega) ho.size ho.held hqo (by omega) (by omega) hq2
      rw [hlen] at SC
      have HSC := hide SC
      clear SC
      go_wp2_with fail
      refine (unhide HSC).mono ?_; rintro e w1 ⟨G', cap', rfl, how, hb1⟩
      have hp := msF_perm kR rs.length qs
      have hG' := how.lt.2.1
      have F1 : Hid (RowsOk w1 (msF kR rs.length qs)) := (hqo.of hb1).sub (fun r hr => hp.mem_iff.1 hr)
      have F2 : Hid (∀ r ∈ msF kR rs.length qs, w.heap.size ≤ r.1 ∧ r.1 < G') := fun r hr => by
        have hm' := hp.mem_iff.1 hr
        have := hlt' r hm'
        have := (hqo r hm').1.size
        omega
      have F3 : Hid ((msF kR rs.length qs).map (fun r : R3 => r.1)).Nodup := (List.Perm.nodup_iff (hp.map _)).2 hnd
      have F4 : Hid ((msF kR rs.length qs).map kR = msF (fun x => x) rs.length (rs.map cleanR)) := by
        show _ = _
        rw [msF_map kR (fun x => x) kR (fun _ => rfl), hm]
      have F5 : Hid (OwnG w1 w.heap.size G' cap' (msF kR rs.length qs)) := how.mono hb.size
      have d1 := bT hb hb1
      clear how
      go_wp2
      go_ret
      exact ⟨G', cap', _, rfl, F5.out, F1.out, F2.out, F3.out, F4.out, d1⟩
end Go.Proofs.Ytafmlbojmmdcdaa
