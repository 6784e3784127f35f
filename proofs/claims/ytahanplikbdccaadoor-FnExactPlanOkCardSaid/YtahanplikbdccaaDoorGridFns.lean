import Derived.Test.YtahanplikbdccaaDoorGridKit
import Derived.Test.YtahanplikbdccaaDoorEqValS
namespace Go.Proofs.YtahanplikbdccaaDoor
open Go Go.RowKit

/-- make([][]impl.Val, n) -/
theorem make_rows (n : Nat) (hn : n ≤ 1048576) (w : World) :
    (Instr.makeSlice 47 (.int .i64 (n : Int)) (.int .i64 (n : Int))).run Tryd.prog w = .ok (.slice (some ⟨w.heap.size, 0, none⟩) n n) (w.alloc (.cells (madeCells #[.slice none 0 0] n) 52)) := by
  obtain ⟨i, hi, hz⟩ := Option.map_eq_some_iff.1 (show (Tryd.prog.info? 52).map (fun i => (i.zero, i.size, i.bytes)) = some (some (.slice none 0 0), 1, 24) by kernel_rfl)
  simp only [Prod.mk.injEq] at hz
  have := run_make (P := Tryd.prog) w 47 52 i _ Tryd.underlying47 hi hz.1 .i64 .i64 (n : Int) (n : Int) (by omega) (by omega) (by rw [hz.2.2]; omega) (by omega)
  rw [hz.2.1] at this
  simpa [Value.cells] using this
theorem make_rows0 (w : World) : (Instr.makeSlice 47 (.int .i64 0) (.int .i64 0)).run Tryd.prog w = .ok (.slice (some ⟨w.heap.size, 0, none⟩) 0 0) (w.alloc (.cells #[] 52)) := by
  have := make_rows 0 (by omega) w
  rw [show madeCells #[.slice none 0 0] 0 = #[] from Array.eq_empty_of_size_eq_zero (by simp [size_madeCells])] at this
  simpa using this

set_option maxHeartbeats 1000000 in
theorem toValSS_calls (v : Value) (xss : List (List V2)) (w : World) (hv : IsRows w v xss) (hn : xss.length ≤ 1048576) (hx : bulk xss ≤ 1048576) :
    Calls Tryd.prog 60 #[v] w fun e w' => ∃ G rs, e = .returned (.slice (some ⟨G, 0, none⟩) xss.length xss.length) ∧ rs.map (fun r : R3 => r.2.2) = xss ∧ w.heap.size ≤ G ∧ OwnGrid w' G xss.length rs ∧ RowsOk w' rs ∧ (∀ r ∈ rs, G < r.1 ∧ r.2.1 = r.2.2.length) ∧ (rs.map (fun r : R3 => r.1)).Nodup ∧ Below w.heap.size w w' := by
  rcases hv with ⟨rfl, a, cap, rfl⟩ | ⟨g, off, cap, rfl, hg, hr⟩
  · have hmk := make_rows0
    clear hn hx
    go_enter Tryd.func60, Tryd.ntmps60
    go_wp2
    go_loopw [4] (fun i wr => i = .int .i64 0 ∧ OwnGrid wr w.heap.size 0 [] ∧ Below w.heap.size w wr) (fun _ _ => 0)
    case atStart => exact ⟨rfl, OwnGrid.made w 0 #[] _ rfl, bA (Below.refl _ _) _⟩
    case round =>
      obtain ⟨rfl, ho, hb⟩ := hrel
      go_wp2
      go_ret
      exact ⟨_, [], rfl, rfl, Nat.le_refl _, ho, fun r hr => (by simp at hr), fun r hr => (by simp at hr), by simp, hb⟩
  · have hmk := make_rows xss.length hn
    have hO : Hid (OwnGrid (w.alloc (.cells (madeCells #[.slice none 0 0] xss.length) 52)) w.heap.size xss.length []) := OwnGrid.made w _ _ _ (by simp [size_madeCells])
    go_enter Tryd.func60, Tryd.ntmps60
    go_wp2
    go_loopw [4] (fun i wr => ∃ (k : Nat) (rs : List R3), k ≤ xss.length ∧ i = .int .i64 k ∧ rs.map (fun r : R3 => r.2.2) = xss.take k ∧ OwnGrid wr w.heap.size xss.length rs ∧ RowsOk wr rs ∧ (∀ r ∈ rs, w.heap.size < r.1 ∧ r.2.1 = r.2.2.length) ∧ (rs.map (fun r : R3 => r.1)).Nodup ∧ Below w.heap.size w wr) (fun i _ => xss.length - (intOf i).toNat)
    case atStart => exact ⟨0, [], Nat.zero_le _, rfl, by simp, hO.out, fun r hr => (by simp at hr), fun r hr => (by simp at hr), by simp, bA (Below.refl _ _) _⟩
    case round =>
      clear hO hmk
      obtain ⟨k, rs, hk, rfl, hm, ho, hro, hlt', hnd, hb⟩ := hrel
      by_cases hlt : k < xss.length
      · obtain ⟨u, hu, hru⟩ := hr k xss[k] (by simp [hlt])
        have e0 : wr.cell? ⟨g, off + k, none⟩ = some u := (hb.cell (p := ⟨g, off + k, none⟩) hg).trans hu
        have hlen : rs.length = k := by have := congrArg List.length hm; simp at this; omega
        have hxk : xss[k].length ≤ 1048576 := Nat.le_trans (bulk_mem (List.getElem_mem hlt)) hx
        go_wp2_with fail
        refine (toValS_calls u xss[k] _ (hru.of hb) hxk).mono ?_; rintro e w1 ⟨g1, rfl, hg1, ho1, hb1⟩
        have d1 := bT hb hb1
        have hoG := ho.of hb1
        have hN : Hid (OwnGrid (w1.setCell ⟨w.heap.size, k, none⟩ (.slice (some ⟨g1, 0, none⟩) xss[k].length xss[k].length)) w.heap.size xss.length (rs ++ [(g1, xss[k].length, xss[k])])) := by
          have := hoG.push (by omega) (g1, xss[k].length, xss[k])
          rw [hlen] at this
          exact this
        have hgw : w.heap.size < g1 := Nat.lt_of_lt_of_le ho.size hg1
        have hR : Hid (RowsOk (w1.setCell ⟨w.heap.size, k, none⟩ (.slice (some ⟨g1, 0, none⟩) xss[k].length xss[k].length)) (rs ++ [(g1, xss[k].length, xss[k])])) := by
          intro r hr'
          rcases List.mem_append.1 hr' with h | h
          · exact ((hro.of hb1).far (fun r hr => by have := (hlt' r hr).1; omega) _) r h
          · simp at h
            subst h
            exact ⟨ho1.far (by omega) _, Nat.le_refl _⟩
        have hND : Hid ((rs ++ [(g1, xss[k].length, xss[k])]).map (fun r : R3 => r.1)).Nodup := by
          show List.Nodup _
          rw [List.map_append, List.nodup_append]
          refine ⟨hnd, by simp, fun a ha b hb' e => ?_⟩
          simp at hb'
          obtain ⟨r, hr1, hr2⟩ := List.mem_map.1 ha
          have := (hro r hr1).1.size
          omega
        obtain ⟨u0, hu0⟩ := hoG.all k (by omega)
        have hf := hoG.frz
        clear ho hoG hb1
        go_wp2
        go_roundw
        case rel =>
          refine ⟨k + 1, rs ++ [(g1, xss[k].length, xss[k])], by omega, by go_num, ?_, hN.out, hR.out, ?_, hND.out, d1.setCell (Nat.le_refl _) _⟩
          · rw [List.map_append, hm, take_snoc xss k hlt]; rfl
          · intro r hr'
            rcases List.mem_append.1 hr' with h | h
            · exact hlt' r h
            · simp at h
              subst h
              exact ⟨hgw, rfl⟩
        case measure => simp [intOf]; omega
      · obtain rfl : k = xss.length := by omega
        rw [List.take_length] at hm
        go_wp2
        go_ret
        exact ⟨_, rs, rfl, hm, Nat.le_refl _, ho, hro, hlt', hnd, hb⟩
end Go.Proofs.YtahanplikbdccaaDoor
