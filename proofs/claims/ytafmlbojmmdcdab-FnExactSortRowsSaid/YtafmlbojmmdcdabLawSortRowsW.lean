import Derived.Test.YtafmlbojmmdcdabSSort2
import Derived.Test.YtafmlbojmmdcdabMarks2
namespace Go.Proofs.Ytafmlbojmmdcdab
open Go Go.RowKit
structure GR (w : World) (G : Nat) (rs : List R3) : Prop where
  size : G < w.heap.size
  grid : GridAt w G 0 rs
  rows : RowsOk w rs
theorem GR.of {w w1 : World} {G : Nat} {rs : List R3} (h : GR w G rs) (hb : Below w.heap.size w w1) : GR w1 G rs := ⟨Nat.lt_of_lt_of_le h.size hb.size, h.grid.of h.size hb, h.rows.of hb⟩
theorem GR.but {S : Nat → Prop} {w w1 : World} {G : Nat} {rs : List R3} (h : GR w G rs) (hb : But S w w1) (hG : ¬ S G) (hn : ∀ r ∈ rs, ¬ S r.1) : GR w1 G rs := ⟨Nat.lt_of_lt_of_le h.size hb.size, h.grid.but h.size hb hG, h.rows.but hb hn⟩
theorem bulk_perm {a b : List (List V2)} (h : List.Perm a b) : bulk a = bulk b := by
  induction h with
  | nil => rfl
  | cons x _ ih => simp only [bulk, ih]
  | swap x y l => simp only [bulk]; omega
  | trans _ _ i1 i2 => exact i1.trans i2
theorem bulk_clean (xss : List (List V2)) : bulk (xss.map (fun l => l.map clnV)) = bulk xss := by
  induction xss with
  | nil => rfl
  | cons x r ih => simp only [List.map_cons, bulk, List.length_map, ih]
theorem map_cleanR {rs : List R3} {xss : List (List V2)} (h : rs.map (fun r : R3 => r.2.2) = xss) : rs.map cleanR = xss.map (fun l => l.map clnV) := by
  rw [← h, List.map_map]; rfl
theorem bnd_of {rs : List R3} {xss : List (List V2)} (h : rs.map (fun r : R3 => r.2.2) = xss) (hx : bulk xss ≤ 1048576) : ∀ r ∈ rs, r.2.2.length ≤ 1048576 := fun r hr =>
  Nat.le_trans (bulk_mem (by rw [← h]; exact List.mem_map.2 ⟨r, hr, rfl⟩)) hx
set_option maxRecDepth 100000 in
set_option maxHeartbeats 2000000 in
theorem lawSortRows_calls (v : Value) (xss : List (List V2)) (w : World) (hv : IsRows w v xss) (hl : xss.length ≤ maxLen ∧ ∀ xs ∈ xss, xs.length ≤ maxLen) :
    Calls Try.prog 4 #[v] w fun e w' => e = .returned (.bool true) ∧ Below w.heap.size w w' := by
  obtain ⟨hl1, hl2⟩ := hl
  have hsz := szValSS_calls v xss 1048576 w hv hl1 hl2 (by omega) (by omega)
  by_cases c1 : (1048576 : Int) < (xss.length : Int) + bulk xss
  · have es : szA 1048576 xss = -1 := by unfold szA; rw [if_pos c1]
    rw [es] at hsz
    have HS := hide hsz
    clear hsz
    go_enter Try.func4, Try.ntmps4
    go_wp2_with fail
    refine (unhide HS).mono ?_; rintro e w1 ⟨rfl, rfl⟩
    go_wp2
    go_ret
    exact ⟨rfl, Below.refl _ _⟩
  have es : szA 1048576 xss = 1048576 - xss.length - bulk xss := by unfold szA; rw [if_neg c1]
  rw [es] at hsz
  have HS := hide hsz
  have n1 : ¬ (1048576 : Int) - xss.length - bulk xss < 0 := by omega
  have b1 : xss.length ≤ 1048576 := by omega
  have b2 : bulk xss ≤ 1048576 := by omega
  clear hsz hl1 hl2 c1 es
  have TV := fun w h => toValSS_calls v xss w h b1 b2
  have HTV := hide TV
  clear TV
  have bclean : bulk (msF (fun x => x) xss.length (xss.map (fun l => l.map clnV))) = bulk xss := (bulk_perm (msF_perm _ _ _)).trans (bulk_clean xss)
  have lclean : (msF (fun x => x) xss.length (xss.map (fun l => l.map clnV))).length = xss.length := by rw [msF_length]; simp
  generalize hcs : msF (fun x => x) xss.length (xss.map (fun l => l.map clnV)) = cs at *
  have HCS := hide hcs; have HBC := hide bclean; have HLC := hide lclean
  clear hcs bclean lclean
  -- SortRows of both sides, at any copy of the argument
  have IS : ∀ (rs : List R3) (G : Nat) (w : World), rs.map (fun r : R3 => r.2.2) = xss → GR w G rs → Calls Try.prog 16 #[.slice (some ⟨G, 0, none⟩) xss.length xss.length] w fun e w' => ∃ G' cap' qs, e = .returned (.slice (some ⟨G', 0, none⟩) xss.length cap') ∧ GR w' G' qs ∧ (∀ r ∈ qs, w.heap.size ≤ r.1 ∧ r.1 < G') ∧ w.heap.size ≤ G' ∧ (qs.map (fun r : R3 => r.1)).Nodup ∧ qs.map kR = cs ∧ Below w.heap.size w w' := by
    intro rs G w hm hg
    have hlen : rs.length = xss.length := by rw [← hm]; simp
    have := SortRows_calls rs G 0 xss.length w hg.size hg.grid hg.rows (by omega) (bnd_of hm b2)
    rw [hlen] at this
    refine this.mono ?_; rintro e w' ⟨G', cap', qs, rfl, h1, h2, h3, h4, h5, h6⟩
    exact ⟨G', cap', qs, rfl, ⟨h1.lt.1, h1.grid, h2⟩, h3, h1.lt.2.1, h4, by rw [h5, map_cleanR hm]; exact unhide HCS, h6⟩
  have SS : ∀ (rs : List R3) (G : Nat) (w : World), rs.map (fun r : R3 => r.2.2) = xss → GR w G rs → Calls Try.prog 14 #[.slice (some ⟨G, 0, none⟩) xss.length xss.length] w fun e w' => ∃ G' cap' qs, e = .returned (.slice (some ⟨G', 0, none⟩) xss.length cap') ∧ GR w' G' qs ∧ qs.map kR = cs ∧ Below w.heap.size w w' := by
    intro rs G w hm hg
    have hlen : rs.length = xss.length := by rw [← hm]; simp
    have := ssort_calls xss.length rs G 0 xss.length w (by omega) hg.size hg.grid hg.rows (by omega) (by omega) (bnd_of hm b2)
    rw [hlen] at this
    refine this.mono ?_; rintro e w' ⟨G', cap', qs, rfl, h1, h2, h5, h6⟩
    exact ⟨G', cap', qs, rfl, ⟨h1.lt.1, h1.grid, h2⟩, by rw [h5, map_cleanR hm]; exact unhide HCS, h6⟩
  have EQ : ∀ (rs qs : List R3) (G c G' c' : Nat) (w : World) (l : List (List V2)), l.length = xss.length → bulk l = bulk xss → rs.map kR = l → qs.map kR = l → GR w G rs → GR w G' qs → Calls Try.prog 17 #[.slice (some ⟨G, 0, none⟩) xss.length c, .slice (some ⟨G', 0, none⟩) xss.length c'] w fun e w' => e = .returned (.bool true) ∧ Below w.heap.size w w' := by
    intro rs qs G c G' c' w l hll hbl h1 h2 g1 g2
    have l1 : rs.length = xss.length := by rw [← hll, ← h1]; simp
    have l2 : qs.length = xss.length := by rw [← hll, ← h2]; simp
    have := eqValSS_calls rs qs G 0 c G' 0 c' w g1.size g2.size g1.grid g2.grid g1.rows g2.rows (h1.trans h2.symm) (by omega) (bnd_of (xss := l) h1 (by omega))
    rw [l1, l2] at this
    exact this
  have HIS := hide IS; have HSS := hide SS; have HEQ := hide EQ
  clear IS SS EQ HCS
  go_enter Try.func4, Try.ntmps4
  go_wp2_with fail
  refine (unhide HS).mono ?_; rintro e w ⟨rfl, rfl⟩
  clear HS
  go_wp2_with fail
  refine (unhide HTV _ hv).mono ?_; rintro e w1 ⟨G1, r1, rfl, m1, hG1, ho1, hr1, hx1, hn1, hb1⟩
  go_wp2_with fail
  refine (unhide HSS r1 G1 _ m1 ⟨ho1.size, ho1.held, hr1⟩).mono ?_; rintro e w2 ⟨Gw, cw, qw, rfl, gw, mw, hb2⟩
  have d2 := bT hb1 hb2
  clear m1 hG1 ho1 hr1 hx1 hn1 hb1 hb2
  go_wp2_with fail
  refine (unhide HTV _ (hv.of d2)).mono ?_; rintro e w3 ⟨Gx, rx, rfl, mx, hGx, hox, hrx, hxx, hnx, hb3⟩
  have gx : GR w3 Gx rx := ⟨hox.size, hox.held, hrx⟩
  have sx : ∀ r ∈ rx, r.1 < w3.heap.size := fun r hr => (hrx r hr).1.size
  have sw : ∀ r ∈ qw, r.1 < w2.heap.size := fun r hr => (gw.rows r hr).1.size
  have swG := gw.size
  have gw3 := gw.of hb3
  have d3 := bT d2 hb3
  have s23 := hb3.size
  clear hox hrx gw hb3
  go_wp2_with fail
  refine (unhide HIS rx Gx _ mx gx).mono ?_; rintro e w4 ⟨Gg, cg, qg, rfl, gg, hqg, hGg, hng, mg, hb4⟩
  have d4 := bT d3 hb4
  have gx4 := gx.of hb4
  have gw4 := gw3.of hb4
  clear gx gw3
  go_wp2_with fail
  refine (unhide HEQ qg qw Gg _ Gw _ _ cs (unhide HLC) (unhide HBC) mg mw gg gw4).mono ?_; rintro e w5 ⟨rfl, hb5⟩
  have d5 := bT d4 hb5
  have gx5 := gx4.of hb5
  have gw5 := gw4.of hb5
  have gg5 := gg.of hb5
  clear gx4 gw4 gg
  go_wp2_with fail
  refine (unhide HTV _ (hv.of d5)).mono ?_; rintro e w6 ⟨Gy, ry, rfl, my, _, hoy, hry, _, _, hb6⟩
  have d6 := bT d5 hb6
  have gy6 : GR w6 Gy ry := ⟨hoy.size, hoy.held, hry⟩
  have gx6 := gx5.of hb6
  have gw6 := gw5.of hb6
  have gg6 := gg5.of hb6
  clear gx5 gw5 gg5 hoy hry
  go_wp2_with fail
  refine (unhide HEQ rx ry Gx _ Gy _ _ xss rfl rfl mx my gx6 gy6).mono ?_; rintro e w7 ⟨rfl, hb7⟩
  have d7 := bT d6 hb7
  have gx7 := gx6.of hb7
  have gw7 := gw6.of hb7
  have gg7 := gg6.of hb7
  clear gx6 gw6 gg6 gy6
  have lx : rx.length = xss.length := by rw [← mx]; simp
  have MX := markValSS_calls rx Gx xss.length 1 w7 gx7.size gx7.grid gx7.rows hnx (fun r hr => by have := (hxx r hr).1; omega) (by omega) (by show 1 + 2 * bulk (rx.map (fun r : R3 => r.2.2)) ≤ _; rw [mx]; omega) (bnd_of mx b2)
  rw [lx, show bulk (rx.map kR) = bulk xss from congrArg bulk mx] at MX
  have HMX := hide MX
  clear MX
  go_wp2_with fail
  refine (unhide HMX).mono ?_; rintro e w8 ⟨rfl, _, hB8⟩
  have d8 : Below w.heap.size w w8 := d7.trans (hB8.low w.heap.size (fun b ⟨r, hr, e⟩ => by have h' := (hxx r hr).1; have := d2.size; omega))
  have gw8 := gw7.but hB8 (fun ⟨r, hr, e⟩ => by have h' := (hxx r hr).1; omega) (fun q hq ⟨r, hr, e⟩ => by have h' := (hxx r hr).1; have := sw q hq; omega)
  have gg8 := gg7.but hB8 (fun ⟨r, hr, e⟩ => by have := sx r hr; omega) (fun q hq ⟨r, hr, e⟩ => by have := sx r hr; have := (hqg q hq).1; omega)
  clear HMX hB8 gw7 gg7 gx7
  have k0 : ¬ (((1 + 2 * bulk xss : Nat) : Int) < 0) := by omega
  have EQ9 := unhide HEQ qg qw Gg cg Gw cw w8 cs (unhide HLC) (unhide HBC) mg mw gg8 gw8
  have HEQ9 := hide EQ9
  clear EQ9
  go_wp2_with fail
  refine (unhide HEQ9).mono ?_; rintro e w9 ⟨rfl, hb9⟩
  have d9 := bT d8 hb9
  have gw9 := gw8.of hb9
  have gg9 := gg8.of hb9
  clear HEQ9 gw8 gg8
  have lg : qg.length = xss.length := by rw [← unhide HLC, ← mg]; simp
  have MG := markValSS_calls qg Gg cg 1 w9 gg9.size gg9.grid gg9.rows hng (fun r hr => by have := (hqg r hr).2; omega) (by omega) (by rw [mg, unhide HBC]; omega) (bnd_of (xss := cs) mg (by rw [unhide HBC]; exact b2))
  rw [lg, mg, unhide HBC] at MG
  have HMG := hide MG
  clear MG
  go_wp2_with fail
  refine (unhide HMG).mono ?_; rintro e w10 ⟨rfl, hM10, hB10⟩
  have d10 : Below w.heap.size w w10 := d9.trans (hB10.low w.heap.size (fun b ⟨r, hr, e⟩ => by have h' := (hqg r hr).1; have := d3.size; omega))
  have gw10 := gw9.but hB10 (fun ⟨r, hr, e⟩ => by have h' := (hqg r hr).1; omega) (fun q hq ⟨r, hr, e⟩ => by have h' := (hqg r hr).1; have := sw q hq; omega)
  have gd10 : GridAt w10 Gg 0 qg := gg9.grid.but gg9.size hB10 (fun ⟨r, hr, e⟩ => by have := (hqg r hr).2; omega)
  have gs10 : Gg < w10.heap.size := Nat.lt_of_lt_of_le gg9.size hB10.size
  have HH : ∀ w', Below w10.heap.size w10 w' → Calls Try.prog 19 #[.slice (some ⟨Gg, 0, none⟩) xss.length cg, .int .i64 ((1 : Nat) : Int)] w' fun e w'' => e = .returned (.int .i64 ((1 + 2 * bulk xss : Nat) : Int)) ∧ Below w'.heap.size w' w'' := by
    intro w' hb
    have := heldValSS_calls qg Gg cg 1 w' (Nat.lt_of_lt_of_le gs10 hb.size) (gd10.of gs10 hb) (by rw [lg]; exact hM10.of hb) (by omega) (by rw [mg, unhide HBC]; omega) (bnd_of (xss := cs) mg (by rw [unhide HBC]; exact b2))
    rw [lg, mg, unhide HBC] at this
    exact this
  have HHH := hide HH
  clear HH gd10 gs10 gw9 gg9 hM10 hB10 HMG
  have e0 : (((1 + 2 * bulk xss : Nat) : Int) != ((1 + 2 * bulk xss : Nat) : Int)) = false := by simp
  have e0' : (((1 : Int) + 2 * (bulk xss : Int)) != ((1 : Int) + 2 * (bulk xss : Int))) = false := by simp
  go_wp2_with fail
  refine (unhide HHH _ (Below.refl _ _)).mono ?_; rintro e w11 ⟨rfl, hb11⟩
  have d11 := bT d10 hb11
  have gw11 := gw10.of hb11
  clear gw10
  go_wp2_with fail
  refine (unhide HTV _ (hv.of d11)).mono ?_; rintro e w12 ⟨Gz, rz, rfl, mz, _, hoz, hrz, _, _, hb12⟩
  have d12 := bT d11 hb12
  have gw12 := gw11.of hb12
  have gz12 : GR w12 Gz rz := ⟨hoz.size, hoz.held, hrz⟩
  have i12 := bT hb11 hb12
  clear gw11 hoz hrz
  go_wp2_with fail
  refine (unhide HIS rz Gz _ mz gz12).mono ?_; rintro e w13 ⟨Gh, ch, qh, rfl, gh, _, _, _, mh, hb13⟩
  have d13 := bT d12 hb13
  have gw13 := gw12.of hb13
  have i13 := bT i12 hb13
  clear gw12 gz12
  go_wp2_with fail
  refine (unhide HEQ qh qw Gh _ Gw _ _ cs (unhide HLC) (unhide HBC) mh mw gh gw13).mono ?_; rintro e w14 ⟨rfl, hb14⟩
  have d14 := bT d13 hb14
  have i14 := bT i13 hb14
  clear gw13 gh
  go_wp2_with fail
  refine (unhide HHH _ i14).mono ?_; rintro e w15 ⟨rfl, hb15⟩
  have d15 := bT d14 hb15
  go_wp2
  go_ret
  exact ⟨rfl, d15⟩
end Go.Proofs.Ytafmlbojmmdcdab
