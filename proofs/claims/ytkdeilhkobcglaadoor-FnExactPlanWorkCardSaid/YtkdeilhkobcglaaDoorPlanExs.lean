import Derived.Test.YtkdeilhkobcglaaDoorPlanWidths
import Derived.Test.YtkdeilhkobcglaaDoorPlanFields
import Derived.Test.YtkdeilhkobcglaaDoorGEx
import Derived.Test.YtkdeilhkobcglaaDoorGFld
/-
  THE EXPRESSIONS OF A PLAN's NODE, as the program asks for them; the closure that adds widths.
-/
namespace Go.Proofs.YtkdeilhkobcglaaDoor
open Go Go.RowKit

theorem closE_calls (n b vb : Nat) (f : Nat → Int) (v : Int) (l : Nat) (w : World) (hc : w.cell? ⟨vb, 0, none⟩ = some (.slice (some ⟨b, 0, none⟩) n n)) (hr : FnRow w b n f) (hl : l < n) (h0 : 0 ≤ v) (h1 : v ≤ 17592186044416) (hf0 : 0 ≤ f l) (hf1 : f l ≤ 4294967296) :
    Calls Tryd.prog 54 #[.int .i64 v, .int .i64 (l : Int), .pointer (some ⟨vb, 0, none⟩)] w fun e w' => e = .returned (.int .i64 (v + f l)) ∧ w' = w := by
  have c1 := hr.at l hl
  have s1 := hr.lt
  have j1 : (l : Int) < (n : Int) := by omega
  clear hr
  generalize f l = z at *
  go_enter Tryd.func54, Tryd.ntmps54
  go_wp2
  go_ret
  exact ⟨rfl, rfl⟩


theorem exsV_exsH {nt : Nat} {K T M L R : Int} {Ex : List O2} {Exs : List (List O2)} (hF : FldN nt K T M Ex.length Exs.length L R) (env l r : Int) :
    ExsV ⟨K, T, M, Ex, Exs, L, R⟩ env l r ↔ ExsH (pfb K 2 && (M != 1)) (env + l + (if perRow K then r else 0)) Ex Exs := by
  unfold ExsV ExsH
  rw [pUses hF.1 hF.2.1]
  simp only [decide_eq_true_iff]
  by_cases hu : usesEx K M
  · rw [if_pos hu, if_pos hu]
  · rw [if_neg hu, if_neg hu]
    by_cases h4 : K = 4
    · subst h4
      simp [perRow]
    · have h5 := hF.2.2.1.2.2.2.2.2
      have e1 : Exs = [] := List.eq_nil_of_length_eq_zero (by omega)
      subst e1
      simp

set_option maxRecDepth 100000 in
set_option maxHeartbeats 4000000 in
theorem seenOk_calls (nt : Nat) (K T M L R : Int) (Ex : List O2) (Exs : List (List O2)) (b3 b4 n b : Nat) (env : Int) (f : Nat → Int) (w : World) (hF : FldN nt K T M Ex.length Exs.length L R) (hn : 0 < n)
    (hkl : 0 < arity K → 0 ≤ L ∧ L.toNat < n) (hkr : 1 < arity K → 0 ≤ R ∧ R.toNat < n) (he0 : 0 ≤ env) (he1 : env ≤ 17592186044416) (hf : ∀ j, j < n → 0 ≤ f j ∧ f j ≤ 4294967296)
    (hb3 : b3 < w.heap.size) (hx : OpsAt w b3 0 Ex) (hb4 : b4 < w.heap.size) (hxs : OpssAt w b4 Exs) (hr : FnRow w b n f) (l1 : Ex.length ≤ 1048576) (l2 : Exs.length ≤ 1048576) (l3 : ∀ xs ∈ Exs, xs.length ≤ 1048576) (hT : TPlan w) (hTT : TTakes w) :
    Calls Tryd.prog 55 #[.agg #[.int .i64 K, .int .i64 T, .int .i64 M, .slice (some ⟨b3, 0, none⟩) Ex.length Ex.length, .slice (some ⟨b4, 0, none⟩) Exs.length Exs.length, .int .i64 L, .int .i64 R], .int .i64 env, .slice (some ⟨b, 0, none⟩) n n] w
      fun e w' => e = .returned (.bool (dB (ExsV ⟨K, T, M, Ex, Exs, L, R⟩ env (f L.toNat) (f R.toNat)))) ∧ Below w.heap.size w w' := by
  have k1 := hF.1
  have k2 := hF.2.1
  have k0 : (0 : Int) ≤ K := by omega
  have k11 : K < 11 := by omega
  have HE := hide (dB_congr (exsV_exsH hF env (f L.toNat) (f R.toNat)))
  have hpw := (p_words k1 k2).2.2.2.2.2.2
  obtain ⟨t0, t1, t2, t3, t4, t5, t6, t7⟩ := p_look hT K k1 k2
  have htz := hT.size
  obtain ⟨a1, a2, a3⟩ := arity_k (k := K)
  have hLr : 0 ≤ L ∧ L.toNat < n := by
    rcases arity_of k1 k2 with ha | ha | ha
    · have := hF.2.2.2.1 ha
      omega
    · exact hkl (by omega)
    · exact hkl (by omega)
  obtain ⟨q, rfl⟩ : ∃ q : Nat, L = (q : Int) := ⟨L.toNat, by omega⟩
  have hq : q < n := by omega
  have hqn : (q : Int) < (n : Int) := by omega
  obtain ⟨z0, z1⟩ := hf q hq
  have r1 := hr.at q hq
  have r3 := hr.lt
  rw [show ((q : Int)).toNat = q by omega] at HE ⊢
  by_cases hp : perRow K
  · have ha2 := a1 (by unfold perRow at hp; omega)
    obtain ⟨hR0, hR1⟩ := hkr (by omega)
    obtain ⟨j, rfl⟩ : ∃ j : Nat, R = (j : Int) := ⟨R.toNat, by omega⟩
    have hj : j < n := by omega
    have hjn : (j : Int) < (n : Int) := by omega
    obtain ⟨y0, y1⟩ := hf j hj
    have r2 := hr.at j hj
    rw [show ((j : Int)).toNat = j by omega, if_pos hp] at HE
    rw [show ((j : Int)).toNat = j by omega]
    have hp' : pfb K 6 = true := hpw.2 hp
    rw [hp'] at t6
    generalize dB (ExsV ⟨K, T, M, Ex, Exs, (q : Int), (j : Int)⟩ env (f q) (f j)) = E at *
    clear hF hkl hkr hf hr hT hp hpw a1 a2 a3 ha2 hLr hR0 hR1 hp'
    generalize pfb K 0 = p0 at *
    generalize pfb K 1 = p1 at *
    generalize pfb K 2 = p2 at *
    generalize pfb K 3 = p3 at *
    generalize pfb K 4 = p4 at *
    generalize pfb K 5 = p5 at *
    generalize pfb K 7 = p7 at *
    generalize f q = z at *
    generalize f j = y at *
    have HX := hide (fun W (hb : Below w.heap.size w W) => fExs_calls p0 p1 p2 p3 p4 p5 true p7 K T M (q : Int) (j : Int) (env + z + y) Ex Exs b3 b4 W (Nat.lt_of_lt_of_le hb3 hb.size) (hx.of hb3 hb) (Nat.lt_of_lt_of_le hb4 hb.size) (hxs.of hb4 hb) l1 l2 l3 (hTT.of hb))
    obtain ⟨E', hE'⟩ : ∃ E', dB (ExsH (p2 && (M != 1)) (env + z + y) Ex Exs) = E' := ⟨_, rfl⟩
    rw [hE'] at HX HE
    clear hx hxs hTT l3 hE' hb3 hb4
    go_enter Tryd.func55, Tryd.ntmps55
    go_wp2_with fail
    refine (unhide HX _ (by (repeat (first | exact Below.refl _ _ | refine bA ?_ _)))).mono ?_; rintro e w2 ⟨rfl, hb2⟩
    have HB2 := hide (bT (by (repeat (first | exact Below.refl _ _ | refine bA ?_ _)) : Below w.heap.size w _) hb2)
    clear hb2 HX
    go_wp2
    go_ret
    exact ⟨congrArg (fun z => Ending.returned (.bool z)) (unhide HE).symm, unhide HB2⟩
  · rw [if_neg hp, Int.add_zero] at HE
    have hp' : pfb K 6 = false := Bool.eq_false_iff.2 (fun h => hp (hpw.1 h))
    rw [hp'] at t6
    generalize dB (ExsV ⟨K, T, M, Ex, Exs, (q : Int), R⟩ env (f q) (f R.toNat)) = E at *
    clear hF hkl hkr hf hr hT hp hpw a1 a2 a3 hLr hp'
    generalize pfb K 0 = p0 at *
    generalize pfb K 1 = p1 at *
    generalize pfb K 2 = p2 at *
    generalize pfb K 3 = p3 at *
    generalize pfb K 4 = p4 at *
    generalize pfb K 5 = p5 at *
    generalize pfb K 7 = p7 at *
    generalize f q = z at *
    have HX := hide (fun W (hb : Below w.heap.size w W) => fExs_calls p0 p1 p2 p3 p4 p5 false p7 K T M (q : Int) R (env + z) Ex Exs b3 b4 W (Nat.lt_of_lt_of_le hb3 hb.size) (hx.of hb3 hb) (Nat.lt_of_lt_of_le hb4 hb.size) (hxs.of hb4 hb) l1 l2 l3 (hTT.of hb))
    obtain ⟨E', hE'⟩ : ∃ E', dB (ExsH (p2 && (M != 1)) (env + z) Ex Exs) = E' := ⟨_, rfl⟩
    rw [hE'] at HX HE
    clear hx hxs hTT l3 hE' hb3 hb4
    go_enter Tryd.func55, Tryd.ntmps55
    go_wp2_with fail
    refine (unhide HX _ (by (repeat (first | exact Below.refl _ _ | refine bA ?_ _)))).mono ?_; rintro e w2 ⟨rfl, hb2⟩
    have HB2 := hide (bT (by (repeat (first | exact Below.refl _ _ | refine bA ?_ _)) : Below w.heap.size w _) hb2)
    clear hb2 HX
    go_wp2
    go_ret
    exact ⟨congrArg (fun z => Ending.returned (.bool z)) (unhide HE).symm, unhide HB2⟩
end Go.Proofs.YtkdeilhkobcglaaDoor
