import Derived.Test.YtafmlbojmmdcdaaDoorDrawEx2
import Derived.Test.YtafmlbojmmdcdaaDoorLongEx
import Derived.Test.YtafmlbojmmdcdaaDoorSpoilEx
namespace Go.Proofs.YtafmlbojmmdcdaaDoor
open Go Go.RowKit
set_option maxRecDepth 100000 in
set_option maxHeartbeats 1000000 in
theorem l1DrawExFor_calls (w : World) (R : Nat) (a : Option Addr) (cap : Nat) (bs : List Nat) (p W : Nat) (h : Rd w R a cap bs p) (hW : 1 ≤ W) (hW2 : W ≤ 1000) :
    Calls Tryd.prog 30 #[.pointer (some ⟨R, 0, none⟩), .int .i64 (W : Int)] w fun e w' => ∃ g c ops, e = .returned (.slice (some ⟨g, 0, none⟩) ops.length c) ∧ SEx w w' R a cap bs 6000 g ops := by
  have hR := h.size
  have NX := next_calls w R a cap bs p h
  have hk := nxt_le h p
  have hbl := h.len
  generalize nxt bs p = k at *
  have HNX := hide NX
  clear NX h
  by_cases c1 : k % 16 = 15
  · have i1 : ((k : Int) % 16 == 15) = true := by simp; omega
    have LX : Hid (∀ w : World, Calls Tryd.prog 37 #[.int .i64 (4998 + (k : Int) / 16 % 5)] w fun e w' => ∃ g c ops, e = .returned (.slice (some ⟨g, 0, none⟩) ops.length c) ∧ OwnO w' w.heap.size g c ops ∧ ops.length ≤ 4998 + k / 16 % 5 + 1 ∧ Below w.heap.size w w') := fun w => by
      have := l1LongEx_calls (4998 + k / 16 % 5) (by omega) w
      rw [show ((4998 + k / 16 % 5 : Nat) : Int) = 4998 + (k : Int) / 16 % 5 by omega] at this
      exact this
    clear c1
    go_enter Tryd.func30, Tryd.ntmps30
    go_wp2_with fail
    refine (unhide HNX).mono ?_; rintro e w1 ⟨rfl, hr1, hd1⟩
    have HR1 := hide hr1; have HD1 := hide hd1
    clear HNX hr1 hd1
    go_wp2_with fail
    refine (unhide LX w1).mono ?_; rintro e w2 ⟨g, c, ops, rfl, ho, hl, hb⟩
    have hs1 := (unhide HD1).size
    have HF : Hid (SEx w w2 R a cap bs 6000 g ops) := ⟨(ho.mono hs1).has, by omega, ⟨_, (unhide HR1).of hb⟩, (unhide HD1).below (by omega) hb⟩
    clear LX HR1 HD1 ho hb
    go_wp2
    go_ret
    exact ⟨_, _, _, rfl, unhide HF⟩
  have i1 : ((k : Int) % 16 == 15) = false := by simp; omega
  clear c1
  have hsp : ((k : Int) % 4 == 2) = true ∨ ((k : Int) % 4 == 2) = false := by cases ((k : Int) % 4 == 2) <;> simp
  have LF := hide (fun w1 h1 => left_calls w1 R a cap bs (adv bs p) h1)
  obtain ⟨L, hL⟩ : ∃ L, L = bs.length - adv bs p := ⟨_, rfl⟩
  rw [← hL] at LF
  have hLb : L ≤ 1500 := by omega
  obtain ⟨s, hs⟩ : ∃ s, s = if 60 < 4 + L then 60 else 4 + L := ⟨_, rfl⟩
  have hs60 : s ≤ 60 := by rw [hs]; split <;> omega
  have i2 : ((60 : Int) < 4 + (L : Int) ∧ (s : Int) = 60) ∨ (¬ (60 : Int) < 4 + (L : Int) ∧ 4 + (L : Int) = (s : Int)) := by
    split at hs
    · exact Or.inl ⟨by omega, by omega⟩
    · exact Or.inr ⟨by omega, by omega⟩
  have DX := hide (fun w p h => l1DrawEx_calls R a cap bs W hW hW2 (s + 1) s (by omega) (by omega) w p h)
  clear hs hL
  have hfin : Hid (∀ (w3 w4 : World) (g c : Nat) (ops : List O2), Drw R w w3 → DEx w3 w4 R a cap bs s g c ops → SEx w w4 R a cap bs 6000 g ops) := fun w3 w4 g c ops hd hx => ⟨(hx.own.mono hd.size).has, by have := hx.len; omega, hx.rd, hd.trans hx.drw⟩
  rcases i2 with ⟨i2, i3⟩ | ⟨i2, i3⟩ <;> rcases hsp with hsp | hsp
  · go_enter Tryd.func30, Tryd.ntmps30
    go_wp2_with fail
    refine (unhide HNX).mono ?_; rintro e w1 ⟨rfl, hr1, hd1⟩
    have CL := hide (unhide LF w1 hr1)
    have HR1 := hide hr1; have HD1 := hide hd1
    clear HNX hr1 hd1 LF
    go_wp2_with fail
    refine (unhide CL).mono ?_; rintro e w3 ⟨rfl, hb3⟩
    have CX := unhide DX w3 _ ((unhide HR1).of hb3)
    rw [i3] at CX
    have HD3 := hide ((unhide HD1).below (by have := (unhide HD1).size; omega) hb3)
    have HCX := hide CX
    have HI := hide i3
    clear CL HR1 HD1 hb3 DX CX i3
    go_wp2_with fail
    refine (unhide HCX).mono ?_; rintro e w4 ⟨g, c, ops, rfl, hx⟩
    obtain ⟨q, hq⟩ := hx.rd
    have hl := hx.len
    have SP := hide (l1SpoilEx_calls w w4 R a cap bs q W g c ops hq hW hW2 (hx.own.mono (unhide HD3).size) hx.one (by omega) ((unhide HD3).trans hx.drw) hR)
    clear HCX hx HD3 hq hfin
    go_wp2_with fail
    refine (unhide SP).mono ?_; rintro e w5 ⟨g', c', ops', rfl, hz⟩
    have hzl := hz.len
    have HZ : Hid (SEx w w5 R a cap bs 6000 g' ops') := ⟨hz.has, by omega, hz.rd, hz.drw⟩
    clear SP hz
    go_wp2
    go_ret
    exact ⟨_, _, _, rfl, unhide HZ⟩
  · go_enter Tryd.func30, Tryd.ntmps30
    go_wp2_with fail
    refine (unhide HNX).mono ?_; rintro e w1 ⟨rfl, hr1, hd1⟩
    have CL := hide (unhide LF w1 hr1)
    have HR1 := hide hr1; have HD1 := hide hd1
    clear HNX hr1 hd1 LF
    go_wp2_with fail
    refine (unhide CL).mono ?_; rintro e w3 ⟨rfl, hb3⟩
    have CX := unhide DX w3 _ ((unhide HR1).of hb3)
    rw [i3] at CX
    have HD3 := hide ((unhide HD1).below (by have := (unhide HD1).size; omega) hb3)
    have HCX := hide CX
    have HI := hide i3
    clear CL HR1 HD1 hb3 DX CX i3
    go_wp2_with fail
    refine (unhide HCX).mono ?_; rintro e w4 ⟨g, c, ops, rfl, hx⟩
    have HZ := hide (unhide hfin w3 w4 g c ops (unhide HD3) hx)
    clear HCX hx HD3 hfin
    go_wp2
    go_ret
    exact ⟨_, _, _, rfl, unhide HZ⟩
  · go_enter Tryd.func30, Tryd.ntmps30
    go_wp2_with fail
    refine (unhide HNX).mono ?_; rintro e w1 ⟨rfl, hr1, hd1⟩
    have CL := hide (unhide LF w1 hr1)
    have HR1 := hide hr1; have HD1 := hide hd1
    clear HNX hr1 hd1 LF
    go_wp2_with fail
    refine (unhide CL).mono ?_; rintro e w3 ⟨rfl, hb3⟩
    have HCX := hide (unhide DX w3 _ ((unhide HR1).of hb3))
    have HD3 := hide ((unhide HD1).below (by have := (unhide HD1).size; omega) hb3)
    clear CL HR1 HD1 hb3 DX
    go_wp2_with fail
    refine (unhide HCX).mono ?_; rintro e w4 ⟨g, c, ops, rfl, hx⟩
    obtain ⟨q, hq⟩ := hx.rd
    have hl := hx.len
    have SP := hide (l1SpoilEx_calls w w4 R a cap bs q W g c ops hq hW hW2 (hx.own.mono (unhide HD3).size) hx.one (by omega) ((unhide HD3).trans hx.drw) hR)
    clear HCX hx HD3 hq hfin
    go_wp2_with fail
    refine (unhide SP).mono ?_; rintro e w5 ⟨g', c', ops', rfl, hz⟩
    have hzl := hz.len
    have HZ : Hid (SEx w w5 R a cap bs 6000 g' ops') := ⟨hz.has, by omega, hz.rd, hz.drw⟩
    clear SP hz
    go_wp2
    go_ret
    exact ⟨_, _, _, rfl, unhide HZ⟩
  · go_enter Tryd.func30, Tryd.ntmps30
    go_wp2_with fail
    refine (unhide HNX).mono ?_; rintro e w1 ⟨rfl, hr1, hd1⟩
    have CL := hide (unhide LF w1 hr1)
    have HR1 := hide hr1; have HD1 := hide hd1
    clear HNX hr1 hd1 LF
    go_wp2_with fail
    refine (unhide CL).mono ?_; rintro e w3 ⟨rfl, hb3⟩
    have HCX := hide (unhide DX w3 _ ((unhide HR1).of hb3))
    have HD3 := hide ((unhide HD1).below (by have := (unhide HD1).size; omega) hb3)
    clear CL HR1 HD1 hb3 DX
    go_wp2_with fail
    refine (unhide HCX).mono ?_; rintro e w4 ⟨g, c, ops, rfl, hx⟩
    have HZ := hide (unhide hfin w3 w4 g c ops (unhide HD3) hx)
    clear HCX hx HD3 hfin
    go_wp2
    go_ret
    exact ⟨_, _, _, rfl, unhide HZ⟩
/-- from the reader's making on -/
theorem Drw.fromO {R : Nat} {w w1 w2 : World} (h : Below w.heap.size w w1) (hR : w.heap.size ≤ R) (hd : Drw R w1 w2) : Below w.heap.size w w2 := h.trans (hd.low.mono hR)
structure EvD (w w' : World) (g gr : Nat) (ops : List O2) (row : List V2) : Prop where
  has : HasOps w' w.heap.size g ops
  len : ops.length ≤ 6000
  own : OwnRow w' gr row.length row
  base : w.heap.size ≤ gr
  wid : row.length ≤ 4
  low : Below w.heap.size w w'
set_option maxRecDepth 100000 in
set_option maxHeartbeats 1000000 in
theorem DrawEvalEx_calls (v : Value) (cs : List Nat) (w : World) (hv : IsBytes w v cs) (hby : ∀ b ∈ cs, b ≤ 255) (hn : cs.length ≤ 1048576) :
    Calls Tryd.prog 15 #[v] w fun e w' => ∃ g c gr cr ops row, e = .returned (.tuple #[.slice (some ⟨g, 0, none⟩) ops.length c, .slice (some ⟨gr, 0, none⟩) row.length cr]) ∧ EvD w w' g gr ops row := by
  have HO := hide (l1Open_calls v cs w hv hby hn)
  clear hv hby hn
  generalize cs.take 1500 = bs at *
  go_enter Tryd.func15, Tryd.ntmps15
  go_wp2_with fail
  refine (unhide HO).mono ?_; rintro e w1 ⟨R, rfl, ⟨a, cap, hr1⟩, hR, hb1⟩
  have hkb := nxt_le hr1 0
  have hR1 := hr1.size
  have NX := hide (next_calls w1 R a cap bs 0 hr1)
  have RW := fun w2 h2 => l1DrawRow_calls w2 R a cap bs (adv bs 0) (1 + nxt bs 0 % 4) h2 (by omega)
  have hrl := dRowN_length bs (adv bs 0) (1 + nxt bs 0 % 4)
  generalize dRowN bs (adv bs 0) (1 + nxt bs 0 % 4) = rw0 at *
  rw [show ((1 + nxt bs 0 % 4 : Nat) : Int) = 1 + (nxt bs 0 : Int) % 4 by omega] at RW
  have hW1 : 1 ≤ 1 + nxt bs 0 % 4 := by omega
  have hW4 : 1 + nxt bs 0 % 4 ≤ 4 := by omega
  generalize 1 + nxt bs 0 % 4 = W at *
  generalize nxt bs 0 = K at *
  obtain ⟨row, q0⟩ := rw0
  simp only at RW hrl
  have HRW := hide RW
  have HRL := hide hrl
  have HB1 := hide hb1
  clear RW hr1 HO hrl hb1
  go_wp2_with fail
  refine (unhide NX).mono ?_; rintro e w2 ⟨rfl, hr2, hd2⟩
  have CR := hide (unhide HRW w2 hr2)
  have HD2 := hide hd2
  have hs2 := hd2.size
  clear NX hr2 hd2 HRW
  go_wp2_with fail
  refine (unhide CR).mono ?_; rintro e w3 ⟨⟨gr, cr, rfl, ho3⟩, hr3, hd3⟩
  have hs3 := hd3.size
  have hl3 := ho3.lt
  have HX := hide (l1DrawExFor_calls w3 R a cap bs q0 W hr3 (by omega) (by omega))
  have HD3 := hide ((unhide HD2).trans hd3)
  have HRO := hide ho3.ownRow
  clear CR HD2 hr3 hd3 ho3
  go_wp2_with fail
  refine (unhide HX).mono ?_; rintro e w4 ⟨g, c, ops, rfl, hx⟩
  have HF : Hid (EvD w w4 g gr ops row) := ⟨⟨hx.has.size, by have := hx.has.base; omega, hx.has.held⟩, hx.len, (unhide HRO).drw hx.drw (by omega), by omega, by rw [unhide HRL]; omega, Drw.fromO (unhide HB1) hR ((unhide HD3).trans hx.drw)⟩
  clear HX hx HD3 HRO HB1
  go_wp2
  exact bodyPost_ret (v := .tuple #[.slice (some ⟨g, 0, none⟩) ops.length c, .slice (some ⟨gr, 0, none⟩) W cr]) (by simp [results, Tryd.results15, go_sem]) rfl ⟨g, c, gr, cr, ops, row, by rw [unhide HRL], unhide HF⟩
end Go.Proofs.YtafmlbojmmdcdaaDoor
