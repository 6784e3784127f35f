import Derived.Test.YtmcbmmpjhijagaaGreatDoorQ3
import Derived.Test.YtmcbmmpjhijagaaGreatDoorQ9
import Derived.Test.YtmcbmmpjhijagaaGreatDoorProg
import Derived.Shelf.Strings.Builder1
import Derived.Shelf.Strings.Builder2
import Derived.Shelf.Strings.OnBuilder
import Derived.Shelf.Strings.BuilderF
import Derived.Shelf.Strings.BuilderK
import Derived.Shelf.Strings.Builder2Cap
import Derived.Shelf.Strconv.Itoa0
import Derived.Shelf.Strconv.Itoa1
import Derived.Shelf.LaysM
import Derived.Shelf.Strconv.Itoa2
import Derived.Shelf.Strconv.Itoa3
import Derived.Shelf.Strconv.Itoa4
import Derived.Shelf.Slices.Equal
import Derived.Shelf.Slices.Empties2
namespace Go.Proofs.YtmcbmmpjhijagaaGreatDoor
open Go Go.RowKit
theorem ta_hit {P : Program} {t xT : TypeId} {fs : _} (h : P.underlying t = some (.struct fs)) (v : Value) (w : World) : (Instr.typeAssert (.iface t v) xT t true).run P w = .ok (.tuple #[v, .bool true]) w := by
  simp [Instr.typeAssert, run_underlying h]
theorem ta_miss {P : Program} {s t xT : TypeId} {fs : _} (h : P.underlying t = some (.struct fs)) (z : Value) (hz : (P.info? t).map (·.zero) = some (some z)) (hs : s ≠ t) (v : Value) (w : World) : (Instr.typeAssert (.iface s v) xT t true).run P w = .ok (.tuple #[z, .bool false]) w := by
  obtain ⟨j, hj, hz'⟩ := Option.map_eq_some_iff.1 hz
  simp [Instr.typeAssert, run_underlying h, hs, zeroValue, typeInfo, hj, hz']
theorem hit1 (v : Value) (w : World) : (Instr.typeAssert (.iface 66 v) 42 66 true).run Tryz.prog w = .ok (.tuple #[v, .bool true]) w := ta_hit Tryz.underlying66 v w
theorem miss1 {s : TypeId} (hs : s ≠ 66) (v : Value) (w : World) : (Instr.typeAssert (.iface s v) 42 66 true).run Tryz.prog w = .ok (.tuple #[.agg #[.int .i64 0], .bool false]) w := ta_miss Tryz.underlying66 _ (by kernel_rfl) hs v w
theorem hit2 (v : Value) (w : World) : (Instr.typeAssert (.iface 70 v) 42 70 true).run Tryz.prog w = .ok (.tuple #[v, .bool true]) w := ta_hit Tryz.underlying70 v w
theorem miss2 {s : TypeId} (hs : s ≠ 70) (v : Value) (w : World) : (Instr.typeAssert (.iface s v) 42 70 true).run Tryz.prog w = .ok (.tuple #[.agg #[], .bool false]) w := ta_miss Tryz.underlying70 _ (by kernel_rfl) hs v w
theorem hit3 (v : Value) (w : World) : (Instr.typeAssert (.iface 72 v) 42 72 true).run Tryz.prog w = .ok (.tuple #[v, .bool true]) w := ta_hit Tryz.underlying72 v w
theorem miss3 {s : TypeId} (hs : s ≠ 72) (v : Value) (w : World) : (Instr.typeAssert (.iface s v) 42 72 true).run Tryz.prog w = .ok (.tuple #[.agg #[.string ByteArray.empty, .int .i64 0], .bool false]) w := ta_miss Tryz.underlying72 _ (by kernel_rfl) hs v w
theorem hit4 (v : Value) (w : World) : (Instr.typeAssert (.iface 77 v) 42 77 true).run Tryz.prog w = .ok (.tuple #[v, .bool true]) w := ta_hit Tryz.underlying77 v w
theorem miss4 {s : TypeId} (hs : s ≠ 77) (v : Value) (w : World) : (Instr.typeAssert (.iface s v) 42 77 true).run Tryz.prog w = .ok (.tuple #[.agg #[.slice none 0 0, .slice none 0 0, .nilIface, .int .i64 0], .bool false]) w := ta_miss Tryz.underlying77 _ (by kernel_rfl) hs v w
theorem hit5 (v : Value) (w : World) : (Instr.typeAssert (.iface 80 v) 42 80 true).run Tryz.prog w = .ok (.tuple #[v, .bool true]) w := ta_hit Tryz.underlying80 v w
theorem miss5 {s : TypeId} (hs : s ≠ 80) (v : Value) (w : World) : (Instr.typeAssert (.iface s v) 42 80 true).run Tryz.prog w = .ok (.tuple #[.agg #[.string ByteArray.empty, .string ByteArray.empty], .bool false]) w := ta_miss Tryz.underlying80 _ (by kernel_rfl) hs v w
theorem hit6 (v : Value) (w : World) : (Instr.typeAssert (.iface 83 v) 42 83 true).run Tryz.prog w = .ok (.tuple #[v, .bool true]) w := ta_hit Tryz.underlying83 v w
theorem miss6 {s : TypeId} (hs : s ≠ 83) (v : Value) (w : World) : (Instr.typeAssert (.iface s v) 42 83 true).run Tryz.prog w = .ok (.tuple #[.agg #[.slice none 0 0, .slice none 0 0, .nilIface, .bool false], .bool false]) w := ta_miss Tryz.underlying83 _ (by kernel_rfl) hs v w
theorem hit7 (v : Value) (w : World) : (Instr.typeAssert (.iface 86 v) 42 86 true).run Tryz.prog w = .ok (.tuple #[v, .bool true]) w := ta_hit Tryz.underlying86 v w
theorem miss7 {s : TypeId} (hs : s ≠ 86) (v : Value) (w : World) : (Instr.typeAssert (.iface s v) 42 86 true).run Tryz.prog w = .ok (.tuple #[.agg #[.slice none 0 0], .bool false]) w := ta_miss Tryz.underlying86 _ (by kernel_rfl) hs v w
theorem hit8 (v : Value) (w : World) : (Instr.typeAssert (.iface 89 v) 42 89 true).run Tryz.prog w = .ok (.tuple #[v, .bool true]) w := ta_hit Tryz.underlying89 v w
theorem miss8 {s : TypeId} (hs : s ≠ 89) (v : Value) (w : World) : (Instr.typeAssert (.iface s v) 42 89 true).run Tryz.prog w = .ok (.tuple #[.agg #[.int .i64 0, .nilIface, .nilIface], .bool false]) w := ta_miss Tryz.underlying89 _ (by kernel_rfl) hs v w
theorem hit9 (v : Value) (w : World) : (Instr.typeAssert (.iface 92 v) 42 92 true).run Tryz.prog w = .ok (.tuple #[v, .bool true]) w := ta_hit Tryz.underlying92 v w
theorem miss9 {s : TypeId} (hs : s ≠ 92) (v : Value) (w : World) : (Instr.typeAssert (.iface s v) 42 92 true).run Tryz.prog w = .ok (.tuple #[.agg #[.bool false, .nilIface], .bool false]) w := ta_miss Tryz.underlying92 _ (by kernel_rfl) hs v w
theorem hit10 (v : Value) (w : World) : (Instr.typeAssert (.iface 95 v) 42 95 true).run Tryz.prog w = .ok (.tuple #[v, .bool true]) w := ta_hit Tryz.underlying95 v w
theorem miss10 {s : TypeId} (hs : s ≠ 95) (v : Value) (w : World) : (Instr.typeAssert (.iface s v) 42 95 true).run Tryz.prog w = .ok (.tuple #[.agg #[.nilIface], .bool false]) w := ta_miss Tryz.underlying95 _ (by kernel_rfl) hs v w
theorem hit11 (v : Value) (w : World) : (Instr.typeAssert (.iface 97 v) 42 97 true).run Tryz.prog w = .ok (.tuple #[v, .bool true]) w := ta_hit Tryz.underlying97 v w
theorem miss11 {s : TypeId} (hs : s ≠ 97) (v : Value) (w : World) : (Instr.typeAssert (.iface s v) 42 97 true).run Tryz.prog w = .ok (.tuple #[.agg #[.bool false, .nilIface, .nilIface], .bool false]) w := ta_miss Tryz.underlying97 _ (by kernel_rfl) hs v w
theorem hit12 (v : Value) (w : World) : (Instr.typeAssert (.iface 99 v) 42 99 true).run Tryz.prog w = .ok (.tuple #[v, .bool true]) w := ta_hit Tryz.underlying99 v w
theorem miss12 {s : TypeId} (hs : s ≠ 99) (v : Value) (w : World) : (Instr.typeAssert (.iface s v) 42 99 true).run Tryz.prog w = .ok (.tuple #[.agg #[.int .i64 0, .int .i64 0, .nilIface, .nilIface], .bool false]) w := ta_miss Tryz.underlying99 _ (by kernel_rfl) hs v w
theorem hit13 (v : Value) (w : World) : (Instr.typeAssert (.iface 102 v) 42 102 true).run Tryz.prog w = .ok (.tuple #[v, .bool true]) w := ta_hit Tryz.underlying102 v w
theorem miss13 {s : TypeId} (hs : s ≠ 102) (v : Value) (w : World) : (Instr.typeAssert (.iface s v) 42 102 true).run Tryz.prog w = .ok (.tuple #[.agg #[.nilIface], .bool false]) w := ta_miss Tryz.underlying102 _ (by kernel_rfl) hs v w
theorem hit14 (v : Value) (w : World) : (Instr.typeAssert (.iface 104 v) 42 104 true).run Tryz.prog w = .ok (.tuple #[v, .bool true]) w := ta_hit Tryz.underlying104 v w
theorem miss14 {s : TypeId} (hs : s ≠ 104) (v : Value) (w : World) : (Instr.typeAssert (.iface s v) 42 104 true).run Tryz.prog w = .ok (.tuple #[.agg #[.slice none 0 0], .bool false]) w := ta_miss Tryz.underlying104 _ (by kernel_rfl) hs v w
theorem hit15 (v : Value) (w : World) : (Instr.typeAssert (.iface 105 v) 42 105 true).run Tryz.prog w = .ok (.tuple #[v, .bool true]) w := ta_hit Tryz.underlying105 v w
theorem miss15 {s : TypeId} (hs : s ≠ 105) (v : Value) (w : World) : (Instr.typeAssert (.iface s v) 42 105 true).run Tryz.prog w = .ok (.tuple #[.agg #[.slice none 0 0], .bool false]) w := ta_miss Tryz.underlying105 _ (by kernel_rfl) hs v w
end Go.Proofs.YtmcbmmpjhijagaaGreatDoor
namespace Go.Proofs.YtmcbmmpjhijagaaGreatDoor
open Go Go.RowKit
set_option maxRecDepth 100000 in
set_option maxHeartbeats 2000000 in
theorem bracketed_wrs {p B : Nat} {u : Value} {xs : List (List UInt8)} {w : World} (h : Wrs p B 14 u xs w) : Wrs p B 41 u ([kOpen] ++ xs ++ [kShut]) w := by
  intro W G ws hK hP hl
  simp only [List.length_append, List.length_cons, List.length_nil] at hl
  have HP := hide hP
  have HK := hide hK
  have HW := hide h
  clear h hP hK
  go_enter Tryz.func41, Tryz.ntmps41
  go_wp2_with fail
  refine (say_new (unhide HP) [kOpen] _ _ _ _ _ rfl rfl rfl (by decide) (by simp; omega)).mono ?_
  rintro e w1 ⟨rfl, G1, hn1⟩
  have HN1 := hide hn1
  clear hn1
  go_wp2_with fail
  refine (unhide HW w1 G1 _ ((unhide HK).step (unhide HP) (unhide HN1)) (unhide HN1).pb (by simp; omega)).mono ?_
  rintro e w2 ⟨rfl, G2, hn2⟩
  have HN2 := hide hn2
  clear hn2
  go_wp2_with fail
  refine (say_new (unhide HN2).pb [kShut] _ _ _ _ _ rfl rfl rfl (by decide) (by simp; omega)).mono ?_
  rintro e w3 ⟨rfl, G3, hn3⟩
  go_wp2
  go_end0
  refine ⟨rfl, G3, ?_⟩
  have := ((unhide HN1).trans (unhide HN2)).trans hn3
  simpa [List.append_assoc] using this
set_option maxRecDepth 100000 in
set_option maxHeartbeats 2000000 in
theorem prim_wrs {p B t : Nat} {x : Value} {xs : List (List UInt8)} {w : World} (h : Wrs p B 14 (.iface t x) xs w) (b : Bool) (hb : b = (decide (t = 104) || decide (t = 105))) : Wrs p B 43 (.iface t x) (brk b xs) w := by
  have hbr := bracketed_wrs h
  intro W G ws hK hP hl
  have HH := hide (fun (hl : ws.length + xs.length ≤ 100000000) => h W G ws hK hP hl)
  have HB := hide (fun (hl : ws.length + ([kOpen] ++ xs ++ [kShut]).length ≤ 100000000) => hbr W G ws hK hP hl)
  clear h hbr hK hP
  by_cases e1 : t = 104
  · subst e1
    have a1 := hit14
    have a2 := miss15 (s := 104) (by decide)
    obtain rfl : b = true := by rw [hb]; decide
    clear hb
    unfold brk at hl ⊢
    simp only [if_true] at hl ⊢
    go_enter Tryz.func43, Tryz.ntmps43
    go_wp2_with fail
    refine (unhide HB hl).mono ?_
    rintro e w1 ⟨rfl, G1, hn1⟩
    go_wp2
    go_end0
    exact ⟨rfl, G1, hn1⟩
  by_cases e2 : t = 105
  · subst e2
    have a1 := miss14 (s := 105) (by decide)
    have a2 := hit15
    obtain rfl : b = true := by rw [hb]; decide
    clear hb
    unfold brk at hl ⊢
    simp only [if_true] at hl ⊢
    go_enter Tryz.func43, Tryz.ntmps43
    go_wp2_with fail
    refine (unhide HB hl).mono ?_
    rintro e w1 ⟨rfl, G1, hn1⟩
    go_wp2
    go_end0
    exact ⟨rfl, G1, hn1⟩
  have a1 := miss14 e1
  have a2 := miss15 e2
  obtain rfl : b = false := by rw [hb]; simp [e1, e2]
  clear hb
  unfold brk at hl ⊢
  simp only [Bool.false_eq_true, if_false] at hl ⊢
  go_enter Tryz.func43, Tryz.ntmps43
  go_wp2_with fail
  refine (unhide HH hl).mono ?_
  rintro e w1 ⟨rfl, G1, hn1⟩
  go_wp2
  go_end0
  exact ⟨rfl, G1, hn1⟩
set_option maxRecDepth 100000 in
set_option maxHeartbeats 2000000 in
theorem conj_wrs {p B t : Nat} {x : Value} {xs : List (List UInt8)} {w : World} (h : Wrs p B 14 (.iface t x) xs w) (b : Bool) (hb : b = decide (t = 105)) : Wrs p B 44 (.iface t x) (brk b xs) w := by
  have hbr := bracketed_wrs h
  intro W G ws hK hP hl
  have HH := hide (fun (hl : ws.length + xs.length ≤ 100000000) => h W G ws hK hP hl)
  have HB := hide (fun (hl : ws.length + ([kOpen] ++ xs ++ [kShut]).length ≤ 100000000) => hbr W G ws hK hP hl)
  clear h hbr hK hP
  by_cases e2 : t = 105
  · subst e2
    have a2 := hit15
    obtain rfl : b = true := by rw [hb]; decide
    clear hb
    unfold brk at hl ⊢
    simp only [if_true] at hl ⊢
    go_enter Tryz.func44, Tryz.ntmps44
    go_wp2_with fail
    refine (unhide HB hl).mono ?_
    rintro e w1 ⟨rfl, G1, hn1⟩
    go_wp2
    go_end0
    exact ⟨rfl, G1, hn1⟩
  have a2 := miss15 e2
  obtain rfl : b = false := by rw [hb]; simp [e2]
  clear hb
  unfold brk at hl ⊢
  simp only [Bool.false_eq_true, if_false] at hl ⊢
  go_enter Tryz.func44, Tryz.ntmps44
  go_wp2_with fail
  refine (unhide HH hl).mono ?_
  rintro e w1 ⟨rfl, G1, hn1⟩
  go_wp2
  go_end0
  exact ⟨rfl, G1, hn1⟩
set_option maxRecDepth 100000 in
theorem sayNot_calls {p B : Nat} {G : Option Nat} {ws : List (List UInt8)} {W : World} (hP : PB W p B G ws) (m : Int) (b : Bool) (hb : b = (m == 1)) (hl : ws.length + 1 ≤ 100000000) :
    Calls Tryz.prog 40 #[.pointer (some ⟨p, 0, none⟩), .bool b] W fun e w' => e = .returned (.tuple #[]) ∧ ∃ Gn, PN p B W w' G Gn (ws ++ notW m) := by
  have HP := hide hP
  clear hP
  cases b
  · have hm : notW m = [] := by unfold notW; rw [if_neg (by intro e; rw [e] at hb; cases hb)]
    rw [hm, List.append_nil]
    clear hb hm
    go_enter Tryz.func40, Tryz.ntmps40
    go_wp2
    go_end0
    exact ⟨rfl, G, PN.refl (unhide HP)⟩
  · have hm : notW m = [kNOT] := by unfold notW; rw [if_pos (by simpa using hb.symm)]
    rw [hm]
    clear hb hm
    go_enter Tryz.func40, Tryz.ntmps40
    go_wp2_with fail
    refine (say_new (unhide HP) [kNOT] _ _ _ _ _ rfl rfl rfl (by decide) (by simp; omega)).mono ?_
    rintro e w1 ⟨rfl, G1, hn1⟩
    go_wp2
    go_end0
    exact ⟨rfl, G1, hn1⟩
end Go.Proofs.YtmcbmmpjhijagaaGreatDoor
namespace Go.Proofs.YtmcbmmpjhijagaaGreatDoor
open Go Go.Shelf
def sh_lays156_ren : Go.Shelf.Ren := ⟨fun | 156 => 16 | 165 => 46 | 166 => 47 | 169 => 48 | 240 => 66 | 241 => 67 | 276 => 78 | 277 => 79 | n => n, fun | 31 => 37 | 9 => 9 | 3 => 3 | 4 => 4 | 0 => 0 | 20 => 20 | 72 => 110 | 76 => 114 | 70 => 107 | 37 => 108 | 75 => 113 | 127 => 133 | 164 => 141 | 5 => 5 | 80 => 116 | n => n, fun | n => n⟩
theorem sh_lays156 : Go.Proofs.Lays.n156 Tryz.prog sh_lays156_ren := {
  mixed := by kernel_rfl
  f156 := Tryz.func16.trans (congrArg some (by kernel_rfl))
  f165 := Tryz.func46.trans (congrArg some (by kernel_rfl))
  f166 := Tryz.func47.trans (congrArg some (by kernel_rfl))
  f169 := Tryz.func48.trans (congrArg some (by kernel_rfl))
  f240 := Tryz.func66.trans (congrArg some (by kernel_rfl))
  f241 := Tryz.func67.trans (congrArg some (by kernel_rfl))
  f276 := Tryz.func78.trans (congrArg some (by kernel_rfl))
  f277 := Tryz.func79.trans (congrArg some (by kernel_rfl))
  t0 := Tryz.underlying0
  a0 := Tryz.isAgg0
  z0 := Tryz.sizeOf0
  v0 := Tryz.zeroValue0
  t3 := Tryz.underlying3
  a3 := Tryz.isAgg3
  z3 := Tryz.sizeOf3
  v3 := Tryz.zeroValue3
  t4 := Tryz.underlying4
  a4 := Tryz.isAgg4
  z4 := Tryz.sizeOf4
  v4 := Tryz.zeroValue4
  t9 := Tryz.underlying9
  a9 := Tryz.isAgg9
  z9 := Tryz.sizeOf9
  v9 := Tryz.zeroValue9
  t20 := Tryz.underlying20
  a20 := Tryz.isAgg20
  z20 := Tryz.sizeOf20
  v20 := Tryz.zeroValue20
  t31 := Tryz.underlying37
  a31 := Tryz.isAgg37
  z31 := Tryz.sizeOf37
  v31 := Tryz.zeroValue37
  t37 := Tryz.underlying108
  a37 := Tryz.isAgg108
  z37 := Tryz.sizeOf108
  v37 := Tryz.zeroValue108
  t70 := Tryz.underlying107
  a70 := Tryz.isAgg107
  z70 := Tryz.sizeOf107
  v70 := Tryz.zeroValue107
  t72 := Tryz.underlying110
  a72 := Tryz.isAgg110
  z72 := Tryz.sizeOf110
  v72 := Tryz.zeroValue110
  t75 := Tryz.underlying113
  a75 := Tryz.isAgg113
  z75 := Tryz.sizeOf113
  v75 := Tryz.zeroValue113
  t76 := Tryz.underlying114
  a76 := Tryz.isAgg114
  z76 := Tryz.sizeOf114
  v76 := Tryz.zeroValue114
  t127 := Tryz.underlying133
  a127 := Tryz.isAgg133
  z127 := Tryz.sizeOf133
  v127 := Tryz.zeroValue133
  t164 := Tryz.underlying141
  a164 := Tryz.isAgg141
  z164 := Tryz.sizeOf141
  v164 := Tryz.zeroValue141 }
theorem sh_Builder_Extra_156 : Builder.Extra Tryz.prog sh_lays156_ren := {
  sizeBuilder := by kernel_rfl
  liesBuilder := by kernel_rfl
  t5 := Tryz.underlying5
  a5 := Tryz.isAgg5
  z5 := Tryz.sizeOf5
  v5 := Tryz.zeroValue5
  infoByte := by kernel_rfl
  cellsByte := by kernel_rfl
  sizeByte := by kernel_rfl
  neB5 := by decide }
open Go.RowKit in
theorem sh_strings_Join (bk o c : Nat) (xs : List ByteArray) (sep : ByteArray) (w : World) (hcells : ∀ (j : Nat) x, xs[j]? = some x → w.cell? ⟨bk, o + j, none⟩ = some (.string x)) (hbk : bk < w.heap.size) (hN : xs.length ≤ 140737488355328) (hcap : xs.length ≤ c) (hlen : (Lib.join (xs.map (·.data.toList)) sep.data.toList).length ≤ 140737488355328) :
    Calls Tryz.prog 16 #[.slice (some ⟨bk, o, none⟩) xs.length c, .string sep] w fun e w' => e = .returned (.string ⟨(Lib.join (xs.map (·.data.toList)) sep.data.toList).toArray⟩) ∧ Below w.heap.size w w' := Any.strings_Join sh_lays156 sh_Builder_Extra_156 bk o c xs sep w hcells hbk hN hcap hlen
def sh_laysM173_ren : Go.Shelf.Ren := ⟨fun | 173 => 35 | 246 => 63 | 283 => 74 | 284 => 75 | 285 => 76 | 286 => 77 | 129 => 87 | 317 => 86 | 318 => 88 | 319 => 89 | 320 => 90 | 337 => 92 | 338 => 93 | n => n, fun | 2 => 2 | 3 => 3 | 9 => 9 | 4 => 4 | 171 => 134 | 0 => 0 | 53 => 135 | 37 => 108 | 5 => 5 | 173 => 138 | 212 => 148 | 51 => 149 | 20 => 20 | 213 => 150 | 46 => 151 | 232 => 155 | 233 => 156 | n => n, fun | 17 => 3 | 18 => 6 | 19 => 7 | n => n⟩
theorem sh_laysM173 : Go.Proofs.LaysM.n173 Tryz.prog sh_laysM173_ren := {
  mixed := by kernel_rfl
  f129 := Tryz.func87.trans (congrArg some (by kernel_rfl))
  f173 := Tryz.func35.trans (congrArg some (by kernel_rfl))
  f246 := Tryz.func63.trans (congrArg some (by kernel_rfl))
  f283 := Tryz.func74.trans (congrArg some (by kernel_rfl))
  f284 := Tryz.func75.trans (congrArg some (by kernel_rfl))
  f285 := Tryz.func76.trans (congrArg some (by kernel_rfl))
  f286 := Tryz.func77.trans (congrArg some (by kernel_rfl))
  f317 := Tryz.func86.trans (congrArg some (by kernel_rfl))
  f318 := Tryz.func88.trans (congrArg some (by kernel_rfl))
  f319 := Tryz.func89.trans (congrArg some (by kernel_rfl))
  f320 := Tryz.func90.trans (congrArg some (by kernel_rfl))
  f337 := Tryz.func92.trans (congrArg some (by kernel_rfl))
  f338 := Tryz.func93.trans (congrArg some (by kernel_rfl))
  t0 := Tryz.underlying0
  a0 := Tryz.isAgg0
  z0 := Tryz.sizeOf0
  v0 := Tryz.zeroValue0
  t2 := Tryz.underlying2
  a2 := Tryz.isAgg2
  z2 := Tryz.sizeOf2
  v2 := Tryz.zeroValue2
  t3 := Tryz.underlying3
  a3 := Tryz.isAgg3
  z3 := Tryz.sizeOf3
  v3 := Tryz.zeroValue3
  t4 := Tryz.underlying4
  a4 := Tryz.isAgg4
  z4 := Tryz.sizeOf4
  v4 := Tryz.zeroValue4
  t5 := Tryz.underlying5
  a5 := Tryz.isAgg5
  z5 := Tryz.sizeOf5
  v5 := Tryz.zeroValue5
  t9 := Tryz.underlying9
  a9 := Tryz.isAgg9
  z9 := Tryz.sizeOf9
  v9 := Tryz.zeroValue9
  t20 := Tryz.underlying20
  a20 := Tryz.isAgg20
  z20 := Tryz.sizeOf20
  v20 := Tryz.zeroValue20
  t37 := Tryz.underlying108
  a37 := Tryz.isAgg108
  z37 := Tryz.sizeOf108
  v37 := Tryz.zeroValue108
  t46 := Tryz.underlying151
  a46 := Tryz.isAgg151
  z46 := Tryz.sizeOf151
  v46 := Tryz.zeroValue151
  t51 := Tryz.underlying149
  a51 := Tryz.isAgg149
  z51 := Tryz.sizeOf149
  v51 := Tryz.zeroValue149
  t53 := Tryz.underlying135
  a53 := Tryz.isAgg135
  z53 := Tryz.sizeOf135
  v53 := Tryz.zeroValue135
  t171 := Tryz.underlying134
  a171 := Tryz.isAgg134
  z171 := Tryz.sizeOf134
  v171 := Tryz.zeroValue134
  t173 := Tryz.underlying138
  a173 := Tryz.isAgg138
  z173 := Tryz.sizeOf138
  v173 := Tryz.zeroValue138
  t212 := Tryz.underlying148
  a212 := Tryz.isAgg148
  z212 := Tryz.sizeOf148
  v212 := Tryz.zeroValue148
  t213 := Tryz.underlying150
  a213 := Tryz.isAgg150
  z213 := Tryz.sizeOf150
  t232 := Tryz.underlying155
  a232 := Tryz.isAgg155
  z232 := Tryz.sizeOf155
  v232 := Tryz.zeroValue155
  t233 := Tryz.underlying156
  a233 := Tryz.isAgg156
  z233 := Tryz.sizeOf156
  v233 := Tryz.zeroValue156
  g17 := by kernel_rfl
  g18 := by kernel_rfl
  g19 := by kernel_rfl
  i0 := by kernel_rfl
  i2 := by kernel_rfl
  i3 := by kernel_rfl
  i4 := by kernel_rfl
  i5 := by kernel_rfl
  i9 := by kernel_rfl
  i20 := by kernel_rfl
  i37 := by kernel_rfl
  i46 := by kernel_rfl
  i51 := by kernel_rfl
  i53 := by kernel_rfl
  i171 := by kernel_rfl
  i173 := by kernel_rfl
  i212 := by kernel_rfl
  i232 := by kernel_rfl
  i233 := by kernel_rfl
  m17 := by kernel_rfl
  m18 := by kernel_rfl
  m19 := by kernel_rfl }
open Go.RowKit Go.Sort Go.Lib in
theorem sh_strconv_FormatInt_10 (n : Int) (h0 : -9223372036854775808 ≤ n) (h1 : n ≤ 9223372036854775807) (w : World) (htab : Lib.TabIs Tryz.prog w "internal/strconv.uint64pow10" .u64 Lib.pow10Tab) :
    Calls Tryz.prog 35 #[.int .i64 n, .int .i64 10] w fun e w' => e = .returned (.string ⟨(Lib.itoa n).toArray⟩) ∧ ∃ k os, w' = grow (w.drewN k) os := Any.strconv_FormatInt_10 sh_laysM173 n h0 h1 w htab
end Go.Proofs.YtmcbmmpjhijagaaGreatDoor
