import Derived.Test.YtmggnimiioepeaaGreatDoorQ0
import Derived.Test.YtmggnimiioepeaaGreatDoorQ28
namespace Go.Proofs.YtmggnimiioepeaaGreatDoor
open Go Go.RowKit
theorem two_le(n:Nat):((2:Int)<=(n:Int))↔2<=n:=by omega
set_option maxHeartbeats 2000000 in
theorem kidsFit1(N M:Int)(S T:ByteArray)(v:Value)(xs:List Int)(g:Nat)(w:World)(_:g<w.heap.size)(_:IntsAt w g 0 xs)(_:xs.length<=1048576):
  Calls Tryz.prog 45 #[.agg #[.int .i64 1,.int .i64 N,.int .i64 M,.string S,.string T,v],.slice (some ⟨g,0,none⟩) xs.length xs.length] w fun e w'=>e= .returned (.bool (dB (KidsI 1 N xs)))/\Below w.heap.size w w':=by
 have HE:Hid (dB (KidsI 1 N xs)=((xs.length:Int)==0)):=by show _=_;rw[Bool.eq_iff_iff,dB_iff];simp[KidsI]
 go_enter Tryz.func45,Tryz.ntmps45
 go_wp2
 go_ret
 exact⟨congrArg (fun z=>Ending.returned (.bool z)) HE.out.symm,(by(repeat(first | exact Below.refl _ _ | refine bA ?_ _)))⟩
set_option maxHeartbeats 2000000 in
theorem kidsFit2(N M:Int)(S T:ByteArray)(v:Value)(xs:List Int)(g:Nat)(w:World)(_:g<w.heap.size)(_:IntsAt w g 0 xs)(_:xs.length<=1048576):
  Calls Tryz.prog 45 #[.agg #[.int .i64 2,.int .i64 N,.int .i64 M,.string S,.string T,v],.slice (some ⟨g,0,none⟩) xs.length xs.length] w fun e w'=>e= .returned (.bool (dB (KidsI 2 N xs)))/\Below w.heap.size w w':=by
 have HE:Hid (dB (KidsI 2 N xs)=((xs.length:Int)==0)):=by show _=_;rw[Bool.eq_iff_iff,dB_iff];simp[KidsI]
 go_enter Tryz.func45,Tryz.ntmps45
 go_wp2
 go_ret
 exact⟨congrArg (fun z=>Ending.returned (.bool z)) HE.out.symm,(by(repeat(first | exact Below.refl _ _ | refine bA ?_ _)))⟩
set_option maxHeartbeats 2000000 in
theorem kidsFit3(N M:Int)(S T:ByteArray)(v:Value)(xs:List Int)(g:Nat)(w:World)(_:g<w.heap.size)(_:IntsAt w g 0 xs)(_:xs.length<=1048576):
  Calls Tryz.prog 45 #[.agg #[.int .i64 3,.int .i64 N,.int .i64 M,.string S,.string T,v],.slice (some ⟨g,0,none⟩) xs.length xs.length] w fun e w'=>e= .returned (.bool (dB (KidsI 3 N xs)))/\Below w.heap.size w w':=by
 have HE:Hid (dB (KidsI 3 N xs)=((xs.length:Int)==0)):=by show _=_;rw[Bool.eq_iff_iff,dB_iff];simp[KidsI]
 go_enter Tryz.func45,Tryz.ntmps45
 go_wp2
 go_ret
 exact⟨congrArg (fun z=>Ending.returned (.bool z)) HE.out.symm,(by(repeat(first | exact Below.refl _ _ | refine bA ?_ _)))⟩
set_option maxHeartbeats 2000000 in
theorem kidsFit5(N M:Int)(S T:ByteArray)(v:Value)(xs:List Int)(g:Nat)(w:World)(_:g<w.heap.size)(_:IntsAt w g 0 xs)(_:xs.length<=1048576):
  Calls Tryz.prog 45 #[.agg #[.int .i64 5,.int .i64 N,.int .i64 M,.string S,.string T,v],.slice (some ⟨g,0,none⟩) xs.length xs.length] w fun e w'=>e= .returned (.bool (dB (KidsI 5 N xs)))/\Below w.heap.size w w':=by
 have HE:Hid (dB (KidsI 5 N xs)=((xs.length:Int)==0)):=by show _=_;rw[Bool.eq_iff_iff,dB_iff];simp[KidsI]
 go_enter Tryz.func45,Tryz.ntmps45
 go_wp2
 go_ret
 exact⟨congrArg (fun z=>Ending.returned (.bool z)) HE.out.symm,(by(repeat(first | exact Below.refl _ _ | refine bA ?_ _)))⟩
set_option maxHeartbeats 2000000 in
theorem kidsFit4(N M:Int)(S T:ByteArray)(v:Value)(xs:List Int)(g:Nat)(w:World)(hg:g<w.heap.size)(hx:IntsAt w g 0 xs)(hl:xs.length<=1048576)(h0:0<=N)(h1:N<=10000):
  Calls Tryz.prog 45 #[.agg #[.int .i64 4,.int .i64 N,.int .i64 M,.string S,.string T,v],.slice (some ⟨g,0,none⟩) xs.length xs.length] w fun e w'=>e= .returned (.bool (dB (KidsI 4 N xs)))/\Below w.heap.size w w':=by
 obtain⟨m,rfl⟩:=Int.eq_ofNat_of_zero_le h0
 have BS:=fun W (hb:Below w.heap.size w W)=>blockFits_calls xs g 0 m W (Nat.lt_of_lt_of_le hg hb.size) (hx.of hg hb) hl (by omega)
 have HQ:Hid (dB (KidsI 4 m xs)=dB (BlkI xs m)):=dB_congr (by simp[KidsI])
 generalize dB (BlkI xs m)=b at*
 have HBS:=hide BS
 clear BS
 have HE:Hid (dB (KidsI 4 m xs)=b):=HQ.out
 clear hx
 go_enter Tryz.func45,Tryz.ntmps45
 go_wp2_with fail
 refine(unhide HBS _ (by(repeat(first | exact Below.refl _ _ | refine bA ?_ _)))).mono ?_;rintro e w1 ⟨rfl,rfl⟩
 go_wp2
 go_ret
 exact⟨congrArg (fun z=>Ending.returned (.bool z)) HE.out.symm,(by(repeat(first | exact Below.refl _ _ | refine bA ?_ _)))⟩
set_option maxHeartbeats 2000000 in
theorem kidsFit6(N M:Int)(S T:ByteArray)(v:Value)(xs:List Int)(g:Nat)(w:World)(hg:g<w.heap.size)(hx:IntsAt w g 0 xs)(hl:xs.length<=1048576)(h0:0<=N)(h1:N<=10000):
  Calls Tryz.prog 45 #[.agg #[.int .i64 6,.int .i64 N,.int .i64 M,.string S,.string T,v],.slice (some ⟨g,0,none⟩) xs.length xs.length] w fun e w'=>e= .returned (.bool (dB (KidsI 6 N xs)))/\Below w.heap.size w w':=by
 obtain⟨m,rfl⟩:=Int.eq_ofNat_of_zero_le h0
 have BS:=fun W (hb:Below w.heap.size w W)=>blockFits_calls xs g 0 m W (Nat.lt_of_lt_of_le hg hb.size) (hx.of hg hb) hl (by omega)
 have HQ:Hid (dB (KidsI 6 m xs)=dB (BlkI xs m)):=dB_congr (by simp[KidsI])
 generalize dB (BlkI xs m)=b at*
 have HBS:=hide BS
 clear BS
 have HE:Hid (dB (KidsI 6 m xs)=b):=HQ.out
 clear hx
 go_enter Tryz.func45,Tryz.ntmps45
 go_wp2_with fail
 refine(unhide HBS _ (by(repeat(first | exact Below.refl _ _ | refine bA ?_ _)))).mono ?_;rintro e w1 ⟨rfl,rfl⟩
 go_wp2
 go_ret
 exact⟨congrArg (fun z=>Ending.returned (.bool z)) HE.out.symm,(by(repeat(first | exact Below.refl _ _ | refine bA ?_ _)))⟩
set_option maxHeartbeats 2000000 in
theorem kidsFit7(N M:Int)(S T:ByteArray)(v:Value)(xs:List Int)(g:Nat)(w:World)(hg:g<w.heap.size)(hx:IntsAt w g 0 xs)(hl:xs.length<=1048576):
  Calls Tryz.prog 45 #[.agg #[.int .i64 7,.int .i64 N,.int .i64 M,.string S,.string T,v],.slice (some ⟨g,0,none⟩) xs.length xs.length] w fun e w'=>e= .returned (.bool (dB (KidsI 7 N xs)))/\Below w.heap.size w w':=by
 have BS:=fun W (hb:Below w.heap.size w W)=>allSelect_calls xs g 0 xs.length 2 W (hx.of hg hb) hl
 have HQ:Hid (dB (KidsI 7 N xs)=dB ((∀x∈xs,sixes x=true)/\(2:Int)<=(xs.length:Int))):=dB_congr (by rw[two_le];simp[KidsI])
 generalize dB ((∀x∈xs,sixes x=true)/\(2:Int)<=(xs.length:Int))=b at*
 have HBS:=hide BS
 clear BS
 have HE:Hid (dB (KidsI 7 N xs)=b):=HQ.out
 clear hx
 go_enter Tryz.func45,Tryz.ntmps45
 go_wp2_with fail
 refine(unhide HBS _ (by(repeat(first | exact Below.refl _ _ | refine bA ?_ _)))).mono ?_;rintro e w1 ⟨rfl,rfl⟩
 go_wp2
 go_ret
 exact⟨congrArg (fun z=>Ending.returned (.bool z)) HE.out.symm,(by(repeat(first | exact Below.refl _ _ | refine bA ?_ _)))⟩
set_option maxHeartbeats 2000000 in
theorem kidsFit14(N M:Int)(S T:ByteArray)(v:Value)(xs:List Int)(g:Nat)(w:World)(hg:g<w.heap.size)(hx:IntsAt w g 0 xs)(hl:xs.length<=1048576):
  Calls Tryz.prog 45 #[.agg #[.int .i64 14,.int .i64 N,.int .i64 M,.string S,.string T,v],.slice (some ⟨g,0,none⟩) xs.length xs.length] w fun e w'=>e= .returned (.bool (dB (KidsI 14 N xs)))/\Below w.heap.size w w':=by
 have BS:=fun W (hb:Below w.heap.size w W)=>allCond_calls xs g 0 xs.length 2 W (hx.of hg hb) hl
 have HQ:Hid (dB (KidsI 14 N xs)=dB ((∀x∈xs,cdB x=true)/\(2:Int)<=(xs.length:Int))):=dB_congr (by rw[two_le];simp[KidsI])
 generalize dB ((∀x∈xs,cdB x=true)/\(2:Int)<=(xs.length:Int))=b at*
 have HBS:=hide BS
 clear BS
 have HE:Hid (dB (KidsI 14 N xs)=b):=HQ.out
 clear hx
 go_enter Tryz.func45,Tryz.ntmps45
 go_wp2_with fail
 refine(unhide HBS _ (by(repeat(first | exact Below.refl _ _ | refine bA ?_ _)))).mono ?_;rintro e w1 ⟨rfl,rfl⟩
 go_wp2
 go_ret
 exact⟨congrArg (fun z=>Ending.returned (.bool z)) HE.out.symm,(by(repeat(first | exact Below.refl _ _ | refine bA ?_ _)))⟩
set_option maxHeartbeats 2000000 in
theorem kidsFit15(N M:Int)(S T:ByteArray)(v:Value)(xs:List Int)(g:Nat)(w:World)(hg:g<w.heap.size)(hx:IntsAt w g 0 xs)(hl:xs.length<=1048576):
  Calls Tryz.prog 45 #[.agg #[.int .i64 15,.int .i64 N,.int .i64 M,.string S,.string T,v],.slice (some ⟨g,0,none⟩) xs.length xs.length] w fun e w'=>e= .returned (.bool (dB (KidsI 15 N xs)))/\Below w.heap.size w w':=by
 have BS:=fun W (hb:Below w.heap.size w W)=>allCond_calls xs g 0 xs.length 2 W (hx.of hg hb) hl
 have HQ:Hid (dB (KidsI 15 N xs)=dB ((∀x∈xs,cdB x=true)/\(2:Int)<=(xs.length:Int))):=dB_congr (by rw[two_le];simp[KidsI])
 generalize dB ((∀x∈xs,cdB x=true)/\(2:Int)<=(xs.length:Int))=b at*
 have HBS:=hide BS
 clear BS
 have HE:Hid (dB (KidsI 15 N xs)=b):=HQ.out
 clear hx
 go_enter Tryz.func45,Tryz.ntmps45
 go_wp2_with fail
 refine(unhide HBS _ (by(repeat(first | exact Below.refl _ _ | refine bA ?_ _)))).mono ?_;rintro e w1 ⟨rfl,rfl⟩
 go_wp2
 go_ret
 exact⟨congrArg (fun z=>Ending.returned (.bool z)) HE.out.symm,(by(repeat(first | exact Below.refl _ _ | refine bA ?_ _)))⟩
set_option maxHeartbeats 2000000 in
theorem kidsFit8(N M:Int)(S T:ByteArray)(v:Value)(xs:List Int)(g:Nat)(w:World)(hg:g<w.heap.size)(hx:IntsAt w g 0 xs)(hl:xs.length<=1048576):
  Calls Tryz.prog 45 #[.agg #[.int .i64 8,.int .i64 N,.int .i64 M,.string S,.string T,v],.slice (some ⟨g,0,none⟩) xs.length xs.length] w fun e w'=>e= .returned (.bool (dB (KidsI 8 N xs)))/\Below w.heap.size w w':=by
 have BS:=fun W (hb:Below w.heap.size w W)=>allScalar_calls xs g 0 xs.length 2 W (hx.of hg hb) hl
 have HQ:Hid (KidsI 8 N xs↔(xs.length=2/\dB ((∀x∈xs,scB x=true)/\(2:Int)<=(xs.length:Int))=true)):=by
  show _↔_
  have e:KidsI 8 N xs↔(xs.length=2/\ ∀x∈xs,scB x=true):=by simp[KidsI]
  rw[e,dB_iff,two_le]
  exact⟨fun h=>⟨h.1,h.2,by omega⟩,fun h=>⟨h.1,h.2.1⟩⟩
 generalize dB ((∀x∈xs,scB x=true)/\(2:Int)<=(xs.length:Int))=b at*
 have HBS:=hide BS
 clear BS
 cases h2:((xs.length:Int)==2)
 ·have hne:xs.length≠2:=fun h=>by simp[h]at h2
  have HE:Hid (dB (KidsI 8 N xs)=false):=dB_false (fun h=>hne (HQ.out.1 h).1)
  clear hx hne HQ
  go_enter Tryz.func45,Tryz.ntmps45
  go_wp2
  go_ret
  exact⟨congrArg (fun z=>Ending.returned (.bool z)) HE.out.symm,(by(repeat(first | exact Below.refl _ _ | refine bA ?_ _)))⟩
 ·have hne:xs.length=2:=by simp at h2;omega
  have HE:Hid (dB (KidsI 8 N xs)=b):=by show _=_;rw[Bool.eq_iff_iff,dB_iff];exact⟨fun h=>(HQ.out.1 h).2,fun h=>HQ.out.2 ⟨hne,h⟩⟩
  clear hx hne HQ
  go_enter Tryz.func45,Tryz.ntmps45
  go_wp2_with fail
  refine(unhide HBS _ (by(repeat(first | exact Below.refl _ _ | refine bA ?_ _)))).mono ?_;rintro e w1 ⟨rfl,rfl⟩
  go_wp2
  go_ret
  exact⟨congrArg (fun z=>Ending.returned (.bool z)) HE.out.symm,(by(repeat(first | exact Below.refl _ _ | refine bA ?_ _)))⟩
set_option maxHeartbeats 2000000 in
theorem kidsFit9(N M:Int)(S T:ByteArray)(v:Value)(xs:List Int)(g:Nat)(w:World)(_:g<w.heap.size)(hx:IntsAt w g 0 xs)(_:xs.length<=1048576):
  Calls Tryz.prog 45 #[.agg #[.int .i64 9,.int .i64 N,.int .i64 M,.string S,.string T,v],.slice (some ⟨g,0,none⟩) xs.length xs.length] w fun e w'=>e= .returned (.bool (dB (KidsI 9 N xs)))/\Below w.heap.size w w':=by
 cases h2:((xs.length:Int)==1)
 ·have hne:xs.length≠1:=fun h=>by simp[h]at h2
  have HE:Hid (dB (KidsI 9 N xs)=false):=dB_false (fun h=>hne (by simp[KidsI]at h;exact h.1))
  clear hx hne
  go_enter Tryz.func45,Tryz.ntmps45
  go_wp2
  go_ret
  exact⟨congrArg (fun z=>Ending.returned (.bool z)) HE.out.symm,(by(repeat(first | exact Below.refl _ _ | refine bA ?_ _)))⟩
 ·have hne:xs.length=1:=by simp at h2;omega
  obtain⟨a,rfl⟩:=List.length_eq_one_iff.1 hne
  have e0:=hx 0 a rfl
  have CC:=fun W (_:Below w.heap.size w W)=>isScalar_calls a W
  have HQ:Hid (dB (KidsI 9 N [a])=scB a):=by show _=_;rw[Bool.eq_iff_iff,dB_iff];simp[KidsI]
  generalize scB a=b at*
  have HCC:=hide CC
  clear CC hne h2
  have HE:Hid (dB (KidsI 9 N [a])=b):=HQ.out
  clear hx
  go_enter Tryz.func45,Tryz.ntmps45
  go_wp2_with fail
  refine(unhide HCC _ (by(repeat(first | exact Below.refl _ _ | refine bA ?_ _)))).mono ?_;rintro e w1 ⟨rfl,rfl⟩
  go_wp2
  go_ret
  exact⟨congrArg (fun z=>Ending.returned (.bool z)) HE.out.symm,(by(repeat(first | exact Below.refl _ _ | refine bA ?_ _)))⟩
set_option maxHeartbeats 2000000 in
theorem kidsFit10(N M:Int)(S T:ByteArray)(v:Value)(xs:List Int)(g:Nat)(w:World)(_:g<w.heap.size)(hx:IntsAt w g 0 xs)(_:xs.length<=1048576):
  Calls Tryz.prog 45 #[.agg #[.int .i64 10,.int .i64 N,.int .i64 M,.string S,.string T,v],.slice (some ⟨g,0,none⟩) xs.length xs.length] w fun e w'=>e= .returned (.bool (dB (KidsI 10 N xs)))/\Below w.heap.size w w':=by
 cases h2:((xs.length:Int)==1)
 ·have hne:xs.length≠1:=fun h=>by simp[h]at h2
  have HE:Hid (dB (KidsI 10 N xs)=false):=dB_false (fun h=>hne (by simp[KidsI]at h;exact h.1))
  clear hx hne
  go_enter Tryz.func45,Tryz.ntmps45
  go_wp2
  go_ret
  exact⟨congrArg (fun z=>Ending.returned (.bool z)) HE.out.symm,(by(repeat(first | exact Below.refl _ _ | refine bA ?_ _)))⟩
 ·have hne:xs.length=1:=by simp at h2;omega
  obtain⟨a,rfl⟩:=List.length_eq_one_iff.1 hne
  have e0:=hx 0 a rfl
  have CC:=fun W (_:Below w.heap.size w W)=>isQuery_calls a W
  have HQ:Hid (dB (KidsI 10 N [a])=quB a):=by show _=_;rw[Bool.eq_iff_iff,dB_iff];simp[KidsI]
  generalize quB a=b at*
  have HCC:=hide CC
  clear CC hne h2
  have HE:Hid (dB (KidsI 10 N [a])=b):=HQ.out
  clear hx
  go_enter Tryz.func45,Tryz.ntmps45
  go_wp2_with fail
  refine(unhide HCC _ (by(repeat(first | exact Below.refl _ _ | refine bA ?_ _)))).mono ?_;rintro e w1 ⟨rfl,rfl⟩
  go_wp2
  go_ret
  exact⟨congrArg (fun z=>Ending.returned (.bool z)) HE.out.symm,(by(repeat(first | exact Below.refl _ _ | refine bA ?_ _)))⟩
set_option maxHeartbeats 2000000 in
theorem kidsFit13(N M:Int)(S T:ByteArray)(v:Value)(xs:List Int)(g:Nat)(w:World)(_:g<w.heap.size)(hx:IntsAt w g 0 xs)(_:xs.length<=1048576):
  Calls Tryz.prog 45 #[.agg #[.int .i64 13,.int .i64 N,.int .i64 M,.string S,.string T,v],.slice (some ⟨g,0,none⟩) xs.length xs.length] w fun e w'=>e= .returned (.bool (dB (KidsI 13 N xs)))/\Below w.heap.size w w':=by
 cases h2:((xs.length:Int)==1)
 ·have hne:xs.length≠1:=fun h=>by simp[h]at h2
  have HE:Hid (dB (KidsI 13 N xs)=false):=dB_false (fun h=>hne (by simp[KidsI]at h;exact h.1))
  clear hx hne
  go_enter Tryz.func45,Tryz.ntmps45
  go_wp2
  go_ret
  exact⟨congrArg (fun z=>Ending.returned (.bool z)) HE.out.symm,(by(repeat(first | exact Below.refl _ _ | refine bA ?_ _)))⟩
 ·have hne:xs.length=1:=by simp at h2;omega
  obtain⟨a,rfl⟩:=List.length_eq_one_iff.1 hne
  have e0:=hx 0 a rfl
  have CC:=fun W (_:Below w.heap.size w W)=>isCond_calls a W
  have HQ:Hid (dB (KidsI 13 N [a])=cdB a):=by show _=_;rw[Bool.eq_iff_iff,dB_iff];simp[KidsI]
  generalize cdB a=b at*
  have HCC:=hide CC
  clear CC hne h2
  have HE:Hid (dB (KidsI 13 N [a])=b):=HQ.out
  clear hx
  go_enter Tryz.func45,Tryz.ntmps45
  go_wp2_with fail
  refine(unhide HCC _ (by(repeat(first | exact Below.refl _ _ | refine bA ?_ _)))).mono ?_;rintro e w1 ⟨rfl,rfl⟩
  go_wp2
  go_ret
  exact⟨congrArg (fun z=>Ending.returned (.bool z)) HE.out.symm,(by(repeat(first | exact Below.refl _ _ | refine bA ?_ _)))⟩
set_option maxHeartbeats 2000000 in
theorem kidsFit11(N M:Int)(S T:ByteArray)(v:Value)(xs:List Int)(g:Nat)(w:World)(_:g<w.heap.size)(hx:IntsAt w g 0 xs)(_:xs.length<=1048576):
  Calls Tryz.prog 45 #[.agg #[.int .i64 11,.int .i64 N,.int .i64 M,.string S,.string T,v],.slice (some ⟨g,0,none⟩) xs.length xs.length] w fun e w'=>e= .returned (.bool (dB (KidsI 11 N xs)))/\Below w.heap.size w w':=by
 cases h2:((xs.length:Int)==2)
 ·have hne:xs.length≠2:=fun h=>by simp[h]at h2
  have HE:Hid (dB (KidsI 11 N xs)=false):=dB_false (fun h=>hne (by simp[KidsI]at h;exact h.1))
  clear hx hne
  go_enter Tryz.func45,Tryz.ntmps45
  go_wp2
  go_ret
  exact⟨congrArg (fun z=>Ending.returned (.bool z)) HE.out.symm,(by(repeat(first | exact Below.refl _ _ | refine bA ?_ _)))⟩
 ·have hne:xs.length=2:=by simp at h2;omega
  obtain⟨a,a',rfl⟩: ∃a a',xs=[a,a']:=by
   match xs,hne with
   | [a,a'],_=>exact⟨a,a',rfl⟩
  have e0:=hx 0 a rfl
  have e1:=hx 1 a' rfl
  have CC:=fun W (_:Below w.heap.size w W)=>isScalar_calls a W
  have DD:=fun W (_:Below w.heap.size w W)=>isQuery_calls a' W
  have HQ:Hid (KidsI 11 N [a,a']↔(scB a=true/\quB a'=true)):=by show _↔_;simp[KidsI]
  generalize scB a=b at*
  generalize quB a'=b' at*
  have HCC:=hide CC;have HDD:=hide DD
  clear CC DD hne h2
  cases b
  ·have HE:Hid (dB (KidsI 11 N [a,a'])=false):=dB_false (fun h=>by have:=(HQ.out.1 h).1;cases this)
   clear hx
   go_enter Tryz.func45,Tryz.ntmps45
   go_wp2_with fail
   refine(unhide HCC _ (by(repeat(first | exact Below.refl _ _ | refine bA ?_ _)))).mono ?_;rintro e w1 ⟨rfl,rfl⟩
   go_wp2
   go_ret
   exact⟨congrArg (fun z=>Ending.returned (.bool z)) HE.out.symm,(by(repeat(first | exact Below.refl _ _ | refine bA ?_ _)))⟩
  ·have HE:Hid (dB (KidsI 11 N [a,a'])=b'):=by show _=_;rw[Bool.eq_iff_iff,dB_iff];exact⟨fun h=>(HQ.out.1 h).2,fun h=>HQ.out.2 ⟨rfl,h⟩⟩
   clear hx
   go_enter Tryz.func45,Tryz.ntmps45
   go_wp2_with fail
   refine(unhide HCC _ (by(repeat(first | exact Below.refl _ _ | refine bA ?_ _)))).mono ?_;rintro e w1 ⟨rfl,rfl⟩
   go_wp2_with fail
   refine(unhide HDD _ (by(repeat(first | exact Below.refl _ _ | refine bA ?_ _)))).mono ?_;rintro e w1 ⟨rfl,rfl⟩
   go_wp2
   go_ret
   exact⟨congrArg (fun z=>Ending.returned (.bool z)) HE.out.symm,(by(repeat(first | exact Below.refl _ _ | refine bA ?_ _)))⟩
set_option maxHeartbeats 2000000 in
theorem kidsFit12(N M:Int)(S T:ByteArray)(v:Value)(xs:List Int)(g:Nat)(w:World)(_:g<w.heap.size)(hx:IntsAt w g 0 xs)(_:xs.length<=1048576):
  Calls Tryz.prog 45 #[.agg #[.int .i64 12,.int .i64 N,.int .i64 M,.string S,.string T,v],.slice (some ⟨g,0,none⟩) xs.length xs.length] w fun e w'=>e= .returned (.bool (dB (KidsI 12 N xs)))/\Below w.heap.size w w':=by
 cases h2:((xs.length:Int)==2)
 ·have hne:xs.length≠2:=fun h=>by simp[h]at h2
  have HE:Hid (dB (KidsI 12 N xs)=false):=dB_false (fun h=>hne (by simp[KidsI]at h;exact h.1))
  clear hx hne
  go_enter Tryz.func45,Tryz.ntmps45
  go_wp2
  go_ret
  exact⟨congrArg (fun z=>Ending.returned (.bool z)) HE.out.symm,(by(repeat(first | exact Below.refl _ _ | refine bA ?_ _)))⟩
 ·have hne:xs.length=2:=by simp at h2;omega
  obtain⟨a,a',rfl⟩: ∃a a',xs=[a,a']:=by
   match xs,hne with
   | [a,a'],_=>exact⟨a,a',rfl⟩
  have e0:=hx 0 a rfl
  have e1:=hx 1 a' rfl
  have CC:=fun W (_:Below w.heap.size w W)=>isScalar_calls a W
  have DD:=fun W (_:Below w.heap.size w W)=>isQuery_calls a' W
  have HQ:Hid (KidsI 12 N [a,a']↔(scB a=true/\quB a'=true)):=by show _↔_;simp[KidsI]
  generalize scB a=b at*
  generalize quB a'=b' at*
  have HCC:=hide CC;have HDD:=hide DD
  clear CC DD hne h2
  cases b
  ·have HE:Hid (dB (KidsI 12 N [a,a'])=false):=dB_false (fun h=>by have:=(HQ.out.1 h).1;cases this)
   clear hx
   go_enter Tryz.func45,Tryz.ntmps45
   go_wp2_with fail
   refine(unhide HCC _ (by(repeat(first | exact Below.refl _ _ | refine bA ?_ _)))).mono ?_;rintro e w1 ⟨rfl,rfl⟩
   go_wp2
   go_ret
   exact⟨congrArg (fun z=>Ending.returned (.bool z)) HE.out.symm,(by(repeat(first | exact Below.refl _ _ | refine bA ?_ _)))⟩
  ·have HE:Hid (dB (KidsI 12 N [a,a'])=b'):=by show _=_;rw[Bool.eq_iff_iff,dB_iff];exact⟨fun h=>(HQ.out.1 h).2,fun h=>HQ.out.2 ⟨rfl,h⟩⟩
   clear hx
   go_enter Tryz.func45,Tryz.ntmps45
   go_wp2_with fail
   refine(unhide HCC _ (by(repeat(first | exact Below.refl _ _ | refine bA ?_ _)))).mono ?_;rintro e w1 ⟨rfl,rfl⟩
   go_wp2_with fail
   refine(unhide HDD _ (by(repeat(first | exact Below.refl _ _ | refine bA ?_ _)))).mono ?_;rintro e w1 ⟨rfl,rfl⟩
   go_wp2
   go_ret
   exact⟨congrArg (fun z=>Ending.returned (.bool z)) HE.out.symm,(by(repeat(first | exact Below.refl _ _ | refine bA ?_ _)))⟩
theorem kidsFit_calls(K N M:Int)(S T:ByteArray)(v:Value)(ks:List Int)(xs:List Int)(g:Nat)(w:World)(hg:g<w.heap.size)(hx:IntsAt w g 0 xs)(hl:xs.length<=1048576)(hF:Flds ⟨K,N,M,S,T,ks⟩):
  Calls Tryz.prog 45 #[.agg #[.int .i64 K,.int .i64 N,.int .i64 M,.string S,.string T,v],.slice (some ⟨g,0,none⟩) xs.length xs.length] w fun e w'=>e= .returned (.bool (dB (KidsI K N xs)))/\Below w.heap.size w w':=by
 obtain⟨⟨h1,h2⟩,_,hN1,hN2,_⟩:=hF
 simp only at h1 h2
 have e:K=1\/K=2\/K=3\/K=4\/K=5\/K=6\/K=7\/K=8\/K=9\/K=10\/K=11\/K=12\/K=13\/K=14\/K=15:=by omega
 rcases e with rfl | rfl | rfl | rfl | rfl | rfl | rfl | rfl | rfl | rfl | rfl | rfl | rfl | rfl | rfl
 ·exact kidsFit1 N M S T v xs g w hg hx hl
 ·exact kidsFit2 N M S T v xs g w hg hx hl
 ·exact kidsFit3 N M S T v xs g w hg hx hl
 ·exact kidsFit4 N M S T v xs g w hg hx hl (by simpa[rule]using hN1) (by simp[rule]at hN2;omega)
 ·exact kidsFit5 N M S T v xs g w hg hx hl
 ·exact kidsFit6 N M S T v xs g w hg hx hl (by simp[rule]at hN1;omega) (by simpa[rule]using hN2)
 ·exact kidsFit7 N M S T v xs g w hg hx hl
 ·exact kidsFit8 N M S T v xs g w hg hx hl
 ·exact kidsFit9 N M S T v xs g w hg hx hl
 ·exact kidsFit10 N M S T v xs g w hg hx hl
 ·exact kidsFit11 N M S T v xs g w hg hx hl
 ·exact kidsFit12 N M S T v xs g w hg hx hl
 ·exact kidsFit13 N M S T v xs g w hg hx hl
 ·exact kidsFit14 N M S T v xs g w hg hx hl
 ·exact kidsFit15 N M S T v xs g w hg hx hl
end Go.Proofs.YtmggnimiioepeaaGreatDoor
