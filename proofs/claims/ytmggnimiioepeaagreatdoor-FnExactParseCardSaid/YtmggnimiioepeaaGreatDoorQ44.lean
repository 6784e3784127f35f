import Derived.Test.YtmggnimiioepeaaGreatDoorQ0
import Derived.Test.YtmggnimiioepeaaGreatDoorQ15
import Derived.Test.YtmggnimiioepeaaGreatDoorQ2
import Derived.Test.YtmggnimiioepeaaGreatDoorQ16
namespace Go.Proofs.YtmggnimiioepeaaGreatDoor
open Go Go.RowKit
theorem BlkS_iff(s q r:ByteArray)(m:Nat)(h:m<=s.size)(hq:q.toList=s.toList.take m)(hr:r.toList=cutS (s.toList.drop m)):
  BlkS s.toList m↔(dB (onlyB q 115 0)=true/\dB (onlyB r 102 1)=true):=by
 unfold BlkS
 simp only[Int.toNat_natCast]
 rw[dB_iff,dB_iff,<-hq,<-hr,size_toList]
 have e1:=only_iff q 115 0
 have e2:=only_iff r 102 1
 rw[<-e1,<-e2]
 constructor
 ·intro⟨_,_,h1,h2⟩;exact⟨h1,h2⟩
 ·intro⟨h1,h2⟩;exact⟨by omega,by omega,h1,h2⟩
set_option maxHeartbeats 2000000 in
theorem blockOk_calls(s:ByteArray)(n:Int)(w:World)(hs:s.size<=1048576):
  Calls Tryz.prog 60 #[.string s,.int .i64 n] w fun e w'=>e= .returned (.bool (dB (BlkS s.toList n)))/\w'=w:=by
 by_cases hA:n<0
 ·have HB:Hid (¬BlkS s.toList n):=fun h=>by have:=h.1;omega
  have HE:Hid (dB (BlkS s.toList n)=false):=dB_false HB.out
  clear HB
  go_enter Tryz.func60,Tryz.ntmps60
  go_wp2
  go_ret
  exact⟨congrArg (fun z=>Ending.returned (.bool z)) HE.out.symm,rfl⟩
 by_cases hC:(s.size:Int)<n
 ·have HB:Hid (¬BlkS s.toList n):=fun h=>by have:=h.2.1;rw[size_toList]at this;omega
  have HE:Hid (dB (BlkS s.toList n)=false):=dB_false HB.out
  clear HB
  go_enter Tryz.func60,Tryz.ntmps60
  go_wp2
  go_ret
  exact⟨congrArg (fun z=>Ending.returned (.bool z)) HE.out.symm,rfl⟩
 obtain⟨m,rfl⟩:=Int.eq_ofNat_of_zero_le (show 0<=n by omega)
 have hle:m<=s.size:=by omega
 have hle':(m:Int)<=(s.size:Int):=by omega
 obtain⟨q,hq⟩: ∃q,s.extract 0 m=q:=⟨_,rfl⟩
 obtain⟨r,hr⟩: ∃r,s.extract m s.size=r:=⟨_,rfl⟩
 have hql:q.toList=s.toList.take m:=by rw[<-hq,extract_toList];simp
 have hrl:r.toList=s.toList.drop m:=by
  rw[<-hr,extract_toList]
  apply List.take_of_length_le
  rw[List.length_drop,size_toList]
  exact Nat.le_refl _
 have hqs:q.size=m:=by rw[<-size_toList,hql,List.length_take,size_toList];omega
 have hrs:r.size=s.size-m:=by rw[<-size_toList,hrl,List.length_drop,size_toList]
 have QC:=fun w=>only_calls q 115 0 w (by omega)
 clear hA hC
 by_cases h0:s.size=m
 ·have hr0:r.size=0:=by omega
  have hrn:r.toList=[]:=List.eq_nil_of_length_eq_zero (by rw[size_toList];exact hr0)
  have HB:=hide (BlkS_iff s q r m hle hql (by rw[<-hrl,hrn];rfl))
  have RC:=fun w=>only_calls r 102 1 w (by omega)
  generalize dB (onlyB q 115 0)=b1 at*
  generalize dB (onlyB r 102 1)=b2 at*
  have HQC:=hide QC;have HRC:=hide RC
  clear QC RC hql hrl hqs hrs h0 hrn
  cases b1
  ·have HE:Hid (dB (BlkS s.toList m)=false):=dB_false (fun h=>by have:=(HB.out.1 h).1;cases this)
   clear HB
   go_enter Tryz.func60,Tryz.ntmps60
   go_wp2_with fail
   refine(unhide HQC _).mono ?_;rintro e w1 ⟨rfl,rfl⟩
   go_wp2
   go_ret
   exact⟨congrArg (fun z=>Ending.returned (.bool z)) HE.out.symm,rfl⟩
  ·cases b2
   ·have HE:Hid (dB (BlkS s.toList m)=false):=dB_false (fun h=>by have:=(HB.out.1 h).2;cases this)
    clear HB
    go_enter Tryz.func60,Tryz.ntmps60
    go_wp2_with fail
    refine(unhide HQC _).mono ?_;rintro e w1 ⟨rfl,rfl⟩
    go_wp2_with fail
    refine(unhide HRC _).mono ?_;rintro e w1 ⟨rfl,rfl⟩
    go_wp2
    go_ret
    exact⟨congrArg (fun z=>Ending.returned (.bool z)) HE.out.symm,rfl⟩
   ·have HE:Hid (dB (BlkS s.toList m)=true):=dB_true (HB.out.2 ⟨rfl,rfl⟩)
    clear HB
    go_enter Tryz.func60,Tryz.ntmps60
    go_wp2_with fail
    refine(unhide HQC _).mono ?_;rintro e w1 ⟨rfl,rfl⟩
    go_wp2_with fail
    refine(unhide HRC _).mono ?_;rintro e w1 ⟨rfl,rfl⟩
    go_wp2
    go_ret
    exact⟨congrArg (fun z=>Ending.returned (.bool z)) HE.out.symm,rfl⟩
 obtain⟨L,hL⟩: ∃L,r.size=L+1:=⟨s.size-m-1,by omega⟩
 have hLt:L<r.size:=by omega
 have hLb:L<=1048576:=by omega
 have eb:=byt_eq r L hLt
 have hgl:r.toList.getLast?=some (r[L]'hLt):=by
  rw[List.getLast?_eq_getElem?,size_toList,hL,Nat.add_sub_cancel]
  have hl:L<r.toList.length:=by rw[size_toList];exact hLt
  rw[List.getElem?_eq_getElem hl]
  congr 1
  cases r with | mk d=>
  simp[Go.ByteArray.toList_eq]
  rfl
 have hcut:cutS (s.toList.drop m)=if byt r L=99 then r.toList.dropLast else r.toList:=by
  unfold cutS
  rw[<-hrl,hgl,<-eb]
  by_cases e:r[L]=99
  ·rw[e];simp
  ·have e': ¬((r[L]'hLt).toNat:Int)=99:=fun h=>e (UInt8.toNat_inj.1 (by simpa using(by omega:(r[L]'hLt).toNat=99)))
   rw[if_neg (by simpa using e),if_neg e']
 by_cases h99:byt r L=99
 ·obtain⟨p,hp⟩: ∃p,r.extract 0 L=p:=⟨_,rfl⟩
  have hpl:p.toList=r.toList.dropLast:=by
   rw[<-hp,extract_toList,List.dropLast_eq_take,size_toList,hL];simp
  have hps:p.size<=1048576:=by
   rw[<-size_toList,hpl,List.length_dropLast,size_toList];omega
  have HB:=hide (BlkS_iff s q p m hle hql (by rw[hcut,if_pos h99];exact hpl))
  have RC:=fun w=>only_calls p 102 1 w hps
  have hb:(byt r L==99)=true:=by simp[h99]
  generalize byt r L=d at*
  generalize dB (onlyB q 115 0)=b1 at*
  generalize dB (onlyB p 102 1)=b2 at*
  have HQC:=hide QC;have HRC:=hide RC
  clear QC RC hql hrl hqs hrs h0 hgl hcut hpl hps h99
  cases b1
  ·have HE:Hid (dB (BlkS s.toList m)=false):=dB_false (fun h=>by have:=(HB.out.1 h).1;cases this)
   clear HB
   go_enter Tryz.func60,Tryz.ntmps60
   go_wp2_with fail
   refine(unhide HQC _).mono ?_;rintro e w1 ⟨rfl,rfl⟩
   go_wp2
   go_ret
   exact⟨congrArg (fun z=>Ending.returned (.bool z)) HE.out.symm,rfl⟩
  ·cases b2
   ·have HE:Hid (dB (BlkS s.toList m)=false):=dB_false (fun h=>by have:=(HB.out.1 h).2;cases this)
    clear HB
    go_enter Tryz.func60,Tryz.ntmps60
    go_wp2_with fail
    refine(unhide HQC _).mono ?_;rintro e w1 ⟨rfl,rfl⟩
    go_wp2_with fail
    refine(unhide HRC _).mono ?_;rintro e w1 ⟨rfl,rfl⟩
    go_wp2
    go_ret
    exact⟨congrArg (fun z=>Ending.returned (.bool z)) HE.out.symm,rfl⟩
   ·have HE:Hid (dB (BlkS s.toList m)=true):=dB_true (HB.out.2 ⟨rfl,rfl⟩)
    clear HB
    go_enter Tryz.func60,Tryz.ntmps60
    go_wp2_with fail
    refine(unhide HQC _).mono ?_;rintro e w1 ⟨rfl,rfl⟩
    go_wp2_with fail
    refine(unhide HRC _).mono ?_;rintro e w1 ⟨rfl,rfl⟩
    go_wp2
    go_ret
    exact⟨congrArg (fun z=>Ending.returned (.bool z)) HE.out.symm,rfl⟩
 ·have HB:=hide (BlkS_iff s q r m hle hql (by rw[hcut,if_neg h99]))
  have RC:=fun w=>only_calls r 102 1 w (by omega)
  have hb:(byt r L==99)=false:=by simp[h99]
  generalize byt r L=d at*
  generalize dB (onlyB q 115 0)=b1 at*
  generalize dB (onlyB r 102 1)=b2 at*
  have HQC:=hide QC;have HRC:=hide RC
  clear QC RC hql hrl hqs hrs h0 hgl hcut h99
  cases b1
  ·have HE:Hid (dB (BlkS s.toList m)=false):=dB_false (fun h=>by have:=(HB.out.1 h).1;cases this)
   clear HB
   go_enter Tryz.func60,Tryz.ntmps60
   go_wp2_with fail
   refine(unhide HQC _).mono ?_;rintro e w1 ⟨rfl,rfl⟩
   go_wp2
   go_ret
   exact⟨congrArg (fun z=>Ending.returned (.bool z)) HE.out.symm,rfl⟩
  ·cases b2
   ·have HE:Hid (dB (BlkS s.toList m)=false):=dB_false (fun h=>by have:=(HB.out.1 h).2;cases this)
    clear HB
    go_enter Tryz.func60,Tryz.ntmps60
    go_wp2_with fail
    refine(unhide HQC _).mono ?_;rintro e w1 ⟨rfl,rfl⟩
    go_wp2_with fail
    refine(unhide HRC _).mono ?_;rintro e w1 ⟨rfl,rfl⟩
    go_wp2
    go_ret
    exact⟨congrArg (fun z=>Ending.returned (.bool z)) HE.out.symm,rfl⟩
   ·have HE:Hid (dB (BlkS s.toList m)=true):=dB_true (HB.out.2 ⟨rfl,rfl⟩)
    clear HB
    go_enter Tryz.func60,Tryz.ntmps60
    go_wp2_with fail
    refine(unhide HQC _).mono ?_;rintro e w1 ⟨rfl,rfl⟩
    go_wp2_with fail
    refine(unhide HRC _).mono ?_;rintro e w1 ⟨rfl,rfl⟩
    go_wp2
    go_ret
    exact⟨congrArg (fun z=>Ending.returned (.bool z)) HE.out.symm,rfl⟩
end Go.Proofs.YtmggnimiioepeaaGreatDoor
namespace Go.Proofs.YtmggnimiioepeaaGreatDoor.AX
open Go Go.RowKit
set_option maxHeartbeats 8000000 in
set_option maxRecDepth 100000 in
theorem nodeOk1(N M:Int)(S T:ByteArray)(ks:List Int)(ka:Option Addr)(kl kc:Nat)(kd:List Int)(q:ByteArray)(g cap len i:Nat)(w:World)(_:g<w.heap.size)(_:(i:Int)<(len:Int))(hq:q.toList=kd.map ltr)
  (_:q.size<=1048576) (_:S.size<=1048576) (_:T.size<=1048576)
  (_:w.cell? ⟨g,i*6,none⟩=some (.int .i64 1)) (_:w.cell? ⟨g,i*6+1,none⟩=some (.int .i64 N)) (_:w.cell? ⟨g,i*6+2,none⟩=some (.int .i64 M))
  (_:w.cell? ⟨g,i*6+3,none⟩=some (.string S)) (_:w.cell? ⟨g,i*6+4,none⟩=some (.string T)) (_:w.cell? ⟨g,i*6+5,none⟩=some (.slice ka kl kc))
  (KC:Hid (∀W,Below w.heap.size w W->Calls Tryz.prog 57 #[.slice (some ⟨g,0,none⟩) len cap,.int .i64 (i:Int)] W fun e w'=>e= .returned (.string q)/\w'=W)):
  Calls Tryz.prog 32 #[.slice (some ⟨g,0,none⟩) len cap,.int .i64 (i:Int)] w fun e w'=>e= .returned (.bool (dB (FitS ⟨1,N,M,S,T,ks⟩ kd)))/\Below w.heap.size w w':=by
 cases bS:(S.toList==([]:List UInt8))
 ·have HE:Hid (dB (FitS ⟨1,N,M,S,T,ks⟩ kd)=false):=dB_false (fun h=>by simp[FitS,<-hq]at h<;>grind)
  clear hq
  go_enter Tryz.func32,Tryz.ntmps32
  go_wp2_with fail
  refine(KC.out _ (by(repeat(first | exact Below.refl _ _ | refine bA ?_ _ | refine Below.setCell ?_ (by simp) _)))).mono ?_;rintro e w1 ⟨rfl,rfl⟩
  go_wp2
  go_ret
  exact⟨congrArg (fun z=>Ending.returned (.bool z)) HE.out.symm,(by(repeat(first | exact Below.refl _ _ | refine bA ?_ _ | refine Below.setCell ?_ (by simp) _)))⟩
 cases bT:(T.toList==([]:List UInt8))
 ·have HE:Hid (dB (FitS ⟨1,N,M,S,T,ks⟩ kd)=false):=dB_false (fun h=>by simp[FitS,<-hq]at h<;>grind)
  clear hq
  go_enter Tryz.func32,Tryz.ntmps32
  go_wp2_with fail
  refine(KC.out _ (by(repeat(first | exact Below.refl _ _ | refine bA ?_ _ | refine Below.setCell ?_ (by simp) _)))).mono ?_;rintro e w1 ⟨rfl,rfl⟩
  go_wp2
  go_ret
  exact⟨congrArg (fun z=>Ending.returned (.bool z)) HE.out.symm,(by(repeat(first | exact Below.refl _ _ | refine bA ?_ _ | refine Below.setCell ?_ (by simp) _)))⟩
 cases bM:(M==0)
 ·have HE:Hid (dB (FitS ⟨1,N,M,S,T,ks⟩ kd)=false):=dB_false (fun h=>by simp[FitS,<-hq]at h<;>grind)
  clear hq
  go_enter Tryz.func32,Tryz.ntmps32
  go_wp2_with fail
  refine(KC.out _ (by(repeat(first | exact Below.refl _ _ | refine bA ?_ _ | refine Below.setCell ?_ (by simp) _)))).mono ?_;rintro e w1 ⟨rfl,rfl⟩
  go_wp2
  go_ret
  exact⟨congrArg (fun z=>Ending.returned (.bool z)) HE.out.symm,(by(repeat(first | exact Below.refl _ _ | refine bA ?_ _ | refine Below.setCell ?_ (by simp) _)))⟩
 obtain rfl:M=0:=by simpa using bM
 cases bq:(q.toList==([]:List UInt8))
 ·have HE:Hid (dB (FitS ⟨1,N,0,S,T,ks⟩ kd)=false):=dB_false (fun h=>by simp[FitS,<-hq]at h<;>grind)
  clear hq
  go_enter Tryz.func32,Tryz.ntmps32
  go_wp2_with fail
  refine(KC.out _ (by(repeat(first | exact Below.refl _ _ | refine bA ?_ _ | refine Below.setCell ?_ (by simp) _)))).mono ?_;rintro e w1 ⟨rfl,rfl⟩
  go_wp2
  go_ret
  exact⟨congrArg (fun z=>Ending.returned (.bool z)) HE.out.symm,(by(repeat(first | exact Below.refl _ _ | refine bA ?_ _ | refine Below.setCell ?_ (by simp) _)))⟩
 ·have HE:Hid (dB (FitS ⟨1,N,0,S,T,ks⟩ kd)=shortB N):=by show _=_;rw[Bool.eq_iff_iff,dB_iff];simp[FitS,<-hq]<;>grind
  clear hq
  go_enter Tryz.func32,Tryz.ntmps32
  go_wp2_with fail
  refine(KC.out _ (by(repeat(first | exact Below.refl _ _ | refine bA ?_ _ | refine Below.setCell ?_ (by simp) _)))).mono ?_;rintro e w1 ⟨rfl,rfl⟩
  go_wp2_with fail
  refine(short_calls N _).mono ?_;rintro e w1 ⟨rfl,rfl⟩
  go_wp2
  go_ret
  exact⟨congrArg (fun z=>Ending.returned (.bool z)) HE.out.symm,(by(repeat(first | exact Below.refl _ _ | refine bA ?_ _ | refine Below.setCell ?_ (by simp) _)))⟩
set_option maxHeartbeats 8000000 in
set_option maxRecDepth 100000 in
theorem nodeOk2(N M:Int)(S T:ByteArray)(ks:List Int)(ka:Option Addr)(kl kc:Nat)(kd:List Int)(q:ByteArray)(g cap len i:Nat)(w:World)(_:g<w.heap.size)(_:(i:Int)<(len:Int))(hq:q.toList=kd.map ltr)
  (_:q.size<=1048576) (_:S.size<=1048576) (_:T.size<=1048576)
  (_:w.cell? ⟨g,i*6,none⟩=some (.int .i64 2)) (_:w.cell? ⟨g,i*6+1,none⟩=some (.int .i64 N)) (_:w.cell? ⟨g,i*6+2,none⟩=some (.int .i64 M))
  (_:w.cell? ⟨g,i*6+3,none⟩=some (.string S)) (_:w.cell? ⟨g,i*6+4,none⟩=some (.string T)) (_:w.cell? ⟨g,i*6+5,none⟩=some (.slice ka kl kc))
  (KC:Hid (∀W,Below w.heap.size w W->Calls Tryz.prog 57 #[.slice (some ⟨g,0,none⟩) len cap,.int .i64 (i:Int)] W fun e w'=>e= .returned (.string q)/\w'=W)):
  Calls Tryz.prog 32 #[.slice (some ⟨g,0,none⟩) len cap,.int .i64 (i:Int)] w fun e w'=>e= .returned (.bool (dB (FitS ⟨2,N,M,S,T,ks⟩ kd)))/\Below w.heap.size w w':=by
 cases bS:(S.toList==([]:List UInt8))
 ·have HE:Hid (dB (FitS ⟨2,N,M,S,T,ks⟩ kd)=false):=dB_false (fun h=>by simp[FitS,<-hq]at h<;>grind)
  clear hq
  go_enter Tryz.func32,Tryz.ntmps32
  go_wp2_with fail
  refine(KC.out _ (by(repeat(first | exact Below.refl _ _ | refine bA ?_ _ | refine Below.setCell ?_ (by simp) _)))).mono ?_;rintro e w1 ⟨rfl,rfl⟩
  go_wp2
  go_ret
  exact⟨congrArg (fun z=>Ending.returned (.bool z)) HE.out.symm,(by(repeat(first | exact Below.refl _ _ | refine bA ?_ _ | refine Below.setCell ?_ (by simp) _)))⟩
 cases bT:(T.toList==([]:List UInt8))
 ·have HE:Hid (dB (FitS ⟨2,N,M,S,T,ks⟩ kd)=false):=dB_false (fun h=>by simp[FitS,<-hq]at h<;>grind)
  clear hq
  go_enter Tryz.func32,Tryz.ntmps32
  go_wp2_with fail
  refine(KC.out _ (by(repeat(first | exact Below.refl _ _ | refine bA ?_ _ | refine Below.setCell ?_ (by simp) _)))).mono ?_;rintro e w1 ⟨rfl,rfl⟩
  go_wp2
  go_ret
  exact⟨congrArg (fun z=>Ending.returned (.bool z)) HE.out.symm,(by(repeat(first | exact Below.refl _ _ | refine bA ?_ _ | refine Below.setCell ?_ (by simp) _)))⟩
 cases bN:(N==0)
 ·have HE:Hid (dB (FitS ⟨2,N,M,S,T,ks⟩ kd)=false):=dB_false (fun h=>by simp[FitS,<-hq]at h<;>grind)
  clear hq
  go_enter Tryz.func32,Tryz.ntmps32
  go_wp2_with fail
  refine(KC.out _ (by(repeat(first | exact Below.refl _ _ | refine bA ?_ _ | refine Below.setCell ?_ (by simp) _)))).mono ?_;rintro e w1 ⟨rfl,rfl⟩
  go_wp2
  go_ret
  exact⟨congrArg (fun z=>Ending.returned (.bool z)) HE.out.symm,(by(repeat(first | exact Below.refl _ _ | refine bA ?_ _ | refine Below.setCell ?_ (by simp) _)))⟩
 obtain rfl:N=0:=by simpa using bN
 cases bM:(M==0)
 ·have HE:Hid (dB (FitS ⟨2,0,M,S,T,ks⟩ kd)=false):=dB_false (fun h=>by simp[FitS,<-hq]at h<;>grind)
  clear hq
  go_enter Tryz.func32,Tryz.ntmps32
  go_wp2_with fail
  refine(KC.out _ (by(repeat(first | exact Below.refl _ _ | refine bA ?_ _ | refine Below.setCell ?_ (by simp) _)))).mono ?_;rintro e w1 ⟨rfl,rfl⟩
  go_wp2
  go_ret
  exact⟨congrArg (fun z=>Ending.returned (.bool z)) HE.out.symm,(by(repeat(first | exact Below.refl _ _ | refine bA ?_ _ | refine Below.setCell ?_ (by simp) _)))⟩
 obtain rfl:M=0:=by simpa using bM
 ·have HE:Hid (dB (FitS ⟨2,0,0,S,T,ks⟩ kd)=(q.toList.isEmpty)):=by show _=_;rw[Bool.eq_iff_iff,dB_iff];simp[FitS,<-hq]<;>grind
  clear hq
  go_enter Tryz.func32,Tryz.ntmps32
  go_wp2_with fail
  refine(KC.out _ (by(repeat(first | exact Below.refl _ _ | refine bA ?_ _ | refine Below.setCell ?_ (by simp) _)))).mono ?_;rintro e w1 ⟨rfl,rfl⟩
  go_wp2
  go_ret
  exact⟨congrArg (fun z=>Ending.returned (.bool z)) HE.out.symm,(by(repeat(first | exact Below.refl _ _ | refine bA ?_ _ | refine Below.setCell ?_ (by simp) _)))⟩
set_option maxHeartbeats 8000000 in
set_option maxRecDepth 100000 in
theorem nodeOk3(N M:Int)(S T:ByteArray)(ks:List Int)(ka:Option Addr)(kl kc:Nat)(kd:List Int)(q:ByteArray)(g cap len i:Nat)(w:World)(_:g<w.heap.size)(_:(i:Int)<(len:Int))(hq:q.toList=kd.map ltr)
  (_:q.size<=1048576) (hSs:S.size<=1048576) (_:T.size<=1048576)
  (_:w.cell? ⟨g,i*6,none⟩=some (.int .i64 3)) (_:w.cell? ⟨g,i*6+1,none⟩=some (.int .i64 N)) (_:w.cell? ⟨g,i*6+2,none⟩=some (.int .i64 M))
  (_:w.cell? ⟨g,i*6+3,none⟩=some (.string S)) (_:w.cell? ⟨g,i*6+4,none⟩=some (.string T)) (_:w.cell? ⟨g,i*6+5,none⟩=some (.slice ka kl kc))
  (KC:Hid (∀W,Below w.heap.size w W->Calls Tryz.prog 57 #[.slice (some ⟨g,0,none⟩) len cap,.int .i64 (i:Int)] W fun e w'=>e= .returned (.string q)/\w'=W)):
  Calls Tryz.prog 32 #[.slice (some ⟨g,0,none⟩) len cap,.int .i64 (i:Int)] w fun e w'=>e= .returned (.bool (dB (FitS ⟨3,N,M,S,T,ks⟩ kd)))/\Below w.heap.size w w':=by
 cases bS:(S.toList==([]:List UInt8))
 rotate_left
 ·have HE:Hid (dB (FitS ⟨3,N,M,S,T,ks⟩ kd)=false):=dB_false (fun h=>by simp[FitS,<-hq]at h<;>grind)
  clear hq
  go_enter Tryz.func32,Tryz.ntmps32
  go_wp2_with fail
  refine(KC.out _ (by(repeat(first | exact Below.refl _ _ | refine bA ?_ _ | refine Below.setCell ?_ (by simp) _)))).mono ?_;rintro e w1 ⟨rfl,rfl⟩
  go_wp2
  go_ret
  exact⟨congrArg (fun z=>Ending.returned (.bool z)) HE.out.symm,(by(repeat(first | exact Below.refl _ _ | refine bA ?_ _ | refine Below.setCell ?_ (by simp) _)))⟩
 cases bT:(T.toList==([]:List UInt8))
 ·have HE:Hid (dB (FitS ⟨3,N,M,S,T,ks⟩ kd)=false):=dB_false (fun h=>by simp[FitS,<-hq]at h<;>grind)
  clear hq
  go_enter Tryz.func32,Tryz.ntmps32
  go_wp2_with fail
  refine(KC.out _ (by(repeat(first | exact Below.refl _ _ | refine bA ?_ _ | refine Below.setCell ?_ (by simp) _)))).mono ?_;rintro e w1 ⟨rfl,rfl⟩
  go_wp2
  go_ret
  exact⟨congrArg (fun z=>Ending.returned (.bool z)) HE.out.symm,(by(repeat(first | exact Below.refl _ _ | refine bA ?_ _ | refine Below.setCell ?_ (by simp) _)))⟩
 cases bM:(M==0)
 ·have HE:Hid (dB (FitS ⟨3,N,M,S,T,ks⟩ kd)=false):=dB_false (fun h=>by simp[FitS,<-hq]at h<;>grind)
  clear hq
  go_enter Tryz.func32,Tryz.ntmps32
  go_wp2_with fail
  refine(KC.out _ (by(repeat(first | exact Below.refl _ _ | refine bA ?_ _ | refine Below.setCell ?_ (by simp) _)))).mono ?_;rintro e w1 ⟨rfl,rfl⟩
  go_wp2
  go_ret
  exact⟨congrArg (fun z=>Ending.returned (.bool z)) HE.out.symm,(by(repeat(first | exact Below.refl _ _ | refine bA ?_ _ | refine Below.setCell ?_ (by simp) _)))⟩
 obtain rfl:M=0:=by simpa using bM
 cases bq:(q.toList==([]:List UInt8))
 ·have HE:Hid (dB (FitS ⟨3,N,0,S,T,ks⟩ kd)=false):=dB_false (fun h=>by simp[FitS,<-hq]at h<;>grind)
  clear hq
  go_enter Tryz.func32,Tryz.ntmps32
  go_wp2_with fail
  refine(KC.out _ (by(repeat(first | exact Below.refl _ _ | refine bA ?_ _ | refine Below.setCell ?_ (by simp) _)))).mono ?_;rintro e w1 ⟨rfl,rfl⟩
  go_wp2
  go_ret
  exact⟨congrArg (fun z=>Ending.returned (.bool z)) HE.out.symm,(by(repeat(first | exact Below.refl _ _ | refine bA ?_ _ | refine Below.setCell ?_ (by simp) _)))⟩
 have NC:=fun w=>sIsName_calls S w hSs
 have hNd:dB (NameB S)=true↔NameB S:=dB_iff
 generalize dB (NameB S)=d at*
 have HNC:=hide NC
 clear NC
 cases d
 ·have HE:Hid (dB (FitS ⟨3,N,0,S,T,ks⟩ kd)=false):=dB_false (fun h=>by simp[FitS,<-hq]at h<;>grind)
  clear hq hNd
  go_enter Tryz.func32,Tryz.ntmps32
  go_wp2_with fail
  refine(KC.out _ (by(repeat(first | exact Below.refl _ _ | refine bA ?_ _ | refine Below.setCell ?_ (by simp) _)))).mono ?_;rintro e w1 ⟨rfl,rfl⟩
  go_wp2_with fail
  refine(unhide HNC _).mono ?_;rintro e w1 ⟨rfl,rfl⟩
  go_wp2
  go_ret
  exact⟨congrArg (fun z=>Ending.returned (.bool z)) HE.out.symm,(by(repeat(first | exact Below.refl _ _ | refine bA ?_ _ | refine Below.setCell ?_ (by simp) _)))⟩
 by_cases hN:0<=N
 rotate_left
 ·have HE:Hid (dB (FitS ⟨3,N,0,S,T,ks⟩ kd)=false):=dB_false (fun h=>by simp[FitS,<-hq]at h<;>grind)
  clear hq hNd
  go_enter Tryz.func32,Tryz.ntmps32
  go_wp2_with fail
  refine(KC.out _ (by(repeat(first | exact Below.refl _ _ | refine bA ?_ _ | refine Below.setCell ?_ (by simp) _)))).mono ?_;rintro e w1 ⟨rfl,rfl⟩
  go_wp2_with fail
  refine(unhide HNC _).mono ?_;rintro e w1 ⟨rfl,rfl⟩
  go_wp2
  go_ret
  exact⟨congrArg (fun z=>Ending.returned (.bool z)) HE.out.symm,(by(repeat(first | exact Below.refl _ _ | refine bA ?_ _ | refine Below.setCell ?_ (by simp) _)))⟩
 ·have HE:Hid (dB (FitS ⟨3,N,0,S,T,ks⟩ kd)=shortB N):=by show _=_;rw[Bool.eq_iff_iff,dB_iff];simp[FitS,<-hq]<;>grind
  clear hq hNd
  go_enter Tryz.func32,Tryz.ntmps32
  go_wp2_with fail
  refine(KC.out _ (by(repeat(first | exact Below.refl _ _ | refine bA ?_ _ | refine Below.setCell ?_ (by simp) _)))).mono ?_;rintro e w1 ⟨rfl,rfl⟩
  go_wp2_with fail
  refine(unhide HNC _).mono ?_;rintro e w1 ⟨rfl,rfl⟩
  go_wp2_with fail
  refine(short_calls N _).mono ?_;rintro e w1 ⟨rfl,rfl⟩
  go_wp2
  go_ret
  exact⟨congrArg (fun z=>Ending.returned (.bool z)) HE.out.symm,(by(repeat(first | exact Below.refl _ _ | refine bA ?_ _ | refine Below.setCell ?_ (by simp) _)))⟩
end Go.Proofs.YtmggnimiioepeaaGreatDoor.AX
