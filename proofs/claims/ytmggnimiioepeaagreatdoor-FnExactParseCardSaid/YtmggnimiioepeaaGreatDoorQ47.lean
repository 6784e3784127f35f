import Derived.Test.YtmggnimiioepeaaGreatDoorQ0
import Derived.Test.YtmggnimiioepeaaGreatDoorQ2
import Derived.Test.YtmggnimiioepeaaGreatDoorQ16
import Derived.Test.YtmggnimiioepeaaGreatDoorQ44
namespace Go.Proofs.YtmggnimiioepeaaGreatDoor.AX
open Go Go.RowKit
set_option maxHeartbeats 8000000 in
set_option maxRecDepth 100000 in
theorem nodeOk11(N M:Int)(S T:ByteArray)(ks:List Int)(ka:Option Addr)(kl kc:Nat)(kd:List Int)(q:ByteArray)(g cap len i:Nat)(w:World)(_:g<w.heap.size)(_:(i:Int)<(len:Int))(hq:q.toList=kd.map ltr)
  (_:q.size<=1048576) (_:S.size<=1048576) (_:T.size<=1048576)
  (_:w.cell? ⟨g,i*6,none⟩=some (.int .i64 11)) (_:w.cell? ⟨g,i*6+1,none⟩=some (.int .i64 N)) (_:w.cell? ⟨g,i*6+2,none⟩=some (.int .i64 M))
  (_:w.cell? ⟨g,i*6+3,none⟩=some (.string S)) (_:w.cell? ⟨g,i*6+4,none⟩=some (.string T)) (_:w.cell? ⟨g,i*6+5,none⟩=some (.slice ka kl kc))
  (KC:Hid (∀W,Below w.heap.size w W->Calls Tryz.prog 57 #[.slice (some ⟨g,0,none⟩) len cap,.int .i64 (i:Int)] W fun e w'=>e= .returned (.string q)/\w'=W)):
  Calls Tryz.prog 32 #[.slice (some ⟨g,0,none⟩) len cap,.int .i64 (i:Int)] w fun e w'=>e= .returned (.bool (dB (FitS ⟨11,N,M,S,T,ks⟩ kd)))/\Below w.heap.size w w':=by
 cases bS:(S.toList==([]:List UInt8))
 ·have HE:Hid (dB (FitS ⟨11,N,M,S,T,ks⟩ kd)=false):=dB_false (fun h=>by simp[FitS,<-hq]at h<;>grind)
  clear hq
  go_enter Tryz.func32,Tryz.ntmps32
  go_wp2_with fail
  refine(KC.out _ (by(repeat(first | exact Below.refl _ _ | refine bA ?_ _ | refine Below.setCell ?_ (by simp) _)))).mono ?_;rintro e w1 ⟨rfl,rfl⟩
  go_wp2
  go_ret
  exact⟨congrArg (fun z=>Ending.returned (.bool z)) HE.out.symm,(by(repeat(first | exact Below.refl _ _ | refine bA ?_ _ | refine Below.setCell ?_ (by simp) _)))⟩
 cases bT:(T.toList==([]:List UInt8))
 ·have HE:Hid (dB (FitS ⟨11,N,M,S,T,ks⟩ kd)=false):=dB_false (fun h=>by simp[FitS,<-hq]at h<;>grind)
  clear hq
  go_enter Tryz.func32,Tryz.ntmps32
  go_wp2_with fail
  refine(KC.out _ (by(repeat(first | exact Below.refl _ _ | refine bA ?_ _ | refine Below.setCell ?_ (by simp) _)))).mono ?_;rintro e w1 ⟨rfl,rfl⟩
  go_wp2
  go_ret
  exact⟨congrArg (fun z=>Ending.returned (.bool z)) HE.out.symm,(by(repeat(first | exact Below.refl _ _ | refine bA ?_ _ | refine Below.setCell ?_ (by simp) _)))⟩
 cases bN:(N==0)
 ·have HE:Hid (dB (FitS ⟨11,N,M,S,T,ks⟩ kd)=false):=dB_false (fun h=>by simp[FitS,<-hq]at h<;>grind)
  clear hq
  go_enter Tryz.func32,Tryz.ntmps32
  go_wp2_with fail
  refine(KC.out _ (by(repeat(first | exact Below.refl _ _ | refine bA ?_ _ | refine Below.setCell ?_ (by simp) _)))).mono ?_;rintro e w1 ⟨rfl,rfl⟩
  go_wp2
  go_ret
  exact⟨congrArg (fun z=>Ending.returned (.bool z)) HE.out.symm,(by(repeat(first | exact Below.refl _ _ | refine bA ?_ _ | refine Below.setCell ?_ (by simp) _)))⟩
 obtain rfl:N=0:=by simpa using bN
 rcases(show M=0\/M=1\/(2<=M/\M<=4)\/(5<=M/\M<=6)\/M<0\/6<M from by omega)with rfl | rfl | ⟨hM1,hM2⟩ | ⟨hM1,hM2⟩ | hM1 | hM1
 ·skip
  ·have HE:Hid (dB (FitS ⟨11,0,0,S,T,ks⟩ kd)=(q.toList==([115,113]:List UInt8))):=by show _=_;rw[Bool.eq_iff_iff,dB_iff];simp[FitS,<-hq]<;>grind
   clear hq
   go_enter Tryz.func32,Tryz.ntmps32
   go_wp2_with fail
   refine(KC.out _ (by(repeat(first | exact Below.refl _ _ | refine bA ?_ _ | refine Below.setCell ?_ (by simp) _)))).mono ?_;rintro e w1 ⟨rfl,rfl⟩
   go_wp2
   go_ret
   exact⟨congrArg (fun z=>Ending.returned (.bool z)) HE.out.symm,(by(repeat(first | exact Below.refl _ _ | refine bA ?_ _ | refine Below.setCell ?_ (by simp) _)))⟩
 ·skip
  ·have HE:Hid (dB (FitS ⟨11,0,1,S,T,ks⟩ kd)=(q.toList==([115,113]:List UInt8))):=by show _=_;rw[Bool.eq_iff_iff,dB_iff];simp[FitS,<-hq]<;>grind
   clear hq
   go_enter Tryz.func32,Tryz.ntmps32
   go_wp2_with fail
   refine(KC.out _ (by(repeat(first | exact Below.refl _ _ | refine bA ?_ _ | refine Below.setCell ?_ (by simp) _)))).mono ?_;rintro e w1 ⟨rfl,rfl⟩
   go_wp2
   go_ret
   exact⟨congrArg (fun z=>Ending.returned (.bool z)) HE.out.symm,(by(repeat(first | exact Below.refl _ _ | refine bA ?_ _ | refine Below.setCell ?_ (by simp) _)))⟩
 ·have m0:(M==0)=false:=beq_eq_false_iff_ne.2 (by omega)
  have m1:(M==1)=false:=beq_eq_false_iff_ne.2 (by omega)
  have m2:1<=M:=by omega
  have m3:M<=6:=by omega
  ·have HE:Hid (dB (FitS ⟨11,0,M,S,T,ks⟩ kd)=false):=dB_false (fun h=>by simp[FitS,<-hq]at h<;>grind)
   clear hq
   go_enter Tryz.func32,Tryz.ntmps32
   go_wp2_with fail
   refine(KC.out _ (by(repeat(first | exact Below.refl _ _ | refine bA ?_ _ | refine Below.setCell ?_ (by simp) _)))).mono ?_;rintro e w1 ⟨rfl,rfl⟩
   go_wp2
   go_ret
   exact⟨congrArg (fun z=>Ending.returned (.bool z)) HE.out.symm,(by(repeat(first | exact Below.refl _ _ | refine bA ?_ _ | refine Below.setCell ?_ (by simp) _)))⟩
 ·have m0:(M==0)=false:=beq_eq_false_iff_ne.2 (by omega)
  have m1:(M==1)=false:=beq_eq_false_iff_ne.2 (by omega)
  have m2:1<=M:=by omega
  have m3:M<=6:=by omega
  ·have HE:Hid (dB (FitS ⟨11,0,M,S,T,ks⟩ kd)=false):=dB_false (fun h=>by simp[FitS,<-hq]at h<;>grind)
   clear hq
   go_enter Tryz.func32,Tryz.ntmps32
   go_wp2_with fail
   refine(KC.out _ (by(repeat(first | exact Below.refl _ _ | refine bA ?_ _ | refine Below.setCell ?_ (by simp) _)))).mono ?_;rintro e w1 ⟨rfl,rfl⟩
   go_wp2
   go_ret
   exact⟨congrArg (fun z=>Ending.returned (.bool z)) HE.out.symm,(by(repeat(first | exact Below.refl _ _ | refine bA ?_ _ | refine Below.setCell ?_ (by simp) _)))⟩
 ·have m0:(M==0)=false:=beq_eq_false_iff_ne.2 (by omega)
  have m1:(M==1)=false:=beq_eq_false_iff_ne.2 (by omega)
  have m2: ¬1<=M:=by omega
  have m3:M<=6:=by omega
  ·have HE:Hid (dB (FitS ⟨11,0,M,S,T,ks⟩ kd)=false):=dB_false (fun h=>by simp[FitS,<-hq]at h<;>grind)
   clear hq
   go_enter Tryz.func32,Tryz.ntmps32
   go_wp2_with fail
   refine(KC.out _ (by(repeat(first | exact Below.refl _ _ | refine bA ?_ _ | refine Below.setCell ?_ (by simp) _)))).mono ?_;rintro e w1 ⟨rfl,rfl⟩
   go_wp2
   go_ret
   exact⟨congrArg (fun z=>Ending.returned (.bool z)) HE.out.symm,(by(repeat(first | exact Below.refl _ _ | refine bA ?_ _ | refine Below.setCell ?_ (by simp) _)))⟩
 ·have m0:(M==0)=false:=beq_eq_false_iff_ne.2 (by omega)
  have m1:(M==1)=false:=beq_eq_false_iff_ne.2 (by omega)
  have m2:1<=M:=by omega
  have m3: ¬M<=6:=by omega
  ·have HE:Hid (dB (FitS ⟨11,0,M,S,T,ks⟩ kd)=false):=dB_false (fun h=>by simp[FitS,<-hq]at h<;>grind)
   clear hq
   go_enter Tryz.func32,Tryz.ntmps32
   go_wp2_with fail
   refine(KC.out _ (by(repeat(first | exact Below.refl _ _ | refine bA ?_ _ | refine Below.setCell ?_ (by simp) _)))).mono ?_;rintro e w1 ⟨rfl,rfl⟩
   go_wp2
   go_ret
   exact⟨congrArg (fun z=>Ending.returned (.bool z)) HE.out.symm,(by(repeat(first | exact Below.refl _ _ | refine bA ?_ _ | refine Below.setCell ?_ (by simp) _)))⟩
set_option maxHeartbeats 8000000 in
set_option maxRecDepth 100000 in
theorem nodeOk12(N M:Int)(S T:ByteArray)(ks:List Int)(ka:Option Addr)(kl kc:Nat)(kd:List Int)(q:ByteArray)(g cap len i:Nat)(w:World)(_:g<w.heap.size)(_:(i:Int)<(len:Int))(hq:q.toList=kd.map ltr)
  (_:q.size<=1048576) (_:S.size<=1048576) (_:T.size<=1048576)
  (_:w.cell? ⟨g,i*6,none⟩=some (.int .i64 12)) (_:w.cell? ⟨g,i*6+1,none⟩=some (.int .i64 N)) (_:w.cell? ⟨g,i*6+2,none⟩=some (.int .i64 M))
  (_:w.cell? ⟨g,i*6+3,none⟩=some (.string S)) (_:w.cell? ⟨g,i*6+4,none⟩=some (.string T)) (_:w.cell? ⟨g,i*6+5,none⟩=some (.slice ka kl kc))
  (KC:Hid (∀W,Below w.heap.size w W->Calls Tryz.prog 57 #[.slice (some ⟨g,0,none⟩) len cap,.int .i64 (i:Int)] W fun e w'=>e= .returned (.string q)/\w'=W)):
  Calls Tryz.prog 32 #[.slice (some ⟨g,0,none⟩) len cap,.int .i64 (i:Int)] w fun e w'=>e= .returned (.bool (dB (FitS ⟨12,N,M,S,T,ks⟩ kd)))/\Below w.heap.size w w':=by
 cases bS:(S.toList==([]:List UInt8))
 ·have HE:Hid (dB (FitS ⟨12,N,M,S,T,ks⟩ kd)=false):=dB_false (fun h=>by simp[FitS,<-hq]at h<;>grind)
  clear hq
  go_enter Tryz.func32,Tryz.ntmps32
  go_wp2_with fail
  refine(KC.out _ (by(repeat(first | exact Below.refl _ _ | refine bA ?_ _ | refine Below.setCell ?_ (by simp) _)))).mono ?_;rintro e w1 ⟨rfl,rfl⟩
  go_wp2
  go_ret
  exact⟨congrArg (fun z=>Ending.returned (.bool z)) HE.out.symm,(by(repeat(first | exact Below.refl _ _ | refine bA ?_ _ | refine Below.setCell ?_ (by simp) _)))⟩
 cases bT:(T.toList==([]:List UInt8))
 ·have HE:Hid (dB (FitS ⟨12,N,M,S,T,ks⟩ kd)=false):=dB_false (fun h=>by simp[FitS,<-hq]at h<;>grind)
  clear hq
  go_enter Tryz.func32,Tryz.ntmps32
  go_wp2_with fail
  refine(KC.out _ (by(repeat(first | exact Below.refl _ _ | refine bA ?_ _ | refine Below.setCell ?_ (by simp) _)))).mono ?_;rintro e w1 ⟨rfl,rfl⟩
  go_wp2
  go_ret
  exact⟨congrArg (fun z=>Ending.returned (.bool z)) HE.out.symm,(by(repeat(first | exact Below.refl _ _ | refine bA ?_ _ | refine Below.setCell ?_ (by simp) _)))⟩
 rcases(show M=0\/M=1\/(2<=M/\M<=4)\/(5<=M/\M<=6)\/M<0\/6<M from by omega)with rfl | rfl | ⟨hM1,hM2⟩ | ⟨hM1,hM2⟩ | hM1 | hM1
 ·skip
  ·have HE:Hid (dB (FitS ⟨12,N,0,S,T,ks⟩ kd)=false):=dB_false (fun h=>by simp[FitS,<-hq]at h<;>grind)
   clear hq
   go_enter Tryz.func32,Tryz.ntmps32
   go_wp2_with fail
   refine(KC.out _ (by(repeat(first | exact Below.refl _ _ | refine bA ?_ _ | refine Below.setCell ?_ (by simp) _)))).mono ?_;rintro e w1 ⟨rfl,rfl⟩
   go_wp2
   go_ret
   exact⟨congrArg (fun z=>Ending.returned (.bool z)) HE.out.symm,(by(repeat(first | exact Below.refl _ _ | refine bA ?_ _ | refine Below.setCell ?_ (by simp) _)))⟩
 ·skip
  cases n1:(N==1)
  ·cases n2:(N==2)
   ·have HE:Hid (dB (FitS ⟨12,N,1,S,T,ks⟩ kd)=false):=dB_false (fun h=>by simp[FitS,<-hq]at h<;>grind)
    clear hq
    go_enter Tryz.func32,Tryz.ntmps32
    go_wp2_with fail
    refine(KC.out _ (by(repeat(first | exact Below.refl _ _ | refine bA ?_ _ | refine Below.setCell ?_ (by simp) _)))).mono ?_;rintro e w1 ⟨rfl,rfl⟩
    go_wp2
    go_ret
    exact⟨congrArg (fun z=>Ending.returned (.bool z)) HE.out.symm,(by(repeat(first | exact Below.refl _ _ | refine bA ?_ _ | refine Below.setCell ?_ (by simp) _)))⟩
   ·have HE:Hid (dB (FitS ⟨12,N,1,S,T,ks⟩ kd)=(q.toList==([115,113]:List UInt8))):=by show _=_;rw[Bool.eq_iff_iff,dB_iff];simp[FitS,<-hq]<;>grind
    clear hq
    go_enter Tryz.func32,Tryz.ntmps32
    go_wp2_with fail
    refine(KC.out _ (by(repeat(first | exact Below.refl _ _ | refine bA ?_ _ | refine Below.setCell ?_ (by simp) _)))).mono ?_;rintro e w1 ⟨rfl,rfl⟩
    go_wp2
    go_ret
    exact⟨congrArg (fun z=>Ending.returned (.bool z)) HE.out.symm,(by(repeat(first | exact Below.refl _ _ | refine bA ?_ _ | refine Below.setCell ?_ (by simp) _)))⟩
  ·have HE:Hid (dB (FitS ⟨12,N,1,S,T,ks⟩ kd)=(q.toList==([115,113]:List UInt8))):=by show _=_;rw[Bool.eq_iff_iff,dB_iff];simp[FitS,<-hq]<;>grind
   clear hq
   go_enter Tryz.func32,Tryz.ntmps32
   go_wp2_with fail
   refine(KC.out _ (by(repeat(first | exact Below.refl _ _ | refine bA ?_ _ | refine Below.setCell ?_ (by simp) _)))).mono ?_;rintro e w1 ⟨rfl,rfl⟩
   go_wp2
   go_ret
   exact⟨congrArg (fun z=>Ending.returned (.bool z)) HE.out.symm,(by(repeat(first | exact Below.refl _ _ | refine bA ?_ _ | refine Below.setCell ?_ (by simp) _)))⟩
 ·have m0:(M==0)=false:=beq_eq_false_iff_ne.2 (by omega)
  have m1:(M==1)=false:=beq_eq_false_iff_ne.2 (by omega)
  have m2:1<=M:=by omega
  have m3:M<=6:=by omega
  cases n1:(N==1)
  ·cases n2:(N==2)
   ·have HE:Hid (dB (FitS ⟨12,N,M,S,T,ks⟩ kd)=false):=dB_false (fun h=>by simp[FitS,<-hq]at h<;>grind)
    clear hq
    go_enter Tryz.func32,Tryz.ntmps32
    go_wp2_with fail
    refine(KC.out _ (by(repeat(first | exact Below.refl _ _ | refine bA ?_ _ | refine Below.setCell ?_ (by simp) _)))).mono ?_;rintro e w1 ⟨rfl,rfl⟩
    go_wp2
    go_ret
    exact⟨congrArg (fun z=>Ending.returned (.bool z)) HE.out.symm,(by(repeat(first | exact Below.refl _ _ | refine bA ?_ _ | refine Below.setCell ?_ (by simp) _)))⟩
   ·have HE:Hid (dB (FitS ⟨12,N,M,S,T,ks⟩ kd)=(q.toList==([115,113]:List UInt8))):=by show _=_;rw[Bool.eq_iff_iff,dB_iff];simp[FitS,<-hq]<;>grind
    clear hq
    go_enter Tryz.func32,Tryz.ntmps32
    go_wp2_with fail
    refine(KC.out _ (by(repeat(first | exact Below.refl _ _ | refine bA ?_ _ | refine Below.setCell ?_ (by simp) _)))).mono ?_;rintro e w1 ⟨rfl,rfl⟩
    go_wp2
    go_ret
    exact⟨congrArg (fun z=>Ending.returned (.bool z)) HE.out.symm,(by(repeat(first | exact Below.refl _ _ | refine bA ?_ _ | refine Below.setCell ?_ (by simp) _)))⟩
  ·have HE:Hid (dB (FitS ⟨12,N,M,S,T,ks⟩ kd)=(q.toList==([115,113]:List UInt8))):=by show _=_;rw[Bool.eq_iff_iff,dB_iff];simp[FitS,<-hq]<;>grind
   clear hq
   go_enter Tryz.func32,Tryz.ntmps32
   go_wp2_with fail
   refine(KC.out _ (by(repeat(first | exact Below.refl _ _ | refine bA ?_ _ | refine Below.setCell ?_ (by simp) _)))).mono ?_;rintro e w1 ⟨rfl,rfl⟩
   go_wp2
   go_ret
   exact⟨congrArg (fun z=>Ending.returned (.bool z)) HE.out.symm,(by(repeat(first | exact Below.refl _ _ | refine bA ?_ _ | refine Below.setCell ?_ (by simp) _)))⟩
 ·have m0:(M==0)=false:=beq_eq_false_iff_ne.2 (by omega)
  have m1:(M==1)=false:=beq_eq_false_iff_ne.2 (by omega)
  have m2:1<=M:=by omega
  have m3:M<=6:=by omega
  cases n1:(N==1)
  ·cases n2:(N==2)
   ·have HE:Hid (dB (FitS ⟨12,N,M,S,T,ks⟩ kd)=false):=dB_false (fun h=>by simp[FitS,<-hq]at h<;>grind)
    clear hq
    go_enter Tryz.func32,Tryz.ntmps32
    go_wp2_with fail
    refine(KC.out _ (by(repeat(first | exact Below.refl _ _ | refine bA ?_ _ | refine Below.setCell ?_ (by simp) _)))).mono ?_;rintro e w1 ⟨rfl,rfl⟩
    go_wp2
    go_ret
    exact⟨congrArg (fun z=>Ending.returned (.bool z)) HE.out.symm,(by(repeat(first | exact Below.refl _ _ | refine bA ?_ _ | refine Below.setCell ?_ (by simp) _)))⟩
   ·have HE:Hid (dB (FitS ⟨12,N,M,S,T,ks⟩ kd)=(q.toList==([115,113]:List UInt8))):=by show _=_;rw[Bool.eq_iff_iff,dB_iff];simp[FitS,<-hq]<;>grind
    clear hq
    go_enter Tryz.func32,Tryz.ntmps32
    go_wp2_with fail
    refine(KC.out _ (by(repeat(first | exact Below.refl _ _ | refine bA ?_ _ | refine Below.setCell ?_ (by simp) _)))).mono ?_;rintro e w1 ⟨rfl,rfl⟩
    go_wp2
    go_ret
    exact⟨congrArg (fun z=>Ending.returned (.bool z)) HE.out.symm,(by(repeat(first | exact Below.refl _ _ | refine bA ?_ _ | refine Below.setCell ?_ (by simp) _)))⟩
  ·have HE:Hid (dB (FitS ⟨12,N,M,S,T,ks⟩ kd)=(q.toList==([115,113]:List UInt8))):=by show _=_;rw[Bool.eq_iff_iff,dB_iff];simp[FitS,<-hq]<;>grind
   clear hq
   go_enter Tryz.func32,Tryz.ntmps32
   go_wp2_with fail
   refine(KC.out _ (by(repeat(first | exact Below.refl _ _ | refine bA ?_ _ | refine Below.setCell ?_ (by simp) _)))).mono ?_;rintro e w1 ⟨rfl,rfl⟩
   go_wp2
   go_ret
   exact⟨congrArg (fun z=>Ending.returned (.bool z)) HE.out.symm,(by(repeat(first | exact Below.refl _ _ | refine bA ?_ _ | refine Below.setCell ?_ (by simp) _)))⟩
 ·have m0:(M==0)=false:=beq_eq_false_iff_ne.2 (by omega)
  have m1:(M==1)=false:=beq_eq_false_iff_ne.2 (by omega)
  have m2: ¬1<=M:=by omega
  have m3:M<=6:=by omega
  ·have HE:Hid (dB (FitS ⟨12,N,M,S,T,ks⟩ kd)=false):=dB_false (fun h=>by simp[FitS,<-hq]at h<;>grind)
   clear hq
   go_enter Tryz.func32,Tryz.ntmps32
   go_wp2_with fail
   refine(KC.out _ (by(repeat(first | exact Below.refl _ _ | refine bA ?_ _ | refine Below.setCell ?_ (by simp) _)))).mono ?_;rintro e w1 ⟨rfl,rfl⟩
   go_wp2
   go_ret
   exact⟨congrArg (fun z=>Ending.returned (.bool z)) HE.out.symm,(by(repeat(first | exact Below.refl _ _ | refine bA ?_ _ | refine Below.setCell ?_ (by simp) _)))⟩
 ·have m0:(M==0)=false:=beq_eq_false_iff_ne.2 (by omega)
  have m1:(M==1)=false:=beq_eq_false_iff_ne.2 (by omega)
  have m2:1<=M:=by omega
  have m3: ¬M<=6:=by omega
  ·have HE:Hid (dB (FitS ⟨12,N,M,S,T,ks⟩ kd)=false):=dB_false (fun h=>by simp[FitS,<-hq]at h<;>grind)
   clear hq
   go_enter Tryz.func32,Tryz.ntmps32
   go_wp2_with fail
   refine(KC.out _ (by(repeat(first | exact Below.refl _ _ | refine bA ?_ _ | refine Below.setCell ?_ (by simp) _)))).mono ?_;rintro e w1 ⟨rfl,rfl⟩
   go_wp2
   go_ret
   exact⟨congrArg (fun z=>Ending.returned (.bool z)) HE.out.symm,(by(repeat(first | exact Below.refl _ _ | refine bA ?_ _ | refine Below.setCell ?_ (by simp) _)))⟩
set_option maxHeartbeats 8000000 in
set_option maxRecDepth 100000 in
theorem nodeOk14(N M:Int)(S T:ByteArray)(ks:List Int)(ka:Option Addr)(kl kc:Nat)(kd:List Int)(q:ByteArray)(g cap len i:Nat)(w:World)(_:g<w.heap.size)(_:(i:Int)<(len:Int))(hq:q.toList=kd.map ltr)
  (hqs:q.size<=1048576) (_:S.size<=1048576) (_:T.size<=1048576)
  (_:w.cell? ⟨g,i*6,none⟩=some (.int .i64 14)) (_:w.cell? ⟨g,i*6+1,none⟩=some (.int .i64 N)) (_:w.cell? ⟨g,i*6+2,none⟩=some (.int .i64 M))
  (_:w.cell? ⟨g,i*6+3,none⟩=some (.string S)) (_:w.cell? ⟨g,i*6+4,none⟩=some (.string T)) (_:w.cell? ⟨g,i*6+5,none⟩=some (.slice ka kl kc))
  (KC:Hid (∀W,Below w.heap.size w W->Calls Tryz.prog 57 #[.slice (some ⟨g,0,none⟩) len cap,.int .i64 (i:Int)] W fun e w'=>e= .returned (.string q)/\w'=W)):
  Calls Tryz.prog 32 #[.slice (some ⟨g,0,none⟩) len cap,.int .i64 (i:Int)] w fun e w'=>e= .returned (.bool (dB (FitS ⟨14,N,M,S,T,ks⟩ kd)))/\Below w.heap.size w w':=by
 cases bS:(S.toList==([]:List UInt8))
 ·have HE:Hid (dB (FitS ⟨14,N,M,S,T,ks⟩ kd)=false):=dB_false (fun h=>by simp[FitS,<-hq]at h<;>grind)
  clear hq
  go_enter Tryz.func32,Tryz.ntmps32
  go_wp2_with fail
  refine(KC.out _ (by(repeat(first | exact Below.refl _ _ | refine bA ?_ _ | refine Below.setCell ?_ (by simp) _)))).mono ?_;rintro e w1 ⟨rfl,rfl⟩
  go_wp2
  go_ret
  exact⟨congrArg (fun z=>Ending.returned (.bool z)) HE.out.symm,(by(repeat(first | exact Below.refl _ _ | refine bA ?_ _ | refine Below.setCell ?_ (by simp) _)))⟩
 cases bT:(T.toList==([]:List UInt8))
 ·have HE:Hid (dB (FitS ⟨14,N,M,S,T,ks⟩ kd)=false):=dB_false (fun h=>by simp[FitS,<-hq]at h<;>grind)
  clear hq
  go_enter Tryz.func32,Tryz.ntmps32
  go_wp2_with fail
  refine(KC.out _ (by(repeat(first | exact Below.refl _ _ | refine bA ?_ _ | refine Below.setCell ?_ (by simp) _)))).mono ?_;rintro e w1 ⟨rfl,rfl⟩
  go_wp2
  go_ret
  exact⟨congrArg (fun z=>Ending.returned (.bool z)) HE.out.symm,(by(repeat(first | exact Below.refl _ _ | refine bA ?_ _ | refine Below.setCell ?_ (by simp) _)))⟩
 cases bN:(N==0)
 ·have HE:Hid (dB (FitS ⟨14,N,M,S,T,ks⟩ kd)=false):=dB_false (fun h=>by simp[FitS,<-hq]at h<;>grind)
  clear hq
  go_enter Tryz.func32,Tryz.ntmps32
  go_wp2_with fail
  refine(KC.out _ (by(repeat(first | exact Below.refl _ _ | refine bA ?_ _ | refine Below.setCell ?_ (by simp) _)))).mono ?_;rintro e w1 ⟨rfl,rfl⟩
  go_wp2
  go_ret
  exact⟨congrArg (fun z=>Ending.returned (.bool z)) HE.out.symm,(by(repeat(first | exact Below.refl _ _ | refine bA ?_ _ | refine Below.setCell ?_ (by simp) _)))⟩
 obtain rfl:N=0:=by simpa using bN
 cases bM:(M==0)
 ·have HE:Hid (dB (FitS ⟨14,0,M,S,T,ks⟩ kd)=false):=dB_false (fun h=>by simp[FitS,<-hq]at h<;>grind)
  clear hq
  go_enter Tryz.func32,Tryz.ntmps32
  go_wp2_with fail
  refine(KC.out _ (by(repeat(first | exact Below.refl _ _ | refine bA ?_ _ | refine Below.setCell ?_ (by simp) _)))).mono ?_;rintro e w1 ⟨rfl,rfl⟩
  go_wp2
  go_ret
  exact⟨congrArg (fun z=>Ending.returned (.bool z)) HE.out.symm,(by(repeat(first | exact Below.refl _ _ | refine bA ?_ _ | refine Below.setCell ?_ (by simp) _)))⟩
 obtain rfl:M=0:=by simpa using bM
 have OC:=fun w=>only_calls q 99 2 w hqs
 have ho:=only_iff q 99 2
 have hOd:dB (onlyB q 99 2)=true↔onlyB q 99 2:=dB_iff
 have ho':onlyB q 99 2↔only q.toList 99 2:=ho
 clear ho
 generalize dB (onlyB q 99 2)=d at*
 have HOC:=hide OC
 clear OC
 ·have HE:Hid (dB (FitS ⟨14,0,0,S,T,ks⟩ kd)=d):=by show _=_;rw[Bool.eq_iff_iff,dB_iff];simp[FitS,<-hq]<;>grind
  clear hq hOd ho'
  go_enter Tryz.func32,Tryz.ntmps32
  go_wp2_with fail
  refine(KC.out _ (by(repeat(first | exact Below.refl _ _ | refine bA ?_ _ | refine Below.setCell ?_ (by simp) _)))).mono ?_;rintro e w1 ⟨rfl,rfl⟩
  go_wp2_with fail
  refine(unhide HOC _).mono ?_;rintro e w1 ⟨rfl,rfl⟩
  go_wp2
  go_ret
  exact⟨congrArg (fun z=>Ending.returned (.bool z)) HE.out.symm,(by(repeat(first | exact Below.refl _ _ | refine bA ?_ _ | refine Below.setCell ?_ (by simp) _)))⟩
set_option maxHeartbeats 8000000 in
set_option maxRecDepth 100000 in
theorem nodeOk15(N M:Int)(S T:ByteArray)(ks:List Int)(ka:Option Addr)(kl kc:Nat)(kd:List Int)(q:ByteArray)(g cap len i:Nat)(w:World)(_:g<w.heap.size)(_:(i:Int)<(len:Int))(hq:q.toList=kd.map ltr)
  (hqs:q.size<=1048576) (_:S.size<=1048576) (_:T.size<=1048576)
  (_:w.cell? ⟨g,i*6,none⟩=some (.int .i64 15)) (_:w.cell? ⟨g,i*6+1,none⟩=some (.int .i64 N)) (_:w.cell? ⟨g,i*6+2,none⟩=some (.int .i64 M))
  (_:w.cell? ⟨g,i*6+3,none⟩=some (.string S)) (_:w.cell? ⟨g,i*6+4,none⟩=some (.string T)) (_:w.cell? ⟨g,i*6+5,none⟩=some (.slice ka kl kc))
  (KC:Hid (∀W,Below w.heap.size w W->Calls Tryz.prog 57 #[.slice (some ⟨g,0,none⟩) len cap,.int .i64 (i:Int)] W fun e w'=>e= .returned (.string q)/\w'=W)):
  Calls Tryz.prog 32 #[.slice (some ⟨g,0,none⟩) len cap,.int .i64 (i:Int)] w fun e w'=>e= .returned (.bool (dB (FitS ⟨15,N,M,S,T,ks⟩ kd)))/\Below w.heap.size w w':=by
 cases bS:(S.toList==([]:List UInt8))
 ·have HE:Hid (dB (FitS ⟨15,N,M,S,T,ks⟩ kd)=false):=dB_false (fun h=>by simp[FitS,<-hq]at h<;>grind)
  clear hq
  go_enter Tryz.func32,Tryz.ntmps32
  go_wp2_with fail
  refine(KC.out _ (by(repeat(first | exact Below.refl _ _ | refine bA ?_ _ | refine Below.setCell ?_ (by simp) _)))).mono ?_;rintro e w1 ⟨rfl,rfl⟩
  go_wp2
  go_ret
  exact⟨congrArg (fun z=>Ending.returned (.bool z)) HE.out.symm,(by(repeat(first | exact Below.refl _ _ | refine bA ?_ _ | refine Below.setCell ?_ (by simp) _)))⟩
 cases bT:(T.toList==([]:List UInt8))
 ·have HE:Hid (dB (FitS ⟨15,N,M,S,T,ks⟩ kd)=false):=dB_false (fun h=>by simp[FitS,<-hq]at h<;>grind)
  clear hq
  go_enter Tryz.func32,Tryz.ntmps32
  go_wp2_with fail
  refine(KC.out _ (by(repeat(first | exact Below.refl _ _ | refine bA ?_ _ | refine Below.setCell ?_ (by simp) _)))).mono ?_;rintro e w1 ⟨rfl,rfl⟩
  go_wp2
  go_ret
  exact⟨congrArg (fun z=>Ending.returned (.bool z)) HE.out.symm,(by(repeat(first | exact Below.refl _ _ | refine bA ?_ _ | refine Below.setCell ?_ (by simp) _)))⟩
 cases bN:(N==0)
 ·have HE:Hid (dB (FitS ⟨15,N,M,S,T,ks⟩ kd)=false):=dB_false (fun h=>by simp[FitS,<-hq]at h<;>grind)
  clear hq
  go_enter Tryz.func32,Tryz.ntmps32
  go_wp2_with fail
  refine(KC.out _ (by(repeat(first | exact Below.refl _ _ | refine bA ?_ _ | refine Below.setCell ?_ (by simp) _)))).mono ?_;rintro e w1 ⟨rfl,rfl⟩
  go_wp2
  go_ret
  exact⟨congrArg (fun z=>Ending.returned (.bool z)) HE.out.symm,(by(repeat(first | exact Below.refl _ _ | refine bA ?_ _ | refine Below.setCell ?_ (by simp) _)))⟩
 obtain rfl:N=0:=by simpa using bN
 cases bM:(M==0)
 ·have HE:Hid (dB (FitS ⟨15,0,M,S,T,ks⟩ kd)=false):=dB_false (fun h=>by simp[FitS,<-hq]at h<;>grind)
  clear hq
  go_enter Tryz.func32,Tryz.ntmps32
  go_wp2_with fail
  refine(KC.out _ (by(repeat(first | exact Below.refl _ _ | refine bA ?_ _ | refine Below.setCell ?_ (by simp) _)))).mono ?_;rintro e w1 ⟨rfl,rfl⟩
  go_wp2
  go_ret
  exact⟨congrArg (fun z=>Ending.returned (.bool z)) HE.out.symm,(by(repeat(first | exact Below.refl _ _ | refine bA ?_ _ | refine Below.setCell ?_ (by simp) _)))⟩
 obtain rfl:M=0:=by simpa using bM
 have OC:=fun w=>only_calls q 99 2 w hqs
 have ho:=only_iff q 99 2
 have hOd:dB (onlyB q 99 2)=true↔onlyB q 99 2:=dB_iff
 have ho':onlyB q 99 2↔only q.toList 99 2:=ho
 clear ho
 generalize dB (onlyB q 99 2)=d at*
 have HOC:=hide OC
 clear OC
 ·have HE:Hid (dB (FitS ⟨15,0,0,S,T,ks⟩ kd)=d):=by show _=_;rw[Bool.eq_iff_iff,dB_iff];simp[FitS,<-hq]<;>grind
  clear hq hOd ho'
  go_enter Tryz.func32,Tryz.ntmps32
  go_wp2_with fail
  refine(KC.out _ (by(repeat(first | exact Below.refl _ _ | refine bA ?_ _ | refine Below.setCell ?_ (by simp) _)))).mono ?_;rintro e w1 ⟨rfl,rfl⟩
  go_wp2_with fail
  refine(unhide HOC _).mono ?_;rintro e w1 ⟨rfl,rfl⟩
  go_wp2
  go_ret
  exact⟨congrArg (fun z=>Ending.returned (.bool z)) HE.out.symm,(by(repeat(first | exact Below.refl _ _ | refine bA ?_ _ | refine Below.setCell ?_ (by simp) _)))⟩
end Go.Proofs.YtmggnimiioepeaaGreatDoor.AX
namespace Go.Proofs.YtmggnimiioepeaaGreatDoor.AX
open Go Go.RowKit
set_option maxHeartbeats 8000000 in
set_option maxRecDepth 100000 in
theorem nodeOkX(K N M:Int)(S T:ByteArray)(ks:List Int)(ka:Option Addr)(kl kc:Nat)(kd:List Int)(q:ByteArray)(g cap len i:Nat)(w:World)(_:g<w.heap.size)(_:(i:Int)<(len:Int))(hq:q.toList=kd.map ltr)
  (_:q.size<=1048576) (_:S.size<=1048576) (_:T.size<=1048576)
  (_:w.cell? ⟨g,i*6,none⟩=some (.int .i64 K)) (_:w.cell? ⟨g,i*6+1,none⟩=some (.int .i64 N)) (_:w.cell? ⟨g,i*6+2,none⟩=some (.int .i64 M))
  (_:w.cell? ⟨g,i*6+3,none⟩=some (.string S)) (_:w.cell? ⟨g,i*6+4,none⟩=some (.string T)) (_:w.cell? ⟨g,i*6+5,none⟩=some (.slice ka kl kc))
  (KC:Hid (∀W,Below w.heap.size w W->Calls Tryz.prog 57 #[.slice (some ⟨g,0,none⟩) len cap,.int .i64 (i:Int)] W fun e w'=>e= .returned (.string q)/\w'=W)) (hK:K<1\/15<K):
  Calls Tryz.prog 32 #[.slice (some ⟨g,0,none⟩) len cap,.int .i64 (i:Int)] w fun e w'=>e= .returned (.bool (dB (FitS ⟨K,N,M,S,T,ks⟩ kd)))/\Below w.heap.size w w':=by
 have k1:(K==1)=false:=beq_eq_false_iff_ne.2 (by omega)
 have k2:(K==2)=false:=beq_eq_false_iff_ne.2 (by omega)
 have k3:(K==3)=false:=beq_eq_false_iff_ne.2 (by omega)
 have k4:(K==4)=false:=beq_eq_false_iff_ne.2 (by omega)
 have k5:(K==5)=false:=beq_eq_false_iff_ne.2 (by omega)
 have k6:(K==6)=false:=beq_eq_false_iff_ne.2 (by omega)
 have k7:(K==7)=false:=beq_eq_false_iff_ne.2 (by omega)
 have k8:(K==8)=false:=beq_eq_false_iff_ne.2 (by omega)
 have k9:(K==9)=false:=beq_eq_false_iff_ne.2 (by omega)
 have k10:(K==10)=false:=beq_eq_false_iff_ne.2 (by omega)
 have k11:(K==11)=false:=beq_eq_false_iff_ne.2 (by omega)
 have k12:(K==12)=false:=beq_eq_false_iff_ne.2 (by omega)
 have k13:(K==13)=false:=beq_eq_false_iff_ne.2 (by omega)
 have k14:(K==14)=false:=beq_eq_false_iff_ne.2 (by omega)
 have k15:(K==15)=false:=beq_eq_false_iff_ne.2 (by omega)
 cases bS:(S.toList==([]:List UInt8))
 ·have HE:Hid (dB (FitS ⟨K,N,M,S,T,ks⟩ kd)=false):=dB_false (fun h=>by simp[FitS,<-hq]at h<;>grind)
  clear hq
  go_enter Tryz.func32,Tryz.ntmps32
  go_wp2_with fail
  refine(KC.out _ (by(repeat(first | exact Below.refl _ _ | refine bA ?_ _ | refine Below.setCell ?_ (by simp) _)))).mono ?_;rintro e w1 ⟨rfl,rfl⟩
  go_wp2
  go_ret
  exact⟨congrArg (fun z=>Ending.returned (.bool z)) HE.out.symm,(by(repeat(first | exact Below.refl _ _ | refine bA ?_ _ | refine Below.setCell ?_ (by simp) _)))⟩
 cases bT:(T.toList==([]:List UInt8))
 ·have HE:Hid (dB (FitS ⟨K,N,M,S,T,ks⟩ kd)=false):=dB_false (fun h=>by simp[FitS,<-hq]at h<;>grind)
  clear hq
  go_enter Tryz.func32,Tryz.ntmps32
  go_wp2_with fail
  refine(KC.out _ (by(repeat(first | exact Below.refl _ _ | refine bA ?_ _ | refine Below.setCell ?_ (by simp) _)))).mono ?_;rintro e w1 ⟨rfl,rfl⟩
  go_wp2
  go_ret
  exact⟨congrArg (fun z=>Ending.returned (.bool z)) HE.out.symm,(by(repeat(first | exact Below.refl _ _ | refine bA ?_ _ | refine Below.setCell ?_ (by simp) _)))⟩
 cases bN:(N==0)
 ·have HE:Hid (dB (FitS ⟨K,N,M,S,T,ks⟩ kd)=false):=dB_false (fun h=>by simp[FitS,<-hq]at h<;>grind)
  clear hq
  go_enter Tryz.func32,Tryz.ntmps32
  go_wp2_with fail
  refine(KC.out _ (by(repeat(first | exact Below.refl _ _ | refine bA ?_ _ | refine Below.setCell ?_ (by simp) _)))).mono ?_;rintro e w1 ⟨rfl,rfl⟩
  go_wp2
  go_ret
  exact⟨congrArg (fun z=>Ending.returned (.bool z)) HE.out.symm,(by(repeat(first | exact Below.refl _ _ | refine bA ?_ _ | refine Below.setCell ?_ (by simp) _)))⟩
 obtain rfl:N=0:=by simpa using bN
 cases bM:(M==0)
 ·have HE:Hid (dB (FitS ⟨K,0,M,S,T,ks⟩ kd)=false):=dB_false (fun h=>by simp[FitS,<-hq]at h<;>grind)
  clear hq
  go_enter Tryz.func32,Tryz.ntmps32
  go_wp2_with fail
  refine(KC.out _ (by(repeat(first | exact Below.refl _ _ | refine bA ?_ _ | refine Below.setCell ?_ (by simp) _)))).mono ?_;rintro e w1 ⟨rfl,rfl⟩
  go_wp2
  go_ret
  exact⟨congrArg (fun z=>Ending.returned (.bool z)) HE.out.symm,(by(repeat(first | exact Below.refl _ _ | refine bA ?_ _ | refine Below.setCell ?_ (by simp) _)))⟩
 obtain rfl:M=0:=by simpa using bM
 ·have HE:Hid (dB (FitS ⟨K,0,0,S,T,ks⟩ kd)=false):=dB_false (fun h=>by simp[FitS,<-hq]at h<;>grind)
  clear hq
  go_enter Tryz.func32,Tryz.ntmps32
  go_wp2_with fail
  refine(KC.out _ (by(repeat(first | exact Below.refl _ _ | refine bA ?_ _ | refine Below.setCell ?_ (by simp) _)))).mono ?_;rintro e w1 ⟨rfl,rfl⟩
  go_wp2
  go_ret
  exact⟨congrArg (fun z=>Ending.returned (.bool z)) HE.out.symm,(by(repeat(first | exact Below.refl _ _ | refine bA ?_ _ | refine Below.setCell ?_ (by simp) _)))⟩
end Go.Proofs.YtmggnimiioepeaaGreatDoor.AX
