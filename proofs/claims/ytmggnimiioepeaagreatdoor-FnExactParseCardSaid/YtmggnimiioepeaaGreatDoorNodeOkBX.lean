import Derived.Test.YtmggnimiioepeaaGreatDoorQ0
import Derived.Test.YtmggnimiioepeaaGreatDoorQ2
import Derived.Test.YtmggnimiioepeaaGreatDoorQ16
import Derived.Test.YtmggnimiioepeaaGreatDoorQ44
namespace Go.Proofs.YtmggnimiioepeaaGreatDoor.AX
open Go Go.RowKit
set_option maxHeartbeats 8000000 in
set_option maxRecDepth 100000 in
theorem nodeOk5(N M:Int)(S T:ByteArray)(ks:List Int)(ka:Option Addr)(kl kc:Nat)(kd:List Int)(q:ByteArray)(g cap len i:Nat)(w:World)(_:g<w.heap.size)(_:(i:Int)<(len:Int))(hq:q.toList=kd.map ltr)
  (_:q.size<=1048576) (hSs:S.size<=1048576) (hTs:T.size<=1048576)
  (_:w.cell? ⟨g,i*6,none⟩=some (.int .i64 5)) (_:w.cell? ⟨g,i*6+1,none⟩=some (.int .i64 N)) (_:w.cell? ⟨g,i*6+2,none⟩=some (.int .i64 M))
  (_:w.cell? ⟨g,i*6+3,none⟩=some (.string S)) (_:w.cell? ⟨g,i*6+4,none⟩=some (.string T)) (_:w.cell? ⟨g,i*6+5,none⟩=some (.slice ka kl kc))
  (KC:Hid (∀W,Below w.heap.size w W->Calls Tryz.prog 57 #[.slice (some ⟨g,0,none⟩) len cap,.int .i64 (i:Int)] W fun e w'=>e= .returned (.string q)/\w'=W)):
  Calls Tryz.prog 32 #[.slice (some ⟨g,0,none⟩) len cap,.int .i64 (i:Int)] w fun e w'=>e= .returned (.bool (dB (FitS ⟨5,N,M,S,T,ks⟩ kd)))/\Below w.heap.size w w':=by
 cases bS:(S.toList==([]:List UInt8))
 rotate_left
 ·have HE:Hid (dB (FitS ⟨5,N,M,S,T,ks⟩ kd)=false):=dB_false (fun h=>by simp[FitS,<-hq]at h<;>grind)
  clear hq
  go_enter Tryz.func32,Tryz.ntmps32
  go_wp2_with fail
  refine(KC.out _ (by(repeat(first | exact Below.refl _ _ | refine bA ?_ _ | refine Below.setCell ?_ (by simp) _)))).mono ?_;rintro e w1 ⟨rfl,rfl⟩
  go_wp2
  go_ret
  exact⟨congrArg (fun z=>Ending.returned (.bool z)) HE.out.symm,(by(repeat(first | exact Below.refl _ _ | refine bA ?_ _ | refine Below.setCell ?_ (by simp) _)))⟩
 cases bT:(T.toList==([]:List UInt8))
 rotate_left
 ·have HE:Hid (dB (FitS ⟨5,N,M,S,T,ks⟩ kd)=false):=dB_false (fun h=>by simp[FitS,<-hq]at h<;>grind)
  clear hq
  go_enter Tryz.func32,Tryz.ntmps32
  go_wp2_with fail
  refine(KC.out _ (by(repeat(first | exact Below.refl _ _ | refine bA ?_ _ | refine Below.setCell ?_ (by simp) _)))).mono ?_;rintro e w1 ⟨rfl,rfl⟩
  go_wp2
  go_ret
  exact⟨congrArg (fun z=>Ending.returned (.bool z)) HE.out.symm,(by(repeat(first | exact Below.refl _ _ | refine bA ?_ _ | refine Below.setCell ?_ (by simp) _)))⟩
 cases bN:(N==0)
 ·have HE:Hid (dB (FitS ⟨5,N,M,S,T,ks⟩ kd)=false):=dB_false (fun h=>by simp[FitS,<-hq]at h<;>grind)
  clear hq
  go_enter Tryz.func32,Tryz.ntmps32
  go_wp2_with fail
  refine(KC.out _ (by(repeat(first | exact Below.refl _ _ | refine bA ?_ _ | refine Below.setCell ?_ (by simp) _)))).mono ?_;rintro e w1 ⟨rfl,rfl⟩
  go_wp2
  go_ret
  exact⟨congrArg (fun z=>Ending.returned (.bool z)) HE.out.symm,(by(repeat(first | exact Below.refl _ _ | refine bA ?_ _ | refine Below.setCell ?_ (by simp) _)))⟩
 obtain rfl:N=0:=by simpa using bN
 cases bM:(M==0)
 ·have HE:Hid (dB (FitS ⟨5,0,M,S,T,ks⟩ kd)=false):=dB_false (fun h=>by simp[FitS,<-hq]at h<;>grind)
  clear hq
  go_enter Tryz.func32,Tryz.ntmps32
  go_wp2_with fail
  refine(KC.out _ (by(repeat(first | exact Below.refl _ _ | refine bA ?_ _ | refine Below.setCell ?_ (by simp) _)))).mono ?_;rintro e w1 ⟨rfl,rfl⟩
  go_wp2
  go_ret
  exact⟨congrArg (fun z=>Ending.returned (.bool z)) HE.out.symm,(by(repeat(first | exact Below.refl _ _ | refine bA ?_ _ | refine Below.setCell ?_ (by simp) _)))⟩
 obtain rfl:M=0:=by simpa using bM
 cases bq:(q.toList==([]:List UInt8))
 ·have HE:Hid (dB (FitS ⟨5,0,0,S,T,ks⟩ kd)=false):=dB_false (fun h=>by simp[FitS,<-hq]at h<;>grind)
  clear hq
  go_enter Tryz.func32,Tryz.ntmps32
  go_wp2_with fail
  refine(KC.out _ (by(repeat(first | exact Below.refl _ _ | refine bA ?_ _ | refine Below.setCell ?_ (by simp) _)))).mono ?_;rintro e w1 ⟨rfl,rfl⟩
  go_wp2
  go_ret
  exact⟨congrArg (fun z=>Ending.returned (.bool z)) HE.out.symm,(by(repeat(first | exact Below.refl _ _ | refine bA ?_ _ | refine Below.setCell ?_ (by simp) _)))⟩
 have NC:=fun w=>sIsName_calls S w hSs
 have hNd:dB (NameB S)=true↔NameB S:=dB_iff
 generalize dB (NameB S)=d at*
 have HNC:=hide NC
 clear NC
 have NC':=fun w=>sIsName_calls T w hTs
 have hNd':dB (NameB T)=true↔NameB T:=dB_iff
 generalize dB (NameB T)=d' at*
 have HNC':=hide NC'
 clear NC'
 cases d
 ·have HE:Hid (dB (FitS ⟨5,0,0,S,T,ks⟩ kd)=false):=dB_false (fun h=>by simp[FitS,<-hq]at h<;>grind)
  clear hq hNd hNd'
  go_enter Tryz.func32,Tryz.ntmps32
  go_wp2_with fail
  refine(KC.out _ (by(repeat(first | exact Below.refl _ _ | refine bA ?_ _ | refine Below.setCell ?_ (by simp) _)))).mono ?_;rintro e w1 ⟨rfl,rfl⟩
  go_wp2_with fail
  refine(unhide HNC _).mono ?_;rintro e w1 ⟨rfl,rfl⟩
  go_wp2
  go_ret
  exact⟨congrArg (fun z=>Ending.returned (.bool z)) HE.out.symm,(by(repeat(first | exact Below.refl _ _ | refine bA ?_ _ | refine Below.setCell ?_ (by simp) _)))⟩
 ·have HE:Hid (dB (FitS ⟨5,0,0,S,T,ks⟩ kd)=d'):=by show _=_;rw[Bool.eq_iff_iff,dB_iff];simp[FitS,<-hq]<;>grind
  clear hq hNd hNd'
  go_enter Tryz.func32,Tryz.ntmps32
  go_wp2_with fail
  refine(KC.out _ (by(repeat(first | exact Below.refl _ _ | refine bA ?_ _ | refine Below.setCell ?_ (by simp) _)))).mono ?_;rintro e w1 ⟨rfl,rfl⟩
  go_wp2_with fail
  refine(unhide HNC _).mono ?_;rintro e w1 ⟨rfl,rfl⟩
  go_wp2_with fail
  refine(unhide HNC' _).mono ?_;rintro e w1 ⟨rfl,rfl⟩
  go_wp2
  go_ret
  exact⟨congrArg (fun z=>Ending.returned (.bool z)) HE.out.symm,(by(repeat(first | exact Below.refl _ _ | refine bA ?_ _ | refine Below.setCell ?_ (by simp) _)))⟩
set_option maxHeartbeats 8000000 in
set_option maxRecDepth 100000 in
theorem nodeOk8(N M:Int)(S T:ByteArray)(ks:List Int)(ka:Option Addr)(kl kc:Nat)(kd:List Int)(q:ByteArray)(g cap len i:Nat)(w:World)(_:g<w.heap.size)(_:(i:Int)<(len:Int))(hq:q.toList=kd.map ltr)
  (_:q.size<=1048576) (_:S.size<=1048576) (_:T.size<=1048576)
  (_:w.cell? ⟨g,i*6,none⟩=some (.int .i64 8)) (_:w.cell? ⟨g,i*6+1,none⟩=some (.int .i64 N)) (_:w.cell? ⟨g,i*6+2,none⟩=some (.int .i64 M))
  (_:w.cell? ⟨g,i*6+3,none⟩=some (.string S)) (_:w.cell? ⟨g,i*6+4,none⟩=some (.string T)) (_:w.cell? ⟨g,i*6+5,none⟩=some (.slice ka kl kc))
  (KC:Hid (∀W,Below w.heap.size w W->Calls Tryz.prog 57 #[.slice (some ⟨g,0,none⟩) len cap,.int .i64 (i:Int)] W fun e w'=>e= .returned (.string q)/\w'=W)):
  Calls Tryz.prog 32 #[.slice (some ⟨g,0,none⟩) len cap,.int .i64 (i:Int)] w fun e w'=>e= .returned (.bool (dB (FitS ⟨8,N,M,S,T,ks⟩ kd)))/\Below w.heap.size w w':=by
 cases bS:(S.toList==([]:List UInt8))
 ·have HE:Hid (dB (FitS ⟨8,N,M,S,T,ks⟩ kd)=false):=dB_false (fun h=>by simp[FitS,<-hq]at h<;>grind)
  clear hq
  go_enter Tryz.func32,Tryz.ntmps32
  go_wp2_with fail
  refine(KC.out _ (by(repeat(first | exact Below.refl _ _ | refine bA ?_ _ | refine Below.setCell ?_ (by simp) _)))).mono ?_;rintro e w1 ⟨rfl,rfl⟩
  go_wp2
  go_ret
  exact⟨congrArg (fun z=>Ending.returned (.bool z)) HE.out.symm,(by(repeat(first | exact Below.refl _ _ | refine bA ?_ _ | refine Below.setCell ?_ (by simp) _)))⟩
 cases bT:(T.toList==([]:List UInt8))
 ·have HE:Hid (dB (FitS ⟨8,N,M,S,T,ks⟩ kd)=false):=dB_false (fun h=>by simp[FitS,<-hq]at h<;>grind)
  clear hq
  go_enter Tryz.func32,Tryz.ntmps32
  go_wp2_with fail
  refine(KC.out _ (by(repeat(first | exact Below.refl _ _ | refine bA ?_ _ | refine Below.setCell ?_ (by simp) _)))).mono ?_;rintro e w1 ⟨rfl,rfl⟩
  go_wp2
  go_ret
  exact⟨congrArg (fun z=>Ending.returned (.bool z)) HE.out.symm,(by(repeat(first | exact Below.refl _ _ | refine bA ?_ _ | refine Below.setCell ?_ (by simp) _)))⟩
 cases bN:(N==0)
 ·have HE:Hid (dB (FitS ⟨8,N,M,S,T,ks⟩ kd)=false):=dB_false (fun h=>by simp[FitS,<-hq]at h<;>grind)
  clear hq
  go_enter Tryz.func32,Tryz.ntmps32
  go_wp2_with fail
  refine(KC.out _ (by(repeat(first | exact Below.refl _ _ | refine bA ?_ _ | refine Below.setCell ?_ (by simp) _)))).mono ?_;rintro e w1 ⟨rfl,rfl⟩
  go_wp2
  go_ret
  exact⟨congrArg (fun z=>Ending.returned (.bool z)) HE.out.symm,(by(repeat(first | exact Below.refl _ _ | refine bA ?_ _ | refine Below.setCell ?_ (by simp) _)))⟩
 obtain rfl:N=0:=by simpa using bN
 rcases(show M=0\/M=1\/(2<=M/\M<=4)\/(5<=M/\M<=6)\/M<0\/6<M from by omega)with rfl | rfl | ⟨hM1,hM2⟩ | ⟨hM1,hM2⟩ | hM1 | hM1
 ·skip
  ·have HE:Hid (dB (FitS ⟨8,0,0,S,T,ks⟩ kd)=false):=dB_false (fun h=>by simp[FitS,<-hq]at h<;>grind)
   clear hq
   go_enter Tryz.func32,Tryz.ntmps32
   go_wp2_with fail
   refine(KC.out _ (by(repeat(first | exact Below.refl _ _ | refine bA ?_ _ | refine Below.setCell ?_ (by simp) _)))).mono ?_;rintro e w1 ⟨rfl,rfl⟩
   go_wp2
   go_ret
   exact⟨congrArg (fun z=>Ending.returned (.bool z)) HE.out.symm,(by(repeat(first | exact Below.refl _ _ | refine bA ?_ _ | refine Below.setCell ?_ (by simp) _)))⟩
 ·skip
  ·have HE:Hid (dB (FitS ⟨8,0,1,S,T,ks⟩ kd)=(q.toList==([115,115]:List UInt8))):=by show _=_;rw[Bool.eq_iff_iff,dB_iff];simp[FitS,<-hq]<;>grind
   clear hq
   go_enter Tryz.func32,Tryz.ntmps32
   go_wp2_with fail
   refine(KC.out _ (by(repeat(first | exact Below.refl _ _ | refine bA ?_ _ | refine Below.setCell ?_ (by simp) _)))).mono ?_;rintro e w1 ⟨rfl,rfl⟩
   go_wp2
   go_ret
   exact⟨congrArg (fun z=>Ending.returned (.bool z)) HE.out.symm,(by(repeat(first | exact Below.refl _ _ | refine bA ?_ _ | refine Below.setCell ?_ (by simp) _)))⟩
 ·have m0:(M==0)=false:=beq_eq_false_iff_ne.2 (by omega)
  have m1:(M==1)=false:=beq_eq_false_iff_ne.2 (by omega)
  have m2:1<=M:=by omega
  have m3:M<=6:=by omega
  ·have HE:Hid (dB (FitS ⟨8,0,M,S,T,ks⟩ kd)=(q.toList==([115,115]:List UInt8))):=by show _=_;rw[Bool.eq_iff_iff,dB_iff];simp[FitS,<-hq]<;>grind
   clear hq
   go_enter Tryz.func32,Tryz.ntmps32
   go_wp2_with fail
   refine(KC.out _ (by(repeat(first | exact Below.refl _ _ | refine bA ?_ _ | refine Below.setCell ?_ (by simp) _)))).mono ?_;rintro e w1 ⟨rfl,rfl⟩
   go_wp2
   go_ret
   exact⟨congrArg (fun z=>Ending.returned (.bool z)) HE.out.symm,(by(repeat(first | exact Below.refl _ _ | refine bA ?_ _ | refine Below.setCell ?_ (by simp) _)))⟩
 ·have m0:(M==0)=false:=beq_eq_false_iff_ne.2 (by omega)
  have m1:(M==1)=false:=beq_eq_false_iff_ne.2 (by omega)
  have m2:1<=M:=by omega
  have m3:M<=6:=by omega
  ·have HE:Hid (dB (FitS ⟨8,0,M,S,T,ks⟩ kd)=(q.toList==([115,115]:List UInt8))):=by show _=_;rw[Bool.eq_iff_iff,dB_iff];simp[FitS,<-hq]<;>grind
   clear hq
   go_enter Tryz.func32,Tryz.ntmps32
   go_wp2_with fail
   refine(KC.out _ (by(repeat(first | exact Below.refl _ _ | refine bA ?_ _ | refine Below.setCell ?_ (by simp) _)))).mono ?_;rintro e w1 ⟨rfl,rfl⟩
   go_wp2
   go_ret
   exact⟨congrArg (fun z=>Ending.returned (.bool z)) HE.out.symm,(by(repeat(first | exact Below.refl _ _ | refine bA ?_ _ | refine Below.setCell ?_ (by simp) _)))⟩
 ·have m0:(M==0)=false:=beq_eq_false_iff_ne.2 (by omega)
  have m1:(M==1)=false:=beq_eq_false_iff_ne.2 (by omega)
  have m2: ¬1<=M:=by omega
  have m3:M<=6:=by omega
  ·have HE:Hid (dB (FitS ⟨8,0,M,S,T,ks⟩ kd)=false):=dB_false (fun h=>by simp[FitS,<-hq]at h<;>grind)
   clear hq
   go_enter Tryz.func32,Tryz.ntmps32
   go_wp2_with fail
   refine(KC.out _ (by(repeat(first | exact Below.refl _ _ | refine bA ?_ _ | refine Below.setCell ?_ (by simp) _)))).mono ?_;rintro e w1 ⟨rfl,rfl⟩
   go_wp2
   go_ret
   exact⟨congrArg (fun z=>Ending.returned (.bool z)) HE.out.symm,(by(repeat(first | exact Below.refl _ _ | refine bA ?_ _ | refine Below.setCell ?_ (by simp) _)))⟩
 ·have m0:(M==0)=false:=beq_eq_false_iff_ne.2 (by omega)
  have m1:(M==1)=false:=beq_eq_false_iff_ne.2 (by omega)
  have m2:1<=M:=by omega
  have m3: ¬M<=6:=by omega
  ·have HE:Hid (dB (FitS ⟨8,0,M,S,T,ks⟩ kd)=false):=dB_false (fun h=>by simp[FitS,<-hq]at h<;>grind)
   clear hq
   go_enter Tryz.func32,Tryz.ntmps32
   go_wp2_with fail
   refine(KC.out _ (by(repeat(first | exact Below.refl _ _ | refine bA ?_ _ | refine Below.setCell ?_ (by simp) _)))).mono ?_;rintro e w1 ⟨rfl,rfl⟩
   go_wp2
   go_ret
   exact⟨congrArg (fun z=>Ending.returned (.bool z)) HE.out.symm,(by(repeat(first | exact Below.refl _ _ | refine bA ?_ _ | refine Below.setCell ?_ (by simp) _)))⟩
set_option maxHeartbeats 8000000 in
set_option maxRecDepth 100000 in
theorem nodeOk9(N M:Int)(S T:ByteArray)(ks:List Int)(ka:Option Addr)(kl kc:Nat)(kd:List Int)(q:ByteArray)(g cap len i:Nat)(w:World)(_:g<w.heap.size)(_:(i:Int)<(len:Int))(hq:q.toList=kd.map ltr)
  (_:q.size<=1048576) (_:S.size<=1048576) (_:T.size<=1048576)
  (_:w.cell? ⟨g,i*6,none⟩=some (.int .i64 9)) (_:w.cell? ⟨g,i*6+1,none⟩=some (.int .i64 N)) (_:w.cell? ⟨g,i*6+2,none⟩=some (.int .i64 M))
  (_:w.cell? ⟨g,i*6+3,none⟩=some (.string S)) (_:w.cell? ⟨g,i*6+4,none⟩=some (.string T)) (_:w.cell? ⟨g,i*6+5,none⟩=some (.slice ka kl kc))
  (KC:Hid (∀W,Below w.heap.size w W->Calls Tryz.prog 57 #[.slice (some ⟨g,0,none⟩) len cap,.int .i64 (i:Int)] W fun e w'=>e= .returned (.string q)/\w'=W)):
  Calls Tryz.prog 32 #[.slice (some ⟨g,0,none⟩) len cap,.int .i64 (i:Int)] w fun e w'=>e= .returned (.bool (dB (FitS ⟨9,N,M,S,T,ks⟩ kd)))/\Below w.heap.size w w':=by
 cases bS:(S.toList==([]:List UInt8))
 ·have HE:Hid (dB (FitS ⟨9,N,M,S,T,ks⟩ kd)=false):=dB_false (fun h=>by simp[FitS,<-hq]at h<;>grind)
  clear hq
  go_enter Tryz.func32,Tryz.ntmps32
  go_wp2_with fail
  refine(KC.out _ (by(repeat(first | exact Below.refl _ _ | refine bA ?_ _ | refine Below.setCell ?_ (by simp) _)))).mono ?_;rintro e w1 ⟨rfl,rfl⟩
  go_wp2
  go_ret
  exact⟨congrArg (fun z=>Ending.returned (.bool z)) HE.out.symm,(by(repeat(first | exact Below.refl _ _ | refine bA ?_ _ | refine Below.setCell ?_ (by simp) _)))⟩
 cases bT:(T.toList==([]:List UInt8))
 ·have HE:Hid (dB (FitS ⟨9,N,M,S,T,ks⟩ kd)=false):=dB_false (fun h=>by simp[FitS,<-hq]at h<;>grind)
  clear hq
  go_enter Tryz.func32,Tryz.ntmps32
  go_wp2_with fail
  refine(KC.out _ (by(repeat(first | exact Below.refl _ _ | refine bA ?_ _ | refine Below.setCell ?_ (by simp) _)))).mono ?_;rintro e w1 ⟨rfl,rfl⟩
  go_wp2
  go_ret
  exact⟨congrArg (fun z=>Ending.returned (.bool z)) HE.out.symm,(by(repeat(first | exact Below.refl _ _ | refine bA ?_ _ | refine Below.setCell ?_ (by simp) _)))⟩
 cases bN:(N==0)
 ·have HE:Hid (dB (FitS ⟨9,N,M,S,T,ks⟩ kd)=false):=dB_false (fun h=>by simp[FitS,<-hq]at h<;>grind)
  clear hq
  go_enter Tryz.func32,Tryz.ntmps32
  go_wp2_with fail
  refine(KC.out _ (by(repeat(first | exact Below.refl _ _ | refine bA ?_ _ | refine Below.setCell ?_ (by simp) _)))).mono ?_;rintro e w1 ⟨rfl,rfl⟩
  go_wp2
  go_ret
  exact⟨congrArg (fun z=>Ending.returned (.bool z)) HE.out.symm,(by(repeat(first | exact Below.refl _ _ | refine bA ?_ _ | refine Below.setCell ?_ (by simp) _)))⟩
 obtain rfl:N=0:=by simpa using bN
 rcases(show M=0\/M=1\/(2<=M/\M<=4)\/(5<=M/\M<=6)\/M<0\/6<M from by omega)with rfl | rfl | ⟨hM1,hM2⟩ | ⟨hM1,hM2⟩ | hM1 | hM1
 ·skip
  ·have HE:Hid (dB (FitS ⟨9,0,0,S,T,ks⟩ kd)=(q.toList==([115]:List UInt8))):=by show _=_;rw[Bool.eq_iff_iff,dB_iff];simp[FitS,<-hq]<;>grind
   clear hq
   go_enter Tryz.func32,Tryz.ntmps32
   go_wp2_with fail
   refine(KC.out _ (by(repeat(first | exact Below.refl _ _ | refine bA ?_ _ | refine Below.setCell ?_ (by simp) _)))).mono ?_;rintro e w1 ⟨rfl,rfl⟩
   go_wp2
   go_ret
   exact⟨congrArg (fun z=>Ending.returned (.bool z)) HE.out.symm,(by(repeat(first | exact Below.refl _ _ | refine bA ?_ _ | refine Below.setCell ?_ (by simp) _)))⟩
 ·skip
  ·have HE:Hid (dB (FitS ⟨9,0,1,S,T,ks⟩ kd)=(q.toList==([115]:List UInt8))):=by show _=_;rw[Bool.eq_iff_iff,dB_iff];simp[FitS,<-hq]<;>grind
   clear hq
   go_enter Tryz.func32,Tryz.ntmps32
   go_wp2_with fail
   refine(KC.out _ (by(repeat(first | exact Below.refl _ _ | refine bA ?_ _ | refine Below.setCell ?_ (by simp) _)))).mono ?_;rintro e w1 ⟨rfl,rfl⟩
   go_wp2
   go_ret
   exact⟨congrArg (fun z=>Ending.returned (.bool z)) HE.out.symm,(by(repeat(first | exact Below.refl _ _ | refine bA ?_ _ | refine Below.setCell ?_ (by simp) _)))⟩
 ·have m0:(M==0)=false:=beq_eq_false_iff_ne.2 (by omega)
  have m1:(M==1)=false:=beq_eq_false_iff_ne.2 (by omega)
  have m2:1<=M:=by omega
  have m3:M<=6:=by omega
  ·have HE:Hid (dB (FitS ⟨9,0,M,S,T,ks⟩ kd)=false):=dB_false (fun h=>by simp[FitS,<-hq]at h<;>grind)
   clear hq
   go_enter Tryz.func32,Tryz.ntmps32
   go_wp2_with fail
   refine(KC.out _ (by(repeat(first | exact Below.refl _ _ | refine bA ?_ _ | refine Below.setCell ?_ (by simp) _)))).mono ?_;rintro e w1 ⟨rfl,rfl⟩
   go_wp2
   go_ret
   exact⟨congrArg (fun z=>Ending.returned (.bool z)) HE.out.symm,(by(repeat(first | exact Below.refl _ _ | refine bA ?_ _ | refine Below.setCell ?_ (by simp) _)))⟩
 ·have m0:(M==0)=false:=beq_eq_false_iff_ne.2 (by omega)
  have m1:(M==1)=false:=beq_eq_false_iff_ne.2 (by omega)
  have m2:1<=M:=by omega
  have m3:M<=6:=by omega
  ·have HE:Hid (dB (FitS ⟨9,0,M,S,T,ks⟩ kd)=false):=dB_false (fun h=>by simp[FitS,<-hq]at h<;>grind)
   clear hq
   go_enter Tryz.func32,Tryz.ntmps32
   go_wp2_with fail
   refine(KC.out _ (by(repeat(first | exact Below.refl _ _ | refine bA ?_ _ | refine Below.setCell ?_ (by simp) _)))).mono ?_;rintro e w1 ⟨rfl,rfl⟩
   go_wp2
   go_ret
   exact⟨congrArg (fun z=>Ending.returned (.bool z)) HE.out.symm,(by(repeat(first | exact Below.refl _ _ | refine bA ?_ _ | refine Below.setCell ?_ (by simp) _)))⟩
 ·have m0:(M==0)=false:=beq_eq_false_iff_ne.2 (by omega)
  have m1:(M==1)=false:=beq_eq_false_iff_ne.2 (by omega)
  have m2: ¬1<=M:=by omega
  have m3:M<=6:=by omega
  ·have HE:Hid (dB (FitS ⟨9,0,M,S,T,ks⟩ kd)=false):=dB_false (fun h=>by simp[FitS,<-hq]at h<;>grind)
   clear hq
   go_enter Tryz.func32,Tryz.ntmps32
   go_wp2_with fail
   refine(KC.out _ (by(repeat(first | exact Below.refl _ _ | refine bA ?_ _ | refine Below.setCell ?_ (by simp) _)))).mono ?_;rintro e w1 ⟨rfl,rfl⟩
   go_wp2
   go_ret
   exact⟨congrArg (fun z=>Ending.returned (.bool z)) HE.out.symm,(by(repeat(first | exact Below.refl _ _ | refine bA ?_ _ | refine Below.setCell ?_ (by simp) _)))⟩
 ·have m0:(M==0)=false:=beq_eq_false_iff_ne.2 (by omega)
  have m1:(M==1)=false:=beq_eq_false_iff_ne.2 (by omega)
  have m2:1<=M:=by omega
  have m3: ¬M<=6:=by omega
  ·have HE:Hid (dB (FitS ⟨9,0,M,S,T,ks⟩ kd)=false):=dB_false (fun h=>by simp[FitS,<-hq]at h<;>grind)
   clear hq
   go_enter Tryz.func32,Tryz.ntmps32
   go_wp2_with fail
   refine(KC.out _ (by(repeat(first | exact Below.refl _ _ | refine bA ?_ _ | refine Below.setCell ?_ (by simp) _)))).mono ?_;rintro e w1 ⟨rfl,rfl⟩
   go_wp2
   go_ret
   exact⟨congrArg (fun z=>Ending.returned (.bool z)) HE.out.symm,(by(repeat(first | exact Below.refl _ _ | refine bA ?_ _ | refine Below.setCell ?_ (by simp) _)))⟩
set_option maxHeartbeats 8000000 in
set_option maxRecDepth 100000 in
theorem nodeOk10(N M:Int)(S T:ByteArray)(ks:List Int)(ka:Option Addr)(kl kc:Nat)(kd:List Int)(q:ByteArray)(g cap len i:Nat)(w:World)(_:g<w.heap.size)(_:(i:Int)<(len:Int))(hq:q.toList=kd.map ltr)
  (_:q.size<=1048576) (_:S.size<=1048576) (_:T.size<=1048576)
  (_:w.cell? ⟨g,i*6,none⟩=some (.int .i64 10)) (_:w.cell? ⟨g,i*6+1,none⟩=some (.int .i64 N)) (_:w.cell? ⟨g,i*6+2,none⟩=some (.int .i64 M))
  (_:w.cell? ⟨g,i*6+3,none⟩=some (.string S)) (_:w.cell? ⟨g,i*6+4,none⟩=some (.string T)) (_:w.cell? ⟨g,i*6+5,none⟩=some (.slice ka kl kc))
  (KC:Hid (∀W,Below w.heap.size w W->Calls Tryz.prog 57 #[.slice (some ⟨g,0,none⟩) len cap,.int .i64 (i:Int)] W fun e w'=>e= .returned (.string q)/\w'=W)):
  Calls Tryz.prog 32 #[.slice (some ⟨g,0,none⟩) len cap,.int .i64 (i:Int)] w fun e w'=>e= .returned (.bool (dB (FitS ⟨10,N,M,S,T,ks⟩ kd)))/\Below w.heap.size w w':=by
 cases bS:(S.toList==([]:List UInt8))
 ·have HE:Hid (dB (FitS ⟨10,N,M,S,T,ks⟩ kd)=false):=dB_false (fun h=>by simp[FitS,<-hq]at h<;>grind)
  clear hq
  go_enter Tryz.func32,Tryz.ntmps32
  go_wp2_with fail
  refine(KC.out _ (by(repeat(first | exact Below.refl _ _ | refine bA ?_ _ | refine Below.setCell ?_ (by simp) _)))).mono ?_;rintro e w1 ⟨rfl,rfl⟩
  go_wp2
  go_ret
  exact⟨congrArg (fun z=>Ending.returned (.bool z)) HE.out.symm,(by(repeat(first | exact Below.refl _ _ | refine bA ?_ _ | refine Below.setCell ?_ (by simp) _)))⟩
 cases bT:(T.toList==([]:List UInt8))
 ·have HE:Hid (dB (FitS ⟨10,N,M,S,T,ks⟩ kd)=false):=dB_false (fun h=>by simp[FitS,<-hq]at h<;>grind)
  clear hq
  go_enter Tryz.func32,Tryz.ntmps32
  go_wp2_with fail
  refine(KC.out _ (by(repeat(first | exact Below.refl _ _ | refine bA ?_ _ | refine Below.setCell ?_ (by simp) _)))).mono ?_;rintro e w1 ⟨rfl,rfl⟩
  go_wp2
  go_ret
  exact⟨congrArg (fun z=>Ending.returned (.bool z)) HE.out.symm,(by(repeat(first | exact Below.refl _ _ | refine bA ?_ _ | refine Below.setCell ?_ (by simp) _)))⟩
 cases bN:(N==0)
 ·have HE:Hid (dB (FitS ⟨10,N,M,S,T,ks⟩ kd)=false):=dB_false (fun h=>by simp[FitS,<-hq]at h<;>grind)
  clear hq
  go_enter Tryz.func32,Tryz.ntmps32
  go_wp2_with fail
  refine(KC.out _ (by(repeat(first | exact Below.refl _ _ | refine bA ?_ _ | refine Below.setCell ?_ (by simp) _)))).mono ?_;rintro e w1 ⟨rfl,rfl⟩
  go_wp2
  go_ret
  exact⟨congrArg (fun z=>Ending.returned (.bool z)) HE.out.symm,(by(repeat(first | exact Below.refl _ _ | refine bA ?_ _ | refine Below.setCell ?_ (by simp) _)))⟩
 obtain rfl:N=0:=by simpa using bN
 cases bM:(M==0)
 ·have HE:Hid (dB (FitS ⟨10,0,M,S,T,ks⟩ kd)=false):=dB_false (fun h=>by simp[FitS,<-hq]at h<;>grind)
  clear hq
  go_enter Tryz.func32,Tryz.ntmps32
  go_wp2_with fail
  refine(KC.out _ (by(repeat(first | exact Below.refl _ _ | refine bA ?_ _ | refine Below.setCell ?_ (by simp) _)))).mono ?_;rintro e w1 ⟨rfl,rfl⟩
  go_wp2
  go_ret
  exact⟨congrArg (fun z=>Ending.returned (.bool z)) HE.out.symm,(by(repeat(first | exact Below.refl _ _ | refine bA ?_ _ | refine Below.setCell ?_ (by simp) _)))⟩
 obtain rfl:M=0:=by simpa using bM
 ·have HE:Hid (dB (FitS ⟨10,0,0,S,T,ks⟩ kd)=(q.toList==([113]:List UInt8))):=by show _=_;rw[Bool.eq_iff_iff,dB_iff];simp[FitS,<-hq]<;>grind
  clear hq
  go_enter Tryz.func32,Tryz.ntmps32
  go_wp2_with fail
  refine(KC.out _ (by(repeat(first | exact Below.refl _ _ | refine bA ?_ _ | refine Below.setCell ?_ (by simp) _)))).mono ?_;rintro e w1 ⟨rfl,rfl⟩
  go_wp2
  go_ret
  exact⟨congrArg (fun z=>Ending.returned (.bool z)) HE.out.symm,(by(repeat(first | exact Below.refl _ _ | refine bA ?_ _ | refine Below.setCell ?_ (by simp) _)))⟩
set_option maxHeartbeats 8000000 in
set_option maxRecDepth 100000 in
theorem nodeOk13(N M:Int)(S T:ByteArray)(ks:List Int)(ka:Option Addr)(kl kc:Nat)(kd:List Int)(q:ByteArray)(g cap len i:Nat)(w:World)(_:g<w.heap.size)(_:(i:Int)<(len:Int))(hq:q.toList=kd.map ltr)
  (_:q.size<=1048576) (_:S.size<=1048576) (_:T.size<=1048576)
  (_:w.cell? ⟨g,i*6,none⟩=some (.int .i64 13)) (_:w.cell? ⟨g,i*6+1,none⟩=some (.int .i64 N)) (_:w.cell? ⟨g,i*6+2,none⟩=some (.int .i64 M))
  (_:w.cell? ⟨g,i*6+3,none⟩=some (.string S)) (_:w.cell? ⟨g,i*6+4,none⟩=some (.string T)) (_:w.cell? ⟨g,i*6+5,none⟩=some (.slice ka kl kc))
  (KC:Hid (∀W,Below w.heap.size w W->Calls Tryz.prog 57 #[.slice (some ⟨g,0,none⟩) len cap,.int .i64 (i:Int)] W fun e w'=>e= .returned (.string q)/\w'=W)):
  Calls Tryz.prog 32 #[.slice (some ⟨g,0,none⟩) len cap,.int .i64 (i:Int)] w fun e w'=>e= .returned (.bool (dB (FitS ⟨13,N,M,S,T,ks⟩ kd)))/\Below w.heap.size w w':=by
 cases bS:(S.toList==([]:List UInt8))
 ·have HE:Hid (dB (FitS ⟨13,N,M,S,T,ks⟩ kd)=false):=dB_false (fun h=>by simp[FitS,<-hq]at h<;>grind)
  clear hq
  go_enter Tryz.func32,Tryz.ntmps32
  go_wp2_with fail
  refine(KC.out _ (by(repeat(first | exact Below.refl _ _ | refine bA ?_ _ | refine Below.setCell ?_ (by simp) _)))).mono ?_;rintro e w1 ⟨rfl,rfl⟩
  go_wp2
  go_ret
  exact⟨congrArg (fun z=>Ending.returned (.bool z)) HE.out.symm,(by(repeat(first | exact Below.refl _ _ | refine bA ?_ _ | refine Below.setCell ?_ (by simp) _)))⟩
 cases bT:(T.toList==([]:List UInt8))
 ·have HE:Hid (dB (FitS ⟨13,N,M,S,T,ks⟩ kd)=false):=dB_false (fun h=>by simp[FitS,<-hq]at h<;>grind)
  clear hq
  go_enter Tryz.func32,Tryz.ntmps32
  go_wp2_with fail
  refine(KC.out _ (by(repeat(first | exact Below.refl _ _ | refine bA ?_ _ | refine Below.setCell ?_ (by simp) _)))).mono ?_;rintro e w1 ⟨rfl,rfl⟩
  go_wp2
  go_ret
  exact⟨congrArg (fun z=>Ending.returned (.bool z)) HE.out.symm,(by(repeat(first | exact Below.refl _ _ | refine bA ?_ _ | refine Below.setCell ?_ (by simp) _)))⟩
 cases bN:(N==0)
 ·have HE:Hid (dB (FitS ⟨13,N,M,S,T,ks⟩ kd)=false):=dB_false (fun h=>by simp[FitS,<-hq]at h<;>grind)
  clear hq
  go_enter Tryz.func32,Tryz.ntmps32
  go_wp2_with fail
  refine(KC.out _ (by(repeat(first | exact Below.refl _ _ | refine bA ?_ _ | refine Below.setCell ?_ (by simp) _)))).mono ?_;rintro e w1 ⟨rfl,rfl⟩
  go_wp2
  go_ret
  exact⟨congrArg (fun z=>Ending.returned (.bool z)) HE.out.symm,(by(repeat(first | exact Below.refl _ _ | refine bA ?_ _ | refine Below.setCell ?_ (by simp) _)))⟩
 obtain rfl:N=0:=by simpa using bN
 cases bM:(M==0)
 ·have HE:Hid (dB (FitS ⟨13,0,M,S,T,ks⟩ kd)=false):=dB_false (fun h=>by simp[FitS,<-hq]at h<;>grind)
  clear hq
  go_enter Tryz.func32,Tryz.ntmps32
  go_wp2_with fail
  refine(KC.out _ (by(repeat(first | exact Below.refl _ _ | refine bA ?_ _ | refine Below.setCell ?_ (by simp) _)))).mono ?_;rintro e w1 ⟨rfl,rfl⟩
  go_wp2
  go_ret
  exact⟨congrArg (fun z=>Ending.returned (.bool z)) HE.out.symm,(by(repeat(first | exact Below.refl _ _ | refine bA ?_ _ | refine Below.setCell ?_ (by simp) _)))⟩
 obtain rfl:M=0:=by simpa using bM
 ·have HE:Hid (dB (FitS ⟨13,0,0,S,T,ks⟩ kd)=(q.toList==([99]:List UInt8))):=by show _=_;rw[Bool.eq_iff_iff,dB_iff];simp[FitS,<-hq]<;>grind
  clear hq
  go_enter Tryz.func32,Tryz.ntmps32
  go_wp2_with fail
  refine(KC.out _ (by(repeat(first | exact Below.refl _ _ | refine bA ?_ _ | refine Below.setCell ?_ (by simp) _)))).mono ?_;rintro e w1 ⟨rfl,rfl⟩
  go_wp2
  go_ret
  exact⟨congrArg (fun z=>Ending.returned (.bool z)) HE.out.symm,(by(repeat(first | exact Below.refl _ _ | refine bA ?_ _ | refine Below.setCell ?_ (by simp) _)))⟩
end Go.Proofs.YtmggnimiioepeaaGreatDoor.AX
