import Derived.Test.YtmggnimiioepeaaGreatDoorQ0
import Derived.Test.YtmggnimiioepeaaGreatDoorQ2
import Derived.Test.YtmggnimiioepeaaGreatDoorQ16
import Derived.Test.YtmggnimiioepeaaGreatDoorQ44
namespace Go.Proofs.YtmggnimiioepeaaGreatDoor.AX
open Go Go.RowKit
set_option maxHeartbeats 8000000 in
set_option maxRecDepth 100000 in
theorem nodeOk4(N M:Int)(S T:ByteArray)(ks:List Int)(ka:Option Addr)(kl kc:Nat)(kd:List Int)(q:ByteArray)(g cap len i:Nat)(w:World)(_:g<w.heap.size)(_:(i:Int)<(len:Int))(hq:q.toList=kd.map ltr)
  (hqs:q.size<=1048576) (_:S.size<=1048576) (_:T.size<=1048576)
  (_:w.cell? ⟨g,i*6,none⟩=some (.int .i64 4)) (_:w.cell? ⟨g,i*6+1,none⟩=some (.int .i64 N)) (_:w.cell? ⟨g,i*6+2,none⟩=some (.int .i64 M))
  (_:w.cell? ⟨g,i*6+3,none⟩=some (.string S)) (_:w.cell? ⟨g,i*6+4,none⟩=some (.string T)) (_:w.cell? ⟨g,i*6+5,none⟩=some (.slice ka kl kc))
  (KC:Hid (∀W,Below w.heap.size w W->Calls Tryz.prog 57 #[.slice (some ⟨g,0,none⟩) len cap,.int .i64 (i:Int)] W fun e w'=>e= .returned (.string q)/\w'=W)):
  Calls Tryz.prog 32 #[.slice (some ⟨g,0,none⟩) len cap,.int .i64 (i:Int)] w fun e w'=>e= .returned (.bool (dB (FitS ⟨4,N,M,S,T,ks⟩ kd)))/\Below w.heap.size w w':=by
 cases bS:(S.toList==([]:List UInt8))
 ·have HE:Hid (dB (FitS ⟨4,N,M,S,T,ks⟩ kd)=false):=dB_false (fun h=>by simp[FitS,<-hq]at h<;>grind)
  clear hq
  go_enter Tryz.func32,Tryz.ntmps32
  go_wp2_with fail
  refine(KC.out _ (by(repeat(first | exact Below.refl _ _ | refine bA ?_ _ | refine Below.setCell ?_ (by simp) _)))).mono ?_;rintro e w1 ⟨rfl,rfl⟩
  go_wp2
  go_ret
  exact⟨congrArg (fun z=>Ending.returned (.bool z)) HE.out.symm,(by(repeat(first | exact Below.refl _ _ | refine bA ?_ _ | refine Below.setCell ?_ (by simp) _)))⟩
 cases bT:(T.toList==([]:List UInt8))
 ·have HE:Hid (dB (FitS ⟨4,N,M,S,T,ks⟩ kd)=false):=dB_false (fun h=>by simp[FitS,<-hq]at h<;>grind)
  clear hq
  go_enter Tryz.func32,Tryz.ntmps32
  go_wp2_with fail
  refine(KC.out _ (by(repeat(first | exact Below.refl _ _ | refine bA ?_ _ | refine Below.setCell ?_ (by simp) _)))).mono ?_;rintro e w1 ⟨rfl,rfl⟩
  go_wp2
  go_ret
  exact⟨congrArg (fun z=>Ending.returned (.bool z)) HE.out.symm,(by(repeat(first | exact Below.refl _ _ | refine bA ?_ _ | refine Below.setCell ?_ (by simp) _)))⟩
 rcases(show M=0\/M=1\/(2<=M/\M<=4)\/(5<=M/\M<=6)\/M<0\/6<M from by omega)with rfl | rfl | ⟨hM1,hM2⟩ | ⟨hM1,hM2⟩ | hM1 | hM1
 ·skip
  ·have HE:Hid (dB (FitS ⟨4,N,0,S,T,ks⟩ kd)=false):=dB_false (fun h=>by simp[FitS,<-hq]at h<;>grind)
   clear hq
   go_enter Tryz.func32,Tryz.ntmps32
   go_wp2_with fail
   refine(KC.out _ (by(repeat(first | exact Below.refl _ _ | refine bA ?_ _ | refine Below.setCell ?_ (by simp) _)))).mono ?_;rintro e w1 ⟨rfl,rfl⟩
   go_wp2
   go_ret
   exact⟨congrArg (fun z=>Ending.returned (.bool z)) HE.out.symm,(by(repeat(first | exact Below.refl _ _ | refine bA ?_ _ | refine Below.setCell ?_ (by simp) _)))⟩
 ·skip
  cases n1:(N==1)
  rotate_left
  ·have HE:Hid (dB (FitS ⟨4,N,1,S,T,ks⟩ kd)=false):=dB_false (fun h=>by simp[FitS,<-hq]at h<;>grind)
   clear hq
   go_enter Tryz.func32,Tryz.ntmps32
   go_wp2_with fail
   refine(KC.out _ (by(repeat(first | exact Below.refl _ _ | refine bA ?_ _ | refine Below.setCell ?_ (by simp) _)))).mono ?_;rintro e w1 ⟨rfl,rfl⟩
   go_wp2
   go_ret
   exact⟨congrArg (fun z=>Ending.returned (.bool z)) HE.out.symm,(by(repeat(first | exact Below.refl _ _ | refine bA ?_ _ | refine Below.setCell ?_ (by simp) _)))⟩
  cases n0:(N==0)
  ·have HE:Hid (dB (FitS ⟨4,N,1,S,T,ks⟩ kd)=false):=dB_false (fun h=>by simp[FitS,<-hq]at h<;>grind)
   clear hq
   go_enter Tryz.func32,Tryz.ntmps32
   go_wp2_with fail
   refine(KC.out _ (by(repeat(first | exact Below.refl _ _ | refine bA ?_ _ | refine Below.setCell ?_ (by simp) _)))).mono ?_;rintro e w1 ⟨rfl,rfl⟩
   go_wp2
   go_ret
   exact⟨congrArg (fun z=>Ending.returned (.bool z)) HE.out.symm,(by(repeat(first | exact Below.refl _ _ | refine bA ?_ _ | refine Below.setCell ?_ (by simp) _)))⟩
  ·have HE:Hid (dB (FitS ⟨4,N,1,S,T,ks⟩ kd)=dB (BlkS q.toList N)):=by show _=_;apply dB_congr;simp[FitS,<-hq]<;>grind
   clear hq
   go_enter Tryz.func32,Tryz.ntmps32
   go_wp2_with fail
   refine(KC.out _ (by(repeat(first | exact Below.refl _ _ | refine bA ?_ _ | refine Below.setCell ?_ (by simp) _)))).mono ?_;rintro e w1 ⟨rfl,rfl⟩
   go_wp2_with fail
   refine(blockOk_calls q N _ hqs).mono ?_;rintro e w1 ⟨rfl,rfl⟩
   go_wp2
   go_ret
   exact⟨congrArg (fun z=>Ending.returned (.bool z)) HE.out.symm,(by(repeat(first | exact Below.refl _ _ | refine bA ?_ _ | refine Below.setCell ?_ (by simp) _)))⟩
 ·have m0:(M==0)=false:=beq_eq_false_iff_ne.2 (by omega)
  have m1:(M==1)=false:=beq_eq_false_iff_ne.2 (by omega)
  have m2:1<=M:=by omega
  have m3:M<=6:=by omega
  have m5:1<M:=by omega
  cases n1:(N==1)
  ·have HE:Hid (dB (FitS ⟨4,N,M,S,T,ks⟩ kd)=false):=dB_false (fun h=>by simp[FitS,<-hq]at h<;>grind)
   clear hq
   go_enter Tryz.func32,Tryz.ntmps32
   go_wp2_with fail
   refine(KC.out _ (by(repeat(first | exact Below.refl _ _ | refine bA ?_ _ | refine Below.setCell ?_ (by simp) _)))).mono ?_;rintro e w1 ⟨rfl,rfl⟩
   go_wp2
   go_ret
   exact⟨congrArg (fun z=>Ending.returned (.bool z)) HE.out.symm,(by(repeat(first | exact Below.refl _ _ | refine bA ?_ _ | refine Below.setCell ?_ (by simp) _)))⟩
  have n0:(N==0)=false:=by simp at n1;rw[n1];rfl
  ·have HE:Hid (dB (FitS ⟨4,N,M,S,T,ks⟩ kd)=dB (BlkS q.toList N)):=by show _=_;apply dB_congr;simp[FitS,<-hq]<;>grind
   clear hq
   go_enter Tryz.func32,Tryz.ntmps32
   go_wp2_with fail
   refine(KC.out _ (by(repeat(first | exact Below.refl _ _ | refine bA ?_ _ | refine Below.setCell ?_ (by simp) _)))).mono ?_;rintro e w1 ⟨rfl,rfl⟩
   go_wp2_with fail
   refine(blockOk_calls q N _ hqs).mono ?_;rintro e w1 ⟨rfl,rfl⟩
   go_wp2
   go_ret
   exact⟨congrArg (fun z=>Ending.returned (.bool z)) HE.out.symm,(by(repeat(first | exact Below.refl _ _ | refine bA ?_ _ | refine Below.setCell ?_ (by simp) _)))⟩
 ·have m0:(M==0)=false:=beq_eq_false_iff_ne.2 (by omega)
  have m1:(M==1)=false:=beq_eq_false_iff_ne.2 (by omega)
  have m2:1<=M:=by omega
  have m3:M<=6:=by omega
  have m4: ¬M<=4:=by omega
  ·have HE:Hid (dB (FitS ⟨4,N,M,S,T,ks⟩ kd)=false):=dB_false (fun h=>by simp[FitS,<-hq]at h<;>grind)
   clear hq
   go_enter Tryz.func32,Tryz.ntmps32
   go_wp2_with fail
   refine(KC.out _ (by(repeat(first | exact Below.refl _ _ | refine bA ?_ _ | refine Below.setCell ?_ (by simp) _)))).mono ?_;rintro e w1 ⟨rfl,rfl⟩
   go_wp2
   go_ret
   exact⟨congrArg (fun z=>Ending.returned (.bool z)) HE.out.symm,(by(repeat(first | exact Below.refl _ _ | refine bA ?_ _ | refine Below.setCell ?_ (by simp) _)))⟩
 ·have m0:(M==0)=false:=beq_eq_false_iff_ne.2 (by omega)
  have m1:(M==1)=false:=beq_eq_false_iff_ne.2 (by omega)
  have m2: ¬1<=M:=by omega
  have m3:M<=6:=by omega
  ·have HE:Hid (dB (FitS ⟨4,N,M,S,T,ks⟩ kd)=false):=dB_false (fun h=>by simp[FitS,<-hq]at h<;>grind)
   clear hq
   go_enter Tryz.func32,Tryz.ntmps32
   go_wp2_with fail
   refine(KC.out _ (by(repeat(first | exact Below.refl _ _ | refine bA ?_ _ | refine Below.setCell ?_ (by simp) _)))).mono ?_;rintro e w1 ⟨rfl,rfl⟩
   go_wp2
   go_ret
   exact⟨congrArg (fun z=>Ending.returned (.bool z)) HE.out.symm,(by(repeat(first | exact Below.refl _ _ | refine bA ?_ _ | refine Below.setCell ?_ (by simp) _)))⟩
 ·have m0:(M==0)=false:=beq_eq_false_iff_ne.2 (by omega)
  have m1:(M==1)=false:=beq_eq_false_iff_ne.2 (by omega)
  have m2:1<=M:=by omega
  have m3: ¬M<=6:=by omega
  have m4: ¬M<=4:=by omega
  ·have HE:Hid (dB (FitS ⟨4,N,M,S,T,ks⟩ kd)=false):=dB_false (fun h=>by simp[FitS,<-hq]at h<;>grind)
   clear hq
   go_enter Tryz.func32,Tryz.ntmps32
   go_wp2_with fail
   refine(KC.out _ (by(repeat(first | exact Below.refl _ _ | refine bA ?_ _ | refine Below.setCell ?_ (by simp) _)))).mono ?_;rintro e w1 ⟨rfl,rfl⟩
   go_wp2
   go_ret
   exact⟨congrArg (fun z=>Ending.returned (.bool z)) HE.out.symm,(by(repeat(first | exact Below.refl _ _ | refine bA ?_ _ | refine Below.setCell ?_ (by simp) _)))⟩
set_option maxHeartbeats 8000000 in
set_option maxRecDepth 100000 in
theorem nodeOk6(N M:Int)(S T:ByteArray)(ks:List Int)(ka:Option Addr)(kl kc:Nat)(kd:List Int)(q:ByteArray)(g cap len i:Nat)(w:World)(_:g<w.heap.size)(_:(i:Int)<(len:Int))(hq:q.toList=kd.map ltr)
  (hqs:q.size<=1048576) (_:S.size<=1048576) (_:T.size<=1048576)
  (_:w.cell? ⟨g,i*6,none⟩=some (.int .i64 6)) (_:w.cell? ⟨g,i*6+1,none⟩=some (.int .i64 N)) (_:w.cell? ⟨g,i*6+2,none⟩=some (.int .i64 M))
  (_:w.cell? ⟨g,i*6+3,none⟩=some (.string S)) (_:w.cell? ⟨g,i*6+4,none⟩=some (.string T)) (_:w.cell? ⟨g,i*6+5,none⟩=some (.slice ka kl kc))
  (KC:Hid (∀W,Below w.heap.size w W->Calls Tryz.prog 57 #[.slice (some ⟨g,0,none⟩) len cap,.int .i64 (i:Int)] W fun e w'=>e= .returned (.string q)/\w'=W)):
  Calls Tryz.prog 32 #[.slice (some ⟨g,0,none⟩) len cap,.int .i64 (i:Int)] w fun e w'=>e= .returned (.bool (dB (FitS ⟨6,N,M,S,T,ks⟩ kd)))/\Below w.heap.size w w':=by
 cases bS:(S.toList==([]:List UInt8))
 ·have HE:Hid (dB (FitS ⟨6,N,M,S,T,ks⟩ kd)=false):=dB_false (fun h=>by simp[FitS,<-hq]at h<;>grind)
  clear hq
  go_enter Tryz.func32,Tryz.ntmps32
  go_wp2_with fail
  refine(KC.out _ (by(repeat(first | exact Below.refl _ _ | refine bA ?_ _ | refine Below.setCell ?_ (by simp) _)))).mono ?_;rintro e w1 ⟨rfl,rfl⟩
  go_wp2
  go_ret
  exact⟨congrArg (fun z=>Ending.returned (.bool z)) HE.out.symm,(by(repeat(first | exact Below.refl _ _ | refine bA ?_ _ | refine Below.setCell ?_ (by simp) _)))⟩
 cases bT:(T.toList==([]:List UInt8))
 ·have HE:Hid (dB (FitS ⟨6,N,M,S,T,ks⟩ kd)=false):=dB_false (fun h=>by simp[FitS,<-hq]at h<;>grind)
  clear hq
  go_enter Tryz.func32,Tryz.ntmps32
  go_wp2_with fail
  refine(KC.out _ (by(repeat(first | exact Below.refl _ _ | refine bA ?_ _ | refine Below.setCell ?_ (by simp) _)))).mono ?_;rintro e w1 ⟨rfl,rfl⟩
  go_wp2
  go_ret
  exact⟨congrArg (fun z=>Ending.returned (.bool z)) HE.out.symm,(by(repeat(first | exact Below.refl _ _ | refine bA ?_ _ | refine Below.setCell ?_ (by simp) _)))⟩
 rcases(show M=0\/M=1\/(2<=M/\M<=4)\/(5<=M/\M<=6)\/M<0\/6<M from by omega)with rfl | rfl | ⟨hM1,hM2⟩ | ⟨hM1,hM2⟩ | hM1 | hM1
 ·skip
  by_cases hN:1<=N
  rotate_left
  ·have HE:Hid (dB (FitS ⟨6,N,0,S,T,ks⟩ kd)=false):=dB_false (fun h=>by simp[FitS,<-hq]at h<;>grind)
   clear hq
   go_enter Tryz.func32,Tryz.ntmps32
   go_wp2_with fail
   refine(KC.out _ (by(repeat(first | exact Below.refl _ _ | refine bA ?_ _ | refine Below.setCell ?_ (by simp) _)))).mono ?_;rintro e w1 ⟨rfl,rfl⟩
   go_wp2
   go_ret
   exact⟨congrArg (fun z=>Ending.returned (.bool z)) HE.out.symm,(by(repeat(first | exact Below.refl _ _ | refine bA ?_ _ | refine Below.setCell ?_ (by simp) _)))⟩
  ·have HE:Hid (dB (FitS ⟨6,N,0,S,T,ks⟩ kd)=dB (BlkS q.toList N)):=by show _=_;apply dB_congr;simp[FitS,<-hq]<;>grind
   clear hq
   go_enter Tryz.func32,Tryz.ntmps32
   go_wp2_with fail
   refine(KC.out _ (by(repeat(first | exact Below.refl _ _ | refine bA ?_ _ | refine Below.setCell ?_ (by simp) _)))).mono ?_;rintro e w1 ⟨rfl,rfl⟩
   go_wp2_with fail
   refine(blockOk_calls q N _ hqs).mono ?_;rintro e w1 ⟨rfl,rfl⟩
   go_wp2
   go_ret
   exact⟨congrArg (fun z=>Ending.returned (.bool z)) HE.out.symm,(by(repeat(first | exact Below.refl _ _ | refine bA ?_ _ | refine Below.setCell ?_ (by simp) _)))⟩
 ·skip
  by_cases hN:1<=N
  rotate_left
  ·have HE:Hid (dB (FitS ⟨6,N,1,S,T,ks⟩ kd)=false):=dB_false (fun h=>by simp[FitS,<-hq]at h<;>grind)
   clear hq
   go_enter Tryz.func32,Tryz.ntmps32
   go_wp2_with fail
   refine(KC.out _ (by(repeat(first | exact Below.refl _ _ | refine bA ?_ _ | refine Below.setCell ?_ (by simp) _)))).mono ?_;rintro e w1 ⟨rfl,rfl⟩
   go_wp2
   go_ret
   exact⟨congrArg (fun z=>Ending.returned (.bool z)) HE.out.symm,(by(repeat(first | exact Below.refl _ _ | refine bA ?_ _ | refine Below.setCell ?_ (by simp) _)))⟩
  ·have HE:Hid (dB (FitS ⟨6,N,1,S,T,ks⟩ kd)=dB (BlkS q.toList N)):=by show _=_;apply dB_congr;simp[FitS,<-hq]<;>grind
   clear hq
   go_enter Tryz.func32,Tryz.ntmps32
   go_wp2_with fail
   refine(KC.out _ (by(repeat(first | exact Below.refl _ _ | refine bA ?_ _ | refine Below.setCell ?_ (by simp) _)))).mono ?_;rintro e w1 ⟨rfl,rfl⟩
   go_wp2_with fail
   refine(blockOk_calls q N _ hqs).mono ?_;rintro e w1 ⟨rfl,rfl⟩
   go_wp2
   go_ret
   exact⟨congrArg (fun z=>Ending.returned (.bool z)) HE.out.symm,(by(repeat(first | exact Below.refl _ _ | refine bA ?_ _ | refine Below.setCell ?_ (by simp) _)))⟩
 ·have m0:(M==0)=false:=beq_eq_false_iff_ne.2 (by omega)
  have m1:(M==1)=false:=beq_eq_false_iff_ne.2 (by omega)
  have m2:1<=M:=by omega
  have m3:M<=6:=by omega
  ·have HE:Hid (dB (FitS ⟨6,N,M,S,T,ks⟩ kd)=false):=dB_false (fun h=>by simp[FitS,<-hq]at h<;>grind)
   clear hq
   go_enter Tryz.func32,Tryz.ntmps32
   go_wp2_with fail
   refine(KC.out _ (by(repeat(first | exact Below.refl _ _ | refine bA ?_ _ | refine Below.setCell ?_ (by simp) _)))).mono ?_;rintro e w1 ⟨rfl,rfl⟩
   go_wp2
   go_ret
   exact⟨congrArg (fun z=>Ending.returned (.bool z)) HE.out.symm,(by(repeat(first | exact Below.refl _ _ | refine bA ?_ _ | refine Below.setCell ?_ (by simp) _)))⟩
 ·have m0:(M==0)=false:=beq_eq_false_iff_ne.2 (by omega)
  have m1:(M==1)=false:=beq_eq_false_iff_ne.2 (by omega)
  have m2:1<=M:=by omega
  have m3:M<=6:=by omega
  ·have HE:Hid (dB (FitS ⟨6,N,M,S,T,ks⟩ kd)=false):=dB_false (fun h=>by simp[FitS,<-hq]at h<;>grind)
   clear hq
   go_enter Tryz.func32,Tryz.ntmps32
   go_wp2_with fail
   refine(KC.out _ (by(repeat(first | exact Below.refl _ _ | refine bA ?_ _ | refine Below.setCell ?_ (by simp) _)))).mono ?_;rintro e w1 ⟨rfl,rfl⟩
   go_wp2
   go_ret
   exact⟨congrArg (fun z=>Ending.returned (.bool z)) HE.out.symm,(by(repeat(first | exact Below.refl _ _ | refine bA ?_ _ | refine Below.setCell ?_ (by simp) _)))⟩
 ·have m0:(M==0)=false:=beq_eq_false_iff_ne.2 (by omega)
  have m1:(M==1)=false:=beq_eq_false_iff_ne.2 (by omega)
  have m2: ¬1<=M:=by omega
  have m3:M<=6:=by omega
  ·have HE:Hid (dB (FitS ⟨6,N,M,S,T,ks⟩ kd)=false):=dB_false (fun h=>by simp[FitS,<-hq]at h<;>grind)
   clear hq
   go_enter Tryz.func32,Tryz.ntmps32
   go_wp2_with fail
   refine(KC.out _ (by(repeat(first | exact Below.refl _ _ | refine bA ?_ _ | refine Below.setCell ?_ (by simp) _)))).mono ?_;rintro e w1 ⟨rfl,rfl⟩
   go_wp2
   go_ret
   exact⟨congrArg (fun z=>Ending.returned (.bool z)) HE.out.symm,(by(repeat(first | exact Below.refl _ _ | refine bA ?_ _ | refine Below.setCell ?_ (by simp) _)))⟩
 ·have m0:(M==0)=false:=beq_eq_false_iff_ne.2 (by omega)
  have m1:(M==1)=false:=beq_eq_false_iff_ne.2 (by omega)
  have m2:1<=M:=by omega
  have m3: ¬M<=6:=by omega
  ·have HE:Hid (dB (FitS ⟨6,N,M,S,T,ks⟩ kd)=false):=dB_false (fun h=>by simp[FitS,<-hq]at h<;>grind)
   clear hq
   go_enter Tryz.func32,Tryz.ntmps32
   go_wp2_with fail
   refine(KC.out _ (by(repeat(first | exact Below.refl _ _ | refine bA ?_ _ | refine Below.setCell ?_ (by simp) _)))).mono ?_;rintro e w1 ⟨rfl,rfl⟩
   go_wp2
   go_ret
   exact⟨congrArg (fun z=>Ending.returned (.bool z)) HE.out.symm,(by(repeat(first | exact Below.refl _ _ | refine bA ?_ _ | refine Below.setCell ?_ (by simp) _)))⟩
end Go.Proofs.YtmggnimiioepeaaGreatDoor.AX
