import Derived.Test.YtmggnimiioepeaaGreatDoorQ0
import Derived.Test.YtmggnimiioepeaaGreatDoorQ27
import Derived.Test.YtmggnimiioepeaaGreatDoorQ15
namespace Go.Proofs.YtmggnimiioepeaaGreatDoor
open Go Go.RowKit
abbrev TRules(w:World):Prop:=TabAt w 1 [.int .i64 0,.int .i64 0,.int .i64 0,.int .i64 0,.bool false,.bool false,.int .i64 (-999999999999999999),.int .i64 999999999999999999,.int .i64 0,.int .i64 0,.bool false,.bool false,.int .i64 0,.int .i64 0,.int .i64 0,.int .i64 0,.bool false,.bool false,.int .i64 0,.int .i64 999999999999999999,.int .i64 0,.int .i64 0,.bool true,.bool false,.int .i64 0,.int .i64 1,.int .i64 1,.int .i64 4,.bool false,.bool false,.int .i64 0,.int .i64 0,.int .i64 0,.int .i64 0,.bool true,.bool true,.int .i64 1,.int .i64 10000,.int .i64 0,.int .i64 1,.bool false,.bool false,.int .i64 0,.int .i64 0,.int .i64 0,.int .i64 0,.bool false,.bool false,.int .i64 0,.int .i64 0,.int .i64 1,.int .i64 6,.bool false,.bool false,.int .i64 0,.int .i64 0,.int .i64 0,.int .i64 1,.bool false,.bool false,.int .i64 0,.int .i64 0,.int .i64 0,.int .i64 0,.bool false,.bool false,.int .i64 0,.int .i64 0,.int .i64 0,.int .i64 1,.bool false,.bool false,.int .i64 1,.int .i64 2,.int .i64 1,.int .i64 6,.bool false,.bool false,.int .i64 0,.int .i64 0,.int .i64 0,.int .i64 0,.bool false,.bool false,.int .i64 0,.int .i64 0,.int .i64 0,.int .i64 0,.bool false,.bool false,.int .i64 0,.int .i64 0,.int .i64 0,.int .i64 0,.bool false,.bool false]
theorem rules_look{w:World}(h:TRules w)(K:Int)(h1:1<=K)(h2:K<=15):
  w.cell? ⟨1,K.toNat*6,none⟩=some (.int .i64 (rule K).1)/\w.cell? ⟨1,K.toNat*6+1,none⟩=some (.int .i64 (rule K).2.1)/\
  w.cell? ⟨1,K.toNat*6+2,none⟩=some (.int .i64 (rule K).2.2.1)/\w.cell? ⟨1,K.toNat*6+3,none⟩=some (.int .i64 (rule K).2.2.2.1)/\
  w.cell? ⟨1,K.toNat*6+4,none⟩=some (.bool (rule K).2.2.2.2.1)/\w.cell? ⟨1,K.toNat*6+5,none⟩=some (.bool (rule K).2.2.2.2.2):=by
 have e:K=1\/K=2\/K=3\/K=4\/K=5\/K=6\/K=7\/K=8\/K=9\/K=10\/K=11\/K=12\/K=13\/K=14\/K=15:=by omega
 rw[h.cell,h.cell,h.cell,h.cell,h.cell,h.cell]
 rcases e with rfl | rfl | rfl | rfl | rfl | rfl | rfl | rfl | rfl | rfl | rfl | rfl | rfl | rfl | rfl<;>exact⟨rfl,rfl,rfl,rfl,rfl,rfl⟩
set_option maxHeartbeats 4000000 in
theorem fieldsFit_calls(K N M:Int)(S T:ByteArray)(ks:List Int)(v:Value)(w:World)(hS:S.size<=1048576)(hTT:T.size<=1048576)(hK:TKw w)(hR:TRules w):
  Calls Tryz.prog 43 #[.agg #[.int .i64 K,.int .i64 N,.int .i64 M,.string S,.string T,v]] w fun e w'=>e= .returned (.bool (dB (Flds ⟨K,N,M,S,T,ks⟩)))/\Below w.heap.size w w':=by
 have HF:Hid (Flds ⟨K,N,M,S,T,ks⟩↔((1<=K/\K<=15)/\(K=4->(M=1↔N=0))/\
  (rule K).1<=N/\N<=(rule K).2.1/\(rule K).2.2.1<=M/\M<=(rule K).2.2.2.1/\dB (NameFits S (rule K).2.2.2.2.1)=true/\dB (NameFits T (rule K).2.2.2.2.2)=true)):=by
  show _↔_
  rw[dB_iff,dB_iff];rfl
 have NS:=fun w' (hb:Below w.heap.size w w')=>nameFits_calls S (rule K).2.2.2.2.1 w' hS (hK.of hb)
 have NT:=fun w' (hb:Below w.heap.size w w')=>nameFits_calls T (rule K).2.2.2.2.2 w' hTT (hK.of hb)
 by_cases h1:K<1
 ·have j1: ¬1<=K:=by omega
  have HNS:=hide NS;have HNT:=hide NT
  clear NS NT hK hR
  have HE:Hid (dB (Flds ⟨K,N,M,S,T,ks⟩)=false):=dB_false (fun h=>j1 (HF.out.1 h).1.1)
  clear HF
  go_enter Tryz.func43,Tryz.ntmps43
  go_wp2
  go_ret
  exact⟨congrArg (fun z=>Ending.returned (.bool z)) HE.out.symm,bA (Below.refl _ _) _⟩
 by_cases h2:15<K
 ·have j2: ¬K<=15:=by omega
  have HNS:=hide NS;have HNT:=hide NT
  clear NS NT hK hR
  have HE:Hid (dB (Flds ⟨K,N,M,S,T,ks⟩)=false):=dB_false (fun h=>j2 (HF.out.1 h).1.2)
  clear HF
  go_enter Tryz.func43,Tryz.ntmps43
  go_wp2
  go_ret
  exact⟨congrArg (fun z=>Ending.returned (.bool z)) HE.out.symm,bA (Below.refl _ _) _⟩
 obtain⟨c0,c1,c2,c3,c4,c5⟩:=rules_look hR K (by omega) (by omega)
 have hz:=hR.size
 have k0:(0:Int)<=K:=by omega
 have k16:K<16:=by omega
 clear hR hK
 have HA:Hid (K=4->(M=1↔N=0)->((K==4)=true/\(M==1)=(N==0))):=fun h h'=>by
  refine⟨by simp[h],?_⟩
  rw[Bool.eq_iff_iff]
  simpa using h'
 generalize(rule K).1=a1 at*
 generalize(rule K).2.1=a2 at*
 generalize(rule K).2.2.1=a3 at*
 generalize(rule K).2.2.2.1=a4 at*
 generalize(rule K).2.2.2.2.1=b1 at*
 generalize(rule K).2.2.2.2.2=b2 at*
 generalize dB (NameFits S b1)=d1 at*
 generalize dB (NameFits T b2)=d2 at*
 have HNS:=hide NS;have HNT:=hide NT
 clear NS NT
 cases hK4:(K==4)
 ·have HG:Hid (K=4->(M=1↔N=0)):=fun h=>by rw[h]at hK4;simp at hK4
  by_cases q0:a1<=N
  rotate_left
  ·have nq0:=q0
   have HE:Hid (dB (Flds ⟨K,N,M,S,T,ks⟩)=false):=dB_false (fun h=>nq0 (HF.out.1 h).2.2.1)
   clear HF HA
   go_enter Tryz.func43,Tryz.ntmps43
   go_wp2
   go_ret
   exact⟨congrArg (fun z=>Ending.returned (.bool z)) HE.out.symm,by(repeat(first | exact Below.refl _ _ | refine bA ?_ _ | refine Below.setCell ?_ (by simp) _))⟩
  by_cases q1:N<=a2
  rotate_left
  ·have nq1:=q1
   have HE:Hid (dB (Flds ⟨K,N,M,S,T,ks⟩)=false):=dB_false (fun h=>nq1 (HF.out.1 h).2.2.2.1)
   clear HF HA
   go_enter Tryz.func43,Tryz.ntmps43
   go_wp2
   go_ret
   exact⟨congrArg (fun z=>Ending.returned (.bool z)) HE.out.symm,by(repeat(first | exact Below.refl _ _ | refine bA ?_ _ | refine Below.setCell ?_ (by simp) _))⟩
  by_cases q2:a3<=M
  rotate_left
  ·have nq2:=q2
   have HE:Hid (dB (Flds ⟨K,N,M,S,T,ks⟩)=false):=dB_false (fun h=>nq2 (HF.out.1 h).2.2.2.2.1)
   clear HF HA
   go_enter Tryz.func43,Tryz.ntmps43
   go_wp2
   go_ret
   exact⟨congrArg (fun z=>Ending.returned (.bool z)) HE.out.symm,by(repeat(first | exact Below.refl _ _ | refine bA ?_ _ | refine Below.setCell ?_ (by simp) _))⟩
  by_cases q3:M<=a4
  rotate_left
  ·have nq3:=q3
   have HE:Hid (dB (Flds ⟨K,N,M,S,T,ks⟩)=false):=dB_false (fun h=>nq3 (HF.out.1 h).2.2.2.2.2.1)
   clear HF HA
   go_enter Tryz.func43,Tryz.ntmps43
   go_wp2
   go_ret
   exact⟨congrArg (fun z=>Ending.returned (.bool z)) HE.out.symm,by(repeat(first | exact Below.refl _ _ | refine bA ?_ _ | refine Below.setCell ?_ (by simp) _))⟩
  cases d1
  ·have HE:Hid (dB (Flds ⟨K,N,M,S,T,ks⟩)=false):=dB_false (fun h=>by have:=(HF.out.1 h).2.2.2.2.2.2.1;cases this)
   clear HF HA
   go_enter Tryz.func43,Tryz.ntmps43
   go_wp2_with fail
   refine(unhide HNS _ (by(repeat(first | exact Below.refl _ _ | refine bA ?_ _ | refine Below.setCell ?_ (by simp) _)))).mono ?_;rintro e w1 ⟨rfl,rfl⟩
   go_wp2
   go_ret
   exact⟨congrArg (fun z=>Ending.returned (.bool z)) HE.out.symm,by(repeat(first | exact Below.refl _ _ | refine bA ?_ _ | refine Below.setCell ?_ (by simp) _))⟩
  cases d2
  ·have HE:Hid (dB (Flds ⟨K,N,M,S,T,ks⟩)=false):=dB_false (fun h=>by have:=(HF.out.1 h).2.2.2.2.2.2.2;cases this)
   clear HF HA
   go_enter Tryz.func43,Tryz.ntmps43
   go_wp2_with fail
   refine(unhide HNS _ (by(repeat(first | exact Below.refl _ _ | refine bA ?_ _ | refine Below.setCell ?_ (by simp) _)))).mono ?_;rintro e w1 ⟨rfl,rfl⟩
   go_wp2_with fail
   refine(unhide HNT _ (by(repeat(first | exact Below.refl _ _ | refine bA ?_ _ | refine Below.setCell ?_ (by simp) _)))).mono ?_;rintro e w1 ⟨rfl,rfl⟩
   go_wp2
   go_ret
   exact⟨congrArg (fun z=>Ending.returned (.bool z)) HE.out.symm,by(repeat(first | exact Below.refl _ _ | refine bA ?_ _ | refine Below.setCell ?_ (by simp) _))⟩
  have HE:Hid (dB (Flds ⟨K,N,M,S,T,ks⟩)=true):=dB_true (HF.out.2 ⟨⟨by omega,by omega⟩,HG.out,q0,q1,q2,q3,rfl,rfl⟩)
  clear HF HA
  go_enter Tryz.func43,Tryz.ntmps43
  go_wp2_with fail
  refine(unhide HNS _ (by(repeat(first | exact Below.refl _ _ | refine bA ?_ _ | refine Below.setCell ?_ (by simp) _)))).mono ?_;rintro e w1 ⟨rfl,rfl⟩
  go_wp2_with fail
  refine(unhide HNT _ (by(repeat(first | exact Below.refl _ _ | refine bA ?_ _ | refine Below.setCell ?_ (by simp) _)))).mono ?_;rintro e w1 ⟨rfl,rfl⟩
  go_wp2
  go_ret
  exact⟨congrArg (fun z=>Ending.returned (.bool z)) HE.out.symm,by(repeat(first | exact Below.refl _ _ | refine bA ?_ _ | refine Below.setCell ?_ (by simp) _))⟩
 ·cases hM:(M==1)
  ·cases hN:(N==0)
   ·have HG:Hid (K=4->(M=1↔N=0)):=fun _=>by simp at hM hN;simp[hM,hN]
    by_cases q0:a1<=N
    rotate_left
    ·have nq0:=q0
     have HE:Hid (dB (Flds ⟨K,N,M,S,T,ks⟩)=false):=dB_false (fun h=>nq0 (HF.out.1 h).2.2.1)
     clear HF HA
     go_enter Tryz.func43,Tryz.ntmps43
     go_wp2
     go_ret
     exact⟨congrArg (fun z=>Ending.returned (.bool z)) HE.out.symm,by(repeat(first | exact Below.refl _ _ | refine bA ?_ _ | refine Below.setCell ?_ (by simp) _))⟩
    by_cases q1:N<=a2
    rotate_left
    ·have nq1:=q1
     have HE:Hid (dB (Flds ⟨K,N,M,S,T,ks⟩)=false):=dB_false (fun h=>nq1 (HF.out.1 h).2.2.2.1)
     clear HF HA
     go_enter Tryz.func43,Tryz.ntmps43
     go_wp2
     go_ret
     exact⟨congrArg (fun z=>Ending.returned (.bool z)) HE.out.symm,by(repeat(first | exact Below.refl _ _ | refine bA ?_ _ | refine Below.setCell ?_ (by simp) _))⟩
    by_cases q2:a3<=M
    rotate_left
    ·have nq2:=q2
     have HE:Hid (dB (Flds ⟨K,N,M,S,T,ks⟩)=false):=dB_false (fun h=>nq2 (HF.out.1 h).2.2.2.2.1)
     clear HF HA
     go_enter Tryz.func43,Tryz.ntmps43
     go_wp2
     go_ret
     exact⟨congrArg (fun z=>Ending.returned (.bool z)) HE.out.symm,by(repeat(first | exact Below.refl _ _ | refine bA ?_ _ | refine Below.setCell ?_ (by simp) _))⟩
    by_cases q3:M<=a4
    rotate_left
    ·have nq3:=q3
     have HE:Hid (dB (Flds ⟨K,N,M,S,T,ks⟩)=false):=dB_false (fun h=>nq3 (HF.out.1 h).2.2.2.2.2.1)
     clear HF HA
     go_enter Tryz.func43,Tryz.ntmps43
     go_wp2
     go_ret
     exact⟨congrArg (fun z=>Ending.returned (.bool z)) HE.out.symm,by(repeat(first | exact Below.refl _ _ | refine bA ?_ _ | refine Below.setCell ?_ (by simp) _))⟩
    cases d1
    ·have HE:Hid (dB (Flds ⟨K,N,M,S,T,ks⟩)=false):=dB_false (fun h=>by have:=(HF.out.1 h).2.2.2.2.2.2.1;cases this)
     clear HF HA
     go_enter Tryz.func43,Tryz.ntmps43
     go_wp2_with fail
     refine(unhide HNS _ (by(repeat(first | exact Below.refl _ _ | refine bA ?_ _ | refine Below.setCell ?_ (by simp) _)))).mono ?_;rintro e w1 ⟨rfl,rfl⟩
     go_wp2
     go_ret
     exact⟨congrArg (fun z=>Ending.returned (.bool z)) HE.out.symm,by(repeat(first | exact Below.refl _ _ | refine bA ?_ _ | refine Below.setCell ?_ (by simp) _))⟩
    cases d2
    ·have HE:Hid (dB (Flds ⟨K,N,M,S,T,ks⟩)=false):=dB_false (fun h=>by have:=(HF.out.1 h).2.2.2.2.2.2.2;cases this)
     clear HF HA
     go_enter Tryz.func43,Tryz.ntmps43
     go_wp2_with fail
     refine(unhide HNS _ (by(repeat(first | exact Below.refl _ _ | refine bA ?_ _ | refine Below.setCell ?_ (by simp) _)))).mono ?_;rintro e w1 ⟨rfl,rfl⟩
     go_wp2_with fail
     refine(unhide HNT _ (by(repeat(first | exact Below.refl _ _ | refine bA ?_ _ | refine Below.setCell ?_ (by simp) _)))).mono ?_;rintro e w1 ⟨rfl,rfl⟩
     go_wp2
     go_ret
     exact⟨congrArg (fun z=>Ending.returned (.bool z)) HE.out.symm,by(repeat(first | exact Below.refl _ _ | refine bA ?_ _ | refine Below.setCell ?_ (by simp) _))⟩
    have HE:Hid (dB (Flds ⟨K,N,M,S,T,ks⟩)=true):=dB_true (HF.out.2 ⟨⟨by omega,by omega⟩,HG.out,q0,q1,q2,q3,rfl,rfl⟩)
    clear HF HA
    go_enter Tryz.func43,Tryz.ntmps43
    go_wp2_with fail
    refine(unhide HNS _ (by(repeat(first | exact Below.refl _ _ | refine bA ?_ _ | refine Below.setCell ?_ (by simp) _)))).mono ?_;rintro e w1 ⟨rfl,rfl⟩
    go_wp2_with fail
    refine(unhide HNT _ (by(repeat(first | exact Below.refl _ _ | refine bA ?_ _ | refine Below.setCell ?_ (by simp) _)))).mono ?_;rintro e w1 ⟨rfl,rfl⟩
    go_wp2
    go_ret
    exact⟨congrArg (fun z=>Ending.returned (.bool z)) HE.out.symm,by(repeat(first | exact Below.refl _ _ | refine bA ?_ _ | refine Below.setCell ?_ (by simp) _))⟩
   ·have HG:Hid (¬(K=4->(M=1↔N=0))):=fun h=>by
     have:=h (by simpa using hK4)
     simp at hM hN
     exact hM (this.2 hN)
    have HE:Hid (dB (Flds ⟨K,N,M,S,T,ks⟩)=false):=dB_false (fun h=>HG.out (HF.out.1 h).2.1)
    clear HF HA
    go_enter Tryz.func43,Tryz.ntmps43
    go_wp2
    go_ret
    exact⟨congrArg (fun z=>Ending.returned (.bool z)) HE.out.symm,by(repeat(first | exact Below.refl _ _ | refine bA ?_ _ | refine Below.setCell ?_ (by simp) _))⟩
  ·cases hN:(N==0)
   ·have HG:Hid (¬(K=4->(M=1↔N=0))):=fun h=>by
     have:=h (by simpa using hK4)
     simp at hM hN
     exact hN (this.1 hM)
    have HE:Hid (dB (Flds ⟨K,N,M,S,T,ks⟩)=false):=dB_false (fun h=>HG.out (HF.out.1 h).2.1)
    clear HF HA
    go_enter Tryz.func43,Tryz.ntmps43
    go_wp2
    go_ret
    exact⟨congrArg (fun z=>Ending.returned (.bool z)) HE.out.symm,by(repeat(first | exact Below.refl _ _ | refine bA ?_ _ | refine Below.setCell ?_ (by simp) _))⟩
   ·have HG:Hid (K=4->(M=1↔N=0)):=fun _=>by simp at hM hN;simp[hM,hN]
    by_cases q0:a1<=N
    rotate_left
    ·have nq0:=q0
     have HE:Hid (dB (Flds ⟨K,N,M,S,T,ks⟩)=false):=dB_false (fun h=>nq0 (HF.out.1 h).2.2.1)
     clear HF HA
     go_enter Tryz.func43,Tryz.ntmps43
     go_wp2
     go_ret
     exact⟨congrArg (fun z=>Ending.returned (.bool z)) HE.out.symm,by(repeat(first | exact Below.refl _ _ | refine bA ?_ _ | refine Below.setCell ?_ (by simp) _))⟩
    by_cases q1:N<=a2
    rotate_left
    ·have nq1:=q1
     have HE:Hid (dB (Flds ⟨K,N,M,S,T,ks⟩)=false):=dB_false (fun h=>nq1 (HF.out.1 h).2.2.2.1)
     clear HF HA
     go_enter Tryz.func43,Tryz.ntmps43
     go_wp2
     go_ret
     exact⟨congrArg (fun z=>Ending.returned (.bool z)) HE.out.symm,by(repeat(first | exact Below.refl _ _ | refine bA ?_ _ | refine Below.setCell ?_ (by simp) _))⟩
    by_cases q2:a3<=M
    rotate_left
    ·have nq2:=q2
     have HE:Hid (dB (Flds ⟨K,N,M,S,T,ks⟩)=false):=dB_false (fun h=>nq2 (HF.out.1 h).2.2.2.2.1)
     clear HF HA
     go_enter Tryz.func43,Tryz.ntmps43
     go_wp2
     go_ret
     exact⟨congrArg (fun z=>Ending.returned (.bool z)) HE.out.symm,by(repeat(first | exact Below.refl _ _ | refine bA ?_ _ | refine Below.setCell ?_ (by simp) _))⟩
    by_cases q3:M<=a4
    rotate_left
    ·have nq3:=q3
     have HE:Hid (dB (Flds ⟨K,N,M,S,T,ks⟩)=false):=dB_false (fun h=>nq3 (HF.out.1 h).2.2.2.2.2.1)
     clear HF HA
     go_enter Tryz.func43,Tryz.ntmps43
     go_wp2
     go_ret
     exact⟨congrArg (fun z=>Ending.returned (.bool z)) HE.out.symm,by(repeat(first | exact Below.refl _ _ | refine bA ?_ _ | refine Below.setCell ?_ (by simp) _))⟩
    cases d1
    ·have HE:Hid (dB (Flds ⟨K,N,M,S,T,ks⟩)=false):=dB_false (fun h=>by have:=(HF.out.1 h).2.2.2.2.2.2.1;cases this)
     clear HF HA
     go_enter Tryz.func43,Tryz.ntmps43
     go_wp2_with fail
     refine(unhide HNS _ (by(repeat(first | exact Below.refl _ _ | refine bA ?_ _ | refine Below.setCell ?_ (by simp) _)))).mono ?_;rintro e w1 ⟨rfl,rfl⟩
     go_wp2
     go_ret
     exact⟨congrArg (fun z=>Ending.returned (.bool z)) HE.out.symm,by(repeat(first | exact Below.refl _ _ | refine bA ?_ _ | refine Below.setCell ?_ (by simp) _))⟩
    cases d2
    ·have HE:Hid (dB (Flds ⟨K,N,M,S,T,ks⟩)=false):=dB_false (fun h=>by have:=(HF.out.1 h).2.2.2.2.2.2.2;cases this)
     clear HF HA
     go_enter Tryz.func43,Tryz.ntmps43
     go_wp2_with fail
     refine(unhide HNS _ (by(repeat(first | exact Below.refl _ _ | refine bA ?_ _ | refine Below.setCell ?_ (by simp) _)))).mono ?_;rintro e w1 ⟨rfl,rfl⟩
     go_wp2_with fail
     refine(unhide HNT _ (by(repeat(first | exact Below.refl _ _ | refine bA ?_ _ | refine Below.setCell ?_ (by simp) _)))).mono ?_;rintro e w1 ⟨rfl,rfl⟩
     go_wp2
     go_ret
     exact⟨congrArg (fun z=>Ending.returned (.bool z)) HE.out.symm,by(repeat(first | exact Below.refl _ _ | refine bA ?_ _ | refine Below.setCell ?_ (by simp) _))⟩
    have HE:Hid (dB (Flds ⟨K,N,M,S,T,ks⟩)=true):=dB_true (HF.out.2 ⟨⟨by omega,by omega⟩,HG.out,q0,q1,q2,q3,rfl,rfl⟩)
    clear HF HA
    go_enter Tryz.func43,Tryz.ntmps43
    go_wp2_with fail
    refine(unhide HNS _ (by(repeat(first | exact Below.refl _ _ | refine bA ?_ _ | refine Below.setCell ?_ (by simp) _)))).mono ?_;rintro e w1 ⟨rfl,rfl⟩
    go_wp2_with fail
    refine(unhide HNT _ (by(repeat(first | exact Below.refl _ _ | refine bA ?_ _ | refine Below.setCell ?_ (by simp) _)))).mono ?_;rintro e w1 ⟨rfl,rfl⟩
    go_wp2
    go_ret
    exact⟨congrArg (fun z=>Ending.returned (.bool z)) HE.out.symm,by(repeat(first | exact Below.refl _ _ | refine bA ?_ _ | refine Below.setCell ?_ (by simp) _))⟩
end Go.Proofs.YtmggnimiioepeaaGreatDoor
namespace Go.Proofs.YtmggnimiioepeaaGreatDoor
open Go Go.RowKit
theorem IntsAt.drop{w:World}{g off:Nat}{xs:List Int}(h:IntsAt w g off xs)(m:Nat):IntsAt w g (off+m) (xs.drop m):=fun i x hx=>by
 rw[List.getElem?_drop]at hx
 have:=h (m+i) x hx
 rw[show off+m+i=off+(m+i)by omega]
 exact this
theorem IntsAt.take{w:World}{g off:Nat}{xs:List Int}(h:IntsAt w g off xs)(m:Nat):IntsAt w g off (xs.take m):=fun i x hx=>by
 have hi:=(List.getElem?_eq_some_iff.1 hx).1
 rw[List.getElem?_take]at hx
 split at hx
 ·exact h i x hx
 ·cases hx
theorem dropLast_take(xs:List Int)(m:Nat):(xs.drop m).dropLast=(xs.drop m).take (xs.length-m-1):=by
 rw[List.dropLast_eq_take,List.length_drop]
theorem BlkI_iff(xs:List Int)(m:Nat)(h:m<=xs.length)(ys:List Int)(hy:cutI (xs.drop m)=ys):
  BlkI xs m↔(dB ((∀x∈xs.take m,scB x=true)/\(0:Int)<=((xs.take m).length:Int))=true/\dB ((∀x∈ys,fives x=true)/\(1:Int)<=(ys.length:Int))=true):=by
 unfold BlkI
 simp only[Int.toNat_natCast]
 rw[hy,dB_iff,dB_iff]
 constructor
 ·intro⟨_,h2,h3,h4⟩;exact⟨⟨h2,by omega⟩,h3,by omega⟩
 ·intro⟨⟨h2,_⟩,h3,h4⟩;exact⟨by omega,h2,h3,by omega⟩
set_option maxHeartbeats 2000000 in
theorem blockFits_calls(xs:List Int)(g off m:Nat)(w:World)(hg:g<w.heap.size)(hx:IntsAt w g off xs)(hl:xs.length<=1048576)(hm:m<=1048576):
  Calls Tryz.prog 73 #[.int .i64 (m:Int),.slice (some ⟨g,off,none⟩) xs.length xs.length] w fun e w'=>e= .returned (.bool (dB (BlkI xs m)))/\w'=w:=by
 by_cases hA:(xs.length:Int)<(m:Int)
 ·have HB:Hid (¬BlkI xs m):=fun h=>by have:=h.1;omega
  have HE:Hid (dB (BlkI xs m)=false):=dB_false HB.out
  clear HB
  go_enter Tryz.func73,Tryz.ntmps73
  go_wp2
  go_ret
  exact⟨congrArg (fun z=>Ending.returned (.bool z)) HE.out.symm,rfl⟩
 have hle:m<=xs.length:=by omega
 have hle':(m:Int)<=(xs.length:Int):=by omega
 have AS:=allScalar_calls (xs.take m) g off xs.length 0 w (hx.take m) (by simp;omega)
 have hlt:(xs.take m).length=m:=by simp;omega
 by_cases h0:xs.length=m
 ·have hr:xs.drop m=[]:=by rw[List.drop_eq_nil_iff];omega
  have HB:=hide (BlkI_iff xs m hle [] (by rw[hr];rfl))
  have BS:=allSource_calls [] g off 0 1 w (fun i x hx=>by simp at hx) (by simp)
  generalize dB ((∀x∈xs.take m,scB x=true)/\(0:Int)<=((xs.take m).length:Int))=b1 at*
  generalize dB ((∀x∈([]:List Int),fives x=true)/\(1:Int)<=(([]:List Int).length:Int))=b2 at*
  rw[hlt]at AS
  rw[List.length_nil]at BS
  have HAS:=hide AS;have HBS:=hide BS
  have HX:=hide hx
  clear AS BS hlt hr hx hA hle hle'
  subst h0
  cases b1
  ·have HE:Hid (dB (BlkI xs (xs.length:Int))=false):=dB_false (fun h=>by have:=(HB.out.1 h).1;cases this)
   clear HB
   go_enter Tryz.func73,Tryz.ntmps73
   go_wp2_with fail
   refine(unhide HAS).mono ?_;rintro e w1 ⟨rfl,rfl⟩
   go_wp2
   go_ret
   exact⟨congrArg (fun z=>Ending.returned (.bool z)) HE.out.symm,rfl⟩
  ·cases b2
   ·have HE:Hid (dB (BlkI xs (xs.length:Int))=false):=dB_false (fun h=>by have:=(HB.out.1 h).2;cases this)
    clear HB
    go_enter Tryz.func73,Tryz.ntmps73
    go_wp2_with fail
    refine(unhide HAS).mono ?_;rintro e w1 ⟨rfl,rfl⟩
    go_wp2_with fail
    refine(unhide HBS).mono ?_;rintro e w1 ⟨rfl,rfl⟩
    go_wp2
    go_ret
    exact⟨congrArg (fun z=>Ending.returned (.bool z)) HE.out.symm,rfl⟩
   ·have HE:Hid (dB (BlkI xs (xs.length:Int))=true):=dB_true (HB.out.2 ⟨rfl,rfl⟩)
    clear HB
    go_enter Tryz.func73,Tryz.ntmps73
    go_wp2_with fail
    refine(unhide HAS).mono ?_;rintro e w1 ⟨rfl,rfl⟩
    go_wp2_with fail
    refine(unhide HBS).mono ?_;rintro e w1 ⟨rfl,rfl⟩
    go_wp2
    go_ret
    exact⟨congrArg (fun z=>Ending.returned (.bool z)) HE.out.symm,rfl⟩
 have hlast:xs.length-1<xs.length:=by omega
 have e0:=hx.at (xs.length-1) hlast
 obtain⟨L,hLl⟩: ∃L,xs.length=m+(L+1):=⟨xs.length-m-1,by omega⟩
 rw[show off+(xs.length-1)=off+m+L by omega]at e0
 have CC:=isCond_calls xs[xs.length-1] w
 have hgl:(xs.drop m).getLast?=some xs[xs.length-1]:=by
  rw[List.getLast?_eq_getElem?,List.getElem?_drop,List.length_drop,show m+(xs.length-m-1)=xs.length-1 by omega,List.getElem?_eq_getElem hlast]
 have hcut:cutI (xs.drop m)=if cdB xs[xs.length-1]=true then(xs.drop m).dropLast else xs.drop m:=by
  unfold cutI
  rw[hgl]
  simp
 generalize xs[xs.length-1]=x at*
 generalize hcd:cdB x=c at*
 have j2:(m:Int)<(xs.length:Int):=by omega
 cases c
 ·have HB:=hide (BlkI_iff xs m hle (xs.drop m) (by rw[hcut];rfl))
  have BS:=allSource_calls (xs.drop m) g (off+m) (xs.length-m) 1 w (hx.drop m) (by simp;omega)
  generalize dB ((∀x∈xs.take m,scB x=true)/\(0:Int)<=((xs.take m).length:Int))=b1 at*
  generalize dB ((∀x∈xs.drop m,fives x=true)/\(1:Int)<=((xs.drop m).length:Int))=b2 at*
  rw[hlt]at AS
  rw[List.length_drop,show xs.length-m=L+1 by omega]at BS
  have HAS:=hide AS;have HBS:=hide BS;have HCC:=hide CC
  clear AS BS CC hlt hx hcut hgl hA hle hle' h0 hlast hcd
  generalize xs.length=n at*
  subst hLl
  cases b1
  ·have HE:Hid (dB (BlkI xs m)=false):=dB_false (fun h=>by have:=(HB.out.1 h).1;cases this)
   clear HB
   go_enter Tryz.func73,Tryz.ntmps73
   go_wp2_with fail
   refine(unhide HCC).mono ?_;rintro e w1 ⟨rfl,rfl⟩
   go_wp2_with fail
   refine(unhide HAS).mono ?_;rintro e w1 ⟨rfl,rfl⟩
   go_wp2
   go_ret
   exact⟨congrArg (fun z=>Ending.returned (.bool z)) HE.out.symm,rfl⟩
  ·cases b2
   ·have HE:Hid (dB (BlkI xs m)=false):=dB_false (fun h=>by have:=(HB.out.1 h).2;cases this)
    clear HB
    go_enter Tryz.func73,Tryz.ntmps73
    go_wp2_with fail
    refine(unhide HCC).mono ?_;rintro e w1 ⟨rfl,rfl⟩
    go_wp2_with fail
    refine(unhide HAS).mono ?_;rintro e w1 ⟨rfl,rfl⟩
    go_wp2_with fail
    refine(unhide HBS).mono ?_;rintro e w1 ⟨rfl,rfl⟩
    go_wp2
    go_ret
    exact⟨congrArg (fun z=>Ending.returned (.bool z)) HE.out.symm,rfl⟩
   ·have HE:Hid (dB (BlkI xs m)=true):=dB_true (HB.out.2 ⟨rfl,rfl⟩)
    clear HB
    go_enter Tryz.func73,Tryz.ntmps73
    go_wp2_with fail
    refine(unhide HCC).mono ?_;rintro e w1 ⟨rfl,rfl⟩
    go_wp2_with fail
    refine(unhide HAS).mono ?_;rintro e w1 ⟨rfl,rfl⟩
    go_wp2_with fail
    refine(unhide HBS).mono ?_;rintro e w1 ⟨rfl,rfl⟩
    go_wp2
    go_ret
    exact⟨congrArg (fun z=>Ending.returned (.bool z)) HE.out.symm,rfl⟩
 ·have HB:=hide (BlkI_iff xs m hle (xs.drop m).dropLast (by rw[hcut];rfl))
  have BS:=allSource_calls (xs.drop m).dropLast g (off+m) (xs.length-m) 1 w (by rw[dropLast_take];exact(hx.drop m).take _) (by simp;omega)
  generalize dB ((∀x∈xs.take m,scB x=true)/\(0:Int)<=((xs.take m).length:Int))=b1 at*
  generalize dB ((∀x∈(xs.drop m).dropLast,fives x=true)/\(1:Int)<=(((xs.drop m).dropLast).length:Int))=b2 at*
  rw[hlt]at AS
  rw[List.length_dropLast,List.length_drop,show xs.length-m-1=L by omega,show xs.length-m=L+1 by omega]at BS
  have HAS:=hide AS;have HBS:=hide BS;have HCC:=hide CC
  clear AS BS CC hlt hx hcut hgl hA hle hle' h0 hlast hcd
  generalize xs.length=n at*
  subst hLl
  cases b1
  ·have HE:Hid (dB (BlkI xs m)=false):=dB_false (fun h=>by have:=(HB.out.1 h).1;cases this)
   clear HB
   go_enter Tryz.func73,Tryz.ntmps73
   go_wp2_with fail
   refine(unhide HCC).mono ?_;rintro e w1 ⟨rfl,rfl⟩
   go_wp2_with fail
   refine(unhide HAS).mono ?_;rintro e w1 ⟨rfl,rfl⟩
   go_wp2
   go_ret
   exact⟨congrArg (fun z=>Ending.returned (.bool z)) HE.out.symm,rfl⟩
  ·cases b2
   ·have HE:Hid (dB (BlkI xs m)=false):=dB_false (fun h=>by have:=(HB.out.1 h).2;cases this)
    clear HB
    go_enter Tryz.func73,Tryz.ntmps73
    go_wp2_with fail
    refine(unhide HCC).mono ?_;rintro e w1 ⟨rfl,rfl⟩
    go_wp2_with fail
    refine(unhide HAS).mono ?_;rintro e w1 ⟨rfl,rfl⟩
    go_wp2_with fail
    refine(unhide HBS).mono ?_;rintro e w1 ⟨rfl,rfl⟩
    go_wp2
    go_ret
    exact⟨congrArg (fun z=>Ending.returned (.bool z)) HE.out.symm,rfl⟩
   ·have HE:Hid (dB (BlkI xs m)=true):=dB_true (HB.out.2 ⟨rfl,rfl⟩)
    clear HB
    go_enter Tryz.func73,Tryz.ntmps73
    go_wp2_with fail
    refine(unhide HCC).mono ?_;rintro e w1 ⟨rfl,rfl⟩
    go_wp2_with fail
    refine(unhide HAS).mono ?_;rintro e w1 ⟨rfl,rfl⟩
    go_wp2_with fail
    refine(unhide HBS).mono ?_;rintro e w1 ⟨rfl,rfl⟩
    go_wp2
    go_ret
    exact⟨congrArg (fun z=>Ending.returned (.bool z)) HE.out.symm,rfl⟩
end Go.Proofs.YtmggnimiioepeaaGreatDoor
