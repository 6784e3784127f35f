import Derived.Test.YtmggnimiioepeaaGreatDoorQ0
import Derived.Test.YtmggnimiioepeaaGreatDoorPaPrim
namespace Go.Proofs.YtmggnimiioepeaaGreatDoor.Pa
open Go Go.RowKit
set_option maxHeartbeats 8000000 in
set_option maxRecDepth 100000 in
theorem prim_none(w0:World)(ad:Option Addr)(c:Nat)(L:List (Tok×ByteArray))(f:Nat)(hL:L.length<=1000000)(hT:TksS w0 ad L)(W:World)(lab:Lbl)(na:Option Addr)(nc:Nat)(ns:List Nd)(a b:Nat)(hP:Pre w0 L W lab na nc ns .prim (f+1) a b)(h1: ∀r,sgm (tks L) a b≠ .sy 20::r)(h2: ∀r,sgm (tks L) a b≠ .sy 21::r)(h3: ∀r,sgm (tks L) a b≠ .sy 0::r)(hop:opS 0 (sgm (tks L) a b)=none):
  Calls Tryz.prog 94 #[.slice ad L.length c,.int .i64 (a:Int),.int .i64 (b:Int),.slice na ns.length nc] W (PE w0.heap.size W lab na ns (sP (f+1) .prim (sgm (tks L) a b)) (b-a)):=by
 have hab:=hP.ab
 have hbl:=hP.bl
 have hln:=hP.ln
 have hfu:=hP.fu
 simp only[rnk]at hfu
 have hbt:b<=(tks L).length:=by simp;omega
 have hTW:=hP.tk hT
 have hzz:w0.heap.size<=W.heap.size:=hP.be.size
 obtain⟨RR,hRR⟩: ∃RR,RR=sP (f+1) .prim (sgm (tks L) a b):=⟨_,rfl⟩
 rw[<-hRR]
 have HI:=hide (l2Is_calls L ad c W hTW a b hbl ⟨#[78,79,84]⟩ 20 (by omega) (Go.ByteArray.toList_mk [78,79,84]))
 rw[is_dec hbt]at HI
 have HI0:=hide (l2Is_calls L ad c W hTW a b hbl ⟨#[40]⟩ 0 (by omega) (Go.ByteArray.toList_mk [40]))
 rw[is_dec hbt]at HI0
 have HI1:=hide (l2Is_calls L ad c W hTW a b hbl ⟨#[69,88,73,83,84,83]⟩ 21 (by omega) (Go.ByteArray.toList_mk [69,88,73,83,84,83]))
 rw[is_dec hbt]at HI1
 rw[dB_false (fun⟨r',e⟩=>h1 r' e)]at HI
 rw[dB_false (fun⟨r',e⟩=>h2 r' e)]at HI1
 rw[dB_false (fun⟨r',e⟩=>h3 r' e)]at HI0
 rw[prim_opS h1 h2 (fun r e=>absurd e (h3 r))]at hRR
 have HOp:=hide (l2Operator_calls L ad c W hL hTW a b hab hbl)
 rw[opAt_neg hop]at HOp
 rw[hop]at hRR
 have HR:=hide hRR;have HP:=hide hP
 clear hRR h1 h2 h3 hTW hP hT hop
 go_enter Tryz.func94,Tryz.ntmps94
 go_wp2_with fail
 refine(unhide HI).mono ?_;rintro e wI ⟨rfl,rfl⟩
 go_wp2_with fail
 refine(unhide HI0).mono ?_;rintro e wI ⟨rfl,rfl⟩
 go_wp2_with fail
 refine(unhide HI1).mono ?_;rintro e wI ⟨rfl,rfl⟩
 go_wp2_with fail
 refine(unhide HOp).mono ?_;rintro e wI ⟨rfl,rfl⟩
 go_wp2
 go_returns
 refine⟨na,nc,lab,ns,?_,(unhide HP).ns,Fr.refl _ _ _,by omega,fun t ht=> ?_⟩
 ·rw[unhide HR];rfl
 ·rw[unhide HR]at ht;cases ht
set_option maxHeartbeats 8000000 in
set_option maxRecDepth 100000 in
theorem prim_noneB(w0:World)(ad:Option Addr)(c:Nat)(L:List (Tok×ByteArray))(f:Nat)(hL:L.length<=1000000)(hT:TksS w0 ad L)(W:World)(lab:Lbl)(na:Option Addr)(nc:Nat)(ns:List Nd)(a b:Nat)(hP:Pre w0 L W lab na nc ns .prim (f+1) a b)(h1: ∀r,sgm (tks L) a b≠ .sy 20::r)(h2: ∀r,sgm (tks L) a b≠ .sy 21::r)(r0:List Tok)(h3:sgm (tks L) a b= .sy 0:: .sy 11::r0)(hop:opS 0 (sgm (tks L) a b)=none):
  Calls Tryz.prog 94 #[.slice ad L.length c,.int .i64 (a:Int),.int .i64 (b:Int),.slice na ns.length nc] W (PE w0.heap.size W lab na ns (sP (f+1) .prim (sgm (tks L) a b)) (b-a)):=by
 have hab:=hP.ab
 have hbl:=hP.bl
 have hln:=hP.ln
 have hfu:=hP.fu
 simp only[rnk]at hfu
 have hbt:b<=(tks L).length:=by simp;omega
 have hTW:=hP.tk hT
 have hzz:w0.heap.size<=W.heap.size:=hP.be.size
 obtain⟨RR,hRR⟩: ∃RR,RR=sP (f+1) .prim (sgm (tks L) a b):=⟨_,rfl⟩
 rw[<-hRR]
 have HI:=hide (l2Is_calls L ad c W hTW a b hbl ⟨#[78,79,84]⟩ 20 (by omega) (Go.ByteArray.toList_mk [78,79,84]))
 rw[is_dec hbt]at HI
 have HI0:=hide (l2Is_calls L ad c W hTW a b hbl ⟨#[40]⟩ 0 (by omega) (Go.ByteArray.toList_mk [40]))
 rw[is_dec hbt]at HI0
 have HI1:=hide (l2Is_calls L ad c W hTW a b hbl ⟨#[69,88,73,83,84,83]⟩ 21 (by omega) (Go.ByteArray.toList_mk [69,88,73,83,84,83]))
 rw[is_dec hbt]at HI1
 rw[dB_false (fun⟨r',e⟩=>h1 r' e)]at HI
 rw[dB_false (fun⟨r',e⟩=>h2 r' e)]at HI1
 rw[dB_true ⟨_,h3⟩]at HI0
 have hlt:a<b:=((is_head hbt).2 ⟨_,h3⟩).1
 obtain⟨t0,_,e0⟩:=sgm_head (tks L) a b hlt hbt
 have hr1:sgm (tks L) (a+1) b= .sy 11::r0:=by rw[e0]at h3;simp only[List.cons.injEq]at h3;exact h3.2
 have HIs:=hide (l2Is_calls L ad c W hTW (a+1) b hbl ⟨#[83,69,76,69,67,84]⟩ 11 (by omega) (Go.ByteArray.toList_mk [83,69,76,69,67,84]))
 rw[is_dec hbt]at HIs
 rw[dB_true ⟨r0,hr1⟩,show((a+1:Nat):Int)=(a:Int)+1 by omega]at HIs
 rw[prim_opS h1 h2 (fun r e=>by rw[h3]at e;simp only[List.cons.injEq,true_and]at e;exact⟨r0,e.symm⟩)]at hRR
 clear hr1 e0
 have HOp:=hide (l2Operator_calls L ad c W hL hTW a b hab hbl)
 rw[opAt_neg hop]at HOp
 rw[hop]at hRR
 have HR:=hide hRR;have HP:=hide hP
 clear hRR h1 h2 h3 hTW hP hT hop
 go_enter Tryz.func94,Tryz.ntmps94
 go_wp2_with fail
 refine(unhide HI).mono ?_;rintro e wI ⟨rfl,rfl⟩
 go_wp2_with fail
 refine(unhide HI0).mono ?_;rintro e wI ⟨rfl,rfl⟩
 go_wp2_with fail
 refine(unhide HIs).mono ?_;rintro e wI ⟨rfl,rfl⟩
 go_wp2_with fail
 refine(unhide HI1).mono ?_;rintro e wI ⟨rfl,rfl⟩
 go_wp2_with fail
 refine(unhide HOp).mono ?_;rintro e wI ⟨rfl,rfl⟩
 go_wp2
 go_returns
 refine⟨na,nc,lab,ns,?_,(unhide HP).ns,Fr.refl _ _ _,by omega,fun t ht=> ?_⟩
 ·rw[unhide HR];rfl
 ·rw[unhide HR]at ht;cases ht
set_option maxHeartbeats 8000000 in
set_option maxRecDepth 100000 in
theorem prim_is(w0:World)(ad:Option Addr)(c:Nat)(L:List (Tok×ByteArray))(f:Nat)(hL:L.length<=1000000)(hT:TksS w0 ad L)(H:SHyp w0 ad c L f)(W:World)(lab:Lbl)(na:Option Addr)(nc:Nat)(ns:List Nd)(a b:Nat)(hP:Pre w0 L W lab na nc ns .prim (f+1) a b)(h1: ∀r,sgm (tks L) a b≠ .sy 20::r)(h2: ∀r,sgm (tks L) a b≠ .sy 21::r)(h3: ∀r,sgm (tks L) a b≠ .sy 0::r)(x y:List Tok)(hop:opS 0 (sgm (tks L) a b)=some (x,.sy 23,y)):
  Calls Tryz.prog 94 #[.slice ad L.length c,.int .i64 (a:Int),.int .i64 (b:Int),.slice na ns.length nc] W (PE w0.heap.size W lab na ns (sP (f+1) .prim (sgm (tks L) a b)) (b-a)):=by
 obtain⟨tn,htn,hy⟩:=Option.map_eq_some_iff.1 (show(Tryz.prog.info? 62).map (fun i=>(i.zero,i.size,i.bytes))=some (some (.agg #[.int .i64 0,.int .i64 0,.int .i64 0,.string ⟨#[]⟩,.string ⟨#[]⟩,.slice none 0 0]),6,80)by kernel_rfl)
 simp only[Prod.mk.injEq]at hy
 obtain⟨hy0,hy1,hy2⟩:=hy
 have hab:=hP.ab
 have hbl:=hP.bl
 have hln:=hP.ln
 have hfu:=hP.fu
 simp only[rnk]at hfu
 have hbt:b<=(tks L).length:=by simp;omega
 have hTW:=hP.tk hT
 have hzz:w0.heap.size<=W.heap.size:=hP.be.size
 obtain⟨RR,hRR⟩: ∃RR,RR=sP (f+1) .prim (sgm (tks L) a b):=⟨_,rfl⟩
 rw[<-hRR]
 have HI:=hide (l2Is_calls L ad c W hTW a b hbl ⟨#[78,79,84]⟩ 20 (by omega) (Go.ByteArray.toList_mk [78,79,84]))
 rw[is_dec hbt]at HI
 have HI0:=hide (l2Is_calls L ad c W hTW a b hbl ⟨#[40]⟩ 0 (by omega) (Go.ByteArray.toList_mk [40]))
 rw[is_dec hbt]at HI0
 have HI1:=hide (l2Is_calls L ad c W hTW a b hbl ⟨#[69,88,73,83,84,83]⟩ 21 (by omega) (Go.ByteArray.toList_mk [69,88,73,83,84,83]))
 rw[is_dec hbt]at HI1
 rw[dB_false (fun⟨r',e⟩=>h1 r' e)]at HI
 rw[dB_false (fun⟨r',e⟩=>h2 r' e)]at HI1
 rw[dB_false (fun⟨r',e⟩=>h3 r' e)]at HI0
 rw[prim_opS h1 h2 (fun r e=>absurd e (h3 r))]at hRR
 have HOp:=hide (l2Operator_calls L ad c W hL hTW a b hab hbl)
 obtain⟨p,hop1,hap,hpb,hx,hcp,hy,_⟩:=opS_at hab hbt hop
 rw[hop1]at HOp
 rw[hop]at hRR
 simp only[]at hRR
 rw[hx]at hRR
 have hcall:=H.sc W lab na nc ns a p ⟨hap,by omega,by simp only[rnk];omega,hP.be,hP.ns,by omega⟩
 have HRR:=hide hRR;have HH:=hide H;have HNi:=hide hP.ns;have HBe:=hide hP.be;have HT0:=hide hT;have HYy:=hide hy;have HCp:=hide hcp
 clear hRR h1 h2 h3 hTW H hP hT hop hop1 hx hy hcp
 go_enter Tryz.func94,Tryz.ntmps94
 go_wp2_with fail
 refine(unhide HI).mono ?_;rintro e wI ⟨rfl,rfl⟩
 go_wp2_with fail
 refine(unhide HI0).mono ?_;rintro e wI ⟨rfl,rfl⟩
 go_wp2_with fail
 refine(unhide HI1).mono ?_;rintro e wI ⟨rfl,rfl⟩
 go_wp2_with fail
 refine(unhide HOp).mono ?_;rintro e wI ⟨rfl,rfl⟩
 rcases sP_one (f:=f) (nt:= .scal) (xs:=sgm (tks L) a p) (by simp[single])with hr | ⟨t,hr⟩
 ·rw[hr]at hcall
  have HC:=hide hcall
  have HR:Hid (RR=none):=by
   show RR=none
   rw[unhide HRR,hr]
  clear hcall hr
  go_wp2_with fail
  refine(unhide HC).mono ?_
  intro e w2 hpe
  obtain⟨na2,nc2,lab2,ns2,rfl,hN2,hF2,hl2⟩:=hpe.no
  have HN2:=hide hN2;have HF2:=hide hF2
  clear hN2 hF2 HC hpe
  go_wp2
  go_returns
  refine⟨na2,nc2,lab2,ns2,?_,unhide HN2,unhide HF2,by omega,fun t ht=> ?_⟩
  ·rw[unhide HR];rfl
  ·rw[unhide HR]at ht;cases ht
 rw[hr]at hcall HRR
 simp only[]at HRR
 have HC:=hide hcall
 clear hcall hr
 go_wp2_with fail
 refine(unhide HC).mono ?_
 intro e w2 hpe
 obtain⟨na2,nc2,lab2,ns2,rfl,hN2,hF2,hl2,he2⟩:=hpe.yes
 have hbe2:Below w0.heap.size w0 w2:=(unhide HBe).trans (hF2.below hzz (unhide HNi))
 have HTk2:=hide ((unhide HT0).of hbe2)
 obtain⟨Sk,g,bb,V,hok,rfl,hgl,hfm,c0,-,-⟩:=(unhide HTk2).cells (unhide HCp)
 have HN2:=hide hN2;have HF2:=hide hF2;have HE2:=hide he2
 have hn21:1<=ns2.length:=by rw[he2];have:=lay_pos t ns.length;simp;omega
 have j2:(p:Int)<(L.length:Int):=by omega
 have hzw2:w0.heap.size<=w2.heap.size:=hbe2.size
 clear hN2 hF2 he2 HC hpe hfm hbe2
 have tIS:(Sk.toList==[73,83])=true:=by
  rw[show([73,83]:List UInt8)=syT 23 from rfl,text_beq hok 23 (by omega)]
  exact decide_eq_true (rfl)
 have HIn:=hide (l2Is_calls L (some ⟨g,0,none⟩) c w2 (unhide HTk2) (p+1) b hbl ⟨#[78,79,84]⟩ 20 (by omega) (Go.ByteArray.toList_mk [78,79,84]))
 rw[is_dec hbt,show((p+1:Nat):Int)=(p:Int)+1 by omega]at HIn
 unfold opndS at HRR
 simp only[if_true]at HRR
 by_cases hnot: ∃r,sgm (tks L) (p+1) b= .sy 20::r
 ·rw[dB_true hnot]at HIn
  obtain⟨rn,hrn⟩:=hnot
  obtain⟨t9,_,e9⟩:=sgm_head (tks L) (p+1) b ((is_head hbt).2 ⟨rn,hrn⟩).1 hbt
  have hrn2:rn=sgm (tks L) (p+1+1) b:=by rw[e9]at hrn;simp only[List.cons.injEq]at hrn;exact hrn.2.symm
  by_cases hpe:p+3=b
  ·have jp:((p:Int)+2+1==(b:Int))=true:=by rw[beq_iff_eq];omega
   have jp3:((p:Int)+(2+1)==(b:Int))=true:=by rw[beq_iff_eq];omega
   have jp4:((p:Int)+3==(b:Int))=true:=by rw[beq_iff_eq];omega
   obtain⟨z,hz1,hz2⟩:=sgm_head (tks L) (b-1) b (by omega) hbt
   rw[show b-1+1=b by omega,sgm_nil]at hz2
   obtain⟨Sz,g2,bb2,V2,hok2,e2,-,-,d0,-,-⟩:=(unhide HTk2).cells hz1
   simp only[Option.some.injEq,Addr.mk.injEq,and_true]at e2
   subst e2
   obtain⟨bz,hbz⟩: ∃bz:Nat,bz=b-1:=⟨_,rfl⟩
   have jw:IntKind.i64.wrap ((b:Int)-1)=(bz:Int):=by rw[IntKind.wrap_i64];omega
   have jb2:(bz:Int)<(L.length:Int):=by omega
   rw[<-hbz]at d0
   by_cases hzn:z=kNull
   ·have tN:(Sz.toList==[78,85,76,76])=true:=by
     rw[show([78,85,76,76]:List UInt8)=syT 24 from rfl,text_beq hok2 24 (by omega)]
     exact decide_eq_true hzn
    have HR:Hid (RR=some [.mk 9 0 1 [] [] [t]]):=by
     show RR=_
     rw[unhide HRR]
     have hz3:sgm (tks L) (p+1+1) b=[z]:=by rw[show p+1+1=b-1 by omega];exact hz2
     rw[unhide HYy,hrn,hrn2,hz3,hzn]
     rfl
    clear hzn hz1 hz2 HRR hok2 hpe hbz
    go_wp2_with fail
    refine(unhide HIn).mono ?_;rintro e w2' ⟨rfl,rfl⟩
    obtain⟨WN,hWN⟩: ∃WN,WN=(w2'.alloc (.cells #[.int .i64 ((ns2.length:Int)-1)] 3)).alloc (.cells #[.int .i64 9,.int .i64 0,.int .i64 1,.string ⟨#[]⟩,.string ⟨#[]⟩,.slice (some ⟨w2'.heap.size,0,none⟩) 1 1] 62):=⟨_,rfl⟩
    have hBzw7:w0.heap.size<=w2'.heap.size:=Nat.le_trans hzz (unhide HF2).size
    obtain⟨nN,nK,nC,nB,nW,nZ⟩:=lit_node (unhide HN2) hBzw7 ⟨9,0,1,⟨#[]⟩,⟨#[]⟩,[(ns2.length:Int)-1]⟩ (by simp) WN hWN
    have HnN:=hide nN;have HnK:=hide nK;have HnC:=hide nC;have HnW:=hide nW
    have HWe:=hide hWN
    have hlmw7:ns2.length<=1000000:=by omega
    clear hWN nN nK nC nW nZ
    go_wp2_with (at_builtin;rw[<-unhide HWe];refine wpList_pushN WN rfl (.tmp 144) (.tmp 149) 22 rfl tn _ Tryz.underlying22 htn hy0 hy1 hy2 rfl w0.heap.size lab2 na2 nc2 ns2 rfl (unhide HnN) ⟨9,0,1,⟨#[]⟩,⟨#[]⟩,[(ns2.length:Int)-1]⟩ (some ⟨w2'.heap.size,0,none⟩) 1 (unhide HnK) (w2'.heap.size+1) 1 rfl (unhide HnC) hlmw7 nB ?_;intro ra rc w7 hn7 hb7 hat7;have HN7:=hide hn7;have HB7:=hide hb7;have HA7:=hide hat7;clear hn7 hb7 hat7)
    go_wp2
    go_returns
    have hFp:=((unhide HF2).thenB (unhide HnW)).push (ka:=some ⟨w2'.heap.size,0,none⟩) (fun b hb=>by simp[blk]at hb;subst hb;exact(unhide HF2).size) (unhide HB7) (unhide HA7) ns2.length
    refine⟨ra,rc,_,_,?_,unhide HN7,hFp,by simp;omega,fun t' ht=> ?_⟩
    ·rw[unhide HR];simp
    ·rw[unhide HR]at ht
     simp only[Option.some.injEq,List.cons.injEq,and_true]at ht
     rw[<-ht,lay_mk,lays_cons,lays_nil,unhide HE2]
     simp
   ·have tN:(Sz.toList==[78,85,76,76])=false:=by
     rw[show([78,85,76,76]:List UInt8)=syT 24 from rfl,text_beq hok2 24 (by omega)]
     exact decide_eq_false hzn
    have HR:Hid (RR=none):=by
     show RR=none
     rw[unhide HRR]
     have hz3:sgm (tks L) (p+1+1) b=[z]:=by rw[show p+1+1=b-1 by omega];exact hz2
     rw[unhide HYy,hrn,hrn2,hz3,if_neg (by simp),if_neg (by simpa using hzn)]
    clear hzn hz1 hz2 HRR hok2 hpe hbz
    go_wp2_with fail
    refine(unhide HIn).mono ?_;rintro e w2' ⟨rfl,rfl⟩
    obtain⟨WN,hWN⟩: ∃WN,WN=(w2'.alloc (.cells #[.int .i64 ((ns2.length:Int)-1)] 3)).alloc (.cells #[.int .i64 9,.int .i64 0,.int .i64 1,.string ⟨#[]⟩,.string ⟨#[]⟩,.slice (some ⟨w2'.heap.size,0,none⟩) 1 1] 62):=⟨_,rfl⟩
    have hBzw7:w0.heap.size<=w2'.heap.size:=Nat.le_trans hzz (unhide HF2).size
    obtain⟨nN,nK,nC,nB,nW,nZ⟩:=lit_node (unhide HN2) hBzw7 ⟨9,0,1,⟨#[]⟩,⟨#[]⟩,[(ns2.length:Int)-1]⟩ (by simp) WN hWN
    have HnN:=hide nN;have HnK:=hide nK;have HnC:=hide nC;have HnW:=hide nW
    have HWe:=hide hWN
    have hlmw7:ns2.length<=1000000:=by omega
    clear hWN nN nK nC nW nZ
    go_wp2_with (at_builtin;rw[<-unhide HWe];refine wpList_pushN WN rfl (.tmp 144) (.tmp 149) 22 rfl tn _ Tryz.underlying22 htn hy0 hy1 hy2 rfl w0.heap.size lab2 na2 nc2 ns2 rfl (unhide HnN) ⟨9,0,1,⟨#[]⟩,⟨#[]⟩,[(ns2.length:Int)-1]⟩ (some ⟨w2'.heap.size,0,none⟩) 1 (unhide HnK) (w2'.heap.size+1) 1 rfl (unhide HnC) hlmw7 nB ?_;intro ra rc w7 hn7 hb7 hat7;have HN7:=hide hn7;have HB7:=hide hb7;have HA7:=hide hat7;clear hn7 hb7 hat7)
    go_wp2
    go_returns
    have hFp:=((unhide HF2).thenB (unhide HnW)).push (ka:=some ⟨w2'.heap.size,0,none⟩) (fun b hb=>by simp[blk]at hb;subst hb;exact(unhide HF2).size) (unhide HB7) (unhide HA7) ns2.length
    refine⟨ra,rc,_,_,?_,unhide HN7,hFp,by simp;omega,fun t ht=> ?_⟩
    ·rw[unhide HR];simp
    ·rw[unhide HR]at ht;cases ht
  ·have jp:((p:Int)+2+1==(b:Int))=false:=by rw[beq_eq_false_iff_ne];omega
   have jp3:((p:Int)+(2+1)==(b:Int))=false:=by rw[beq_eq_false_iff_ne];omega
   have jp4:((p:Int)+3==(b:Int))=false:=by rw[beq_eq_false_iff_ne];omega
   have HR:Hid (RR=none):=by
    show RR=none
    rw[unhide HRR]
    rw[unhide HYy,if_neg (fun e=>by rw[e]at hrn;simp at hrn),if_neg (fun e=>hpe (by have:=congrArg List.length e;rw[sgm_len (tks L) (p+1) b (by omega) hbt]at this;simp at this;omega))]
   clear HRR hpe
   go_wp2_with fail
   refine(unhide HIn).mono ?_;rintro e w2' ⟨rfl,rfl⟩
   obtain⟨WN,hWN⟩: ∃WN,WN=(w2'.alloc (.cells #[.int .i64 ((ns2.length:Int)-1)] 3)).alloc (.cells #[.int .i64 9,.int .i64 0,.int .i64 1,.string ⟨#[]⟩,.string ⟨#[]⟩,.slice (some ⟨w2'.heap.size,0,none⟩) 1 1] 62):=⟨_,rfl⟩
   have hBzw7:w0.heap.size<=w2'.heap.size:=Nat.le_trans hzz (unhide HF2).size
   obtain⟨nN,nK,nC,nB,nW,nZ⟩:=lit_node (unhide HN2) hBzw7 ⟨9,0,1,⟨#[]⟩,⟨#[]⟩,[(ns2.length:Int)-1]⟩ (by simp) WN hWN
   have HnN:=hide nN;have HnK:=hide nK;have HnC:=hide nC;have HnW:=hide nW
   have HWe:=hide hWN
   have hlmw7:ns2.length<=1000000:=by omega
   clear hWN nN nK nC nW nZ
   go_wp2_with (at_builtin;rw[<-unhide HWe];refine wpList_pushN WN rfl (.tmp 144) (.tmp 149) 22 rfl tn _ Tryz.underlying22 htn hy0 hy1 hy2 rfl w0.heap.size lab2 na2 nc2 ns2 rfl (unhide HnN) ⟨9,0,1,⟨#[]⟩,⟨#[]⟩,[(ns2.length:Int)-1]⟩ (some ⟨w2'.heap.size,0,none⟩) 1 (unhide HnK) (w2'.heap.size+1) 1 rfl (unhide HnC) hlmw7 nB ?_;intro ra rc w7 hn7 hb7 hat7;have HN7:=hide hn7;have HB7:=hide hb7;have HA7:=hide hat7;clear hn7 hb7 hat7)
   go_wp2
   go_returns
   have hFp:=((unhide HF2).thenB (unhide HnW)).push (ka:=some ⟨w2'.heap.size,0,none⟩) (fun b hb=>by simp[blk]at hb;subst hb;exact(unhide HF2).size) (unhide HB7) (unhide HA7) ns2.length
   refine⟨ra,rc,_,_,?_,unhide HN7,hFp,by simp;omega,fun t ht=> ?_⟩
   ·rw[unhide HR];simp
   ·rw[unhide HR]at ht;cases ht
 ·rw[dB_false hnot]at HIn
  by_cases hpe:p+2=b
  ·have jp:((p:Int)+2+0==(b:Int))=true:=by rw[beq_iff_eq];omega
   have jp3:((p:Int)+(2+0)==(b:Int))=true:=by rw[beq_iff_eq];omega
   have jp4:((p:Int)+2==(b:Int))=true:=by rw[beq_iff_eq];omega
   obtain⟨z,hz1,hz2⟩:=sgm_head (tks L) (b-1) b (by omega) hbt
   rw[show b-1+1=b by omega,sgm_nil]at hz2
   obtain⟨Sz,g2,bb2,V2,hok2,e2,-,-,d0,-,-⟩:=(unhide HTk2).cells hz1
   simp only[Option.some.injEq,Addr.mk.injEq,and_true]at e2
   subst e2
   obtain⟨bz,hbz⟩: ∃bz:Nat,bz=b-1:=⟨_,rfl⟩
   have jw:IntKind.i64.wrap ((b:Int)-1)=(bz:Int):=by rw[IntKind.wrap_i64];omega
   have jb2:(bz:Int)<(L.length:Int):=by omega
   rw[<-hbz]at d0
   by_cases hzn:z=kNull
   ·have tN:(Sz.toList==[78,85,76,76])=true:=by
     rw[show([78,85,76,76]:List UInt8)=syT 24 from rfl,text_beq hok2 24 (by omega)]
     exact decide_eq_true hzn
    have HR:Hid (RR=some [.mk 9 0 0 [] [] [t]]):=by
     show RR=_
     rw[unhide HRR]
     have hz3:sgm (tks L) (p+1) b=[z]:=by rw[show p+1=b-1 by omega];exact hz2
     rw[unhide HYy,hz3,hzn]
     rfl
    clear hzn hz1 hz2 HRR hok2 hpe hbz
    go_wp2_with fail
    refine(unhide HIn).mono ?_;rintro e w2' ⟨rfl,rfl⟩
    obtain⟨WN,hWN⟩: ∃WN,WN=(w2'.alloc (.cells #[.int .i64 ((ns2.length:Int)-1)] 3)).alloc (.cells #[.int .i64 9,.int .i64 0,.int .i64 0,.string ⟨#[]⟩,.string ⟨#[]⟩,.slice (some ⟨w2'.heap.size,0,none⟩) 1 1] 62):=⟨_,rfl⟩
    have hBzw7:w0.heap.size<=w2'.heap.size:=Nat.le_trans hzz (unhide HF2).size
    obtain⟨nN,nK,nC,nB,nW,nZ⟩:=lit_node (unhide HN2) hBzw7 ⟨9,0,0,⟨#[]⟩,⟨#[]⟩,[(ns2.length:Int)-1]⟩ (by simp) WN hWN
    have HnN:=hide nN;have HnK:=hide nK;have HnC:=hide nC;have HnW:=hide nW
    have HWe:=hide hWN
    have hlmw7:ns2.length<=1000000:=by omega
    clear hWN nN nK nC nW nZ
    go_wp2_with (at_builtin;rw[<-unhide HWe];refine wpList_pushN WN rfl (.tmp 144) (.tmp 149) 22 rfl tn _ Tryz.underlying22 htn hy0 hy1 hy2 rfl w0.heap.size lab2 na2 nc2 ns2 rfl (unhide HnN) ⟨9,0,0,⟨#[]⟩,⟨#[]⟩,[(ns2.length:Int)-1]⟩ (some ⟨w2'.heap.size,0,none⟩) 1 (unhide HnK) (w2'.heap.size+1) 1 rfl (unhide HnC) hlmw7 nB ?_;intro ra rc w7 hn7 hb7 hat7;have HN7:=hide hn7;have HB7:=hide hb7;have HA7:=hide hat7;clear hn7 hb7 hat7)
    go_wp2
    go_returns
    have hFp:=((unhide HF2).thenB (unhide HnW)).push (ka:=some ⟨w2'.heap.size,0,none⟩) (fun b hb=>by simp[blk]at hb;subst hb;exact(unhide HF2).size) (unhide HB7) (unhide HA7) ns2.length
    refine⟨ra,rc,_,_,?_,unhide HN7,hFp,by simp;omega,fun t' ht=> ?_⟩
    ·rw[unhide HR];simp
    ·rw[unhide HR]at ht
     simp only[Option.some.injEq,List.cons.injEq,and_true]at ht
     rw[<-ht,lay_mk,lays_cons,lays_nil,unhide HE2]
     simp
   ·have tN:(Sz.toList==[78,85,76,76])=false:=by
     rw[show([78,85,76,76]:List UInt8)=syT 24 from rfl,text_beq hok2 24 (by omega)]
     exact decide_eq_false hzn
    have HR:Hid (RR=none):=by
     show RR=none
     rw[unhide HRR]
     have hz3:sgm (tks L) (p+1) b=[z]:=by rw[show p+1=b-1 by omega];exact hz2
     rw[unhide HYy,hz3,if_neg (by simpa using hzn),if_neg (by simp)]
    clear hzn hz1 hz2 HRR hok2 hpe hbz
    go_wp2_with fail
    refine(unhide HIn).mono ?_;rintro e w2' ⟨rfl,rfl⟩
    obtain⟨WN,hWN⟩: ∃WN,WN=(w2'.alloc (.cells #[.int .i64 ((ns2.length:Int)-1)] 3)).alloc (.cells #[.int .i64 9,.int .i64 0,.int .i64 0,.string ⟨#[]⟩,.string ⟨#[]⟩,.slice (some ⟨w2'.heap.size,0,none⟩) 1 1] 62):=⟨_,rfl⟩
    have hBzw7:w0.heap.size<=w2'.heap.size:=Nat.le_trans hzz (unhide HF2).size
    obtain⟨nN,nK,nC,nB,nW,nZ⟩:=lit_node (unhide HN2) hBzw7 ⟨9,0,0,⟨#[]⟩,⟨#[]⟩,[(ns2.length:Int)-1]⟩ (by simp) WN hWN
    have HnN:=hide nN;have HnK:=hide nK;have HnC:=hide nC;have HnW:=hide nW
    have HWe:=hide hWN
    have hlmw7:ns2.length<=1000000:=by omega
    clear hWN nN nK nC nW nZ
    go_wp2_with (at_builtin;rw[<-unhide HWe];refine wpList_pushN WN rfl (.tmp 144) (.tmp 149) 22 rfl tn _ Tryz.underlying22 htn hy0 hy1 hy2 rfl w0.heap.size lab2 na2 nc2 ns2 rfl (unhide HnN) ⟨9,0,0,⟨#[]⟩,⟨#[]⟩,[(ns2.length:Int)-1]⟩ (some ⟨w2'.heap.size,0,none⟩) 1 (unhide HnK) (w2'.heap.size+1) 1 rfl (unhide HnC) hlmw7 nB ?_;intro ra rc w7 hn7 hb7 hat7;have HN7:=hide hn7;have HB7:=hide hb7;have HA7:=hide hat7;clear hn7 hb7 hat7)
    go_wp2
    go_returns
    have hFp:=((unhide HF2).thenB (unhide HnW)).push (ka:=some ⟨w2'.heap.size,0,none⟩) (fun b hb=>by simp[blk]at hb;subst hb;exact(unhide HF2).size) (unhide HB7) (unhide HA7) ns2.length
    refine⟨ra,rc,_,_,?_,unhide HN7,hFp,by simp;omega,fun t ht=> ?_⟩
    ·rw[unhide HR];simp
    ·rw[unhide HR]at ht;cases ht
  ·have jp:((p:Int)+2+0==(b:Int))=false:=by rw[beq_eq_false_iff_ne];omega
   have jp3:((p:Int)+(2+0)==(b:Int))=false:=by rw[beq_eq_false_iff_ne];omega
   have jp4:((p:Int)+2==(b:Int))=false:=by rw[beq_eq_false_iff_ne];omega
   have HR:Hid (RR=none):=by
    show RR=none
    rw[unhide HRR]
    rw[unhide HYy,if_neg (fun e=>hpe (by have:=congrArg List.length e;rw[sgm_len (tks L) (p+1) b (by omega) hbt]at this;simp at this;omega)),if_neg (fun e=>hnot ⟨_,e⟩)]
   clear HRR hpe
   go_wp2_with fail
   refine(unhide HIn).mono ?_;rintro e w2' ⟨rfl,rfl⟩
   obtain⟨WN,hWN⟩: ∃WN,WN=(w2'.alloc (.cells #[.int .i64 ((ns2.length:Int)-1)] 3)).alloc (.cells #[.int .i64 9,.int .i64 0,.int .i64 0,.string ⟨#[]⟩,.string ⟨#[]⟩,.slice (some ⟨w2'.heap.size,0,none⟩) 1 1] 62):=⟨_,rfl⟩
   have hBzw7:w0.heap.size<=w2'.heap.size:=Nat.le_trans hzz (unhide HF2).size
   obtain⟨nN,nK,nC,nB,nW,nZ⟩:=lit_node (unhide HN2) hBzw7 ⟨9,0,0,⟨#[]⟩,⟨#[]⟩,[(ns2.length:Int)-1]⟩ (by simp) WN hWN
   have HnN:=hide nN;have HnK:=hide nK;have HnC:=hide nC;have HnW:=hide nW
   have HWe:=hide hWN
   have hlmw7:ns2.length<=1000000:=by omega
   clear hWN nN nK nC nW nZ
   go_wp2_with (at_builtin;rw[<-unhide HWe];refine wpList_pushN WN rfl (.tmp 144) (.tmp 149) 22 rfl tn _ Tryz.underlying22 htn hy0 hy1 hy2 rfl w0.heap.size lab2 na2 nc2 ns2 rfl (unhide HnN) ⟨9,0,0,⟨#[]⟩,⟨#[]⟩,[(ns2.length:Int)-1]⟩ (some ⟨w2'.heap.size,0,none⟩) 1 (unhide HnK) (w2'.heap.size+1) 1 rfl (unhide HnC) hlmw7 nB ?_;intro ra rc w7 hn7 hb7 hat7;have HN7:=hide hn7;have HB7:=hide hb7;have HA7:=hide hat7;clear hn7 hb7 hat7)
   go_wp2
   go_returns
   have hFp:=((unhide HF2).thenB (unhide HnW)).push (ka:=some ⟨w2'.heap.size,0,none⟩) (fun b hb=>by simp[blk]at hb;subst hb;exact(unhide HF2).size) (unhide HB7) (unhide HA7) ns2.length
   refine⟨ra,rc,_,_,?_,unhide HN7,hFp,by simp;omega,fun t ht=> ?_⟩
   ·rw[unhide HR];simp
   ·rw[unhide HR]at ht;cases ht
set_option maxHeartbeats 8000000 in
set_option maxRecDepth 100000 in
theorem prim_isB(w0:World)(ad:Option Addr)(c:Nat)(L:List (Tok×ByteArray))(f:Nat)(hL:L.length<=1000000)(hT:TksS w0 ad L)(H:SHyp w0 ad c L f)(W:World)(lab:Lbl)(na:Option Addr)(nc:Nat)(ns:List Nd)(a b:Nat)(hP:Pre w0 L W lab na nc ns .prim (f+1) a b)(h1: ∀r,sgm (tks L) a b≠ .sy 20::r)(h2: ∀r,sgm (tks L) a b≠ .sy 21::r)(r0:List Tok)(h3:sgm (tks L) a b= .sy 0:: .sy 11::r0)(x y:List Tok)(hop:opS 0 (sgm (tks L) a b)=some (x,.sy 23,y)):
  Calls Tryz.prog 94 #[.slice ad L.length c,.int .i64 (a:Int),.int .i64 (b:Int),.slice na ns.length nc] W (PE w0.heap.size W lab na ns (sP (f+1) .prim (sgm (tks L) a b)) (b-a)):=by
 obtain⟨tn,htn,hy⟩:=Option.map_eq_some_iff.1 (show(Tryz.prog.info? 62).map (fun i=>(i.zero,i.size,i.bytes))=some (some (.agg #[.int .i64 0,.int .i64 0,.int .i64 0,.string ⟨#[]⟩,.string ⟨#[]⟩,.slice none 0 0]),6,80)by kernel_rfl)
 simp only[Prod.mk.injEq]at hy
 obtain⟨hy0,hy1,hy2⟩:=hy
 have hab:=hP.ab
 have hbl:=hP.bl
 have hln:=hP.ln
 have hfu:=hP.fu
 simp only[rnk]at hfu
 have hbt:b<=(tks L).length:=by simp;omega
 have hTW:=hP.tk hT
 have hzz:w0.heap.size<=W.heap.size:=hP.be.size
 obtain⟨RR,hRR⟩: ∃RR,RR=sP (f+1) .prim (sgm (tks L) a b):=⟨_,rfl⟩
 rw[<-hRR]
 have HI:=hide (l2Is_calls L ad c W hTW a b hbl ⟨#[78,79,84]⟩ 20 (by omega) (Go.ByteArray.toList_mk [78,79,84]))
 rw[is_dec hbt]at HI
 have HI0:=hide (l2Is_calls L ad c W hTW a b hbl ⟨#[40]⟩ 0 (by omega) (Go.ByteArray.toList_mk [40]))
 rw[is_dec hbt]at HI0
 have HI1:=hide (l2Is_calls L ad c W hTW a b hbl ⟨#[69,88,73,83,84,83]⟩ 21 (by omega) (Go.ByteArray.toList_mk [69,88,73,83,84,83]))
 rw[is_dec hbt]at HI1
 rw[dB_false (fun⟨r',e⟩=>h1 r' e)]at HI
 rw[dB_false (fun⟨r',e⟩=>h2 r' e)]at HI1
 rw[dB_true ⟨_,h3⟩]at HI0
 have hlt:a<b:=((is_head hbt).2 ⟨_,h3⟩).1
 obtain⟨t0,_,e0⟩:=sgm_head (tks L) a b hlt hbt
 have hr1:sgm (tks L) (a+1) b= .sy 11::r0:=by rw[e0]at h3;simp only[List.cons.injEq]at h3;exact h3.2
 have HIs:=hide (l2Is_calls L ad c W hTW (a+1) b hbl ⟨#[83,69,76,69,67,84]⟩ 11 (by omega) (Go.ByteArray.toList_mk [83,69,76,69,67,84]))
 rw[is_dec hbt]at HIs
 rw[dB_true ⟨r0,hr1⟩,show((a+1:Nat):Int)=(a:Int)+1 by omega]at HIs
 rw[prim_opS h1 h2 (fun r e=>by rw[h3]at e;simp only[List.cons.injEq,true_and]at e;exact⟨r0,e.symm⟩)]at hRR
 clear hr1 e0
 have HOp:=hide (l2Operator_calls L ad c W hL hTW a b hab hbl)
 obtain⟨p,hop1,hap,hpb,hx,hcp,hy,_⟩:=opS_at hab hbt hop
 rw[hop1]at HOp
 rw[hop]at hRR
 simp only[]at hRR
 rw[hx]at hRR
 have hcall:=H.sc W lab na nc ns a p ⟨hap,by omega,by simp only[rnk];omega,hP.be,hP.ns,by omega⟩
 have HRR:=hide hRR;have HH:=hide H;have HNi:=hide hP.ns;have HBe:=hide hP.be;have HT0:=hide hT;have HYy:=hide hy;have HCp:=hide hcp
 clear hRR h1 h2 h3 hTW H hP hT hop hop1 hx hy hcp
 go_enter Tryz.func94,Tryz.ntmps94
 go_wp2_with fail
 refine(unhide HI).mono ?_;rintro e wI ⟨rfl,rfl⟩
 go_wp2_with fail
 refine(unhide HI0).mono ?_;rintro e wI ⟨rfl,rfl⟩
 go_wp2_with fail
 refine(unhide HIs).mono ?_;rintro e wI ⟨rfl,rfl⟩
 go_wp2_with fail
 refine(unhide HI1).mono ?_;rintro e wI ⟨rfl,rfl⟩
 go_wp2_with fail
 refine(unhide HOp).mono ?_;rintro e wI ⟨rfl,rfl⟩
 rcases sP_one (f:=f) (nt:= .scal) (xs:=sgm (tks L) a p) (by simp[single])with hr | ⟨t,hr⟩
 ·rw[hr]at hcall
  have HC:=hide hcall
  have HR:Hid (RR=none):=by
   show RR=none
   rw[unhide HRR,hr]
  clear hcall hr
  go_wp2_with fail
  refine(unhide HC).mono ?_
  intro e w2 hpe
  obtain⟨na2,nc2,lab2,ns2,rfl,hN2,hF2,hl2⟩:=hpe.no
  have HN2:=hide hN2;have HF2:=hide hF2
  clear hN2 hF2 HC hpe
  go_wp2
  go_returns
  refine⟨na2,nc2,lab2,ns2,?_,unhide HN2,unhide HF2,by omega,fun t ht=> ?_⟩
  ·rw[unhide HR];rfl
  ·rw[unhide HR]at ht;cases ht
 rw[hr]at hcall HRR
 simp only[]at HRR
 have HC:=hide hcall
 clear hcall hr
 go_wp2_with fail
 refine(unhide HC).mono ?_
 intro e w2 hpe
 obtain⟨na2,nc2,lab2,ns2,rfl,hN2,hF2,hl2,he2⟩:=hpe.yes
 have hbe2:Below w0.heap.size w0 w2:=(unhide HBe).trans (hF2.below hzz (unhide HNi))
 have HTk2:=hide ((unhide HT0).of hbe2)
 obtain⟨Sk,g,bb,V,hok,rfl,hgl,hfm,c0,-,-⟩:=(unhide HTk2).cells (unhide HCp)
 have HN2:=hide hN2;have HF2:=hide hF2;have HE2:=hide he2
 have hn21:1<=ns2.length:=by rw[he2];have:=lay_pos t ns.length;simp;omega
 have j2:(p:Int)<(L.length:Int):=by omega
 have hzw2:w0.heap.size<=w2.heap.size:=hbe2.size
 clear hN2 hF2 he2 HC hpe hfm hbe2
 have tIS:(Sk.toList==[73,83])=true:=by
  rw[show([73,83]:List UInt8)=syT 23 from rfl,text_beq hok 23 (by omega)]
  exact decide_eq_true (rfl)
 have HIn:=hide (l2Is_calls L (some ⟨g,0,none⟩) c w2 (unhide HTk2) (p+1) b hbl ⟨#[78,79,84]⟩ 20 (by omega) (Go.ByteArray.toList_mk [78,79,84]))
 rw[is_dec hbt,show((p+1:Nat):Int)=(p:Int)+1 by omega]at HIn
 unfold opndS at HRR
 simp only[if_true]at HRR
 by_cases hnot: ∃r,sgm (tks L) (p+1) b= .sy 20::r
 ·rw[dB_true hnot]at HIn
  obtain⟨rn,hrn⟩:=hnot
  obtain⟨t9,_,e9⟩:=sgm_head (tks L) (p+1) b ((is_head hbt).2 ⟨rn,hrn⟩).1 hbt
  have hrn2:rn=sgm (tks L) (p+1+1) b:=by rw[e9]at hrn;simp only[List.cons.injEq]at hrn;exact hrn.2.symm
  by_cases hpe:p+3=b
  ·have jp:((p:Int)+2+1==(b:Int))=true:=by rw[beq_iff_eq];omega
   have jp3:((p:Int)+(2+1)==(b:Int))=true:=by rw[beq_iff_eq];omega
   have jp4:((p:Int)+3==(b:Int))=true:=by rw[beq_iff_eq];omega
   obtain⟨z,hz1,hz2⟩:=sgm_head (tks L) (b-1) b (by omega) hbt
   rw[show b-1+1=b by omega,sgm_nil]at hz2
   obtain⟨Sz,g2,bb2,V2,hok2,e2,-,-,d0,-,-⟩:=(unhide HTk2).cells hz1
   simp only[Option.some.injEq,Addr.mk.injEq,and_true]at e2
   subst e2
   obtain⟨bz,hbz⟩: ∃bz:Nat,bz=b-1:=⟨_,rfl⟩
   have jw:IntKind.i64.wrap ((b:Int)-1)=(bz:Int):=by rw[IntKind.wrap_i64];omega
   have jb2:(bz:Int)<(L.length:Int):=by omega
   rw[<-hbz]at d0
   by_cases hzn:z=kNull
   ·have tN:(Sz.toList==[78,85,76,76])=true:=by
     rw[show([78,85,76,76]:List UInt8)=syT 24 from rfl,text_beq hok2 24 (by omega)]
     exact decide_eq_true hzn
    have HR:Hid (RR=some [.mk 9 0 1 [] [] [t]]):=by
     show RR=_
     rw[unhide HRR]
     have hz3:sgm (tks L) (p+1+1) b=[z]:=by rw[show p+1+1=b-1 by omega];exact hz2
     rw[unhide HYy,hrn,hrn2,hz3,hzn]
     rfl
    clear hzn hz1 hz2 HRR hok2 hpe hbz
    go_wp2_with fail
    refine(unhide HIn).mono ?_;rintro e w2' ⟨rfl,rfl⟩
    obtain⟨WN,hWN⟩: ∃WN,WN=(w2'.alloc (.cells #[.int .i64 ((ns2.length:Int)-1)] 3)).alloc (.cells #[.int .i64 9,.int .i64 0,.int .i64 1,.string ⟨#[]⟩,.string ⟨#[]⟩,.slice (some ⟨w2'.heap.size,0,none⟩) 1 1] 62):=⟨_,rfl⟩
    have hBzw7:w0.heap.size<=w2'.heap.size:=Nat.le_trans hzz (unhide HF2).size
    obtain⟨nN,nK,nC,nB,nW,nZ⟩:=lit_node (unhide HN2) hBzw7 ⟨9,0,1,⟨#[]⟩,⟨#[]⟩,[(ns2.length:Int)-1]⟩ (by simp) WN hWN
    have HnN:=hide nN;have HnK:=hide nK;have HnC:=hide nC;have HnW:=hide nW
    have HWe:=hide hWN
    have hlmw7:ns2.length<=1000000:=by omega
    clear hWN nN nK nC nW nZ
    go_wp2_with (at_builtin;rw[<-unhide HWe];refine wpList_pushN WN rfl (.tmp 144) (.tmp 149) 22 rfl tn _ Tryz.underlying22 htn hy0 hy1 hy2 rfl w0.heap.size lab2 na2 nc2 ns2 rfl (unhide HnN) ⟨9,0,1,⟨#[]⟩,⟨#[]⟩,[(ns2.length:Int)-1]⟩ (some ⟨w2'.heap.size,0,none⟩) 1 (unhide HnK) (w2'.heap.size+1) 1 rfl (unhide HnC) hlmw7 nB ?_;intro ra rc w7 hn7 hb7 hat7;have HN7:=hide hn7;have HB7:=hide hb7;have HA7:=hide hat7;clear hn7 hb7 hat7)
    go_wp2
    go_returns
    have hFp:=((unhide HF2).thenB (unhide HnW)).push (ka:=some ⟨w2'.heap.size,0,none⟩) (fun b hb=>by simp[blk]at hb;subst hb;exact(unhide HF2).size) (unhide HB7) (unhide HA7) ns2.length
    refine⟨ra,rc,_,_,?_,unhide HN7,hFp,by simp;omega,fun t' ht=> ?_⟩
    ·rw[unhide HR];simp
    ·rw[unhide HR]at ht
     simp only[Option.some.injEq,List.cons.injEq,and_true]at ht
     rw[<-ht,lay_mk,lays_cons,lays_nil,unhide HE2]
     simp
   ·have tN:(Sz.toList==[78,85,76,76])=false:=by
     rw[show([78,85,76,76]:List UInt8)=syT 24 from rfl,text_beq hok2 24 (by omega)]
     exact decide_eq_false hzn
    have HR:Hid (RR=none):=by
     show RR=none
     rw[unhide HRR]
     have hz3:sgm (tks L) (p+1+1) b=[z]:=by rw[show p+1+1=b-1 by omega];exact hz2
     rw[unhide HYy,hrn,hrn2,hz3,if_neg (by simp),if_neg (by simpa using hzn)]
    clear hzn hz1 hz2 HRR hok2 hpe hbz
    go_wp2_with fail
    refine(unhide HIn).mono ?_;rintro e w2' ⟨rfl,rfl⟩
    obtain⟨WN,hWN⟩: ∃WN,WN=(w2'.alloc (.cells #[.int .i64 ((ns2.length:Int)-1)] 3)).alloc (.cells #[.int .i64 9,.int .i64 0,.int .i64 1,.string ⟨#[]⟩,.string ⟨#[]⟩,.slice (some ⟨w2'.heap.size,0,none⟩) 1 1] 62):=⟨_,rfl⟩
    have hBzw7:w0.heap.size<=w2'.heap.size:=Nat.le_trans hzz (unhide HF2).size
    obtain⟨nN,nK,nC,nB,nW,nZ⟩:=lit_node (unhide HN2) hBzw7 ⟨9,0,1,⟨#[]⟩,⟨#[]⟩,[(ns2.length:Int)-1]⟩ (by simp) WN hWN
    have HnN:=hide nN;have HnK:=hide nK;have HnC:=hide nC;have HnW:=hide nW
    have HWe:=hide hWN
    have hlmw7:ns2.length<=1000000:=by omega
    clear hWN nN nK nC nW nZ
    go_wp2_with (at_builtin;rw[<-unhide HWe];refine wpList_pushN WN rfl (.tmp 144) (.tmp 149) 22 rfl tn _ Tryz.underlying22 htn hy0 hy1 hy2 rfl w0.heap.size lab2 na2 nc2 ns2 rfl (unhide HnN) ⟨9,0,1,⟨#[]⟩,⟨#[]⟩,[(ns2.length:Int)-1]⟩ (some ⟨w2'.heap.size,0,none⟩) 1 (unhide HnK) (w2'.heap.size+1) 1 rfl (unhide HnC) hlmw7 nB ?_;intro ra rc w7 hn7 hb7 hat7;have HN7:=hide hn7;have HB7:=hide hb7;have HA7:=hide hat7;clear hn7 hb7 hat7)
    go_wp2
    go_returns
    have hFp:=((unhide HF2).thenB (unhide HnW)).push (ka:=some ⟨w2'.heap.size,0,none⟩) (fun b hb=>by simp[blk]at hb;subst hb;exact(unhide HF2).size) (unhide HB7) (unhide HA7) ns2.length
    refine⟨ra,rc,_,_,?_,unhide HN7,hFp,by simp;omega,fun t ht=> ?_⟩
    ·rw[unhide HR];simp
    ·rw[unhide HR]at ht;cases ht
  ·have jp:((p:Int)+2+1==(b:Int))=false:=by rw[beq_eq_false_iff_ne];omega
   have jp3:((p:Int)+(2+1)==(b:Int))=false:=by rw[beq_eq_false_iff_ne];omega
   have jp4:((p:Int)+3==(b:Int))=false:=by rw[beq_eq_false_iff_ne];omega
   have HR:Hid (RR=none):=by
    show RR=none
    rw[unhide HRR]
    rw[unhide HYy,if_neg (fun e=>by rw[e]at hrn;simp at hrn),if_neg (fun e=>hpe (by have:=congrArg List.length e;rw[sgm_len (tks L) (p+1) b (by omega) hbt]at this;simp at this;omega))]
   clear HRR hpe
   go_wp2_with fail
   refine(unhide HIn).mono ?_;rintro e w2' ⟨rfl,rfl⟩
   obtain⟨WN,hWN⟩: ∃WN,WN=(w2'.alloc (.cells #[.int .i64 ((ns2.length:Int)-1)] 3)).alloc (.cells #[.int .i64 9,.int .i64 0,.int .i64 1,.string ⟨#[]⟩,.string ⟨#[]⟩,.slice (some ⟨w2'.heap.size,0,none⟩) 1 1] 62):=⟨_,rfl⟩
   have hBzw7:w0.heap.size<=w2'.heap.size:=Nat.le_trans hzz (unhide HF2).size
   obtain⟨nN,nK,nC,nB,nW,nZ⟩:=lit_node (unhide HN2) hBzw7 ⟨9,0,1,⟨#[]⟩,⟨#[]⟩,[(ns2.length:Int)-1]⟩ (by simp) WN hWN
   have HnN:=hide nN;have HnK:=hide nK;have HnC:=hide nC;have HnW:=hide nW
   have HWe:=hide hWN
   have hlmw7:ns2.length<=1000000:=by omega
   clear hWN nN nK nC nW nZ
   go_wp2_with (at_builtin;rw[<-unhide HWe];refine wpList_pushN WN rfl (.tmp 144) (.tmp 149) 22 rfl tn _ Tryz.underlying22 htn hy0 hy1 hy2 rfl w0.heap.size lab2 na2 nc2 ns2 rfl (unhide HnN) ⟨9,0,1,⟨#[]⟩,⟨#[]⟩,[(ns2.length:Int)-1]⟩ (some ⟨w2'.heap.size,0,none⟩) 1 (unhide HnK) (w2'.heap.size+1) 1 rfl (unhide HnC) hlmw7 nB ?_;intro ra rc w7 hn7 hb7 hat7;have HN7:=hide hn7;have HB7:=hide hb7;have HA7:=hide hat7;clear hn7 hb7 hat7)
   go_wp2
   go_returns
   have hFp:=((unhide HF2).thenB (unhide HnW)).push (ka:=some ⟨w2'.heap.size,0,none⟩) (fun b hb=>by simp[blk]at hb;subst hb;exact(unhide HF2).size) (unhide HB7) (unhide HA7) ns2.length
   refine⟨ra,rc,_,_,?_,unhide HN7,hFp,by simp;omega,fun t ht=> ?_⟩
   ·rw[unhide HR];simp
   ·rw[unhide HR]at ht;cases ht
 ·rw[dB_false hnot]at HIn
  by_cases hpe:p+2=b
  ·have jp:((p:Int)+2+0==(b:Int))=true:=by rw[beq_iff_eq];omega
   have jp3:((p:Int)+(2+0)==(b:Int))=true:=by rw[beq_iff_eq];omega
   have jp4:((p:Int)+2==(b:Int))=true:=by rw[beq_iff_eq];omega
   obtain⟨z,hz1,hz2⟩:=sgm_head (tks L) (b-1) b (by omega) hbt
   rw[show b-1+1=b by omega,sgm_nil]at hz2
   obtain⟨Sz,g2,bb2,V2,hok2,e2,-,-,d0,-,-⟩:=(unhide HTk2).cells hz1
   simp only[Option.some.injEq,Addr.mk.injEq,and_true]at e2
   subst e2
   obtain⟨bz,hbz⟩: ∃bz:Nat,bz=b-1:=⟨_,rfl⟩
   have jw:IntKind.i64.wrap ((b:Int)-1)=(bz:Int):=by rw[IntKind.wrap_i64];omega
   have jb2:(bz:Int)<(L.length:Int):=by omega
   rw[<-hbz]at d0
   by_cases hzn:z=kNull
   ·have tN:(Sz.toList==[78,85,76,76])=true:=by
     rw[show([78,85,76,76]:List UInt8)=syT 24 from rfl,text_beq hok2 24 (by omega)]
     exact decide_eq_true hzn
    have HR:Hid (RR=some [.mk 9 0 0 [] [] [t]]):=by
     show RR=_
     rw[unhide HRR]
     have hz3:sgm (tks L) (p+1) b=[z]:=by rw[show p+1=b-1 by omega];exact hz2
     rw[unhide HYy,hz3,hzn]
     rfl
    clear hzn hz1 hz2 HRR hok2 hpe hbz
    go_wp2_with fail
    refine(unhide HIn).mono ?_;rintro e w2' ⟨rfl,rfl⟩
    obtain⟨WN,hWN⟩: ∃WN,WN=(w2'.alloc (.cells #[.int .i64 ((ns2.length:Int)-1)] 3)).alloc (.cells #[.int .i64 9,.int .i64 0,.int .i64 0,.string ⟨#[]⟩,.string ⟨#[]⟩,.slice (some ⟨w2'.heap.size,0,none⟩) 1 1] 62):=⟨_,rfl⟩
    have hBzw7:w0.heap.size<=w2'.heap.size:=Nat.le_trans hzz (unhide HF2).size
    obtain⟨nN,nK,nC,nB,nW,nZ⟩:=lit_node (unhide HN2) hBzw7 ⟨9,0,0,⟨#[]⟩,⟨#[]⟩,[(ns2.length:Int)-1]⟩ (by simp) WN hWN
    have HnN:=hide nN;have HnK:=hide nK;have HnC:=hide nC;have HnW:=hide nW
    have HWe:=hide hWN
    have hlmw7:ns2.length<=1000000:=by omega
    clear hWN nN nK nC nW nZ
    go_wp2_with (at_builtin;rw[<-unhide HWe];refine wpList_pushN WN rfl (.tmp 144) (.tmp 149) 22 rfl tn _ Tryz.underlying22 htn hy0 hy1 hy2 rfl w0.heap.size lab2 na2 nc2 ns2 rfl (unhide HnN) ⟨9,0,0,⟨#[]⟩,⟨#[]⟩,[(ns2.length:Int)-1]⟩ (some ⟨w2'.heap.size,0,none⟩) 1 (unhide HnK) (w2'.heap.size+1) 1 rfl (unhide HnC) hlmw7 nB ?_;intro ra rc w7 hn7 hb7 hat7;have HN7:=hide hn7;have HB7:=hide hb7;have HA7:=hide hat7;clear hn7 hb7 hat7)
    go_wp2
    go_returns
    have hFp:=((unhide HF2).thenB (unhide HnW)).push (ka:=some ⟨w2'.heap.size,0,none⟩) (fun b hb=>by simp[blk]at hb;subst hb;exact(unhide HF2).size) (unhide HB7) (unhide HA7) ns2.length
    refine⟨ra,rc,_,_,?_,unhide HN7,hFp,by simp;omega,fun t' ht=> ?_⟩
    ·rw[unhide HR];simp
    ·rw[unhide HR]at ht
     simp only[Option.some.injEq,List.cons.injEq,and_true]at ht
     rw[<-ht,lay_mk,lays_cons,lays_nil,unhide HE2]
     simp
   ·have tN:(Sz.toList==[78,85,76,76])=false:=by
     rw[show([78,85,76,76]:List UInt8)=syT 24 from rfl,text_beq hok2 24 (by omega)]
     exact decide_eq_false hzn
    have HR:Hid (RR=none):=by
     show RR=none
     rw[unhide HRR]
     have hz3:sgm (tks L) (p+1) b=[z]:=by rw[show p+1=b-1 by omega];exact hz2
     rw[unhide HYy,hz3,if_neg (by simpa using hzn),if_neg (by simp)]
    clear hzn hz1 hz2 HRR hok2 hpe hbz
    go_wp2_with fail
    refine(unhide HIn).mono ?_;rintro e w2' ⟨rfl,rfl⟩
    obtain⟨WN,hWN⟩: ∃WN,WN=(w2'.alloc (.cells #[.int .i64 ((ns2.length:Int)-1)] 3)).alloc (.cells #[.int .i64 9,.int .i64 0,.int .i64 0,.string ⟨#[]⟩,.string ⟨#[]⟩,.slice (some ⟨w2'.heap.size,0,none⟩) 1 1] 62):=⟨_,rfl⟩
    have hBzw7:w0.heap.size<=w2'.heap.size:=Nat.le_trans hzz (unhide HF2).size
    obtain⟨nN,nK,nC,nB,nW,nZ⟩:=lit_node (unhide HN2) hBzw7 ⟨9,0,0,⟨#[]⟩,⟨#[]⟩,[(ns2.length:Int)-1]⟩ (by simp) WN hWN
    have HnN:=hide nN;have HnK:=hide nK;have HnC:=hide nC;have HnW:=hide nW
    have HWe:=hide hWN
    have hlmw7:ns2.length<=1000000:=by omega
    clear hWN nN nK nC nW nZ
    go_wp2_with (at_builtin;rw[<-unhide HWe];refine wpList_pushN WN rfl (.tmp 144) (.tmp 149) 22 rfl tn _ Tryz.underlying22 htn hy0 hy1 hy2 rfl w0.heap.size lab2 na2 nc2 ns2 rfl (unhide HnN) ⟨9,0,0,⟨#[]⟩,⟨#[]⟩,[(ns2.length:Int)-1]⟩ (some ⟨w2'.heap.size,0,none⟩) 1 (unhide HnK) (w2'.heap.size+1) 1 rfl (unhide HnC) hlmw7 nB ?_;intro ra rc w7 hn7 hb7 hat7;have HN7:=hide hn7;have HB7:=hide hb7;have HA7:=hide hat7;clear hn7 hb7 hat7)
    go_wp2
    go_returns
    have hFp:=((unhide HF2).thenB (unhide HnW)).push (ka:=some ⟨w2'.heap.size,0,none⟩) (fun b hb=>by simp[blk]at hb;subst hb;exact(unhide HF2).size) (unhide HB7) (unhide HA7) ns2.length
    refine⟨ra,rc,_,_,?_,unhide HN7,hFp,by simp;omega,fun t ht=> ?_⟩
    ·rw[unhide HR];simp
    ·rw[unhide HR]at ht;cases ht
  ·have jp:((p:Int)+2+0==(b:Int))=false:=by rw[beq_eq_false_iff_ne];omega
   have jp3:((p:Int)+(2+0)==(b:Int))=false:=by rw[beq_eq_false_iff_ne];omega
   have jp4:((p:Int)+2==(b:Int))=false:=by rw[beq_eq_false_iff_ne];omega
   have HR:Hid (RR=none):=by
    show RR=none
    rw[unhide HRR]
    rw[unhide HYy,if_neg (fun e=>hpe (by have:=congrArg List.length e;rw[sgm_len (tks L) (p+1) b (by omega) hbt]at this;simp at this;omega)),if_neg (fun e=>hnot ⟨_,e⟩)]
   clear HRR hpe
   go_wp2_with fail
   refine(unhide HIn).mono ?_;rintro e w2' ⟨rfl,rfl⟩
   obtain⟨WN,hWN⟩: ∃WN,WN=(w2'.alloc (.cells #[.int .i64 ((ns2.length:Int)-1)] 3)).alloc (.cells #[.int .i64 9,.int .i64 0,.int .i64 0,.string ⟨#[]⟩,.string ⟨#[]⟩,.slice (some ⟨w2'.heap.size,0,none⟩) 1 1] 62):=⟨_,rfl⟩
   have hBzw7:w0.heap.size<=w2'.heap.size:=Nat.le_trans hzz (unhide HF2).size
   obtain⟨nN,nK,nC,nB,nW,nZ⟩:=lit_node (unhide HN2) hBzw7 ⟨9,0,0,⟨#[]⟩,⟨#[]⟩,[(ns2.length:Int)-1]⟩ (by simp) WN hWN
   have HnN:=hide nN;have HnK:=hide nK;have HnC:=hide nC;have HnW:=hide nW
   have HWe:=hide hWN
   have hlmw7:ns2.length<=1000000:=by omega
   clear hWN nN nK nC nW nZ
   go_wp2_with (at_builtin;rw[<-unhide HWe];refine wpList_pushN WN rfl (.tmp 144) (.tmp 149) 22 rfl tn _ Tryz.underlying22 htn hy0 hy1 hy2 rfl w0.heap.size lab2 na2 nc2 ns2 rfl (unhide HnN) ⟨9,0,0,⟨#[]⟩,⟨#[]⟩,[(ns2.length:Int)-1]⟩ (some ⟨w2'.heap.size,0,none⟩) 1 (unhide HnK) (w2'.heap.size+1) 1 rfl (unhide HnC) hlmw7 nB ?_;intro ra rc w7 hn7 hb7 hat7;have HN7:=hide hn7;have HB7:=hide hb7;have HA7:=hide hat7;clear hn7 hb7 hat7)
   go_wp2
   go_returns
   have hFp:=((unhide HF2).thenB (unhide HnW)).push (ka:=some ⟨w2'.heap.size,0,none⟩) (fun b hb=>by simp[blk]at hb;subst hb;exact(unhide HF2).size) (unhide HB7) (unhide HA7) ns2.length
   refine⟨ra,rc,_,_,?_,unhide HN7,hFp,by simp;omega,fun t ht=> ?_⟩
   ·rw[unhide HR];simp
   ·rw[unhide HR]at ht;cases ht
end Go.Proofs.YtmggnimiioepeaaGreatDoor.Pa
