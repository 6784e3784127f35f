import Derived.Test.YtmggnimiioepeaaGreatDoorQ0
import Derived.Test.YtmggnimiioepeaaGreatDoorQ40
import Derived.Test.YtmggnimiioepeaaGreatDoorPaSelect
namespace Go.Proofs.YtmggnimiioepeaaGreatDoor.Pa
open Go Go.RowKit
set_option maxHeartbeats 8000000 in
set_option maxRecDepth 100000 in
theorem scal_nohead(w0:World)(ad:Option Addr)(c:Nat)(L:List (Tok×ByteArray))(f:Nat)(hL:L.length<=1000000)(hT:TksS w0 ad L)(W:World)(lab:Lbl)(na:Option Addr)(nc:Nat)(ns:List Nd)(a b:Nat)(hP:Pre w0 L W lab na nc ns .scal (f+1) a b)(hs:6<=b-a)(i:List Tok)(hw:wraps (sgm (tks L) a b)=some i)(t1 t2 t3:Tok)(ht1:(tks L)[a+1]?=some t1)(ht2:(tks L)[a+1+1]?=some t2)(ht3:(tks L)[a+1+1+1]?=some t3)(hbad: ¬(t1= .sy 11/\0<aggOf t2/\t3= .sy 0)):
  Calls Tryz.prog 55 #[.slice ad L.length c,.int .i64 (a:Int),.int .i64 (b:Int),.slice na ns.length nc] W (PE w0.heap.size W lab na ns (sP (f+1) .scal (sgm (tks L) a b)) (b-a)):=by
 obtain⟨tn,htn,hy⟩:=Option.map_eq_some_iff.1 (show(Tryz.prog.info? 62).map (fun i=>(i.zero,i.size,i.bytes))=some (some (.agg #[.int .i64 0,.int .i64 0,.int .i64 0,.string ⟨#[]⟩,.string ⟨#[]⟩,.slice none 0 0]),6,80)by kernel_rfl)
 simp only[Prod.mk.injEq]at hy
 obtain⟨hy0,hy1,hy2⟩:=hy
 have hab:=hP.ab
 have hbl:=hP.bl
 have hln:=hP.ln
 have hbt:b<=(tks L).length:=by simp;omega
 have hzz:w0.heap.size<=W.heap.size:=hP.be.size
 obtain⟨RR,hRR⟩: ∃RR,RR=sP (f+1) .scal (sgm (tks L) a b):=⟨_,rfl⟩
 rw[<-hRR]
 have hTW:TksS W ad L:=hT.of hP.be
 have HP:=hide hP;have HRR:=hide hRR;have HTW:=hide hTW
 clear hT hP hTW hRR
 obtain⟨_,hi⟩:=sgm_wraps hab hbt hw
 obtain⟨u1,e1,f1⟩:=sgm_head (tks L) (a+1) (b-1) (by omega) (by omega)
 obtain⟨u2,e2,f2⟩:=sgm_head (tks L) (a+1+1) (b-1) (by omega) (by omega)
 obtain⟨u3,e3,f3⟩:=sgm_head (tks L) (a+1+1+1) (b-1) (by omega) (by omega)
 rw[ht1]at e1
 rw[ht2]at e2
 rw[ht3]at e3
 cases e1
 cases e2
 cases e3
 rw[f1,f2,f3]at hi
 have HR:Hid (RR=none):=by
  show RR=none
  have hl:=sgm_len (tks L) a b hab hbt
  rw[unhide HRR,scal_other (fun v e=>by rw[e]at hl;simp at hl;omega) (fun e=>by rw[e]at hl;simp at hl;omega) (fun s v e=>by rw[e]at hl;simp at hl;omega)]
  unfold aggS
  rw[hw,hi]
  simp only[]
  split
  ·rename_i w r e
   simp only[List.cons.injEq]at e
   rw[if_neg]
   intro h0
   exact hbad ⟨e.1,by rw[e.2.1];exact h0,e.2.2.1⟩
  ·rfl
 have HWr:=hide (l2Wraps_calls L ad c W hL (unhide HTW) a b (by omega) hbl)
 rw[dB_true ⟨_,hw⟩]at HWr
 obtain⟨nn,hnn⟩: ∃nn,nn=b-a:=⟨_,rfl⟩
 have jn:IntKind.i64.wrap ((b:Int)-(a:Int))=(nn:Int):=by rw[IntKind.wrap_i64];omega
 have j1: ¬(nn:Int)=1:=by omega
 have j3: ¬(nn:Int)=3:=by omega
 have j6: ¬(nn:Int)<6:=by omega
 obtain⟨A1,hA1⟩: ∃A1,A1=a+1:=⟨_,rfl⟩
 obtain⟨A2,hA2⟩: ∃A2,A2=a+1+1:=⟨_,rfl⟩
 obtain⟨A3,hA3⟩: ∃A3,A3=a+1+1+1:=⟨_,rfl⟩
 rw[<-hA1]at ht1
 rw[<-hA2]at ht2
 rw[<-hA3]at ht3
 have jw1:IntKind.i64.wrap ((a:Int)+1)=(A1:Int):=by rw[IntKind.wrap_i64];omega
 have jw2:IntKind.i64.wrap ((a:Int)+2)=(A2:Int):=by rw[IntKind.wrap_i64];omega
 have jw3:IntKind.i64.wrap ((a:Int)+3)=(A3:Int):=by rw[IntKind.wrap_i64];omega
 have jA:A1<L.length:=by omega
 have jA2:(A1:Int)<(L.length:Int):=by omega
 have jB:A2<L.length:=by omega
 have jB2:(A2:Int)<(L.length:Int):=by omega
 have jC:A3<L.length:=by omega
 have jC2:(A3:Int)<(L.length:Int):=by omega
 have Ht1:=hide ht1;have Ht2:=hide ht2;have Ht3:=hide ht3
 clear hnn hs hA1 hA2 hA3 ht1 ht2 ht3 hi f1 f2 f3 hw HRR
 go_enter Tryz.func55,Tryz.ntmps55
 go_wp2_with fail
 refine(unhide HWr).mono ?_
 rintro e w1 ⟨rfl,hb1⟩
 have HT1:=(unhide HTW).of hb1
 obtain⟨S1,gT,_,_,ok1,had,hgT,_,c1,_,_⟩:=HT1.cells (unhide Ht1)
 obtain⟨S2,g2,_,_,ok2,had2,_,_,c2,_,_⟩:=HT1.cells (unhide Ht2)
 obtain⟨S3,g3,_,_,ok3,had3,_,_,c3,_,_⟩:=HT1.cells (unhide Ht3)
 subst had
 simp only[Option.some.injEq,Addr.mk.injEq,and_true]at had2 had3
 subst had2
 subst had3
 have HB1:=hide hb1
 have q1:(S1.toList==[83,69,76,69,67,84])=decide (t1= .sy 11):=text_beq ok1 11 (by omega)
 have q3:(S3.toList==[40])=decide (t3= .sy 0):=text_beq ok3 0 (by omega)
 have HAg:Hid (Calls Tryz.prog 81 #[.string S2] w1 fun e w'=>e= .returned (.int .i64 (aggOf t2))/\w1=w'):=(l2AggOf_calls S2 w1).mono (fun e w' h=>⟨by rw[h.1,aggL_tok ok2],h.2.symm⟩)
 clear hb1 HWr HT1 HTW ok1 ok2 ok3
 by_cases h1:t1= .sy 11
 rotate_left
 ·have q1':(S1.toList==[83,69,76,69,67,84])=false:=by rw[q1];simp[h1]
  clear q1 q3 hbad
  go_wp2
  go_returns
  refine⟨na,nc,lab,ns,?_,(unhide HP).ns.of (unhide HB1),Fr.ofBelow (unhide HB1),by omega,fun t ht=> ?_⟩
  ·rw[unhide HR];rfl
  ·rw[unhide HR]at ht;cases ht
 have q1':(S1.toList==[83,69,76,69,67,84])=true:=by rw[q1];simp[h1]
 obtain⟨ag,hag⟩: ∃ag,ag=aggOf t2:=⟨_,rfl⟩
 rw[<-hag]at HAg
 by_cases h2:0<ag
 rotate_left
 ·obtain rfl:ag=0:=by omega
  clear q1 q3 hbad hag h2
  go_wp2_with fail
  refine(unhide HAg).mono ?_;rintro e _ ⟨rfl,rfl⟩
  go_wp2
  go_returns
  refine⟨na,nc,lab,ns,?_,(unhide HP).ns.of (unhide HB1),Fr.ofBelow (unhide HB1),by omega,fun t ht=> ?_⟩
  ·rw[unhide HR];rfl
  ·rw[unhide HR]at ht;cases ht
 have q3':(S3.toList==[40])=false:=by
  rw[q3]
  simp only[decide_eq_false_iff_not]
  exact fun e=>hbad ⟨h1,by rw[<-hag];exact h2,e⟩
 have q2: ¬(ag:Int)=0:=by omega
 clear q1 q3 hbad hag
 go_wp2_with fail
 refine(unhide HAg).mono ?_;rintro e _ ⟨rfl,rfl⟩
 go_wp2
 go_returns
 refine⟨na,nc,lab,ns,?_,(unhide HP).ns.of (unhide HB1),Fr.ofBelow (unhide HB1),by omega,fun t ht=> ?_⟩
 ·rw[unhide HR];rfl
 ·rw[unhide HR]at ht;cases ht
end Go.Proofs.YtmggnimiioepeaaGreatDoor.Pa
namespace Go.Proofs.YtmggnimiioepeaaGreatDoor.Pa
open Go Go.RowKit
theorem tops_open{r:List Tok}{a:Nat}:topsP pC 0 a (pO::r)=topsP pC 1 (a+1) r:=by
 show(if dn 0 pO=0/\pO=pC then _ else _)=_
 rw[if_neg (by decide)]
 rfl
theorem aggS_nil{sc ta:List Tok->Option (List Rt)}{ts:List Tok}{a b:Nat}{i:List Tok}{t2:Tok}(hab:a<=b)(hb:b<=ts.length)(h6:6<=b-a)(hw:wraps (sgm ts a b)=some i)(h1:ts[a+1]?=some (.sy 11))(h2:ts[a+1+1]?=some t2)(h3:ts[a+1+1+1]?=some (.sy 0))(h0:topsP pC 0 (a+1+1+1) (sgm ts (a+1+1+1) (b-1))=[]):aggS sc ta (sgm ts a b)=none:=by
 obtain⟨_,hi⟩:=sgm_wraps hab hb hw
 obtain⟨u1,e1,f1⟩:=sgm_head ts (a+1) (b-1) (by omega) (by omega)
 obtain⟨u2,e2,f2⟩:=sgm_head ts (a+1+1) (b-1) (by omega) (by omega)
 obtain⟨u3,e3,f3⟩:=sgm_head ts (a+1+1+1) (b-1) (by omega) (by omega)
 rw[h1]at e1
 rw[h2]at e2
 rw[h3]at e3
 cases e1
 cases e2
 cases e3
 rw[f3]at h0
 rw[show Tok.sy 0=pO from rfl,tops_open]at h0
 rw[f1,f2,f3]at hi
 unfold aggS
 rw[hw,hi]
 simp only[]
 rw[fst1_noneP h0]
 split<;>rfl
theorem aggS_cons{sc ta:List Tok->Option (List Rt)}{ts:List Tok}{a b:Nat}{i:List Tok}{t2:Tok}(hab:a<=b)(hb:b<=ts.length)(h6:6<=b-a)(hw:wraps (sgm ts a b)=some i)(h1:ts[a+1]?=some (.sy 11))(h2:ts[a+1+1]?=some t2)(hg:0<aggOf t2)(h3:ts[a+1+1+1]?=some (.sy 0)){q:Nat}{qs:List Nat}(h0:topsP pC 0 (a+1+1+1) (sgm ts (a+1+1+1) (b-1))=q::qs):
  a+4<=q/\q+1<=b-1/\(t2= .sy 25/\sgm ts (a+4) q=[star]->aggS sc ta (sgm ts a b)=(ta (sgm ts (q+1) (b-1))).map (fun ks=>[Rt.mk 4 0 1 [] [] ks]))/\
  (¬(t2= .sy 25/\sgm ts (a+4) q=[star])->(sc (sgm ts (a+4) q)=none->aggS sc ta (sgm ts a b)=none)/\ ∀t,sc (sgm ts (a+4) q)=some [t]->aggS sc ta (sgm ts a b)=(ta (sgm ts (q+1) (b-1))).map (fun ks=>[Rt.mk 4 1 (aggOf t2) [] [] (t::ks)])):=by
 obtain⟨_,hi⟩:=sgm_wraps hab hb hw
 obtain⟨u1,e1,f1⟩:=sgm_head ts (a+1) (b-1) (by omega) (by omega)
 obtain⟨u2,e2,f2⟩:=sgm_head ts (a+1+1) (b-1) (by omega) (by omega)
 obtain⟨u3,e3,f3⟩:=sgm_head ts (a+1+1+1) (b-1) (by omega) (by omega)
 rw[h1]at e1
 rw[h2]at e2
 rw[h3]at e3
 cases e1
 cases e2
 cases e3
 rw[f3]at h0
 rw[show Tok.sy 0=pO from rfl,tops_open]at h0
 rw[f1,f2,f3]at hi
 obtain⟨x,y,hf⟩:=fst1_someP h0
 obtain⟨q',hq1,hq2,hx,_,hy,hh⟩:=fst1_sgm (by omega) (by omega) hf
 obtain rfl:q'=q:=by rw[h0]at hh;simpa using hh.symm
 have hA:aggS sc ta (sgm ts a b)=(if t2= .sy 25/\x=[star]then(match ta y with | some ks=>some [.mk 4 0 1 [] [] ks] | none=>none)
     else(match sc x with
      | some [t]=>(match ta y with | some ks=>some [.mk 4 1 (aggOf t2) [] [] (t::ks)] | none=>none)
      | _=>none)):=by
  unfold aggS
  rw[hw,hi]
  simp only[]
  rw[if_pos hg,hf]
  rfl
 rw[<-hx,<-hy,hA]
 refine⟨by omega,by omega,fun h=> ?_,fun h=>⟨fun hs=> ?_,fun t hs=> ?_⟩⟩
 ·rw[if_pos h];cases ta y<;>rfl
 ·rw[if_neg h,hs]
 ·rw[if_neg h,hs];cases ta y<;>rfl
theorem sgm_star{ts:List Tok}{A q:Nat}(hA:A<=q)(hq:q<=ts.length):sgm ts A q=[star]↔q=A+1/\ts[A]?=some star:=by
 have hl:=sgm_len ts A q hA hq
 constructor
 ·intro h
  rw[h]at hl
  simp at hl
  obtain⟨t,ht,e⟩:=sgm_head ts A q (by omega) hq
  rw[h]at e
  simp only[List.cons.injEq]at e
  exact⟨by omega,by rw[ht,<-e.1]⟩
 ·rintro⟨rfl,ht⟩
  exact sgm_one ht
theorem aggOf_two{t:Tok}:aggOf t=2↔t= .sy 25:=by
 constructor
 ·intro h
  cases t with
  | sy k=>
   simp only[aggOf]at h
   split at h
   ·rw[show k=25 by omega]
   ·omega
  | _=>simp[aggOf]at h
 ·rintro rfl;rfl
end Go.Proofs.YtmggnimiioepeaaGreatDoor.Pa
