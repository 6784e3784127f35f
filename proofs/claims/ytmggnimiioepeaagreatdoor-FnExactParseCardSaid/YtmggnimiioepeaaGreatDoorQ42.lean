import Derived.Test.YtmggnimiioepeaaGreatDoorQ0
import Derived.Test.YtmggnimiioepeaaGreatDoorQ41
import Derived.Test.YtmggnimiioepeaaGreatDoorQ40
namespace Go.Proofs.YtmggnimiioepeaaGreatDoor.Pa
open Go Go.RowKit
set_option maxHeartbeats 8000000 in
set_option maxRecDepth 100000 in
theorem scal_big(w0:World)(ad:Option Addr)(c:Nat)(L:List (Tok×ByteArray))(f:Nat)(hL:L.length<=1000000)(hT:TksS w0 ad L)(H:SHyp w0 ad c L f)(W:World)(lab:Lbl)(na:Option Addr)(nc:Nat)(ns:List Nd)(a b:Nat)(hP:Pre w0 L W lab na nc ns .scal (f+1) a b)(hs:6<=b-a)(i:List Tok)(hw:wraps (sgm (tks L) a b)=some i)(t2:Tok)(ht1:(tks L)[a+1]?=some (.sy 11))(ht2:(tks L)[a+1+1]?=some t2)(hg:0<aggOf t2)(ht3:(tks L)[a+1+1+1]?=some (.sy 0)):
  Calls Tryz.prog 55 #[.slice ad L.length c,.int .i64 (a:Int),.int .i64 (b:Int),.slice na ns.length nc] W (PE w0.heap.size W lab na ns (sP (f+1) .scal (sgm (tks L) a b)) (b-a)):=by
 obtain⟨ti,hti,hz⟩:=Option.map_eq_some_iff.1 (show(Tryz.prog.info? 3).map (fun i=>(i.zero,i.size,i.bytes))=some (some (.int .i64 0),1,8)by kernel_rfl)
 simp only[Prod.mk.injEq]at hz
 obtain⟨hz0,hz1,hz2⟩:=hz
 obtain⟨tn,htn,hy⟩:=Option.map_eq_some_iff.1 (show(Tryz.prog.info? 62).map (fun i=>(i.zero,i.size,i.bytes))=some (some (.agg #[.int .i64 0,.int .i64 0,.int .i64 0,.string ⟨#[]⟩,.string ⟨#[]⟩,.slice none 0 0]),6,80)by kernel_rfl)
 simp only[Prod.mk.injEq]at hy
 obtain⟨hy0,hy1,hy2⟩:=hy
 have hab:=hP.ab
 have hbl:=hP.bl
 have hln:=hP.ln
 have hbt:b<=(tks L).length:=by simp;omega
 have hzz:w0.heap.size<=W.heap.size:=hP.be.size
 obtain⟨RR,hRR⟩: ∃RR,RR=sP (f+1) .scal (sgm (tks L) a b):=⟨_,rfl⟩
 rw[<-hRR]
 have hTW:TksS W ad L:=hT.of hP.be
 have HP:=hide hP;have HRR:=hide hRR;have HTW:=hide hTW
 clear hT hP hTW hRR
 have HH:=hide H
 clear H
 have hAg0:RR=aggS (sP f .scal) (sP f .tail) (sgm (tks L) a b):=by
  have hl:=sgm_len (tks L) a b hab hbt
  rw[unhide HRR,scal_other (fun v e=>by rw[e]at hl;simp at hl;omega) (fun e=>by rw[e]at hl;simp at hl;omega) (fun s v e=>by rw[e]at hl;simp at hl;omega)]
 have HN0:Hid (topsP pC 0 (a+1+1+1) (sgm (tks L) (a+1+1+1) (b-1))=[]->RR=none):=fun h=>by rw[hAg0];exact aggS_nil hab hbt hs hw ht1 ht2 ht3 h
 have HY0:Hid (∀q qs,topsP pC 0 (a+1+1+1) (sgm (tks L) (a+1+1+1) (b-1))=q::qs->a+4<=q/\q+1<=b-1/\(t2= .sy 25/\sgm (tks L) (a+4) q=[star]->RR=(sP f .tail (sgm (tks L) (q+1) (b-1))).map (fun ks=>[Rt.mk 4 0 1 [] [] ks]))/\
   (¬(t2= .sy 25/\sgm (tks L) (a+4) q=[star])->(sP f .scal (sgm (tks L) (a+4) q)=none->RR=none)/\ ∀t,sP f .scal (sgm (tks L) (a+4) q)=some [t]->RR=(sP f .tail (sgm (tks L) (q+1) (b-1))).map (fun ks=>[Rt.mk 4 1 (aggOf t2) [] [] (t::ks)]))):=fun q qs h=>by rw[hAg0];exact aggS_cons hab hbt hs hw ht1 ht2 hg ht3 h
 have HWr:=hide (l2Wraps_calls L ad c W hL (unhide HTW) a b (by omega) hbl)
 rw[dB_true ⟨_,hw⟩]at HWr
 obtain⟨nn,hnn⟩: ∃nn,nn=b-a:=⟨_,rfl⟩
 have jn:IntKind.i64.wrap ((b:Int)-(a:Int))=(nn:Int):=by rw[IntKind.wrap_i64];omega
 have j1: ¬(nn:Int)=1:=by omega
 have j3: ¬(nn:Int)=3:=by omega
 have j6: ¬(nn:Int)<6:=by omega
 obtain⟨A1,hA1⟩: ∃A1,A1=a+1:=⟨_,rfl⟩
 obtain⟨A2,hA2⟩: ∃A2,A2=a+1+1:=⟨_,rfl⟩
 obtain⟨A3,hA3⟩: ∃A3,A3=a+1+1+1:=⟨_,rfl⟩
 obtain⟨A4,hA4⟩: ∃A4,A4=a+4:=⟨_,rfl⟩
 obtain⟨A5,hA5⟩: ∃A5,A5=a+5:=⟨_,rfl⟩
 obtain⟨B1,hB1⟩: ∃B1,B1=b-1:=⟨_,rfl⟩
 rw[<-hA1]at ht1
 rw[<-hA2]at ht2
 rw[<-hA3]at ht3
 rw[<-hA3,<-hB1]at HN0
 rw[<-hA3,<-hB1,<-hA4]at HY0
 have jw1:IntKind.i64.wrap ((a:Int)+1)=(A1:Int):=by rw[IntKind.wrap_i64];omega
 have jw2:IntKind.i64.wrap ((a:Int)+2)=(A2:Int):=by rw[IntKind.wrap_i64];omega
 have jw3:IntKind.i64.wrap ((a:Int)+3)=(A3:Int):=by rw[IntKind.wrap_i64];omega
 have jw4:IntKind.i64.wrap ((a:Int)+4)=(A4:Int):=by rw[IntKind.wrap_i64];omega
 have jw5:IntKind.i64.wrap ((a:Int)+5)=(A5:Int):=by rw[IntKind.wrap_i64];omega
 have jwB:IntKind.i64.wrap ((b:Int)-1)=(B1:Int):=by rw[IntKind.wrap_i64];omega
 have jA:A1<L.length:=by omega
 have jA2:(A1:Int)<(L.length:Int):=by omega
 have jB:A2<L.length:=by omega
 have jB2:(A2:Int)<(L.length:Int):=by omega
 have jC:A3<L.length:=by omega
 have jC2:(A3:Int)<(L.length:Int):=by omega
 have jD:A4<L.length:=by omega
 have jD2:(A4:Int)<(L.length:Int):=by omega
 have h3B:A3<=B1:=by omega
 have hBL:B1<=L.length:=by omega
 obtain⟨t4,ht4⟩: ∃t,(tks L)[A4]?=some t:=⟨_,List.getElem?_eq_getElem (by simp;omega)⟩
 obtain⟨ag,hag⟩: ∃ag,ag=aggOf t2:=⟨_,rfl⟩
 rw[<-hag]at HY0 hg
 have Ht1:=hide ht1;have Ht2:=hide ht2;have Ht3:=hide ht3;have Ht4:=hide ht4;have Hag:=hide hag
 have HA4:=hide hA4;have HA5:=hide hA5;have HA3:=hide hA3;have HBb:=hide hB1
 have q2: ¬(ag:Int)=0:=by omega
 clear hnn hs hA1 hA2 hA3 hA4 hA5 hB1 ht1 ht2 ht3 ht4 hw HRR hAg0 hag hg
 go_enter Tryz.func55,Tryz.ntmps55
 go_wp2_with fail
 refine(unhide HWr).mono ?_
 rintro e w1 ⟨rfl,hb1⟩
 have HT1:=(unhide HTW).of hb1
 obtain⟨S1,gT,_,_,ok1,had,hgT,_,c1,_,_⟩:=HT1.cells (unhide Ht1)
 obtain⟨S2,g2,_,_,ok2,had2,_,_,c2,_,_⟩:=HT1.cells (unhide Ht2)
 obtain⟨S3,g3,_,_,ok3,had3,_,_,c3,_,_⟩:=HT1.cells (unhide Ht3)
 obtain⟨S4,g4,_,_,ok4,had4,_,_,c4,_,_⟩:=HT1.cells (unhide Ht4)
 subst had
 simp only[Option.some.injEq,Addr.mk.injEq,and_true]at had2 had3 had4
 subst had2
 subst had3
 subst had4
 have q1:(S1.toList==[83,69,76,69,67,84])=true:=(text_beq ok1 11 (by omega)).trans (by simp)
 have q3:(S3.toList==[40])=true:=(text_beq ok3 0 (by omega)).trans (by simp)
 have Hq4:Hid ((S4.toList==[42])=decide (t4= .sy 4)):=text_beq ok4 4 (by omega)
 have HAg:Hid (Calls Tryz.prog 81 #[.string S2] w1 fun e w'=>e= .returned (.int .i64 (ag:Int))/\w1=w'):=(l2AggOf_calls S2 w1).mono (fun e w' h=>⟨by rw[h.1,aggL_tok ok2,unhide Hag],h.2.symm⟩)
 obtain⟨WX,hWX⟩: ∃WX,WX=w1.alloc (.cells #[.int .i64 4,.int .i64 0,.int .i64 (ag:Int),.string ⟨#[]⟩,.string ⟨#[]⟩,.slice none 0 0] 62):=⟨_,rfl⟩
 have hbX:Below w1.heap.size w1 WX:=by rw[hWX];exact bA (Below.refl _ _) _
 have hBX:Bx WX lab na w1.heap.size [.int .i64 4,.int .i64 0,.int .i64 (ag:Int),.string ⟨#[]⟩,.string ⟨#[]⟩,.slice none 0 0]:=by
  rw[hWX]
  exact Bx.new ((unhide HP).ns.of hb1) [.int .i64 4,.int .i64 0,.int .i64 (ag:Int),.string ⟨#[]⟩,.string ⟨#[]⟩,.slice none 0 0] 62
 have HTo:=hide (l2Tops_calls L (some ⟨gT,0,none⟩) c WX hL (HT1.of hbX) A3 B1 h3B hBL ⟨#[41]⟩ 1 (by omega) (Go.ByteArray.toList_mk [41]))
 have HB1:=hide hb1;have HWX:=hide hWX;have HbX:=hide hbX;have HBX:=hide hBX;have HT1:=hide HT1
 have hw1:W.heap.size<=w1.heap.size:=hb1.size
 clear hb1 HWr HTW ok1 ok2 ok3 ok4 hWX hbX hBX
 go_wp2_with fail
 refine(unhide HAg).mono ?_;rintro e _ ⟨rfl,rfl⟩
 go_wp2_with fail
 refine(unhide HAg).mono ?_;rintro e _ ⟨rfl,rfl⟩
 clear HAg
 go_upto_region 10 with fail
 rw[<-unhide HWX]
 clear HWX q1 q3 jn j1 j3 j6 c1 c2 c3 q2 jw1 jw2 jA jA2 jB jB2 jC jC2
 obtain⟨PP,hPP⟩: ∃PP,PP=topsP (.sy 1) 0 A3 (sgm (tks L) A3 B1):=⟨_,rfl⟩
 rw[show topsP pC 0 A3 (sgm (tks L) A3 B1)=PP from hPP.symm]at HN0 HY0
 rw[<-hPP]at HTo
 clear hPP
 go_wp2_with fail
 refine(unhide HTo).mono ?_
 rintro e w2 ⟨g1,c1,rfl,hown1,hb2⟩
 have HB2:=hide (bT (bT (unhide HB1) (unhide HbX)) hb2)
 have HBx2:=hide ((unhide HBX).of hb2)
 have HT2:=hide (((unhide HT1).of (unhide HbX)).of hb2)
 have c4':w2.cell? ⟨gT,A4*3,none⟩=some (.string S4):=(hb2.cell (p:=⟨gT,A4*3,none⟩) (Nat.lt_of_lt_of_le hgT (unhide HbX).size)).trans (((unhide HbX).cell (p:=⟨gT,A4*3,none⟩) hgT).trans c4)
 have hX2:w1.heap.size<w2.heap.size:=(unhide HBx2).cs.lt
 clear hb2 HTo HBX HbX HB1 HT1 c4
 rcases PP with _ | ⟨q',qs⟩
 ·have HR:Hid (RR=none):=unhide HN0 rfl
  clear HN0 HY0 hown1
  go_wp2
  go_returns
  refine⟨na,nc,lab,ns,?_,(unhide HP).ns.of (unhide HB2),Fr.ofBelow (unhide HB2),by omega,fun t ht=> ?_⟩
  ·rw[unhide HR];rfl
  ·rw[unhide HR]at ht;cases ht
 obtain⟨hq1',hq2',hst,hno⟩:=unhide HY0 q' qs rfl
 have hq1:A4<=q':=hq1'
 have hq2:q'+1<=B1:=hq2'
 have hq3:q'+1<=L.length:=Nat.le_trans hq2 hBL
 have hqb:q'+2<=b:=by have:=unhide HBb;omega
 have hcell: ∃G,g1=some ⟨G,0,none⟩/\G<w2.heap.size/\w2.cell? ⟨G,0,none⟩=some (.int .i64 (q':Int)):=by
  rcases hown1.2 with⟨_,f2⟩ | ⟨G,cp,cur,f1,f2,f3,f4⟩
  ·simp at f2
  ·simp only[Value.slice.injEq]at f1
   obtain⟨rfl,_,rfl⟩:=f1
   refine⟨G,rfl,(Array.getElem?_eq_some_iff.1 f3).1,?_⟩
   rw[hown1.cellAt 0 (by simp)]
   rfl
 obtain⟨G1,rfl,hG1,cG1⟩:=hcell
 have Hst:=hide hst;have Hno:=hide hno
 clear HN0 HY0 hown1 hq1' hq2' hst hno
 obtain⟨nq,hnq⟩: ∃nq,nq=(q'::qs).length:=⟨_,rfl⟩
 have jnq:((nq:Int)==0)=false:=beq_eq_false_iff_ne.2 (by rw[hnq];simp only[List.length_cons];omega)
 have jnq2:(0:Int)<(nq:Int):=by rw[hnq];simp only[List.length_cons];omega
 have jnq3: ¬nq=0:=by rw[hnq];simp
 have jnq4:0<nq:=by rw[hnq];simp
 rw[<-hnq]
 clear hnq
 obtain⟨Q1,hQ1⟩: ∃Q1,Q1=q'+1:=⟨_,rfl⟩
 have jwq:IntKind.i64.wrap ((q':Int)+1)=(Q1:Int):=by rw[IntKind.wrap_i64];omega
 rw[<-hQ1]at Hst Hno hq2
 obtain⟨wk,hwk⟩: ∃wk,wk=w2.alloc (.cells #[] 3):=⟨_,rfl⟩
 have hbw:Below w2.heap.size w2 wk:=by rw[hwk];exact bA (Below.refl _ _) _
 have HBk:=hide ((unhide HBx2).of hbw)
 have HLP:Hid (LP w0 W w2.heap.size lab na wk lab na nc ns none 0 [] (some ⟨w2.heap.size,0,none⟩) 0 []):=by
  show LP _ _ _ _ _ _ _ _ _ _ _ _ _ _ _ _
  have hb5:=unhide HB2
  have hPr:=unhide HP
  have hN5:=hPr.ns.of hb5
  have hbb:=bT hb5 hbw
  have hki:=KO.new hN5 (Nat.le_trans hzz hb5.size) [] (by simp)
  have hki':KO w0.heap.size wk lab na (some ⟨w2.heap.size,0,none⟩) 0 []:=by rw[hwk];exact hki
  exact⟨hPr.be.trans (hbb.mono hzz),hPr.ns.of hbb,Fr.ofBelow hbb,KO.nil _ _ _ _,hki',fun b hb=>by simp[blk]at hb,fun b hb=>by simp[blk]at hb;omega,hb5.size,hzz⟩
 have ck:wk.cell? ⟨gT,A4*3,none⟩=some (.string S4):=(hbw.cell (p:=⟨gT,A4*3,none⟩) (Nat.lt_trans hgT hX2)).trans c4'
 have HKe:=hide hwk;have HQ1:=hide hQ1
 obtain⟨x0,x1,x2,x3,x4,x5⟩:=(unhide HBk).cs.c6
 have hfX:=(unhide HBk).cs.frz
 have hlX:=(unhide HBk).cs.lt
 have hgk:gT<wk.heap.size:=by omega
 have hwk2:w2.heap.size<wk.heap.size:=by rw[hwk];simp
 clear hwk hbw HBx2 c4' hQ1
 go_upto_region 14 with fail
 clear cG1 hG1 jnq jnq2 jnq3 jnq4
 go_upto_region 15 with fail
 rw[<-unhide HKe]
 clear HKe
 by_cases h25:ag=2/\q'=A5/\t4= .sy 4
 ·obtain⟨rfl,h5,h4⟩:=h25
  have hq4:(S4.toList==[42])=true:=by rw[unhide Hq4];simp[h4]
  subst h5
  obtain⟨RT,hRT⟩: ∃RT,RT=sP f .tail (sgm (tks L) Q1 B1):=⟨_,rfl⟩
  obtain⟨us,hus⟩: ∃us:List Rt,us=[]:=⟨_,rfl⟩
  have HRs:Hid (RR=RT.map (fun ks=>[Rt.mk 4 0 1 [] [] (us++ks)])):=by
   show RR=_
   rw[hRT,hus]
   refine unhide Hst ⟨aggOf_two.1 (unhide Hag).symm,?_⟩
   have hbt4:q'<=(tks L).length:=by simp;omega
   exact(sgm_star hq1 hbt4).2 ⟨by have:=unhide HA4;have:=unhide HA5;omega,by rw[unhide Ht4,h4]⟩
  obtain⟨w3,hw3⟩: ∃w3,w3=wk.setCell ⟨w1.heap.size,2,none⟩ (.int .i64 1):=⟨_,rfl⟩
  have HL3:Hid (LP w0 W w2.heap.size lab na w3 lab na nc ns none 0 [] (some ⟨w2.heap.size,0,none⟩) 0 []):=by
   show LP _ _ _ _ _ _ _ _ _ _ _ _ _ _ _ _
   rw[hw3]
   exact(unhide HLP).apart hw1 (unhide HBk).n (unhide HBk).l (fun e=>by simp[blk]at e) (fun e=>by simp[blk]at e;omega) 2 _
  have HX3:Hid (Bx w3 lab na w1.heap.size [.int .i64 4,.int .i64 0,.int .i64 1,.string ⟨#[]⟩,.string ⟨#[]⟩,.slice none 0 0]):=by
   refine⟨?_,(unhide HBk).n,(unhide HBk).l⟩
   rw[hw3]
   exact(unhide HBk).cs.set 2 (.int .i64 1) (by simp)
  have Hw3:=hide hw3
  clear hw3 h4 Hq4 Hst Hno HLP HBk Hag
  go_upto_region 21 with fail
  rw[<-unhide Hw3]
  clear Hw3 x0 x1 x2 x3 x4 x5 hfX hlX
  have hnl:ns.length<=ns.length+(q'-A4):=by omega
  have Hus:=hide hus
  clear hus
  have hpx:([]:List Int).length+(B1-Q1)<=1000000:=by have:=unhide HQ1;simp;omega
  have hPr:Pre w0 L w3 lab na nc ns .tail f Q1 B1:=⟨hq2,hBL,by have h1:=unhide HBb;have h2:=unhide HA4;have h3:=unhide HQ1;have h4:=(unhide HP).fu;simp only[rnk]at h4⊢;omega,(unhide HL3).be,(unhide HL3).ns,by have:=unhide HBb;have:=unhide HA4;have:=unhide HQ1;omega⟩
  have hcall:=(unhide HH).ta w3 lab na nc ns (some ⟨w2.heap.size,0,none⟩) 0 ([]:List Int) Q1 B1 hPr (unhide HL3).ki hpx
  rw[<-hRT]at hcall
  have HC2:Hid (Calls Tryz.prog 56 #[.slice (some ⟨gT,0,none⟩) L.length c,.int .i64 (Q1:Int),.int .i64 (B1:Int),.slice na ns.length nc,.slice (some ⟨w2.heap.size,0,none⟩) 0 0] w3 (TE w0.heap.size w3 lab na (some ⟨w2.heap.size,0,none⟩) ns ([]:List Int) RT (B1-Q1))):=hcall
  have Hnl:=hide hnl
  clear hcall hPr hRT hpx hnl
  go_wp2_with fail
  refine(unhide HC2).mono ?_
  rintro e w8 ⟨na3,nc3,lab3,ns3,ka3,kc3,xs3,rfl,hN3,hK3,hbut,hna,hka,hlb,hnl3,hxl3,hres⟩
  have hXl3:=(unhide HX3).cs.lt
  have HF8:=hide ((unhide HL3).tailFr hbut hna hlb)
  have HX8:=hide ((unhide HX3).tail (fun e=>by have:=(unhide HL3).kx _ e;omega) hbut hna hlb)
  have hk8: ∀b,blk ka3=some b->w1.heap.size<b:=fun b hb=>(hka b hb).elim (fun e=>by have:=(unhide HL3).kx _ e;omega) (fun e=>by omega)
  have HN8:=hide hN3;have HK8:=hide hK3;have HRes:=hide hres;have Hk8:=hide hk8
  have hz8:w3.heap.size<=w8.heap.size:=hbut.size
  clear hN3 hK3 hbut hna hka hlb hres hk8 HC2
  obtain⟨x0,x1,x2,x3,x4,x5⟩:=(unhide HX8).cs.c6
  have hfX:=(unhide HX8).cs.frz
  have hlX:=(unhide HX8).cs.lt
  obtain⟨w9,hw9⟩: ∃w9,w9=w8.setCell ⟨w1.heap.size,5,none⟩ (.slice ka3 xs3.length kc3):=⟨_,rfl⟩
  have hb9:ButB (fun b=>b=w1.heap.size) w8 w9:=by
   rw[hw9]
   exact ButB.set (S:=fun b=>b=w1.heap.size) (ButB.refl _ _) (Or.inl rfl) _
  have hX9:CellsAt w9 w1.heap.size [.int .i64 4,.int .i64 0,.int .i64 1,.string ⟨#[]⟩,.string ⟨#[]⟩,.slice ka3 xs3.length kc3]:=by
   rw[hw9]
   exact(unhide HX8).cs.set 5 (.slice ka3 xs3.length kc3) (by simp)
  have hN9:=(unhide HN8).but hb9 (fun b e e'=>(unhide HX8).n (by rw[<-e'];exact e)) (fun b i e e'=>by rw[e',(unhide HX8).l]at e;cases e)
  have hK9:=(unhide HK8).but hb9 (fun b e e'=>by have:=unhide Hk8 b e;omega)
  have HF9:=hide ((unhide HF8).local hb9 (fun b e=>by omega))
  have hB9:w0.heap.size<=w9.heap.size:=Nat.le_trans (Nat.le_trans (unhide HL3).sz hz8) hb9.size
  obtain⟨WN,hWN⟩: ∃WN,WN=w9.alloc (.cells #[.int .i64 4,.int .i64 0,.int .i64 1,.string ⟨#[]⟩,.string ⟨#[]⟩,.slice ka3 xs3.length kc3] 62):=⟨_,rfl⟩
  obtain⟨nN,nK,nC,nB,nW,nZ⟩:=lit_node0 hN9 hB9 ⟨4,0,1,⟨#[]⟩,⟨#[]⟩,xs3⟩ ka3 kc3 hK9 WN hWN
  have HnN:=hide nN;have HnK:=hide nK;have HnC:=hide nC;have HnW:=hide nW
  have HWe:=hide hWN;have Hw9:=hide hw9;have HX9:=hide hX9;have Hnl3:=hide hnl3;have Hxl3:=hide hxl3
  have hn6:ns3.length<=1000000:=by have:=unhide Hnl;have:=unhide HBb;have:=unhide HA4;have:=unhide HQ1;omega
  clear hWN nN nK nC nW nZ hw9 hb9 hX9 hN9 hK9 hnl3 hxl3
  go_upto_region 25 with fail
  rw[<-unhide Hw9]
  clear Hw9 x0 x1 x2 x3 x4 x5 hfX hlX
  obtain⟨x0,x1,x2,x3,x4,x5⟩:=(unhide HX9).c6
  have hfX:=(unhide HX9).frz
  have hlX:=(unhide HX9).lt
  go_wp2_with (at_builtin;rw[<-unhide HWe];refine wpList_pushN WN rfl (.tmp 216) (.tmp 218) 22 rfl tn _ Tryz.underlying22 htn hy0 hy1 hy2 rfl w0.heap.size lab3 na3 nc3 ns3 rfl (unhide HnN) ⟨4,0,1,⟨#[]⟩,⟨#[]⟩,xs3⟩ ka3 kc3 (unhide HnK) w9.heap.size 1 rfl (unhide HnC) hn6 nB ?_;intro ra7 rc7 w7 hn7 hb7 hat7;have HN7:=hide hn7;have HB7:=hide hb7;have HA7:=hide hat7;clear hn7 hb7 hat7)
  go_wp2
  go_returns
  refine⟨ra7,rc7,labX lab3 ka3 ns3.length,ns3++[⟨4,0,1,⟨#[]⟩,⟨#[]⟩,xs3⟩],?_,unhide HN7,((unhide HF9).thenB (unhide HnW)).push (fun b hb=>Nat.le_trans hw1 (Nat.le_of_lt (unhide Hk8 b hb))) (unhide HB7) (unhide HA7) _,by have:=unhide Hnl;have:=unhide Hnl3;have:=unhide HBb;have:=unhide HA4;have:=unhide HQ1;simp;omega,fun t' ht'=> ?_⟩
  ·rw[unhide HRs];simp
  ·rw[unhide HRs]at ht'
   cases RT with
   | none=>cases ht'
   | some ks=>
    simp only[Option.map_some,Option.some.injEq,List.cons.injEq,and_true]at ht'
    obtain⟨h1,h2⟩:=unhide HRes ks rfl
    rw[<-ht',lay_mk,h1,h2,unhide Hus]
    simp[List.append_assoc]
 have Hbad:Hid (¬(t2= .sy 25/\sgm (tks L) A4 q'=[star])):=fun⟨e1,e2⟩=>by
  have hbt4:q'<=(tks L).length:=by simp;omega
  obtain⟨e3,e4⟩:=(sgm_star hq1 hbt4).1 e2
  refine h25 ⟨by rw[unhide Hag];exact aggOf_two.2 e1,by have:=unhide HA4;have:=unhide HA5;omega,?_⟩
  rw[unhide Ht4]at e4
  exact Option.some.inj e4
 have hPr:Pre w0 L wk lab na nc ns .scal f A4 q':=⟨hq1,by omega,by have h1:=(unhide HP).fu;have h2:=unhide HA4;simp only[rnk]at h1⊢;omega,(unhide HLP).be,(unhide HLP).ns,by have:=unhide HA4;have:=unhide HBb;omega⟩
 have hcall:=(unhide HH).sc wk lab na nc ns A4 q' hPr
 obtain⟨RS,hRS⟩: ∃RS,RS=sP f .scal (sgm (tks L) A4 q'):=⟨_,rfl⟩
 have HRS:=hide hRS
 rw[<-hRS]at hcall
 obtain⟨ok0,hok0⟩: ∃ok0,ok0=RS.isSome:=⟨_,rfl⟩
 have HC:Hid (Calls Tryz.prog 55 #[.slice (some ⟨gT,0,none⟩) L.length c,.int .i64 (A4:Int),.int .i64 (q':Int),.slice na ns.length nc] wk fun e w'=> ∃na' nc' lab' ns',e= .returned (.tuple #[.slice na' (ns':List Nd).length nc',.bool ok0])/\NS w0.heap.size w' lab' na' nc' ns'/\Fr wk w' lab lab' na na'/\ns'.length<=ns.length+(q'-A4)/\ ∀t,RS=some [t]->ns'=ns++lay t ns.length):=by
  show Calls _ _ _ _ _
  rw[hok0]
  exact hcall
 have Hok0:=hide hok0
 clear hcall hPr hRS hok0 Hst Hag
 by_cases i1:ag=2
 rotate_left
 have ja: ¬(ag:Int)=2:=by omega
 clear i1 h25 Hq4
 rotate_left
 by_cases i2:q'=A5
 rotate_left
 have ja: ¬(q':Int)=(A5:Int):=by omega
 have ja2:(ag:Int)=2:=by omega
 clear i1 i2 h25 Hq4
 rotate_left 2
 have hq4:(S4.toList==[42])=false:=by
  rw[unhide Hq4]
  simp only[decide_eq_false_iff_not]
  exact fun e=>h25 ⟨i1,i2,e⟩
 have ja2:(ag:Int)=2:=by omega
 subst i2
 clear i1 h25 Hq4
 go_upto_region 18 with fail
 all_goals
  try clear ja2
  go_wp2_with fail
  refine(unhide HC).mono ?_
  rintro e w3 ⟨na2,nc2,lab2,ns2,rfl,hN2,hF2,hl2,he2⟩
  have HL3:=hide ((unhide HLP).call hF2 hN2)
  have HB3:=hide ((unhide HBk).call hF2)
  have HE2:=hide he2
  have hw3:wk.heap.size<=w3.heap.size:=hF2.size
  clear HC hN2 hF2 he2 HLP HBk x0 x1 x2 x3 x4 x5 hfX hlX ck
  obtain⟨x0,x1,x2,x3,x4,x5⟩:=(unhide HB3).cs.c6
  have hfX:=(unhide HB3).cs.frz
  have hlX:=(unhide HB3).cs.lt
  obtain⟨w4,hw4⟩: ∃w4,w4=w3.setCell ⟨w1.heap.size,1,none⟩ (.int .i64 1):=⟨_,rfl⟩
  have hz4:w4.heap.size=w3.heap.size:=by rw[hw4];simp
  have HL4:Hid (LP w0 W w2.heap.size lab na w4 lab2 na2 nc2 ns2 none 0 [] (some ⟨w2.heap.size,0,none⟩) 0 []):=by
   show LP _ _ _ _ _ _ _ _ _ _ _ _ _ _ _ _
   rw[hw4]
   exact(unhide HL3).apart hw1 (unhide HB3).n (unhide HB3).l (fun e=>by simp[blk]at e) (fun e=>by simp[blk]at e;omega) 1 _
  have HB4:Hid (Bx w4 lab2 na2 w1.heap.size [.int .i64 4,.int .i64 1,.int .i64 (ag:Int),.string ⟨#[]⟩,.string ⟨#[]⟩,.slice none 0 0]):=by
   refine⟨?_,(unhide HB3).n,(unhide HB3).l⟩
   rw[hw4]
   exact(unhide HB3).cs.set 1 (.int .i64 1) (by simp)
  have jk:IntKind.i64.wrap ((ns2.length:Int)-1)=(ns2.length:Int)-1:=by rw[IntKind.wrap_i64];have:=hl2;omega
  obtain⟨WB,hWB⟩: ∃WB,WB=w4.alloc (.cells #[.int .i64 ((ns2.length:Int)-1)] 3):=⟨_,rfl⟩
  have hbB:Below w4.heap.size w4 WB:=by rw[hWB];exact bA (Below.refl _ _) _
  have HLB:=hide ((unhide HL4).of hbB)
  have HBB:=hide ((unhide HB4).of hbB)
  have hzB:WB.heap.size=w4.heap.size+1:=by rw[hWB];simp
  have HcB:Hid (WB.cell? ⟨w4.heap.size,0,none⟩=some (.int .i64 ((ns2.length:Int)-1))):=by
   show _=_
   rw[hWB]
   exact(CellsAt.new w4 [.int .i64 ((ns2.length:Int)-1)] 3).all 0 _ rfl
  have HWe:=hide hWB;have Hw4:=hide hw4
  have hzb1:w0.heap.size<=WB.heap.size:=(unhide HLB).sz
  have Hz4:=hide hz4;have HzB:=hide hzB
  have HHl2:=hide hl2
  have hns2:ns2.length<=1000000:=by have:=unhide HA4;have:=unhide HBb;omega
  clear hWB hbB hzB hz4 hw4 HL3 HB3 HL4 HB4
  go_upto_region 20 with fail
  rw[<-unhide Hw4]
  clear Hw4 x0 x1 x2 x3 x4 x5 hfX hlX
  go_upto_region 21 with(at_builtin;rw[<-unhide HWe];refine wpList_pushK WB rfl (.tmp 193) (.tmp 197) 58 rfl ti _ Tryz.underlying58 hti hz0 hz1 hz2 rfl w0.heap.size lab2 na2 (some ⟨w2.heap.size,0,none⟩) 0 [] rfl (unhide HLB).ki (fun b hb=>((unhide HLB).ns.lt b hb).2) (unhide HLB).ns.rng ((ns2.length:Int)-1) w4.heap.size 1 rfl (unhide HcB) (by simp) hzb1 ?_;intro ra rc w6 hk6 hb6 hat6;have HK6:=hide hk6;have HB6:=hide hb6;have HA6:=hide hat6;clear hk6 hb6 hat6)
  have HL6:Hid (LP w0 W w2.heap.size lab na w6 lab2 na2 nc2 ns2 none 0 [] ra rc ([]++[(ns2.length:Int)-1])):=(unhide HLB).kid (by have:=unhide HzB;have:=unhide Hz4;omega) (unhide HK6) (unhide HB6) (unhide HA6)
  have HX6:=hide ((unhide HBB).but (unhide HB6) (fun e=>by have:=(unhide HLB).kx _ e;omega))
  have hw6:WB.heap.size<=w6.heap.size:=(unhide HB6).size
  clear HK6 HB6 HA6 HcB HLB HBB HWe
  cases ok0
  ·have HR:Hid (RR=none):=by
    show RR=none
    refine(unhide Hno (unhide Hbad)).1 ?_
    have h0:=unhide Hok0
    rw[<-unhide HRS]
    cases RS with
    | none=>rfl
    | some x=>cases h0
   go_wp2
   go_returns
   refine⟨na2,nc2,lab2,ns2,?_,(unhide HL6).ns,(unhide HL6).fr,by have:=unhide HHl2;have:=unhide HA4;have:=unhide HBb;omega,fun t ht=> ?_⟩
   ·rw[unhide HR];rfl
   ·rw[unhide HR]at ht;cases ht
  obtain⟨t,ht⟩: ∃t,RS=some [t]:=by
   have h0:=unhide Hok0
   rcases sP_one (f:=f) (nt:= .scal) (xs:=sgm (tks L) A4 q') (by simp[single])with hr | ⟨t,hr⟩
   ·rw[unhide HRS,hr]at h0;cases h0
   ·exact⟨t,(unhide HRS).trans hr⟩
  obtain⟨RT,hRT⟩: ∃RT,RT=sP f .tail (sgm (tks L) Q1 B1):=⟨_,rfl⟩
  have HRs:Hid (RR=RT.map (fun ks=>[Rt.mk 4 1 (ag:Int) [] [] ([t]++ks)])):=by
   show RR=_
   rw[hRT]
   exact(unhide Hno (unhide Hbad)).2 t ((unhide HRS).symm.trans ht)
  have HNs:Hid (ns2=ns++(lays [t] ns.length).1):=by show ns2=_;rw[lays_one];exact unhide HE2 t ht
  have HXs:Hid ([]++[(ns2.length:Int)-1]=(lays [t] ns.length).2):=by
   show _=_
   rw[lays_cons,lays_nil,unhide HE2 t ht]
   simp
  have hnl:=unhide HHl2
  clear Hno Hbad HRS Hok0 ht HE2 HHl2
  have hpx:([]++[(ns2.length:Int)-1]).length+(B1-Q1)<=1000000:=by have:=unhide HQ1;simp;omega
  have hPr:Pre w0 L w6 lab2 na2 nc2 ns2 .tail f Q1 B1:=⟨hq2,hBL,by have h1:=unhide HBb;have h2:=unhide HA4;have h3:=unhide HQ1;have h4:=(unhide HP).fu;simp only[rnk]at h4⊢;omega,(unhide HL6).be,(unhide HL6).ns,by have:=unhide HBb;have:=unhide HA4;have:=unhide HQ1;omega⟩
  have hcall:=(unhide HH).ta w6 lab2 na2 nc2 ns2 ra rc ([]++[(ns2.length:Int)-1]) Q1 B1 hPr (unhide HL6).ki hpx
  rw[<-hRT]at hcall
  have HC2:Hid (Calls Tryz.prog 56 #[.slice (some ⟨gT,0,none⟩) L.length c,.int .i64 (Q1:Int),.int .i64 (B1:Int),.slice na2 ns2.length nc2,.slice ra (([]:List Int).length+1) rc] w6 (TE w0.heap.size w6 lab2 na2 ra ns2 ([]++[(ns2.length:Int)-1]) RT (B1-Q1))):=hcall
  have Hnl:=hide hnl
  clear hcall hPr hRT hpx hnl
  go_wp2_with fail
  refine(unhide HC2).mono ?_
  rintro e w8 ⟨na3,nc3,lab3,ns3,ka3,kc3,xs3,rfl,hN3,hK3,hbut,hna,hka,hlb,hnl3,hxl3,hres⟩
  have hXl3:=(unhide HX6).cs.lt
  have HF8:=hide ((unhide HL6).tailFr hbut hna hlb)
  have HX8:=hide ((unhide HX6).tail (fun e=>by have:=(unhide HL6).kx _ e;omega) hbut hna hlb)
  have hk8: ∀b,blk ka3=some b->w1.heap.size<b:=fun b hb=>(hka b hb).elim (fun e=>by have:=(unhide HL6).kx _ e;omega) (fun e=>by omega)
  have HN8:=hide hN3;have HK8:=hide hK3;have HRes:=hide hres;have Hk8:=hide hk8
  have hz8:w6.heap.size<=w8.heap.size:=hbut.size
  clear hN3 hK3 hbut hna hka hlb hres hk8 HC2
  obtain⟨x0,x1,x2,x3,x4,x5⟩:=(unhide HX8).cs.c6
  have hfX:=(unhide HX8).cs.frz
  have hlX:=(unhide HX8).cs.lt
  obtain⟨w9,hw9⟩: ∃w9,w9=w8.setCell ⟨w1.heap.size,5,none⟩ (.slice ka3 xs3.length kc3):=⟨_,rfl⟩
  have hb9:ButB (fun b=>b=w1.heap.size) w8 w9:=by
   rw[hw9]
   exact ButB.set (S:=fun b=>b=w1.heap.size) (ButB.refl _ _) (Or.inl rfl) _
  have hX9:CellsAt w9 w1.heap.size [.int .i64 4,.int .i64 1,.int .i64 (ag:Int),.string ⟨#[]⟩,.string ⟨#[]⟩,.slice ka3 xs3.length kc3]:=by
   rw[hw9]
   exact(unhide HX8).cs.set 5 (.slice ka3 xs3.length kc3) (by simp)
  have hN9:=(unhide HN8).but hb9 (fun b e e'=>(unhide HX8).n (by rw[<-e'];exact e)) (fun b i e e'=>by rw[e',(unhide HX8).l]at e;cases e)
  have hK9:=(unhide HK8).but hb9 (fun b e e'=>by have:=unhide Hk8 b e;omega)
  have HF9:=hide ((unhide HF8).local hb9 (fun b e=>by omega))
  have hB9:w0.heap.size<=w9.heap.size:=Nat.le_trans (Nat.le_trans (unhide HL6).sz hz8) hb9.size
  obtain⟨WN,hWN⟩: ∃WN,WN=w9.alloc (.cells #[.int .i64 4,.int .i64 1,.int .i64 (ag:Int),.string ⟨#[]⟩,.string ⟨#[]⟩,.slice ka3 xs3.length kc3] 62):=⟨_,rfl⟩
  obtain⟨nN,nK,nC,nB,nW,nZ⟩:=lit_node0 hN9 hB9 ⟨4,1,(ag:Int),⟨#[]⟩,⟨#[]⟩,xs3⟩ ka3 kc3 hK9 WN hWN
  have HnN:=hide nN;have HnK:=hide nK;have HnC:=hide nC;have HnW:=hide nW
  have HWe:=hide hWN;have Hw9:=hide hw9;have HX9:=hide hX9;have Hnl3:=hide hnl3;have Hxl3:=hide hxl3
  have hn6:ns3.length<=1000000:=by have:=unhide Hnl;have:=unhide HBb;have:=unhide HA4;have:=unhide HQ1;omega
  clear hWN nN nK nC nW nZ hw9 hb9 hX9 hN9 hK9 hnl3 hxl3
  go_upto_region 25 with fail
  rw[<-unhide Hw9]
  clear Hw9 x0 x1 x2 x3 x4 x5 hfX hlX
  obtain⟨x0,x1,x2,x3,x4,x5⟩:=(unhide HX9).c6
  have hfX:=(unhide HX9).frz
  have hlX:=(unhide HX9).lt
  go_wp2_with (at_builtin;rw[<-unhide HWe];refine wpList_pushN WN rfl (.tmp 216) (.tmp 218) 22 rfl tn _ Tryz.underlying22 htn hy0 hy1 hy2 rfl w0.heap.size lab3 na3 nc3 ns3 rfl (unhide HnN) ⟨4,1,(ag:Int),⟨#[]⟩,⟨#[]⟩,xs3⟩ ka3 kc3 (unhide HnK) w9.heap.size 1 rfl (unhide HnC) hn6 nB ?_;intro ra7 rc7 w7 hn7 hb7 hat7;have HN7:=hide hn7;have HB7:=hide hb7;have HA7:=hide hat7;clear hn7 hb7 hat7)
  go_wp2
  go_returns
  refine⟨ra7,rc7,labX lab3 ka3 ns3.length,ns3++[⟨4,1,(ag:Int),⟨#[]⟩,⟨#[]⟩,xs3⟩],?_,unhide HN7,((unhide HF9).thenB (unhide HnW)).push (fun b hb=>Nat.le_trans hw1 (Nat.le_of_lt (unhide Hk8 b hb))) (unhide HB7) (unhide HA7) _,by have:=unhide Hnl;have:=unhide Hnl3;have:=unhide HBb;have:=unhide HA4;have:=unhide HQ1;simp;omega,fun t' ht'=> ?_⟩
  ·rw[unhide HRs];simp
  ·rw[unhide HRs]at ht'
   cases RT with
   | none=>cases ht'
   | some ks=>
    simp only[Option.map_some,Option.some.injEq,List.cons.injEq,and_true]at ht'
    obtain⟨h1,h2⟩:=unhide HRes ks rfl
    rw[<-ht',lay_mk,lays_app,h1,h2,unhide HXs]
    rw[congrArg (fun l=>l++(lays ks ns2.length).1) (unhide HNs)]
    rw[show ns2.length=ns.length+(lays [t] ns.length).1.length by rw[<-List.length_append,<-unhide HNs]]
    simp[List.append_assoc]
end Go.Proofs.YtmggnimiioepeaaGreatDoor.Pa
namespace Go.Proofs.YtmggnimiioepeaaGreatDoor.Pa
open Go Go.RowKit
theorem l2Scalar_calls(w0:World)(ad:Option Addr)(c:Nat)(L:List (Tok×ByteArray))(f:Nat)(hL:L.length<=1000000)(hT:TksS w0 ad L)(H:SHyp w0 ad c L f)(W:World)(lab:Lbl)(na:Option Addr)(nc:Nat)(ns:List Nd)(a b:Nat)(hP:Pre w0 L W lab na nc ns .scal (f+1) a b):
  Calls Tryz.prog 55 #[.slice ad L.length c,.int .i64 (a:Int),.int .i64 (b:Int),.slice na ns.length nc] W (PE w0.heap.size W lab na ns (sP (f+1) .scal (sgm (tks L) a b)) (b-a)):=by
 have hab:=hP.ab
 have hbl:=hP.bl
 have hbt:b<=(tks L).length:=by simp;omega
 by_cases h1:b=a+1
 ·exact scal_one w0 ad c L f hL hT W lab na nc ns a b hP h1
 by_cases h3:b=a+3
 ·exact scal_three w0 ad c L f hL hT W lab na nc ns a b hP h3
 by_cases hs:b-a<6
 ·exact sscal_else w0 ad c L f hL hT W lab na nc ns a b hP hs h1 h3
 have h6:6<=b-a:=by omega
 by_cases hw: ∃x,wraps (sgm (tks L) a b)=some x
 rotate_left
 ·exact scal_nowrap w0 ad c L f hL hT W lab na nc ns a b hP h6 hw
 obtain⟨i,hw⟩:=hw
 obtain⟨t1,ht1⟩: ∃t,(tks L)[a+1]?=some t:=⟨_,List.getElem?_eq_getElem (by omega)⟩
 obtain⟨t2,ht2⟩: ∃t,(tks L)[a+1+1]?=some t:=⟨_,List.getElem?_eq_getElem (by omega)⟩
 obtain⟨t3,ht3⟩: ∃t,(tks L)[a+1+1+1]?=some t:=⟨_,List.getElem?_eq_getElem (by omega)⟩
 by_cases hbad:t1= .sy 11/\0<aggOf t2/\t3= .sy 0
 ·obtain⟨rfl,hg,rfl⟩:=hbad
  exact scal_big w0 ad c L f hL hT H W lab na nc ns a b hP h6 i hw t2 ht1 ht2 hg ht3
 ·exact scal_nohead w0 ad c L f hL hT W lab na nc ns a b hP h6 i hw t1 t2 t3 ht1 ht2 ht3 hbad
end Go.Proofs.YtmggnimiioepeaaGreatDoor.Pa
