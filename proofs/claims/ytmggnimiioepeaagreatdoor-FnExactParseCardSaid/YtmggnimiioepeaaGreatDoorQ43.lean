import Derived.Test.YtmggnimiioepeaaGreatDoorQ0
import Derived.Test.YtmggnimiioepeaaGreatDoorQ14
import Derived.Test.YtmggnimiioepeaaGreatDoorQ37
import Derived.Test.YtmggnimiioepeaaGreatDoorPaSelect
import Derived.Test.YtmggnimiioepeaaGreatDoorPaTail
import Derived.Test.YtmggnimiioepeaaGreatDoorQ42
namespace Go.Proofs.YtmggnimiioepeaaGreatDoor.Pa
open Go Go.RowKit
theorem bool_cut{ts:List Tok}{sep:Tok}{K:Int}{p:List Tok->Option (List Rt)}{a b:Nat}(hab:a<=b)(hb:b<=ts.length)(h:topsP sep 0 a (sgm ts a b)≠[]):
  (match cutL sep 0 (sgm ts a b)with | [x]=>p x | l=>(match mapP p l with | some ts=>some [Rt.mk K 0 0 [] [] ts] | none=>none))=(match mapP p (between ts a (topsP sep 0 a (sgm ts a b)) b)with | some ts=>some [Rt.mk K 0 0 [] [] ts] | none=>none):=by
 rw[cut_between ts sep a b hab hb]
 cases hp:topsP sep 0 a (sgm ts a b)with
 | nil=>exact absurd hp h
 | cons q qs=>
  have hl:=between_len ts qs (q+1) b
  rw[between]
  cases hB:between ts (q+1) qs b with
  | nil=>rw[hB]at hl;simp at hl
  | cons y l=>rfl
theorem bool_whole{ts:List Tok}{sep:Tok}{K:Int}{p:List Tok->Option (List Rt)}{a b:Nat}(hab:a<=b)(hb:b<=ts.length)(h:topsP sep 0 a (sgm ts a b)=[]):
  (match cutL sep 0 (sgm ts a b)with | [x]=>p x | l=>(match mapP p l with | some ts=>some [Rt.mk K 0 0 [] [] ts] | none=>none))=p (sgm ts a b):=by
 rw[cut_between ts sep a b hab hb,h]
 rfl
set_option maxHeartbeats 8000000 in
set_option maxRecDepth 100000 in
theorem l2Bool_0(w0:World)(ad:Option Addr)(c:Nat)(L:List (Tok×ByteArray))(f:Nat)(hL:L.length<=1000000)(hT:TksS w0 ad L)(H:SHyp w0 ad c L f)(W:World)(lab:Lbl)(na:Option Addr)(nc:Nat)(ns:List Nd)(a b:Nat)(hP:Pre w0 L W lab na nc ns .cond (f+1) a b):
  Calls Tryz.prog 82 #[.slice ad L.length c,.int .i64 (a:Int),.int .i64 (b:Int),.slice na ns.length nc,.int .i64 0] W (PE w0.heap.size W lab na ns (sP (f+1) .cond (sgm (tks L) a b)) (b-a)):=by
 obtain⟨ti,hti,hz⟩:=Option.map_eq_some_iff.1 (show(Tryz.prog.info? 3).map (fun i=>(i.zero,i.size,i.bytes))=some (some (.int .i64 0),1,8)by kernel_rfl)
 simp only[Prod.mk.injEq]at hz
 obtain⟨hz0,hz1,hz2⟩:=hz
 obtain⟨tn,htn,hy⟩:=Option.map_eq_some_iff.1 (show(Tryz.prog.info? 62).map (fun i=>(i.zero,i.size,i.bytes))=some (some (.agg #[.int .i64 0,.int .i64 0,.int .i64 0,.string ⟨#[]⟩,.string ⟨#[]⟩,.slice none 0 0]),6,80)by kernel_rfl)
 simp only[Prod.mk.injEq]at hy
 obtain⟨hy0,hy1,hy2⟩:=hy
 have hab:=hP.ab
 have hbl:=hP.bl
 have hln:=hP.ln
 have hfu:=hP.fu
 simp only[rnk]at hfu
 have hbt:b<=(tks L).length:=by simp;omega
 have hTW:TksS W ad L:=fun i p hp=>by
  obtain⟨h0,g,h1,h2,h3⟩:=hT i p hp
  exact⟨h0,g,h1,Nat.lt_of_lt_of_le h2 hP.be.size,fun j hj=>(hP.be.cell (p:=⟨g,i*3+j,none⟩) h2).trans (h3 j hj)⟩
 have HTo:=hide (l2Tops_calls L ad c W hL hTW a b hab hbl ⟨#[79,82]⟩ 19 (by omega) (Go.ByteArray.toList_mk [79,82]))
 have hsq:sP (f+1) .cond (sgm (tks L) a b)=(match cutL (.sy 19) 0 (sgm (tks L) a b)with | [x]=>sP f .conj x | l=>(match mapP (sP f .conj) l with | some ts=>some [Rt.mk 15 0 0 [] [] ts] | none=>none)):=rfl
 have HH:=hide H;have HP:=hide hP
 clear H hP hT hTW
 by_cases h0:topsP (.sy 19) 0 a (sgm (tks L) a b)=[]
 ·rw[bool_whole hab hbt h0]at hsq
  rw[hsq]
  have HR:Hid (∀w1,Below W.heap.size W w1->Calls Tryz.prog 82 #[.slice ad L.length c,.int .i64 (a:Int),.int .i64 (b:Int),.slice na ns.length nc,.int .i64 1] w1 (PE w0.heap.size w1 lab na ns (sP f .conj (sgm (tks L) a b)) (b-a))):=fun w1 hb1=>
   (unhide HH).bo 1 .conj w1 lab na nc ns a b (by simp) ⟨hab,hbl,by simp only[rnk];omega,(unhide HP).be.trans (hb1.mono (unhide HP).be.size),(unhide HP).ns.of hb1,hln⟩
  rw[h0]at HTo
  clear hsq h0 HH HP
  go_enter Tryz.func82,Tryz.ntmps82
  go_wp2_with fail
  refine(unhide HTo).mono ?_
  rintro e w1 ⟨g,cap,rfl,hown,hb1⟩
  have HC:=hide (unhide HR w1 hb1)
  have HB1:=hide hb1
  clear hb1 hown HTo HR
  go_wp2_with fail
  refine(unhide HC).mono ?_
  rintro e w2 ⟨na2,nc2,lab2,ns2,rfl,hN2,hF2,hl2,hr2⟩
  have HE:Hid (NS w0.heap.size w2 lab2 na2 nc2 ns2/\Fr W w2 lab lab2 na na2/\ns2.length<=ns.length+(b-a)/\ ∀t,sP f .conj (sgm (tks L) a b)=some [t]->ns2=ns++lay t ns.length):=⟨hN2,(Fr.ofBelow (unhide HB1)).trans hF2,hl2,hr2⟩
  clear hN2 hF2 hl2 hr2 HC HB1
  generalize(sP f .conj (sgm (tks L) a b))=RR at*
  go_wp2
  go_returns
  exact⟨na2,nc2,lab2,ns2,rfl,unhide HE⟩
 ·rw[bool_cut hab hbt h0]at hsq
  obtain⟨CS,hCS⟩: ∃CS,CS=topsP (.sy 19) 0 a (sgm (tks L) a b)++[b]:=⟨_,rfl⟩
  have hle: ∀i (h:i<CS.length),CS[i]<=b/\stA a CS i<=CS[i]/\a<=stA a CS i:=by rw[hCS];exact cuts_le (.sy 19) (tks L) a b hab hbt
  obtain⟨l,hl⟩: ∃l,l=between (tks L) a (topsP (.sy 19) 0 a (sgm (tks L) a b)) b:=⟨_,rfl⟩
  have hat: ∀i (h:i<CS.length),l[i]?=some (sgm (tks L) (stA a CS i) CS[i]):=by rw[hCS,hl];exact between_at (tks L) (topsP (.sy 19) 0 a (sgm (tks L) a b)) a b
  have hll:l.length=CS.length:=by rw[hl,hCS];exact between_len _ _ _ _
  have hC2:2<=CS.length:=by
   rw[hCS]
   cases hq:topsP (.sy 19) 0 a (sgm (tks L) a b)with
   | nil=>exact absurd hq h0
   | cons x y=>simp
  have hCl:CS.length<=b-a+1:=by
   rw[hCS]
   have:=topsP_len (.sy 19) (sgm (tks L) a b) 0 a
   rw[sgm_len _ _ _ hab hbt]at this
   simp
   omega
  have hCe:stA a CS CS.length=b+1:=by
   rw[hCS]
   obtain⟨m,hm⟩: ∃m,m=topsP (.sy 19) 0 a (sgm (tks L) a b):=⟨_,rfl⟩
   rw[<-hm]
   have:=stA_succ a (m++[b]) m.length (by simp)
   simpa using this
  rw[<-hl]at hsq
  obtain⟨RR,hRR⟩: ∃RR,RR=sP (f+1) .cond (sgm (tks L) a b):=⟨_,rfl⟩
  rw[<-hRR]
  rw[hsq]at hRR
  have HRR:=hide hRR;have HCS:=hide hCS;have HLe:=hide hle;have HAt:=hide hat;have HLl:=hide hll;have HCe:=hide hCe
  have hPn: ¬(topsP (.sy 19) 0 a (sgm (tks L) a b)).length=0:=fun e=>h0 (List.eq_nil_of_length_eq_zero e)
  have hPl:(topsP (.sy 19) 0 a (sgm (tks L) a b)).length+1=CS.length:=by rw[hCS];simp
  clear hsq h0 hRR hCS hl hle hat hll hCe hfu
  generalize topsP (.sy 19) 0 a (sgm (tks L) a b)=PP at*
  have hPb:((PP.length:Int)==0)=false:=beq_eq_false_iff_ne.2 (by omega)
  go_enter Tryz.func82,Tryz.ntmps82
  go_wp2_with fail
  refine(unhide HTo).mono ?_
  rintro e w1 ⟨g,cap,rfl,hown,hb1⟩
  obtain⟨WA,hWA⟩: ∃WA,WA=w1.alloc (.cells #[.int .i64 (b:Int)] 3):=⟨_,rfl⟩
  have hWB:Below w1.heap.size w1 WA:=by rw[hWA];exact bA (Below.refl _ _) _
  have HWO:=hide (own_below hown hWB)
  have HWS:Hid (SrcC WA 1 (some ⟨w1.heap.size,0,none⟩) 1 1 [.int .i64 (b:Int)]):=by
   show SrcC _ _ _ _ _ _
   rw[hWA]
   exact srcNew _ _ [.int .i64 (b:Int)] _ 1 1 rfl (by simp[Value.oneCell']) rfl 1
  have hWz:W.heap.size<=WA.heap.size:=Nat.le_trans hb1.size hWB.size
  have HBA:=hide (bT hb1 hWB)
  have HWe:=hide hWA
  have hPm:PP.length<=1000000:=by omega
  clear hWA hWB hown hb1 HTo
  go_upto_region 12 with(at_builtin;rw[<-unhide HWe];refine wpList_append_gen WA rfl (.tmp 46) (.tmp 48) 58 rfl W.heap.size 3 ti _ 1 8 Tryz.underlying58 hti hz0 hz1 hz2 rfl (by decide) g PP.length cap (vN PP) rfl (unhide HWO) (some ⟨w1.heap.size,0,none⟩) 1 1 [.int .i64 (b:Int)] rfl (unhide HWS) (by unfold maxLen;omega) (by omega) hWz ?_;intro ga gc w5 hown2 hgrow hatt;have HO2:=hide hown2;have HG5:=hide hgrow;clear hown2 hgrow hatt)
  have HB5:Hid (Below W.heap.size W w5):=grown_below (unhide HBA) (unhide HG5) (fun j hj=>((unhide HWO).lt j (by rw[own_slice];exact hj)).1)
  obtain⟨wk,hwk⟩: ∃wk,wk=w5.alloc (.cells #[] 3):=⟨_,rfl⟩
  have HLP:Hid (LP w0 W w5.heap.size lab na wk lab na nc ns ga gc (nI CS) (some ⟨w5.heap.size,0,none⟩) 0 []):=by
   show LP _ _ _ _ _ _ _ _ _ _ _ _ _ _ _ _
   have hb5:=unhide HB5
   have hPr:=unhide HP
   have hN5:=hPr.ns.of hb5
   have hbw:Below w5.heap.size w5 wk:=by rw[hwk];exact bA (Below.refl _ _) _
   have hz:w0.heap.size<=W.heap.size:=hPr.be.size
   have hbb:=bT hb5 hbw
   have hcu:KO w0.heap.size w5 lab na ga gc (nI CS):=by
    have ho:=unhide HO2
    refine⟨?_,fun b hb=> ?_⟩
    ·rw[nI_len,<-vN_iV,unhide HCS,vN_snoc,List.length_append]
     refine⟨ho.1,ho.2.imp id (fun⟨g,cap,cur,h1,h2,h3⟩=>⟨g,cap,cur,h1,Nat.le_trans hz h2,h3⟩)⟩
    ·have hlt:=row_lt (unhide HO2) b hb
     refine⟨?_,fun e=>by have:=(hPr.ns.lt b e).2;omega⟩
     cases hl:lab b with
     | none=>rfl
     | some i=>have:=hPr.ns.rng _ _ hl;omega
   have hki:=KO.new hN5 (Nat.le_trans hz hb5.size) [] (by simp)
   have hki':KO w0.heap.size wk lab na (some ⟨w5.heap.size,0,none⟩) 0 []:=by rw[hwk];exact hki
   exact⟨hPr.be.trans (hbb.mono hz),hPr.ns.of hbb,Fr.ofBelow hbb,hcu.of hbw,hki',fun b hb=>(row_lt (unhide HO2) b hb).2,fun b hb=>by simp[blk]at hb;omega,hb5.size,hz⟩
  obtain⟨G,hG,hGl,hGc⟩:=(unhide HLP).cu.at (by rw[nI_len];omega)
  subst hG
  have HGm:Hid (∀(wr:World) (lab1:Lbl) (na1:Option Addr) (nc1:Nat) (ns1:List Nd) (ka:Option Addr) (kc:Nat) (xs:List Int),LP w0 W w5.heap.size lab na wr lab1 na1 nc1 ns1 (some ⟨G,0,none⟩) gc (nI CS) ka kc xs->G<wr.heap.size/\ ∀i (h:i<CS.length),wr.cell? ⟨G,i,none⟩=some (.int .i64 ((CS[i]:Nat):Int))):=fun wr lab1 na1 nc1 ns1 ka kc xs h=>by
   obtain⟨G',e,h1,h2⟩:=h.cu.at (by rw[nI_len];omega)
   simp only[Option.some.injEq,Addr.mk.injEq,and_true]at e
   subst e
   exact⟨h1,fun i hi=>h2 i _ (nI_at CS i hi)⟩
  have HX:Hid (∀(wr:World) (lab1:Lbl) (na1:Option Addr) (nc1:Nat) (ns1:List Nd) (ka:Option Addr) (kc:Nat) (xs:List Int),LP w0 W w5.heap.size lab na wr lab1 na1 nc1 ns1 (some ⟨G,0,none⟩) gc (nI CS) ka kc xs->wk.heap.size<=wr.heap.size->w5.heap.size<=wr.heap.size):=fun wr lab1 na1 nc1 ns1 ka kc xs _ h=>by rw[hwk]at h;simp at h;omega
  have HKe:=hide hwk
  clear hGl hGc hwk HO2 HWS HWO HWe HBA HG5
  go_upto_region 13 with fail
  rw[<-unhide HKe]
  clear HKe
  go_wp2
  go_loopw [1,3,15,16,17] (fun sa sn sk so si wr=> ∃(i:Nat) (na1:Option Addr) (nc1:Nat) (lab1:Lbl) (ns1:List Nd) (ka:Option Addr) (kc:Nat) (xs:List Int) (us:List Rt),i<=CS.length/\sa= .int .i64 (stA a CS i:Int)/\sn= .slice na1 ns1.length nc1/\sk= .slice ka xs.length kc/\so= .bool true/\si= .int .i64 i/\wk.heap.size<=wr.heap.size/\xs.length=i/\LP w0 W w5.heap.size lab na wr lab1 na1 nc1 ns1 (some ⟨G,0,none⟩) gc (nI CS) ka kc xs/\ns1.length+i<=ns.length+(stA a CS i-a)/\mapP (sP f .conj) (l.take i)=some us/\ns1=ns++(lays us ns.length).1/\xs=(lays us ns.length).2) (fun _ _ _ _ i _=>CS.length-(intOf i).toNat)
  case atStart=>exact⟨0,na,nc,lab,ns,some ⟨w5.heap.size,0,none⟩,0,[],[],Nat.zero_le _,rfl,rfl,rfl,rfl,rfl,Nat.le_refl _,rfl,unhide HLP,by rw[stA_zero];omega,rfl,by rw[lays_nil];simp,by rw[lays_nil]⟩
  case round=>
   obtain⟨i,na1,nc1,lab1,ns1,ka,kc,xs,us,hi,rfl,rfl,rfl,rfl,rfl,hwr,hxl,hLP,hnl,hmp,hns,hxs⟩:=hrel
   have HLr:=hide hLP;have HMp:=hide hmp;have HNs:=hide hns;have HXs:=hide hxs
   have hX5:=unhide HX wr lab1 na1 nc1 ns1 ka kc xs hLP hwr
   obtain⟨hGr,hGc⟩:=unhide HGm wr lab1 na1 nc1 ns1 ka kc xs hLP
   clear hLP hmp hns hxs HLP
   by_cases hlt:i<CS.length
   ·obtain⟨hc1,hc2,hc3⟩:=unhide HLe i hlt
    have hAi:=unhide HAt i hlt
    have hgi:=hGc i hlt
    have hst:=stA_succ a CS i hlt
    obtain⟨CI,hCI⟩: ∃CI,CI=CS[i]:=⟨_,rfl⟩
    rw[<-hCI]at hc1 hc2 hAi hgi hst
    obtain⟨A,hA⟩: ∃A,A=stA a CS i:=⟨_,rfl⟩
    rw[<-hA]at hc2 hc3 hAi hnl
    rw[<-hA]
    have hPr:Pre w0 L wr lab1 na1 nc1 ns1 .conj f A CI:=⟨hc2,by omega,by have:=(unhide HP).fu;simp only[rnk]at this⊢;omega,(unhide HLr).be,(unhide HLr).ns,by omega⟩
    have hcall:=(unhide HH).bo 1 .conj wr lab1 na1 nc1 ns1 A CI (by simp) hPr
    have j1:(i:Int)<(CS.length:Int):=by omega
    have HA:=hide hA;have HSt:=hide hst;have HAi:=hide hAi
    have hxl2:xs.length<=1000000:=by omega
    clear hA hst hAi hPr hGc hCI
    rcases sP_one (f:=f) (nt:= .conj) (xs:=sgm (tks L) A CI) (by simp[single])with hr | ⟨t,hr⟩
    ·rw[hr]at hcall
     have HC:=hide hcall
     have HR0:Hid (RR=none):=by
      show RR=none
      rw[unhide HRR,mapP_none (unhide HAi) hr]
     have HXl:=hide hxl
     clear hcall hr hxl
     go_wp2_with fail
     refine(unhide HC).mono ?_
     intro e w2 hpe
     obtain⟨na2,nc2,lab2,ns2,rfl,hN2,hF2,hl2⟩:=hpe.no
     have HE:Hid (NS w0.heap.size w2 lab2 na2 nc2 ns2/\Fr W w2 lab lab2 na na2/\ns2.length<=ns.length+(b-a)):=⟨hN2,(unhide HLr).fr.trans hF2,by have:=hl2;omega⟩
     clear hN2 hF2 hl2 HC hpe
     go_wp2
     go_returns
     refine⟨na2,nc2,lab2,ns2,?_,(unhide HE).1,(unhide HE).2.1,(unhide HE).2.2,fun t ht=> ?_⟩
     ·rw[unhide HR0];rfl
     ·rw[unhide HR0]at ht;cases ht
    ·rw[hr]at hcall
     have HC:=hide hcall
     have HM2:=hide (mapP_take (unhide HMp) (unhide HAi) hr)
     have HXl:=hide hxl
     clear hcall hr hxl
     go_wp2_with fail
     refine(unhide HC).mono ?_
     intro e w2 hpe
     obtain⟨na2,nc2,lab2,ns2,rfl,hN2,hF2,hl2,he2⟩:=hpe.yes
     have HL2:=hide ((unhide HLr).call hF2 hN2)
     have HE2:=hide he2
     have hn1:1<=ns2.length:=by rw[he2];have:=lay_pos t ns1.length;simp;omega
     have hw2:wr.heap.size<=w2.heap.size:=hF2.size
     clear hN2 hF2 he2 HC hpe
     obtain⟨WB,hWB⟩: ∃WB,WB=w2.alloc (.cells #[.int .i64 ((ns2.length:Int)-1)] 3):=⟨_,rfl⟩
     have hbB:Below w2.heap.size w2 WB:=by rw[hWB];exact bA (Below.refl _ _) _
     have HLB:=hide ((unhide HL2).of hbB)
     have hzB:WB.heap.size=w2.heap.size+1:=by rw[hWB];simp
     have HcB:Hid (WB.cell? ⟨w2.heap.size,0,none⟩=some (.int .i64 ((ns2.length:Int)-1))):=by
      show _=_
      rw[hWB]
      exact(CellsAt.new w2 [.int .i64 ((ns2.length:Int)-1)] 3).all 0 _ rfl
     have HWe:=hide hWB
     have HzB:=hide hzB
     have hzb1:w0.heap.size<=WB.heap.size:=(unhide HLB).sz
     have hns2:ns2.length<=1000000:=by omega
     obtain⟨g2,g3⟩:=unhide HGm WB lab2 na2 nc2 ns2 ka kc xs (unhide HLB)
     clear hWB hbB hzB
     go_upto_region 21 with(at_builtin;rw[<-unhide HWe];refine wpList_pushK WB rfl (.tmp 73) (.tmp 77) 58 rfl ti _ Tryz.underlying58 hti hz0 hz1 hz2 rfl w0.heap.size lab2 na2 ka kc xs rfl (unhide HLB).ki (fun b hb=>((unhide HLB).ns.lt b hb).2) (unhide HLB).ns.rng ((ns2.length:Int)-1) w2.heap.size 1 rfl (unhide HcB) hxl2 hzb1 ?_;intro ra rc w6 hk6 hb6 hat6;have HK6:=hide hk6;have HB6:=hide hb6;have HA6:=hide hat6;clear hk6 hb6 hat6)
     have HL6:Hid (LP w0 W w5.heap.size lab na w6 lab2 na2 nc2 ns2 (some ⟨G,0,none⟩) gc (nI CS) ra rc (xs++[(ns2.length:Int)-1])):=(unhide HLB).kid (by have:=unhide HzB;omega) (unhide HK6) (unhide HB6) (unhide HA6)
     have hw6:WB.heap.size<=w6.heap.size:=(unhide HB6).size
     obtain⟨hG6,hGc6⟩:=unhide HGm w6 lab2 na2 nc2 ns2 ra rc _ (unhide HL6)
     have hgi6:=hGc6 i hlt
     rw[show CS[i]=CI by have:=unhide HSt;have:=stA_succ a CS i hlt;omega]at hgi6
     clear hGc6 g3 HK6 HB6 HA6 HcB
     go_wp2
     go_roundw
     case rel=>exact⟨i+1,na2,nc2,lab2,ns2,ra,rc,xs++[(ns2.length:Int)-1],us++[t],by omega,(by rw[unhide HSt];go_num),rfl,(by simp),rfl,by go_num,(by have:=unhide HzB;omega),(by have:=unhide HXl;simp;omega),unhide HL6,(by rw[unhide HSt];omega),unhide HM2,(by rw[lays_snoc,unhide HE2,unhide HNs];simp[List.append_assoc]),(by rw[lays_snoc,<-unhide HXs,unhide HE2,unhide HNs];simp[Nat.add_assoc])⟩
     case measure=>simp[intOf];omega
   ·obtain rfl:i=CS.length:=by omega
    have HRs:Hid (RR=some [Rt.mk 15 0 0 [] [] us]):=by
     show RR=_
     have:=unhide HMp
     rw[List.take_of_length_le (by rw[unhide HLl];omega)]at this
     rw[unhide HRR,this]
    obtain⟨WN,hWN⟩: ∃WN,WN=wr.alloc (.cells #[.int .i64 15,.int .i64 0,.int .i64 0,.string ⟨#[]⟩,.string ⟨#[]⟩,.slice ka xs.length kc] 62):=⟨_,rfl⟩
    obtain⟨nN,nK,nC,nB,nW,nZ⟩:=lit_node0 (unhide HLr).ns (unhide HLr).sz ⟨15,0,0,⟨#[]⟩,⟨#[]⟩,xs⟩ ka kc (unhide HLr).ki WN hWN
    have HnN:=hide nN;have HnK:=hide nK;have HnC:=hide nC;have HnW:=hide nW
    have HWe:=hide hWN
    have hCe2:=unhide HCe
    rw[hCe2]at hnl
    rw[hCe2]
    have hn6:ns1.length<=1000000:=by omega
    have HXl:=hide hxl
    clear hWN nN nK nC nW nZ hCe2 hGc hxl
    go_wp2_with (at_builtin;rw[<-unhide HWe];refine wpList_pushN WN rfl (.tmp 84) (.tmp 88) 22 rfl tn _ Tryz.underlying22 htn hy0 hy1 hy2 rfl w0.heap.size lab1 na1 nc1 ns1 rfl (unhide HnN) ⟨15,0,0,⟨#[]⟩,⟨#[]⟩,xs⟩ ka kc (unhide HnK) wr.heap.size 1 rfl (unhide HnC) hn6 nB ?_;intro ra rc w6 hn7 hb7 hat7;have HN7:=hide hn7;have HB7:=hide hb7;have HA7:=hide hat7;clear hn7 hb7 hat7)
    go_wp2
    go_returns
    refine⟨ra,rc,labX lab1 ka ns1.length,ns1++[⟨15,0,0,⟨#[]⟩,⟨#[]⟩,xs⟩],?_,unhide HN7,((unhide HLr).fr.thenB (unhide HnW)).push (fun b hb=>Nat.le_trans (unhide HLr).xw ((unhide HLr).kx b hb)) (unhide HB7) (unhide HA7) _,by simp;omega,fun t ht=> ?_⟩
    ·rw[unhide HRs];simp
    ·rw[unhide HRs]at ht
     simp only[Option.some.injEq,List.cons.injEq,and_true]at ht
     rw[<-ht,lay_mk,unhide HNs,unhide HXs,List.append_assoc]
set_option maxHeartbeats 8000000 in
set_option maxRecDepth 100000 in
theorem l2Bool_1(w0:World)(ad:Option Addr)(c:Nat)(L:List (Tok×ByteArray))(f:Nat)(hL:L.length<=1000000)(hT:TksS w0 ad L)(H:SHyp w0 ad c L f)(W:World)(lab:Lbl)(na:Option Addr)(nc:Nat)(ns:List Nd)(a b:Nat)(hP:Pre w0 L W lab na nc ns .conj (f+1) a b):
  Calls Tryz.prog 82 #[.slice ad L.length c,.int .i64 (a:Int),.int .i64 (b:Int),.slice na ns.length nc,.int .i64 1] W (PE w0.heap.size W lab na ns (sP (f+1) .conj (sgm (tks L) a b)) (b-a)):=by
 obtain⟨ti,hti,hz⟩:=Option.map_eq_some_iff.1 (show(Tryz.prog.info? 3).map (fun i=>(i.zero,i.size,i.bytes))=some (some (.int .i64 0),1,8)by kernel_rfl)
 simp only[Prod.mk.injEq]at hz
 obtain⟨hz0,hz1,hz2⟩:=hz
 obtain⟨tn,htn,hy⟩:=Option.map_eq_some_iff.1 (show(Tryz.prog.info? 62).map (fun i=>(i.zero,i.size,i.bytes))=some (some (.agg #[.int .i64 0,.int .i64 0,.int .i64 0,.string ⟨#[]⟩,.string ⟨#[]⟩,.slice none 0 0]),6,80)by kernel_rfl)
 simp only[Prod.mk.injEq]at hy
 obtain⟨hy0,hy1,hy2⟩:=hy
 have hab:=hP.ab
 have hbl:=hP.bl
 have hln:=hP.ln
 have hfu:=hP.fu
 simp only[rnk]at hfu
 have hbt:b<=(tks L).length:=by simp;omega
 have hTW:TksS W ad L:=fun i p hp=>by
  obtain⟨h0,g,h1,h2,h3⟩:=hT i p hp
  exact⟨h0,g,h1,Nat.lt_of_lt_of_le h2 hP.be.size,fun j hj=>(hP.be.cell (p:=⟨g,i*3+j,none⟩) h2).trans (h3 j hj)⟩
 have HTo:=hide (l2Tops_calls L ad c W hL hTW a b hab hbl ⟨#[65,78,68]⟩ 18 (by omega) (Go.ByteArray.toList_mk [65,78,68]))
 have hsq:sP (f+1) .conj (sgm (tks L) a b)=(match cutL (.sy 18) 0 (sgm (tks L) a b)with | [x]=>sP f .prim x | l=>(match mapP (sP f .prim) l with | some ts=>some [Rt.mk 14 0 0 [] [] ts] | none=>none)):=rfl
 have HH:=hide H;have HP:=hide hP
 clear H hP hT hTW
 by_cases h0:topsP (.sy 18) 0 a (sgm (tks L) a b)=[]
 ·rw[bool_whole hab hbt h0]at hsq
  rw[hsq]
  have HR:Hid (∀w1,Below W.heap.size W w1->Calls Tryz.prog 82 #[.slice ad L.length c,.int .i64 (a:Int),.int .i64 (b:Int),.slice na ns.length nc,.int .i64 2] w1 (PE w0.heap.size w1 lab na ns (sP f .prim (sgm (tks L) a b)) (b-a))):=fun w1 hb1=>
   (unhide HH).bo 2 .prim w1 lab na nc ns a b (by simp) ⟨hab,hbl,by simp only[rnk];omega,(unhide HP).be.trans (hb1.mono (unhide HP).be.size),(unhide HP).ns.of hb1,hln⟩
  rw[h0]at HTo
  clear hsq h0 HH HP
  go_enter Tryz.func82,Tryz.ntmps82
  go_wp2_with fail
  refine(unhide HTo).mono ?_
  rintro e w1 ⟨g,cap,rfl,hown,hb1⟩
  have HC:=hide (unhide HR w1 hb1)
  have HB1:=hide hb1
  clear hb1 hown HTo HR
  go_wp2_with fail
  refine(unhide HC).mono ?_
  rintro e w2 ⟨na2,nc2,lab2,ns2,rfl,hN2,hF2,hl2,hr2⟩
  have HE:Hid (NS w0.heap.size w2 lab2 na2 nc2 ns2/\Fr W w2 lab lab2 na na2/\ns2.length<=ns.length+(b-a)/\ ∀t,sP f .prim (sgm (tks L) a b)=some [t]->ns2=ns++lay t ns.length):=⟨hN2,(Fr.ofBelow (unhide HB1)).trans hF2,hl2,hr2⟩
  clear hN2 hF2 hl2 hr2 HC HB1
  generalize(sP f .prim (sgm (tks L) a b))=RR at*
  go_wp2
  go_returns
  exact⟨na2,nc2,lab2,ns2,rfl,unhide HE⟩
 ·rw[bool_cut hab hbt h0]at hsq
  obtain⟨CS,hCS⟩: ∃CS,CS=topsP (.sy 18) 0 a (sgm (tks L) a b)++[b]:=⟨_,rfl⟩
  have hle: ∀i (h:i<CS.length),CS[i]<=b/\stA a CS i<=CS[i]/\a<=stA a CS i:=by rw[hCS];exact cuts_le (.sy 18) (tks L) a b hab hbt
  obtain⟨l,hl⟩: ∃l,l=between (tks L) a (topsP (.sy 18) 0 a (sgm (tks L) a b)) b:=⟨_,rfl⟩
  have hat: ∀i (h:i<CS.length),l[i]?=some (sgm (tks L) (stA a CS i) CS[i]):=by rw[hCS,hl];exact between_at (tks L) (topsP (.sy 18) 0 a (sgm (tks L) a b)) a b
  have hll:l.length=CS.length:=by rw[hl,hCS];exact between_len _ _ _ _
  have hC2:2<=CS.length:=by
   rw[hCS]
   cases hq:topsP (.sy 18) 0 a (sgm (tks L) a b)with
   | nil=>exact absurd hq h0
   | cons x y=>simp
  have hCl:CS.length<=b-a+1:=by
   rw[hCS]
   have:=topsP_len (.sy 18) (sgm (tks L) a b) 0 a
   rw[sgm_len _ _ _ hab hbt]at this
   simp
   omega
  have hCe:stA a CS CS.length=b+1:=by
   rw[hCS]
   obtain⟨m,hm⟩: ∃m,m=topsP (.sy 18) 0 a (sgm (tks L) a b):=⟨_,rfl⟩
   rw[<-hm]
   have:=stA_succ a (m++[b]) m.length (by simp)
   simpa using this
  rw[<-hl]at hsq
  obtain⟨RR,hRR⟩: ∃RR,RR=sP (f+1) .conj (sgm (tks L) a b):=⟨_,rfl⟩
  rw[<-hRR]
  rw[hsq]at hRR
  have HRR:=hide hRR;have HCS:=hide hCS;have HLe:=hide hle;have HAt:=hide hat;have HLl:=hide hll;have HCe:=hide hCe
  have hPn: ¬(topsP (.sy 18) 0 a (sgm (tks L) a b)).length=0:=fun e=>h0 (List.eq_nil_of_length_eq_zero e)
  have hPl:(topsP (.sy 18) 0 a (sgm (tks L) a b)).length+1=CS.length:=by rw[hCS];simp
  clear hsq h0 hRR hCS hl hle hat hll hCe hfu
  generalize topsP (.sy 18) 0 a (sgm (tks L) a b)=PP at*
  have hPb:((PP.length:Int)==0)=false:=beq_eq_false_iff_ne.2 (by omega)
  go_enter Tryz.func82,Tryz.ntmps82
  go_wp2_with fail
  refine(unhide HTo).mono ?_
  rintro e w1 ⟨g,cap,rfl,hown,hb1⟩
  obtain⟨WA,hWA⟩: ∃WA,WA=w1.alloc (.cells #[.int .i64 (b:Int)] 3):=⟨_,rfl⟩
  have hWB:Below w1.heap.size w1 WA:=by rw[hWA];exact bA (Below.refl _ _) _
  have HWO:=hide (own_below hown hWB)
  have HWS:Hid (SrcC WA 1 (some ⟨w1.heap.size,0,none⟩) 1 1 [.int .i64 (b:Int)]):=by
   show SrcC _ _ _ _ _ _
   rw[hWA]
   exact srcNew _ _ [.int .i64 (b:Int)] _ 1 1 rfl (by simp[Value.oneCell']) rfl 1
  have hWz:W.heap.size<=WA.heap.size:=Nat.le_trans hb1.size hWB.size
  have HBA:=hide (bT hb1 hWB)
  have HWe:=hide hWA
  have hPm:PP.length<=1000000:=by omega
  clear hWA hWB hown hb1 HTo
  go_upto_region 12 with(at_builtin;rw[<-unhide HWe];refine wpList_append_gen WA rfl (.tmp 46) (.tmp 48) 58 rfl W.heap.size 3 ti _ 1 8 Tryz.underlying58 hti hz0 hz1 hz2 rfl (by decide) g PP.length cap (vN PP) rfl (unhide HWO) (some ⟨w1.heap.size,0,none⟩) 1 1 [.int .i64 (b:Int)] rfl (unhide HWS) (by unfold maxLen;omega) (by omega) hWz ?_;intro ga gc w5 hown2 hgrow hatt;have HO2:=hide hown2;have HG5:=hide hgrow;clear hown2 hgrow hatt)
  have HB5:Hid (Below W.heap.size W w5):=grown_below (unhide HBA) (unhide HG5) (fun j hj=>((unhide HWO).lt j (by rw[own_slice];exact hj)).1)
  obtain⟨wk,hwk⟩: ∃wk,wk=w5.alloc (.cells #[] 3):=⟨_,rfl⟩
  have HLP:Hid (LP w0 W w5.heap.size lab na wk lab na nc ns ga gc (nI CS) (some ⟨w5.heap.size,0,none⟩) 0 []):=by
   show LP _ _ _ _ _ _ _ _ _ _ _ _ _ _ _ _
   have hb5:=unhide HB5
   have hPr:=unhide HP
   have hN5:=hPr.ns.of hb5
   have hbw:Below w5.heap.size w5 wk:=by rw[hwk];exact bA (Below.refl _ _) _
   have hz:w0.heap.size<=W.heap.size:=hPr.be.size
   have hbb:=bT hb5 hbw
   have hcu:KO w0.heap.size w5 lab na ga gc (nI CS):=by
    have ho:=unhide HO2
    refine⟨?_,fun b hb=> ?_⟩
    ·rw[nI_len,<-vN_iV,unhide HCS,vN_snoc,List.length_append]
     refine⟨ho.1,ho.2.imp id (fun⟨g,cap,cur,h1,h2,h3⟩=>⟨g,cap,cur,h1,Nat.le_trans hz h2,h3⟩)⟩
    ·have hlt:=row_lt (unhide HO2) b hb
     refine⟨?_,fun e=>by have:=(hPr.ns.lt b e).2;omega⟩
     cases hl:lab b with
     | none=>rfl
     | some i=>have:=hPr.ns.rng _ _ hl;omega
   have hki:=KO.new hN5 (Nat.le_trans hz hb5.size) [] (by simp)
   have hki':KO w0.heap.size wk lab na (some ⟨w5.heap.size,0,none⟩) 0 []:=by rw[hwk];exact hki
   exact⟨hPr.be.trans (hbb.mono hz),hPr.ns.of hbb,Fr.ofBelow hbb,hcu.of hbw,hki',fun b hb=>(row_lt (unhide HO2) b hb).2,fun b hb=>by simp[blk]at hb;omega,hb5.size,hz⟩
  obtain⟨G,hG,hGl,hGc⟩:=(unhide HLP).cu.at (by rw[nI_len];omega)
  subst hG
  have HGm:Hid (∀(wr:World) (lab1:Lbl) (na1:Option Addr) (nc1:Nat) (ns1:List Nd) (ka:Option Addr) (kc:Nat) (xs:List Int),LP w0 W w5.heap.size lab na wr lab1 na1 nc1 ns1 (some ⟨G,0,none⟩) gc (nI CS) ka kc xs->G<wr.heap.size/\ ∀i (h:i<CS.length),wr.cell? ⟨G,i,none⟩=some (.int .i64 ((CS[i]:Nat):Int))):=fun wr lab1 na1 nc1 ns1 ka kc xs h=>by
   obtain⟨G',e,h1,h2⟩:=h.cu.at (by rw[nI_len];omega)
   simp only[Option.some.injEq,Addr.mk.injEq,and_true]at e
   subst e
   exact⟨h1,fun i hi=>h2 i _ (nI_at CS i hi)⟩
  have HX:Hid (∀(wr:World) (lab1:Lbl) (na1:Option Addr) (nc1:Nat) (ns1:List Nd) (ka:Option Addr) (kc:Nat) (xs:List Int),LP w0 W w5.heap.size lab na wr lab1 na1 nc1 ns1 (some ⟨G,0,none⟩) gc (nI CS) ka kc xs->wk.heap.size<=wr.heap.size->w5.heap.size<=wr.heap.size):=fun wr lab1 na1 nc1 ns1 ka kc xs _ h=>by rw[hwk]at h;simp at h;omega
  have HKe:=hide hwk
  clear hGl hGc hwk HO2 HWS HWO HWe HBA HG5
  go_upto_region 13 with fail
  rw[<-unhide HKe]
  clear HKe
  go_wp2
  go_loopw [1,3,15,16,17] (fun sa sn sk so si wr=> ∃(i:Nat) (na1:Option Addr) (nc1:Nat) (lab1:Lbl) (ns1:List Nd) (ka:Option Addr) (kc:Nat) (xs:List Int) (us:List Rt),i<=CS.length/\sa= .int .i64 (stA a CS i:Int)/\sn= .slice na1 ns1.length nc1/\sk= .slice ka xs.length kc/\so= .bool true/\si= .int .i64 i/\wk.heap.size<=wr.heap.size/\xs.length=i/\LP w0 W w5.heap.size lab na wr lab1 na1 nc1 ns1 (some ⟨G,0,none⟩) gc (nI CS) ka kc xs/\ns1.length+i<=ns.length+(stA a CS i-a)/\mapP (sP f .prim) (l.take i)=some us/\ns1=ns++(lays us ns.length).1/\xs=(lays us ns.length).2) (fun _ _ _ _ i _=>CS.length-(intOf i).toNat)
  case atStart=>exact⟨0,na,nc,lab,ns,some ⟨w5.heap.size,0,none⟩,0,[],[],Nat.zero_le _,rfl,rfl,rfl,rfl,rfl,Nat.le_refl _,rfl,unhide HLP,by rw[stA_zero];omega,rfl,by rw[lays_nil];simp,by rw[lays_nil]⟩
  case round=>
   obtain⟨i,na1,nc1,lab1,ns1,ka,kc,xs,us,hi,rfl,rfl,rfl,rfl,rfl,hwr,hxl,hLP,hnl,hmp,hns,hxs⟩:=hrel
   have HLr:=hide hLP;have HMp:=hide hmp;have HNs:=hide hns;have HXs:=hide hxs
   have hX5:=unhide HX wr lab1 na1 nc1 ns1 ka kc xs hLP hwr
   obtain⟨hGr,hGc⟩:=unhide HGm wr lab1 na1 nc1 ns1 ka kc xs hLP
   clear hLP hmp hns hxs HLP
   by_cases hlt:i<CS.length
   ·obtain⟨hc1,hc2,hc3⟩:=unhide HLe i hlt
    have hAi:=unhide HAt i hlt
    have hgi:=hGc i hlt
    have hst:=stA_succ a CS i hlt
    obtain⟨CI,hCI⟩: ∃CI,CI=CS[i]:=⟨_,rfl⟩
    rw[<-hCI]at hc1 hc2 hAi hgi hst
    obtain⟨A,hA⟩: ∃A,A=stA a CS i:=⟨_,rfl⟩
    rw[<-hA]at hc2 hc3 hAi hnl
    rw[<-hA]
    have hPr:Pre w0 L wr lab1 na1 nc1 ns1 .prim f A CI:=⟨hc2,by omega,by have:=(unhide HP).fu;simp only[rnk]at this⊢;omega,(unhide HLr).be,(unhide HLr).ns,by omega⟩
    have hcall:=(unhide HH).bo 2 .prim wr lab1 na1 nc1 ns1 A CI (by simp) hPr
    have j1:(i:Int)<(CS.length:Int):=by omega
    have HA:=hide hA;have HSt:=hide hst;have HAi:=hide hAi
    have hxl2:xs.length<=1000000:=by omega
    clear hA hst hAi hPr hGc hCI
    rcases sP_one (f:=f) (nt:= .prim) (xs:=sgm (tks L) A CI) (by simp[single])with hr | ⟨t,hr⟩
    ·rw[hr]at hcall
     have HC:=hide hcall
     have HR0:Hid (RR=none):=by
      show RR=none
      rw[unhide HRR,mapP_none (unhide HAi) hr]
     have HXl:=hide hxl
     clear hcall hr hxl
     go_wp2_with fail
     refine(unhide HC).mono ?_
     intro e w2 hpe
     obtain⟨na2,nc2,lab2,ns2,rfl,hN2,hF2,hl2⟩:=hpe.no
     have HE:Hid (NS w0.heap.size w2 lab2 na2 nc2 ns2/\Fr W w2 lab lab2 na na2/\ns2.length<=ns.length+(b-a)):=⟨hN2,(unhide HLr).fr.trans hF2,by have:=hl2;omega⟩
     clear hN2 hF2 hl2 HC hpe
     go_wp2
     go_returns
     refine⟨na2,nc2,lab2,ns2,?_,(unhide HE).1,(unhide HE).2.1,(unhide HE).2.2,fun t ht=> ?_⟩
     ·rw[unhide HR0];rfl
     ·rw[unhide HR0]at ht;cases ht
    ·rw[hr]at hcall
     have HC:=hide hcall
     have HM2:=hide (mapP_take (unhide HMp) (unhide HAi) hr)
     have HXl:=hide hxl
     clear hcall hr hxl
     go_wp2_with fail
     refine(unhide HC).mono ?_
     intro e w2 hpe
     obtain⟨na2,nc2,lab2,ns2,rfl,hN2,hF2,hl2,he2⟩:=hpe.yes
     have HL2:=hide ((unhide HLr).call hF2 hN2)
     have HE2:=hide he2
     have hn1:1<=ns2.length:=by rw[he2];have:=lay_pos t ns1.length;simp;omega
     have hw2:wr.heap.size<=w2.heap.size:=hF2.size
     clear hN2 hF2 he2 HC hpe
     obtain⟨WB,hWB⟩: ∃WB,WB=w2.alloc (.cells #[.int .i64 ((ns2.length:Int)-1)] 3):=⟨_,rfl⟩
     have hbB:Below w2.heap.size w2 WB:=by rw[hWB];exact bA (Below.refl _ _) _
     have HLB:=hide ((unhide HL2).of hbB)
     have hzB:WB.heap.size=w2.heap.size+1:=by rw[hWB];simp
     have HcB:Hid (WB.cell? ⟨w2.heap.size,0,none⟩=some (.int .i64 ((ns2.length:Int)-1))):=by
      show _=_
      rw[hWB]
      exact(CellsAt.new w2 [.int .i64 ((ns2.length:Int)-1)] 3).all 0 _ rfl
     have HWe:=hide hWB
     have HzB:=hide hzB
     have hzb1:w0.heap.size<=WB.heap.size:=(unhide HLB).sz
     have hns2:ns2.length<=1000000:=by omega
     obtain⟨g2,g3⟩:=unhide HGm WB lab2 na2 nc2 ns2 ka kc xs (unhide HLB)
     clear hWB hbB hzB
     go_upto_region 21 with(at_builtin;rw[<-unhide HWe];refine wpList_pushK WB rfl (.tmp 73) (.tmp 77) 58 rfl ti _ Tryz.underlying58 hti hz0 hz1 hz2 rfl w0.heap.size lab2 na2 ka kc xs rfl (unhide HLB).ki (fun b hb=>((unhide HLB).ns.lt b hb).2) (unhide HLB).ns.rng ((ns2.length:Int)-1) w2.heap.size 1 rfl (unhide HcB) hxl2 hzb1 ?_;intro ra rc w6 hk6 hb6 hat6;have HK6:=hide hk6;have HB6:=hide hb6;have HA6:=hide hat6;clear hk6 hb6 hat6)
     have HL6:Hid (LP w0 W w5.heap.size lab na w6 lab2 na2 nc2 ns2 (some ⟨G,0,none⟩) gc (nI CS) ra rc (xs++[(ns2.length:Int)-1])):=(unhide HLB).kid (by have:=unhide HzB;omega) (unhide HK6) (unhide HB6) (unhide HA6)
     have hw6:WB.heap.size<=w6.heap.size:=(unhide HB6).size
     obtain⟨hG6,hGc6⟩:=unhide HGm w6 lab2 na2 nc2 ns2 ra rc _ (unhide HL6)
     have hgi6:=hGc6 i hlt
     rw[show CS[i]=CI by have:=unhide HSt;have:=stA_succ a CS i hlt;omega]at hgi6
     clear hGc6 g3 HK6 HB6 HA6 HcB
     go_wp2
     go_roundw
     case rel=>exact⟨i+1,na2,nc2,lab2,ns2,ra,rc,xs++[(ns2.length:Int)-1],us++[t],by omega,(by rw[unhide HSt];go_num),rfl,(by simp),rfl,by go_num,(by have:=unhide HzB;omega),(by have:=unhide HXl;simp;omega),unhide HL6,(by rw[unhide HSt];omega),unhide HM2,(by rw[lays_snoc,unhide HE2,unhide HNs];simp[List.append_assoc]),(by rw[lays_snoc,<-unhide HXs,unhide HE2,unhide HNs];simp[Nat.add_assoc])⟩
     case measure=>simp[intOf];omega
   ·obtain rfl:i=CS.length:=by omega
    have HRs:Hid (RR=some [Rt.mk 14 0 0 [] [] us]):=by
     show RR=_
     have:=unhide HMp
     rw[List.take_of_length_le (by rw[unhide HLl];omega)]at this
     rw[unhide HRR,this]
    obtain⟨WN,hWN⟩: ∃WN,WN=wr.alloc (.cells #[.int .i64 14,.int .i64 0,.int .i64 0,.string ⟨#[]⟩,.string ⟨#[]⟩,.slice ka xs.length kc] 62):=⟨_,rfl⟩
    obtain⟨nN,nK,nC,nB,nW,nZ⟩:=lit_node0 (unhide HLr).ns (unhide HLr).sz ⟨14,0,0,⟨#[]⟩,⟨#[]⟩,xs⟩ ka kc (unhide HLr).ki WN hWN
    have HnN:=hide nN;have HnK:=hide nK;have HnC:=hide nC;have HnW:=hide nW
    have HWe:=hide hWN
    have hCe2:=unhide HCe
    rw[hCe2]at hnl
    rw[hCe2]
    have hn6:ns1.length<=1000000:=by omega
    have HXl:=hide hxl
    clear hWN nN nK nC nW nZ hCe2 hGc hxl
    go_wp2_with (at_builtin;rw[<-unhide HWe];refine wpList_pushN WN rfl (.tmp 84) (.tmp 88) 22 rfl tn _ Tryz.underlying22 htn hy0 hy1 hy2 rfl w0.heap.size lab1 na1 nc1 ns1 rfl (unhide HnN) ⟨14,0,0,⟨#[]⟩,⟨#[]⟩,xs⟩ ka kc (unhide HnK) wr.heap.size 1 rfl (unhide HnC) hn6 nB ?_;intro ra rc w6 hn7 hb7 hat7;have HN7:=hide hn7;have HB7:=hide hb7;have HA7:=hide hat7;clear hn7 hb7 hat7)
    go_wp2
    go_returns
    refine⟨ra,rc,labX lab1 ka ns1.length,ns1++[⟨14,0,0,⟨#[]⟩,⟨#[]⟩,xs⟩],?_,unhide HN7,((unhide HLr).fr.thenB (unhide HnW)).push (fun b hb=>Nat.le_trans (unhide HLr).xw ((unhide HLr).kx b hb)) (unhide HB7) (unhide HA7) _,by simp;omega,fun t ht=> ?_⟩
    ·rw[unhide HRs];simp
    ·rw[unhide HRs]at ht
     simp only[Option.some.injEq,List.cons.injEq,and_true]at ht
     rw[<-ht,lay_mk,unhide HNs,unhide HXs,List.append_assoc]
end Go.Proofs.YtmggnimiioepeaaGreatDoor.Pa
namespace Go.Proofs.YtmggnimiioepeaaGreatDoor.Pa
open Go Go.RowKit
theorem shyp_all(w0:World)(ad:Option Addr)(c:Nat)(L:List (Tok×ByteArray))(hL:L.length<=1000000)(hT:TksS w0 ad L): ∀f,SHyp w0 ad c L f
 | 0=>⟨fun _ _ _ _ _ _ _ _ _ _ h=>absurd h.fu (by omega),fun _ _ _ _ _ _ _ h=>absurd h.fu (by omega),fun _ _ _ _ _ _ _ h=>absurd h.fu (by omega),fun _ _ _ _ _ _ _ _ _ _ h=>absurd h.fu (by omega),fun _ _ _ _ _ _ _ h=>absurd h.fu (by omega),fun _ _ _ _ _ _ _ h=>absurd h.fu (by omega)⟩
 | f+1=>by
  have H:=shyp_all w0 ad c L hL hT f
  refine⟨fun lev nt W lab na nc ns a b h hP=> ?_,l2Prim_calls w0 ad c L f hL hT H,l2Scalar_calls w0 ad c L f hL hT H,l2Tail_calls w0 ad c L f hL hT H,l2Select_calls w0 ad c L f hL hT H,l2Query_calls w0 ad c L f hL hT H⟩
  rcases h with⟨rfl,rfl⟩ | ⟨rfl,rfl⟩ | ⟨rfl,rfl⟩
  ·exact l2Bool_0 w0 ad c L f hL hT H W lab na nc ns a b hP
  ·exact l2Bool_1 w0 ad c L f hL hT H W lab na nc ns a b hP
  ·exact l2Bool_2 w0 ad c L f hL hT H W lab na nc ns a b hP
end Go.Proofs.YtmggnimiioepeaaGreatDoor.Pa
