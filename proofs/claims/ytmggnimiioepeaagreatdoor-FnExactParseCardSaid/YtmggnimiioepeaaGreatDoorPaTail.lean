import Derived.Test.YtmggnimiioepeaaGreatDoorQ0
import Derived.Test.YtmggnimiioepeaaGreatDoorQ15
namespace Go.Proofs.YtmggnimiioepeaaGreatDoor.Pa
open Go Go.RowKit
def TlR(f:Nat)(ts:List Tok)(A E b:Nat)(RR:Option (List Rt)):Prop:=(E=b/\RR=mapP srcS (between ts A (topsP (.sy 2) 0 A (sgm ts A E)) E))\/(E<b/\RR=(match mapP srcS (between ts A (topsP (.sy 2) 0 A (sgm ts A E)) E)with
   | some ss=>(match sP f .cond (sgm ts (E+1) b)with | some [c]=>some (ss++[c]) | _=>none)
   | none=>none))
set_option maxHeartbeats 8000000 in
set_option maxRecDepth 100000 in
theorem l2Tail_calls(w0:World)(ad:Option Addr)(c:Nat)(L:List (Tok×ByteArray))(f:Nat)(hL:L.length<=1000000)(hT:TksS w0 ad L)(H:SHyp w0 ad c L f)(W:World)(lab:Lbl)(na:Option Addr)(nc:Nat)(ns:List Nd)(ka:Option Addr)(kc:Nat)(xs:List Int)(a b:Nat)(hP:Pre w0 L W lab na nc ns .tail (f+1) a b)(hK:KO w0.heap.size W lab na ka kc xs)(hxs:xs.length+(b-a)<=1000000):
  Calls Tryz.prog 56 #[.slice ad L.length c,.int .i64 (a:Int),.int .i64 (b:Int),.slice na ns.length nc,.slice ka xs.length kc] W (TE w0.heap.size W lab na ka ns xs (sP (f+1) .tail (sgm (tks L) a b)) (b-a)):=by
 obtain⟨ti,hti,hz⟩:=Option.map_eq_some_iff.1 (show(Tryz.prog.info? 3).map (fun i=>(i.zero,i.size,i.bytes))=some (some (.int .i64 0),1,8)by kernel_rfl)
 simp only[Prod.mk.injEq]at hz
 obtain⟨hz0,hz1,hz2⟩:=hz
 obtain⟨tn,htn,hy⟩:=Option.map_eq_some_iff.1 (show(Tryz.prog.info? 62).map (fun i=>(i.zero,i.size,i.bytes))=some (some (.agg #[.int .i64 0,.int .i64 0,.int .i64 0,.string ⟨#[]⟩,.string ⟨#[]⟩,.slice none 0 0]),6,80)by kernel_rfl)
 simp only[Prod.mk.injEq]at hy
 obtain⟨hy0,hy1,hy2⟩:=hy
 have hab:=hP.ab
 have hbl:=hP.bl
 have hln:=hP.ln
 have hbt:b<=(tks L).length:=by simp;omega
 have hzz:w0.heap.size<=W.heap.size:=hP.be.size
 obtain⟨RR,hRR⟩: ∃RR,RR=sP (f+1) .tail (sgm (tks L) a b):=⟨_,rfl⟩
 rw[<-hRR]
 have hTW:TksS W ad L:=hT.of hP.be
 have HIs:=hide (l2Is_calls L ad c W hTW a b hbl ⟨#[70,82,79,77]⟩ 13 (by omega) (Go.ByteArray.toList_mk [70,82,79,77]))
 rw[is_dec hbt]at HIs
 have HP:=hide hP;have HH:=hide H;have HT0:=hide hT;have HK:=hide hK
 clear H hT hP hK
 by_cases h1: ∃r,sgm (tks L) a b= .sy 13::r
 rotate_left
 ·rw[dB_false h1]at HIs
  have HR:Hid (RR=none):=by
   show RR=none
   rw[hRR]
   exact tail_no (fun r e=>h1 ⟨r,e⟩)
  clear h1 hRR hTW
  go_enter Tryz.func56,Tryz.ntmps56
  go_wp2_with fail
  refine(unhide HIs).mono ?_;rintro e W' ⟨rfl,rfl⟩
  clear HIs
  go_wp2
  go_returns
  refine⟨na,nc,lab,ns,ka,kc,xs,?_,(unhide HP).ns,unhide HK,ButB.refl _ _,fun b h=>Or.inl h,fun b h=>Or.inl h,fun _ _=>rfl,by omega,by omega,fun ts ht=> ?_⟩
  ·rw[unhide HR];rfl
  ·rw[unhide HR]at ht;cases ht
 rw[dB_true h1]at HIs
 obtain⟨r,h1⟩:=h1
 have hlt:a<b:=((is_head hbt).2 ⟨r,h1⟩).1
 obtain⟨t0,ht0,e0⟩:=sgm_head (tks L) a b hlt hbt
 obtain⟨rfl,rfl⟩:t0= .sy 13/\sgm (tks L) (a+1) b=r:=by rw[e0]at h1;simpa using h1
 have HTo:=hide (l2Tops_calls L ad c W hL hTW a b hab hbl ⟨#[87,72,69,82,69]⟩ 14 (by omega) (Go.ByteArray.toList_mk [87,72,69,82,69]))
 rw[e0,topsP_skip (by simp)]at HTo
 rw[e0]at hRR
 have HR0:=hide hRR;have Ht0:=hide ht0
 clear hRR h1 e0 ht0
 have HTW:=hide hTW
 clear hTW
 go_enter Tryz.func56,Tryz.ntmps56
 go_wp2_with fail
 refine(unhide HIs).mono ?_;rintro e W' ⟨rfl,rfl⟩
 clear HIs
 go_wp2_with fail
 by_cases h0:topsP (.sy 14) 0 (a+1) (sgm (tks L) (a+1) b)=[]
 ·rw[h0]at HTo
  have HTl:Hid (TlR f (tks L) (a+1) b b RR):=by
   refine Or.inl ⟨rfl,?_⟩
   rw[unhide HR0]
   exact tail_0 (by omega) hbt h0
  have hE1:a+1<=b/\b<=b:=by omega
  clear h0 HR0
  refine(unhide HTo).mono ?_
  rintro e w1 ⟨g1,c1,rfl,hown1,hb1⟩
  have HB1:=hide hb1
  clear hown1 hb1 HTo
  go_upto_region 7 with fail
  have HT1:Hid (TksS w1 ad L):=(unhide HTW).of (unhide HB1)
  have hEt:b<=(tks L).length:=by omega
  have hskip:sgm (tks L) a b= .sy 13::sgm (tks L) (a+1) b:=by
   obtain⟨t,ht,e⟩:=sgm_head (tks L) a b (by omega) hEt
   rw[unhide Ht0]at ht
   cases ht
   exact e
  have HT2:=hide (l2Tops_calls L ad c w1 hL (unhide HT1) a b (by omega) (by omega) ⟨#[44]⟩ 2 (by omega) (Go.ByteArray.toList_mk [44]))
  rw[hskip,topsP_skip (by simp)]at HT2
  obtain⟨A1,hA1⟩: ∃A1,A1=a+1:=⟨_,rfl⟩
  have jw1:IntKind.i64.wrap ((a:Int)+1)=(A1:Int):=by rw[IntKind.wrap_i64];omega
  rw[<-hA1]at HT2 HTl
  obtain⟨PP,hPP⟩: ∃PP,PP=topsP (.sy 2) 0 A1 (sgm (tks L) A1 b):=⟨_,rfl⟩
  rw[<-hPP]at HT2
  obtain⟨CS,hCS⟩: ∃CS,CS=PP++[b]:=⟨_,rfl⟩
  obtain⟨l,hl⟩: ∃l,l=between (tks L) A1 PP b:=⟨_,rfl⟩
  have hle: ∀i (h:i<CS.length),CS[i]<=b/\stA A1 CS i<=CS[i]/\A1<=stA A1 CS i:=by rw[hCS,hPP];exact cuts_le (.sy 2) (tks L) A1 b (by omega) hEt
  have hat: ∀i (h:i<CS.length),l[i]?=some (sgm (tks L) (stA A1 CS i) CS[i]):=by rw[hCS,hl];exact between_at (tks L) PP A1 b
  have hll:l.length=CS.length:=by rw[hl,hCS];exact between_len _ _ _ _
  have hC1:1<=CS.length:=by rw[hCS];simp
  have hCl:CS.length<=b-A1+1:=by
   rw[hCS,hPP]
   have:=topsP_len (.sy 2) (sgm (tks L) A1 b) 0 A1
   rw[sgm_len _ _ _ (by omega) hEt]at this
   simp
   omega
  have hCe:stA A1 CS CS.length=b+1:=by
   rw[hCS]
   have:=stA_succ A1 (PP++[b]) PP.length (by simp)
   simpa using this
  have hPl2:PP.length+1=CS.length:=by rw[hCS];simp
  have hTl:=unhide HTl
  unfold TlR at hTl
  rw[<-hPP,<-hl]at hTl
  have HTl2:=hide hTl
  have HRn:Hid (mapP srcS l=none->RR=none):=fun e=>by
   rcases unhide HTl2 with⟨_,h⟩ | ⟨_,h⟩<;>rw[h,e]
  have HCS:=hide hCS;have HLe:=hide hle;have HAt:=hide hat;have HLl:=hide hll;have HCe:=hide hCe
  clear hskip hPP hCS hl hle hat hll hCe HTl hTl
  go_wp2_with fail
  refine(unhide HT2).mono ?_
  rintro e w2 ⟨g,cap,rfl,hown,hb2⟩
  obtain⟨WA,hWA⟩: ∃WA,WA=w2.alloc (.cells #[.int .i64 (b:Int)] 3):=⟨_,rfl⟩
  have hWB:Below w2.heap.size w2 WA:=by rw[hWA];exact bA (Below.refl _ _) _
  have HWO:=hide (own_below hown hWB)
  have HWS:Hid (SrcC WA 1 (some ⟨w2.heap.size,0,none⟩) 1 1 [.int .i64 (b:Int)]):=by
   show SrcC _ _ _ _ _ _
   rw[hWA]
   exact srcNew _ _ [.int .i64 (b:Int)] _ 1 1 rfl (by simp[Value.oneCell']) rfl 1
  have hWz:w1.heap.size<=WA.heap.size:=Nat.le_trans hb2.size hWB.size
  have HBA:=hide (bT hb2 hWB)
  have HWe:=hide hWA
  have hPm:PP.length<=1000000:=by omega
  clear hWA hWB hown hb2 HT2
  go_upto_region 8 with(at_builtin;rw[<-unhide HWe];refine wpList_append_gen WA rfl (.tmp 40) (.tmp 42) 58 rfl w1.heap.size 3 ti _ 1 8 Tryz.underlying58 hti hz0 hz1 hz2 rfl (by decide) g PP.length cap (vN PP) rfl (unhide HWO) (some ⟨w2.heap.size,0,none⟩) 1 1 [.int .i64 (b:Int)] rfl (unhide HWS) (by unfold maxLen;omega) (by omega) hWz ?_;intro ga gc w5 hown2 hgrow hatt;have HO2:=hide hown2;have HG5:=hide hgrow;clear hown2 hgrow hatt)
  try rw[hPl2]
  have HB5:Hid (Below W'.heap.size W' w5):=bT (unhide HB1) (grown_below (unhide HBA) (unhide HG5) (fun j hj=>((unhide HWO).lt j (by rw[own_slice];exact hj)).1))
  have hz1W:W'.heap.size<=w1.heap.size:=(unhide HB1).size
  have HLP:Hid (TL w0 W' lab na ka w5 lab na nc ns ga gc (nI CS) ka kc xs):=by
   have hb5:=unhide HB5
   have hPr:=unhide HP
   have hkk:=unhide HK
   have hcu:KO w0.heap.size w5 lab na ga gc (nI CS):=by
    have ho:=unhide HO2
    refine⟨?_,fun b hb=> ?_⟩
    ·rw[nI_len,<-vN_iV,unhide HCS,vN_snoc,List.length_append]
     exact⟨ho.1,ho.2.imp id (fun⟨g,cap,cur,h1,h2,h3⟩=>⟨g,cap,cur,h1,by omega,h3⟩)⟩
    ·have hlt:=row_lt (unhide HO2) b hb
     refine⟨?_,fun e=>by have:=(hPr.ns.lt b e).2;omega⟩
     cases hl:lab b with
     | none=>rfl
     | some i=>have:=hPr.ns.rng _ _ hl;omega
   exact⟨hPr.be.trans (hb5.mono hzz),hPr.ns.of hb5,hcu,hkk.of hb5,fun b e e'=>by have:=row_lt (unhide HO2) b e;have:=hkk.lt b e';omega,ButB.ofBelow hb5,fun b e=>Or.inl e,fun b e=>Or.inl e,fun _ _=>rfl⟩
  obtain⟨G,hG,hGl,hGc⟩:=(unhide HLP).cu.at (by rw[nI_len];omega)
  subst hG
  have HGm:Hid (∀(wr:World) (lab1:Lbl) (na1:Option Addr) (nc1:Nat) (ns1:List Nd) (ka1:Option Addr) (kc1:Nat) (xs1:List Int),TL w0 W' lab na ka wr lab1 na1 nc1 ns1 (some ⟨G,0,none⟩) gc (nI CS) ka1 kc1 xs1->G<wr.heap.size/\ ∀i (h:i<CS.length),wr.cell? ⟨G,i,none⟩=some (.int .i64 ((CS[i]:Nat):Int))):=fun wr lab1 na1 nc1 ns1 ka1 kc1 xs1 h=>by
   obtain⟨G',e,h1,h2⟩:=h.cu.at (by rw[nI_len];omega)
   simp only[Option.some.injEq,Addr.mk.injEq,and_true]at e
   subst e
   exact⟨h1,fun i hi=>h2 i _ (nI_at CS i hi)⟩
  clear hGl hGc HO2 HWS HWO HWe HBA HG5 HB5 HB1 hPl2 hPm hWz HT1 HTW
  go_upto_region 9 with fail
  clear jw1
  go_wp2
  go_loopw [1,3,4,16,17] (fun sa sn sk si _ wr=> ∃(i:Nat) (na1:Option Addr) (nc1:Nat) (lab1:Lbl) (ns1:List Nd) (ka1:Option Addr) (kc1:Nat) (xs1:List Int) (us:List Rt),i<=CS.length/\sa= .int .i64 (stA A1 CS i:Int)/\sn= .slice na1 ns1.length nc1/\sk= .slice ka1 xs1.length kc1/\si= .int .i64 i/\TL w0 W' lab na ka wr lab1 na1 nc1 ns1 (some ⟨G,0,none⟩) gc (nI CS) ka1 kc1 xs1/\2*i+A1<=stA A1 CS i/\ns1.length=ns.length+i/\xs1.length=xs.length+i/\mapP srcS (l.take i)=some us/\ns1=ns++(lays us ns.length).1/\xs1=xs++(lays us ns.length).2) (fun _ _ _ i _ _=>CS.length-(intOf i).toNat)
  case atStart=>exact⟨0,na,nc,lab,ns,ka,kc,xs,[],Nat.zero_le _,(by rw[stA_zero,hA1];go_num),rfl,rfl,rfl,unhide HLP,by rw[stA_zero];omega,by omega,by omega,rfl,by rw[lays_nil];simp,by rw[lays_nil];simp⟩
  case round=>
   obtain⟨i,na1,nc1,lab1,ns1,ka1,kc1,xs1,us,hi,rfl,rfl,rfl,rfl,hLP,hst0,hnl,hxl,hmp,hns,hxs1⟩:=hrel
   have HLr:=hide hLP;have HMp:=hide hmp;have HNs:=hide hns;have HXs:=hide hxs1
   obtain⟨hGr,hGc⟩:=unhide HGm wr lab1 na1 nc1 ns1 ka1 kc1 xs1 hLP
   have HTr:Hid (TksS wr ad L):=(unhide HT0).of hLP.be
   have hzr:w0.heap.size<=wr.heap.size:=hLP.be.size
   clear hLP hmp hns hxs1 HLP
   by_cases hlt:i<CS.length
   ·obtain⟨hc1,hc2,hc3⟩:=unhide HLe i hlt
    have hAi:=unhide HAt i hlt
    have hgi:=hGc i hlt
    have hst:=stA_succ A1 CS i hlt
    obtain⟨CI,hCI⟩: ∃CI,CI=CS[i]:=⟨_,rfl⟩
    rw[<-hCI]at hc1 hc2 hAi hgi hst
    obtain⟨A,hA⟩: ∃A,A=stA A1 CS i:=⟨_,rfl⟩
    rw[<-hA]at hc2 hc3 hAi hst0
    rw[<-hA]
    have j1:(i:Int)<(CS.length:Int):=by omega
    obtain⟨nn,hnn⟩: ∃nn,nn=CI-A:=⟨_,rfl⟩
    have jn:IntKind.i64.wrap ((CI:Int)-(A:Int))=(nn:Int):=by rw[IntKind.wrap_i64];omega
    have hCb:CI<=b:=by omega
    have HSt:=hide hst;have HAi:=hide hAi
    clear hst hAi hGc hA
    by_cases hn:CI=A+1\/CI=A+2
    rotate_left
    ·have HR0:Hid (RR=none):=unhide HRn (mapP_none (unhide HAi) ((src_eq hc2 (by omega)).1 (by omega) (by omega)))
     have j2: ¬(nn:Int)=1:=by omega
     have j3: ¬(nn:Int)=2:=by omega
     have hl1:ns1.length<=ns.length+(b-a)/\xs1.length<=xs.length+(b-a):=by omega
     have Hl1:=hide hl1
     clear hl1 hn hnn hCI hst0 hnl hxl
     go_wp2
     go_returns
     exact(unhide HLr).ends (by rw[unhide HR0];rfl) (unhide Hl1).1 (unhide Hl1).2 (fun ts ht=>by rw[unhide HR0]at ht;cases ht)
    obtain⟨tA,htA⟩: ∃tA,(tks L)[A]?=some tA:=⟨_,List.getElem?_eq_getElem (by omega)⟩
    obtain⟨Z,hZ⟩: ∃Z,Z=CI-1:=⟨_,rfl⟩
    have jz:IntKind.i64.wrap ((CI:Int)-1)=(Z:Int):=by rw[IntKind.wrap_i64];omega
    obtain⟨tZ,htZ⟩: ∃tZ,(tks L)[Z]?=some tZ:=⟨_,List.getElem?_eq_getElem (by omega)⟩
    have HSrc:=hide ((src_eq hc2 (by omega)).2 tA tZ hn htA (by rw[<-hZ];exact htZ))
    obtain⟨SA,gT,_,_,okA,hadA,hgT,_,cA,_,_⟩:=(unhide HTr).cells htA
    obtain⟨SZ,gZ,_,_,okZ,hadZ,_,_,cZ,_,_⟩:=(unhide HTr).cells htZ
    obtain⟨_,gY,_,_,_,hadY,hgY,_,_,_,_⟩:=(unhide HT0).cells htA
    subst hadA
    simp only[Option.some.injEq,Addr.mk.injEq,and_true]at hadZ hadY
    subst hadZ
    subst hadY
    have jA:A<L.length/\Z<L.length:=by omega
    obtain⟨jA1,jZ1⟩:=jA
    have jA2:(A:Int)<(L.length:Int):=by omega
    have jZ2:(Z:Int)<(L.length:Int):=by omega
    have j23:IntKind.i64.wrap ((CI:Int)-(A:Int))=1\/IntKind.i64.wrap ((CI:Int)-(A:Int))=2:=by
     rw[IntKind.wrap_i64]
     omega
    clear jn
    have HNA:Hid (Calls Tryz.prog 59 #[.string SA] wr fun e w'=>e= .returned (.bool (dB (NameB SA)))/\wr=w'):=(sIsName_calls SA wr (tok_size okA)).mono (fun e w' h=>⟨h.1,h.2.symm⟩)
    have HNZ:Hid (Calls Tryz.prog 59 #[.string SZ] wr fun e w'=>e= .returned (.bool (dB (NameB SZ)))/\wr=w'):=(sIsName_calls SZ wr (tok_size okZ)).mono (fun e w' h=>⟨h.1,h.2.symm⟩)
    have HokA:=hide okA;have HokZ:=hide okZ
    have Hl1:Hid (ns1.length<=ns.length+(b-a)/\xs1.length<=xs.length+(b-a)/\ns1.length<=1000000/\xs1.length<=1000000):=by
     show _/\_
     omega
    have Hst0:=hide hst0;have Hnl:=hide hnl;have Hxl:=hide hxl;have HnC:=hide hn;have HZ:=hide hZ;have HCI:=hide hCI
    clear okA okZ htA htZ hn hnn hst0 hnl hxl hZ hCI
    by_cases hNA:NameB SA
    rotate_left
    ·have HR0:Hid (RR=none):=unhide HRn (mapP_none (unhide HAi) (by
      rw[unhide HSrc]
      cases tA with
      | nam x=>exact absurd ((tok_name (unhide HokA)).2 ⟨x,rfl⟩) hNA
      | num v=>rfl
      | sy k=>rfl))
     rw[dB_false hNA]at HNA
     rcases j23 with jn | jn
     all_goals
      go_wp2_with fail
      refine(unhide HNA).mono ?_;rintro e _ ⟨rfl,rfl⟩
      go_wp2
      go_returns
      exact(unhide HLr).ends (by rw[unhide HR0];rfl) (unhide Hl1).1 (unhide Hl1).2.1 (fun ts ht=>by rw[unhide HR0]at ht;cases ht)
    rw[dB_true hNA]at HNA
    by_cases hNZ:NameB SZ
    rotate_left
    ·have HR0:Hid (RR=none):=unhide HRn (mapP_none (unhide HAi) (by
      rw[unhide HSrc]
      cases tZ with
      | nam x=>exact absurd ((tok_name (unhide HokZ)).2 ⟨x,rfl⟩) hNZ
      | num v=>cases tA<;>rfl
      | sy k=>cases tA<;>rfl))
     rw[dB_false hNZ]at HNZ
     rcases j23 with jn | jn
     all_goals
      go_wp2_with fail
      refine(unhide HNA).mono ?_;rintro e _ ⟨rfl,rfl⟩
      go_wp2_with fail
      refine(unhide HNZ).mono ?_;rintro e _ ⟨rfl,rfl⟩
      go_wp2
      go_returns
      exact(unhide HLr).ends (by rw[unhide HR0];rfl) (unhide Hl1).1 (unhide Hl1).2.1 (fun ts ht=>by rw[unhide HR0]at ht;cases ht)
    rw[dB_true hNZ]at HNZ
    obtain⟨xA,rfl⟩:=(tok_name (unhide HokA)).1 hNA
    obtain⟨xZ,rfl⟩:=(tok_name (unhide HokZ)).1 hNZ
    have HSr:Hid (srcS (sgm (tks L) A CI)=some [rSrc xA xZ]):=unhide HSrc
    have HM2:=hide (mapP_take (unhide HMp) (unhide HAi) (unhide HSr))
    have hSA:=tok_list (unhide HokA)
    have hSZ:=tok_list (unhide HokZ)
    have HSA:=hide hSA;have HSZ:=hide hSZ
    have hn6:=(unhide Hl1).2.2.1
    have hx6:=(unhide Hl1).2.2.2
    clear hNA hNZ hSA hSZ HSrc HSr
    rcases j23 with jn | jn
    all_goals
     go_wp2_with fail
     refine(unhide HNA).mono ?_;rintro e _ ⟨rfl,rfl⟩
     go_wp2_with fail
     refine(unhide HNZ).mono ?_;rintro e _ ⟨rfl,rfl⟩
     clear HNA HNZ
     go_upto_region 15 with fail
     have hgN:blk na1≠some gT:=fun e=>by have:=((unhide HLr).ns.lt _ e).1;omega
     have hGN:blk na1≠some G:=fun e=>((unhide HLr).cu.off G rfl).2 e
     obtain⟨wd,hwd⟩: ∃wd,wd=wr.drew:=⟨_,rfl⟩
     have hbd:Below wr.heap.size wr wd:=by rw[hwd];exact(Std.drew (Std.refl wr)).2.2
     have hSd:(wd.cell? ⟨gT,A*3,none⟩=some (.string SA)/\wd.cell? ⟨gT,Z*3,none⟩=some (.string SZ))/\wd.cell? ⟨G,i,none⟩=some (.int .i64 (CI:Int)):=
      ⟨⟨(hbd.cell (p:=⟨gT,A*3,none⟩) hgT).trans cA,(hbd.cell (p:=⟨gT,Z*3,none⟩) hgT).trans cZ⟩,(hbd.cell (p:=⟨G,i,none⟩) hGr).trans hgi⟩
     refine wp_region_held_drew (S:=fun w=>(w.cell? ⟨gT,A*3,none⟩=some (.string SA)/\w.cell? ⟨gT,Z*3,none⟩=some (.string SZ))/\w.cell? ⟨G,i,none⟩=some (.int .i64 (CI:Int))) (by kernel_rfl) (by rw[<-hwd];exact hSd) (fun hHeld=> ?_)
     refine tW 0 88 (.slice na1 ns1.length nc1) ?_
     simp only[puts]
     refine tW 1 89 (.slice (some ⟨gT,0,none⟩) L.length c) ?_
     simp only[puts]
     refine tW 2 90 (.int .i64 (A:Int)) ?_
     simp only[puts]
     refine tW 3 91 (.pointer (some ⟨gT,A*3,none⟩)) ?_
     simp only[puts]
     refine tW 4 92 (.pointer (some ⟨gT,A*3,none⟩)) ?_
     simp only[puts]
     refine tW 5 93 (.string SA) ?_
     simp only[puts]
     refine tW 6 94 (.slice (some ⟨gT,0,none⟩) L.length c) ?_
     simp only[puts]
     refine tW 7 95 (.slice (some ⟨G,0,none⟩) CS.length gc) ?_
     simp only[puts]
     refine tW 8 96 (.int .i64 (i:Int)) ?_
     simp only[puts]
     refine tW 9 97 (.pointer (some ⟨G,i,none⟩)) ?_
     simp only[puts]
     refine tW 10 98 (.int .i64 (CI:Int)) ?_
     simp only[puts]
     refine tW 11 99 (.int .i64 (Z:Int)) ?_
     simp only[puts]
     refine tW 12 100 (.pointer (some ⟨gT,Z*3,none⟩)) ?_
     simp only[puts]
     refine tW 13 101 (.pointer (some ⟨gT,Z*3,none⟩)) ?_
     simp only[puts]
     refine tW 14 102 (.string SZ) ?_
     simp only[puts]
     refine tW 15 103 (.agg #[.int .i64 5,.int .i64 0,.int .i64 0,.string SA,.string SZ,.slice none 0 0]) ?_
     simp only[puts]
     rw[<-hwd]
     clear hHeld hwd
     refine wpAnyH_ready (rs:=[16]) (by kernel_rfl) (by simp) ?_
     refine AllReadyH.cons rfl (fun Kx hKx=> ?_) AllReadyH.nil
     go_simp
     obtain⟨WN,hWN⟩: ∃WN,WN=wd.alloc (.cells #[.int .i64 5,.int .i64 0,.int .i64 0,.string SA,.string SZ,.slice none 0 0] 62):=⟨_,rfl⟩
     have HLd:=hide ((unhide HLr).of hbd)
     have hzd:w0.heap.size<=wd.heap.size:=Nat.le_trans hzr hbd.size
     obtain⟨nN,nK,nC,nB,nW,nZ⟩:=lit_node0 (unhide HLd).ns hzd ⟨5,0,0,SA,SZ,[]⟩ none 0 (KO.nil _ _ _ _) WN hWN
     rw[<-hWN]
     have hSn:(WN.cell? ⟨gT,A*3,none⟩=some (.string SA)/\WN.cell? ⟨gT,Z*3,none⟩=some (.string SZ))/\WN.cell? ⟨G,i,none⟩=some (.int .i64 (CI:Int)):=
      ⟨⟨(nW.cell (p:=⟨gT,A*3,none⟩) (Nat.lt_of_lt_of_le hgT hbd.size)).trans hSd.1.1,(nW.cell (p:=⟨gT,Z*3,none⟩) (Nat.lt_of_lt_of_le hgT hbd.size)).trans hSd.1.2⟩,(nW.cell (p:=⟨G,i,none⟩) (Nat.lt_of_lt_of_le hGr hbd.size)).trans hSd.2⟩
     refine hKx.out _ _ hSn (fun hHeld2=> ?_)
     clear hKx Kx hWN
     refine wpAnyH_ready (rs:=[17]) (by kernel_rfl) (by simp) ?_
     refine AllReadyH.cons rfl (fun Kx hKx=> ?_) AllReadyH.nil
     refine Eq.mpr (if_pos (by rfl)) ?_
     refine wp_pushN WN (.tmp 88) (.tmp 104) 22 rfl tn _ Tryz.underlying22 htn hy0 hy1 hy2 rfl w0.heap.size lab1 na1 nc1 ns1 rfl nN ⟨5,0,0,SA,SZ,[]⟩ none 0 nK wd.heap.size 1 rfl nC hn6 nB ?_
     intro ra rc w6 hn7 hb7 hat7
     have hgW:gT<WN.heap.size/\G<WN.heap.size:=⟨Nat.lt_of_lt_of_le hgT (Nat.le_trans hbd.size nW.size),Nat.lt_of_lt_of_le hGr (Nat.le_trans hbd.size nW.size)⟩
     have HL6:=hide (((unhide HLd).of nW).node hn7 hb7 hat7)
     refine hKx.out _ _ ⟨⟨(hb7.cell gT _ hgW.1 hgN).trans hSn.1.1,(hb7.cell gT _ hgW.1 hgN).trans hSn.1.2⟩,(hb7.cell G _ hgW.2 hGN).trans hSn.2⟩ (fun hHeld3=> ?_)
     clear hKx Kx
     obtain⟨m,hm⟩: ∃m,m=ns1.length+1:=⟨_,rfl⟩
     rw[<-hm]
     refine tW 18 3 (.slice ra m rc) ?_
     simp only[puts]
     refine wpAnyH_done (by kernel_rfl) ?_ _
     have jm:IntKind.i64.wrap ((m:Int)-1)=(ns1.length:Int):=by rw[IntKind.wrap_i64];omega
     have hz6:w0.heap.size<=w6.heap.size:=(unhide HL6).be.size
     have hwz6:wr.heap.size<=w6.heap.size:=Nat.le_trans hbd.size (Nat.le_trans nW.size hb7.size)
     have Hm:=hide hm
     clear hHeld2 hHeld3 hSn hSd hn7 hb7 hat7 nN nK nC nB nW nZ hbd HLd hgW hm hgN hGN hzd
     obtain⟨WB,hWB⟩: ∃WB,WB=w6.alloc (.cells #[.int .i64 (ns1.length:Int)] 3):=⟨_,rfl⟩
     have hbB:Below w6.heap.size w6 WB:=by rw[hWB];exact bA (Below.refl _ _) _
     have HLB:=hide ((unhide HL6).of hbB)
     have HcB:Hid (WB.cell? ⟨w6.heap.size,0,none⟩=some (.int .i64 (ns1.length:Int))):=by
      show _=_
      rw[hWB]
      exact(CellsAt.new w6 [.int .i64 (ns1.length:Int)] 3).all 0 _ rfl
     have hzb1:w0.heap.size<=WB.heap.size:=(unhide HLB).be.size
     have HWe:=hide hWB
     clear hWB hbB
     go_upto_region 17 with(at_builtin;rw[<-unhide HWe];refine wpList_pushK WB rfl (.tmp 106) (.tmp 110) 58 rfl ti _ Tryz.underlying58 hti hz0 hz1 hz2 rfl w0.heap.size lab1 ra ka1 kc1 xs1 rfl (unhide HLB).ki (fun b hb=>((unhide HLB).ns.lt b hb).2) (unhide HLB).ns.rng (ns1.length:Int) w6.heap.size 1 rfl (unhide HcB) hx6 hzb1 ?_;intro ra2 rc2 w8 hk8 hb8 hat8;have HK8:=hide hk8;have HB8:=hide hb8;have HA8:=hide hat8;clear hk8 hb8 hat8)
     have HL8:=hide ((unhide HLB).kid (unhide HK8) (unhide HB8) (unhide HA8))
     obtain⟨hG8,hGc8⟩:=unhide HGm w8 lab1 ra rc _ ra2 rc2 _ (unhide HL8)
     have hgi8:=hGc8 i hlt
     rw[<-unhide HCI]at hgi8
     have hw8:WB.heap.size<=w8.heap.size:=(unhide HB8).size
     clear hGc8 HK8 HB8 HA8 HcB HLB HL6 HWe cA cZ hgi
     go_wp2
     go_roundw
     case rel=>exact⟨i+1,ra,rc,lab1,ns1++[⟨5,0,0,SA,SZ,[]⟩],ra2,rc2,xs1++[(ns1.length:Int)],us++[rSrc xA xZ],by omega,(by rw[unhide HSt];go_num),(by rw[unhide Hm];simp),(by simp),by go_num,unhide HL8,(by have:=unhide Hst0;have:=unhide HnC;rw[unhide HSt];omega),(by have:=unhide Hnl;simp;omega),(by have:=unhide Hxl;simp;omega),unhide HM2,(by rw[lays_snoc,lay_mk,lays_nil,unhide HSA,unhide HSZ,unhide HNs];simp[List.append_assoc]),(by rw[lays_snoc,lay_mk,lays_nil,unhide HXs,unhide HNs];simp[List.append_assoc])⟩
     case measure=>simp[intOf];omega
   ·obtain rfl:i=CS.length:=by omega
    have hM:=unhide HMp
    rw[List.take_of_length_le (by rw[unhide HLl];omega)]at hM
    have hCe2:=unhide HCe
    rw[hCe2]at hst0
    rw[hCe2]
    have hTl:=unhide HTl2
    rw[hM]at hTl
    have hl1:ns1.length<=ns.length+(b-a)/\xs1.length<=xs.length+(b-a):=by omega
    rcases hTl with⟨hEb,hR⟩ | ⟨hEb,hR⟩
    ·have hEb2:=hEb
     clear hEb hEb2
     have HR:=hide hR;have Hl1:=hide hl1
     clear hR hl1 hM hCe2 hst0 hnl hxl hGc
     go_wp2
     go_returns
     refine(unhide HLr).ends (by rw[unhide HR];rfl) (unhide Hl1).1 (unhide Hl1).2 (fun ts ht=> ?_)
     rw[unhide HR]at ht
     simp only[Option.some.injEq]at ht
     rw[<-ht]
     exact⟨unhide HNs,unhide HXs⟩
    ·exact absurd hEb (Nat.lt_irrefl _)
 obtain⟨E,qs,hq⟩: ∃q qs,topsP (.sy 14) 0 (a+1) (sgm (tks L) (a+1) b)=q::qs:=by
  cases hq:topsP (.sy 14) 0 (a+1) (sgm (tks L) (a+1) b)with
  | nil=>exact absurd hq h0
  | cons q qs=>exact⟨q,qs,rfl⟩
 obtain⟨e1,e2,e3⟩:=tail_1 (f:=f) (by omega) hbt hq
 have HTl:Hid (TlR f (tks L) (a+1) E b RR):=by
  refine Or.inr ⟨e2,?_⟩
  rw[unhide HR0]
  exact e3
 have hE1:a+1<=E/\E<=b:=by omega
 rw[hq]at HTo
 clear h0 HR0 hq e3
 refine(unhide HTo).mono ?_
 rintro e w1 ⟨g1,c1,rfl,hown1,hb1⟩
 have hcell: ∃G,g1=some ⟨G,0,none⟩/\G<w1.heap.size/\w1.cell? ⟨G,0,none⟩=some (.int .i64 (E:Int)):=by
  rcases hown1.2 with⟨_,f2⟩ | ⟨G,cp,cur,f1,f2,f3,f4⟩
  ·simp at f2
  ·simp only[Value.slice.injEq]at f1
   obtain⟨rfl,_,rfl⟩:=f1
   refine⟨G,rfl,(Array.getElem?_eq_some_iff.1 f3).1,?_⟩
   rw[hown1.cellAt 0 (by simp)]
   rfl
 obtain⟨G1,rfl,hG1,cG1⟩:=hcell
 have HB1:=hide hb1
 obtain⟨nq,hnq⟩: ∃nq,nq=(E::qs).length:=⟨_,rfl⟩
 have jnq2:(0:Int)<(nq:Int):=by rw[hnq];simp only[List.length_cons];omega
 have jnq3: ¬nq=0:=by rw[hnq];simp
 have jnq4:0<nq:=by rw[hnq];simp
 rw[<-hnq]
 clear hown1 hb1 HTo hnq e1 e2
 go_upto_region 7 with fail
 clear jnq2 jnq3 jnq4 hG1 cG1
 have HT1:Hid (TksS w1 ad L):=(unhide HTW).of (unhide HB1)
 have hEt:E<=(tks L).length:=by omega
 have hskip:sgm (tks L) a E= .sy 13::sgm (tks L) (a+1) E:=by
  obtain⟨t,ht,e⟩:=sgm_head (tks L) a E (by omega) hEt
  rw[unhide Ht0]at ht
  cases ht
  exact e
 have HT2:=hide (l2Tops_calls L ad c w1 hL (unhide HT1) a E (by omega) (by omega) ⟨#[44]⟩ 2 (by omega) (Go.ByteArray.toList_mk [44]))
 rw[hskip,topsP_skip (by simp)]at HT2
 obtain⟨A1,hA1⟩: ∃A1,A1=a+1:=⟨_,rfl⟩
 have jw1:IntKind.i64.wrap ((a:Int)+1)=(A1:Int):=by rw[IntKind.wrap_i64];omega
 rw[<-hA1]at HT2 HTl
 obtain⟨PP,hPP⟩: ∃PP,PP=topsP (.sy 2) 0 A1 (sgm (tks L) A1 E):=⟨_,rfl⟩
 rw[<-hPP]at HT2
 obtain⟨CS,hCS⟩: ∃CS,CS=PP++[E]:=⟨_,rfl⟩
 obtain⟨l,hl⟩: ∃l,l=between (tks L) A1 PP E:=⟨_,rfl⟩
 have hle: ∀i (h:i<CS.length),CS[i]<=E/\stA A1 CS i<=CS[i]/\A1<=stA A1 CS i:=by rw[hCS,hPP];exact cuts_le (.sy 2) (tks L) A1 E (by omega) hEt
 have hat: ∀i (h:i<CS.length),l[i]?=some (sgm (tks L) (stA A1 CS i) CS[i]):=by rw[hCS,hl];exact between_at (tks L) PP A1 E
 have hll:l.length=CS.length:=by rw[hl,hCS];exact between_len _ _ _ _
 have hC1:1<=CS.length:=by rw[hCS];simp
 have hCl:CS.length<=E-A1+1:=by
  rw[hCS,hPP]
  have:=topsP_len (.sy 2) (sgm (tks L) A1 E) 0 A1
  rw[sgm_len _ _ _ (by omega) hEt]at this
  simp
  omega
 have hCe:stA A1 CS CS.length=E+1:=by
  rw[hCS]
  have:=stA_succ A1 (PP++[E]) PP.length (by simp)
  simpa using this
 have hPl2:PP.length+1=CS.length:=by rw[hCS];simp
 have hTl:=unhide HTl
 unfold TlR at hTl
 rw[<-hPP,<-hl]at hTl
 have HTl2:=hide hTl
 have HRn:Hid (mapP srcS l=none->RR=none):=fun e=>by
  rcases unhide HTl2 with⟨_,h⟩ | ⟨_,h⟩<;>rw[h,e]
 have HCS:=hide hCS;have HLe:=hide hle;have HAt:=hide hat;have HLl:=hide hll;have HCe:=hide hCe
 clear hskip hPP hCS hl hle hat hll hCe HTl hTl
 go_wp2_with fail
 refine(unhide HT2).mono ?_
 rintro e w2 ⟨g,cap,rfl,hown,hb2⟩
 obtain⟨WA,hWA⟩: ∃WA,WA=w2.alloc (.cells #[.int .i64 (E:Int)] 3):=⟨_,rfl⟩
 have hWB:Below w2.heap.size w2 WA:=by rw[hWA];exact bA (Below.refl _ _) _
 have HWO:=hide (own_below hown hWB)
 have HWS:Hid (SrcC WA 1 (some ⟨w2.heap.size,0,none⟩) 1 1 [.int .i64 (E:Int)]):=by
  show SrcC _ _ _ _ _ _
  rw[hWA]
  exact srcNew _ _ [.int .i64 (E:Int)] _ 1 1 rfl (by simp[Value.oneCell']) rfl 1
 have hWz:w1.heap.size<=WA.heap.size:=Nat.le_trans hb2.size hWB.size
 have HBA:=hide (bT hb2 hWB)
 have HWe:=hide hWA
 have hPm:PP.length<=1000000:=by omega
 clear hWA hWB hown hb2 HT2
 go_upto_region 8 with(at_builtin;rw[<-unhide HWe];refine wpList_append_gen WA rfl (.tmp 40) (.tmp 42) 58 rfl w1.heap.size 3 ti _ 1 8 Tryz.underlying58 hti hz0 hz1 hz2 rfl (by decide) g PP.length cap (vN PP) rfl (unhide HWO) (some ⟨w2.heap.size,0,none⟩) 1 1 [.int .i64 (E:Int)] rfl (unhide HWS) (by unfold maxLen;omega) (by omega) hWz ?_;intro ga gc w5 hown2 hgrow hatt;have HO2:=hide hown2;have HG5:=hide hgrow;clear hown2 hgrow hatt)
 try rw[hPl2]
 have HB5:Hid (Below W'.heap.size W' w5):=bT (unhide HB1) (grown_below (unhide HBA) (unhide HG5) (fun j hj=>((unhide HWO).lt j (by rw[own_slice];exact hj)).1))
 have hz1W:W'.heap.size<=w1.heap.size:=(unhide HB1).size
 have HLP:Hid (TL w0 W' lab na ka w5 lab na nc ns ga gc (nI CS) ka kc xs):=by
  have hb5:=unhide HB5
  have hPr:=unhide HP
  have hkk:=unhide HK
  have hcu:KO w0.heap.size w5 lab na ga gc (nI CS):=by
   have ho:=unhide HO2
   refine⟨?_,fun b hb=> ?_⟩
   ·rw[nI_len,<-vN_iV,unhide HCS,vN_snoc,List.length_append]
    exact⟨ho.1,ho.2.imp id (fun⟨g,cap,cur,h1,h2,h3⟩=>⟨g,cap,cur,h1,by omega,h3⟩)⟩
   ·have hlt:=row_lt (unhide HO2) b hb
    refine⟨?_,fun e=>by have:=(hPr.ns.lt b e).2;omega⟩
    cases hl:lab b with
    | none=>rfl
    | some i=>have:=hPr.ns.rng _ _ hl;omega
  exact⟨hPr.be.trans (hb5.mono hzz),hPr.ns.of hb5,hcu,hkk.of hb5,fun b e e'=>by have:=row_lt (unhide HO2) b e;have:=hkk.lt b e';omega,ButB.ofBelow hb5,fun b e=>Or.inl e,fun b e=>Or.inl e,fun _ _=>rfl⟩
 obtain⟨G,hG,hGl,hGc⟩:=(unhide HLP).cu.at (by rw[nI_len];omega)
 subst hG
 have HGm:Hid (∀(wr:World) (lab1:Lbl) (na1:Option Addr) (nc1:Nat) (ns1:List Nd) (ka1:Option Addr) (kc1:Nat) (xs1:List Int),TL w0 W' lab na ka wr lab1 na1 nc1 ns1 (some ⟨G,0,none⟩) gc (nI CS) ka1 kc1 xs1->G<wr.heap.size/\ ∀i (h:i<CS.length),wr.cell? ⟨G,i,none⟩=some (.int .i64 ((CS[i]:Nat):Int))):=fun wr lab1 na1 nc1 ns1 ka1 kc1 xs1 h=>by
  obtain⟨G',e,h1,h2⟩:=h.cu.at (by rw[nI_len];omega)
  simp only[Option.some.injEq,Addr.mk.injEq,and_true]at e
  subst e
  exact⟨h1,fun i hi=>h2 i _ (nI_at CS i hi)⟩
 clear hGl hGc HO2 HWS HWO HWe HBA HG5 HB5 HB1 hPl2 hPm hWz HT1 HTW
 go_upto_region 9 with fail
 clear jw1
 go_wp2
 go_loopw [1,3,4,16,17] (fun sa sn sk si _ wr=> ∃(i:Nat) (na1:Option Addr) (nc1:Nat) (lab1:Lbl) (ns1:List Nd) (ka1:Option Addr) (kc1:Nat) (xs1:List Int) (us:List Rt),i<=CS.length/\sa= .int .i64 (stA A1 CS i:Int)/\sn= .slice na1 ns1.length nc1/\sk= .slice ka1 xs1.length kc1/\si= .int .i64 i/\TL w0 W' lab na ka wr lab1 na1 nc1 ns1 (some ⟨G,0,none⟩) gc (nI CS) ka1 kc1 xs1/\2*i+A1<=stA A1 CS i/\ns1.length=ns.length+i/\xs1.length=xs.length+i/\mapP srcS (l.take i)=some us/\ns1=ns++(lays us ns.length).1/\xs1=xs++(lays us ns.length).2) (fun _ _ _ i _ _=>CS.length-(intOf i).toNat)
 case atStart=>exact⟨0,na,nc,lab,ns,ka,kc,xs,[],Nat.zero_le _,(by rw[stA_zero,hA1];go_num),rfl,rfl,rfl,unhide HLP,by rw[stA_zero];omega,by omega,by omega,rfl,by rw[lays_nil];simp,by rw[lays_nil];simp⟩
 case round=>
  obtain⟨i,na1,nc1,lab1,ns1,ka1,kc1,xs1,us,hi,rfl,rfl,rfl,rfl,hLP,hst0,hnl,hxl,hmp,hns,hxs1⟩:=hrel
  have HLr:=hide hLP;have HMp:=hide hmp;have HNs:=hide hns;have HXs:=hide hxs1
  obtain⟨hGr,hGc⟩:=unhide HGm wr lab1 na1 nc1 ns1 ka1 kc1 xs1 hLP
  have HTr:Hid (TksS wr ad L):=(unhide HT0).of hLP.be
  have hzr:w0.heap.size<=wr.heap.size:=hLP.be.size
  clear hLP hmp hns hxs1 HLP
  by_cases hlt:i<CS.length
  ·obtain⟨hc1,hc2,hc3⟩:=unhide HLe i hlt
   have hAi:=unhide HAt i hlt
   have hgi:=hGc i hlt
   have hst:=stA_succ A1 CS i hlt
   obtain⟨CI,hCI⟩: ∃CI,CI=CS[i]:=⟨_,rfl⟩
   rw[<-hCI]at hc1 hc2 hAi hgi hst
   obtain⟨A,hA⟩: ∃A,A=stA A1 CS i:=⟨_,rfl⟩
   rw[<-hA]at hc2 hc3 hAi hst0
   rw[<-hA]
   have j1:(i:Int)<(CS.length:Int):=by omega
   obtain⟨nn,hnn⟩: ∃nn,nn=CI-A:=⟨_,rfl⟩
   have jn:IntKind.i64.wrap ((CI:Int)-(A:Int))=(nn:Int):=by rw[IntKind.wrap_i64];omega
   have hCb:CI<=b:=by omega
   have HSt:=hide hst;have HAi:=hide hAi
   clear hst hAi hGc hA
   by_cases hn:CI=A+1\/CI=A+2
   rotate_left
   ·have HR0:Hid (RR=none):=unhide HRn (mapP_none (unhide HAi) ((src_eq hc2 (by omega)).1 (by omega) (by omega)))
    have j2: ¬(nn:Int)=1:=by omega
    have j3: ¬(nn:Int)=2:=by omega
    have hl1:ns1.length<=ns.length+(b-a)/\xs1.length<=xs.length+(b-a):=by omega
    have Hl1:=hide hl1
    clear hl1 hn hnn hCI hst0 hnl hxl
    go_wp2
    go_returns
    exact(unhide HLr).ends (by rw[unhide HR0];rfl) (unhide Hl1).1 (unhide Hl1).2 (fun ts ht=>by rw[unhide HR0]at ht;cases ht)
   obtain⟨tA,htA⟩: ∃tA,(tks L)[A]?=some tA:=⟨_,List.getElem?_eq_getElem (by omega)⟩
   obtain⟨Z,hZ⟩: ∃Z,Z=CI-1:=⟨_,rfl⟩
   have jz:IntKind.i64.wrap ((CI:Int)-1)=(Z:Int):=by rw[IntKind.wrap_i64];omega
   obtain⟨tZ,htZ⟩: ∃tZ,(tks L)[Z]?=some tZ:=⟨_,List.getElem?_eq_getElem (by omega)⟩
   have HSrc:=hide ((src_eq hc2 (by omega)).2 tA tZ hn htA (by rw[<-hZ];exact htZ))
   obtain⟨SA,gT,_,_,okA,hadA,hgT,_,cA,_,_⟩:=(unhide HTr).cells htA
   obtain⟨SZ,gZ,_,_,okZ,hadZ,_,_,cZ,_,_⟩:=(unhide HTr).cells htZ
   obtain⟨_,gY,_,_,_,hadY,hgY,_,_,_,_⟩:=(unhide HT0).cells htA
   subst hadA
   simp only[Option.some.injEq,Addr.mk.injEq,and_true]at hadZ hadY
   subst hadZ
   subst hadY
   have jA:A<L.length/\Z<L.length:=by omega
   obtain⟨jA1,jZ1⟩:=jA
   have jA2:(A:Int)<(L.length:Int):=by omega
   have jZ2:(Z:Int)<(L.length:Int):=by omega
   have j23:IntKind.i64.wrap ((CI:Int)-(A:Int))=1\/IntKind.i64.wrap ((CI:Int)-(A:Int))=2:=by
    rw[IntKind.wrap_i64]
    omega
   clear jn
   have HNA:Hid (Calls Tryz.prog 59 #[.string SA] wr fun e w'=>e= .returned (.bool (dB (NameB SA)))/\wr=w'):=(sIsName_calls SA wr (tok_size okA)).mono (fun e w' h=>⟨h.1,h.2.symm⟩)
   have HNZ:Hid (Calls Tryz.prog 59 #[.string SZ] wr fun e w'=>e= .returned (.bool (dB (NameB SZ)))/\wr=w'):=(sIsName_calls SZ wr (tok_size okZ)).mono (fun e w' h=>⟨h.1,h.2.symm⟩)
   have HokA:=hide okA;have HokZ:=hide okZ
   have Hl1:Hid (ns1.length<=ns.length+(b-a)/\xs1.length<=xs.length+(b-a)/\ns1.length<=1000000/\xs1.length<=1000000):=by
    show _/\_
    omega
   have Hst0:=hide hst0;have Hnl:=hide hnl;have Hxl:=hide hxl;have HnC:=hide hn;have HZ:=hide hZ;have HCI:=hide hCI
   clear okA okZ htA htZ hn hnn hst0 hnl hxl hZ hCI
   by_cases hNA:NameB SA
   rotate_left
   ·have HR0:Hid (RR=none):=unhide HRn (mapP_none (unhide HAi) (by
     rw[unhide HSrc]
     cases tA with
     | nam x=>exact absurd ((tok_name (unhide HokA)).2 ⟨x,rfl⟩) hNA
     | num v=>rfl
     | sy k=>rfl))
    rw[dB_false hNA]at HNA
    rcases j23 with jn | jn
    all_goals
     go_wp2_with fail
     refine(unhide HNA).mono ?_;rintro e _ ⟨rfl,rfl⟩
     go_wp2
     go_returns
     exact(unhide HLr).ends (by rw[unhide HR0];rfl) (unhide Hl1).1 (unhide Hl1).2.1 (fun ts ht=>by rw[unhide HR0]at ht;cases ht)
   rw[dB_true hNA]at HNA
   by_cases hNZ:NameB SZ
   rotate_left
   ·have HR0:Hid (RR=none):=unhide HRn (mapP_none (unhide HAi) (by
     rw[unhide HSrc]
     cases tZ with
     | nam x=>exact absurd ((tok_name (unhide HokZ)).2 ⟨x,rfl⟩) hNZ
     | num v=>cases tA<;>rfl
     | sy k=>cases tA<;>rfl))
    rw[dB_false hNZ]at HNZ
    rcases j23 with jn | jn
    all_goals
     go_wp2_with fail
     refine(unhide HNA).mono ?_;rintro e _ ⟨rfl,rfl⟩
     go_wp2_with fail
     refine(unhide HNZ).mono ?_;rintro e _ ⟨rfl,rfl⟩
     go_wp2
     go_returns
     exact(unhide HLr).ends (by rw[unhide HR0];rfl) (unhide Hl1).1 (unhide Hl1).2.1 (fun ts ht=>by rw[unhide HR0]at ht;cases ht)
   rw[dB_true hNZ]at HNZ
   obtain⟨xA,rfl⟩:=(tok_name (unhide HokA)).1 hNA
   obtain⟨xZ,rfl⟩:=(tok_name (unhide HokZ)).1 hNZ
   have HSr:Hid (srcS (sgm (tks L) A CI)=some [rSrc xA xZ]):=unhide HSrc
   have HM2:=hide (mapP_take (unhide HMp) (unhide HAi) (unhide HSr))
   have hSA:=tok_list (unhide HokA)
   have hSZ:=tok_list (unhide HokZ)
   have HSA:=hide hSA;have HSZ:=hide hSZ
   have hn6:=(unhide Hl1).2.2.1
   have hx6:=(unhide Hl1).2.2.2
   clear hNA hNZ hSA hSZ HSrc HSr
   rcases j23 with jn | jn
   all_goals
    go_wp2_with fail
    refine(unhide HNA).mono ?_;rintro e _ ⟨rfl,rfl⟩
    go_wp2_with fail
    refine(unhide HNZ).mono ?_;rintro e _ ⟨rfl,rfl⟩
    clear HNA HNZ
    go_upto_region 15 with fail
    have hgN:blk na1≠some gT:=fun e=>by have:=((unhide HLr).ns.lt _ e).1;omega
    have hGN:blk na1≠some G:=fun e=>((unhide HLr).cu.off G rfl).2 e
    obtain⟨wd,hwd⟩: ∃wd,wd=wr.drew:=⟨_,rfl⟩
    have hbd:Below wr.heap.size wr wd:=by rw[hwd];exact(Std.drew (Std.refl wr)).2.2
    have hSd:(wd.cell? ⟨gT,A*3,none⟩=some (.string SA)/\wd.cell? ⟨gT,Z*3,none⟩=some (.string SZ))/\wd.cell? ⟨G,i,none⟩=some (.int .i64 (CI:Int)):=
     ⟨⟨(hbd.cell (p:=⟨gT,A*3,none⟩) hgT).trans cA,(hbd.cell (p:=⟨gT,Z*3,none⟩) hgT).trans cZ⟩,(hbd.cell (p:=⟨G,i,none⟩) hGr).trans hgi⟩
    refine wp_region_held_drew (S:=fun w=>(w.cell? ⟨gT,A*3,none⟩=some (.string SA)/\w.cell? ⟨gT,Z*3,none⟩=some (.string SZ))/\w.cell? ⟨G,i,none⟩=some (.int .i64 (CI:Int))) (by kernel_rfl) (by rw[<-hwd];exact hSd) (fun hHeld=> ?_)
    refine tW 0 88 (.slice na1 ns1.length nc1) ?_
    simp only[puts]
    refine tW 1 89 (.slice (some ⟨gT,0,none⟩) L.length c) ?_
    simp only[puts]
    refine tW 2 90 (.int .i64 (A:Int)) ?_
    simp only[puts]
    refine tW 3 91 (.pointer (some ⟨gT,A*3,none⟩)) ?_
    simp only[puts]
    refine tW 4 92 (.pointer (some ⟨gT,A*3,none⟩)) ?_
    simp only[puts]
    refine tW 5 93 (.string SA) ?_
    simp only[puts]
    refine tW 6 94 (.slice (some ⟨gT,0,none⟩) L.length c) ?_
    simp only[puts]
    refine tW 7 95 (.slice (some ⟨G,0,none⟩) CS.length gc) ?_
    simp only[puts]
    refine tW 8 96 (.int .i64 (i:Int)) ?_
    simp only[puts]
    refine tW 9 97 (.pointer (some ⟨G,i,none⟩)) ?_
    simp only[puts]
    refine tW 10 98 (.int .i64 (CI:Int)) ?_
    simp only[puts]
    refine tW 11 99 (.int .i64 (Z:Int)) ?_
    simp only[puts]
    refine tW 12 100 (.pointer (some ⟨gT,Z*3,none⟩)) ?_
    simp only[puts]
    refine tW 13 101 (.pointer (some ⟨gT,Z*3,none⟩)) ?_
    simp only[puts]
    refine tW 14 102 (.string SZ) ?_
    simp only[puts]
    refine tW 15 103 (.agg #[.int .i64 5,.int .i64 0,.int .i64 0,.string SA,.string SZ,.slice none 0 0]) ?_
    simp only[puts]
    rw[<-hwd]
    clear hHeld hwd
    refine wpAnyH_ready (rs:=[16]) (by kernel_rfl) (by simp) ?_
    refine AllReadyH.cons rfl (fun Kx hKx=> ?_) AllReadyH.nil
    go_simp
    obtain⟨WN,hWN⟩: ∃WN,WN=wd.alloc (.cells #[.int .i64 5,.int .i64 0,.int .i64 0,.string SA,.string SZ,.slice none 0 0] 62):=⟨_,rfl⟩
    have HLd:=hide ((unhide HLr).of hbd)
    have hzd:w0.heap.size<=wd.heap.size:=Nat.le_trans hzr hbd.size
    obtain⟨nN,nK,nC,nB,nW,nZ⟩:=lit_node0 (unhide HLd).ns hzd ⟨5,0,0,SA,SZ,[]⟩ none 0 (KO.nil _ _ _ _) WN hWN
    rw[<-hWN]
    have hSn:(WN.cell? ⟨gT,A*3,none⟩=some (.string SA)/\WN.cell? ⟨gT,Z*3,none⟩=some (.string SZ))/\WN.cell? ⟨G,i,none⟩=some (.int .i64 (CI:Int)):=
     ⟨⟨(nW.cell (p:=⟨gT,A*3,none⟩) (Nat.lt_of_lt_of_le hgT hbd.size)).trans hSd.1.1,(nW.cell (p:=⟨gT,Z*3,none⟩) (Nat.lt_of_lt_of_le hgT hbd.size)).trans hSd.1.2⟩,(nW.cell (p:=⟨G,i,none⟩) (Nat.lt_of_lt_of_le hGr hbd.size)).trans hSd.2⟩
    refine hKx.out _ _ hSn (fun hHeld2=> ?_)
    clear hKx Kx hWN
    refine wpAnyH_ready (rs:=[17]) (by kernel_rfl) (by simp) ?_
    refine AllReadyH.cons rfl (fun Kx hKx=> ?_) AllReadyH.nil
    refine Eq.mpr (if_pos (by rfl)) ?_
    refine wp_pushN WN (.tmp 88) (.tmp 104) 22 rfl tn _ Tryz.underlying22 htn hy0 hy1 hy2 rfl w0.heap.size lab1 na1 nc1 ns1 rfl nN ⟨5,0,0,SA,SZ,[]⟩ none 0 nK wd.heap.size 1 rfl nC hn6 nB ?_
    intro ra rc w6 hn7 hb7 hat7
    have hgW:gT<WN.heap.size/\G<WN.heap.size:=⟨Nat.lt_of_lt_of_le hgT (Nat.le_trans hbd.size nW.size),Nat.lt_of_lt_of_le hGr (Nat.le_trans hbd.size nW.size)⟩
    have HL6:=hide (((unhide HLd).of nW).node hn7 hb7 hat7)
    refine hKx.out _ _ ⟨⟨(hb7.cell gT _ hgW.1 hgN).trans hSn.1.1,(hb7.cell gT _ hgW.1 hgN).trans hSn.1.2⟩,(hb7.cell G _ hgW.2 hGN).trans hSn.2⟩ (fun hHeld3=> ?_)
    clear hKx Kx
    obtain⟨m,hm⟩: ∃m,m=ns1.length+1:=⟨_,rfl⟩
    rw[<-hm]
    refine tW 18 3 (.slice ra m rc) ?_
    simp only[puts]
    refine wpAnyH_done (by kernel_rfl) ?_ _
    have jm:IntKind.i64.wrap ((m:Int)-1)=(ns1.length:Int):=by rw[IntKind.wrap_i64];omega
    have hz6:w0.heap.size<=w6.heap.size:=(unhide HL6).be.size
    have hwz6:wr.heap.size<=w6.heap.size:=Nat.le_trans hbd.size (Nat.le_trans nW.size hb7.size)
    have Hm:=hide hm
    clear hHeld2 hHeld3 hSn hSd hn7 hb7 hat7 nN nK nC nB nW nZ hbd HLd hgW hm hgN hGN hzd
    obtain⟨WB,hWB⟩: ∃WB,WB=w6.alloc (.cells #[.int .i64 (ns1.length:Int)] 3):=⟨_,rfl⟩
    have hbB:Below w6.heap.size w6 WB:=by rw[hWB];exact bA (Below.refl _ _) _
    have HLB:=hide ((unhide HL6).of hbB)
    have HcB:Hid (WB.cell? ⟨w6.heap.size,0,none⟩=some (.int .i64 (ns1.length:Int))):=by
     show _=_
     rw[hWB]
     exact(CellsAt.new w6 [.int .i64 (ns1.length:Int)] 3).all 0 _ rfl
    have hzb1:w0.heap.size<=WB.heap.size:=(unhide HLB).be.size
    have HWe:=hide hWB
    clear hWB hbB
    go_upto_region 17 with(at_builtin;rw[<-unhide HWe];refine wpList_pushK WB rfl (.tmp 106) (.tmp 110) 58 rfl ti _ Tryz.underlying58 hti hz0 hz1 hz2 rfl w0.heap.size lab1 ra ka1 kc1 xs1 rfl (unhide HLB).ki (fun b hb=>((unhide HLB).ns.lt b hb).2) (unhide HLB).ns.rng (ns1.length:Int) w6.heap.size 1 rfl (unhide HcB) hx6 hzb1 ?_;intro ra2 rc2 w8 hk8 hb8 hat8;have HK8:=hide hk8;have HB8:=hide hb8;have HA8:=hide hat8;clear hk8 hb8 hat8)
    have HL8:=hide ((unhide HLB).kid (unhide HK8) (unhide HB8) (unhide HA8))
    obtain⟨hG8,hGc8⟩:=unhide HGm w8 lab1 ra rc _ ra2 rc2 _ (unhide HL8)
    have hgi8:=hGc8 i hlt
    rw[<-unhide HCI]at hgi8
    have hw8:WB.heap.size<=w8.heap.size:=(unhide HB8).size
    clear hGc8 HK8 HB8 HA8 HcB HLB HL6 HWe cA cZ hgi
    go_wp2
    go_roundw
    case rel=>exact⟨i+1,ra,rc,lab1,ns1++[⟨5,0,0,SA,SZ,[]⟩],ra2,rc2,xs1++[(ns1.length:Int)],us++[rSrc xA xZ],by omega,(by rw[unhide HSt];go_num),(by rw[unhide Hm];simp),(by simp),by go_num,unhide HL8,(by have:=unhide Hst0;have:=unhide HnC;rw[unhide HSt];omega),(by have:=unhide Hnl;simp;omega),(by have:=unhide Hxl;simp;omega),unhide HM2,(by rw[lays_snoc,lay_mk,lays_nil,unhide HSA,unhide HSZ,unhide HNs];simp[List.append_assoc]),(by rw[lays_snoc,lay_mk,lays_nil,unhide HXs,unhide HNs];simp[List.append_assoc])⟩
    case measure=>simp[intOf];omega
  ·obtain rfl:i=CS.length:=by omega
   have hM:=unhide HMp
   rw[List.take_of_length_le (by rw[unhide HLl];omega)]at hM
   have hCe2:=unhide HCe
   rw[hCe2]at hst0
   rw[hCe2]
   have hTl:=unhide HTl2
   rw[hM]at hTl
   have hl1:ns1.length<=ns.length+(b-a)/\xs1.length<=xs.length+(b-a):=by omega
   rcases hTl with⟨hEb,hR⟩ | ⟨hEb,hR⟩
   ·subst hEb
    have HR:=hide hR;have Hl1:=hide hl1
    clear hR hl1 hM hCe2 hst0 hnl hxl hGc
    go_wp2
    go_returns
    refine(unhide HLr).ends (by rw[unhide HR];rfl) (unhide Hl1).1 (unhide Hl1).2 (fun ts ht=> ?_)
    rw[unhide HR]at ht
    simp only[Option.some.injEq]at ht
    rw[<-ht]
    exact⟨unhide HNs,unhide HXs⟩
   ·have jE: ¬(E:Int)=(b:Int):=by omega
    obtain⟨RC,hRC⟩: ∃RC,RC=sP f .cond (sgm (tks L) (E+1) b):=⟨_,rfl⟩
    have hone:=sP_one (f:=f) (nt:= .cond) (xs:=sgm (tks L) (E+1) b) (by simp[single])
    simp only[]at hR
    rw[<-hRC]at hR hone
    have hPr:Pre w0 L wr lab1 na1 nc1 ns1 .cond f (E+1) b:=⟨by omega,hbl,by have:=(unhide HP).fu;simp only[rnk]at this⊢;omega,(unhide HLr).be,(unhide HLr).ns,by omega⟩
    have hcall:=(unhide HH).bo 0 .cond wr lab1 na1 nc1 ns1 (E+1) b (by simp) hPr
    rw[<-hRC,show((E+1:Nat):Int)=(E:Int)+1 by omega]at hcall
    have HC:Hid (Calls Tryz.prog 82 #[.slice ad L.length c,.int .i64 ((E:Int)+1),.int .i64 (b:Int),.slice na1 ns1.length nc1,.int .i64 0] wr (PE w0.heap.size wr lab1 na1 ns1 RC (b-(E+1)))):=hcall
    have HR:=hide hR;have Hone:=hide hone
    have hx6:xs1.length<=1000000:=by omega
    have hn7:ns1.length+(b-E)<=1000000:=by omega
    have Hst0:=hide hst0;have Hnl:=hide hnl;have Hxl:=hide hxl
    clear hcall hR hone hM hCe2 hGc hPr hRC hst0 hnl hxl hl1
    go_wp2_with fail
    refine(unhide HC).mono ?_
    rintro e w2 ⟨na2,nc2,lab2,ns2,rfl,hN2,hF2,hl2,hr2⟩
    have HL2:=hide ((unhide HLr).call hF2 hN2)
    have Hr2:=hide hr2
    have hz2':w0.heap.size<=w2.heap.size:=(unhide HL2).be.size
    have hl2':ns2.length+1<=ns1.length+(b-E):=by omega
    clear hN2 hF2 hr2 HC hl2
    obtain⟨m,hm⟩: ∃m:Int,m=(ns2.length:Int)-1:=⟨_,rfl⟩
    have jm:IntKind.i64.wrap ((ns2.length:Int)-1)=m:=by rw[IntKind.wrap_i64];omega
    obtain⟨WB,hWB⟩: ∃WB,WB=w2.alloc (.cells #[.int .i64 m] 3):=⟨_,rfl⟩
    have hbB:Below w2.heap.size w2 WB:=by rw[hWB];exact bA (Below.refl _ _) _
    have HLB:=hide ((unhide HL2).of hbB)
    have HcB:Hid (WB.cell? ⟨w2.heap.size,0,none⟩=some (.int .i64 m)):=by
     show _=_
     rw[hWB]
     exact(CellsAt.new w2 [.int .i64 m] 3).all 0 _ rfl
    have hzb1:w0.heap.size<=WB.heap.size:=(unhide HLB).be.size
    have HWe:=hide hWB;have Hm:=hide hm
    have Hl2:=hide hl2'
    clear hWB hbB hm hl2'
    go_wp2_with (at_builtin;rw[<-unhide HWe];refine wpList_pushK WB rfl (.tmp 132) (.tmp 136) 58 rfl ti _ Tryz.underlying58 hti hz0 hz1 hz2 rfl w0.heap.size lab2 na2 ka1 kc1 xs1 rfl (unhide HLB).ki (fun b hb=>((unhide HLB).ns.lt b hb).2) (unhide HLB).ns.rng m w2.heap.size 1 rfl (unhide HcB) hx6 hzb1 ?_;intro ra2 rc2 w8 hk8 hb8 hat8;have HK8:=hide hk8;have HB8:=hide hb8;have HA8:=hide hat8;clear hk8 hb8 hat8)
    have HL8:=hide ((unhide HLB).kid (unhide HK8) (unhide HB8) (unhide HA8))
    clear HK8 HB8 HA8 HcB HLB
    go_wp2
    go_returns
    refine(unhide HL8).ends ?_ (by have:=unhide Hst0;have:=unhide Hnl;have:=unhide Hl2;omega) (by have:=unhide Hst0;have:=unhide Hxl;simp;omega) (fun ts ht=> ?_)
    ·rw[unhide HR]
     rcases unhide Hone with h | ⟨t,h⟩<;>rw[h]<;>simp
    ·rcases unhide Hone with h | ⟨t,h⟩
     ·rw[unhide HR,h]at ht
      cases ht
     ·rw[unhide HR,h]at ht
      simp only[Option.some.injEq]at ht
      have h2:=unhide Hr2 t h
      rw[<-ht,lays_snoc,unhide Hm,h2,unhide HXs,unhide HNs]
      exact⟨by simp[List.append_assoc],by simp[List.append_assoc,Nat.add_assoc]⟩
end Go.Proofs.YtmggnimiioepeaaGreatDoor.Pa
