import Derived.Test.YtmggnimiioepeaaGreatDoorQ0
import Derived.Test.YtmggnimiioepeaaGreatDoorPaPrimIs
import Derived.Test.YtmggnimiioepeaaGreatDoorPaPrimIn
import Derived.Test.YtmggnimiioepeaaGreatDoorPaPrimNo
import Derived.Test.YtmggnimiioepeaaGreatDoorPaPrimCo
import Derived.Test.YtmggnimiioepeaaGreatDoorQ14
namespace Go.Proofs.YtmggnimiioepeaaGreatDoor.Pa
open Go Go.RowKit
theorem l2Prim_calls(w0:World)(ad:Option Addr)(c:Nat)(L:List (Tok×ByteArray))(f:Nat)(hL:L.length<=1000000)(hT:TksS w0 ad L)(H:SHyp w0 ad c L f)(W:World)(lab:Lbl)(na:Option Addr)(nc:Nat)(ns:List Nd)(a b:Nat)(hP:Pre w0 L W lab na nc ns .prim (f+1) a b):
  Calls Tryz.prog 94 #[.slice ad L.length c,.int .i64 (a:Int),.int .i64 (b:Int),.slice na ns.length nc] W (PE w0.heap.size W lab na ns (sP (f+1) .prim (sgm (tks L) a b)) (b-a)):=by
 by_cases h1: ∃r,sgm (tks L) a b= .sy 20::r
 ·obtain⟨r,h1⟩:=h1
  exact prim_not w0 ad c L f hL hT H W lab na nc ns a b hP r h1
 have h1: ∀r,sgm (tks L) a b≠ .sy 20::r:=fun r e=>h1 ⟨r,e⟩
 by_cases h2: ∃r,sgm (tks L) a b= .sy 21::r
 ·obtain⟨r,h2⟩:=h2
  exact prim_exists w0 ad c L f hL hT H W lab na nc ns a b hP r h2
 have h2: ∀r,sgm (tks L) a b≠ .sy 21::r:=fun r e=>h2 ⟨r,e⟩
 by_cases h3: ∃r,sgm (tks L) a b= .sy 0::r
 ·obtain⟨r,h3⟩:=h3
  by_cases h4: ∃r',r= .sy 11::r'
  ·obtain⟨r',rfl⟩:=h4
   cases hop:opS 0 (sgm (tks L) a b)with
   | none=>exact prim_noneB w0 ad c L f hL hT W lab na nc ns a b hP h1 h2 r' h3 hop
   | some q=>
    obtain⟨x,cc,y⟩:=q
    obtain⟨_,ho⟩:=opS_app _ _ _ _ _ hop
    simp only[isOp,decide_eq_true_eq]at ho
    rcases ho with rfl | rfl | rfl | hc
    ·exact prim_isB w0 ad c L f hL hT H W lab na nc ns a b hP h1 h2 r' h3 x y hop
    ·exact prim_inB w0 ad c L f hL hT H W lab na nc ns a b hP h1 h2 r' h3 x y hop
    ·exact prim_ninB w0 ad c L f hL hT H W lab na nc ns a b hP h1 h2 r' h3 x y hop
    ·exact prim_cmpB w0 ad c L f hL hT H W lab na nc ns a b hP h1 h2 r' h3 cc hc x y hop
  ·exact prim_brk w0 ad c L f hL hT H W lab na nc ns a b hP r h3 (fun r' e=>h4 ⟨r',e⟩)
 have h3: ∀r,sgm (tks L) a b≠ .sy 0::r:=fun r e=>h3 ⟨r,e⟩
 cases hop:opS 0 (sgm (tks L) a b)with
 | none=>exact prim_none w0 ad c L f hL hT W lab na nc ns a b hP h1 h2 h3 hop
 | some q=>
  obtain⟨x,cc,y⟩:=q
  obtain⟨_,ho⟩:=opS_app _ _ _ _ _ hop
  simp only[isOp,decide_eq_true_eq]at ho
  rcases ho with rfl | rfl | rfl | hc
  ·exact prim_is w0 ad c L f hL hT H W lab na nc ns a b hP h1 h2 h3 x y hop
  ·exact prim_in w0 ad c L f hL hT H W lab na nc ns a b hP h1 h2 h3 x y hop
  ·exact prim_nin w0 ad c L f hL hT H W lab na nc ns a b hP h1 h2 h3 x y hop
  ·exact prim_cmp w0 ad c L f hL hT H W lab na nc ns a b hP h1 h2 h3 cc hc x y hop
set_option maxHeartbeats 4000000 in
set_option maxRecDepth 100000 in
theorem l2Bool_2(w0:World)(ad:Option Addr)(c:Nat)(L:List (Tok×ByteArray))(f:Nat)(hL:L.length<=1000000)(hT:TksS w0 ad L)(H:SHyp w0 ad c L f)(W:World)(lab:Lbl)(na:Option Addr)(nc:Nat)(ns:List Nd)(a b:Nat)(hP:Pre w0 L W lab na nc ns .prim (f+1) a b):
  Calls Tryz.prog 82 #[.slice ad L.length c,.int .i64 (a:Int),.int .i64 (b:Int),.slice na ns.length nc,.int .i64 2] W (PE w0.heap.size W lab na ns (sP (f+1) .prim (sgm (tks L) a b)) (b-a)):=by
 have HC:=hide (l2Prim_calls w0 ad c L f hL hT H W lab na nc ns a b hP)
 generalize sP (f+1) .prim (sgm (tks L) a b)=RR at*
 clear hT H hP
 go_enter Tryz.func82,Tryz.ntmps82
 go_wp2_with fail
 refine(unhide HC).mono ?_
 rintro e w2 ⟨na2,nc2,lab2,ns2,rfl,h2⟩
 have HE:=hide h2
 clear h2 HC
 go_wp2
 go_returns
 exact⟨na2,nc2,lab2,ns2,rfl,unhide HE⟩
end Go.Proofs.YtmggnimiioepeaaGreatDoor.Pa
namespace Go.Proofs.YtmggnimiioepeaaGreatDoor.Pa
open Go Go.RowKit
def selP:List (List Tok)->List (List Tok)
 | []=>[]
 | x::l=>x::l.map List.tail
theorem allS_some: ∀{l ys:List (List Tok)},allS l=some ys->ys=l.map List.tail/\ ∀x∈l,∃y,x= .sy 16::y
 | [],ys,h=>by simp[allS]at h;subst h;exact⟨rfl,by simp⟩
 | x::l,ys,h=>by
  unfold allS at h
  split at h
  ·rename_i y
   split at h
   ·rename_i zs hz
    simp only[Option.some.injEq]at h
    subst h
    obtain⟨h1,h2⟩:=allS_some hz
    exact⟨by rw[h1];rfl,fun x hx=>by
     rcases List.mem_cons.1 hx with rfl | hx
     ·exact⟨y,rfl⟩
     ·exact h2 x hx⟩
   ·cases h
  ·cases h
theorem allS_all: ∀{l:List (List Tok)},(∀x∈l,∃y,x=Tok.sy 16::y)->allS l=some (l.map List.tail)
 | [],_=>rfl
 | x::l,h=>by
  obtain⟨y,rfl⟩:=h x (by simp)
  unfold allS
  simp only[allS_all (l:=l) (fun z hz=>h z (by simp[hz]))]
  rfl
noncomputable def queS(p:List Tok->Option (List Rt))(l:List (List Tok)):Option (List Rt):=
 if dB (∀x∈l.drop 1,∃y,x=Tok.sy 16::y)=true then(match mapP p (selP l)with | some ts=>some [Rt.mk 7 0 0 [] [] ts] | none=>none)else none
theorem query_eq{f:Nat}{L:List (Tok×ByteArray)}{a b:Nat}(hab:a<=b)(hb:b<=(tks L).length):(topsP (.sy 15) 0 a (sgm (tks L) a b)=[]->sP (f+1) .query (sgm (tks L) a b)=sP f .sel (sgm (tks L) a b))/\
  (topsP (.sy 15) 0 a (sgm (tks L) a b)≠[]->sP (f+1) .query (sgm (tks L) a b)=queS (sP f .sel) (between (tks L) a (topsP (.sy 15) 0 a (sgm (tks L) a b)) b)):=by
 have e:sP (f+1) .query (sgm (tks L) a b)=(match cutL kUnion 0 (sgm (tks L) a b)with
  | []=>none
  | [x]=>sP f .sel x
  | x::l=>(match allS l with
   | none=>none
   | some ys=>(match mapP (sP f .sel) (x::ys)with | some ts=>some [.mk 7 0 0 [] [] ts] | none=>none))):=rfl
 rw[e,cut_between (tks L) kUnion a b hab hb]
 refine⟨fun h=>by rw[h];rfl,fun h=> ?_⟩
 cases hp:topsP (.sy 15) 0 a (sgm (tks L) a b)with
 | nil=>exact absurd hp h
 | cons q qs=>
  rw[between]
  cases hB:between (tks L) (q+1) qs b with
  | nil=>have hl:=between_len (tks L) qs (q+1) b;rw[hB]at hl;simp at hl
  | cons y l=>
   simp only[]
   unfold queS
   by_cases hal: ∀x∈(y::l),∃z,x=Tok.sy 16::z
   ·rw[allS_all hal,if_pos (by rw[dB_true];exact hal)]
    rfl
   ·rw[if_neg (by rw[dB_false (show ¬(∀x∈(sgm (tks L) a q::y::l).drop 1,∃z,x=Tok.sy 16::z)from hal)];simp)]
    cases hs:allS (y::l)with
    | none=>rfl
    | some ys=>exact absurd (allS_some hs).2 hal
theorem queS_no{p:List Tok->Option (List Rt)}{l:List (List Tok)}{j:Nat}{x:List Tok}(hj:1<=j)(hx:l[j]?=some x)(h: ∀y,x≠ .sy 16::y):queS p l=none:=by
 unfold queS
 rw[if_neg]
 rw[dB_false]
 ·simp
 ·intro hal
  obtain⟨y,e⟩:=hal x (by
   refine List.mem_iff_getElem?.2 ⟨j-1,?_⟩
   rw[List.getElem?_drop,show 1+(j-1)=j by omega]
   exact hx)
  exact h y e
theorem queS_bad{p:List Tok->Option (List Rt)}{l:List (List Tok)}{j:Nat}{x:List Tok}(hx:(selP l)[j]?=some x)(h:p x=none):queS p l=none:=by
 unfold queS
 rw[mapP_none hx h]
 split<;>rfl
theorem queS_yes{p:List Tok->Option (List Rt)}{l:List (List Tok)}{ts:List Rt}(hal: ∀j x,1<=j->l[j]?=some x-> ∃y,x=Tok.sy 16::y)(h:mapP p (selP l)=some ts):queS p l=some [.mk 7 0 0 [] [] ts]:=by
 unfold queS
 rw[if_pos,h]
 rw[dB_true]
 intro x hx
 obtain⟨i,hi⟩:=List.mem_iff_getElem?.1 hx
 rw[List.getElem?_drop]at hi
 exact hal _ x (by omega) hi
theorem selP_zero{l:List (List Tok)}:(selP l)[0]?=l[0]?:=by cases l<;>rfl
theorem selP_succ{l:List (List Tok)}{j:Nat}{x y:List Tok}(hx:l[j+1]?=some x)(e:x= .sy 16::y):(selP l)[j+1]?=some y:=by
 cases l with
 | nil=>simp at hx
 | cons z l=>
  simp only[List.getElem?_cons_succ]at hx
  simp[selP,hx,e]
theorem selP_len(l:List (List Tok)):(selP l).length=l.length:=by cases l<;>simp[selP]
def stQ(a:Nat)(cs:List Nat)(i:Nat):Nat:=if i=0 then a else cs.getD (i-1) 0+2
theorem stQ_succ(a:Nat)(cs:List Nat)(i:Nat)(h:i<cs.length):stQ a cs (i+1)=cs[i]+2:=by
 unfold stQ
 rw[if_neg (by omega)]
 simp[List.getD_eq_getElem?_getD,List.getElem?_eq_getElem h]
theorem stQ_stA(a:Nat)(cs:List Nat)(i:Nat)(h:0<i):stQ a cs i=stA a cs i+1:=by
 unfold stQ stA
 rw[if_neg (by omega),if_neg (by omega)]
set_option maxHeartbeats 8000000 in
set_option maxRecDepth 100000 in
theorem l2Query_calls(w0:World)(ad:Option Addr)(c:Nat)(L:List (Tok×ByteArray))(f:Nat)(hL:L.length<=1000000)(hT:TksS w0 ad L)(H:SHyp w0 ad c L f)(W:World)(lab:Lbl)(na:Option Addr)(nc:Nat)(ns:List Nd)(a b:Nat)(hP:Pre w0 L W lab na nc ns .query (f+1) a b):
  Calls Tryz.prog 11 #[.slice ad L.length c,.int .i64 (a:Int),.int .i64 (b:Int),.slice na ns.length nc] W (PE w0.heap.size W lab na ns (sP (f+1) .query (sgm (tks L) a b)) (b-a)):=by
 obtain⟨ti,hti,hz⟩:=Option.map_eq_some_iff.1 (show(Tryz.prog.info? 3).map (fun i=>(i.zero,i.size,i.bytes))=some (some (.int .i64 0),1,8)by kernel_rfl)
 simp only[Prod.mk.injEq]at hz
 obtain⟨hz0,hz1,hz2⟩:=hz
 obtain⟨tn,htn,hy⟩:=Option.map_eq_some_iff.1 (show(Tryz.prog.info? 62).map (fun i=>(i.zero,i.size,i.bytes))=some (some (.agg #[.int .i64 0,.int .i64 0,.int .i64 0,.string ⟨#[]⟩,.string ⟨#[]⟩,.slice none 0 0]),6,80)by kernel_rfl)
 simp only[Prod.mk.injEq]at hy
 obtain⟨hy0,hy1,hy2⟩:=hy
 have hab:=hP.ab
 have hbl:=hP.bl
 have hln:=hP.ln
 have hfu:=hP.fu
 simp only[rnk]at hfu
 have hbt:b<=(tks L).length:=by simp;omega
 have hTW:TksS W ad L:=fun i p hp=>by
  obtain⟨h0,g,h1,h2,h3⟩:=hT i p hp
  exact⟨h0,g,h1,Nat.lt_of_lt_of_le h2 hP.be.size,fun j hj=>(hP.be.cell (p:=⟨g,i*3+j,none⟩) h2).trans (h3 j hj)⟩
 have HTo:=hide (l2Tops_calls L ad c W hL hTW a b hab hbl ⟨#[85,78,73,79,78]⟩ 15 (by omega) (Go.ByteArray.toList_mk [85,78,73,79,78]))
 have hsq:=query_eq (f:=f) (L:=L) (a:=a) (b:=b) hab hbt
 have HH:=hide H;have HP:=hide hP;have HT0:=hide hT
 clear H hP hT hTW
 by_cases h0:topsP (.sy 15) 0 a (sgm (tks L) a b)=[]
 ·rw[hsq.1 h0]
  have HR:Hid (∀w1,Below W.heap.size W w1->Calls Tryz.prog 29 #[.slice ad L.length c,.int .i64 (a:Int),.int .i64 (b:Int),.slice na ns.length nc] w1 (PE w0.heap.size w1 lab na ns (sP f .sel (sgm (tks L) a b)) (b-a))):=fun w1 hb1=>
   (unhide HH).se w1 lab na nc ns a b ⟨hab,hbl,by simp only[rnk];omega,(unhide HP).be.trans (hb1.mono (unhide HP).be.size),(unhide HP).ns.of hb1,hln⟩
  rw[h0]at HTo
  clear hsq h0 HH HP
  go_enter Tryz.func11,Tryz.ntmps11
  go_wp2_with fail
  refine(unhide HTo).mono ?_
  rintro e w1 ⟨g,cap,rfl,hown,hb1⟩
  have HC:=hide (unhide HR w1 hb1)
  have HB1:=hide hb1
  clear hb1 hown HTo HR
  go_wp2_with fail
  refine(unhide HC).mono ?_
  rintro e w2 ⟨na2,nc2,lab2,ns2,rfl,hN2,hF2,hl2,hr2⟩
  have HE:Hid (NS w0.heap.size w2 lab2 na2 nc2 ns2/\Fr W w2 lab lab2 na na2/\ns2.length<=ns.length+(b-a)/\ ∀t,sP f .sel (sgm (tks L) a b)=some [t]->ns2=ns++lay t ns.length):=⟨hN2,(Fr.ofBelow (unhide HB1)).trans hF2,hl2,hr2⟩
  clear hN2 hF2 hl2 hr2 HC HB1
  generalize(sP f .sel (sgm (tks L) a b))=RR at*
  go_wp2
  go_returns
  exact⟨na2,nc2,lab2,ns2,rfl,unhide HE⟩
 ·have hsq:=hsq.2 h0
  obtain⟨CS,hCS⟩: ∃CS,CS=topsP (.sy 15) 0 a (sgm (tks L) a b)++[b]:=⟨_,rfl⟩
  have hle: ∀i (h:i<CS.length),CS[i]<=b/\stA a CS i<=CS[i]/\a<=stA a CS i:=by rw[hCS];exact cuts_le (.sy 15) (tks L) a b hab hbt
  obtain⟨l,hl⟩: ∃l,l=between (tks L) a (topsP (.sy 15) 0 a (sgm (tks L) a b)) b:=⟨_,rfl⟩
  have hat: ∀i (h:i<CS.length),l[i]?=some (sgm (tks L) (stA a CS i) CS[i]):=by rw[hCS,hl];exact between_at (tks L) (topsP (.sy 15) 0 a (sgm (tks L) a b)) a b
  have hll:l.length=CS.length:=by rw[hl,hCS];exact between_len _ _ _ _
  have hC2:2<=CS.length:=by
   rw[hCS]
   cases hq:topsP (.sy 15) 0 a (sgm (tks L) a b)with
   | nil=>exact absurd hq h0
   | cons x y=>simp
  have hCl:CS.length<=b-a+1:=by
   rw[hCS]
   have:=topsP_len (.sy 15) (sgm (tks L) a b) 0 a
   rw[sgm_len _ _ _ hab hbt]at this
   simp
   omega
  have hCe:stQ a CS CS.length=b+2:=by
   rw[hCS]
   obtain⟨m,hm⟩: ∃m,m=topsP (.sy 15) 0 a (sgm (tks L) a b):=⟨_,rfl⟩
   rw[<-hm]
   have:=stQ_succ a (m++[b]) m.length (by simp)
   simpa using this
  rw[<-hl]at hsq
  obtain⟨RR,hRR⟩: ∃RR,RR=sP (f+1) .query (sgm (tks L) a b):=⟨_,rfl⟩
  rw[<-hRR]
  rw[hsq]at hRR
  have HCt:Hid (∀i (h:i<CS.length) (q:Nat),q=CS[i]->q<b->(tks L)[q]?=some (.sy 15)):=fun i h q hq hqb=>by
   subst hCS
   have hm:(topsP (.sy 15) 0 a (sgm (tks L) a b)++[b])[i]∈(topsP (.sy 15) 0 a (sgm (tks L) a b)++[b]):=List.getElem_mem h
   rw[<-hq]at hm
   rcases List.mem_append.1 hm with hm | hm
   ·exact topsP_tok (.sy 15) (tks L) b hbt (b-a) a 0 q rfl hab hm
   ·simp at hm;omega
  have HRR:=hide hRR;have HCS:=hide hCS;have HLe:=hide hle;have HAt:=hide hat;have HLl:=hide hll;have HCe:=hide hCe
  have hPn: ¬(topsP (.sy 15) 0 a (sgm (tks L) a b)).length=0:=fun e=>h0 (List.eq_nil_of_length_eq_zero e)
  have hPl:(topsP (.sy 15) 0 a (sgm (tks L) a b)).length+1=CS.length:=by rw[hCS];simp
  clear hsq h0 hRR hCS hl hle hat hll hCe hfu
  generalize topsP (.sy 15) 0 a (sgm (tks L) a b)=PP at*
  have hPb:((PP.length:Int)==0)=false:=beq_eq_false_iff_ne.2 (by omega)
  go_enter Tryz.func11,Tryz.ntmps11
  go_wp2_with fail
  refine(unhide HTo).mono ?_
  rintro e w1 ⟨g,cap,rfl,hown,hb1⟩
  obtain⟨WA,hWA⟩: ∃WA,WA=w1.alloc (.cells #[.int .i64 (b:Int)] 3):=⟨_,rfl⟩
  have hWB:Below w1.heap.size w1 WA:=by rw[hWA];exact bA (Below.refl _ _) _
  have HWO:=hide (own_below hown hWB)
  have HWS:Hid (SrcC WA 1 (some ⟨w1.heap.size,0,none⟩) 1 1 [.int .i64 (b:Int)]):=by
   show SrcC _ _ _ _ _ _
   rw[hWA]
   exact srcNew _ _ [.int .i64 (b:Int)] _ 1 1 rfl (by simp[Value.oneCell']) rfl 1
  have hWz:W.heap.size<=WA.heap.size:=Nat.le_trans hb1.size hWB.size
  have HBA:=hide (bT hb1 hWB)
  have HWe:=hide hWA
  have hPm:PP.length<=1000000:=by omega
  clear hWA hWB hown hb1 HTo
  go_upto_region 5 with(at_builtin;rw[<-unhide HWe];refine wpList_append_gen WA rfl (.tmp 28) (.tmp 30) 58 rfl W.heap.size 3 ti _ 1 8 Tryz.underlying58 hti hz0 hz1 hz2 rfl (by decide) g PP.length cap (vN PP) rfl (unhide HWO) (some ⟨w1.heap.size,0,none⟩) 1 1 [.int .i64 (b:Int)] rfl (unhide HWS) (by unfold maxLen;omega) (by omega) hWz ?_;intro ga gc w5 hown2 hgrow hatt;have HO2:=hide hown2;have HG5:=hide hgrow;clear hown2 hgrow hatt)
  have HB5:Hid (Below W.heap.size W w5):=grown_below (unhide HBA) (unhide HG5) (fun j hj=>((unhide HWO).lt j (by rw[own_slice];exact hj)).1)
  obtain⟨wk,hwk⟩: ∃wk,wk=w5.alloc (.cells #[] 3):=⟨_,rfl⟩
  have HLP:Hid (LP w0 W w5.heap.size lab na wk lab na nc ns ga gc (nI CS) (some ⟨w5.heap.size,0,none⟩) 0 []):=by
   show LP _ _ _ _ _ _ _ _ _ _ _ _ _ _ _ _
   have hb5:=unhide HB5
   have hPr:=unhide HP
   have hN5:=hPr.ns.of hb5
   have hbw:Below w5.heap.size w5 wk:=by rw[hwk];exact bA (Below.refl _ _) _
   have hz:w0.heap.size<=W.heap.size:=hPr.be.size
   have hbb:=bT hb5 hbw
   have hcu:KO w0.heap.size w5 lab na ga gc (nI CS):=by
    have ho:=unhide HO2
    refine⟨?_,fun b hb=> ?_⟩
    ·rw[nI_len,<-vN_iV,unhide HCS,vN_snoc,List.length_append]
     refine⟨ho.1,ho.2.imp id (fun⟨g,cap,cur,h1,h2,h3⟩=>⟨g,cap,cur,h1,Nat.le_trans hz h2,h3⟩)⟩
    ·have hlt:=row_lt (unhide HO2) b hb
     refine⟨?_,fun e=>by have:=(hPr.ns.lt b e).2;omega⟩
     cases hl:lab b with
     | none=>rfl
     | some i=>have:=hPr.ns.rng _ _ hl;omega
   have hki:=KO.new hN5 (Nat.le_trans hz hb5.size) [] (by simp)
   have hki':KO w0.heap.size wk lab na (some ⟨w5.heap.size,0,none⟩) 0 []:=by rw[hwk];exact hki
   exact⟨hPr.be.trans (hbb.mono hz),hPr.ns.of hbb,Fr.ofBelow hbb,hcu.of hbw,hki',fun b hb=>(row_lt (unhide HO2) b hb).2,fun b hb=>by simp[blk]at hb;omega,hb5.size,hz⟩
  obtain⟨G,hG,hGl,hGc⟩:=(unhide HLP).cu.at (by rw[nI_len];omega)
  subst hG
  have HGm:Hid (∀(wr:World) (lab1:Lbl) (na1:Option Addr) (nc1:Nat) (ns1:List Nd) (ka:Option Addr) (kc:Nat) (xs:List Int),LP w0 W w5.heap.size lab na wr lab1 na1 nc1 ns1 (some ⟨G,0,none⟩) gc (nI CS) ka kc xs->G<wr.heap.size/\ ∀i (h:i<CS.length),wr.cell? ⟨G,i,none⟩=some (.int .i64 ((CS[i]:Nat):Int))):=fun wr lab1 na1 nc1 ns1 ka kc xs h=>by
   obtain⟨G',e,h1,h2⟩:=h.cu.at (by rw[nI_len];omega)
   simp only[Option.some.injEq,Addr.mk.injEq,and_true]at e
   subst e
   exact⟨h1,fun i hi=>h2 i _ (nI_at CS i hi)⟩
  have HX:Hid (∀(wr:World) (lab1:Lbl) (na1:Option Addr) (nc1:Nat) (ns1:List Nd) (ka:Option Addr) (kc:Nat) (xs:List Int),LP w0 W w5.heap.size lab na wr lab1 na1 nc1 ns1 (some ⟨G,0,none⟩) gc (nI CS) ka kc xs->wk.heap.size<=wr.heap.size->w5.heap.size<=wr.heap.size):=fun wr lab1 na1 nc1 ns1 ka kc xs _ h=>by rw[hwk]at h;simp at h;omega
  have HKe:=hide hwk
  clear hGl hGc hwk HO2 HWS HWO HWe HBA HG5
  go_upto_region 6 with fail
  rw[<-unhide HKe]
  clear HKe
  go_wp2
  go_loopw [1,3,11,12,13] (fun sa sn sk so si wr=> ∃(i:Nat) (na1:Option Addr) (nc1:Nat) (lab1:Lbl) (ns1:List Nd) (ka:Option Addr) (kc:Nat) (xs:List Int) (us:List Rt),i<=CS.length/\sa= .int .i64 (stQ a CS i:Int)/\sn= .slice na1 ns1.length nc1/\sk= .slice ka xs.length kc/\so= .bool true/\si= .int .i64 i/\wk.heap.size<=wr.heap.size/\xs.length=i/\LP w0 W w5.heap.size lab na wr lab1 na1 nc1 ns1 (some ⟨G,0,none⟩) gc (nI CS) ka kc xs/\ns1.length+2*i<=ns.length+(stQ a CS i-a)/\(∀j x,1<=j->j<=i->l[j]?=some x-> ∃y,x=Tok.sy 16::y)/\mapP (sP f .sel) ((selP l).take i)=some us/\ns1=ns++(lays us ns.length).1/\xs=(lays us ns.length).2) (fun _ _ _ _ i _=>CS.length-(intOf i).toNat)
  case atStart=>exact⟨0,na,nc,lab,ns,some ⟨w5.heap.size,0,none⟩,0,[],[],Nat.zero_le _,rfl,rfl,rfl,rfl,rfl,Nat.le_refl _,rfl,unhide HLP,by show ns.length+2*0<=ns.length+(a-a);omega,fun j x h1 h2=>by omega,rfl,by rw[lays_nil];simp,by rw[lays_nil]⟩
  case round=>
   obtain⟨i,na1,nc1,lab1,ns1,ka,kc,xs,us,hi,rfl,rfl,rfl,rfl,rfl,hwr,hxl,hLP,hnl,hal,hmp,hns,hxs⟩:=hrel
   have HLr:=hide hLP;have HMp:=hide hmp;have HNs:=hide hns;have HXs:=hide hxs;have HAl:=hide hal
   have hX5:=unhide HX wr lab1 na1 nc1 ns1 ka kc xs hLP hwr
   obtain⟨hGr,hGc⟩:=unhide HGm wr lab1 na1 nc1 ns1 ka kc xs hLP
   clear hLP hmp hns hxs HLP hal
   by_cases hlt:i<CS.length
   ·obtain⟨hc1,hc2,hc3⟩:=unhide HLe i hlt
    have hAi:=unhide HAt i hlt
    have hgi:=hGc i hlt
    have hst:=stQ_succ a CS i hlt
    obtain⟨CI,hCI⟩: ∃CI,CI=CS[i]:=⟨_,rfl⟩
    rw[<-hCI]at hc1 hc2 hAi hgi hst
    obtain⟨A,hA⟩: ∃A,A=stQ a CS i:=⟨_,rfl⟩
    have hsel:A<=CI/\a<=A/\(selP l)[i]?=some (sgm (tks L) A CI):=by
     rcases Nat.eq_zero_or_pos i with h0 | h0
     ·subst h0
      have:A=a:=by rw[hA];rfl
      subst this
      exact⟨hc2,Nat.le_refl _,by rw[selP_zero];exact hAi⟩
     ·have hq:=stQ_stA a CS i h0
      obtain⟨y,hy⟩:=unhide HAl i _ h0 (Nat.le_refl _) hAi
      have hlt1:=((is_head (q:=16) (show CI<=(tks L).length by omega)).2 ⟨y,hy⟩).1
      obtain⟨t9,_,e9⟩:=sgm_head (tks L) (stA a CS i) CI hlt1 (by omega)
      have hye:y=sgm (tks L) (stA a CS i+1) CI:=by rw[e9]at hy;simp only[List.cons.injEq]at hy;exact hy.2.symm
      obtain⟨i',rfl⟩: ∃i',i=i'+1:=⟨i-1,by omega⟩
      refine⟨by omega,by omega,?_⟩
      rw[selP_succ hAi hy,hye,hA,hq]
    obtain⟨hc2',hc3',hSi⟩:=hsel
    rw[<-hA]at hnl
    rw[<-hA]
    have hPr:Pre w0 L wr lab1 na1 nc1 ns1 .sel f A CI:=⟨hc2',by omega,by have:=(unhide HP).fu;simp only[rnk]at this⊢;omega,(unhide HLr).be,(unhide HLr).ns,by omega⟩
    have hcall:=(unhide HH).se wr lab1 na1 nc1 ns1 A CI hPr
    have j1:(i:Int)<(CS.length:Int):=by omega
    have HA:=hide hA;have HSt:=hide hst;have HAi:=hide hAi;have HSi:=hide hSi
    have hxl2:xs.length<=1000000:=by omega
    have hbe:Below w0.heap.size w0 wr:=(unhide HLr).be
    have HNr:=hide (unhide HLr).ns
    clear hA hst hAi hPr hGc hCI hSi hc2 hc3
    rcases sP_one (f:=f) (nt:= .sel) (xs:=sgm (tks L) A CI) (by simp[single])with hr | ⟨t,hr⟩
    ·rw[hr]at hcall
     have HC:=hide hcall
     have HR0:Hid (RR=none):=by
      show RR=none
      rw[unhide HRR]
      exact queS_bad (unhide HSi) hr
     have HXl:=hide hxl
     clear hcall hr hxl hbe
     go_wp2_with fail
     refine(unhide HC).mono ?_
     intro e w2 hpe
     obtain⟨na2,nc2,lab2,ns2,rfl,hN2,hF2,hl2⟩:=hpe.no
     have HE:Hid (NS w0.heap.size w2 lab2 na2 nc2 ns2/\Fr W w2 lab lab2 na na2/\ns2.length<=ns.length+(b-a)):=⟨hN2,(unhide HLr).fr.trans hF2,by have:=hl2;omega⟩
     clear hN2 hF2 hl2 HC hpe
     go_wp2
     go_returns
     refine⟨na2,nc2,lab2,ns2,?_,(unhide HE).1,(unhide HE).2.1,(unhide HE).2.2,fun t ht=> ?_⟩
     ·rw[unhide HR0];rfl
     ·rw[unhide HR0]at ht;cases ht
    ·rw[hr]at hcall
     have HC:=hide hcall
     have HM2:=hide (mapP_take (unhide HMp) (unhide HSi) hr)
     have HXl:=hide hxl
     have HBe:=hide hbe
     clear hcall hr hxl hbe
     go_wp2_with fail
     refine(unhide HC).mono ?_
     intro e w2 hpe
     obtain⟨na2,nc2,lab2,ns2,rfl,hN2,hF2,hl2,he2⟩:=hpe.yes
     have HL2:=hide ((unhide HLr).call hF2 hN2)
     have HT2:Hid (TksS w2 ad L):=(unhide HT0).of (unhide HL2).be
     have HE2:=hide he2
     have hn1:1<=ns2.length:=by rw[he2];have:=lay_pos t ns1.length;simp;omega
     have hw2:wr.heap.size<=w2.heap.size:=hF2.size
     obtain⟨gl2,gc2⟩:=unhide HGm w2 lab2 na2 nc2 ns2 ka kc xs (unhide HL2)
     have hgi2:=gc2 i hlt
     rw[show CS[i]=CI by have:=unhide HSt;have:=stQ_succ a CS i hlt;omega]at hgi2
     clear hN2 hF2 he2 HC hpe gc2
     have HKc:Hid (∀(hnext: ∀j x,1<=j->j<=i+1->l[j]?=some x-> ∃y,x=Tok.sy 16::y),True):=fun _=>trivial
     clear HKc
     by_cases hlast:i+1<CS.length
     ·have j5:(i:Int)+1<(CS.length:Int):=by omega
      have HIa:=hide (l2Is_calls L ad c w2 (unhide HT2) (CI+1) b hbl ⟨#[65,76,76]⟩ 16 (by omega) (Go.ByteArray.toList_mk [65,76,76]))
      rw[show((CI+1:Nat):Int)=(CI:Int)+1 by omega]at HIa
      obtain⟨hn1',hn2',hn3'⟩:=unhide HLe (i+1) hlast
      have hAn:=unhide HAt (i+1) hlast
      have hstn:stA a CS (i+1)=CI+1:=by
       have h1:=stA_succ a CS i hlt
       have h2:=stQ_succ a CS i hlt
       have h3:=unhide HSt
       omega
      rw[hstn]at hAn hn2' hn3'
      obtain⟨CN,hCN⟩: ∃CN,CN=CS[i+1]:=⟨_,rfl⟩
      rw[<-hCN]at hAn hn1' hn2'
      by_cases hall: ∃y,sgm (tks L) (CI+1) CN=Tok.sy 16::y
      ·have htok:=(is_head (q:=16) (show CN<=(tks L).length by omega)).2 hall
       rw[decide_eq_true (show CI+1<b/\(tks L)[CI+1]?=some (.sy 16)from⟨by omega,htok.2⟩)]at HIa
       have HNx:Hid (∀j x,1<=j->j<=i+1->l[j]?=some x-> ∃y,x=Tok.sy 16::y):=fun j x h1 h2 h3=>by
        by_cases e:j=i+1
        ·subst e
         rw[hAn]at h3
         simp only[Option.some.injEq]at h3
         subst h3
         exact hall
        ·exact unhide HAl j x h1 (by omega) h3
       clear hall htok hAn hstn hn1' hn2' hn3' hCN
       go_wp2_with fail
       refine(unhide HIa).mono ?_;rintro e w2' ⟨rfl,rfl⟩
       clear HIa
       obtain⟨WB,hWB⟩: ∃WB,WB=w2'.alloc (.cells #[.int .i64 ((ns2.length:Int)-1)] 3):=⟨_,rfl⟩
       have hbB:Below w2'.heap.size w2' WB:=by rw[hWB];exact bA (Below.refl _ _) _
       have HLB:=hide ((unhide HL2).of hbB)
       have hzB:WB.heap.size=w2'.heap.size+1:=by rw[hWB];simp
       have HcB:Hid (WB.cell? ⟨w2'.heap.size,0,none⟩=some (.int .i64 ((ns2.length:Int)-1))):=by
        show _=_
        rw[hWB]
        exact(CellsAt.new w2' [.int .i64 ((ns2.length:Int)-1)] 3).all 0 _ rfl
       have HWe:=hide hWB
       have HzB:=hide hzB
       have hzb1:w0.heap.size<=WB.heap.size:=(unhide HLB).sz
       have hns2:ns2.length<=1000000:=by omega
       clear hWB hbB hzB
       go_upto_region 14 with(at_builtin;rw[<-unhide HWe];refine wpList_pushK WB rfl (.tmp 71) (.tmp 75) 58 rfl ti _ Tryz.underlying58 hti hz0 hz1 hz2 rfl w0.heap.size lab2 na2 ka kc xs rfl (unhide HLB).ki (fun b hb=>((unhide HLB).ns.lt b hb).2) (unhide HLB).ns.rng ((ns2.length:Int)-1) w2'.heap.size 1 rfl (unhide HcB) hxl2 hzb1 ?_;intro ra rc w6 hk6 hb6 hat6;have HK6:=hide hk6;have HB6:=hide hb6;have HA6:=hide hat6;clear hk6 hb6 hat6)
       have HL6:Hid (LP w0 W w5.heap.size lab na w6 lab2 na2 nc2 ns2 (some ⟨G,0,none⟩) gc (nI CS) ra rc (xs++[(ns2.length:Int)-1])):=(unhide HLB).kid (by have:=unhide HzB;omega) (unhide HK6) (unhide HB6) (unhide HA6)
       have hw6:WB.heap.size<=w6.heap.size:=(unhide HB6).size
       obtain⟨hG6,hGc6⟩:=unhide HGm w6 lab2 na2 nc2 ns2 ra rc _ (unhide HL6)
       have hgi6:=hGc6 i hlt
       rw[show CS[i]=CI by have:=unhide HSt;have:=stQ_succ a CS i hlt;omega]at hgi6
       clear hGc6 HK6 HB6 HA6 HcB
       go_wp2
       go_roundw
       case rel=>exact⟨i+1,na2,nc2,lab2,ns2,ra,rc,xs++[(ns2.length:Int)-1],us++[t],by omega,(by rw[unhide HSt];go_num),rfl,(by simp),rfl,by go_num,(by have:=unhide HzB;omega),(by have:=unhide HXl;simp;omega),unhide HL6,(by rw[unhide HSt];omega),unhide HNx,unhide HM2,(by rw[lays_snoc,unhide HE2,unhide HNs];simp[List.append_assoc]),(by rw[lays_snoc,<-unhide HXs,unhide HE2,unhide HNs];simp[Nat.add_assoc])⟩
       case measure=>simp[intOf];omega
      ·have hno: ¬(CI+1<b/\(tks L)[CI+1]?=some (.sy 16)):=fun e=>by
        rcases Nat.lt_or_ge (CI+1) CN with h | h
        ·exact hall ((is_head (q:=16) (show CN<=(tks L).length by omega)).1 ⟨h,e.2⟩)
        ·
         have hcn:CN=CI+1:=by omega
         have htk:(tks L)[CN]?=some (.sy 15):=unhide HCt (i+1) hlast CN hCN (by omega)
         rw[hcn,e.2]at htk
         simp at htk
       rw[decide_eq_false hno]at HIa
       have HR0:Hid (RR=none):=by
        show RR=none
        rw[unhide HRR]
        exact queS_no (j:=i+1) (by omega) hAn (fun y e=>hall ⟨y,e⟩)
       clear hall hno hAn hstn hn1' hn2' hn3' hCN
       have HE:Hid (NS w0.heap.size w2 lab2 na2 nc2 ns2/\Fr W w2 lab lab2 na na2/\ns2.length<=ns.length+(b-a)):=⟨(unhide HL2).ns,(unhide HL2).fr,by have:=hl2;omega⟩
       go_wp2_with fail
       refine(unhide HIa).mono ?_;rintro e w2' ⟨rfl,rfl⟩
       clear HIa
       go_wp2
       go_returns
       refine⟨na2,nc2,lab2,ns2,?_,(unhide HE).1,(unhide HE).2.1,(unhide HE).2.2,fun t ht=> ?_⟩
       ·rw[unhide HR0];rfl
       ·rw[unhide HR0]at ht;cases ht
     ·have j5: ¬(i:Int)+1<(CS.length:Int):=by omega
      have HNx:Hid (∀j x,1<=j->j<=i+1->l[j]?=some x-> ∃y,x=Tok.sy 16::y):=fun j x h1 h2 h3=>unhide HAl j x h1 (by have:=(List.getElem?_eq_some_iff.1 h3).1;have:=unhide HLl;omega) h3
      obtain⟨WB,hWB⟩: ∃WB,WB=w2.alloc (.cells #[.int .i64 ((ns2.length:Int)-1)] 3):=⟨_,rfl⟩
      have hbB:Below w2.heap.size w2 WB:=by rw[hWB];exact bA (Below.refl _ _) _
      have HLB:=hide ((unhide HL2).of hbB)
      have hzB:WB.heap.size=w2.heap.size+1:=by rw[hWB];simp
      have HcB:Hid (WB.cell? ⟨w2.heap.size,0,none⟩=some (.int .i64 ((ns2.length:Int)-1))):=by
       show _=_
       rw[hWB]
       exact(CellsAt.new w2 [.int .i64 ((ns2.length:Int)-1)] 3).all 0 _ rfl
      have HWe:=hide hWB
      have HzB:=hide hzB
      have hzb1:w0.heap.size<=WB.heap.size:=(unhide HLB).sz
      have hns2:ns2.length<=1000000:=by omega
      clear hWB hbB hzB
      go_upto_region 14 with(at_builtin;rw[<-unhide HWe];refine wpList_pushK WB rfl (.tmp 71) (.tmp 75) 58 rfl ti _ Tryz.underlying58 hti hz0 hz1 hz2 rfl w0.heap.size lab2 na2 ka kc xs rfl (unhide HLB).ki (fun b hb=>((unhide HLB).ns.lt b hb).2) (unhide HLB).ns.rng ((ns2.length:Int)-1) w2.heap.size 1 rfl (unhide HcB) hxl2 hzb1 ?_;intro ra rc w6 hk6 hb6 hat6;have HK6:=hide hk6;have HB6:=hide hb6;have HA6:=hide hat6;clear hk6 hb6 hat6)
      have HL6:Hid (LP w0 W w5.heap.size lab na w6 lab2 na2 nc2 ns2 (some ⟨G,0,none⟩) gc (nI CS) ra rc (xs++[(ns2.length:Int)-1])):=(unhide HLB).kid (by have:=unhide HzB;omega) (unhide HK6) (unhide HB6) (unhide HA6)
      have hw6:WB.heap.size<=w6.heap.size:=(unhide HB6).size
      obtain⟨hG6,hGc6⟩:=unhide HGm w6 lab2 na2 nc2 ns2 ra rc _ (unhide HL6)
      have hgi6:=hGc6 i hlt
      rw[show CS[i]=CI by have:=unhide HSt;have:=stQ_succ a CS i hlt;omega]at hgi6
      clear hGc6 HK6 HB6 HA6 HcB
      go_wp2
      go_roundw
      case rel=>exact⟨i+1,na2,nc2,lab2,ns2,ra,rc,xs++[(ns2.length:Int)-1],us++[t],by omega,(by rw[unhide HSt];go_num),rfl,(by simp),rfl,by go_num,(by have:=unhide HzB;omega),(by have:=unhide HXl;simp;omega),unhide HL6,(by rw[unhide HSt];omega),unhide HNx,unhide HM2,(by rw[lays_snoc,unhide HE2,unhide HNs];simp[List.append_assoc]),(by rw[lays_snoc,<-unhide HXs,unhide HE2,unhide HNs];simp[Nat.add_assoc])⟩
      case measure=>simp[intOf];omega
   ·obtain rfl:i=CS.length:=by omega
    have HRs:Hid (RR=some [Rt.mk 7 0 0 [] [] us]):=by
     show RR=_
     have:=unhide HMp
     rw[List.take_of_length_le (by rw[selP_len,unhide HLl];omega)]at this
     rw[unhide HRR]
     exact queS_yes (fun j x h1 h2=>unhide HAl j x h1 (by have:=(List.getElem?_eq_some_iff.1 h2).1;have:=unhide HLl;omega) h2) this
    obtain⟨WN,hWN⟩: ∃WN,WN=wr.alloc (.cells #[.int .i64 7,.int .i64 0,.int .i64 0,.string ⟨#[]⟩,.string ⟨#[]⟩,.slice ka xs.length kc] 62):=⟨_,rfl⟩
    obtain⟨nN,nK,nC,nB,nW,nZ⟩:=lit_node0 (unhide HLr).ns (unhide HLr).sz ⟨7,0,0,⟨#[]⟩,⟨#[]⟩,xs⟩ ka kc (unhide HLr).ki WN hWN
    have HnN:=hide nN;have HnK:=hide nK;have HnC:=hide nC;have HnW:=hide nW
    have HWe:=hide hWN
    have hCe2:=unhide HCe
    rw[hCe2]at hnl
    rw[hCe2]
    have hn6:ns1.length<=1000000:=by omega
    have HXl:=hide hxl
    clear hWN nN nK nC nW nZ hCe2 hGc hxl
    go_wp2_with (at_builtin;rw[<-unhide HWe];refine wpList_pushN WN rfl (.tmp 82) (.tmp 85) 22 rfl tn _ Tryz.underlying22 htn hy0 hy1 hy2 rfl w0.heap.size lab1 na1 nc1 ns1 rfl (unhide HnN) ⟨7,0,0,⟨#[]⟩,⟨#[]⟩,xs⟩ ka kc (unhide HnK) wr.heap.size 1 rfl (unhide HnC) hn6 nB ?_;intro ra rc w6 hn7 hb7 hat7;have HN7:=hide hn7;have HB7:=hide hb7;have HA7:=hide hat7;clear hn7 hb7 hat7)
    go_wp2
    go_returns
    refine⟨ra,rc,labX lab1 ka ns1.length,ns1++[⟨7,0,0,⟨#[]⟩,⟨#[]⟩,xs⟩],?_,unhide HN7,((unhide HLr).fr.thenB (unhide HnW)).push (fun b hb=>Nat.le_trans (unhide HLr).xw ((unhide HLr).kx b hb)) (unhide HB7) (unhide HA7) _,by simp;omega,fun t ht=> ?_⟩
    ·rw[unhide HRs];simp
    ·rw[unhide HRs]at ht
     simp only[Option.some.injEq,List.cons.injEq,and_true]at ht
     rw[<-ht,lay_mk,unhide HNs,unhide HXs,List.append_assoc]
end Go.Proofs.YtmggnimiioepeaaGreatDoor.Pa
