import Derived.Test.YtmggnimiioepeaaGreatDoorQ0
import Derived.Test.YtmggnimiioepeaaGreatDoorQ15
namespace Go.Proofs.YtmggnimiioepeaaGreatDoor.Pa
open Go Go.RowKit
theorem aggS_small{sc ta:List Tok->Option (List Rt)}{xs:List Tok}(h:xs.length<6):aggS sc ta xs=none:=by
 unfold aggS
 split
 ·rfl
 ·rename_i i hi
  have hw:=congrArg List.length (wraps_app hi)
  simp at hw
  split
  ·rename_i w r
   split
   ·split
    ·rfl
    ·rename_i x y hf
     have:=congrArg List.length (fst1_app _ _ _ _ hf)
     simp at this hw
     omega
   ·rfl
  ·rfl
theorem scal_other{f:Nat}{xs:List Tok}(h1: ∀v,xs≠[.num v])(h2:xs≠[.sy 24])(h3: ∀s v,xs≠[.nam s,.sy 3,.num v]):sP (f+1) .scal xs=aggS (sP f .scal) (sP f .tail) xs:=by
 show(match xs with
  | [.num v]=>some [rInt v]
  | [.sy 24]=>some [rNull]
  | [.nam s,.sy 3,.num v]=>if 0<=v then some [rCol s v]else none
  | _=>aggS (sP f .scal) (sP f .tail) xs)=_
 split
 ·exact absurd rfl (h1 _)
 ·exact absurd rfl h2
 ·exact absurd rfl (h3 _ _)
 ·rfl
theorem tkS_num{t:Tok}{S:ByteArray}{bb:Bool}{V:Int}(h:tkS t S=[.string S,.bool bb,.int .i64 V]):(∃v,t= .num v/\bb=true/\V=v)\/((∀v,t≠ .num v)/\bb=false):=by
 cases t with
 | num v=>
  simp[tkS]at h
  exact Or.inl ⟨v,rfl,h.1,h.2.symm⟩
 | nam b=>simp[tkS]at h;exact Or.inr ⟨by simp,h.1⟩
 | sy k=>simp[tkS]at h;exact Or.inr ⟨by simp,h.1⟩
theorem sgm_one{ts:List Tok}{a:Nat}{t:Tok}(h:ts[a]?=some t):sgm ts a (a+1)=[t]:=by
 have hl:=(List.getElem?_eq_some_iff.1 h).1
 obtain⟨t',h',e⟩:=sgm_head ts a (a+1) (by omega) (by omega)
 rw[h]at h'
 cases h'
 rw[e]
 have:sgm ts (a+1) (a+1)=[]:=List.eq_nil_of_length_eq_zero (by rw[sgm_len ts _ _ (Nat.le_refl _) (by omega)];omega)
 rw[this]
theorem sgm_three{ts:List Tok}{a:Nat}{t u v:Tok}(h:ts[a]?=some t)(h1:ts[a+1]?=some u)(h2:ts[a+2]?=some v):sgm ts a (a+3)=[t,u,v]:=by
 have hl:=(List.getElem?_eq_some_iff.1 h2).1
 obtain⟨t',h',e⟩:=sgm_head ts a (a+3) (by omega) (by omega)
 rw[h]at h'
 cases h'
 obtain⟨u',h',e1⟩:=sgm_head ts (a+1) (a+3) (by omega) (by omega)
 rw[h1]at h'
 cases h'
 rw[e,e1]
 exact congrArg (fun l=>t::u::l) (sgm_one h2)
end Go.Proofs.YtmggnimiioepeaaGreatDoor.Pa
namespace Go.Proofs.YtmggnimiioepeaaGreatDoor.Pa
open Go Go.RowKit
set_option maxHeartbeats 8000000 in
set_option maxRecDepth 100000 in
theorem sscal_else(w0:World)(ad:Option Addr)(c:Nat)(L:List (Tok×ByteArray))(f:Nat)(_hL:L.length<=1000000)(hT:TksS w0 ad L)(W:World)(lab:Lbl)(na:Option Addr)(nc:Nat)(ns:List Nd)(a b:Nat)(hP:Pre w0 L W lab na nc ns .scal (f+1) a b)(hs:b-a<6)(h1:b≠a+1)(h3:b≠a+3):
  Calls Tryz.prog 55 #[.slice ad L.length c,.int .i64 (a:Int),.int .i64 (b:Int),.slice na ns.length nc] W (PE w0.heap.size W lab na ns (sP (f+1) .scal (sgm (tks L) a b)) (b-a)):=by
 obtain⟨tn,htn,hy⟩:=Option.map_eq_some_iff.1 (show(Tryz.prog.info? 62).map (fun i=>(i.zero,i.size,i.bytes))=some (some (.agg #[.int .i64 0,.int .i64 0,.int .i64 0,.string ⟨#[]⟩,.string ⟨#[]⟩,.slice none 0 0]),6,80)by kernel_rfl)
 simp only[Prod.mk.injEq]at hy
 obtain⟨hy0,hy1,hy2⟩:=hy
 have hab:=hP.ab
 have hbl:=hP.bl
 have hln:=hP.ln
 have hbt:b<=(tks L).length:=by simp;omega
 have hzz:w0.heap.size<=W.heap.size:=hP.be.size
 obtain⟨RR,hRR⟩: ∃RR,RR=sP (f+1) .scal (sgm (tks L) a b):=⟨_,rfl⟩
 rw[<-hRR]
 have hTW:TksS W ad L:=hT.of hP.be
 have HP:=hide hP;have HRR:=hide hRR;have HTW:=hide hTW
 clear hT hP hTW hRR
 have HR:Hid (RR=none):=by
  show RR=none
  have hl:=sgm_len (tks L) a b hab hbt
  rw[unhide HRR,scal_other (fun v e=>by rw[e]at hl;simp at hl;omega) (fun e=>by rw[e]at hl;simp at hl;omega) (fun s v e=>by rw[e]at hl;simp at hl;omega)]
  exact aggS_small (by rw[hl];omega)
 obtain⟨nn,hnn⟩: ∃nn,nn=b-a:=⟨_,rfl⟩
 have jn:IntKind.i64.wrap ((b:Int)-(a:Int))=(nn:Int):=by rw[IntKind.wrap_i64];omega
 have j1: ¬(nn:Int)=1:=by omega
 have j3: ¬(nn:Int)=3:=by omega
 have j1b:((nn:Int)==1)=false:=beq_eq_false_iff_ne.2 j1
 have j3b:((nn:Int)==3)=false:=beq_eq_false_iff_ne.2 j3
 have j6:(nn:Int)<6:=by omega
 clear hnn hs h1 h3
 go_enter Tryz.func55,Tryz.ntmps55
 go_wp2
 go_returns
 refine⟨na,nc,lab,ns,?_,(unhide HP).ns,Fr.refl _ _ _,by omega,fun t ht=> ?_⟩
 ·rw[unhide HR];rfl
 ·rw[unhide HR]at ht;cases ht
set_option maxHeartbeats 8000000 in
set_option maxRecDepth 100000 in
theorem scal_one(w0:World)(ad:Option Addr)(c:Nat)(L:List (Tok×ByteArray))(f:Nat)(_hL:L.length<=1000000)(hT:TksS w0 ad L)(W:World)(lab:Lbl)(na:Option Addr)(nc:Nat)(ns:List Nd)(a b:Nat)(hP:Pre w0 L W lab na nc ns .scal (f+1) a b)(h1:b=a+1):
  Calls Tryz.prog 55 #[.slice ad L.length c,.int .i64 (a:Int),.int .i64 (b:Int),.slice na ns.length nc] W (PE w0.heap.size W lab na ns (sP (f+1) .scal (sgm (tks L) a b)) (b-a)):=by
 obtain⟨tn,htn,hy⟩:=Option.map_eq_some_iff.1 (show(Tryz.prog.info? 62).map (fun i=>(i.zero,i.size,i.bytes))=some (some (.agg #[.int .i64 0,.int .i64 0,.int .i64 0,.string ⟨#[]⟩,.string ⟨#[]⟩,.slice none 0 0]),6,80)by kernel_rfl)
 simp only[Prod.mk.injEq]at hy
 obtain⟨hy0,hy1,hy2⟩:=hy
 have hab:=hP.ab
 have hbl:=hP.bl
 have hln:=hP.ln
 have hbt:b<=(tks L).length:=by simp;omega
 have hzz:w0.heap.size<=W.heap.size:=hP.be.size
 obtain⟨RR,hRR⟩: ∃RR,RR=sP (f+1) .scal (sgm (tks L) a b):=⟨_,rfl⟩
 rw[<-hRR]
 have hTW:TksS W ad L:=hT.of hP.be
 have HP:=hide hP;have HRR:=hide hRR;have HTW:=hide hTW
 clear hT hP hTW hRR
 obtain⟨t,ht⟩: ∃t,(tks L)[a]?=some t:=⟨_,List.getElem?_eq_getElem (by omega)⟩
 obtain⟨S,gT,bb,V,ok,had,hgT,hf,c0,c1,c2⟩:=(unhide HTW).cells ht
 subst had
 have jA:a<L.length:=by omega
 have jA2:(a:Int)<(L.length:Int):=by omega
 have jn:IntKind.i64.wrap ((b:Int)-(a:Int))=1:=by rw[IntKind.wrap_i64];omega
 have hsg:RR=sP (f+1) .scal [t]:=by rw[unhide HRR,h1,sgm_one ht]
 have t24:(S.toList==[78,85,76,76])=decide (t= .sy 24):=text_beq ok 24 (by omega)
 rcases tkS_num hf with⟨v,rfl,rfl,rfl⟩ | ⟨hnv,rfl⟩
 ·have HR:Hid (RR=some [rInt V]):=by
   show RR=_
   rw[hsg]
   rfl
  have H1:=hide h1
  clear hsg t24 hf ok ht HRR h1
  obtain⟨WN,hWN⟩: ∃WN,WN=W.alloc (.cells #[.int .i64 1,.int .i64 V,.int .i64 0,.string ⟨#[]⟩,.string ⟨#[]⟩,.slice none 0 0] 62):=⟨_,rfl⟩
  obtain⟨nN,nK,nC,nB,nW,nZ⟩:=lit_node0 (unhide HP).ns hzz ⟨1,V,0,⟨#[]⟩,⟨#[]⟩,[]⟩ none 0 (KO.nil _ _ _ _) WN hWN
  have HnN:=hide nN;have HnK:=hide nK;have HnC:=hide nC;have HnW:=hide nW
  have HWe:=hide hWN
  have hn6:ns.length<=1000000:=by omega
  clear hWN nN nK nC nW nZ
  go_enter Tryz.func55,Tryz.ntmps55
  go_wp2_with (at_builtin;rw[<-unhide HWe];refine wpList_pushN WN rfl (.tmp 26) (.tmp 33) 22 rfl tn _ Tryz.underlying22 htn hy0 hy1 hy2 rfl w0.heap.size lab na nc ns rfl (unhide HnN) ⟨1,V,0,⟨#[]⟩,⟨#[]⟩,[]⟩ none 0 (unhide HnK) W.heap.size 1 rfl (unhide HnC) hn6 nB ?_;intro ra rc w6 hn7 hb7 hat7;have HN7:=hide hn7;have HB7:=hide hb7;have HA7:=hide hat7;clear hn7 hb7 hat7)
  go_wp2
  go_returns
  refine⟨ra,rc,labX lab none ns.length,ns++[⟨1,V,0,⟨#[]⟩,⟨#[]⟩,[]⟩],?_,unhide HN7,(Fr.ofBelow (unhide HnW)).push (fun b hb=>by simp[blk]at hb) (unhide HB7) (unhide HA7) _,by have:=unhide H1;simp;omega,fun t ht=> ?_⟩
  ·rw[unhide HR];simp
  ·rw[unhide HR]at ht
   simp only[Option.some.injEq,List.cons.injEq,and_true]at ht
   rw[<-ht,lay_mk,lays_nil]
   rfl
 by_cases h24:t= .sy 24
 ·subst h24
  have HR:Hid (RR=some [rNull]):=by
   show RR=_
   rw[hsg]
   rfl
  have t24':(S.toList==[78,85,76,76])=true:=by rw[t24];simp
  have H1:=hide h1
  clear hsg t24 hf ok ht HRR h1 hnv
  obtain⟨WN,hWN⟩: ∃WN,WN=W.alloc (.cells #[.int .i64 2,.int .i64 0,.int .i64 0,.string ⟨#[]⟩,.string ⟨#[]⟩,.slice none 0 0] 62):=⟨_,rfl⟩
  obtain⟨nN,nK,nC,nB,nW,nZ⟩:=lit_node0 (unhide HP).ns hzz ⟨2,0,0,⟨#[]⟩,⟨#[]⟩,[]⟩ none 0 (KO.nil _ _ _ _) WN hWN
  have HnN:=hide nN;have HnK:=hide nK;have HnC:=hide nC;have HnW:=hide nW
  have HWe:=hide hWN
  have hn6:ns.length<=1000000:=by omega
  clear hWN nN nK nC nW nZ
  go_enter Tryz.func55,Tryz.ntmps55
  go_wp2_with (at_builtin;rw[<-unhide HWe];refine wpList_pushN WN rfl (.tmp 47) (.tmp 49) 22 rfl tn _ Tryz.underlying22 htn hy0 hy1 hy2 rfl w0.heap.size lab na nc ns rfl (unhide HnN) ⟨2,0,0,⟨#[]⟩,⟨#[]⟩,[]⟩ none 0 (unhide HnK) W.heap.size 1 rfl (unhide HnC) hn6 nB ?_;intro ra rc w6 hn7 hb7 hat7;have HN7:=hide hn7;have HB7:=hide hb7;have HA7:=hide hat7;clear hn7 hb7 hat7)
  go_wp2
  go_returns
  refine⟨ra,rc,labX lab none ns.length,ns++[⟨2,0,0,⟨#[]⟩,⟨#[]⟩,[]⟩],?_,unhide HN7,(Fr.ofBelow (unhide HnW)).push (fun b hb=>by simp[blk]at hb) (unhide HB7) (unhide HA7) _,by have:=unhide H1;simp;omega,fun t ht=> ?_⟩
  ·rw[unhide HR];simp
  ·rw[unhide HR]at ht
   simp only[Option.some.injEq,List.cons.injEq,and_true]at ht
   rw[<-ht,lay_mk,lays_nil]
   rfl
 have HR:Hid (RR=none):=by
  show RR=none
  rw[hsg,scal_other (fun v e=>hnv v (by simpa using e)) (fun e=>h24 (by simpa using e)) (fun s v e=>by simp at e)]
  exact aggS_small (by simp)
 have t24':(S.toList==[78,85,76,76])=false:=by rw[t24];simp[h24]
 clear hsg t24 hf ok ht HRR h1 hnv h24
 go_enter Tryz.func55,Tryz.ntmps55
 go_wp2
 go_returns
 refine⟨na,nc,lab,ns,?_,(unhide HP).ns,Fr.refl _ _ _,by omega,fun t ht=> ?_⟩
 ·rw[unhide HR];rfl
 ·rw[unhide HR]at ht;cases ht
end Go.Proofs.YtmggnimiioepeaaGreatDoor.Pa
namespace Go.Proofs.YtmggnimiioepeaaGreatDoor.Pa
open Go Go.RowKit
set_option maxHeartbeats 8000000 in
set_option maxRecDepth 100000 in
theorem scal_three(w0:World)(ad:Option Addr)(c:Nat)(L:List (Tok×ByteArray))(f:Nat)(hL:L.length<=1000000)(hT:TksS w0 ad L)(W:World)(lab:Lbl)(na:Option Addr)(nc:Nat)(ns:List Nd)(a b:Nat)(hP:Pre w0 L W lab na nc ns .scal (f+1) a b)(h3:b=a+3):
  Calls Tryz.prog 55 #[.slice ad L.length c,.int .i64 (a:Int),.int .i64 (b:Int),.slice na ns.length nc] W (PE w0.heap.size W lab na ns (sP (f+1) .scal (sgm (tks L) a b)) (b-a)):=by
 obtain⟨tn,htn,hy⟩:=Option.map_eq_some_iff.1 (show(Tryz.prog.info? 62).map (fun i=>(i.zero,i.size,i.bytes))=some (some (.agg #[.int .i64 0,.int .i64 0,.int .i64 0,.string ⟨#[]⟩,.string ⟨#[]⟩,.slice none 0 0]),6,80)by kernel_rfl)
 simp only[Prod.mk.injEq]at hy
 obtain⟨hy0,hy1,hy2⟩:=hy
 have hab:=hP.ab
 have hbl:=hP.bl
 have hln:=hP.ln
 have hbt:b<=(tks L).length:=by simp;omega
 have hzz:w0.heap.size<=W.heap.size:=hP.be.size
 obtain⟨RR,hRR⟩: ∃RR,RR=sP (f+1) .scal (sgm (tks L) a b):=⟨_,rfl⟩
 rw[<-hRR]
 have hTW:TksS W ad L:=hT.of hP.be
 have HP:=hide hP;have HRR:=hide hRR;have HTW:=hide hTW;have hT0:=hT
 clear hT hP hTW hRR
 obtain⟨t0,ht0⟩: ∃t,(tks L)[a]?=some t:=⟨_,List.getElem?_eq_getElem (by omega)⟩
 obtain⟨t1,ht1⟩: ∃t,(tks L)[a+1]?=some t:=⟨_,List.getElem?_eq_getElem (by omega)⟩
 obtain⟨t2,ht2⟩: ∃t,(tks L)[a+2]?=some t:=⟨_,List.getElem?_eq_getElem (by omega)⟩
 have hsg:RR=sP (f+1) .scal [t0,t1,t2]:=by rw[unhide HRR,h3,sgm_three ht0 ht1 ht2]
 obtain⟨A1,hA1⟩: ∃A1,A1=a+1:=⟨_,rfl⟩
 obtain⟨A2,hA2⟩: ∃A2,A2=a+2:=⟨_,rfl⟩
 rw[<-hA1]at ht1
 rw[<-hA2]at ht2
 obtain⟨S0,gT,_,_,ok0,had,hgT,_,c0,_,_⟩:=(unhide HTW).cells ht0
 obtain⟨S1,g1,_,_,ok1,had1,_,_,c1,_,_⟩:=(unhide HTW).cells ht1
 obtain⟨S2,g2,bb,V,ok2,had2,_,hf2,_,d1,d2⟩:=(unhide HTW).cells ht2
 obtain⟨_,gY,_,_,_,hadY,hgY,_,_,_,_⟩:=hT0.cells ht0
 subst had
 simp only[Option.some.injEq,Addr.mk.injEq,and_true]at had1 had2 hadY
 subst had1
 subst had2
 subst hadY
 have jA:a<L.length:=by omega
 have jA2:(a:Int)<(L.length:Int):=by omega
 have jB:A1<L.length:=by omega
 have jB2:(A1:Int)<(L.length:Int):=by omega
 have jC:A2<L.length:=by omega
 have jC2:(A2:Int)<(L.length:Int):=by omega
 have jw1:IntKind.i64.wrap ((a:Int)+1)=(A1:Int):=by rw[IntKind.wrap_i64];omega
 have jw2:IntKind.i64.wrap ((a:Int)+2)=(A2:Int):=by rw[IntKind.wrap_i64];omega
 have jn:IntKind.i64.wrap ((b:Int)-(a:Int))=3:=by rw[IntKind.wrap_i64];omega
 have t3:(S1.toList==[46])=decide (t1= .sy 3):=text_beq ok1 3 (by omega)
 have HNA:Hid (Calls Tryz.prog 59 #[.string S0] W fun e w'=>e= .returned (.bool (dB (NameB S0)))/\W=w'):=(sIsName_calls S0 W (tok_size ok0)).mono (fun e w' h=>⟨h.1,h.2.symm⟩)
 have H3:=hide h3;have Hok0:=hide ok0;have Hf2:=hide hf2
 have hn6:ns.length<=1000000:=by omega
 clear hA1 hA2 ht1 ht2 ht0 ok0 ok1 ok2 h3 hf2 HRR hT0
 by_cases hN:NameB S0
 rotate_left
 ·have HR:Hid (RR=none):=by
   show RR=none
   rw[hsg,scal_other (fun v e=>by simp at e) (fun e=>by simp at e) (fun s v e=>hN ((tok_name (unhide Hok0)).2 ⟨s,by simp at e;exact e.1⟩))]
   exact aggS_small (by simp)
  rw[dB_false hN]at HNA
  clear hsg t3 hN
  go_enter Tryz.func55,Tryz.ntmps55
  go_wp2_with fail
  refine(unhide HNA).mono ?_;rintro e _ ⟨rfl,rfl⟩
  go_wp2
  go_returns
  refine⟨na,nc,lab,ns,?_,(unhide HP).ns,Fr.refl _ _ _,by omega,fun t ht=> ?_⟩
  ·rw[unhide HR];rfl
  ·rw[unhide HR]at ht;cases ht
 rw[dB_true hN]at HNA
 obtain⟨s0,rfl⟩:=(tok_name (unhide Hok0)).1 hN
 by_cases h1:t1= .sy 3
 rotate_left
 ·have HR:Hid (RR=none):=by
   show RR=none
   rw[hsg,scal_other (fun v e=>by simp at e) (fun e=>by simp at e) (fun s v e=>h1 (by simp at e;exact e.2.1))]
   exact aggS_small (by simp)
  have t3':(S1.toList==[46])=false:=by rw[t3];simp[h1]
  clear hsg t3 hN h1
  go_enter Tryz.func55,Tryz.ntmps55
  go_wp2_with fail
  refine(unhide HNA).mono ?_;rintro e _ ⟨rfl,rfl⟩
  go_wp2
  go_returns
  refine⟨na,nc,lab,ns,?_,(unhide HP).ns,Fr.refl _ _ _,by omega,fun t ht=> ?_⟩
  ·rw[unhide HR];rfl
  ·rw[unhide HR]at ht;cases ht
 subst h1
 have t3':(S1.toList==[46])=true:=by rw[t3];simp
 have HSg:=hide hsg
 have Hs0:=hide (tok_list (unhide Hok0))
 clear t3 hN hsg
 go_enter Tryz.func55,Tryz.ntmps55
 go_wp2_with fail
 refine(unhide HNA).mono ?_;rintro e _ ⟨rfl,rfl⟩
 clear HNA
 go_upto_region 6 with fail
 clear jn t3' c1 jB jB2 jw1
 have hgN:blk na≠some gT:=fun e=>by have:=((unhide HP).ns.lt _ e).1;omega
 obtain⟨wd,hwd⟩: ∃wd,wd=W.drew:=⟨_,rfl⟩
 have hbd:Below W.heap.size W wd:=by rw[hwd];exact(Std.drew (Std.refl W)).2.2
 rcases tkS_num (unhide Hf2)with⟨v,rfl,rfl,rfl⟩ | ⟨hnv,rfl⟩
 ·by_cases hv:0<=V
  ·have HR:Hid (RR=some [rCol s0 V]):=by
    show RR=_
    rw[unhide HSg]
    show(if 0<=V then some [rCol s0 V]else none)=_
    rw[if_pos hv]
   have hSd:(wd.cell? ⟨gT,a*3,none⟩=some (.string S0)/\wd.cell? ⟨gT,A2*3+2,none⟩=some (.int .i64 V))/\wd.cell? ⟨gT,A2*3+1,none⟩=some (.bool true):=
    ⟨⟨(hbd.cell (p:=⟨gT,a*3,none⟩) hgT).trans c0,(hbd.cell (p:=⟨gT,A2*3+2,none⟩) hgT).trans d2⟩,(hbd.cell (p:=⟨gT,A2*3+1,none⟩) hgT).trans d1⟩
   refine wp_region_held_drew (S:=fun w=>(w.cell? ⟨gT,a*3,none⟩=some (.string S0)/\w.cell? ⟨gT,A2*3+2,none⟩=some (.int .i64 V))/\w.cell? ⟨gT,A2*3+1,none⟩=some (.bool true)) (by kernel_rfl) (by rw[<-hwd];exact hSd) (fun hHeld=> ?_)
   refine tW 0 72 (.slice na ns.length nc) ?_
   simp only[puts]
   refine tW 1 73 (.slice (some ⟨gT,0,none⟩) L.length c) ?_
   simp only[puts]
   refine tW 2 74 (.int .i64 (a:Int)) ?_
   simp only[puts]
   refine tW 3 75 (.pointer (some ⟨gT,a*3,none⟩)) ?_
   simp only[puts]
   refine tW 4 76 (.pointer (some ⟨gT,a*3,none⟩)) ?_
   simp only[puts]
   refine tW 5 77 (.string S0) ?_
   simp only[puts]
   refine tW 6 78 (.slice (some ⟨gT,0,none⟩) L.length c) ?_
   simp only[puts]
   refine tW 7 79 (.int .i64 (a:Int)) ?_
   simp only[puts]
   refine tW 8 80 (.int .i64 (A2:Int)) ?_
   simp only[puts]
   refine tW 9 81 (.pointer (some ⟨gT,A2*3,none⟩)) ?_
   simp only[puts]
   refine tW 10 82 (.pointer (some ⟨gT,A2*3+2,none⟩)) ?_
   simp only[puts]
   refine tW 11 83 (.int .i64 V) ?_
   simp only[puts]
   refine tW 12 84 (.agg #[.int .i64 3,.int .i64 V,.int .i64 0,.string S0,.string ⟨#[]⟩,.slice none 0 0]) ?_
   simp only[puts]
   refine tW 15 87 (.slice (some ⟨gT,0,none⟩) L.length c) ?_
   simp only[puts]
   refine tW 16 88 (.int .i64 (a:Int)) ?_
   simp only[puts]
   refine tW 17 89 (.int .i64 (A2:Int)) ?_
   simp only[puts]
   refine tW 18 90 (.pointer (some ⟨gT,A2*3,none⟩)) ?_
   simp only[puts]
   refine tW 19 91 (.pointer (some ⟨gT,A2*3+1,none⟩)) ?_
   simp only[puts]
   refine tW 20 92 (.bool true) ?_
   simp only[puts]
   rw[<-hwd]
   clear hHeld hwd
   refine wpAnyH_ready (rs:=[13]) (by kernel_rfl) (by simp) ?_
   refine AllReadyH.cons rfl (fun Kx hKx=> ?_) AllReadyH.nil
   go_simp
   obtain⟨WN,hWN⟩: ∃WN,WN=wd.alloc (.cells #[.int .i64 3,.int .i64 V,.int .i64 0,.string S0,.string ⟨#[]⟩,.slice none 0 0] 62):=⟨_,rfl⟩
   have hzd:w0.heap.size<=wd.heap.size:=Nat.le_trans hzz hbd.size
   obtain⟨nN,nK,nC,nB,nW,nZ⟩:=lit_node0 ((unhide HP).ns.of hbd) hzd ⟨3,V,0,S0,⟨#[]⟩,[]⟩ none 0 (KO.nil _ _ _ _) WN hWN
   rw[<-hWN]
   have hSn:(WN.cell? ⟨gT,a*3,none⟩=some (.string S0)/\WN.cell? ⟨gT,A2*3+2,none⟩=some (.int .i64 V))/\WN.cell? ⟨gT,A2*3+1,none⟩=some (.bool true):=
    ⟨⟨(nW.cell (p:=⟨gT,a*3,none⟩) (Nat.lt_of_lt_of_le hgT hbd.size)).trans hSd.1.1,(nW.cell (p:=⟨gT,A2*3+2,none⟩) (Nat.lt_of_lt_of_le hgT hbd.size)).trans hSd.1.2⟩,(nW.cell (p:=⟨gT,A2*3+1,none⟩) (Nat.lt_of_lt_of_le hgT hbd.size)).trans hSd.2⟩
   refine hKx.out _ _ hSn (fun hHeld2=> ?_)
   clear hKx Kx hWN
   refine wpAnyH_ready (rs:=[14]) (by kernel_rfl) (by simp) ?_
   refine AllReadyH.cons rfl (fun Kx hKx=> ?_) AllReadyH.nil
   refine Eq.mpr (if_pos (by rfl)) ?_
   refine wp_pushN WN (.tmp 72) (.tmp 85) 22 rfl tn _ Tryz.underlying22 htn hy0 hy1 hy2 rfl w0.heap.size lab na nc ns rfl nN ⟨3,V,0,S0,⟨#[]⟩,[]⟩ none 0 nK wd.heap.size 1 rfl nC hn6 nB ?_
   intro ra rc w6 hn7 hb7 hat7
   have hgW:gT<WN.heap.size:=Nat.lt_of_lt_of_le hgT (Nat.le_trans hbd.size nW.size)
   refine hKx.out _ _ ⟨⟨(hb7.cell gT _ hgW hgN).trans hSn.1.1,(hb7.cell gT _ hgW hgN).trans hSn.1.2⟩,(hb7.cell gT _ hgW hgN).trans hSn.2⟩ (fun hHeld3=> ?_)
   have HF7:=hide (((Fr.ofBelow hbd).thenB nW).push (lab:=lab) (na:=na) (ka:=none) (fun b hb=>by simp[blk]at hb) hb7 hat7 ns.length)
   have HN7:=hide hn7
   clear hKx Kx hHeld2 hSn hSd hn7 hb7 hat7 nN nK nC nB nW nZ hbd hgW hgN hzd
   change wpAnyH _ _ _ _ _ _ _ (Act.put _ (some 86) _) _
   simp only[puts]
   refine tW 21 93 (.bool true) ?_
   simp only[puts]
   refine tW 22 94 (.slice (some ⟨gT,0,none⟩) L.length c) ?_
   simp only[puts]
   refine tW 23 95 (.int .i64 (a:Int)) ?_
   simp only[puts]
   refine tW 24 96 (.int .i64 (A2:Int)) ?_
   simp only[puts]
   refine tW 25 97 (.pointer (some ⟨gT,A2*3,none⟩)) ?_
   simp only[puts]
   refine tW 26 98 (.pointer (some ⟨gT,A2*3+2,none⟩)) ?_
   simp only[puts]
   refine tW 27 99 (.int .i64 V) ?_
   simp only[puts]
   refine tW 28 100 (.bool true) ?_
   simp only[puts]
   refine tW 29 101 (.bool true) ?_
   simp only[puts]
   refine tW 30 8 (.slice ra (ns.length+1) rc) ?_
   simp only[puts]
   refine tW 31 9 (.bool true) ?_
   simp only[puts]
   refine wpAnyH_done (by kernel_rfl) ?_ _
   go_wp2
   go_returns
   refine⟨ra,rc,labX lab none ns.length,ns++[⟨3,V,0,S0,⟨#[]⟩,[]⟩],?_,unhide HN7,unhide HF7,by have:=unhide H3;simp;omega,fun t ht=> ?_⟩
   ·rw[unhide HR,List.length_append]
    rfl
   ·rw[unhide HR]at ht
    simp only[Option.some.injEq,List.cons.injEq,and_true]at ht
    rw[<-ht,lay_mk,lays_nil,unhide Hs0]
    rfl
  ·have HR:Hid (RR=none):=by
    show RR=_
    rw[unhide HSg]
    show(if 0<=V then some [rCol s0 V]else none)=_
    rw[if_neg hv]
   have hSd:(wd.cell? ⟨gT,a*3,none⟩=some (.string S0)/\wd.cell? ⟨gT,A2*3+2,none⟩=some (.int .i64 V))/\wd.cell? ⟨gT,A2*3+1,none⟩=some (.bool true):=
    ⟨⟨(hbd.cell (p:=⟨gT,a*3,none⟩) hgT).trans c0,(hbd.cell (p:=⟨gT,A2*3+2,none⟩) hgT).trans d2⟩,(hbd.cell (p:=⟨gT,A2*3+1,none⟩) hgT).trans d1⟩
   refine wp_region_held_drew (S:=fun w=>(w.cell? ⟨gT,a*3,none⟩=some (.string S0)/\w.cell? ⟨gT,A2*3+2,none⟩=some (.int .i64 V))/\w.cell? ⟨gT,A2*3+1,none⟩=some (.bool true)) (by kernel_rfl) (by rw[<-hwd];exact hSd) (fun hHeld=> ?_)
   refine tW 0 72 (.slice na ns.length nc) ?_
   simp only[puts]
   refine tW 1 73 (.slice (some ⟨gT,0,none⟩) L.length c) ?_
   simp only[puts]
   refine tW 2 74 (.int .i64 (a:Int)) ?_
   simp only[puts]
   refine tW 3 75 (.pointer (some ⟨gT,a*3,none⟩)) ?_
   simp only[puts]
   refine tW 4 76 (.pointer (some ⟨gT,a*3,none⟩)) ?_
   simp only[puts]
   refine tW 5 77 (.string S0) ?_
   simp only[puts]
   refine tW 6 78 (.slice (some ⟨gT,0,none⟩) L.length c) ?_
   simp only[puts]
   refine tW 7 79 (.int .i64 (a:Int)) ?_
   simp only[puts]
   refine tW 8 80 (.int .i64 (A2:Int)) ?_
   simp only[puts]
   refine tW 9 81 (.pointer (some ⟨gT,A2*3,none⟩)) ?_
   simp only[puts]
   refine tW 10 82 (.pointer (some ⟨gT,A2*3+2,none⟩)) ?_
   simp only[puts]
   refine tW 11 83 (.int .i64 V) ?_
   simp only[puts]
   refine tW 12 84 (.agg #[.int .i64 3,.int .i64 V,.int .i64 0,.string S0,.string ⟨#[]⟩,.slice none 0 0]) ?_
   simp only[puts]
   refine tW 15 87 (.slice (some ⟨gT,0,none⟩) L.length c) ?_
   simp only[puts]
   refine tW 16 88 (.int .i64 (a:Int)) ?_
   simp only[puts]
   refine tW 17 89 (.int .i64 (A2:Int)) ?_
   simp only[puts]
   refine tW 18 90 (.pointer (some ⟨gT,A2*3,none⟩)) ?_
   simp only[puts]
   refine tW 19 91 (.pointer (some ⟨gT,A2*3+1,none⟩)) ?_
   simp only[puts]
   refine tW 20 92 (.bool true) ?_
   simp only[puts]
   rw[<-hwd]
   clear hHeld hwd
   refine wpAnyH_ready (rs:=[13]) (by kernel_rfl) (by simp) ?_
   refine AllReadyH.cons rfl (fun Kx hKx=> ?_) AllReadyH.nil
   go_simp
   obtain⟨WN,hWN⟩: ∃WN,WN=wd.alloc (.cells #[.int .i64 3,.int .i64 V,.int .i64 0,.string S0,.string ⟨#[]⟩,.slice none 0 0] 62):=⟨_,rfl⟩
   have hzd:w0.heap.size<=wd.heap.size:=Nat.le_trans hzz hbd.size
   obtain⟨nN,nK,nC,nB,nW,nZ⟩:=lit_node0 ((unhide HP).ns.of hbd) hzd ⟨3,V,0,S0,⟨#[]⟩,[]⟩ none 0 (KO.nil _ _ _ _) WN hWN
   rw[<-hWN]
   have hSn:(WN.cell? ⟨gT,a*3,none⟩=some (.string S0)/\WN.cell? ⟨gT,A2*3+2,none⟩=some (.int .i64 V))/\WN.cell? ⟨gT,A2*3+1,none⟩=some (.bool true):=
    ⟨⟨(nW.cell (p:=⟨gT,a*3,none⟩) (Nat.lt_of_lt_of_le hgT hbd.size)).trans hSd.1.1,(nW.cell (p:=⟨gT,A2*3+2,none⟩) (Nat.lt_of_lt_of_le hgT hbd.size)).trans hSd.1.2⟩,(nW.cell (p:=⟨gT,A2*3+1,none⟩) (Nat.lt_of_lt_of_le hgT hbd.size)).trans hSd.2⟩
   refine hKx.out _ _ hSn (fun hHeld2=> ?_)
   clear hKx Kx hWN
   refine wpAnyH_ready (rs:=[14]) (by kernel_rfl) (by simp) ?_
   refine AllReadyH.cons rfl (fun Kx hKx=> ?_) AllReadyH.nil
   refine Eq.mpr (if_pos (by rfl)) ?_
   refine wp_pushN WN (.tmp 72) (.tmp 85) 22 rfl tn _ Tryz.underlying22 htn hy0 hy1 hy2 rfl w0.heap.size lab na nc ns rfl nN ⟨3,V,0,S0,⟨#[]⟩,[]⟩ none 0 nK wd.heap.size 1 rfl nC hn6 nB ?_
   intro ra rc w6 hn7 hb7 hat7
   have hgW:gT<WN.heap.size:=Nat.lt_of_lt_of_le hgT (Nat.le_trans hbd.size nW.size)
   refine hKx.out _ _ ⟨⟨(hb7.cell gT _ hgW hgN).trans hSn.1.1,(hb7.cell gT _ hgW hgN).trans hSn.1.2⟩,(hb7.cell gT _ hgW hgN).trans hSn.2⟩ (fun hHeld3=> ?_)
   have HF7:=hide (((Fr.ofBelow hbd).thenB nW).push (lab:=lab) (na:=na) (ka:=none) (fun b hb=>by simp[blk]at hb) hb7 hat7 ns.length)
   have HN7:=hide hn7
   clear hKx Kx hHeld2 hSn hSd hn7 hb7 hat7 nN nK nC nB nW nZ hbd hgW hgN hzd
   change wpAnyH _ _ _ _ _ _ _ (Act.put _ (some 86) _) _
   simp only[puts]
   refine tW 21 93 (.bool true) ?_
   simp only[puts]
   refine tW 22 94 (.slice (some ⟨gT,0,none⟩) L.length c) ?_
   simp only[puts]
   refine tW 23 95 (.int .i64 (a:Int)) ?_
   simp only[puts]
   refine tW 24 96 (.int .i64 (A2:Int)) ?_
   simp only[puts]
   refine tW 25 97 (.pointer (some ⟨gT,A2*3,none⟩)) ?_
   simp only[puts]
   refine tW 26 98 (.pointer (some ⟨gT,A2*3+2,none⟩)) ?_
   simp only[puts]
   refine tW 27 99 (.int .i64 V) ?_
   simp only[puts]
   refine tW 28 100 (.bool false) ?_
   simp only[puts]
   refine tW 29 101 (.bool false) ?_
   simp only[puts]
   refine tW 30 8 (.slice ra (ns.length+1) rc) ?_
   simp only[puts]
   refine tW 31 9 (.bool false) ?_
   simp only[puts]
   refine wpAnyH_done (by kernel_rfl) ?_ _
   go_wp2
   go_returns
   refine⟨ra,rc,labX lab none ns.length,ns++[⟨3,V,0,S0,⟨#[]⟩,[]⟩],?_,unhide HN7,unhide HF7,by have:=unhide H3;simp;omega,fun t ht=> ?_⟩
   ·rw[unhide HR,List.length_append]
    rfl
   ·rw[unhide HR]at ht;cases ht
 ·have HR:Hid (RR=none):=by
   show RR=none
   rw[unhide HSg,scal_other (fun v e=>by simp at e) (fun e=>by simp at e) (fun s v e=>hnv v (by simp at e;exact e.2))]
   exact aggS_small (by simp)
  have hSd:(wd.cell? ⟨gT,a*3,none⟩=some (.string S0)/\wd.cell? ⟨gT,A2*3+2,none⟩=some (.int .i64 V))/\wd.cell? ⟨gT,A2*3+1,none⟩=some (.bool false):=
   ⟨⟨(hbd.cell (p:=⟨gT,a*3,none⟩) hgT).trans c0,(hbd.cell (p:=⟨gT,A2*3+2,none⟩) hgT).trans d2⟩,(hbd.cell (p:=⟨gT,A2*3+1,none⟩) hgT).trans d1⟩
  refine wp_region_held_drew (S:=fun w=>(w.cell? ⟨gT,a*3,none⟩=some (.string S0)/\w.cell? ⟨gT,A2*3+2,none⟩=some (.int .i64 V))/\w.cell? ⟨gT,A2*3+1,none⟩=some (.bool false)) (by kernel_rfl) (by rw[<-hwd];exact hSd) (fun hHeld=> ?_)
  refine tW 0 72 (.slice na ns.length nc) ?_
  simp only[puts]
  refine tW 1 73 (.slice (some ⟨gT,0,none⟩) L.length c) ?_
  simp only[puts]
  refine tW 2 74 (.int .i64 (a:Int)) ?_
  simp only[puts]
  refine tW 3 75 (.pointer (some ⟨gT,a*3,none⟩)) ?_
  simp only[puts]
  refine tW 4 76 (.pointer (some ⟨gT,a*3,none⟩)) ?_
  simp only[puts]
  refine tW 5 77 (.string S0) ?_
  simp only[puts]
  refine tW 6 78 (.slice (some ⟨gT,0,none⟩) L.length c) ?_
  simp only[puts]
  refine tW 7 79 (.int .i64 (a:Int)) ?_
  simp only[puts]
  refine tW 8 80 (.int .i64 (A2:Int)) ?_
  simp only[puts]
  refine tW 9 81 (.pointer (some ⟨gT,A2*3,none⟩)) ?_
  simp only[puts]
  refine tW 10 82 (.pointer (some ⟨gT,A2*3+2,none⟩)) ?_
  simp only[puts]
  refine tW 11 83 (.int .i64 V) ?_
  simp only[puts]
  refine tW 12 84 (.agg #[.int .i64 3,.int .i64 V,.int .i64 0,.string S0,.string ⟨#[]⟩,.slice none 0 0]) ?_
  simp only[puts]
  refine tW 15 87 (.slice (some ⟨gT,0,none⟩) L.length c) ?_
  simp only[puts]
  refine tW 16 88 (.int .i64 (a:Int)) ?_
  simp only[puts]
  refine tW 17 89 (.int .i64 (A2:Int)) ?_
  simp only[puts]
  refine tW 18 90 (.pointer (some ⟨gT,A2*3,none⟩)) ?_
  simp only[puts]
  refine tW 19 91 (.pointer (some ⟨gT,A2*3+1,none⟩)) ?_
  simp only[puts]
  refine tW 20 92 (.bool false) ?_
  simp only[puts]
  rw[<-hwd]
  clear hHeld hwd
  refine wpAnyH_ready (rs:=[13]) (by kernel_rfl) (by simp) ?_
  refine AllReadyH.cons rfl (fun Kx hKx=> ?_) AllReadyH.nil
  go_simp
  obtain⟨WN,hWN⟩: ∃WN,WN=wd.alloc (.cells #[.int .i64 3,.int .i64 V,.int .i64 0,.string S0,.string ⟨#[]⟩,.slice none 0 0] 62):=⟨_,rfl⟩
  have hzd:w0.heap.size<=wd.heap.size:=Nat.le_trans hzz hbd.size
  obtain⟨nN,nK,nC,nB,nW,nZ⟩:=lit_node0 ((unhide HP).ns.of hbd) hzd ⟨3,V,0,S0,⟨#[]⟩,[]⟩ none 0 (KO.nil _ _ _ _) WN hWN
  rw[<-hWN]
  have hSn:(WN.cell? ⟨gT,a*3,none⟩=some (.string S0)/\WN.cell? ⟨gT,A2*3+2,none⟩=some (.int .i64 V))/\WN.cell? ⟨gT,A2*3+1,none⟩=some (.bool false):=
   ⟨⟨(nW.cell (p:=⟨gT,a*3,none⟩) (Nat.lt_of_lt_of_le hgT hbd.size)).trans hSd.1.1,(nW.cell (p:=⟨gT,A2*3+2,none⟩) (Nat.lt_of_lt_of_le hgT hbd.size)).trans hSd.1.2⟩,(nW.cell (p:=⟨gT,A2*3+1,none⟩) (Nat.lt_of_lt_of_le hgT hbd.size)).trans hSd.2⟩
  refine hKx.out _ _ hSn (fun hHeld2=> ?_)
  clear hKx Kx hWN
  refine wpAnyH_ready (rs:=[14]) (by kernel_rfl) (by simp) ?_
  refine AllReadyH.cons rfl (fun Kx hKx=> ?_) AllReadyH.nil
  refine Eq.mpr (if_pos (by rfl)) ?_
  refine wp_pushN WN (.tmp 72) (.tmp 85) 22 rfl tn _ Tryz.underlying22 htn hy0 hy1 hy2 rfl w0.heap.size lab na nc ns rfl nN ⟨3,V,0,S0,⟨#[]⟩,[]⟩ none 0 nK wd.heap.size 1 rfl nC hn6 nB ?_
  intro ra rc w6 hn7 hb7 hat7
  have hgW:gT<WN.heap.size:=Nat.lt_of_lt_of_le hgT (Nat.le_trans hbd.size nW.size)
  refine hKx.out _ _ ⟨⟨(hb7.cell gT _ hgW hgN).trans hSn.1.1,(hb7.cell gT _ hgW hgN).trans hSn.1.2⟩,(hb7.cell gT _ hgW hgN).trans hSn.2⟩ (fun hHeld3=> ?_)
  have HF7:=hide (((Fr.ofBelow hbd).thenB nW).push (lab:=lab) (na:=na) (ka:=none) (fun b hb=>by simp[blk]at hb) hb7 hat7 ns.length)
  have HN7:=hide hn7
  clear hKx Kx hHeld2 hSn hSd hn7 hb7 hat7 nN nK nC nB nW nZ hbd hgW hgN hzd
  change wpAnyH _ _ _ _ _ _ _ (Act.put _ (some 86) _) _
  simp only[puts]
  refine tW 21 93 (.bool false) ?_
  simp only[puts]
  refine tU 22 94 ?_
  simp only[puts]
  refine tU 23 95 ?_
  simp only[puts]
  refine tU 24 96 ?_
  simp only[puts]
  refine tU 25 97 ?_
  simp only[puts]
  refine tU 26 98 ?_
  simp only[puts]
  refine tU 27 99 ?_
  simp only[puts]
  refine tU 28 100 ?_
  simp only[puts]
  refine tW 29 101 (.bool false) ?_
  simp only[puts]
  refine tW 30 8 (.slice ra (ns.length+1) rc) ?_
  simp only[puts]
  refine tW 31 9 (.bool false) ?_
  simp only[puts]
  refine wpAnyH_done (by kernel_rfl) ?_ _
  go_wp2
  go_returns
  refine⟨ra,rc,labX lab none ns.length,ns++[⟨3,V,0,S0,⟨#[]⟩,[]⟩],?_,unhide HN7,unhide HF7,by have:=unhide H3;simp;omega,fun t ht=> ?_⟩
  ·rw[unhide HR,List.length_append]
   rfl
  ·rw[unhide HR]at ht;cases ht
end Go.Proofs.YtmggnimiioepeaaGreatDoor.Pa
namespace Go.Proofs.YtmggnimiioepeaaGreatDoor.Pa
open Go Go.RowKit
set_option maxHeartbeats 8000000 in
set_option maxRecDepth 100000 in
theorem scal_nowrap(w0:World)(ad:Option Addr)(c:Nat)(L:List (Tok×ByteArray))(f:Nat)(hL:L.length<=1000000)(hT:TksS w0 ad L)(W:World)(lab:Lbl)(na:Option Addr)(nc:Nat)(ns:List Nd)(a b:Nat)(hP:Pre w0 L W lab na nc ns .scal (f+1) a b)(hs:6<=b-a)(hnw: ¬ ∃x,wraps (sgm (tks L) a b)=some x):
  Calls Tryz.prog 55 #[.slice ad L.length c,.int .i64 (a:Int),.int .i64 (b:Int),.slice na ns.length nc] W (PE w0.heap.size W lab na ns (sP (f+1) .scal (sgm (tks L) a b)) (b-a)):=by
 obtain⟨tn,htn,hy⟩:=Option.map_eq_some_iff.1 (show(Tryz.prog.info? 62).map (fun i=>(i.zero,i.size,i.bytes))=some (some (.agg #[.int .i64 0,.int .i64 0,.int .i64 0,.string ⟨#[]⟩,.string ⟨#[]⟩,.slice none 0 0]),6,80)by kernel_rfl)
 simp only[Prod.mk.injEq]at hy
 obtain⟨hy0,hy1,hy2⟩:=hy
 have hab:=hP.ab
 have hbl:=hP.bl
 have hln:=hP.ln
 have hbt:b<=(tks L).length:=by simp;omega
 have hzz:w0.heap.size<=W.heap.size:=hP.be.size
 obtain⟨RR,hRR⟩: ∃RR,RR=sP (f+1) .scal (sgm (tks L) a b):=⟨_,rfl⟩
 rw[<-hRR]
 have hTW:TksS W ad L:=hT.of hP.be
 have HP:=hide hP;have HRR:=hide hRR;have HTW:=hide hTW
 clear hT hP hTW hRR
 have HR:Hid (RR=none):=by
  show RR=none
  have hl:=sgm_len (tks L) a b hab hbt
  rw[unhide HRR,scal_other (fun v e=>by rw[e]at hl;simp at hl;omega) (fun e=>by rw[e]at hl;simp at hl;omega) (fun s v e=>by rw[e]at hl;simp at hl;omega)]
  unfold aggS
  cases hw:wraps (sgm (tks L) a b)with
  | none=>rfl
  | some x=>exact absurd ⟨x,hw⟩ hnw
 have HWr:=hide (l2Wraps_calls L ad c W hL (unhide HTW) a b (by omega) hbl)
 rw[dB_false hnw]at HWr
 obtain⟨nn,hnn⟩: ∃nn,nn=b-a:=⟨_,rfl⟩
 have jn:IntKind.i64.wrap ((b:Int)-(a:Int))=(nn:Int):=by rw[IntKind.wrap_i64];omega
 have j1: ¬(nn:Int)=1:=by omega
 have j3: ¬(nn:Int)=3:=by omega
 have j6: ¬(nn:Int)<6:=by omega
 clear hnn hs hnw
 go_enter Tryz.func55,Tryz.ntmps55
 go_wp2_with fail
 refine(unhide HWr).mono ?_
 rintro e w1 ⟨rfl,hb1⟩
 have HB1:=hide hb1
 clear hb1 HWr
 go_wp2
 go_returns
 refine⟨na,nc,lab,ns,?_,(unhide HP).ns.of (unhide HB1),Fr.ofBelow (unhide HB1),by omega,fun t ht=> ?_⟩
 ·rw[unhide HR];rfl
 ·rw[unhide HR]at ht;cases ht
end Go.Proofs.YtmggnimiioepeaaGreatDoor.Pa
