import Derived.Test.YtmggnimiioepeaaGreatDoorQ0
import Derived.Test.YtmggnimiioepeaaGreatDoorQ19
namespace Go.Proofs.YtmggnimiioepeaaGreatDoor.Pa
open Go Go.RowKit
theorem bytes_mk(s:ByteArray)(b:List UInt8)(h:s.toList=b):s=⟨b.toArray⟩:=by
 obtain⟨⟨l⟩⟩:=s
 have:=Go.ByteArray.toList_mk l
 rw[<-h,this]
theorem hd_nil{L:List (Tok×ByteArray)}{k:Nat}(h:(tks L).drop k=[]):HdV L k 0 ⟨#[]⟩ 0:=by
 refine Or.inl ⟨?_,rfl,rfl,rfl⟩
 have:=List.drop_eq_nil_iff.1 h
 exact List.getElem?_eq_none_iff.2 (by simpa using this)
theorem hd_nam{w:World}{a:Option Addr}{L:List (Tok×ByteArray)}{k:Nat}{s:List UInt8}{r:List Tok}(hT:TksI w a L)(h:(tks L).drop k= .nam s::r):HdV L k 2 ⟨s.toArray⟩ 0:=by
 obtain⟨_,_,_,S,hs⟩:=drop_cons h
 have e:=bytes_mk S s (hT k _ hs).1.1
 subst e
 exact Or.inr ⟨_,hs,rfl⟩
theorem hd_num{L:List (Tok×ByteArray)}{k:Nat}{v:Int}{r:List Tok}(h:(tks L).drop k= .num v::r): ∃T,HdV L k 3 T v:=by
 obtain⟨_,_,_,S,hs⟩:=drop_cons h
 exact⟨S,Or.inr ⟨_,hs,rfl⟩⟩
theorem hd_sy{w:World}{a:Option Addr}{L:List (Tok×ByteArray)}{k q:Nat}{r:List Tok}(hT:TksI w a L)(h:(tks L).drop k= .sy q::r):q<28/\ ∃K T,HdV L k K T 0/\(K=4\/K=1)/\T.toList=syT q:=by
 obtain⟨_,_,_,S,hs⟩:=drop_cons h
 have hok:=(hT k _ hs).1
 refine⟨hok.1,?_⟩
 by_cases hq:q<11
 ·exact⟨4,S,Or.inr ⟨_,hs,if_pos hq⟩,Or.inl rfl,hok.2⟩
 ·exact⟨1,S,Or.inr ⟨_,hs,if_neg hq⟩,Or.inr rfl,hok.2⟩
theorem hd_not{w:World}{a:Option Addr}{L:List (Tok×ByteArray)}{k:Nat}(hT:TksI w a L)(h: ∀s r,(tks L).drop k≠ .nam s::r): ∃K T V,HdV L k K T V/\K≠2:=by
 cases hd:(tks L).drop k with
 | nil=>exact⟨0,_,_,hd_nil hd,by omega⟩
 | cons t r=>
  cases t with
  | nam s=>exact absurd hd (h s r)
  | num v=>obtain⟨T,hT⟩:=hd_num hd;exact⟨3,T,v,hT,by omega⟩
  | sy q=>obtain⟨_,K,T,h1,h2,_⟩:=hd_sy hT hd;exact⟨K,T,0,h1,by omega⟩
theorem hd_not3{w:World}{a:Option Addr}{L:List (Tok×ByteArray)}{k:Nat}(hT:TksI w a L)(h: ∀v r,(tks L).drop k≠ .num v::r): ∃K T V,HdV L k K T V/\K≠3:=by
 cases hd:(tks L).drop k with
 | nil=>exact⟨0,_,_,hd_nil hd,by omega⟩
 | cons t r=>
  cases t with
  | nam s=>exact⟨2,_,0,hd_nam hT hd,by omega⟩
  | num v=>exact absurd hd (h v r)
  | sy q=>obtain⟨_,K,T,h1,h2,_⟩:=hd_sy hT hd;exact⟨K,T,0,h1,by omega⟩
theorem src_none{f:Nat}{ts:List Tok}(h: ∀s r,ts≠ .nam s::r):iP (f+1) .src ts=none:=by
 show(match ts with | .nam a:: .nam b::r=>some ([rSrc a b],r) | .nam a::r=>some ([rSrc a a],r) | _=>none)=none
 split
 ·exact absurd rfl (h _ _)
 ·exact absurd rfl (h _ _)
 ·rfl
theorem src_one{f:Nat}{s:List UInt8}{r:List Tok}(h: ∀b r',r≠ .nam b::r'):iP (f+1) .src (.nam s::r)=some ([rSrc s s],r):=by
 show(match Tok.nam s::r with | .nam a:: .nam b::r=>some ([rSrc a b],r) | .nam a::r=>some ([rSrc a a],r) | _=>none)=_
 split
 ·rename_i a b r' e
  simp only[List.cons.injEq]at e
  exact absurd e.2 (h _ _)
 ·rename_i a r' _ e
  simp only[List.cons.injEq,Tok.nam.injEq]at e
  rw[e.1,e.2]
 ·rename_i h2
  exact absurd rfl (h2 s r)
set_option maxHeartbeats 4000000 in
set_option maxRecDepth 100000 in
theorem source_calls{w:World}{pb:Nat}{a:Option Addr}{c:Nat}{L:List (Tok×ByteArray)}{k:Nat}(h:PO w pb a c L k)(f:Nat):Calls Tryz.prog 103 #[.pointer (some ⟨pb,0,none⟩)] w (IE w pb a c L k (iP (f+1) .src ((tks L).drop k))):=by
 obtain⟨RR,hRR⟩: ∃RR,RR=iP (f+1) .src ((tks L).drop k):=⟨_,rfl⟩
 rw[<-hRR]
 by_cases hd: ∃s r,(tks L).drop k= .nam s::r
 ·obtain⟨s,r,hd⟩:=hd
  rw[hd]at hRR
  obtain⟨_,hr,hkl,_⟩:=drop_cons hd
  have HC:=hide (nk_yes h hkl 2 0 ⟨s.toArray⟩ (hd_nam h.p.toks hd))
  have HTk:=hide (fun(w1:World) (h1:PO w1 pb a c L (k+1))=>h1.p.toks)
  rw[hr]at hRR
  have HRR:=hide hRR
  clear h hd hr hRR
  by_cases hd2: ∃b r2,(tks L).drop (k+1)= .nam b::r2
  ·obtain⟨b,r2,hd2⟩:=hd2
   obtain⟨_,hr2,hkl2,_⟩:=drop_cons hd2
   have HR:Hid (RR=some ([rSrc s b],(tks L).drop (k+1+1))):=by
    show RR=_
    rw[unhide HRR,hd2,<-hr2]
    rfl
   have HD2:=hide hd2
   clear hd2 hr2 HRR
   go_enter Tryz.func103,Tryz.ntmps103
   go_wp2_with fail
   refine(unhide HC).mono ?_;rintro e w1 ⟨rfl,hP1,hb1⟩
   have HA:=hide (ahead_gen hP1 0 (by omega) 2 0 ⟨b.toArray⟩ (hd_nam (unhide HTk w1 hP1) (unhide HD2)))
   have HP1:=hide hP1;have HB1:=hide hb1
   have hfd:=tkField1 2 0 ⟨s.toArray⟩ w1
   clear hP1 hb1 HC
   go_wp2_with fail
   refine(unhide HA).mono ?_;rintro e w2 ⟨rfl,hb2⟩
   have hP2:=(unhide HP1).of hb2
   have HN:=hide (nk_yes hP2 hkl2 2 0 ⟨b.toArray⟩ (hd_nam hP2.p.toks (unhide HD2)))
   have HB2:=hide ((unhide HB1).trans (ButB.ofBelow hb2))
   have hfd2:=tkField0 2 0 ⟨b.toArray⟩ w2
   clear hP2 hb2 HA hfd
   go_wp2_with fail
   refine(unhide HN).mono ?_;rintro e w3 ⟨rfl,hP3,hb3⟩
   have HB3:=hide ((unhide HB2).trans hb3)
   have HP3:=hide hP3
   have hfd3:=tkField1 2 0 ⟨b.toArray⟩ w3
   clear hP3 hb3 HN hfd2
   go_wp2
   go_ret
   exact⟨unhide HB3,Or.inr ⟨rSrc s b,k+1+1,_,_,unhide HR,by omega,rfl,TV.src s b,unhide HP3⟩⟩
  ·have HR:Hid (RR=some ([rSrc s s],(tks L).drop (k+1))):=by
    show RR=_
    rw[unhide HRR]
    exact src_one (fun b r e=>hd2 ⟨b,r,e⟩)
   have HD2:=hide hd2
   clear hd2 HRR
   go_enter Tryz.func103,Tryz.ntmps103
   go_wp2_with fail
   refine(unhide HC).mono ?_;rintro e w1 ⟨rfl,hP1,hb1⟩
   obtain⟨K,T,V,hv,hK⟩:=hd_not hP1.p.toks (fun b r e=>(unhide HD2) ⟨b,r,e⟩)
   have HA:=hide (ahead_gen hP1 0 (by omega) K V T hv)
   have HP1:=hide hP1;have HB1:=hide hb1
   have hfd:=tkField1 2 0 ⟨s.toArray⟩ w1
   have hKb:(K !=2)=true:=by rw[bne_iff_ne];exact hK
   clear hP1 hb1 HC hv hK
   go_wp2_with fail
   refine(unhide HA).mono ?_;rintro e w2 ⟨rfl,hb2⟩
   have HP2:=hide ((unhide HP1).of hb2)
   have HB2:=hide ((unhide HB1).trans (ButB.ofBelow hb2))
   have hfd2:=tkField0 K V T w2
   clear hb2 HA hfd
   go_wp2
   go_ret
   exact⟨unhide HB2,Or.inr ⟨rSrc s s,k+1,_,_,unhide HR,by omega,rfl,TV.src s s,unhide HP2⟩⟩
 ·have HR:Hid (RR=none):=by
   show RR=none
   rw[hRR]
   exact src_none (fun s r e=>hd ⟨s,r,e⟩)
  obtain⟨K,T,V,hv,hK⟩:=hd_not h.p.toks (fun b r e=>hd ⟨b,r,e⟩)
  have HC:=hide (nk_no h 2 K V T hv hK)
  clear h hd hRR hv hK
  go_enter Tryz.func103,Tryz.ntmps103
  go_wp2_with fail
  refine(unhide HC).mono ?_;rintro e w1 ⟨rfl,hb1⟩
  have HB1:=hide hb1
  clear hb1 HC
  go_wp2
  exact⟨rfl,ButB.ofBelow (unhide HB1),Or.inl ⟨unhide HR,rfl⟩⟩
def colF:List Tok->Option (List Rt×List Tok)
 | .nam s:: .sy 3:: .num v::r=>if 0<=v then some ([rCol s v],r)else none
 | _=>none
set_option maxHeartbeats 4000000 in
set_option maxRecDepth 100000 in
theorem column_calls{w:World}{pb:Nat}{a:Option Addr}{c:Nat}{L:List (Tok×ByteArray)}{k:Nat}(h:PO w pb a c L k){s:List UInt8}{r:List Tok}(hd:(tks L).drop k= .nam s::r):Calls Tryz.prog 100 #[.pointer (some ⟨pb,0,none⟩)] w (IE w pb a c L k (colF ((tks L).drop k))):=by
 obtain⟨RR,hRR⟩: ∃RR,RR=colF ((tks L).drop k):=⟨_,rfl⟩
 rw[<-hRR]
 rw[hd]at hRR
 obtain⟨_,hr,hkl,_⟩:=drop_cons hd
 have HC:=hide (nk_yes h hkl 2 0 ⟨s.toArray⟩ (hd_nam h.p.toks hd))
 rw[hr]at hRR
 have HRR:=hide hRR
 clear h hd hr hRR
 go_enter Tryz.func100,Tryz.ntmps100
 go_wp2_with fail
 refine(unhide HC).mono ?_;rintro e w1 ⟨rfl,hP1,hb1⟩
 have hfd:=tkField1 2 0 ⟨s.toArray⟩ w1
 have HB1:=hide hb1
 clear hb1 HC
 by_cases hd2: ∃r2,(tks L).drop (k+1)= .sy 3::r2
 ·obtain⟨r2,hd2⟩:=hd2
  obtain⟨_,hr2,hkl2,_⟩:=drop_cons hd2
  have HC2:=hide (needsY hP1 ⟨#[46]⟩ 3 (by omega) (Go.ByteArray.toList_mk [46]) hd2)
  rw[hd2,hr2]at HRR
  clear hd2 hr2 hP1
  go_wp2_with fail
  refine(unhide HC2).mono ?_;rintro e w2 ⟨rfl,hP2,hb2⟩
  have HB2:=hide ((unhide HB1).trans hb2)
  clear hb2 HC2 hfd
  by_cases hd3: ∃v r3,(tks L).drop (k+1+1)= .num v::r3
  ·obtain⟨v,r3,hd3⟩:=hd3
   obtain⟨_,hr3,hkl3,_⟩:=drop_cons hd3
   obtain⟨T,hT⟩:=hd_num hd3
   have HC3:=hide (nk_yes hP2 hkl3 3 v T hT)
   rw[hd3,hr3]at HRR
   clear hd3 hr3 hP2 hT
   go_wp2_with fail
   refine(unhide HC3).mono ?_;rintro e w3 ⟨rfl,hP3,hb3⟩
   have HB3:=hide ((unhide HB2).trans hb3)
   have HP3:=hide hP3
   have hfd3:=tkField2 3 v T w3
   clear hb3 hP3 HC3
   by_cases hv:v<0
   ·have HR:Hid (RR=none):=by
     show RR=none
     rw[unhide HRR]
     show(if 0<=v then _ else none)=none
     rw[if_neg (by omega)]
    go_wp2
    exact⟨rfl,unhide HB3,Or.inl ⟨unhide HR,rfl⟩⟩
   ·have HR:Hid (RR=some ([rCol s v],(tks L).drop (k+1+1+1))):=by
     show RR=_
     rw[unhide HRR]
     show(if 0<=v then _ else none)=_
     rw[if_pos (by omega)]
    go_wp2
    go_ret
    exact⟨unhide HB3,Or.inr ⟨rCol s v,k+1+1+1,_,_,unhide HR,by omega,rfl,TV.col s v,unhide HP3⟩⟩
  ·obtain⟨K,T,V,hv,hK⟩:=hd_not3 hP2.p.toks (fun v r e=>hd3 ⟨v,r,e⟩)
   have HC3:=hide (nk_no hP2 3 K V T hv hK)
   have HR:Hid (RR=none):=by
    show RR=none
    rw[unhide HRR]
    cases hq:(tks L).drop (k+1+1)with
    | nil=>rfl
    | cons t r3=>
     cases t with
     | num v=>exact absurd ⟨v,r3,hq⟩ hd3
     | nam _=>rfl
     | sy _=>rfl
   clear hd3 hv hK hP2
   go_wp2_with fail
   refine(unhide HC3).mono ?_;rintro e w3 ⟨rfl,hb3⟩
   have HB3:=hide ((unhide HB2).trans (ButB.ofBelow hb3))
   clear hb3 HC3
   go_wp2
   exact⟨rfl,unhide HB3,Or.inl ⟨unhide HR,rfl⟩⟩
 ·have HC2:=hide (needsN hP1 ⟨#[46]⟩ 3 (by omega) (Go.ByteArray.toList_mk [46]) (fun r e=>hd2 ⟨r,e⟩))
  have HR:Hid (RR=none):=by
   show RR=none
   rw[unhide HRR]
   cases hq:(tks L).drop (k+1)with
   | nil=>rfl
   | cons t r3=>
    unfold colF
    split
    ·rename_i e
     simp only[List.cons.injEq]at e
     exact absurd ⟨_,by rw[hq,e.2.1]⟩ hd2
    ·rfl
  clear hd2 hP1
  go_wp2_with fail
  refine(unhide HC2).mono ?_;rintro e w2 ⟨rfl,hb2⟩
  have HB2:=hide ((unhide HB1).trans (ButB.ofBelow hb2))
  clear hb2 HC2
  go_wp2
  exact⟨rfl,unhide HB2,Or.inl ⟨unhide HR,rfl⟩⟩
end Go.Proofs.YtmggnimiioepeaaGreatDoor.Pa
namespace Go.Proofs.YtmggnimiioepeaaGreatDoor.Pa
open Go Go.RowKit
def BE(W:World)(pb:Nat)(a:Option Addr)(c:Nat)(L:List (Tok×ByteArray))(k:Nat)(la:Option Addr)(ln lc:Nat)(r:Option (List Rt×List Tok))(e:Ending)(W':World):Prop:=
 ButB (atP pb) W W'/\((r=none/\e=mis)\/ ∃ss k' qa qc,k<=k'/\(ss:List Rt)≠[]/\RL W.heap.size W' qa qc ss/\PO W' pb a c L k'/\
  ((r=some (ss,(tks L).drop k')/\e= .returned (.agg #[.slice la ln lc,.slice qa ss.length qc,.nilIface]))\/
   ∃x ty u,r=some (ss++[x],(tks L).drop k')/\e= .returned (.agg #[.slice la ln lc,.slice qa ss.length qc,.iface ty u])/\TV W' (fun b=>W.heap.size<=b) x (.iface ty u)))
structure IHyp(pb:Nat)(a:Option Addr)(c:Nat)(L:List (Tok×ByteArray))(f:Nat):Prop where
 sc: ∀W k,PO W pb a c L k->8*(L.length-k)<f->Calls Tryz.prog 90 #[.pointer (some ⟨pb,0,none⟩)] W (IE W pb a c L k (iP f .scal ((tks L).drop k)))
 ta: ∀W k la ln lc,PO W pb a c L k->8*(L.length-k)<f->Calls Tryz.prog 91 #[.pointer (some ⟨pb,0,none⟩),.slice la ln lc] W (BE W pb a c L k la ln lc (iP f .tail ((tks L).drop k)))
 pr: ∀W k,PO W pb a c L k->1+8*(L.length-k)<f->Calls Tryz.prog 113 #[.pointer (some ⟨pb,0,none⟩)] W (IE W pb a c L k (iP f .prim ((tks L).drop k)))
 cj: ∀W k,PO W pb a c L k->3+8*(L.length-k)<f->Calls Tryz.prog 111 #[.pointer (some ⟨pb,0,none⟩)] W (IE W pb a c L k (iP f .conj ((tks L).drop k)))
 co: ∀W k,PO W pb a c L k->5+8*(L.length-k)<f->Calls Tryz.prog 104 #[.pointer (some ⟨pb,0,none⟩)] W (IE W pb a c L k (iP f .cond ((tks L).drop k)))
 se: ∀W k,PO W pb a c L k->8*(L.length-k)<f->Calls Tryz.prog 68 #[.pointer (some ⟨pb,0,none⟩)] W (IE W pb a c L k (iP f .sel ((tks L).drop k)))
 qu: ∀W k,PO W pb a c L k->2+8*(L.length-k)<f->Calls Tryz.prog 41 #[.pointer (some ⟨pb,0,none⟩)] W (IE W pb a c L k (iP f .query ((tks L).drop k)))
theorem tailF_no{ss co:List Tok->Option (List Rt×List Tok)}{ts:List Tok}(h: ∀r,ts≠ .sy 13::r):tailF ss co ts=none:=by
 unfold tailF
 split
 ·exact absurd rfl (h _)
 ·rfl
theorem tailF_src{ss co:List Tok->Option (List Rt×List Tok)}{r:List Tok}(h:ss r=none):tailF ss co (.sy 13::r)=none:=by
 unfold tailF
 simp only[h]
theorem tailF_end{ss co:List Tok->Option (List Rt×List Tok)}{r r1:List Tok}{l:List Rt}(h:ss r=some (l,r1))(hn: ∀r2,r1≠ .sy 14::r2):tailF ss co (.sy 13::r)=some (l,r1):=by
 unfold tailF
 simp only[h]
 cases r1 with
 | nil=>rfl
 | cons t r2=>
  simp only[]
  rw[if_neg (fun e=>hn r2 (by rw[e]))]
theorem tailF_wh{ss co:List Tok->Option (List Rt×List Tok)}{r r1 r2:List Tok}{l:List Rt}{x:Rt}(h:ss r=some (l,.sy 14::r1))(h2:co r1=some ([x],r2)):tailF ss co (.sy 13::r)=some (l++[x],r2):=by
 unfold tailF
 simp only[h,if_true,h2]
theorem tailF_bad{ss co:List Tok->Option (List Rt×List Tok)}{r r1:List Tok}{l:List Rt}(h:ss r=some (l,.sy 14::r1))(h2:co r1=none):tailF ss co (.sy 13::r)=none:=by
 unfold tailF
 simp only[h,if_true,h2]
theorem RL.wide{B B':Nat}{w:World}{ga:Option Addr}{gc:Nat}{ts:List Rt}(h:RL B w ga gc ts)(hB:B'<=B):RL B' w ga gc ts:=by
 obtain⟨vs,h1,ho,h2,h3⟩:=h.ex
 refine⟨vs,h1,⟨ho.1,ho.2.imp id (fun⟨g,cap,cur,q1,q2,q3⟩=>⟨g,cap,cur,q1,Nat.le_trans hB q2,q3⟩)⟩,h2,fun i t v e1 e2=>(h3 i t v e1 e2).wide (fun b e _=>⟨Nat.le_trans hB e.1,e.2⟩)⟩
set_option maxHeartbeats 8000000 in
set_option maxRecDepth 100000 in
theorem tail_calls{w:World}{pb:Nat}{a:Option Addr}{c:Nat}{L:List (Tok×ByteArray)}{k:Nat}(h:PO w pb a c L k)(f:Nat)(hf:8*(L.length-k)<f+1)(H: ∀g,g<=f->IHyp pb a c L g)(la:Option Addr)(ln lc:Nat):Calls Tryz.prog 91 #[.pointer (some ⟨pb,0,none⟩),.slice la ln lc] w (BE w pb a c L k la ln lc (iP (f+1) .tail ((tks L).drop k))):=by
 obtain⟨RR,hRR⟩: ∃RR,RR=iP (f+1) .tail ((tks L).drop k):=⟨_,rfl⟩
 rw[<-hRR]
 have hR0:RR=tailF (iP f .srcs) (iP f .cond) ((tks L).drop k):=hRR
 clear hRR
 have hpw:=h.p.lt
 by_cases hd: ∃r,(tks L).drop k= .sy 13::r
 ·obtain⟨r,hd⟩:=hd
  obtain⟨_,hr,hkl,_⟩:=drop_cons hd
  rw[hd,hr]at hR0
  have HC:=hide (fun w1 (hb:Below w.heap.size w w1)=>needsY (h.of hb) ⟨#[70,82,79,77]⟩ 13 (by omega) (Go.ByteArray.toList_mk [70,82,79,77]) hd)
  obtain⟨f',rfl⟩: ∃f',f=f'+1:=⟨f-1,by omega⟩
  have HLi:Hid (∀w1,PO w1 pb a c L (k+1)->Calls Tryz.prog 89 #[.pointer (some ⟨pb,0,none⟩),.string ⟨#[44]⟩,.func (.func 103) #[.pointer (some ⟨pb,0,none⟩)] #[]] w1 (LE w1 pb a c L (k+1) (iP (f'+1) .srcs ((tks L).drop (k+1))))):=fun w1 h1=>
   list_calls h1 103 (fun _ _=>by kernel_rfl) .src .srcs ⟨#[44]⟩ 2 (by omega) (Go.ByteArray.toList_mk [44]) f' (by simp only[rank];omega) (fun _ _=>rfl) (fun g W k' hg hgf hP=>by
    obtain⟨g',rfl⟩: ∃g',g=g'+1:=⟨g-1,by omega⟩
    exact source_calls hP g')
  have HH:=hide H;have HRR:=hide hR0
  clear h hd hr hR0 H
  go_enter Tryz.func91,Tryz.ntmps91
  go_wp2_with fail
  obtain⟨wA,hwA⟩: ∃wA,wA=w.alloc (.cells #[.slice none 0 0,.slice none 0 0,.nilIface] 113):=⟨_,rfl⟩
  have hbA:Below w.heap.size w wA:=by rw[hwA];exact bA (Below.refl _ _) _
  have hcA:CellsAt wA w.heap.size [.slice none 0 0,.slice none 0 0,.nilIface]:=by rw[hwA];exact CellsAt.new w [.slice none 0 0,.slice none 0 0,.nilIface] 113
  rw[<-hwA]
  have HbA:=hide hbA
  have hzA:w.heap.size<wA.heap.size:=hcA.lt
  refine(unhide HC wA hbA).mono ?_;rintro e w1 ⟨rfl,hP1,hb1⟩
  have HcA:=hide (hcA.but hb1 (fun e=>by unfold atP at e;omega))
  have HC1:=hide (unhide HLi w1 hP1)
  have HB1:=hide ((ButB.ofBelow hbA).trans hb1)
  have hz1:wA.heap.size<=w1.heap.size:=hb1.size
  clear hwA hbA hcA hP1 hb1 HC HLi HbA
  go_wp2_with fail
  refine(unhide HC1).mono ?_
  rintro e w2 ⟨hb2,⟨hr2,rfl⟩ | ⟨ss,k2,qa,qc,hr2,hne2,hk2,rfl,hL2,hP2⟩⟩
  ·have HR:Hid (RR=none):=by
    show RR=none
    rw[unhide HRR]
    exact tailF_src hr2
   have HB2:=hide ((unhide HB1).trans hb2)
   clear hb2 hr2 HC1
   go_wp2
   exact⟨rfl,unhide HB2,Or.inl ⟨unhide HR,rfl⟩⟩
  have HcA2:=hide ((unhide HcA).but hb2 (fun e=>by unfold atP at e;omega))
  have HB2:=hide ((unhide HB1).trans hb2)
  have HL2:=hide hL2;have HP2:=hide hP2;have HR2:=hide hr2
  have hz2:w1.heap.size<=w2.heap.size:=hb2.size
  have HNe2:=hide hne2
  clear hb2 hr2 hL2 hP2 HC1 HcA HB1 hne2
  go_upto_region 3 with fail
  obtain⟨w3,hw3⟩: ∃w3,w3=w2.alloc (.cells #[.slice la ln lc,.slice qa ss.length qc,.nilIface] 113):=⟨_,rfl⟩
  have hb3:Below w2.heap.size w2 w3:=by rw[hw3];exact bA (Below.refl _ _) _
  have hcB:CellsAt w3 w2.heap.size [.slice la ln lc,.slice qa ss.length qc,.nilIface]:=by rw[hw3];exact CellsAt.new w2 [.slice la ln lc,.slice qa ss.length qc,.nilIface] 113
  rw[<-hw3]
  have hP3:=(unhide HP2).of hb3
  have HB3:=hide ((unhide HB2).trans (ButB.ofBelow hb3))
  have HcA3:=hide ((unhide HcA2).of hb3)
  have HBx:Hid (ButB (fun b=>b=pb\/b=w.heap.size) w2 w3):=ButB.ofBelow hb3
  have hz3:w2.heap.size<w3.heap.size:=hcB.lt
  clear hw3 hb3 HP2 HB2 HcA2
  by_cases hd2: ∃r2,(tks L).drop k2= .sy 14::r2
  ·obtain⟨r2,hd2⟩:=hd2
   obtain⟨_,hr3,hkl2,_⟩:=drop_cons hd2
   have HC3:=hide (takesY hP3 ⟨#[87,72,69,82,69]⟩ 14 (by omega) (Go.ByteArray.toList_mk [87,72,69,82,69]) hd2)
   rw[hd2,hr3]at HR2
   have HcB:=hide hcB
   clear hd2 hr3 hP3 hcB
   go_wp2_with fail
   refine(unhide HC3).mono ?_;rintro e w4 ⟨rfl,hP4,hb4⟩
   have HC4:=hide ((unhide HH (f'+1) (Nat.le_refl _)).co w4 (k2+1) hP4 (by omega))
   have HcA4:=hide ((unhide HcA3).but hb4 (fun e=>by unfold atP at e;omega))
   have HcB4:=hide ((unhide HcB).but hb4 (fun e=>by unfold atP at e;omega))
   have HB4:=hide ((unhide HB3).trans hb4)
   have HBx4:=hide ((unhide HBx).trans (hb4.mono (fun b e=>Or.inl e)))
   have hz4:w3.heap.size<=w4.heap.size:=hb4.size
   clear hP4 hb4 HC3 HcA3 HcB HB3 HBx
   go_wp2_with fail
   refine(unhide HC4).mono ?_
   rintro e w5 ⟨hb5,⟨hr5,rfl⟩ | ⟨x,k5,ty,u,hr5,hk5,rfl,hT5,hP5⟩⟩
   ·have HR:Hid (RR=none):=by
     show RR=none
     rw[unhide HRR]
     exact tailF_bad (unhide HR2) hr5
    have HB5:=hide ((unhide HB4).trans hb5)
    clear hb5 hr5 HC4
    go_wp2
    exact⟨rfl,unhide HB5,Or.inl ⟨unhide HR,rfl⟩⟩
   have HR:Hid (RR=some (ss++[x],(tks L).drop k5)):=by
    show RR=_
    rw[unhide HRR]
    exact tailF_wh (unhide HR2) hr5
   have hcA5:=(unhide HcA4).but hb5 (fun e=>by unfold atP at e;omega)
   have hcB5:=(unhide HcB4).but hb5 (fun e=>by unfold atP at e;omega)
   have HB5:=hide ((unhide HB4).trans hb5)
   have HBx5:=hide ((unhide HBx4).trans (hb5.mono (fun b e=>Or.inl e)))
   have hz5:w4.heap.size<=w5.heap.size:=hb5.size
   have HT5:=hide hT5;have HP5:=hide hP5
   clear hb5 hr5 hT5 hP5 HC4 HcA4 HcB4 HB4 HBx4 HR2
   obtain⟨b0,b1,b2⟩:w5.cell? ⟨w2.heap.size,0,none⟩=some (.slice la ln lc)/\w5.cell? ⟨w2.heap.size,1,none⟩=some (.slice qa ss.length qc)/\w5.cell? ⟨w2.heap.size,2,none⟩=some .nilIface:=⟨hcB5.all 0 _ rfl,hcB5.all 1 _ rfl,hcB5.all 2 _ rfl⟩
   have bf:=hcB5.frz
   have bl:=hcB5.lt
   obtain⟨w6,hw6⟩: ∃w6,w6=w5.setCell ⟨w2.heap.size,2,none⟩ (.iface ty u):=⟨_,rfl⟩
   have hcB6:CellsAt w6 w2.heap.size [.slice la ln lc,.slice qa ss.length qc,.iface ty u]:=by
    rw[hw6]
    exact hcB5.set 2 (.iface ty u) (by simp)
   have hcA6:CellsAt w6 w.heap.size [.slice none 0 0,.slice none 0 0,.nilIface]:=by
    rw[hw6]
    exact hcA5.far 2 (.iface ty u) (by omega)
   have HBs6:Hid (ButB (fun b=>b=w2.heap.size) w5 w6):=by
    show ButB _ _ _
    rw[hw6]
    exact ButB.set (S:=fun b=>b=w2.heap.size) (ButB.refl _ _) (Or.inl rfl) _
   have HW6:=hide hw6
   clear hw6 hcB5 hcA5
   go_upto_region 5 with fail
   rw[<-unhide HW6]
   clear b0 b1 b2 bf bl
   obtain⟨b0,b1,b2⟩:w6.cell? ⟨w2.heap.size,0,none⟩=some (.slice la ln lc)/\w6.cell? ⟨w2.heap.size,1,none⟩=some (.slice qa ss.length qc)/\w6.cell? ⟨w2.heap.size,2,none⟩=some (.iface ty u):=⟨hcB6.all 0 _ rfl,hcB6.all 1 _ rfl,hcB6.all 2 _ rfl⟩
   have bl:=hcB6.lt
   obtain⟨a0,a1,a2⟩:w6.cell? ⟨w.heap.size,0,none⟩=some (.slice none 0 0)/\w6.cell? ⟨w.heap.size,1,none⟩=some (.slice none 0 0)/\w6.cell? ⟨w.heap.size,2,none⟩=some .nilIface:=⟨hcA6.all 0 _ rfl,hcA6.all 1 _ rfl,hcA6.all 2 _ rfl⟩
   have af:=hcA6.frz
   have al:=hcA6.lt
   obtain⟨w7,hw7⟩: ∃w7,w7=((w6.setCell ⟨w.heap.size,0,none⟩ (.slice la ln lc)).setCell ⟨w.heap.size,1,none⟩ (.slice qa ss.length qc)).setCell ⟨w.heap.size,2,none⟩ (.iface ty u):=⟨_,rfl⟩
   have hcA7:CellsAt w7 w.heap.size [.slice la ln lc,.slice qa ss.length qc,.iface ty u]:=by
    rw[hw7]
    exact(((hcA6.set 0 (.slice la ln lc) (by simp)).set 1 (.slice qa ss.length qc) (by simp)).set 2 (.iface ty u) (by simp))
   have HBs7:Hid (ButB (fun b=>b=w.heap.size) w6 w7):=by
    show ButB _ _ _
    rw[hw7]
    exact ButB.set (S:=fun b=>b=w.heap.size) (ButB.set (S:=fun b=>b=w.heap.size) (ButB.set (S:=fun b=>b=w.heap.size) (ButB.refl _ _) (Or.inl rfl) _) (Or.inl rfl) _) (Or.inl rfl) _
   have HW7:=hide hw7
   have HcA7:=hide hcA7
   clear hw7 hcA7 hcA6 hcB6
   go_wp2
   refine bodyPost_ret (v:= .agg #[.slice la ln lc,.slice qa ss.length qc,.iface ty u]) ?_ rfl ?_
   ·rw[<-unhide HW7]
    have h0:=(unhide HcA7).all 0 _ rfl
    have h1:=(unhide HcA7).all 1 _ rfl
    have h2:=(unhide HcA7).all 2 _ rfl
    simp[results,Tryz.results91,go_sem,h0,h1,h2]
   ·rw[<-unhide HW7]
    have k5:ButB (fun b=>b=w2.heap.size\/b=w.heap.size) w5 w7:=((unhide HBs6).mono (fun b e=>Or.inl e)).trans ((unhide HBs7).mono (fun b e=>Or.inr e))
    have k2:ButB (fun b=>b=pb\/b=w.heap.size) w2 w7:=(unhide HBx5).trans' k5 (fun b e=>e.elim (fun e=>Or.inr (by omega)) (fun e=>Or.inl (Or.inr e)))
    refine⟨(unhide HB5).trans' k5 (fun b e=>Or.inr (by omega)),Or.inr ⟨ss,_,qa,qc,by omega,unhide HNe2,?_,(unhide HP5).but k5 (fun b e=>by omega),Or.inr ⟨x,ty,u,unhide HR,rfl,?_⟩⟩⟩
    ·exact((unhide HL2).but k2 (fun b e=>by omega)).wide (by omega)
    ·exact((unhide HT5).but k5 (fun b h1 _ e=>by omega)).wide (fun b h1 _=>by omega)
  ·have HC3:=hide (takesN hP3 ⟨#[87,72,69,82,69]⟩ 14 (by omega) (Go.ByteArray.toList_mk [87,72,69,82,69]) (fun r e=>hd2 ⟨r,e⟩))
   have HR:Hid (RR=some (ss,(tks L).drop k2)):=by
    show RR=_
    rw[unhide HRR]
    exact tailF_end (unhide HR2) (fun r e=>hd2 ⟨r,e⟩)
   have HP3:=hide hP3
   have HcB:=hide hcB
   clear hd2 hP3 hcB HR2
   go_wp2_with fail
   refine(unhide HC3).mono ?_;rintro e w5 ⟨rfl,hb5⟩
   have hcA6:=(unhide HcA3).of hb5
   have hcB6:=(unhide HcB).of hb5
   have HP5:=hide ((unhide HP3).of hb5)
   have HB5:=hide ((unhide HB3).trans (ButB.ofBelow hb5))
   have HBx5:=hide ((unhide HBx).trans (ButB.ofBelow hb5))
   have hz5:w3.heap.size<=w5.heap.size:=hb5.size
   clear hb5 HC3 HP3 HB3 HBx HcA3 HcB
   obtain⟨b0,b1,b2⟩:w5.cell? ⟨w2.heap.size,0,none⟩=some (.slice la ln lc)/\w5.cell? ⟨w2.heap.size,1,none⟩=some (.slice qa ss.length qc)/\w5.cell? ⟨w2.heap.size,2,none⟩=some .nilIface:=⟨hcB6.all 0 _ rfl,hcB6.all 1 _ rfl,hcB6.all 2 _ rfl⟩
   have bl:=hcB6.lt
   obtain⟨a0,a1,a2⟩:w5.cell? ⟨w.heap.size,0,none⟩=some (.slice none 0 0)/\w5.cell? ⟨w.heap.size,1,none⟩=some (.slice none 0 0)/\w5.cell? ⟨w.heap.size,2,none⟩=some .nilIface:=⟨hcA6.all 0 _ rfl,hcA6.all 1 _ rfl,hcA6.all 2 _ rfl⟩
   have af:=hcA6.frz
   have al:=hcA6.lt
   obtain⟨w7,hw7⟩: ∃w7,w7=((w5.setCell ⟨w.heap.size,0,none⟩ (.slice la ln lc)).setCell ⟨w.heap.size,1,none⟩ (.slice qa ss.length qc)).setCell ⟨w.heap.size,2,none⟩ .nilIface:=⟨_,rfl⟩
   have hcA7:CellsAt w7 w.heap.size [.slice la ln lc,.slice qa ss.length qc,.nilIface]:=by
    rw[hw7]
    exact(((hcA6.set 0 (.slice la ln lc) (by simp)).set 1 (.slice qa ss.length qc) (by simp)).set 2 .nilIface (by simp))
   have HBs7:Hid (ButB (fun b=>b=w.heap.size) w5 w7):=by
    show ButB _ _ _
    rw[hw7]
    exact ButB.set (S:=fun b=>b=w.heap.size) (ButB.set (S:=fun b=>b=w.heap.size) (ButB.set (S:=fun b=>b=w.heap.size) (ButB.refl _ _) (Or.inl rfl) _) (Or.inl rfl) _) (Or.inl rfl) _
   have HW7:=hide hw7
   have HcA7:=hide hcA7
   clear hw7 hcA7 hcA6 hcB6
   go_wp2
   refine bodyPost_ret (v:= .agg #[.slice la ln lc,.slice qa ss.length qc,.nilIface]) ?_ rfl ?_
   ·rw[<-unhide HW7]
    have h0:=(unhide HcA7).all 0 _ rfl
    have h1:=(unhide HcA7).all 1 _ rfl
    have h2:=(unhide HcA7).all 2 _ rfl
    simp[results,Tryz.results91,go_sem,h0,h1,h2]
   ·rw[<-unhide HW7]
    have k2:ButB (fun b=>b=pb\/b=w.heap.size) w2 w7:=(unhide HBx5).trans' (unhide HBs7) (fun b e=>Or.inl (Or.inr e))
    exact⟨(unhide HB5).trans' (unhide HBs7) (fun b e=>Or.inr (by omega)),Or.inr ⟨ss,_,qa,qc,by omega,unhide HNe2,((unhide HL2).but k2 (fun b e=>by omega)).wide (by omega),(unhide HP5).but (unhide HBs7) (fun b e=>by omega),Or.inl ⟨unhide HR,rfl⟩⟩⟩
 ·have HR:Hid (RR=none):=by
   show RR=none
   rw[hR0]
   exact tailF_no (fun r e=>hd ⟨r,e⟩)
  have HC:=hide (fun w1 (hb:Below w.heap.size w w1)=>needsN (h.of hb) ⟨#[70,82,79,77]⟩ 13 (by omega) (Go.ByteArray.toList_mk [70,82,79,77]) (fun r e=>hd ⟨r,e⟩))
  clear h hd hR0 H
  go_enter Tryz.func91,Tryz.ntmps91
  go_wp2_with fail
  refine(unhide HC _ (bA (Below.refl _ _) _)).mono ?_;rintro e w1 ⟨rfl,hb1⟩
  have HB1:=hide (bT (bA (Below.refl w.heap.size w) _) hb1)
  clear hb1 HC
  go_wp2
  exact⟨rfl,ButB.ofBelow (unhide HB1),Or.inl ⟨unhide HR,rfl⟩⟩
end Go.Proofs.YtmggnimiioepeaaGreatDoor.Pa
