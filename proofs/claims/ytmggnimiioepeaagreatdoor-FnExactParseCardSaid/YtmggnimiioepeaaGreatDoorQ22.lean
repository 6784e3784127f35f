import Derived.Test.YtmggnimiioepeaaGreatDoorQ0
import Derived.Test.YtmggnimiioepeaaGreatDoorPaIm6
namespace Go.Proofs.YtmggnimiioepeaaGreatDoor.Pa
open Go Go.RowKit
def aggI(sc ta:List Tok->Option (List Rt×List Tok)):List Tok->Option (List Rt×List Tok)
 | .sy 11::w::r=>if 0<aggOf w then
   match r with
   | .sy 0::r1=>
    if w= .sy 25/\r1.head?=some star then
     match r1 with
     | _:: .sy 1::r2=>match ta r2 with
      | some (ks,r3)=>some ([.mk 4 0 1 [] [] ks],r3)
      | none=>none
     | _=>none
    else match sc r1 with
     | some ([t],.sy 1::r2)=>match ta r2 with
      | some (ks,r3)=>some ([.mk 4 1 (aggOf w) [] [] (t::ks)],r3)
      | none=>none
     | _=>none
   | _=>none
  else none
 | _=>none
def clo:Option (List Rt×List Tok)->Option (List Rt×List Tok)
 | some ([t],.sy 1::r)=>some ([t],r)
 | _=>none
theorem clo_ks(K N M:Int)(pre:List Rt)(o:Option (List Rt×List Tok)):clo (match o with | some (ks,r3)=>some ([.mk K N M [] [] (pre++ks)],r3) | none=>none)=(match o with | some (ks,.sy 1::r3)=>some ([.mk K N M [] [] (pre++ks)],r3) | _=>none):=by
 cases o with
 | none=>rfl
 | some p=>
  obtain⟨ks,r3⟩:=p
  cases r3 with
  | nil=>rfl
  | cons t r4=>
   cases t with
   | nam _=>rfl
   | num _=>rfl
   | sy q=>
    by_cases hq:q=1
    ·subst hq;rfl
    ·show clo (some ([.mk K N M [] [] (pre++ks)],.sy q::r4))=_
     unfold clo
     split
     ·rename_i e
      simp only[Option.some.injEq,Prod.mk.injEq,List.cons.injEq,Tok.sy.injEq]at e
      exact absurd e.2.1 hq
     ·split
      ·rename_i e
       simp only[Option.some.injEq,Prod.mk.injEq,List.cons.injEq,Tok.sy.injEq]at e
       exact absurd e.2.1 hq
      ·rfl
theorem clo_agg(sc ta:List Tok->Option (List Rt×List Tok))(r:List Tok):clo (aggI sc ta r)=aggF sc ta r:=by
 unfold aggI aggF
 split
 ·rename_i w r'
  by_cases h:0<aggOf w
  ·simp only[if_pos h]
   split
   ·rename_i r1
    by_cases h2:w= .sy 25/\r1.head?=some star
    ·simp only[if_pos h2]
     clear h2
     match r1 with
     | []=>rfl
     | [t0]=>rfl
     | t0:: .nam _::_=>rfl
     | t0:: .num _::_=>rfl
     | t0:: .sy q::r2=>
      by_cases hq:q=1
      ·subst hq
       exact clo_ks 4 0 1 [] (ta r2)
      ·split
       ·rename_i e
        simp only[List.cons.injEq,Tok.sy.injEq]at e
        exact absurd e.2.1 hq
       ·split
        ·rename_i e
         simp only[List.cons.injEq,Tok.sy.injEq]at e
         exact absurd e.2.1 hq
        ·rfl
    ·simp only[if_neg h2]
     cases hs:sc r1 with
     | none=>rfl
     | some p=>
      obtain⟨l,r2⟩:=p
      match l,r2 with
      | [],_=>rfl
      | _::_::_,_=>rfl
      | [t],[]=>rfl
      | [t],.nam _::_=>rfl
      | [t],.num _::_=>rfl
      | [t],.sy q::r2=>
       by_cases hq:q=1
       ·subst hq
        exact clo_ks 4 1 (aggOf w) [t] (ta r2)
       ·split
        ·rename_i e
         simp only[Option.some.injEq,Prod.mk.injEq,List.cons.injEq,Tok.sy.injEq]at e
         exact absurd e.2.1 hq
        ·split
         ·rename_i e
          simp only[Option.some.injEq,Prod.mk.injEq,List.cons.injEq,Tok.sy.injEq]at e
          exact absurd e.2.1 hq
         ·rfl
   ·rename_i hx
    split<;>first | exact absurd rfl (hx _) | rfl
  ·simp only[if_neg h]
   rfl
 ·rename_i hx
  split<;>first | exact absurd rfl (hx _ _) | rfl
theorem brk_clo(p:List Tok->Option (List Rt×List Tok))(r:List Tok):brkL p (.sy 0::r)=clo (p r):=by
 unfold brkL brk
 simp only[]
 cases hp:p r with
 | none=>rfl
 | some q=>
  obtain⟨l,r1⟩:=q
  match l,r1 with
  | [],_=>rfl
  | _::_::_,_=>rfl
  | [t],[]=>rfl
  | [t],.nam _::_=>rfl
  | [t],.num _::_=>rfl
  | [t],.sy q::r2=>
   by_cases hq:q=1
   ·subst hq;rfl
   ·unfold clo
    split
    ·rename_i e
     split at e
     ·rename_i e2
      simp only[Option.some.injEq,Prod.mk.injEq,List.cons.injEq,Tok.sy.injEq]at e2
      exact absurd e2.2.1 hq
     ·cases e
    ·split
     ·rename_i e2
      simp only[Option.some.injEq,Prod.mk.injEq,List.cons.injEq,Tok.sy.injEq]at e2
      exact absurd e2.2.1 hq
     ·rfl
theorem brk_agg(sc ta:List Tok->Option (List Rt×List Tok))(r:List Tok):brkL (aggI sc ta) (.sy 0::r)=aggF sc ta r:=(brk_clo _ r).trans (clo_agg sc ta r)
theorem aggI_no{sc ta:List Tok->Option (List Rt×List Tok)}{ts:List Tok}(h: ∀r,ts≠ .sy 11::r):aggI sc ta ts=none:=by
 unfold aggI
 split
 ·exact absurd rfl (h _)
 ·rfl
theorem aggI_kind{sc ta:List Tok->Option (List Rt×List Tok)}{r:List Tok}(h: ∀j r',2<=j->j<=4->r≠ .sy (j+23)::r'):aggI sc ta (.sy 11::r)=none:=by
 unfold aggI
 split
 ·rename_i w r' e
  simp only[List.cons.injEq,true_and]at e
  subst e
  by_cases hw:0<aggOf w
  ·obtain⟨k,rfl,h1,h2⟩:=aggOf_sy hw
   exact absurd (by rw[show k-23+23=k by omega]) (h (k-23) r' (by omega) (by omega))
  ·rw[if_neg hw]
 ·rfl
theorem aggOf_j(j:Nat)(h1:2<=j)(h2:j<=4):aggOf (.sy (j+23))=j:=by
 unfold aggOf
 simp only[]
 rw[if_pos (by omega)]
 omega
theorem aggI_open{sc ta:List Tok->Option (List Rt×List Tok)}{j:Nat}{r:List Tok}(h1:2<=j)(h2:j<=4)(h: ∀r',r≠ .sy 0::r'):aggI sc ta (.sy 11:: .sy (j+23)::r)=none:=by
 unfold aggI
 simp only[aggOf_j j h1 h2,if_pos (show 0<j by omega)]
theorem aggI_star{sc ta:List Tok->Option (List Rt×List Tok)}{r:List Tok}:aggI sc ta (.sy 11:: .sy (2+23):: .sy 0:: .sy 4:: .sy 1::r)=(match ta r with | some (ks,r3)=>some ([.mk 4 0 1 [] [] ks],r3) | none=>none):=rfl
theorem aggI_starNo{sc ta:List Tok->Option (List Rt×List Tok)}{r:List Tok}(h: ∀r',r≠ .sy 1::r'):aggI sc ta (.sy 11:: .sy (2+23):: .sy 0:: .sy 4::r)=none:=by
 unfold aggI
 simp only[aggOf_j 2 (by omega) (by omega),if_pos (show 0<2 by omega)]
 rw[if_pos ⟨trivial,rfl⟩]
 split
 ·rename_i e
  simp only[List.cons.injEq]at e
  exact absurd e.2 (h _)
 ·rfl
theorem aggI_sc{sc ta:List Tok->Option (List Rt×List Tok)}{j:Nat}{r:List Tok}(h1:2<=j)(h2:j<=4)(h:j=2-> ∀r',r≠ .sy 4::r'):aggI sc ta (.sy 11:: .sy (j+23):: .sy 0::r)=(match sc r with | some ([t],.sy 1::r2)=>(match ta r2 with | some (ks,r3)=>some ([.mk 4 1 (j:Int) [] [] (t::ks)],r3) | none=>none) | _=>none):=by
 show(if 0<aggOf (.sy (j+23))then(if(Tok.sy (j+23)= .sy 25/\r.head?=some star)then _ else _)else none)=_
 rw[aggOf_j j h1 h2,if_pos (show 0<j by omega),if_neg]
 rintro⟨e1,e2⟩
 simp only[Tok.sy.injEq]at e1
 cases r with
 | nil=>cases e2
 | cons t r'=>
  simp at e2
  exact h (by omega) r' (by rw[e2])
set_option maxHeartbeats 8000000 in
set_option maxRecDepth 100000 in
theorem aggregate_calls{w:World}{pb:Nat}{a:Option Addr}{c:Nat}{L:List (Tok×ByteArray)}{k:Nat}(h:PO w pb a c L k)(f:Nat)(hf:8*(L.length-k)<f)(H:IHyp pb a c L f):Calls Tryz.prog 102 #[.pointer (some ⟨pb,0,none⟩)] w (IE w pb a c L k (aggI (iP f .scal) (iP f .tail) ((tks L).drop k))):=by
 obtain⟨ti,hti,hz⟩:=Option.map_eq_some_iff.1 (show(Tryz.prog.info? 48).map (fun i=>(i.zero,i.size,i.bytes))=some (some .nilIface,1,16)by kernel_rfl)
 simp only[Prod.mk.injEq]at hz
 obtain⟨hz0,hz1,hz2⟩:=hz
 obtain⟨RR,hRR⟩: ∃RR,RR=aggI (iP f .scal) (iP f .tail) ((tks L).drop k):=⟨_,rfl⟩
 rw[<-hRR]
 have hpw:=h.p.lt
 by_cases hd: ∃r,(tks L).drop k= .sy 11::r
 ·obtain⟨r,hd⟩:=hd
  obtain⟨_,hr,hkl,_⟩:=drop_cons hd
  rw[hd,hr]at hRR
  have HC:=hide (needsY h ⟨#[83,69,76,69,67,84]⟩ 11 (by omega) (Go.ByteArray.toList_mk [83,69,76,69,67,84]) hd)
  have HH:=hide H;have HRR:=hide hRR
  clear h hd hr hRR H
  go_enter Tryz.func102,Tryz.ntmps102
  go_wp2_with fail
  refine(unhide HC).mono ?_;rintro e w1 ⟨rfl,hP1,hb1⟩
  have HB1:=hide hb1
  have HC1:=hide (aggregateKind_calls hP1)
  have hz1w:w.heap.size<=w1.heap.size:=hb1.size
  clear hb1 HC hP1
  go_wp2_with fail
  refine(unhide HC1).mono ?_
  rintro e w2 ⟨hb2,⟨j,r2,hd2,hj2,hj4,rfl,hP2⟩ | ⟨hno,rfl⟩⟩
  rotate_left
  ·have HR:Hid (RR=none):=by
    show RR=none
    rw[unhide HRR]
    exact aggI_kind hno
   have HB2:=hide ((unhide HB1).trans hb2)
   clear hb2 hno HC1
   go_wp2
   exact⟨rfl,unhide HB2,Or.inl ⟨unhide HR,rfl⟩⟩
  obtain⟨_,hr2,hkl2,_⟩:=drop_cons hd2
  rw[hd2,hr2]at HRR
  have HB2:=hide ((unhide HB1).trans hb2)
  have hz2w:w1.heap.size<=w2.heap.size:=hb2.size
  clear hb2 hd2 hr2 HC1 HB1
  by_cases hd3: ∃r3,(tks L).drop (k+1+1)= .sy 0::r3
  rotate_left
  ·have HC2:=hide (needsN hP2 ⟨#[40]⟩ 0 (by omega) (Go.ByteArray.toList_mk [40]) (fun r e=>hd3 ⟨r,e⟩))
   have HR:Hid (RR=none):=by
    show RR=none
    rw[unhide HRR]
    exact aggI_open hj2 hj4 (fun r e=>hd3 ⟨r,e⟩)
   clear hd3 hP2
   go_wp2_with fail
   refine(unhide HC2).mono ?_;rintro e w3 ⟨rfl,hb3⟩
   have HB3:=hide ((unhide HB2).trans (ButB.ofBelow hb3))
   clear hb3 HC2
   go_wp2
   exact⟨rfl,unhide HB3,Or.inl ⟨unhide HR,rfl⟩⟩
  obtain⟨r3,hd3⟩:=hd3
  obtain⟨_,hr3,hkl3,_⟩:=drop_cons hd3
  have HC2:=hide (needsY hP2 ⟨#[40]⟩ 0 (by omega) (Go.ByteArray.toList_mk [40]) hd3)
  rw[hd3,hr3]at HRR
  clear hd3 hr3 hP2
  go_wp2_with fail
  refine(unhide HC2).mono ?_;rintro e w3 ⟨rfl,hP3,hb3⟩
  have HB3:=hide ((unhide HB2).trans hb3)
  have hz3w:w2.heap.size<=w3.heap.size:=hb3.size
  clear hb3 HC2 HB2
  by_cases hj:j=2
  ·subst hj
   by_cases hd4: ∃r4,(tks L).drop (k+1+1+1)= .sy 4::r4
   ·obtain⟨r4,hd4⟩:=hd4
    obtain⟨_,hr4,hkl4,_⟩:=drop_cons hd4
    have HC3:=hide (takesY hP3 ⟨#[42]⟩ 4 (by omega) (Go.ByteArray.toList_mk [42]) hd4)
    rw[hd4,hr4]at HRR
    clear hd4 hr4 hP3
    go_wp2_with fail
    refine(unhide HC3).mono ?_;rintro e w4 ⟨rfl,hP4,hb4⟩
    have HB4:=hide ((unhide HB3).trans hb4)
    have hz4w:w3.heap.size<=w4.heap.size:=hb4.size
    clear hb4 HC3 HB3
    by_cases hd5: ∃r5,(tks L).drop (k+1+1+1+1)= .sy 1::r5
    ·obtain⟨r5,hd5⟩:=hd5
     obtain⟨_,hr5,hkl5,_⟩:=drop_cons hd5
     have HC4:=hide (needsY hP4 ⟨#[41]⟩ 1 (by omega) (Go.ByteArray.toList_mk [41]) hd5)
     rw[hd5,hr5,aggI_star]at HRR
     clear hd5 hr5 hP4
     go_wp2_with fail
     refine(unhide HC4).mono ?_;rintro e w5 ⟨rfl,hP5,hb5⟩
     have HB5:=hide ((unhide HB4).trans hb5)
     have HC5:=hide ((unhide HH).ta w5 (k+1+1+1+1+1) none 0 0 hP5 (by omega))
     have hz5w:w4.heap.size<=w5.heap.size:=hb5.size
     clear hb5 hP5 HC4 HB4
     go_wp2_with fail
     refine(unhide HC5).mono ?_
     rintro e w6 ⟨hb6,⟨hr6,rfl⟩ | ⟨ss,k6,qa,qc,hk6,hn6,hL6,hP6,⟨hr6,rfl⟩ | ⟨x,ty,u,hr6,rfl,hT6⟩⟩⟩
     ·have HR:Hid (RR=none):=by
       show RR=none
       rw[unhide HRR,hr6]
      have HB6:=hide ((unhide HB5).trans hb6)
      clear hb6 hr6 HC5
      go_wp2
      exact⟨rfl,unhide HB6,Or.inl ⟨unhide HR,rfl⟩⟩
     ·have HR:Hid (RR=some ([.mk 4 0 1 [] [] ss],(tks L).drop k6)):=by
       show RR=_
       rw[unhide HRR,hr6]
      have HB6:=hide ((unhide HB5).trans hb6)
      have HL6:=hide (hL6.wide (B':=w.heap.size) (by omega));have HP6:=hide hP6
      have HN6:=hide hn6
      clear hn6 hb6 hr6 hL6 hP6 HC5
      go_wp2
      go_ret
      obtain⟨vs,hR2,hT2⟩:=(unhide HL6).fin
      exact⟨unhide HB6,Or.inr ⟨_,k6,_,_,unhide HR,by omega,rfl,TV.agg 1 [] ss (unhide HN6) _ _ (fun _=>undef) vs (Or.inl ⟨rfl,rfl⟩) hR2 (by simp) hT2,unhide HP6⟩⟩
     ·have HR:Hid (RR=some ([.mk 4 0 1 [] [] (ss++[x])],(tks L).drop k6)):=by
       show RR=_
       rw[unhide HRR,hr6]
      have HB6:=hide ((unhide HB5).trans hb6)
      have HL6:=hide (hL6.wide (B':=w.heap.size) (by omega));have HP6:=hide hP6
      have HT6:=hide (hT6.wide (T:=fun b=>w.heap.size<=b) (fun b e _=>by omega))
      have HN6:=hide hn6
      clear hn6 hb6 hr6 hL6 hP6 hT6 HC5
      go_wp2
      go_ret
      obtain⟨vs,hR2,hT2⟩:=(unhide HL6).fin
      exact⟨unhide HB6,Or.inr ⟨_,k6,_,_,unhide HR,by omega,rfl,TV.aggW 1 [] ss (unhide HN6) x _ _ ty u (fun _=>undef) vs (Or.inl ⟨rfl,rfl⟩) hR2 (by simp) hT2 (unhide HT6),unhide HP6⟩⟩
    ·have HC4:=hide (needsN hP4 ⟨#[41]⟩ 1 (by omega) (Go.ByteArray.toList_mk [41]) (fun r e=>hd5 ⟨r,e⟩))
     have HR:Hid (RR=none):=by
      show RR=none
      rw[unhide HRR]
      exact aggI_starNo (fun r e=>hd5 ⟨r,e⟩)
     clear hd5 hP4
     go_wp2_with fail
     refine(unhide HC4).mono ?_;rintro e w5 ⟨rfl,hb5⟩
     have HB5:=hide ((unhide HB4).trans (ButB.ofBelow hb5))
     clear hb5 HC4
     go_wp2
     exact⟨rfl,unhide HB5,Or.inl ⟨unhide HR,rfl⟩⟩
   ·have HC3:=hide (takesN hP3 ⟨#[42]⟩ 4 (by omega) (Go.ByteArray.toList_mk [42]) (fun r e=>hd4 ⟨r,e⟩))
    rw[aggI_sc hj2 hj4 (fun _ r e=>hd4 ⟨r,e⟩)]at HRR
    have HP3:=hide hP3
    clear hd4 hP3
    go_wp2_with fail
    refine(unhide HC3).mono ?_;rintro e w4 ⟨rfl,hb4⟩
    have hP4:=(unhide HP3).of hb4
    have HB4:=hide ((unhide HB3).trans (ButB.ofBelow hb4))
    have hz4w:w3.heap.size<=w4.heap.size:=hb4.size
    clear hb4 HC3 HB3 HP3
    have HC4:=hide ((unhide HH).sc w4 (k+1+1+1) hP4 (by omega))
    clear hP4
    go_wp2_with fail
    refine(unhide HC4).mono ?_
    rintro e w5 ⟨hb5,⟨hr5,rfl⟩ | ⟨t,k5,ty,u,hr5,hk5,rfl,hT5,hP5⟩⟩
    ·have HR:Hid (RR=none):=by
      show RR=none
      rw[unhide HRR,hr5]
     have HB5:=hide ((unhide HB4).trans hb5)
     clear hb5 hr5 HC4
     go_wp2
     exact⟨rfl,unhide HB5,Or.inl ⟨unhide HR,rfl⟩⟩
    have HB5:=hide ((unhide HB4).trans hb5)
    have hz5w:w4.heap.size<=w5.heap.size:=hb5.size
    have HT5:Hid (TV w5 (fun b=>w.heap.size<=b/\blk none≠some b) t (.iface ty u)):=hT5.wide (fun b e _=>⟨by omega,by simp[blk]⟩)
    rw[hr5]at HRR
    have HP5:=hide hP5
    obtain⟨WA,hWA⟩: ∃WA,WA=w5.alloc (.cells #[.iface ty u] 48):=⟨_,rfl⟩
    have HWe:=hide hWA
    have hzB:w.heap.size<=w5.heap.size:=by omega
    clear hb5 hr5 hT5 hP5 hWA HC4 HB4
    go_upto_region 8 with(at_builtin;rw[<-unhide HWe];refine wpList_pushT WA rfl (.tmp 17) (.tmp 20) 72 rfl ti _ Tryz.underlying72 hti hz0 hz1 hz2 rfl w.heap.size none 0 [] rfl w5 (RL.nil _ _) t ty u (unhide HT5) (unhide HWe) 1 rfl (by simp) hzB ?_;intro ra rc w6 hl6 hb6;have HL6:=hide hl6;have HB6:=hide hb6;clear hl6 hb6)
    have hP6:PO w6 pb a c L k5:=(unhide HP5).but (unhide HB6) (fun b e=>by simp[blk]at e)
    have HB6':=hide ((unhide HB5).trans' (unhide HB6) (fun b e=>by simp[blk]at e))
    have hz6w:w5.heap.size<=w6.heap.size:=(unhide HB6).size
    clear HP5 HT5 HWe HB5 HB6
    by_cases hd6: ∃r6,(tks L).drop k5= .sy 1::r6
    ·obtain⟨r6,hd6⟩:=hd6
     obtain⟨_,hr6,hkl6,_⟩:=drop_cons hd6
     have HC6:=hide (needsY hP6 ⟨#[41]⟩ 1 (by omega) (Go.ByteArray.toList_mk [41]) hd6)
     rw[hd6,hr6]at HRR
     clear hd6 hr6 hP6
     go_wp2_with fail
     refine(unhide HC6).mono ?_;rintro e w7 ⟨rfl,hP7,hb7⟩
     have HB7:=hide ((unhide HB6').trans hb7)
     have HL7:=hide ((unhide HL6).but hb7 (fun b e=>by unfold atP at e;omega))
     have HC7:=hide ((unhide HH).ta w7 (k5+1) ra 1 rc hP7 (by omega))
     have hz7w:w6.heap.size<=w7.heap.size:=hb7.size
     clear hb7 hP7 HC6 HB6' HL6
     go_wp2_with fail
     refine(unhide HC7).mono ?_
     rintro e w8 ⟨hb8,⟨hr8,rfl⟩ | ⟨ss,k8,qa,qc,hk8,hn8,hL8,hP8,⟨hr8,rfl⟩ | ⟨x,ty2,u2,hr8,rfl,hT8⟩⟩⟩
     ·have HR:Hid (RR=none):=by
       show RR=none
       rw[unhide HRR]
       simp only[hr8]
      have HB8:=hide ((unhide HB7).trans hb8)
      clear hb8 hr8 HC7
      go_wp2
      exact⟨rfl,unhide HB8,Or.inl ⟨unhide HR,rfl⟩⟩
     ·have HR:Hid (RR=some ([.mk 4 1 2 [] [] (t::ss)],(tks L).drop k8)):=by
       show RR=_
       rw[unhide HRR]
       simp only[hr8]
       try rfl
      have HB8:=hide ((unhide HB7).trans hb8)
      have HL9:=hide ((unhide HL7).but hb8 (fun b e=>by unfold atP at e;omega))
      have HL8:=hide (hL8.wide (B':=w.heap.size) (by omega));have HP8:=hide hP8
      have HN8:=hide hn8
      clear hn8 hb8 hr8 hL8 hP8 HC7 HL7
      go_wp2
      go_ret
      obtain⟨us,hR1,hT1⟩:=(unhide HL9).fin
      obtain⟨vs,hR2,hT2⟩:=(unhide HL8).fin
      exact⟨unhide HB8,Or.inr ⟨_,k8,_,_,unhide HR,by omega,rfl,TV.agg 2 [t] ss (unhide HN8) _ _ us vs hR1 hR2 hT1 hT2,unhide HP8⟩⟩
     ·have HR:Hid (RR=some ([.mk 4 1 2 [] [] (t::(ss++[x]))],(tks L).drop k8)):=by
       show RR=_
       rw[unhide HRR]
       simp only[hr8]
       try rfl
      have HB8:=hide ((unhide HB7).trans hb8)
      have HL9:=hide ((unhide HL7).but hb8 (fun b e=>by unfold atP at e;omega))
      have HL8:=hide (hL8.wide (B':=w.heap.size) (by omega));have HP8:=hide hP8
      have HT8:=hide (hT8.wide (T:=fun b=>w.heap.size<=b) (fun b e _=>by omega))
      have HN8:=hide hn8
      clear hn8 hb8 hr8 hL8 hP8 hT8 HC7 HL7
      go_wp2
      go_ret
      obtain⟨us,hR1,hT1⟩:=(unhide HL9).fin
      obtain⟨vs,hR2,hT2⟩:=(unhide HL8).fin
      exact⟨unhide HB8,Or.inr ⟨_,k8,_,_,unhide HR,by omega,rfl,TV.aggW 2 [t] ss (unhide HN8) x _ _ ty2 u2 us vs hR1 hR2 hT1 hT2 (unhide HT8),unhide HP8⟩⟩
    ·have HC6:=hide (needsN hP6 ⟨#[41]⟩ 1 (by omega) (Go.ByteArray.toList_mk [41]) (fun r e=>hd6 ⟨r,e⟩))
     have HR:Hid (RR=none):=by
      show RR=none
      rw[unhide HRR]
      cases hq:(tks L).drop k5 with
      | nil=>rfl
      | cons t' r'=>
       split
       ·rename_i e
        simp only[Option.some.injEq,Prod.mk.injEq,List.cons.injEq]at e
        exact absurd ⟨_,by rw[hq,e.2.1]⟩ hd6
       ·rfl
     clear hd6 hP6
     go_wp2_with fail
     refine(unhide HC6).mono ?_;rintro e w7 ⟨rfl,hb7⟩
     have HB7:=hide ((unhide HB6').trans (ButB.ofBelow hb7))
     clear hb7 HC6
     go_wp2
     exact⟨rfl,unhide HB7,Or.inl ⟨unhide HR,rfl⟩⟩
  ·have jj:((j:Int)==2)=false:=beq_eq_false_iff_ne.2 (by omega)
   have jj2: ¬(j:Int)=2:=by omega
   rw[aggI_sc hj2 hj4 (fun e=>absurd e hj)]at HRR
   have hP4:=hP3
   have HB4:=HB3
   have hz4w:w3.heap.size<=w3.heap.size:=Nat.le_refl _
   clear hP3 HB3 hj
   have HC4:=hide ((unhide HH).sc w3 (k+1+1+1) hP4 (by omega))
   clear hP4
   go_wp2_with fail
   refine(unhide HC4).mono ?_
   rintro e w5 ⟨hb5,⟨hr5,rfl⟩ | ⟨t,k5,ty,u,hr5,hk5,rfl,hT5,hP5⟩⟩
   ·have HR:Hid (RR=none):=by
     show RR=none
     rw[unhide HRR,hr5]
    have HB5:=hide ((unhide HB4).trans hb5)
    clear hb5 hr5 HC4
    go_wp2
    exact⟨rfl,unhide HB5,Or.inl ⟨unhide HR,rfl⟩⟩
   have HB5:=hide ((unhide HB4).trans hb5)
   have hz5w:w3.heap.size<=w5.heap.size:=hb5.size
   have HT5:Hid (TV w5 (fun b=>w.heap.size<=b/\blk none≠some b) t (.iface ty u)):=hT5.wide (fun b e _=>⟨by omega,by simp[blk]⟩)
   rw[hr5]at HRR
   have HP5:=hide hP5
   obtain⟨WA,hWA⟩: ∃WA,WA=w5.alloc (.cells #[.iface ty u] 48):=⟨_,rfl⟩
   have HWe:=hide hWA
   have hzB:w.heap.size<=w5.heap.size:=by omega
   clear hb5 hr5 hT5 hP5 hWA HC4 HB4
   go_upto_region 8 with(at_builtin;rw[<-unhide HWe];refine wpList_pushT WA rfl (.tmp 17) (.tmp 20) 72 rfl ti _ Tryz.underlying72 hti hz0 hz1 hz2 rfl w.heap.size none 0 [] rfl w5 (RL.nil _ _) t ty u (unhide HT5) (unhide HWe) 1 rfl (by simp) hzB ?_;intro ra rc w6 hl6 hb6;have HL6:=hide hl6;have HB6:=hide hb6;clear hl6 hb6)
   have hP6:PO w6 pb a c L k5:=(unhide HP5).but (unhide HB6) (fun b e=>by simp[blk]at e)
   have HB6':=hide ((unhide HB5).trans' (unhide HB6) (fun b e=>by simp[blk]at e))
   have hz6w:w5.heap.size<=w6.heap.size:=(unhide HB6).size
   clear HP5 HT5 HWe HB5 HB6
   by_cases hd6: ∃r6,(tks L).drop k5= .sy 1::r6
   ·obtain⟨r6,hd6⟩:=hd6
    obtain⟨_,hr6,hkl6,_⟩:=drop_cons hd6
    have HC6:=hide (needsY hP6 ⟨#[41]⟩ 1 (by omega) (Go.ByteArray.toList_mk [41]) hd6)
    rw[hd6,hr6]at HRR
    clear hd6 hr6 hP6
    go_wp2_with fail
    refine(unhide HC6).mono ?_;rintro e w7 ⟨rfl,hP7,hb7⟩
    have HB7:=hide ((unhide HB6').trans hb7)
    have HL7:=hide ((unhide HL6).but hb7 (fun b e=>by unfold atP at e;omega))
    have HC7:=hide ((unhide HH).ta w7 (k5+1) ra 1 rc hP7 (by omega))
    have hz7w:w6.heap.size<=w7.heap.size:=hb7.size
    clear hb7 hP7 HC6 HB6' HL6
    go_wp2_with fail
    refine(unhide HC7).mono ?_
    rintro e w8 ⟨hb8,⟨hr8,rfl⟩ | ⟨ss,k8,qa,qc,hk8,hn8,hL8,hP8,⟨hr8,rfl⟩ | ⟨x,ty2,u2,hr8,rfl,hT8⟩⟩⟩
    ·have HR:Hid (RR=none):=by
      show RR=none
      rw[unhide HRR]
      simp only[hr8]
     have HB8:=hide ((unhide HB7).trans hb8)
     clear hb8 hr8 HC7
     go_wp2
     exact⟨rfl,unhide HB8,Or.inl ⟨unhide HR,rfl⟩⟩
    ·have HR:Hid (RR=some ([.mk 4 1 (j:Int) [] [] (t::ss)],(tks L).drop k8)):=by
      show RR=_
      rw[unhide HRR]
      simp only[hr8]
      try rfl
     have HB8:=hide ((unhide HB7).trans hb8)
     have HL9:=hide ((unhide HL7).but hb8 (fun b e=>by unfold atP at e;omega))
     have HL8:=hide (hL8.wide (B':=w.heap.size) (by omega));have HP8:=hide hP8
     have HN8:=hide hn8
     clear hn8 hb8 hr8 hL8 hP8 HC7 HL7
     go_wp2
     go_ret
     obtain⟨us,hR1,hT1⟩:=(unhide HL9).fin
     obtain⟨vs,hR2,hT2⟩:=(unhide HL8).fin
     exact⟨unhide HB8,Or.inr ⟨_,k8,_,_,unhide HR,by omega,rfl,TV.agg (j:Int) [t] ss (unhide HN8) _ _ us vs hR1 hR2 hT1 hT2,unhide HP8⟩⟩
    ·have HR:Hid (RR=some ([.mk 4 1 (j:Int) [] [] (t::(ss++[x]))],(tks L).drop k8)):=by
      show RR=_
      rw[unhide HRR]
      simp only[hr8]
      try rfl
     have HB8:=hide ((unhide HB7).trans hb8)
     have HL9:=hide ((unhide HL7).but hb8 (fun b e=>by unfold atP at e;omega))
     have HL8:=hide (hL8.wide (B':=w.heap.size) (by omega));have HP8:=hide hP8
     have HT8:=hide (hT8.wide (T:=fun b=>w.heap.size<=b) (fun b e _=>by omega))
     have HN8:=hide hn8
     clear hn8 hb8 hr8 hL8 hP8 hT8 HC7 HL7
     go_wp2
     go_ret
     obtain⟨us,hR1,hT1⟩:=(unhide HL9).fin
     obtain⟨vs,hR2,hT2⟩:=(unhide HL8).fin
     exact⟨unhide HB8,Or.inr ⟨_,k8,_,_,unhide HR,by omega,rfl,TV.aggW (j:Int) [t] ss (unhide HN8) x _ _ ty2 u2 us vs hR1 hR2 hT1 hT2 (unhide HT8),unhide HP8⟩⟩
   ·have HC6:=hide (needsN hP6 ⟨#[41]⟩ 1 (by omega) (Go.ByteArray.toList_mk [41]) (fun r e=>hd6 ⟨r,e⟩))
    have HR:Hid (RR=none):=by
     show RR=none
     rw[unhide HRR]
     cases hq:(tks L).drop k5 with
     | nil=>rfl
     | cons t' r'=>
      split
      ·rename_i e
       simp only[Option.some.injEq,Prod.mk.injEq,List.cons.injEq]at e
       exact absurd ⟨_,by rw[hq,e.2.1]⟩ hd6
      ·rfl
    clear hd6 hP6
    go_wp2_with fail
    refine(unhide HC6).mono ?_;rintro e w7 ⟨rfl,hb7⟩
    have HB7:=hide ((unhide HB6').trans (ButB.ofBelow hb7))
    clear hb7 HC6
    go_wp2
    exact⟨rfl,unhide HB7,Or.inl ⟨unhide HR,rfl⟩⟩
 ·have HR:Hid (RR=none):=by
   show RR=none
   rw[hRR]
   exact aggI_no (fun r e=>hd ⟨r,e⟩)
  have HC:=hide (needsN h ⟨#[83,69,76,69,67,84]⟩ 11 (by omega) (Go.ByteArray.toList_mk [83,69,76,69,67,84]) (fun r e=>hd ⟨r,e⟩))
  clear h hd hRR H
  go_enter Tryz.func102,Tryz.ntmps102
  go_wp2_with fail
  refine(unhide HC).mono ?_;rintro e w1 ⟨rfl,hb1⟩
  have HB1:=hide hb1
  clear hb1 HC
  go_wp2
  exact⟨rfl,ButB.ofBelow (unhide HB1),Or.inl ⟨unhide HR,rfl⟩⟩
end Go.Proofs.YtmggnimiioepeaaGreatDoor.Pa
namespace Go.Proofs.YtmggnimiioepeaaGreatDoor.Pa
open Go Go.RowKit
theorem scal_nam{f:Nat}{s:List UInt8}{r:List Tok}:iP (f+1) .scal (.nam s::r)=colF (.nam s::r):=by
 show(match r with | .sy 3:: .num v::r1=>if 0<=v then some ([rCol s v],r1)else none | _=>none)=_
 unfold colF
 split
 ·rfl
 ·rename_i hx
  split
  ·rename_i e
   simp only[List.cons.injEq,Tok.nam.injEq]at e
   exact absurd e.2 (hx _ _)
  ·rfl
theorem scal_else{f:Nat}{ts:List Tok}(h1: ∀v r,ts≠ .num v::r)(h2: ∀s r,ts≠ .nam s::r)(h3: ∀r,ts≠ .sy 24::r):iP (f+1) .scal ts=brkL (aggI (iP f .scal) (iP f .tail)) ts:=by
 by_cases h: ∃r,ts= .sy 0::r
 ·obtain⟨r,rfl⟩:=h
  rw[brk_agg]
  rfl
 ·rw[brkL_no (fun r e=>h ⟨r,e⟩)]
  show(match ts with | .num v::r=>some ([rInt v],r) | .nam s::r=>(match r with | .sy 3:: .num v::r1=>if 0<=v then some ([rCol s v],r1)else none | _=>none) | .sy 24::r=>some ([rNull],r) | .sy 0::r=>aggF (iP f .scal) (iP f .tail) r | _=>none)=none
  split
  ·exact absurd rfl (h1 _ _)
  ·exact absurd rfl (h2 _ _)
  ·exact absurd rfl (h3 _)
  ·exact absurd ⟨_,rfl⟩ h
  ·rfl
set_option maxHeartbeats 8000000 in
set_option maxRecDepth 100000 in
theorem scalar_calls{w:World}{pb:Nat}{a:Option Addr}{c:Nat}{L:List (Tok×ByteArray)}{k:Nat}(h:PO w pb a c L k)(f:Nat)(hf:8*(L.length-k)<f+1)(H:IHyp pb a c L f):Calls Tryz.prog 90 #[.pointer (some ⟨pb,0,none⟩)] w (IE w pb a c L k (iP (f+1) .scal ((tks L).drop k))):=by
 obtain⟨RR,hRR⟩: ∃RR,RR=iP (f+1) .scal ((tks L).drop k):=⟨_,rfl⟩
 rw[<-hRR]
 have hpw:=h.p.lt
 have hkm:k<=100000:=by have:=h.le;have:=h.lm;omega
 by_cases hn: ∃v r,(tks L).drop k= .num v::r
 ·obtain⟨v,r,hd⟩:=hn
  obtain⟨_,hr,hkl,_⟩:=drop_cons hd
  obtain⟨T,hT⟩:=hd_num hd
  have HC:=hide (ahead_gen h 0 (by omega) 3 v T hT)
  have HR:Hid (RR=some ([rInt v],(tks L).drop (k+1))):=by
   show RR=_
   rw[hRR,hd,hr]
   rfl
  have HP:=hide h
  clear h hd hr hRR H hT
  go_enter Tryz.func90,Tryz.ntmps90
  go_wp2_with fail
  refine(unhide HC).mono ?_;rintro e w1 ⟨rfl,hb1⟩
  have HB1:=hide hb1
  have hP1:=(unhide HP).of hb1
  have hz1:w.heap.size<=w1.heap.size:=hb1.size
  clear hb1 HC
  go_upto_region 3 with fail
  obtain⟨w2,hw2⟩: ∃w2,w2=w1.alloc (.cells #[.int .i64 3,.string T,.int .i64 v] 68):=⟨_,rfl⟩
  have hb2:Below w1.heap.size w1 w2:=by rw[hw2];exact bA (Below.refl _ _) _
  have hc2:CellsAt w2 w1.heap.size [.int .i64 3,.string T,.int .i64 v]:=by rw[hw2];exact CellsAt.new w1 [.int .i64 3,.string T,.int .i64 v] 68
  have hP2:=hP1.of hb2
  rw[<-hw2]
  have c1:=hP2.p.c1
  have hf1:=hP2.fz
  have hp1:=hP2.p.lt
  obtain⟨t0,t1,t2⟩:w2.cell? ⟨w1.heap.size,0,none⟩=some (.int .i64 3)/\w2.cell? ⟨w1.heap.size,1,none⟩=some (.string T)/\w2.cell? ⟨w1.heap.size,2,none⟩=some (.int .i64 v):=⟨hc2.all 0 _ rfl,hc2.all 1 _ rfl,hc2.all 2 _ rfl⟩
  have hz2:w1.heap.size<w2.heap.size:=hc2.lt
  have n1: ¬pb=w1.heap.size:=by omega
  obtain⟨w3,hw3⟩: ∃w3,w3=w2.setCell ⟨pb,1,none⟩ (.int .i64 ((k:Int)+1)):=⟨_,rfl⟩
  have r2:w3.cell? ⟨w1.heap.size,2,none⟩=some (.int .i64 v):=by rw[hw3,setCell_farN n1];exact t2
  have hB3:ButB (atP pb) w2 w3:=by
   rw[hw3]
   exact ButB.set (S:=atP pb) (ButB.refl _ _) (Or.inl rfl) _
  have hz3:w1.heap.size<w3.heap.size:=Nat.lt_of_lt_of_le hz2 hB3.size
  have HP3:Hid (PO w3 pb a c L (k+1)):=by
   show PO _ _ _ _ _ _
   refine hP2.step ?_ hB3 (by rw[hw3,frozen_setCellN];exact hf1) hkl
   rw[hw3,show(k:Int)+1=((k+1:Nat):Int)by omega]
   exact hP2.p.step (fun g e=>Nat.ne_of_lt (hP2.ne g e))
  have HB3:=hide (((ButB.ofBelow (unhide HB1)).trans (ButB.ofBelow hb2)).trans hB3)
  have HW3:=hide hw3
  clear hw2 hw3 hb2 hc2 hP2 hP1 hB3 HB1
  go_upto_region 4 with fail
  rw[<-unhide HW3]
  clear c1 hf1 hp1 t0 t1 t2 HW3
  go_wp2
  go_ret
  exact⟨unhide HB3,Or.inr ⟨rInt v,k+1,_,_,unhide HR,by omega,rfl,TV.int v,unhide HP3⟩⟩
 by_cases hm: ∃s r,(tks L).drop k= .nam s::r
 ·obtain⟨s,r,hd⟩:=hm
  have HC:=hide (ahead_gen h 0 (by omega) 2 0 ⟨s.toArray⟩ (hd_nam h.p.toks hd))
  have HR:Hid (RR=colF ((tks L).drop k)):=by
   show RR=_
   rw[hRR,hd]
   exact scal_nam
  have HP:=hide h;have HD:=hide hd
  clear h hd hRR H hn
  go_enter Tryz.func90,Tryz.ntmps90
  go_wp2_with fail
  refine(unhide HC).mono ?_;rintro e w1 ⟨rfl,hb1⟩
  have HB1:=hide hb1
  have HP1:=hide ((unhide HP).of (bA hb1 (.cells #[.int .i64 2,.string ⟨s.toArray⟩,.int .i64 0] 68)))
  have hz1:w.heap.size<=w1.heap.size:=hb1.size
  clear hb1 HC
  go_wp2_with fail
  refine(column_calls (unhide HP1) (unhide HD)).mono ?_
  rintro e w2 ⟨hb2,⟨hr2,rfl⟩ | ⟨t,k2,ty,u,hr2,hk2,rfl,hT2,hP2⟩⟩
  ·have HR2:=hide ((unhide HR).trans hr2)
   have HB2:=hide ((ButB.ofBelow (S:=atP pb) (bA (unhide HB1) (.cells #[.int .i64 2,.string ⟨s.toArray⟩,.int .i64 0] 68))).trans hb2)
   clear hb2 hr2
   go_wp2
   exact⟨rfl,unhide HB2,Or.inl ⟨unhide HR2,rfl⟩⟩
  ·have HR2:=hide ((unhide HR).trans hr2)
   have HB2:=hide ((ButB.ofBelow (S:=atP pb) (bA (unhide HB1) (.cells #[.int .i64 2,.string ⟨s.toArray⟩,.int .i64 0] 68))).trans hb2)
   have HT2:=hide (hT2.wide (T:=fun b=>w.heap.size<=b) (fun b e _=>by simp at e;omega));have HP2:=hide hP2
   clear hb2 hr2 hT2 hP2
   go_wp2
   go_ret
   exact⟨unhide HB2,Or.inr ⟨t,k2,ty,u,unhide HR2,hk2,rfl,unhide HT2,unhide HP2⟩⟩
 obtain⟨K,T,V,hv,hK2,hK3⟩: ∃K T V,HdV L k K T V/\K≠2/\K≠3:=by
  cases hd:(tks L).drop k with
  | nil=>exact⟨0,_,_,hd_nil hd,by omega,by omega⟩
  | cons t r=>
   cases t with
   | nam s=>exact absurd ⟨s,r,hd⟩ hm
   | num v=>exact absurd ⟨v,r,hd⟩ hn
   | sy q=>obtain⟨_,K,T,h1,h2,_⟩:=hd_sy h.p.toks hd;exact⟨K,T,0,h1,by omega,by omega⟩
 have HC:=hide (ahead_gen h 0 (by omega) K V T hv)
 have k2:(K==2)=false:=beq_eq_false_iff_ne.2 hK2
 have k3:(K==3)=false:=beq_eq_false_iff_ne.2 hK3
 clear hv hK2 hK3
 by_cases hu: ∃r,(tks L).drop k= .sy 24::r
 ·obtain⟨r,hd⟩:=hu
  obtain⟨_,hr,hkl,_⟩:=drop_cons hd
  have HR:Hid (RR=some ([rNull],(tks L).drop (k+1))):=by
   show RR=_
   rw[hRR,hd,hr]
   rfl
  have HC2:=hide (fun w1 (hb:Below w.heap.size w w1)=>takesY (h.of hb) ⟨#[78,85,76,76]⟩ 24 (by omega) (Go.ByteArray.toList_mk [78,85,76,76]) hd)
  clear h hd hr hRR H hn hm
  go_enter Tryz.func90,Tryz.ntmps90
  go_wp2_with fail
  refine(unhide HC).mono ?_;rintro e w1 ⟨rfl,hb1⟩
  have HB1:=hide (bA hb1 (.cells #[.int .i64 K,.string T,.int .i64 V] 68))
  clear hb1 HC
  go_wp2_with fail
  refine(unhide HC2 _ (unhide HB1)).mono ?_;rintro e w2 ⟨rfl,hP2,hb2⟩
  have HP2:=hide hP2
  have HB2:=hide ((ButB.ofBelow (S:=atP pb) (unhide HB1)).trans hb2)
  clear hP2 hb2
  go_wp2
  go_ret
  exact⟨unhide HB2,Or.inr ⟨rNull,k+1,_,_,unhide HR,by omega,rfl,TV.null,unhide HP2⟩⟩
 ·have HR:Hid (RR=brkL (aggI (iP f .scal) (iP f .tail)) ((tks L).drop k)):=by
   show RR=_
   rw[hRR]
   exact scal_else (fun v r e=>hn ⟨v,r,e⟩) (fun s r e=>hm ⟨s,r,e⟩) (fun r e=>hu ⟨r,e⟩)
  have HC2:=hide (fun w1 (hb:Below w.heap.size w w1)=>takesN (h.of hb) ⟨#[78,85,76,76]⟩ 24 (by omega) (Go.ByteArray.toList_mk [78,85,76,76]) (fun r e=>hu ⟨r,e⟩))
  have HC3:=hide (fun w1 (hb:Below w.heap.size w w1)=>bracketed_calls (h.of hb) 102 (fun _ _=>by kernel_rfl) (aggI (iP f .scal) (iP f .tail)) (fun W hW=>aggregate_calls hW f (by have:=hW.le;omega) H))
  clear h hRR H hn hm hu
  go_enter Tryz.func90,Tryz.ntmps90
  go_wp2_with fail
  refine(unhide HC).mono ?_;rintro e w1 ⟨rfl,hb1⟩
  have HB1:=hide (bA hb1 (.cells #[.int .i64 K,.string T,.int .i64 V] 68))
  clear hb1 HC
  go_wp2_with fail
  refine(unhide HC2 _ (unhide HB1)).mono ?_;rintro e w2 ⟨rfl,hb2⟩
  have HB2:=hide (bT (unhide HB1) hb2)
  clear hb2
  go_wp2_with fail
  refine(unhide HC3 _ (unhide HB2)).mono ?_
  rintro e w3 ⟨hb3,⟨hr3,rfl⟩ | ⟨t,k3,ty,u,hr3,hk3,rfl,hT3,hP3⟩⟩
  ·have HR3:=hide ((unhide HR).trans hr3)
   have HB3:=hide ((ButB.ofBelow (S:=atP pb) (unhide HB2)).trans hb3)
   clear hb3 hr3
   go_wp2
   exact⟨rfl,unhide HB3,Or.inl ⟨unhide HR3,rfl⟩⟩
  ·have HR3:=hide ((unhide HR).trans hr3)
   have HB3:=hide ((ButB.ofBelow (S:=atP pb) (unhide HB2)).trans hb3)
   have hz2:w.heap.size<=w2.heap.size:=(unhide HB2).size
   have HT3:=hide (hT3.wide (T:=fun b=>w.heap.size<=b) (fun b e _=>by omega));have HP3:=hide hP3
   clear hb3 hr3 hT3 hP3
   go_wp2
   go_ret
   exact⟨unhide HB3,Or.inr ⟨t,k3,ty,u,unhide HR3,hk3,rfl,unhide HT3,unhide HP3⟩⟩
end Go.Proofs.YtmggnimiioepeaaGreatDoor.Pa
