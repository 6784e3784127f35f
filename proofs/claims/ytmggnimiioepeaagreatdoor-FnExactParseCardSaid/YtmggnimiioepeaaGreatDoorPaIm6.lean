import Derived.Test.YtmggnimiioepeaaGreatDoorQ0
import Derived.Test.YtmggnimiioepeaaGreatDoorQ20
namespace Go.Proofs.YtmggnimiioepeaaGreatDoor.Pa
open Go Go.RowKit
theorem RL.head{B:Nat}{w:World}{ga:Option Addr}{gc:Nat}{t:Rt}{l:List Rt}(h:RL B w ga gc (t::l)): ∃g ty u,ga=some ⟨g,0,none⟩/\g<w.heap.size/\w.cell? ⟨g,0,none⟩=some (.iface ty u)/\TV w (fun b=>B<=b) t (.iface ty u):=by
 obtain⟨us,hR,hT⟩:=h.fin
 have h0:=hT 0 t rfl
 obtain⟨ty,u,e⟩:=h0.form
 rcases hR with⟨e1,_⟩ | ⟨g,c,e1,_,_,e2,e3⟩
 ·simp at e1
 ·simp only[Value.slice.injEq]at e1
  obtain⟨rfl,_,_⟩:=e1
  have:=e3 0 (by simp)
  rw[e]at this h0
  exact⟨g,ty,u,rfl,e2,this,h0⟩
set_option maxHeartbeats 4000000 in
set_option maxRecDepth 100000 in
theorem cond_calls{w:World}{pb:Nat}{a:Option Addr}{c:Nat}{L:List (Tok×ByteArray)}{k:Nat}(h:PO w pb a c L k)(f:Nat)(hf:5+8*(L.length-k)<f+1)(H: ∀g,g<=f->IHyp pb a c L g):Calls Tryz.prog 104 #[.pointer (some ⟨pb,0,none⟩)] w (IE w pb a c L k (iP (f+1) .cond ((tks L).drop k))):=by
 obtain⟨RR,hRR⟩: ∃RR,RR=iP (f+1) .cond ((tks L).drop k):=⟨_,rfl⟩
 rw[<-hRR]
 have hR0:RR=joinF 15 (iP f .conjs ((tks L).drop k)):=hRR
 obtain⟨f',rfl⟩: ∃f',f=f'+1:=⟨f-1,by omega⟩
 have HC:=hide (list_calls h 111 (fun _ _=>by kernel_rfl) .conj .conjs ⟨#[79,82]⟩ 19 (by omega) (Go.ByteArray.toList_mk [79,82]) f' (by simp only[rank];omega) (fun _ _=>rfl) (fun g W k' hg hgf hP=>(H g (by omega)).cj W k' hP (by simp only[rank]at hgf;omega)))
 have HRR:=hide hR0
 clear h H hRR hR0
 go_enter Tryz.func104,Tryz.ntmps104
 go_wp2_with fail
 refine(unhide HC).mono ?_
 rintro e w2 ⟨hb2,⟨hr2,rfl⟩ | ⟨ts,k2,ga,gc,hr2,hne2,hk2,rfl,hL2,hP2⟩⟩
 ·have HR:Hid (RR=none):=by
   show RR=none
   rw[unhide HRR,hr2]
   rfl
  have HB2:=hide hb2
  clear hb2 hr2 HC
  go_wp2
  exact⟨rfl,unhide HB2,Or.inl ⟨unhide HR,rfl⟩⟩
 have HB2:=hide hb2;have HP2:=hide hP2
 rw[hr2]at HRR
 clear hb2 hP2 hr2 HC
 match ts,hne2,hL2 with
 | [],hne2,_=>exact absurd rfl hne2
 | [t],_,hL2=>
  obtain⟨g,ty,u,rfl,hg,hc,hT⟩:=hL2.head
  have HT:=hide hT
  clear hL2 hT
  go_wp2
  go_ret
  exact⟨unhide HB2,Or.inr ⟨t,k2,ty,u,unhide HRR,hk2,rfl,unhide HT,unhide HP2⟩⟩
 | t::v::l,_,hL2=>
  have HL2:=hide hL2
  clear hL2
  have jn: ¬(((t::v::l).length:Int)=1):=by simp;omega
  have jb:(((t::v::l).length:Int)==1)=false:=beq_eq_false_iff_ne.2 jn
  have HRs:Hid (RR=some ([.mk 15 0 0 [] [] (t::v::l)],(tks L).drop k2)):=unhide HRR
  generalize hts:t::v::l=ts at*
  clear hts jn
  go_wp2
  go_ret
  obtain⟨us,hR,hT⟩:=(unhide HL2).fin
  exact⟨unhide HB2,Or.inr ⟨_,k2,_,_,unhide HRs,hk2,rfl,TV.row 15 145 (by simp) ts _ us hR hT,unhide HP2⟩⟩
set_option maxHeartbeats 4000000 in
set_option maxRecDepth 100000 in
theorem conj_calls{w:World}{pb:Nat}{a:Option Addr}{c:Nat}{L:List (Tok×ByteArray)}{k:Nat}(h:PO w pb a c L k)(f:Nat)(hf:3+8*(L.length-k)<f+1)(H: ∀g,g<=f->IHyp pb a c L g):Calls Tryz.prog 111 #[.pointer (some ⟨pb,0,none⟩)] w (IE w pb a c L k (iP (f+1) .conj ((tks L).drop k))):=by
 obtain⟨RR,hRR⟩: ∃RR,RR=iP (f+1) .conj ((tks L).drop k):=⟨_,rfl⟩
 rw[<-hRR]
 have hR0:RR=joinF 14 (iP f .prims ((tks L).drop k)):=hRR
 obtain⟨f',rfl⟩: ∃f',f=f'+1:=⟨f-1,by omega⟩
 have HC:=hide (list_calls h 113 (fun _ _=>by kernel_rfl) .prim .prims ⟨#[65,78,68]⟩ 18 (by omega) (Go.ByteArray.toList_mk [65,78,68]) f' (by simp only[rank];omega) (fun _ _=>rfl) (fun g W k' hg hgf hP=>(H g (by omega)).pr W k' hP (by simp only[rank]at hgf;omega)))
 have HRR:=hide hR0
 clear h H hRR hR0
 go_enter Tryz.func111,Tryz.ntmps111
 go_wp2_with fail
 refine(unhide HC).mono ?_
 rintro e w2 ⟨hb2,⟨hr2,rfl⟩ | ⟨ts,k2,ga,gc,hr2,hne2,hk2,rfl,hL2,hP2⟩⟩
 ·have HR:Hid (RR=none):=by
   show RR=none
   rw[unhide HRR,hr2]
   rfl
  have HB2:=hide hb2
  clear hb2 hr2 HC
  go_wp2
  exact⟨rfl,unhide HB2,Or.inl ⟨unhide HR,rfl⟩⟩
 have HB2:=hide hb2;have HP2:=hide hP2
 rw[hr2]at HRR
 clear hb2 hP2 hr2 HC
 match ts,hne2,hL2 with
 | [],hne2,_=>exact absurd rfl hne2
 | [t],_,hL2=>
  obtain⟨g,ty,u,rfl,hg,hc,hT⟩:=hL2.head
  have HT:=hide hT
  clear hL2 hT
  go_wp2
  go_ret
  exact⟨unhide HB2,Or.inr ⟨t,k2,ty,u,unhide HRR,hk2,rfl,unhide HT,unhide HP2⟩⟩
 | t::v::l,_,hL2=>
  have HL2:=hide hL2
  clear hL2
  have jn: ¬(((t::v::l).length:Int)=1):=by simp;omega
  have jb:(((t::v::l).length:Int)==1)=false:=beq_eq_false_iff_ne.2 jn
  have HRs:Hid (RR=some ([.mk 14 0 0 [] [] (t::v::l)],(tks L).drop k2)):=unhide HRR
  generalize hts:t::v::l=ts at*
  clear hts jn
  go_wp2
  go_ret
  obtain⟨us,hR,hT⟩:=(unhide HL2).fin
  exact⟨unhide HB2,Or.inr ⟨_,k2,_,_,unhide HRs,hk2,rfl,TV.row 14 150 (by simp) ts _ us hR hT,unhide HP2⟩⟩
theorem selF_bad{M:Int}{scs ta:List Tok->Option (List Rt×List Tok)}{ts:List Tok}(h:scs ts=none):selF M scs ta ts=none:=by
 unfold selF
 rw[h]
theorem selF_bad2{M:Int}{scs ta:List Tok->Option (List Rt×List Tok)}{ts r:List Tok}{l:List Rt}(h:scs ts=some (l,r))(h2:ta r=none):selF M scs ta ts=none:=by
 unfold selF
 rw[h]
 simp only[h2]
theorem selF_yes{M:Int}{scs ta:List Tok->Option (List Rt×List Tok)}{ts r r1:List Tok}{l ks:List Rt}(h:scs ts=some (l,r))(h2:ta r=some (ks,r1)):selF M scs ta ts=some ([.mk 6 l.length M [] [] (l++ks)],r1):=by
 unfold selF
 rw[h]
 simp only[h2]
theorem sel_no{f:Nat}{ts:List Tok}(h: ∀r,ts≠ .sy 11::r):iP (f+1) .sel ts=none:=by
 show(match ts with | .sy 11:: .sy 12::r=>selF 1 (iP f .scals) (iP f .tail) r | .sy 11::r=>selF 0 (iP f .scals) (iP f .tail) r | _=>none)=none
 split
 ·exact absurd rfl (h _)
 ·exact absurd rfl (h _)
 ·rfl
theorem sel_0{f:Nat}{r:List Tok}(h: ∀r',r≠ .sy 12::r'):iP (f+1) .sel (.sy 11::r)=selF 0 (iP f .scals) (iP f .tail) r:=by
 show(match Tok.sy 11::r with | .sy 11:: .sy 12::r=>selF 1 (iP f .scals) (iP f .tail) r | .sy 11::r=>selF 0 (iP f .scals) (iP f .tail) r | _=>none)=_
 split
 ·rename_i e
  simp only[List.cons.injEq,true_and]at e
  exact absurd e (h _)
 ·rename_i e
  simp only[List.cons.injEq,true_and]at e
  rw[e]
 ·rename_i h2
  exact absurd rfl (h2 r)
set_option maxHeartbeats 8000000 in
set_option maxRecDepth 100000 in
theorem selection_calls{w:World}{pb:Nat}{a:Option Addr}{c:Nat}{L:List (Tok×ByteArray)}{k:Nat}(h:PO w pb a c L k)(f:Nat)(hf:8*(L.length-k)<f+1)(H: ∀g,g<=f->IHyp pb a c L g):Calls Tryz.prog 68 #[.pointer (some ⟨pb,0,none⟩)] w (IE w pb a c L k (iP (f+1) .sel ((tks L).drop k))):=by
 obtain⟨RR,hRR⟩: ∃RR,RR=iP (f+1) .sel ((tks L).drop k):=⟨_,rfl⟩
 rw[<-hRR]
 have hpw:=h.p.lt
 by_cases hd: ∃r,(tks L).drop k= .sy 11::r
 ·obtain⟨r,hd⟩:=hd
  obtain⟨_,hr,hkl,_⟩:=drop_cons hd
  rw[hd,hr]at hRR
  have HC:=hide (needsY h ⟨#[83,69,76,69,67,84]⟩ 11 (by omega) (Go.ByteArray.toList_mk [83,69,76,69,67,84]) hd)
  obtain⟨f',rfl⟩: ∃f',f=f'+1:=⟨f-1,by omega⟩
  have HLi:Hid (∀w1 k1,k<k1->PO w1 pb a c L k1->Calls Tryz.prog 89 #[.pointer (some ⟨pb,0,none⟩),.string ⟨#[44]⟩,.func (.func 90) #[.pointer (some ⟨pb,0,none⟩)] #[]] w1 (LE w1 pb a c L k1 (iP (f'+1) .scals ((tks L).drop k1)))):=fun w1 k1 hk1 h1=>
   list_calls h1 90 (fun _ _=>by kernel_rfl) .scal .scals ⟨#[44]⟩ 2 (by omega) (Go.ByteArray.toList_mk [44]) f' (by simp only[rank];omega) (fun _ _=>rfl) (fun g W k' hg hgf hP=>(H g (by omega)).sc W k' hP (by simp only[rank]at hgf;omega))
  have HH:=hide H;have HRR:=hide hRR
  clear h hd hr hRR H
  go_enter Tryz.func68,Tryz.ntmps68
  go_wp2_with fail
  refine(unhide HC).mono ?_;rintro e w1 ⟨rfl,hP1,hb1⟩
  have HB1:=hide hb1
  have hz1:w.heap.size<=w1.heap.size:=hb1.size
  clear hb1 HC
  by_cases hd2: ∃r2,(tks L).drop (k+1)= .sy 12::r2
  ·obtain⟨r2,hd2⟩:=hd2
   obtain⟨_,hr2,hkl2,_⟩:=drop_cons hd2
   have HC2:=hide (takesY hP1 ⟨#[68,73,83,84,73,78,67,84]⟩ 12 (by omega) (Go.ByteArray.toList_mk [68,73,83,84,73,78,67,84]) hd2)
   have HR0:Hid (RR=selF 1 (iP (f'+1) .scals) (iP (f'+1) .tail) ((tks L).drop (k+1+1))):=by
    show RR=_
    rw[unhide HRR,hd2,hr2]
    rfl
   clear hd2 hr2 hP1 HRR
   go_wp2_with fail
   refine(unhide HC2).mono ?_;rintro e w2 ⟨rfl,hP2,hb2⟩
   have HC3:=hide (unhide HLi w2 (k+1+1) (by omega) hP2)
   have HB2:=hide ((unhide HB1).trans hb2)
   have hz2:w1.heap.size<=w2.heap.size:=hb2.size
   clear hP2 hb2 HC2 HLi HB1
   go_wp2_with fail
   refine(unhide HC3).mono ?_
   rintro e w3 ⟨hb3,⟨hr3,rfl⟩ | ⟨ts,k3,ga,gc,hr3,hne3,hk3,rfl,hL3,hP3⟩⟩
   ·have HR:Hid (RR=none):=by
     show RR=none
     rw[unhide HR0]
     exact selF_bad hr3
    have HB3:=hide ((unhide HB2).trans hb3)
    clear hb3 hr3 HC3
    go_wp2
    exact⟨rfl,unhide HB3,Or.inl ⟨unhide HR,rfl⟩⟩
   have HC4:=hide ((unhide HH (f'+1) (Nat.le_refl _)).ta w3 k3 ga ts.length gc hP3 (by omega))
   have HB3:=hide ((unhide HB2).trans hb3)
   have HL3:=hide hL3;have HR3:=hide hr3
   have hz3:w2.heap.size<=w3.heap.size:=hb3.size
   clear hb3 hr3 hL3 hP3 hne3 HC3 HB2
   go_wp2_with fail
   refine(unhide HC4).mono ?_
   rintro e w4 ⟨hb4,⟨hr4,rfl⟩ | ⟨ss,k4,qa,qc,hk4,hn4,hL4,hP4,⟨hr4,rfl⟩ | ⟨x,ty,u,hr4,rfl,hT4⟩⟩⟩
   ·have HR:Hid (RR=none):=by
     show RR=none
     rw[unhide HR0]
     exact selF_bad2 (unhide HR3) hr4
    have HB4:=hide ((unhide HB3).trans hb4)
    clear hb4 hr4 HC4
    go_wp2
    exact⟨rfl,unhide HB4,Or.inl ⟨unhide HR,rfl⟩⟩
   ·have HR:Hid (RR=some ([.mk 6 ts.length 1 [] [] (ts++ss)],(tks L).drop k4)):=by
     show RR=_
     rw[unhide HR0]
     exact selF_yes (unhide HR3) hr4
    have HB4:=hide ((unhide HB3).trans hb4)
    have HL5:=hide (((unhide HL3).but hb4 (fun b e=>by unfold atP at e;omega)).wide (B':=w.heap.size) (by omega))
    have HL4:=hide (hL4.wide (B':=w.heap.size) (by omega));have HP4:=hide hP4
    have HN4:=hide hn4
    clear hb4 hr4 hL4 hP4 HC4 HL3 hn4
    go_wp2
    go_ret
    obtain⟨us,hR1,hT1⟩:=(unhide HL5).fin
    obtain⟨vs,hR2,hT2⟩:=(unhide HL4).fin
    exact⟨unhide HB4,Or.inr ⟨_,k4,_,_,unhide HR,by omega,rfl,TV.sel 1 (by simp) ts ss (unhide HN4) _ _ us vs hR1 hR2 hT1 hT2,unhide HP4⟩⟩
   ·have HR:Hid (RR=some ([.mk 6 ts.length 1 [] [] (ts++(ss++[x]))],(tks L).drop k4)):=by
     show RR=_
     rw[unhide HR0]
     exact selF_yes (unhide HR3) hr4
    have HB4:=hide ((unhide HB3).trans hb4)
    have HL5:=hide (((unhide HL3).but hb4 (fun b e=>by unfold atP at e;omega)).wide (B':=w.heap.size) (by omega))
    have HL4:=hide (hL4.wide (B':=w.heap.size) (by omega));have HP4:=hide hP4
    have HT4:=hide (hT4.wide (T:=fun b=>w.heap.size<=b) (fun b e _=>by omega))
    have HN4:=hide hn4
    clear hb4 hr4 hL4 hP4 hT4 HC4 HL3 hn4
    go_wp2
    go_ret
    obtain⟨us,hR1,hT1⟩:=(unhide HL5).fin
    obtain⟨vs,hR2,hT2⟩:=(unhide HL4).fin
    exact⟨unhide HB4,Or.inr ⟨_,k4,_,_,unhide HR,by omega,rfl,TV.selW 1 (by simp) ts ss (unhide HN4) x _ _ ty u us vs hR1 hR2 hT1 hT2 (unhide HT4),unhide HP4⟩⟩
  ·have HC2:=hide (takesN hP1 ⟨#[68,73,83,84,73,78,67,84]⟩ 12 (by omega) (Go.ByteArray.toList_mk [68,73,83,84,73,78,67,84]) (fun r e=>hd2 ⟨r,e⟩))
   have HR0:Hid (RR=selF 0 (iP (f'+1) .scals) (iP (f'+1) .tail) ((tks L).drop (k+1))):=by
    show RR=_
    rw[unhide HRR]
    exact sel_0 (fun r e=>hd2 ⟨r,e⟩)
   have HP1:=hide hP1
   clear hd2 hP1 HRR
   go_wp2_with fail
   refine(unhide HC2).mono ?_;rintro e w2 ⟨rfl,hb2⟩
   have HC3:=hide (unhide HLi w2 (k+1) (by omega) ((unhide HP1).of hb2))
   have HB2:=hide ((unhide HB1).trans (ButB.ofBelow hb2))
   have hz2:w1.heap.size<=w2.heap.size:=hb2.size
   clear hb2 HC2 HLi HB1 HP1
   go_wp2_with fail
   refine(unhide HC3).mono ?_
   rintro e w3 ⟨hb3,⟨hr3,rfl⟩ | ⟨ts,k3,ga,gc,hr3,hne3,hk3,rfl,hL3,hP3⟩⟩
   ·have HR:Hid (RR=none):=by
     show RR=none
     rw[unhide HR0]
     exact selF_bad hr3
    have HB3:=hide ((unhide HB2).trans hb3)
    clear hb3 hr3 HC3
    go_wp2
    exact⟨rfl,unhide HB3,Or.inl ⟨unhide HR,rfl⟩⟩
   have HC4:=hide ((unhide HH (f'+1) (Nat.le_refl _)).ta w3 k3 ga ts.length gc hP3 (by omega))
   have HB3:=hide ((unhide HB2).trans hb3)
   have HL3:=hide hL3;have HR3:=hide hr3
   have hz3:w2.heap.size<=w3.heap.size:=hb3.size
   clear hb3 hr3 hL3 hP3 hne3 HC3 HB2
   go_wp2_with fail
   refine(unhide HC4).mono ?_
   rintro e w4 ⟨hb4,⟨hr4,rfl⟩ | ⟨ss,k4,qa,qc,hk4,hn4,hL4,hP4,⟨hr4,rfl⟩ | ⟨x,ty,u,hr4,rfl,hT4⟩⟩⟩
   ·have HR:Hid (RR=none):=by
     show RR=none
     rw[unhide HR0]
     exact selF_bad2 (unhide HR3) hr4
    have HB4:=hide ((unhide HB3).trans hb4)
    clear hb4 hr4 HC4
    go_wp2
    exact⟨rfl,unhide HB4,Or.inl ⟨unhide HR,rfl⟩⟩
   ·have HR:Hid (RR=some ([.mk 6 ts.length 0 [] [] (ts++ss)],(tks L).drop k4)):=by
     show RR=_
     rw[unhide HR0]
     exact selF_yes (unhide HR3) hr4
    have HB4:=hide ((unhide HB3).trans hb4)
    have HL5:=hide (((unhide HL3).but hb4 (fun b e=>by unfold atP at e;omega)).wide (B':=w.heap.size) (by omega))
    have HL4:=hide (hL4.wide (B':=w.heap.size) (by omega));have HP4:=hide hP4
    have HN4:=hide hn4
    clear hb4 hr4 hL4 hP4 HC4 HL3 hn4
    go_wp2
    go_ret
    obtain⟨us,hR1,hT1⟩:=(unhide HL5).fin
    obtain⟨vs,hR2,hT2⟩:=(unhide HL4).fin
    exact⟨unhide HB4,Or.inr ⟨_,k4,_,_,unhide HR,by omega,rfl,TV.sel 0 (by simp) ts ss (unhide HN4) _ _ us vs hR1 hR2 hT1 hT2,unhide HP4⟩⟩
   ·have HR:Hid (RR=some ([.mk 6 ts.length 0 [] [] (ts++(ss++[x]))],(tks L).drop k4)):=by
     show RR=_
     rw[unhide HR0]
     exact selF_yes (unhide HR3) hr4
    have HB4:=hide ((unhide HB3).trans hb4)
    have HL5:=hide (((unhide HL3).but hb4 (fun b e=>by unfold atP at e;omega)).wide (B':=w.heap.size) (by omega))
    have HL4:=hide (hL4.wide (B':=w.heap.size) (by omega));have HP4:=hide hP4
    have HT4:=hide (hT4.wide (T:=fun b=>w.heap.size<=b) (fun b e _=>by omega))
    have HN4:=hide hn4
    clear hb4 hr4 hL4 hP4 hT4 HC4 HL3 hn4
    go_wp2
    go_ret
    obtain⟨us,hR1,hT1⟩:=(unhide HL5).fin
    obtain⟨vs,hR2,hT2⟩:=(unhide HL4).fin
    exact⟨unhide HB4,Or.inr ⟨_,k4,_,_,unhide HR,by omega,rfl,TV.selW 0 (by simp) ts ss (unhide HN4) x _ _ ty u us vs hR1 hR2 hT1 hT2 (unhide HT4),unhide HP4⟩⟩
 ·have HR:Hid (RR=none):=by
   show RR=none
   rw[hRR]
   exact sel_no (fun r e=>hd ⟨r,e⟩)
  have HC:=hide (needsN h ⟨#[83,69,76,69,67,84]⟩ 11 (by omega) (Go.ByteArray.toList_mk [83,69,76,69,67,84]) (fun r e=>hd ⟨r,e⟩))
  clear h hd hRR H
  go_enter Tryz.func68,Tryz.ntmps68
  go_wp2_with fail
  refine(unhide HC).mono ?_;rintro e w1 ⟨rfl,hb1⟩
  have HB1:=hide hb1
  clear hb1 HC
  go_wp2
  exact⟨rfl,ButB.ofBelow (unhide HB1),Or.inl ⟨unhide HR,rfl⟩⟩
end Go.Proofs.YtmggnimiioepeaaGreatDoor.Pa
