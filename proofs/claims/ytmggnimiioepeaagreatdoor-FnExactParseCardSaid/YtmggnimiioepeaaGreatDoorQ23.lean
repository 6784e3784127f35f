import Derived.Test.YtmggnimiioepeaaGreatDoorQ0
import Derived.Test.YtmggnimiioepeaaGreatDoorQ22
namespace Go.Proofs.YtmggnimiioepeaaGreatDoor.Pa
open Go Go.RowKit
theorem brk_none{p:List Tok->Option (List Rt×List Tok)}{ts:List Tok}(h:brkL p ts=none):brk p ts=none:=by
 unfold brkL at h
 cases hb:brk p ts with
 | none=>rfl
 | some q=>rw[hb]at h;cases h
theorem brk_some{p:List Tok->Option (List Rt×List Tok)}{ts r:List Tok}{t:Rt}(h:brkL p ts=some ([t],r)):brk p ts=some (t,r):=by
 unfold brkL at h
 cases hb:brk p ts with
 | none=>rw[hb]at h;cases h
 | some q=>
  rw[hb]at h
  simp only[Option.some.injEq,Prod.mk.injEq,List.cons.injEq,and_true]at h
  rw[<-h.1,<-h.2]
def isF(t:Rt):List Tok->Option (List Rt×List Tok)
 | .sy 24::r2=>some ([.mk 9 0 0 [] [] [t]],r2)
 | _=>none
section
variable {sc qu:List Tok->Option (List Rt×List Tok)}{t:Rt}{r:List Tok}
theorem tF_is1:testF sc qu t (.sy 23:: .sy 20:: .sy 24::r)=some ([.mk 9 0 1 [] [] [t]],r):=rfl
theorem tF_is1n(h: ∀r',r≠ .sy 24::r'):testF sc qu t (.sy 23:: .sy 20::r)=none:=by
 show(match r with | .sy 24::r2=>some ([Rt.mk 9 0 1 [] [] [t]],r2) | _=>none)=none
 split
 ·exact absurd rfl (h _)
 ·rfl
theorem tF_is(h: ∀r',r≠ .sy 20::r'):testF sc qu t (.sy 23::r)=isF t r:=by
 unfold testF
 split
 ·rename_i e
  simp only[List.cons.injEq,true_and]at e
  exact absurd e (h _)
 ·rename_i e
  simp only[List.cons.injEq,true_and]at e
  rw[e]
  rfl
 ·rename_i e
  simp at e
 ·rename_i e
  simp at e
 ·rename_i h1 _ _ e
  simp only[List.cons.injEq]at e
  exact(h1 e.1.symm).elim
 ·rename_i e
  cases e
theorem isF_no(h: ∀r',r≠ .sy 24::r'):isF t r=none:=by
 unfold isF
 split
 ·exact absurd rfl (h _)
 ·rfl
theorem tF_in:testF sc qu t (.sy 22::r)=(match brk qu r with | some (q,r1)=>some ([.mk 11 0 0 [] [] [t,q]],r1) | none=>none):=rfl
theorem tF_nin:testF sc qu t (.sy 20:: .sy 22::r)=(match brk qu r with | some (q,r1)=>some ([.mk 11 0 1 [] [] [t,q]],r1) | none=>none):=rfl
theorem tF_ninN(h: ∀r',r≠ .sy 22::r'):testF sc qu t (.sy 20::r)=none:=by
 show(match r with | .sy 22::r1=>(match brk qu r1 with | some (q,r2)=>some ([Rt.mk 11 0 1 [] [] [t,q]],r2) | none=>none) | _=>none)=none
 split
 ·exact absurd rfl (h _)
 ·rfl
theorem tF_any(j:Nat)(h1:1<=j)(h2:j<=6):testF sc qu t (.sy (j+4):: .sy 17::r)=(match brk qu r with | some (q,r1)=>some ([.mk 12 1 (j:Int) [] [] [t,q]],r1) | none=>none):=by
 rcases(by omega:j=1\/j=2\/j=3\/j=4\/j=5\/j=6)with rfl | rfl | rfl | rfl | rfl | rfl<;>rfl
theorem tF_all(j:Nat)(h1:1<=j)(h2:j<=6):testF sc qu t (.sy (j+4):: .sy 16::r)=(match brk qu r with | some (q,r1)=>some ([.mk 12 2 (j:Int) [] [] [t,q]],r1) | none=>none):=by
 rcases(by omega:j=1\/j=2\/j=3\/j=4\/j=5\/j=6)with rfl | rfl | rfl | rfl | rfl | rfl<;>rfl
theorem tF_sc(j:Nat)(h1:1<=j)(h2:j<=6)(h3: ∀r',r≠ .sy 17::r')(h4: ∀r',r≠ .sy 16::r'):testF sc qu t (.sy (j+4)::r)=(match sc r with | some ([u],r1)=>some ([.mk 8 0 (j:Int) [] [] [t,u]],r1) | _=>none):=by
 have key: ∀c:Nat,0<c->(if 0<c then(match r with | .sy 17::r1=>(match brk qu r1 with | some (q,r2)=>some ([Rt.mk 12 1 (c:Int) [] [] [t,q]],r2) | none=>none) | .sy 16::r1=>(match brk qu r1 with | some (q,r2)=>some ([Rt.mk 12 2 (c:Int) [] [] [t,q]],r2) | none=>none) | _=>(match sc r with | some ([u],r1)=>some ([Rt.mk 8 0 (c:Int) [] [] [t,u]],r1) | _=>none))else none)=(match sc r with | some ([u],r1)=>some ([.mk 8 0 (c:Int) [] [] [t,u]],r1) | _=>none):=fun c hc=>by
  rw[if_pos hc]
  split
  ·exact absurd rfl (h3 _)
  ·exact absurd rfl (h4 _)
  ·rfl
 rcases(by omega:j=1\/j=2\/j=3\/j=4\/j=5\/j=6)with rfl | rfl | rfl | rfl | rfl | rfl
 ·exact key 1 (by omega)
 ·exact key 2 (by omega)
 ·exact key 3 (by omega)
 ·exact key 4 (by omega)
 ·exact key 5 (by omega)
 ·exact key 6 (by omega)
theorem tF_no{ts:List Tok}(h1: ∀r',ts≠ .sy 23::r')(h2: ∀r',ts≠ .sy 22::r')(h3: ∀r',ts≠ .sy 20::r')(h4: ∀j r',1<=j->j<=6->ts≠ .sy (j+4)::r'):testF sc qu t ts=none:=by
 unfold testF
 split
 ·exact absurd rfl (h1 _)
 ·exact absurd rfl (h1 _)
 ·exact absurd rfl (h2 _)
 ·exact absurd rfl (h3 _)
 ·rename_i c r' _ _ _ _
  by_cases hc:0<compOf c
  ·obtain⟨q,rfl,g1,g2⟩:=compOf_sy hc
   exact absurd (by rw[show q-4+4=q by omega]) (h4 (q-4) r' (by omega) (by omega))
  ·rw[if_neg hc]
 ·rfl
end
def IEb(B:Nat)(W:World)(pb:Nat)(a:Option Addr)(c:Nat)(L:List (Tok×ByteArray))(k:Nat)(r:Option (List Rt×List Tok))(e:Ending)(W':World):Prop:=
 ButB (atP pb) W W'/\((r=none/\e=mis)\/ ∃t k' ty u,r=some ([t],(tks L).drop k')/\k<=k'/\e= .returned (.iface ty u)/\TV W' (fun b=>B<=b) t (.iface ty u)/\PO W' pb a c L k')
set_option maxHeartbeats 8000000 in
set_option maxRecDepth 100000 in
theorem test_calls{w:World}{pb:Nat}{a:Option Addr}{c:Nat}{L:List (Tok×ByteArray)}{k:Nat}(h:PO w pb a c L k)(f:Nat)(hf:8*(L.length-k)<f+1)(H:IHyp pb a c L f)(B:Nat)(hB:B<=w.heap.size)(hpB:pb<B)(t:Rt)(ty:Nat)(u:Value)(hT:TV w (fun b=>B<=b) t (.iface ty u)):Calls Tryz.prog 115 #[.pointer (some ⟨pb,0,none⟩),.iface ty u] w (IEb B w pb a c L k (testF (iP f .scal) (iP f .query) t ((tks L).drop k))):=by
 obtain⟨RR,hRR⟩: ∃RR,RR=testF (iP f .scal) (iP f .query) t ((tks L).drop k):=⟨_,rfl⟩
 rw[<-hRR]
 have HRR:=hide hRR;have HT:=hide hT
 have HBr:Hid (∀W k1,k<k1->PO W pb a c L k1->Calls Tryz.prog 101 #[.pointer (some ⟨pb,0,none⟩),.func (.func 41) #[.pointer (some ⟨pb,0,none⟩)] #[]] W (IE W pb a c L k1 (brkL (iP f .query) ((tks L).drop k1)))):=fun W k1 hk1 hW=>
  bracketed_calls hW 41 (fun _ _=>by kernel_rfl) (iP f .query) (fun W2 hW2=>H.qu W2 (k1+1) hW2 (by have:=hW2.le;omega))
 have HSc:=hide H.sc
 clear hRR hT H
 go_enter Tryz.func115,Tryz.ntmps115
 by_cases hdw1: ∃r,(tks L).drop k= .sy 23::r
 ·obtain⟨rw1,hdw1⟩:=hdw1
  obtain⟨_,hrw1,hklw1,_⟩:=drop_cons hdw1
  have HCw1:=hide (takesY h ⟨#[73,83]⟩ 23 (by omega) (Go.ByteArray.toList_mk [73,83]) hdw1)
  rw[hdw1,hrw1]at HRR
  clear hdw1 hrw1 h
  go_wp2_with fail
  refine(unhide HCw1).mono ?_;rintro e w1 ⟨rfl,hPw1,hbw1⟩
  have HBw1:=hide hbw1
  clear hbw1 HCw1
  by_cases hdw2: ∃r,(tks L).drop (k+1)= .sy 20::r
  ·obtain⟨rw2,hdw2⟩:=hdw2
   obtain⟨_,hrw2,hklw2,_⟩:=drop_cons hdw2
   have HCw2:=hide (takesY hPw1 ⟨#[78,79,84]⟩ 20 (by omega) (Go.ByteArray.toList_mk [78,79,84]) hdw2)
   rw[hdw2,hrw2]at HRR
   clear hdw2 hrw2 hPw1
   go_wp2_with fail
   refine(unhide HCw2).mono ?_;rintro e w2 ⟨rfl,hPw2,hbw2⟩
   have HBw2:=hide ((unhide HBw1).trans hbw2)
   clear hbw2 HCw2
   by_cases hdw3: ∃r,(tks L).drop (k+1+1)= .sy 24::r
   ·obtain⟨rw3,hdw3⟩:=hdw3
    obtain⟨_,hrw3,hklw3,_⟩:=drop_cons hdw3
    have HCw3:=hide (needsY hPw2 ⟨#[78,85,76,76]⟩ 24 (by omega) (Go.ByteArray.toList_mk [78,85,76,76]) hdw3)
    rw[hdw3,hrw3]at HRR
    clear hdw3 hrw3 hPw2
    go_wp2_with fail
    refine(unhide HCw3).mono ?_;rintro e w3 ⟨rfl,hPw3,hbw3⟩
    have HBw3:=hide ((unhide HBw2).trans hbw3)
    clear hbw3 HCw3
    have HR:Hid (RR=some ([.mk 9 0 1 [] [] [t]],(tks L).drop (k+1+1+1))):=by
     show RR=_
     rw[unhide HRR]
     exact tF_is1
    have HT1:=hide ((unhide HT).but (unhide HBw3) (fun b h1 _ e=>by unfold atP at e;omega));have HPe:=hide hPw3
    clear hPw3
    go_wp2
    go_ret
    exact⟨unhide HBw3,Or.inr ⟨_,k+1+1+1,_,_,unhide HR,by omega,rfl,TV.isn 1 (by simp) t ty u (unhide HT1),unhide HPe⟩⟩
   ·have HCw3:=hide (needsN hPw2 ⟨#[78,85,76,76]⟩ 24 (by omega) (Go.ByteArray.toList_mk [78,85,76,76]) (fun r e=>hdw3 ⟨r,e⟩))
    have HR:Hid (RR=none):=by
     show RR=none
     rw[unhide HRR]
     exact tF_is1n (fun r e=>hdw3 ⟨r,e⟩)
    clear hdw3 hPw2
    go_wp2_with fail
    refine(unhide HCw3).mono ?_;rintro e w3 ⟨rfl,hbw3⟩
    have HBw3:=hide ((unhide HBw2).trans (ButB.ofBelow hbw3))
    clear hbw3 HCw3
    go_wp2
    exact⟨rfl,unhide HBw3,Or.inl ⟨unhide HR,rfl⟩⟩
  have HCw2:=hide (takesN hPw1 ⟨#[78,79,84]⟩ 20 (by omega) (Go.ByteArray.toList_mk [78,79,84]) (fun r e=>hdw2 ⟨r,e⟩))
  have HNow2:=hide hdw2
  have HPow2:=hide hPw1
  clear hdw2 hPw1
  go_wp2_with fail
  refine(unhide HCw2).mono ?_;rintro e w2 ⟨rfl,hbw2⟩
  have HBw2:=hide ((unhide HBw1).trans (ButB.ofBelow hbw2))
  have hPw2:=(unhide HPow2).of hbw2
  clear hbw2 HCw2 HPow2
  rw[tF_is (fun r e=>(unhide HNow2) ⟨r,e⟩)]at HRR
  by_cases hdw3: ∃r,(tks L).drop (k+1)= .sy 24::r
  ·obtain⟨rw3,hdw3⟩:=hdw3
   obtain⟨_,hrw3,hklw3,_⟩:=drop_cons hdw3
   have HCw3:=hide (needsY hPw2 ⟨#[78,85,76,76]⟩ 24 (by omega) (Go.ByteArray.toList_mk [78,85,76,76]) hdw3)
   rw[hdw3,hrw3]at HRR
   clear hdw3 hrw3 hPw2
   go_wp2_with fail
   refine(unhide HCw3).mono ?_;rintro e w3 ⟨rfl,hPw3,hbw3⟩
   have HBw3:=hide ((unhide HBw2).trans hbw3)
   clear hbw3 HCw3
   have HR:Hid (RR=some ([.mk 9 0 0 [] [] [t]],(tks L).drop (k+1+1))):=by
    show RR=_
    rw[unhide HRR]
    rfl
   have HT1:=hide ((unhide HT).but (unhide HBw3) (fun b h1 _ e=>by unfold atP at e;omega));have HPe:=hide hPw3
   clear hPw3
   go_wp2
   go_ret
   exact⟨unhide HBw3,Or.inr ⟨_,k+1+1,_,_,unhide HR,by omega,rfl,TV.isn 0 (by simp) t ty u (unhide HT1),unhide HPe⟩⟩
  ·have HCw3:=hide (needsN hPw2 ⟨#[78,85,76,76]⟩ 24 (by omega) (Go.ByteArray.toList_mk [78,85,76,76]) (fun r e=>hdw3 ⟨r,e⟩))
   have HR:Hid (RR=none):=by
    show RR=none
    rw[unhide HRR]
    exact isF_no (fun r e=>hdw3 ⟨r,e⟩)
   clear hdw3 hPw2
   go_wp2_with fail
   refine(unhide HCw3).mono ?_;rintro e w3 ⟨rfl,hbw3⟩
   have HBw3:=hide ((unhide HBw2).trans (ButB.ofBelow hbw3))
   clear hbw3 HCw3
   go_wp2
   exact⟨rfl,unhide HBw3,Or.inl ⟨unhide HR,rfl⟩⟩
 have HCw1:=hide (takesN h ⟨#[73,83]⟩ 23 (by omega) (Go.ByteArray.toList_mk [73,83]) (fun r e=>hdw1 ⟨r,e⟩))
 have HNow1:=hide hdw1
 have HPow1:=hide h
 clear hdw1 h
 go_wp2_with fail
 refine(unhide HCw1).mono ?_;rintro e w1 ⟨rfl,hbw1⟩
 have HBw1:=hide (ButB.ofBelow (S:=atP pb) hbw1)
 have hPw1:=(unhide HPow1).of hbw1
 clear hbw1 HCw1 HPow1
 by_cases hdw2: ∃r,(tks L).drop k= .sy 22::r
 ·obtain⟨rw2,hdw2⟩:=hdw2
  obtain⟨_,hrw2,hklw2,_⟩:=drop_cons hdw2
  have HCw2:=hide (takesY hPw1 ⟨#[73,78]⟩ 22 (by omega) (Go.ByteArray.toList_mk [73,78]) hdw2)
  rw[hdw2,hrw2]at HRR
  clear hdw2 hrw2 hPw1
  go_wp2_with fail
  refine(unhide HCw2).mono ?_;rintro e w2 ⟨rfl,hPw2,hbw2⟩
  have HBw2:=hide ((unhide HBw1).trans hbw2)
  clear hbw2 HCw2
  have HCw3:=hide (unhide HBr w2 (k+1) (by omega) hPw2)
  have hzw2:w.heap.size<=w2.heap.size:=(unhide HBw2).size
  rw[tF_in]at HRR
  clear hPw2
  go_wp2_with fail
  refine(unhide HCw3).mono ?_
  rintro e w3 ⟨hbw3,⟨hrw3,rfl⟩ | ⟨t2,k2,ty2,u2,hrw3,hk2,rfl,hT2,hP2⟩⟩
  ·have HR:Hid (RR=none):=by
    show RR=none
    rw[unhide HRR,brk_none hrw3]
   have HBw3:=hide ((unhide HBw2).trans hbw3)
   clear hbw3 hrw3 HCw3
   go_wp2
   exact⟨rfl,unhide HBw3,Or.inl ⟨unhide HR,rfl⟩⟩
  ·have HR:Hid (RR=some ([.mk 11 0 0 [] [] [t,t2]],(tks L).drop k2)):=by
    show RR=_
    rw[unhide HRR,brk_some hrw3]
   have HBw3:=hide ((unhide HBw2).trans hbw3)
   have HT2:=hide (hT2.wide (T:=fun b=>B<=b) (fun b e _=>by omega));have HP2:=hide hP2
   have HT1:=hide ((unhide HT).but (unhide HBw3) (fun b h1 _ e=>by unfold atP at e;omega))
   clear hbw3 hrw3 hT2 hP2 HCw3
   go_wp2
   go_ret
   exact⟨unhide HBw3,Or.inr ⟨_,k2,_,_,unhide HR,by omega,rfl,TV.inn 0 (by simp) t t2 ty ty2 u u2 (unhide HT1) (unhide HT2),unhide HP2⟩⟩
 have HCw2:=hide (takesN hPw1 ⟨#[73,78]⟩ 22 (by omega) (Go.ByteArray.toList_mk [73,78]) (fun r e=>hdw2 ⟨r,e⟩))
 have HNow2:=hide hdw2
 have HPow2:=hide hPw1
 clear hdw2 hPw1
 go_wp2_with fail
 refine(unhide HCw2).mono ?_;rintro e w2 ⟨rfl,hbw2⟩
 have HBw2:=hide ((unhide HBw1).trans (ButB.ofBelow hbw2))
 have hPw2:=(unhide HPow2).of hbw2
 clear hbw2 HCw2 HPow2
 by_cases hdw3: ∃r,(tks L).drop k= .sy 20::r
 ·obtain⟨rw3,hdw3⟩:=hdw3
  obtain⟨_,hrw3,hklw3,_⟩:=drop_cons hdw3
  have HCw3:=hide (takesY hPw2 ⟨#[78,79,84]⟩ 20 (by omega) (Go.ByteArray.toList_mk [78,79,84]) hdw3)
  rw[hdw3,hrw3]at HRR
  clear hdw3 hrw3 hPw2
  go_wp2_with fail
  refine(unhide HCw3).mono ?_;rintro e w3 ⟨rfl,hPw3,hbw3⟩
  have HBw3:=hide ((unhide HBw2).trans hbw3)
  clear hbw3 HCw3
  by_cases hdw4: ∃r,(tks L).drop (k+1)= .sy 22::r
  ·obtain⟨rw4,hdw4⟩:=hdw4
   obtain⟨_,hrw4,hklw4,_⟩:=drop_cons hdw4
   have HCw4:=hide (needsY hPw3 ⟨#[73,78]⟩ 22 (by omega) (Go.ByteArray.toList_mk [73,78]) hdw4)
   rw[hdw4,hrw4]at HRR
   clear hdw4 hrw4 hPw3
   go_wp2_with fail
   refine(unhide HCw4).mono ?_;rintro e w4 ⟨rfl,hPw4,hbw4⟩
   have HBw4:=hide ((unhide HBw3).trans hbw4)
   clear hbw4 HCw4
   have HCw5:=hide (unhide HBr w4 (k+1+1) (by omega) hPw4)
   have hzw4:w.heap.size<=w4.heap.size:=(unhide HBw4).size
   rw[tF_nin]at HRR
   clear hPw4
   go_wp2_with fail
   refine(unhide HCw5).mono ?_
   rintro e w5 ⟨hbw5,⟨hrw5,rfl⟩ | ⟨t2,k2,ty2,u2,hrw5,hk2,rfl,hT2,hP2⟩⟩
   ·have HR:Hid (RR=none):=by
     show RR=none
     rw[unhide HRR,brk_none hrw5]
    have HBw5:=hide ((unhide HBw4).trans hbw5)
    clear hbw5 hrw5 HCw5
    go_wp2
    exact⟨rfl,unhide HBw5,Or.inl ⟨unhide HR,rfl⟩⟩
   ·have HR:Hid (RR=some ([.mk 11 0 1 [] [] [t,t2]],(tks L).drop k2)):=by
     show RR=_
     rw[unhide HRR,brk_some hrw5]
    have HBw5:=hide ((unhide HBw4).trans hbw5)
    have HT2:=hide (hT2.wide (T:=fun b=>B<=b) (fun b e _=>by omega));have HP2:=hide hP2
    have HT1:=hide ((unhide HT).but (unhide HBw5) (fun b h1 _ e=>by unfold atP at e;omega))
    clear hbw5 hrw5 hT2 hP2 HCw5
    go_wp2
    go_ret
    exact⟨unhide HBw5,Or.inr ⟨_,k2,_,_,unhide HR,by omega,rfl,TV.inn 1 (by simp) t t2 ty ty2 u u2 (unhide HT1) (unhide HT2),unhide HP2⟩⟩
  ·have HCw4:=hide (needsN hPw3 ⟨#[73,78]⟩ 22 (by omega) (Go.ByteArray.toList_mk [73,78]) (fun r e=>hdw4 ⟨r,e⟩))
   have HR:Hid (RR=none):=by
    show RR=none
    rw[unhide HRR]
    exact tF_ninN (fun r e=>hdw4 ⟨r,e⟩)
   clear hdw4 hPw3
   go_wp2_with fail
   refine(unhide HCw4).mono ?_;rintro e w4 ⟨rfl,hbw4⟩
   have HBw4:=hide ((unhide HBw3).trans (ButB.ofBelow hbw4))
   clear hbw4 HCw4
   go_wp2
   exact⟨rfl,unhide HBw4,Or.inl ⟨unhide HR,rfl⟩⟩
 have HCw3:=hide (takesN hPw2 ⟨#[78,79,84]⟩ 20 (by omega) (Go.ByteArray.toList_mk [78,79,84]) (fun r e=>hdw3 ⟨r,e⟩))
 have HNow3:=hide hdw3
 have HPow3:=hide hPw2
 clear hdw3 hPw2
 go_wp2_with fail
 refine(unhide HCw3).mono ?_;rintro e w3 ⟨rfl,hbw3⟩
 have HBw3:=hide ((unhide HBw2).trans (ButB.ofBelow hbw3))
 have hPw3:=(unhide HPow3).of hbw3
 clear hbw3 HCw3 HPow3
 have HC4:=hide (comparison_calls hPw3)
 clear hPw3
 go_wp2_with fail
 refine(unhide HC4).mono ?_
 rintro e w4 ⟨hb4,⟨j,r4,hd4,hj1,hj6,rfl,hPw4⟩ | ⟨hno,rfl⟩⟩
 rotate_left
 ·have HR:Hid (RR=none):=by
   show RR=none
   rw[unhide HRR]
   exact tF_no (fun r e=>(unhide HNow1) ⟨r,e⟩) (fun r e=>(unhide HNow2) ⟨r,e⟩) (fun r e=>(unhide HNow3) ⟨r,e⟩) hno
  have HB4:=hide ((unhide HBw3).trans hb4)
  clear hb4 hno HC4
  go_wp2
  exact⟨rfl,unhide HB4,Or.inl ⟨unhide HR,rfl⟩⟩
 obtain⟨_,hr4,hkl4,_⟩:=drop_cons hd4
 rw[hd4,hr4]at HRR
 have HBw4:=hide ((unhide HBw3).trans hb4)
 clear hb4 hd4 hr4 HC4
 by_cases hdw5: ∃r,(tks L).drop (k+1)= .sy 17::r
 ·obtain⟨rw5,hdw5⟩:=hdw5
  obtain⟨_,hrw5,hklw5,_⟩:=drop_cons hdw5
  have HCw5:=hide (takesY hPw4 ⟨#[65,78,89]⟩ 17 (by omega) (Go.ByteArray.toList_mk [65,78,89]) hdw5)
  rw[hdw5,hrw5]at HRR
  clear hdw5 hrw5 hPw4
  go_wp2_with fail
  refine(unhide HCw5).mono ?_;rintro e w5 ⟨rfl,hPw5,hbw5⟩
  have HBw5:=hide ((unhide HBw4).trans hbw5)
  clear hbw5 HCw5
  have HCw6:=hide (unhide HBr w5 (k+1+1) (by omega) hPw5)
  have hzw5:w.heap.size<=w5.heap.size:=(unhide HBw5).size
  rw[tF_any j hj1 hj6]at HRR
  clear hPw5
  go_wp2_with fail
  refine(unhide HCw6).mono ?_
  rintro e w6 ⟨hbw6,⟨hrw6,rfl⟩ | ⟨t2,k2,ty2,u2,hrw6,hk2,rfl,hT2,hP2⟩⟩
  ·have HR:Hid (RR=none):=by
    show RR=none
    rw[unhide HRR,brk_none hrw6]
   have HBw6:=hide ((unhide HBw5).trans hbw6)
   clear hbw6 hrw6 HCw6
   go_wp2
   exact⟨rfl,unhide HBw6,Or.inl ⟨unhide HR,rfl⟩⟩
  ·have HR:Hid (RR=some ([.mk 12 1 (j:Int) [] [] [t,t2]],(tks L).drop k2)):=by
    show RR=_
    rw[unhide HRR,brk_some hrw6]
   have HBw6:=hide ((unhide HBw5).trans hbw6)
   have HT2:=hide (hT2.wide (T:=fun b=>B<=b) (fun b e _=>by omega));have HP2:=hide hP2
   have HT1:=hide ((unhide HT).but (unhide HBw6) (fun b h1 _ e=>by unfold atP at e;omega))
   clear hbw6 hrw6 hT2 hP2 HCw6
   go_wp2
   go_ret
   exact⟨unhide HBw6,Or.inr ⟨_,k2,_,_,unhide HR,by omega,rfl,TV.qua (j:Int) 1 t t2 ty ty2 u u2 (unhide HT1) (unhide HT2),unhide HP2⟩⟩
 have HCw5:=hide (takesN hPw4 ⟨#[65,78,89]⟩ 17 (by omega) (Go.ByteArray.toList_mk [65,78,89]) (fun r e=>hdw5 ⟨r,e⟩))
 have HNow5:=hide hdw5
 have HPow5:=hide hPw4
 clear hdw5 hPw4
 go_wp2_with fail
 refine(unhide HCw5).mono ?_;rintro e w5 ⟨rfl,hbw5⟩
 have HBw5:=hide ((unhide HBw4).trans (ButB.ofBelow hbw5))
 have hPw5:=(unhide HPow5).of hbw5
 clear hbw5 HCw5 HPow5
 by_cases hdw6: ∃r,(tks L).drop (k+1)= .sy 16::r
 ·obtain⟨rw6,hdw6⟩:=hdw6
  obtain⟨_,hrw6,hklw6,_⟩:=drop_cons hdw6
  have HCw6:=hide (takesY hPw5 ⟨#[65,76,76]⟩ 16 (by omega) (Go.ByteArray.toList_mk [65,76,76]) hdw6)
  rw[hdw6,hrw6]at HRR
  clear hdw6 hrw6 hPw5
  go_wp2_with fail
  refine(unhide HCw6).mono ?_;rintro e w6 ⟨rfl,hPw6,hbw6⟩
  have HBw6:=hide ((unhide HBw5).trans hbw6)
  clear hbw6 HCw6
  have HCw7:=hide (unhide HBr w6 (k+1+1) (by omega) hPw6)
  have hzw6:w.heap.size<=w6.heap.size:=(unhide HBw6).size
  rw[tF_all j hj1 hj6]at HRR
  clear hPw6
  go_wp2_with fail
  refine(unhide HCw7).mono ?_
  rintro e w7 ⟨hbw7,⟨hrw7,rfl⟩ | ⟨t2,k2,ty2,u2,hrw7,hk2,rfl,hT2,hP2⟩⟩
  ·have HR:Hid (RR=none):=by
    show RR=none
    rw[unhide HRR,brk_none hrw7]
   have HBw7:=hide ((unhide HBw6).trans hbw7)
   clear hbw7 hrw7 HCw7
   go_wp2
   exact⟨rfl,unhide HBw7,Or.inl ⟨unhide HR,rfl⟩⟩
  ·have HR:Hid (RR=some ([.mk 12 2 (j:Int) [] [] [t,t2]],(tks L).drop k2)):=by
    show RR=_
    rw[unhide HRR,brk_some hrw7]
   have HBw7:=hide ((unhide HBw6).trans hbw7)
   have HT2:=hide (hT2.wide (T:=fun b=>B<=b) (fun b e _=>by omega));have HP2:=hide hP2
   have HT1:=hide ((unhide HT).but (unhide HBw7) (fun b h1 _ e=>by unfold atP at e;omega))
   clear hbw7 hrw7 hT2 hP2 HCw7
   go_wp2
   go_ret
   exact⟨unhide HBw7,Or.inr ⟨_,k2,_,_,unhide HR,by omega,rfl,TV.qua (j:Int) 2 t t2 ty ty2 u u2 (unhide HT1) (unhide HT2),unhide HP2⟩⟩
 have HCw6:=hide (takesN hPw5 ⟨#[65,76,76]⟩ 16 (by omega) (Go.ByteArray.toList_mk [65,76,76]) (fun r e=>hdw6 ⟨r,e⟩))
 have HNow6:=hide hdw6
 have HPow6:=hide hPw5
 clear hdw6 hPw5
 go_wp2_with fail
 refine(unhide HCw6).mono ?_;rintro e w6 ⟨rfl,hbw6⟩
 have HBw6:=hide ((unhide HBw5).trans (ButB.ofBelow hbw6))
 have hPw6:=(unhide HPow6).of hbw6
 clear hbw6 HCw6 HPow6
 have HC7:=hide (unhide HSc w6 (k+1) hPw6 (by omega))
 have hzw6:w.heap.size<=w6.heap.size:=(unhide HBw6).size
 rw[tF_sc j hj1 hj6 (fun r e=>(unhide HNow5) ⟨r,e⟩) (fun r e=>(unhide HNow6) ⟨r,e⟩)]at HRR
 clear hPw6
 go_wp2_with fail
 refine(unhide HC7).mono ?_
 rintro e w7 ⟨hb7,⟨hr7,rfl⟩ | ⟨t2,k2,ty2,u2,hr7,hk2,rfl,hT2,hP2⟩⟩
 ·have HR:Hid (RR=none):=by
   show RR=none
   rw[unhide HRR,hr7]
  have HB7:=hide ((unhide HBw6).trans hb7)
  clear hb7 hr7 HC7
  go_wp2
  exact⟨rfl,unhide HB7,Or.inl ⟨unhide HR,rfl⟩⟩
 ·have HR:Hid (RR=some ([.mk 8 0 (j:Int) [] [] [t,t2]],(tks L).drop k2)):=by
   show RR=_
   rw[unhide HRR,hr7]
  have HB7:=hide ((unhide HBw6).trans hb7)
  have HT2:=hide (hT2.wide (T:=fun b=>B<=b) (fun b e _=>by omega));have HP2:=hide hP2
  have HT1:=hide ((unhide HT).but (unhide HB7) (fun b h1 _ e=>by unfold atP at e;omega))
  clear hb7 hr7 hT2 hP2 HC7
  go_wp2
  go_ret
  exact⟨unhide HB7,Or.inr ⟨_,k2,_,_,unhide HR,by omega,rfl,TV.cmp (j:Int) t t2 ty ty2 u u2 (unhide HT1) (unhide HT2),unhide HP2⟩⟩
end Go.Proofs.YtmggnimiioepeaaGreatDoor.Pa
namespace Go.Proofs.YtmggnimiioepeaaGreatDoor.Pa
open Go Go.RowKit
theorem hd_text{w:World}{a:Option Addr}{L:List (Tok×ByteArray)}{k:Nat}(hT:TksI w a L){K V:Int}{T:ByteArray}(h:HdV L k K T V)(q:Nat)(hq:q<28):(T.toList==syT q)=decide ((tks L)[k]?=some (.sy q)):=by
 rcases h with⟨hn,_,rfl,_⟩ | ⟨p,hp,hf⟩
 ·rw[show(⟨#[]⟩:ByteArray).toList=[]from Go.ByteArray.toList_mk []]
  have h0: ∀q,q<28->(([]:List UInt8)==syT q)=false:=by decide
  rw[h0 q hq]
  exact(decide_eq_false (by simp[hn])).symm
 ·obtain⟨K',V',hf'⟩:=tkI_form p.1 p.2
  rw[hf']at hf
  simp only[List.cons.injEq,Value.string.injEq,and_true]at hf
  rw[<-hf.2.1,text_beq (hT k p hp).1 q hq]
  congr 1
  simp[hp]
theorem prim_br{f:Nat}{r:List Tok}(h: ∀r',r≠ .sy 11::r'):iP (f+1) .prim (.sy 0::r)=brkL (iP f .cond) (.sy 0::r):=by
 show(if Tok.sy 0=pO/\r.head?≠some kSel then(match brk (iP f .cond) (.sy 0::r)with | some (x,r1)=>some ([x],r1) | none=>none)else _)=_
 rw[if_pos ⟨rfl,fun e=>by
  cases r with
  | nil=>cases e
  | cons t r'=>simp at e;exact h r' (by rw[e])⟩]
 rfl
theorem prim_sc{f:Nat}{ts:List Tok}(h0:iP f .scal []=none)(h1: ∀r,ts≠ .sy 20::r)(h2: ∀r,ts≠ .sy 21::r)(h3: ∀r,ts= .sy 0::r-> ∃r',r= .sy 11::r'):iP (f+1) .prim ts=(match iP f .scal ts with | some ([x],r1)=>testF (iP f .scal) (iP f .query) x r1 | _=>none):=by
 show(match ts with | .sy 20::r=>_ | .sy 21::r=>_ | t::r=>if t=pO/\r.head?≠some kSel then(match brk (iP f .cond) (t::r)with | some (x,r1)=>some ([x],r1) | none=>none)else(match iP f .scal (t::r)with | some ([x],r1)=>testF (iP f .scal) (iP f .query) x r1 | _=>none) | []=>none)=_
 split
 ·exact absurd rfl (h1 _)
 ·exact absurd rfl (h2 _)
 ·rename_i t r _ _
  rw[if_neg]
  rintro⟨e1,e2⟩
  obtain⟨r',rfl⟩:=h3 r (by rw[e1])
  exact e2 rfl
 ·rw[h0]
set_option maxHeartbeats 8000000 in
set_option maxRecDepth 100000 in
theorem prim_calls{w:World}{pb:Nat}{a:Option Addr}{c:Nat}{L:List (Tok×ByteArray)}{k:Nat}(h:PO w pb a c L k)(f:Nat)(hf:1+8*(L.length-k)<f+1)(H:IHyp pb a c L f):Calls Tryz.prog 113 #[.pointer (some ⟨pb,0,none⟩)] w (IE w pb a c L k (iP (f+1) .prim ((tks L).drop k))):=by
 obtain⟨RR,hRR⟩: ∃RR,RR=iP (f+1) .prim ((tks L).drop k):=⟨_,rfl⟩
 rw[<-hRR]
 have hpw:=h.p.lt
 have HRR:=hide hRR
 have HH:=hide H
 clear hRR H
 go_enter Tryz.func113,Tryz.ntmps113
 by_cases hdw1: ∃r,(tks L).drop k= .sy 20::r
 ·obtain⟨rw1,hdw1⟩:=hdw1
  obtain⟨_,hrw1,hklw1,_⟩:=drop_cons hdw1
  have HCw1:=hide (takesY h ⟨#[78,79,84]⟩ 20 (by omega) (Go.ByteArray.toList_mk [78,79,84]) hdw1)
  rw[hdw1,hrw1]at HRR
  clear hdw1 hrw1 h
  go_wp2_with fail
  refine(unhide HCw1).mono ?_;rintro e w1 ⟨rfl,hPw1,hbw1⟩
  have HBw1:=hide hbw1
  clear hbw1 HCw1
  have HC2:=hide ((unhide HH).pr w1 (k+1) hPw1 (by omega))
  have hz1:w.heap.size<=w1.heap.size:=(unhide HBw1).size
  clear hPw1
  go_wp2_with fail
  refine(unhide HC2).mono ?_
  rintro e w2 ⟨hb2,⟨hr2,rfl⟩ | ⟨t,k2,ty,u,hr2,hk2,rfl,hT2,hP2⟩⟩
  ·have HR:Hid (RR=none):=by
    show RR=none
    rw[unhide HRR]
    show(match iP f .prim ((tks L).drop (k+1))with | some ([t],r1)=>some ([Rt.mk 13 0 0 [] [] [t]],r1) | _=>none)=none
    rw[hr2]
   have HB2:=hide ((unhide HBw1).trans hb2)
   clear hb2 hr2 HC2
   go_wp2
   exact⟨rfl,unhide HB2,Or.inl ⟨unhide HR,rfl⟩⟩
  ·have HR:Hid (RR=some ([.mk 13 0 0 [] [] [t]],(tks L).drop k2)):=by
    show RR=_
    rw[unhide HRR]
    show(match iP f .prim ((tks L).drop (k+1))with | some ([t],r1)=>some ([Rt.mk 13 0 0 [] [] [t]],r1) | _=>none)=_
    rw[hr2]
   have HB2:=hide ((unhide HBw1).trans hb2)
   have HT2:=hide (hT2.wide (T:=fun b=>w.heap.size<=b) (fun b e _=>by omega));have HP2:=hide hP2
   clear hb2 hr2 hT2 hP2 HC2
   go_wp2
   go_ret
   exact⟨unhide HB2,Or.inr ⟨_,k2,_,_,unhide HR,by omega,rfl,TV.not t ty u (unhide HT2),unhide HP2⟩⟩
 have HCw1:=hide (takesN h ⟨#[78,79,84]⟩ 20 (by omega) (Go.ByteArray.toList_mk [78,79,84]) (fun r e=>hdw1 ⟨r,e⟩))
 have HNow1:=hide hdw1
 have HPow1:=hide h
 clear hdw1 h
 go_wp2_with fail
 refine(unhide HCw1).mono ?_;rintro e w1 ⟨rfl,hbw1⟩
 have HBw1:=hide (ButB.ofBelow (S:=atP pb) hbw1)
 have hPw1:=(unhide HPow1).of hbw1
 clear hbw1 HCw1 HPow1
 by_cases hdw2: ∃r,(tks L).drop k= .sy 21::r
 ·obtain⟨rw2,hdw2⟩:=hdw2
  obtain⟨_,hrw2,hklw2,_⟩:=drop_cons hdw2
  have HCw2:=hide (takesY hPw1 ⟨#[69,88,73,83,84,83]⟩ 21 (by omega) (Go.ByteArray.toList_mk [69,88,73,83,84,83]) hdw2)
  rw[hdw2,hrw2]at HRR
  clear hdw2 hrw2 hPw1
  go_wp2_with fail
  refine(unhide HCw2).mono ?_;rintro e w2 ⟨rfl,hPw2,hbw2⟩
  have HBw2:=hide ((unhide HBw1).trans hbw2)
  clear hbw2 HCw2
  have HC3:=hide (bracketed_calls hPw2 41 (fun _ _=>by kernel_rfl) (iP f .query) (fun W2 hW2=>(unhide HH).qu W2 (k+1+1) hW2 (by have:=hW2.le;omega)))
  have hz2:w.heap.size<=w2.heap.size:=(unhide HBw2).size
  clear hPw2
  go_wp2_with fail
  refine(unhide HC3).mono ?_
  rintro e w3 ⟨hb3,⟨hr3,rfl⟩ | ⟨t,k3,ty,u,hr3,hk3,rfl,hT3,hP3⟩⟩
  ·have HR:Hid (RR=none):=by
    show RR=none
    rw[unhide HRR]
    show(match brk (iP f .query) ((tks L).drop (k+1))with | some (q,r1)=>some ([Rt.mk 10 0 0 [] [] [q]],r1) | none=>none)=none
    rw[brk_none hr3]
   have HB3:=hide ((unhide HBw2).trans hb3)
   clear hb3 hr3 HC3
   go_wp2
   exact⟨rfl,unhide HB3,Or.inl ⟨unhide HR,rfl⟩⟩
  ·have HR:Hid (RR=some ([.mk 10 0 0 [] [] [t]],(tks L).drop k3)):=by
    show RR=_
    rw[unhide HRR]
    show(match brk (iP f .query) ((tks L).drop (k+1))with | some (q,r1)=>some ([Rt.mk 10 0 0 [] [] [q]],r1) | none=>none)=_
    rw[brk_some hr3]
   have HB3:=hide ((unhide HBw2).trans hb3)
   have HT3:=hide (hT3.wide (T:=fun b=>w.heap.size<=b) (fun b e _=>by omega));have HP3:=hide hP3
   clear hb3 hr3 hT3 hP3 HC3
   go_wp2
   go_ret
   exact⟨unhide HB3,Or.inr ⟨_,k3,_,_,unhide HR,by omega,rfl,TV.exi t ty u (unhide HT3),unhide HP3⟩⟩
 have HCw2:=hide (takesN hPw1 ⟨#[69,88,73,83,84,83]⟩ 21 (by omega) (Go.ByteArray.toList_mk [69,88,73,83,84,83]) (fun r e=>hdw2 ⟨r,e⟩))
 have HNow2:=hide hdw2
 have HPow2:=hide hPw1
 clear hdw2 hPw1
 go_wp2_with fail
 refine(unhide HCw2).mono ?_;rintro e w2 ⟨rfl,hbw2⟩
 have HBw2:=hide ((unhide HBw1).trans (ButB.ofBelow hbw2))
 have hPw2:=(unhide HPow2).of hbw2
 clear hbw2 HCw2 HPow2
 have h00:iP f .scal []=none:=by
  obtain⟨f',rfl⟩: ∃f',f=f'+1:=⟨f-1,by omega⟩
  rfl
 obtain⟨K0,T0,V0,hv0⟩:=hd_ex L k
 have HA:=hide (ahead_gen hPw2 0 (by omega) K0 V0 T0 hv0)
 have q0:(T0.toList==[40])=decide ((tks L)[k]?=some (.sy 0)):=hd_text hPw2.p.toks hv0 0 (by omega)
 have HPq:=hide hPw2
 clear hPw2 hv0
 go_wp2_with fail
 refine(unhide HA).mono ?_;rintro e w3 ⟨rfl,hb3⟩
 have hPw3:=(unhide HPq).of hb3
 have HBw3:=hide ((unhide HBw2).trans (ButB.ofBelow hb3))
 have hfd:=tkField1 K0 V0 T0 w3
 clear hb3 HA HPq
 by_cases hd0: ∃r,(tks L).drop k= .sy 0::r
 ·obtain⟨r0,hd0⟩:=hd0
  obtain⟨hk0,hr0,hkl0,_⟩:=drop_cons hd0
  rw[hk0]at q0
  have q0':(T0.toList==[40])=true:=by rw[q0];simp
  clear q0
  obtain⟨K1,T1,V1,hv1⟩:=hd_ex L (k+1)
  have HA1:=hide (ahead_gen hPw3 1 (by omega) K1 V1 T1 hv1)
  have q1:(T1.toList==[83,69,76,69,67,84])=decide ((tks L)[k+1]?=some (.sy 11)):=hd_text hPw3.p.toks hv1 11 (by omega)
  have HPq:=hide hPw3
  clear hPw3 hv1
  go_wp2_with fail
  refine(unhide HA1).mono ?_;rintro e w4 ⟨rfl,hb4⟩
  have hPw4:=(unhide HPq).of hb4
  have HBw4:=hide ((unhide HBw3).trans (ButB.ofBelow hb4))
  have hfd1:=tkField1 K1 V1 T1 w4
  clear hb4 HA1 HPq hfd
  by_cases hs: ∃r,(tks L).drop (k+1)= .sy 11::r
  ·obtain⟨r1,hs⟩:=hs
   obtain⟨hk1,_,_,_⟩:=drop_cons hs
   rw[hk1]at q1
   have q1':(T1.toList !=[83,69,76,69,67,84])=false:=by rw[bne,q1];simp
   have q1'':(T1.toList==[83,69,76,69,67,84])=true:=by rw[q1];simp
   rw[prim_sc h00 (fun r e=>(unhide HNow1) ⟨r,e⟩) (fun r e=>(unhide HNow2) ⟨r,e⟩) (fun r e=>by
    rw[hd0]at e
    simp only[List.cons.injEq,true_and]at e
    exact⟨r1,by rw[<-e,hr0,hs]⟩)]at HRR
   clear hd0 hr0 hs hk0 hk1 q1 h00
   have HC5:=hide ((unhide HH).sc w4 k hPw4 (by omega))
   have hzq:w.heap.size<=w4.heap.size:=(unhide HBw4).size
   clear hPw4
   go_wp2_with fail
   refine(unhide HC5).mono ?_
   rintro e w5 ⟨hb5,⟨hr5,rfl⟩ | ⟨t,k5,ty,u,hr5,hk5,rfl,hT5,hP5⟩⟩
   ·have HR:Hid (RR=none):=by
     show RR=none
     rw[unhide HRR,hr5]
    have HB5:=hide ((unhide HBw4).trans hb5)
    clear hb5 hr5 HC5
    go_wp2
    exact⟨rfl,unhide HB5,Or.inl ⟨unhide HR,rfl⟩⟩
   have hz5:w4.heap.size<=w5.heap.size:=hb5.size
   have HC6:=hide (test_calls hP5 f (by omega) (unhide HH) w.heap.size (by omega) hpw t ty u (hT5.wide (T:=fun b=>w.heap.size<=b) (fun b e _=>by omega)))
   have HB5:=hide ((unhide HBw4).trans hb5)
   rw[hr5]at HRR
   clear hb5 hr5 hT5 hP5 HC5
   go_wp2_with fail
   refine(unhide HC6).mono ?_
   rintro e w6 ⟨hb6,⟨hr6,rfl⟩ | ⟨t6,k6,ty6,u6,hr6,hk6,rfl,hT6,hP6⟩⟩
   ·have HR:Hid (RR=none):=(unhide HRR).trans hr6
    have HB6:=hide ((unhide HB5).trans hb6)
    clear hb6 hr6 HC6
    go_wp2
    exact⟨rfl,unhide HB6,Or.inl ⟨unhide HR,rfl⟩⟩
   ·have HR:Hid (RR=some ([t6],(tks L).drop k6)):=(unhide HRR).trans hr6
    have HB6:=hide ((unhide HB5).trans hb6)
    have HT6:=hide hT6;have HP6:=hide hP6
    clear hb6 hr6 hT6 hP6 HC6
    go_wp2
    go_ret
    exact⟨unhide HB6,Or.inr ⟨t6,k6,ty6,u6,unhide HR,by omega,rfl,unhide HT6,unhide HP6⟩⟩
  ·have q1':(T1.toList==[83,69,76,69,67,84])=false:=by
    rw[q1]
    refine decide_eq_false (fun e=> ?_)
    rw[drop_tok]at e
    cases hq:(tks L).drop (k+1)with
    | nil=>rw[hq]at e;cases e
    | cons t r=>rw[hq]at e;simp at e;exact hs ⟨r,by rw[hq,e]⟩
   have q1'':(T1.toList !=[83,69,76,69,67,84])=true:=by rw[bne,q1'];rfl
   have HRb:Hid (RR=brkL (iP f .cond) ((tks L).drop k)):=by
    show RR=_
    rw[unhide HRR,hd0]
    exact prim_br (fun r e=>hs ⟨r,by rw[<-hr0];exact e⟩)
   have HC5:=hide (bracketed_calls hPw4 104 (fun _ _=>by kernel_rfl) (iP f .cond) (fun W2 hW2=>(unhide HH).co W2 (k+1) hW2 (by have:=hW2.le;omega)))
   have hzq:w.heap.size<=w4.heap.size:=(unhide HBw4).size
   clear hd0 hr0 hs hk0 q1 h00 hPw4
   go_wp2_with fail
   refine(unhide HC5).mono ?_
   rintro e w5 ⟨hb5,⟨hr5,rfl⟩ | ⟨t,k5,ty,u,hr5,hk5,rfl,hT5,hP5⟩⟩
   ·have HR:=hide ((unhide HRb).trans hr5)
    have HB5:=hide ((unhide HBw4).trans hb5)
    clear hb5 hr5 HC5
    go_wp2
    exact⟨rfl,unhide HB5,Or.inl ⟨unhide HR,rfl⟩⟩
   ·have HR:=hide ((unhide HRb).trans hr5)
    have HB5:=hide ((unhide HBw4).trans hb5)
    have HT5:=hide (hT5.wide (T:=fun b=>w.heap.size<=b) (fun b e _=>by omega));have HP5:=hide hP5
    clear hb5 hr5 hT5 hP5 HC5
    go_wp2
    go_ret
    exact⟨unhide HB5,Or.inr ⟨t,k5,ty,u,unhide HR,hk5,rfl,unhide HT5,unhide HP5⟩⟩
 ·have q0':(T0.toList==[40])=false:=by
   rw[q0]
   refine decide_eq_false (fun e=> ?_)
   rw[drop_tok]at e
   cases hq:(tks L).drop k with
   | nil=>rw[hq]at e;cases e
   | cons t r=>rw[hq]at e;simp at e;exact hd0 ⟨r,by rw[hq,e]⟩
  rw[prim_sc h00 (fun r e=>(unhide HNow1) ⟨r,e⟩) (fun r e=>(unhide HNow2) ⟨r,e⟩) (fun r e=>absurd ⟨r,e⟩ hd0)]at HRR
  clear hd0 q0 h00
  have HC5:=hide ((unhide HH).sc w3 k hPw3 (by omega))
  have hzq:w.heap.size<=w3.heap.size:=(unhide HBw3).size
  clear hPw3
  go_wp2_with fail
  refine(unhide HC5).mono ?_
  rintro e w5 ⟨hb5,⟨hr5,rfl⟩ | ⟨t,k5,ty,u,hr5,hk5,rfl,hT5,hP5⟩⟩
  ·have HR:Hid (RR=none):=by
    show RR=none
    rw[unhide HRR,hr5]
   have HB5:=hide ((unhide HBw3).trans hb5)
   clear hb5 hr5 HC5
   go_wp2
   exact⟨rfl,unhide HB5,Or.inl ⟨unhide HR,rfl⟩⟩
  have hz5:w3.heap.size<=w5.heap.size:=hb5.size
  have HC6:=hide (test_calls hP5 f (by omega) (unhide HH) w.heap.size (by omega) hpw t ty u (hT5.wide (T:=fun b=>w.heap.size<=b) (fun b e _=>by omega)))
  have HB5:=hide ((unhide HBw3).trans hb5)
  rw[hr5]at HRR
  clear hb5 hr5 hT5 hP5 HC5
  go_wp2_with fail
  refine(unhide HC6).mono ?_
  rintro e w6 ⟨hb6,⟨hr6,rfl⟩ | ⟨t6,k6,ty6,u6,hr6,hk6,rfl,hT6,hP6⟩⟩
  ·have HR:Hid (RR=none):=(unhide HRR).trans hr6
   have HB6:=hide ((unhide HB5).trans hb6)
   clear hb6 hr6 HC6
   go_wp2
   exact⟨rfl,unhide HB6,Or.inl ⟨unhide HR,rfl⟩⟩
  ·have HR:Hid (RR=some ([t6],(tks L).drop k6)):=(unhide HRR).trans hr6
   have HB6:=hide ((unhide HB5).trans hb6)
   have HT6:=hide hT6;have HP6:=hide hP6
   clear hb6 hr6 hT6 hP6 HC6
   go_wp2
   go_ret
   exact⟨unhide HB6,Or.inr ⟨t6,k6,ty6,u6,unhide HR,by omega,rfl,unhide HT6,unhide HP6⟩⟩
end Go.Proofs.YtmggnimiioepeaaGreatDoor.Pa
