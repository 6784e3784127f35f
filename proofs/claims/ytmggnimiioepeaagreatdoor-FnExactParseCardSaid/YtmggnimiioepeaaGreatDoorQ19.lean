import Derived.Test.YtmggnimiioepeaaGreatDoorQ0
import Derived.Test.YtmggnimiioepeaaGreatDoorQ18
import Derived.Test.YtmggnimiioepeaaGreatDoorQ5
import Derived.Test.YtmggnimiioepeaaGreatDoorQ1
namespace Go.Proofs.YtmggnimiioepeaaGreatDoor.Pa
open Go Go.RowKit
def HdV(L:List (Tok×ByteArray))(k:Nat)(K:Int)(T:ByteArray)(V:Int):Prop:=(L[k]?=none/\K=0/\T=⟨#[]⟩/\V=0)\/ ∃p,L[k]?=some p/\tkI p.1 p.2=[.int .i64 K,.string T,.int .i64 V]
theorem ahead_gen{w:World}{pb:Nat}{a:Option Addr}{c:Nat}{L:List (Tok×ByteArray)}{k:Nat}(h:PO w pb a c L k)(j:Nat)(hj:j<=10)(K V:Int)(T:ByteArray)(hd:HdV L (k+j) K T V):Calls Tryz.prog 71 #[.pointer (some ⟨pb,0,none⟩),.int .i64 (j:Int)] w fun e w'=>e= .returned (.agg #[.int .i64 K,.string T,.int .i64 V])/\Below w.heap.size w w':=by
 have hk:k<=1000000:=by have:=h.le;have:=h.lm;omega
 rcases hd with⟨hn,rfl,rfl,rfl⟩ | ⟨p,hp,hf⟩
 ·exact ahead_no w pb a c L k j h.p hk hj (List.getElem?_eq_none_iff.1 hn)
 ·have:=ahead_yes w pb a c L k j h.p hk hj p hp
  rw[hf]at this
  exact this
theorem hd_ex(L:List (Tok×ByteArray))(k:Nat): ∃K T V,HdV L k K T V:=by
 cases hp:L[k]? with
 | none=>exact⟨0,⟨#[]⟩,0,Or.inl ⟨hp,rfl,rfl,rfl⟩⟩
 | some p=>
  obtain⟨K,V,hf⟩:=tkI_form p.1 p.2
  exact⟨K,p.2,V,Or.inr ⟨p,hp,hf⟩⟩
theorem tkField0(K V:Int)(T:ByteArray)(W:World):Sem.run Tryz.prog (Instr.field 68 (.agg #[.int .i64 K,.string T,.int .i64 V]) 0) W= .ok (.int .i64 K) W:=by kernel_rfl
theorem tkField2(K V:Int)(T:ByteArray)(W:World):Sem.run Tryz.prog (Instr.field 68 (.agg #[.int .i64 K,.string T,.int .i64 V]) 2) W= .ok (.int .i64 V) W:=by kernel_rfl
set_option maxHeartbeats 4000000 in
set_option maxRecDepth 100000 in
theorem nk_no{w:World}{pb:Nat}{a:Option Addr}{c:Nat}{L:List (Tok×ByteArray)}{k:Nat}(h:PO w pb a c L k)(Q K V:Int)(T:ByteArray)(hd:HdV L k K T V)(hq:K≠Q):Calls Tryz.prog 42 #[.pointer (some ⟨pb,0,none⟩),.int .i64 Q] w fun e w'=>e=mis/\Below w.heap.size w w':=by
 have hC: ∀w1,Below w.heap.size w w1->Calls Tryz.prog 71 #[.pointer (some ⟨pb,0,none⟩),.int .i64 0] w1 fun e w'=>e= .returned (.agg #[.int .i64 K,.string T,.int .i64 V])/\Below w1.heap.size w1 w':=fun w1 hb=>ahead_gen (h.of hb) 0 (by omega) K V T hd
 have HC:=hide hC
 have hqb:(K !=Q)=true:=by rw[bne_iff_ne];exact hq
 clear h hd hq hC
 go_enter Tryz.func42,Tryz.ntmps42
 go_wp2_with fail
 refine(unhide HC _ (bA (Below.refl _ _) _)).mono ?_;rintro e w1 ⟨rfl,hb1⟩
 have HB:=hide (bT (bA (Below.refl w.heap.size w) _) hb1)
 clear hb1 HC
 go_wp2
 refine⟨rfl,rfl,?_⟩
 (repeat(refine Below.setCell ?_ (by dsimp only;have:=(unhide HB).size;omega) _))
 exact bA (unhide HB) _
set_option maxHeartbeats 4000000 in
set_option maxRecDepth 100000 in
theorem nk_any{w:World}{pb:Nat}{a:Option Addr}{c:Nat}{L:List (Tok×ByteArray)}{k:Nat}(h:PO w pb a c L k)(K V:Int)(T:ByteArray)(hd:HdV L k K T V):Calls Tryz.prog 42 #[.pointer (some ⟨pb,0,none⟩),.int .i64 K] w fun e w'=>e= .returned (.agg #[.int .i64 K,.string T,.int .i64 V])/\(PsrI w' pb a c L (k+1)/\w'.frozen? ⟨pb,1,none⟩=false)/\ButB (atP pb) w w':=by
 have hC: ∀w1,Below w.heap.size w w1->Calls Tryz.prog 71 #[.pointer (some ⟨pb,0,none⟩),.int .i64 0] w1 fun e w'=>e= .returned (.agg #[.int .i64 K,.string T,.int .i64 V])/\Below w1.heap.size w1 w':=fun w1 hb=>ahead_gen (h.of hb) 0 (by omega) K V T hd
 have HC:=hide hC;have HP:=hide h
 have hpb:=h.p.lt
 have hkl:k<=100000:=by have:=h.le;have:=h.lm;omega
 have hqb:(K !=K)=false:=by simp
 clear h hd hC
 go_enter Tryz.func42,Tryz.ntmps42
 go_wp2_with fail
 refine(unhide HC _ (bA (Below.refl _ _) _)).mono ?_;rintro e w1 ⟨rfl,hb1⟩
 have hCx:=(CellsAt.new w [.int .i64 0,.string ⟨#[]⟩,.int .i64 0] 68).of hb1
 have HB:=hide (bT (bA (Below.refl w.heap.size w) _) hb1)
 have hPx:=(unhide HP).of (unhide HB)
 have c1:=hPx.p.c1
 have hf1:=hPx.fz
 have hp1:=hPx.p.lt
 have hb2:w.heap.size<w1.heap.size:=hCx.lt
 obtain⟨e0,e1,e2⟩:w1.cell? ⟨w.heap.size,0,none⟩=some (.int .i64 0)/\w1.cell? ⟨w.heap.size,1,none⟩=some (.string ⟨#[]⟩)/\w1.cell? ⟨w.heap.size,2,none⟩=some (.int .i64 0):=⟨hCx.all 0 _ rfl,hCx.all 1 _ rfl,hCx.all 2 _ rfl⟩
 have hfz:=hCx.frz
 have HPx:=hide hPx;have HCx:=hide hCx
 have hne: ¬pb=w.heap.size:=by omega
 have hne2: ¬w.heap.size=pb:=by omega
 clear hb1 HC hPx hCx
 go_upto_region 4 with fail
 obtain⟨W2,hW2⟩: ∃W2,W2=w1.alloc (.cells #[.int .i64 K,.string T,.int .i64 V] 68):=⟨_,rfl⟩
 have hb3:Below w1.heap.size w1 W2:=by rw[hW2];exact bA (Below.refl _ _) _
 have hTk:CellsAt W2 w1.heap.size [.int .i64 K,.string T,.int .i64 V]:=by rw[hW2];exact CellsAt.new w1 [.int .i64 K,.string T,.int .i64 V] 68
 have hRx:=(unhide HCx).of hb3
 have hPy:=(unhide HPx).of hb3
 rw[<-hW2]
 have HS:=hide (hPy.p.step (fun g e=>Nat.ne_of_lt (hPy.ne g e)))
 have HB3:=hide (bT (unhide HB) hb3)
 clear hW2 hb3 e0 e1 e2 hfz c1 hf1 hp1 hne hne2
 have c1:=hPy.p.c1
 have hf1:=hPy.fz
 have hp1:=hPy.p.lt
 obtain⟨e0,e1,e2⟩:W2.cell? ⟨w.heap.size,0,none⟩=some (.int .i64 0)/\W2.cell? ⟨w.heap.size,1,none⟩=some (.string ⟨#[]⟩)/\W2.cell? ⟨w.heap.size,2,none⟩=some (.int .i64 0):=⟨hRx.all 0 _ rfl,hRx.all 1 _ rfl,hRx.all 2 _ rfl⟩
 obtain⟨t0,t1,t2⟩:W2.cell? ⟨w1.heap.size,0,none⟩=some (.int .i64 K)/\W2.cell? ⟨w1.heap.size,1,none⟩=some (.string T)/\W2.cell? ⟨w1.heap.size,2,none⟩=some (.int .i64 V):=⟨hTk.all 0 _ rfl,hTk.all 1 _ rfl,hTk.all 2 _ rfl⟩
 have hfz:=hRx.frz
 have hz1:w.heap.size<W2.heap.size:=hRx.lt
 have hz2:w1.heap.size<W2.heap.size:=hTk.lt
 have n1: ¬pb=w.heap.size:=by omega
 have n2: ¬w.heap.size=pb:=by omega
 have n3: ¬pb=w1.heap.size:=by omega
 have n4: ¬w1.heap.size=pb:=by omega
 clear hRx hTk hPy
 have jw:(k:Int)+1=((k+1:Nat):Int):=by omega
 have HJ:=hide jw
 have hm:pb<W2.heap.size:=hp1
 clear jw
 obtain⟨W3,hW3⟩: ∃W3,W3=W2.setCell ⟨pb,1,none⟩ (.int .i64 ((k:Int)+1)):=⟨_,rfl⟩
 have HS3:Hid (PsrI W3 pb a c L (k+1)):=by
  show PsrI _ _ _ _ _ _
  rw[hW3,unhide HJ]
  exact unhide HS
 have q0:W3.cell? ⟨w.heap.size,0,none⟩=some (.int .i64 0):=by rw[hW3,setCell_farN n1];exact e0
 have q1:W3.cell? ⟨w.heap.size,1,none⟩=some (.string ⟨#[]⟩):=by rw[hW3,setCell_farN n1];exact e1
 have q2:W3.cell? ⟨w.heap.size,2,none⟩=some (.int .i64 0):=by rw[hW3,setCell_farN n1];exact e2
 have r0:W3.cell? ⟨w1.heap.size,0,none⟩=some (.int .i64 K):=by rw[hW3,setCell_farN n3];exact t0
 have r1:W3.cell? ⟨w1.heap.size,1,none⟩=some (.string T):=by rw[hW3,setCell_farN n3];exact t1
 have r2:W3.cell? ⟨w1.heap.size,2,none⟩=some (.int .i64 V):=by rw[hW3,setCell_farN n3];exact t2
 have hfz3: ∀o,W3.frozen? ⟨w.heap.size,o,none⟩=false:=fun o=>by rw[hW3,frozen_setCellN];exact hfz o
 have hfp3:W3.frozen? ⟨pb,1,none⟩=false:=by rw[hW3,frozen_setCellN];exact hf1
 have hs3:W3.heap.size=W2.heap.size:=by rw[hW3];simp
 have HB4:Hid (ButB (atP pb) w W3):=by
  show ButB _ _ _
  rw[hW3]
  exact ButB.set (S:=atP pb) (ButB.ofBelow (unhide HB3)) (Or.inl rfl) _
 have HW3:=hide hW3
 have hz3:w.heap.size<W3.heap.size:=by omega
 have hz4:w1.heap.size<W3.heap.size:=by omega
 clear hW3 hs3
 go_upto_region 5 with fail
 rw[<-unhide HW3]
 clear e0 e1 e2 t0 t1 t2 c1 hf1 hp1 hfz HW3 HS HB3
 obtain⟨W4,hW4⟩: ∃W4,W4=((W3.setCell ⟨w.heap.size,0,none⟩ (.int .i64 K)).setCell ⟨w.heap.size,1,none⟩ (.string T)).setCell ⟨w.heap.size,2,none⟩ (.int .i64 V):=⟨_,rfl⟩
 have hC3:CellsAt W3 w.heap.size [.int .i64 0,.string ⟨#[]⟩,.int .i64 0]:=⟨hz3,hfz3,fun o v hv=>by
  match o,hv with
  | 0,hv=>simp at hv;subst hv;exact q0
  | 1,hv=>simp at hv;subst hv;exact q1
  | 2,hv=>simp at hv;subst hv;exact q2
  | n+3,hv=>simp at hv⟩
 have hC4:CellsAt W4 w.heap.size [.int .i64 K,.string T,.int .i64 V]:=by
  rw[hW4]
  exact(((hC3.set 0 (.int .i64 K) (by simp)).set 1 (.string T) (by simp)).set 2 (.int .i64 V) (by simp))
 have hB5:ButB (fun b=>b=w.heap.size) W3 W4:=by
  rw[hW4]
  exact ButB.set (S:=fun b=>b=w.heap.size) (ButB.set (S:=fun b=>b=w.heap.size) (ButB.set (S:=fun b=>b=w.heap.size) (ButB.refl _ _) (Or.inl rfl) _) (Or.inl rfl) _) (Or.inl rfl) _
 have HC4:=hide hC4;have HB5:=hide hB5;have HW4:=hide hW4
 clear hC3 hC4 hB5 hW4
 go_wp2
 refine bodyPost_ret (v:= .agg #[.int .i64 K,.string T,.int .i64 V]) ?_ rfl ?_
 ·rw[<-unhide HW4]
  have h0:=(unhide HC4).all 0 _ rfl
  have h1:=(unhide HC4).all 1 _ rfl
  have h2:=(unhide HC4).all 2 _ rfl
  simp[results,Tryz.results42,go_sem,h0,h1,h2]
 ·rw[<-unhide HW4]
  refine⟨rfl,⟨?_,?_⟩,?_⟩
  ·have hp:=unhide HS3
   have hb:=unhide HB5
   have hpn: ¬pb=w.heap.size:=n1
   refine⟨Nat.lt_of_lt_of_le hp.lt hb.size,(hb.cell pb 0 hp.lt hpn).trans hp.c0,(hb.cell pb 1 hp.lt hpn).trans hp.c1,fun i p hi=> ?_⟩
   obtain⟨h0,g,h1,h2,h3⟩:=hp.toks i p hi
   have hgl:g<pb:=(unhide HP).ne g h1
   exact⟨h0,g,h1,Nat.lt_of_lt_of_le h2 hb.size,fun j hj=>(hb.cell g _ h2 (by omega)).trans (h3 j hj)⟩
  ·rw[(unhide HB5).frz pb 1 (unhide HS3).lt n1];exact hfp3
  ·exact(unhide HB4).trans' (unhide HB5) (fun b e=>Or.inr (by omega))
theorem nk_yes{w:World}{pb:Nat}{a:Option Addr}{c:Nat}{L:List (Tok×ByteArray)}{k:Nat}(h:PO w pb a c L k)(hk:k<L.length)(K V:Int)(T:ByteArray)(hd:HdV L k K T V):Calls Tryz.prog 42 #[.pointer (some ⟨pb,0,none⟩),.int .i64 K] w fun e w'=>e= .returned (.agg #[.int .i64 K,.string T,.int .i64 V])/\PO w' pb a c L (k+1)/\ButB (atP pb) w w':=
 (nk_any h K V T hd).mono fun _ _ ⟨h1,⟨h2,h3⟩,h4⟩=>⟨h1,h.step h2 h4 h3 hk,h4⟩
end Go.Proofs.YtmggnimiioepeaaGreatDoor.Pa
namespace Go.Proofs.YtmggnimiioepeaaGreatDoor.Pa
open Go Go.RowKit
set_option maxHeartbeats 4000000 in
set_option maxRecDepth 100000 in
theorem comparison_calls{w:World}{pb:Nat}{a:Option Addr}{c:Nat}{L:List (Tok×ByteArray)}{k:Nat}(h:PO w pb a c L k):Calls Tryz.prog 120 #[.pointer (some ⟨pb,0,none⟩)] w fun e w'=>ButB (atP pb) w w'/\((∃j r,(tks L).drop k= .sy (j+4)::r/\1<=j/\j<=6/\e= .returned (.int .i64 ((j:Nat):Int))/\PO w' pb a c L (k+1))\/((∀j r,1<=j->j<=6->(tks L).drop k≠ .sy (j+4)::r)/\e=mis)):=by
 have HP:=hide h
 clear h
 go_enter Tryz.func120,Tryz.ntmps120
 go_wp2
 go_loopw [3] (fun o wr=> ∃j:Nat,1<=j/\j<=7/\o= .int .i64 j/\Below w.heap.size w wr/\ ∀i r,1<=i->i<j->(tks L).drop k≠ .sy (i+4)::r) (fun o _=>7-(intOf o).toNat)
 case atStart=>exact⟨1,Nat.le_refl _,by omega,rfl,Below.refl _ _,fun i r h1 h2=>by omega⟩
 case round=>
  obtain⟨j,h1,h7,rfl,hb,hno⟩:=hrel
  have HB:=hide hb;have HN:=hide hno
  have hPr:=(unhide HP).of hb
  clear hb hno
  by_cases hj:j<=6
  ·obtain⟨s,hs,hsT⟩:=cs_at j h1 hj
   have hc:wr.cell? ⟨7,j,none⟩=some (.string s):=(hPr.tc.cell j).trans hs
   have hg:7<wr.heap.size:=hPr.tc.size
   have j1:(j:Int)<=6:=by omega
   have j2:(j:Int)<7:=by omega
   by_cases hd: ∃r,(tks L).drop k= .sy (j+4)::r
   ·obtain⟨r,hd⟩:=hd
    have HC:=hide (takesY hPr s (j+4) (by omega) hsT hd)
    have HD:=hide hd
    clear hPr hs hsT hd HN
    go_wp2_with fail
    refine(unhide HC).mono ?_;rintro e w1 ⟨rfl,hP1,hb1⟩
    have HP1:=hide hP1;have HB1:=hide hb1
    clear hP1 hb1
    go_wp2
    go_ret
    exact⟨(ButB.ofBelow (unhide HB)).trans (unhide HB1),Or.inl ⟨j,r,unhide HD,h1,hj,rfl,unhide HP1⟩⟩
   ·have HC:=hide (takesN hPr s (j+4) (by omega) hsT (fun r e=>hd ⟨r,e⟩))
    have HD:=hide hd
    clear hPr hs hsT hd
    go_wp2_with fail
    refine(unhide HC).mono ?_;rintro e w1 ⟨rfl,hb1⟩
    have HB1:=hide (bT (unhide HB) hb1)
    clear hb1
    go_wp2
    go_roundw
    case rel=>exact⟨j+1,by omega,by omega,by go_num,unhide HB1,fun i r e1 e2=>by
     by_cases e:i=j
     ·subst e;exact fun x=>(unhide HD) ⟨r,x⟩
     ·exact unhide HN i r e1 (by omega)⟩
    case measure=>simp[intOf];omega
  ·obtain rfl:j=7:=by omega
   clear hPr
   go_wp2
   exact⟨rfl,ButB.ofBelow (unhide HB),Or.inr ⟨fun j r e1 e2=>unhide HN j r e1 (by omega),rfl⟩⟩
set_option maxHeartbeats 4000000 in
set_option maxRecDepth 100000 in
theorem aggregateKind_calls{w:World}{pb:Nat}{a:Option Addr}{c:Nat}{L:List (Tok×ByteArray)}{k:Nat}(h:PO w pb a c L k):Calls Tryz.prog 110 #[.pointer (some ⟨pb,0,none⟩)] w fun e w'=>ButB (atP pb) w w'/\((∃j r,(tks L).drop k= .sy (j+23)::r/\2<=j/\j<=4/\e= .returned (.int .i64 ((j:Nat):Int))/\PO w' pb a c L (k+1))\/((∀j r,2<=j->j<=4->(tks L).drop k≠ .sy (j+23)::r)/\e=mis)):=by
 have HP:=hide h
 clear h
 go_enter Tryz.func110,Tryz.ntmps110
 go_wp2
 go_loopw [3] (fun o wr=> ∃j:Nat,2<=j/\j<=5/\o= .int .i64 j/\Below w.heap.size w wr/\ ∀i r,2<=i->i<j->(tks L).drop k≠ .sy (i+23)::r) (fun o _=>5-(intOf o).toNat)
 case atStart=>exact⟨2,Nat.le_refl _,by omega,rfl,Below.refl _ _,fun i r h1 h2=>by omega⟩
 case round=>
  obtain⟨j,h1,h7,rfl,hb,hno⟩:=hrel
  have HB:=hide hb;have HN:=hide hno
  have hPr:=(unhide HP).of hb
  clear hb hno
  by_cases hj:j<=4
  ·obtain⟨s,hs,hsT⟩:=aw_at j h1 hj
   have hc:wr.cell? ⟨5,j,none⟩=some (.string s):=(hPr.ta.cell j).trans hs
   have hg:5<wr.heap.size:=hPr.ta.size
   have j1:(j:Int)<=4:=by omega
   have j2:(j:Int)<5:=by omega
   by_cases hd: ∃r,(tks L).drop k= .sy (j+23)::r
   ·obtain⟨r,hd⟩:=hd
    have HC:=hide (takesY hPr s (j+23) (by omega) hsT hd)
    have HD:=hide hd
    clear hPr hs hsT hd HN
    go_wp2_with fail
    refine(unhide HC).mono ?_;rintro e w1 ⟨rfl,hP1,hb1⟩
    have HP1:=hide hP1;have HB1:=hide hb1
    clear hP1 hb1
    go_wp2
    go_ret
    exact⟨(ButB.ofBelow (unhide HB)).trans (unhide HB1),Or.inl ⟨j,r,unhide HD,h1,hj,rfl,unhide HP1⟩⟩
   ·have HC:=hide (takesN hPr s (j+23) (by omega) hsT (fun r e=>hd ⟨r,e⟩))
    have HD:=hide hd
    clear hPr hs hsT hd
    go_wp2_with fail
    refine(unhide HC).mono ?_;rintro e w1 ⟨rfl,hb1⟩
    have HB1:=hide (bT (unhide HB) hb1)
    clear hb1
    go_wp2
    go_roundw
    case rel=>exact⟨j+1,by omega,by omega,by go_num,unhide HB1,fun i r e1 e2=>by
     by_cases e:i=j
     ·subst e;exact fun x=>(unhide HD) ⟨r,x⟩
     ·exact unhide HN i r e1 (by omega)⟩
    case measure=>simp[intOf];omega
  ·obtain rfl:j=5:=by omega
   clear hPr
   go_wp2
   exact⟨rfl,ButB.ofBelow (unhide HB),Or.inr ⟨fun j r e1 e2=>unhide HN j r e1 (by omega),rfl⟩⟩
def brkL(p:List Tok->Option (List Rt×List Tok))(ts:List Tok):Option (List Rt×List Tok):=match brk p ts with | some (t,r)=>some ([t],r) | none=>none
theorem brkL_no{p:List Tok->Option (List Rt×List Tok)}{ts:List Tok}(h: ∀r,ts≠ .sy 0::r):brkL p ts=none:=by
 unfold brkL brk
 split
 ·rename_i t r e
  split at e
  ·rename_i r'
   exact absurd rfl (h r')
  ·cases e
 ·rfl
theorem brkL_in{p:List Tok->Option (List Rt×List Tok)}{r:List Tok}(h:p r=none):brkL p (.sy 0::r)=none:=by
 unfold brkL brk
 simp only[h]
theorem brkL_close{p:List Tok->Option (List Rt×List Tok)}{r r1:List Tok}{t:Rt}(h:p r=some ([t],r1))(hn: ∀r2,r1≠ .sy 1::r2):brkL p (.sy 0::r)=none:=by
 unfold brkL brk
 simp only[h]
 split
 ·rename_i t' r' e
  split at e
  ·rename_i heq
   simp only[Option.some.injEq,Prod.mk.injEq]at heq
   exact absurd heq.2 (hn _)
  ·cases e
 ·rfl
theorem brkL_yes{p:List Tok->Option (List Rt×List Tok)}{r r2:List Tok}{t:Rt}(h:p r=some ([t],.sy 1::r2)):brkL p (.sy 0::r)=some ([t],r2):=by
 unfold brkL brk
 simp only[h]
set_option maxHeartbeats 4000000 in
set_option maxRecDepth 100000 in
theorem bracketed_calls{w:World}{pb:Nat}{a:Option Addr}{c:Nat}{L:List (Tok×ByteArray)}{k:Nat}(h:PO w pb a c L k)(fn:Nat)(hF: ∀(args:Array Value) (w:World),(callFunc fn args).run Tryz.prog w= .ok (.enter fn args) w)(p:List Tok->Option (List Rt×List Tok))
  (hI: ∀W,PO W pb a c L (k+1)->Calls Tryz.prog fn #[.pointer (some ⟨pb,0,none⟩)] W (IE W pb a c L (k+1) (p ((tks L).drop (k+1))))):
  Calls Tryz.prog 101 #[.pointer (some ⟨pb,0,none⟩),.func (.func fn) #[.pointer (some ⟨pb,0,none⟩)] #[]] w (IE w pb a c L k (brkL p ((tks L).drop k))):=by
 by_cases hd: ∃r,(tks L).drop k= .sy 0::r
 ·obtain⟨r,hd⟩:=hd
  obtain⟨_,hr,_,_⟩:=drop_cons hd
  have HC:=hide (needsY h ⟨#[40]⟩ 0 (by omega) (Go.ByteArray.toList_mk [40]) hd)
  have HI:=hide hI;have HD:=hide hd;have HR:=hide hr
  clear h hI hd hr
  go_enter Tryz.func101,Tryz.ntmps101
  go_wp2_with fail
  refine(unhide HC).mono ?_;rintro e w1 ⟨rfl,hP1,hb1⟩
  have HC2:=hide (unhide HI w1 hP1)
  have HB1:=hide hb1
  have hpw:pb<w1.heap.size:=hP1.p.lt
  clear hP1 hb1 HC HI
  go_wp2_with fail
  refine(unhide HC2).mono ?_
  rintro e w2 ⟨hb2,⟨hr2,rfl⟩ | ⟨t,k',ty,u,hr2,hk2,rfl,hT2,hP2⟩⟩
  ·have HE:Hid (ButB (atP pb) w w2/\brkL p ((tks L).drop k)=none):=⟨(unhide HB1).trans hb2,by rw[unhide HD,brkL_in (by rw[unhide HR];exact hr2)]⟩
   clear hb2 hr2 HC2
   go_wp2
   exact⟨rfl,(unhide HE).1,Or.inl ⟨(unhide HE).2,rfl⟩⟩
  ·by_cases hd2: ∃r2,(tks L).drop k'= .sy 1::r2
   ·obtain⟨r2,hd2⟩:=hd2
    obtain⟨_,hr3,_,_⟩:=drop_cons hd2
    have HC3:=hide (needsY hP2 ⟨#[41]⟩ 1 (by omega) (Go.ByteArray.toList_mk [41]) hd2)
    have HB2:=hide ((unhide HB1).trans hb2)
    have HT2:=hide hT2
    have HE:Hid (brkL p ((tks L).drop k)=some ([t],(tks L).drop (k'+1))):=by
     show _=_
     rw[unhide HD,<-hr3]
     refine brkL_yes ?_
     rw[unhide HR,hr2,hd2]
    clear hb2 hr2 HC2 hd2 hr3 hP2 hT2
    go_wp2_with fail
    refine(unhide HC3).mono ?_;rintro e w3 ⟨rfl,hP3,hb3⟩
    have HP3:=hide hP3;have HB3:=hide hb3
    clear hP3 hb3
    go_wp2
    go_ret
    refine⟨(unhide HB2).trans (unhide HB3),Or.inr ⟨t,k'+1,ty,u,unhide HE,by omega,rfl,?_,unhide HP3⟩⟩
    exact((unhide HT2).but (unhide HB3) (fun b h1 _ e=>by unfold atP at e;omega)).wide (fun b h1 _=>Nat.le_trans (unhide HB1).size h1)
   ·have HC3:=hide (needsN hP2 ⟨#[41]⟩ 1 (by omega) (Go.ByteArray.toList_mk [41]) (fun r e=>hd2 ⟨r,e⟩))
    have HB2:=hide ((unhide HB1).trans hb2)
    have HE:Hid (brkL p ((tks L).drop k)=none):=by
     show _=_
     rw[unhide HD]
     exact brkL_close (by rw[unhide HR];exact hr2) (fun r e=>hd2 ⟨r,e⟩)
    clear hb2 hr2 HC2 hd2 hP2 hT2
    go_wp2_with fail
    refine(unhide HC3).mono ?_;rintro e w3 ⟨rfl,hb3⟩
    have HB3:=hide hb3
    clear hb3
    go_wp2
    exact⟨rfl,(unhide HB2).trans (ButB.ofBelow (unhide HB3)),Or.inl ⟨unhide HE,rfl⟩⟩
 ·have HC:=hide (needsN h ⟨#[40]⟩ 0 (by omega) (Go.ByteArray.toList_mk [40]) (fun r e=>hd ⟨r,e⟩))
  have HE:=hide (brkL_no (p:=p) (fun r e=>hd ⟨r,e⟩))
  clear h hI hd
  go_enter Tryz.func101,Tryz.ntmps101
  go_wp2_with fail
  refine(unhide HC).mono ?_;rintro e w1 ⟨rfl,hb1⟩
  have HB1:=hide hb1
  clear hb1
  go_wp2
  exact⟨rfl,ButB.ofBelow (unhide HB1),Or.inl ⟨unhide HE,rfl⟩⟩
end Go.Proofs.YtmggnimiioepeaaGreatDoor.Pa
namespace Go.Proofs.YtmggnimiioepeaaGreatDoor.Pa
open Go Go.RowKit
structure RL(B:Nat)(w:World)(ga:Option Addr)(gc:Nat)(ts:List Rt):Prop where
 ex: ∃vs:List Value,vs.length=ts.length/\w.ownsRow B 48 1 (.slice ga ts.length gc) ts.length vs/\(∀v∈vs,v.oneCell'=true)/\ ∀(i:Nat) t v,ts[i]?=some t->vs[i]?=some v->TV w (fun b=>B<=b/\blk ga≠some b) t v
theorem RL.lt{B:Nat}{w:World}{ga:Option Addr}{gc:Nat}{ts:List Rt}(h:RL B w ga gc ts): ∀b,blk ga=some b->B<=b/\b<w.heap.size:=by
 obtain⟨vs,_,ho,_⟩:=h.ex
 intro b hb
 obtain⟨a',c',e,h2⟩:=ownsRow_form ho
 simp only[Value.slice.injEq]at e
 obtain⟨rfl,_,_⟩:=e
 exact h2 b hb
theorem RL.but{B:Nat}{w w1:World}{ga:Option Addr}{gc:Nat}{ts:List Rt}(h:RL B w ga gc ts){X:Nat->Prop}(hb:ButB X w w1)(hX: ∀b,X b->b<B):RL B w1 ga gc ts:=by
 obtain⟨vs,h1,ho,h2,h3⟩:=h.ex
 have hlt:=h.lt
 refine⟨vs,h1,⟨ho.1,?_⟩,h2,fun i t v e1 e2=>(h3 i t v e1 e2).but hb (fun b e _ x=>by have:=hX b x;omega)⟩
 rcases ho.2 with h0 | ⟨g,cap,cur,q1,q2,q3,q4⟩
 ·exact Or.inl h0
 ·exact Or.inr ⟨g,cap,cur,q1,q2,by rw[hb.block g (Array.getElem?_eq_some_iff.1 q3).1 (fun x=>by have:=hX g x;omega)];exact q3,q4⟩
theorem RL.nil(B:Nat)(w:World):RL B w none 0 []:=⟨[],rfl,World.ownsRow_nil _ _ _ _,by simp,by simp⟩
theorem RL.one{B:Nat}{w:World}(hB:B<=w.heap.size){t:Rt}{ty:Nat}{u:Value}(h:TV w (fun b=>B<=b) t (.iface ty u)):RL B (w.alloc (.cells #[.iface ty u] 48)) (some ⟨w.heap.size,0,none⟩) 1 [t]:=by
 refine⟨[.iface ty u],rfl,⟨rfl,Or.inr ⟨w.heap.size,1,#[.iface ty u],rfl,hB,heap_alloc_new w _,Nat.le_refl _,by unfold maxLen;omega,rfl,rfl⟩⟩,by simp[Value.oneCell'],fun i t' v e1 e2=> ?_⟩
 have hi:i=0:=by
  have:=(List.getElem?_eq_some_iff.1 e1).1
  simp at this
  omega
 subst hi
 simp at e1 e2
 subst e1;subst e2
 have hb:Below w.heap.size w (w.alloc (.cells #[.iface ty u] 48)):=bA (Below.refl _ _) _
 exact h.mono fun b h1 h2=>⟨⟨h1,by simp[blk];omega⟩,Nat.lt_of_lt_of_le h2 hb.size,hb.block b h2⟩
theorem RL.fin{B:Nat}{w:World}{ga:Option Addr}{gc:Nat}{ts:List Rt}(h:RL B w ga gc ts): ∃us,RowT w (fun b=>B<=b) (.slice ga ts.length gc) ts.length us/\ ∀(i:Nat) t,ts[i]?=some t->TV w (fun b=>B<=b) t (us i):=by
 obtain⟨vs,h1,ho,_,h3⟩:=h.ex
 refine⟨fun i=>vs.getD i undef,?_,fun i t e1=> ?_⟩
 ·rcases ho.2 with⟨q1,q2⟩ | ⟨g,cap,cur,q1,q2,q3,q4,_⟩
  ·exact Or.inl ⟨q2,by rw[q1]⟩
  ·refine Or.inr ⟨g,cap,q1,q4,q2,(Array.getElem?_eq_some_iff.1 q3).1,fun i hi=> ?_⟩
   simp only[Value.slice.injEq]at q1
   obtain⟨rfl,_,rfl⟩:=q1
   rw[ho.cellAt i (by omega)]
   simp[List.getD_eq_getElem?_getD,List.getElem?_eq_getElem (by omega:i<vs.length)]
 ·have hi:=(List.getElem?_eq_some_iff.1 e1).1
  have e2:vs[i]?=some (vs.getD i undef):=by simp[List.getD_eq_getElem?_getD,List.getElem?_eq_getElem (by omega:i<vs.length)]
  exact(h3 i t _ e1 e2).wide (fun b hb _=>hb.1)
theorem wpList_pushT(W:World){P:Program}{ops:Array Oper}{rest:List Oper}{o:Oper}{a:Act}{Q:Exit->Act->World->Prop}(hgd:o.guard=none)(s x:Operand)(t:TypeId)
  (ho:o.op= .call {callee:= .builtin .append,args:= #[s,x],argTypes:= #[t,t]}) (i:TypeInfo) (z:Value) (ht:P.underlying t=some (.slice 48)) (hi:P.info? 48=some i) (hz:i.zero=some z)
  (hsize:i.size=1) (hby:i.bytes=16) (hzs:z.cells.size=1) (B:Nat) (ga:Option Addr) (gc:Nat) (ts:List Rt) (hs:a.eval s= .slice ga ts.length gc) (w:World) (hR:RL B w ga gc ts) (tr:Rt) (ty:Nat) (u:Value) (hT:TV w (fun b=>B<=b/\blk ga≠some b) tr (.iface ty u)) (hW:W=w.alloc (.cells #[.iface ty u] 48))
  (xc:Nat) (hx:a.eval x= .slice (some ⟨w.heap.size,0,none⟩) 1 xc) (hlen:ts.length<=1000000) (hB:B<=w.heap.size)
  (h: ∀ra rc w',RL B w' ra rc (ts++[tr])->ButB (fun b=>blk ga=some b) w w'->wpList P ops Q rest (a.put o.dst (.slice ra (ts.length+1) rc)) w'):wpList P ops Q (o::rest) a W:=by
 obtain⟨vs,h1,hown,h2,h3⟩:=hR.ex
 have hb:Below w.heap.size w W:=by rw[hW];exact bA (Below.refl _ _) _
 have hsrc:W.cell? ⟨w.heap.size,0,none⟩=some (.iface ty u):=by
  rw[hW]
  exact(CellsAt.new w [.iface ty u] 48).all 0 _ rfl
 refine wpList_append_gen W hgd s x t ho B 48 i z 1 16 ht hi hz hsize hby hzs (by decide) ga ts.length gc vs hs (own_below hown hb) (some ⟨w.heap.size,0,none⟩) 1 xc [.iface ty u] hx ⟨rfl,by simp[Value.oneCell'],Or.inr ⟨w.heap.size,rfl,fun j v hj=> ?_⟩⟩ (by unfold maxLen;omega) (by omega) (Nat.le_trans hB hb.size) ?_
 ·cases j with
  | zero=>simp at hj;subst hj;exact hsrc
  | succ j=>simp at hj
 intro ra rc w' hown2 hgrow hat
 have hg:ButB (fun b=>blk ga=some b) W w':=ButB.grown hgrow (fun b hb=>hb)
 have hbut:ButB (fun b=>blk ga=some b) w w':=(ButB.ofBelow hb).trans hg
 have hmv: ∀{r:Rt} {v:Value},TV w (fun b=>B<=b/\blk ga≠some b) r v->TV w' (fun b=>B<=b/\blk ra≠some b) r v:=fun{r v} hv=>
  hv.mono fun b e1 e2=>⟨⟨e1.1,fun e3=>by
   rcases hat b e3 with e4 | e4
   ·exact e1.2 e4
   ·have:=hb.size;omega⟩,Nat.lt_of_lt_of_le e2 hbut.size,hbut.block b e2 e1.2⟩
 refine h ra rc w' ⟨vs++[.iface ty u],by simp[h1],?_,fun v hv=> ?_,fun j t' v e1 e2=> ?_⟩ hbut
 ·rw[List.length_append];exact hown2
 ·rcases List.mem_append.1 hv with hv | hv
  ·exact h2 v hv
  ·simp at hv;subst hv;rfl
 ·by_cases hj:j<ts.length
  ·rw[List.getElem?_append_left hj]at e1
   rw[List.getElem?_append_left (by omega)]at e2
   exact hmv (h3 j t' v e1 e2)
  ·have hj2:j=ts.length:=by
    have:=(List.getElem?_eq_some_iff.1 e1).1
    simp at this
    omega
   subst hj2
   rw[List.getElem?_append_right (Nat.le_refl _)]at e1
   rw[List.getElem?_append_right (by omega)]at e2
   simp[h1]at e1 e2
   subst e1;subst e2
   exact hmv hT
def LE(W:World)(pb:Nat)(a:Option Addr)(c:Nat)(L:List (Tok×ByteArray))(k:Nat)(r:Option (List Rt×List Tok))(e:Ending)(W':World):Prop:=
 ButB (atP pb) W W'/\((r=none/\e=mis)\/ ∃ts k' ga gc,r=some (ts,(tks L).drop k')/\ts≠[]/\k<=k'/\e= .returned (.slice ga (ts:List Rt).length gc)/\RL W.heap.size W' ga gc ts/\PO W' pb a c L k')
def contF(sep:Tok)(more:List Tok->Option (List Rt×List Tok))(ts:List Rt):List Tok->Option (List Rt×List Tok)
 | c::r=>if c=sep then(match more r with | some (l,r1)=>some (ts++l,r1) | none=>none)else some (ts,c::r)
 | []=>some (ts,[])
theorem sepF_cont{sep:Tok}{one more:List Tok->Option (List Rt×List Tok)}{ts r:List Tok}{t:Rt}(h:one ts=some ([t],r)):sepF sep one more ts=contF sep more [t] r:=by
 unfold sepF
 rw[h]
 cases r with
 | nil=>rfl
 | cons c r=>
  simp only[contF]
  split
  ·cases more r<;>rfl
  ·rfl
theorem sepF_none{sep:Tok}{one more:List Tok->Option (List Rt×List Tok)}{ts:List Tok}(h:one ts=none):sepF sep one more ts=none:=by
 unfold sepF
 rw[h]
theorem contF_no{sep:Tok}{more:List Tok->Option (List Rt×List Tok)}{ts:List Rt}{r:List Tok}(h: ∀r',r≠sep::r'):contF sep more ts r=some (ts,r):=by
 cases r with
 | nil=>rfl
 | cons c r=>
  simp only[contF]
  rw[if_neg (fun e=>h r (by rw[e]))]
theorem contF_sep{sep:Tok}{one more more':List Tok->Option (List Rt×List Tok)}{ts:List Rt}{r r1:List Tok}{t:Rt}(hm:more r=sepF sep one more' r)(h:one r=some ([t],r1)):contF sep more ts (sep::r)=contF sep more' (ts++[t]) r1:=by
 simp only[contF,if_true]
 rw[hm,sepF_cont h]
 cases r1 with
 | nil=>rfl
 | cons c r=>
  simp only[contF]
  by_cases hc:c=sep
  ·rw[if_pos hc,if_pos hc]
   cases more' r<;>simp
  ·rw[if_neg hc,if_neg hc]
theorem contF_bad{sep:Tok}{one more more':List Tok->Option (List Rt×List Tok)}{ts:List Rt}{r:List Tok}(hm:more r=sepF sep one more' r)(h:one r=none):contF sep more ts (sep::r)=none:=by
 simp only[contF,if_true]
 rw[hm,sepF_none h]
def kOf(w:World)(pb:Nat):Nat:=(intOf ((w.cell? ⟨pb,1,none⟩).getD undef)).toNat
theorem PO.kOf{w:World}{pb:Nat}{a:Option Addr}{c:Nat}{L:List (Tok×ByteArray)}{k:Nat}(h:PO w pb a c L k):Pa.kOf w pb=k:=by
 unfold Pa.kOf
 rw[h.p.c1]
 simp[intOf]
set_option maxHeartbeats 8000000 in
set_option maxRecDepth 100000 in
theorem list_calls{w:World}{pb:Nat}{a:Option Addr}{c:Nat}{L:List (Tok×ByteArray)}{k:Nat}(h:PO w pb a c L k)(fn:Nat)(hF: ∀(args:Array Value) (w:World),(callFunc fn args).run Tryz.prog w= .ok (.enter fn args) w)(n1 n2:NT)(S:ByteArray)(q:Nat)(hq:q<28)(hS:S.toList=syT q)(f:Nat)(hf:rank n1+8*(L.length-k)<f)(hE: ∀g ts,iP (g+1) n2 ts=sepF (.sy q) (iP g n1) (iP g n2) ts)
  (hI: ∀g W k',g<=f->rank n1+8*(L.length-k')<g->PO W pb a c L k'->Calls Tryz.prog fn #[.pointer (some ⟨pb,0,none⟩)] W (IE W pb a c L k' (iP g n1 ((tks L).drop k')))):
  Calls Tryz.prog 89 #[.pointer (some ⟨pb,0,none⟩),.string S,.func (.func fn) #[.pointer (some ⟨pb,0,none⟩)] #[]] w (LE w pb a c L k (iP (f+1) n2 ((tks L).drop k))):=by
 obtain⟨ti,hti,hz⟩:=Option.map_eq_some_iff.1 (show(Tryz.prog.info? 48).map (fun i=>(i.zero,i.size,i.bytes))=some (some .nilIface,1,16)by kernel_rfl)
 simp only[Prod.mk.injEq]at hz
 obtain⟨hz0,hz1,hz2⟩:=hz
 have hpw:=h.p.lt
 have hLm:=h.lm
 obtain⟨RR,hRR⟩: ∃RR,RR=iP (f+1) n2 ((tks L).drop k):=⟨_,rfl⟩
 rw[<-hRR]
 rw[hE]at hRR
 have HC:=hide (hI f w k (Nat.le_refl _) hf h)
 have HI:=hide hI;have HE:=hide hE;have HRR:=hide hRR;have HSq:=hide hS;have HFu:=hide hf
 have hkl:=h.le
 clear h hI hE hRR hS hf
 go_enter Tryz.func89,Tryz.ntmps89
 go_wp2_with fail
 refine(unhide HC).mono ?_
 rintro e w1 ⟨hb1,⟨hr1,rfl⟩ | ⟨t,k1,ty,u,hr1,hk1,rfl,hT1,hP1⟩⟩
 ·have HR:Hid (RR=none):=by
   show RR=none
   rw[unhide HRR]
   exact sepF_none hr1
  have HB1:=hide hb1
  clear hb1 hr1 HC
  go_wp2
  exact⟨rfl,unhide HB1,Or.inl ⟨unhide HR,rfl⟩⟩
 ·have HR1:=hide hr1;have HB1:=hide hb1
  have hz1w:w.heap.size<=w1.heap.size:=hb1.size
  have HRL:=hide (RL.one hz1w hT1)
  have HP1:=hide (hP1.of (bA (Below.refl _ _) (.cells #[.iface ty u] 48)))
  clear hr1 hb1 hT1 hP1 HC
  go_wp2_with fail
  go_loopw [7] (fun pv wr=> ∃(k' g:Nat) (ga:Option Addr) (gc:Nat) (ts:List Rt),pv= .slice ga ts.length gc/\PO wr pb a c L k'/\ButB (atP pb) w wr/\RL w.heap.size wr ga gc ts/\ts≠[]/\k<=k'/\ts.length<=k'-k+1/\g<=f/\rank n1+8*(L.length-k')<g/\RR=contF (.sy q) (iP g n2) ts ((tks L).drop k')) (fun _ wr=>L.length-kOf wr pb)
  case atStart=>exact⟨k1,f,some ⟨w1.heap.size,0,none⟩,1,[t],rfl,unhide HP1,(unhide HB1).trans (ButB.ofBelow (bA (Below.refl _ _) _)),unhide HRL,by simp,hk1,by simp,Nat.le_refl _,by have:=unhide HFu;omega,by rw[unhide HRR];exact sepF_cont (unhide HR1)⟩
  case round=>
   obtain⟨k',g,ga,gc,ts,rfl,hP,hB,hL,hne,hk,htl,hgf,hfu,hR⟩:=hrel
   have HKm:=hide hP.kOf
   have hk'l:=hP.le
   have hzr:w.heap.size<=wr.heap.size:=hB.size
   have HL:=hide hL;have HB:=hide hB;have HNe:=hide hne
   by_cases hd: ∃r,(tks L).drop k'= .sy q::r
   ·obtain⟨r,hd⟩:=hd
    obtain⟨_,hr,hkl',_⟩:=drop_cons hd
    rw[hd]at hR
    have HCt:=hide (takesY hP S q hq (unhide HSq) hd)
    have HR:=hide hR
    obtain⟨g',rfl⟩: ∃g',g=g'+1:=⟨g-1,by omega⟩
    have HIk:=hide (fun W (hW:PO W pb a c L (k'+1))=>unhide HI g' W (k'+1) (by omega) (by omega) hW)
    rw[<-hr]at HIk
    have HRe:=hide hr
    clear hP hL hB hd hr hR hne
    go_wp2_with fail
    refine(unhide HCt).mono ?_;rintro e w2 ⟨rfl,hP2,hb2⟩
    have HC2:=hide (unhide HIk w2 hP2)
    have HB2:=hide ((unhide HB).trans hb2)
    have HL2:=hide ((unhide HL).but hb2 (fun b e=>by unfold atP at e;omega))
    have hz2w:wr.heap.size<=w2.heap.size:=hb2.size
    clear hP2 hb2 HCt HIk
    go_wp2_with fail
    refine(unhide HC2).mono ?_
    rintro e w3 ⟨hb3,⟨hr3,rfl⟩ | ⟨t3,k3,ty3,u3,hr3,hk3,rfl,hT3,hP3⟩⟩
    ·have HRn:Hid (RR=none):=by
      show RR=none
      rw[unhide HR]
      exact contF_bad (unhide HE g' r) hr3
     have HB3:=hide ((unhide HB2).trans hb3)
     clear hb3 hr3 HC2
     go_wp2
     exact⟨rfl,unhide HB3,Or.inl ⟨unhide HRn,rfl⟩⟩
    ·have HR3:Hid (RR=contF (.sy q) (iP g' n2) (ts++[t3]) ((tks L).drop k3)):=by
      show RR=_
      rw[unhide HR]
      exact contF_sep (unhide HE g' r) hr3
     have HB3:=hide ((unhide HB2).trans hb3)
     have HL3:=hide ((unhide HL2).but hb3 (fun b e=>by unfold atP at e;omega))
     have HP3:=hide hP3
     have hk3l:=hP3.le
     have hz3:w2.heap.size<=w3.heap.size:=hb3.size
     have HT3:Hid (TV w3 (fun b=>w.heap.size<=b/\blk ga≠some b) t3 (.iface ty3 u3)):=hT3.wide (fun b e _=>⟨by omega,fun x=>by have:=((unhide HL2).lt b x).2;omega⟩)
     obtain⟨WA,hWA⟩: ∃WA,WA=w3.alloc (.cells #[.iface ty3 u3] 48):=⟨_,rfl⟩
     have HWe:=hide hWA
     have htm:ts.length<=1000000:=by omega
     have hzB:w.heap.size<=w3.heap.size:=by omega
     clear hb3 hr3 HC2 hT3 hP3 hWA
     go_wp2_with (at_builtin;rw[<-unhide HWe];refine wpList_pushT WA rfl (.tmp 14) (.tmp 17) 72 rfl ti _ Tryz.underlying72 hti hz0 hz1 hz2 rfl w.heap.size ga gc ts rfl w3 (unhide HL3) t3 ty3 u3 (unhide HT3) (unhide HWe) 1 rfl htm hzB ?_;intro ra rc w6 hl6 hb6;have HL6:=hide hl6;have HB6:=hide hb6;clear hl6 hb6)
     go_wp2
     have HP6:Hid (PO w6 pb a c L k3):=(unhide HP3).but (unhide HB6) (fun b e=>by have:=((unhide HL3).lt b e).1;omega)
     go_roundw
     case rel=>exact⟨k3,g',ra,rc,ts++[t3],by simp,unhide HP6,(unhide HB3).trans' (unhide HB6) (fun b e=>Or.inr ((unhide HL3).lt b e).1),unhide HL6,by simp,by omega,by simp;omega,by omega,by omega,unhide HR3⟩
     case measure=>
      have h1:=(unhide HP6).kOf
      rw[h1,unhide HKm]
      omega
   ·have HCt:=hide (takesN hP S q hq (unhide HSq) (fun r e=>hd ⟨r,e⟩))
    have HR:Hid (RR=some (ts,(tks L).drop k')):=by
     show RR=_
     rw[hR]
     exact contF_no (fun r e=>hd ⟨r,e⟩)
    have HP:=hide hP
    clear hP hL hB hd hR hne
    go_wp2_with fail
    refine(unhide HCt).mono ?_;rintro e w2 ⟨rfl,hb2⟩
    have HB2:=hide hb2
    clear hb2 HCt
    go_wp2
    go_ret
    exact⟨(unhide HB).trans (ButB.ofBelow (unhide HB2)),Or.inr ⟨ts,k',ga,gc,unhide HR,unhide HNe,hk,rfl,(unhide HL).but (X:=fun _=>False) (ButB.ofBelow (unhide HB2)) (fun _ e=>e.elim),(unhide HP).of (unhide HB2)⟩⟩
end Go.Proofs.YtmggnimiioepeaaGreatDoor.Pa
