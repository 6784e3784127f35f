import Derived.Test.YtmggnimiioepeaaGreatDoorQ0
import Derived.Test.YtmggnimiioepeaaGreatDoorQ15
namespace Go.Proofs.YtmggnimiioepeaaGreatDoor.Pa
open Go Go.RowKit
theorem selS_no0{f:Nat}{xs:List Tok}(h: ∀r,xs≠ .sy 11::r):sP (f+1) .sel xs=none:=by
 show(match xs with | .sy 11:: .sy 12::r=>selS 1 (sP f .scal) (sP f .tail) r | .sy 11::r=>selS 0 (sP f .scal) (sP f .tail) r | _=>none)=none
 split
 ·exact absurd rfl (h _)
 ·exact absurd rfl (h _)
 ·rfl
theorem selS_0{f:Nat}{r:List Tok}(h: ∀r',r≠ .sy 12::r'):sP (f+1) .sel (.sy 11::r)=selS 0 (sP f .scal) (sP f .tail) r:=by
 show(match Tok.sy 11::r with | .sy 11:: .sy 12::r=>selS 1 (sP f .scal) (sP f .tail) r | .sy 11::r=>selS 0 (sP f .scal) (sP f .tail) r | _=>none)=_
 split
 ·rename_i e
  simp only[List.cons.injEq,true_and]at e
  exact absurd e (h _)
 ·rename_i e
  simp only[List.cons.injEq,true_and]at e
  rw[e]
 ·rename_i h2
  exact absurd rfl (h2 r)
structure Bx(wr:World)(lab:Lbl)(na:Option Addr)(X:Nat)(vs:List Value):Prop where
 cs:CellsAt wr X vs
 n:blk na≠some X
 l:lab X=none
theorem Bx.call{wr w1:World}{lab lab1:Lbl}{na na1:Option Addr}{X:Nat}{vs:List Value}(h:Bx wr lab na X vs)(f:Fr wr w1 lab lab1 na na1):Bx w1 lab1 na1 X vs:=by
 obtain⟨_,q2,q3,_⟩:=f.stay h.cs.lt h.n
 exact⟨h.cs.but f.but h.n,q2,q3.trans h.l⟩
theorem Bx.but{wr w1:World}{lab:Lbl}{na:Option Addr}{X:Nat}{vs:List Value}{S:Nat->Prop}(h:Bx wr lab na X vs)(k:ButB S wr w1)(hs: ¬S X):Bx w1 lab na X vs:=⟨h.cs.but k hs,h.n,h.l⟩
theorem Bx.of{wr w1:World}{lab:Lbl}{na:Option Addr}{X:Nat}{vs:List Value}(h:Bx wr lab na X vs)(hb:Below wr.heap.size wr w1):Bx w1 lab na X vs:=⟨h.cs.of hb,h.n,h.l⟩
theorem Bx.new{W:World}{B:Nat}{lab:Lbl}{na:Option Addr}{nc:Nat}{ns:List Nd}(hN:NS B W lab na nc ns)(vs:List Value)(t:TypeId):Bx (W.alloc (.cells vs.toArray t)) lab na W.heap.size vs:=by
 refine⟨CellsAt.new W vs t,fun e=>by have:=(hN.lt _ e).2;omega,?_⟩
 cases hl:lab W.heap.size with
 | none=>rfl
 | some i=>have:=hN.rng _ _ hl;omega
structure Bz(w0 wr:World)(lab:Lbl)(na:Option Addr)(X:Nat)(vs:List Value)(G c:Nat)(fs:List Int):Prop where
 bx:Bx wr lab na X vs
 fm:KO w0.heap.size wr lab na (some ⟨G,0,none⟩) c fs
 ne:G≠X
section
variable {w0 W wr w1:World}{X0:Nat}{lab0 lab lab1:Lbl}{na0 na na1 ga ka:Option Addr}{nc gc kc X G c:Nat}{ns:List Nd}{cuts xs fs:List Int}{vs:List Value}{S:Nat->Prop}
theorem Bz.call(h:Bz w0 wr lab na X vs G c fs)(f:Fr wr w1 lab lab1 na na1):Bz w0 w1 lab1 na1 X vs G c fs:=⟨h.bx.call f,h.fm.fr f,h.ne⟩
theorem Bz.but(h:Bz w0 wr lab na X vs G c fs)(k:ButB S wr w1)(h1: ¬S X)(h2: ¬S G):Bz w0 w1 lab na X vs G c fs:=⟨h.bx.but k h1,h.fm.but k (fun b e=>by simp[blk]at e;subst e;exact h2),h.ne⟩
theorem Bz.of(h:Bz w0 wr lab na X vs G c fs)(hb:Below wr.heap.size wr w1):Bz w0 w1 lab na X vs G c fs:=⟨h.bx.of hb,h.fm.of hb,h.ne⟩
theorem Bz.set(h:Bz w0 wr lab na X vs G c fs)(o:Nat)(v:Value)(ho:o<vs.length):Bz w0 (wr.setCell ⟨X,o,none⟩ v) lab na X (vs.set o v) G c fs:=
 ⟨⟨h.bx.cs.set o v ho,h.bx.n,h.bx.l⟩,h.fm.but (S:=fun b=>b=X) (ButB.set (S:=fun b=>b=X) (ButB.refl _ _) (Or.inl rfl) _) (fun b e e'=>by simp[blk]at e;exact h.ne (e.trans e')),h.ne⟩
theorem Bz.at{q:Int}{fs':List Int}(h:Bz w0 wr lab na X vs G c (q::fs')):wr.cell? ⟨G,0,none⟩=some (.int .i64 q):=by
 obtain⟨G',e,_,h2⟩:=h.fm.at (by simp)
 simp only[Option.some.injEq,Addr.mk.injEq,and_true]at e
 subst e
 exact h2 0 q rfl
theorem LP.tailFr(h:LP w0 W X0 lab0 na0 wr lab na nc ns ga gc cuts ka kc xs)(hb:ButB (fun b=>blk na=some b\/blk ka=some b) wr w1)(ho: ∀b,blk na1=some b->blk na=some b\/wr.heap.size<=b)(hl: ∀b,b<wr.heap.size->lab1 b=lab b):Fr W w1 lab0 lab1 na0 na1:=
 ⟨h.fr.but.trans' hb (fun b e=>e.elim (h.fr.own b) (fun e=>Or.inr (Nat.le_trans h.xw (h.kx b e)))),fun b e=>(ho b e).elim (h.fr.own b) (fun e=>Or.inr (Nat.le_trans h.fr.size e)),fun b e=>(hl b (Nat.lt_of_lt_of_le e h.fr.size)).trans (h.fr.lb b e)⟩
theorem Bx.tail(h:Bx wr lab na X vs)(hk:blk ka≠some X)(hb:ButB (fun b=>blk na=some b\/blk ka=some b) wr w1)(ho: ∀b,blk na1=some b->blk na=some b\/wr.heap.size<=b)(hl: ∀b,b<wr.heap.size->lab1 b=lab b):Bx w1 lab1 na1 X vs:=
 ⟨h.cs.but hb (fun e=>e.elim h.n hk),fun e=>(ho X e).elim h.n (fun e=>by have:=h.cs.lt;omega),(hl X h.cs.lt).trans h.l⟩
end
set_option maxHeartbeats 8000000 in
set_option maxRecDepth 100000 in
theorem l2Select_calls(w0:World)(ad:Option Addr)(c:Nat)(L:List (Tok×ByteArray))(f:Nat)(hL:L.length<=1000000)(hT:TksS w0 ad L)(H:SHyp w0 ad c L f)(W:World)(lab:Lbl)(na:Option Addr)(nc:Nat)(ns:List Nd)(a b:Nat)(hP:Pre w0 L W lab na nc ns .sel (f+1) a b):
  Calls Tryz.prog 29 #[.slice ad L.length c,.int .i64 (a:Int),.int .i64 (b:Int),.slice na ns.length nc] W (PE w0.heap.size W lab na ns (sP (f+1) .sel (sgm (tks L) a b)) (b-a)):=by
 obtain⟨ti,hti,hz⟩:=Option.map_eq_some_iff.1 (show(Tryz.prog.info? 3).map (fun i=>(i.zero,i.size,i.bytes))=some (some (.int .i64 0),1,8)by kernel_rfl)
 simp only[Prod.mk.injEq]at hz
 obtain⟨hz0,hz1,hz2⟩:=hz
 obtain⟨tn,htn,hy⟩:=Option.map_eq_some_iff.1 (show(Tryz.prog.info? 62).map (fun i=>(i.zero,i.size,i.bytes))=some (some (.agg #[.int .i64 0,.int .i64 0,.int .i64 0,.string ⟨#[]⟩,.string ⟨#[]⟩,.slice none 0 0]),6,80)by kernel_rfl)
 simp only[Prod.mk.injEq]at hy
 obtain⟨hy0,hy1,hy2⟩:=hy
 have hab:=hP.ab
 have hbl:=hP.bl
 have hln:=hP.ln
 have hfu:=hP.fu
 simp only[rnk]at hfu
 have hbt:b<=(tks L).length:=by simp;omega
 have hzz:w0.heap.size<=W.heap.size:=hP.be.size
 obtain⟨RR,hRR⟩: ∃RR,RR=sP (f+1) .sel (sgm (tks L) a b):=⟨_,rfl⟩
 rw[<-hRR]
 obtain⟨WX,hWX⟩: ∃WX,WX=W.alloc (.cells #[.int .i64 6,.int .i64 0,.int .i64 0,.string ⟨#[]⟩,.string ⟨#[]⟩,.slice none 0 0] 62):=⟨_,rfl⟩
 have hbX:Below W.heap.size W WX:=by rw[hWX];exact bA (Below.refl _ _) _
 have hBX:Bx WX lab na W.heap.size [.int .i64 6,.int .i64 0,.int .i64 0,.string ⟨#[]⟩,.string ⟨#[]⟩,.slice none 0 0]:=by
  rw[hWX]
  exact Bx.new hP.ns [.int .i64 6,.int .i64 0,.int .i64 0,.string ⟨#[]⟩,.string ⟨#[]⟩,.slice none 0 0] 62
 have hbeX:Below w0.heap.size w0 WX:=hP.be.trans (hbX.mono hzz)
 have hTX:TksS WX ad L:=hT.of hbeX
 have HIs:=hide (l2Is_calls L ad c WX hTX a b hbl ⟨#[83,69,76,69,67,84]⟩ 11 (by omega) (Go.ByteArray.toList_mk [83,69,76,69,67,84]))
 rw[is_dec hbt]at HIs
 have HWX:=hide hWX;have HP:=hide hP;have HBX:=hide hBX;have HbX:=hide hbX;have HH:=hide H;have HT0:=hide hT;have HbeX:=hide hbeX
 clear hWX hbX hBX hbeX H hT
 by_cases h1: ∃r,sgm (tks L) a b= .sy 11::r
 rotate_left
 ·rw[dB_false h1]at HIs
  have HR:Hid (RR=none):=by
   show RR=none
   rw[hRR]
   exact selS_no0 (fun r e=>h1 ⟨r,e⟩)
  clear h1 hRR hTX hP
  go_enter Tryz.func29,Tryz.ntmps29
  go_wp2_with fail
  rw[<-unhide HWX]
  refine(unhide HIs).mono ?_;rintro e WX' ⟨rfl,rfl⟩
  clear HIs HWX
  go_wp2
  go_returns
  refine⟨na,nc,lab,ns,?_,(unhide HP).ns.of (unhide HbX),Fr.ofBelow (unhide HbX),by omega,fun t ht=> ?_⟩
  ·rw[unhide HR];rfl
  ·rw[unhide HR]at ht;cases ht
 rw[dB_true h1]at HIs
 obtain⟨r,h1⟩:=h1
 have hlt:a<b:=((is_head hbt).2 ⟨r,h1⟩).1
 obtain⟨t0,_,e0⟩:=sgm_head (tks L) a b hlt hbt
 have hr1:r=sgm (tks L) (a+1) b:=by rw[e0]at h1;simp only[List.cons.injEq]at h1;exact h1.2.symm
 rw[h1,hr1]at hRR
 clear h1 hr1 e0 r
 obtain⟨a1,ha1⟩: ∃a1,a1=a+1:=⟨_,rfl⟩
 have jw1:IntKind.i64.wrap ((a:Int)+1)=(a1:Int):=by rw[IntKind.wrap_i64];omega
 rw[<-ha1]at hRR
 have HA1:=hide ha1;have HR1:=hide hRR
 clear ha1 hRR hP
 have HId:=hide (l2Is_calls L ad c WX hTX a1 b hbl ⟨#[68,73,83,84,73,78,67,84]⟩ 12 (by omega) (Go.ByteArray.toList_mk [68,73,83,84,73,78,67,84]))
 rw[is_dec hbt]at HId
 clear hTX
 go_enter Tryz.func29,Tryz.ntmps29
 go_wp2_with fail
 rw[<-unhide HWX]
 refine(unhide HIs).mono ?_;rintro e WX' ⟨rfl,rfl⟩
 clear HIs HWX
 by_cases h2: ∃r,sgm (tks L) a1 b= .sy 12::r
 rw[dB_true h2]at HId
 obtain⟨r,h2⟩:=h2
 have hlt1:a1<b:=((is_head hbt).2 ⟨r,h2⟩).1
 obtain⟨t0,_,e0⟩:=sgm_head (tks L) a1 b hlt1 hbt
 have hr1:r=sgm (tks L) (a1+1) b:=by rw[e0]at h2;simp only[List.cons.injEq]at h2;exact h2.2.symm
 have ha1':=unhide HA1
 obtain⟨A0,hA0⟩: ∃A0,A0=a1+1:=⟨_,rfl⟩
 have jw2:IntKind.i64.wrap ((a1:Int)+1)=(A0:Int):=by rw[IntKind.wrap_i64];omega
 obtain⟨Mx,hMx⟩: ∃Mx:Int,Mx=1:=⟨_,rfl⟩
 have ha1:=unhide HA1
 have hRR:=unhide HR1
 have HRR:Hid (RR=selS Mx (sP f .scal) (sP f .tail) (sgm (tks L) A0 b)):=by
  show RR=_
  rw[hRR,h2,hr1,<-hA0,hMx]
  rfl
 have hA0a:a+1<=A0/\A0<=b:=by omega
 clear h2 hr1 e0 hRR hA0 ha1 ha1' HA1 HR1
 go_wp2_with fail
 refine(unhide HId).mono ?_;rintro e WX'' ⟨rfl,rfl⟩
 clear HId
 obtain⟨x0,x1,x2,x3,x4,x5⟩:=(unhide HBX).cs.c6
 have hfX:=(unhide HBX).cs.frz
 have hlX:=(unhide HBX).cs.lt
 obtain⟨wB,hwB⟩: ∃wB,wB=WX''.setCell ⟨W.heap.size,2,none⟩ (.int .i64 1):=⟨_,rfl⟩
 have hbB:ButB (fun b=>b=W.heap.size) WX'' wB:=by
  rw[hwB]
  exact ButB.set (S:=fun b=>b=W.heap.size) (ButB.refl _ _) (Or.inl rfl) _
 have HB0:Hid (Bx wB lab na W.heap.size [.int .i64 6,.int .i64 0,.int .i64 Mx,.string ⟨#[]⟩,.string ⟨#[]⟩,.slice none 0 0]):=by
  refine⟨?_,(unhide HBX).n,(unhide HBX).l⟩
  rw[hwB,hMx]
  exact(unhide HBX).cs.set 2 (.int .i64 1) (by simp)
 have HbW:Hid (Below W.heap.size W wB):=(unhide HbX).trans (hbB.below (unhide HbX).size (fun b e=>by omega))
 have HwB:=hide hwB
 clear hwB hbB
 go_upto_region 7 with fail
 rw[<-unhide HwB]
 clear HwB x0 x1 x2 x3 x4 x5 hfX hlX HBX HbX hMx
 go_upto_region 8 with fail
 clear jw2 jw1
 rotate_left
 rw[dB_false h2]at HId
 obtain⟨A0,hA0⟩: ∃A0,A0=a1:=⟨_,rfl⟩
 obtain⟨Mx,hMx⟩: ∃Mx:Int,Mx=0:=⟨_,rfl⟩
 have ha1:=unhide HA1
 have hRR:=unhide HR1
 have HRR:Hid (RR=selS Mx (sP f .scal) (sP f .tail) (sgm (tks L) A0 b)):=by
  show RR=_
  rw[hRR,hA0,hMx]
  exact selS_0 (fun r e=>h2 ⟨r,e⟩)
 have hA0a:a+1<=A0/\A0<=b:=by omega
 have HB0:Hid (Bx WX' lab na W.heap.size [.int .i64 6,.int .i64 0,.int .i64 Mx,.string ⟨#[]⟩,.string ⟨#[]⟩,.slice none 0 0]):=by
  show Bx _ _ _ _ _
  rw[hMx]
  exact unhide HBX
 have HbW:=HbX
 clear h2 hRR ha1 HBX HbX hMx HA1 HR1
 subst hA0
 go_wp2_with fail
 refine(unhide HId).mono ?_;rintro e wB ⟨rfl,rfl⟩
 clear HId jw1
 go_upto_region 8 with fail
 all_goals
  have hTB:TksS wB ad L:=(unhide HT0).of ((unhide HP).be.trans ((unhide HbW).mono hzz))
  have HTo:=hide (l2Tops_calls L ad c wB hL hTB A0 b hA0a.2 hbl ⟨#[70,82,79,77]⟩ 13 (by omega) (Go.ByteArray.toList_mk [70,82,79,77]))
  have HTB:=hide hTB
  clear hTB
  by_cases h0:topsP (.sy 13) 0 A0 (sgm (tks L) A0 b)=[]
  ·rw[h0]at HTo
   have HR:Hid (RR=none):=by
    show RR=none
    rw[unhide HRR]
    unfold selS
    rw[fst1_noneP h0]
   clear h0 HRR
   go_wp2_with fail
   refine(unhide HTo).mono ?_
   rintro e w1 ⟨g1,c1,rfl,_,hb1⟩
   have HB1:=hide (bT (unhide HbW) hb1)
   clear hb1 HTo
   go_wp2
   go_returns
   refine⟨na,nc,lab,ns,?_,(unhide HP).ns.of (unhide HB1),Fr.ofBelow (unhide HB1),by omega,fun t ht=> ?_⟩
   ·rw[unhide HR];rfl
   ·rw[unhide HR]at ht;cases ht
  obtain⟨q,qs,hq⟩: ∃q qs,topsP (.sy 13) 0 A0 (sgm (tks L) A0 b)=q::qs:=by
   cases hq:topsP (.sy 13) 0 A0 (sgm (tks L) A0 b)with
   | nil=>exact absurd hq h0
   | cons q qs=>exact⟨q,qs,rfl⟩
  obtain⟨x,y,hf1⟩:=fst1_someP hq
  obtain⟨q',hq1,hq2,hx,hsq,_,hh⟩:=fst1_sgm hA0a.2 hbt hf1
  obtain rfl:q'=q:=by rw[hq]at hh;simpa using hh.symm
  have hqt:q'<=(tks L).length:=by omega
  have HR2:Hid (RR=(match mapP (sP f .scal) (between (tks L) A0 (topsP (.sy 2) 0 A0 (sgm (tks L) A0 q')) q')with | some ts=>(match sP f .tail (sgm (tks L) q' b)with | some ks=>some [.mk 6 ts.length Mx [] [] (ts++ks)] | none=>none) | none=>none)):=by
   show RR=_
   rw[unhide HRR]
   unfold selS
   rw[hf1]
   simp only[]
   rw[hx,hsq,cut_between (tks L) cm A0 q' hq1 hqt]
   rfl
  rw[hq]at HTo
  clear h0 hf1 hx hsq hh hq HRR
  go_wp2_with fail
  refine(unhide HTo).mono ?_
  rintro e w1 ⟨g1,c1,rfl,hown1,hb1⟩
  have HF1:Hid (KO w0.heap.size w1 lab na g1 c1 (nI (q'::qs))):=by
   have hzB:=(unhide HbW).size
   refine⟨?_,fun b hb=> ?_⟩
   ·rw[nI_len,<-vN_iV]
    exact⟨hown1.1,hown1.2.imp id (fun⟨g,cap,cur,h1,h2,h3⟩=>⟨g,cap,cur,h1,Nat.le_trans (Nat.le_trans hzz hzB) h2,h3⟩)⟩
   ·have hlt:=row_lt hown1 b hb
    refine⟨?_,fun e=>by have:=((unhide HP).ns.lt b e).2;omega⟩
    cases hl:lab b with
    | none=>rfl
    | some i=>have:=(unhide HP).ns.rng _ _ hl;omega
  have hGX: ∀b,blk g1=some b->W.heap.size<b:=fun b hb=>Nat.lt_of_lt_of_le (unhide HB0).cs.lt (row_lt hown1 b hb).1
  have hcell: ∃G,g1=some ⟨G,0,none⟩/\G<w1.heap.size/\w1.cell? ⟨G,0,none⟩=some (.int .i64 (q':Int)):=by
   rcases hown1.2 with⟨_,f2⟩ | ⟨G,cp,cur,f1,f2,f3,f4⟩
   ·simp at f2
   ·simp only[Value.slice.injEq]at f1
    obtain⟨rfl,_,rfl⟩:=f1
    refine⟨G,rfl,(Array.getElem?_eq_some_iff.1 f3).1,?_⟩
    rw[hown1.cellAt 0 (by simp)]
    rfl
  obtain⟨G1,rfl,hG1,cG1⟩:=hcell
  have HB1:=hide (bT (unhide HbW) hb1)
  have hGX1:W.heap.size<G1:=hGX G1 rfl
  have HBz1:Hid (Bz w0 w1 lab na W.heap.size [.int .i64 6,.int .i64 0,.int .i64 Mx,.string ⟨#[]⟩,.string ⟨#[]⟩,.slice none 0 0] G1 c1 (nI (q'::qs))):=⟨(unhide HB0).of hb1,unhide HF1,by omega⟩
  have HT1:Hid (TksS w1 ad L):=(unhide HTB).of hb1
  have hxw1:W.heap.size<w1.heap.size:=(unhide HBz1).bx.cs.lt
  clear hown1 hb1 HTo HTB HB0 HF1 hGX
  obtain⟨nq,hnq⟩: ∃nq,nq=(q'::qs).length:=⟨_,rfl⟩
  have jnq:((nq:Int)==0)=false:=beq_eq_false_iff_ne.2 (by rw[hnq];simp only[List.length_cons];omega)
  have jnq2:(0:Int)<(nq:Int):=by rw[hnq];simp only[List.length_cons];omega
  have jnq3: ¬nq=0:=by rw[hnq];simp
  have jnq4:0<nq:=by rw[hnq];simp
  rw[<-hnq]
  clear hnq
  obtain⟨PP,hPP⟩: ∃PP,PP=topsP (.sy 2) 0 A0 (sgm (tks L) A0 q'):=⟨_,rfl⟩
  have HT2:Hid (∀Wx,Std w1 Wx->Calls Tryz.prog 28 #[.slice ad L.length c,.int .i64 (A0:Int),.int .i64 (q':Int),.string ⟨#[44]⟩] Wx fun e w'=> ∃g cap,e= .returned (.slice g PP.length cap)/\w'.ownsRow Wx.heap.size 3 1 (.slice g PP.length cap) PP.length (vN PP)/\Below Wx.heap.size Wx w'):=fun Wx hS=>by
   rw[hPP]
   exact l2Tops_calls L ad c Wx hL ((unhide HT1).of hS.2.2) A0 q' hq1 (by omega) ⟨#[44]⟩ 2 (by omega) (Go.ByteArray.toList_mk [44])
  have hPl:PP.length<=1000000:=by
   rw[hPP]
   have:=topsP_len (.sy 2) (sgm (tks L) A0 q') 0 A0
   rw[sgm_len _ _ _ hq1 hqt]at this
   omega
  have HPP:=hide hPP
  clear hPP
  go_upto_region 11 with fail
  refine wp_region_held_drew (S:=Std w1) (by kernel_rfl) (Std.drew (Std.refl _)) (fun hHeld=> ?_)
  refine tW 0 40 (.slice ad L.length c) ?_
  simp only[puts]
  refine tW 1 41 (.int .i64 (A0:Int)) ?_
  simp only[puts]
  refine tW 2 42 (.slice (some ⟨G1,0,none⟩) nq c1) ?_
  simp only[puts]
  refine tW 3 43 (.pointer (some ⟨G1,0,none⟩)) ?_
  simp only[puts]
  refine tW 4 44 (.int .i64 (q':Int)) ?_
  simp only[puts]
  refine tW 6 46 (.slice (some ⟨G1,0,none⟩) nq c1) ?_
  simp only[puts]
  refine tW 7 47 (.pointer (some ⟨G1,0,none⟩)) ?_
  simp only[puts]
  refine tW 8 48 (.int .i64 (q':Int)) ?_
  simp only[puts]
  have HSd:Hid (Std w1 w1.drew):=Std.drew (Std.refl _)
  generalize w1.drew=wd at*
  refine wpAnyH_ready (rs:=[5,9]) (by kernel_rfl) (by simp) ?_
  refine AllReadyH.cons rfl (fun Kx hK=> ?_) (AllReadyH.cons rfl (fun Kx hK=> ?_) AllReadyH.nil)
  go_simp
  refine(unhide HT2 wd (unhide HSd)).mono ?_
  rintro e w2 ⟨g2,c2,rfl,hown2,hb2⟩
  go_simp
  have HS2:Hid (Std w1 w2):=Std.call (unhide HSd) hb2
  refine hK.out _ _ (unhide HS2) (fun hHeld2=> ?_)
  clear hK Kx
  refine wpAnyH_ready (rs:=[9]) (by kernel_rfl) (by simp) ?_
  refine AllReadyH.cons rfl (fun Kx hK=> ?_) AllReadyH.nil
  go_simp
  obtain⟨w3,hw3⟩: ∃w3,w3=w2.alloc (.cells #[.int .i64 (q':Int)] 3):=⟨_,rfl⟩
  have hb3:Below w2.heap.size w2 w3:=by rw[hw3];exact bA (Below.refl _ _) _
  have hc3:w3.cell? ⟨w2.heap.size,0,none⟩=some (.int .i64 (q':Int)):=by rw[hw3];exact(CellsAt.new w2 [.int .i64 (q':Int)] 3).all 0 _ rfl
  have HS3:Hid (Std w1 w3):=Std.call (unhide HS2) hb3
  rw[<-hw3]
  refine hK.out _ _ (unhide HS3) (fun hHeld3=> ?_)
  clear hK Kx
  have HO3:=hide (own_below hown2 hb3)
  have hwd:w1.heap.size<=wd.heap.size:=(unhide HSd).size
  obtain⟨gA,hgA⟩: ∃gA,gA=w2.heap.size:=⟨_,rfl⟩
  rw[<-hgA]at hc3
  rw[<-hgA]
  have HC3:=hide hc3
  have hz3:wd.heap.size<=w3.heap.size:=Nat.le_trans hb2.size hb3.size
  clear hgA hw3 hb3 hc3 hown2 hb2 HS2 HSd
  rotate_left
  go_simp
  obtain⟨w2,hw2⟩: ∃w2,w2=wd.alloc (.cells #[.int .i64 (q':Int)] 3):=⟨_,rfl⟩
  have hb2:Below wd.heap.size wd w2:=by rw[hw2];exact bA (Below.refl _ _) _
  have hc2:w2.cell? ⟨wd.heap.size,0,none⟩=some (.int .i64 (q':Int)):=by rw[hw2];exact(CellsAt.new wd [.int .i64 (q':Int)] 3).all 0 _ rfl
  have hg2:wd.heap.size<w2.heap.size:=by rw[hw2];simp
  have HS2:Hid (Std w1 w2):=Std.call (unhide HSd) hb2
  rw[<-hw2]
  clear hw2
  refine hK.out _ _ (unhide HS2) (fun hHeld2=> ?_)
  clear hK Kx
  refine wpAnyH_ready (rs:=[5]) (by kernel_rfl) (by simp) ?_
  refine AllReadyH.cons rfl (fun Kx hK=> ?_) AllReadyH.nil
  go_simp
  refine(unhide HT2 w2 (unhide HS2)).mono ?_
  rintro e w3 ⟨g2,c2,rfl,hown3,hb3⟩
  go_simp
  have HS3:Hid (Std w1 w3):=Std.call (unhide HS2) hb3
  refine hK.out _ _ (unhide HS3) (fun hHeld3=> ?_)
  clear hK Kx
  have hwd:w1.heap.size<=wd.heap.size:=(unhide HSd).size
  obtain⟨gA,hgA⟩: ∃gA,gA=wd.heap.size:=⟨_,rfl⟩
  have HO3:Hid (w3.ownsRow wd.heap.size 3 1 (.slice g2 PP.length c2) PP.length (vN PP)):=⟨hown3.1,hown3.2.imp id (fun⟨g,cap,cur,h1,h2,h3⟩=>⟨g,cap,cur,h1,Nat.le_trans hb2.size h2,h3⟩)⟩
  have hc3:w3.cell? ⟨gA,0,none⟩=some (.int .i64 (q':Int)):=by rw[hgA];exact(hb3.cell (p:=⟨wd.heap.size,0,none⟩) hg2).trans hc2
  rw[<-hgA]
  have HC3:=hide hc3
  have hz3:wd.heap.size<=w3.heap.size:=Nat.le_trans hb2.size hb3.size
  clear hgA hb2 hc2 hg2 hc3 hown3 hb3 HS2 HSd
  all_goals
   refine wpAnyH_ready (rs:=[10]) (by kernel_rfl) (by simp) ?_
   refine AllReadyH.cons rfl (fun Kx hK=> ?_) AllReadyH.nil
   refine Eq.mpr (if_pos (by rfl)) ?_
   refine wp_pushI w3 (.tmp 45) (.tmp 49) 58 rfl wd.heap.size ti _ Tryz.underlying58 hti hz0 hz1 hz2 rfl g2 PP.length c2 (vN PP) rfl (unhide HO3) gA 1 (.int .i64 (q':Int)) rfl rfl (unhide HC3) hPl hz3 ?_
   intro ga gc w5 hown5 hgrow
   have HO5:=hide hown5
   have HB5:Hid (Below w1.heap.size w1 w5):=grown_below (unhide HS3).2.2 hgrow (fun j hj=>Nat.le_trans hwd ((unhide HO3).lt j (by rw[own_slice];exact hj)).1)
   refine hK.out _ _ (Std.mk (unhide HB5)) (fun hHeld4=> ?_)
   clear hK Kx hown5 hgrow
   refine tW 11 12 (.slice ga (PP.length+1) gc) ?_
   simp only[puts]
   refine wpAnyH_done (by kernel_rfl) ?_ _
   clear hHeld hHeld2 hHeld3 hHeld4 HO3 HC3 HS3 HT2 hz3
   obtain⟨CS,hCS⟩: ∃CS,CS=PP++[q']:=⟨_,rfl⟩
   obtain⟨l,hl⟩: ∃l,l=between (tks L) A0 PP q':=⟨_,rfl⟩
   have hPP:=unhide HPP
   have hle: ∀i (h:i<CS.length),CS[i]<=q'/\stA A0 CS i<=CS[i]/\A0<=stA A0 CS i:=by rw[hCS,hPP];exact cuts_le (.sy 2) (tks L) A0 q' hq1 hqt
   have hat: ∀i (h:i<CS.length),l[i]?=some (sgm (tks L) (stA A0 CS i) CS[i]):=by rw[hCS,hl];exact between_at (tks L) PP A0 q'
   have hll:l.length=CS.length:=by rw[hl,hCS];exact between_len _ _ _ _
   have hC1:1<=CS.length:=by rw[hCS];simp
   have hCl:CS.length<=q'-A0+1:=by
    rw[hCS,hPP]
    have:=topsP_len (.sy 2) (sgm (tks L) A0 q') 0 A0
    rw[sgm_len _ _ _ hq1 hqt]at this
    simp
    omega
   have hCe:stA A0 CS CS.length=q'+1:=by
    rw[hCS]
    have:=stA_succ A0 (PP++[q']) PP.length (by simp)
    simpa using this
   have hPl2:PP.length+1=CS.length:=by rw[hCS];simp
   have hRR:=unhide HR2
   rw[<-hPP,<-hl]at hRR
   have HRR:=hide hRR;have HCS:=hide hCS;have HLe:=hide hle;have HAt:=hide hat;have HLl:=hide hll;have HCe:=hide hCe
   rw[hPl2]
   clear hRR hCS hl hle hat hll hCe hPP HR2 HPP hfu
   have HB5':Hid (Below W.heap.size W w5):=bT (unhide HB1) (unhide HB5)
   have HBz5:=hide ((unhide HBz1).of (unhide HB5))
   have hz15:w1.heap.size<=w5.heap.size:=(unhide HB5).size
   obtain⟨wk,hwk⟩: ∃wk,wk=w5.alloc (.cells #[] 3):=⟨_,rfl⟩
   have hbw:Below w5.heap.size w5 wk:=by rw[hwk];exact bA (Below.refl _ _) _
   have HBzk:=hide ((unhide HBz5).of hbw)
   have HLP:Hid (LP w0 W w5.heap.size lab na wk lab na nc ns ga gc (nI CS) (some ⟨w5.heap.size,0,none⟩) 0 []):=by
    show LP _ _ _ _ _ _ _ _ _ _ _ _ _ _ _ _
    have hb5:=unhide HB5'
    have hPr:=unhide HP
    have hN5:=hPr.ns.of hb5
    have hbb:=bT hb5 hbw
    have hcu:KO w0.heap.size w5 lab na ga gc (nI CS):=by
     have ho:=unhide HO5
     refine⟨?_,fun b hb=> ?_⟩
     ·rw[nI_len,<-vN_iV,unhide HCS,vN_snoc,List.length_append]
      exact⟨ho.1,ho.2.imp id (fun⟨g,cap,cur,h1,h2,h3⟩=>⟨g,cap,cur,h1,by omega,h3⟩)⟩
     ·have hlt:=row_lt (unhide HO5) b hb
      refine⟨?_,fun e=>by have:=(hPr.ns.lt b e).2;omega⟩
      cases hl:lab b with
      | none=>rfl
      | some i=>have:=hPr.ns.rng _ _ hl;omega
    have hki:=KO.new hN5 (Nat.le_trans hzz hb5.size) [] (by simp)
    have hki':KO w0.heap.size wk lab na (some ⟨w5.heap.size,0,none⟩) 0 []:=by rw[hwk];exact hki
    exact⟨hPr.be.trans (hbb.mono hzz),hPr.ns.of hbb,Fr.ofBelow hbb,hcu.of hbw,hki',fun b hb=>(row_lt (unhide HO5) b hb).2,fun b hb=>by simp[blk]at hb;omega,hb5.size,hzz⟩
   obtain⟨G,hG,hGl,hGc⟩:=(unhide HLP).cu.at (by rw[nI_len];omega)
   subst hG
   have hGW:W.heap.size<G:=by
    have:=row_lt (unhide HO5) G rfl
    omega
   have HGm:Hid (∀(wr:World) (lab1:Lbl) (na1:Option Addr) (nc1:Nat) (ns1:List Nd) (ka:Option Addr) (kc:Nat) (xs:List Int),LP w0 W w5.heap.size lab na wr lab1 na1 nc1 ns1 (some ⟨G,0,none⟩) gc (nI CS) ka kc xs->G<wr.heap.size/\ ∀i (h:i<CS.length),wr.cell? ⟨G,i,none⟩=some (.int .i64 ((CS[i]:Nat):Int))):=fun wr lab1 na1 nc1 ns1 ka kc xs h=>by
    obtain⟨G',e,h1,h2⟩:=h.cu.at (by rw[nI_len];omega)
    simp only[Option.some.injEq,Addr.mk.injEq,and_true]at e
    subst e
    exact⟨h1,fun i hi=>h2 i _ (nI_at CS i hi)⟩
   have hzk:wk.heap.size=w5.heap.size+1:=by rw[hwk];simp
   have HX:Hid (∀wr:World,wk.heap.size<=wr.heap.size->w5.heap.size<=wr.heap.size):=fun wr h=>by rw[hzk]at h;omega
   have HKe:=hide hwk
   clear hGl hGc hwk HO5 HB5 HB5' HBz5 HBz1 HB1 hbw hzk hPl2 jnq jnq2 hPl
   go_upto_region 13 with fail
   rw[<-unhide HKe]
   clear HKe
   go_wp2
   go_loopw [1,3,13,14,15] (fun sa sn sk so si wr=> ∃(i:Nat) (na1:Option Addr) (nc1:Nat) (lab1:Lbl) (ns1:List Nd) (ka:Option Addr) (kc:Nat) (xs:List Int) (us:List Rt),i<=CS.length/\sa= .int .i64 (stA A0 CS i:Int)/\sn= .slice na1 ns1.length nc1/\sk= .slice ka xs.length kc/\so= .bool true/\si= .int .i64 i/\wk.heap.size<=wr.heap.size/\xs.length=i/\LP w0 W w5.heap.size lab na wr lab1 na1 nc1 ns1 (some ⟨G,0,none⟩) gc (nI CS) ka kc xs/\Bz w0 wr lab1 na1 W.heap.size [.int .i64 6,.int .i64 0,.int .i64 Mx,.string ⟨#[]⟩,.string ⟨#[]⟩,.slice none 0 0] G1 c1 (nI (q'::qs))/\ns1.length+i<=ns.length+(stA A0 CS i-A0)/\mapP (sP f .scal) (l.take i)=some us/\ns1=ns++(lays us ns.length).1/\xs=(lays us ns.length).2) (fun _ _ _ _ i _=>CS.length-(intOf i).toNat)
   case atStart=>exact⟨0,na,nc,lab,ns,some ⟨w5.heap.size,0,none⟩,0,[],[],Nat.zero_le _,rfl,rfl,rfl,rfl,rfl,Nat.le_refl _,rfl,unhide HLP,unhide HBzk,by rw[stA_zero];omega,rfl,by rw[lays_nil];simp,by rw[lays_nil]⟩
   case round=>
    obtain⟨i,na1,nc1,lab1,ns1,ka,kc,xs,us,hi,rfl,rfl,rfl,rfl,rfl,hwr,hxl,hLP,hBz,hnl,hmp,hns,hxs⟩:=hrel
    have HLr:=hide hLP;have HMp:=hide hmp;have HNs:=hide hns;have HXs:=hide hxs;have HBr:=hide hBz
    have hX5:=unhide HX wr hwr
    obtain⟨hGr,hGc⟩:=unhide HGm wr lab1 na1 nc1 ns1 ka kc xs hLP
    clear hLP hmp hns hxs HLP hBz HBzk
    by_cases hlt:i<CS.length
    ·obtain⟨hc1,hc2,hc3⟩:=unhide HLe i hlt
     have hAi:=unhide HAt i hlt
     have hgi:=hGc i hlt
     have hst:=stA_succ A0 CS i hlt
     obtain⟨CI,hCI⟩: ∃CI,CI=CS[i]:=⟨_,rfl⟩
     rw[<-hCI]at hc1 hc2 hAi hgi hst
     obtain⟨A,hA⟩: ∃A,A=stA A0 CS i:=⟨_,rfl⟩
     rw[<-hA]at hc2 hc3 hAi hnl
     rw[<-hA]
     have hPr:Pre w0 L wr lab1 na1 nc1 ns1 .scal f A CI:=⟨hc2,by omega,by have:=(unhide HP).fu;simp only[rnk]at this⊢;omega,(unhide HLr).be,(unhide HLr).ns,by omega⟩
     have hcall:=(unhide HH).sc wr lab1 na1 nc1 ns1 A CI hPr
     have j1:(i:Int)<(CS.length:Int):=by omega
     have HA:=hide hA;have HSt:=hide hst;have HAi:=hide hAi
     have hxl2:xs.length<=1000000:=by omega
     clear hA hst hAi hPr hGc hCI
     rcases sP_one (f:=f) (nt:= .scal) (xs:=sgm (tks L) A CI) (by simp[single])with hr | ⟨t,hr⟩
     ·rw[hr]at hcall
      have HC:=hide hcall
      have HR0:Hid (RR=none):=by
       show RR=none
       rw[unhide HRR,mapP_none (unhide HAi) hr]
      have HXl:=hide hxl
      clear hcall hr hxl
      go_wp2_with fail
      refine(unhide HC).mono ?_
      intro e w2 hpe
      obtain⟨na2,nc2,lab2,ns2,rfl,hN2,hF2,hl2⟩:=hpe.no
      have HE:Hid (NS w0.heap.size w2 lab2 na2 nc2 ns2/\Fr W w2 lab lab2 na na2/\ns2.length<=ns.length+(b-a)):=⟨hN2,(unhide HLr).fr.trans hF2,by have:=hl2;omega⟩
      clear hN2 hF2 hl2 HC hpe
      go_wp2
      go_returns
      refine⟨na2,nc2,lab2,ns2,?_,(unhide HE).1,(unhide HE).2.1,(unhide HE).2.2,fun t ht=> ?_⟩
      ·rw[unhide HR0];rfl
      ·rw[unhide HR0]at ht;cases ht
     ·rw[hr]at hcall
      have HC:=hide hcall
      have HM2:=hide (mapP_take (unhide HMp) (unhide HAi) hr)
      have HXl:=hide hxl
      clear hcall hr hxl
      go_wp2_with fail
      refine(unhide HC).mono ?_
      intro e w2 hpe
      obtain⟨na2,nc2,lab2,ns2,rfl,hN2,hF2,hl2,he2⟩:=hpe.yes
      have HL2:=hide ((unhide HLr).call hF2 hN2)
      have HB2:=hide ((unhide HBr).call hF2)
      have HE2:=hide he2
      have hn1:1<=ns2.length:=by rw[he2];have:=lay_pos t ns1.length;simp;omega
      have hw2:wr.heap.size<=w2.heap.size:=hF2.size
      clear hN2 hF2 he2 HC hpe
      obtain⟨WB,hWB⟩: ∃WB,WB=w2.alloc (.cells #[.int .i64 ((ns2.length:Int)-1)] 3):=⟨_,rfl⟩
      have hbB:Below w2.heap.size w2 WB:=by rw[hWB];exact bA (Below.refl _ _) _
      have HLB:=hide ((unhide HL2).of hbB)
      have HBB:=hide ((unhide HB2).of hbB)
      have hzB:WB.heap.size=w2.heap.size+1:=by rw[hWB];simp
      have HcB:Hid (WB.cell? ⟨w2.heap.size,0,none⟩=some (.int .i64 ((ns2.length:Int)-1))):=by
       show _=_
       rw[hWB]
       exact(CellsAt.new w2 [.int .i64 ((ns2.length:Int)-1)] 3).all 0 _ rfl
      have HWe:=hide hWB
      have HzB:=hide hzB
      have hzb1:w0.heap.size<=WB.heap.size:=(unhide HLB).sz
      have hns2:ns2.length<=1000000:=by omega
      obtain⟨g2,g3⟩:=unhide HGm WB lab2 na2 nc2 ns2 ka kc xs (unhide HLB)
      clear hWB hbB hzB HL2 HB2
      go_upto_region 21 with(at_builtin;rw[<-unhide HWe];refine wpList_pushK WB rfl (.tmp 72) (.tmp 76) 58 rfl ti _ Tryz.underlying58 hti hz0 hz1 hz2 rfl w0.heap.size lab2 na2 ka kc xs rfl (unhide HLB).ki (fun b hb=>((unhide HLB).ns.lt b hb).2) (unhide HLB).ns.rng ((ns2.length:Int)-1) w2.heap.size 1 rfl (unhide HcB) hxl2 hzb1 ?_;intro ra rc w6 hk6 hb6 hat6;have HK6:=hide hk6;have HB6:=hide hb6;have HA6:=hide hat6;clear hk6 hb6 hat6)
      have HL6:Hid (LP w0 W w5.heap.size lab na w6 lab2 na2 nc2 ns2 (some ⟨G,0,none⟩) gc (nI CS) ra rc (xs++[(ns2.length:Int)-1])):=(unhide HLB).kid (by have:=unhide HzB;omega) (unhide HK6) (unhide HB6) (unhide HA6)
      have HZ6:=hide ((unhide HBB).but (unhide HB6) (fun e=>by have:=(unhide HLB).kx _ e;omega) (fun e=>by have:=(unhide HLB).kx _ e;omega))
      have hw6:WB.heap.size<=w6.heap.size:=(unhide HB6).size
      obtain⟨hG6,hGc6⟩:=unhide HGm w6 lab2 na2 nc2 ns2 ra rc _ (unhide HL6)
      have hgi6:=hGc6 i hlt
      rw[show CS[i]=CI by have:=unhide HSt;have:=stA_succ A0 CS i hlt;omega]at hgi6
      clear hGc6 g3 HK6 HB6 HA6 HcB HLB HBB
      go_wp2
      go_roundw
      case rel=>exact⟨i+1,na2,nc2,lab2,ns2,ra,rc,xs++[(ns2.length:Int)-1],us++[t],by omega,(by rw[unhide HSt];go_num),rfl,(by simp),rfl,by go_num,(by have:=unhide HzB;omega),(by have:=unhide HXl;simp;omega),unhide HL6,unhide HZ6,(by rw[unhide HSt];omega),unhide HM2,(by rw[lays_snoc,unhide HE2,unhide HNs];simp[List.append_assoc]),(by rw[lays_snoc,<-unhide HXs,unhide HE2,unhide HNs];simp[Nat.add_assoc])⟩
      case measure=>simp[intOf];omega
    ·obtain rfl:i=CS.length:=by omega
     have hM:=unhide HMp
     rw[List.take_of_length_le (by rw[unhide HLl];omega)]at hM
     obtain⟨RT,hRT⟩: ∃RT,RT=sP f .tail (sgm (tks L) q' b):=⟨_,rfl⟩
     have HRs:Hid (RR=RT.map (fun ks=>[Rt.mk 6 us.length Mx [] [] (us++ks)])):=by
      show RR=_
      rw[unhide HRR,hM,hRT]
      cases sP f .tail (sgm (tks L) q' b)<;>rfl
     have hCe2:=unhide HCe
     rw[hCe2]at hnl
     rw[hCe2]
     obtain⟨x0,x1,x2,x3,x4,x5⟩:=(unhide HBr).bx.cs.c6
     have hfX:=(unhide HBr).bx.cs.frz
     have hlX:=(unhide HBr).bx.cs.lt
     obtain⟨w3,hw3⟩: ∃w3,w3=wr.setCell ⟨W.heap.size,1,none⟩ (.int .i64 (xs.length:Int)):=⟨_,rfl⟩
     have HL3:Hid (LP w0 W w5.heap.size lab na w3 lab1 na1 nc1 ns1 (some ⟨G,0,none⟩) gc (nI CS) ka kc xs):=by
      show LP _ _ _ _ _ _ _ _ _ _ _ _ _ _ _ _
      rw[hw3]
      exact(unhide HLr).apart (Nat.le_refl _) (unhide HBr).bx.n (unhide HBr).bx.l (fun e=>by simp[blk]at e;omega) (fun e=>by have:=(unhide HLr).kx _ e;omega) 1 _
     have HZ3:Hid (Bz w0 w3 lab1 na1 W.heap.size [.int .i64 6,.int .i64 (xs.length:Int),.int .i64 Mx,.string ⟨#[]⟩,.string ⟨#[]⟩,.slice none 0 0] G1 c1 (nI (q'::qs))):=by
      show Bz _ _ _ _ _ _ _ _ _
      rw[hw3]
      exact(unhide HBr).set 1 (.int .i64 (xs.length:Int)) (by simp)
     have hG3:w3.cell? ⟨G1,0,none⟩=some (.int .i64 (q':Int)):=Bz.at (q:=(q':Int)) (fs':=nI qs) (unhide HZ3)
     have hw3z:wr.heap.size=w3.heap.size:=by rw[hw3];simp
     have hG3l:G1<w3.heap.size:=by omega
     have hPr:Pre w0 L w3 lab1 na1 nc1 ns1 .tail f q' b:=⟨by omega,hbl,by have:=(unhide HP).fu;simp only[rnk]at this⊢;omega,(unhide HL3).be,(unhide HL3).ns,by omega⟩
     have hcall:=(unhide HH).ta w3 lab1 na1 nc1 ns1 ka kc xs q' b hPr (unhide HL3).ki (by omega)
     rw[<-hRT]at hcall
     have HC:=hide hcall;have Hw3:=hide hw3;have HXl:=hide hxl;have HM:=hide hM
     clear hcall hw3 hPr hRT hGc hM hxl hCe2
     go_upto_region 23 with fail
     rw[<-unhide Hw3]
     clear Hw3 x0 x1 x2 x3 x4 x5 hfX hlX
     go_wp2_with fail
     refine(unhide HC).mono ?_
     rintro e w4 ⟨na2,nc2,lab2,ns2,ka2,kc2,xs2,rfl,hN2,hK2,hbut,hna,hka,hlb,hnl2,hxl2,hres⟩
     have hXl3:=(unhide HZ3).bx.cs.lt
     have HF4:=hide ((unhide HL3).tailFr hbut hna hlb)
     have HX4:=hide ((unhide HZ3).bx.tail (fun e=>by have:=(unhide HL3).kx _ e;omega) hbut hna hlb)
     have hk4: ∀b,blk ka2=some b->W.heap.size<b:=fun b hb=>(hka b hb).elim (fun e=>by have:=(unhide HL3).kx _ e;omega) (fun e=>by omega)
     have HN4:=hide hN2;have HK4:=hide hK2;have HRes:=hide hres;have Hk4:=hide hk4
     have hz4:w3.heap.size<=w4.heap.size:=hbut.size
     clear hN2 hK2 hbut hna hka hlb hres hk4 HC
     obtain⟨x0,x1,x2,x3,x4,x5⟩:=(unhide HX4).cs.c6
     have hfX:=(unhide HX4).cs.frz
     have hlX:=(unhide HX4).cs.lt
     obtain⟨w9,hw9⟩: ∃w9,w9=w4.setCell ⟨W.heap.size,5,none⟩ (.slice ka2 xs2.length kc2):=⟨_,rfl⟩
     have hb9:ButB (fun b=>b=W.heap.size) w4 w9:=by
      rw[hw9]
      exact ButB.set (S:=fun b=>b=W.heap.size) (ButB.refl _ _) (Or.inl rfl) _
     have hX9:CellsAt w9 W.heap.size [.int .i64 6,.int .i64 (xs.length:Int),.int .i64 Mx,.string ⟨#[]⟩,.string ⟨#[]⟩,.slice ka2 xs2.length kc2]:=by
      rw[hw9]
      exact(unhide HX4).cs.set 5 (.slice ka2 xs2.length kc2) (by simp)
     have hN9:=(unhide HN4).but hb9 (fun b e e'=>(unhide HX4).n (by rw[<-e'];exact e)) (fun b i e e'=>by rw[e',(unhide HX4).l]at e;cases e)
     have hK9:=(unhide HK4).but hb9 (fun b e e'=>by have:=unhide Hk4 b e;omega)
     have HF9:=hide ((unhide HF4).local hb9 (fun b e=>by omega))
     have hB9:w0.heap.size<=w9.heap.size:=Nat.le_trans (Nat.le_trans (unhide HL3).sz hz4) hb9.size
     obtain⟨WN,hWN⟩: ∃WN,WN=w9.alloc (.cells #[.int .i64 6,.int .i64 (xs.length:Int),.int .i64 Mx,.string ⟨#[]⟩,.string ⟨#[]⟩,.slice ka2 xs2.length kc2] 62):=⟨_,rfl⟩
     obtain⟨nN,nK,nC,nB,nW,nZ⟩:=lit_node0 hN9 hB9 ⟨6,(xs.length:Int),Mx,⟨#[]⟩,⟨#[]⟩,xs2⟩ ka2 kc2 hK9 WN hWN
     have HnN:=hide nN;have HnK:=hide nK;have HnC:=hide nC;have HnW:=hide nW
     have HWe:=hide hWN;have Hw9:=hide hw9;have HX9:=hide hX9
     have hn6:ns2.length<=1000000:=by omega
     clear hWN nN nK nC nW nZ hw9 hb9 hX9 hN9 hK9 hG3 hG3l
     go_upto_region 25 with fail
     rw[<-unhide Hw9]
     clear Hw9 x0 x1 x2 x3 x4 x5 hfX hlX
     obtain⟨x0,x1,x2,x3,x4,x5⟩:=(unhide HX9).c6
     have hfX:=(unhide HX9).frz
     have hlX:=(unhide HX9).lt
     go_wp2_with (at_builtin;rw[<-unhide HWe];refine wpList_pushN WN rfl (.tmp 100) (.tmp 102) 22 rfl tn _ Tryz.underlying22 htn hy0 hy1 hy2 rfl w0.heap.size lab2 na2 nc2 ns2 rfl (unhide HnN) ⟨6,(xs.length:Int),Mx,⟨#[]⟩,⟨#[]⟩,xs2⟩ ka2 kc2 (unhide HnK) w9.heap.size 1 rfl (unhide HnC) hn6 nB ?_;intro ra rc w6 hn7 hb7 hat7;have HN7:=hide hn7;have HB7:=hide hb7;have HA7:=hide hat7;clear hn7 hb7 hat7)
     go_wp2
     go_returns
     refine⟨ra,rc,labX lab2 ka2 ns2.length,ns2++[⟨6,(xs.length:Int),Mx,⟨#[]⟩,⟨#[]⟩,xs2⟩],?_,unhide HN7,((unhide HF9).thenB (unhide HnW)).push (fun b hb=>Nat.le_of_lt (unhide Hk4 b hb)) (unhide HB7) (unhide HA7) _,by simp;omega,fun t ht=> ?_⟩
     ·rw[unhide HRs];simp
     ·rw[unhide HRs]at ht
      cases RT with
      | none=>cases ht
      | some ks=>
       simp only[Option.map_some,Option.some.injEq,List.cons.injEq,and_true]at ht
       obtain⟨h1,h2⟩:=unhide HRes ks rfl
       rw[<-ht,lay_mk,lays_app,h1,h2,unhide HXs,lays_len,unhide HNs]
       simp[List.append_assoc]
end Go.Proofs.YtmggnimiioepeaaGreatDoor.Pa
