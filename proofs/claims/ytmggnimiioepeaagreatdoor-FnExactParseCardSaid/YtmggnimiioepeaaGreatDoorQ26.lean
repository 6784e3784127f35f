import Derived.Test.YtmggnimiioepeaaGreatDoorQ0
import Derived.Test.YtmggnimiioepeaaGreatDoorPaLd1
import Derived.Test.YtmggnimiioepeaaGreatDoorQ2
namespace Go.Proofs.YtmggnimiioepeaaGreatDoor.Pa
open Go Go.RowKit
theorem own_kd{B:Nat}{w w':World}{b0 n:Nat}{ra:Option Addr}{rc:Nat}{vs:List Value}(h:w'.ownsRow b0 48 1 (.slice ra n rc) n vs)(hb:Below w.heap.size w w')(h0:w.heap.size<=b0)(hn:n=vs.length):KdE B vs w (.returned (.slice ra n rc)) w':=by
 subst hn
 refine⟨ra,rc,rfl,hb,fun i v hi=> ?_,fun b hb'=> ?_⟩
 ·have hil:=(List.getElem?_eq_some_iff.1 hi).1
  rcases h.2 with⟨_,e2⟩ | ⟨g,cap,cur,e1,_⟩
  ·omega
  ·simp only[Value.slice.injEq]at e1
   obtain⟨rfl,_,rfl⟩:=e1
   exact⟨g,rfl,by rw[h.cellAt i (by omega)];exact hi⟩
 ·have:=row_lt h b hb'
  exact⟨this.2,Or.inr (by omega)⟩
set_option maxRecDepth 100000 in
set_option maxHeartbeats 4000000 in
theorem kd_block(B:Nat)(w:World)(la qa:Option Addr)(lc qc:Nat)(lv qv:List Value)(hl:SrcC w 1 la lv.length lc lv)(hq:SrcC w 1 qa qv.length qc qv)(hla: ∀b,blk la=some b->b<w.heap.size)(hqa: ∀b,blk qa=some b->b<w.heap.size)(hn:0<qv.length)(hm:lv.length+qv.length<=100000):Calls Tryz.prog 145 #[.agg #[.slice la lv.length lc,.slice qa qv.length qc,.nilIface]] w (KdE B (lv++qv) w):=by
 obtain⟨W,hW⟩: ∃W,W=(w.alloc (.cells #[.slice la lv.length lc,.slice qa qv.length qc,.nilIface] 113)).alloc (.cells #[.slice la lv.length lc,.slice qa qv.length qc] 72):=⟨_,rfl⟩
 have hb1:Below w.heap.size w (w.alloc (.cells #[.slice la lv.length lc,.slice qa qv.length qc,.nilIface] 113)):=bA (Below.refl _ _) _
 have hC0:=CellsAt.new w [.slice la lv.length lc,.slice qa qv.length qc,.nilIface] 113
 have hC1:=CellsAt.new (w.alloc (.cells #[.slice la lv.length lc,.slice qa qv.length qc,.nilIface] 113)) [.slice la lv.length lc,.slice qa qv.length qc] 72
 have e1:(w.alloc (.cells #[.slice la lv.length lc,.slice qa qv.length qc,.nilIface] 113)).heap.size=w.heap.size+1:=by simp
 rw[e1]at hC1
 have hBW:Below w.heap.size w W:=by rw[hW];exact bA hb1 _
 have hC2:CellsAt W w.heap.size [.slice la lv.length lc,.slice qa qv.length qc,.nilIface]:=by rw[hW];exact hC0.of (bA (Below.refl _ _) _)
 have hC3:CellsAt W (w.heap.size+1) [.slice la lv.length lc,.slice qa qv.length qc]:=by rw[hW];exact hC1
 have HC:=hide (Concat2 W (w.heap.size+1) la qa lc qc lv qv hC3.lt (hC3.all 0 _ rfl) (hC3.all 1 _ rfl) (hl.of hBW hla) (hq.of hBW hqa) (fun b e=>Nat.lt_of_lt_of_le (hla b e) hBW.size) (fun b e=>Nat.lt_of_lt_of_le (hqa b e) hBW.size) hn hm)
 have HBW:=hide hBW;have HW:=hide hW;have HC2:=hide hC2
 have hzW:w.heap.size<=W.heap.size:=hBW.size
 clear hb1 hC0 hC1 e1 hBW hC2 hC3 hW hl hq hla hqa
 go_enter Tryz.func145,Tryz.ntmps145
 go_wp2_with fail
 rw[<-unhide HW]
 refine(unhide HC).mono ?_
 rintro e w2 ⟨ra,rc,rfl,hown,hb2⟩
 have hC4:=(unhide HC2).of hb2
 have c2:=hC4.all 2 _ rfl
 have hlt:=hC4.lt
 have HO:=hide hown;have HB2:=hide (bT (unhide HBW) hb2)
 clear hown hb2 hC4 HC HW
 go_wp2
 go_ret
 have:=own_kd (B:=B) (unhide HO) (unhide HB2) hzW (by simp)
 simpa using this
set_option maxRecDepth 100000 in
set_option maxHeartbeats 4000000 in
theorem kd_blockW(B:Nat)(w:World)(la qa:Option Addr)(lc qc:Nat)(lv qv:List Value)(ty:Nat)(u:Value)(hl:SrcC w 1 la lv.length lc lv)(hq:SrcC w 1 qa qv.length qc qv)(hla: ∀b,blk la=some b->b<w.heap.size)(hqa: ∀b,blk qa=some b->b<w.heap.size)(hn:0<qv.length)(hm:lv.length+qv.length<=100000):Calls Tryz.prog 145 #[.agg #[.slice la lv.length lc,.slice qa qv.length qc,.iface ty u]] w (KdE B (lv++qv++[.iface ty u]) w):=by
 obtain⟨ti,hti,hz⟩:=Option.map_eq_some_iff.1 (show(Tryz.prog.info? 48).map (fun i=>(i.zero,i.size,i.bytes))=some (some .nilIface,1,16)by kernel_rfl)
 simp only[Prod.mk.injEq]at hz
 obtain⟨hz0,hz1,hz2⟩:=hz
 obtain⟨W,hW⟩: ∃W,W=(w.alloc (.cells #[.slice la lv.length lc,.slice qa qv.length qc,.iface ty u] 113)).alloc (.cells #[.slice la lv.length lc,.slice qa qv.length qc] 72):=⟨_,rfl⟩
 have hb1:Below w.heap.size w (w.alloc (.cells #[.slice la lv.length lc,.slice qa qv.length qc,.iface ty u] 113)):=bA (Below.refl _ _) _
 have hC0:=CellsAt.new w [.slice la lv.length lc,.slice qa qv.length qc,.iface ty u] 113
 have hC1:=CellsAt.new (w.alloc (.cells #[.slice la lv.length lc,.slice qa qv.length qc,.iface ty u] 113)) [.slice la lv.length lc,.slice qa qv.length qc] 72
 have e1:(w.alloc (.cells #[.slice la lv.length lc,.slice qa qv.length qc,.iface ty u] 113)).heap.size=w.heap.size+1:=by simp
 rw[e1]at hC1
 have hBW:Below w.heap.size w W:=by rw[hW];exact bA hb1 _
 have hC2:CellsAt W w.heap.size [.slice la lv.length lc,.slice qa qv.length qc,.iface ty u]:=by rw[hW];exact hC0.of (bA (Below.refl _ _) _)
 have hC3:CellsAt W (w.heap.size+1) [.slice la lv.length lc,.slice qa qv.length qc]:=by rw[hW];exact hC1
 have HC:=hide (Concat2 W (w.heap.size+1) la qa lc qc lv qv hC3.lt (hC3.all 0 _ rfl) (hC3.all 1 _ rfl) (hl.of hBW hla) (hq.of hBW hqa) (fun b e=>Nat.lt_of_lt_of_le (hla b e) hBW.size) (fun b e=>Nat.lt_of_lt_of_le (hqa b e) hBW.size) hn hm)
 have HBW:=hide hBW;have HW:=hide hW;have HC2:=hide hC2
 have hzW:w.heap.size<=W.heap.size:=hBW.size
 clear hb1 hC0 hC1 e1 hBW hC2 hC3 hW hl hq hla hqa
 go_enter Tryz.func145,Tryz.ntmps145
 go_wp2_with fail
 rw[<-unhide HW]
 refine(unhide HC).mono ?_
 rintro e w2 ⟨ra,rc,rfl,hown,hb2⟩
 have hC4:=(unhide HC2).of hb2
 have c2:=hC4.all 2 _ rfl
 have hlt:=hC4.lt
 obtain⟨WA,hWA⟩: ∃WA,WA=w2.alloc (.cells #[.iface ty u] 48):=⟨_,rfl⟩
 have hbA:Below w2.heap.size w2 WA:=by rw[hWA];exact bA (Below.refl _ _) _
 have HO:=hide (own_below hown hbA);have HB2:=hide (bT (bT (unhide HBW) hb2) hbA)
 have HS:Hid (SrcC WA 1 (some ⟨w2.heap.size,0,none⟩) 1 1 [.iface ty u]):=by
  show SrcC _ _ _ _ _ _
  refine⟨rfl,by simp[Value.oneCell'],Or.inr ⟨w2.heap.size,rfl,?_⟩⟩
  rw[hWA]
  exact(CellsAt.new w2 [.iface ty u] 48).all
 have hzA:W.heap.size<=WA.heap.size:=Nat.le_trans hb2.size hbA.size
 have HWA:=hide hWA
 clear hown hb2 hC4 HC HW hWA hbA
 obtain⟨nn,hnn⟩: ∃nn,nn=lv.length+qv.length:=⟨_,rfl⟩
 have HNN:=hide hnn
 rw[<-hnn]at HO hm
 rw[<-hnn]
 clear hnn
 go_wp2_with (at_builtin;rw[<-unhide HWA];refine wpList_append_gen WA rfl (.tmp 13) (.tmp 16) 72 rfl W.heap.size 48 ti _ 1 16 Tryz.underlying72 hti hz0 hz1 hz2 rfl (by decide) ra nn rc (lv++qv) rfl (unhide HO) (some ⟨w2.heap.size,0,none⟩) 1 1 [.iface ty u] rfl (unhide HS) (by unfold maxLen;omega) (by omega) hzA ?_;intro ra3 rc3 w3 hown3 hgrow3 hat3;have HO3:=hide hown3;have HG3:=hide hgrow3;clear hown3 hgrow3 hat3)
 have HB3:Hid (Below w.heap.size w w3):=grown_below (unhide HB2) (unhide HG3) (fun j hj=>Nat.le_trans hzW ((unhide HO).lt j (by rw[own_slice];exact hj)).1)
 go_wp2
 go_ret
 exact own_kd (B:=B) (unhide HO3) (unhide HB3) hzW (by have:=unhide HNN;simp;omega)
theorem RowT.src{w:World}{S:Nat->Prop}{l:Value}{n:Nat}{us:Nat->Value}(h:RowT w S l n us)(hu: ∀i,i<n-> ∃ty u,us i= .iface ty u): ∃la lc lv,l= .slice la (lv:List Value).length lc/\lv.length=n/\(∀i,i<n->lv[i]?=some (us i))/\SrcC w 1 la lv.length lc lv/\ ∀b,blk la=some b->b<w.heap.size/\S b:=by
 have hone: ∀u∈(List.range n).map us,u.oneCell'=true:=fun u hu'=>by
  obtain⟨i,hi,rfl⟩:=List.mem_map.1 hu'
  obtain⟨ty,x,e⟩:=hu i (List.mem_range.1 hi)
  rw[e]
  rfl
 rcases h with⟨rfl,rfl⟩ | ⟨g,c,rfl,h2,h3,h4,h5⟩
 ·exact⟨none,0,[],rfl,rfl,by omega,⟨rfl,by simp,Or.inl ⟨rfl,rfl,rfl⟩⟩,by simp[blk]⟩
 ·refine⟨some ⟨g,0,none⟩,c,(List.range n).map us,by simp,by simp,fun i hi=>by simp[hi],⟨by simp,hone,Or.inr ⟨g,rfl,fun j u hj=> ?_⟩⟩,fun b hb=> ?_⟩
  ·have hjl:=(List.getElem?_eq_some_iff.1 hj).1
   simp at hjl
   simp[hjl]at hj
   rw[h5 j hjl,hj]
  ·simp[blk]at hb
   subst hb
   exact⟨h4,h3⟩
theorem RowT.kids{w:World}{S:Nat->Prop}{l:Value}{ts:List Rt}{us:Nat->Value}(h:RowT w S l ts.length us)(hT: ∀(i:Nat) t,ts[i]?=some t->TV w S t (us i)): ∃la lc lv,l= .slice la (lv:List Value).length lc/\lv.length=ts.length/\SrcC w 1 la lv.length lc lv/\(∀b,blk la=some b->b<w.heap.size/\S b)/\ ∀(i:Nat) t,ts[i]?=some t-> ∃v,lv[i]?=some v/\TV w S t v:=by
 obtain⟨la,lc,lv,h1,h2,h3,h4,h5⟩:=h.src (fun i hi=>(hT i ts[i] (List.getElem?_eq_getElem hi)).form)
 exact⟨la,lc,lv,h1,h2,h4,h5,fun i t hi=>⟨us i,h3 i (List.getElem?_eq_some_iff.1 hi).1,hT i t hi⟩⟩
def KV(w:World)(S:Nat->Prop)(ts:List Rt)(ks:List Value):Prop:=ks.length=ts.length/\ ∀(i:Nat) t,ts[i]?=some t-> ∃v,ks[i]?=some v/\TV w S t v
theorem KV.app{w:World}{S:Nat->Prop}{ts ss:List Rt}{ks ls:List Value}(h:KV w S ts ks)(h':KV w S ss ls):KV w S (ts++ss) (ks++ls):=by
 refine⟨by simp[h.1,h'.1],fun i t hi=> ?_⟩
 by_cases hl:i<ts.length
 ·rw[List.getElem?_append_left hl]at hi
  obtain⟨v,e1,e2⟩:=h.2 i t hi
  exact⟨v,by rw[List.getElem?_append_left (by have:=h.1;omega)];exact e1,e2⟩
 ·rw[List.getElem?_append_right (by omega)]at hi
  obtain⟨v,e1,e2⟩:=h'.2 _ t hi
  exact⟨v,by rw[List.getElem?_append_right (by have:=h.1;omega),h.1];exact e1,e2⟩
theorem KV.one{w:World}{S:Nat->Prop}{t:Rt}{v:Value}(h:TV w S t v):KV w S [t] [v]:=⟨rfl,fun i t' hi=>by
 have hi0:i=0:=by
  have:=(List.getElem?_eq_some_iff.1 hi).1
  simp at this
  omega
 subst hi0
 simp at hi
 subst hi
 exact⟨v,rfl,h⟩⟩
theorem KV.nil(w:World)(S:Nat->Prop):KV w S [] []:=⟨rfl,by simp⟩
end Go.Proofs.YtmggnimiioepeaaGreatDoor.Pa
namespace Go.Proofs.YtmggnimiioepeaaGreatDoor.Pa
open Go Go.RowKit
theorem SrcC.cells{w:World}{la:Option Addr}{n c:Nat}{vs:List Value}(h:SrcC w 1 la n c vs): ∀(i:Nat) v,vs[i]?=some v-> ∃g,la=some ⟨g,0,none⟩/\w.cell? ⟨g,i,none⟩=some v:=fun i v hi=>by
 rcases h.2.2 with⟨_,e2,_⟩ | ⟨G,e1,e2⟩
 ·have:=(List.getElem?_eq_some_iff.1 hi).1
  have:=h.1
  omega
 ·exact⟨G,e1,e2 i v hi⟩
set_option maxRecDepth 100000 in
set_option maxHeartbeats 8000000 in
theorem TV.meth{w:World}{B:Nat}{t:Rt}{v:Value}(h:TV w (fun b=>b<B) t v): ∀K N M S T kids,t= .mk K N M S T kids->kids.length<=100000-> ∃ty u ks,v= .iface ty u/\TM B w ty u K N M ⟨S.toArray⟩ ⟨T.toArray⟩ ks/\KV w (fun b=>b<B) kids ks:=by
 intro K N M S T kids e hl
 cases h with
 | int v=>
  cases e
  exact⟨_,_,[],rfl,⟨⟨_,_,fun _=>by kernel_rfl,fun _ _=>by kernel_rfl,fun W _=>nd_intTree _ W⟩,⟨_,_,fun _=>by kernel_rfl,fun _ _=>by kernel_rfl,fun W _=>kd_leaf B W⟩⟩,KV.nil _ _⟩
 | null=>
  cases e
  exact⟨_,_,[],rfl,⟨⟨_,_,fun _=>by kernel_rfl,fun _ _=>by kernel_rfl,fun W _=>nd_nullTree W⟩,⟨_,_,fun _=>by kernel_rfl,fun _ _=>by kernel_rfl,fun W _=>kd_leaf B W⟩⟩,KV.nil _ _⟩
 | col s v=>
  cases e
  exact⟨_,_,[],rfl,⟨⟨_,_,fun _=>by kernel_rfl,fun _ _=>by kernel_rfl,fun W _=>nd_colTree _ _ W⟩,⟨_,_,fun _=>by kernel_rfl,fun _ _=>by kernel_rfl,fun W _=>kd_leaf B W⟩⟩,KV.nil _ _⟩
 | src a b=>
  cases e
  exact⟨_,_,[],rfl,⟨⟨_,_,fun _=>by kernel_rfl,fun _ _=>by kernel_rfl,fun W _=>nd_srcTree _ _ W⟩,⟨_,_,fun _=>by kernel_rfl,fun _ _=>by kernel_rfl,fun W _=>kd_leaf B W⟩⟩,KV.nil _ _⟩
 | agg M ts ss hs l q us vs hl' hq h1 h2=>
  cases e
  obtain⟨la,lc,lv,rfl,hn1,hs1,hb1,hk1⟩:=hl'.kids h1
  obtain⟨qa,qc,qv,rfl,hn2,hs2,hb2,hk2⟩:=hq.kids h2
  have hq0:0<qv.length:=by rw[hn2];exact List.length_pos_iff.2 hs
  have hm0:lv.length+qv.length<=100000:=by simp at hl;omega
  rw[<-hn1]
  refine⟨_,_,lv++qv,rfl,⟨⟨_,_,fun _=>by kernel_rfl,fun _ _=>by kernel_rfl,fun W _=>nd_aggTree M la lv.length lc qa qv.length qc W⟩,⟨145,.agg #[.slice la lv.length lc,.slice qa qv.length qc,.nilIface],fun _=>by kernel_rfl,fun _ _=>by kernel_rfl,fun W hb=>kd_block B W la qa lc qc lv qv (hs1.of hb (fun b e=>(hb1 b e).1)) (hs2.of hb (fun b e=>(hb2 b e).1)) (fun b e=>Nat.lt_of_lt_of_le (hb1 b e).1 hb.size) (fun b e=>Nat.lt_of_lt_of_le (hb2 b e).1 hb.size) hq0 hm0⟩⟩,?_⟩
  exact KV.app ⟨hn1,hk1⟩ ⟨hn2,hk2⟩
 | aggW M ts ss hs c l q ty u us vs hl' hq h1 h2 h3=>
  cases e
  obtain⟨la,lc,lv,rfl,hn1,hs1,hb1,hk1⟩:=hl'.kids h1
  obtain⟨qa,qc,qv,rfl,hn2,hs2,hb2,hk2⟩:=hq.kids h2
  have hq0:0<qv.length:=by rw[hn2];exact List.length_pos_iff.2 hs
  have hm0:lv.length+qv.length<=100000:=by simp at hl;omega
  rw[<-hn1]
  refine⟨_,_,lv++qv++[.iface ty u],rfl,⟨⟨_,_,fun _=>by kernel_rfl,fun _ _=>by kernel_rfl,fun W _=>nd_aggTreeW M la lv.length lc qa qv.length qc ty u W⟩,⟨145,.agg #[.slice la lv.length lc,.slice qa qv.length qc,.iface ty u],fun _=>by kernel_rfl,fun _ _=>by kernel_rfl,fun W hb=>kd_blockW B W la qa lc qc lv qv ty u (hs1.of hb (fun b e=>(hb1 b e).1)) (hs2.of hb (fun b e=>(hb2 b e).1)) (fun b e=>Nat.lt_of_lt_of_le (hb1 b e).1 hb.size) (fun b e=>Nat.lt_of_lt_of_le (hb2 b e).1 hb.size) hq0 hm0⟩⟩,?_⟩
  have:=(KV.app (KV.app ⟨hn1,hk1⟩ ⟨hn2,hk2⟩) (KV.one h3))
  rw[List.append_assoc]at this
  exact this
 | sel M hM ts ss hs l q us vs hl' hq h1 h2=>
  cases e
  obtain⟨la,lc,lv,rfl,hn1,hs1,hb1,hk1⟩:=hl'.kids h1
  obtain⟨qa,qc,qv,rfl,hn2,hs2,hb2,hk2⟩:=hq.kids h2
  have hq0:0<qv.length:=by rw[hn2];exact List.length_pos_iff.2 hs
  have hm0:lv.length+qv.length<=100000:=by simp at hl;omega
  rw[<-hn1]
  refine⟨_,_,lv++qv,rfl,⟨⟨_,_,fun _=>by kernel_rfl,fun _ _=>by kernel_rfl,fun W _=>nd_selectTree M hM la lv.length lc qa qv.length qc W⟩,⟨145,.agg #[.slice la lv.length lc,.slice qa qv.length qc,.nilIface],fun _=>by kernel_rfl,fun _ _=>by kernel_rfl,fun W hb=>kd_block B W la qa lc qc lv qv (hs1.of hb (fun b e=>(hb1 b e).1)) (hs2.of hb (fun b e=>(hb2 b e).1)) (fun b e=>Nat.lt_of_lt_of_le (hb1 b e).1 hb.size) (fun b e=>Nat.lt_of_lt_of_le (hb2 b e).1 hb.size) hq0 hm0⟩⟩,?_⟩
  exact KV.app ⟨hn1,hk1⟩ ⟨hn2,hk2⟩
 | selW M hM ts ss hs c l q ty u us vs hl' hq h1 h2 h3=>
  cases e
  obtain⟨la,lc,lv,rfl,hn1,hs1,hb1,hk1⟩:=hl'.kids h1
  obtain⟨qa,qc,qv,rfl,hn2,hs2,hb2,hk2⟩:=hq.kids h2
  have hq0:0<qv.length:=by rw[hn2];exact List.length_pos_iff.2 hs
  have hm0:lv.length+qv.length<=100000:=by simp at hl;omega
  rw[<-hn1]
  refine⟨_,_,lv++qv++[.iface ty u],rfl,⟨⟨_,_,fun _=>by kernel_rfl,fun _ _=>by kernel_rfl,fun W _=>nd_selectTreeW M hM la lv.length lc qa qv.length qc ty u W⟩,⟨145,.agg #[.slice la lv.length lc,.slice qa qv.length qc,.iface ty u],fun _=>by kernel_rfl,fun _ _=>by kernel_rfl,fun W hb=>kd_blockW B W la qa lc qc lv qv ty u (hs1.of hb (fun b e=>(hb1 b e).1)) (hs2.of hb (fun b e=>(hb2 b e).1)) (fun b e=>Nat.lt_of_lt_of_le (hb1 b e).1 hb.size) (fun b e=>Nat.lt_of_lt_of_le (hb2 b e).1 hb.size) hq0 hm0⟩⟩,?_⟩
  have:=(KV.app (KV.app ⟨hn1,hk1⟩ ⟨hn2,hk2⟩) (KV.one h3))
  rw[List.append_assoc]at this
  exact this
 | row K ty hK ts l us hl' h1=>
  cases e
  obtain⟨la,lc,lv,rfl,hn1,hs1,hb1,hk1⟩:=hl'.kids h1
  rcases hK with⟨rfl,rfl⟩ | ⟨rfl,rfl⟩ | ⟨rfl,rfl⟩
  ·exact⟨_,_,lv,rfl,⟨⟨_,_,fun _=>by kernel_rfl,fun _ _=>by kernel_rfl,fun W _=>nd_unionTree la lv.length lc W⟩,⟨_,_,fun _=>by kernel_rfl,fun _ _=>by kernel_rfl,fun W hb=>kd_unionTree B la lc lv W (hs1.of hb (fun b e=>(hb1 b e).1)).cells (fun b e=>⟨Nat.lt_of_lt_of_le (hb1 b e).1 hb.size,(hb1 b e).2⟩)⟩⟩,⟨hn1,hk1⟩⟩
  ·exact⟨_,_,lv,rfl,⟨⟨_,_,fun _=>by kernel_rfl,fun _ _=>by kernel_rfl,fun W _=>nd_andTree la lv.length lc W⟩,⟨_,_,fun _=>by kernel_rfl,fun _ _=>by kernel_rfl,fun W hb=>kd_andTree B la lc lv W (hs1.of hb (fun b e=>(hb1 b e).1)).cells (fun b e=>⟨Nat.lt_of_lt_of_le (hb1 b e).1 hb.size,(hb1 b e).2⟩)⟩⟩,⟨hn1,hk1⟩⟩
  ·exact⟨_,_,lv,rfl,⟨⟨_,_,fun _=>by kernel_rfl,fun _ _=>by kernel_rfl,fun W _=>nd_orTree la lv.length lc W⟩,⟨_,_,fun _=>by kernel_rfl,fun _ _=>by kernel_rfl,fun W hb=>kd_orTree B la lc lv W (hs1.of hb (fun b e=>(hb1 b e).1)).cells (fun b e=>⟨Nat.lt_of_lt_of_le (hb1 b e).1 hb.size,(hb1 b e).2⟩)⟩⟩,⟨hn1,hk1⟩⟩
 | cmp M t s ty sy u v h1 h2=>
  cases e
  exact⟨_,_,[.iface ty u,.iface sy v],rfl,⟨⟨_,_,fun _=>by kernel_rfl,fun _ _=>by kernel_rfl,fun W _=>nd_cmpTree M ty sy u v W⟩,⟨_,_,fun _=>by kernel_rfl,fun _ _=>by kernel_rfl,fun W _=>kd_cmpTree B M ty sy u v W⟩⟩,(KV.one h1).app (KV.one h2)⟩
 | isn M hM t ty u h1=>
  cases e
  exact⟨_,_,[.iface ty u],rfl,⟨⟨_,_,fun _=>by kernel_rfl,fun _ _=>by kernel_rfl,fun W _=>nd_isNullTree M hM ty u W⟩,⟨_,_,fun _=>by kernel_rfl,fun _ _=>by kernel_rfl,fun W _=>kd_isNullTree B (M==1) ty u W⟩⟩,KV.one h1⟩
 | exi t ty u h1=>
  cases e
  exact⟨_,_,[.iface ty u],rfl,⟨⟨_,_,fun _=>by kernel_rfl,fun _ _=>by kernel_rfl,fun W _=>nd_existsTree ty u W⟩,⟨_,_,fun _=>by kernel_rfl,fun _ _=>by kernel_rfl,fun W _=>kd_existsTree B ty u W⟩⟩,KV.one h1⟩
 | inn M hM t s ty sy u v h1 h2=>
  cases e
  exact⟨_,_,[.iface ty u,.iface sy v],rfl,⟨⟨_,_,fun _=>by kernel_rfl,fun _ _=>by kernel_rfl,fun W _=>nd_inTree M hM ty sy u v W⟩,⟨_,_,fun _=>by kernel_rfl,fun _ _=>by kernel_rfl,fun W _=>kd_inTree B (M==1) ty sy u v W⟩⟩,(KV.one h1).app (KV.one h2)⟩
 | qua M N t s ty sy u v h1 h2=>
  cases e
  exact⟨_,_,[.iface ty u,.iface sy v],rfl,⟨⟨_,_,fun _=>by kernel_rfl,fun _ _=>by kernel_rfl,fun W _=>nd_quantTree M N ty sy u v W⟩,⟨_,_,fun _=>by kernel_rfl,fun _ _=>by kernel_rfl,fun W _=>kd_quantTree B M N ty sy u v W⟩⟩,(KV.one h1).app (KV.one h2)⟩
 | not t ty u h1=>
  cases e
  exact⟨_,_,[.iface ty u],rfl,⟨⟨_,_,fun _=>by kernel_rfl,fun _ _=>by kernel_rfl,fun W _=>nd_notTree ty u W⟩,⟨_,_,fun _=>by kernel_rfl,fun _ _=>by kernel_rfl,fun W _=>kd_notTree B ty u W⟩⟩,KV.one h1⟩
end Go.Proofs.YtmggnimiioepeaaGreatDoor.Pa
namespace Go.Proofs.YtmggnimiioepeaaGreatDoor.Pa
open Go Go.RowKit
def LayE(B:Nat)(W:World)(lab:Lbl)(na:Option Addr)(ns:List Nd)(t:Rt)(e:Ending)(W':World):Prop:=
 ∃na' nc' lab' ns',e= .returned (.slice na' (ns':List Nd).length nc')/\NS B W' lab' na' nc' ns'/\Fr W W' lab lab' na na'/\ns'=ns++lay t ns.length
theorem lays_kids(ts:List Rt)(off:Nat):ts.length<=(lays ts off).1.length:=by
 induction ts generalizing off with
 | nil=>simp
 | cons t ts ih=>
  rw[lays_cons]
  have:=lay_pos t off
  have:=ih (off+(lay t off).length)
  simp only[List.length_append,List.length_cons]
  omega
theorem lays_take_le(ts:List Rt)(i off:Nat):(lays (ts.take i) off).1.length<=(lays ts off).1.length:=by
 have h:=lays_app (ts.take i) (ts.drop i) off
 rw[List.take_append_drop]at h
 rw[h]
 simp
theorem Rt_kid{t:Rt}{K N M:Int}{S T:List UInt8}{kids:List Rt}(h:t∈kids):SizeOf.sizeOf t<SizeOf.sizeOf (Rt.mk K N M S T kids):=by
 have:=List.sizeOf_lt_of_mem h
 simp only[Rt.mk.sizeOf_spec]
 omega
theorem Fr.keep{W W1:World}{lab lab1:Lbl}{na na1:Option Addr}(f:Fr W W1 lab lab1 na na1){x:Nat}(hx:x<W.heap.size)(hn:blk na≠some x):(∀o,W1.cell? ⟨x,o,none⟩=W.cell? ⟨x,o,none⟩)/\blk na1≠some x/\lab1 x=lab x/\x<W1.heap.size:=
 ⟨fun o=>f.but.cell x o hx hn,fun e=>(f.own x e).elim hn (fun e=>by omega),f.lb x hx,Nat.lt_of_lt_of_le hx f.but.size⟩
set_option maxRecDepth 100000 in
set_option maxHeartbeats 8000000 in
theorem layDown_step(B:Nat)(w:World)(hBw:B=w.heap.size)(K N M:Int)(S T:List UInt8)(kids:List Rt)(ty:Nat)(u:Value)(ks:List Value)(hTM:TM B w ty u K N M ⟨S.toArray⟩ ⟨T.toArray⟩ ks)(hkl:ks.length=kids.length)
  (hI: ∀(i:Nat) t,kids[i]?=some t-> ∃ty' u',ks[i]?=some (.iface ty' u')/\ ∀W lab na nc ns,Below B w W->NS B W lab na nc ns->ns.length+(lay t ns.length).length<=100000->Calls Tryz.prog 16 #[.slice na ns.length nc,.iface ty' u'] W (LayE B W lab na ns t))
  (W:World) (lab:Lbl) (na:Option Addr) (nc:Nat) (ns:List Nd) (hb:Below B w W) (hN:NS B W lab na nc ns) (hln:ns.length+(lay (.mk K N M S T kids) ns.length).length<=100000):
  Calls Tryz.prog 16 #[.slice na ns.length nc,.iface ty u] W (LayE B W lab na ns (.mk K N M S T kids)):=by
 obtain⟨ti,hti,hz⟩:=Option.map_eq_some_iff.1 (show(Tryz.prog.info? 3).map (fun i=>(i.zero,i.size,i.bytes))=some (some (.int .i64 0),1,8)by kernel_rfl)
 simp only[Prod.mk.injEq]at hz
 obtain⟨hz0,hz1,hz2⟩:=hz
 obtain⟨tn,htn,hy⟩:=Option.map_eq_some_iff.1 (show(Tryz.prog.info? 62).map (fun i=>(i.zero,i.size,i.bytes))=some (some (.agg #[.int .i64 0,.int .i64 0,.int .i64 0,.string ⟨#[]⟩,.string ⟨#[]⟩,.slice none 0 0]),6,80)by kernel_rfl)
 simp only[Prod.mk.injEq]at hy
 obtain⟨hy0,hy1,hy2⟩:=hy
 subst hBw
 obtain⟨⟨nf,nv,hfn,hen,hcn⟩,⟨kf,kv,hfk,hek,hck⟩⟩:=hTM
 unfold Ent at hen hek
 have HCn:=hide (hcn W hb);have HCk:=hide hck;have HI:=hide hI;have HN:=hide hN;have HBW:=hide hb
 rw[lay_mk,List.length_append,List.length_singleton]at hln
 have hBz:w.heap.size<=W.heap.size:=hb.size
 have HLt:=hide hN.lt
 have HRg:=hide hN.rng
 clear hcn hck hI hN hb
 go_enter Tryz.func16,Tryz.ntmps16
 go_wp2_with fail
 refine(unhide HCn).mono ?_
 rintro e w1 ⟨rfl,hb1⟩
 obtain⟨w2,hw2⟩: ∃w2,w2=w1.alloc (.cells #[.int .i64 K,.int .i64 N,.int .i64 M,.string ⟨S.toArray⟩,.string ⟨T.toArray⟩,.slice none 0 0] 62):=⟨_,rfl⟩
 have hb2:Below w1.heap.size w1 w2:=by rw[hw2];exact bA (Below.refl _ _) _
 have hC2:CellsAt w2 w1.heap.size [.int .i64 K,.int .i64 N,.int .i64 M,.string ⟨S.toArray⟩,.string ⟨T.toArray⟩,.slice none 0 0]:=by rw[hw2];exact CellsAt.new w1 [.int .i64 K,.int .i64 N,.int .i64 M,.string ⟨S.toArray⟩,.string ⟨T.toArray⟩,.slice none 0 0] 62
 have HW2:=hide hw2
 have hb12:=bT hb1 hb2
 have HB2:=hide hb12
 have hz1w:W.heap.size<=w1.heap.size:=hb1.size
 have HCk2:=hide (unhide HCk w2 ((unhide HBW).trans (hb12.mono hBz)))
 have HC2:=hide hC2
 clear hw2 hb1 hb2 hb12 hC2 HCn HCk
 go_wp2_with fail
 rw[<-unhide HW2]
 refine(unhide HCk2).mono ?_
 rintro e w3 ⟨ra,rc,rfl,hb3,hrow,hrb⟩
 have HC3:=hide ((unhide HC2).of hb3)
 have HB3:=hide (bT (unhide HB2) hb3)
 have hx5:w1.heap.size<w2.heap.size:=(unhide HC2).lt
 have hz3:w2.heap.size<=w3.heap.size:=hb3.size
 have HRow:=hide hrow
 have HRb:Hid (∀b,blk ra=some b->b<w3.heap.size/\(b<w.heap.size\/w2.heap.size<=b)):=hrb
 clear hb3 hrow hrb HCk2 HW2 HC2 HB2
 have hkl2:(ks.length:Int)=(kids.length:Int):=by omega
 have hkm:kids.length<=100000:=by have:=lays_kids kids ns.length;omega
 go_wp2_with fail
 go_loopw [0,7,13] (fun sn _ si wr=> ∃(i:Nat) (na1:Option Addr) (nc1:Nat) (lab1:Lbl) (ns1:List Nd) (ka:Option Addr) (kc:Nat) (xs:List Int),i<=kids.length/\sn= .slice na1 ns1.length nc1/\si= .int .i64 i/\w3.heap.size<=wr.heap.size/\Below w.heap.size w wr/\NS w.heap.size wr lab1 na1 nc1 ns1/\Fr W wr lab lab1 na na1/\KO w.heap.size wr lab1 na1 ka kc xs/\(∀b,blk ka=some b->w3.heap.size<=b)/\CellsAt wr w1.heap.size [.int .i64 K,.int .i64 N,.int .i64 M,.string ⟨S.toArray⟩,.string ⟨T.toArray⟩,.slice ka xs.length kc]/\blk na1≠some w1.heap.size/\lab1 w1.heap.size=none/\(∀b,blk ra=some b->blk na1≠some b)/\(∀(j:Nat) v,ks[j]?=some v-> ∃g,ra=some ⟨g,0,none⟩/\wr.cell? ⟨g,j,none⟩=some v)/\ns1=ns++(lays (kids.take i) ns.length).1/\xs=(lays (kids.take i) ns.length).2) (fun _ _ si _=>kids.length-(intOf si).toNat)
 case atStart=>
  refine⟨0,na,nc,lab,ns,none,0,[],Nat.zero_le _,rfl,rfl,Nat.le_refl _,(unhide HBW).trans ((unhide HB3).mono hBz),(unhide HN).of (unhide HB3),Fr.ofBelow (unhide HB3),KO.nil _ _ _ _,by simp[blk],unhide HC3,fun e=> ?_,?_,fun b hb e=> ?_,unhide HRow,by simp[lays_nil],by simp[lays_nil]⟩
  ·have:=(unhide HLt _ e).2;omega
  ·cases hl:lab w1.heap.size with
   | none=>rfl
   | some i=>have:=unhide HRg _ _ hl;omega
  ·have:=unhide HLt _ e
   have:=unhide HRb b hb
   omega
 case round=>
  obtain⟨i,na1,nc1,lab1,ns1,ka,kc,xs,hi,rfl,rfl,hwr,hBr,hNr,hFr,hKr,hkx,hCr,hnx,hlx,hrn,hrw,hns,hxs⟩:=hrel
  have HBr:=hide hBr;have HNr:=hide hNr;have HFr:=hide hFr;have HKr:=hide hKr;have HKx:=hide hkx;have HCr:=hide hCr;have HNx:=hide hnx;have HLx:=hide hlx;have HRn:=hide hrn;have HRw:=hide hrw;have HNs:=hide hns;have HXs:=hide hxs
  have hxl:xs.length=i:=by rw[hxs,lays_len];simp;omega
  have HXl:=hide hxl
  have hxm:xs.length<=1000000:=by omega
  have hnm:ns1.length<=100000:=by
   rw[hns]
   have:=lays_take_le kids i ns.length
   simp
   omega
  clear hBr hNr hFr hKr hkx hCr hnx hlx hrn hrw hns hxs hxl
  by_cases hlt:i<kids.length
  ·obtain⟨t,ht⟩: ∃t,kids[i]?=some t:=⟨kids[i],List.getElem?_eq_getElem hlt⟩
   obtain⟨ty',u',hk',hcall⟩:=unhide HI i t ht
   obtain⟨g,rfl,hgc⟩:=unhide HRw i _ hk'
   have hgl:g<wr.heap.size:=Nat.lt_of_lt_of_le (unhide HRb g rfl).1 hwr
   have htk:kids.take (i+1)=kids.take i++[t]:=by rw[List.take_add_one,ht];rfl
   have hle:=lays_take_le kids (i+1) ns.length
   rw[htk,lays_snoc]at hle
   have hbn:ns1.length+(lay t ns1.length).length<=100000:=by
    rw[unhide HNs]
    simp only[List.length_append]at hle⊢
    omega
   have HC:=hide (hcall wr lab1 na1 nc1 ns1 (unhide HBr) (unhide HNr) hbn)
   have HTk:=hide htk
   have j1:(i:Int)<(ks.length:Int):=by omega
   clear hk' hcall ht htk hle
   go_wp2_with fail
   refine(unhide HC).mono ?_
   rintro e w4 ⟨na2,nc2,lab2,ns2,rfl,hN4,hF4,he4⟩
   obtain⟨q1,q2,q3,q4⟩:=hF4.keep (x:=w1.heap.size) (by omega) (unhide HNx)
   obtain⟨r1,r2,_,_⟩:=hF4.keep (x:=g) hgl (unhide HRn g rfl)
   have hC4:CellsAt w4 w1.heap.size [.int .i64 K,.int .i64 N,.int .i64 M,.string ⟨S.toArray⟩,.string ⟨T.toArray⟩,.slice ka xs.length kc]:=(unhide HCr).but hF4.but (unhide HNx)
   have hK4:=(unhide HKr).fr hF4
   have HB4:=hide ((unhide HBr).trans (hF4.below (unhide HBr).size (unhide HNr)))
   have HF4:=hide ((unhide HFr).trans hF4)
   have HN4:=hide hN4;have HE4:=hide he4;have HQ2:=hide q2;have HR2:=hide r2
   have HQ3:=hide (q3.trans (unhide HLx))
   have HRw4:Hid (∀(j:Nat) v,ks[j]?=some v->w4.cell? ⟨g,j,none⟩=some v):=fun j v hj=>by
    obtain⟨g',e1,e2⟩:=unhide HRw j v hj
    simp only[Option.some.injEq,Addr.mk.injEq,and_true]at e1
    subst e1
    rw[r1 j]
    exact e2
   have hz4:wr.heap.size<=w4.heap.size:=hF4.size
   have hn1:1<=ns2.length:=by rw[he4];have:=lay_pos t ns1.length;simp;omega
   have hn2:ns2.length<=100000:=by rw[he4];simp;omega
   clear hN4 hF4 he4 q1 q2 q3 r1 r2 HC HBr HNr HFr HKr HCr HNx HLx HRw
   have c5:=hC4.all 5 _ rfl
   have hf5:=hC4.frz
   have hl5:=hC4.lt
   obtain⟨WB,hWB⟩: ∃WB,WB=w4.alloc (.cells #[.int .i64 ((ns2.length:Int)-1)] 3):=⟨_,rfl⟩
   have hbB:Below w4.heap.size w4 WB:=by rw[hWB];exact bA (Below.refl _ _) _
   have HcB:Hid (WB.cell? ⟨w4.heap.size,0,none⟩=some (.int .i64 ((ns2.length:Int)-1))):=by
    show _=_
    rw[hWB]
    exact(CellsAt.new w4 [.int .i64 ((ns2.length:Int)-1)] 3).all 0 _ rfl
   have HbB:=hide hbB
   have HKB:=hide (hK4.of hbB)
   have hzb1:w.heap.size<=WB.heap.size:=Nat.le_trans (unhide HB4).size hbB.size
   have HNl:Hid (∀b,blk na2=some b->b<WB.heap.size):=fun b hb=>Nat.lt_of_lt_of_le ((unhide HN4).lt b hb).2 hbB.size
   have HLl:Hid (∀b i,lab2 b=some i->b<WB.heap.size):=fun b i hb=>Nat.lt_of_lt_of_le ((unhide HN4).rng b i hb) hbB.size
   have HC4:=hide hC4
   have HWe:=hide hWB
   clear hWB hbB hK4 hC4
   have hFar:Hid (∀w6,ButB (fun b=>blk ka=some b) WB w6->CellsAt w6 w1.heap.size [.int .i64 K,.int .i64 N,.int .i64 M,.string ⟨S.toArray⟩,.string ⟨T.toArray⟩,.slice ka xs.length kc]):=fun w6 h6=>((unhide HC4).of (unhide HbB)).but h6 (fun e=>by have:=unhide HKx _ e;omega)
   go_wp2_with (at_builtin;rw[<-unhide HWe];refine wpList_pushK WB rfl (.tmp 21) (.tmp 25) 58 rfl ti _ Tryz.underlying58 hti hz0 hz1 hz2 rfl w.heap.size lab2 na2 ka kc xs rfl (unhide HKB) (unhide HNl) (unhide HLl) ((ns2.length:Int)-1) w4.heap.size 1 rfl (unhide HcB) hxm hzb1 ?_;intro ka2 kc2 w6 hk6 hb6 hat6;have hC6:=unhide hFar w6 hb6;have g5:=hC6.all 5 _ rfl;have gf:=hC6.frz;have gl:=hC6.lt;have HC6:=hide hC6;have HK6:=hide hk6;have HB6:=hide hb6;have HA6:=hide hat6;clear hk6 hb6 hat6 hC6 c5 hf5 hl5)
   obtain⟨w7,hw7⟩: ∃w7,w7=w6.setCell ⟨w1.heap.size,5,none⟩ (.slice ka2 (xs.length+1) kc2):=⟨_,rfl⟩
   have hb7:ButB (fun b=>b=w1.heap.size) w6 w7:=by
    rw[hw7]
    exact ButB.set (S:=fun b=>b=w1.heap.size) (ButB.refl _ _) (Or.inl rfl) _
   have HC7:Hid (CellsAt w7 w1.heap.size [.int .i64 K,.int .i64 N,.int .i64 M,.string ⟨S.toArray⟩,.string ⟨T.toArray⟩,.slice ka2 (xs++[(ns2.length:Int)-1]).length kc2]):=by
    show CellsAt _ _ _
    rw[hw7,List.length_append]
    exact(unhide HC6).set 5 (.slice ka2 (xs.length+1) kc2) (by simp)
   have hb67:ButB (fun b=>blk ka=some b\/b=w1.heap.size) WB w7:=((unhide HB6).mono (fun b e=>Or.inl e)).trans (hb7.mono (fun b e=>Or.inr e))
   have hb47:ButB (fun b=>blk ka=some b\/b=w1.heap.size) w4 w7:=(ButB.ofBelow (unhide HbB)).trans hb67
   have HKb:Hid (∀b,blk ka2=some b->w3.heap.size<=b):=fun b hb=>(unhide HA6 b hb).elim (unhide HKx b) (fun e=>by have:=(unhide HbB).size;omega)
   have HK7:Hid (KO w.heap.size w7 lab2 na2 ka2 kc2 (xs++[(ns2.length:Int)-1])):=(unhide HK6).but hb7 (fun b hb e=>by have:=unhide HKb b hb;omega)
   have HN7:Hid (NS w.heap.size w7 lab2 na2 nc2 ns2):=(unhide HN4).but hb47 (fun b hb e=>e.elim (fun e=>((unhide HKB).off b e).2 hb) (fun e=>unhide HQ2 (by rw[<-e];exact hb))) (fun b i hb e=>e.elim (fun e=>by rw[((unhide HKB).off b e).1]at hb;cases hb) (fun e=>by rw[e,unhide HQ3]at hb;cases hb))
   have HF7:=hide ((unhide HF4).local hb47 (fun b e=>e.elim (fun e=>by have:=unhide HKx b e;omega) (fun e=>by omega)))
   have HB7:Hid (Below w.heap.size w w7):=(unhide HB4).trans (hb47.below (unhide HB4).size (fun b e=>e.elim (fun e=>by have:=unhide HKx b e;omega) (fun e=>by omega)))
   have HRw7:Hid (∀(j:Nat) v,ks[j]?=some v-> ∃g',some (⟨g,0,none⟩:Addr)=some ⟨g',0,none⟩/\w7.cell? ⟨g',j,none⟩=some v):=fun j v hj=>⟨g,rfl,by
    rw[hb47.cell g j (by omega) (fun e=> ?_)]
    ·exact unhide HRw4 j v hj
    ·have hgb:=unhide HRb g rfl
     rcases e with e | e
     ·have:=unhide HKx g e;omega
     ·omega⟩
   have hz7:w4.heap.size<=w7.heap.size:=hb47.size
   have HW7:=hide hw7
   clear hw7 hb7 hb67 hb47 g5 gf gl
   go_wp2
   rw[<-unhide HW7]
   go_roundw
   case rel=>exact⟨i+1,na2,nc2,lab2,ns2,ka2,kc2,xs++[(ns2.length:Int)-1],by omega,rfl,by go_num,by omega,unhide HB7,unhide HN7,unhide HF7,unhide HK7,unhide HKb,unhide HC7,unhide HQ2,unhide HQ3,(fun b hb=>by simp[blk]at hb;subst hb;exact unhide HR2),unhide HRw7,(by rw[unhide HTk,lays_snoc,unhide HE4,unhide HNs];simp[List.append_assoc]),(by rw[unhide HTk,lays_snoc,<-unhide HXs,unhide HE4,unhide HNs];simp[Nat.add_assoc])⟩
   case measure=>simp[intOf];omega
  ·obtain rfl:i=kids.length:=by omega
   rw[List.take_of_length_le (Nat.le_refl _)]at HNs HXs
   obtain⟨c0,c1,c2,c3,c4,c5⟩:=(unhide HCr).c6
   have hlx:=(unhide HCr).lt
   obtain⟨WN,hWN⟩: ∃WN,WN=wr.alloc (.cells #[.int .i64 K,.int .i64 N,.int .i64 M,.string ⟨S.toArray⟩,.string ⟨T.toArray⟩,.slice ka xs.length kc] 62):=⟨_,rfl⟩
   obtain⟨nN,nK,nC,nB,nW,nZ⟩:=lit_node0 (unhide HNr) (unhide HBr).size ⟨K,N,M,⟨S.toArray⟩,⟨T.toArray⟩,xs⟩ ka kc (unhide HKr) WN hWN
   have HnN:=hide nN;have HnK:=hide nK;have HnC:=hide nC;have HnW:=hide nW
   have HWe:=hide hWN
   have hn6:ns1.length<=1000000:=by omega
   have j2: ¬(kids.length:Int)<(ks.length:Int):=by omega
   clear hWN nN nK nC nW nZ
   go_wp2_with (at_builtin;rw[<-unhide HWe];refine wpList_pushN WN rfl (.tmp 29) (.tmp 31) 22 rfl tn _ Tryz.underlying22 htn hy0 hy1 hy2 rfl w.heap.size lab1 na1 nc1 ns1 rfl (unhide HnN) ⟨K,N,M,⟨S.toArray⟩,⟨T.toArray⟩,xs⟩ ka kc (unhide HnK) wr.heap.size 1 rfl (unhide HnC) hn6 nB ?_;intro ra7 rc7 w7 hn7 hb7 hat7;have HN7:=hide hn7;have HB7:=hide hb7;have HA7:=hide hat7;clear hn7 hb7 hat7)
   go_wp2
   go_ret
   refine⟨ra7,rc7,labX lab1 ka ns1.length,ns1++[⟨K,N,M,⟨S.toArray⟩,⟨T.toArray⟩,xs⟩],by simp,unhide HN7,((unhide HFr).thenB (unhide HnW)).push (fun b hb=>by have:=unhide HKx b hb;omega) (unhide HB7) (unhide HA7) _,?_⟩
   rw[lay_mk,unhide HNs,unhide HXs,List.append_assoc]
theorem layDown_calls(w:World): ∀(m:Nat) (t:Rt) (v:Value),SizeOf.sizeOf t<m->TV w (fun b=>b<w.heap.size) t v-> ∀ty u,v= .iface ty u-> ∀W lab na nc ns,Below w.heap.size w W->NS w.heap.size W lab na nc ns->ns.length+(lay t ns.length).length<=100000->Calls Tryz.prog 16 #[.slice na ns.length nc,.iface ty u] W (LayE w.heap.size W lab na ns t)
 | 0,t,v,hm,_,_,_,_,_,_,_,_,_,_,_,_=>by omega
 | m+1,.mk K N M S T kids,v,hm,hT,ty,u,hv,W,lab,na,nc,ns,hb,hN,hl=>by
  have hk:kids.length<=100000:=by
   have:=lays_kids kids ns.length
   rw[lay_mk]at hl
   simp at hl
   omega
  obtain⟨ty1,u1,ks,e1,hTM,hKV⟩:=hT.meth K N M S T kids rfl hk
  rw[hv]at e1
  simp only[Value.iface.injEq]at e1
  obtain⟨rfl,rfl⟩:=e1
  refine layDown_step w.heap.size w rfl K N M S T kids ty u ks hTM hKV.1 (fun i t ht=> ?_) W lab na nc ns hb hN hl
  obtain⟨v',e2,e3⟩:=hKV.2 i t ht
  obtain⟨ty',u',rfl⟩:=e3.form
  exact⟨ty',u',e2,layDown_calls w m t _ (by have:=Rt_kid (K:=K) (N:=N) (M:=M) (S:=S) (T:=T) (List.mem_of_getElem? ht);omega) e3 ty' u' rfl⟩
end Go.Proofs.YtmggnimiioepeaaGreatDoor.Pa
