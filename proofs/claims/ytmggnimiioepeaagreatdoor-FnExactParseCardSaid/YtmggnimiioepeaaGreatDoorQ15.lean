import Derived.Test.YtmggnimiioepeaaGreatDoorQ0
import Derived.Test.YtmggnimiioepeaaGreatDoorQ14
import Derived.Test.YtmggnimiioepeaaGreatDoorQ8
import Derived.Test.YtmggnimiioepeaaGreatDoorQ1
namespace Go.Proofs.YtmggnimiioepeaaGreatDoor.Pa
open Go Go.RowKit
theorem fst1_sgm{ts:List Tok}{sep:Tok}{a b:Nat}{x y:List Tok}{d:Int}(hab:a<=b)(hb:b<=ts.length)(h:fst1 sep d (sgm ts a b)=some (x,y)): ∃q,a<=q/\q<b/\x=sgm ts a q/\sgm ts q b=sep::y/\y=sgm ts (q+1) b/\(topsP sep d a (sgm ts a b)).head?=some q:=by
 have e:=fst1_app _ _ _ _ h
 have hl:=congrArg List.length e
 rw[sgm_len ts a b hab hb]at hl
 simp at hl
 have hh:=fst1_tops sep (sgm ts a b) d a
 rw[h]at hh
 refine⟨a+x.length,by omega,by omega,?_⟩
 have hs:=sgm_split ts a (a+x.length) b (by omega) (by omega)
 have hxl:(sgm ts a (a+x.length)).length=x.length:=by rw[sgm_len ts a _ (by omega) (by omega)];omega
 rw[hs]at e
 obtain⟨q1,q2⟩:=List.append_inj e hxl
 obtain⟨t,_,e2⟩:=sgm_head ts (a+x.length) b (by omega) hb
 refine⟨q1.symm,q2,?_,by simpa using hh⟩
 rw[e2]at q2
 simp only[List.cons.injEq]at q2
 exact q2.2.symm
theorem fst1_noneP{ts:List Tok}{sep:Tok}{a b:Nat}{d:Int}(h:topsP sep d a (sgm ts a b)=[]):fst1 sep d (sgm ts a b)=none:=by
 have hh:=fst1_tops sep (sgm ts a b) d a
 rw[h]at hh
 cases hf:fst1 sep d (sgm ts a b)with
 | none=>rfl
 | some p=>rw[hf]at hh;simp at hh
theorem fst1_someP{ts:List Tok}{sep:Tok}{a b q:Nat}{qs:List Nat}{d:Int}(h:topsP sep d a (sgm ts a b)=q::qs): ∃x y,fst1 sep d (sgm ts a b)=some (x,y):=by
 have hh:=fst1_tops sep (sgm ts a b) d a
 rw[h]at hh
 cases hf:fst1 sep d (sgm ts a b)with
 | none=>rw[hf]at hh;simp at hh
 | some p=>exact⟨p.1,p.2,rfl⟩
theorem wp_pushI{P:Program}(w:World){o:Oper}{a:Act}{K:Act->World->Prop}{Q:Exit->Act->World->Prop}(s x:Operand)(t:TypeId)
  (ho:o.op= .call {callee:= .builtin .append,args:= #[s,x],argTypes:= #[t,t]})
  (base:Nat) (i:TypeInfo) (z:Value) (ht:P.underlying t=some (.slice 3)) (hi:P.info? 3=some i) (hz:i.zero=some z)
  (hsize:i.size=1) (hby:i.bytes=8) (hzs:z.cells.size=1)
  (va:Option Addr) (n vc:Nat) (xs:List Value) (hs:a.eval s= .slice va n vc) (hown:w.ownsRow base 3 1 (.slice va n vc) n xs) (G xc:Nat) (v:Value) (hv:v.oneCell'=true) (hx:a.eval x= .slice (some ⟨G,0,none⟩) 1 xc) (hc:w.cell? ⟨G,0,none⟩=some v)
  (hn:n<=1000000) (hbase:base<=w.heap.size)
  (h: ∀ra cap w',w'.ownsRow base 3 1 (.slice ra (n+1) cap) (n+1) (xs++[v])->w.grownBy w' (blk va)->K (a.put o.dst (.slice ra (n+1) cap)) w'):o.wp P a w K Q:=
 wp_append_gen w s x t ho base 3 i z 1 8 ht hi hz hsize hby hzs (by decide) va n vc xs hs hown (some ⟨G,0,none⟩) 1 xc [v] hx ⟨rfl,by simp[hv],Or.inr ⟨G,rfl,fun j u hj=>by
  cases j with
  | zero=>simp at hj;subst hj;exact hc
  | succ j=>simp at hj⟩⟩ (by unfold maxLen;omega) (by omega) hbase (fun ra cap w' h1 h2 _=>h ra cap w' h1 h2)
end Go.Proofs.YtmggnimiioepeaaGreatDoor.Pa
namespace Go.Proofs.YtmggnimiioepeaaGreatDoor.Pa
open Go Go.RowKit
theorem sgs_mem{k:Nat}(h:k<11):sgs.getD k []∈sgs:=by
 have hl:k<sgs.length:=h
 rw[List.getD_eq_getElem?_getD,List.getElem?_eq_getElem hl]
 exact List.getElem_mem hl
theorem kws_mem{k:Nat}(h:k<17):kws.getD k []∈kws:=by
 have hl:k<kws.length:=h
 rw[List.getD_eq_getElem?_getD,List.getElem?_eq_getElem hl]
 exact List.getElem_mem hl
theorem tok_name{t:Tok}{S:ByteArray}(h:TOk t S):NameB S↔ ∃b,t= .nam b:=by
 cases t with
 | nam b=>exact⟨fun _=>⟨b,rfl⟩,fun _=>h.2⟩
 | num v=>exact⟨fun hn=>absurd h.1 (letter_num hn.1.2.1),fun⟨b,e⟩=>by cases e⟩
 | sy k=>
  refine⟨fun hn=> ?_,fun⟨b,e⟩=>by cases e⟩
  obtain⟨hk,hs⟩:=h
  unfold syT at hs
  split at hs
  ·rename_i h11
   have hg:SignB S:=by unfold SignB;rw[hs];exact sgs_mem h11
   have:=hg.first.2.2.1
   rw[hn.1.2.1]at this
   cases this
  ·exact absurd (by rw[hs];exact kws_mem (by omega)) hn.2.2
theorem tok_size{t:Tok}{S:ByteArray}(h:TOk t S):S.size<=1048576:=by
 cases t with
 | nam b=>have:=h.2.2.1;omega
 | num v=>
  have h1:=h.2.1
  have:frn S<=1:=by unfold frn;split<;>omega
  omega
 | sy k=>
  obtain⟨hk,hs⟩:=h
  have hl: ∀x∈sgs++kws,x.length<=64:=by decide
  have h2:S.toList.length<=64:=by
   rw[hs]
   unfold syT
   split
   ·rename_i h11
    exact hl _ (List.mem_append_left _ (sgs_mem h11))
   ·exact hl _ (List.mem_append_right _ (kws_mem (by omega)))
  rw[size_toList]at h2
  omega
theorem tok_list{b:List UInt8}{S:ByteArray}(h:TOk (.nam b) S):(⟨b.toArray⟩:ByteArray)=S:=by
 rw[<-h.1]
 cases S with
 | mk d=>
  have:(⟨d⟩:ByteArray).toList=d.toList:=by
   have:=Go.ByteArray.toList_mk d.toList
   simpa using this
  rw[this]
theorem src_eq{ts:List Tok}{A C:Nat}(hA:A<=C)(hC:C<=ts.length):(C-A≠1->C-A≠2->srcS (sgm ts A C)=none)/\
  ∀t u,(C=A+1\/C=A+2)->ts[A]?=some t->ts[C-1]?=some u->srcS (sgm ts A C)=(match t,u with | .nam a,.nam b=>some [rSrc a b] | _,_=>none):=by
 have hl:=sgm_len ts A C hA hC
 refine⟨fun h1 h2=> ?_,fun t u h ht hu=> ?_⟩
 ·cases hs:sgm ts A C with
  | nil=>rfl
  | cons x l=>
   cases l with
   | nil=>rw[hs]at hl;simp at hl;omega
   | cons y l=>
    cases l with
    | nil=>rw[hs]at hl;simp at hl;omega
    | cons z l=>unfold srcS;split<;>simp_all
 ·obtain⟨t',ht',e1⟩:=sgm_head ts A C (by omega) hC
  rw[ht]at ht'
  cases ht'
  rw[e1]
  rcases h with rfl | rfl
  ·have e2:sgm ts (A+1) (A+1)=[]:=List.eq_nil_of_length_eq_zero (by rw[sgm_len ts _ _ (Nat.le_refl _) hC];omega)
   rw[e2]
   simp only[Nat.add_sub_cancel]at hu
   rw[ht]at hu
   cases hu
   cases t<;>rfl
  ·obtain⟨u',hu',e2⟩:=sgm_head ts (A+1) (A+2) (by omega) hC
   rw[show A+2-1=A+1 by omega]at hu
   rw[hu]at hu'
   cases hu'
   have e3:sgm ts (A+1+1) (A+2)=[]:=List.eq_nil_of_length_eq_zero (by rw[sgm_len ts _ _ (by omega) hC];omega)
   rw[e2,e3]
   cases t<;>cases u<;>rfl
theorem topsP_skip{sep:Tok}{a:Nat}{r:List Tok}(h:Tok.sy 13≠sep):topsP sep 0 a (.sy 13::r)=topsP sep 0 (a+1) r:=by
 show(if dn 0 (.sy 13)=0/\Tok.sy 13=sep then a::topsP sep (up 0 (.sy 13)) (a+1) r else topsP sep (up 0 (.sy 13)) (a+1) r)=_
 rw[if_neg (fun e=>h e.2)]
 rfl
theorem tail_no{f:Nat}{xs:List Tok}(h: ∀r,xs≠ .sy 13::r):sP (f+1) .tail xs=none:=by
 show tailS (sP f .cond) xs=none
 unfold tailS
 split
 ·exact absurd rfl (h _)
 ·rfl
theorem tail_0{f:Nat}{ts:List Tok}{a b:Nat}(hab:a+1<=b)(hb:b<=ts.length)(h:topsP (.sy 14) 0 (a+1) (sgm ts (a+1) b)=[]):sP (f+1) .tail (.sy 13::sgm ts (a+1) b)=mapP srcS (between ts (a+1) (topsP (.sy 2) 0 (a+1) (sgm ts (a+1) b)) b):=by
 show tailS (sP f .cond) _=_
 unfold tailS
 simp only[]
 rw[show kWhere=Tok.sy 14 from rfl,fst1_noneP h]
 simp only[]
 rw[cut_between ts cm (a+1) b hab hb]
 try rfl
theorem tail_1{f:Nat}{ts:List Tok}{a b q:Nat}{qs:List Nat}(hab:a+1<=b)(hb:b<=ts.length)(h:topsP (.sy 14) 0 (a+1) (sgm ts (a+1) b)=q::qs):a+1<=q/\q<b/\sP (f+1) .tail (.sy 13::sgm ts (a+1) b)=(match mapP srcS (between ts (a+1) (topsP (.sy 2) 0 (a+1) (sgm ts (a+1) q)) q)with
   | some ss=>(match sP f .cond (sgm ts (q+1) b)with | some [c]=>some (ss++[c]) | _=>none)
   | none=>none):=by
 obtain⟨x,y,hf1⟩:=fst1_someP h
 obtain⟨q',hq1,hq2,hx,_,hy,hh⟩:=fst1_sgm hab hb hf1
 obtain rfl:q'=q:=by rw[h]at hh;simpa using hh.symm
 refine⟨hq1,hq2,?_⟩
 show tailS (sP f .cond) _=_
 unfold tailS
 simp only[]
 rw[show kWhere=Tok.sy 14 from rfl,hf1]
 simp only[]
 rw[hx,hy,cut_between ts cm (a+1) q' hq1 (by omega)]
 rfl
theorem labX_none(lab:Lbl)(i:Nat):labX lab none i=lab:=by
 funext b
 simp[labX,blk]
structure TL(w0 W:World)(lab0:Lbl)(na0 ka0:Option Addr)(wr:World)(lab:Lbl)(na:Option Addr)(nc:Nat)(nodes:List Nd)(ga:Option Addr)(gc:Nat)(cuts:List Int)(ka:Option Addr)(kc:Nat)(xs:List Int):Prop where
 be:Below w0.heap.size w0 wr
 ns:NS w0.heap.size wr lab na nc nodes
 cu:KO w0.heap.size wr lab na ga gc cuts
 ki:KO w0.heap.size wr lab na ka kc xs
 gk: ∀b,blk ga=some b->blk ka≠some b
 bt:ButB (fun b=>blk na0=some b\/blk ka0=some b) W wr
 nn: ∀b,blk na=some b->blk na0=some b\/W.heap.size<=b
 kk: ∀b,blk ka=some b->blk ka0=some b\/W.heap.size<=b
 lb: ∀b,b<W.heap.size->lab b=lab0 b
section
variable {w0 W wr w1:World}{lab0 lab lab1:Lbl}{na0 ka0 na na1 ga ka ra:Option Addr}{nc nc1 gc kc rc:Nat}{ns ns1:List Nd}{cuts xs ys:List Int}
theorem TL.call(h:TL w0 W lab0 na0 ka0 wr lab na nc ns ga gc cuts ka kc xs)(f:Fr wr w1 lab lab1 na na1)(n:NS w0.heap.size w1 lab1 na1 nc1 ns1):TL w0 W lab0 na0 ka0 w1 lab1 na1 nc1 ns1 ga gc cuts ka kc xs:=
 ⟨h.be.trans (f.below h.be.size h.ns),n,h.cu.fr f,h.ki.fr f,h.gk,h.bt.trans' f.but (fun b e=>(h.nn b e).elim (fun e=>Or.inl (Or.inl e)) Or.inr),fun b e=>(f.own b e).elim (h.nn b) (fun e=>Or.inr (Nat.le_trans h.bt.size e)),h.kk,fun b e=>(f.lb b (Nat.lt_of_lt_of_le e h.bt.size)).trans (h.lb b e)⟩
theorem TL.of(h:TL w0 W lab0 na0 ka0 wr lab na nc ns ga gc cuts ka kc xs)(hb:Below wr.heap.size wr w1):TL w0 W lab0 na0 ka0 w1 lab na nc ns ga gc cuts ka kc xs:=h.call (Fr.ofBelow hb) (h.ns.of hb)
theorem TL.kid(h:TL w0 W lab0 na0 ka0 wr lab na nc ns ga gc cuts ka kc xs)(k:KO w0.heap.size w1 lab na ra rc ys)(hb:ButB (fun b=>blk ka=some b) wr w1)(hat: ∀b,blk ra=some b->blk ka=some b\/b=wr.heap.size):TL w0 W lab0 na0 ka0 w1 lab na nc ns ga gc cuts ra rc ys:=
 ⟨h.be.trans (hb.below h.be.size (fun b e=>(h.ki.lt b e).1)),h.ns.but hb (fun b e e'=>(h.ki.off b e').2 e) (fun b i e e'=>by rw[(h.ki.off b e').1]at e;cases e),h.cu.but hb (fun b e e'=>h.gk b e e'),k,fun b e e'=>(hat b e').elim (h.gk b e) (fun e2=>by have:=(h.cu.lt b e).2;omega),h.bt.trans' hb (fun b e=>(h.kk b e).elim (fun e=>Or.inl (Or.inr e)) Or.inr),h.nn,fun b e=>(hat b e).elim (h.kk b) (fun e=>Or.inr (by rw[e];exact h.bt.size)),h.lb⟩
theorem TL.node(h:TL w0 W lab0 na0 ka0 wr lab na nc ns ga gc cuts ka kc xs){i:Nat}(n:NS w0.heap.size w1 (labX lab none i) ra rc ns1)(hb:ButB (fun b=>blk na=some b) wr w1)(hat: ∀b,blk ra=some b->blk na=some b\/b=wr.heap.size):TL w0 W lab0 na0 ka0 w1 lab ra rc ns1 ga gc cuts ka kc xs:=
 h.call ⟨hb,fun b e=>(hat b e).imp id (fun e=>by rw[e];exact Nat.le_refl _),fun _ _=>rfl⟩ (by rw[labX_none]at n;exact n)
theorem TL.ends(h:TL w0 W lab0 na0 ka0 wr lab na nc ns ga gc cuts ka kc xs){e:Ending}{ns0:List Nd}{xs0:List Int}{r:Option (List Rt)}{len:Nat}(he:e= .returned (.tuple #[.slice na ns.length nc,.slice ka xs.length kc,.bool r.isSome]))(h1:ns.length<=ns0.length+len)(h2:xs.length<=xs0.length+len)(h3: ∀ts,r=some ts->ns=ns0++(lays ts ns0.length).1/\xs=xs0++(lays ts ns0.length).2):TE w0.heap.size W lab0 na0 ka0 ns0 xs0 r len e wr:=
 ⟨na,nc,lab,ns,ka,kc,xs,he,h.ns,h.ki,h.bt,h.nn,h.kk,h.lb,by omega,h2,h3⟩
end
theorem wp_pushN{P:Program}(W:World){o:Oper}{a:Act}{Kx:Act->World->Prop}{Q:Exit->Act->World->Prop}(s x:Operand)(t:TypeId)
  (ho:o.op= .call {callee:= .builtin .append,args:= #[s,x],argTypes:= #[t,t]}) (i:TypeInfo) (z:Value) (ht:P.underlying t=some (.slice 62)) (hi:P.info? 62=some i) (hz:i.zero=some z)
  (hsize:i.size=6) (hby:i.bytes=80) (hzs:z.cells.size=6) (B:Nat) (lab:Lbl) (na:Option Addr) (nc:Nat) (ns:List Nd) (hs:a.eval s= .slice na ns.length nc) (hN:NS B W lab na nc ns)
  (n:Nd) (ka:Option Addr) (kc:Nat) (hK:KO B W lab na ka kc n.Kids) (G xc:Nat) (hx:a.eval x= .slice (some ⟨G,0,none⟩) 1 xc) (hsrc: ∀j u,(cNv ⟨n,ka,kc⟩)[j]?=some u->W.cell? ⟨G,j,none⟩=some u)
  (hlen:ns.length<=1000000) (hB:B<=W.heap.size)
  (h: ∀ra rc w',NS B w' (labX lab ka ns.length) ra rc (ns++[n])->ButB (fun b=>blk na=some b) W w'->(∀b,blk ra=some b->blk na=some b\/b=W.heap.size)->Kx (a.put o.dst (.slice ra (ns.length+1) rc)) w'):o.wp P a W Kx Q:=by
 obtain⟨qs,e,hown,hk⟩:=hN.ex
 refine wp_append_gen W s x t ho B 62 i z 6 80 ht hi hz hsize hby hzs (by decide) na ns.length nc (qs.flatMap cNv) hs hown (some ⟨G,0,none⟩) 1 xc (cNv ⟨n,ka,kc⟩) hx ⟨rfl,cNv_one _,Or.inr ⟨G,rfl,hsrc⟩⟩ (by unfold maxLen;omega) (by omega) hB ?_
 intro ra rc w' hown2 hgrow hat
 have hbut:ButB (fun b=>blk na=some b) W w':=ButB.grown hgrow (fun b hb=>hb)
 refine h ra rc w' ⟨⟨qs++[⟨n,ka,kc⟩],by simp[e],?_,fun j q hq=> ?_⟩,fun b hb=> ?_,fun b j hb=> ?_⟩ hbut hat
 ·rw[List.flatMap_append,List.length_append]
  simpa using hown2
 ·have hql:qs.length=ns.length:=by rw[<-e];simp
  by_cases hj:j<qs.length
  ·rw[List.getElem?_append_left hj]at hq
   obtain⟨h1,h2⟩:=hk j q hq
   refine⟨own_butB h1 hbut (fun g hg=> ?_),fun b hb=> ?_⟩
   ·rw[own_slice]at hg
    intro e2
    have:=hN.off g e2
    rw[h2 g hg]at this
    cases this
   ·unfold labX
    rw[if_neg (fun e2=>by have:=(hK.off b e2).1;rw[h2 b hb]at this;cases this)]
    exact h2 b hb
  ·rw[List.getElem?_append_right (by omega)]at hq
   have hj0:j-qs.length=0:=by
    have:=(List.getElem?_eq_some_iff.1 hq).1
    simp at this
    omega
   rw[hj0]at hq
   simp only[List.getElem?_cons_zero,Option.some.injEq]at hq
   subst hq
   refine⟨own_butB hK.own hbut (fun g hg=> ?_),fun b hb=> ?_⟩
   ·rw[own_slice]at hg
    exact fun e2=>(hK.off g hg).2 e2
   ·unfold labX
    rw[if_pos hb,show j=ns.length by omega]
 ·unfold labX
  rw[if_neg (fun e2=> ?_)]
  ·rcases hat b hb with e2 | e2
   ·exact hN.off b e2
   ·cases hl:lab b with
    | none=>rfl
    | some i=>have:=hN.rng _ _ hl;omega
  ·have:=(hK.lt b e2).2
   rcases hat b hb with e3 | e3
   ·exact(hK.off b e2).2 e3
   ·omega
 ·unfold labX at hb
  split at hb
  ·rename_i e2
   exact Nat.lt_of_lt_of_le (hK.lt b e2).2 hbut.size
  ·exact Nat.lt_of_lt_of_le (hN.rng b j hb) hbut.size
end Go.Proofs.YtmggnimiioepeaaGreatDoor.Pa
namespace Go.Proofs.YtmggnimiioepeaaGreatDoor
open Go Go.RowKit
theorem isScalar_calls(c:Int)(w:World):Calls Tryz.prog 76 #[.int .i64 c] w fun e w'=>e= .returned (.bool (scB c))/\w'=w:=by
 by_cases h1:1<=c
 ·have HE:Hid (scB c=decide (c<=4)):=by show _=_;simp[scB,h1]
  go_enter Tryz.func76,Tryz.ntmps76
  go_wp2
  go_ret
  exact⟨congrArg (fun z=>Ending.returned (.bool z)) HE.out.symm,rfl⟩
 ·have HE:Hid (scB c=false):=by show _=_;simp[scB,h1]
  go_enter Tryz.func76,Tryz.ntmps76
  go_wp2
  go_ret
  exact⟨congrArg (fun z=>Ending.returned (.bool z)) HE.out.symm,rfl⟩
theorem isCond_calls(c:Int)(w:World):Calls Tryz.prog 77 #[.int .i64 c] w fun e w'=>e= .returned (.bool (cdB c))/\w'=w:=by
 by_cases h1:8<=c
 ·have HE:Hid (cdB c=decide (c<=15)):=by show _=_;simp[cdB,h1]
  go_enter Tryz.func77,Tryz.ntmps77
  go_wp2
  go_ret
  exact⟨congrArg (fun z=>Ending.returned (.bool z)) HE.out.symm,rfl⟩
 ·have HE:Hid (cdB c=false):=by show _=_;simp[cdB,h1]
  go_enter Tryz.func77,Tryz.ntmps77
  go_wp2
  go_ret
  exact⟨congrArg (fun z=>Ending.returned (.bool z)) HE.out.symm,rfl⟩
theorem isSource_calls(c:Int)(w:World):Calls Tryz.prog 93 #[.int .i64 c] w fun e w'=>e= .returned (.bool (fives c))/\w'=w:=by
 have HE:Hid (fives c=(c==5)):=by show _=_;rw[Bool.eq_iff_iff];simp[fives]
 go_enter Tryz.func93,Tryz.ntmps93
 go_wp2
 go_ret
 exact⟨congrArg (fun z=>Ending.returned (.bool z)) HE.out.symm,rfl⟩
theorem isSelect_calls(c:Int)(w:World):Calls Tryz.prog 75 #[.int .i64 c] w fun e w'=>e= .returned (.bool (sixes c))/\w'=w:=by
 have HE:Hid (sixes c=(c==6)):=by show _=_;rw[Bool.eq_iff_iff];simp[sixes]
 go_enter Tryz.func75,Tryz.ntmps75
 go_wp2
 go_ret
 exact⟨congrArg (fun z=>Ending.returned (.bool z)) HE.out.symm,rfl⟩
theorem isQuery_calls(c:Int)(w:World):Calls Tryz.prog 46 #[.int .i64 c] w fun e w'=>e= .returned (.bool (quB c))/\w'=w:=by
 cases h1:(c==6)
 ·have HE:Hid (quB c=(c==7)):=by
   show _=_
   have:=beq_eq_false_iff_ne.1 h1
   rw[Bool.eq_iff_iff]
   simp[quB,this]
  go_enter Tryz.func46,Tryz.ntmps46
  go_wp2
  go_ret
  exact⟨congrArg (fun z=>Ending.returned (.bool z)) HE.out.symm,rfl⟩
 ·have HE:Hid (quB c=true):=by
   show _=_
   have:=beq_iff_eq.1 h1
   simp[quB,this]
  go_enter Tryz.func46,Tryz.ntmps46
  go_wp2
  go_ret
  exact⟨congrArg (fun z=>Ending.returned (.bool z)) HE.out.symm,rfl⟩
theorem sIsScalar_calls(c:Int)(w:World):Calls Tryz.prog 83 #[.int .i64 c] w fun e w'=>e= .returned (.bool (scB c))/\w'=w:=by
 by_cases h1:1<=c
 ·have HE:Hid (scB c=decide (c<=4)):=by show _=_;simp[scB,h1]
  go_enter Tryz.func83,Tryz.ntmps83
  go_wp2
  go_ret
  exact⟨congrArg (fun z=>Ending.returned (.bool z)) HE.out.symm,rfl⟩
 ·have HE:Hid (scB c=false):=by show _=_;simp[scB,h1]
  go_enter Tryz.func83,Tryz.ntmps83
  go_wp2
  go_ret
  exact⟨congrArg (fun z=>Ending.returned (.bool z)) HE.out.symm,rfl⟩
theorem sIsQuery_calls(c:Int)(w:World):Calls Tryz.prog 34 #[.int .i64 c] w fun e w'=>e= .returned (.bool (quB c))/\w'=w:=by
 cases h1:(c==6)
 ·have HE:Hid (quB c=(c==7)):=by
   show _=_
   have:=beq_eq_false_iff_ne.1 h1
   rw[Bool.eq_iff_iff]
   simp[quB,this]
  go_enter Tryz.func34,Tryz.ntmps34
  go_wp2
  go_ret
  exact⟨congrArg (fun z=>Ending.returned (.bool z)) HE.out.symm,rfl⟩
 ·have HE:Hid (quB c=true):=by
   show _=_
   have:=beq_iff_eq.1 h1
   simp[quB,this]
  go_enter Tryz.func34,Tryz.ntmps34
  go_wp2
  go_ret
  exact⟨congrArg (fun z=>Ending.returned (.bool z)) HE.out.symm,rfl⟩
set_option maxHeartbeats 1000000 in
theorem allScalar_calls(xs:List Int)(g off cap:Nat)(least:Int)(w:World)(hx:IntsAt w g off xs)(hl:xs.length<=1048576):
  Calls Tryz.prog 74 #[.slice (some ⟨g,off,none⟩) xs.length cap,.int .i64 least,.func (Fn.func 76) #[] #[]] w fun e w'=>e= .returned (.bool (dB ((∀x∈xs,scB x=true)/\least<=(xs.length:Int))))/\w'=w:=by
 go_enter Tryz.func74,Tryz.ntmps74
 go_wp2
 go_loopw [8,11] (fun _ i wr=> ∃k:Nat,k<=xs.length/\i= .int .i64 k/\(∀x∈xs.take k,scB x=true)/\wr=w) (fun _ i _=>xs.length-(intOf i).toNat)
 case atStart=>exact⟨0,Nat.zero_le _,rfl,fun x hx=>by simp at hx,rfl⟩
 case round=>
  obtain⟨k,hk,rfl,hw,rfl⟩:=hrel
  have HW:=hide hw
  clear hw
  by_cases hlt:k<xs.length
  ·have e0:=hx.at k hlt
   have j1:(k:Int)<(xs.length:Int):=by omega
   have hnext:scB xs[k]=true-> ∀x∈xs.take (k+1),scB x=true:=fun h x hx=>by
    rw[take_snocN xs k hlt]at hx
    rcases List.mem_append.1 hx with h' | h'
    ·exact unhide HW x h'
    ·simp at h';subst h';exact h
   have hbad:scB xs[k]=false-> ¬((∀x∈xs,scB x=true)/\least<=(xs.length:Int)):=fun h hh=>by
    have:=hh.1 xs[k] (List.getElem_mem hlt)
    rw[h]at this;cases this
   have Hn:=hide hnext;have Hb:=hide hbad
   clear hnext hbad
   have hf:=fun w=>isScalar_calls xs[k] w
   generalize xs[k]=c at*
   generalize scB c=b at*
   have Hf:=hide hf
   clear hf
   cases b
   ·go_wp2_with fail
    refine(unhide Hf _).mono ?_;rintro e w1 ⟨rfl,rfl⟩
    go_wp2
    go_ret
    exact⟨congrArg (fun z=>Ending.returned (.bool z)) (dB_false (unhide Hb (by first | rfl | trivial))).symm,rfl⟩
   ·go_wp2_with fail
    refine(unhide Hf _).mono ?_;rintro e w1 ⟨rfl,rfl⟩
    go_wp2
    go_roundw
    case rel=>exact⟨k+1,by omega,by go_num,unhide Hn (by first | rfl | trivial),by first | rfl | trivial⟩
    case measure=>simp[intOf];omega
  ·obtain rfl:k=xs.length:=by omega
   have HE:Hid (dB ((∀x∈xs,scB x=true)/\least<=(xs.length:Int))=decide (least<=(xs.length:Int))):=by
    show _=_
    have:=unhide HW
    rw[List.take_length]at this
    rw[Bool.eq_iff_iff,dB_iff,decide_eq_true_eq]
    exact⟨fun h=>h.2,fun h=>⟨this,h⟩⟩
   clear HW
   go_wp2
   go_ret
   exact⟨congrArg (fun z=>Ending.returned (.bool z)) HE.out.symm,rfl⟩
set_option maxHeartbeats 1000000 in
theorem allCond_calls(xs:List Int)(g off cap:Nat)(least:Int)(w:World)(hx:IntsAt w g off xs)(hl:xs.length<=1048576):
  Calls Tryz.prog 74 #[.slice (some ⟨g,off,none⟩) xs.length cap,.int .i64 least,.func (Fn.func 77) #[] #[]] w fun e w'=>e= .returned (.bool (dB ((∀x∈xs,cdB x=true)/\least<=(xs.length:Int))))/\w'=w:=by
 go_enter Tryz.func74,Tryz.ntmps74
 go_wp2
 go_loopw [8,11] (fun _ i wr=> ∃k:Nat,k<=xs.length/\i= .int .i64 k/\(∀x∈xs.take k,cdB x=true)/\wr=w) (fun _ i _=>xs.length-(intOf i).toNat)
 case atStart=>exact⟨0,Nat.zero_le _,rfl,fun x hx=>by simp at hx,rfl⟩
 case round=>
  obtain⟨k,hk,rfl,hw,rfl⟩:=hrel
  have HW:=hide hw
  clear hw
  by_cases hlt:k<xs.length
  ·have e0:=hx.at k hlt
   have j1:(k:Int)<(xs.length:Int):=by omega
   have hnext:cdB xs[k]=true-> ∀x∈xs.take (k+1),cdB x=true:=fun h x hx=>by
    rw[take_snocN xs k hlt]at hx
    rcases List.mem_append.1 hx with h' | h'
    ·exact unhide HW x h'
    ·simp at h';subst h';exact h
   have hbad:cdB xs[k]=false-> ¬((∀x∈xs,cdB x=true)/\least<=(xs.length:Int)):=fun h hh=>by
    have:=hh.1 xs[k] (List.getElem_mem hlt)
    rw[h]at this;cases this
   have Hn:=hide hnext;have Hb:=hide hbad
   clear hnext hbad
   have hf:=fun w=>isCond_calls xs[k] w
   generalize xs[k]=c at*
   generalize cdB c=b at*
   have Hf:=hide hf
   clear hf
   cases b
   ·go_wp2_with fail
    refine(unhide Hf _).mono ?_;rintro e w1 ⟨rfl,rfl⟩
    go_wp2
    go_ret
    exact⟨congrArg (fun z=>Ending.returned (.bool z)) (dB_false (unhide Hb (by first | rfl | trivial))).symm,rfl⟩
   ·go_wp2_with fail
    refine(unhide Hf _).mono ?_;rintro e w1 ⟨rfl,rfl⟩
    go_wp2
    go_roundw
    case rel=>exact⟨k+1,by omega,by go_num,unhide Hn (by first | rfl | trivial),by first | rfl | trivial⟩
    case measure=>simp[intOf];omega
  ·obtain rfl:k=xs.length:=by omega
   have HE:Hid (dB ((∀x∈xs,cdB x=true)/\least<=(xs.length:Int))=decide (least<=(xs.length:Int))):=by
    show _=_
    have:=unhide HW
    rw[List.take_length]at this
    rw[Bool.eq_iff_iff,dB_iff,decide_eq_true_eq]
    exact⟨fun h=>h.2,fun h=>⟨this,h⟩⟩
   clear HW
   go_wp2
   go_ret
   exact⟨congrArg (fun z=>Ending.returned (.bool z)) HE.out.symm,rfl⟩
set_option maxHeartbeats 1000000 in
theorem allSource_calls(xs:List Int)(g off cap:Nat)(least:Int)(w:World)(hx:IntsAt w g off xs)(hl:xs.length<=1048576):
  Calls Tryz.prog 74 #[.slice (some ⟨g,off,none⟩) xs.length cap,.int .i64 least,.func (Fn.func 93) #[] #[]] w fun e w'=>e= .returned (.bool (dB ((∀x∈xs,fives x=true)/\least<=(xs.length:Int))))/\w'=w:=by
 go_enter Tryz.func74,Tryz.ntmps74
 go_wp2
 go_loopw [8,11] (fun _ i wr=> ∃k:Nat,k<=xs.length/\i= .int .i64 k/\(∀x∈xs.take k,fives x=true)/\wr=w) (fun _ i _=>xs.length-(intOf i).toNat)
 case atStart=>exact⟨0,Nat.zero_le _,rfl,fun x hx=>by simp at hx,rfl⟩
 case round=>
  obtain⟨k,hk,rfl,hw,rfl⟩:=hrel
  have HW:=hide hw
  clear hw
  by_cases hlt:k<xs.length
  ·have e0:=hx.at k hlt
   have j1:(k:Int)<(xs.length:Int):=by omega
   have hnext:fives xs[k]=true-> ∀x∈xs.take (k+1),fives x=true:=fun h x hx=>by
    rw[take_snocN xs k hlt]at hx
    rcases List.mem_append.1 hx with h' | h'
    ·exact unhide HW x h'
    ·simp at h';subst h';exact h
   have hbad:fives xs[k]=false-> ¬((∀x∈xs,fives x=true)/\least<=(xs.length:Int)):=fun h hh=>by
    have:=hh.1 xs[k] (List.getElem_mem hlt)
    rw[h]at this;cases this
   have Hn:=hide hnext;have Hb:=hide hbad
   clear hnext hbad
   have hf:=fun w=>isSource_calls xs[k] w
   generalize xs[k]=c at*
   generalize fives c=b at*
   have Hf:=hide hf
   clear hf
   cases b
   ·go_wp2_with fail
    refine(unhide Hf _).mono ?_;rintro e w1 ⟨rfl,rfl⟩
    go_wp2
    go_ret
    exact⟨congrArg (fun z=>Ending.returned (.bool z)) (dB_false (unhide Hb (by first | rfl | trivial))).symm,rfl⟩
   ·go_wp2_with fail
    refine(unhide Hf _).mono ?_;rintro e w1 ⟨rfl,rfl⟩
    go_wp2
    go_roundw
    case rel=>exact⟨k+1,by omega,by go_num,unhide Hn (by first | rfl | trivial),by first | rfl | trivial⟩
    case measure=>simp[intOf];omega
  ·obtain rfl:k=xs.length:=by omega
   have HE:Hid (dB ((∀x∈xs,fives x=true)/\least<=(xs.length:Int))=decide (least<=(xs.length:Int))):=by
    show _=_
    have:=unhide HW
    rw[List.take_length]at this
    rw[Bool.eq_iff_iff,dB_iff,decide_eq_true_eq]
    exact⟨fun h=>h.2,fun h=>⟨this,h⟩⟩
   clear HW
   go_wp2
   go_ret
   exact⟨congrArg (fun z=>Ending.returned (.bool z)) HE.out.symm,rfl⟩
set_option maxHeartbeats 1000000 in
theorem allSelect_calls(xs:List Int)(g off cap:Nat)(least:Int)(w:World)(hx:IntsAt w g off xs)(hl:xs.length<=1048576):
  Calls Tryz.prog 74 #[.slice (some ⟨g,off,none⟩) xs.length cap,.int .i64 least,.func (Fn.func 75) #[] #[]] w fun e w'=>e= .returned (.bool (dB ((∀x∈xs,sixes x=true)/\least<=(xs.length:Int))))/\w'=w:=by
 go_enter Tryz.func74,Tryz.ntmps74
 go_wp2
 go_loopw [8,11] (fun _ i wr=> ∃k:Nat,k<=xs.length/\i= .int .i64 k/\(∀x∈xs.take k,sixes x=true)/\wr=w) (fun _ i _=>xs.length-(intOf i).toNat)
 case atStart=>exact⟨0,Nat.zero_le _,rfl,fun x hx=>by simp at hx,rfl⟩
 case round=>
  obtain⟨k,hk,rfl,hw,rfl⟩:=hrel
  have HW:=hide hw
  clear hw
  by_cases hlt:k<xs.length
  ·have e0:=hx.at k hlt
   have j1:(k:Int)<(xs.length:Int):=by omega
   have hnext:sixes xs[k]=true-> ∀x∈xs.take (k+1),sixes x=true:=fun h x hx=>by
    rw[take_snocN xs k hlt]at hx
    rcases List.mem_append.1 hx with h' | h'
    ·exact unhide HW x h'
    ·simp at h';subst h';exact h
   have hbad:sixes xs[k]=false-> ¬((∀x∈xs,sixes x=true)/\least<=(xs.length:Int)):=fun h hh=>by
    have:=hh.1 xs[k] (List.getElem_mem hlt)
    rw[h]at this;cases this
   have Hn:=hide hnext;have Hb:=hide hbad
   clear hnext hbad
   have hf:=fun w=>isSelect_calls xs[k] w
   generalize xs[k]=c at*
   generalize sixes c=b at*
   have Hf:=hide hf
   clear hf
   cases b
   ·go_wp2_with fail
    refine(unhide Hf _).mono ?_;rintro e w1 ⟨rfl,rfl⟩
    go_wp2
    go_ret
    exact⟨congrArg (fun z=>Ending.returned (.bool z)) (dB_false (unhide Hb (by first | rfl | trivial))).symm,rfl⟩
   ·go_wp2_with fail
    refine(unhide Hf _).mono ?_;rintro e w1 ⟨rfl,rfl⟩
    go_wp2
    go_roundw
    case rel=>exact⟨k+1,by omega,by go_num,unhide Hn (by first | rfl | trivial),by first | rfl | trivial⟩
    case measure=>simp[intOf];omega
  ·obtain rfl:k=xs.length:=by omega
   have HE:Hid (dB ((∀x∈xs,sixes x=true)/\least<=(xs.length:Int))=decide (least<=(xs.length:Int))):=by
    show _=_
    have:=unhide HW
    rw[List.take_length]at this
    rw[Bool.eq_iff_iff,dB_iff,decide_eq_true_eq]
    exact⟨fun h=>h.2,fun h=>⟨this,h⟩⟩
   clear HW
   go_wp2
   go_ret
   exact⟨congrArg (fun z=>Ending.returned (.bool z)) HE.out.symm,rfl⟩
end Go.Proofs.YtmggnimiioepeaaGreatDoor
namespace Go.Proofs.YtmggnimiioepeaaGreatDoor
open Go Go.RowKit
theorem short_calls(n:Int)(w:World):Calls Tryz.prog 58 #[.int .i64 n] w fun e w'=>e= .returned (.bool (shortB n))/\w'=w:=by
 by_cases h1: -1000000000000000000<n
 ·have HE:Hid (shortB n=decide (n<1000000000000000000)):=by show _=_;simp[shortB,h1]
  go_enter Tryz.func58,Tryz.ntmps58
  go_wp2
  go_ret
  exact⟨congrArg (fun z=>Ending.returned (.bool z)) HE.out.symm,rfl⟩
 ·have HE:Hid (shortB n=false):=by show _=_;simp[shortB,h1]
  go_enter Tryz.func58,Tryz.ntmps58
  go_wp2
  go_ret
  exact⟨congrArg (fun z=>Ending.returned (.bool z)) HE.out.symm,rfl⟩
def onlyB(s:ByteArray)(c least:Int):Prop:=(∀i,i<s.size->byt s i=c)/\least<=(s.size:Int)
theorem only_iff(s:ByteArray)(c:UInt8)(least:Nat):onlyB s (c.toNat:Int) least↔only s.toList c least:=by
 unfold onlyB only
 rw[size_toList]
 constructor
 ·intro⟨h1,h2⟩
  refine⟨fun x hx=> ?_,by omega⟩
  obtain⟨i,hi,rfl⟩:=List.mem_iff_getElem.1 hx
  have:=h1 i (by rw[<-size_toList];exact hi)
  unfold byt at this
  rw[List.getD_eq_getElem?_getD,List.getElem?_eq_getElem hi]at this
  simp at this
  exact UInt8.toNat_inj.1 (by omega)
 ·intro⟨h1,h2⟩
  refine⟨fun i hi=> ?_,by omega⟩
  have hl:i<s.toList.length:=by rw[size_toList];exact hi
  unfold byt
  rw[List.getD_eq_getElem?_getD,List.getElem?_eq_getElem hl]
  simp
  rw[h1 _ (List.getElem_mem hl)]
set_option maxHeartbeats 1000000 in
theorem only_calls(s:ByteArray)(c least:Int)(w:World)(hs:s.size<=1048576):Calls Tryz.prog 61 #[.string s,.int .u8 c,.int .i64 least] w fun e w'=>e= .returned (.bool (dB (onlyB s c least)))/\w'=w:=by
 go_enter Tryz.func61,Tryz.ntmps61
 go_wp2
 go_loopw [7] (fun i wr=> ∃k:Nat,k<=s.size/\i= .int .i64 k/\(∀j,j<k->byt s j=c)/\wr=w) (fun i _=>s.size-(intOf i).toNat)
 case atStart=>exact⟨0,Nat.zero_le _,rfl,fun i hi=>by omega,rfl⟩
 case round=>
  obtain⟨k,hk,rfl,hw,rfl⟩:=hrel
  have HW:=hide hw
  clear hw
  by_cases hlt:k<s.size
  ·have eb:=byt_eq s k hlt
   have j1:(k:Int)<(s.size:Int):=by omega
   have hnext:byt s k=c-> ∀j,j<k+1->byt s j=c:=fun h j hj=>by
    by_cases e:j=k
    ·subst e;exact h
    ·exact unhide HW j (by omega)
   have hbad:byt s k≠c-> ¬onlyB s c least:=fun h hh=>h (hh.1 k hlt)
   have Hn:=hide hnext;have Hb:=hide hbad
   clear hnext hbad
   generalize byt s k=d at*
   by_cases h:d=c
   ·have h':(d !=c)=false:=by simp[h]
    have H:=hide h
    clear h
    go_wp2
    go_roundw
    case rel=>exact⟨k+1,by omega,by go_num,unhide Hn (unhide H),by first | rfl | trivial⟩
    case measure=>simp[intOf];omega
   ·have h':(d !=c)=true:=by simp[h]
    have H:=hide h
    clear h
    go_wp2
    go_ret
    exact⟨congrArg (fun z=>Ending.returned (.bool z)) (dB_false (unhide Hb (unhide H))).symm,rfl⟩
  ·obtain rfl:k=s.size:=by omega
   have HE:Hid (dB (onlyB s c least)=decide (least<=(s.size:Int))):=by
    show _=_
    rw[Bool.eq_iff_iff,dB_iff,decide_eq_true_eq]
    exact⟨fun h=>h.2,fun h=>⟨unhide HW,h⟩⟩
   clear HW
   go_wp2
   go_ret
   exact⟨congrArg (fun z=>Ending.returned (.bool z)) HE.out.symm,rfl⟩
def mkS(l:List UInt8):ByteArray:=⟨l.toArray⟩
theorem mkS_toList(l:List UInt8):(mkS l).toList=l:=Go.ByteArray.toList_mk l
theorem mkS_size(l:List UInt8):(mkS l).size=l.length:=by rw[<-size_toList,mkS_toList]
theorem extract_toList(s:ByteArray)(a b:Nat):(s.extract a b).toList=(s.toList.drop a).take (b-a):=by
 rw[Go.ByteArray.toList_eq,Go.ByteArray.toList_eq,ByteArray.data_extract,Array.toList_extract]
end Go.Proofs.YtmggnimiioepeaaGreatDoor
