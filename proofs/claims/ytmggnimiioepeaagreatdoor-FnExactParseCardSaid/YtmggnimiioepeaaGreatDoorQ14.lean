import Derived.Test.YtmggnimiioepeaaGreatDoorQ0
import Derived.Test.YtmggnimiioepeaaGreatDoorQ13
import Derived.Test.YtmggnimiioepeaaGreatDoorQ12
import Derived.Test.YtmggnimiioepeaaGreatDoorQ2
import Derived.Test.YtmggnimiioepeaaGreatDoorQ6
namespace Go.Proofs.YtmggnimiioepeaaGreatDoor.Pa
open Go Go.RowKit
theorem cmpL_sy: ∀k,k<28->cmpL (syT k)=compOf (.sy k):=by decide
theorem cmpL_tok{t:Tok}{s:ByteArray}(h:TOk t s):cmpL s.toList=compOf t:=by
 have hz: ¬SignB s->cmpL s.toList=0:=fun hn=>by
  rcases Nat.eq_zero_or_pos (cmpL s.toList)with e | e
  ·exact e
  ·exact absurd (List.mem_of_mem_drop ((cmpL_pos _).1 e)) hn
 cases t with
 | nam b=>
  rw[hz (fun hg=>by have:=hg.first.2.2.1;rw[h.2.1.2.1]at this;cases this)]
  rfl
 | num v=>
  rw[hz (fun hg=>sign_num hg h.1)]
  rfl
 | sy k=>rw[h.2];exact cmpL_sy k h.1
theorem opS_cat: ∀(xs ys:List Tok) (d:Int),opS d xs=none->opS d (xs++ys)=(opS (dep d xs) ys).map (fun p=>(xs++p.1,p.2.1,p.2.2))
 | [],ys,d,_=>by
  show opS d ys=(opS d ys).map _
  cases opS d ys<;>simp
 | x::xs,ys,d,h=>by
  unfold opS at h
  split at h
  ·cases h
  ·rename_i hn
   have h':opS (up d x) xs=none:=by
    cases hf:opS (up d x) xs with
    | none=>rfl
    | some p=>rw[hf]at h;cases h
   have ih:=opS_cat xs ys (up d x) h'
   rw[List.cons_append]
   show(if d=0/\isOp x=true then _ else _)=_
   rw[if_neg hn,ih]
   show _=(opS (dep (up d x) xs) ys).map _
   cases opS (dep (up d x) xs) ys<;>simp
theorem opS_sgl(d:Int)(t:Tok)(h: ¬(d=0/\isOp t=true)):opS d [t]=none:=by
 show(if d=0/\isOp t=true then _ else _)=_
 rw[if_neg h]
 rfl
theorem opS_here(t:Tok)(r:List Tok)(h:isOp t=true):opS 0 (t::r)=some ([],t,r):=if_pos ⟨rfl,h⟩
theorem sgm_split(ts:List Tok)(a k b:Nat)(h1:a<=k)(h2:k<=b):sgm ts a b=sgm ts a k++sgm ts k b:=by
 unfold sgm
 rw[show b-a=(k-a)+(b-k)by omega,List.take_add,List.drop_drop,show a+(k-a)=k by omega]
def opAt(ts:List Tok)(a b:Nat):Int:=match opS 0 (sgm ts a b)with | some p=>((a+p.1.length:Nat):Int) | none=> -1
theorem opAt_hit(L:List (Tok×ByteArray))(a k b:Nat)(h1:a<=k)(h2:k<b)(hb:b<=L.length)(p:Tok×ByteArray)(hp:L[k]?=some p)(hn:opS 0 (sgm (tks L) a k)=none)(hd:dep 0 (sgm (tks L) a k)=0)(ho:isOp p.1=true):opAt (tks L) a b=(k:Int):=by
 unfold opAt
 obtain⟨r,hr,_⟩:=sgm_cons L k b h2 p hp
 rw[sgm_split (tks L) a k b h1 (by omega),opS_cat _ _ 0 hn,hd,hr,opS_here _ _ ho]
 have:=sgm_len (tks L) a k h1 (by simp;omega)
 simp
 omega
theorem opAt_none(ts:List Tok)(a b:Nat)(hn:opS 0 (sgm ts a b)=none):opAt ts a b= -1:=by unfold opAt;rw[hn]
set_option maxHeartbeats 8000000 in
theorem l2Operator_calls(L:List (Tok×ByteArray))(ad:Option Addr)(c:Nat)(w:World)(hL:L.length<=1000000)(hT:TksS w ad L)(a b:Nat)(hab:a<=b)(hb:b<=L.length):Calls Tryz.prog 105 #[.slice ad L.length c,.int .i64 (a:Int),.int .i64 (b:Int)] w fun e w'=>e= .returned (.int .i64 (opAt (tks L) a b))/\w'=w:=by
 have HT:=hide hT
 clear hT
 go_enter Tryz.func105,Tryz.ntmps105
 go_wp2
 go_loopw [7,8] (fun d i wr=> ∃k:Nat,a<=k/\k<=b/\i= .int .i64 k/\d= .int .i64 (dep 0 (sgm (tks L) a k))/\opS 0 (sgm (tks L) a k)=none/\wr=w) (fun _ i _=>b-(intOf i).toNat)
 case atStart=>exact⟨a,Nat.le_refl _,hab,rfl,by simp[sgm,dep],by simp[sgm,opS],rfl⟩
 case round=>
  obtain⟨k,hak,hkb,rfl,rfl,hno,rfl⟩:=hrel
  have HNo:=hide hno
  clear hno
  have hbd:=dep_bound (sgm (tks L) a k) 0
  have hlen:=sgm_len (tks L) a k hak (by simp;omega)
  rw[hlen]at hbd
  clear hlen
  by_cases hlt:k<b
  ·obtain⟨⟨t,Sk⟩,hp⟩: ∃p,L[k]?=some p:=⟨L[k],List.getElem?_eq_getElem (by omega)⟩
   obtain⟨hok,gt,rfl,hg,hcs⟩:=(unhide HT) k _ hp
   obtain⟨bb,V,hform⟩:=tkS_form t Sk
   simp only[hform]at hcs
   have c0:wr.cell? ⟨gt,k*3,none⟩=some (.string Sk):=hcs 0 (by omega)
   have t0:(Sk.toList==[40])=decide (t=pO):=text_beq hok 0 (by omega)
   have t1:(Sk.toList==[41])=decide (t=pC):=text_beq hok 1 (by omega)
   have t23:(Sk.toList==[73,83])=decide (t=kIs):=text_beq hok 23 (by omega)
   have t22:(Sk.toList==[73,78])=decide (t=kIn):=text_beq hok 22 (by omega)
   have t20:(Sk.toList==[78,79,84])=decide (t=kNot):=text_beq hok 20 (by omega)
   have CC:=fun w=>l2CompOf_calls Sk w
   rw[cmpL_tok hok]at CC
   have HHit:Hid (dep 0 (sgm (tks L) a k)=0->isOp t=true->opAt (tks L) a b=(k:Int)):=fun hd ho=>opAt_hit L a k b hak hlt hb _ hp (unhide HNo) hd ho
   have HDp:Hid (dep 0 (sgm (tks L) a (k+1))=up (dep 0 (sgm (tks L) a k)) t):=by
    show _=_
    rw[sgm_snoc L a k hak _ hp,dep_snoc]
   have HNx:Hid (¬(dep 0 (sgm (tks L) a k)=0/\isOp t=true)->opS 0 (sgm (tks L) a (k+1))=none):=fun h=>by
    rw[sgm_snoc L a k hak _ hp,opS_cat _ _ 0 (unhide HNo),opS_sgl _ _ h]
    rfl
   have HOp:Hid (isOp t=true↔t=kIs\/t=kIn\/t=kNot\/0<compOf t):=by
    show _↔_
    unfold isOp
    simp
   have HC:=hide CC
   clear hcs hform hok hp CC HNo
   generalize dep 0 (sgm (tks L) a k)=O at*
   have j1:(k:Int)<(b:Int):=by omega
   have j2:(k:Int)<(L.length:Int):=by omega
   by_cases h0:O=0
   ·have HHit2:=hide (fun h=>unhide HHit h0 ((unhide HOp).2 h))
    have HNx2:=hide (fun(h: ¬(t=kIs\/t=kIn\/t=kNot\/0<compOf t))=>unhide HNx (fun x=>h ((unhide HOp).1 x.2)))
    subst h0
    clear HHit HNx HOp
    by_cases h23:t=kIs
    ·have HE:=hide (unhide HHit2 (Or.inl h23))
     rw[decide_eq_true h23]at t23
     clear t0 t1 t22 t20 h23 HHit2 HNx2
     go_wp2
     go_ret
     exact⟨congrArg (fun z=>Ending.returned (.int .i64 z)) (unhide HE).symm,rfl⟩
    by_cases h22:t=kIn
    ·have HE:=hide (unhide HHit2 (Or.inr (Or.inl h22)))
     rw[decide_eq_true h22]at t22
     rw[decide_eq_false h23]at t23
     clear t0 t1 t20 h23 h22 HHit2 HNx2
     go_wp2
     go_ret
     exact⟨congrArg (fun z=>Ending.returned (.int .i64 z)) (unhide HE).symm,rfl⟩
    by_cases h20:t=kNot
    ·have HE:=hide (unhide HHit2 (Or.inr (Or.inr (Or.inl h20))))
     rw[decide_eq_true h20]at t20
     rw[decide_eq_false h23]at t23;rw[decide_eq_false h22]at t22
     clear t0 t1 h23 h22 h20 HHit2 HNx2
     go_wp2
     go_ret
     exact⟨congrArg (fun z=>Ending.returned (.int .i64 z)) (unhide HE).symm,rfl⟩
    rw[decide_eq_false h23]at t23
    rw[decide_eq_false h22]at t22
    rw[decide_eq_false h20]at t20
    by_cases hcm:0<compOf t
    ·have HE:=hide (unhide HHit2 (Or.inr (Or.inr (Or.inr hcm))))
     clear t0 t1 h23 h22 h20 HHit2 HNx2
     generalize compOf t=n at*
     have jn:(0:Int)<(n:Int):=by omega
     go_wp2_with fail
     refine(unhide HC _).mono ?_;rintro e w1 ⟨rfl,rfl⟩
     go_wp2
     go_ret
     exact⟨congrArg (fun z=>Ending.returned (.int .i64 z)) (unhide HE).symm,rfl⟩
    have HN:=hide (unhide HNx2 (fun h=>by
     rcases h with h | h | h | h
     ·exact h23 h
     ·exact h22 h
     ·exact h20 h
     ·exact hcm h))
    obtain⟨n,hn⟩: ∃n,compOf t=n:=⟨_,rfl⟩
    rw[hn]at HC hcm
    obtain rfl:n=0:=by omega
    clear hn hcm h23 h22 h20 HHit2 HNx2
    by_cases hO:t=pO
    ·skip
     have HD1:Hid (up 0 t=0+1):=by
      show _=_
      subst hO
      unfold up dn
      simp
     rw[decide_eq_true hO]at t0;rw[decide_eq_false (by rw[hO];decide)]at t1
     clear hO
     go_wp2_with fail
     refine(unhide HC _).mono ?_;rintro e w1 ⟨rfl,rfl⟩
     go_wp2
     go_roundw
     case rel=>exact⟨k+1,by omega,by omega,by go_num,(by rw[unhide HDp,unhide HD1];try rfl),unhide HN,by first | rfl | trivial⟩
     case measure=>simp[intOf];omega
    by_cases hC:t=pC
    ·skip
     have HD1:Hid (up 0 t=0-1):=by
      show _=_
      subst hC
      unfold up dn
      simp
     rw[decide_eq_false hO]at t0;rw[decide_eq_true hC]at t1
     clear hO hC
     go_wp2_with fail
     refine(unhide HC _).mono ?_;rintro e w1 ⟨rfl,rfl⟩
     go_wp2
     go_roundw
     case rel=>exact⟨k+1,by omega,by omega,by go_num,(by rw[unhide HDp,unhide HD1];try rfl),unhide HN,by first | rfl | trivial⟩
     case measure=>simp[intOf];omega
    have HD1:Hid (up 0 t=0):=by
     show _=_
     skip
     unfold up dn
     rw[if_neg hO,if_neg hC]
    rw[decide_eq_false hO]at t0;rw[decide_eq_false hC]at t1
    clear hO hC
    go_wp2_with fail
    refine(unhide HC _).mono ?_;rintro e w1 ⟨rfl,rfl⟩
    go_wp2
    go_roundw
    case rel=>exact⟨k+1,by omega,by omega,by go_num,(by rw[unhide HDp,unhide HD1];try rfl),unhide HN,by first | rfl | trivial⟩
    case measure=>simp[intOf];omega
   ·have hzb:(O==0)=false:=beq_eq_false_iff_ne.2 h0
    have HN:=hide (unhide HNx (fun x=>h0 x.1))
    clear HHit HNx HOp HC t23 t22 t20
    by_cases hO:t=pO
    ·skip
     have HD1:Hid (up O t=O+1):=by
      show _=_
      subst hO
      unfold up dn
      simp
     rw[decide_eq_true hO]at t0;rw[decide_eq_false (by rw[hO];decide)]at t1
     clear hO
     go_wp2
     go_roundw
     case rel=>exact⟨k+1,by omega,by omega,by go_num,(by rw[unhide HDp,unhide HD1];try rfl),unhide HN,by first | rfl | trivial⟩
     case measure=>simp[intOf];omega
    by_cases hC:t=pC
    ·skip
     have HD1:Hid (up O t=O-1):=by
      show _=_
      subst hC
      unfold up dn
      simp
     rw[decide_eq_false hO]at t0;rw[decide_eq_true hC]at t1
     clear hO hC
     go_wp2
     go_roundw
     case rel=>exact⟨k+1,by omega,by omega,by go_num,(by rw[unhide HDp,unhide HD1];try rfl),unhide HN,by first | rfl | trivial⟩
     case measure=>simp[intOf];omega
    have HD1:Hid (up O t=O):=by
     show _=_
     skip
     unfold up dn
     rw[if_neg hO,if_neg hC]
    rw[decide_eq_false hO]at t0;rw[decide_eq_false hC]at t1
    clear hO hC
    go_wp2
    go_roundw
    case rel=>exact⟨k+1,by omega,by omega,by go_num,(by rw[unhide HDp,unhide HD1];try rfl),unhide HN,by first | rfl | trivial⟩
    case measure=>simp[intOf];omega
  ·obtain rfl:k=b:=by omega
   have HE:=hide (opAt_none (tks L) a k (unhide HNo))
   have jb: ¬(k:Int)<(k:Int):=by omega
   clear HT HNo
   go_wp2
   go_ret
   exact⟨congrArg (fun z=>Ending.returned (.int .i64 z)) (unhide HE).symm,rfl⟩
end Go.Proofs.YtmggnimiioepeaaGreatDoor.Pa
namespace Go.Proofs.YtmggnimiioepeaaGreatDoor.Pa
open Go Go.RowKit
def between(ts:List Tok):Nat->List Nat->Nat->List (List Tok)
 | a,[],b=>[sgm ts a b]
 | a,p::ps,b=>sgm ts a p::between ts (p+1) ps b
theorem sgm_nil(ts:List Tok)(a:Nat):sgm ts a a=[]:=by simp[sgm]
theorem sgm_head(ts:List Tok)(i b:Nat)(h:i<b)(hb:b<=ts.length): ∃t,ts[i]?=some t/\sgm ts i b=t::sgm ts (i+1) b:=by
 have hi:i<ts.length:=by omega
 refine⟨ts[i],List.getElem?_eq_getElem hi,?_⟩
 unfold sgm
 rw[List.drop_eq_getElem_cons hi,show b-i=(b-(i+1))+1 by omega,List.take_succ_cons]
theorem sgm_last(ts:List Tok)(s i:Nat)(h:s<=i)(t:Tok)(ht:ts[i]?=some t):sgm ts s (i+1)=sgm ts s i++[t]:=by
 obtain⟨hi,e⟩:=List.getElem?_eq_some_iff.1 ht
 unfold sgm
 rw[show i+1-s=i-s+1 by omega,List.take_succ_eq_append_getElem (by simp;omega)]
 congr 1
 simp[show s+(i-s)=i by omega,e]
theorem cutL_cons(sep:Tok): ∀(xs:List Tok) (d:Int),∃x l,cutL sep d xs=x::l
 | [],d=>⟨[],[],rfl⟩
 | t::r,d=>by
  obtain⟨x,l,e⟩:=cutL_cons sep r (up d t)
  unfold cutL
  split
  ·exact⟨_,_,rfl⟩
  ·rw[e];exact⟨_,_,rfl⟩
theorem between_cut(ts:List Tok)(sep:Tok)(b:Nat)(hb:b<=ts.length): ∀(n i s:Nat) (d:Int) (x:List Tok) (l:List (List Tok)),b-i=n->i<=b->s<=i->cutL sep d (sgm ts i b)=x::l->between ts s (topsP sep d i (sgm ts i b)) b=(sgm ts s i++x)::l
 | 0,i,s,d,x,l,hn,hi,hs,hc=>by
  obtain rfl:i=b:=by omega
  rw[sgm_nil]at hc⊢
  simp only[cutL,List.cons.injEq]at hc
  obtain⟨rfl,rfl⟩:=hc
  simp[topsP,between]
 | n+1,i,s,d,x,l,hn,hi,hs,hc=>by
  obtain⟨t,ht,e⟩:=sgm_head ts i b (by omega) hb
  rw[e]at hc⊢
  obtain⟨x',l',e'⟩:=cutL_cons sep (sgm ts (i+1) b) (up d t)
  unfold cutL at hc
  unfold topsP
  by_cases h:dn d t=0/\t=sep
  ·rw[if_pos h]at hc⊢
   simp only[List.cons.injEq]at hc
   obtain⟨rfl,rfl⟩:=hc
   have ih:=between_cut ts sep b hb n (i+1) (i+1) (up d t) x' l' (by omega) (by omega) (Nat.le_refl _) e'
   unfold between
   rw[ih,sgm_nil,e']
   simp
  ·rw[if_neg h]at hc⊢
   rw[e']at hc
   simp only[List.cons.injEq]at hc
   obtain⟨rfl,rfl⟩:=hc
   have ih:=between_cut ts sep b hb n (i+1) s (up d t) x' l' (by omega) (by omega) (by omega) e'
   rw[ih,sgm_last ts s i hs t ht]
   simp
theorem cut_between(ts:List Tok)(sep:Tok)(a b:Nat)(hab:a<=b)(hb:b<=ts.length):cutL sep 0 (sgm ts a b)=between ts a (topsP sep 0 a (sgm ts a b)) b:=by
 obtain⟨x,l,e⟩:=cutL_cons sep (sgm ts a b) 0
 rw[between_cut ts sep b hb (b-a) a a 0 x l rfl hab (Nat.le_refl _) e,e,sgm_nil]
 rfl
theorem topsP_in(sep:Tok): ∀(xs:List Tok) (d:Int) (i:Nat) (p:Nat),p∈topsP sep d i xs->i<=p/\p<i+xs.length
 | [],d,i,p,h=>by simp[topsP]at h
 | t::r,d,i,p,h=>by
  unfold topsP at h
  rw[List.length_cons]
  split at h
  ·rcases List.mem_cons.1 h with rfl | h
   ·omega
   ·have:=topsP_in sep r (up d t) (i+1) p h;omega
  ·have:=topsP_in sep r (up d t) (i+1) p h;omega
theorem topsP_up(sep:Tok): ∀(xs:List Tok) (d:Int) (i:Nat),(topsP sep d i xs).Pairwise (·< ·)
 | [],d,i=>List.Pairwise.nil
 | t::r,d,i=>by
  unfold topsP
  split
  ·exact List.Pairwise.cons (fun p hp=>by have:=topsP_in sep r (up d t) (i+1) p hp;omega) (topsP_up sep r (up d t) (i+1))
  ·exact topsP_up sep r (up d t) (i+1)
theorem topsP_tok(sep:Tok)(ts:List Tok)(b:Nat)(hb:b<=ts.length): ∀(n i:Nat) (d:Int) (p:Nat),b-i=n->i<=b->p∈topsP sep d i (sgm ts i b)->ts[p]?=some sep
 | 0,i,d,p,hn,hi,h=>by
  obtain rfl:i=b:=by omega
  rw[sgm_nil]at h
  simp[topsP]at h
 | n+1,i,d,p,hn,hi,h=>by
  obtain⟨t,ht,e⟩:=sgm_head ts i b (by omega) hb
  rw[e]at h
  unfold topsP at h
  split at h
  ·rename_i hh
   rcases List.mem_cons.1 h with rfl | h
   ·rw[ht,hh.2]
   ·exact topsP_tok sep ts b hb n (i+1) _ p (by omega) (by omega) h
  ·exact topsP_tok sep ts b hb n (i+1) _ p (by omega) (by omega) h
end Go.Proofs.YtmggnimiioepeaaGreatDoor.Pa
namespace Go.Proofs.YtmggnimiioepeaaGreatDoor.Pa
open Go Go.RowKit
def aggL(l:List UInt8):Nat:=if l=[67,79,85,78,84]then 2 else if l=[77,73,78]then 3 else if l=[77,65,88]then 4 else 0
theorem aggL_sy: ∀k,k<28->aggL (syT k)=aggOf (.sy k):=by decide
theorem aggL_pos(l:List UInt8)(h:0<aggL l):l∈kws:=by
 unfold aggL at h
 by_cases h0:l=[67,79,85,78,84]
 ·rw[h0];decide
 ·by_cases h1:l=[77,73,78]
  ·rw[h1];decide
  ·by_cases h2:l=[77,65,88]
   ·rw[h2];decide
   ·rw[if_neg h0,if_neg h1,if_neg h2]at h
    omega
theorem aggL_tok{t:Tok}{s:ByteArray}(h:TOk t s):aggL s.toList=aggOf t:=by
 have hz:s.toList∉kws->aggL s.toList=0:=fun hn=>by
  rcases Nat.eq_zero_or_pos (aggL s.toList)with e | e
  ·exact e
  ·exact absurd (aggL_pos _ e) hn
 cases t with
 | nam b=>rw[hz h.2.2.2];rfl
 | num v=>rw[hz (fun hk=>letter_num (kw_first hk).2 h.1)];rfl
 | sy k=>rw[h.2];exact aggL_sy k h.1
set_option maxHeartbeats 2000000 in
theorem l2AggOf_calls(s:ByteArray)(w:World):Calls Tryz.prog 81 #[.string s] w fun e w'=>e= .returned (.int .i64 (aggL s.toList))/\w'=w:=by
 generalize hl:s.toList=l
 by_cases h0:(l==[67,79,85,78,84])=true
 ·have HE:Hid (aggL l=2):=by show _=_;rw[beq_iff_eq.1 h0];rfl
  try simp only[Bool.not_eq_true]at*
  rw[<-hl]at*
  go_enter Tryz.func81,Tryz.ntmps81
  go_wp2
  go_ret
  exact⟨congrArg (fun z:Nat=>Ending.returned (.int .i64 z)) HE.out.symm,rfl⟩
 by_cases h1:(l==[77,73,78])=true
 ·have HE:Hid (aggL l=3):=by show _=_;rw[beq_iff_eq.1 h1];rfl
  try simp only[Bool.not_eq_true]at*
  rw[<-hl]at*
  go_enter Tryz.func81,Tryz.ntmps81
  go_wp2
  go_ret
  exact⟨congrArg (fun z:Nat=>Ending.returned (.int .i64 z)) HE.out.symm,rfl⟩
 by_cases h2:(l==[77,65,88])=true
 ·have HE:Hid (aggL l=4):=by show _=_;rw[beq_iff_eq.1 h2];rfl
  try simp only[Bool.not_eq_true]at*
  rw[<-hl]at*
  go_enter Tryz.func81,Tryz.ntmps81
  go_wp2
  go_ret
  exact⟨congrArg (fun z:Nat=>Ending.returned (.int .i64 z)) HE.out.symm,rfl⟩
 have HE:Hid (aggL l=0):=by
  show _=_
  unfold aggL
  rw[if_neg (fun e=>h0 (beq_iff_eq.2 e)),if_neg (fun e=>h1 (beq_iff_eq.2 e)),if_neg (fun e=>h2 (beq_iff_eq.2 e))]
 try simp only[Bool.not_eq_true]at*
 rw[<-hl]at*
 go_enter Tryz.func81,Tryz.ntmps81
 go_wp2
 go_ret
 exact⟨congrArg (fun z:Nat=>Ending.returned (.int .i64 z)) HE.out.symm,rfl⟩
end Go.Proofs.YtmggnimiioepeaaGreatDoor.Pa
namespace Go.Proofs.YtmggnimiioepeaaGreatDoor.Pa
open Go Go.RowKit
structure Pre(w0:World)(L:List (Tok×ByteArray))(W:World)(lab:Lbl)(na:Option Addr)(nc:Nat)(nodes:List Nd)(nt:NT)(f a b:Nat):Prop where
 ab:a<=b
 bl:b<=L.length
 fu:rnk nt+8*(b-a)<f
 be:Below w0.heap.size w0 W
 ns:NS w0.heap.size W lab na nc nodes
 ln:nodes.length+(b-a)<=1000000
def TE(B:Nat)(W:World)(lab:Lbl)(na ka:Option Addr)(ns:List Nd)(xs:List Int)(r:Option (List Rt))(len:Nat)(e:Ending)(W':World):Prop:=
 ∃na' nc' lab' ns' ka' kc' xs',e= .returned (.tuple #[.slice na' (ns':List Nd).length nc',.slice ka' (xs':List Int).length kc',.bool r.isSome])/\NS B W' lab' na' nc' ns'/\KO B W' lab' na' ka' kc' xs'/\ButB (fun b=>blk na=some b\/blk ka=some b) W W'/\
  (∀b,blk na'=some b->blk na=some b\/W.heap.size<=b)/\(∀b,blk ka'=some b->blk ka=some b\/W.heap.size<=b)/\(∀b,b<W.heap.size->lab' b=lab b)/\ns'.length+1<=ns.length+(len+1)/\xs'.length<=xs.length+len/\
  ∀ts,r=some ts->ns'=ns++(lays ts ns.length).1/\xs'=xs++(lays ts ns.length).2
structure SHyp(w0:World)(ad:Option Addr)(c:Nat)(L:List (Tok×ByteArray))(f:Nat):Prop where
 bo: ∀(lev:Nat) (nt:NT) (W:World) (lab:Lbl) (na:Option Addr) (nc:Nat) (ns:List Nd) (a b:Nat),(lev=0/\nt= .cond\/lev=1/\nt= .conj\/lev=2/\nt= .prim)->Pre w0 L W lab na nc ns nt f a b->Calls Tryz.prog 82 #[.slice ad L.length c,.int .i64 (a:Int),.int .i64 (b:Int),.slice na ns.length nc,.int .i64 (lev:Int)] W (PE w0.heap.size W lab na ns (sP f nt (sgm (tks L) a b)) (b-a))
 pr: ∀(W:World) (lab:Lbl) (na:Option Addr) (nc:Nat) (ns:List Nd) (a b:Nat),Pre w0 L W lab na nc ns .prim f a b->Calls Tryz.prog 94 #[.slice ad L.length c,.int .i64 (a:Int),.int .i64 (b:Int),.slice na ns.length nc] W (PE w0.heap.size W lab na ns (sP f .prim (sgm (tks L) a b)) (b-a))
 sc: ∀(W:World) (lab:Lbl) (na:Option Addr) (nc:Nat) (ns:List Nd) (a b:Nat),Pre w0 L W lab na nc ns .scal f a b->Calls Tryz.prog 55 #[.slice ad L.length c,.int .i64 (a:Int),.int .i64 (b:Int),.slice na ns.length nc] W (PE w0.heap.size W lab na ns (sP f .scal (sgm (tks L) a b)) (b-a))
 ta: ∀(W:World) (lab:Lbl) (na:Option Addr) (nc:Nat) (ns:List Nd) (ka:Option Addr) (kc:Nat) (xs:List Int) (a b:Nat),Pre w0 L W lab na nc ns .tail f a b->KO w0.heap.size W lab na ka kc xs->xs.length+(b-a)<=1000000->Calls Tryz.prog 56 #[.slice ad L.length c,.int .i64 (a:Int),.int .i64 (b:Int),.slice na ns.length nc,.slice ka xs.length kc] W (TE w0.heap.size W lab na ka ns xs (sP f .tail (sgm (tks L) a b)) (b-a))
 se: ∀(W:World) (lab:Lbl) (na:Option Addr) (nc:Nat) (ns:List Nd) (a b:Nat),Pre w0 L W lab na nc ns .sel f a b->Calls Tryz.prog 29 #[.slice ad L.length c,.int .i64 (a:Int),.int .i64 (b:Int),.slice na ns.length nc] W (PE w0.heap.size W lab na ns (sP f .sel (sgm (tks L) a b)) (b-a))
 qu: ∀(W:World) (lab:Lbl) (na:Option Addr) (nc:Nat) (ns:List Nd) (a b:Nat),Pre w0 L W lab na nc ns .query f a b->Calls Tryz.prog 11 #[.slice ad L.length c,.int .i64 (a:Int),.int .i64 (b:Int),.slice na ns.length nc] W (PE w0.heap.size W lab na ns (sP f .query (sgm (tks L) a b)) (b-a))
section
variable {B len:Nat}{W W':World}{lab:Lbl}{na:Option Addr}{ns:List Nd}{e:Ending}{t:Rt}{ts:List Rt}
theorem PE.no(h:PE B W lab na ns none len e W'): ∃na' nc' lab' ns',e= .returned (.tuple #[.slice na' (ns':List Nd).length nc',.bool false])/\NS B W' lab' na' nc' ns'/\Fr W W' lab lab' na na'/\ns'.length<=ns.length+len:=by
 obtain⟨na',nc',lab',ns',h1,h2,h3,h4,_⟩:=h
 exact⟨na',nc',lab',ns',h1,h2,h3,h4⟩
theorem PE.yes(h:PE B W lab na ns (some [t]) len e W'): ∃na' nc' lab' ns',e= .returned (.tuple #[.slice na' (ns':List Nd).length nc',.bool true])/\NS B W' lab' na' nc' ns'/\Fr W W' lab lab' na na'/\ns'.length<=ns.length+len/\ns'=ns++lay t ns.length:=by
 obtain⟨na',nc',lab',ns',h1,h2,h3,h4,h5⟩:=h
 exact⟨na',nc',lab',ns',h1,h2,h3,h4,h5 t rfl⟩
end
theorem sP_one{f:Nat}{nt:NT}{xs:List Tok}(hs:single nt):sP f nt xs=none\/ ∃t,sP f nt xs=some [t]:=by
 cases h:sP f nt xs with
 | none=>exact Or.inl rfl
 | some ts=>
  obtain⟨t,rfl⟩:=(sP_sound f nt xs ts h).single hs
  exact Or.inr ⟨t,rfl⟩
def stA(a:Nat)(cs:List Nat)(i:Nat):Nat:=if i=0 then a else cs.getD (i-1) 0+1
theorem stA_zero(a:Nat)(cs:List Nat):stA a cs 0=a:=rfl
theorem stA_succ(a:Nat)(cs:List Nat)(i:Nat)(h:i<cs.length):stA a cs (i+1)=cs[i]+1:=by
 unfold stA
 rw[if_neg (by omega)]
 simp[List.getD_eq_getElem?_getD,List.getElem?_eq_getElem h]
theorem between_len(ts:List Tok): ∀(ps:List Nat) (a b:Nat),(between ts a ps b).length=(ps++[b]).length
 | [],a,b=>rfl
 | p::ps,a,b=>by
  rw[between,List.length_cons,between_len ts ps]
  simp
theorem between_at(ts:List Tok): ∀(ps:List Nat) (a b i:Nat) (h:i<(ps++[b]).length),(between ts a ps b)[i]?=some (sgm ts (stA a (ps++[b]) i) (ps++[b])[i])
 | [],a,b,i,h=>by
  have:i=0:=by simp at h;omega
  subst this
  rfl
 | p::ps,a,b,0,h=>rfl
 | p::ps,a,b,i+1,h=>by
  have h':i<(ps++[b]).length:=by simp at h⊢;omega
  rw[between,List.getElem?_cons_succ,between_at ts ps (p+1) b i h']
  congr 2
  cases i with
  | zero=>rfl
  | succ j=>
   rw[stA_succ (p+1) (ps++[b]) j (by omega)]
   unfold stA
   rw[if_neg (by omega)]
   simp only[List.cons_append,Nat.add_sub_cancel,List.getD_eq_getElem?_getD,List.getElem?_cons_succ]
   rw[List.getElem?_eq_getElem (by omega)]
   rfl
theorem cuts_le(sep:Tok)(ts:List Tok)(a b:Nat)(hab:a<=b)(hb:b<=ts.length)(i:Nat)(h:i<(topsP sep 0 a (sgm ts a b)++[b]).length):(topsP sep 0 a (sgm ts a b)++[b])[i]<=b/\stA a (topsP sep 0 a (sgm ts a b)++[b]) i<=(topsP sep 0 a (sgm ts a b)++[b])[i]/\a<=stA a (topsP sep 0 a (sgm ts a b)++[b]) i:=by
 have hin:=topsP_in sep (sgm ts a b) 0 a
 have hup:=topsP_up sep (sgm ts a b) 0 a
 rw[sgm_len ts a b hab hb]at hin
 generalize topsP sep 0 a (sgm ts a b)=PP at*
 have hpw:(PP++[b]).Pairwise (·< ·):=List.pairwise_append.2 ⟨hup,List.pairwise_singleton _ _,fun x hx y hy=>by
  have:=hin x hx
  simp at hy
  omega⟩
 have hall: ∀j (hj:j<(PP++[b]).length),a<=(PP++[b])[j]/\(PP++[b])[j]<=b:=fun j hj=>by
  have hm:=List.getElem_mem hj
  rcases List.mem_append.1 hm with hm | hm
  ·have:=hin _ hm;omega
  ·simp at hm;omega
 have h1:=hall i h
 refine⟨h1.2,?_,?_⟩
 ·cases i with
  | zero=>exact h1.1
  | succ j=>
   rw[stA_succ a _ j (by omega)]
   have:=List.pairwise_iff_getElem.1 hpw j (j+1) (by omega) h (by omega)
   omega
 ·cases i with
  | zero=>exact Nat.le_refl _
  | succ j=>
   rw[stA_succ a _ j (by omega)]
   have:=hall j (by omega)
   omega
theorem mapP_take{p:List Tok->Option (List Rt)}: ∀{l:List (List Tok)} {i:Nat} {ts:List Rt} {x:List Tok} {t:Rt},mapP p (l.take i)=some ts->l[i]?=some x->p x=some [t]->mapP p (l.take (i+1))=some (ts++[t])
 | [],i,ts,x,t,h,hx,hp=>by simp at hx
 | y::l,0,ts,x,t,h,hx,hp=>by
  simp at hx
  subst hx
  simp[mapP]at h
  subst h
  simp[mapP,hp]
 | y::l,i+1,ts,x,t,h,hx,hp=>by
  rw[List.take_succ_cons,mapP]at h
  split at h
  ·rename_i u hu
   split at h
   ·rename_i us hus
    simp at h
    subst h
    have ih:=mapP_take hus (by simpa using hx) hp
    rw[List.take_succ_cons]
    exact mapP_cons hu ih
   ·cases h
  ·cases h
theorem mapP_none{p:List Tok->Option (List Rt)}: ∀{l:List (List Tok)} {i:Nat} {x:List Tok},l[i]?=some x->p x=none->mapP p l=none
 | [],i,x,hx,hp=>by simp at hx
 | y::l,0,x,hx,hp=>by
  simp at hx
  subst hx
  rw[mapP,hp]
 | y::l,i+1,x,hx,hp=>by
  have ih:=mapP_none (l:=l) (i:=i) (by simpa using hx) hp
  rw[mapP,ih]
  split<;>rfl
structure LP(w0 W:World)(X0:Nat)(lab0:Lbl)(na0:Option Addr)(wr:World)(lab:Lbl)(na:Option Addr)(nc:Nat)(nodes:List Nd)(ga:Option Addr)(gc:Nat)(cuts:List Int)(ka:Option Addr)(kc:Nat)(xs:List Int):Prop where
 be:Below w0.heap.size w0 wr
 ns:NS w0.heap.size wr lab na nc nodes
 fr:Fr W wr lab0 lab na0 na
 cu:KO w0.heap.size wr lab na ga gc cuts
 ki:KO w0.heap.size wr lab na ka kc xs
 gx: ∀b,blk ga=some b->b<X0
 kx: ∀b,blk ka=some b->X0<=b
 xw:W.heap.size<=X0
 wb:w0.heap.size<=W.heap.size
section
variable {w0 W wr w1 w2:World}{X0:Nat}{lab0 lab lab1:Lbl}{na0 na na1 ga ka ra:Option Addr}{nc nc1 gc kc rc:Nat}{ns ns1:List Nd}{cuts xs:List Int}
theorem LP.sz(h:LP w0 W X0 lab0 na0 wr lab na nc ns ga gc cuts ka kc xs):w0.heap.size<=wr.heap.size:=h.be.size
theorem LP.call(h:LP w0 W X0 lab0 na0 wr lab na nc ns ga gc cuts ka kc xs)(f:Fr wr w1 lab lab1 na na1)(n:NS w0.heap.size w1 lab1 na1 nc1 ns1):LP w0 W X0 lab0 na0 w1 lab1 na1 nc1 ns1 ga gc cuts ka kc xs:=
 ⟨h.be.trans (f.below h.sz h.ns),n,h.fr.trans f,h.cu.fr f,h.ki.fr f,h.gx,h.kx,h.xw,h.wb⟩
theorem LP.of(h:LP w0 W X0 lab0 na0 wr lab na nc ns ga gc cuts ka kc xs)(hb:Below wr.heap.size wr w1):LP w0 W X0 lab0 na0 w1 lab na nc ns ga gc cuts ka kc xs:=h.call (Fr.ofBelow hb) (h.ns.of hb)
theorem LP.kid(h:LP w0 W X0 lab0 na0 wr lab na nc ns ga gc cuts ka kc xs){ys:List Int}(hX:X0<=wr.heap.size)(k:KO w0.heap.size w1 lab na ra rc ys)(hb:ButB (fun b=>blk ka=some b) wr w1)(hat: ∀b,blk ra=some b->blk ka=some b\/b=wr.heap.size):LP w0 W X0 lab0 na0 w1 lab na nc ns ga gc cuts ra rc ys:=
 ⟨h.be.trans (hb.below h.sz (fun b e=>(h.ki.lt b e).1)),h.ns.but hb (fun b e e'=>(h.ki.off b e').2 e) (fun b i e e'=>by rw[(h.ki.off b e').1]at e;cases e),h.fr.local hb (fun b e=>Nat.le_trans h.xw (h.kx b e)),
  h.cu.but hb (fun b e e'=>by have:=h.gx b e;have:=h.kx b e';omega),k,h.gx,fun b e=>(hat b e).elim (h.kx b) (fun e=>by omega),h.xw,h.wb⟩
theorem LP.apart(h:LP w0 W X0 lab0 na0 wr lab na nc ns ga gc cuts ka kc xs){x:Nat}(hx:W.heap.size<=x)(h1:blk na≠some x)(h2:lab x=none)(h3:blk ga≠some x)(h4:blk ka≠some x)(o:Nat)(v:Value):LP w0 W X0 lab0 na0 (wr.setCell ⟨x,o,none⟩ v) lab na nc ns ga gc cuts ka kc xs:=by
 have hb:ButB (fun b=>b=x) wr (wr.setCell ⟨x,o,none⟩ v):=ButB.set (S:=fun b=>b=x) (ButB.refl _ _) (Or.inl rfl) _
 exact⟨h.be.trans (hb.below h.sz (fun b e=>by have:=h.wb;omega)),h.ns.but hb (fun b e e'=>h1 (by rw[<-e'];exact e)) (fun b i e e'=>by rw[e',h2]at e;cases e),h.fr.local hb (fun b e=>by omega),h.cu.but hb (fun b e e'=>h3 (by rw[<-e'];exact e)),h.ki.but hb (fun b e e'=>h4 (by rw[<-e'];exact e)),h.gx,h.kx,h.xw,h.wb⟩
theorem KO.at{B:Nat}(h:KO B wr lab na ga gc cuts)(h0:0<cuts.length): ∃G,ga=some ⟨G,0,none⟩/\G<wr.heap.size/\ ∀i x,cuts[i]?=some x->wr.cell? ⟨G,i,none⟩=some (.int .i64 x):=by
 rcases h.own.2 with⟨_,e2⟩ | ⟨G,cap,cur,e1,e2,e3,e4⟩
 ·omega
 ·simp only[Value.slice.injEq]at e1
  obtain⟨rfl,_,rfl⟩:=e1
  refine⟨G,rfl,(Array.getElem?_eq_some_iff.1 e3).1,fun i x hx=> ?_⟩
  have hi:=(List.getElem?_eq_some_iff.1 hx).1
  rw[h.own.cellAt i (by omega)]
  simp[iV,hx]
end
def nI(P:List Nat):List Int:=P.map fun x:Nat=>(x:Int)
theorem vN_iV(P:List Nat):vN P=iV (nI P):=by simp[vN,iV,nI]
theorem nI_len(P:List Nat):(nI P).length=P.length:=by simp[nI]
theorem nI_at(P:List Nat)(i:Nat)(h:i<P.length):(nI P)[i]?=some ((P[i]:Nat):Int):=by simp[nI,h]
end Go.Proofs.YtmggnimiioepeaaGreatDoor.Pa
namespace Go.Proofs.YtmggnimiioepeaaGreatDoor.Pa
open Go Go.RowKit
theorem sgm_wraps{ts:List Tok}{a b:Nat}{i:List Tok}(hab:a<=b)(hb:b<=ts.length)(h:wraps (sgm ts a b)=some i):a+2<=b/\i=sgm ts (a+1) (b-1):=by
 have e:=wraps_app h
 have hl:=congrArg List.length e
 rw[sgm_len ts a b hab hb]at hl
 simp at hl
 refine⟨by omega,?_⟩
 obtain⟨t,_,e1⟩:=sgm_head ts a b (by omega) hb
 rw[e1]at e
 have hlast:b-1<ts.length:=by omega
 have e2:=sgm_last ts (a+1) (b-1) (by omega) ts[b-1] (List.getElem?_eq_getElem hlast)
 rw[show b-1+1=b by omega]at e2
 rw[e2]at e
 simp only[List.cons_append,List.cons.injEq]at e
 exact(List.append_inj_left' e.2 rfl).symm
theorem is_head{ts:List Tok}{a b q:Nat}(hb:b<=ts.length):(a<b/\ts[a]?=some (.sy q))↔ ∃r,sgm ts a b= .sy q::r:=by
 constructor
 ·rintro⟨h1,h2⟩
  obtain⟨t,e1,e2⟩:=sgm_head ts a b h1 hb
  rw[h2]at e1
  simp only[Option.some.injEq]at e1
  exact⟨_,by rw[e2,<-e1]⟩
 ·rintro⟨r,e⟩
  have h1:a<b:=by
   rcases Nat.lt_or_ge a b with h | h
   ·exact h
   ·unfold sgm at e
    rw[show b-a=0 by omega]at e
    simp at e
  obtain⟨t,e1,e2⟩:=sgm_head ts a b h1 hb
  rw[e2]at e
  simp only[List.cons.injEq]at e
  exact⟨h1,by rw[e1,e.1]⟩
theorem is_dec{ts:List Tok}{a b q:Nat}(hb:b<=ts.length):decide (a<b/\ts[a]?=some (.sy q))=dB (∃r,sgm ts a b= .sy q::r):=by
 by_cases h: ∃r,sgm ts a b= .sy q::r
 ·rw[dB_true h];exact decide_eq_true ((is_head hb).2 h)
 ·rw[dB_false h];exact decide_eq_false (fun e=>h ((is_head hb).1 e))
theorem Pre.tk{w0:World}{L:List (Tok×ByteArray)}{W:World}{lab:Lbl}{na:Option Addr}{nc:Nat}{ns:List Nd}{nt:NT}{f a b:Nat}{ad:Option Addr}(h:Pre w0 L W lab na nc ns nt f a b)(hT:TksS w0 ad L):TksS W ad L:=hT.of h.be
theorem TksS.cells{w:World}{ad:Option Addr}{L:List (Tok×ByteArray)}{i:Nat}{t:Tok}(h:TksS w ad L)(ht:(tks L)[i]?=some t): ∃S g bb V,TOk t S/\ad=some ⟨g,0,none⟩/\g<w.heap.size/\tkS t S=[.string S,.bool bb,.int .i64 V]/\w.cell? ⟨g,i*3,none⟩=some (.string S)/\w.cell? ⟨g,i*3+1,none⟩=some (.bool bb)/\w.cell? ⟨g,i*3+2,none⟩=some (.int .i64 V):=by
 have hi:i<L.length:=by have:=(List.getElem?_eq_some_iff.1 ht).1;simpa using this
 have hp:L[i]?=some L[i]:=List.getElem?_eq_getElem hi
 have he:(L[i]).1=t:=by simpa[hp]using ht
 obtain⟨h0,g,h1,h2,h3⟩:=h i _ hp
 obtain⟨bb,V,hf⟩:=tkS_form (L[i]).1 (L[i]).2
 rw[hf]at h3
 rw[he]at h0 hf
 exact⟨(L[i]).2,g,bb,V,h0,h1,h2,hf,h3 0 (by omega),h3 1 (by omega),h3 2 (by omega)⟩
theorem opS_at{ts:List Tok}{a b:Nat}{x y:List Tok}{c:Tok}(hab:a<=b)(hb:b<=ts.length)(h:opS 0 (sgm ts a b)=some (x,c,y)): ∃p,opAt ts a b=((p:Nat):Int)/\a<=p/\p<b/\x=sgm ts a p/\ts[p]?=some c/\y=sgm ts (p+1) b/\isOp c=true:=by
 obtain⟨e,ho⟩:=opS_app _ _ _ _ _ h
 have hl:=congrArg List.length e
 rw[sgm_len ts a b hab hb]at hl
 simp at hl
 refine⟨a+x.length,by unfold opAt;rw[h],by omega,by omega,?_⟩
 have hs:=sgm_split ts a (a+x.length) b (by omega) (by omega)
 obtain⟨t,e1,e2⟩:=sgm_head ts (a+x.length) b (by omega) hb
 rw[e2]at hs
 rw[hs]at e
 have hxl:(sgm ts a (a+x.length)).length=x.length:=by rw[sgm_len ts a _ (by omega) (by omega)];omega
 obtain⟨q1,q2⟩:=List.append_inj e hxl
 simp only[List.cons.injEq]at q2
 exact⟨q1.symm,by rw[e1,q2.1],q2.2.symm,ho⟩
theorem opAt_neg{ts:List Tok}{a b:Nat}(h:opS 0 (sgm ts a b)=none):opAt ts a b= -1:=opAt_none ts a b h
theorem Fr.stay{W W1:World}{lab lab1:Lbl}{na na1:Option Addr}(f:Fr W W1 lab lab1 na na1){x:Nat}(hx:x<W.heap.size)(hn:blk na≠some x):(∀o,W1.cell? ⟨x,o,none⟩=W.cell? ⟨x,o,none⟩)/\blk na1≠some x/\lab1 x=lab x/\x<W1.heap.size:=
 ⟨fun o=>f.but.cell x o hx hn,fun e=>(f.own x e).elim hn (fun e=>by omega),f.lb x hx,Nat.lt_of_lt_of_le hx f.but.size⟩
theorem prim_opS{f:Nat}{xs:List Tok}(h1: ∀r,xs≠ .sy 20::r)(h2: ∀r,xs≠ .sy 21::r)(h3: ∀r,xs= .sy 0::r-> ∃r',r= .sy 11::r'):sP (f+1) .prim xs=(match opS 0 xs with
    | none=>none
    | some (x,c,y)=>(match sP f .scal x with
     | some [t]=>opndS (sP f .scal) (sP f .query) t c y
     | _=>none)):=by
 show(match xs with
  | .sy 20::r=>(match sP f .prim r with | some [t]=>some [Rt.mk 13 0 0 [] [] [t]] | _=>none)
  | .sy 21::r=>(match wraps r with | none=>none | some i=>(match sP f .query i with | some [q]=>some [Rt.mk 10 0 0 [] [] [q]] | _=>none))
  | xs=>if xs.head?=some pO/\xs[1]?≠some kSel then(match wraps xs with | none=>none | some i=>sP f .cond i)
   else(match opS 0 xs with
    | none=>none
    | some (x,c,y)=>(match sP f .scal x with
     | some [t]=>opndS (sP f .scal) (sP f .query) t c y
     | _=>none)))=_
 split
 ·exact absurd rfl (h1 _)
 ·exact absurd rfl (h2 _)
 ·rw[if_neg]
  rintro⟨e1,e2⟩
  cases xs with
  | nil=>cases e1
  | cons t r=>
   simp at e1
   subst e1
   obtain⟨r',rfl⟩:=h3 r rfl
   exact e2 rfl
theorem prim_brS{f:Nat}{r:List Tok}(h: ∀r',r≠ .sy 11::r'):sP (f+1) .prim (.sy 0::r)=(match wraps (.sy 0::r)with | none=>none | some i=>sP f .cond i):=by
 show(if(Tok.sy 0::r).head?=some pO/\(Tok.sy 0::r)[1]?≠some kSel then(match wraps (.sy 0::r)with | none=>none | some i=>sP f .cond i)else _)=_
 rw[if_pos ⟨rfl,fun e=>by
  cases r with
  | nil=>cases e
  | cons t r'=>simp at e;exact h r' (by rw[e])⟩]
end Go.Proofs.YtmggnimiioepeaaGreatDoor.Pa
