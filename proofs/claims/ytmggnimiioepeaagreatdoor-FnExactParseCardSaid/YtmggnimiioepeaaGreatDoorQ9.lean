import Derived.Test.YtmggnimiioepeaaGreatDoorQ0
import Derived.Test.YtmggnimiioepeaaGreatDoorQ8
import Derived.Test.YtmggnimiioepeaaGreatDoorQ6
namespace Go.Proofs.YtmggnimiioepeaaGreatDoor.Pa
open Go Go.RowKit
theorem tlen_max(r:ByteArray)(h0:0<tlen r)(hz0:0<r.size)(k:Nat)(hk:j0 r<=k)(hkz:k<=r.size)(hall: ∀m,j0 r<=m->m<k->LongB (r.extract 0 m) (byt r m))(hend:k=r.size\/ ¬LongB (r.extract 0 k) (byt r k)):k=tlen r:=by
 have hj1:1<=j0 r:=by unfold j0;split<;>omega
 have hz: ∀m,m<=r.size->(r.extract 0 m).size=m:=fun m hm=>by rw[ext_size r 0 m hm];omega
 by_cases hL:letter (byt r 0)=true
 ·have ht:tlen r=spn r:=by unfold tlen;rw[if_pos hL]
  have hn:=letter_no hL
  have hj:j0 r=1:=by unfold j0;rw[if_neg hn.2]
  have hl: ∀m c,1<=m->(LongB (r.extract 0 m) c↔part c=true):=fun m c hm=>by
   unfold LongB
   rw[hd_byt r m 0 (by omega),if_pos hL]
  rw[ht]
  refine(spn_eq r k (fun i hi=> ?_) hkz ?_).symm
  ·by_cases e:i=0
   ·rw[e];exact part_letter hL
   ·exact(hl i _ (by omega)).1 (hall i (by omega) hi)
  ·rcases hend with h | h
   ·exact Or.inl h
   ·right
    rw[hl k _ (by omega)]at h
    simpa using h
 ·have hl0: ∀m,1<=m-> ¬letter (byt (r.extract 0 m) 0)=true:=fun m hm=>by rw[hd_byt r m 0 (by omega)];exact hL
  by_cases hD:digit (byt r 0)=true\/byt r 0=45
  ·have hd:dgs r≠0:=fun e=>by
    unfold tlen at h0
    rw[if_neg hL,if_pos hD,if_pos e]at h0
    omega
   have ht:tlen r=frn r+dgs r:=by unfold tlen;rw[if_neg hL,if_pos hD,if_neg hd]
   obtain⟨hp1,hp2⟩:=(dgs_pos r).1 (by omega)
   have hj:j0 r=frn r+1:=by
    unfold j0 frn
    by_cases e:byt r 0=45
    ·rw[if_pos e,if_pos ⟨hz0,e⟩]
    ·rw[if_neg e,if_neg (fun x=>e x.2)]
   have hl: ∀m c,j0 r<=m->m<=r.size->digit (byt r (m-1))=true->(LongB (r.extract 0 m) c↔digit c=true):=fun m c hm hm2 hdm=>by
    unfold LongB
    rw[if_neg (hl0 m (by omega)),hz m hm2,hd_byt r m (m-1) (by omega),if_pos hdm]
   have hdig: ∀n,frn r+n<k->digit (byt r (frn r+n))=true:=by
    intro n
    induction n with
    | zero=>intro _;exact hp2
    | succ n ih=>
     intro hn
     have h1:=hall (frn r+(n+1)) (by omega) hn
     rw[hl _ _ (by omega) (by omega) (by rw[show frn r+(n+1)-1=frn r+n by omega];exact ih (by omega))]at h1
     exact h1
   rw[ht]
   have:=dgs_eq r (k-frn r) (fun i h1 h2=>by
    have:=hdig (i-frn r) (by omega)
    rwa [show frn r+(i-frn r)=i by omega]at this) (by omega) (by
    rw[show frn r+(k-frn r)=k by omega]
    rcases hend with h | h
    ·exact Or.inl h
    ·right
     rw[hl k _ (by omega) hkz (by
      have:=hdig (k-1-frn r) (by omega)
      rwa [show frn r+(k-1-frn r)=k-1 by omega]at this)]at h
     simpa using h)
   omega
  ·have h45: ¬byt r 0=45:=fun e=>hD (Or.inr e)
   have hj:j0 r=1:=by unfold j0;rw[if_neg h45]
   have hd0: ¬digit (byt r 0)=true:=fun e=>hD (Or.inl e)
   have hl1: ∀b:UInt8,byt r 1=(b.toNat:Int)->(LongB (r.extract 0 1) (byt r 1)↔r.toList.take 1++[b]∈sgs):=fun b hb=>by
    unfold LongB
    rw[if_neg (hl0 1 (by omega)),hz 1 (by omega),hd_byt r 1 (1-1) (by omega),if_neg hd0,hd_list]
    constructor
    ·rintro⟨b',e,h⟩
     have:b'=b:=UInt8.toNat_inj.1 (by omega)
     rwa [this]at h
    ·exact fun h=>⟨b,hb.symm,h⟩
   have h2:2<=r.size->(LongB (r.extract 0 1) (byt r 1)↔r.toList.take 2∈sgs):=fun h=>by
    obtain⟨a,b,l,e,_,e1⟩:=list_at2 r h
    rw[hl1 b e1,e]
    simp
   have ht:tlen r=if 2<=r.size/\r.toList.take 2∈sgs then 2 else 1:=by
    have h0':=h0
    unfold tlen at h0'⊢
    rw[if_neg hL,if_neg hD]at h0'⊢
    split
    ·rfl
    ·rename_i hn
     rw[if_neg hn]at h0'
     split
     ·rfl
     ·rename_i hn2
      rw[if_neg hn2]at h0'
      omega
   rw[ht]
   by_cases hk1:k=1
   ·subst hk1
    rw[if_neg]
    rintro⟨h3,h4⟩
    rcases hend with h | h
    ·omega
    ·exact h ((h2 h3).2 h4)
   ·have h3:2<=r.size:=by omega
    have h4:=(h2 h3).1 (hall 1 (by omega) (by omega))
    rw[if_pos ⟨h3,h4⟩]
    by_cases hk2:k=2
    ·exact hk2
    ·exfalso
     have h5:=hall 2 (by omega) (by omega)
     obtain⟨a,b,l,e,e0,e1⟩:=list_at2 r h3
     have hdb:digit (byt (r.extract 0 2) (2-1))≠true:=by
      rw[hd_byt r 2 (2-1) (by omega),show(2-1:Nat)=1 from rfl,e1]
      rw[e]at h4
      simp only[List.take]at h4
      rcases sgs_facts _ h4 with⟨x,e2,_⟩ | ⟨x,y,e2,_,h6,_⟩
      ·simp at e2
      ·simp only[List.cons.injEq]at e2
       rw[e2.2.1,h6];simp
     unfold LongB at h5
     rw[if_neg (hl0 2 (by omega)),hz 2 (by omega),if_neg hdb,hd_list,e]at h5
     obtain⟨c,_,h6⟩:=h5
     simp only[List.take,List.cons_append,List.nil_append]at h6
     rcases sgs_facts _ h6 with⟨x,e2,_⟩ | ⟨x,y,e2,_⟩
     ·simp at e2
     ·simp at e2
theorem tlen_tok(r:ByteArray)(h0:0<tlen r)(hz0:0<r.size):
  (letter (byt r 0)=true/\tlen r=spn r/\WordB (r.extract 0 (tlen r)))\/
  (letter (byt r 0)=false/\(digit (byt r 0)=true\/byt r 0=45)/\tlen r=frn r+dgs r/\1<=dgs r/\NumB (r.extract 0 (tlen r))/\(r.extract 0 (tlen r)).size-frn (r.extract 0 (tlen r))=dgs r)\/
  (letter (byt r 0)=false/\ ¬(digit (byt r 0)=true\/byt r 0=45)/\SignB (r.extract 0 (tlen r))):=by
 have hle:=tlen_le r hz0
 have hz:=ext_size r 0 (tlen r) hle
 have hb:=hd_byt r (tlen r) 0 h0
 by_cases hL:letter (byt r 0)=true
 ·have ht:tlen r=spn r:=by unfold tlen;rw[if_pos hL]
  refine Or.inl ⟨hL,ht,by omega,by rw[hb];exact hL,fun i hi=> ?_⟩
  rw[hd_byt r _ i (by omega)]
  exact spn_in r i (by omega)
 ·by_cases hD:digit (byt r 0)=true\/byt r 0=45
  ·have hd:dgs r≠0:=fun e=>by
    unfold tlen at h0
    rw[if_neg hL,if_pos hD,if_pos e]at h0
    omega
   have ht:tlen r=frn r+dgs r:=by unfold tlen;rw[if_neg hL,if_pos hD,if_neg hd]
   have hf:frn (r.extract 0 (tlen r))=frn r:=by
    unfold frn
    rw[hb,hz]
    by_cases e:byt r 0=45
    ·rw[if_pos ⟨by omega,e⟩,if_pos ⟨hz0,e⟩]
    ·rw[if_neg (fun x=>e x.2),if_neg (fun x=>e x.2)]
   refine Or.inr (Or.inl ⟨by simpa using hL,hD,ht,by omega,⟨by omega,fun i h1 h2=> ?_⟩,by omega⟩)
   rw[hd_byt r _ i (by omega)]
   exact dgs_in r i (by omega) (by omega)
  ·refine Or.inr (Or.inr ⟨by simpa using hL,hD,?_⟩)
   unfold SignB
   rw[hd_list]
   unfold tlen at h0⊢
   rw[if_neg hL,if_neg hD]at h0⊢
   split
   ·rename_i h;exact h.2
   ·rename_i hn
    rw[if_neg hn]at h0
    split
    ·rename_i h;exact h
    ·rename_i hn2
     rw[if_neg hn2]at h0
     omega
theorem mem_idx{l:List (List UInt8)}{x:List UInt8}(h:x∈l):l.idxOf x<l.length/\l.getD (l.idxOf x) []=x:=by
 have h1:=List.idxOf_lt_length_iff.2 h
 refine⟨h1,?_⟩
 rw[List.getD_eq_getElem?_getD,List.getElem?_eq_getElem h1,Option.getD_some]
 exact List.getElem_idxOf h1
theorem kw_word: ∀x∈kws,∃b l,x=b::l/\letter (b.toNat:Int)=true:=by
 intro x hx
 simp only[kws,List.mem_cons,List.not_mem_nil,or_false]at hx
 rcases hx with rfl | rfl | rfl | rfl | rfl | rfl | rfl | rfl | rfl | rfl | rfl | rfl | rfl | rfl | rfl | rfl | rfl
 all_goals exact⟨_,_,rfl,by decide⟩
theorem kw_first{s:ByteArray}(h:s.toList∈kws):0<s.size/\letter (byt s 0)=true:=by
 obtain⟨b,l,e,hb⟩:=kw_word _ h
 have hz:=size_toList s
 rw[e]at hz
 simp at hz
 exact⟨by omega,by simp[byt,e];exact hb⟩
theorem tok_word{s:ByteArray}(h:WordB s)(h64:s.size<=64):tokOf s=some (if s.toList∈kws then .sy (11+kws.idxOf s.toList)else .nam s.toList):=by
 unfold tokOf
 rw[dB_false (letter_num h.2.1)]
 simp only[Bool.false_eq_true,if_false,show ¬64<s.size by omega]
 split
 ·rfl
 ·rw[if_neg (fun e=>by have:=(SignB.first e).2.2.1;rw[h.2.1]at this;cases this)]
theorem tok_word_no{s:ByteArray}(h:WordB s)(h64:64<s.size):tokOf s=none:=by
 unfold tokOf
 rw[dB_false (letter_num h.2.1)]
 simp[h64]
theorem tok_num{s:ByteArray}(h:NumB s):tokOf s=if s.size-frn s<=18 then some (.num (nVal s))else none:=by
 unfold tokOf
 rw[dB_true h]
 simp
theorem tok_sign{s:ByteArray}(h:SignB s):tokOf s=some (.sy (sgs.idxOf s.toList)):=by
 unfold tokOf
 have hf:=h.first
 have hk:s.toList∉kws:=fun hk=>by have:=(kw_first hk).2;rw[hf.2.2.1]at this;cases this
 rw[dB_false (sign_num h)]
 simp only[Bool.false_eq_true,if_false,show ¬64<s.size by omega,hk]
 exact if_pos h
theorem tok_ok{s:ByteArray}{t:Tok}(hT:TokB s)(h:tokOf s=some t):TOk t s:=by
 rcases hT with hw | hn | hs
 ·by_cases h64:s.size<=64
  ·rw[tok_word hw h64]at h
   simp only[Option.some.injEq]at h
   subst h
   split
   ·rename_i hk
    obtain⟨h1,h2⟩:=mem_idx hk
    have h17:kws.length=17:=rfl
    refine⟨by omega,?_⟩
    unfold syT
    rw[if_neg (by omega),Nat.add_sub_cancel_left,h2]
   ·rename_i hk
    exact⟨rfl,hw,h64,hk⟩
  ·rw[tok_word_no hw (by omega)]at h;cases h
 ·rw[tok_num hn]at h
  split at h
  ·rename_i h18
   simp only[Option.some.injEq]at h
   subst h
   exact⟨hn,h18,rfl⟩
  ·cases h
 ·rw[tok_sign hs]at h
  simp only[Option.some.injEq]at h
  subst h
  obtain⟨h1,h2⟩:=mem_idx hs
  have h11:sgs.length=11:=rfl
  refine⟨by omega,?_⟩
  unfold syT
  rw[if_pos (by omega),h2]
noncomputable def lexF:Nat->ByteArray->Nat->Option (List (Tok×ByteArray))
 | 0,s,i=>if s.size<=i then some []else none
 | f+1,s,i=>
  if s.size<=i then some []
  else if blank (byt s i)=true then lexF f s (i+1)
  else if tlen (s.extract i s.size)=0 then none
  else match tokOf (s.extract i (i+tlen (s.extract i s.size)))with
   | none=>none
   | some t=>(lexF f s (i+tlen (s.extract i s.size))).map ((t,s.extract i (i+tlen (s.extract i s.size))):: ·)
theorem lexF_fuel(s:ByteArray): ∀(f g i:Nat),s.size<=i+f->s.size<=i+g->lexF f s i=lexF g s i
 | 0,0,i,_,_=>rfl
 | 0,g+1,i,h,_=>by unfold lexF;rw[if_pos (by omega),if_pos (by omega)]
 | f+1,0,i,_,h=>by unfold lexF;rw[if_pos (by omega),if_pos (by omega)]
 | f+1,g+1,i,h1,h2=>by
  unfold lexF
  split
  ·rfl
  ·split
   ·exact lexF_fuel s f g (i+1) (by omega) (by omega)
   ·split
    ·rfl
    ·rename_i h3
     split
     ·rfl
     ·rw[lexF_fuel s f g _ (by omega) (by omega)]
noncomputable def lex(s:ByteArray)(i:Nat):Option (List (Tok×ByteArray)):=lexF (s.size+1) s i
theorem lex_end(s:ByteArray)(i:Nat)(h:s.size<=i):lex s i=some []:=by unfold lex lexF;rw[if_pos h]
theorem lex_blank(s:ByteArray)(i:Nat)(h:i<s.size)(hb:blank (byt s i)=true):lex s i=lex s (i+1):=by
 rw[show lex s i=lexF (s.size+1) s i from rfl]
 unfold lexF
 rw[if_neg (by omega),if_pos hb]
 exact lexF_fuel s _ _ _ (by omega) (by omega)
theorem lex_no(s:ByteArray)(i:Nat)(h:i<s.size)(hb:blank (byt s i)=false)(h1:tlen (s.extract i s.size)=0\/tokOf (s.extract i (i+tlen (s.extract i s.size)))=none):lex s i=none:=by
 unfold lex lexF
 rw[if_neg (by omega),if_neg (by simp[hb])]
 split
 ·rfl
 ·rename_i h2
  rcases h1 with h1 | h1
  ·exact absurd h1 h2
  ·rw[h1]
theorem lex_tok(s:ByteArray)(i:Nat)(h:i<s.size)(hb:blank (byt s i)=false)(t:Tok)(h0:tlen (s.extract i s.size)≠0)(h1:tokOf (s.extract i (i+tlen (s.extract i s.size)))=some t):lex s i=(lex s (i+tlen (s.extract i s.size))).map ((t,s.extract i (i+tlen (s.extract i s.size))):: ·):=by
 rw[show lex s i=lexF (s.size+1) s i from rfl]
 unfold lexF
 rw[if_neg (by omega),if_neg (by simp[hb]),if_neg h0,h1]
 simp only[]
 rw[lexF_fuel s s.size (s.size+1) _ (by omega) (by omega)]
 rfl
end Go.Proofs.YtmggnimiioepeaaGreatDoor.Pa
namespace Go.Proofs.YtmggnimiioepeaaGreatDoor.Pa
open Go Go.RowKit
theorem rb(s:ByteArray)(k m:Nat)(h:k+m<s.size):byt (s.extract k s.size) m=byt s (k+m):=ext_byt s _ _ _ (by omega)
theorem rext(s:ByteArray)(k m:Nat)(h:k+m<=s.size):(s.extract k s.size).extract 0 m=s.extract k (k+m):=by
 rw[ByteArray.extract_extract]
 congr 1
 omega
theorem rsz(s:ByteArray)(k:Nat):(s.extract k s.size).size=s.size-k:=ext_size s _ _ (Nat.le_refl _)
def J1(s:ByteArray)(k:Nat):Nat:=k+if byt s k=45 then 2 else 1
def tln(s:ByteArray)(k:Nat):Nat:=tlen (s.extract k s.size)
theorem J1_eq(s:ByteArray)(k:Nat)(h:k<s.size):J1 s k=k+j0 (s.extract k s.size):=by
 unfold J1 j0
 rw[rb s k 0 (by omega),Nat.add_zero]
theorem tln_le(s:ByteArray)(k:Nat)(h:k<s.size):k+tln s k<=s.size:=by
 have:=tlen_le (s.extract k s.size) (by rw[rsz];omega)
 rw[rsz]at this
 unfold tln
 omega
theorem tln_pos(s:ByteArray)(k:Nat)(h:k<s.size):(J1 s k<=s.size/\TokB (s.extract k (J1 s k)))↔0<tln s k:=by
 have h1:=tlen_pos (s.extract k s.size) (by rw[rsz];omega)
 rw[rsz]at h1
 unfold tln
 rw[<-h1,J1_eq s k h]
 constructor
 ·rintro⟨a,b⟩
  refine⟨by omega,?_⟩
  rw[rext s k _ a];exact b
 ·rintro⟨a,b⟩
  refine⟨by omega,?_⟩
  rw[rext s k _ (by omega)]at b;exact b
theorem tln_max(s:ByteArray)(k:Nat)(h:k<s.size)(h0:0<tln s k)(m:Nat)(hm:J1 s k<=m)(hms:m<=s.size)(hall: ∀q,J1 s k<=q->q<m->LongB (s.extract k q) (byt s q))(hend:m=s.size\/ ¬LongB (s.extract k m) (byt s m)):m=k+tln s k:=by
 have hj:=J1_eq s k h
 have hk:k<=m:=by omega
 have h1:=tlen_max (s.extract k s.size) h0 (by rw[rsz];omega) (m-k) (by omega) (by rw[rsz];omega) (fun q a b=>by
  rw[rext s k q (by omega),rb s k q (by omega)]
  exact hall (k+q) (by omega) (by omega)) (by
  rcases hend with e | e
  ·exact Or.inl (by rw[rsz];omega)
  ·by_cases e2:m=s.size
   ·exact Or.inl (by rw[rsz];omega)
   ·right
    rw[rext s k _ (by omega),rb s k _ (by omega),show k+(m-k)=m by omega]
    exact e)
 unfold tln
 omega
def ttx(s:ByteArray)(k:Nat):ByteArray:=s.extract k (k+tln s k)
theorem ttx_size(s:ByteArray)(k:Nat)(h:k<s.size):(ttx s k).size=tln s k:=by
 have:=tln_le s k h
 unfold ttx
 rw[ext_size s _ _ this];omega
theorem ttx_eq(s:ByteArray)(k:Nat)(h:k<s.size):(s.extract k s.size).extract 0 (tlen (s.extract k s.size))=ttx s k:=rext s k _ (tln_le s k h)
theorem ttx_tok(s:ByteArray)(k:Nat)(h:k<s.size)(h0:0<tln s k):
  (letter (byt s k)=true/\tln s k=spn (s.extract k s.size)/\WordB (ttx s k))\/
  (letter (byt s k)=false/\(digit (byt s k)=true\/byt s k=45)/\tln s k=frn (s.extract k s.size)+dgs (s.extract k s.size)/\1<=dgs (s.extract k s.size)/\NumB (ttx s k)/\(ttx s k).size-frn (ttx s k)=dgs (s.extract k s.size))\/
  (letter (byt s k)=false/\ ¬(digit (byt s k)=true\/byt s k=45)/\SignB (ttx s k)):=by
 have h1:=tlen_tok (s.extract k s.size) h0 (by rw[rsz];omega)
 rw[ttx_eq s k h,rb s k 0 (by omega),Nat.add_zero]at h1
 exact h1
theorem ttx_TokB(s:ByteArray)(k:Nat)(h:k<s.size)(h0:0<tln s k):TokB (ttx s k):=by
 rcases ttx_tok s k h h0 with h1 | h1 | h1
 ·exact Or.inl h1.2.2
 ·exact Or.inr (Or.inl h1.2.2.2.2.1)
 ·exact Or.inr (Or.inr h1.2.2)
def LexI(s:ByteArray)(k:Nat)(acc:List (Tok×ByteArray)):Prop:=k<=s.size/\acc.length<=k/\(∀p∈acc,TOk p.1 p.2)/\lex s 0=(lex s k).map (acc++ ·)
theorem LexI.start(s:ByteArray):LexI s 0 []:=⟨Nat.zero_le _,Nat.le_refl _,by simp,by cases lex s 0<;>simp⟩
theorem LexI.blank{s:ByteArray}{k:Nat}{acc:List (Tok×ByteArray)}(h:LexI s k acc)(hk:k<s.size)(hb:blank (byt s k)=true):LexI s (k+1) acc:=
 ⟨hk,by have:=h.2.1;omega,h.2.2.1,by rw[h.2.2.2,lex_blank s k hk hb]⟩
theorem LexI.tok{s:ByteArray}{k:Nat}{acc:List (Tok×ByteArray)}(h:LexI s k acc)(hk:k<s.size)(hb:Pa.blank (byt s k)=false)(h0:0<tln s k)(t:Tok)(ht:tokOf (ttx s k)=some t):LexI s (k+tln s k) (acc++[(t,ttx s k)]):=by
 refine⟨tln_le s k hk,by have:=h.2.1;simp;omega,?_,?_⟩
 ·intro p hp
  rcases List.mem_append.1 hp with hp | hp
  ·exact h.2.2.1 p hp
  ·simp at hp
   subst hp
   exact tok_ok (ttx_TokB s k hk h0) ht
 ·rw[h.2.2.2,lex_tok s k hk hb t (by unfold tln at h0;omega) ht]
  show _=Option.map _ (lex s (k+tlen (s.extract k s.size)))
  cases lex s (k+tlen (s.extract k s.size))<;>simp[ttx,tln]
theorem LexI.no{s:ByteArray}{k:Nat}{acc:List (Tok×ByteArray)}(h:LexI s k acc)(hk:k<s.size)(hb:Pa.blank (byt s k)=false)(h0:tln s k=0\/tokOf (ttx s k)=none):lex s 0=none:=by
 rw[h.2.2.2,lex_no s k hk hb h0];rfl
theorem LexI.done{s:ByteArray}{k:Nat}{acc:List (Tok×ByteArray)}(h:LexI s k acc)(hk:s.size<=k):lex s 0=some acc:=by
 rw[h.2.2.2,lex_end s k hk];simp
end Go.Proofs.YtmggnimiioepeaaGreatDoor.Pa
namespace Go.Proofs.YtmggnimiioepeaaGreatDoor.Pa
open Go Go.RowKit
set_option maxHeartbeats 1000000 in
theorem l2Blank_calls(c:Int)(w:World):Calls Tryz.prog 22 #[.int .u8 c] w fun e w'=>e= .returned (.bool (blank c))/\w'=w:=by
 by_cases h32:c=32
 ·subst h32
  go_enter Tryz.func22,Tryz.ntmps22
  go_wp2
  go_ret
  exact⟨rfl,rfl⟩
 by_cases h10:c=10
 ·subst h10
  go_enter Tryz.func22,Tryz.ntmps22
  go_wp2
  go_ret
  exact⟨rfl,rfl⟩
 by_cases h9:c=9
 ·subst h9
  go_enter Tryz.func22,Tryz.ntmps22
  go_wp2
  go_ret
  exact⟨rfl,rfl⟩
 have HE:Hid (blank c=false):=by show _=_;simp[blank,h32,h10,h9]
 have b32:(c==32)=false:=beq_eq_false_iff_ne.2 h32
 have b10:(c==10)=false:=beq_eq_false_iff_ne.2 h10
 have b9:(c==9)=false:=beq_eq_false_iff_ne.2 h9
 go_enter Tryz.func22,Tryz.ntmps22
 go_wp2
 go_ret
 exact⟨congrArg (fun z=>Ending.returned (.bool z)) HE.out.symm,rfl⟩
set_option maxHeartbeats 1000000 in
theorem isBlank_calls(c:Int)(w:World):Calls Tryz.prog 35 #[.int .u8 c] w fun e w'=>e= .returned (.bool (blank c))/\w'=w:=by
 by_cases h32:c=32
 ·subst h32
  go_enter Tryz.func35,Tryz.ntmps35
  go_wp2
  go_ret
  exact⟨rfl,rfl⟩
 by_cases h10:c=10
 ·subst h10
  go_enter Tryz.func35,Tryz.ntmps35
  go_wp2
  go_ret
  exact⟨rfl,rfl⟩
 by_cases h9:c=9
 ·subst h9
  go_enter Tryz.func35,Tryz.ntmps35
  go_wp2
  go_ret
  exact⟨rfl,rfl⟩
 have HE:Hid (blank c=false):=by show _=_;simp[blank,h32,h10,h9]
 have b32:(c==32)=false:=beq_eq_false_iff_ne.2 h32
 have b10:(c==10)=false:=beq_eq_false_iff_ne.2 h10
 have b9:(c==9)=false:=beq_eq_false_iff_ne.2 h9
 go_enter Tryz.func35,Tryz.ntmps35
 go_wp2
 go_ret
 exact⟨congrArg (fun z=>Ending.returned (.bool z)) HE.out.symm,rfl⟩
def cmpL(l:List UInt8):Nat:=if l=[61]then 1 else if l=[60,62]then 2 else if l=[60]then 3 else if l=[60,61]then 4 else if l=[62]then 5 else if l=[62,61]then 6 else 0
theorem cmpL_pos(l:List UInt8):0<cmpL l↔l∈sgs.drop 5:=by
 simp only[cmpL,sgs,List.drop,List.mem_cons,List.not_mem_nil,or_false]
 constructor
 ·intro h
  repeat' split at h
  all_goals first | (simp_all;done) | omega
 ·rintro(rfl | rfl | rfl | rfl | rfl | rfl)<;>decide
set_option maxHeartbeats 4000000 in
theorem l2CompOf_calls(s:ByteArray)(w:World):Calls Tryz.prog 79 #[.string s] w fun e w'=>e= .returned (.int .i64 (cmpL s.toList))/\w'=w:=by
 generalize hl:s.toList=l
 by_cases h0:(l==[61])=true
 ·have HE:Hid (cmpL l=1):=by show _=_;rw[beq_iff_eq.1 h0];rfl
  try simp only[Bool.not_eq_true]at*
  rw[<-hl]at*
  go_enter Tryz.func79,Tryz.ntmps79
  go_wp2
  go_ret
  exact⟨congrArg (fun z:Nat=>Ending.returned (.int .i64 z)) HE.out.symm,rfl⟩
 by_cases h1:(l==[60,62])=true
 ·have HE:Hid (cmpL l=2):=by show _=_;rw[beq_iff_eq.1 h1];rfl
  try simp only[Bool.not_eq_true]at*
  rw[<-hl]at*
  go_enter Tryz.func79,Tryz.ntmps79
  go_wp2
  go_ret
  exact⟨congrArg (fun z:Nat=>Ending.returned (.int .i64 z)) HE.out.symm,rfl⟩
 by_cases h2:(l==[60])=true
 ·have HE:Hid (cmpL l=3):=by show _=_;rw[beq_iff_eq.1 h2];rfl
  try simp only[Bool.not_eq_true]at*
  rw[<-hl]at*
  go_enter Tryz.func79,Tryz.ntmps79
  go_wp2
  go_ret
  exact⟨congrArg (fun z:Nat=>Ending.returned (.int .i64 z)) HE.out.symm,rfl⟩
 by_cases h3:(l==[60,61])=true
 ·have HE:Hid (cmpL l=4):=by show _=_;rw[beq_iff_eq.1 h3];rfl
  try simp only[Bool.not_eq_true]at*
  rw[<-hl]at*
  go_enter Tryz.func79,Tryz.ntmps79
  go_wp2
  go_ret
  exact⟨congrArg (fun z:Nat=>Ending.returned (.int .i64 z)) HE.out.symm,rfl⟩
 by_cases h4:(l==[62])=true
 ·have HE:Hid (cmpL l=5):=by show _=_;rw[beq_iff_eq.1 h4];rfl
  try simp only[Bool.not_eq_true]at*
  rw[<-hl]at*
  go_enter Tryz.func79,Tryz.ntmps79
  go_wp2
  go_ret
  exact⟨congrArg (fun z:Nat=>Ending.returned (.int .i64 z)) HE.out.symm,rfl⟩
 by_cases h5:(l==[62,61])=true
 ·have HE:Hid (cmpL l=6):=by show _=_;rw[beq_iff_eq.1 h5];rfl
  try simp only[Bool.not_eq_true]at*
  rw[<-hl]at*
  go_enter Tryz.func79,Tryz.ntmps79
  go_wp2
  go_ret
  exact⟨congrArg (fun z:Nat=>Ending.returned (.int .i64 z)) HE.out.symm,rfl⟩
 have HE:Hid (cmpL l=0):=by
  show _=_
  unfold cmpL
  rw[if_neg (fun e=>h0 (beq_iff_eq.2 e)),if_neg (fun e=>h1 (beq_iff_eq.2 e)),if_neg (fun e=>h2 (beq_iff_eq.2 e)),if_neg (fun e=>h3 (beq_iff_eq.2 e)),if_neg (fun e=>h4 (beq_iff_eq.2 e)),if_neg (fun e=>h5 (beq_iff_eq.2 e))]
 try simp only[Bool.not_eq_true]at*
 rw[<-hl]at*
 go_enter Tryz.func79,Tryz.ntmps79
 go_wp2
 go_ret
 exact⟨congrArg (fun z:Nat=>Ending.returned (.int .i64 z)) HE.out.symm,rfl⟩
set_option maxHeartbeats 4000000 in
theorem l2IsSign_calls(s:ByteArray)(w:World):Calls Tryz.prog 52 #[.string s] w fun e w'=>e= .returned (.bool (dB (SignB s)))/\w'=w:=by
 have hS: ∀l,s.toList=l->(SignB s↔l∈sgs):=fun l e=>by unfold SignB;rw[e]
 have CC:=fun w=>l2CompOf_calls s w
 generalize hl:s.toList=l at*
 have HS:=hide (hS l rfl)
 clear hS
 by_cases h0:(l==[40])=true
 ·have HE:Hid (dB (SignB s)=true):=dB_true (HS.out.2 (by rw[beq_iff_eq.1 h0];decide))
  clear HS CC
  try simp only[Bool.not_eq_true]at*
  rw[<-hl]at*
  go_enter Tryz.func52,Tryz.ntmps52
  go_wp2
  go_ret
  exact⟨congrArg (fun z=>Ending.returned (.bool z)) HE.out.symm,rfl⟩
 by_cases h1:(l==[41])=true
 ·have HE:Hid (dB (SignB s)=true):=dB_true (HS.out.2 (by rw[beq_iff_eq.1 h1];decide))
  clear HS CC
  try simp only[Bool.not_eq_true]at*
  rw[<-hl]at*
  go_enter Tryz.func52,Tryz.ntmps52
  go_wp2
  go_ret
  exact⟨congrArg (fun z=>Ending.returned (.bool z)) HE.out.symm,rfl⟩
 by_cases h2:(l==[44])=true
 ·have HE:Hid (dB (SignB s)=true):=dB_true (HS.out.2 (by rw[beq_iff_eq.1 h2];decide))
  clear HS CC
  try simp only[Bool.not_eq_true]at*
  rw[<-hl]at*
  go_enter Tryz.func52,Tryz.ntmps52
  go_wp2
  go_ret
  exact⟨congrArg (fun z=>Ending.returned (.bool z)) HE.out.symm,rfl⟩
 by_cases h3:(l==[46])=true
 ·have HE:Hid (dB (SignB s)=true):=dB_true (HS.out.2 (by rw[beq_iff_eq.1 h3];decide))
  clear HS CC
  try simp only[Bool.not_eq_true]at*
  rw[<-hl]at*
  go_enter Tryz.func52,Tryz.ntmps52
  go_wp2
  go_ret
  exact⟨congrArg (fun z=>Ending.returned (.bool z)) HE.out.symm,rfl⟩
 by_cases h4:(l==[42])=true
 ·have HE:Hid (dB (SignB s)=true):=dB_true (HS.out.2 (by rw[beq_iff_eq.1 h4];decide))
  clear HS CC
  try simp only[Bool.not_eq_true]at*
  rw[<-hl]at*
  go_enter Tryz.func52,Tryz.ntmps52
  go_wp2
  go_ret
  exact⟨congrArg (fun z=>Ending.returned (.bool z)) HE.out.symm,rfl⟩
 have HE:Hid (dB (SignB s)=decide (0<cmpL l)):=by
  show _=_
  have e:SignB s↔0<cmpL l:=by
   rw[HS.out,cmpL_pos]
   have e2:sgs=[[40],[41],[44],[46],[42]]++sgs.drop 5:=rfl
   constructor
   ·intro h
    rw[e2,List.mem_append]at h
    rcases h with h | h
    ·simp only[List.mem_cons,List.not_mem_nil,or_false]at h
     rcases h with rfl | rfl | rfl | rfl | rfl
     ·exact absurd rfl h0
     ·exact absurd rfl h1
     ·exact absurd rfl h2
     ·exact absurd rfl h3
     ·exact absurd rfl h4
    ·exact h
   ·exact fun h=>List.mem_of_mem_drop h
  by_cases hp:0<cmpL l
  ·rw[dB_true (e.2 hp)];simp[hp]
  ·rw[dB_false (fun x=>hp (e.1 x))];simp[hp]
 clear HS
 generalize cmpL l=n at*
 have HC:=hide CC
 clear CC
 try simp only[Bool.not_eq_true]at*
 rw[<-hl]at*
 clear hl
 by_cases hp:0<n
 ·have hp':(0:Int)<(n:Int):=by omega
  have HE':Hid (dB (SignB s)=true):=by show _=_;rw[HE.out];simp[hp]
  go_enter Tryz.func52,Tryz.ntmps52
  go_wp2_with fail
  refine(unhide HC _).mono ?_;rintro e w1 ⟨rfl,rfl⟩
  go_wp2
  go_ret
  exact⟨congrArg (fun z=>Ending.returned (.bool z)) HE'.out.symm,rfl⟩
 ·obtain rfl:n=0:=by omega
  have HE':Hid (dB (SignB s)=false):=by show _=_;rw[HE.out];simp
  go_enter Tryz.func52,Tryz.ntmps52
  go_wp2_with fail
  refine(unhide HC _).mono ?_;rintro e w1 ⟨rfl,rfl⟩
  go_wp2
  go_ret
  exact⟨congrArg (fun z=>Ending.returned (.bool z)) HE'.out.symm,rfl⟩
set_option maxHeartbeats 4000000 in
theorem l2IsToken_calls(s:ByteArray)(w:World)(hs:s.size<=1048576):Calls Tryz.prog 23 #[.string s] w fun e w'=>e= .returned (.bool (dB (TokB s)))/\w'=w:=by
 have C1:=fun w=>isWord_calls s w hs
 have C2:=fun w=>l2IsNumber_calls s w hs
 have C3:=fun w=>l2IsSign_calls s w
 have HE:Hid (dB (TokB s)=(dB (WordB s) || dB (NumB s) || dB (SignB s))):=by
  show _=_
  unfold TokB
  by_cases a:WordB s
  ·rw[dB_true (Or.inl a),dB_true a];rfl
  ·by_cases b:NumB s
   ·rw[dB_true (Or.inr (Or.inl b)),dB_false a,dB_true b];rfl
   ·by_cases c:SignB s
    ·rw[dB_true (Or.inr (Or.inr c)),dB_false a,dB_false b,dB_true c];rfl
    ·rw[dB_false (fun h=>h.elim a (fun h=>h.elim b c)),dB_false a,dB_false b,dB_false c];rfl
 generalize dB (WordB s)=p1 at*
 generalize dB (NumB s)=p2 at*
 generalize dB (SignB s)=p3 at*
 have H1:=hide C1;have H2:=hide C2;have H3:=hide C3
 clear C1 C2 C3
 cases p1
 ·cases p2
  ·go_enter Tryz.func23,Tryz.ntmps23
   go_wp2_with fail
   refine(unhide H1 _).mono ?_;rintro e w1 ⟨rfl,rfl⟩
   go_wp2_with fail
   refine(unhide H2 _).mono ?_;rintro e w1 ⟨rfl,rfl⟩
   go_wp2_with fail
   refine(unhide H3 _).mono ?_;rintro e w1 ⟨rfl,rfl⟩
   go_wp2
   go_ret
   exact⟨congrArg (fun z=>Ending.returned (.bool z)) (HE.out.trans (by simp)).symm,rfl⟩
  ·go_enter Tryz.func23,Tryz.ntmps23
   go_wp2_with fail
   refine(unhide H1 _).mono ?_;rintro e w1 ⟨rfl,rfl⟩
   go_wp2_with fail
   refine(unhide H2 _).mono ?_;rintro e w1 ⟨rfl,rfl⟩
   go_wp2
   go_ret
   exact⟨congrArg (fun z=>Ending.returned (.bool z)) (HE.out.trans (by simp)).symm,rfl⟩
 ·go_enter Tryz.func23,Tryz.ntmps23
  go_wp2_with fail
  refine(unhide H1 _).mono ?_;rintro e w1 ⟨rfl,rfl⟩
  go_wp2
  go_ret
  exact⟨congrArg (fun z=>Ending.returned (.bool z)) (HE.out.trans (by simp)).symm,rfl⟩
end Go.Proofs.YtmggnimiioepeaaGreatDoor.Pa
namespace Go.Proofs.YtmggnimiioepeaaGreatDoor.Pa
open Go Go.RowKit
theorem conv1(w:World)(b:Nat)(c:UInt8)(k:Int)(hk:k=(c.toNat:Int))(h:w.cell? ⟨b,0,none⟩=some (.int .u8 k)):(convert 82 9 (.slice (some ⟨b,0,none⟩) 1 1)).run Tryz.prog w= .ok (.string ⟨#[c]⟩) w:=
 run_convert_bytes_back (P:=Tryz.prog) w 82 9 5 ⟨b,0,none⟩ 1 [c] Tryz.underlying82 Tryz.underlying5 Tryz.underlying9 (fun j hj=>by
  simp at hj
  subst hj
  subst hk
  simpa[Addr.add]using h)
theorem append_list(s:ByteArray)(c:UInt8):(s++(⟨#[c]⟩:ByteArray)).toList=s.toList++[c]:=by
 have e: ∀t:ByteArray,t.toList=t.data.toList:=fun t=>by
  obtain⟨d⟩:=t
  rw[show d=d.toList.toArray by simp,Go.ByteArray.toList_mk]
 rw[e,e]
 simp
set_option maxHeartbeats 4000000 in
theorem l2Longer_calls(s:ByteArray)(c:UInt8)(w:World)(h0:0<s.size)(hs:s.size<=1000000):Calls Tryz.prog 24 #[.string s,.int .u8 (c.toNat:Int)] w fun e w'=>e= .returned (.bool (dB (LongB s (c.toNat:Int))))/\Below w.heap.size w w':=by
 have L0:=fun w=>letter_calls (byt s 0) w
 have LC:=fun w=>letter_calls (c.toNat:Int) w
 have DC:=fun w=>digit_calls (c.toNat:Int) w
 have DL:=fun w=>digit_calls (byt s (s.size-1)) w
 have SC:=fun w=>l2IsSign_calls (s++⟨#[c]⟩) w
 have HS:Hid (SignB (s++⟨#[c]⟩)↔ ∃b:UInt8,(b.toNat:Int)=(c.toNat:Int)/\s.toList++[b]∈sgs):=by
  show _↔_
  unfold SignB
  rw[append_list]
  constructor
  ·exact fun h=>⟨c,rfl,h⟩
  ·rintro⟨b,e,h⟩
   have:b=c:=UInt8.toNat_inj.1 (by omega)
   rwa [this]at h
 have HE:Hid (LongB s (c.toNat:Int)↔if letter (byt s 0)=true then part (c.toNat:Int)=true else if digit (byt s (s.size-1))=true then digit (c.toNat:Int)=true else SignB (s++⟨#[c]⟩)):=by
  show _↔_
  rw[HS.out]
  exact Iff.rfl
 clear HS
 have eb0:=byt_eq s 0 h0
 have ebl:=byt_eq s (s.size-1) (by omega)
 have j0:(0:Int)<(s.size:Int):=by omega
 have j1:((s.size:Int)-1)=((s.size-1:Nat):Int):=by omega
 have CV:=conv1 (w.alloc (.cells #[.int .u8 (c.toNat:Int)] 5)) w.heap.size c (c.toNat:Int) rfl (by simp[go_sem])
 have HPp:Hid (part (c.toNat:Int)=(letter (c.toNat:Int) || digit (c.toNat:Int) || decide ((c.toNat:Int)=95))):=rfl
 generalize hlc:letter (c.toNat:Int)=lc at*
 generalize hdc:digit (c.toNat:Int)=dc at*
 generalize byt s 0=b0 at*
 generalize byt s (s.size-1)=bl at*
 generalize hl0:letter b0=l0 at*
 generalize hdl:digit bl=dl at*
 generalize hTs:s++(⟨#[c]⟩:ByteArray)=T at*
 have H0:=hide L0;have HC:=hide LC;have HD:=hide DC;have HL:=hide DL;have HSg:=hide SC;have HCV:=hide CV
 clear L0 LC DC DL SC CV
 cases l0
 ·cases dl
  ·have HR:Hid (dB (LongB s (c.toNat:Int))=dB (SignB T)):=dB_congr (by rw[HE.out];simp)
   have CV:=unhide HCV
   clear HE HPp HCV
   have A1:=fun w=>run_string_add_sum (P:=Tryz.prog) w s ⟨#[c]⟩ (by have:(⟨#[c]⟩:ByteArray).size=1:=rfl;omega)
   rw[hTs]at A1
   generalize dB (SignB T)=ps at*
   go_enter Tryz.func24,Tryz.ntmps24
   go_wp2_with fail
   refine(unhide H0 _).mono ?_;rintro e w1 ⟨rfl,rfl⟩
   go_wp2_with fail
   refine(unhide HL _).mono ?_;rintro e w1 ⟨rfl,rfl⟩
   go_wp2_with fail
   refine(unhide HSg _).mono ?_;rintro e w1 ⟨rfl,rfl⟩
   go_wp2
   go_returns
   exact⟨congrArg (fun z=>Ending.returned (.bool z)) HR.out.symm,bA (Below.refl _ _) _⟩
  ·have HR:Hid (dB (LongB s (c.toNat:Int))=dc):=by
    show _=_
    cases dc
    ·exact dB_false (fun h=>by have:=HE.out.1 h;simp at this)
    ·exact dB_true (HE.out.2 (by simp))
   clear HE HPp HCV
   go_enter Tryz.func24,Tryz.ntmps24
   go_wp2_with fail
   refine(unhide H0 _).mono ?_;rintro e w1 ⟨rfl,rfl⟩
   go_wp2_with fail
   refine(unhide HL _).mono ?_;rintro e w1 ⟨rfl,rfl⟩
   go_wp2_with fail
   refine(unhide HD _).mono ?_;rintro e w1 ⟨rfl,rfl⟩
   go_wp2
   go_ret
   exact⟨congrArg (fun z=>Ending.returned (.bool z)) HR.out.symm,Below.refl _ _⟩
 ·have HR:Hid (dB (LongB s (c.toNat:Int))=(lc || dc || decide ((c.toNat:Int)=95))):=by
   show _=_
   rw[<-HPp.out]
   cases hp:part (c.toNat:Int)
   ·exact dB_false (fun h=>by have:=HE.out.1 h;simp[hp]at this)
   ·exact dB_true (HE.out.2 (by simp[hp]))
  clear HE HPp HCV
  cases lc
  ·cases dc
   ·by_cases h95:(c.toNat:Int)=95
    ·have h95':((c.toNat:Int)==95)=true:=beq_iff_eq.2 h95
     have HR':Hid (dB (LongB s (c.toNat:Int))=true):=by show _=_;rw[HR.out];simp[h95]
     clear HR h95
     go_enter Tryz.func24,Tryz.ntmps24
     go_wp2_with fail
     refine(unhide H0 _).mono ?_;rintro e w1 ⟨rfl,rfl⟩
     go_wp2_with fail
     refine(unhide HC _).mono ?_;rintro e w1 ⟨rfl,rfl⟩
     go_wp2_with fail
     refine(unhide HD _).mono ?_;rintro e w1 ⟨rfl,rfl⟩
     go_wp2
     go_ret
     exact⟨congrArg (fun z=>Ending.returned (.bool z)) HR'.out.symm,Below.refl _ _⟩
    ·have h95':((c.toNat:Int)==95)=false:=beq_eq_false_iff_ne.2 h95
     have HR':Hid (dB (LongB s (c.toNat:Int))=false):=by show _=_;rw[HR.out];simp[h95]
     clear HR
     go_enter Tryz.func24,Tryz.ntmps24
     go_wp2_with fail
     refine(unhide H0 _).mono ?_;rintro e w1 ⟨rfl,rfl⟩
     go_wp2_with fail
     refine(unhide HC _).mono ?_;rintro e w1 ⟨rfl,rfl⟩
     go_wp2_with fail
     refine(unhide HD _).mono ?_;rintro e w1 ⟨rfl,rfl⟩
     go_wp2
     go_ret
     exact⟨congrArg (fun z=>Ending.returned (.bool z)) HR'.out.symm,Below.refl _ _⟩
   ·have HR':Hid (dB (LongB s (c.toNat:Int))=true):=by show _=_;rw[HR.out];simp
    clear HR
    go_enter Tryz.func24,Tryz.ntmps24
    go_wp2_with fail
    refine(unhide H0 _).mono ?_;rintro e w1 ⟨rfl,rfl⟩
    go_wp2_with fail
    refine(unhide HC _).mono ?_;rintro e w1 ⟨rfl,rfl⟩
    go_wp2_with fail
    refine(unhide HD _).mono ?_;rintro e w1 ⟨rfl,rfl⟩
    go_wp2
    go_ret
    exact⟨congrArg (fun z=>Ending.returned (.bool z)) HR'.out.symm,Below.refl _ _⟩
  ·have HR':Hid (dB (LongB s (c.toNat:Int))=true):=by show _=_;rw[HR.out];simp
   clear HR
   go_enter Tryz.func24,Tryz.ntmps24
   go_wp2_with fail
   refine(unhide H0 _).mono ?_;rintro e w1 ⟨rfl,rfl⟩
   go_wp2_with fail
   refine(unhide HC _).mono ?_;rintro e w1 ⟨rfl,rfl⟩
   go_wp2
   go_ret
   exact⟨congrArg (fun z=>Ending.returned (.bool z)) HR'.out.symm,Below.refl _ _⟩
end Go.Proofs.YtmggnimiioepeaaGreatDoor.Pa
