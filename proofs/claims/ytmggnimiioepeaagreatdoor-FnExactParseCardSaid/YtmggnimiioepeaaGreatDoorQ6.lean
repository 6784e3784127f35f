import Derived.Test.YtmggnimiioepeaaGreatDoorQ0
import Derived.Test.YtmggnimiioepeaaGreatDoorQ5
import Derived.Test.YtmggnimiioepeaaGreatDoorQ1
namespace Go.Proofs.YtmggnimiioepeaaGreatDoor.Pa
open Go
def SndS(p:List Tok->Option (List Rt))(nt:NT):Prop:= ∀xs out,p xs=some out->G nt xs out
theorem map_sound{sep:Tok}{p:List Tok->Option (List Rt)}{n1 n2:NT}(h1:SndS p n1)(g1: ∀xs t,G n1 xs [t]->G n2 xs [t])(g2: ∀xs ys t ts,G n1 xs [t]->G n2 ys ts->G n2 (xs++sep::ys) (t::ts)): ∀(l:List (List Tok)) (ts:List Rt),l≠[]->mapP p l=some ts->G n2 (join sep l) ts/\ts.length=l.length
 | [],_,h,_=>absurd rfl h
 | [x],ts,_,e=>by
  simp only[mapP]at e
  split at e
  ·rename_i t hp
   simp only[Option.some.injEq]at e
   subst e
   exact⟨g1 _ _ (h1 _ _ hp),rfl⟩
  ·cases e
 | x::y::l,ts,_,e=>by
  rw[mapP]at e
  split at e
  ·rename_i t hp
   split at e
   ·rename_i us hm
    simp only[Option.some.injEq]at e
    subst e
    obtain⟨i1,i2⟩:=map_sound h1 g1 g2 (y::l) us (by simp) hm
    exact⟨g2 _ _ _ _ (h1 _ _ hp) i1,by simp[i2]⟩
   ·cases e
  ·cases e
theorem src_sound:SndS srcS .src:=fun xs out e=>by
 unfold srcS at e
 split at e
 ·simp only[Option.some.injEq]at e
  subst e
  exact G.src1 _
 ·simp only[Option.some.injEq]at e
  subst e
  exact G.src2 _ _
 ·cases e
theorem srcs_sound{xs:List Tok}{ts:List Rt}(e:mapP srcS (cutL cm 0 xs)=some ts):G .srcs xs ts:=by
 have:=(map_sound src_sound (fun xs t h=>G.srcs1 xs t h) (fun xs ys t ts h1 h2=>G.srcs2 xs ys t ts h1 h2) _ _ (cutL_ne cm xs 0) e).1
 rwa [cut_join]at this
theorem tailS_sound{co:List Tok->Option (List Rt)}(h:SndS co .cond):SndS (tailS co) .tail:=fun xs out e=>by
 unfold tailS at e
 split at e
 ·split at e
  ·exact G.tail1 _ _ (srcs_sound e)
  ·rename_i r x y hf
   split at e
   ·rename_i ss hm
    split at e
    ·rename_i c hc
     simp only[Option.some.injEq]at e
     subst e
     rw[fst1_app _ _ _ _ hf]
     exact G.tail2 _ _ _ _ (srcs_sound hm) (h _ _ hc)
    ·cases e
   ·cases e
 ·cases e
theorem selS_sound{M:Int}{sc ta:List Tok->Option (List Rt)}(h1:SndS sc .scal)(h2:SndS ta .tail){xs:List Tok}{out:List Rt}(e:selS M sc ta xs=some out): ∃x y ts ks,xs=x++y/\out=[.mk 6 ts.length M [] [] (ts++ks)]/\G .scals x ts/\G .tail y ks:=by
 unfold selS at e
 split at e
 ·cases e
 ·rename_i x y hf
  split at e
  ·rename_i ts hm
   split at e
   ·rename_i ks ht
    simp only[Option.some.injEq]at e
    subst e
    have:=(map_sound h1 (fun xs t h=>G.scals1 xs t h) (fun xs ys t ts h1 h2=>G.scals2 xs ys t ts h1 h2) _ _ (cutL_ne cm x 0) hm).1
    rw[cut_join]at this
    exact⟨x,kFrom::y,ts,ks,fst1_app _ _ _ _ hf,rfl,this,h2 _ _ ht⟩
   ·cases e
  ·cases e
theorem aggS_sound{sc ta:List Tok->Option (List Rt)}(h1:SndS sc .scal)(h2:SndS ta .tail):SndS (aggS sc ta) .scal:=fun xs out e=>by
 unfold aggS at e
 split at e
 ·cases e
 ·rename_i i hw
  have hx:=wraps_app hw
  split at e
  ·rename_i w r
   split at e
   ·rename_i ha
    split at e
    ·cases e
    ·rename_i x y hf
     have hr:=fst1_app _ _ _ _ hf
     split at e
     ·rename_i hc
      split at e
      ·rename_i ks ht
       simp only[Option.some.injEq]at e
       subst e
       rw[hx,hr,hc.2,hc.1]
       have:=G.aggAll _ _ (h2 _ _ ht)
       simpa using this
      ·cases e
     ·split at e
      ·rename_i t hs
       split at e
       ·rename_i ks ht
        simp only[Option.some.injEq]at e
        subst e
        rw[hx,hr]
        have:=G.agg w _ _ _ _ ha (h1 _ _ hs) (h2 _ _ ht)
        simpa using this
       ·cases e
      ·cases e
   ·cases e
  ·cases e
theorem quS_sound{K N M:Int}{qu:List Tok->Option (List Rt)}(h:SndS qu .query){t:Rt}{xs:List Tok}{out:List Rt}(e:quS K N M qu t xs=some out): ∃i q,xs=pO::i++[pC]/\out=[.mk K N M [] [] [t,q]]/\G .query i [q]:=by
 unfold quS at e
 split at e
 ·cases e
 ·rename_i i hw
  split at e
  ·rename_i q hq
   simp only[Option.some.injEq]at e
   subst e
   exact⟨i,q,wraps_app hw,rfl,h _ _ hq⟩
  ·cases e
theorem opndS_sound{sc qu:List Tok->Option (List Rt)}(h1:SndS sc .scal)(h2:SndS qu .query){x:List Tok}{t:Rt}(hx:G .scal x [t]){c:Tok}(hc:isOp c=true){y:List Tok}{out:List Rt}(e:opndS sc qu t c y=some out):G .prim (x++c::y) out:=by
 unfold opndS at e
 split at e
 ·rename_i h
  subst h
  split at e
  ·rename_i hy
   simp only[Option.some.injEq]at e
   subst e hy
   exact G.isN _ _ hx
  ·split at e
   ·rename_i hy
    simp only[Option.some.injEq]at e
    subst e hy
    exact G.isNN _ _ hx
   ·cases e
 ·rename_i n1
  split at e
  ·rename_i h
   subst h
   obtain⟨i,q,rfl,rfl,hg⟩:=quS_sound h2 e
   have:=G.inn _ _ _ _ hx hg
   simpa using this
  ·rename_i n2
   split at e
   ·rename_i h
    subst h
    split at e
    ·obtain⟨i,q,rfl,rfl,hg⟩:=quS_sound h2 e
     have:=G.nin _ _ _ _ hx hg
     simpa using this
    ·cases e
   ·rename_i n3
    have hcc:0<compOf c:=by
     unfold isOp at hc
     simp only[decide_eq_true_eq]at hc
     rcases hc with h | h | h | h
     ·exact absurd h n1
     ·exact absurd h n2
     ·exact absurd h n3
     ·exact h
    split at e
    ·obtain⟨i,q,rfl,rfl,hg⟩:=quS_sound h2 e
     have:=G.quAll c _ _ _ _ hcc hx hg
     simpa using this
    ·obtain⟨i,q,rfl,rfl,hg⟩:=quS_sound h2 e
     have:=G.quAny c _ _ _ _ hcc hx hg
     simpa using this
    ·split at e
     ·rename_i u hs
      simp only[Option.some.injEq]at e
      subst e
      exact G.cmp c _ _ _ _ hcc hx (h1 _ _ hs)
     ·cases e
theorem allS_sound{p:List Tok->Option (List Rt)}(h:SndS p .sel): ∀(l ys:List (List Tok)) (x:List Tok) (ts:List Rt),allS l=some ys->mapP p (x::ys)=some ts->G .sels (join kUnion (x::l)) ts/\ts.length=l.length+1
 | [],ys,x,ts,ha,e=>by
  simp only[allS,Option.some.injEq]at ha
  subst ha
  simp only[mapP]at e
  split at e
  ·rename_i t hp
   simp only[Option.some.injEq]at e
   subst e
   exact⟨G.sels1 _ _ (h _ _ hp),rfl⟩
  ·cases e
 | z::l,ys,x,ts,ha,e=>by
  simp only[allS]at ha
  split at ha
  ·rename_i y
   split at ha
   ·rename_i zs hz
    simp only[Option.some.injEq]at ha
    subst ha
    rw[mapP]at e
    split at e
    ·rename_i t hp
     split at e
     ·rename_i us hm
      simp only[Option.some.injEq]at e
      subst e
      obtain⟨i1,i2⟩:=allS_sound h l zs y us hz hm
      refine⟨?_,by simp[i2]⟩
      show G .sels (x++kUnion::join kUnion ((kAll::y)::l)) (t::us)
      rw[join_cons]
      exact G.sels2 _ _ _ _ (h _ _ hp) i1
     ·cases e
    ·cases e
   ·cases ha
  ·cases ha
theorem two_of{ts:List Rt}{n:Nat}(h:ts.length=n+2): ∃t u l,ts=t::u::l:=by
 cases ts with
 | nil=>simp at h
 | cons t r=>
  cases r with
  | nil=>simp at h
  | cons u l=>exact⟨t,u,l,rfl⟩
theorem bool_sound{sep:Tok}{K:Int}{p:List Tok->Option (List Rt)}{n1 n2 n3:NT}(h1:SndS p n1)(hs: ∀xs out,p xs=some out-> ∃t,out=[t])(g1: ∀xs t,G n1 xs [t]->G n2 xs [t])(g2: ∀xs ys t ts,G n1 xs [t]->G n2 ys ts->G n2 (xs++sep::ys) (t::ts))(g3: ∀xs t,G n2 xs [t]->G n3 xs [t])(g4: ∀xs t u ts,G n2 xs (t::u::ts)->G n3 xs [.mk K 0 0 [] [] (t::u::ts)]){xs:List Tok}{out:List Rt}
  (e:(match cutL sep 0 xs with | [x]=>p x | l=>(match mapP p l with | some ts=>some [Rt.mk K 0 0 [] [] ts] | none=>none))=some out):G n3 xs out:=by
 have hj:=cut_join sep xs 0
 have hne:=cutL_ne sep xs 0
 split at e
 ·rename_i x hc
  rw[hc]at hj
  obtain⟨t,rfl⟩:=hs _ _ e
  rw[<-hj]
  exact g3 _ _ (g1 _ _ (h1 _ _ e))
 ·rename_i hn
  split at e
  ·rename_i ts hm
   simp only[Option.some.injEq]at e
   subst e
   obtain⟨i1,i2⟩:=map_sound h1 g1 g2 _ _ hne hm
   rw[hj]at i1
   have hlen: ∃n,ts.length=n+2:=by
    cases hc:cutL sep 0 xs with
    | nil=>exact absurd hc hne
    | cons a l=>
     cases l with
     | nil=>exact absurd hc (hn a)
     | cons b l=>exact⟨l.length,by rw[i2,hc];rfl⟩
   obtain⟨n,hn⟩:=hlen
   obtain⟨t,u,l,rfl⟩:=two_of hn
   exact g4 _ _ _ _ i1
  ·cases e
def single:NT->Prop:=fun nt=>nt= .scal\/nt= .prim\/nt= .conj\/nt= .cond\/nt= .sel\/nt= .query
theorem G.single{nt:NT}{xs:List Tok}{out:List Rt}(h:G nt xs out)(hs:Pa.single nt): ∃t,out=[t]:=by
 cases h<;>first | exact⟨_,rfl⟩ | (simp[Pa.single]at hs)
theorem sP_sound: ∀f nt,SndS (sP f nt) nt
 | 0,nt=>fun xs out e=>by simp[sP]at e
 | f+1,.scal=>fun xs out e=>by
  simp only[sP]at e
  split at e
  ·simp only[Option.some.injEq]at e
   subst e
   exact G.int _
  ·simp only[Option.some.injEq]at e
   subst e
   exact G.null
  ·split at e
   ·rename_i hv
    simp only[Option.some.injEq]at e
    subst e
    exact G.col _ _ hv
   ·cases e
  ·exact aggS_sound (sP_sound f .scal) (sP_sound f .tail) _ _ e
 | f+1,.tail=>tailS_sound (sP_sound f .cond)
 | f+1,.prim=>fun xs out e=>by
  simp only[sP]at e
  split at e
  ·split at e
   ·rename_i t hp
    simp only[Option.some.injEq]at e
    subst e
    exact G.not _ _ (sP_sound f .prim _ _ hp)
   ·cases e
  ·split at e
   ·cases e
   ·rename_i i hw
    split at e
    ·rename_i q hq
     simp only[Option.some.injEq]at e
     subst e
     rw[wraps_app hw]
     exact G.exist _ _ (sP_sound f .query _ _ hq)
    ·cases e
  ·split at e
   ·split at e
    ·cases e
    ·rename_i i hw
     obtain⟨t,rfl⟩:=(sP_sound f .cond _ _ e).single (by simp[single])
     rw[wraps_app hw]
     exact G.br _ _ (sP_sound f .cond _ _ e)
   ·split at e
    ·cases e
    ·rename_i x c y ho
     split at e
     ·rename_i t hs
      obtain⟨h1,h2⟩:=opS_app _ _ _ _ _ ho
      rw[h1]
      exact opndS_sound (sP_sound f .scal) (sP_sound f .query) (sP_sound f .scal _ _ hs) h2 e
     ·cases e
 | f+1,.conj=>fun xs out e=>bool_sound (sP_sound f .prim) (fun xs out h=>(sP_sound f .prim _ _ h).single (by simp[single])) (fun xs t h=>G.prims1 xs t h) (fun xs ys t ts h1 h2=>G.prims2 xs ys t ts h1 h2) (fun xs t h=>G.conj1 xs t h) (fun xs t u ts h=>G.conj2 xs t u ts h) e
 | f+1,.cond=>fun xs out e=>bool_sound (sP_sound f .conj) (fun xs out h=>(sP_sound f .conj _ _ h).single (by simp[single])) (fun xs t h=>G.conjs1 xs t h) (fun xs ys t ts h1 h2=>G.conjs2 xs ys t ts h1 h2) (fun xs t h=>G.cond1 xs t h) (fun xs t u ts h=>G.cond2 xs t u ts h) e
 | f+1,.sel=>fun xs out e=>by
  simp only[sP]at e
  split at e
  ·obtain⟨x,y,ts,ks,h1,rfl,h2,h3⟩:=selS_sound (sP_sound f .scal) (sP_sound f .tail) e
   rw[h1]
   exact G.selD _ _ _ _ h2 h3
  ·obtain⟨x,y,ts,ks,h1,rfl,h2,h3⟩:=selS_sound (sP_sound f .scal) (sP_sound f .tail) e
   rw[h1]
   exact G.sel _ _ _ _ h2 h3
  ·cases e
 | f+1,.query=>fun xs out e=>by
  have hj:=cut_join kUnion xs 0
  simp only[sP]at e
  split at e
  ·cases e
  ·rename_i x hc
   rw[hc]at hj
   obtain⟨t,rfl⟩:=(sP_sound f .sel _ _ e).single (by simp[single])
   rw[<-hj]
   exact G.query1 _ _ (G.sels1 _ _ (sP_sound f .sel _ _ e))
  ·rename_i x l hn hc
   split at e
   ·cases e
   ·rename_i ys ha
    split at e
    ·rename_i ts hm
     simp only[Option.some.injEq]at e
     subst e
     obtain⟨i1,i2⟩:=allS_sound (sP_sound f .sel) l ys x ts ha hm
     rw[hc]at hj
     rw[hj]at i1
     cases l with
     | nil=>exact(hn rfl).elim
     | cons b l=>
      obtain⟨t,u,r,rfl⟩:=two_of (n:=l.length) (by rw[i2];rfl)
      exact G.query2 _ _ _ _ i1
    ·cases e
 | f+1,.scals=>fun xs out e=>by simp[sP]at e
 | f+1,.src=>fun xs out e=>by simp[sP]at e
 | f+1,.srcs=>fun xs out e=>by simp[sP]at e
 | f+1,.prims=>fun xs out e=>by simp[sP]at e
 | f+1,.conjs=>fun xs out e=>by simp[sP]at e
 | f+1,.sels=>fun xs out e=>by simp[sP]at e
end Go.Proofs.YtmggnimiioepeaaGreatDoor.Pa
namespace Go.Proofs.YtmggnimiioepeaaGreatDoor.Pa
open Go
theorem no_sep{nt:NT}{xs:List Tok}{ts:List Rt}(h:G nt xs ts){k:Nat}(hk:allow nt k=false):Tok.sy k∉tops 0 xs:=fun e=>by
 have:=h.okp.alw k e
 rw[hk]at this
 cases this
theorem no_op{xs:List Tok}{ts:List Rt}(h:G .scal xs ts): ∀t∈tops 0 xs,isOp t=false:=fun t ht=>by
 cases t with
 | nam s=>simp[isOp,compOf]
 | num v=>simp[isOp,compOf]
 | sy k=>
  have:=h.okp.alw k ht
  have hk:k=0\/k=1\/k=3\/k=24:=by simp[allow]at this;omega
  rcases hk with rfl | rfl | rfl | rfl<;>rfl
def rnk:NT->Nat
 | .prim=>1 | .conj=>2 | .cond=>3 | .query=>1 | _=>0
def CplS:NT->List Tok->List Rt->Prop
 | .src,xs,out=>srcS xs=some out
 | .srcs,xs,out=>mapP srcS (cutL cm 0 xs)=some out
 | .scals,xs,out=> ∀f,8*xs.length<f->mapP (sP f .scal) (cutL cm 0 xs)=some out
 | .prims,xs,out=> ∀f,1+8*xs.length<f->mapP (sP f .prim) (cutL kAnd 0 xs)=some out
 | .conjs,xs,out=> ∀f,2+8*xs.length<f->mapP (sP f .conj) (cutL kOr 0 xs)=some out
 | .sels,xs,out=> ∀f,8*xs.length<f-> ∃x l ys,cutL kUnion 0 xs=x::l/\allS l=some ys/\mapP (sP f .sel) (x::ys)=some out
 | nt,xs,out=> ∀f,rnk nt+8*xs.length<f->sP f nt xs=some out
theorem mapP_cons{p:List Tok->Option (List Rt)}{x:List Tok}{l:List (List Tok)}{t:Rt}{ts:List Rt}(h1:p x=some [t])(h2:mapP p l=some ts):mapP p (x::l)=some (t::ts):=by
 rw[mapP,h1,h2]
theorem mapP_one{p:List Tok->Option (List Rt)}{x:List Tok}{t:Rt}(h1:p x=some [t]):mapP p [x]=some [t]:=mapP_cons h1 rfl
theorem mapP_len{p:List Tok->Option (List Rt)}: ∀{l:List (List Tok)} {ts:List Rt},mapP p l=some ts->ts.length=l.length
 | [],ts,h=>by simp only[mapP,Option.some.injEq]at h;subst h;rfl
 | x::l,ts,h=>by
  rw[mapP]at h
  split at h
  ·split at h
   ·rename_i us hm
    simp only[Option.some.injEq]at h
    subst h
    simp[mapP_len hm]
   ·cases h
  ·cases h
theorem quS_cpl{K N M:Int}{f:Nat}{t q:Rt}{ys:List Tok}(hb:Bal ys)(h:sP f .query ys=some [q]):quS K N M (sP f .query) t (pO::ys++[pC])=some [.mk K N M [] [] [t,q]]:=by
 unfold quS
 rw[wraps_br hb]
 dsimp only
 rw[h]
theorem primS{xs r:List Tok}{c:Tok}{t:Rt}{out:List Rt}{f:Nat}(hg:G .scal xs [t])(hs:sP f .scal xs=some [t])(hc:isOp c=true)(ho:opndS (sP f .scal) (sP f .query) t c r=some out):sP (f+1) .prim (xs++c::r)=some out:=by
 have hop:=op_at (ys:=r) hg.okp.bal (no_op hg) hc
 have key: ∀ys,ys=xs++c::r->(if ys.head?=some pO/\ys[1]?≠some kSel then(match wraps ys with | none=>none | some i=>sP f .cond i)
   else(match opS 0 ys with
    | none=>none
    | some (x,c,y)=>(match sP f .scal x with
     | some [t]=>opndS (sP f .scal) (sP f .query) t c y
     | _=>none)))=some out:=fun ys e=>by
  have hn: ¬(ys.head?=some pO/\ys[1]?≠some kSel):=fun⟨h1,h2⟩=>by
   rw[e]at h1 h2
   rcases scal_head hg with⟨v,l,rfl⟩ | ⟨s,l,rfl⟩ | ⟨l,rfl⟩ | ⟨l,rfl⟩
   ·simp at h1
   ·simp at h1
   ·simp at h1
   ·exact h2 rfl
  rw[if_neg hn,e,hop]
  dsimp only
  rw[hs]
  exact ho
 rcases scal_head hg with⟨v,l,rfl⟩ | ⟨s,l,rfl⟩ | ⟨l,rfl⟩ | ⟨l,rfl⟩<;>exact key _ rfl
theorem bool_one{sep:Tok}{K:Int}{p:List Tok->Option (List Rt)}{xs:List Tok}{t:Rt}(h:mapP p (cutL sep 0 xs)=some [t]):(match cutL sep 0 xs with | [x]=>p x | l=>(match mapP p l with | some ts=>some [Rt.mk K 0 0 [] [] ts] | none=>none))=some [t]:=by
 have hl:=mapP_len h
 cases hc:cutL sep 0 xs with
 | nil=>exact absurd hc (cutL_ne _ _ _)
 | cons x l=>
  rw[hc]at hl h
  cases l with
  | cons y l=>simp at hl
  | nil=>
   dsimp only
   simp only[mapP]at h
   split at h
   ·rename_i t' hp
    simp only[Option.some.injEq,List.cons.injEq,and_true]at h
    subst h
    exact hp
   ·cases h
theorem bool_two{sep:Tok}{K:Int}{p:List Tok->Option (List Rt)}{xs:List Tok}{t u:Rt}{ts:List Rt}(h:mapP p (cutL sep 0 xs)=some (t::u::ts)):(match cutL sep 0 xs with | [x]=>p x | l=>(match mapP p l with | some ts=>some [Rt.mk K 0 0 [] [] ts] | none=>none))=some [Rt.mk K 0 0 [] [] (t::u::ts)]:=by
 have hl:=mapP_len h
 split
 ·rename_i x hc
  rw[hc]at hl
  simp at hl
 ·rw[h]
theorem compOf_isOp{c:Tok}(h:0<compOf c):isOp c=true:=by
 unfold isOp
 simp only[decide_eq_true_eq]
 exact Or.inr (Or.inr (Or.inr h))
theorem compOf_ne{c:Tok}(h:0<compOf c):c≠kIs/\c≠kIn/\c≠kNot:=by
 refine⟨fun e=> ?_,fun e=> ?_,fun e=> ?_⟩<;>(subst e;simp[compOf]at h)
set_option maxHeartbeats 4000000 in
theorem sP_complete{nt:NT}{xs:List Tok}{out:List Rt}(h:G nt xs out):CplS nt xs out:=by
 induction h with
 | int v=>
  intro f hf
  obtain⟨f,rfl⟩: ∃g,f=g+1:=⟨f-1,by omega⟩
  rfl
 | null=>
  intro f hf
  obtain⟨f,rfl⟩: ∃g,f=g+1:=⟨f-1,by omega⟩
  rfl
 | col s v h=>
  intro f hf
  obtain⟨f,rfl⟩: ∃g,f=g+1:=⟨f-1,by omega⟩
  show(if 0<=v then some [rCol s v]else none)=_
  rw[if_pos h]
 | agg w xs ys t ks hw hx hy ihx ihy=>
  intro f hf
  obtain⟨f,rfl⟩: ∃g,f=g+1:=⟨f-1,by omega⟩
  have e:pO::kSel::w::pO::xs++pC::ys++[pC]=pO::(kSel::w::pO::(xs++pC::ys))++[pC]:=by simp
  rw[e]at hf⊢
  have hb:Bal (kSel::w::pO::(xs++pC::ys)):=by
   obtain⟨k,rfl,h1,h2⟩:=aggOf_sy hw
   have:Bal (kSel:: .sy k::(pO::xs++[pC])++ys):=Bal.append (Bal.cons (by simp) (by simp) (Bal.cons (by simp;omega) (by simp;omega) hx.okp.bal.br)) hy.okp.bal
   simpa using this
  have hst: ¬(w= .sy 25/\xs=[star]):=fun⟨_,e⟩=>by
   rcases scal_head hx with⟨v,r,h⟩ | ⟨s,r,h⟩ | ⟨r,h⟩ | ⟨r,h⟩<;>rw[e]at h<;>simp at h
  show aggS (sP f .scal) (sP f .tail) (pO::(kSel::w::pO::(xs++pC::ys))++[pC])=_
  unfold aggS
  rw[wraps_br hb]
  show(if 0<aggOf w then(match fst1 pC 1 (xs++pC::ys)with
    | none=>none
    | some (x,y)=>if w= .sy 25/\x=[star]then(match sP f .tail y with | some ks=>some [Rt.mk 4 0 1 [] [] ks] | none=>none)
     else(match sP f .scal x with
      | some [t]=>(match sP f .tail y with | some ks=>some [Rt.mk 4 1 (aggOf w) [] [] (t::ks)] | none=>none)
      | _=>none))else none)=_
  rw[if_pos hw,fst_close hx.okp.bal]
  dsimp only
  rw[if_neg hst,ihx f (by simp[rnk]at hf⊢;omega)]
  dsimp only
  rw[ihy f (by simp[rnk]at hf⊢;omega)]
 | aggAll ys ks hy ihy=>
  intro f hf
  obtain⟨f,rfl⟩: ∃g,f=g+1:=⟨f-1,by omega⟩
  have e:pO::kSel::Tok.sy 25::pO::star::pC::ys++[pC]=pO::(kSel::Tok.sy 25::pO::([star]++pC::ys))++[pC]:=by simp
  rw[e]at hf⊢
  have hb1:Bal [star]:=Bal.one (by simp) (by simp)
  have hb:Bal (kSel:: .sy 25::pO::([star]++pC::ys)):=by
   have:Bal (kSel:: .sy 25::(pO::[star]++[pC])++ys):=Bal.append (Bal.cons (by simp) (by simp) (Bal.cons (by simp) (by simp) hb1.br)) hy.okp.bal
   simpa using this
  show aggS (sP f .scal) (sP f .tail) (pO::(kSel:: .sy 25::pO::([star]++pC::ys))++[pC])=_
  unfold aggS
  rw[wraps_br hb]
  show(match fst1 pC 1 ([star]++pC::ys)with
    | none=>none
    | some (x,y)=>if(Tok.sy 25=Tok.sy 25/\x=[star])then(match sP f .tail y with | some ks=>some [Rt.mk 4 0 1 [] [] ks] | none=>none)
     else(match sP f .scal x with
      | some [t]=>(match sP f .tail y with | some ks=>some [Rt.mk 4 1 (aggOf (Tok.sy 25)) [] [] (t::ks)] | none=>none)
      | _=>none))=_
  rw[fst_close hb1]
  dsimp only
  rw[if_pos ⟨rfl,rfl⟩,ihy f (by simp[rnk]at hf⊢;omega)]
 | scals1 xs t hx ihx=>
  intro f hf
  rw[cut_one (no_sep hx rfl)]
  exact mapP_one (ihx f (by simp[rnk];omega))
 | scals2 xs ys t ts hx hy ihx ihy=>
  intro f hf
  rw[cut_two hx.okp.bal (no_sep hx rfl) (by simp) (by simp)]
  exact mapP_cons (ihx f (by simp[rnk]at hf⊢;omega)) (ihy f (by simp at hf;omega))
 | src1 a=>rfl
 | src2 a b=>rfl
 | srcs1 xs t hx ihx=>
  show mapP srcS (cutL cm 0 xs)=_
  rw[cut_one (no_sep hx rfl)]
  exact mapP_one ihx
 | srcs2 xs ys t ts hx hy ihx ihy=>
  show mapP srcS (cutL cm 0 (xs++cm::ys))=_
  rw[cut_two hx.okp.bal (no_sep hx rfl) (by simp) (by simp)]
  exact mapP_cons ihx ihy
 | tail1 xs ts hx ihx=>
  intro f hf
  obtain⟨f,rfl⟩: ∃g,f=g+1:=⟨f-1,by omega⟩
  show(match fst1 kWhere 0 xs with
   | none=>mapP srcS (cutL cm 0 xs)
   | some (x,y)=>match mapP srcS (cutL cm 0 x)with
    | some ss=>(match sP f .cond y with | some [c]=>some (ss++[c]) | _=>none)
    | none=>none)=_
  rw[fst_none (no_sep hx rfl)]
  exact ihx
 | tail2 xs ys ts c hx hy ihx ihy=>
  intro f hf
  obtain⟨f,rfl⟩: ∃g,f=g+1:=⟨f-1,by omega⟩
  show(match fst1 kWhere 0 (xs++kWhere::ys)with
   | none=>mapP srcS (cutL cm 0 (xs++kWhere::ys))
   | some (x,y)=>match mapP srcS (cutL cm 0 x)with
    | some ss=>(match sP f .cond y with | some [c]=>some (ss++[c]) | _=>none)
    | none=>none)=_
  rw[fst_at hx.okp.bal (no_sep hx rfl) (by simp)]
  dsimp only
  rw[show mapP srcS (cutL cm 0 xs)=some ts from ihx]
  dsimp only
  rw[ihy f (by simp[rnk]at hf⊢;omega)]
 | not xs t hx ihx=>
  intro f hf
  obtain⟨f,rfl⟩: ∃g,f=g+1:=⟨f-1,by omega⟩
  show(match sP f .prim xs with | some [t]=>some [Rt.mk 13 0 0 [] [] [t]] | _=>none)=_
  rw[ihx f (by simp[rnk]at hf⊢;omega)]
 | exist xs t hx ihx=>
  intro f hf
  obtain⟨f,rfl⟩: ∃g,f=g+1:=⟨f-1,by omega⟩
  show(match wraps (pO::xs++[pC])with | none=>none | some i=>(match sP f .query i with | some [q]=>some [Rt.mk 10 0 0 [] [] [q]] | _=>none))=_
  rw[wraps_br hx.okp.bal]
  dsimp only
  rw[ihx f (by simp[rnk]at hf⊢;omega)]
 | br xs t hx ihx=>
  intro f hf
  obtain⟨f,rfl⟩: ∃g,f=g+1:=⟨f-1,by omega⟩
  have hw:=wraps_br hx.okp.bal
  obtain⟨x,r,rfl,hne⟩:=cond_head hx (by simp[condish])
  show(if(pO::(x::r)++[pC]).head?=some pO/\(pO::(x::r)++[pC])[1]?≠some kSel then(match wraps (pO::(x::r)++[pC])with | none=>none | some i=>sP f .cond i)else _)=_
  rw[if_pos ⟨rfl,by simpa using hne⟩,hw]
  exact ihx f (by simp[rnk]at hf⊢;omega)
 | isN xs t hx ihx=>
  intro f hf
  obtain⟨f,rfl⟩: ∃g,f=g+1:=⟨f-1,by omega⟩
  exact primS hx (ihx f (by simp[rnk]at hf⊢;omega)) rfl rfl
 | isNN xs t hx ihx=>
  intro f hf
  obtain⟨f,rfl⟩: ∃g,f=g+1:=⟨f-1,by omega⟩
  exact primS hx (ihx f (by simp[rnk]at hf⊢;omega)) rfl rfl
 | inn xs ys t q hx hy ihx ihy=>
  intro f hf
  obtain⟨f,rfl⟩: ∃g,f=g+1:=⟨f-1,by omega⟩
  have e:xs++kIn::pO::ys++[pC]=xs++kIn::(pO::ys++[pC]):=by simp
  rw[e]at hf⊢
  exact primS hx (ihx f (by simp[rnk]at hf⊢;omega)) rfl (quS_cpl hy.okp.bal (ihy f (by simp[rnk]at hf⊢;omega)))
 | nin xs ys t q hx hy ihx ihy=>
  intro f hf
  obtain⟨f,rfl⟩: ∃g,f=g+1:=⟨f-1,by omega⟩
  have e:xs++kNot::kIn::pO::ys++[pC]=xs++kNot::(kIn::(pO::ys++[pC])):=by simp
  rw[e]at hf⊢
  exact primS hx (ihx f (by simp[rnk]at hf⊢;omega)) rfl (quS_cpl hy.okp.bal (ihy f (by simp[rnk]at hf⊢;omega)))
 | quAny c xs ys t q hc hx hy ihx ihy=>
  intro f hf
  obtain⟨f,rfl⟩: ∃g,f=g+1:=⟨f-1,by omega⟩
  have e:xs++c::kAny::pO::ys++[pC]=xs++c::(kAny::(pO::ys++[pC])):=by simp
  rw[e]at hf⊢
  obtain⟨n1,n2,n3⟩:=compOf_ne hc
  refine primS hx (ihx f (by simp[rnk]at hf⊢;omega)) (compOf_isOp hc) ?_
  unfold opndS
  rw[if_neg n1,if_neg n2,if_neg n3]
  exact quS_cpl hy.okp.bal (ihy f (by simp[rnk]at hf⊢;omega))
 | quAll c xs ys t q hc hx hy ihx ihy=>
  intro f hf
  obtain⟨f,rfl⟩: ∃g,f=g+1:=⟨f-1,by omega⟩
  have e:xs++c::kAll::pO::ys++[pC]=xs++c::(kAll::(pO::ys++[pC])):=by simp
  rw[e]at hf⊢
  obtain⟨n1,n2,n3⟩:=compOf_ne hc
  refine primS hx (ihx f (by simp[rnk]at hf⊢;omega)) (compOf_isOp hc) ?_
  unfold opndS
  rw[if_neg n1,if_neg n2,if_neg n3]
  exact quS_cpl hy.okp.bal (ihy f (by simp[rnk]at hf⊢;omega))
 | cmp c xs ys t u hc hx hy ihx ihy=>
  intro f hf
  obtain⟨f,rfl⟩: ∃g,f=g+1:=⟨f-1,by omega⟩
  obtain⟨n1,n2,n3⟩:=compOf_ne hc
  have hs:=ihy f (by simp[rnk]at hf⊢;omega)
  refine primS hx (ihx f (by simp[rnk]at hf⊢;omega)) (compOf_isOp hc) ?_
  unfold opndS
  rw[if_neg n1,if_neg n2,if_neg n3]
  rcases scal_head hy with⟨v,r,rfl⟩ | ⟨s,r,rfl⟩ | ⟨r,rfl⟩ | ⟨r,rfl⟩<;>(simp only[hs])
 | prims1 xs t hx ihx=>
  intro f hf
  rw[cut_one (no_sep hx rfl)]
  exact mapP_one (ihx f (by simp[rnk];omega))
 | prims2 xs ys t ts hx hy ihx ihy=>
  intro f hf
  rw[cut_two hx.okp.bal (no_sep hx rfl) (by simp) (by simp)]
  exact mapP_cons (ihx f (by simp[rnk]at hf⊢;omega)) (ihy f (by simp at hf;omega))
 | conj1 xs t hx ihx=>
  intro f hf
  obtain⟨f,rfl⟩: ∃g,f=g+1:=⟨f-1,by omega⟩
  exact bool_one (ihx f (by simp[rnk]at hf⊢;omega))
 | conj2 xs t u ts hx ihx=>
  intro f hf
  obtain⟨f,rfl⟩: ∃g,f=g+1:=⟨f-1,by omega⟩
  exact bool_two (ihx f (by simp[rnk]at hf⊢;omega))
 | conjs1 xs t hx ihx=>
  intro f hf
  rw[cut_one (no_sep hx rfl)]
  exact mapP_one (ihx f (by simp[rnk];omega))
 | conjs2 xs ys t ts hx hy ihx ihy=>
  intro f hf
  rw[cut_two hx.okp.bal (no_sep hx rfl) (by simp) (by simp)]
  exact mapP_cons (ihx f (by simp[rnk]at hf⊢;omega)) (ihy f (by simp at hf;omega))
 | cond1 xs t hx ihx=>
  intro f hf
  obtain⟨f,rfl⟩: ∃g,f=g+1:=⟨f-1,by omega⟩
  exact bool_one (ihx f (by simp[rnk]at hf⊢;omega))
 | cond2 xs t u ts hx ihx=>
  intro f hf
  obtain⟨f,rfl⟩: ∃g,f=g+1:=⟨f-1,by omega⟩
  exact bool_two (ihx f (by simp[rnk]at hf⊢;omega))
 | sel xs ys ts ks hx hy ihx ihy=>
  intro f hf
  obtain⟨f,rfl⟩: ∃g,f=g+1:=⟨f-1,by omega⟩
  obtain⟨r,rfl⟩:=tail_from hy
  have hs:selS 0 (sP f .scal) (sP f .tail) (xs++kFrom::r)=some [.mk 6 ts.length 0 [] [] (ts++ks)]:=by
   unfold selS
   rw[fst_at hx.okp.bal (no_sep hx rfl) (by simp)]
   dsimp only
   rw[ihx f (by simp[rnk]at hf⊢;omega)]
   dsimp only
   rw[ihy f (by simp[rnk]at hf⊢;omega)]
  obtain⟨x,l,rfl,hne⟩:=scals_head hx
  have e2:sP (f+1) .sel (kSel::x::(l++kFrom::r))=selS 0 (sP f .scal) (sP f .tail) (x::(l++kFrom::r)):=by
   cases x with
   | nam s=>rfl
   | num v=>rfl
   | sy k=>
    simp only[sP]
    split
    ·rename_i heq
     simp at heq
     exact absurd (by rw[heq.1]) hne
    ·rename_i heq
     simp at heq
     rw[heq]
    ·rename_i h1 h2
     exact absurd rfl (h2 _)
  exact e2.trans hs
 | selD xs ys ts ks hx hy ihx ihy=>
  intro f hf
  obtain⟨f,rfl⟩: ∃g,f=g+1:=⟨f-1,by omega⟩
  obtain⟨r,rfl⟩:=tail_from hy
  have hs:selS 1 (sP f .scal) (sP f .tail) (xs++kFrom::r)=some [.mk 6 ts.length 1 [] [] (ts++ks)]:=by
   unfold selS
   rw[fst_at hx.okp.bal (no_sep hx rfl) (by simp)]
   dsimp only
   rw[ihx f (by simp[rnk]at hf⊢;omega)]
   dsimp only
   rw[ihy f (by simp[rnk]at hf⊢;omega)]
  exact hs
 | sels1 xs t hx ihx=>
  intro f hf
  exact⟨xs,[],[],cut_one (no_sep hx rfl),rfl,mapP_one (ihx f (by simp[rnk];omega))⟩
 | sels2 xs ys t ts hx hy ihx ihy=>
  intro f hf
  obtain⟨x,l,zs,h1,h2,h3⟩:=ihy f (by simp at hf;omega)
  refine⟨xs,(kAll::x)::l,x::zs,?_,?_,mapP_cons (ihx f (by simp[rnk]at hf⊢;omega)) h3⟩
  ·rw[cut_two hx.okp.bal (no_sep hx rfl) (by simp) (by simp)]
   have:cutL kUnion 0 (kAll::ys)=(kAll::x)::l:=by
    have e:=cut_app (sep:=kUnion) [kAll] 0 ys (by rw[tops_one (by simp)];simp)
    rw[show opn 0 [kAll]=0 from rfl,h1]at e
    exact e
   rw[this]
  ·show(match allS l with | some ys=>some (x::ys) | none=>none)=_
   rw[h2]
 | query1 xs t hx ihx=>
  intro f hf
  obtain⟨f,rfl⟩: ∃g,f=g+1:=⟨f-1,by omega⟩
  obtain⟨x,l,ys,h1,h2,h3⟩:=ihx f (by simp[rnk]at hf⊢;omega)
  have hl:=mapP_len h3
  have hy:ys=[]:=by simpa using hl.symm
  subst hy
  have hln:l=[]:=by
   cases l with
   | nil=>rfl
   | cons a l=>
    simp only[allS]at h2
    split at h2
    ·split at h2
     ·simp at h2
     ·cases h2
    ·cases h2
  subst hln
  simp only[sP,h1]
  simp only[mapP]at h3
  split at h3
  ·rename_i t' hp
   simp only[Option.some.injEq,List.cons.injEq,and_true]at h3
   subst h3
   exact hp
  ·cases h3
 | query2 xs t u ts hx ihx=>
  intro f hf
  obtain⟨f,rfl⟩: ∃g,f=g+1:=⟨f-1,by omega⟩
  obtain⟨x,l,ys,h1,h2,h3⟩:=ihx f (by simp[rnk]at hf⊢;omega)
  have hl:=mapP_len h3
  cases l with
  | nil=>
   simp only[allS,Option.some.injEq]at h2
   subst h2
   simp at hl
  | cons a l=>
   simp only[sP,h1]
   rw[h2]
   dsimp only
   rw[h3]
theorem sP_whole{ts:List Tok}{t:Rt}{f:Nat}(hf:1+8*ts.length<f):sP f .query ts=some [t]↔G .query ts [t]:=⟨fun h=>sP_sound f .query _ _ h,fun h=>sP_complete h f hf⟩
theorem parsers_agree{ts:List Tok}{t:Rt}{f g:Nat}(hf:1+8*ts.length<f)(hg:2+8*ts.length<g):(Bal ts/\sP f .query ts=some [t])↔iP g .query ts=some ([t],[]):=by
 rw[sP_whole hf,iP_whole hg]
 exact⟨fun h=>h.2,fun h=>⟨h.okp.bal,h⟩⟩
end Go.Proofs.YtmggnimiioepeaaGreatDoor.Pa
namespace Go.Proofs.YtmggnimiioepeaaGreatDoor
open Go Go.RowKit
theorem letter_calls(c:Int)(w:World):Calls Tryz.prog 53 #[.int .u8 c] w fun e w'=>e= .returned (.bool (letter c))/\w'=w:=by
 by_cases h1:65<=c
 ·by_cases h2:c<=90
  ·have HE:Hid (letter c=true):=by show _=_;simp[letter,h1,h2]
   go_enter Tryz.func53,Tryz.ntmps53
   go_wp2
   go_ret
   exact⟨congrArg (fun z=>Ending.returned (.bool z)) HE.out.symm,rfl⟩
  ·by_cases h3:97<=c
   ·have HE:Hid (letter c=decide (c<=122)):=by show _=_;simp[letter,h2,h3]
    go_enter Tryz.func53,Tryz.ntmps53
    go_wp2
    go_ret
    exact⟨congrArg (fun z=>Ending.returned (.bool z)) HE.out.symm,rfl⟩
   ·have HE:Hid (letter c=false):=by show _=_;simp[letter,h2,h3]
    go_enter Tryz.func53,Tryz.ntmps53
    go_wp2
    go_ret
    exact⟨congrArg (fun z=>Ending.returned (.bool z)) HE.out.symm,rfl⟩
 ·have h3: ¬97<=c:=by omega
  have HE:Hid (letter c=false):=by show _=_;simp[letter,h1,h3]
  go_enter Tryz.func53,Tryz.ntmps53
  go_wp2
  go_ret
  exact⟨congrArg (fun z=>Ending.returned (.bool z)) HE.out.symm,rfl⟩
theorem digit_calls(c:Int)(w:World):Calls Tryz.prog 54 #[.int .u8 c] w fun e w'=>e= .returned (.bool (digit c))/\w'=w:=by
 by_cases h1:48<=c
 ·have HE:Hid (digit c=decide (c<=57)):=by show _=_;simp[digit,h1]
  go_enter Tryz.func54,Tryz.ntmps54
  go_wp2
  go_ret
  exact⟨congrArg (fun z=>Ending.returned (.bool z)) HE.out.symm,rfl⟩
 ·have HE:Hid (digit c=false):=by show _=_;simp[digit,h1]
  go_enter Tryz.func54,Tryz.ntmps54
  go_wp2
  go_ret
  exact⟨congrArg (fun z=>Ending.returned (.bool z)) HE.out.symm,rfl⟩
theorem isLetter_calls(c:Int)(w:World):Calls Tryz.prog 36 #[.int .u8 c] w fun e w'=>e= .returned (.bool (letter c))/\w'=w:=by
 by_cases h1:65<=c
 ·by_cases h2:c<=90
  ·have HE:Hid (letter c=true):=by show _=_;simp[letter,h1,h2]
   go_enter Tryz.func36,Tryz.ntmps36
   go_wp2
   go_ret
   exact⟨congrArg (fun z=>Ending.returned (.bool z)) HE.out.symm,rfl⟩
  ·by_cases h3:97<=c
   ·have HE:Hid (letter c=decide (c<=122)):=by show _=_;simp[letter,h2,h3]
    go_enter Tryz.func36,Tryz.ntmps36
    go_wp2
    go_ret
    exact⟨congrArg (fun z=>Ending.returned (.bool z)) HE.out.symm,rfl⟩
   ·have HE:Hid (letter c=false):=by show _=_;simp[letter,h2,h3]
    go_enter Tryz.func36,Tryz.ntmps36
    go_wp2
    go_ret
    exact⟨congrArg (fun z=>Ending.returned (.bool z)) HE.out.symm,rfl⟩
 ·have h3: ¬97<=c:=by omega
  have HE:Hid (letter c=false):=by show _=_;simp[letter,h1,h3]
  go_enter Tryz.func36,Tryz.ntmps36
  go_wp2
  go_ret
  exact⟨congrArg (fun z=>Ending.returned (.bool z)) HE.out.symm,rfl⟩
theorem isDigit_calls(c:Int)(w:World):Calls Tryz.prog 38 #[.int .u8 c] w fun e w'=>e= .returned (.bool (digit c))/\w'=w:=by
 by_cases h1:48<=c
 ·have HE:Hid (digit c=decide (c<=57)):=by show _=_;simp[digit,h1]
  go_enter Tryz.func38,Tryz.ntmps38
  go_wp2
  go_ret
  exact⟨congrArg (fun z=>Ending.returned (.bool z)) HE.out.symm,rfl⟩
 ·have HE:Hid (digit c=false):=by show _=_;simp[digit,h1]
  go_enter Tryz.func38,Tryz.ntmps38
  go_wp2
  go_ret
  exact⟨congrArg (fun z=>Ending.returned (.bool z)) HE.out.symm,rfl⟩
theorem isWordPart_calls(c:Int)(w:World):Calls Tryz.prog 63 #[.int .u8 c] w fun e w'=>e= .returned (.bool (part c))/\w'=w:=by
 have L:=fun w=>isLetter_calls c w
 have D:=fun w=>isDigit_calls c w
 have HE:Hid (part c=(letter c || digit c || decide (c=95))):=rfl
 generalize letter c=l at*
 generalize digit c=d at*
 have HL:=hide L;have HD:=hide D
 clear L D
 cases l
 ·cases d
  ·by_cases h:c=95
   ·subst h
    go_enter Tryz.func63,Tryz.ntmps63
    go_wp2_with fail
    refine(unhide HL _).mono ?_;rintro e w1 ⟨rfl,rfl⟩
    go_wp2_with fail
    refine(unhide HD _).mono ?_;rintro e w1 ⟨rfl,rfl⟩
    go_wp2
    go_ret
    exact⟨congrArg (fun z=>Ending.returned (.bool z)) HE.out.symm,rfl⟩
   ·have h':(c==95)=false:=beq_eq_false_iff_ne.2 h
    have HE':Hid (part c=false):=by show _=_;rw[HE.out];simp[h]
    clear HE
    go_enter Tryz.func63,Tryz.ntmps63
    go_wp2_with fail
    refine(unhide HL _).mono ?_;rintro e w1 ⟨rfl,rfl⟩
    go_wp2_with fail
    refine(unhide HD _).mono ?_;rintro e w1 ⟨rfl,rfl⟩
    go_wp2
    go_ret
    exact⟨congrArg (fun z=>Ending.returned (.bool z)) HE'.out.symm,rfl⟩
  ·have HE':Hid (part c=true):=by show _=_;rw[HE.out];simp
   clear HE
   go_enter Tryz.func63,Tryz.ntmps63
   go_wp2_with fail
   refine(unhide HL _).mono ?_;rintro e w1 ⟨rfl,rfl⟩
   go_wp2_with fail
   refine(unhide HD _).mono ?_;rintro e w1 ⟨rfl,rfl⟩
   go_wp2
   go_ret
   exact⟨congrArg (fun z=>Ending.returned (.bool z)) HE'.out.symm,rfl⟩
 ·have HE':Hid (part c=true):=by show _=_;rw[HE.out];simp
  clear HE
  go_enter Tryz.func63,Tryz.ntmps63
  go_wp2_with fail
  refine(unhide HL _).mono ?_;rintro e w1 ⟨rfl,rfl⟩
  go_wp2
  go_ret
  exact⟨congrArg (fun z=>Ending.returned (.bool z)) HE'.out.symm,rfl⟩
end Go.Proofs.YtmggnimiioepeaaGreatDoor
