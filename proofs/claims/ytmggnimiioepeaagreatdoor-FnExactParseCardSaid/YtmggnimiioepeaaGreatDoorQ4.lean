import Derived.Test.YtmggnimiioepeaaGreatDoorQ0
import Derived.Test.YtmggnimiioepeaaGreatDoorQ2
namespace Go.Proofs.YtmggnimiioepeaaGreatDoor.Pa
open Go
def brk(p:List Tok->Option (List Rt×List Tok)):List Tok->Option (Rt×List Tok)
 | .sy 0::r=>match p r with
  | some ([t],.sy 1::r1)=>some (t,r1)
  | _=>none
 | _=>none
def testF(sc qu:List Tok->Option (List Rt×List Tok))(t:Rt):List Tok->Option (List Rt×List Tok)
 | .sy 23:: .sy 20::r=>match r with
  | .sy 24::r2=>some ([.mk 9 0 1 [] [] [t]],r2)
  | _=>none
 | .sy 23::r=>match r with
  | .sy 24::r2=>some ([.mk 9 0 0 [] [] [t]],r2)
  | _=>none
 | .sy 22::r=>match brk qu r with
  | some (q,r1)=>some ([.mk 11 0 0 [] [] [t,q]],r1)
  | none=>none
 | .sy 20::r=>match r with
  | .sy 22::r1=>match brk qu r1 with
   | some (q,r2)=>some ([.mk 11 0 1 [] [] [t,q]],r2)
   | none=>none
  | _=>none
 | c::r=>if 0<compOf c then
   match r with
   | .sy 17::r1=>match brk qu r1 with
    | some (q,r2)=>some ([.mk 12 1 (compOf c) [] [] [t,q]],r2)
    | none=>none
   | .sy 16::r1=>match brk qu r1 with
    | some (q,r2)=>some ([.mk 12 2 (compOf c) [] [] [t,q]],r2)
    | none=>none
   | _=>match sc r with
    | some ([u],r1)=>some ([.mk 8 0 (compOf c) [] [] [t,u]],r1)
    | _=>none
  else none
 | []=>none
def aggF(sc ta:List Tok->Option (List Rt×List Tok)):List Tok->Option (List Rt×List Tok)
 | .sy 11::w::r=>if 0<aggOf w then
   match r with
   | .sy 0::r1=>
    if w= .sy 25/\r1.head?=some star then
     match r1 with
     | _:: .sy 1::r2=>match ta r2 with
      | some (ks,.sy 1::r3)=>some ([.mk 4 0 1 [] [] ks],r3)
      | _=>none
     | _=>none
    else match sc r1 with
     | some ([t],.sy 1::r2)=>match ta r2 with
      | some (ks,.sy 1::r3)=>some ([.mk 4 1 (aggOf w) [] [] (t::ks)],r3)
      | _=>none
     | _=>none
   | _=>none
  else none
 | _=>none
def sepF(sep:Tok)(one more:List Tok->Option (List Rt×List Tok))(ts:List Tok):Option (List Rt×List Tok):=
 match one ts with
 | some ([t],c::r)=>if c=sep then(match more r with | some (l,r1)=>some (t::l,r1) | none=>none)else some ([t],c::r)
 | some ([t],[])=>some ([t],[])
 | _=>none
def joinF(K:Int):Option (List Rt×List Tok)->Option (List Rt×List Tok)
 | some ([t],r)=>some ([t],r)
 | some (t::u::l,r)=>some ([.mk K 0 0 [] [] (t::u::l)],r)
 | _=>none
def selF(M:Int)(scs ta:List Tok->Option (List Rt×List Tok))(ts:List Tok):Option (List Rt×List Tok):=
 match scs ts with
 | some (l,r)=>match ta r with
  | some (ks,r1)=>some ([.mk 6 l.length M [] [] (l++ks)],r1)
  | none=>none
 | none=>none
def tailF(ss co:List Tok->Option (List Rt×List Tok)):List Tok->Option (List Rt×List Tok)
 | .sy 13::r=>match ss r with
  | some (l,c::r1)=>if c=kWhere then(match co r1 with | some ([x],r2)=>some (l++[x],r2) | _=>none)else some (l,c::r1)
  | some (l,[])=>some (l,[])
  | none=>none
 | _=>none
def iP:Nat->NT->List Tok->Option (List Rt×List Tok)
 | 0,_,_=>none
 | f+1,.scal,ts=>match ts with
  | .num v::r=>some ([rInt v],r)
  | .nam s::r=>match r with
   | .sy 3:: .num v::r1=>if 0<=v then some ([rCol s v],r1)else none
   | _=>none
  | .sy 24::r=>some ([rNull],r)
  | .sy 0::r=>aggF (iP f .scal) (iP f .tail) r
  | _=>none
 | f+1,.scals,ts=>sepF cm (iP f .scal) (iP f .scals) ts
 | _+1,.src,ts=>match ts with
  | .nam a:: .nam b::r=>some ([rSrc a b],r)
  | .nam a::r=>some ([rSrc a a],r)
  | _=>none
 | f+1,.srcs,ts=>sepF cm (iP f .src) (iP f .srcs) ts
 | f+1,.tail,ts=>tailF (iP f .srcs) (iP f .cond) ts
 | f+1,.prim,ts=>match ts with
  | .sy 20::r=>match iP f .prim r with
   | some ([t],r1)=>some ([.mk 13 0 0 [] [] [t]],r1)
   | _=>none
  | .sy 21::r=>match brk (iP f .query) r with
   | some (q,r1)=>some ([.mk 10 0 0 [] [] [q]],r1)
   | none=>none
  | t::r=>if t=pO/\r.head?≠some kSel then(match brk (iP f .cond) (t::r)with | some (x,r1)=>some ([x],r1) | none=>none)
   else match iP f .scal (t::r)with
    | some ([x],r1)=>testF (iP f .scal) (iP f .query) x r1
    | _=>none
  | []=>none
 | f+1,.prims,ts=>sepF kAnd (iP f .prim) (iP f .prims) ts
 | f+1,.conj,ts=>joinF 14 (iP f .prims ts)
 | f+1,.conjs,ts=>sepF kOr (iP f .conj) (iP f .conjs) ts
 | f+1,.cond,ts=>joinF 15 (iP f .conjs ts)
 | f+1,.sel,ts=>match ts with
  | .sy 11:: .sy 12::r=>selF 1 (iP f .scals) (iP f .tail) r
  | .sy 11::r=>selF 0 (iP f .scals) (iP f .tail) r
  | _=>none
 | f+1,.sels,ts=>match iP f .sel ts with
  | some ([t],c::r)=>if c=kUnion then(match r with
    | .sy 16::r1=>(match iP f .sels r1 with | some (l,r2)=>some (t::l,r2) | none=>none)
    | _=>none)else some ([t],c::r)
  | some ([t],[])=>some ([t],[])
  | _=>none
 | f+1,.query,ts=>joinF 7 (iP f .sels ts)
def Snd(p:List Tok->Option (List Rt×List Tok))(nt:NT):Prop:= ∀ts out rest,p ts=some (out,rest)-> ∃pre,ts=pre++rest/\G nt pre out
theorem brk_sound{p:List Tok->Option (List Rt×List Tok)}{nt:NT}(h:Snd p nt){ts rest:List Tok}{t:Rt}(e:brk p ts=some (t,rest)): ∃pre,ts=pO::pre++pC::rest/\G nt pre [t]:=by
 unfold brk at e
 split at e
 ·split at e
  ·rename_i r t1 r1 hp
   simp only[Option.some.injEq,Prod.mk.injEq]at e
   obtain⟨rfl,rfl⟩:=e
   obtain⟨pre,rfl,hg⟩:=h _ _ _ hp
   exact⟨pre,by simp,hg⟩
  ·cases e
 ·cases e
theorem sep_sound{sep:Tok}{one more:List Tok->Option (List Rt×List Tok)}{n1 n2:NT}(h1:Snd one n1)(h2:Snd more n2)(g1: ∀xs t,G n1 xs [t]->G n2 xs [t])(g2: ∀xs ys t ts,G n1 xs [t]->G n2 ys ts->G n2 (xs++sep::ys) (t::ts)):Snd (sepF sep one more) n2:=by
 intro ts out rest e
 unfold sepF at e
 split at e
 ·rename_i t c r hp
  obtain⟨pre,rfl,hg⟩:=h1 _ _ _ hp
  split at e
  ·rename_i hc
   split at e
   ·rename_i l r1 hm
    simp only[Option.some.injEq,Prod.mk.injEq]at e
    obtain⟨rfl,rfl⟩:=e
    obtain⟨pre2,rfl,hg2⟩:=h2 _ _ _ hm
    exact⟨pre++sep::pre2,by rw[hc];simp,g2 _ _ _ _ hg hg2⟩
   ·cases e
  ·simp only[Option.some.injEq,Prod.mk.injEq]at e
   obtain⟨rfl,rfl⟩:=e
   exact⟨pre,rfl,g1 _ _ hg⟩
 ·rename_i t hp
  simp only[Option.some.injEq,Prod.mk.injEq]at e
  obtain⟨rfl,rfl⟩:=e
  obtain⟨pre,rfl,hg⟩:=h1 _ _ _ hp
  exact⟨pre,rfl,g1 _ _ hg⟩
 ·cases e
theorem join_sound{K:Int}{p:List Tok->Option (List Rt×List Tok)}{n1 n2:NT}(h1:Snd p n1)(g1: ∀xs t,G n1 xs [t]->G n2 xs [t])(g2: ∀xs t u ts,G n1 xs (t::u::ts)->G n2 xs [.mk K 0 0 [] [] (t::u::ts)]):Snd (fun ts=>joinF K (p ts)) n2:=by
 intro ts out rest e
 unfold joinF at e
 dsimp only at e
 split at e
 ·rename_i t r hp
  simp only[Option.some.injEq,Prod.mk.injEq]at e
  obtain⟨rfl,rfl⟩:=e
  obtain⟨pre,rfl,hg⟩:=h1 _ _ _ hp
  exact⟨pre,rfl,g1 _ _ hg⟩
 ·rename_i t u l r hp
  simp only[Option.some.injEq,Prod.mk.injEq]at e
  obtain⟨rfl,rfl⟩:=e
  obtain⟨pre,rfl,hg⟩:=h1 _ _ _ hp
  exact⟨pre,rfl,g2 _ _ _ _ hg⟩
 ·cases e
theorem tail_sound{ss co:List Tok->Option (List Rt×List Tok)}(h1:Snd ss .srcs)(h2:Snd co .cond):Snd (tailF ss co) .tail:=by
 intro ts out rest e
 unfold tailF at e
 split at e
 ·rename_i r
  split at e
  ·rename_i l c r1 hp
   obtain⟨pre,rfl,hg⟩:=h1 _ _ _ hp
   split at e
   ·rename_i hc
    split at e
    ·rename_i x r2 hm
     simp only[Option.some.injEq,Prod.mk.injEq]at e
     obtain⟨rfl,rfl⟩:=e
     obtain⟨pre2,rfl,hg2⟩:=h2 _ _ _ hm
     exact⟨kFrom::pre++kWhere::pre2,by rw[hc];simp,G.tail2 _ _ _ _ hg hg2⟩
    ·cases e
   ·simp only[Option.some.injEq,Prod.mk.injEq]at e
    obtain⟨rfl,rfl⟩:=e
    exact⟨kFrom::pre,by simp,G.tail1 _ _ hg⟩
  ·rename_i l hp
   simp only[Option.some.injEq,Prod.mk.injEq]at e
   obtain⟨rfl,rfl⟩:=e
   obtain⟨pre,rfl,hg⟩:=h1 _ _ _ hp
   exact⟨kFrom::pre,by simp,G.tail1 _ _ hg⟩
  ·cases e
 ·cases e
theorem sel_sound{M:Int}{scs ta:List Tok->Option (List Rt×List Tok)}(h1:Snd scs .scals)(h2:Snd ta .tail){ts out rest}(e:selF M scs ta ts=some (out,rest)): ∃xs ys l ks,ts=xs++ys++rest/\out=[.mk 6 l.length M [] [] (l++ks)]/\G .scals xs l/\G .tail ys ks:=by
 unfold selF at e
 split at e
 ·rename_i l r hp
  obtain⟨pre,rfl,hg⟩:=h1 _ _ _ hp
  split at e
  ·rename_i ks r1 hm
   simp only[Option.some.injEq,Prod.mk.injEq]at e
   obtain⟨rfl,rfl⟩:=e
   obtain⟨pre2,rfl,hg2⟩:=h2 _ _ _ hm
   exact⟨pre,pre2,l,ks,by simp,rfl,hg,hg2⟩
  ·cases e
 ·cases e
theorem agg_sound{sc ta:List Tok->Option (List Rt×List Tok)}(h1:Snd sc .scal)(h2:Snd ta .tail){ts out rest}(e:aggF sc ta ts=some (out,rest)): ∃pre,pO::ts=pre++rest/\G .scal pre out:=by
 unfold aggF at e
 split at e
 ·rename_i w r
  split at e
  ·rename_i hw
   split at e
   ·rename_i r1
    split at e
    ·rename_i hc
     split at e
     ·rename_i x r2
      split at e
      ·rename_i ks r3 hm
       simp only[Option.some.injEq,Prod.mk.injEq]at e
       obtain⟨rfl,rfl⟩:=e
       obtain⟨pre2,rfl,hg2⟩:=h2 _ _ _ hm
       obtain⟨rfl,hx⟩:=hc
       simp only[List.head?_cons,Option.some.injEq]at hx
       subst hx
       exact⟨_,by simp,G.aggAll _ _ hg2⟩
      ·cases e
     ·cases e
    ·split at e
     ·rename_i t r2 hp
      obtain⟨pre,rfl,hg⟩:=h1 _ _ _ hp
      split at e
      ·rename_i ks r3 hm
       simp only[Option.some.injEq,Prod.mk.injEq]at e
       obtain⟨rfl,rfl⟩:=e
       obtain⟨pre2,rfl,hg2⟩:=h2 _ _ _ hm
       exact⟨_,by simp,G.agg w pre pre2 t ks hw hg hg2⟩
      ·cases e
     ·cases e
   ·cases e
  ·cases e
 ·cases e
theorem test_sound{sc qu:List Tok->Option (List Rt×List Tok)}(h1:Snd sc .scal)(h2:Snd qu .query){xs:List Tok}{t:Rt}(hx:G .scal xs [t]){ts out rest}(e:testF sc qu t ts=some (out,rest)): ∃pre,ts=pre++rest/\G .prim (xs++pre) out:=by
 unfold testF at e
 split at e
 ·split at e
  ·simp only[Option.some.injEq,Prod.mk.injEq]at e
   obtain⟨rfl,rfl⟩:=e
   exact⟨[kIs,kNot,kNull],rfl,G.isNN _ _ hx⟩
  ·cases e
 ·split at e
  ·simp only[Option.some.injEq,Prod.mk.injEq]at e
   obtain⟨rfl,rfl⟩:=e
   exact⟨[kIs,kNull],rfl,G.isN _ _ hx⟩
  ·cases e
 ·split at e
  ·rename_i q r1 hb
   simp only[Option.some.injEq,Prod.mk.injEq]at e
   obtain⟨rfl,rfl⟩:=e
   obtain⟨pre,rfl,hg⟩:=brk_sound h2 hb
   exact⟨kIn::pO::pre++[pC],by simp,by have:=G.inn _ _ _ _ hx hg;simpa using this⟩
  ·cases e
 ·split at e
  ·split at e
   ·rename_i q r1 hb
    simp only[Option.some.injEq,Prod.mk.injEq]at e
    obtain⟨rfl,rfl⟩:=e
    obtain⟨pre,rfl,hg⟩:=brk_sound h2 hb
    exact⟨kNot::kIn::pO::pre++[pC],by simp,by have:=G.nin _ _ _ _ hx hg;simpa using this⟩
   ·cases e
  ·cases e
 ·rename_i c r _ _ _ _
  split at e
  ·rename_i hc
   split at e
   ·split at e
    ·rename_i q r1 hb
     simp only[Option.some.injEq,Prod.mk.injEq]at e
     obtain⟨rfl,rfl⟩:=e
     obtain⟨pre,rfl,hg⟩:=brk_sound h2 hb
     exact⟨c::kAny::pO::pre++[pC],by simp,by have:=G.quAny c _ _ _ _ hc hx hg;simpa using this⟩
    ·cases e
   ·split at e
    ·rename_i q r1 hb
     simp only[Option.some.injEq,Prod.mk.injEq]at e
     obtain⟨rfl,rfl⟩:=e
     obtain⟨pre,rfl,hg⟩:=brk_sound h2 hb
     exact⟨c::kAll::pO::pre++[pC],by simp,by have:=G.quAll c _ _ _ _ hc hx hg;simpa using this⟩
    ·cases e
   ·split at e
    ·rename_i u r1 hp
     simp only[Option.some.injEq,Prod.mk.injEq]at e
     obtain⟨rfl,rfl⟩:=e
     obtain⟨pre,rfl,hg⟩:=h1 _ _ _ hp
     exact⟨c::pre,by simp,by have:=G.cmp c _ _ _ _ hc hx hg;simpa using this⟩
    ·cases e
  ·cases e
 ·cases e
end Go.Proofs.YtmggnimiioepeaaGreatDoor.Pa
namespace Go.Proofs.YtmggnimiioepeaaGreatDoor.Pa
open Go
theorem iP_sound: ∀f nt,Snd (iP f nt) nt
 | 0,nt=>fun ts out rest e=>by simp[iP]at e
 | f+1,.scal=>fun ts out rest e=>by
  have ih:=iP_sound f
  simp only[iP]at e
  split at e
  ·simp only[Option.some.injEq,Prod.mk.injEq]at e
   obtain⟨rfl,rfl⟩:=e
   exact⟨[_],rfl,G.int _⟩
  ·split at e
   ·split at e
    ·rename_i hv
     simp only[Option.some.injEq,Prod.mk.injEq]at e
     obtain⟨rfl,rfl⟩:=e
     exact⟨[_,_,_],rfl,G.col _ _ hv⟩
    ·cases e
   ·cases e
  ·simp only[Option.some.injEq,Prod.mk.injEq]at e
   obtain⟨rfl,rfl⟩:=e
   exact⟨[_],rfl,G.null⟩
  ·exact agg_sound (ih .scal) (ih .tail) e
  ·cases e
 | f+1,.scals=>sep_sound (iP_sound f .scal) (iP_sound f .scals) (fun xs t h=>G.scals1 xs t h) (fun xs ys t ts h1 h2=>G.scals2 xs ys t ts h1 h2)
 | f+1,.src=>fun ts out rest e=>by
  simp only[iP]at e
  split at e
  ·simp only[Option.some.injEq,Prod.mk.injEq]at e
   obtain⟨rfl,rfl⟩:=e
   exact⟨[_,_],rfl,G.src2 _ _⟩
  ·simp only[Option.some.injEq,Prod.mk.injEq]at e
   obtain⟨rfl,rfl⟩:=e
   exact⟨[_],rfl,G.src1 _⟩
  ·cases e
 | f+1,.srcs=>sep_sound (iP_sound f .src) (iP_sound f .srcs) (fun xs t h=>G.srcs1 xs t h) (fun xs ys t ts h1 h2=>G.srcs2 xs ys t ts h1 h2)
 | f+1,.tail=>tail_sound (iP_sound f .srcs) (iP_sound f .cond)
 | f+1,.prim=>fun ts out rest e=>by
  have ih:=iP_sound f
  simp only[iP]at e
  split at e
  ·split at e
   ·rename_i t r1 hp
    simp only[Option.some.injEq,Prod.mk.injEq]at e
    obtain⟨rfl,rfl⟩:=e
    obtain⟨pre,rfl,hg⟩:=ih .prim _ _ _ hp
    exact⟨kNot::pre,rfl,G.not _ _ hg⟩
   ·cases e
  ·split at e
   ·rename_i q r1 hb
    simp only[Option.some.injEq,Prod.mk.injEq]at e
    obtain⟨rfl,rfl⟩:=e
    obtain⟨pre,rfl,hg⟩:=brk_sound (ih .query) hb
    exact⟨kExists::pO::pre++[pC],by simp,G.exist _ _ hg⟩
   ·cases e
  ·split at e
   ·split at e
    ·rename_i x r1 hb
     simp only[Option.some.injEq,Prod.mk.injEq]at e
     obtain⟨rfl,rfl⟩:=e
     obtain⟨pre,hpre,hg⟩:=brk_sound (ih .cond) hb
     exact⟨pO::pre++[pC],by rw[hpre];simp,G.br _ _ hg⟩
    ·cases e
   ·split at e
    ·rename_i x r1 hp
     obtain⟨pre,hpre,hg⟩:=ih .scal _ _ _ hp
     obtain⟨pre2,rfl,hg2⟩:=test_sound (ih .scal) (ih .query) hg e
     exact⟨pre++pre2,by rw[hpre];simp,hg2⟩
    ·cases e
  ·cases e
 | f+1,.prims=>sep_sound (iP_sound f .prim) (iP_sound f .prims) (fun xs t h=>G.prims1 xs t h) (fun xs ys t ts h1 h2=>G.prims2 xs ys t ts h1 h2)
 | f+1,.conj=>join_sound (iP_sound f .prims) (fun xs t h=>G.conj1 xs t h) (fun xs t u ts h=>G.conj2 xs t u ts h)
 | f+1,.conjs=>sep_sound (iP_sound f .conj) (iP_sound f .conjs) (fun xs t h=>G.conjs1 xs t h) (fun xs ys t ts h1 h2=>G.conjs2 xs ys t ts h1 h2)
 | f+1,.cond=>join_sound (iP_sound f .conjs) (fun xs t h=>G.cond1 xs t h) (fun xs t u ts h=>G.cond2 xs t u ts h)
 | f+1,.sel=>fun ts out rest e=>by
  have ih:=iP_sound f
  simp only[iP]at e
  split at e
  ·obtain⟨xs,ys,l,ks,h1,rfl,h2,h3⟩:=sel_sound (ih .scals) (ih .tail) e
   exact⟨kSel::kDis::xs++ys,by rw[h1];simp,G.selD _ _ _ _ h2 h3⟩
  ·obtain⟨xs,ys,l,ks,h1,rfl,h2,h3⟩:=sel_sound (ih .scals) (ih .tail) e
   exact⟨kSel::xs++ys,by rw[h1];simp,G.sel _ _ _ _ h2 h3⟩
  ·cases e
 | f+1,.sels=>fun ts out rest e=>by
  have ih:=iP_sound f
  simp only[iP]at e
  split at e
  ·rename_i t c r hp
   obtain⟨pre,rfl,hg⟩:=ih .sel _ _ _ hp
   split at e
   ·rename_i hc
    split at e
    ·split at e
     ·rename_i l r2 hm
      simp only[Option.some.injEq,Prod.mk.injEq]at e
      obtain⟨rfl,rfl⟩:=e
      obtain⟨pre2,rfl,hg2⟩:=ih .sels _ _ _ hm
      exact⟨pre++kUnion::kAll::pre2,by rw[hc];simp,G.sels2 _ _ _ _ hg hg2⟩
     ·cases e
    ·cases e
   ·simp only[Option.some.injEq,Prod.mk.injEq]at e
    obtain⟨rfl,rfl⟩:=e
    exact⟨pre,rfl,G.sels1 _ _ hg⟩
  ·rename_i t hp
   simp only[Option.some.injEq,Prod.mk.injEq]at e
   obtain⟨rfl,rfl⟩:=e
   obtain⟨pre,rfl,hg⟩:=ih .sel _ _ _ hp
   exact⟨pre,rfl,G.sels1 _ _ hg⟩
  ·cases e
 | f+1,.query=>join_sound (iP_sound f .sels) (fun xs t h=>G.query1 xs t h) (fun xs t u ts h=>G.query2 xs t u ts h)
theorem scal_head{xs:List Tok}{ts:List Rt}(h:G .scal xs ts):(∃v r,xs= .num v::r)\/(∃s r,xs= .nam s::r)\/(∃r,xs= .sy 24::r)\/ ∃r,xs= .sy 0:: .sy 11::r:=by
 cases h with
 | int v=>exact Or.inl ⟨v,[],rfl⟩
 | null=>exact Or.inr (Or.inr (Or.inl ⟨[],rfl⟩))
 | col s v h=>exact Or.inr (Or.inl ⟨s,_,rfl⟩)
 | agg w xs ys t ks hw hx hy=>exact Or.inr (Or.inr (Or.inr ⟨_,rfl⟩))
 | aggAll ys ks hy=>exact Or.inr (Or.inr (Or.inr ⟨_,rfl⟩))
def condish:NT->Prop:=fun nt=>nt= .scal\/nt= .prim\/nt= .prims\/nt= .conj\/nt= .conjs\/nt= .cond
theorem cond_head{nt:NT}{xs:List Tok}{ts:List Rt}(h:G nt xs ts):condish nt-> ∃t r,xs=t::r/\t≠ .sy 11:=by
 have sc: ∀{xs ts} (ys:List Tok),G .scal xs ts-> ∃t r,xs++ys=t::r/\t≠ .sy 11:=fun{xs ts} ys h=>by
  rcases scal_head h with⟨v,r,rfl⟩ | ⟨s,r,rfl⟩ | ⟨r,rfl⟩ | ⟨r,rfl⟩
  ·exact⟨_,_,rfl,by simp⟩
  ·exact⟨_,_,rfl,by simp⟩
  ·exact⟨_,_,rfl,by simp⟩
  ·exact⟨_,_,rfl,by simp⟩
 have ap: ∀{xs:List Tok} (ys:List Tok),(∃t r,xs=t::r/\t≠ .sy 11)-> ∃t r,xs++ys=t::r/\t≠ .sy 11:=fun ys ⟨t,r,e,h⟩=>⟨t,r++ys,by rw[e];rfl,h⟩
 induction h with
 | int v=>intro _;exact⟨_,_,rfl,by simp⟩
 | null=>intro _;exact⟨_,_,rfl,by simp⟩
 | col s v h=>intro _;exact⟨_,_,rfl,by simp⟩
 | agg w xs ys t ks hw hx hy ihx ihy=>intro _;exact⟨_,_,rfl,by simp⟩
 | aggAll ys ks hy ihy=>intro _;exact⟨_,_,rfl,by simp⟩
 | not xs t hx ihx=>intro _;exact⟨_,_,rfl,by simp⟩
 | exist xs t hx ihx=>intro _;exact⟨_,_,rfl,by simp⟩
 | br xs t hx ihx=>intro _;exact⟨_,_,rfl,by simp⟩
 | isN xs t hx ihx=>intro _;exact sc _ hx
 | isNN xs t hx ihx=>intro _;exact sc _ hx
 | inn xs ys t q hx hy ihx ihy=>intro _;rw[List.append_assoc];exact sc _ hx
 | nin xs ys t q hx hy ihx ihy=>intro _;rw[List.append_assoc];exact sc _ hx
 | quAny c xs ys t q hc hx hy ihx ihy=>intro _;rw[List.append_assoc];exact sc _ hx
 | quAll c xs ys t q hc hx hy ihx ihy=>intro _;rw[List.append_assoc];exact sc _ hx
 | cmp c xs ys t u hc hx hy ihx ihy=>intro _;exact sc _ hx
 | prims1 xs t hx ihx=>intro _;exact ihx (by simp[condish])
 | prims2 xs ys t ts hx hy ihx ihy=>intro _;exact ap _ (ihx (by simp[condish]))
 | conj1 xs t hx ihx=>intro _;exact ihx (by simp[condish])
 | conj2 xs t u ts hx ihx=>intro _;exact ihx (by simp[condish])
 | conjs1 xs t hx ihx=>intro _;exact ihx (by simp[condish])
 | conjs2 xs ys t ts hx hy ihx ihy=>intro _;exact ap _ (ihx (by simp[condish]))
 | cond1 xs t hx ihx=>intro _;exact ihx (by simp[condish])
 | cond2 xs t u ts hx ihx=>intro _;exact ihx (by simp[condish])
 | scals1 xs t hx ihx=>intro e;simp[condish]at e
 | scals2 xs ys t ts hx hy ihx ihy=>intro e;simp[condish]at e
 | src1 a=>intro e;simp[condish]at e
 | src2 a b=>intro e;simp[condish]at e
 | srcs1 xs t hx ihx=>intro e;simp[condish]at e
 | srcs2 xs ys t ts hx hy ihx ihy=>intro e;simp[condish]at e
 | tail1 xs ts hx ihx=>intro e;simp[condish]at e
 | tail2 xs ys ts c hx hy ihx ihy=>intro e;simp[condish]at e
 | sel xs ys ts ks hx hy ihx ihy=>intro e;simp[condish]at e
 | selD xs ys ts ks hx hy ihx ihy=>intro e;simp[condish]at e
 | sels1 xs t hx ihx=>intro e;simp[condish]at e
 | sels2 xs ys t ts hx hy ihx ihy=>intro e;simp[condish]at e
 | query1 xs t hx ihx=>intro e;simp[condish]at e
 | query2 xs t u ts hx ihx=>intro e;simp[condish]at e
theorem scals_head{xs:List Tok}{ts:List Rt}(h:G .scals xs ts): ∃t r,xs=t::r/\t≠ .sy 12:=by
 have sc: ∀{xs ts} (ys:List Tok),G .scal xs ts-> ∃t r,xs++ys=t::r/\t≠ .sy 12:=fun{xs ts} ys h=>by
  rcases scal_head h with⟨v,r,rfl⟩ | ⟨s,r,rfl⟩ | ⟨r,rfl⟩ | ⟨r,rfl⟩
  ·exact⟨_,_,rfl,by simp⟩
  ·exact⟨_,_,rfl,by simp⟩
  ·exact⟨_,_,rfl,by simp⟩
  ·exact⟨_,_,rfl,by simp⟩
 cases h with
 | scals1 xs t hx=>have:=sc [] hx;simpa using this
 | scals2 xs ys t ts hx hy=>exact sc _ hx
end Go.Proofs.YtmggnimiioepeaaGreatDoor.Pa
