import Derived.Test.YtmggnimiioepeaaGreatDoorQ0
import Derived.Test.YtmggnimiioepeaaGreatDoorQ1
namespace Go.Proofs.YtmggnimiioepeaaGreatDoor.Pa
open Go
inductive Tok where
 | nam (s:List UInt8)
 | num (v:Int)
 | sy (k:Nat)
 deriving DecidableEq
abbrev pO:Tok:= .sy 0
abbrev pC:Tok:= .sy 1
abbrev cm:Tok:= .sy 2
abbrev dot:Tok:= .sy 3
abbrev star:Tok:= .sy 4
abbrev kSel:Tok:= .sy 11
abbrev kDis:Tok:= .sy 12
abbrev kFrom:Tok:= .sy 13
abbrev kWhere:Tok:= .sy 14
abbrev kUnion:Tok:= .sy 15
abbrev kAll:Tok:= .sy 16
abbrev kAny:Tok:= .sy 17
abbrev kAnd:Tok:= .sy 18
abbrev kOr:Tok:= .sy 19
abbrev kNot:Tok:= .sy 20
abbrev kExists:Tok:= .sy 21
abbrev kIn:Tok:= .sy 22
abbrev kIs:Tok:= .sy 23
abbrev kNull:Tok:= .sy 24
def compOf:Tok->Nat
 | .sy k=>if 5<=k/\k<=10 then k-4 else 0
 | _=>0
def aggOf:Tok->Nat
 | .sy k=>if 25<=k/\k<=27 then k-23 else 0
 | _=>0
inductive Rt where
 | mk (K N M:Int) (S T:List UInt8) (kids:List Rt)
abbrev rInt(v:Int):Rt:= .mk 1 v 0 [] [] []
abbrev rNull:Rt:= .mk 2 0 0 [] [] []
abbrev rCol(s:List UInt8)(v:Int):Rt:= .mk 3 v 0 s [] []
abbrev rSrc(a b:List UInt8):Rt:= .mk 5 0 0 a b []
inductive NT where
 | scal | scals | src | srcs | tail | prim | conj | prims | cond | conjs | sel | sels | query
 deriving DecidableEq
inductive G:NT->List Tok->List Rt->Prop
 | int (v:Int):G .scal [.num v] [rInt v]
 | null:G .scal [kNull] [rNull]
 | col (s:List UInt8) (v:Int) (h:0<=v):G .scal [.nam s,dot,.num v] [rCol s v]
 | agg (w:Tok) (xs ys:List Tok) (t:Rt) (ks:List Rt) (hw:0<aggOf w) (hx:G .scal xs [t]) (hy:G .tail ys ks):G .scal (pO::kSel::w::pO::xs++pC::ys++[pC]) [.mk 4 1 (aggOf w) [] [] (t::ks)]
 | aggAll (ys:List Tok) (ks:List Rt) (hy:G .tail ys ks):G .scal (pO::kSel:: .sy 25::pO::star::pC::ys++[pC]) [.mk 4 0 1 [] [] ks]
 | scals1 (xs:List Tok) (t:Rt) (hx:G .scal xs [t]):G .scals xs [t]
 | scals2 (xs ys:List Tok) (t:Rt) (ts:List Rt) (hx:G .scal xs [t]) (hy:G .scals ys ts):G .scals (xs++cm::ys) (t::ts)
 | src1 (a:List UInt8):G .src [.nam a] [rSrc a a]
 | src2 (a b:List UInt8):G .src [.nam a,.nam b] [rSrc a b]
 | srcs1 (xs:List Tok) (t:Rt) (hx:G .src xs [t]):G .srcs xs [t]
 | srcs2 (xs ys:List Tok) (t:Rt) (ts:List Rt) (hx:G .src xs [t]) (hy:G .srcs ys ts):G .srcs (xs++cm::ys) (t::ts)
 | tail1 (xs:List Tok) (ts:List Rt) (hx:G .srcs xs ts):G .tail (kFrom::xs) ts
 | tail2 (xs ys:List Tok) (ts:List Rt) (c:Rt) (hx:G .srcs xs ts) (hy:G .cond ys [c]):G .tail (kFrom::xs++kWhere::ys) (ts++[c])
 | not (xs:List Tok) (t:Rt) (hx:G .prim xs [t]):G .prim (kNot::xs) [.mk 13 0 0 [] [] [t]]
 | exist (xs:List Tok) (t:Rt) (hx:G .query xs [t]):G .prim (kExists::pO::xs++[pC]) [.mk 10 0 0 [] [] [t]]
 | br (xs:List Tok) (t:Rt) (hx:G .cond xs [t]):G .prim (pO::xs++[pC]) [t]
 | isN (xs:List Tok) (t:Rt) (hx:G .scal xs [t]):G .prim (xs++[kIs,kNull]) [.mk 9 0 0 [] [] [t]]
 | isNN (xs:List Tok) (t:Rt) (hx:G .scal xs [t]):G .prim (xs++[kIs,kNot,kNull]) [.mk 9 0 1 [] [] [t]]
 | inn (xs ys:List Tok) (t q:Rt) (hx:G .scal xs [t]) (hy:G .query ys [q]):G .prim (xs++kIn::pO::ys++[pC]) [.mk 11 0 0 [] [] [t,q]]
 | nin (xs ys:List Tok) (t q:Rt) (hx:G .scal xs [t]) (hy:G .query ys [q]):G .prim (xs++kNot::kIn::pO::ys++[pC]) [.mk 11 0 1 [] [] [t,q]]
 | quAny (c:Tok) (xs ys:List Tok) (t q:Rt) (hc:0<compOf c) (hx:G .scal xs [t]) (hy:G .query ys [q]):G .prim (xs++c::kAny::pO::ys++[pC]) [.mk 12 1 (compOf c) [] [] [t,q]]
 | quAll (c:Tok) (xs ys:List Tok) (t q:Rt) (hc:0<compOf c) (hx:G .scal xs [t]) (hy:G .query ys [q]):G .prim (xs++c::kAll::pO::ys++[pC]) [.mk 12 2 (compOf c) [] [] [t,q]]
 | cmp (c:Tok) (xs ys:List Tok) (t u:Rt) (hc:0<compOf c) (hx:G .scal xs [t]) (hy:G .scal ys [u]):G .prim (xs++c::ys) [.mk 8 0 (compOf c) [] [] [t,u]]
 | prims1 (xs:List Tok) (t:Rt) (hx:G .prim xs [t]):G .prims xs [t]
 | prims2 (xs ys:List Tok) (t:Rt) (ts:List Rt) (hx:G .prim xs [t]) (hy:G .prims ys ts):G .prims (xs++kAnd::ys) (t::ts)
 | conj1 (xs:List Tok) (t:Rt) (hx:G .prims xs [t]):G .conj xs [t]
 | conj2 (xs:List Tok) (t u:Rt) (ts:List Rt) (hx:G .prims xs (t::u::ts)):G .conj xs [.mk 14 0 0 [] [] (t::u::ts)]
 | conjs1 (xs:List Tok) (t:Rt) (hx:G .conj xs [t]):G .conjs xs [t]
 | conjs2 (xs ys:List Tok) (t:Rt) (ts:List Rt) (hx:G .conj xs [t]) (hy:G .conjs ys ts):G .conjs (xs++kOr::ys) (t::ts)
 | cond1 (xs:List Tok) (t:Rt) (hx:G .conjs xs [t]):G .cond xs [t]
 | cond2 (xs:List Tok) (t u:Rt) (ts:List Rt) (hx:G .conjs xs (t::u::ts)):G .cond xs [.mk 15 0 0 [] [] (t::u::ts)]
 | sel (xs ys:List Tok) (ts ks:List Rt) (hx:G .scals xs ts) (hy:G .tail ys ks):G .sel (kSel::xs++ys) [.mk 6 ts.length 0 [] [] (ts++ks)]
 | selD (xs ys:List Tok) (ts ks:List Rt) (hx:G .scals xs ts) (hy:G .tail ys ks):G .sel (kSel::kDis::xs++ys) [.mk 6 ts.length 1 [] [] (ts++ks)]
 | sels1 (xs:List Tok) (t:Rt) (hx:G .sel xs [t]):G .sels xs [t]
 | sels2 (xs ys:List Tok) (t:Rt) (ts:List Rt) (hx:G .sel xs [t]) (hy:G .sels ys ts):G .sels (xs++kUnion::kAll::ys) (t::ts)
 | query1 (xs:List Tok) (t:Rt) (hx:G .sels xs [t]):G .query xs [t]
 | query2 (xs:List Tok) (t u:Rt) (ts:List Rt) (hx:G .sels xs (t::u::ts)):G .query xs [.mk 7 0 0 [] [] (t::u::ts)]
def opn(d:Int)(xs:List Tok):Int:=xs.foldl (fun d t=>if t=pO then d+1 else if t=pC then d-1 else d) d
def Bal(xs:List Tok):Prop:=opn 0 xs=0/\ ∀k,0<=opn 0 (xs.take k)
theorem opn_append(d:Int)(xs ys:List Tok):opn d (xs++ys)=opn (opn d xs) ys:=by simp[opn,List.foldl_append]
theorem opn_shift(d:Int): ∀(xs:List Tok),opn d xs=d+opn 0 xs:=by
 intro xs
 induction xs generalizing d with
 | nil=>simp[opn]
 | cons x r ih=>
  show opn (if x=pO then d+1 else if x=pC then d-1 else d) r=d+opn (if x=pO then 0+1 else if x=pC then 0-1 else 0) r
  rw[ih,ih (if x=pO then 0+1 else if x=pC then 0-1 else 0)]
  split
  ·omega
  ·split<;>omega
theorem Bal.nil:Bal []:=⟨rfl,fun k=>by simp[opn]⟩
theorem Bal.append{xs ys:List Tok}(hx:Bal xs)(hy:Bal ys):Bal (xs++ys):=by
 refine⟨by rw[opn_append,hx.1,hy.1],fun k=> ?_⟩
 rw[List.take_append,opn_append,opn_shift]
 have h1:=hx.2 k
 have h2:=hy.2 (k-xs.length)
 omega
theorem Bal.one{t:Tok}(h1:t≠pO)(h2:t≠pC):Bal [t]:=by
 refine⟨by simp[opn,h1,h2],fun k=> ?_⟩
 cases k with
 | zero=>simp[opn]
 | succ k=>simp[opn,h1,h2]
theorem Bal.cons{t:Tok}{xs:List Tok}(h1:t≠pO)(h2:t≠pC)(hx:Bal xs):Bal (t::xs):=Bal.append (xs:=[t]) (Bal.one h1 h2) hx
theorem Bal.br{xs:List Tok}(hx:Bal xs):Bal (pO::xs++[pC]):=by
 have e:opn 0 (pO::xs)=1:=by
  show opn (0+1) xs=1
  rw[opn_shift,hx.1];rfl
 refine⟨by rw[opn_append,e];rfl,fun k=> ?_⟩
 rw[List.take_append,opn_append]
 have h1: ∀j,0<=opn 0 ((pO::xs).take j):=fun j=>by
  cases j with
  | zero=>simp[opn]
  | succ j=>
   show 0<=opn (0+1) (xs.take j)
   rw[opn_shift]
   have:=hx.2 j
   omega
 by_cases hk:k<=(pO::xs).length
 ·rw[show k-(pO::xs).length=0 by omega]
  exact h1 k
 ·rw[List.take_of_length_le (by omega),e]
  obtain⟨m,hm⟩: ∃m,k-(pO::xs).length=m+1:=⟨k-(pO::xs).length-1,by omega⟩
  rw[hm]
  simp[opn]
def tops:Int->List Tok->List Tok
 | _,[]=>[]
 | d,t::r=>
  let d1:=if t=pC then d-1 else d
  let d2:=if t=pO then d1+1 else d1
  if d1=0 then t::tops d2 r else tops d2 r
theorem tops_append(xs:List Tok): ∀(d:Int) (ys:List Tok),tops d (xs++ys)=tops d xs++tops (opn d xs) ys:=by
 induction xs with
 | nil=>intro d ys;rfl
 | cons t r ih=>
  intro d ys
  have e:opn d (t::r)=opn (if t=pO then(if t=pC then d-1 else d)+1 else if t=pC then d-1 else d) r:=by
   show opn (if t=pO then d+1 else if t=pC then d-1 else d) r=_
   by_cases h1:t=pO
   ·subst h1;simp
   ·simp[h1]
  rw[List.cons_append,tops,tops,ih,e]
  by_cases c:(if t=pC then d-1 else d)=0
  ·rw[if_pos c,if_pos c];rfl
  ·rw[if_neg c,if_neg c]
theorem tops_bal{xs ys:List Tok}(h:Bal xs):tops 0 (xs++ys)=tops 0 xs++tops 0 ys:=by rw[tops_append,h.1]
theorem tops_in: ∀(xs:List Tok) (d:Int),0<d->(∀k,0<d+opn 0 (xs.take k))->tops d xs=[]
 | [],_,_,_=>rfl
 | t::r,d,hd,h=>by
  have h1:=h 1
  have e1:opn 0 ((t::r).take 1)=if t=pO then 0+1 else if t=pC then 0-1 else 0:=rfl
  rw[e1]at h1
  rw[tops]
  have hne: ¬(if t=pC then d-1 else d)=0:=by
   by_cases c1:t=pC
   ·subst c1
    simp at h1⊢
    omega
   ·rw[if_neg c1];omega
  rw[if_neg hne]
  refine tops_in r _ ?_ (fun k=> ?_)
  ·by_cases c1:t=pO
   ·subst c1;simp;omega
   ·rw[if_neg c1]
    rw[if_neg c1]at h1
    by_cases c2:t=pC
    ·rw[if_pos c2]at h1⊢;omega
    ·rw[if_neg c2];omega
  ·have hk:=h (k+1)
   have e:opn 0 ((t::r).take (k+1))=opn (if t=pO then 0+1 else if t=pC then 0-1 else 0) (r.take k):=rfl
   rw[e,opn_shift]at hk
   by_cases c1:t=pO
   ·subst c1
    simp at hk⊢
    omega
   ·rw[if_neg c1]at hk⊢
    by_cases c2:t=pC
    ·rw[if_pos c2]at hk⊢;omega
    ·rw[if_neg c2]at hk⊢;omega
theorem tops_br{xs:List Tok}(h:Bal xs):tops 0 (pO::xs++[pC])=[pO,pC]:=by
 have e:tops 0 (pO::xs++[pC])=pO::tops 1 (xs++[pC]):=by
  rw[List.cons_append,tops]
  simp
 rw[e,tops_append,tops_in xs 1 (by omega) (fun k=>by have:=h.2 k;omega),opn_shift,h.1]
 simp[tops]
theorem tops_one{t:Tok}(h:t≠pC):tops 0 [t]=[t]:=by
 rw[tops]
 simp[h,tops]
def allow:NT->Nat->Bool
 | .scal,k=>k==0 || k==1 || k==3 || k==24
 | .scals,k=>k==0 || k==1 || k==3 || k==24 || k==2
 | .src,_=>false
 | .srcs,k=>k==2
 | .prim,k=>k==0 || k==1 || k==3 || k==24 || (5<=k&&k<=10) || k==16 || k==17 || (20<=k&&k<=23)
 | .prims,k=>k==0 || k==1 || k==3 || k==24 || (5<=k&&k<=10) || k==16 || k==17 || (20<=k&&k<=23) || k==18
 | .conj,k=>k==0 || k==1 || k==3 || k==24 || (5<=k&&k<=10) || k==16 || k==17 || (20<=k&&k<=23) || k==18
 | .conjs,k=>k==0 || k==1 || k==3 || k==24 || (5<=k&&k<=10) || (16<=k&&k<=23)
 | .cond,k=>k==0 || k==1 || k==3 || k==24 || (5<=k&&k<=10) || (16<=k&&k<=23)
 | .tail,k=>k==0 || k==1 || k==2 || k==3 || k==24 || (5<=k&&k<=10) || k==13 || k==14 || (16<=k&&k<=23)
 | .sel,k=>k==0 || k==1 || k==2 || k==3 || k==24 || (5<=k&&k<=14) || (16<=k&&k<=23)
 | .sels,_=>true
 | .query,_=>true
theorem compOf_sy{c:Tok}(h:0<compOf c): ∃k,c= .sy k/\5<=k/\k<=10:=by
 cases c with
 | nam s=>simp[compOf]at h
 | num v=>simp[compOf]at h
 | sy k=>
  refine⟨k,rfl,?_⟩
  simp only[compOf]at h
  by_cases c:5<=k/\k<=10
  ·exact c
  ·rw[if_neg c]at h;omega
theorem aggOf_sy{c:Tok}(h:0<aggOf c): ∃k,c= .sy k/\25<=k/\k<=27:=by
 cases c with
 | nam s=>simp[aggOf]at h
 | num v=>simp[aggOf]at h
 | sy k=>
  refine⟨k,rfl,?_⟩
  simp only[aggOf]at h
  by_cases c:25<=k/\k<=27
  ·exact c
  ·rw[if_neg c]at h;omega
structure OKP(P:Nat->Bool)(xs:List Tok):Prop where
 bal:Bal xs
 alw: ∀k,Tok.sy k∈tops 0 xs->P k=true
theorem OKP.append{P:Nat->Bool}{xs ys:List Tok}(hx:OKP P xs)(hy:OKP P ys):OKP P (xs++ys):=
 ⟨hx.bal.append hy.bal,fun k h=>by
  rw[tops_bal hx.bal]at h
  rcases List.mem_append.1 h with h | h
  ·exact hx.alw k h
  ·exact hy.alw k h⟩
theorem OKP.one{P:Nat->Bool}{t:Tok}(h1:t≠pO)(h2:t≠pC)(h: ∀k,t= .sy k->P k=true):OKP P [t]:=
 ⟨Bal.one h1 h2,fun k hk=>by
  rw[tops_one h2]at hk
  exact h k (List.mem_singleton.1 hk).symm⟩
theorem OKP.cons{P:Nat->Bool}{t:Tok}{xs:List Tok}(h1:t≠pO)(h2:t≠pC)(h: ∀k,t= .sy k->P k=true)(hx:OKP P xs):OKP P (t::xs):=OKP.append (xs:=[t]) (OKP.one h1 h2 h) hx
theorem OKP.br{P:Nat->Bool}{xs:List Tok}(hx:Bal xs)(h0:P 0=true)(h1:P 1=true):OKP P (pO::xs++[pC]):=
 ⟨hx.br,fun k hk=>by
  rw[tops_br hx]at hk
  simp at hk
  rcases hk with rfl | rfl
  ·exact h0
  ·exact h1⟩
theorem OKP.mono{P Q:Nat->Bool}{xs:List Tok}(h:OKP P xs)(hPQ: ∀k,P k=true->Q k=true):OKP Q xs:=⟨h.bal,fun k hk=>hPQ k (h.alw k hk)⟩
theorem OKP.sy{P:Nat->Bool}{k:Nat}{xs:List Tok}(h0:k≠0)(h1:k≠1)(h:P k=true)(hx:OKP P xs):OKP P (.sy k::xs):=
 OKP.cons (by simpa using h0) (by simpa using h1) (fun j e=>by simp at e;rw[<-e];exact h) hx
theorem OKP.nil{P:Nat->Bool}:OKP P []:=⟨Bal.nil,fun k h=>by simp[tops]at h⟩
theorem OKP.nam{P:Nat->Bool}{s:List UInt8}{xs:List Tok}(hx:OKP P xs):OKP P (.nam s::xs):=OKP.cons (by simp) (by simp) (fun k e=>by cases e) hx
theorem OKP.num{P:Nat->Bool}{v:Int}{xs:List Tok}(hx:OKP P xs):OKP P (.num v::xs):=OKP.cons (by simp) (by simp) (fun k e=>by cases e) hx
theorem mono_scal(nt:NT)(h:nt≠ .src/\nt≠ .srcs): ∀k,allow .scal k=true->allow nt k=true:=fun k hk=>by
 cases nt<;>simp_all [allow]<;>omega
set_option maxHeartbeats 2000000 in
theorem G.okp{nt:NT}{xs:List Tok}{ts:List Rt}(h:G nt xs ts):OKP (allow nt) xs:=by
 have sc: ∀{nt:NT} {xs:List Tok},OKP (allow .scal) xs->nt≠ .src/\nt≠ .srcs->OKP (allow nt) xs:=fun h hn=>h.mono (mono_scal _ hn)
 have up: ∀{a b:NT} {xs:List Tok},OKP (allow a) xs->(∀k,allow a k=true->allow b k=true)->OKP (allow b) xs:=fun h hn=>h.mono hn
 induction h with
 | int v=>exact OKP.num OKP.nil
 | null=>exact OKP.sy (by omega) (by omega) rfl OKP.nil
 | col s v h=>exact OKP.nam (OKP.sy (by omega) (by omega) rfl (OKP.num OKP.nil))
 | agg w xs ys t ks hw hx hy ihx ihy=>
  obtain⟨k,rfl,h1,h2⟩:=aggOf_sy hw
  have hb:Bal (kSel:: .sy k::(pO::xs++[pC])++ys):=Bal.append (Bal.cons (by simp) (by simp) (Bal.cons (by simp;omega) (by simp;omega) ihx.bal.br)) ihy.bal
  have:=OKP.br (P:=allow .scal) hb rfl rfl
  simpa using this
 | aggAll ys ks hy ihy=>
  have hb:Bal (kSel:: .sy 25::(pO::[star]++[pC])++ys):=Bal.append (Bal.cons (by simp) (by simp) (Bal.cons (by simp) (by simp) (Bal.br (Bal.one (by simp) (by simp))))) ihy.bal
  have:=OKP.br (P:=allow .scal) hb rfl rfl
  simpa using this
 | scals1 xs t hx ihx=>exact sc ihx (by simp)
 | scals2 xs ys t ts hx hy ihx ihy=>exact(sc ihx (by simp)).append (OKP.sy (by omega) (by omega) rfl ihy)
 | src1 a=>exact OKP.nam OKP.nil
 | src2 a b=>exact OKP.nam (OKP.nam OKP.nil)
 | srcs1 xs t hx ihx=>exact up ihx (by simp[allow])
 | srcs2 xs ys t ts hx hy ihx ihy=>exact(up ihx (by simp[allow])).append (OKP.sy (by omega) (by omega) rfl ihy)
 | tail1 xs ts hx ihx=>exact OKP.sy (by omega) (by omega) rfl (up ihx (by simp[allow]))
 | tail2 xs ys ts c hx hy ihx ihy=>
  have:=(OKP.sy (P:=allow .tail) (k:=13) (by omega) (by omega) rfl (up ihx (by simp[allow]))).append (OKP.sy (k:=14) (by omega) (by omega) rfl (up ihy (by simp[allow];omega)))
  simpa using this
 | not xs t hx ihx=>exact OKP.sy (by omega) (by omega) rfl ihx
 | exist xs t hx ihx=>exact OKP.sy (by omega) (by omega) rfl (OKP.br ihx.bal rfl rfl)
 | br xs t hx ihx=>exact OKP.br ihx.bal rfl rfl
 | isN xs t hx ihx=>exact(sc ihx (by simp)).append (OKP.sy (by omega) (by omega) rfl (OKP.sy (by omega) (by omega) rfl OKP.nil))
 | isNN xs t hx ihx=>exact(sc ihx (by simp)).append (OKP.sy (by omega) (by omega) rfl (OKP.sy (by omega) (by omega) rfl (OKP.sy (by omega) (by omega) rfl OKP.nil)))
 | inn xs ys t q hx hy ihx ihy=>
  have:=(sc (nt:= .prim) ihx (by simp)).append (OKP.sy (k:=22) (by omega) (by omega) rfl (OKP.br (P:=allow .prim) ihy.bal rfl rfl))
  simpa using this
 | nin xs ys t q hx hy ihx ihy=>
  have:=(sc (nt:= .prim) ihx (by simp)).append (OKP.sy (k:=20) (by omega) (by omega) rfl (OKP.sy (k:=22) (by omega) (by omega) rfl (OKP.br (P:=allow .prim) ihy.bal rfl rfl)))
  simpa using this
 | quAny c xs ys t q hc hx hy ihx ihy=>
  obtain⟨k,rfl,h1,h2⟩:=compOf_sy hc
  have:=(sc (nt:= .prim) ihx (by simp)).append (OKP.sy (k:=k) (by omega) (by omega) (by simp[allow];omega) (OKP.sy (k:=17) (by omega) (by omega) rfl (OKP.br (P:=allow .prim) ihy.bal rfl rfl)))
  simpa using this
 | quAll c xs ys t q hc hx hy ihx ihy=>
  obtain⟨k,rfl,h1,h2⟩:=compOf_sy hc
  have:=(sc (nt:= .prim) ihx (by simp)).append (OKP.sy (k:=k) (by omega) (by omega) (by simp[allow];omega) (OKP.sy (k:=16) (by omega) (by omega) rfl (OKP.br (P:=allow .prim) ihy.bal rfl rfl)))
  simpa using this
 | cmp c xs ys t u hc hx hy ihx ihy=>
  obtain⟨k,rfl,h1,h2⟩:=compOf_sy hc
  exact(sc ihx (by simp)).append (OKP.sy (by omega) (by omega) (by simp[allow];omega) (sc ihy (by simp)))
 | prims1 xs t hx ihx=>exact up ihx (by simp[allow];omega)
 | prims2 xs ys t ts hx hy ihx ihy=>exact(up ihx (by simp[allow];omega)).append (OKP.sy (by omega) (by omega) rfl ihy)
 | conj1 xs t hx ihx=>exact up ihx (by simp[allow])
 | conj2 xs t u ts hx ihx=>exact up ihx (by simp[allow])
 | conjs1 xs t hx ihx=>exact up ihx (by simp[allow];omega)
 | conjs2 xs ys t ts hx hy ihx ihy=>exact(up ihx (by simp[allow];omega)).append (OKP.sy (by omega) (by omega) rfl ihy)
 | cond1 xs t hx ihx=>exact up ihx (by simp[allow])
 | cond2 xs t u ts hx ihx=>exact up ihx (by simp[allow])
 | sel xs ys ts ks hx hy ihx ihy=>exact OKP.sy (by omega) (by omega) rfl ((up ihx (by simp[allow];omega)).append (up ihy (by simp[allow];omega)))
 | selD xs ys ts ks hx hy ihx ihy=>exact OKP.sy (by omega) (by omega) rfl (OKP.sy (by omega) (by omega) rfl ((up ihx (by simp[allow];omega)).append (up ihy (by simp[allow];omega))))
 | sels1 xs t hx ihx=>exact up ihx (by simp[allow])
 | sels2 xs ys t ts hx hy ihx ihy=>exact(up ihx (by simp[allow])).append (OKP.sy (by omega) (by omega) rfl (OKP.sy (by omega) (by omega) rfl ihy))
 | query1 xs t hx ihx=>exact up ihx (by simp[allow])
 | query2 xs t u ts hx ihx=>exact up ihx (by simp[allow])
end Go.Proofs.YtmggnimiioepeaaGreatDoor.Pa
namespace Go.Proofs.YtmggnimiioepeaaGreatDoor.Pa
open Go
mutual
def lay:Rt->Nat->List Nd
 | .mk K N M S T kids,off=>(lays kids off).1++[⟨K,N,M,⟨S.toArray⟩,⟨T.toArray⟩,(lays kids off).2⟩]
def lays:List Rt->Nat->List Nd×List Int
 | [],_=>([],[])
 | t::ts,off=>(lay t off++(lays ts (off+(lay t off).length)).1,(((off+(lay t off).length:Nat):Int)-1)::(lays ts (off+(lay t off).length)).2)
end
theorem lay_mk(K N M:Int)(S T:List UInt8)(kids:List Rt)(off:Nat):lay (.mk K N M S T kids) off=(lays kids off).1++[⟨K,N,M,⟨S.toArray⟩,⟨T.toArray⟩,(lays kids off).2⟩]:=by rw[lay]
theorem lays_nil(off:Nat):lays [] off=([],[]):=by rw[lays]
theorem lays_cons(t:Rt)(ts:List Rt)(off:Nat):lays (t::ts) off=(lay t off++(lays ts (off+(lay t off).length)).1,(((off+(lay t off).length:Nat):Int)-1)::(lays ts (off+(lay t off).length)).2):=by rw[lays]
theorem lay_pos(t:Rt)(off:Nat):0<(lay t off).length:=by
 obtain⟨K,N,M,S,T,kids⟩:=t
 rw[lay_mk]
 simp
theorem lays_app: ∀(ts us:List Rt) (off:Nat),lays (ts++us) off=((lays ts off).1++(lays us (off+(lays ts off).1.length)).1,(lays ts off).2++(lays us (off+(lays ts off).1.length)).2)
 | [],us,off=>by rw[List.nil_append,lays_nil];simp
 | t::ts,us,off=>by
  have ih:=lays_app ts us (off+(lay t off).length)
  rw[List.cons_append,lays_cons,lays_cons,ih]
  simp only[List.length_append,List.append_assoc,List.cons_append,Nat.add_assoc]
theorem lays_snoc(ts:List Rt)(t:Rt)(off:Nat):lays (ts++[t]) off=((lays ts off).1++lay t (off+(lays ts off).1.length),(lays ts off).2++[((off+(lays ts off).1.length+(lay t (off+(lays ts off).1.length)).length:Nat):Int)-1]):=by
 rw[lays_app,lays_cons,lays_nil]
 simp
theorem lays_len(ts:List Rt)(off:Nat):(lays ts off).2.length=ts.length:=by
 induction ts generalizing off with
 | nil=>rw[lays_nil];rfl
 | cons t ts ih=>rw[lays_cons];simp[ih]
theorem lays_one(t:Rt)(off:Nat):(lays [t] off).1=lay t off:=by rw[lays_cons,lays_nil];simp
end Go.Proofs.YtmggnimiioepeaaGreatDoor.Pa
namespace Go.Proofs.YtmggnimiioepeaaGreatDoor.Pa
open Go Go.RowKit
abbrev Lbl:Type:=Nat->Option Nat
structure Nv where
 n:Nd
 ka:Option Addr
 kc:Nat
def cNv(q:Nv):List Value:=[.int .i64 q.n.K,.int .i64 q.n.N,.int .i64 q.n.M,.string q.n.S,.string q.n.T,.slice q.ka q.n.Kids.length q.kc]
def iV(xs:List Int):List Value:=xs.map (Value.int .i64)
theorem iV_app(xs ys:List Int):iV (xs++ys)=iV xs++iV ys:=by simp[iV]
theorem cNv_one(q:Nv): ∀u∈cNv q,u.oneCell'=true:=fun u hu=>by
 simp[cNv]at hu
 rcases hu with rfl | rfl | rfl | rfl | rfl | rfl<;>rfl
theorem own_butB{S:Nat->Prop}{w w1:World}{B e size n:Nat}{v:Value}{xs:List Value}(h:w.ownsRow B e size v n xs)(hb:ButB S w w1)(hn: ∀g,v.ownBlock=some g-> ¬S g):w1.ownsRow B e size v n xs:=by
 refine⟨h.1,?_⟩
 rcases h.2 with h0 | ⟨g,cap,cur,h1,h2,h3,h4⟩
 ·exact Or.inl h0
 ·exact Or.inr ⟨g,cap,cur,h1,h2,by rw[hb.block g (Array.getElem?_eq_some_iff.1 h3).1 (hn g (by rw[h1];rfl))];exact h3,h4⟩
structure NS(B:Nat)(W:World)(lab:Lbl)(na:Option Addr)(nc:Nat)(ns:List Nd):Prop where
 ex: ∃qs:List Nv,qs.map (·.n)=ns/\W.ownsRow B 62 6 (.slice na ns.length nc) ns.length (qs.flatMap cNv)/\ ∀i q,qs[i]?=some q->W.ownsRow B 3 1 (.slice q.ka q.n.Kids.length q.kc) q.n.Kids.length (iV q.n.Kids)/\ ∀b,blk q.ka=some b->lab b=some i
 off: ∀b,blk na=some b->lab b=none
 rng: ∀b i,lab b=some i->b<W.heap.size
structure KO(B:Nat)(W:World)(lab:Lbl)(na ka:Option Addr)(kc:Nat)(xs:List Int):Prop where
 own:W.ownsRow B 3 1 (.slice ka xs.length kc) xs.length (iV xs)
 off: ∀b,blk ka=some b->lab b=none/\blk na≠some b
structure Fr(W W':World)(lab lab':Lbl)(na na':Option Addr):Prop where
 but:ButB (fun b=>blk na=some b) W W'
 own: ∀b,blk na'=some b->blk na=some b\/W.heap.size<=b
 lb: ∀b,b<W.heap.size->lab' b=lab b
def labX(lab:Lbl)(ka:Option Addr)(i:Nat):Lbl:=fun b=>if blk ka=some b then some i else lab b
section
variable {B:Nat}{W W1 W2:World}{lab lab1 lab2:Lbl}{na na1 na2 ka:Option Addr}{nc kc:Nat}{ns:List Nd}{xs:List Int}{S:Nat->Prop}
theorem row_lt{w:World}{t z n c:Nat}{a:Option Addr}{vs:List Value}(h:w.ownsRow B t z (.slice a n c) n vs): ∀b,blk a=some b->B<=b/\b<w.heap.size:=fun b hb=>by
 obtain⟨a',c',e,h2⟩:=ownsRow_form h
 simp only[Value.slice.injEq]at e
 obtain⟨rfl,_,_⟩:=e
 exact h2 b hb
theorem NS.lt(h:NS B W lab na nc ns): ∀b,blk na=some b->B<=b/\b<W.heap.size:=by
 obtain⟨qs,_,ho,_⟩:=h.ex
 exact row_lt ho
theorem KO.lt(h:KO B W lab na ka kc xs): ∀b,blk ka=some b->B<=b/\b<W.heap.size:=row_lt h.own
theorem NS.but(h:NS B W lab na nc ns)(k:ButB S W W1)(hv: ∀b,blk na=some b-> ¬S b)(hl: ∀b i,lab b=some i-> ¬S b):NS B W1 lab na nc ns:=by
 obtain⟨qs,e,ho,hk⟩:=h.ex
 exact⟨⟨qs,e,own_butB ho k (fun g hg=>hv g (by rw[own_slice]at hg;exact hg)),fun i q hq=>⟨own_butB (hk i q hq).1 k (fun g hg=>hl g i ((hk i q hq).2 g (by rw[own_slice]at hg;exact hg))),(hk i q hq).2⟩⟩,h.off,fun b i e=>Nat.lt_of_lt_of_le (h.rng b i e) k.size⟩
theorem NS.of(h:NS B W lab na nc ns)(hb:Below W.heap.size W W1):NS B W1 lab na nc ns:=h.but (S:=fun _=>False) (ButB.ofBelow hb) (fun _ _ e=>e) (fun _ _ _ e=>e)
theorem KO.but(h:KO B W lab na ka kc xs)(k:ButB S W W1)(hv: ∀b,blk ka=some b-> ¬S b):KO B W1 lab na ka kc xs:=⟨own_butB h.own k (fun g e=>hv g (by rw[own_slice]at e;exact e)),h.off⟩
theorem KO.of(h:KO B W lab na ka kc xs)(hb:Below W.heap.size W W1):KO B W1 lab na ka kc xs:=h.but (S:=fun _=>False) (ButB.ofBelow hb) (fun _ _ e=>e)
theorem KO.fr(h:KO B W lab na ka kc xs)(f:Fr W W1 lab lab1 na na1):KO B W1 lab1 na1 ka kc xs:=by
 have h2:=h.but f.but (fun b hb=>(h.off b hb).2)
 refine⟨h2.own,fun b hb=>⟨?_,fun e=> ?_⟩⟩
 ·rw[f.lb b (h.lt b hb).2];exact(h.off b hb).1
 ·rcases f.own b e with e | e
  ·exact(h.off b hb).2 e
  ·have:=(h.lt b hb).2;omega
theorem Fr.refl(W:World)(lab:Lbl)(na:Option Addr):Fr W W lab lab na na:=⟨ButB.refl _ _,fun _ h=>Or.inl h,fun _ _=>rfl⟩
theorem Fr.ofBelow(hb:Below W.heap.size W W1):Fr W W1 lab lab na na:=⟨ButB.ofBelow hb,fun _ h=>Or.inl h,fun _ _=>rfl⟩
theorem Fr.trans(h:Fr W W1 lab lab1 na na1)(h':Fr W1 W2 lab1 lab2 na1 na2):Fr W W2 lab lab2 na na2:=
 ⟨h.but.trans' h'.but (fun b hb=>h.own b hb),fun b hb=>(h'.own b hb).elim (fun e=>h.own b e) (fun e=>Or.inr (Nat.le_trans h.but.size e)),fun b hb=>(h'.lb b (Nat.lt_of_lt_of_le hb h.but.size)).trans (h.lb b hb)⟩
theorem Fr.size(h:Fr W W1 lab lab1 na na1):W.heap.size<=W1.heap.size:=h.but.size
theorem Fr.thenB(h:Fr W W1 lab lab1 na na1)(hb:Below W1.heap.size W1 W2):Fr W W2 lab lab1 na na1:=h.trans (Fr.ofBelow hb)
theorem Fr.local(h:Fr W W1 lab lab1 na na1)(k:ButB S W1 W2)(hS: ∀b,S b->W.heap.size<=b):Fr W W2 lab lab1 na na1:=⟨h.but.trans' k (fun b hb=>Or.inr (hS b hb)),h.own,h.lb⟩
theorem Fr.below(h:Fr W W1 lab lab1 na na1)(hB:B<=W.heap.size)(hn:NS B W lab na nc ns):Below B W W1:=h.but.below hB (fun b hb=>(hn.lt b hb).1)
theorem Fr.push(h:Fr W W1 lab lab1 na na1)(hk: ∀b,blk ka=some b->W.heap.size<=b)(k:ButB (fun b=>blk na1=some b) W1 W2)(hat: ∀b,blk na2=some b->blk na1=some b\/b=W1.heap.size)(i:Nat):Fr W W2 lab (labX lab1 ka i) na na2:=
 ⟨h.but.trans' k (fun b hb=>h.own b hb),fun b hb=>(hat b hb).elim (fun e=>h.own b e) (fun e=>Or.inr (by rw[e];exact h.but.size)),fun b hb=>by
  unfold labX
  rw[if_neg (fun e=>by have:=hk b e;omega)]
  exact h.lb b hb⟩
theorem KO.new(hN:NS B W lab na nc ns)(hB:B<=W.heap.size)(xs:List Int)(hl:xs.length<=1000000):KO B (W.alloc (.cells (iV xs).toArray 3)) lab na (some ⟨W.heap.size,0,none⟩) xs.length xs:=by
 refine⟨?_,fun b hb=> ?_⟩
 ·exact⟨by simp[iV],Or.inr ⟨W.heap.size,xs.length,(iV xs).toArray,rfl,hB,heap_alloc_new W _,Nat.le_refl _,by unfold maxLen;omega,by simp[iV],by simp[iV,List.take_of_length_le]⟩⟩
 ·simp[blk]at hb
  subst hb
  refine⟨?_,fun e=>by have:=(hN.lt _ e).2;omega⟩
  cases hl:lab W.heap.size with
  | none=>rfl
  | some i=>have:=hN.rng _ _ hl;omega
theorem KO.nil(B:Nat)(W:World)(lab:Lbl)(na:Option Addr):KO B W lab na none 0 []:=⟨⟨rfl,Or.inl ⟨rfl,rfl⟩⟩,fun b hb=>by simp[blk]at hb⟩
end
theorem wpList_pushN(W:World){P:Program}{ops:Array Oper}{rest:List Oper}{o:Oper}{a:Act}{Q:Exit->Act->World->Prop}(hgd:o.guard=none)(s x:Operand)(t:TypeId)
  (ho:o.op= .call {callee:= .builtin .append,args:= #[s,x],argTypes:= #[t,t]}) (i:TypeInfo) (z:Value) (ht:P.underlying t=some (.slice 62)) (hi:P.info? 62=some i) (hz:i.zero=some z)
  (hsize:i.size=6) (hby:i.bytes=80) (hzs:z.cells.size=6) (B:Nat) (lab:Lbl) (na:Option Addr) (nc:Nat) (ns:List Nd) (hs:a.eval s= .slice na ns.length nc) (hN:NS B W lab na nc ns)
  (n:Nd) (ka:Option Addr) (kc:Nat) (hK:KO B W lab na ka kc n.Kids) (G xc:Nat) (hx:a.eval x= .slice (some ⟨G,0,none⟩) 1 xc) (hsrc: ∀j u,(cNv ⟨n,ka,kc⟩)[j]?=some u->W.cell? ⟨G,j,none⟩=some u)
  (hlen:ns.length<=1000000) (hB:B<=W.heap.size)
  (h: ∀ra rc w',NS B w' (labX lab ka ns.length) ra rc (ns++[n])->ButB (fun b=>blk na=some b) W w'->(∀b,blk ra=some b->blk na=some b\/b=W.heap.size)->wpList P ops Q rest (a.put o.dst (.slice ra (ns.length+1) rc)) w'):wpList P ops Q (o::rest) a W:=by
 obtain⟨qs,e,hown,hk⟩:=hN.ex
 refine wpList_append_gen W hgd s x t ho B 62 i z 6 80 ht hi hz hsize hby hzs (by decide) na ns.length nc (qs.flatMap cNv) hs hown (some ⟨G,0,none⟩) 1 xc (cNv ⟨n,ka,kc⟩) hx ⟨rfl,cNv_one _,Or.inr ⟨G,rfl,hsrc⟩⟩ (by unfold maxLen;omega) (by omega) hB ?_
 intro ra rc w' hown2 hgrow hat
 have hbut:ButB (fun b=>blk na=some b) W w':=ButB.grown hgrow (fun b hb=>hb)
 refine h ra rc w' ⟨⟨qs++[⟨n,ka,kc⟩],by simp[e],?_,fun j q hq=> ?_⟩,fun b hb=> ?_,fun b j hb=> ?_⟩ hbut hat
 ·rw[List.flatMap_append,List.length_append]
  simpa using hown2
 ·have hql:qs.length=ns.length:=by rw[<-e];simp
  by_cases hj:j<qs.length
  ·rw[List.getElem?_append_left hj]at hq
   obtain⟨h1,h2⟩:=hk j q hq
   refine⟨own_butB h1 hbut (fun g hg=> ?_),fun b hb=> ?_⟩
   ·rw[own_slice]at hg
    intro e2
    have:=hN.off g e2
    rw[h2 g hg]at this
    cases this
   ·unfold labX
    rw[if_neg (fun e2=>by have:=(hK.off b e2).1;rw[h2 b hb]at this;cases this)]
    exact h2 b hb
  ·rw[List.getElem?_append_right (by omega)]at hq
   have hj0:j-qs.length=0:=by
    have:=(List.getElem?_eq_some_iff.1 hq).1
    simp at this
    omega
   rw[hj0]at hq
   simp only[List.getElem?_cons_zero,Option.some.injEq]at hq
   subst hq
   refine⟨own_butB hK.own hbut (fun g hg=> ?_),fun b hb=> ?_⟩
   ·rw[own_slice]at hg
    exact fun e2=>(hK.off g hg).2 e2
   ·unfold labX
    rw[if_pos hb,show j=ns.length by omega]
 ·unfold labX
  rw[if_neg (fun e2=> ?_)]
  ·rcases hat b hb with e2 | e2
   ·exact hN.off b e2
   ·cases hl:lab b with
    | none=>rfl
    | some i=>have:=hN.rng _ _ hl;omega
  ·have:=(hK.lt b e2).2
   rcases hat b hb with e3 | e3
   ·exact(hK.off b e2).2 e3
   ·omega
 ·unfold labX at hb
  split at hb
  ·rename_i e2
   exact Nat.lt_of_lt_of_le (hK.lt b e2).2 hbut.size
  ·exact Nat.lt_of_lt_of_le (hN.rng b j hb) hbut.size
theorem wpList_pushK(W:World){P:Program}{ops:Array Oper}{rest:List Oper}{o:Oper}{a:Act}{Q:Exit->Act->World->Prop}(hgd:o.guard=none)(s x:Operand)(t:TypeId)
  (ho:o.op= .call {callee:= .builtin .append,args:= #[s,x],argTypes:= #[t,t]}) (i:TypeInfo) (z:Value) (ht:P.underlying t=some (.slice 3)) (hi:P.info? 3=some i) (hz:i.zero=some z)
  (hsize:i.size=1) (hby:i.bytes=8) (hzs:z.cells.size=1) (B:Nat) (lab:Lbl) (na ka:Option Addr) (kc:Nat) (xs:List Int) (hs:a.eval s= .slice ka xs.length kc) (hK:KO B W lab na ka kc xs) (hNl: ∀b,blk na=some b->b<W.heap.size) (hLl: ∀b i,lab b=some i->b<W.heap.size)
  (v:Int) (G xc:Nat) (hx:a.eval x= .slice (some ⟨G,0,none⟩) 1 xc) (hsrc:W.cell? ⟨G,0,none⟩=some (.int .i64 v))
  (hlen:xs.length<=1000000) (hB:B<=W.heap.size)
  (h: ∀ra rc w',KO B w' lab na ra rc (xs++[v])->ButB (fun b=>blk ka=some b) W w'->(∀b,blk ra=some b->blk ka=some b\/b=W.heap.size)->wpList P ops Q rest (a.put o.dst (.slice ra (xs.length+1) rc)) w'):wpList P ops Q (o::rest) a W:=by
 refine wpList_append_gen W hgd s x t ho B 3 i z 1 8 ht hi hz hsize hby hzs (by decide) ka xs.length kc (iV xs) hs hK.own (some ⟨G,0,none⟩) 1 xc [.int .i64 v] hx ⟨rfl,by simp[Value.oneCell'],Or.inr ⟨G,rfl,fun j u hj=> ?_⟩⟩ (by unfold maxLen;omega) (by omega) hB ?_
 ·cases j with
  | zero=>simp at hj;subst hj;exact hsrc
  | succ j=>simp at hj
 intro ra rc w' hown2 hgrow hat
 refine h ra rc w' ⟨?_,fun b hb=> ?_⟩ (ButB.grown hgrow (fun b hb=>hb)) hat
 ·rw[iV_app,List.length_append]
  exact hown2
 ·rcases hat b hb with e2 | e2
  ·exact hK.off b e2
  ·refine⟨?_,fun e3=>by have:=hNl b e3;omega⟩
   cases hl:lab b with
   | none=>rfl
   | some i=>have:=hLl _ _ hl;omega
theorem lit_node{B:Nat}{W:World}{lab:Lbl}{na:Option Addr}{nc:Nat}{ns:List Nd}(hN:NS B W lab na nc ns)(hB:B<=W.heap.size)(n:Nd)(hl:n.Kids.length<=1000000)(W2:World)(hW:W2=(W.alloc (.cells (iV n.Kids).toArray 3)).alloc (.cells (cNv ⟨n,some ⟨W.heap.size,0,none⟩,n.Kids.length⟩).toArray 62)):
  NS B W2 lab na nc ns/\KO B W2 lab na (some ⟨W.heap.size,0,none⟩) n.Kids.length n.Kids/\(∀j u,(cNv ⟨n,some ⟨W.heap.size,0,none⟩,n.Kids.length⟩)[j]?=some u->W2.cell? ⟨W.heap.size+1,j,none⟩=some u)/\B<=W2.heap.size/\Below W.heap.size W W2/\W2.heap.size=W.heap.size+2:=by
 have b1:Below W.heap.size W (W.alloc (.cells (iV n.Kids).toArray 3)):=bA (Below.refl _ _) _
 have hc:=CellsAt.new (W.alloc (.cells (iV n.Kids).toArray 3)) (cNv ⟨n,some ⟨W.heap.size,0,none⟩,n.Kids.length⟩) 62
 have e1:(W.alloc (.cells (iV n.Kids).toArray 3)).heap.size=W.heap.size+1:=by simp
 rw[e1]at hc
 have hk:=(KO.new hN hB n.Kids hl).of (bA (Below.refl _ (W.alloc (.cells (iV n.Kids).toArray 3))) (.cells (cNv ⟨n,some ⟨W.heap.size,0,none⟩,n.Kids.length⟩).toArray 62))
 have b2:Below W.heap.size W W2:=by rw[hW];exact bA b1 _
 have e2:W2.heap.size=W.heap.size+2:=by rw[hW];simp
 refine⟨hN.of b2,by rw[hW];exact hk,by rw[hW];exact hc.all,by omega,b2,e2⟩
theorem lit_node0{B:Nat}{W:World}{lab:Lbl}{na:Option Addr}{nc:Nat}{ns:List Nd}(hN:NS B W lab na nc ns)(hB:B<=W.heap.size)(n:Nd)(ka:Option Addr)(kc:Nat)(hK:KO B W lab na ka kc n.Kids)(W2:World)(hW:W2=W.alloc (.cells (cNv ⟨n,ka,kc⟩).toArray 62)):
  NS B W2 lab na nc ns/\KO B W2 lab na ka kc n.Kids/\(∀j u,(cNv ⟨n,ka,kc⟩)[j]?=some u->W2.cell? ⟨W.heap.size,j,none⟩=some u)/\B<=W2.heap.size/\Below W.heap.size W W2/\W2.heap.size=W.heap.size+1:=by
 have b2:Below W.heap.size W W2:=by rw[hW];exact bA (Below.refl _ _) _
 have e2:W2.heap.size=W.heap.size+1:=by rw[hW];simp
 exact⟨hN.of b2,hK.of b2,by rw[hW];exact(CellsAt.new W _ _).all,by omega,b2,e2⟩
def PE(B:Nat)(W:World)(lab:Lbl)(na:Option Addr)(ns:List Nd)(r:Option (List Rt))(len:Nat)(e:Ending)(W':World):Prop:=
 ∃na' nc' lab' ns',e= .returned (.tuple #[.slice na' (ns':List Nd).length nc',.bool r.isSome])/\NS B W' lab' na' nc' ns'/\Fr W W' lab lab' na na'/\ns'.length<=ns.length+len/\ ∀t,r=some [t]->ns'=ns++lay t ns.length
end Go.Proofs.YtmggnimiioepeaaGreatDoor.Pa
namespace Go.Proofs.YtmggnimiioepeaaGreatDoor.AX
open Go Go.RowKit
def KIx(w:World)(ka:Option Addr)(xs:List Int):Prop:= ∀(i:Nat) x,xs[i]?=some x-> ∃kg,ka=some ⟨kg,0,none⟩/\kg<w.heap.size/\w.cell? ⟨kg,0+i,none⟩=some (.int .i64 x)
theorem KIx.of{w w1:World}{ka:Option Addr}{xs:List Int}(h:KIx w ka xs)(hb:Below w.heap.size w w1):KIx w1 ka xs:=fun i x hx=>by
 obtain⟨kg,h1,h2,h3⟩:=h i x hx
 exact⟨kg,h1,Nat.lt_of_lt_of_le h2 hb.size,(hb.cell (p:=⟨kg,0+i,none⟩) h2).trans h3⟩
theorem KIx.at{w:World}{ka:Option Addr}{xs:List Int}(h:KIx w ka xs)(i:Nat)(hi:i<xs.length): ∃kg,ka=some ⟨kg,0,none⟩/\kg<w.heap.size/\w.cell? ⟨kg,0+i,none⟩=some (.int .i64 xs[i]):=h i xs[i] (by simp[hi])
def NodesAt(w:World)(g off:Nat)(ns:List Nd):Prop:= ∀i n,ns[i]?=some n->Cells5 w g (off+i*6) n/\ ∃ka kc,w.cell? ⟨g,off+i*6+5,none⟩=some (.slice ka n.Kids.length kc)/\KIx w ka n.Kids
theorem NodesAt.of{w w1:World}{g off:Nat}{ns:List Nd}(h:NodesAt w g off ns)(hg:g<w.heap.size)(hb:Below w.heap.size w w1):NodesAt w1 g off ns:=fun i n hn=>by
 obtain⟨h1,ka,kc,h2,h3⟩:=h i n hn
 exact⟨h1.of hg hb,ka,kc,(hb.cell (p:=⟨g,off+i*6+5,none⟩) hg).trans h2,h3.of hb⟩
theorem NodesAt.at{w:World}{g off:Nat}{ns:List Nd}(h:NodesAt w g off ns)(i:Nat)(hi:i<ns.length):Cells5 w g (off+i*6) ns[i]/\ ∃ka kc,w.cell? ⟨g,off+i*6+5,none⟩=some (.slice ka ns[i].Kids.length kc)/\KIx w ka ns[i].Kids:=h i ns[i] (by simp[hi])
end Go.Proofs.YtmggnimiioepeaaGreatDoor.AX
