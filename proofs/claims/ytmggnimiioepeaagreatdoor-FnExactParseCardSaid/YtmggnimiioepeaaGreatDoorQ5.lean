import Derived.Test.YtmggnimiioepeaaGreatDoorQ0
import Derived.Test.YtmggnimiioepeaaGreatDoorQ4
namespace Go.Proofs.YtmggnimiioepeaaGreatDoor.Pa
open Go
def NN(r:List Tok):Prop:= ∀s l,r≠ .nam s::l
def NX(k:Nat)(r:List Tok):Prop:= ∀l,r≠ .sy k::l
def Fol:NT->List Tok->Prop
 | .scal,_=>True
 | .prim,_=>True
 | .src,r=>NN r
 | .scals,r=>NX 2 r
 | .srcs,r=>NN r/\NX 2 r
 | .prims,r=>NX 18 r
 | .conj,r=>NX 18 r
 | .conjs,r=>NX 18 r/\NX 19 r
 | .cond,r=>NX 18 r/\NX 19 r
 | .tail,r=>(NN r/\NX 2 r)/\NX 14 r/\NX 18 r/\NX 19 r
 | .sel,r=>(NN r/\NX 2 r)/\NX 14 r/\NX 18 r/\NX 19 r
 | .sels,r=>((NN r/\NX 2 r)/\NX 14 r/\NX 18 r/\NX 19 r)/\NX 15 r
 | .query,r=>((NN r/\NX 2 r)/\NX 14 r/\NX 18 r/\NX 19 r)/\NX 15 r
theorem NX.sy{j k:Nat}(h:j≠k)(l:List Tok):NX k (.sy j::l):=fun l' e=>by simp at e;exact h e.1
theorem NN.sy(j:Nat)(l:List Tok):NN (.sy j::l):=fun s l' e=>by simp at e
def rank:NT->Nat
 | .scal=>0 | .src=>0 | .scals=>1 | .srcs=>1 | .tail=>0 | .prim=>1 | .prims=>2 | .conj=>3 | .conjs=>4 | .cond=>5 | .sel=>0 | .sels=>1 | .query=>2
def Cpl(nt:NT)(pre:List Tok)(out:List Rt):Prop:= ∀rest f,Fol nt rest->rank nt+8*(pre++rest).length<f->iP f nt (pre++rest)=some (out,rest)
theorem brk_cpl{nt:NT}{xs:List Tok}{t:Rt}(h:Cpl nt xs [t])(hF: ∀l,Fol nt (.sy 1::l))(rest:List Tok)(f:Nat)(hf:rank nt+8*(xs++pC::rest).length<f):brk (iP f nt) (pO::xs++pC::rest)=some (t,rest):=by
 have:=h (pC::rest) f (hF rest) hf
 show(match iP f nt (xs++pC::rest)with | some ([t],.sy 1::r1)=>some (t,r1) | _=>none)=_
 rw[this]
 rfl
theorem sep_cpl1{sep:Nat}{n1 n2:NT}{xs:List Tok}{t:Rt}(h1:Cpl n1 xs [t]){rest:List Tok}{f:Nat}(hF:Fol n1 rest)(hn:NX sep rest)(hf:rank n1+8*(xs++rest).length<f):sepF (.sy sep) (iP f n1) (iP f n2) (xs++rest)=some ([t],rest):=by
 unfold sepF
 rw[h1 rest f hF hf]
 cases rest with
 | nil=>rfl
 | cons c r=>
  dsimp only
  rw[if_neg (fun e=>hn r (by rw[e]))]
theorem sep_cpl2{sep:Nat}{n1 n2:NT}{xs ys:List Tok}{t:Rt}{ts:List Rt}(h1:Cpl n1 xs [t])(h2:Cpl n2 ys ts){rest:List Tok}{f:Nat}(hF:Fol n1 (.sy sep::(ys++rest)))(hF2:Fol n2 rest)(hf:rank n1+8*(xs++ .sy sep::ys++rest).length<f)(hf2:rank n2+8*(ys++rest).length<f):sepF (.sy sep) (iP f n1) (iP f n2) (xs++ .sy sep::ys++rest)=some (t::ts,rest):=by
 have e:xs++ .sy sep::ys++rest=xs++(.sy sep::(ys++rest)):=by simp
 rw[e]at hf⊢
 unfold sepF
 rw[h1 _ f hF hf]
 dsimp only
 rw[if_pos rfl,h2 rest f hF2 hf2]
theorem join_cpl{K:Int}{n1:NT}{xs:List Tok}{ts out:List Rt}{rest:List Tok}{f:Nat}(h1:Cpl n1 xs ts)(hF:Fol n1 rest)(hf:rank n1+8*(xs++rest).length<f)(ho:joinF K (some (ts,rest))=some (out,rest)):joinF K (iP f n1 (xs++rest))=some (out,rest):=by
 rw[h1 rest f hF hf,ho]
theorem tail_cpl1{xs:List Tok}{ts:List Rt}(h1:Cpl .srcs xs ts){rest:List Tok}{f:Nat}(hF:Fol .tail rest)(hf:1+8*(xs++rest).length<f):tailF (iP f .srcs) (iP f .cond) (kFrom::xs++rest)=some (ts,rest):=by
 show(match iP f .srcs (xs++rest)with | some (l,c::r1)=>(if c=kWhere then(match iP f .cond r1 with | some ([x],r2)=>some (l++[x],r2) | _=>none)else some (l,c::r1)) | some (l,[])=>some (l,[]) | none=>none)=_
 rw[h1 rest f hF.1 hf]
 cases rest with
 | nil=>rfl
 | cons c r=>
  dsimp only
  rw[if_neg (fun e=>hF.2.1 r (by rw[e]))]
theorem tail_cpl2{xs ys:List Tok}{ts:List Rt}{c:Rt}(h1:Cpl .srcs xs ts)(h2:Cpl .cond ys [c]){rest:List Tok}{f:Nat}(hF:Fol .tail rest)(hf:1+8*(xs++kWhere::ys++rest).length<f)(hf2:5+8*(ys++rest).length<f):tailF (iP f .srcs) (iP f .cond) (kFrom::xs++kWhere::ys++rest)=some (ts++[c],rest):=by
 have e:xs++kWhere::ys++rest=xs++(kWhere::(ys++rest)):=by simp
 rw[e]at hf
 show(match iP f .srcs (xs++kWhere::ys++rest)with | some (l,c::r1)=>(if c=kWhere then(match iP f .cond r1 with | some ([x],r2)=>some (l++[x],r2) | _=>none)else some (l,c::r1)) | some (l,[])=>some (l,[]) | none=>none)=_
 rw[e,h1 _ f ⟨NN.sy _ _,NX.sy (by omega) _⟩ hf]
 dsimp only
 rw[if_pos rfl,h2 rest f hF.2.2 hf2]
theorem sel_cpl{M:Int}{xs ys:List Tok}{ts ks:List Rt}(h1:Cpl .scals xs ts)(h2:Cpl .tail ys ks)(hy: ∃r,ys=kFrom::r){rest:List Tok}{f:Nat}(hF:Fol .tail rest)(hf:1+8*(xs++(ys++rest)).length<f)(hf2:8*(ys++rest).length<f):selF M (iP f .scals) (iP f .tail) (xs++(ys++rest))=some ([.mk 6 ts.length M [] [] (ts++ks)],rest):=by
 unfold selF
 obtain⟨r,rfl⟩:=hy
 rw[h1 (kFrom::r++rest) f (NX.sy (by omega) _) hf]
 dsimp only
 rw[h2 rest f hF (by simpa[rank]using hf2)]
theorem tail_from{xs:List Tok}{ts:List Rt}(h:G .tail xs ts): ∃r,xs=kFrom::r:=by
 cases h with
 | tail1 xs ts hx=>exact⟨_,rfl⟩
 | tail2 xs ys ts c hx hy=>exact⟨_,rfl⟩
theorem agg_cpl{w:Tok}{xs ys:List Tok}{t:Rt}{ks:List Rt}(hw:0<aggOf w)(hg:G .scal xs [t])(h1:Cpl .scal xs [t])(h2:Cpl .tail ys ks){rest:List Tok}{f:Nat}(hf:8*(xs++pC::(ys++pC::rest)).length<f):aggF (iP f .scal) (iP f .tail) (kSel::w::pO::(xs++pC::(ys++pC::rest)))=some ([.mk 4 1 (aggOf w) [] [] (t::ks)],rest):=by
 have hst: ¬(w= .sy 25/\(xs++pC::(ys++pC::rest)).head?=some star):=fun⟨_,e⟩=>by
  rcases scal_head hg with⟨v,r,rfl⟩ | ⟨s,r,rfl⟩ | ⟨r,rfl⟩ | ⟨r,rfl⟩<;>simp at e
 show(if 0<aggOf w then(if w= .sy 25/\(xs++pC::(ys++pC::rest)).head?=some star then _ else(match iP f .scal (xs++pC::(ys++pC::rest))with
  | some ([t],.sy 1::r2)=>(match iP f .tail r2 with
   | some (ks,.sy 1::r3)=>some ([Rt.mk 4 1 (aggOf w) [] [] (t::ks)],r3)
   | _=>none)
  | _=>none))else none)=_
 rw[if_pos hw,if_neg hst,h1 _ f trivial (by simpa[rank]using hf)]
 show(match iP f .tail (ys++pC::rest)with
   | some (ks,.sy 1::r3)=>some ([Rt.mk 4 1 (aggOf w) [] [] (t::ks)],r3)
   | _=>none)=_
 rw[h2 (pC::rest) f ⟨⟨NN.sy _ _,NX.sy (by omega) _⟩,NX.sy (by omega) _,NX.sy (by omega) _,NX.sy (by omega) _⟩ (by simp at hf⊢;simp[rank];omega)]
 rfl
theorem aggAll_cpl{ys:List Tok}{ks:List Rt}(h2:Cpl .tail ys ks){rest:List Tok}{f:Nat}(hf:8*(ys++pC::rest).length<f):aggF (iP f .scal) (iP f .tail) (kSel:: .sy 25::pO::star::pC::(ys++pC::rest))=some ([.mk 4 0 1 [] [] ks],rest):=by
 show(match iP f .tail (ys++pC::rest)with
   | some (ks,.sy 1::r3)=>some ([Rt.mk 4 0 1 [] [] ks],r3)
   | _=>none)=_
 rw[h2 (pC::rest) f ⟨⟨NN.sy _ _,NX.sy (by omega) _⟩,NX.sy (by omega) _,NX.sy (by omega) _,NX.sy (by omega) _⟩ (by simpa[rank]using hf)]
 rfl
theorem fol_query(l:List Tok):Fol .query (.sy 1::l):=⟨⟨⟨NN.sy _ _,NX.sy (by omega) _⟩,NX.sy (by omega) _,NX.sy (by omega) _,NX.sy (by omega) _⟩,NX.sy (by omega) _⟩
theorem fol_cond(l:List Tok):Fol .cond (.sy 1::l):=⟨NX.sy (by omega) _,NX.sy (by omega) _⟩
theorem prim_test{xs:List Tok}{t:Rt}{out:List Rt}(hg:G .scal xs [t])(h1:Cpl .scal xs [t]){r rest:List Tok}{f:Nat}(hf:8*(xs++r).length<f)(ht:testF (iP f .scal) (iP f .query) t r=some (out,rest)):iP (f+1) .prim (xs++r)=some (out,rest):=by
 have hs:=h1 r f trivial (by simpa[rank]using hf)
 rcases scal_head hg with⟨v,l,rfl⟩ | ⟨s,l,rfl⟩ | ⟨l,rfl⟩ | ⟨l,rfl⟩
 ·simp only[iP,List.cons_append]
  rw[List.cons_append]at hs
  rw[if_neg (by simp),hs]
  exact ht
 ·simp only[iP,List.cons_append]
  rw[List.cons_append]at hs
  rw[if_neg (by simp),hs]
  exact ht
 ·simp only[iP,List.cons_append]
  rw[List.cons_append]at hs
  rw[if_neg (by simp),hs]
  exact ht
 ·simp only[iP,List.cons_append]
  rw[List.cons_append,List.cons_append]at hs
  rw[if_neg (by simp),hs]
  exact ht
theorem six{k:Nat}(h1:5<=k)(h2:k<=10):k=5\/k=6\/k=7\/k=8\/k=9\/k=10:=by omega
theorem test_q{c:Tok}(hc:0<compOf c){w:Nat}(hw:w=17\/w=16){t q:Rt}{ys rest:List Tok}{f:Nat}(hb:brk (iP f .query) (pO::ys++pC::rest)=some (q,rest)):testF (iP f .scal) (iP f .query) t (c:: .sy w::(pO::ys++pC::rest))=some ([.mk 12 (if w=17 then 1 else 2) (compOf c) [] [] [t,q]],rest):=by
 obtain⟨k,rfl,h1,h2⟩:=compOf_sy hc
 rcases six h1 h2 with rfl | rfl | rfl | rfl | rfl | rfl<;>rcases hw with rfl | rfl<;>simp only[testF]<;>rw[if_pos hc,hb]<;>rfl
theorem test_c{c:Tok}(hc:0<compOf c){t u:Rt}{ys rest:List Tok}{f:Nat}(hg:G .scal ys [u])(hs:iP f .scal (ys++rest)=some ([u],rest)):testF (iP f .scal) (iP f .query) t (c::(ys++rest))=some ([.mk 8 0 (compOf c) [] [] [t,u]],rest):=by
 obtain⟨k,rfl,h1,h2⟩:=compOf_sy hc
 rcases scal_head hg with⟨v,l,rfl⟩ | ⟨s,l,rfl⟩ | ⟨l,rfl⟩ | ⟨l,rfl⟩<;>rw[List.cons_append]at hs⊢ <;>(rcases six h1 h2 with rfl | rfl | rfl | rfl | rfl | rfl<;>simp only[testF]<;>rw[if_pos hc,hs])
set_option maxHeartbeats 4000000 in
theorem iP_complete{nt:NT}{pre:List Tok}{out:List Rt}(h:G nt pre out):Cpl nt pre out:=by
 induction h with
 | int v=>
  intro rest f hF hf
  obtain⟨f,rfl⟩: ∃g,f=g+1:=⟨f-1,by omega⟩
  rfl
 | null=>
  intro rest f hF hf
  obtain⟨f,rfl⟩: ∃g,f=g+1:=⟨f-1,by omega⟩
  rfl
 | col s v h=>
  intro rest f hF hf
  obtain⟨f,rfl⟩: ∃g,f=g+1:=⟨f-1,by omega⟩
  show(if 0<=v then some ([rCol s v],rest)else none)=_
  rw[if_pos h]
 | agg w xs ys t ks hw hx hy ihx ihy=>
  intro rest f hF hf
  obtain⟨f,rfl⟩: ∃g,f=g+1:=⟨f-1,by omega⟩
  have:=agg_cpl (rest:=rest) (f:=f) hw hx ihx ihy (by simp[rank]at hf⊢;omega)
  have e:pO::kSel::w::pO::xs++pC::ys++[pC]++rest=pO::(kSel::w::pO::(xs++pC::(ys++pC::rest))):=by simp
  rw[e]
  exact this
 | aggAll ys ks hy ihy=>
  intro rest f hF hf
  obtain⟨f,rfl⟩: ∃g,f=g+1:=⟨f-1,by omega⟩
  have:=aggAll_cpl (rest:=rest) (f:=f) ihy (by simp[rank]at hf⊢;omega)
  have e:pO::kSel:: .sy 25::pO::star::pC::ys++[pC]++rest=pO::(kSel:: .sy 25::pO::star::pC::(ys++pC::rest)):=by simp
  rw[e]
  exact this
 | scals1 xs t hx ihx=>
  intro rest f hF hf
  obtain⟨f,rfl⟩: ∃g,f=g+1:=⟨f-1,by omega⟩
  exact sep_cpl1 ihx trivial hF (by simp[rank]at hf⊢;omega)
 | scals2 xs ys t ts hx hy ihx ihy=>
  intro rest f hF hf
  obtain⟨f,rfl⟩: ∃g,f=g+1:=⟨f-1,by omega⟩
  exact sep_cpl2 ihx ihy trivial hF (by simp[rank]at hf⊢;omega) (by simp[rank]at hf⊢;omega)
 | src1 a=>
  intro rest f hF hf
  obtain⟨f,rfl⟩: ∃g,f=g+1:=⟨f-1,by omega⟩
  cases rest with
  | nil=>rfl
  | cons c r=>
   cases c with
   | nam s=>exact absurd rfl (hF s r)
   | num v=>rfl
   | sy k=>rfl
 | src2 a b=>
  intro rest f hF hf
  obtain⟨f,rfl⟩: ∃g,f=g+1:=⟨f-1,by omega⟩
  rfl
 | srcs1 xs t hx ihx=>
  intro rest f hF hf
  obtain⟨f,rfl⟩: ∃g,f=g+1:=⟨f-1,by omega⟩
  exact sep_cpl1 ihx hF.1 hF.2 (by simp[rank]at hf⊢;omega)
 | srcs2 xs ys t ts hx hy ihx ihy=>
  intro rest f hF hf
  obtain⟨f,rfl⟩: ∃g,f=g+1:=⟨f-1,by omega⟩
  exact sep_cpl2 ihx ihy (NN.sy _ _) hF (by simp[rank]at hf⊢;omega) (by simp[rank]at hf⊢;omega)
 | tail1 xs ts hx ihx=>
  intro rest f hF hf
  obtain⟨f,rfl⟩: ∃g,f=g+1:=⟨f-1,by omega⟩
  exact tail_cpl1 ihx hF (by simp[rank]at hf⊢;omega)
 | tail2 xs ys ts c hx hy ihx ihy=>
  intro rest f hF hf
  obtain⟨f,rfl⟩: ∃g,f=g+1:=⟨f-1,by omega⟩
  exact tail_cpl2 ihx ihy hF (by simp[rank]at hf⊢;omega) (by simp[rank]at hf⊢;omega)
 | not xs t hx ihx=>
  intro rest f hF hf
  obtain⟨f,rfl⟩: ∃g,f=g+1:=⟨f-1,by omega⟩
  show(match iP f .prim (xs++rest)with | some ([t],r1)=>some ([Rt.mk 13 0 0 [] [] [t]],r1) | _=>none)=_
  rw[ihx rest f trivial (by simp[rank]at hf⊢;omega)]
 | exist xs t hx ihx=>
  intro rest f hF hf
  obtain⟨f,rfl⟩: ∃g,f=g+1:=⟨f-1,by omega⟩
  have:=brk_cpl ihx fol_query rest f (by simp[rank]at hf⊢;omega)
  have e:kExists::pO::xs++[pC]++rest=kExists::(pO::xs++pC::rest):=by simp
  rw[e]
  show(match brk (iP f .query) (pO::xs++pC::rest)with | some (q,r1)=>some ([Rt.mk 10 0 0 [] [] [q]],r1) | none=>none)=_
  rw[this]
 | br xs t hx ihx=>
  intro rest f hF hf
  obtain⟨f,rfl⟩: ∃g,f=g+1:=⟨f-1,by omega⟩
  have:=brk_cpl ihx fol_cond rest f (by simp[rank]at hf⊢;omega)
  have e:pO::xs++[pC]++rest=pO::(xs++pC::rest):=by simp
  rw[e]
  obtain⟨x,r,rfl,hne⟩:=cond_head hx (by simp[condish])
  simp only[List.cons_append]at this⊢
  simp only[iP]
  rw[if_pos (by simpa using hne),this]
 | isN xs t hx ihx=>
  intro rest f hF hf
  obtain⟨f,rfl⟩: ∃g,f=g+1:=⟨f-1,by omega⟩
  have e:xs++[kIs,kNull]++rest=xs++(kIs::kNull::rest):=by simp
  rw[e]at hf⊢
  exact prim_test hx ihx (by simp[rank]at hf⊢;omega) rfl
 | isNN xs t hx ihx=>
  intro rest f hF hf
  obtain⟨f,rfl⟩: ∃g,f=g+1:=⟨f-1,by omega⟩
  have e:xs++[kIs,kNot,kNull]++rest=xs++(kIs::kNot::kNull::rest):=by simp
  rw[e]at hf⊢
  exact prim_test hx ihx (by simp[rank]at hf⊢;omega) rfl
 | inn xs ys t q hx hy ihx ihy=>
  intro rest f hF hf
  obtain⟨f,rfl⟩: ∃g,f=g+1:=⟨f-1,by omega⟩
  have e:xs++kIn::pO::ys++[pC]++rest=xs++(kIn::(pO::ys++pC::rest)):=by simp
  rw[e]at hf⊢
  refine prim_test hx ihx (by simp[rank]at hf⊢;omega) ?_
  have:=brk_cpl ihy fol_query rest f (by simp[rank]at hf⊢;omega)
  show(match brk (iP f .query) (pO::ys++pC::rest)with | some (q,r1)=>some ([Rt.mk 11 0 0 [] [] [t,q]],r1) | none=>none)=_
  rw[this]
 | nin xs ys t q hx hy ihx ihy=>
  intro rest f hF hf
  obtain⟨f,rfl⟩: ∃g,f=g+1:=⟨f-1,by omega⟩
  have e:xs++kNot::kIn::pO::ys++[pC]++rest=xs++(kNot::kIn::(pO::ys++pC::rest)):=by simp
  rw[e]at hf⊢
  refine prim_test hx ihx (by simp[rank]at hf⊢;omega) ?_
  have:=brk_cpl ihy fol_query rest f (by simp[rank]at hf⊢;omega)
  show(match brk (iP f .query) (pO::ys++pC::rest)with | some (q,r1)=>some ([Rt.mk 11 0 1 [] [] [t,q]],r1) | none=>none)=_
  rw[this]
 | quAny c xs ys t q hc hx hy ihx ihy=>
  intro rest f hF hf
  obtain⟨f,rfl⟩: ∃g,f=g+1:=⟨f-1,by omega⟩
  have e:xs++c::kAny::pO::ys++[pC]++rest=xs++(c:: .sy 17::(pO::ys++pC::rest)):=by simp
  rw[e]at hf⊢
  refine prim_test hx ihx (by simp[rank]at hf⊢;omega) ?_
  exact test_q hc (Or.inl rfl) (brk_cpl ihy fol_query rest f (by simp[rank]at hf⊢;omega))
 | quAll c xs ys t q hc hx hy ihx ihy=>
  intro rest f hF hf
  obtain⟨f,rfl⟩: ∃g,f=g+1:=⟨f-1,by omega⟩
  have e:xs++c::kAll::pO::ys++[pC]++rest=xs++(c:: .sy 16::(pO::ys++pC::rest)):=by simp
  rw[e]at hf⊢
  refine prim_test hx ihx (by simp[rank]at hf⊢;omega) ?_
  exact test_q hc (Or.inr rfl) (brk_cpl ihy fol_query rest f (by simp[rank]at hf⊢;omega))
 | cmp c xs ys t u hc hx hy ihx ihy=>
  intro rest f hF hf
  obtain⟨f,rfl⟩: ∃g,f=g+1:=⟨f-1,by omega⟩
  have e:xs++c::ys++rest=xs++(c::(ys++rest)):=by simp
  rw[e]at hf⊢
  refine prim_test hx ihx (by simp[rank]at hf⊢;omega) ?_
  exact test_c hc hy (ihy rest f trivial (by simp[rank]at hf⊢;omega))
 | prims1 xs t hx ihx=>
  intro rest f hF hf
  obtain⟨f,rfl⟩: ∃g,f=g+1:=⟨f-1,by omega⟩
  exact sep_cpl1 ihx trivial hF (by simp[rank]at hf⊢;omega)
 | prims2 xs ys t ts hx hy ihx ihy=>
  intro rest f hF hf
  obtain⟨f,rfl⟩: ∃g,f=g+1:=⟨f-1,by omega⟩
  exact sep_cpl2 ihx ihy trivial hF (by simp[rank]at hf⊢;omega) (by simp[rank]at hf⊢;omega)
 | conj1 xs t hx ihx=>
  intro rest f hF hf
  obtain⟨f,rfl⟩: ∃g,f=g+1:=⟨f-1,by omega⟩
  exact join_cpl ihx hF (by simp[rank]at hf⊢;omega) rfl
 | conj2 xs t u ts hx ihx=>
  intro rest f hF hf
  obtain⟨f,rfl⟩: ∃g,f=g+1:=⟨f-1,by omega⟩
  exact join_cpl ihx hF (by simp[rank]at hf⊢;omega) rfl
 | conjs1 xs t hx ihx=>
  intro rest f hF hf
  obtain⟨f,rfl⟩: ∃g,f=g+1:=⟨f-1,by omega⟩
  exact sep_cpl1 ihx hF.1 hF.2 (by simp[rank]at hf⊢;omega)
 | conjs2 xs ys t ts hx hy ihx ihy=>
  intro rest f hF hf
  obtain⟨f,rfl⟩: ∃g,f=g+1:=⟨f-1,by omega⟩
  exact sep_cpl2 ihx ihy (NX.sy (by omega) _) hF (by simp[rank]at hf⊢;omega) (by simp[rank]at hf⊢;omega)
 | cond1 xs t hx ihx=>
  intro rest f hF hf
  obtain⟨f,rfl⟩: ∃g,f=g+1:=⟨f-1,by omega⟩
  exact join_cpl ihx hF (by simp[rank]at hf⊢;omega) rfl
 | cond2 xs t u ts hx ihx=>
  intro rest f hF hf
  obtain⟨f,rfl⟩: ∃g,f=g+1:=⟨f-1,by omega⟩
  exact join_cpl ihx hF (by simp[rank]at hf⊢;omega) rfl
 | sel xs ys ts ks hx hy ihx ihy=>
  intro rest f hF hf
  obtain⟨f,rfl⟩: ∃g,f=g+1:=⟨f-1,by omega⟩
  have:=sel_cpl (M:=0) ihx ihy (tail_from hy) (rest:=rest) (f:=f) hF (by simp[rank]at hf⊢;omega) (by simp[rank]at hf⊢;omega)
  obtain⟨x,r,rfl,hne⟩:=scals_head hx
  have e:kSel::(x::r)++ys++rest=kSel::x::(r++(ys++rest)):=by simp
  rw[e]
  rw[List.cons_append]at this
  have e2:iP (f+1) .sel (kSel::x::(r++(ys++rest)))=selF 0 (iP f .scals) (iP f .tail) (x::(r++(ys++rest))):=by
   cases x with
   | nam s=>rfl
   | num v=>rfl
   | sy k=>
    simp only[iP]
    split
    ·rename_i heq
     simp at heq
     exact absurd (by rw[heq.1]) hne
    ·rename_i heq
     simp at heq
     rw[heq]
    ·rename_i h1 h2
     exact absurd rfl (h2 _)
  rw[e2]
  exact this
 | selD xs ys ts ks hx hy ihx ihy=>
  intro rest f hF hf
  obtain⟨f,rfl⟩: ∃g,f=g+1:=⟨f-1,by omega⟩
  have:=sel_cpl (M:=1) ihx ihy (tail_from hy) (rest:=rest) (f:=f) hF (by simp[rank]at hf⊢;omega) (by simp[rank]at hf⊢;omega)
  have e:kSel::kDis::xs++ys++rest=kSel::kDis::(xs++(ys++rest)):=by simp
  rw[e]
  exact this
 | sels1 xs t hx ihx=>
  intro rest f hF hf
  obtain⟨f,rfl⟩: ∃g,f=g+1:=⟨f-1,by omega⟩
  simp only[iP]
  rw[ihx rest f hF.1 (by simp[rank]at hf⊢;omega)]
  cases rest with
  | nil=>rfl
  | cons c r=>
   dsimp only
   rw[if_neg (fun e=>hF.2 r (by rw[e]))]
 | sels2 xs ys t ts hx hy ihx ihy=>
  intro rest f hF hf
  obtain⟨f,rfl⟩: ∃g,f=g+1:=⟨f-1,by omega⟩
  have e:xs++kUnion::kAll::ys++rest=xs++(kUnion::kAll::(ys++rest)):=by simp
  rw[e]at hf⊢
  simp only[iP]
  rw[ihx _ f ⟨⟨NN.sy _ _,NX.sy (by omega) _⟩,NX.sy (by omega) _,NX.sy (by omega) _,NX.sy (by omega) _⟩ (by simp[rank]at hf⊢;omega)]
  dsimp only
  rw[if_pos rfl]
  show(match iP f .sels (ys++rest)with | some (l,r2)=>some (t::l,r2) | none=>none)=_
  rw[ihy rest f hF (by simp[rank]at hf⊢;omega)]
 | query1 xs t hx ihx=>
  intro rest f hF hf
  obtain⟨f,rfl⟩: ∃g,f=g+1:=⟨f-1,by omega⟩
  exact join_cpl ihx hF (by simp[rank]at hf⊢;omega) rfl
 | query2 xs t u ts hx ihx=>
  intro rest f hF hf
  obtain⟨f,rfl⟩: ∃g,f=g+1:=⟨f-1,by omega⟩
  exact join_cpl ihx hF (by simp[rank]at hf⊢;omega) rfl
theorem iP_whole{ts:List Tok}{t:Rt}{f:Nat}(hf:2+8*ts.length<f):iP f .query ts=some ([t],[])↔G .query ts [t]:=by
 constructor
 ·intro h
  obtain⟨pre,hp,hg⟩:=iP_sound f .query _ _ _ h
  rw[List.append_nil]at hp
  rw[hp]
  exact hg
 ·intro h
  have:=iP_complete h [] f ⟨⟨⟨fun s l e=>by simp at e,fun l e=>by simp at e⟩,fun l e=>by simp at e,fun l e=>by simp at e,fun l e=>by simp at e⟩,fun l e=>by simp at e⟩ (by simpa[rank]using hf)
  simpa using this
end Go.Proofs.YtmggnimiioepeaaGreatDoor.Pa
namespace Go.Proofs.YtmggnimiioepeaaGreatDoor.Pa
open Go
def dn(d:Int)(t:Tok):Int:=if t=pC then d-1 else d
def up(d:Int)(t:Tok):Int:=if t=pO then dn d t+1 else dn d t
def cutL(sep:Tok):Int->List Tok->List (List Tok)
 | _,[]=>[[]]
 | d,t::r=>if dn d t=0/\t=sep then[]::cutL sep (up d t) r else
  match cutL sep (up d t) r with
  | x::l=>(t::x)::l
  | []=>[]
def fst1(sep:Tok):Int->List Tok->Option (List Tok×List Tok)
 | _,[]=>none
 | d,t::r=>if dn d t=0/\t=sep then some ([],r)else
  match fst1 sep (up d t) r with
  | some (x,y)=>some (t::x,y)
  | none=>none
def wraps:List Tok->Option (List Tok)
 | []=>none
 | t::r=>if t=pO then(match fst1 pC 1 r with | some (x,[])=>some x | _=>none)else none
def isOp(t:Tok):Bool:=t=kIs\/t=kIn\/t=kNot\/0<compOf t
def opS:Int->List Tok->Option (List Tok×Tok×List Tok)
 | _,[]=>none
 | d,t::r=>if d=0/\isOp t=true then some ([],t,r)else
  match opS (up d t) r with
  | some (x,c,y)=>some (t::x,c,y)
  | none=>none
def srcS:List Tok->Option (List Rt)
 | [.nam a]=>some [rSrc a a]
 | [.nam a,.nam b]=>some [rSrc a b]
 | _=>none
def mapP(p:List Tok->Option (List Rt)):List (List Tok)->Option (List Rt)
 | []=>some []
 | x::l=>match p x with
  | some [t]=>(match mapP p l with | some ts=>some (t::ts) | none=>none)
  | _=>none
def allS:List (List Tok)->Option (List (List Tok))
 | []=>some []
 | x::l=>match x with
  | .sy 16::y=>(match allS l with | some ys=>some (y::ys) | none=>none)
  | _=>none
def tailS(co:List Tok->Option (List Rt)):List Tok->Option (List Rt)
 | .sy 13::r=>match fst1 kWhere 0 r with
  | none=>mapP srcS (cutL cm 0 r)
  | some (x,y)=>match mapP srcS (cutL cm 0 x)with
   | some ss=>(match co y with | some [c]=>some (ss++[c]) | _=>none)
   | none=>none
 | _=>none
def selS(M:Int)(sc ta:List Tok->Option (List Rt))(xs:List Tok):Option (List Rt):=
 match fst1 kFrom 0 xs with
 | none=>none
 | some (x,y)=>match mapP sc (cutL cm 0 x)with
  | some ts=>(match ta (kFrom::y)with | some ks=>some [.mk 6 ts.length M [] [] (ts++ks)] | none=>none)
  | none=>none
def aggS(sc ta:List Tok->Option (List Rt))(xs:List Tok):Option (List Rt):=
 match wraps xs with
 | none=>none
 | some i=>match i with
  | .sy 11::w:: .sy 0::r=>if 0<aggOf w then
    (match fst1 pC 1 r with
    | none=>none
    | some (x,y)=>if w= .sy 25/\x=[star]then(match ta y with | some ks=>some [.mk 4 0 1 [] [] ks] | none=>none)
     else(match sc x with
      | some [t]=>(match ta y with | some ks=>some [.mk 4 1 (aggOf w) [] [] (t::ks)] | none=>none)
      | _=>none))
   else none
  | _=>none
def quS(K N M:Int)(qu:List Tok->Option (List Rt))(t:Rt)(xs:List Tok):Option (List Rt):=
 match wraps xs with
 | none=>none
 | some i=>match qu i with
  | some [q]=>some [.mk K N M [] [] [t,q]]
  | _=>none
def opndS(sc qu:List Tok->Option (List Rt))(t:Rt)(c:Tok)(y:List Tok):Option (List Rt):=
 if c=kIs then
  if y=[kNull]then some [.mk 9 0 0 [] [] [t]]else if y=[kNot,kNull]then some [.mk 9 0 1 [] [] [t]]else none
 else if c=kIn then quS 11 0 0 qu t y
 else if c=kNot then(match y with | .sy 22::z=>quS 11 0 1 qu t z | _=>none)
 else match y with
  | .sy 16::z=>quS 12 2 (compOf c) qu t z
  | .sy 17::z=>quS 12 1 (compOf c) qu t z
  | _=>(match sc y with | some [u]=>some [.mk 8 0 (compOf c) [] [] [t,u]] | _=>none)
def sP:Nat->NT->List Tok->Option (List Rt)
 | 0,_,_=>none
 | f+1,.scal,xs=>match xs with
  | [.num v]=>some [rInt v]
  | [.sy 24]=>some [rNull]
  | [.nam s,.sy 3,.num v]=>if 0<=v then some [rCol s v]else none
  | _=>aggS (sP f .scal) (sP f .tail) xs
 | f+1,.tail,xs=>tailS (sP f .cond) xs
 | f+1,.prim,xs=>match xs with
  | .sy 20::r=>(match sP f .prim r with | some [t]=>some [.mk 13 0 0 [] [] [t]] | _=>none)
  | .sy 21::r=>(match wraps r with | none=>none | some i=>(match sP f .query i with | some [q]=>some [.mk 10 0 0 [] [] [q]] | _=>none))
  | xs=>if xs.head?=some pO/\xs[1]?≠some kSel then(match wraps xs with | none=>none | some i=>sP f .cond i)
   else(match opS 0 xs with
    | none=>none
    | some (x,c,y)=>(match sP f .scal x with
     | some [t]=>opndS (sP f .scal) (sP f .query) t c y
     | _=>none))
 | f+1,.conj,xs=>match cutL kAnd 0 xs with
  | [x]=>sP f .prim x
  | l=>(match mapP (sP f .prim) l with | some ts=>some [.mk 14 0 0 [] [] ts] | none=>none)
 | f+1,.cond,xs=>match cutL kOr 0 xs with
  | [x]=>sP f .conj x
  | l=>(match mapP (sP f .conj) l with | some ts=>some [.mk 15 0 0 [] [] ts] | none=>none)
 | f+1,.sel,xs=>match xs with
  | .sy 11:: .sy 12::r=>selS 1 (sP f .scal) (sP f .tail) r
  | .sy 11::r=>selS 0 (sP f .scal) (sP f .tail) r
  | _=>none
 | f+1,.query,xs=>match cutL kUnion 0 xs with
  | []=>none
  | [x]=>sP f .sel x
  | x::l=>(match allS l with
   | none=>none
   | some ys=>(match mapP (sP f .sel) (x::ys)with | some ts=>some [.mk 7 0 0 [] [] ts] | none=>none))
 | _+1,_,_=>none
theorem up_opn(d:Int)(t:Tok)(r:List Tok):opn d (t::r)=opn (up d t) r:=by
 show opn (if t=pO then d+1 else if t=pC then d-1 else d) r=_
 unfold up dn
 by_cases h1:t=pO
 ·subst h1;simp
 ·simp[h1]
theorem tops_up(d:Int)(t:Tok)(r:List Tok):tops d (t::r)=if dn d t=0 then t::tops (up d t) r else tops (up d t) r:=rfl
def join(sep:Tok):List (List Tok)->List Tok
 | []=>[]
 | [x]=>x
 | x::y::l=>x++sep::join sep (y::l)
theorem cutL_ne(sep:Tok): ∀(xs:List Tok) (d:Int),cutL sep d xs≠[]
 | [],d=>by simp[cutL]
 | t::r,d=>by
  rw[cutL]
  split
  ·simp
  ·have:=cutL_ne sep r (up d t)
   split
   ·simp
   ·rename_i h;exact absurd h this
theorem join_cons{sep:Tok}{x:List Tok}{l:List (List Tok)}(t:Tok):join sep ((t::x)::l)=t::join sep (x::l):=by
 cases l with
 | nil=>rfl
 | cons y l=>rfl
theorem cut_join(sep:Tok): ∀(xs:List Tok) (d:Int),join sep (cutL sep d xs)=xs
 | [],d=>rfl
 | t::r,d=>by
  have ih:=cut_join sep r (up d t)
  rw[cutL]
  split
  ·rename_i h
   cases hc:cutL sep (up d t) r with
   | nil=>exact absurd hc (cutL_ne _ _ _)
   | cons x l=>
    rw[hc]at ih
    show[]++sep::join sep (x::l)=_
    rw[ih,h.2];rfl
  ·split
   ·rename_i x l hc
    rw[hc]at ih
    rw[join_cons,ih]
   ·rename_i hc;exact absurd hc (cutL_ne _ _ _)
theorem fst1_app{sep:Tok}: ∀(xs:List Tok) (d:Int) (x y:List Tok),fst1 sep d xs=some (x,y)->xs=x++sep::y
 | [],d,x,y,h=>by simp[fst1]at h
 | t::r,d,x,y,h=>by
  rw[fst1]at h
  split at h
  ·rename_i hc
   simp only[Option.some.injEq,Prod.mk.injEq]at h
   obtain⟨rfl,rfl⟩:=h
   rw[hc.2];rfl
  ·split at h
   ·rename_i a b hf
    simp only[Option.some.injEq,Prod.mk.injEq]at h
    obtain⟨rfl,rfl⟩:=h
    rw[fst1_app r _ _ _ hf];rfl
   ·cases h
theorem wraps_app{xs i:List Tok}(h:wraps xs=some i):xs=pO::i++[pC]:=by
 cases xs with
 | nil=>simp[wraps]at h
 | cons t r=>
  simp only[wraps]at h
  split at h
  ·rename_i ht
   split at h
   ·rename_i x hf
    simp only[Option.some.injEq]at h
    subst h
    rw[fst1_app _ _ _ _ hf,ht];rfl
   ·cases h
  ·cases h
theorem opS_app: ∀(xs:List Tok) (d:Int) (x:List Tok) (c:Tok) (y:List Tok),opS d xs=some (x,c,y)->xs=x++c::y/\isOp c=true
 | [],d,x,c,y,h=>by simp[opS]at h
 | t::r,d,x,c,y,h=>by
  rw[opS]at h
  split at h
  ·rename_i hc
   simp only[Option.some.injEq,Prod.mk.injEq]at h
   obtain⟨rfl,rfl,rfl⟩:=h
   exact⟨rfl,hc.2⟩
  ·split at h
   ·rename_i a c' b hf
    simp only[Option.some.injEq,Prod.mk.injEq]at h
    obtain⟨rfl,rfl,rfl⟩:=h
    have:=opS_app r _ _ _ _ hf
    exact⟨by rw[this.1];rfl,this.2⟩
   ·cases h
theorem cut_app{sep:Tok}: ∀(xs:List Tok) (d:Int) (ys:List Tok),sep∉tops d xs->cutL sep d (xs++ys)=(match cutL sep (opn d xs) ys with | x::l=>(xs++x)::l | []=>[])
 | [],d,ys,_=>by
  show cutL sep d ys=_
  cases h:cutL sep (opn d []) ys with
  | nil=>exact absurd h (cutL_ne _ _ _)
  | cons x l=>exact h
 | t::r,d,ys,h=>by
  rw[tops_up]at h
  have h1: ¬(dn d t=0/\t=sep):=fun⟨e1,e2⟩=>by
   rw[if_pos e1,e2]at h
   exact h (by simp)
  have h2:sep∉tops (up d t) r:=fun e=>by
   split at h
   ·exact h (by simp[e])
   ·exact h e
  rw[List.cons_append,cutL,if_neg h1,cut_app r (up d t) ys h2,up_opn]
  cases hc:cutL sep (opn (up d t) r) ys with
  | nil=>exact absurd hc (cutL_ne _ _ _)
  | cons x l=>rfl
theorem cut_one{sep:Tok}{xs:List Tok}(h:sep∉tops 0 xs):cutL sep 0 xs=[xs]:=by
 have:=cut_app xs 0 [] h
 rw[List.append_nil]at this
 rw[this]
 simp[cutL]
theorem cut_two{sep:Tok}{xs ys:List Tok}(hb:Bal xs)(h:sep∉tops 0 xs)(h0:sep≠pO)(h1:sep≠pC):cutL sep 0 (xs++sep::ys)=xs::cutL sep 0 ys:=by
 have e1:dn 0 sep=0:=by unfold dn;rw[if_neg h1]
 have e2:up 0 sep=0:=by unfold up;rw[if_neg h0,e1]
 rw[cut_app xs 0 _ h,hb.1,cutL,if_pos ⟨e1,rfl⟩,e2]
 simp
theorem fst_app{sep:Tok}: ∀(xs:List Tok) (d:Int) (ys:List Tok),sep∉tops d xs->fst1 sep d (xs++ys)=(match fst1 sep (opn d xs) ys with | some (x,y)=>some (xs++x,y) | none=>none)
 | [],d,ys,_=>by
  show fst1 sep d ys=_
  cases h:fst1 sep (opn d []) ys with
  | none=>exact h
  | some p=>exact h
 | t::r,d,ys,h=>by
  rw[tops_up]at h
  have h1: ¬(dn d t=0/\t=sep):=fun⟨e1,e2⟩=>by
   rw[if_pos e1,e2]at h
   exact h (by simp)
  have h2:sep∉tops (up d t) r:=fun e=>by
   split at h
   ·exact h (by simp[e])
   ·exact h e
  rw[List.cons_append,fst1,if_neg h1,fst_app r (up d t) ys h2,up_opn]
  cases hc:fst1 sep (opn (up d t) r) ys with
  | none=>rfl
  | some p=>rfl
theorem fst_none{sep:Tok}{xs:List Tok}(h:sep∉tops 0 xs):fst1 sep 0 xs=none:=by
 have:=fst_app xs 0 [] h
 rw[List.append_nil]at this
 rw[this]
 rfl
theorem fst_at{sep:Tok}{xs ys:List Tok}(hb:Bal xs)(h:sep∉tops 0 xs)(h1:sep≠pC):fst1 sep 0 (xs++sep::ys)=some (xs,ys):=by
 have e1:dn 0 sep=0:=by unfold dn;rw[if_neg h1]
 rw[fst_app xs 0 _ h,hb.1,fst1,if_pos ⟨e1,rfl⟩]
 simp
theorem fst_close{xs ys:List Tok}(hb:Bal xs):fst1 pC 1 (xs++pC::ys)=some (xs,ys):=by
 have h:pC∉tops 1 xs:=by
  rw[tops_in xs 1 (by omega) (fun k=>by have:=hb.2 k;omega)]
  simp
 rw[fst_app xs 1 _ h,opn_shift,hb.1,fst1,if_pos ⟨by simp[dn],rfl⟩]
 simp
theorem wraps_br{xs:List Tok}(hb:Bal xs):wraps (pO::xs++[pC])=some xs:=by
 show(if pO=pO then(match fst1 pC 1 (xs++[pC])with | some (x,[])=>some x | _=>none)else none)=_
 rw[if_pos rfl,fst_close hb]
theorem op_app: ∀(xs:List Tok) (d:Int) (ys:List Tok),(∀t∈tops d xs,isOp t=false)->opS d (xs++ys)=(match opS (opn d xs) ys with | some (x,c,y)=>some (xs++x,c,y) | none=>none)
 | [],d,ys,_=>by
  show opS d ys=_
  cases h:opS (opn d []) ys with
  | none=>exact h
  | some p=>exact h
 | t::r,d,ys,h=>by
  rw[tops_up]at h
  have h1: ¬(d=0/\isOp t=true):=fun⟨e1,e2⟩=>by
   by_cases hp:t=pC
   ·subst hp;simp[isOp,compOf]at e2
   ·have:dn d t=0:=by unfold dn;rw[if_neg hp];exact e1
    rw[if_pos this]at h
    have:=h t (by simp)
    rw[this]at e2;cases e2
  have h2: ∀x∈tops (up d t) r,isOp x=false:=fun x hx=>by
   split at h
   ·exact h x (by simp[hx])
   ·exact h x hx
  rw[List.cons_append,opS,if_neg h1,op_app r (up d t) ys h2,up_opn]
  cases hc:opS (opn (up d t) r) ys with
  | none=>rfl
  | some p=>rfl
theorem op_at{xs ys:List Tok}{c:Tok}(hb:Bal xs)(h: ∀t∈tops 0 xs,isOp t=false)(hc:isOp c=true):opS 0 (xs++c::ys)=some (xs,c,ys):=by
 rw[op_app xs 0 _ h,hb.1,opS,if_pos ⟨rfl,hc⟩]
 simp
end Go.Proofs.YtmggnimiioepeaaGreatDoor.Pa
