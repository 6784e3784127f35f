import Derived.Test.YtmggnimiioepeaaGreatDoorProg
import Derived.Test.YtmggnimiioepeaaGreatDoorChecked
import Derived.BigQuiet
import Derived.ChangeMaps5
import Derived.Deep.AppendLies
import Derived.Deep.DeepCutAuto
import Derived.Deep.RegionHeld3
import Derived.Defers
import Derived.Handy
import Derived.LaidMore
import Derived.Laws.BytesArg
import Derived.Laws.IdiomStrings
import Derived.Laws.Strings
import Derived.Lay
import Derived.Lib.AppendZeros
import Derived.Lib.LaidTab
import Derived.Lib.ParseIntB
import Derived.Lib.SmallJoins
import Derived.OneCell
import Derived.OpenShut
import Derived.OpenVars
import Derived.OwnWalk
import Derived.ProofKit
import Derived.Recover
import Derived.Shelf.LaysC
import Derived.Shelf.LaysM
import Derived.Shelf.Strconv.Clone
import Derived.Shelf.Strconv.ErrVarParseInt
import Derived.Shelf.Strconv.Itoa0
import Derived.Shelf.Strconv.Itoa1
import Derived.Shelf.Strconv.Itoa2
import Derived.Shelf.Strconv.Itoa3
import Derived.Shelf.Strconv.Lower
import Derived.Shelf.Strconv.ParseInt10
import Derived.Shelf.Strconv.ParseInt10All
import Derived.Shelf.Strconv.ParseInt10At16
import Derived.Shelf.Strconv.ParseInt10At32
import Derived.Shelf.Strconv.ParseInt10At64
import Derived.Shelf.Strconv.ParseInt10At8
import Derived.Shelf.Strconv.ParseIntEmpty
import Derived.Shelf.Strconv.ParseIntPublic10
import Derived.Shelf.Strconv.ParseUint10
import Derived.Shelf.Strconv.ParseUint10Any
import Derived.Shelf.Strconv.ParseUint10At
import Derived.Shelf.Strconv.ParseUint10Empty
import Derived.Shelf.Strconv.ParseUint10b16
import Derived.Shelf.Strconv.ParseUint10b32
import Derived.Shelf.Strconv.ParseUint10b64
import Derived.Shelf.Strconv.ParseUint10b8
import Derived.Shelf.Strconv.ParseUintEmpty
import Derived.Shelf.Strconv.RangeError
import Derived.Shelf.Strconv.SyntaxError
import Derived.Shelf.Strconv.ToError
import Derived.Shelf.Strconv.ToErrorRange
import Derived.Shelf.Strings.Prefix
import Derived.Stop.Joined
import Derived.WalkKit
import Derived.WalkLawsBesides
import Derived.WalkMore
import Derived.WalkSpells
namespace Go.Proofs.YtmggnimiioepeaaGreatDoor
open Go Go.RowKit
set_option maxRecDepth 1000000
end Go.Proofs.YtmggnimiioepeaaGreatDoor
namespace Go.Proofs.YtmggnimiioepeaaGreatDoor.Frame
open Go.ChangeShapes Go.WideShapes Go.ChangeAt Go.RowKit
theorem trodAll_below{H:Type}{enc:TypeId×Value->H}{P:Program}(hl:laidOutB P=true){W W':World}(hb:Below W.heap.size W W'):
  ∀{ts:List TypeId} {vs:List Value} {ds:List (DataW H)} {ps:List MemPlace},(ts.all fun t=>P.readableRec t&&decide (t<P.types.size))=true->
   (∀x∈ps,x.block<W.heap.size)->DataW.TrodAll enc P W 0 (fun _=>true) true ts vs ds ps->DataW.TrodAll enc P W' 0 (fun b=>decide (b<W.heap.size)) true ts vs ds ps
 | [],[],[],_,_,_,h=>h
 | [],[],_::_,_,_,_,h=>h.elim
 | [],_::_,_,_,_,_,h=>h.elim
 | _::_,[],_,_,_,_,h=>h.elim
 | _::_,_::_,[],_,_,_,h=>h.elim
 | t::ts,v::vs,d::ds,ps,ht,hlt,h=>by
  obtain⟨p,q,h1,h2,rfl⟩:=h
  simp only[List.all_cons,Bool.and_eq_true,decide_eq_true_eq]at ht
  exact⟨p,q,Below.trod hl ht.1.1 ht.1.2 h1 hb (fun x hx=>hlt x (by simp[hx])),trodAll_below hl hb (by simpa using ht.2) (fun x hx=>hlt x (by simp[hx])) h2,rfl⟩
theorem law_post{H:Type}{enc:TypeId×Value->H}{P:Program}{f:Func}{s:ChangeSpec}(hl:laidOutB P=true)
  (hp:(f.params.toList.all fun t=>P.readableRec t&&decide (t<P.types.size))=true) (hv:varsRowed P s.vars=true) {tb:TypeId} (hr:f.resultTypes= #[tb]) (htb:P.underlying tb=some .bool)
  {W W':World} {args:Array Value} {ds gs:List (DataW H)} {before:List MemPlace}
  (hW:DataW.Whole enc P f.params.toList s.vars false W args.toList ds gs before)
  (hfn:s.fn H (ds++gs)={results:=[.lit (.bool true)],args:=ds,vars:=gs})
  (hb:Below W.heap.size W W'):s.post enc P f false true false false W args (.bool true) W':=by
 have hlt:=hW.lt
 have hW0:=hW
 obtain⟨p,q,hA,hV,rfl,hfz,hnd⟩:=hW
 refine⟨ds,gs,p++q,[],p,q,hW0,?_,?_,?_,hb.frame _,fun h=>by cases h⟩
 ·rw[hfn,hr]
  exact trodAll_mk1 (shut_bool htb true)
 ·rw[hfn]
  exact trodAll_below hl hb hp (fun x hx=>hlt x (by simp[hx])) hA
 ·rw[hfn]
  exact Below.trodVars hl hb hv hV
theorem trodVars_length{H:Type}{enc:TypeId×Value->H}{P:Program}{W:World}{sp:Nat->Bool}: ∀{ns:List String} {gs:List (DataW H)} {ps:List MemPlace},DataW.TrodVars enc P W sp ns gs ps->gs.length=ns.length
 | [],[],_,_=>rfl
 | [],_::_,_,h=>h.elim
 | _::_,[],_,h=>h.elim
 | n::ns,d::ds,ps,h=>by
  obtain⟨g,t,cs,fuel,p,q,h1,h2,h3,h4,hs,e⟩:=h
  simp[trodVars_length hs]
theorem len5{α:Type}: ∀{l:List α},l.length=5-> ∃a0 a1 a2 a3 a4,l=[a0,a1,a2,a3,a4]
 | [a0,a1,a2,a3,a4],_=>⟨a0,a1,a2,a3,a4,rfl⟩
end Go.Proofs.YtmggnimiioepeaaGreatDoor.Frame
namespace Go.Proofs.YtmggnimiioepeaaGreatDoor.Tables
open Go
def contig(P:Program):List (Nat×TypeId)->Nat->Nat->Bool
 | [],o,e=>o==e
 | (off,t)::r,o,e=>off==o&&contig P r (o+P.cellsOf t) e
def plainB(P:Program):Nat->TypeId->Bool
 | 0,_=>false
 | fuel+1,t=>match P.underlying t with
  | some .bool=>true
  | some (.int _)=>true
  | some .string=>true
  | some (.struct fs)=>contig P (fs.toList.map fun f=>(f.offset,f.type)) 0 (P.cellsOf t)&&fs.toList.all fun f=>plainB P fuel f.type
  | some (.array n e)=>contig P ((List.range n).map fun i=>(i*P.cellsOf e,e)) 0 (P.cellsOf t)&&plainB P fuel e
  | _=>false
def flat{H:Type}:Nat->DataW H->List Value
 | 0,_=>[]
 | _+1,.lit (.bool b)=>[.bool b]
 | _+1,.lit (.int k n)=>[.int k n]
 | _+1,.lit (.string s)=>[.string ⟨s.toArray⟩]
 | f+1,.agg ds=>ds.flatMap (flat f)
 | _+1,_=>[]
theorem pieces{H:Type}{P:Program}{F:TypeId->List Value->Option (DataW H×List MemPlace)}{g:DataW H->List Value}(cs:List Value):
  ∀(L:List (Nat×TypeId)) (o e:Nat) (xs:List (DataW H×List MemPlace)),contig P L o e=true->
   (∀x∈L,∀c y,F x.2 c=some y->c=g y.1)->xs.length=L.length->
   (∀(i:Nat) (x:Nat×TypeId),L[i]?=some x->F x.2 ((cs.drop x.1).take (P.cellsOf x.2))=xs[i]?)->(cs.drop o).take (e-o)=(xs.map (·.1)).flatMap g/\o<=e
 | [],o,e,xs,hc,_,hl,_=>by
  simp only[contig,beq_iff_eq]at hc
  subst hc
  obtain rfl:xs=[]:=List.eq_nil_of_length_eq_zero hl
  simp
 | (off,t)::r,o,e,[],hc,hF,hl,h=>by simp at hl
 | (off,t)::r,o,e,y::ys,hc,hF,hl,h=>by
  simp only[contig,Bool.and_eq_true,beq_iff_eq]at hc
  obtain⟨rfl,hc⟩:=hc
  have h1:=hF (off,t) (by simp) _ y (h 0 (off,t) rfl)
  obtain⟨h2,h3⟩:=pieces cs r _ e ys hc (fun x hx=>hF x (by simp[hx])) (by simpa using hl) (fun i x hx=>by simpa using h (i+1) x (by simpa using hx))
  refine⟨?_,by omega⟩
  simp only[List.map_cons,List.flatMap_cons]
  rw[<-h1,<-h2,show e-off=P.cellsOf t+(e-(off+P.cellsOf t))from by omega,List.take_add,List.drop_drop]
theorem cells_of{H:Type}{enc:TypeId×Value->H}{P:Program}{w:World}{base:Nat}{sp:Nat->Bool}{held:Bool}:
  ∀(fuel:Nat) (t:TypeId) (m:Nat) (cs:List Value) (x:DataW H×List MemPlace),plainB P fuel t=true->DataW.trod enc P w base sp held m t cs=some x->cs=flat fuel x.1
 | 0,_,_,_,_,h,_=>by simp[plainB]at h
 | fuel+1,t,m,cs,x,hp,h=>by
  unfold plainB at hp
  split at hp
  ·rename_i ht
   obtain⟨b,rfl,rfl⟩:=DataW.trod_bool ht h
   rfl
  ·rename_i k ht
   obtain⟨n,rfl,rfl,_⟩:=DataW.trod_int ht h
   rfl
  ·rename_i ht
   obtain⟨s,rfl,rfl,_⟩:=DataW.trod_string ht h
   rfl
  ·rename_i fs ht
   simp only[Bool.and_eq_true]at hp
   obtain⟨xs,n,_,rfl,hl,hn,hx⟩:=DataW.trod_struct ht h
   have:=pieces (P:=P) (F:=fun t c=>DataW.trod enc P w base sp held n t c) (g:=flat fuel) cs (fs.toList.map fun f=>(f.offset,f.type)) 0 _ xs hp.1
    (fun y hy c z hz=>by
     obtain⟨f,hf,rfl⟩:=List.mem_map.1 hy
     exact cells_of fuel _ _ _ _ (List.all_eq_true.1 hp.2 f hf) hz)
    (by simpa using hn)
    (fun i y hy=>by
     rw[List.getElem?_map,Option.map_eq_some_iff]at hy
     obtain⟨f,hf,rfl⟩:=hy
     exact hx i f (by simpa using hf))
   simp only[List.drop_zero,Nat.sub_zero]at this
   rw[<-hl,List.take_length]at this
   simpa[flat]using this.1
  ·rename_i n e ht
   simp only[Bool.and_eq_true]at hp
   obtain⟨xs,m',_,rfl,hl,hn,hx⟩:=DataW.trod_array ht h
   have:=pieces (P:=P) (F:=fun t c=>DataW.trod enc P w base sp held m' t c) (g:=flat fuel) cs ((List.range n).map fun i=>(i*P.cellsOf e,e)) 0 _ xs hp.1
    (fun y hy c z hz=>by
     obtain⟨f,hf,rfl⟩:=List.mem_map.1 hy
     exact cells_of fuel _ _ _ _ hp.2 hz)
    (by simpa using hn)
    (fun i y hy=>by
     rw[List.getElem?_map,Option.map_eq_some_iff]at hy
     obtain⟨f,hf,rfl⟩:=hy
     obtain⟨hi,rfl⟩:=List.getElem?_eq_some_iff.1 hf
     have hi':i<n:=by simpa using hi
     simpa using hx i hi')
   simp only[List.drop_zero,Nat.sub_zero]at this
   rw[<-hl,List.take_length]at this
   simpa[flat]using this.1
  ·cases hp
theorem laid_mem{P:Program}{w:World}{n:String}{d:DataW Unit}: ∀{l:List (String×DataW Unit)} {ps:List MemPlace},DataW.LaidVars P w l ps->(n,d)∈l->
  ∃g t cs fuel p,P.globalNamed n=some g/\(P.globals[g]?).map (·.type)=some t/\w.var? P n=some cs/\DataW.trod (fun _=>()) P w 0 (fun _=>true) false fuel t cs.toList=some (d,p)
 | [],_,_,h=>by cases h
 | (n',d')::l,ps,h,hm=>by
  obtain⟨g,t,cs,fuel,p,q,h1,h2,h3,h4,h5,_⟩:=h
  cases hm with
  | head=>exact⟨g,t,cs,fuel,p,h1,h2,h3,h4⟩
  | tail _ hm=>exact laid_mem h5 hm
theorem cells_of_laid{P:Program}{w:World}{l:List (String×DataW Unit)}{n:String}{d:DataW Unit}{g:Nat}{t:TypeId}(hl:laidMetH P l w)(hh:(l.all fun x=>x.2.handleName?.isNone)=true)(hm:(n,d)∈l)
  (hg:P.globalNamed n=some g) (ht:(P.globals[g]?).map (·.type)=some t) (fuel:Nat) (hp:plainB P fuel t=true):g<w.heap.size/\ ∀i,w.cell? ⟨g,i,none⟩=(flat fuel d)[i]?:=by
 rw[MakeChecks.laidMetH_plain _ _ _ hh]at hl
 obtain⟨ps,hv,_,_⟩:=hl
 obtain⟨g',t',cs,m,p,h1,h2,h3,h4⟩:=laid_mem hv hm
 obtain rfl:=Option.some.inj (hg.symm.trans h1)
 obtain rfl:=Option.some.inj (ht.symm.trans h2)
 have hc:=cells_of fuel t m _ _ hp h4
 refine⟨?_,fun i=> ?_⟩
 ·unfold World.var? at h3
  rw[h1]at h3
  simp only[Option.bind_some]at h3
  cases hh:w.heap[g]? with
  | none=>rw[hh]at h3;cases h3
  | some o=>exact(Array.getElem?_eq_some_iff.1 hh).1
 ·rw[World.var?_cell h1 h3 i,<-hc]
  simp
end Go.Proofs.YtmggnimiioepeaaGreatDoor.Tables
namespace Go.Proofs.YtmggnimiioepeaaGreatDoor
structure Nd where
 K:Int
 N:Int
 M:Int
 S:ByteArray
 T:ByteArray
 Kids:List Int
def kidsAt(ns:List Nd)(p:Nat):List Int:=((ns[p]?).map Nd.Kids).getD []
def kindAt(ns:List Nd)(p:Nat):Int:=((ns[p]?).map Nd.K).getD 0
inductive Seg(ns:List Nd):Nat->Nat->List Int->Prop
 | nil (a:Nat):Seg ns a a []
 | snoc {a c p:Nat} {ks:List Int}:Seg ns a c ks->Seg ns c p (kidsAt ns p)->Seg ns a (p+1) (ks++[(p:Int)])
theorem Seg.le{ns:List Nd}{a b:Nat}{ks:List Int}(h:Seg ns a b ks):a<=b:=by
 induction h with
 | nil a=>exact Nat.le_refl _
 | snoc _ _ h1 h2=>omega
theorem Seg.inv{ns:List Nd}{a b:Nat}{ks:List Int}{x:Int}(h:Seg ns a b (ks++[x])): ∃p c,b=p+1/\x=(p:Int)/\Seg ns a c ks/\Seg ns c p (kidsAt ns p):=by
 generalize e:ks++[x]=l at h
 cases h with
 | nil a=>simp at e
 | @snoc _ c p ks' h1 h2=>
  obtain⟨e1,e2⟩:=List.append_inj' e rfl
  subst e1
  simp at e2
  exact⟨p,c,rfl,e2,h1,h2⟩
theorem Seg.nil_inv{ns:List Nd}{a b:Nat}(h:Seg ns a b []):a=b:=by
 generalize e:([]:List Int)=l at h
 cases h with
 | nil a=>rfl
 | snoc h1 h2=>simp at e
theorem Seg.uniqL{ns:List Nd}{a b:Nat}{ks:List Int}(h:Seg ns a b ks): ∀a',Seg ns a' b ks->a'=a:=by
 induction h with
 | nil a=>intro a' h';exact h'.nil_inv
 | @snoc a c p ks h1 h2 i1 i2=>
  intro a' h'
  obtain⟨p',c',e1,e2,h3,h4⟩:=h'.inv
  obtain rfl:p'=p:=by omega
  obtain rfl:=i2 _ h4
  exact i1 _ h3
theorem Seg.uniqK{ns:List Nd}{a b:Nat}{ks:List Int}(h:Seg ns a b ks): ∀ks',Seg ns a b ks'->ks'=ks:=by
 induction h with
 | nil a=>
  intro ks' h'
  cases h' with
  | nil=>rfl
  | snoc h1 h2=>have:=h1.le;have:=h2.le;omega
 | @snoc a c p ks h1 h2 i1 i2=>
  intro ks' h'
  generalize e:p+1=b at h'
  cases h' with
  | nil=>have:=h1.le;have:=h2.le;omega
  | @snoc _ c' p' ks' h3 h4=>
   obtain rfl:p=p':=by omega
   obtain rfl:=h2.uniqL _ h4
   rw[i1 _ h3]
theorem Seg.join{ns:List Nd}{a b c:Nat}{A B:List Int}(h:Seg ns a b A)(h':Seg ns b c B):Seg ns a c (A++B):=by
 induction h' with
 | nil a=>simpa using h
 | snoc h1 h2 i1 i2=>
  rw[<-List.append_assoc]
  exact Seg.snoc (i1 h) h2
theorem Seg.one{ns:List Nd}{c p:Nat}(h:Seg ns c p (kidsAt ns p)):Seg ns c (p+1) [(p:Int)]:=by
 have:=Seg.snoc (Seg.nil c) h
 simpa using this
theorem Seg.split{ns:List Nd}{a c:Nat}{A:List Int}: ∀(B:List Int) {b:Nat},b=c->Seg ns a c (A++B.reverse)-> ∃m,Seg ns a m A/\Seg ns m c B.reverse:=by
 intro B
 induction B generalizing c with
 | nil=>intro b _ h;exact⟨c,by simpa using h,Seg.nil c⟩
 | cons x B ih=>
  intro b _ h
  rw[List.reverse_cons,<-List.append_assoc]at h
  obtain⟨p,c',rfl,rfl,h1,h2⟩:=h.inv
  obtain⟨m,h3,h4⟩:=ih (b:=c') rfl h1
  refine⟨m,h3,?_⟩
  rw[List.reverse_cons]
  exact Seg.snoc h4 h2
theorem Seg.split'{ns:List Nd}{a c:Nat}{A B:List Int}(h:Seg ns a c (A++B)): ∃m,Seg ns a m A/\Seg ns m c B:=by
 have:=Seg.split (ns:=ns) (a:=a) (c:=c) (A:=A) B.reverse rfl (by simpa using h)
 simpa using this
theorem Seg.prefix{ns:List Nd}{a b:Nat}{ks:List Int}(h:Seg ns a b ks): ∀k,a<=k->k<=b-> ∃L,Seg ns a k L:=by
 induction h with
 | nil a=>intro k h1 h2;obtain rfl:k=a:=(by omega);exact⟨[],Seg.nil _⟩
 | @snoc a c p ks h1 h2 i1 i2=>
  intro k e1 e2
  by_cases hk:k<=c
  ·exact i1 k e1 hk
  ·by_cases hp:k=p+1
   ·subst hp;exact⟨_,Seg.snoc h1 h2⟩
   ·obtain⟨L,hL⟩:=i2 k (by omega) (by omega)
    exact⟨_,h1.join hL⟩
theorem Seg.push{ns:List Nd}{k:Nat}{L:List Int}(h:Seg ns 0 k L)(_:(kidsAt ns k).length<=L.length)(hd:L.drop (L.length-(kidsAt ns k).length)=kidsAt ns k):
  Seg ns 0 (k+1) (L.take (L.length-(kidsAt ns k).length)++[(k:Int)]):=by
 rw[<-List.take_append_drop (L.length-(kidsAt ns k).length) L,hd]at h
 obtain⟨m,h1,h2⟩:=h.split'
 exact Seg.snoc h1 h2
theorem Seg.stuck{ns:List Nd}{k:Nat}{L L':List Int}(h:Seg ns 0 k L)(h':Seg ns 0 (k+1) L'):(kidsAt ns k).length<=L.length/\L.drop (L.length-(kidsAt ns k).length)=kidsAt ns k:=by
 generalize e:k+1=b at h'
 cases h' with
 | nil=>omega
 | @snoc _ c p ks h1 h2=>
  obtain rfl:k=p:=by omega
  obtain rfl:=h.uniqK _ (h1.join h2)
  simp
theorem Seg.last{ns:List Nd}{k:Nat}{L:List Int}(h:Seg ns 0 (k+1) L): ∃A,L=A++[(k:Int)]:=by
 generalize e:k+1=b at h
 cases h with
 | nil=>omega
 | @snoc _ c p ks h1 h2=>
  obtain rfl:k=p:=by omega
  exact⟨_,rfl⟩
theorem Seg.kid{ns:List Nd}{a b:Nat}{ks:List Int}(h:Seg ns a b ks): ∀x∈ks,∃p:Nat,x=(p:Int)/\a<=p/\p<b:=by
 induction h with
 | nil a=>intro x hx;simp at hx
 | @snoc a c p ks h1 h2 i1 i2=>
  intro x hx
  have:=h1.le
  have:=h2.le
  rcases List.mem_append.1 hx with h | h
  ·obtain⟨q,e,h3,h4⟩:=i1 x h
   exact⟨q,e,h3,by omega⟩
  ·simp at h
   exact⟨p,h,by omega,by omega⟩
def most(ds:List Int)(ks:List Int):Int:=ks.foldl (fun d x=>if d<ds.getD x.toNat 0 then ds.getD x.toNat 0 else d) 0
def depTo(ns:List Nd):Nat->List Int
 | 0=>[]
 | k+1=>depTo ns k++[most (depTo ns k) (kidsAt ns k)+1]
def dep(ns:List Nd)(k:Nat):Int:=most (depTo ns k) (kidsAt ns k)+1
theorem depTo_length(ns:List Nd): ∀k,(depTo ns k).length=k
 | 0=>rfl
 | k+1=>by simp[depTo,depTo_length ns k]
theorem depTo_get(ns:List Nd): ∀k j,j<k->(depTo ns k).getD j 0=dep ns j
 | 0,j,h=>by omega
 | k+1,j,h=>by
  by_cases e:j=k
  ·subst e
   simp[depTo,dep,List.getD_eq_getElem?_getD,depTo_length]
  ·have:=depTo_get ns k j (by omega)
   rw[List.getD_eq_getElem?_getD]at this
   rw[depTo,List.getD_eq_getElem?_getD,List.getElem?_append_left (by rw[depTo_length];omega)]
   exact this
theorem foldmost{ds:List Int}: ∀(ks:List Int) (d:Int),d<=ks.foldl (fun d x=>if d<ds.getD x.toNat 0 then ds.getD x.toNat 0 else d) d/\ ∀x∈ks,ds.getD x.toNat 0<=ks.foldl (fun d x=>if d<ds.getD x.toNat 0 then ds.getD x.toNat 0 else d) d
 | [],d=>⟨Int.le_refl _,fun x hx=>by simp at hx⟩
 | y::ks,d=>by
  simp only[List.foldl_cons]
  obtain⟨h1,h2⟩:=foldmost (ds:=ds) ks (if d<ds.getD y.toNat 0 then ds.getD y.toNat 0 else d)
  have e1:d<=(if d<ds.getD y.toNat 0 then ds.getD y.toNat 0 else d):=by split<;>omega
  have e2:ds.getD y.toNat 0<=(if d<ds.getD y.toNat 0 then ds.getD y.toNat 0 else d):=by split<;>omega
  refine⟨Int.le_trans e1 h1,fun x hx=> ?_⟩
  rcases List.mem_cons.1 hx with rfl | h
  ·exact Int.le_trans e2 h1
  ·exact h2 x h
theorem most_le{ds:List Int}{B:Int}(hB:0<=B)(hd: ∀j,ds.getD j 0<=B): ∀(ks:List Int) (d:Int),d<=B->ks.foldl (fun d x=>if d<ds.getD x.toNat 0 then ds.getD x.toNat 0 else d) d<=B
 | [],d,h=>h
 | y::ks,d,h=>by
  simp only[List.foldl_cons]
  refine most_le hB hd ks _ ?_
  have:=hd y.toNat
  split<;>omega
theorem depTo_bound(ns:List Nd): ∀k j,(depTo ns k).getD j 0<=k
 | 0,j=>by simp[depTo]
 | k+1,j=>by
  rw[depTo,List.getD_eq_getElem?_getD]
  by_cases h:j<k
  ·rw[List.getElem?_append_left (by rw[depTo_length];omega)]
   have:=depTo_bound ns k j
   rw[List.getD_eq_getElem?_getD]at this
   omega
  ·by_cases e:j=k
   ·subst e
    rw[List.getElem?_append_right (by rw[depTo_length];omega)]
    simp[depTo_length]
    have:=most_le (ds:=depTo ns j) (B:=j) (by omega) (depTo_bound ns j) (kidsAt ns j) 0 (by omega)
    unfold most
    omega
   ·rw[List.getElem?_eq_none (by simp[depTo_length];omega)]
    simp;omega
theorem dep_bound(ns:List Nd)(k:Nat):dep ns k<=k+1:=by
 have:=most_le (ds:=depTo ns k) (B:=k) (by omega) (depTo_bound ns k) (kidsAt ns k) 0 (by omega)
 unfold dep most
 omega
theorem dep_kid(ns:List Nd)(p q:Nat)(h:(q:Int)∈kidsAt ns p)(hq:q<p):dep ns q<dep ns p:=by
 have:=(foldmost (ds:=depTo ns p) (kidsAt ns p) 0).2 _ h
 rw[show((q:Int)).toNat=q by simp,depTo_get ns p q hq]at this
 rw[show dep ns p=most (depTo ns p) (kidsAt ns p)+1 from rfl]
 unfold most
 omega
theorem Seg.deep{ns:List Nd}{a b:Nat}{ks:List Int}(h:Seg ns a b ks): ∀j,a<=j->j<b-> ∃r:Nat,(r:Int)∈ks/\dep ns j<=dep ns r:=by
 induction h with
 | nil a=>intro j h1 h2;omega
 | @snoc a c p ks h1 h2 i1 i2=>
  intro j e1 e2
  by_cases hc:j<c
  ·obtain⟨r,hr,hd⟩:=i1 j e1 hc
   exact⟨r,by simp[hr],hd⟩
  ·refine⟨p,by simp,?_⟩
   by_cases hp:j=p
   ·subst hp;exact Int.le_refl _
   ·obtain⟨r,hr,hd⟩:=i2 j (by omega) (by omega)
    obtain⟨q,e,h3,h4⟩:=h2.kid _ hr
    have e':r=q:=by omega
    subst e'
    have:=dep_kid ns p r hr h4
    omega
theorem deep_all{ns:List Nd}{n:Nat}(h:Seg ns 0 (n+1) [(n:Int)])(j:Nat)(hj:j<=n):dep ns j<=dep ns n:=by
 obtain⟨r,hr,hd⟩:=h.deep j (by omega) (by omega)
 simp at hr
 have:r=n:=by omega
 subst this
 exact hd
end Go.Proofs.YtmggnimiioepeaaGreatDoor
namespace Go.Proofs.YtmggnimiioepeaaGreatDoor
noncomputable def dB(p:Prop):Bool:= @decide p (Classical.propDecidable p)
theorem dB_true{p:Prop}(h:p):dB p=true:=by unfold dB;exact @decide_eq_true p (Classical.propDecidable p) h
theorem dB_false{p:Prop}(h: ¬p):dB p=false:=by unfold dB;exact @decide_eq_false p (Classical.propDecidable p) h
theorem dB_iff{p:Prop}:dB p=true↔p:=⟨fun h=>Classical.byContradiction fun hn=>(by rw[dB_false hn]at h;cases h),dB_true⟩
theorem dB_congr{p q:Prop}(h:p↔q):dB p=dB q:=by rw[propext h]
def letter(c:Int):Bool:=(decide (65<=c)&&decide (c<=90)) || (decide (97<=c)&&decide (c<=122))
def digit(c:Int):Bool:=decide (48<=c)&&decide (c<=57)
def part(c:Int):Bool:=letter c || digit c || decide (c=95)
def byt(s:ByteArray)(i:Nat):Int:=((s.toList.getD i 0).toNat:Int)
def kws:List (List UInt8):=[[83,69,76,69,67,84],[68,73,83,84,73,78,67,84],[70,82,79,77],[87,72,69,82,69],[85,78,73,79,78],[65,76,76],[65,78,89],[65,78,68],[79,82],[78,79,84],[69,88,73,83,84,83],[73,78],[73,83],[78,85,76,76],[67,79,85,78,84],[77,73,78],[77,65,88]]
def WordB(s:ByteArray):Prop:=0<s.size/\letter (byt s 0)=true/\ ∀i,i<s.size->part (byt s i)=true
def NameB(s:ByteArray):Prop:=WordB s/\s.size<=64/\s.toList∉kws
def scB(k:Int):Bool:=decide (1<=k)&&decide (k<=4)
def quB(k:Int):Bool:=decide (k=6) || decide (k=7)
def cdB(k:Int):Bool:=decide (8<=k)&&decide (k<=15)
def fives(k:Int):Bool:=decide (k=5)
def sixes(k:Int):Bool:=decide (k=6)
def rule(k:Int):Int×Int×Int×Int×Bool×Bool:=
 if k=1 then(-999999999999999999,999999999999999999,0,0,false,false)
 else if k=3 then(0,999999999999999999,0,0,true,false)
 else if k=4 then(0,1,1,4,false,false)
 else if k=5 then(0,0,0,0,true,true)
 else if k=6 then(1,10000,0,1,false,false)
 else if k=8 then(0,0,1,6,false,false)
 else if k=9 then(0,0,0,1,false,false)
 else if k=11 then(0,0,0,1,false,false)
 else if k=12 then(1,2,1,6,false,false)
 else(0,0,0,0,false,false)
def NameFits(s:ByteArray)(used:Bool):Prop:=if used then NameB s else s.toList=[]
def Flds(n:Nd):Prop:=(1<=n.K/\n.K<=15)/\(n.K=4->(n.M=1↔n.N=0))/\
 (rule n.K).1<=n.N/\n.N<=(rule n.K).2.1/\(rule n.K).2.2.1<=n.M/\n.M<=(rule n.K).2.2.2.1/\NameFits n.S (rule n.K).2.2.2.2.1/\NameFits n.T (rule n.K).2.2.2.2.2
def cutI(r:List Int):List Int:=if(r.getLast?).any cdB then r.dropLast else r
def BlkI(ks:List Int)(N:Int):Prop:=N<=ks.length/\(∀x∈ks.take N.toNat,scB x=true)/\(∀x∈cutI (ks.drop N.toNat),fives x=true)/\1<=(cutI (ks.drop N.toNat)).length
def KidsI(K N:Int)(ks:List Int):Prop:=
 if K=4\/K=6 then BlkI ks N
 else if K=7 then(∀x∈ks,sixes x=true)/\2<=ks.length
 else if K=8 then ks.length=2/\(∀x∈ks,scB x=true)
 else if K=9 then ks.length=1/\scB (ks.getD 0 0)=true
 else if K=10 then ks.length=1/\quB (ks.getD 0 0)=true
 else if K=11\/K=12 then ks.length=2/\scB (ks.getD 0 0)=true/\quB (ks.getD 1 0)=true
 else if K=13 then ks.length=1/\cdB (ks.getD 0 0)=true
 else if K=14\/K=15 then(∀x∈ks,cdB x=true)/\2<=ks.length
 else ks.length=0
def FitI(n:Nd)(ks:List Int):Prop:=Flds n/\KidsI n.K n.N ks
def ltr(k:Int):UInt8:=if scB k then 115 else if k=5 then 102 else if quB k then 113 else 99
def only(l:List UInt8)(c:UInt8)(least:Nat):Prop:=(∀x∈l,x=c)/\least<=l.length
def cutS(r:List UInt8):List UInt8:=if r.getLast?=some 99 then r.dropLast else r
def BlkS(l:List UInt8)(n:Int):Prop:=0<=n/\n<=l.length/\only (l.take n.toNat) 115 0/\only (cutS (l.drop n.toNat)) 102 1
def shortB(n:Int):Bool:=decide (-1000000000000000000<n)&&decide (n<1000000000000000000)
def FitS(n:Nd)(ks:List Int):Prop:=
 let l:=ks.map ltr
 ((n.S.toList≠[])↔(n.K=3\/n.K=5))/\((n.T.toList≠[])↔n.K=5)/\
 (n.K=1\/n.K=3\/n.K=4\/n.K=6\/n.K=12\/n.N=0)/\(n.K=4\/n.K=6\/n.K=8\/n.K=9\/n.K=11\/n.K=12\/n.M=0)/\
 (if n.K=1 then l=[]/\shortB n.N=true
  else if n.K=2 then l=[]
  else if n.K=3 then l=[]/\NameB n.S/\0<=n.N/\shortB n.N=true
  else if n.K=5 then l=[]/\NameB n.S/\NameB n.T
  else if n.K=4 then 1<=n.M/\n.M<=4/\(n.N=1↔1<n.M)/\(n.N=0↔n.M=1)/\BlkS l n.N
  else if n.K=6 then(n.M=0\/n.M=1)/\1<=n.N/\BlkS l n.N
  else if n.K=7 then(∀x∈ks,x=6)/\2<=ks.length
  else if n.K=8 then(1<=n.M/\n.M<=6)/\l=[115,115]
  else if n.K=9 then(n.M=0\/n.M=1)/\l=[115]
  else if n.K=10 then l=[113]
  else if n.K=11 then(n.M=0\/n.M=1)/\l=[115,113]
  else if n.K=12 then(1<=n.M/\n.M<=6)/\(n.N=1\/n.N=2)/\l=[115,113]
  else if n.K=13 then l=[99]
  else(n.K=14\/n.K=15)/\only l 99 2)
theorem ltr_s{k:Int}(_:1<=k/\k<=15):ltr k=115↔scB k=true:=by
 unfold ltr
 cases h:scB k
 ·simp;split<;>(try split)<;>decide
 ·simp
theorem ltr_f{k:Int}(_:1<=k/\k<=15):ltr k=102↔fives k=true:=by
 unfold ltr fives
 cases h:scB k
 ·by_cases e:k=5
  ·simp[e]
  ·simp[e];split<;>decide
 ·simp[scB]at h
  simp;omega
theorem ltr_q{k:Int}(_:1<=k/\k<=15):ltr k=113↔quB k=true:=by
 unfold ltr
 cases h:scB k
 ·by_cases e:k=5
  ·subst e;simp[quB]
  ·simp[e]
 ·simp[scB]at h
  simp[quB];omega
theorem ltr_c{k:Int}(h0:1<=k/\k<=15):ltr k=99↔cdB k=true:=by
 unfold ltr
 cases h:scB k
 ·by_cases e:k=5
  ·subst e;simp[cdB]
  ·cases q:quB k
   ·simp[scB]at h;simp[quB]at q;simp[e,cdB];omega
   ·simp[quB]at q;simp[e,cdB];omega
 ·simp[scB]at h
  simp[cdB];omega
theorem size_toList(s:ByteArray):s.toList.length=s.size:=by
 cases s
 rw[Go.ByteArray.toList_eq]
 simp[ByteArray.size]
theorem NameB.ne{s:ByteArray}(h:NameB s):s.toList≠[]:=by
 intro e
 have h1:=h.1.1
 rw[<-size_toList,e]at h1
 simp at h1
theorem all_map{ks:List Int}{f:Int->Bool}{c:UInt8}(h: ∀x∈ks,(ltr x=c↔f x=true)):(∀x∈ks.map ltr,x=c)↔ ∀x∈ks,f x=true:=by
 constructor
 ·intro h1 x hx
  exact(h x hx).1 (h1 _ (List.mem_map_of_mem hx))
 ·intro h1 y hy
  obtain⟨x,hx,rfl⟩:=List.mem_map.1 hy
  exact(h x hx).2 (h1 x hx)
theorem cut_map{r:List Int}(h: ∀x∈r,1<=x/\x<=15):cutS (r.map ltr)=(cutI r).map ltr:=by
 unfold cutS cutI
 rw[List.getLast?_map]
 cases e:r.getLast? with
 | none=>simp
 | some x=>
  have hx:=ltr_c (h x (List.mem_of_getLast? e))
  simp only[Option.map_some,Option.some.injEq,Option.any_some]
  by_cases hc:cdB x=true
  ·rw[if_pos (hx.2 hc),if_pos hc,List.map_dropLast]
  ·rw[if_neg (fun he=>hc (hx.1 he)),if_neg hc]
theorem cutI_mem{r:List Int}{x:Int}(h:x∈cutI r):x∈r:=by
 unfold cutI at h
 split at h
 ·exact(List.dropLast_sublist _).subset h
 ·exact h
theorem blk_iff{ks:List Int}{N:Int}(hN:0<=N)(h: ∀x∈ks,1<=x/\x<=15):BlkI ks N↔BlkS (ks.map ltr) N:=by
 unfold BlkI BlkS only
 rw[<-List.map_take,<-List.map_drop,cut_map (fun x hx=>h x (List.mem_of_mem_drop hx)),
  all_map (f:=scB) (fun x hx=>ltr_s (h x (List.mem_of_mem_take hx))),all_map (f:=fives) (fun x hx=>ltr_f (h x (List.mem_of_mem_drop (cutI_mem hx))))]
 simp[hN]
theorem map1{ks:List Int}{f:Int->Bool}{c:UInt8}(h: ∀x∈ks,(ltr x=c↔f x=true)):ks.map ltr=[c]↔ks.length=1/\f (ks.getD 0 0)=true:=by
 match ks,h with
 | [],_=>simp
 | [a],h=>simp[h a (by simp)]
 | a::b::r,_=>simp
theorem map2{ks:List Int}{f g:Int->Bool}{c d:UInt8}(h: ∀x∈ks,(ltr x=c↔f x=true))(h': ∀x∈ks,(ltr x=d↔g x=true)):ks.map ltr=[c,d]↔ks.length=2/\f (ks.getD 0 0)=true/\g (ks.getD 1 0)=true:=by
 match ks,h,h' with
 | [],_,_=>simp
 | [a],_,_=>simp
 | [a,b],h,h'=>simp[h a (by simp),h' b (by simp)]
 | a::b::_::r,_,_=>simp
theorem two_all{ks:List Int}{f:Int->Bool}:(ks.length=2/\f (ks.getD 0 0)=true/\f (ks.getD 1 0)=true)↔(ks.length=2/\ ∀x∈ks,f x=true):=by
 match ks with
 | []=>simp
 | [a]=>simp
 | [a,b]=>simp
 | a::b::_::r=>simp
theorem fit_iff(n:Nd)(ks:List Int)(h: ∀x∈ks,1<=x/\x<=15)(hl:ks.length<=10000):FitI n ks↔FitS n ks:=by
 obtain⟨K,N,M,S,T,Kids⟩:=n
 have m1s:=map1 (ks:=ks) (f:=scB) (c:=115) (fun x hx=>ltr_s (h x hx))
 have m1q:=map1 (ks:=ks) (f:=quB) (c:=113) (fun x hx=>ltr_q (h x hx))
 have m1c:=map1 (ks:=ks) (f:=cdB) (c:=99) (fun x hx=>ltr_c (h x hx))
 have m2s:=(map2 (ks:=ks) (f:=scB) (g:=scB) (c:=115) (d:=115) (fun x hx=>ltr_s (h x hx)) (fun x hx=>ltr_s (h x hx))).trans two_all
 have m2q:=map2 (ks:=ks) (f:=scB) (g:=quB) (c:=115) (d:=113) (fun x hx=>ltr_s (h x hx)) (fun x hx=>ltr_q (h x hx))
 have ma:=all_map (ks:=ks) (f:=cdB) (c:=99) (fun x hx=>ltr_c (h x hx))
 have ml:(ks.map ltr).length=ks.length:=by simp
 have m0:ks.map ltr=[]↔ks.length=0:=by simp
 have bI:=fun hN=>blk_iff (ks:=ks) (N:=N) hN h
 have hNS:=NameB.ne (s:=S)
 have hNT:=NameB.ne (s:=T)
 have bl:BlkS (ks.map ltr) N->N<=ks.length:=fun hb=>by have:=hb.2.1;rw[ml]at this;exact this
 have hl':(ks.length:Int)<=10000:=by omega
 have bl':BlkS (ks.map ltr) N->N<=10000:=fun hb=>Int.le_trans (bl hb) hl'
 clear bl hl'
 have s6:(∀x∈ks,sixes x=true)↔ ∀x∈ks,x=6:=by simp[sixes]
 unfold FitI FitS Flds
 simp only[m1s,m1q,m1c,m2s,m2q,m0,only,ma,ml]
 generalize BlkS (ks.map ltr) N=BS at*
 by_cases hK:1<=K/\K<=15
 ·have hc:K=1\/K=2\/K=3\/K=4\/K=5\/K=6\/K=7\/K=8\/K=9\/K=10\/K=11\/K=12\/K=13\/K=14\/K=15:=by omega
  rcases hc with rfl | rfl | rfl | rfl | rfl | rfl | rfl | rfl | rfl | rfl | rfl | rfl | rfl | rfl | rfl
  all_goals simp[rule,KidsI,NameFits,shortB,s6]
  all_goals clear m1s m1q m1c m2s m2q ma ml m0 s6 h
  all_goals grind
 ·constructor
  ·intro hh;exact absurd hh.1.1 hK
  ·intro hh
   have:=hh.2.2.2.2
   rw[if_neg (by omega),if_neg (by omega),if_neg (by omega),if_neg (by omega),if_neg (by omega),if_neg (by omega),if_neg (by omega),if_neg (by omega),if_neg (by omega),if_neg (by omega),if_neg (by omega),if_neg (by omega),if_neg (by omega)]at this
   omega
theorem Seg.len{ns:List Nd}{a b:Nat}{ks:List Int}(h:Seg ns a b ks):ks.length+a<=b:=by
 induction h with
 | nil a=>simp
 | snoc h1 h2 i1 i2=>have:=h2.le;simp;omega
def kindsOf(ns:List Nd)(ks:List Int):List Int:=ks.map fun x=>kindAt ns x.toNat
structure IV(ns:List Nd):Prop where
 lo:1<=ns.length
 hi:ns.length<=10000
 seg:Seg ns 0 ns.length [((ns.length-1:Nat):Int)]
 fit: ∀(i:Nat) (n:Nd),ns[i]?=some n->FitI n (kindsOf ns n.Kids)
 deep: ∀i,i<ns.length->dep ns i<=200
 top:quB (kindAt ns (ns.length-1))=true
structure SV(ns:List Nd):Prop where
 lo:1<=ns.length
 hi:ns.length<=10000
 seg:Seg ns 0 ns.length [((ns.length-1:Nat):Int)]
 fit: ∀(i:Nat) (n:Nd),ns[i]?=some n->FitS n (kindsOf ns n.Kids)
 top:quB (kindAt ns (ns.length-1))=true
 deep:dep ns (ns.length-1)<=200
theorem Seg.each{ns:List Nd}{a b:Nat}{ks:List Int}(h:Seg ns a b ks): ∀j,a<=j->j<b-> ∃c,Seg ns c j (kidsAt ns j):=by
 induction h with
 | nil a=>intro j h1 h2;omega
 | @snoc a c p ks h1 h2 i1 i2=>
  intro j e1 e2
  by_cases hc:j<c
  ·exact i1 j e1 hc
  ·by_cases hp:j=p
   ·subst hp;exact⟨c,h2⟩
   ·exact i2 j (by omega) (by omega)
theorem kidsAt_some{ns:List Nd}{i:Nat}{n:Nd}(h:ns[i]?=some n):kidsAt ns i=n.Kids:=by simp[kidsAt,h]
theorem kindAt_some{ns:List Nd}{i:Nat}{n:Nd}(h:ns[i]?=some n):kindAt ns i=n.K:=by simp[kindAt,h]
theorem FitS.range{n:Nd}{ks:List Int}(h:FitS n ks):1<=n.K/\n.K<=15:=by
 by_cases hK:1<=n.K/\n.K<=15
 ·exact hK
 ·have:=h.2.2.2.2
  rw[if_neg (by omega),if_neg (by omega),if_neg (by omega),if_neg (by omega),if_neg (by omega),if_neg (by omega),if_neg (by omega),if_neg (by omega),if_neg (by omega),if_neg (by omega),if_neg (by omega),if_neg (by omega),if_neg (by omega)]at this
  omega
theorem kinds_ok{ns:List Nd}(hi:ns.length<=10000){i:Nat}{n:Nd}(h:ns[i]?=some n){p:Nat}{ks:List Int}(hs:Seg ns 0 p ks)(hp:p=ns.length)(hr: ∀(j:Nat) (m:Nd),ns[j]?=some m->1<=m.K/\m.K<=15):
  (∀x∈kindsOf ns n.Kids,1<=x/\x<=15)/\(kindsOf ns n.Kids).length<=10000:=by
 have hin:i<ns.length:=(List.getElem?_eq_some_iff.1 h).1
 obtain⟨c,hc⟩:=hs.each i (by omega) (by omega)
 rw[kidsAt_some h]at hc
 refine⟨fun x hx=> ?_,?_⟩
 ·obtain⟨y,hy,rfl⟩:=List.mem_map.1 hx
  obtain⟨q,rfl,_,hq⟩:=hc.kid y hy
  have hq':q<ns.length:=by omega
  have:=hr q ns[q] (by simp[hq'])
  rw[show((q:Int)).toNat=q by simp,kindAt_some (List.getElem?_eq_getElem hq')]
  exact this
 ·have:=hc.len
  simp[kindsOf]
  omega
theorem iv_iff_sv(ns:List Nd):IV ns↔SV ns:=by
 constructor
 ·intro⟨lo,hi,seg,fit,deep,top⟩
  refine⟨lo,hi,seg,fun i n h=> ?_,top,deep _ (by omega)⟩
  obtain⟨h1,h2⟩:=kinds_ok hi h seg rfl (fun j m hm=>(fit j m hm).1.1)
  exact(fit_iff n _ h1 h2).1 (fit i n h)
 ·intro⟨lo,hi,seg,fit,top,deep⟩
  refine⟨lo,hi,seg,fun i n h=> ?_,fun i h=> ?_,top⟩
  ·obtain⟨h1,h2⟩:=kinds_ok hi h seg rfl (fun j m hm=>(fit j m hm).range)
   exact(fit_iff n _ h1 h2).2 (fit i n h)
  ·have:=deep_all (n:=ns.length-1) (by rw[show ns.length-1+1=ns.length by omega];exact seg) i (by omega)
   omega
end Go.Proofs.YtmggnimiioepeaaGreatDoor
namespace Go.Proofs.YtmggnimiioepeaaGreatDoor
open Go Go.RowKit
theorem bA{w w1:World}(h:Below w.heap.size w w1)(o:Obj):Below w.heap.size w (w1.alloc o):=h.alloc h.size o
def tr(b:Bool)(n:Int):Int:=if b then 1 else if n=0 then 0 else 2
structure TabAt(w:World)(g:Nat)(l:List Value):Prop where
 size:g<w.heap.size
 cell: ∀i,w.cell? ⟨g,i,none⟩=l[i]?
theorem TabAt.of{w w1:World}{g:Nat}{l:List Value}(h:TabAt w g l)(hb:Below w.heap.size w w1):TabAt w1 g l:=
 ⟨Nat.lt_of_lt_of_le h.size hb.size,fun i=>(hb.cell (p:=⟨g,i,none⟩) h.size).trans (h.cell i)⟩
theorem bcell{W w1:World}(hb:Below W.heap.size W w1):(∀b o,b<W.heap.size->w1.cell? ⟨b,o,none⟩=W.cell? ⟨b,o,none⟩)/\(∀b o,b<W.heap.size->w1.frozen? ⟨b,o,none⟩=W.frozen? ⟨b,o,none⟩):=
 ⟨fun b o h=>hb.cell (p:=⟨b,o,none⟩) h,fun b o h=>hb.frozen (p:=⟨b,o,none⟩) h⟩
abbrev Std(w0 w:World):Prop:=(∀b o,b<w0.heap.size->w.cell? ⟨b,o,none⟩=w0.cell? ⟨b,o,none⟩)/\(∀b o,b<w0.heap.size->w.frozen? ⟨b,o,none⟩=w0.frozen? ⟨b,o,none⟩)/\Below w0.heap.size w0 w
theorem Std.mk{w0 w:World}(h:Below w0.heap.size w0 w):Std w0 w:=⟨(bcell h).1,(bcell h).2,h⟩
theorem Std.refl(w:World):Std w w:=Std.mk (Below.refl _ _)
theorem Std.drew{w0 w:World}(h:Std w0 w):Std w0 w.drew:=Std.mk h.2.2.drew
theorem Std.alloc{w0 w:World}(h:Std w0 w)(o:Obj):Std w0 (w.alloc o):=Std.mk (bA h.2.2 o)
theorem Std.call{w0 w w1:World}(h:Std w0 w)(hb:Below w.heap.size w w1):Std w0 w1:=Std.mk (h.2.2.trans (hb.mono h.2.2.size))
theorem Std.setCell{w0 w:World}(h:Std w0 w){p:Addr}(hp:w0.heap.size<=p.block)(u:Value):Std w0 (w.setCell p u):=Std.mk (h.2.2.setCell hp u)
theorem Std.size{w0 w:World}(h:Std w0 w):w0.heap.size<=w.heap.size:=h.2.2.size
theorem bT{w w0 w1:World}(h:Below w.heap.size w w0)(hb:Below w0.heap.size w0 w1):Below w.heap.size w w1:=h.trans (hb.mono h.size)
theorem hide{p:Prop}(h:p):Hid p:=h
theorem unhide{p:Prop}(h:Hid p):p:=h
theorem wrap_small(n:Int)(h0: -1000000000000000<=n)(h1:n<=1000000000000000):IntKind.i64.wrap n=n:=by
 rw[IntKind.wrap_i64];omega
end Go.Proofs.YtmggnimiioepeaaGreatDoor
