import Derived.Test.YtmggnimiioepeaaGreatDoorQ0
namespace Go.Proofs.YtmggnimiioepeaaGreatDoor
open Go Go.RowKit
def IntsAt(w:World)(g off:Nat)(xs:List Int):Prop:= ∀i x,xs[i]?=some x->w.cell? ⟨g,off+i,none⟩=some (.int .i64 x)
theorem IntsAt.of{w w1:World}{g off:Nat}{xs:List Int}(h:IntsAt w g off xs)(hg:g<w.heap.size)(hb:Below w.heap.size w w1):IntsAt w1 g off xs:=fun i x hx=>
 (hb.cell (p:=⟨g,off+i,none⟩) hg).trans (h i x hx)
theorem IntsAt.at{w:World}{g off:Nat}{xs:List Int}(h:IntsAt w g off xs)(i:Nat)(hi:i<xs.length):w.cell? ⟨g,off+i,none⟩=some (.int .i64 xs[i]):=h i xs[i] (by simp[hi])
structure OwnInts(w:World)(g n:Nat)(xs:List Int):Prop where
 size:g<w.heap.size
 frz: ∀o,w.frozen? ⟨g,o,none⟩=false
 all: ∀o,o<n-> ∃v,w.cell? ⟨g,o,none⟩=some v
 held:IntsAt w g 0 xs
theorem OwnInts.of{w w1:World}{g n:Nat}{xs:List Int}(h:OwnInts w g n xs)(hb:Below w.heap.size w w1):OwnInts w1 g n xs:=
 ⟨Nat.lt_of_lt_of_le h.size hb.size,fun o=>(hb.frozen (p:=⟨g,o,none⟩) h.size).trans (h.frz o),fun o ho=>by
  obtain⟨v,hv⟩:=h.all o ho
  exact⟨v,(hb.cell (p:=⟨g,o,none⟩) h.size).trans hv⟩,h.held.of h.size hb⟩
theorem frozen_setCellN(w:World)(p a:Addr)(v:Value):(w.setCell p v).frozen? a=w.frozen? a:=by simp[go_sem]
theorem setCell_thereN{w:World}{g o o':Nat}{v u:Value}(h:w.cell? ⟨g,o,none⟩=some u): ∃z,(w.setCell ⟨g,o',none⟩ v).cell? ⟨g,o,none⟩=some z:=by
 by_cases e:o'=o
 ·subst e;exact⟨v,World.cell?_setCell_same _ _ _ h⟩
 ·exact⟨u,by rw[World.cell?_setCell_other _ _ _ _ (by intro he;injection he;contradiction)];exact h⟩
theorem setCell_otherN{w:World}{g o o':Nat}{v:Value}(h:o'≠o):(w.setCell ⟨g,o',none⟩ v).cell? ⟨g,o,none⟩=w.cell? ⟨g,o,none⟩:=
 World.cell?_setCell_other _ _ _ _ (by intro he;injection he;contradiction)
theorem setCell_farN{w:World}{g o G O:Nat}{v:Value}(h:G≠g):(w.setCell ⟨G,O,none⟩ v).cell? ⟨g,o,none⟩=w.cell? ⟨g,o,none⟩:=
 World.cell?_setCell_other _ _ _ _ (by intro he;injection he;contradiction)
theorem take_snocN{α:Type}(xs:List α)(k:Nat)(h:k<xs.length):xs.take (k+1)=xs.take k++[xs[k]]:=by
 rw[List.take_succ_eq_append_getElem h]
theorem OwnInts.put{w:World}{g n k:Nat}{xs:List Int}(h:OwnInts w g n (xs.take k))(hk:k<xs.length)(hn:k<n):OwnInts (w.setCell ⟨g,k,none⟩ (.int .i64 xs[k])) g n (xs.take (k+1)):=by
 refine⟨by simpa using h.size,fun o=>by rw[frozen_setCellN];exact h.frz o,fun o ho=> ?_,fun i x hx=> ?_⟩
 ·obtain⟨v,hv⟩:=h.all o ho
  exact setCell_thereN hv
 ·simp only[Nat.zero_add]
  rw[take_snocN xs k hk]at hx
  have hl:(xs.take k).length=k:=by simp;omega
  by_cases hi:i<k
  ·rw[List.getElem?_append_left (by omega)]at hx
   rw[setCell_otherN (by omega)]
   have:=h.held i x hx
   simpa using this
  ·obtain rfl:i=k:=by
    have:=(List.getElem?_eq_some_iff.1 hx).1
    simp at this;omega
   rw[List.getElem?_append_right (by omega)]at hx
   simp[hl]at hx
   subst hx
   obtain⟨v0,h0⟩:=h.all i hn
   exact World.cell?_setCell_same _ _ _ h0
theorem OwnInts.made(w:World)(n:Nat)(C:Array Value)(t:TypeId)(hC:C.size=n):OwnInts (w.alloc (.cells C t)) w.heap.size n []:=
 ⟨by simp,fun o=>by simp[go_sem],fun o ho=>⟨C[o]'(by omega),by rw[World.cell?_alloc_at C t _ o rfl];simp⟩,fun i x hx=>by simp at hx⟩
theorem OwnInts.far{w:World}{g n:Nat}{xs:List Int}(h:OwnInts w g n xs){G O:Nat}(hne:G≠g)(v:Value):OwnInts (w.setCell ⟨G,O,none⟩ v) g n xs:=
 ⟨by simpa using h.size,fun o=>by rw[frozen_setCellN];exact h.frz o,fun o ho=>by rw[setCell_farN hne];exact h.all o ho,fun i x hx=>by rw[setCell_farN hne];exact h.held i x hx⟩
structure Cells5(w:World)(g o:Nat)(n:Nd):Prop where
 c0:w.cell? ⟨g,o,none⟩=some (.int .i64 n.K)
 c1:w.cell? ⟨g,o+1,none⟩=some (.int .i64 n.N)
 c2:w.cell? ⟨g,o+2,none⟩=some (.int .i64 n.M)
 c3:w.cell? ⟨g,o+3,none⟩=some (.string n.S)
 c4:w.cell? ⟨g,o+4,none⟩=some (.string n.T)
theorem Cells5.of{w w1:World}{g o:Nat}{n:Nd}(h:Cells5 w g o n)(hg:g<w.heap.size)(hb:Below w.heap.size w w1):Cells5 w1 g o n:=
 ⟨(hb.cell (p:=⟨g,o,none⟩) hg).trans h.c0,(hb.cell (p:=⟨g,o+1,none⟩) hg).trans h.c1,(hb.cell (p:=⟨g,o+2,none⟩) hg).trans h.c2,(hb.cell (p:=⟨g,o+3,none⟩) hg).trans h.c3,(hb.cell (p:=⟨g,o+4,none⟩) hg).trans h.c4⟩
end Go.Proofs.YtmggnimiioepeaaGreatDoor
namespace Go.Proofs.YtmggnimiioepeaaGreatDoor
open Go Go.RowKit
structure ButB(S:Nat->Prop)(w w':World):Prop where
 os:w'.os=w.os
 tape:w'.tape=w.tape
 output:w'.output=w.output
 size:w.heap.size<=w'.heap.size
 block: ∀k,k<w.heap.size-> ¬S k->w'.heap[k]?=w.heap[k]?
theorem ButB.refl(S:Nat->Prop)(w:World):ButB S w w:=⟨rfl,rfl,rfl,Nat.le_refl _,fun _ _ _=>rfl⟩
theorem ButB.trans{S:Nat->Prop}{w w1 w2:World}(h:ButB S w w1)(h':ButB S w1 w2):ButB S w w2:=
 ⟨h'.os.trans h.os,h'.tape.trans h.tape,h'.output.trans h.output,Nat.le_trans h.size h'.size,fun k hk hs=>(h'.block k (Nat.lt_of_lt_of_le hk h.size) hs).trans (h.block k hk hs)⟩
theorem ButB.trans'{S T:Nat->Prop}{w w1 w2:World}(h:ButB S w w1)(h':ButB T w1 w2)(hT: ∀b,T b->S b\/w.heap.size<=b):ButB S w w2:=
 ⟨h'.os.trans h.os,h'.tape.trans h.tape,h'.output.trans h.output,Nat.le_trans h.size h'.size,fun k hk hs=>(h'.block k (Nat.lt_of_lt_of_le hk h.size) (fun ht=>(hT k ht).elim hs (fun h1=>absurd hk (by omega)))).trans (h.block k hk hs)⟩
theorem ButB.mono{S T:Nat->Prop}{w w1:World}(h:ButB S w w1)(hs: ∀b,S b->T b):ButB T w w1:=⟨h.os,h.tape,h.output,h.size,fun k hk ht=>h.block k hk (fun e=>ht (hs k e))⟩
theorem ButB.ofBelow{S:Nat->Prop}{w w1:World}(h:Below w.heap.size w w1):ButB S w w1:=⟨h.os,h.tape,h.output,h.size,fun k hk _=>h.block k hk⟩
theorem ButB.below{S:Nat->Prop}{w w1:World}(h:ButB S w w1){B:Nat}(hB:B<=w.heap.size)(hs: ∀b,S b->B<=b):Below B w w1:=⟨h.os,h.tape,h.output,h.size,fun k hk=>h.block k (by omega) (fun e=>by have:=hs k e;omega)⟩
theorem ButB.grown{S:Nat->Prop}{w w1:World}{row:Option Nat}(hg:w.grownBy w1 row)(hr: ∀b,row=some b->S b):ButB S w w1:=⟨hg.os,hg.tape,hg.output,hg.size,fun k hk hs=>hg.block k hk (fun e=>hs (hr k e.symm))⟩
theorem ButB.set{S:Nat->Prop}{w w1:World}(h:ButB S w w1){g o:Nat}(hg:S g\/w.heap.size<=g)(v:Value):ButB S w (w1.setCell ⟨g,o,none⟩ v):=by
 have hb:Below g w1 (w1.setCell ⟨g,o,none⟩ v):=(Below.refl g w1).setCell (p:=⟨g,o,none⟩) (Nat.le_refl _) v
 exact⟨hb.os.trans h.os,hb.tape.trans h.tape,hb.output.trans h.output,Nat.le_trans h.size hb.size,fun k hk hs=>by
  rw[Below.heap_setCell w1 ⟨g,o,none⟩ v k (by dsimp only;intro e;subst e;exact hg.elim hs (fun h1=>absurd hk (by omega)))]
  exact h.block k hk hs⟩
theorem ButB.cell{S:Nat->Prop}{w w1:World}(h:ButB S w w1)(b o:Nat)(hb:b<w.heap.size)(hs: ¬S b):w1.cell? ⟨b,o,none⟩=w.cell? ⟨b,o,none⟩:=World.cell?_of_block (a:=⟨b,o,none⟩) (h.block b hb hs)
theorem ButB.frz{S:Nat->Prop}{w w1:World}(h:ButB S w w1)(b o:Nat)(hb:b<w.heap.size)(hs: ¬S b):w1.frozen? ⟨b,o,none⟩=w.frozen? ⟨b,o,none⟩:=World.frozen?_of_block (a:=⟨b,o,none⟩) (h.block b hb hs)
end Go.Proofs.YtmggnimiioepeaaGreatDoor
namespace Go.Proofs.YtmggnimiioepeaaGreatDoor
open Go
section
variable {P:Program}{ops:Array Oper}{Q:Exit->Act->World->Prop}{md:Region.Mode}{S:World->Prop}
theorem takeU(i d:Nat){oi:Oper}{fuel:Nat}{listed:Array Bool}{a:Act}{w:World}(hi:ops[i]?=some oi)(hd:oi.dst=some d)
  (hs:Region.noSelect ops=true) (hf:Region.free md ops listed i=true) (hr:(Region.ready md ops listed).contains i=true)
  (hQ: ∀c a w,Q (.panic c) (a.put oi.dst undef) w->Q (.panic c) a w) (hw:Region.wanted oi (yielded ops a.tmps)=false) (hS:S w)
  (h:wpAnyH P md ops Q S fuel (listed.setIfInBounds i true) (a.put (some d) undef) w):wpAnyH P md ops Q S (fuel+1) listed a w:=by
 rw[<-hd]at h
 exact wpAnyH_take hi hs hf hr hQ (Or.inr ⟨hw,rfl⟩) hS h
theorem takeW(i d:Nat)(v:Value){oi:Oper}{fuel:Nat}{listed:Array Bool}{a:Act}{w:World}(hi:ops[i]?=some oi)(hd:oi.dst=some d)
  (hs:Region.noSelect ops=true) (hf:Region.free md ops listed i=true) (hr:(Region.ready md ops listed).contains i=true)
  (hQ: ∀c a w,Q (.panic c) (a.put oi.dst v) w->Q (.panic c) a w) (hw:Region.wanted oi (yielded ops a.tmps)=true) (hy: ∀w,S w->(execOp a.eval oi).run P w= .ok (.value v) w) (hS:S w)
  (h:wpAnyH P md ops Q S fuel (listed.setIfInBounds i true) (a.put (some d) v) w):wpAnyH P md ops Q S (fuel+1) listed a w:=by
 rw[<-hd]at h
 exact wpAnyH_take hi hs hf hr hQ (Or.inl ⟨hw,hy⟩) hS h
end
theorem puts:(∀(a:Act) (d:Nat) (v:Value),a.put (some d) v={a with tmps:=a.tmps.setIfInBounds d v})/\(∀{α:Type} (l:List α) (i:Nat) (x:α),l.toArray.setIfInBounds i x=(l.set i x).toArray)/\
  (∀{α:Type} (y:α) (l:List α) (n:Nat) (x:α),(y::l).set (n+1) x=y::l.set n x)/\(∀{α:Type} (y:α) (l:List α) (x:α),(y::l).set 0 x=x::l):=
 ⟨fun _ _ _=>rfl,List.setIfInBounds_toArray,fun _ _ _ _=>rfl,fun _ _ _=>rfl⟩
section
variable {P:Program}{ops:Array Oper}{Q:Exit->Act->World->Prop}{md:Region.Mode}{S:World->Prop}
theorem tU(i d:Nat){oi:Oper}{fuel:Nat}{listed:Array Bool}{a:Act}{w:World}
  (h:wpAnyH P md ops Q S fuel (listed.setIfInBounds i true) (a.put (some d) undef) w) (hi:ops[i]?=some oi:=by rfl) (hd:oi.dst=some d:=by rfl)
  (hs:Region.noSelect ops=true:=by kernel_rfl) (hf:Region.free md ops listed i=true:=by kernel_rfl) (hr:(Region.ready md ops listed).contains i=true:=by kernel_rfl)
  (hQ: ∀c a w,Q (.panic c) (a.put oi.dst undef) w->Q (.panic c) a w:=by exact fun _ _ _ h=>h) (hw:Region.wanted oi (yielded ops a.tmps)=false:=by rfl) (hS:S w:=by assumption):
  wpAnyH P md ops Q S (fuel+1) listed a w:=takeU i d hi hd hs hf hr hQ hw hS h
theorem tW(i d:Nat)(v:Value){oi:Oper}{fuel:Nat}{listed:Array Bool}{a:Act}{w:World}
  (h:wpAnyH P md ops Q S fuel (listed.setIfInBounds i true) (a.put (some d) v) w) (hi:ops[i]?=some oi:=by rfl) (hd:oi.dst=some d:=by rfl)
  (hs:Region.noSelect ops=true:=by kernel_rfl) (hf:Region.free md ops listed i=true:=by kernel_rfl) (hr:(Region.ready md ops listed).contains i=true:=by kernel_rfl)
  (hQ: ∀c a w,Q (.panic c) (a.put oi.dst v) w->Q (.panic c) a w:=by exact fun _ _ _ h=>h) (hw:Region.wanted oi (yielded ops a.tmps)=true:=by rfl)
  (hy: ∀w,S w->(execOp a.eval oi).run P w= .ok (.value v) w:=by intro wx hSw;obtain⟨hs1,hs2⟩:=hSw;go_simp) (hS:S w:=by assumption):
  wpAnyH P md ops Q S (fuel+1) listed a w:=takeW i d v hi hd hs hf hr hQ hw hy hS h
end
end Go.Proofs.YtmggnimiioepeaaGreatDoor
namespace Go.Proofs.YtmggnimiioepeaaGreatDoor.Pa
open Go Go.RowKit
def blk(a:Option Addr):Option Nat:=a.map Addr.block
theorem own_slice(a:Option Addr)(n c:Nat):(Value.slice a n c).ownBlock=blk a:=by cases a<;>rfl
def SrcC(w:World)(size:Nat)(xa:Option Addr)(m c:Nat)(news:List Value):Prop:=
 news.length=m*size/\(∀u∈news,u.oneCell'=true)/\((xa=none/\m=0/\c=0)\/ ∃G,xa=some ⟨G,0,none⟩/\ ∀j u,news[j]?=some u->w.cell? ⟨G,j,none⟩=some u)
theorem ownsRow_form{w:World}{B e size n:Nat}{v:Value}{xs:List Value}(h:w.ownsRow B e size v n xs): ∃a c,v= .slice a n c/\ ∀b,blk a=some b->B<=b/\b<w.heap.size:=by
 rcases h.2 with⟨e1,e2⟩ | ⟨g,cap,cur,e1,e2,e3,_⟩
 ·exact⟨none,0,by rw[e1,e2],fun b h=>by simp[blk]at h⟩
 ·exact⟨some ⟨g,0,none⟩,cap,e1,fun b h=>by
   simp[blk]at h
   subst h
   exact⟨e2,(Array.getElem?_eq_some_iff.1 e3).1⟩⟩
theorem run_append_gen{P:Program}(w:World)(t ty:TypeId)(base:Nat)(e:TypeId)(i:TypeInfo)(z:Value)(size bytes:Nat)(ht:P.underlying t=some (.slice e))(hi:P.info? e=some i)(hz:i.zero=some z)
  (hsize:i.size=size) (hby:i.bytes=bytes) (hzs:z.cells.size=size) (hsz:0<size)
  (va:Option Addr) (n vc:Nat) (xs:List Value) (hown:w.ownsRow base e size (.slice va n vc) n xs) (xa:Option Addr) (m xc:Nat) (news:List Value) (hsrc:SrcC w size xa m xc news)
  (h63:n+m<=maxLen) (hbytes:(n+m)*bytes<=140737488355328) (hbase:base<=w.heap.size):
  ∃ra cap w',(Builtin.append_ #[t,t] ty #[.slice va n vc,.slice xa m xc]).run P w= .ok (.slice ra (n+m) cap) w'/\w'.ownsRow base e size (.slice ra (n+m) cap) (n+m) (xs++news)/\w.grownBy w' (blk va)/\(∀b,blk ra=some b->blk va=some b\/b=w.heap.size):=by
 obtain⟨hl,h1,⟨rfl,rfl,rfl⟩ | ⟨G,rfl,hc⟩⟩:=hsrc
 ·obtain rfl:news=[]:=List.eq_nil_of_length_eq_zero (by omega)
  exact⟨va,vc,w,by simpa using run_append_owned_none w base t ty e i size ht hi _ n xs hown,by simpa using hown,⟨rfl,rfl,rfl,Nat.le_refl _,fun _ _ _=>rfl⟩,fun b h=>Or.inl h⟩
 ·have hadd: ∀j u,news[j]?=some u->w.cell? ((⟨G,0,none⟩:Addr).add j)=some u:=fun j u hj=>by
   have:=hc j u hj
   by_cases h0:j=0
   ·subst h0;simpa[Addr.add]using this
   ·simpa[Addr.add,h0]using this
  obtain⟨v',w',hr,h2,h3,_,h5⟩:=run_append_own_at (P:=P) w base t ty e i z size bytes ht hi hz hsize hby hzs hsz _ n xs hown ⟨G,0,none⟩ m xc news hl hadd h1 h63 hbytes hbase
  obtain⟨ra,cap,rfl,_⟩:=ownsRow_form h2
  rw[own_slice]at h3
  rw[own_slice,own_slice]at h5
  exact⟨ra,cap,w',hr,h2,h3,fun b hb=>by
   rcases h5 with h5 | h5
   ·exact Or.inl (by rw[<-h5];exact hb)
   ·rw[h5]at hb
    exact Or.inr (by simpa using hb.symm)⟩
theorem wp_append_gen{P:Program}(w:World){o:Oper}{a:Act}{K:Act->World->Prop}{Q:Exit->Act->World->Prop}(s x:Operand)(t:TypeId)
  (ho:o.op= .call {callee:= .builtin .append,args:= #[s,x],argTypes:= #[t,t]})
  (base:Nat) (e:TypeId) (i:TypeInfo) (z:Value) (size bytes:Nat) (ht:P.underlying t=some (.slice e)) (hi:P.info? e=some i) (hz:i.zero=some z)
  (hsize:i.size=size) (hby:i.bytes=bytes) (hzs:z.cells.size=size) (hsz:0<size)
  (va:Option Addr) (n vc:Nat) (xs:List Value) (hs:a.eval s= .slice va n vc) (hown:w.ownsRow base e size (.slice va n vc) n xs) (xa:Option Addr) (m xc:Nat) (news:List Value) (hx:a.eval x= .slice xa m xc) (hsrc:SrcC w size xa m xc news)
  (h63:n+m<=maxLen) (hbytes:(n+m)*bytes<=140737488355328) (hbase:base<=w.heap.size)
  (h: ∀ra cap w',w'.ownsRow base e size (.slice ra (n+m) cap) (n+m) (xs++news)->w.grownBy w' (blk va)->(∀b,blk ra=some b->blk va=some b\/b=w.heap.size)->K (a.put o.dst (.slice ra (n+m) cap)) w'):o.wp P a w K Q:=by
 obtain⟨ra,cap,w',hr,h2,h3,h4⟩:=run_append_gen (P:=P) w t o.type base e i z size bytes ht hi hz hsize hby hzs hsz va n vc xs hown xa m xc news hsrc h63 hbytes hbase
 unfold Oper.wp execOp
 simp only[ho,resolve,invoke,builtin,Sem.run_bind,Sem.run_pure,Result.andThen_ok,List.map_toArray,List.map_cons,List.map_nil,hs,hx,hr]
 exact h ra cap w' h2 h3 h4
theorem wpList_append_gen{P:Program}(w:World){ops:Array Oper}{rest:List Oper}{o:Oper}{a:Act}{Q:Exit->Act->World->Prop}(hgd:o.guard=none)(s x:Operand)(t:TypeId)
  (ho:o.op= .call {callee:= .builtin .append,args:= #[s,x],argTypes:= #[t,t]})
  (base:Nat) (e:TypeId) (i:TypeInfo) (z:Value) (size bytes:Nat) (ht:P.underlying t=some (.slice e)) (hi:P.info? e=some i) (hz:i.zero=some z)
  (hsize:i.size=size) (hby:i.bytes=bytes) (hzs:z.cells.size=size) (hsz:0<size)
  (va:Option Addr) (n vc:Nat) (xs:List Value) (hs:a.eval s= .slice va n vc) (hown:w.ownsRow base e size (.slice va n vc) n xs) (xa:Option Addr) (m xc:Nat) (news:List Value) (hx:a.eval x= .slice xa m xc) (hsrc:SrcC w size xa m xc news)
  (h63:n+m<=maxLen) (hbytes:(n+m)*bytes<=140737488355328) (hbase:base<=w.heap.size)
  (h: ∀ra cap w',w'.ownsRow base e size (.slice ra (n+m) cap) (n+m) (xs++news)->w.grownBy w' (blk va)->(∀b,blk ra=some b->blk va=some b\/b=w.heap.size)->wpList P ops Q rest (a.put o.dst (.slice ra (n+m) cap)) w'):wpList P ops Q (o::rest) a w:=
 wpList_plain hgd fun _ hK=>wp_append_gen w s x t ho base e i z size bytes ht hi hz hsize hby hzs hsz va n vc xs hs hown xa m xc news hx hsrc h63 hbytes hbase fun ra cap w' h2 h3 h4=>hK _ _ (h ra cap w' h2 h3 h4)
structure CellsAt(W:World)(x:Nat)(vs:List Value):Prop where
 lt:x<W.heap.size
 frz: ∀o,W.frozen? ⟨x,o,none⟩=false
 all: ∀o v,vs[o]?=some v->W.cell? ⟨x,o,none⟩=some v
section
variable {S:Nat->Prop}{W W1:World}{x:Nat}{vs:List Value}
theorem CellsAt.but(h:CellsAt W x vs)(k:ButB S W W1)(hs: ¬S x):CellsAt W1 x vs:=
 ⟨Nat.lt_of_lt_of_le h.lt k.size,fun o=>(k.frz x o h.lt hs).trans (h.frz o),fun o v hv=>(k.cell x o h.lt hs).trans (h.all o v hv)⟩
theorem CellsAt.of(h:CellsAt W x vs)(hb:Below W.heap.size W W1):CellsAt W1 x vs:=h.but (S:=fun _=>False) (ButB.ofBelow hb) (fun e=>e)
theorem CellsAt.set(h:CellsAt W x vs)(o:Nat)(v:Value)(ho:o<vs.length):CellsAt (W.setCell ⟨x,o,none⟩ v) x (vs.set o v):=by
 refine⟨by simpa using h.lt,fun o'=>by rw[World.frozen?_setCell];exact h.frz o',fun o' v' hv=> ?_⟩
 rw[List.getElem?_set]at hv
 by_cases e:o=o'
 ·subst e
  rw[if_pos rfl,if_pos ho]at hv
  cases hv
  exact World.cell?_setCell_same _ _ _ (h.all o vs[o] (List.getElem?_eq_getElem ho))
 ·rw[if_neg e]at hv
  rw[setCell_otherN e]
  exact h.all o' v' hv
theorem CellsAt.far(h:CellsAt W x vs){y:Nat}(o:Nat)(v:Value)(hy:y≠x):CellsAt (W.setCell ⟨y,o,none⟩ v) x vs:=
 h.but (S:=fun b=>b=y) (ButB.set (S:=fun b=>b=y) (ButB.refl _ _) (Or.inl rfl) _) (fun e=>hy e.symm)
theorem CellsAt.new(W:World)(vs:List Value)(t:TypeId):CellsAt (W.alloc (.cells vs.toArray t)) W.heap.size vs:=by
 refine⟨by simp,fun o=>by simp[go_sem],fun o v hv=> ?_⟩
 simp[go_sem]
 simpa using hv
theorem CellsAt.c1{a:Value}(h:CellsAt W x [a]):W.cell? ⟨x,0,none⟩=some a:=h.all 0 _ rfl
theorem CellsAt.c6{a b c d e f:Value}(h:CellsAt W x [a,b,c,d,e,f]):W.cell? ⟨x,0,none⟩=some a/\W.cell? ⟨x,1,none⟩=some b/\W.cell? ⟨x,2,none⟩=some c/\W.cell? ⟨x,3,none⟩=some d/\W.cell? ⟨x,4,none⟩=some e/\W.cell? ⟨x,5,none⟩=some f:=⟨h.all 0 _ rfl,h.all 1 _ rfl,h.all 2 _ rfl,h.all 3 _ rfl,h.all 4 _ rfl,h.all 5 _ rfl⟩
end
theorem own_below{w w1:World}{s z n:Nat}{v:Value}{xs:List Value}{t:TypeId}(h:w.ownsRow s t z v n xs)(hb:Below w.heap.size w w1):w1.ownsRow s t z v n xs:=by
 refine⟨h.1,?_⟩
 rcases h.2 with h2 | ⟨g,cap,cur,e1,e2,e3,e4⟩
 ·exact Or.inl h2
 ·have hg:=(Array.getElem?_eq_some_iff.1 e3).1
  exact Or.inr ⟨g,cap,cur,e1,e2,(hb.block g hg).trans e3,e4⟩
theorem grown_below{w W w5:World}{row:Option Nat}(h:Below w.heap.size w W)(hg:W.grownBy w5 row)(hr: ∀j,row=some j->w.heap.size<=j):Below w.heap.size w w5:=
 h.grown hg h.size hr
end Go.Proofs.YtmggnimiioepeaaGreatDoor.Pa
