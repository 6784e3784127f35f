import Derived.Test.YtmggnimiioepeaaGreatDoorQ0
import Derived.Test.YtmggnimiioepeaaGreatDoorQ26
import Derived.Test.YtmggnimiioepeaaGreatDoorQ2
import Derived.Test.YtmggnimiioepeaaGreatDoorQ16
import Derived.Test.YtmggnimiioepeaaGreatDoorQ1
import Derived.Test.YtmggnimiioepeaaGreatDoorQ8
namespace Go.Proofs.YtmggnimiioepeaaGreatDoor.Pa
open Go Go.RowKit
theorem tmps12(a b x:Value): #[a,b]++(Array.replicate 10 undef).setIfInBounds 3 x= #[a,b,undef,undef,undef,x,undef,undef,undef,undef,undef,undef]:=rfl
theorem rec_idle(p q:Addr)(w:World):CallsD Tryz.prog 15 #[.pointer (some p),.pointer (some q)] .returning w fun e u' w'=>e= .returned (.tuple #[])/\u'= .returning/\w'=w:=by
 refine callsD_of_wpS Tryz.func15 rfl fun c₀ cs hu=> ?_
 apply wpS_seq
 apply wpS_region
 simp[wpOpsS,go_sem,recoverD,hu,Tryz.ntmps15,Exit.thenS]
 rw[tmps12]
 refine wpS_of_wp ?_
 have h1: ∀w:World,(binOp BinOp.eql 20 .nilIface .nilIface).run Tryz.prog w= .ok (.bool true) w:=fun _=>by kernel_rfl
 go_wp2
 cases c₀
 simp_all [bodyPostS,results,Tryz.results15]
set_option maxRecDepth 100000 in
theorem rec_panic(A C:Nat)(v0 v1:Value)(w:World)(h0:w.cell? ⟨A,0,none⟩=some v0)(h1:w.cell? ⟨C,0,none⟩=some v1)(f0:w.frozen? ⟨A,0,none⟩=false)(f1:w.frozen? ⟨C,0,none⟩=false)(hA:A<w.heap.size)(hC:C<w.heap.size)(hne:A≠C):CallsD Tryz.prog 15 #[.pointer (some ⟨A,0,none⟩),.pointer (some ⟨C,0,none⟩)] (.panicking [{v:= .iface 43 (.agg #[]),recovered:=false}]) w fun e u' w'=>e= .returned (.tuple #[])/\u'= .panicking [{v:= .iface 43 (.agg #[]),recovered:=true}]/\w'=((w.setCell ⟨A,0,none⟩ (.slice none 0 0)).setCell ⟨C,0,none⟩ (.int .i64 4)).alloc (.cells #[] 43):=by
 refine callsD_of_wpS Tryz.func15 rfl fun c₀ cs hu=> ?_
 apply wpS_seq
 apply wpS_region
 simp[wpOpsS,go_sem,recoverD,hu,Tryz.ntmps15,Exit.thenS]
 rw[tmps12]
 refine wpS_of_wp ?_
 have h2: ∀w:World,(binOp BinOp.eql 20 (.iface 43 (.agg #[])) .nilIface).run Tryz.prog w= .ok (.bool false) w:=fun _=>by kernel_rfl
 have h3: ∀w:World,(Instr.typeAssert (.iface 43 (.agg #[])) 20 43 true).run Tryz.prog w= .ok (.tuple #[.agg #[],.bool true]) w:=fun w=>by simp[Instr.typeAssert,run_underlying Tryz.underlying43]
 have hne2: ¬C=A:=fun e=>hne e.symm
 go_wp2
 cases c₀
 simp_all [bodyPostS,results,Tryz.results15]
end Go.Proofs.YtmggnimiioepeaaGreatDoor.Pa
namespace Go.Proofs.YtmggnimiioepeaaGreatDoor.AX
open Go Go.RowKit
theorem make_ints(n:Nat)(hn:n<=1048576)(w:World):
  (Instr.makeSlice 58 (.int .i64 (n:Int)) (.int .i64 (n:Int))).run Tryz.prog w= .ok (.slice (some ⟨w.heap.size,0,none⟩) n n) (w.alloc (.cells (madeCells #[.int .i64 0] n) 3)):=by
 obtain⟨i,hi,hz⟩:=Option.map_eq_some_iff.1 (show(Tryz.prog.info? 3).map (fun i=>(i.zero,i.size,i.bytes))=some (some (.int .i64 0),1,8)by kernel_rfl)
 simp only[Prod.mk.injEq]at hz
 have:=run_make (P:=Tryz.prog) w 58 3 i _ Tryz.underlying58 hi hz.1 .i64 .i64 (n:Int) (n:Int) (by omega) (by omega) (by rw[hz.2.2];omega) (by omega)
 rw[hz.2.1]at this
 simpa[Value.cells]using this
theorem _root_.Go.Proofs.YtmggnimiioepeaaGreatDoor.OwnInts.set{w:World}{g n:Nat}{xs:List Int}(h:OwnInts w g n xs)(i:Nat)(hi:i<xs.length)(hn:i<n)(v:Int):OwnInts (w.setCell ⟨g,i,none⟩ (.int .i64 v)) g n (xs.set i v):=by
 refine⟨by simpa using h.size,fun o=>by rw[frozen_setCellN];exact h.frz o,fun o ho=> ?_,fun j x hx=> ?_⟩
 ·obtain⟨v,hv⟩:=h.all o ho
  exact setCell_thereN hv
 ·simp only[Nat.zero_add]
  by_cases e:i=j
  ·subst e
   rw[List.getElem?_set_self hi]at hx
   injection hx with hx
   subst hx
   obtain⟨v0,h0⟩:=h.all i hn
   exact World.cell?_setCell_same _ _ _ h0
  ·rw[List.getElem?_set_ne e]at hx
   rw[setCell_otherN e]
   have:=h.held j x hx
   simpa using this
theorem madeInts(w:World)(n:Nat)(t:TypeId):OwnInts (w.alloc (.cells (madeCells #[.int .i64 0] n) t)) w.heap.size n (List.replicate n 0):=by
 have h:=OwnInts.made w n (madeCells #[.int .i64 0] n) t (by simp[size_madeCells])
 refine⟨h.size,h.frz,h.all,fun i x hx=> ?_⟩
 obtain⟨hi,rfl⟩:=List.getElem?_eq_some_iff.1 hx
 simp at hi
 simp only[Nat.zero_add,List.getElem_replicate]
 rw[World.cell?_alloc_at _ t _ i rfl]
 rw[<-Array.getElem?_toList,toList_madeCells_one]
 simp[hi]
def dl(ns:List Nd)(n k:Nat):List Int:=depTo ns k++List.replicate (n-k) 0
theorem dl_length(ns:List Nd)(n k:Nat)(h:k<=n):(dl ns n k).length=n:=by simp[dl,depTo_length];omega
theorem dl_low(ns:List Nd)(n k p:Nat)(h:p<k)(v:Int):((dl ns n k).set k v)[p]?=some ((depTo ns k).getD p 0):=by
 rw[List.getElem?_set_ne (by omega)]
 unfold dl
 rw[List.getElem?_append_left (by rw[depTo_length];exact h),List.getD_eq_getElem?_getD,List.getElem?_eq_getElem (by rw[depTo_length];exact h)]
 rfl
theorem dl_mid(ns:List Nd)(n k:Nat)(h:k<n)(v:Int):((dl ns n k).set k v)[k]?=some v:=List.getElem?_set_self (by rw[dl_length _ _ _ (by omega)];exact h)
theorem dl_zero(ns:List Nd)(n k:Nat)(h:k<n):(dl ns n k).set k 0=dl ns n k:=by
 apply List.ext_getElem?
 intro i
 by_cases e:k=i
 ·subst e
  rw[dl_mid _ _ _ h]
  unfold dl
  rw[List.getElem?_append_right (by rw[depTo_length];exact Nat.le_refl _),depTo_length,Nat.sub_self,List.getElem?_replicate,if_pos (by omega)]
 ·rw[List.getElem?_set_ne e]
theorem dl_next(ns:List Nd)(n k:Nat)(h:k<n):(dl ns n k).set k (dep ns k)=dl ns n (k+1):=by
 unfold dl
 rw[List.set_append_right _ _ (by rw[depTo_length];exact Nat.le_refl _),depTo_length,Nat.sub_self,show n-k=(n-(k+1))+1 by omega,List.replicate_succ,List.set_cons_zero,depTo]
 simp[dep]
structure FrA(wi w:World)(s g len cap b6:Nat)(n:Nd)(ka:Option Addr)(kc:Nat)(v:Value)(L:List Int):Prop where
 ba:wi.cell? ⟨w.heap.size,0,none⟩=some (.slice (some ⟨g,0,none⟩) len cap)
 n0:wi.cell? ⟨b6,0,none⟩=some (.int .i64 n.K)
 n1:wi.cell? ⟨b6,1,none⟩=some (.int .i64 n.N)
 n2:wi.cell? ⟨b6,2,none⟩=some (.int .i64 n.M)
 n3:wi.cell? ⟨b6,3,none⟩=some (.string n.S)
 n4:wi.cell? ⟨b6,4,none⟩=some (.string n.T)
 n5:wi.cell? ⟨b6,5,none⟩=some (.slice ka n.Kids.length kc)
 sz:b6<wi.heap.size
 sa:w.heap.size<wi.heap.size
 own:wi.ownsRow s 3 1 v L.length (vInts L)
 below:Below w.heap.size w wi
theorem own_below{w w1:World}{s n:Nat}{v:Value}{xs:List Value}{t:TypeId}(h:w.ownsRow s t 1 v n xs)(hb:Below w.heap.size w w1):w1.ownsRow s t 1 v n xs:=by
 refine⟨h.1,?_⟩
 rcases h.2 with h1 | ⟨g',cap',cur,h1,h2,h3,h4⟩
 ·exact Or.inl h1
 ·exact Or.inr ⟨g',cap',cur,h1,h2,by rw[hb.block g' (Array.getElem?_eq_some_iff.1 h3).1];exact h3,h4⟩
theorem own_lt{w:World}{s n:Nat}{v:Value}{xs:List Value}{t:TypeId}(h:w.ownsRow s t 1 v n xs): ∀b,v.ownBlock=some b->s<=b/\b<w.heap.size:=by
 intro b hb
 rcases h.2 with⟨h1,_⟩ | ⟨g',cap',cur,h1,h2,h3,h4⟩
 ·subst h1;simp[Value.ownBlock]at hb
 ·subst h1
  simp[Value.ownBlock]at hb
  subst hb
  exact⟨h2,(Array.getElem?_eq_some_iff.1 h3).1⟩
theorem FrA.of{wi w w1:World}{s g len cap b6:Nat}{n:Nd}{ka:Option Addr}{kc:Nat}{v:Value}{L:List Int}(h:FrA wi w s g len cap b6 n ka kc v L)(hb:Below wi.heap.size wi w1):FrA w1 w s g len cap b6 n ka kc v L:=
 ⟨(hb.cell (p:=⟨w.heap.size,0,none⟩) h.sa).trans h.ba,(hb.cell (p:=⟨b6,0,none⟩) h.sz).trans h.n0,(hb.cell (p:=⟨b6,1,none⟩) h.sz).trans h.n1,(hb.cell (p:=⟨b6,2,none⟩) h.sz).trans h.n2,
  (hb.cell (p:=⟨b6,3,none⟩) h.sz).trans h.n3,(hb.cell (p:=⟨b6,4,none⟩) h.sz).trans h.n4,(hb.cell (p:=⟨b6,5,none⟩) h.sz).trans h.n5,Nat.lt_of_lt_of_le h.sz hb.size,Nat.lt_of_lt_of_le h.sa hb.size,own_below h.own hb,bT h.below hb⟩
theorem FrA.set{wi w:World}{s g len cap b6:Nat}{n:Nd}{ka:Option Addr}{kc:Nat}{v:Value}{L:List Int}(h:FrA wi w s g len cap b6 n ka kc v L){X O:Nat}(h1:w.heap.size<X)(h2:X≠b6)(h3:v.ownBlock≠some X)(u:Value):
  FrA (wi.setCell ⟨X,O,none⟩ u) w s g len cap b6 n ka kc v L:=
 ⟨by rw[setCell_farN (by omega)];exact h.ba,by rw[setCell_farN h2];exact h.n0,by rw[setCell_farN h2];exact h.n1,by rw[setCell_farN h2];exact h.n2,by rw[setCell_farN h2];exact h.n3,
  by rw[setCell_farN h2];exact h.n4,by rw[setCell_farN h2];exact h.n5,by simpa using h.sz,by simpa using h.sa,ownsRow_setCell_other h.own h3 u,h.below.setCell (Nat.le_of_lt h1) u⟩
theorem iv_step{ns:List Nd}(h:IV ns){k:Nat}(hk:k<ns.length){L:List Int}(hs:Seg ns 0 k L):
  Flds ns[k]/\(ns[k]).Kids.length<=L.length/\(ns[k]).Kids=L.drop (L.length-(ns[k]).Kids.length)/\dep ns k<=200/\KidsI (ns[k]).K (ns[k]).N (kindsOf ns (ns[k]).Kids):=by
 obtain⟨h1,h2⟩:=h.fit k ns[k] (List.getElem?_eq_getElem hk)
 obtain⟨L',hL'⟩:=h.seg.prefix (k+1) (by omega) (by omega)
 obtain⟨h3,h4⟩:=hs.stuck hL'
 rw[kidsAt_some (List.getElem?_eq_getElem hk)]at h3 h4
 exact⟨h1,h3,h4.symm,h.deep k hk,h2⟩
theorem iv_end{ns:List Nd}{L:List Int}(h1:1<=ns.length)(h2:ns.length<=10000)(hs:Seg ns 0 ns.length L)(hf: ∀(i:Nat) (hi:i<ns.length),FitI ns[i] (kindsOf ns (ns[i]).Kids))(hd: ∀i,i<ns.length->dep ns i<=200):
  IV ns↔(L.length=1/\quB (kindAt ns (ns.length-1))=true):=by
 constructor
 ·intro h
  have:=hs.uniqK _ h.seg
  exact⟨by rw[<-this];rfl,h.top⟩
 ·intro⟨h3,h4⟩
  refine⟨h1,h2,?_,fun i n hn=> ?_,hd,h4⟩
  ·obtain⟨A,hA⟩:=Seg.last (k:=ns.length-1) (by rw[show ns.length-1+1=ns.length by omega];exact hs)
   have:A=[]:=by
    rw[hA]at h3
    simp at h3
    exact h3
   rw[hA,this]at hs
   exact hs
  ·obtain⟨hi,rfl⟩:=List.getElem?_eq_some_iff.1 hn
   exact hf i hi
end Go.Proofs.YtmggnimiioepeaaGreatDoor.AX
namespace Go.Proofs.YtmggnimiioepeaaGreatDoor.AX
open Go Go.RowKit
theorem take_ne{xs ys:List Int}{k:Nat}(h1:k<xs.length)(h2:k<ys.length)(h:xs[k]≠ys[k]):xs≠ys:=fun e=>by subst e;exact h rfl
theorem eq_of_takes{xs ys:List Int}(hl:xs.length=ys.length)(h:xs.take xs.length=ys.take xs.length):xs=ys:=by
 rw[List.take_length,hl,List.take_length]at h;exact h
set_option maxHeartbeats 1000000 in
theorem slicesEq_calls(xs ys:List Int)(ka:Option Addr)(cap:Nat)(a2:Option Addr)(cap2:Nat)(w:World)(hx:KIx w ka xs)
  (hy:ys=[]\/ ∃g2 off,a2=some ⟨g2,off,none⟩/\g2<w.heap.size/\IntsAt w g2 off ys) (hl:xs.length<=1048576):
  Calls Tryz.prog 44 #[.slice ka xs.length cap,.slice a2 ys.length cap2] w fun e w'=>e= .returned (.bool (decide (xs=ys)))/\Below w.heap.size w w':=by
 cases hne:((xs.length:Int) !=(ys.length:Int))
 ·have hle:xs.length=ys.length:=by simp at hne;omega
  have HL:=hide hle
  have HY:=hide hy
  clear hy hle
  go_enter Tryz.func44,Tryz.ntmps44
  go_wp2
  go_loopw [5,13] (fun _ c wr=> ∃k:Nat,k<=xs.length/\c= .int .i64 k/\xs.take k=ys.take k/\Below w.heap.size w wr) (fun _ c _=>xs.length-(intOf c).toNat)
  case atStart=>exact⟨0,Nat.zero_le _,rfl,rfl,Below.refl _ _⟩
  case round=>
   obtain⟨k,hk,rfl,ht,hb⟩:=hrel
   have HT:=hide ht
   clear ht
   by_cases hlt:k<xs.length
   ·have hlt2:k<ys.length:=by have:=unhide HL;omega
    obtain⟨g2,off,rfl,hg2,hyr⟩: ∃g2 off,a2=some ⟨g2,off,none⟩/\g2<w.heap.size/\IntsAt w g2 off ys:=by
     rcases unhide HY with h | h
     ·subst h;simp at hlt2
     ·exact h
    obtain⟨g,rfl,q1,x0⟩:=(hx.of hb).at k hlt
    have y0:=(hyr.of hg2 hb).at k hlt2
    simp only[Nat.zero_add]at x0
    have j1:(k:Int)<(xs.length:Int):=by omega
    have j2:(k:Int)<(ys.length:Int):=by omega
    have q2:g2<wr.heap.size:=Nat.lt_of_lt_of_le hg2 hb.size
    have hnext:xs[k]=ys[k]->xs.take (k+1)=ys.take (k+1):=fun h=>by rw[take_snocN xs k hlt,take_snocN ys k hlt2,unhide HT,h]
    have hbad:xs[k]≠ys[k]->decide (xs=ys)=false:=fun h=>decide_eq_false (take_ne hlt hlt2 h)
    generalize xs[k]=x at*
    generalize ys[k]=y at*
    by_cases he:x=y
    ·have he':(x !=y)=false:=by simp[he]
     have HN:=hide (hnext he)
     clear hnext hbad he HT
     go_upto_region 6 with fail
     go_quiet (fail)
     go_wp2
     go_roundw
     case rel=>exact⟨k+1,by omega,by go_num,unhide HN,below_drewN hb _⟩
     case measure=>simp[intOf];omega
    ·have he':(x !=y)=true:=by simp[he]
     have HB:=hide (hbad he)
     clear hnext hbad he HT
     go_upto_region 6 with fail
     go_quiet (fail)
     go_wp2
     go_ret
     exact⟨congrArg (fun z=>Ending.returned (.bool z)) (unhide HB).symm,below_drewN hb _⟩
   ·obtain rfl:k=xs.length:=by omega
    have HE:Hid (decide (xs=ys)=true):=decide_eq_true (eq_of_takes (unhide HL) (unhide HT))
    clear HT
    go_wp2
    go_ret
    exact⟨congrArg (fun z=>Ending.returned (.bool z)) HE.out.symm,hb⟩
 ·have HE:Hid (decide (xs=ys)=false):=decide_eq_false (fun e=>by subst e;simp at hne)
  clear hy
  go_enter Tryz.func44,Tryz.ntmps44
  go_wp2
  go_ret
  exact⟨congrArg (fun z=>Ending.returned (.bool z)) HE.out.symm,Below.refl _ _⟩
end Go.Proofs.YtmggnimiioepeaaGreatDoor.AX
namespace Go.Proofs.YtmggnimiioepeaaGreatDoor
open Go Go.RowKit
theorem sliceI_low(ao:Option Addr)(n lc r:Nat)(hr:r<=n)(w:World):(Instr.slice 58 (.slice ao n lc) (some (.int .i64 (r:Int))) none none).run Tryz.prog w= .ok (.slice (if lc=r then ao else ao.map (·.add r)) (n-r) (lc-r)) w:=by
 have ht:Tryz.prog.underlying 58=some (.slice (Tryz.prog.elem 58)):=by kernel_rfl
 have hs: ∀w,(sizeOf (Tryz.prog.elem 58)).run Tryz.prog w= .ok 1 w:=fun _=>by kernel_rfl
 rw[run_slice_l _ _ _ _ _ ht .i64 r (by omega) (by omega),hs]
 simp[Result.andThen,sliced]
theorem sliceI_high(ao:Option Addr)(n lc r:Nat)(hr:r<=lc)(w:World):(Instr.slice 58 (.slice ao n lc) none (some (.int .i64 (r:Int))) none).run Tryz.prog w= .ok (.slice ao r lc) w:=by
 have ht:Tryz.prog.underlying 58=some (.slice (Tryz.prog.elem 58)):=by kernel_rfl
 have hs: ∀w,(sizeOf (Tryz.prog.elem 58)).run Tryz.prog w= .ok 1 w:=fun _=>by kernel_rfl
 rw[run_slice_h _ _ _ _ _ ht .i64 r (by omega) (by omega),hs]
 cases ao with
 | none=>simp[Result.andThen,sliced]
 | some a=>simp[Result.andThen,sliced,Addr.add]
theorem own_cut{w:World}{s lc r:Nat}{ao:Option Addr}{L:List Int}(h:w.ownsRow s 3 1 (.slice ao L.length lc) L.length (vInts L))(hr:r<=L.length):w.ownsRow s 3 1 (.slice ao r lc) r (vInts (L.take r)):=by
 refine⟨by simp[vInts];omega,?_⟩
 rcases h.2 with⟨h1,h0⟩ | ⟨g',cap',cur,h1,h2,h3,h4,h5,h6,h7⟩
 ·simp only[Value.slice.injEq]at h1
  obtain⟨rfl,_,rfl⟩:=h1
  obtain rfl:r=0:=by omega
  exact Or.inl ⟨rfl,rfl⟩
 ·simp only[Value.slice.injEq,true_and]at h1
  obtain⟨rfl,rfl⟩:=h1
  refine Or.inr ⟨g',lc,cur,rfl,h2,h3,by omega,h5,h6,?_⟩
  rw[vInts_take,<-h7,List.take_take,Nat.min_eq_left (by omega),Nat.mul_one]
theorem own_cap{w:World}{s lc:Nat}{ao:Option Addr}{L:List Int}(h:w.ownsRow s 3 1 (.slice ao L.length lc) L.length (vInts L)):L.length<=lc:=by
 rcases h.2 with⟨h1,h0⟩ | ⟨g',cap',cur,h1,h2,h3,h4,h5,h6,h7⟩
 ·omega
 ·simp only[Value.slice.injEq,true_and]at h1
  obtain⟨rfl,rfl⟩:=h1
  exact h4
theorem own_drop{w:World}{s lc r:Nat}{ao:Option Addr}{L:List Int}(h:w.ownsRow s 3 1 (.slice ao L.length lc) L.length (vInts L))(_:r<=L.length):
  L.drop r=[]\/ ∃g2 off,(if lc=r then ao else ao.map (·.add r))=some ⟨g2,off,none⟩/\g2<w.heap.size/\IntsAt w g2 off (L.drop r):=by
 by_cases hl:L.length<=r
 ·exact Or.inl (List.drop_eq_nil_of_le hl)
 ·right
  rcases h.2 with⟨h1,h0⟩ | ⟨g',cap',cur,h1,h2,h3,h4,h5,h6,h7⟩
  ·omega
  ·have h':=h
   simp only[Value.slice.injEq,true_and]at h1
   obtain⟨rfl,rfl⟩:=h1
   refine⟨g',r,?_,(Array.getElem?_eq_some_iff.1 h3).1,?_⟩
   ·rw[if_neg (by omega)];simp[Addr.add];omega
   ·have hrow:=OwnI.row (w:=w) (B:=s) (g:=g') (cap:=lc) (xs:=L) h'
    intro i x hx
    rw[List.getElem?_drop]at hx
    have:=hrow (r+i) x hx
    simpa using this
end Go.Proofs.YtmggnimiioepeaaGreatDoor
namespace Go.Proofs.YtmggnimiioepeaaGreatDoor
open Go Go.RowKit
set_option maxHeartbeats 1000000 in
theorem isName_calls(s:ByteArray)(w:World)(hs:s.size<=1048576)(hT:TKw w):Calls Tryz.prog 92 #[.string s] w fun e w'=>e= .returned (.bool (dB (NameB s)))/\w'=w:=by
 have LC:=fun w=>isLetter_calls (byt s 0) w
 have SC:=fun w=>spanLen_calls s w hs
 have KC:=isKeyword_calls s w hT
 have HN:Hid (NameB s↔(s.toList≠[]/\s.size<=64/\letter (byt s 0)=true/\spn s=s.size/\decide (s.toList∈kws)=false)):=by
  show _↔_
  rw[name_iff,decide_eq_false_iff_not]
 clear hT
 generalize decide (s.toList∈kws)=k at*
 cases he:(s.toList==([]:List UInt8))
 ·have hne:s.toList≠[]:=beq_eq_false_iff_ne.1 he
  have hpos:0<s.size:=by rw[<-size_toList];exact List.length_pos_iff.2 hne
  have HNe:=hide hne
  clear hne
  by_cases h64:(s.size:Int)<=64
  ·have eb:=byt_eq s 0 hpos
   have j0:(0:Int)<(s.size:Int):=by omega
   have hsp:=spn_le s
   generalize byt s 0=c at*
   generalize letter c=l at*
   generalize spn s=m at*
   cases l
   ·have HE:Hid (dB (NameB s)=false):=dB_false (fun h=>by have:=(HN.out.1 h).2.2.1;cases this)
    have HL:=hide LC;have HS:=hide SC;have HKC:=hide KC
    clear LC SC KC HN
    go_enter Tryz.func92,Tryz.ntmps92
    go_wp2_with fail
    refine(unhide HL _).mono ?_;rintro e w1 ⟨rfl,rfl⟩
    go_wp2
    go_ret
    exact⟨congrArg (fun z=>Ending.returned (.bool z)) HE.out.symm,rfl⟩
   ·by_cases hm:m=s.size
    ·have hm':((m:Int)==(s.size:Int))=true:=by simp[hm]
     have HM:=hide hm
     clear hm
     cases k
     ·have HE:Hid (dB (NameB s)=true):=dB_true (HN.out.2 ⟨unhide HNe,by omega,rfl,unhide HM,rfl⟩)
      clear HM
      have HL:=hide LC;have HS:=hide SC;have HKC:=hide KC
      clear LC SC KC HN
      go_enter Tryz.func92,Tryz.ntmps92
      go_wp2_with fail
      refine(unhide HL _).mono ?_;rintro e w1 ⟨rfl,rfl⟩
      go_wp2_with fail
      refine(unhide HS _).mono ?_;rintro e w1 ⟨rfl,rfl⟩
      go_wp2_with fail
      refine(unhide HKC).mono ?_;rintro e w1 ⟨rfl,rfl⟩
      go_wp2
      go_ret
      exact⟨congrArg (fun z=>Ending.returned (.bool z)) HE.out.symm,rfl⟩
     ·have HE:Hid (dB (NameB s)=false):=dB_false (fun h=>by have:=(HN.out.1 h).2.2.2.2;cases this)
      clear HM
      have HL:=hide LC;have HS:=hide SC;have HKC:=hide KC
      clear LC SC KC HN
      go_enter Tryz.func92,Tryz.ntmps92
      go_wp2_with fail
      refine(unhide HL _).mono ?_;rintro e w1 ⟨rfl,rfl⟩
      go_wp2_with fail
      refine(unhide HS _).mono ?_;rintro e w1 ⟨rfl,rfl⟩
      go_wp2_with fail
      refine(unhide HKC).mono ?_;rintro e w1 ⟨rfl,rfl⟩
      go_wp2
      go_ret
      exact⟨congrArg (fun z=>Ending.returned (.bool z)) HE.out.symm,rfl⟩
    ·have hm':((m:Int)==(s.size:Int))=false:=by simp;omega
     have HE:Hid (dB (NameB s)=false):=dB_false (fun h=>hm (HN.out.1 h).2.2.2.1)
     clear hm
     have HL:=hide LC;have HS:=hide SC;have HKC:=hide KC
     clear LC SC KC HN
     go_enter Tryz.func92,Tryz.ntmps92
     go_wp2_with fail
     refine(unhide HL _).mono ?_;rintro e w1 ⟨rfl,rfl⟩
     go_wp2_with fail
     refine(unhide HS _).mono ?_;rintro e w1 ⟨rfl,rfl⟩
     go_wp2
     go_ret
     exact⟨congrArg (fun z=>Ending.returned (.bool z)) HE.out.symm,rfl⟩
  ·have HE:Hid (dB (NameB s)=false):=dB_false (fun h=>by have:=(HN.out.1 h).2.1;omega)
   have HL:=hide LC;have HS:=hide SC;have HKC:=hide KC
   clear LC SC KC HN
   go_enter Tryz.func92,Tryz.ntmps92
   go_wp2
   go_ret
   exact⟨congrArg (fun z=>Ending.returned (.bool z)) HE.out.symm,rfl⟩
 ·have HE:Hid (dB (NameB s)=false):=dB_false (fun h=>(HN.out.1 h).1 (by simpa using he))
  have HL:=hide LC;have HS:=hide SC;have HKC:=hide KC
  clear LC SC KC HN
  go_enter Tryz.func92,Tryz.ntmps92
  go_wp2
  go_ret
  exact⟨congrArg (fun z=>Ending.returned (.bool z)) HE.out.symm,rfl⟩
theorem nameFits_calls(s:ByteArray)(u:Bool)(w:World)(hs:s.size<=1048576)(hT:TKw w):Calls Tryz.prog 72 #[.string s,.bool u] w fun e w'=>e= .returned (.bool (dB (NameFits s u)))/\w'=w:=by
 cases u
 ·have HE:Hid (dB (NameFits s false)=s.toList.isEmpty):=by
   show _=_
   rw[Bool.eq_iff_iff,dB_iff]
   simp[NameFits]
  clear hT
  go_enter Tryz.func72,Tryz.ntmps72
  go_wp2
  go_ret
  exact⟨congrArg (fun z=>Ending.returned (.bool z)) HE.out.symm,rfl⟩
 ·have HE:Hid (dB (NameFits s true)=dB (NameB s)):=by show _=_;exact dB_congr (by simp[NameFits])
  have H:=hide (isName_calls s w hs hT)
  clear hT
  go_enter Tryz.func72,Tryz.ntmps72
  go_wp2_with fail
  refine(unhide H).mono ?_;rintro e w1 ⟨rfl,rfl⟩
  go_wp2
  go_ret
  exact⟨congrArg (fun z=>Ending.returned (.bool z)) HE.out.symm,rfl⟩
end Go.Proofs.YtmggnimiioepeaaGreatDoor
