import Derived.Test.YtmggnimiioepeaaGreatDoorQ0
import Derived.Test.YtmggnimiioepeaaGreatDoorQ2
import Derived.Test.YtmggnimiioepeaaGreatDoorQ15
import Derived.Test.YtmggnimiioepeaaGreatDoorQ1
import Derived.Test.YtmggnimiioepeaaGreatDoorQ3
import Derived.Test.YtmggnimiioepeaaGreatDoorQ6
import Derived.Test.YtmggnimiioepeaaGreatDoorQ9
import Derived.Test.YtmggnimiioepeaaGreatDoorQ12
namespace Go.Proofs.YtmggnimiioepeaaGreatDoor.AX
open Go Go.RowKit
theorem mkS_add(P:Program)(w:World)(l:List UInt8)(c:UInt8)(h:l.length<=1048576):(Op.stringOp .add (mkS l) ⟨#[c]⟩).run P w= .ok (.string (mkS (l++[c]))) w:=by
 have:=run_string_add_lists (P:=P) w l [c] (by omega) (by simp)
 exact this
def KidsIn(ns:List Nd)(ks:List Int):Prop:= ∀x∈ks,0<=x/\x<(ns.length:Int)
theorem kindsOf_take(ns:List Nd)(ks:List Int)(k:Nat)(hk:k<ks.length):((kindsOf ns ks).map ltr).take (k+1)=((kindsOf ns ks).map ltr).take k++[ltr (kindAt ns (ks[k]).toNat)]:=by
 have hl:k<((kindsOf ns ks).map ltr).length:=by simp[kindsOf,hk]
 rw[take_snocN _ k hl]
 simp[kindsOf]
set_option maxHeartbeats 2000000 in
theorem kinds_calls(ns:List Nd)(g cap i:Nat)(w:World)(hg:g<w.heap.size)(hn:NodesAt w g 0 ns)(_:ns.length<=10000)(hi:i<ns.length)(hk:KidsIn ns (ns[i]).Kids)(hkl:(ns[i]).Kids.length<=10000):
  Calls Tryz.prog 57 #[.slice (some ⟨g,0,none⟩) ns.length cap,.int .i64 (i:Int)] w fun e w'=>e= .returned (.string (mkS ((kindsOf ns (ns[i]).Kids).map ltr)))/\w'=w:=by
 obtain⟨⟨_,_,_,_,_⟩,ka,kc,c5,hks⟩:=hn.at i hi
 generalize(ns[i]).Kids=ks at*
 have j0:(i:Int)<(ns.length:Int):=by omega
 have hlen:((kindsOf ns ks).map ltr).length=ks.length:=by simp[kindsOf]
 have htk:=kindsOf_take ns ks
 have HK:=hide hk;have HT:=hide htk;have HN:=hide hn;have HS:=hide hks;have HLn:=hide hlen
 clear hk htk hn hks hlen
 simp only[Nat.zero_add]at c5
 go_enter Tryz.func57,Tryz.ntmps57
 go_wp2
 go_loopw [5,6,7] (fun o c _ wr=> ∃k:Nat,k<=ks.length/\c= .int .i64 k/\o= .string (mkS (((kindsOf ns ks).map ltr).take k))/\wr=w) (fun _ c _ _=>ks.length-(intOf c).toNat)
 case atStart=>exact⟨0,Nat.zero_le _,rfl,rfl,rfl⟩
 case round=>
  obtain⟨k,hk,rfl,rfl,rfl⟩:=hrel
  by_cases hlt:k<ks.length
  ·have j1:(k:Int)<(ks.length:Int):=by omega
   obtain⟨kg,rfl,hkg,e0⟩:=(unhide HS).at k hlt
   obtain⟨p,hp⟩:=Int.eq_ofNat_of_zero_le ((unhide HK) ks[k] (List.getElem_mem hlt)).1
   have hpl:p<ns.length:=by have:=((unhide HK) ks[k] (List.getElem_mem hlt)).2;omega
   obtain⟨⟨d0,_,_,_,_⟩,_⟩:=(unhide HN).at p hpl
   have j2:(p:Int)<(ns.length:Int):=by omega
   have ht:=unhide HT k hlt
   rw[hp]at ht
   rw[show((p:Int)).toNat=p by simp,kindAt_some (List.getElem?_eq_getElem hpl)]at ht
   rw[hp]at e0
   simp only[Nat.zero_add]at e0 d0
   generalize(ns[p]).K=K at*
   have hll:(((kindsOf ns ks).map ltr).take k).length<=1048576:=by have:=unhide HLn;simp at this⊢;omega
   have SC:=fun w=>sIsScalar_calls K w
   have QC:=fun w=>sIsQuery_calls K w
   have A1:=fun w=>mkS_add Tryz.prog w (((kindsOf ns ks).map ltr).take k) 115 hll
   have A2:=fun w=>mkS_add Tryz.prog w (((kindsOf ns ks).map ltr).take k) 102 hll
   have A3:=fun w=>mkS_add Tryz.prog w (((kindsOf ns ks).map ltr).take k) 113 hll
   have A4:=fun w=>mkS_add Tryz.prog w (((kindsOf ns ks).map ltr).take k) 99 hll
   have HTk:=hide ht
   clear ht hll
   generalize((kindsOf ns ks).map ltr).take k=l at*
   have HL:Hid (ltr K=if scB K then 115 else if K=5 then 102 else if quB K then 113 else 99):=rfl
   generalize scB K=b1 at*
   generalize quB K=b2 at*
   have HSC:=hide SC;have HQC:=hide QC
   clear SC QC hp
   cases b1
   ·cases h5:(K==5)
    ·have h5': ¬K=5:=by simpa using h5
     cases b2
     ·have HX:Hid (mkS (l++[99])=mkS (((kindsOf ns ks).map ltr).take (k+1))):=by show _=_;rw[unhide HTk,HL.out];simp[h5']
      clear HL HTk h5'
      go_wp2_with fail
      refine(unhide HSC _).mono ?_;rintro e w1 ⟨rfl,rfl⟩
      go_wp2_with fail
      refine(unhide HQC _).mono ?_;rintro e w1 ⟨rfl,rfl⟩
      go_wp2
      go_roundw
      case rel=>exact⟨k+1,by omega,by go_num,by rw[<-HX.out],by first | rfl | trivial⟩
      case measure=>simp[intOf];omega
     ·have HX:Hid (mkS (l++[113])=mkS (((kindsOf ns ks).map ltr).take (k+1))):=by show _=_;rw[unhide HTk,HL.out];simp[h5']
      clear HL HTk h5'
      go_wp2_with fail
      refine(unhide HSC _).mono ?_;rintro e w1 ⟨rfl,rfl⟩
      go_wp2_with fail
      refine(unhide HQC _).mono ?_;rintro e w1 ⟨rfl,rfl⟩
      go_wp2
      go_roundw
      case rel=>exact⟨k+1,by omega,by go_num,by rw[<-HX.out],by first | rfl | trivial⟩
      case measure=>simp[intOf];omega
    ·have h5':K=5:=by simpa using h5
     have HX:Hid (mkS (l++[102])=mkS (((kindsOf ns ks).map ltr).take (k+1))):=by show _=_;rw[unhide HTk,HL.out];simp[h5']
     clear HL HTk h5'
     go_wp2_with fail
     refine(unhide HSC _).mono ?_;rintro e w1 ⟨rfl,rfl⟩
     go_wp2
     go_roundw
     case rel=>exact⟨k+1,by omega,by go_num,by rw[<-HX.out],by first | rfl | trivial⟩
     case measure=>simp[intOf];omega
   ·have HX:Hid (mkS (l++[115])=mkS (((kindsOf ns ks).map ltr).take (k+1))):=by show _=_;rw[unhide HTk,HL.out];simp
    clear HL HTk
    go_wp2_with fail
    refine(unhide HSC _).mono ?_;rintro e w1 ⟨rfl,rfl⟩
    go_wp2
    go_roundw
    case rel=>exact⟨k+1,by omega,by go_num,by rw[<-HX.out],by first | rfl | trivial⟩
    case measure=>simp[intOf];omega
  ·obtain rfl:k=ks.length:=by omega
   have HE:Hid (mkS (((kindsOf ns ks).map ltr).take ks.length)=mkS ((kindsOf ns ks).map ltr)):=by show _=_;rw[List.take_of_length_le (by rw[unhide HLn];exact Nat.le_refl _)]
   generalize mkS (((kindsOf ns ks).map ltr).take ks.length)=z at*
   go_wp2
   go_ret
   exact⟨congrArg (fun z=>Ending.returned (.string z)) HE.out,rfl⟩
end Go.Proofs.YtmggnimiioepeaaGreatDoor.AX
namespace Go.Proofs.YtmggnimiioepeaaGreatDoor.AX
open Go Go.RowKit
open Classical in
noncomputable def frm(ns:List Nd)(i:Nat):Int:=if h: ∃f,Seg ns f i (kidsAt ns i)then((Classical.choose h:Nat):Int)else-1
theorem frm_some{ns:List Nd}{f i:Nat}(h:Seg ns f i (kidsAt ns i)):frm ns i=(f:Int):=by
 unfold frm
 rw[dif_pos ⟨f,h⟩]
 have:=h.uniqL _ (Classical.choose_spec (⟨f,h⟩: ∃f,Seg ns f i (kidsAt ns i)))
 rw[this]
theorem frm_none{ns:List Nd}{i:Nat}(h: ∀f,¬Seg ns f i (kidsAt ns i)):frm ns i= -1:=by
 unfold frm
 rw[dif_neg (fun⟨f,hf⟩=>h f hf)]
theorem frm_cases(ns:List Nd)(i:Nat):(frm ns i= -1/\ ∀f,¬Seg ns f i (kidsAt ns i))\/ ∃f:Nat,frm ns i=(f:Int)/\Seg ns f i (kidsAt ns i):=by
 by_cases h: ∃f,Seg ns f i (kidsAt ns i)
 ·obtain⟨f,hf⟩:=h
  exact Or.inr ⟨f,frm_some hf,hf⟩
 ·have h': ∀f,¬Seg ns f i (kidsAt ns i):=fun f hf=>h ⟨f,hf⟩
  exact Or.inl ⟨frm_none h',h'⟩
theorem _root_.Go.Proofs.YtmggnimiioepeaaGreatDoor.Seg.mid{ns:List Nd}{f i a m:Nat}{ks:List Int}(h:Seg ns f i ks)(hm:m<ks.length)(ha:Seg ns a i (ks.drop (m+1))): ∃p c,a=p+1/\ks[m]=(p:Int)/\Seg ns c p (kidsAt ns p):=by
 rw[<-List.take_append_drop (m+1) ks]at h
 obtain⟨c,h1,h2⟩:=h.split'
 obtain rfl:=ha.uniqL _ h2
 rw[take_snocN ks m hm]at h1
 obtain⟨p,c',e1,e2,_,h4⟩:=h1.inv
 exact⟨p,c',e1,e2,h4⟩
set_option maxHeartbeats 2000000 in
theorem from_calls(ns:List Nd)(g cap:Nat)(hb1:ns.length<=1048576)(hkb: ∀n∈ns,n.Kids.length<=1048576): ∀(n i:Nat),i<n->i<ns.length-> ∀(w:World),g<w.heap.size->NodesAt w g 0 ns->
  Calls Tryz.prog 31 #[.slice (some ⟨g,0,none⟩) ns.length cap,.int .i64 (i:Int)] w fun e w'=>e= .returned (.int .i64 (frm ns i))/\w'=w:=by
 intro n
 induction n with
 | zero=>intro i hi;omega
 | succ n ih=>
  intro i hin hi w hg hn
  obtain⟨_,ka,kc,c5,hks⟩:=hn.at i hi
  have hkl:(ns[i]).Kids.length<=1048576:=hkb _ (List.getElem_mem hi)
  have hka:kidsAt ns i=(ns[i]).Kids:=kidsAt_some (List.getElem?_eq_getElem hi)
  have IH:=fun(p:Nat) (hp:p<i)=>ih p (by omega) (by omega) w hg hn
  have HC:=hide (frm_cases ns i)
  have hsome:=fun(f:Nat) (h:Seg ns f i (ns[i]).Kids)=>frm_some (ns:=ns) (f:=f) (i:=i) (by rw[hka];exact h)
  have hnone:=fun(h: ∀f,¬Seg ns f i (ns[i]).Kids)=>frm_none (ns:=ns) (i:=i) (by rw[hka];exact h)
  generalize(ns[i]).Kids=ks at*
  have HI:=hide IH;have H1:=hide hsome;have H2:=hide hnone;have HS:=hide hks
  clear ih IH hsome hnone hks hn hka
  simp only[Nat.zero_add]at c5
  have j0:(i:Int)<(ns.length:Int):=by omega
  go_enter Tryz.func31,Tryz.ntmps31
  go_wp2
  go_loopw [5,7,8] (fun nx c _ wr=> ∃(m a:Nat) (nv cv:Int),m<=ks.length/\a<=i/\nx= .int .i64 nv/\c= .int .i64 cv/\nv=(a:Int)-1/\cv=(m:Int)-1/\Seg ns a i (ks.drop m)/\wr=w) (fun _ c _ _=>(intOf c+1).toNat)
  case atStart=>exact⟨ks.length,i,_,_,Nat.le_refl _,Nat.le_refl _,rfl,rfl,by omega,by omega,by rw[List.drop_length];exact Seg.nil i,rfl⟩
  case round=>
   obtain⟨m,a,nv,cv,hm,ha,rfl,rfl,hnv,hcv,hseg,rfl⟩:=hrel
   have HG:=hide hseg
   clear hseg
   have Hnv:=hide hnv;have Hcv:=hide hcv
   cases m with
   | zero=>
    have e0: ¬0<=cv:=by omega
    have HE:Hid (frm ns i=nv+1):=by
     show _=_
     rw[unhide H1 a (by simpa using unhide HG),hnv];omega
    clear hnv hcv
    have b1: -1<=nv:=by have:=unhide Hnv;omega
    have b2:nv<=1048576:=by have:=unhide Hnv;omega
    clear Hnv Hcv
    go_wp2
    go_ret
    exact⟨congrArg (fun z=>Ending.returned (.int .i64 z)) HE.out.symm,rfl⟩
   | succ m=>
    have hlt:m<ks.length:=by omega
    obtain rfl:cv=(m:Int):=by omega
    obtain⟨kg,rfl,hkg,x0⟩:=(unhide HS).at m hlt
    simp only[Nat.zero_add]at x0
    have hmid:=fun(f:Nat) (h:Seg ns f i ks)=>h.mid hlt (unhide HG)
    have hgo: ∀(p f:Nat),a=p+1->ks[m]=(p:Int)->Seg ns f p (kidsAt ns p)->Seg ns f i (ks.drop m):=fun p f h1 h2 h3=>by
     rw[List.drop_eq_getElem_cons hlt,h2]
     have:=h3.one.join (h1▸unhide HG)
     simpa using this
    have Hmid:=hide hmid;have Hgo:=hide hgo
    clear hmid hgo
    generalize ks[m]=x at*
    cases a with
    | zero=>
     have e1:nv<0:=by omega
     have HE:Hid (frm ns i= -1):=unhide H2 (fun f hf=>by obtain⟨p,c,e,_⟩:=unhide Hmid f hf;omega)
     clear hnv hcv
     go_wp2
     go_ret
     exact⟨congrArg (fun z=>Ending.returned (.int .i64 z)) HE.out.symm,rfl⟩
    | succ p=>
     obtain rfl:nv=(p:Int):=by omega
     have e1: ¬(p:Int)<0:=by omega
     by_cases hx:x=(p:Int)
     ·have hx':(x !=(p:Int))=false:=by simp[hx]
      have HX:=hide hx
      clear hx
      have IHp:=unhide HI p (by omega)
      rcases frm_cases ns p with⟨hf,hno⟩ | ⟨f,hf,hseg⟩
      ·rw[hf]at IHp
       have HIp:=hide IHp
       have HE:Hid (frm ns i= -1):=unhide H2 (fun f hf=>by
        obtain⟨p',c,e,_,hs⟩:=unhide Hmid f hf
        obtain rfl:p'=p:=by omega
        exact hno c hs)
       clear hnv hcv IHp hf hno
       go_wp2_with fail
       refine(unhide HIp).mono ?_;rintro e w1 ⟨rfl,rfl⟩
       go_wp2
       go_ret
       exact⟨congrArg (fun z=>Ending.returned (.int .i64 z)) HE.out.symm,rfl⟩
      ·rw[hf]at IHp
       have HIp:=hide IHp
       have hfp:f<=p:=hseg.le
       have HE:Hid (Seg ns f i (ks.drop m)):=unhide Hgo p f rfl (unhide HX) hseg
       clear hnv hcv IHp hf hseg
       go_wp2_with fail
       refine(unhide HIp).mono ?_;rintro e w1 ⟨rfl,rfl⟩
       go_wp2
       go_roundw
       case rel=>exact⟨m,f,_,_,by omega,by omega,rfl,rfl,by first | rfl | omega,by first | rfl | omega,HE.out,by first | rfl | trivial⟩
       case measure=>simp[intOf]
     ·have hx':(x !=(p:Int))=true:=by simp[hx]
      have HE:Hid (frm ns i= -1):=unhide H2 (fun f hf=>by
       obtain⟨p',c,e,e2,_⟩:=unhide Hmid f hf
       exact hx (by omega))
      clear hnv hcv hx
      go_wp2
      go_ret
      exact⟨congrArg (fun z=>Ending.returned (.int .i64 z)) HE.out.symm,rfl⟩
end Go.Proofs.YtmggnimiioepeaaGreatDoor.AX
namespace Go.Proofs.YtmggnimiioepeaaGreatDoor
open Go Go.RowKit
def vInts(xs:List Int):List Value:=xs.map fun x=> .int .i64 x
theorem vInts_append(a b:List Int):vInts (a++b)=vInts a++vInts b:=by simp[vInts]
theorem vInts_take(xs:List Int)(k:Nat):vInts (xs.take k)=(vInts xs).take k:=by simp[vInts,List.map_take]
def OwnI(w:World)(B g cap:Nat)(xs:List Int):Prop:=w.ownsRow B 3 1 (.slice (some ⟨g,0,none⟩) xs.length cap) xs.length (vInts xs)
theorem OwnI.lt{w:World}{B g cap:Nat}{xs:List Int}(h:OwnI w B g cap xs):g<w.heap.size/\B<=g/\xs.length<=cap/\cap<=maxLen:=by
 rcases h.2 with⟨h1,_⟩ | ⟨g',cap',cur,h1,h2,h3,h4,h5,_⟩
 ·simp at h1
 ·simp only[Value.slice.injEq,Option.some.injEq,Addr.mk.injEq,and_true,true_and]at h1
  obtain⟨rfl,rfl⟩:=h1
  exact⟨(Array.getElem?_eq_some_iff.1 h3).1,h2,h4,h5⟩
theorem OwnI.of{w w1:World}{B g cap:Nat}{xs:List Int}(h:OwnI w B g cap xs)(hb:Below w.heap.size w w1):OwnI w1 B g cap xs:=by
 have hl:=h.lt.1
 refine⟨h.1,?_⟩
 rcases h.2 with h1 | ⟨g',cap',cur,h1,h2,h3,h4⟩
 ·exact Or.inl h1
 ·have e:g'=g:=by
   simp only[Value.slice.injEq,Option.some.injEq,Addr.mk.injEq,and_true,true_and]at h1
   exact h1.1.symm
  exact Or.inr ⟨g',cap',cur,h1,h2,by rw[hb.block g' (by rw[e];exact hl)];exact h3,h4⟩
theorem OwnI.row{w:World}{B g cap:Nat}{xs:List Int}(h:OwnI w B g cap xs):IntsAt w g 0 xs:=by
 rcases h.2 with⟨h1,_⟩ | ⟨g',cap',cur,h1,h2,h3,h4,h5,h6,h7⟩
 ·simp at h1
 ·simp only[Value.slice.injEq,Option.some.injEq,Addr.mk.injEq,and_true,true_and]at h1
  obtain⟨rfl,rfl⟩:=h1
  intro i x hx
  have hi:=(List.getElem?_eq_some_iff.1 hx).1
  have e0:(vInts xs)[i]?=some (.int .i64 x):=by simp[vInts,hx]
  rw[<-h7]at e0
  rw[List.getElem?_take,if_pos (by omega)]at e0
  simp only[Nat.zero_add,World.cell?,h3]
  simpa using e0
end Go.Proofs.YtmggnimiioepeaaGreatDoor
namespace Go.Proofs.YtmggnimiioepeaaGreatDoor.AX
open Go Go.RowKit
def mostTo(ds ks:List Int)(k:Nat):Int:=most ds (ks.take k)
theorem mostTo_succ(ds ks:List Int)(k:Nat)(hk:k<ks.length):mostTo ds ks (k+1)=if mostTo ds ks k<ds.getD (ks[k]).toNat 0 then ds.getD (ks[k]).toNat 0 else mostTo ds ks k:=by
 unfold mostTo most
 rw[take_snocN ks k hk,List.foldl_append]
 rfl
theorem mostTo_nonneg(ds ks:List Int)(k:Nat):0<=mostTo ds ks k:=(foldmost (ds:=ds) (ks.take k) 0).1
theorem mostTo_le(ns:List Nd)(ks:List Int)(i k:Nat):mostTo (depTo ns i) ks k<=i:=most_le (by omega) (depTo_bound ns i) _ 0 (by omega)
def Ordered(ns:List Nd):Prop:= ∀i,i<ns.length-> ∀x∈kidsAt ns i,∃p:Nat,x=(p:Int)/\p<i
set_option maxHeartbeats 4000000 in
theorem depths_calls(ns:List Nd)(g cap:Nat)(w:World)(hg:g<w.heap.size)(hn:NodesAt w g 0 ns)(hb1:ns.length<=10000)(hkb: ∀n∈ns,n.Kids.length<=1048576)(hord:Ordered ns):
  Calls Tryz.prog 33 #[.slice (some ⟨g,0,none⟩) ns.length cap] w fun e w'=> ∃g' cap',e= .returned (.slice (some ⟨g',0,none⟩) ns.length cap')/\OwnI w' w.heap.size g' cap' (depTo ns ns.length)/\Below w.heap.size w w':=by
 have HN:=hide hn;have HK:=hide hkb;have HO:=hide hord
 clear hn hkb hord
 go_enter Tryz.func33,Tryz.ntmps33
 go_wp2
 go_loopw [3,4,5,6] (fun s c _ _ wr=> ∃k g' cap':Nat,k<=ns.length/\c= .int .i64 k/\s= .slice (some ⟨g',0,none⟩) k cap'/\OwnI wr w.heap.size g' cap' (depTo ns k)/\Below w.heap.size w wr) (fun _ c _ _ _=>ns.length-(intOf c).toNat)
 case atStart=>
  refine⟨0,w.heap.size,0,Nat.zero_le _,rfl,rfl,?_,?_⟩
  ·refine⟨rfl,Or.inr ⟨w.heap.size,0,#[],rfl,Nat.le_refl _,(MapKept.heap_alloc w _).1,Nat.le_refl _,Nat.zero_le _,rfl,rfl⟩⟩
  ·exact(Below.refl _ _).alloc (by simp) _
 case round=>
  obtain⟨k,g',cap',hk,rfl,rfl,hO,hb⟩:=hrel
  by_cases hlt:k<ns.length
  ·obtain⟨_,ka,kc,c5,hks⟩:=((unhide HN).of hg hb).at k hlt
   have hkl:(ns[k]).Kids.length<=1048576:=(unhide HK) _ (List.getElem_mem hlt)
   have hka:kidsAt ns k=(ns[k]).Kids:=kidsAt_some (List.getElem?_eq_getElem hlt)
   have hor:=unhide HO k hlt
   rw[hka]at hor
   have hdep:depTo ns (k+1)=depTo ns k++[most (depTo ns k) (ns[k]).Kids+1]:=by rw[depTo,hka]
   have hle:=fun ks j=>mostTo_le ns ks k j
   have hdl:=depTo_length ns k
   have hdb:=depTo_bound ns k
   generalize(ns[k]).Kids=ks at*
   clear hka
   have j1:(k:Int)<(ns.length:Int):=by omega
   have q1:g<wr.heap.size:=Nat.lt_of_lt_of_le hg hb.size
   have hrow:=hO.row
   have hOl:=hO.lt
   have HS:=hide hks;have HR:=hide hor;have HD:=hide hdep;have HOw:=hide hO;have HL:=hide hle;have HRow:=hide hrow;have HDL:=hide hdl;have HDB:=hide hdb
   clear hks hor hdep hO hle hrow hdl hdb
   simp only[Nat.zero_add]at c5
   rename World=>wo
   generalize hds:depTo ns k=ds at*
   go_wp2
   go_loopw [5,6] (fun d c wi=> ∃j:Nat,j<=ks.length/\c= .int .i64 j/\d= .int .i64 (mostTo ds ks j)/\wi=wo) (fun _ c _=>ks.length-(intOf c).toNat)
   case atStart=>exact⟨0,Nat.zero_le _,rfl,rfl,rfl⟩
   case round=>
    obtain⟨j,hj,rfl,rfl,rfl⟩:=hrel
    by_cases hjl:j<ks.length
    ·have j2:(j:Int)<(ks.length:Int):=by omega
     obtain⟨kg,rfl,hkg,e0⟩:=(unhide HS).at j hjl
     obtain⟨p,hp,hpk⟩:=unhide HR ks[j] (List.getElem_mem hjl)
     have hms:=mostTo_succ ds ks j hjl
     rw[hp]at e0 hms
     rw[show((p:Int)).toNat=p by simp]at hms
     have hpd:p<ds.length:=by rw[unhide HDL];exact hpk
     have d0:=(unhide HRow).at p hpd
     have hdv:ds.getD p 0=ds[p]:=by rw[List.getD_eq_getElem?_getD,List.getElem?_eq_getElem hpd];rfl
     rw[hdv]at hms
     simp only[Nat.zero_add]at e0 d0
     generalize ds[p]=dv at*
     have jp:(p:Int)<(k:Int):=by omega
     have HM:=hide hms
     clear hms hp hdv
     generalize mostTo ds ks j=mv at*
     by_cases hgt:mv<dv
     ·have HX:Hid (mostTo ds ks (j+1)=dv):=by show _=_;rw[unhide HM,if_pos hgt]
      clear HM
      go_wp2
      go_roundw
      case rel=>exact⟨j+1,by omega,by go_num,by rw[HX.out],by first | rfl | trivial⟩
      case measure=>simp[intOf];omega
     ·have HX:Hid (mostTo ds ks (j+1)=mv):=by show _=_;rw[unhide HM,if_neg hgt]
      clear HM
      go_wp2
      go_roundw
      case rel=>exact⟨j+1,by omega,by go_num,by rw[HX.out],by first | rfl | trivial⟩
      case measure=>simp[intOf];omega
    ·obtain rfl:j=ks.length:=by omega
     have hmx:mostTo ds ks ks.length=most ds ks:=by unfold mostTo;rw[List.take_length]
     have hml:=unhide HL ks ks.length
     rw[hmx]at hml
     have hm0:0<=most ds ks:=by rw[<-hmx];exact mostTo_nonneg ds ks _
     rw[hmx]
     generalize hmv:most ds ks=mv at*
     obtain⟨i,hi,hz⟩:=Option.map_eq_some_iff.1 (show(Tryz.prog.info? 3).map (fun i=>(i.zero,i.size,i.bytes))=some (some (.int .i64 0),1,8)by kernel_rfl)
     simp only[Prod.mk.injEq]at hz
     obtain⟨hz0,hz1,hz2⟩:=hz
     have HMV:=hide hmv
     have hsz:=hb.size
     have hlk:=unhide HDL
     have HO1:=hide ((unhide HOw).of (bA (Below.refl _ _) (.cells #[.int .i64 (mv+1)] 3)))
     have HLK:=hide hlk
     clear hmx hmv hlk HOw
     go_wp2_with (at_builtin;refine wpList_append_lies _ rfl (.tmp 48) (.tmp 51) 58 rfl w.heap.size 3 i _ 1 8 Tryz.underlying58 hi hz0 hz1 hz2 rfl (by decide) (.slice (some ⟨g',0,none⟩) k cap') k (vInts ds) rfl (by have:=unhide HO1;unfold OwnI at this;rw[unhide HLK]at this;exact this) ⟨wr.heap.size,0,none⟩ 1 1 [.int .i64 (mv+1)] rfl rfl (World.news_of_block (cs:= #[.int .i64 (mv+1)]) (MapKept.heap_alloc wr _).1) (by intro u hu;simp at hu;subst hu;rfl) (by decide) (by unfold maxLen;omega) (by omega) (by simp;omega) _ rfl ?_;intro g2 cap2 w2 hown2 hgrow hat hlt2)
     have HO2:Hid (OwnI w2 w.heap.size g2 cap2 (depTo ns (k+1))):=by
      show OwnI _ _ _ _ _
      unfold OwnI
      rw[unhide HD,vInts_append,show(ds++[mv+1]).length=k+1 by simp;exact unhide HLK]
      exact hown2
     have HB2:Hid (Below w.heap.size w w2):=(bA hb (.cells #[.int .i64 (mv+1)] 3)).grown hgrow (by simp;omega) (fun j hj=>by
      have:g'=j:=by simpa[Value.ownBlock]using hj
      omega)
     clear hown2 hgrow hat HLK HO1
     go_wp2
     go_roundw
     case rel=>exact⟨k+1,g2,cap2,by omega,by go_num,rfl,HO2.out,HB2.out⟩
     case measure=>simp[intOf];omega
  ·obtain rfl:k=ns.length:=by omega
   go_wp2
   go_ret
   exact⟨_,_,rfl,hO,hb⟩
end Go.Proofs.YtmggnimiioepeaaGreatDoor.AX
namespace Go.Proofs.YtmggnimiioepeaaGreatDoor.AX
open Go Go.RowKit
def Small(ns:List Nd):Prop:= ∀n∈ns,n.S.size<=1048576/\n.T.size<=1048576/\n.Kids.length<=1048576
theorem seg_whole{ns:List Nd}(h:1<=ns.length):Seg ns 0 ns.length [((ns.length-1:Nat):Int)]↔frm ns (ns.length-1)=0:=by
 constructor
 ·intro hs
  obtain⟨p,c,e1,e2,h1,h2⟩:=Seg.inv (ks:=[]) (by simpa using hs)
  obtain rfl:=h1.nil_inv
  obtain rfl:p=ns.length-1:=by omega
  exact frm_some h2
 ·intro hf
  rcases frm_cases ns (ns.length-1)with⟨h1,_⟩ | ⟨f,h1,h2⟩
  ·omega
  ·obtain rfl:f=0:=by omega
   have:=h2.one
   rwa [show ns.length-1+1=ns.length by omega]at this
theorem seg_ordered{ns:List Nd}(h:Seg ns 0 ns.length [((ns.length-1:Nat):Int)]):Ordered ns:=fun i hi x hx=>by
 obtain⟨c,hc⟩:=h.each i (by omega) hi
 obtain⟨p,e,_,hp⟩:=hc.kid x hx
 exact⟨p,e,hp⟩
theorem seg_kids{ns:List Nd}(h:Seg ns 0 ns.length [((ns.length-1:Nat):Int)])(hb:ns.length<=10000)(i:Nat)(hi:i<ns.length):KidsIn ns (ns[i]).Kids/\(ns[i]).Kids.length<=10000:=by
 obtain⟨c,hc⟩:=h.each i (by omega) hi
 rw[kidsAt_some (List.getElem?_eq_getElem hi)]at hc
 refine⟨fun x hx=> ?_,by have:=hc.len;omega⟩
 obtain⟨p,e,_,hp⟩:=hc.kid x hx
 omega
set_option maxHeartbeats 4000000 in
theorem sAstOk_of(ns:List Nd)(g cap:Nat)(w:World)(hg:g<w.heap.size)(hn:NodesAt w g 0 ns)(hb0:ns.length<=1048576)(hsm:Small ns)
  (hNC:ns.length<=10000->Seg ns 0 ns.length [((ns.length-1:Nat):Int)]-> ∀(i:Nat) (hi:i<ns.length) (W:World),Below w.heap.size w W->
   Calls Tryz.prog 32 #[.slice (some ⟨g,0,none⟩) ns.length cap,.int .i64 (i:Int)] W fun e w'=>e= .returned (.bool (dB (FitS ns[i] (kindsOf ns (ns[i]).Kids))))/\Below W.heap.size W w'):
  Calls Tryz.prog 12 #[.agg #[.slice (some ⟨g,0,none⟩) ns.length cap]] w fun e w'=>e= .returned (.bool (dB (SV ns)))/\Below w.heap.size w w':=by
 by_cases h1:(ns.length:Int)<1
 ·have HE:Hid (dB (SV ns)=false):=dB_false (fun h=>by have:=h.lo;omega)
  clear hn hsm hNC
  go_enter Tryz.func12,Tryz.ntmps12
  go_wp2
  go_ret
  exact⟨congrArg (fun z=>Ending.returned (.bool z)) HE.out.symm,bA (Below.refl _ _) _⟩
 by_cases h2:(10000:Int)<(ns.length:Int)
 ·have HE:Hid (dB (SV ns)=false):=dB_false (fun h=>by have:=h.hi;omega)
  clear hn hsm hNC
  go_enter Tryz.func12,Tryz.ntmps12
  go_wp2
  go_ret
  exact⟨congrArg (fun z=>Ending.returned (.bool z)) HE.out.symm,bA (Below.refl _ _) _⟩
 obtain⟨L,hL⟩: ∃L,ns.length=L+1:=⟨ns.length-1,by omega⟩
 have FC:=fun W (hb:Below w.heap.size w W)=>from_calls ns g cap hb0 (fun n hn=>(hsm n hn).2.2) ns.length L (by omega) (by omega) W (Nat.lt_of_lt_of_le hg hb.size) (hn.of hg hb)
 have hsw:=seg_whole (ns:=ns) (by omega)
 have hsL:ns.length-1=L:=by omega
 have hb1:ns.length<=10000:=by omega
 have hLb:L<=10000:=by omega
 cases h3:(frm ns L !=0)
 ·have hf:frm ns L=0:=by simpa using h3
  rw[hf]at FC
  have hseg:Seg ns 0 ns.length [((ns.length-1:Nat):Int)]:=hsw.2 (by rw[hsL];exact hf)
  have NC:=hNC hb1 hseg
  have DC:=fun W (hb:Below w.heap.size w W)=>depths_calls ns g cap W (Nat.lt_of_lt_of_le hg hb.size) (hn.of hg hb) hb1 (fun n hn=>(hsm n hn).2.2) (seg_ordered hseg)
  have hfit: ∀(i:Nat) (hi:i<ns.length),SV ns->FitS ns[i] (kindsOf ns (ns[i]).Kids):=fun i hi h=>h.fit i _ (List.getElem?_eq_getElem hi)
  have hall:(∀(i:Nat) (hi:i<ns.length),FitS ns[i] (kindsOf ns (ns[i]).Kids))->(SV ns↔(quB (kindAt ns L)=true/\dep ns L<=200)):=fun h=>by
   constructor
   ·intro hs;exact⟨by rw[<-hsL];exact hs.top,by rw[<-hsL];exact hs.deep⟩
   ·intro hs
    refine⟨by omega,hb1,hseg,fun i n hn=> ?_,by rw[hsL];exact hs.1,by rw[hsL];exact hs.2⟩
    obtain⟨hi,rfl⟩:=List.getElem?_eq_some_iff.1 hn
    exact h i hi
  have hdl:=depTo_length ns ns.length
  have hdg:=depTo_get ns ns.length L (by omega)
  have hkL: ∀h:L<ns.length,kindAt ns L=(ns[L]'h).K:=fun h=>kindAt_some (List.getElem?_eq_getElem h)
  have HFC:=hide FC;have HNC:=hide NC;have HDC:=hide DC;have HN:=hide hn;have HFit:=hide hfit;have HAll:=hide hall;have HDL:=hide hdl;have HDG:=hide hdg;have HKL:=hide hkL
  clear FC NC DC hn hsm hsw h3 hf hseg hfit hall hNC hdl hdg hkL hsL
  go_enter Tryz.func12,Tryz.ntmps12
  have e1:((ns.length:Int)-1)=(L:Int):=by omega
  have HL:=hide hL
  clear hL
  go_wp2_with fail
  refine(unhide HFC _ (bA (Below.refl _ _) _)).mono ?_;rintro e w1 ⟨rfl,rfl⟩
  go_wp2
  go_loopw [4] (fun c wr=> ∃k:Nat,k<=ns.length/\c= .int .i64 k/\(∀(i:Nat) (hi:i<ns.length),i<k->FitS ns[i] (kindsOf ns (ns[i]).Kids))/\Below w.heap.size w wr) (fun c _=>ns.length-(intOf c).toNat)
  case atStart=>exact⟨0,Nat.zero_le _,rfl,fun i hi h=>by omega,bA (Below.refl _ _) _⟩
  case round=>
   obtain⟨k,hk,rfl,hw,hb⟩:=hrel
   have HW:=hide hw
   clear hw
   by_cases hlt:k<ns.length
   ·have j1:(k:Int)<(ns.length:Int):=by omega
    have nc:=unhide HNC k hlt wr hb
    have hnext:FitS ns[k] (kindsOf ns (ns[k]).Kids)-> ∀(i:Nat) (hi:i<ns.length),i<k+1->FitS ns[i] (kindsOf ns (ns[i]).Kids):=fun h i hi hik=>by
     by_cases e:i=k
     ·subst e;exact h
     ·exact unhide HW i hi (by omega)
    have hbad: ¬FitS ns[k] (kindsOf ns (ns[k]).Kids)->dB (SV ns)=false:=fun h=>dB_false (fun hs=>h (unhide HFit k hlt hs))
    rcases Classical.em (FitS ns[k] (kindsOf ns (ns[k]).Kids))with hf | hf
    ·have hN:=hnext hf
     rw[dB_true hf]at nc
     have Hnc:=hide nc;have HNx:=hide hN
     clear nc hN hnext hbad hf
     go_wp2_with fail
     refine(unhide Hnc).mono ?_;rintro e w1 ⟨rfl,hb1⟩
     go_wp2
     go_roundw
     case rel=>exact⟨k+1,by omega,by go_num,unhide HNx,bT hb hb1⟩
     case measure=>simp[intOf];omega
    ·have hB:=hbad hf
     rw[dB_false hf]at nc
     have Hnc:=hide nc;have HB:=hide hB
     clear nc hB hnext hbad hf
     go_wp2_with fail
     refine(unhide Hnc).mono ?_;rintro e w1 ⟨rfl,hb1⟩
     go_wp2
     go_ret
     exact⟨congrArg (fun z=>Ending.returned (.bool z)) (unhide HB).symm,bT hb hb1⟩
   ·obtain rfl:k=ns.length:=by omega
    have hiff:=unhide HAll (fun i hi=>unhide HW i hi hi)
    go_wp2_with fail
    refine(unhide HDC wr hb).mono ?_;rintro e w1 ⟨g',cap',rfl,hO,hb1⟩
    have d1:=bT hb hb1
    have hLn:L<ns.length:=by have:=unhide HL;omega
    obtain⟨⟨c0,_,_,_,_⟩,_⟩:=((unhide HN).of hg d1).at L hLn
    have q1:g<w1.heap.size:=Nat.lt_of_lt_of_le hg d1.size
    have hdL:L<(depTo ns ns.length).length:=by rw[unhide HDL];exact hLn
    have x0:=hO.row.at L hdL
    have hv:(depTo ns ns.length)[L]=dep ns L:=by
     have:=unhide HDG
     rw[List.getD_eq_getElem?_getD,List.getElem?_eq_getElem hdL]at this
     exact this
    rw[hv]at x0
    simp only[Nat.zero_add]at c0 x0
    rw[<-unhide HKL hLn]at c0
    have QC:=fun w=>sIsQuery_calls (kindAt ns L) w
    have hOl:=hO.lt
    generalize kindAt ns L=K at*
    generalize dep ns L=dv at*
    generalize quB K=b at*
    have HQ:=hide QC;have HI:=hide hiff
    have jL:(L:Int)<(ns.length:Int):=by omega
    clear QC hiff hO hv
    cases b
    ·have HE:Hid (dB (SV ns)=false):=dB_false (fun h=>by have:=((unhide HI).1 h).1;cases this)
     clear HI
     go_wp2_with fail
     refine(unhide HQ _).mono ?_;rintro e w2 ⟨rfl,rfl⟩
     go_wp2
     go_ret
     exact⟨congrArg (fun z=>Ending.returned (.bool z)) HE.out.symm,d1⟩
    ·have HE:Hid (dB (SV ns)=decide (dv<=200)):=by
      show _=_
      rw[Bool.eq_iff_iff,dB_iff,decide_eq_true_eq]
      exact⟨fun h=>((unhide HI).1 h).2,fun h=>(unhide HI).2 ⟨rfl,h⟩⟩
     clear HI
     go_wp2_with fail
     refine(unhide HQ _).mono ?_;rintro e w2 ⟨rfl,rfl⟩
     go_wp2
     go_ret
     exact⟨congrArg (fun z=>Ending.returned (.bool z)) HE.out.symm,d1⟩
 ·have hf:frm ns L≠0:=by simpa using h3
  have HE:Hid (dB (SV ns)=false):=dB_false (fun h=>hf (by have:=hsw.1 h.seg;rw[hsL]at this;exact this))
  generalize frm ns L=z at*
  have HFC:=hide FC
  have HL:=hide hL
  have e1:((ns.length:Int)-1)=(L:Int):=by omega
  clear FC hn hsm hsw hNC hf hL hsL
  go_enter Tryz.func12,Tryz.ntmps12
  go_wp2_with fail
  refine(unhide HFC _ (bA (Below.refl _ _) _)).mono ?_;rintro e w1 ⟨rfl,rfl⟩
  go_wp2
  go_ret
  exact⟨congrArg (fun z=>Ending.returned (.bool z)) HE.out.symm,bA (Below.refl _ _) _⟩
end Go.Proofs.YtmggnimiioepeaaGreatDoor.AX
namespace Go.Proofs.YtmggnimiioepeaaGreatDoor.Pa
open Go Go.RowKit
theorem cNv_at: ∀(qs:List Nv) (i:Nat) (q:Nv),qs[i]?=some q-> ∀j,j<6->(qs.flatMap cNv)[i*6+j]?=(cNv q)[j]?
 | [],i,q,h=>by simp at h
 | p::qs,0,q,h=>fun j hj=>by
  simp at h
  subst h
  rw[List.flatMap_cons,Nat.zero_mul,Nat.zero_add,List.getElem?_append_left (by show j<6;omega)]
 | p::qs,i+1,q,h=>fun j hj=>by
  have hl:(cNv p).length=6:=rfl
  have:=cNv_at qs i q (by simpa using h) j hj
  rw[List.flatMap_cons,List.getElem?_append_right (by omega),show(i+1)*6+j-(cNv p).length=i*6+j by omega]
  exact this
theorem KO.kix{B:Nat}{W:World}{ka:Option Addr}{kc:Nat}{xs:List Int}(h:W.ownsRow B 3 1 (.slice ka xs.length kc) xs.length (iV xs)):AX.KIx W ka xs:=fun i x hx=>by
 have hi:=(List.getElem?_eq_some_iff.1 hx).1
 rcases h.2 with⟨_,e2⟩ | ⟨G,cap,cur,e1,e2,e3,e4⟩
 ·omega
 ·simp only[Value.slice.injEq]at e1
  obtain⟨rfl,_,rfl⟩:=e1
  refine⟨G,rfl,(Array.getElem?_eq_some_iff.1 e3).1,?_⟩
  rw[Nat.zero_add,h.cellAt i (by omega)]
  simp[iV,hx]
theorem NS.nodes{B:Nat}{W:World}{lab:Lbl}{na:Option Addr}{nc:Nat}{ns:List Nd}(h:NS B W lab na nc ns)(hn:ns≠[]): ∃g,na=some ⟨g,0,none⟩/\B<=g/\g<W.heap.size/\AX.NodesAt W g 0 ns:=by
 obtain⟨qs,e,ho,hk⟩:=h.ex
 have hlt:=h.lt
 rcases ho.2 with⟨_,e2⟩ | ⟨G,cap,cur,e1,e2,e3,e4⟩
 ·exact absurd (List.eq_nil_of_length_eq_zero e2) hn
 ·simp only[Value.slice.injEq]at e1
  obtain⟨rfl,_,rfl⟩:=e1
  refine⟨G,rfl,(hlt G rfl).1,(hlt G rfl).2,fun i n hi=> ?_⟩
  have hil:=(List.getElem?_eq_some_iff.1 hi).1
  rw[<-e]at hi
  simp only[List.getElem?_map,Option.map_eq_some_iff]at hi
  obtain⟨q,hq,rfl⟩:=hi
  have hc: ∀j,j<6->W.cell? ⟨G,0+i*6+j,none⟩=(cNv q)[j]?:=fun j hj=>by
   rw[Nat.zero_add,ho.cellAt (i*6+j) (by omega)]
   exact cNv_at qs i q hq j hj
  refine⟨⟨hc 0 (by omega),hc 1 (by omega),hc 2 (by omega),hc 3 (by omega),hc 4 (by omega)⟩,q.ka,q.kc,hc 5 (by omega),KO.kix (hk i q hq).1⟩
noncomputable def parF(s:ByteArray):List Nd×Int:=
 if 20000<s.size then([],1)else
 match lex s 0 with
 | none=>([],2)
 | some L=>if 400<(brks (tks L)).2.1 then([],3)else
  match iP (8*L.length+3) .query (tks L)with
  | some ([t],[])=>if dB (IV (lay t 0))=true then(lay t 0,0)else([],5)
  | _=>([],4)
section
variable {s:ByteArray}{L:List (Tok×ByteArray)}{t:Rt}
theorem par_1(h:20000<s.size):parF s=([],1):=if_pos h
theorem par_2(h: ¬20000<s.size)(h2:lex s 0=none):parF s=([],2):=by unfold parF;rw[if_neg h,h2]
theorem par_L(h: ¬20000<s.size)(h2:lex s 0=some L):parF s=(if 400<(brks (tks L)).2.1 then(([],3):List Nd×Int)else match iP (8*L.length+3) .query (tks L)with | some ([t],[])=>if dB (IV (lay t 0))=true then(lay t 0,0)else([],5) | _=>([],4)):=by unfold parF;rw[if_neg h,h2]
theorem par_3(h: ¬20000<s.size)(h2:lex s 0=some L)(h3:400<(brks (tks L)).2.1):parF s=([],3):=by rw[par_L h h2,if_pos h3]
theorem par_4(h: ¬20000<s.size)(h2:lex s 0=some L)(h3: ¬400<(brks (tks L)).2.1)(h4: ∀t,iP (8*L.length+3) .query (tks L)≠some ([t],[])):parF s=([],4):=by
 rw[par_L h h2,if_neg h3]
 split
 ·rename_i t e;exact absurd e (h4 t)
 ·rfl
theorem par_5(h: ¬20000<s.size)(h2:lex s 0=some L)(h3: ¬400<(brks (tks L)).2.1)(h4:iP (8*L.length+3) .query (tks L)=some ([t],[]))(h5: ¬IV (lay t 0)):parF s=([],5):=by
 rw[par_L h h2,if_neg h3,h4]
 simp only[]
 rw[if_neg (by rw[dB_false h5];simp)]
theorem par_0(h: ¬20000<s.size)(h2:lex s 0=some L)(h3: ¬400<(brks (tks L)).2.1)(h4:iP (8*L.length+3) .query (tks L)=some ([t],[]))(h5:IV (lay t 0)):parF s=(lay t 0,0):=by
 rw[par_L h h2,if_neg h3,h4]
 simp only[]
 rw[if_pos (dB_true h5)]
theorem tks_len(L:List (Tok×ByteArray)):(tks L).length=L.length:=by simp
theorem G.ofI(h4:iP (8*L.length+3) .query (tks L)=some ([t],[])):G .query (tks L) [t]:=(iP_whole (by rw[tks_len];omega)).1 h4
theorem sP_is(f:Nat)(hf:1+8*L.length<f)(hB:Bal (tks L)):sP f .query (tks L)=some [t]↔iP (8*L.length+3) .query (tks L)=some ([t],[]):=by
 have:=parsers_agree (ts:=tks L) (t:=t) (f:=f) (g:=8*L.length+3) (by rw[tks_len];omega) (by rw[tks_len];omega)
 rw[<-this]
 exact⟨fun h=>⟨hB,h⟩,fun h=>h.2⟩
theorem unbal(hB: ¬Bal (tks L)): ∀t,iP (8*L.length+3) .query (tks L)≠some ([t],[]):=fun _ h=>hB (G.ofI h).okp.bal
theorem lay_small(hL:L.length<=20000)(hA: ∀p∈L,TOk p.1 p.2)(h:G .query (tks L) [t]):(lay t 0).length<=20000/\AX.Small (lay t 0)/\lay t 0≠[]:=by
 have hc:=h.count
 rw[tks_len]at hc
 refine⟨by rw[lay_len];omega,?_,fun e=>by have:=lay_pos t 0;rw[e]at this;simp at this⟩
 have hs:=h.texts (P:=fun s=>s.length<=1048576) (by simp) (fun s hs=>by
  rw[tks,List.mem_map]at hs
  obtain⟨p,hp,e⟩:=hs
  have ho:=hA p hp
  rw[e]at ho
  have:=tok_size ho
  rw[<-ho.1,size_toList]
  omega)
 rw[shSs_cons]at hs
 intro n hn
 obtain⟨⟨S,T,e1,h1,e2,h2⟩,hk⟩:=lay_mem t 0 n hs.1 hn
 rw[e1,e2]
 exact⟨h1,h2,by omega⟩
end
end Go.Proofs.YtmggnimiioepeaaGreatDoor.Pa
