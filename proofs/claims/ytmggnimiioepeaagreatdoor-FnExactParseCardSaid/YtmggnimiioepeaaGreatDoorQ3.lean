import Derived.Test.YtmggnimiioepeaaGreatDoorQ0
import Derived.Test.YtmggnimiioepeaaGreatDoorQ1
import Derived.Test.YtmggnimiioepeaaGreatDoorQ2
namespace Go.Proofs.YtmggnimiioepeaaGreatDoor.Pa
open Go Go.RowKit
structure ButM(S:Nat->Prop)(w w':World):Prop where
 size:w.heap.size<=w'.heap.size
 cell: ∀b o,b<w.heap.size-> ¬S b->w'.cell? ⟨b,o,none⟩=w.cell? ⟨b,o,none⟩
 frz: ∀b o,b<w.heap.size->w'.frozen? ⟨b,o,none⟩=w.frozen? ⟨b,o,none⟩
 low: ∀B,(∀b,S b->B<=b)->B<=w.heap.size->Below B w w'
theorem ButM.refl(S:Nat->Prop)(w:World):ButM S w w:=⟨Nat.le_refl _,fun _ _ _ _=>rfl,fun _ _ _=>rfl,fun _ _ _=>Below.refl _ _⟩
theorem ButM.trans{S:Nat->Prop}{w w1 w2:World}(h:ButM S w w1)(h':ButM S w1 w2):ButM S w w2:=
 ⟨Nat.le_trans h.size h'.size,fun b o hb hs=>(h'.cell b o (Nat.lt_of_lt_of_le hb h.size) hs).trans (h.cell b o hb hs),fun b o hb=>(h'.frz b o (Nat.lt_of_lt_of_le hb h.size)).trans (h.frz b o hb),fun B hB hs=>(h.low B hB hs).trans (h'.low B hB (Nat.le_trans hs h.size))⟩
theorem ButM.mono{S T:Nat->Prop}{w w1:World}(h:ButM S w w1)(hs: ∀b,S b->T b):ButM T w w1:=
 ⟨h.size,fun b o hb hn=>h.cell b o hb (fun hb'=>hn (hs b hb')),h.frz,fun B hB hz=>h.low B (fun b hb=>hB b (hs b hb)) hz⟩
theorem ButM.set{S:Nat->Prop}{w w1:World}(h:ButM S w w1){g o:Nat}(hg:S g)(v:Value):ButM S w (w1.setCell ⟨g,o,none⟩ v):=
 ⟨by simpa using h.size,fun b o' hb hn=>by rw[setCell_farN (fun(e:g=b)=>hn (by rw[<-e];exact hg))];exact h.cell b o' hb hn,fun b o' hb=>by rw[frozen_setCellN];exact h.frz b o' hb,fun B hB hs=>(h.low B hB hs).setCell (hB g hg) v⟩
theorem ButM.ofBelow{S:Nat->Prop}{w w1:World}(h:Below w.heap.size w w1):ButM S w w1:=
 ⟨h.size,fun b _ hb _=>h.cell (p:=⟨b,_,none⟩) hb,fun b _ hb=>h.frozen (p:=⟨b,_,none⟩) hb,fun _ _ hs=>h.mono hs⟩
def mtL:Nat->Nat->ByteArray->ByteArray
 | 0,_,t=>t
 | f+1,m,t=>if m=0 then t else mtL f (m/10) (strOfNums [48+(m:Int)%10]++t)
theorem mtL_zero(f:Nat)(t:ByteArray):mtL f 0 t=t:=by cases f<;>simp[mtL]
def mtx(k:Nat):ByteArray:=⟨#[109]⟩++mtL k k ⟨#[]⟩
set_option maxRecDepth 100000 in
set_option maxHeartbeats 2000000 in
theorem markText_fun(k:Nat)(w:World)(h0:1<=k)(bk:k<=1073741824):Calls Tryz.prog 48 #[.int .i64 k] w fun e w'=>e= .returned (.string (mtx k))/\Below w.heap.size w w':=by
 have h0': ¬(k:Int)<=0:=by omega
 go_enter Tryz.func48,Tryz.ntmps48
 go_wp2
 go_loopw [0,3] (fun c s wr=> ∃(m f:Nat) (t:ByteArray),c= .int .i64 m/\s= .string t/\t.size+m<=k/\m<=f/\mtL f m t=mtL k k ⟨#[]⟩/\Below w.heap.size w wr) (fun c _ _=>(intOf c).toNat)
 case atStart=>exact⟨k,k,⟨#[]⟩,rfl,rfl,by simp[ByteArray.size],Nat.le_refl _,rfl,Below.refl _ _⟩
 case round=>
  obtain⟨m,f,t,rfl,rfl,hm,hf,he,hb⟩:=hrel
  by_cases h1:0<(m:Int)
  ·have hcv:(convert 82 9 (.slice (some ⟨wr.heap.size,0,none⟩) 1 1)).run Tryz.prog (wr.alloc (.cells #[.int .u8 (48+(m:Int)%10)] 5))= .ok (.string (strOfNums [48+(m:Int)%10])) (wr.alloc (.cells #[.int .u8 (48+(m:Int)%10)] 5)):=
    run_convert_bytes_arg _ 82 5 Tryz.underlying82 Tryz.underlying5 wr.heap.size 0 1 1 [48+(m:Int)%10] rfl (fun i hi=>by cases i with | zero=>simp[go_sem] | succ n=>omega) 9 Tryz.underlying9
   have hsz:(strOfNums [48+(m:Int)%10]).size=1:=strOfNums_size _
   have hs2: ¬9223372036854775807<(strOfNums [48+(m:Int)%10]).size+t.size:=by omega
   have HSZ:=hide hsz
   have HE:Hid (∃f',m/10<=f'/\mtL f' (m/10) (strOfNums [48+(m:Int)%10]++t)=mtL k k ⟨#[]⟩):=by
    obtain⟨f',rfl⟩: ∃f',f=f'+1:=⟨f-1,by omega⟩
    refine⟨f',by omega,?_⟩
    rw[<-he]
    unfold mtL
    rw[if_neg (by omega)]
    cases f'<;>rfl
   clear hsz he
   have e1:(m:Int).tmod 10=((m%10:Nat):Int):=rfl
   have e2:(m:Int).tdiv 10=((m/10:Nat):Int):=rfl
   go_wp2
   go_roundw
   case rel=>
    obtain⟨f',g1,g2⟩:=unhide HE
    exact⟨m/10,f',_,by go_num,rfl,by have:=unhide HSZ;simp;omega,g1,g2,bA hb _⟩
   case measure=>simp[intOf];omega
  ·obtain rfl:m=0:=by omega
   rw[mtL_zero]at he
   have HX:Hid (mtx k=⟨#[109]⟩++t):=by show _=_;unfold mtx;rw[he]
   have hs3: ¬9223372036854775807<({data:= #[109]}:ByteArray).size+t.size:=by have hz:({data:= #[109]}:ByteArray).size=1:=rfl;omega
   clear he
   go_wp2
   go_ret
   exact⟨congrArg (fun z=>Ending.returned (.string z)) (unhide HX).symm,hb⟩
end Go.Proofs.YtmggnimiioepeaaGreatDoor.Pa
namespace Go.Proofs.YtmggnimiioepeaaGreatDoor.Pa
open Go Go.RowKit
def kA:List Nd->Nat
 | []=>0
 | n::r=>5+n.Kids.length+kA r
theorem kA_append(a b:List Nd):kA (a++b)=kA a+kA b:=by
 induction a with
 | nil=>simp[kA]
 | cons x a ih=>simp only[List.cons_append,kA,ih];omega
theorem kA_take(ns:List Nd)(k:Nat)(hk:k<ns.length):kA (ns.take (k+1))=kA (ns.take k)+(5+(ns[k]).Kids.length):=by
 rw[List.take_succ_eq_append_getElem hk,kA_append];simp[kA]
theorem kA_take_le(ns:List Nd)(k:Nat):kA (ns.take k)<=kA ns:=by
 have h:=kA_append (ns.take k) (ns.drop k)
 rw[List.take_append_drop]at h
 omega
def mIs(k n:Nat):List Int:=(List.range n).map fun i=>((k+i:Nat):Int)
theorem mIs_len(k n:Nat):(mIs k n).length=n:=by simp[mIs]
theorem mIs_at(k n i:Nat)(h:i<n):(mIs k n)[i]?=some ((k+i:Nat):Int):=by simp[mIs,h]
def mNd(k:Nat)(n:Nd):Nd:=⟨(k:Int),(k:Int)+1,(k:Int)+1+1,mtx (k+3),mtx (k+4),mIs (k+5) n.Kids.length⟩
def mNds(k:Nat)(ns:List Nd):List Nd:=(List.range ns.length).map fun j=>mNd (k+kA (ns.take j)) (ns.getD j ⟨0,0,0,⟨#[]⟩,⟨#[]⟩,[]⟩)
theorem mNds_length(k:Nat)(ns:List Nd):(mNds k ns).length=ns.length:=by simp[mNds]
theorem mNds_at(k:Nat)(ns:List Nd)(j:Nat)(h:j<ns.length):(mNds k ns)[j]?=some (mNd (k+kA (ns.take j)) ns[j]):=by simp[mNds,h]
structure CF(w:World)(G o:Nat)(vs:List Value):Prop where
 lt:G<w.heap.size
 frz: ∀p,w.frozen? ⟨G,p,none⟩=false
 all: ∀r v,vs[r]?=some v->w.cell? ⟨G,o+r,none⟩=some v
def KM(w:World)(lab:Lbl)(i:Nat)(ka:Option Addr)(xs:List Int):Prop:=xs=[]\/ ∃kg,ka=some ⟨kg,0,none⟩/\lab kg=some i/\kg<w.heap.size/\(∀o,w.frozen? ⟨kg,o,none⟩=false)/\ ∀o x,xs[o]?=some x->w.cell? ⟨kg,o,none⟩=some (.int .i64 x)
def cN(n:Nd)(ka:Option Addr)(kc:Nat):List Value:=[.int .i64 n.K,.int .i64 n.N,.int .i64 n.M,.string n.S,.string n.T,.slice ka n.Kids.length kc]
def NM(w:World)(lab:Lbl)(G i:Nat)(n:Nd):Prop:= ∃ka kc,CF w G (i*6) (cN n ka kc)/\KM w lab i ka n.Kids
section
variable {w w1:World}{G o i:Nat}{vs:List Value}{lab:Lbl}{ka:Option Addr}{xs:List Int}{n:Nd}{S:Nat->Prop}
theorem CF.but(h:CF w G o vs)(hb:ButM S w w1)(hs: ¬S G):CF w1 G o vs:=⟨Nat.lt_of_lt_of_le h.lt hb.size,fun p=>(hb.frz G p h.lt).trans (h.frz p),fun r v hv=>(hb.cell G _ h.lt hs).trans (h.all r v hv)⟩
theorem CF.of(h:CF w G o vs)(hb:Below w.heap.size w w1):CF w1 G o vs:=h.but (S:=fun _=>False) (ButM.ofBelow hb) (fun e=>e)
theorem CF.set(h:CF w G o vs)(r:Nat)(v:Value)(hr:r<vs.length):CF (w.setCell ⟨G,o+r,none⟩ v) G o (vs.set r v):=by
 refine⟨by simpa using h.lt,fun p=>by rw[World.frozen?_setCell];exact h.frz p,fun r' v' hv=> ?_⟩
 rw[List.getElem?_set]at hv
 by_cases e:r=r'
 ·subst e
  rw[if_pos rfl,if_pos hr]at hv
  cases hv
  exact World.cell?_setCell_same _ _ _ (h.all r vs[r] (List.getElem?_eq_getElem hr))
 ·rw[if_neg e]at hv
  rw[setCell_otherN (by omega)]
  exact h.all r' v' hv
theorem CF.far(h:CF w G o vs){O:Nat}(hO:O<o\/o+vs.length<=O)(v:Value):CF (w.setCell ⟨G,O,none⟩ v) G o vs:=
 ⟨by simpa using h.lt,fun p=>by rw[World.frozen?_setCell];exact h.frz p,fun r v' hv=>by
  have:=(List.getElem?_eq_some_iff.1 hv).1
  rw[setCell_otherN (by omega)]
  exact h.all r v' hv⟩
theorem CF.c6{a b c d e f:Value}(h:CF w G o [a,b,c,d,e,f]):w.cell? ⟨G,o,none⟩=some a/\w.cell? ⟨G,o+1,none⟩=some b/\w.cell? ⟨G,o+2,none⟩=some c/\w.cell? ⟨G,o+3,none⟩=some d/\w.cell? ⟨G,o+4,none⟩=some e/\w.cell? ⟨G,o+5,none⟩=some f:=⟨h.all 0 _ rfl,h.all 1 _ rfl,h.all 2 _ rfl,h.all 3 _ rfl,h.all 4 _ rfl,h.all 5 _ rfl⟩
theorem KM.but(h:KM w lab i ka xs)(hb:ButM S w w1)(hs: ∀b,lab b=some i-> ¬S b):KM w1 lab i ka xs:=by
 rcases h with h | ⟨kg,h1,h2,h3,h4,h5⟩
 ·exact Or.inl h
 ·exact Or.inr ⟨kg,h1,h2,Nat.lt_of_lt_of_le h3 hb.size,fun o=>(hb.frz kg o h3).trans (h4 o),fun o x hx=>(hb.cell kg o h3 (hs kg h2)).trans (h5 o x hx)⟩
theorem NM.but(h:NM w lab G i n)(hb:ButM S w w1)(hG: ¬S G)(hs: ∀b,lab b=some i-> ¬S b):NM w1 lab G i n:=by
 obtain⟨ka,kc,h1,h2⟩:=h
 exact⟨ka,kc,h1.but hb hG,h2.but hb hs⟩
theorem NM.far(h:NM w lab G i n)(hl:lab G=none){O:Nat}(hO:O<i*6\/i*6+6<=O)(v:Value):NM (w.setCell ⟨G,O,none⟩ v) lab G i n:=by
 obtain⟨ka,kc,h1,h2⟩:=h
 exact⟨ka,kc,h1.far hO v,h2.but (S:=fun b=>b=G) (ButM.set (S:=fun b=>b=G) (ButM.refl _ _) rfl v) (fun b e e'=>by rw[e',hl]at e;cases e)⟩
theorem NM.nodes{ns:List Nd}(h: ∀i n,ns[i]?=some n->NM w lab G i n):AX.NodesAt w G 0 ns:=fun i n hn=>by
 obtain⟨ka,kc,h1,h2⟩:=h i n hn
 obtain⟨c0,c1,c2,c3,c4,c5⟩:=h1.c6
 rw[Nat.zero_add]
 refine⟨⟨c0,c1,c2,c3,c4⟩,ka,kc,c5,fun o x hx=> ?_⟩
 rcases h2 with h2 | ⟨kg,e1,_,e3,_,e5⟩
 ·rw[h2]at hx;simp at hx
 ·exact⟨kg,e1,e3,by rw[Nat.zero_add];exact e5 o x hx⟩
end
set_option maxHeartbeats 1000000 in
theorem markIntS_calls(xs:List Int)(ka:Option Addr)(kc k i0:Nat)(lab:Lbl)(w:World)(h:KM w lab i0 ka xs)(b1:xs.length<=1048576)(bk:k+xs.length<=536870912):
  Calls Tryz.prog 49 #[.slice ka xs.length kc,.int .i64 k] w fun e w'=>e= .returned (.int .i64 ((k+xs.length:Nat):Int))/\ButM (fun b=>lab b=some i0) w w'/\KM w' lab i0 ka (mIs k xs.length):=by
 rcases h with h0 | ⟨kg,rfl,hlb,hs,hf,ha⟩
 ·obtain⟨n,hn⟩: ∃n,n=xs.length:=⟨_,rfl⟩
  have hn0:n=0:=by rw[hn,h0];rfl
  rw[<-hn]
  clear hn h0 b1 bk
  subst hn0
  go_enter Tryz.func49,Tryz.ntmps49
  go_wp2
  go_loopw [1,5] (fun c s wr=>s= .int .i64 0/\c= .int .i64 (k:Int)/\wr=w) (fun _ _ _=>0)
  case atStart=>exact⟨rfl,rfl,rfl⟩
  case round=>
   obtain⟨rfl,rfl,rfl⟩:=hrel
   go_wp2
   go_ret
   exact⟨by simp,ButM.refl _ _,Or.inl rfl⟩
 ·obtain⟨n,hn⟩: ∃n,n=xs.length:=⟨_,rfl⟩
  have HA:Hid (∀o,o<n-> ∃v,w.cell? ⟨kg,o,none⟩=some v):=fun o ho=>⟨_,ha o xs[o] (List.getElem?_eq_getElem (by omega))⟩
  rw[<-hn]at b1 bk⊢
  have HLb:=hide hlb
  clear hn ha hlb
  go_enter Tryz.func49,Tryz.ntmps49
  go_wp2
  go_loopw [1,5] (fun c s wr=> ∃i:Nat,i<=n/\s= .int .i64 i/\c= .int .i64 ((k+i:Nat):Int)/\ButM (fun b=>b=kg) w wr/\(∀o,o<n-> ∃v,wr.cell? ⟨kg,o,none⟩=some v)/\ ∀o,o<i->wr.cell? ⟨kg,o,none⟩=some (.int .i64 ((k+o:Nat):Int))) (fun _ s _=>n-(intOf s).toNat)
  case atStart=>exact⟨0,Nat.zero_le _,rfl,rfl,ButM.refl _ _,unhide HA,fun o ho=>by omega⟩
  case round=>
   obtain⟨i,hi,rfl,rfl,hB,hS,hM⟩:=hrel
   by_cases hlt:i<n
   ·have j1:(i:Int)<(n:Int):=by omega
    obtain⟨u,hu⟩:=hS i hlt
    have q1:kg<wr.heap.size:=Nat.lt_of_lt_of_le hs hB.size
    have q2: ∀o,wr.frozen? ⟨kg,o,none⟩=false:=fun o=>(hB.frz kg o hs).trans (hf o)
    obtain⟨j,hj⟩: ∃j,j=k+i:=⟨_,rfl⟩
    have HM:Hid (∀o,o<i+1->(wr.setCell ⟨kg,i,none⟩ (.int .i64 (j:Int))).cell? ⟨kg,o,none⟩=some (.int .i64 ((k+o:Nat):Int))):=fun o ho=>by
     by_cases e:o=i
     ·subst e
      rw[World.cell?_setCell_same _ _ _ hu,hj]
     ·rw[setCell_otherN (by omega)]
      exact hM o (by omega)
    have HS:Hid (∀o,o<n-> ∃v,(wr.setCell ⟨kg,i,none⟩ (.int .i64 (j:Int))).cell? ⟨kg,o,none⟩=some v):=fun o ho=>by
     by_cases e:o=i
     ·subst e
      exact⟨_,World.cell?_setCell_same _ _ _ hu⟩
     ·rw[setCell_otherN (by omega)]
      exact hS o ho
    rw[<-hj]
    have jb:j<=536870912:=by omega
    have HJ:Hid (k+(i+1)=j+1):=by show _=_;omega
    have HB:Hid (ButM (fun b=>b=kg) w (wr.setCell ⟨kg,i,none⟩ (.int .i64 (j:Int)))):=hB.set rfl _
    clear hB hS hM hj HA hf
    go_wp2
    go_roundw
    case rel=>exact⟨i+1,by omega,by go_num,by rw[unhide HJ];go_num,unhide HB,unhide HS,unhide HM⟩
    case measure=>simp[intOf];omega
   ·obtain rfl:i=n:=by omega
    have HB:=hide hB;have HM:=hide hM
    clear HA hS hB hM
    go_wp2
    go_ret
    refine⟨rfl,(unhide HB).mono (fun b e=>by rw[e];exact unhide HLb),Or.inr ⟨kg,rfl,unhide HLb,Nat.lt_of_lt_of_le hs (unhide HB).size,fun o=>((unhide HB).frz kg o hs).trans (hf o),fun o x hx=> ?_⟩⟩
    have ho:o<i:=by have:=(List.getElem?_eq_some_iff.1 hx).1;rwa [mIs_len]at this
    rw[mIs_at k i o ho]at hx
    cases hx
    exact unhide HM o ho
set_option maxRecDepth 100000 in
set_option maxHeartbeats 8000000 in
theorem markNodeS_all(ns:List Nd)(lab:Lbl)(G cap k:Nat)(w:World)(hlG:lab G=none)(h: ∀i n,ns[i]?=some n->NM w lab G i n)(b1:ns.length<=1048576)(b2: ∀n∈ns,n.Kids.length<=1048576)(bk0:1<=k)(bk:k+kA ns<=268435456):
  Calls Tryz.prog 20 #[.slice (some ⟨G,0,none⟩) ns.length cap,.int .i64 k] w fun e w'=>e= .returned (.int .i64 ((k+kA ns:Nat):Int))/\(∀i n,(mNds k ns)[i]?=some n->NM w' lab G i n)/\ButM (fun b=>b=G\/ ∃i,lab b=some i) w w':=by
 have HNd:=hide h;have HB2:=hide b2;have HlG:=hide hlG
 clear h b2 hlG
 go_enter Tryz.func20,Tryz.ntmps20
 go_wp2
 go_loopw [1,5] (fun c s wr=> ∃i:Nat,i<=ns.length/\s= .int .i64 i/\c= .int .i64 ((k+kA (ns.take i):Nat):Int)/\(∀j n,ns[j]?=some n->NM wr lab G j (if j<i then mNd (k+kA (ns.take j)) n else n))/\ButM (fun b=>b=G\/ ∃i,lab b=some i) w wr) (fun _ s _=>ns.length-(intOf s).toNat)
 case atStart=>exact⟨0,Nat.zero_le _,rfl,by simp[kA],fun j p hp=>by rw[if_neg (by omega)];exact unhide HNd j p hp,ButM.refl _ _⟩
 case round=>
  obtain⟨i,hi,rfl,rfl,hM,hB⟩:=hrel
  by_cases hlt:i<ns.length
  ·have j1:(i:Int)<(ns.length:Int):=by omega
   have hn:=hM i ns[i] (List.getElem?_eq_getElem hlt)
   rw[if_neg (by omega)]at hn
   have x1:=unhide HB2 _ (List.getElem_mem hlt)
   have hk1:=kA_take ns i hlt
   have hk2:=kA_take_le ns (i+1)
   obtain⟨j,hj⟩: ∃j,j=k+kA (ns.take i):=⟨_,rfl⟩
   have hjb:j+(5+(ns[i]).Kids.length)<=268435456:=by omega
   have hj1:1<=j:=by omega
   have HK1:Hid (k+kA (ns.take (i+1))=j+5+(ns[i]).Kids.length):=by show _=_;omega
   rw[<-hj]
   have HJ:=hide hj
   obtain⟨p,hp⟩: ∃p,p=ns[i]:=⟨_,rfl⟩
   rw[<-hp]at hn x1 hjb HK1
   have HP:=hide hp
   clear hj hk1 hk2 hp
   obtain⟨ka,kc,hcf,hkm⟩:=hn
   obtain⟨c0,c1,c2,c3,c4,c5⟩:=hcf.c6
   have gl:=hcf.lt
   have gf:=hcf.frz
   obtain⟨wa,hwa⟩: ∃wa,wa=((wr.setCell ⟨G,i*6,none⟩ (.int .i64 (j:Int))).setCell ⟨G,i*6+1,none⟩ (.int .i64 ((j:Int)+1))).setCell ⟨G,i*6+2,none⟩ (.int .i64 ((j:Int)+1+1)):=⟨_,rfl⟩
   have HCa:Hid (CF wa G (i*6) [.int .i64 (j:Int),.int .i64 ((j:Int)+1),.int .i64 ((j:Int)+1+1),.string p.S,.string p.T,.slice ka p.Kids.length kc]):=by
    show CF _ _ _ _
    rw[hwa]
    exact((hcf.set 0 (.int .i64 (j:Int)) (by simp[cN])).set 1 (.int .i64 ((j:Int)+1)) (by simp[cN])).set 2 (.int .i64 ((j:Int)+1+1)) (by simp[cN])
   have hBa:ButM (fun b=>b=G) wr wa:=by
    rw[hwa]
    exact ButM.set (S:=fun b=>b=G) (ButM.set (S:=fun b=>b=G) (ButM.set (S:=fun b=>b=G) (ButM.refl _ _) rfl _) rfl _) rfl _
   have hnG: ∀(jj b:Nat),lab b=some jj-> ¬b=G:=fun jj b e e'=>by rw[e',unhide HlG]at e;cases e
   have HKa:=hide (hkm.but hBa (hnG i))
   have HOa:Hid (∀jj q,jj≠i->ns[jj]?=some q->NM wa lab G jj (if jj<i then mNd (k+kA (ns.take jj)) q else q)):=fun jj q hjj hq=>by
    rw[hwa]
    exact(((hM jj q hq).far (unhide HlG) (by omega) _).far (unhide HlG) (by omega) _).far (unhide HlG) (by omega) _
   have HBa:Hid (ButM (fun b=>b=G\/ ∃i,lab b=some i) w wa):=hB.trans (hBa.mono (fun b e=>Or.inl e))
   have HM3:Hid (∀kz:Int,kz=((j+3:Nat):Int)->Calls Tryz.prog 48 #[.int .i64 kz] wa fun e w'=>e= .returned (.string (mtx (j+3)))/\Below wa.heap.size wa w'):=fun kz hkz=>by
    subst hkz
    exact markText_fun (j+3) wa (by omega) (by omega)
   have Hwa:=hide hwa;have HnG:=hide hnG
   clear hwa hBa hM hB hcf hkm hnG
   go_upto_region 10 with fail
   rw[<-unhide Hwa]
   clear Hwa c0 c1 c2 c3 c4 c5 gf gl
   go_wp2_with fail
   refine(unhide HM3 _ (by push_cast;omega)).mono ?_;rintro e wb ⟨rfl,hb⟩
   have hcb:=(unhide HCa).of hb
   obtain⟨s3,hs3⟩: ∃s3,s3=mtx (j+3):=⟨_,rfl⟩
   rw[<-hs3]
   obtain⟨c0,c1,c2,c3,c4,c5⟩:=hcb.c6
   have gl:=hcb.lt
   have gf:=hcb.frz
   obtain⟨wc,hwc⟩: ∃wc,wc=wb.setCell ⟨G,i*6+3,none⟩ (.string s3):=⟨_,rfl⟩
   have hBc:ButM (fun b=>b=G) wa wc:=by
    rw[hwc]
    exact ButM.set (S:=fun b=>b=G) (ButM.ofBelow hb) rfl _
   have HCc:Hid (CF wc G (i*6) [.int .i64 (j:Int),.int .i64 ((j:Int)+1),.int .i64 ((j:Int)+1+1),.string s3,.string p.T,.slice ka p.Kids.length kc]):=by
    show CF _ _ _ _
    rw[hwc]
    exact hcb.set 3 (.string s3) (by simp)
   have HKc:=hide ((unhide HKa).but hBc (unhide HnG i))
   have HOc:Hid (∀jj q,jj≠i->ns[jj]?=some q->NM wc lab G jj (if jj<i then mNd (k+kA (ns.take jj)) q else q)):=fun jj q hjj hq=>by
    rw[hwc]
    exact((unhide HOa jj q hjj hq).but (S:=fun _=>False) (ButM.ofBelow hb) (fun e=>e) (fun _ _ e=>e)).far (unhide HlG) (by omega) _
   have HBc:Hid (ButM (fun b=>b=G\/ ∃i,lab b=some i) w wc):=(unhide HBa).trans (hBc.mono (fun b e=>Or.inl e))
   have HM4:Hid (∀kz:Int,kz=((j+4:Nat):Int)->Calls Tryz.prog 48 #[.int .i64 kz] wc fun e w'=>e= .returned (.string (mtx (j+4)))/\Below wc.heap.size wc w'):=fun kz hkz=>by
    subst hkz
    exact markText_fun (j+4) wc (by omega) (by omega)
   have Hwc:=hide hwc;have Hs3:=hide hs3
   clear hwc hBc hcb hb HCa HKa HOa HBa HM3 hs3
   go_wp2_with fail
   rw[<-unhide Hwc]
   clear Hwc c0 c1 c2 c3 c4 c5 gf gl
   refine(unhide HM4 _ (by push_cast;omega)).mono ?_;rintro e wd ⟨rfl,hb⟩
   have hcd:=(unhide HCc).of hb
   obtain⟨s4,hs4⟩: ∃s4,s4=mtx (j+4):=⟨_,rfl⟩
   rw[<-hs4]
   obtain⟨c0,c1,c2,c3,c4,c5⟩:=hcd.c6
   have gl:=hcd.lt
   have gf:=hcd.frz
   obtain⟨we,hwe⟩: ∃we,we=wd.setCell ⟨G,i*6+4,none⟩ (.string s4):=⟨_,rfl⟩
   have hBe:ButM (fun b=>b=G) wc we:=by
    rw[hwe]
    exact ButM.set (S:=fun b=>b=G) (ButM.ofBelow hb) rfl _
   have hce:CF we G (i*6) [.int .i64 (j:Int),.int .i64 ((j:Int)+1),.int .i64 ((j:Int)+1+1),.string s3,.string s4,.slice ka p.Kids.length kc]:=by
    rw[hwe]
    exact hcd.set 4 (.string s4) (by simp)
   have HKe:=hide ((unhide HKc).but hBe (unhide HnG i))
   have HOe:Hid (∀jj q,jj≠i->ns[jj]?=some q->NM we lab G jj (if jj<i then mNd (k+kA (ns.take jj)) q else q)):=fun jj q hjj hq=>by
    rw[hwe]
    exact((unhide HOc jj q hjj hq).but (S:=fun _=>False) (ButM.ofBelow hb) (fun e=>e) (fun _ _ e=>e)).far (unhide HlG) (by omega) _
   have HBe:Hid (ButM (fun b=>b=G\/ ∃i,lab b=some i) w we):=(unhide HBc).trans (hBe.mono (fun b e=>Or.inl e))
   have HMI:Hid (∀kz:Int,kz=((j+5:Nat):Int)->Calls Tryz.prog 49 #[.slice ka p.Kids.length kc,.int .i64 kz] we fun e w'=>e= .returned (.int .i64 ((j+5+p.Kids.length:Nat):Int))/\ButM (fun b=>lab b=some i) we w'/\KM w' lab i ka (mIs (j+5) p.Kids.length)):=fun kz hkz=>by
    subst hkz
    exact markIntS_calls p.Kids ka kc (j+5) i lab we (unhide HKe) x1 (by omega)
   have Hwe:=hide hwe;have Hs4:=hide hs4;have HCe:=hide hce
   clear hwe hBe hcd hb HCc HKc HOc HBc HM4 hs4 hce
   go_wp2_with fail
   rw[<-unhide Hwe]
   clear Hwe c0 c1 c2 c3 c4 c5 gf gl
   refine(unhide HMI _ (by push_cast;omega)).mono ?_;rintro e wf ⟨rfl,hbf,hkf⟩
   have HOf:Hid (∀jj q,ns[jj]?=some q->NM wf lab G jj (if jj<i+1 then mNd (k+kA (ns.take jj)) q else q)):=fun jj q hq=>by
    by_cases e:jj=i
    ·subst e
     rw[if_pos (by omega),<-unhide HJ]
     obtain rfl:q=p:=by
      have:=List.getElem?_eq_getElem hlt
      rw[this,<-unhide HP]at hq
      simpa using hq.symm
     refine⟨ka,kc,?_,hkf⟩
     have:=(unhide HCe).but hbf (fun e=>by rw[unhide HlG]at e;cases e)
     rw[unhide Hs3,unhide Hs4]at this
     simpa[cN,mNd,mIs_len]using this
    ·have h1:=(unhide HOe jj q e hq).but hbf (fun e=>by rw[unhide HlG]at e;cases e) (fun b e1 e2=>by rw[e1]at e2;simp at e2;exact e e2)
     by_cases e':jj<i
     ·rw[if_pos e']at h1
      rw[if_pos (by omega)]
      exact h1
     ·rw[if_neg e']at h1
      rw[if_neg (by omega)]
      exact h1
   have HBf:Hid (ButM (fun b=>b=G\/ ∃i,lab b=some i) w wf):=(unhide HBe).trans (hbf.mono (fun b e=>Or.inr ⟨i,e⟩))
   clear hbf hkf HOe HBe HKe HCe Hs3 Hs4 HMI HP HJ
   obtain⟨jz,hjz⟩: ∃jz,jz=j+5+p.Kids.length:=⟨_,rfl⟩
   rw[<-hjz]at HK1⊢
   have jzb:jz<=268435456:=by omega
   clear hjz
   go_wp2
   go_roundw
   case rel=>exact⟨i+1,by omega,by go_num,by rw[unhide HK1],unhide HOf,unhide HBf⟩
   case measure=>simp[intOf];omega
  ·obtain rfl:i=ns.length:=by omega
   rw[List.take_length]
   have HBn:=hide hB;have HMn:=hide hM
   clear hB hM HNd HB2
   go_wp2
   go_ret
   refine⟨rfl,fun jj q hq=> ?_,unhide HBn⟩
   have hjl:jj<ns.length:=by have:=(List.getElem?_eq_some_iff.1 hq).1;rwa [mNds_length]at this
   rw[mNds_at k ns jj hjl]at hq
   cases hq
   have:=unhide HMn jj ns[jj] (List.getElem?_eq_getElem hjl)
   rwa [if_pos hjl]at this
end Go.Proofs.YtmggnimiioepeaaGreatDoor.Pa
namespace Go.Proofs.YtmggnimiioepeaaGreatDoor.Pa
open Go
mutual
def nn:Rt->Nat
 | .mk _ _ _ _ _ kids=>nns kids+1
def nns:List Rt->Nat
 | []=>0
 | t::ts=>nn t+nns ts
end
theorem nns_nil:nns []=0:=by rw[nns]
theorem nns_cons(t:Rt)(ts:List Rt):nns (t::ts)=nn t+nns ts:=by rw[nns]
theorem nn_mk(K N M:Int)(S T:List UInt8)(kids:List Rt):nn (.mk K N M S T kids)=nns kids+1:=by rw[nn]
theorem nns_app: ∀(ts us:List Rt),nns (ts++us)=nns ts+nns us
 | [],us=>by rw[List.nil_append,nns_nil,Nat.zero_add]
 | t::ts,us=>by rw[List.cons_append,nns_cons,nns_cons,nns_app ts us,Nat.add_assoc]
theorem nns_ge: ∀(ts:List Rt),ts.length<=nns ts
 | []=>Nat.zero_le _
 | .mk K N M S T kids::ts=>by
  have:=nns_ge ts
  rw[nns_cons,nn_mk,List.length_cons]
  omega
mutual
theorem lay_len: ∀(t:Rt) (off:Nat),(lay t off).length=nn t
 | .mk K N M S T kids,off=>by
  rw[lay_mk,nn_mk,List.length_append,lays_len1 kids off]
  rfl
theorem lays_len1: ∀(ts:List Rt) (off:Nat),(lays ts off).1.length=nns ts
 | [],off=>by rw[lays_nil,nns_nil];rfl
 | t::ts,off=>by
  rw[lays_cons,nns_cons]
  simp only[List.length_append]
  rw[lay_len t off,lays_len1 ts _]
end
def wgt:NT->List Rt->Nat
 | .scals,ts=>ts.length
 | .srcs,ts=>ts.length
 | .prims,ts=>ts.length
 | .conjs,ts=>ts.length
 | .sels,ts=>ts.length
 | _,_=>1
theorem G.room{nt:NT}{xs:List Tok}{ts:List Rt}(h:G nt xs ts):nns ts+wgt nt ts<=xs.length+1/\1<=ts.length:=by
 induction h<;>simp only[nns_cons,nns_nil,nns_app,nn_mk,wgt,List.length_cons,List.length_append,List.length_nil]at* <;>omega
theorem G.count{nt:NT}{xs:List Tok}{t:Rt}(h:G nt xs [t]):nn t<=xs.length:=by
 have:=h.room.1
 have hw:1<=wgt nt [t]:=by cases nt<;>exact Nat.le_refl 1
 rw[nns_cons,nns_nil]at this
 omega
mutual
def shS(P:List UInt8->Prop):Rt->Prop
 | .mk _ _ _ S T kids=>P S/\P T/\shSs P kids
def shSs(P:List UInt8->Prop):List Rt->Prop
 | []=>True
 | t::ts=>shS P t/\shSs P ts
end
theorem shS_mk(P:List UInt8->Prop)(K N M:Int)(S T:List UInt8)(kids:List Rt):shS P (.mk K N M S T kids)↔P S/\P T/\shSs P kids:=by rw[shS]
theorem shSs_nil(P:List UInt8->Prop):shSs P []↔True:=by rw[shSs]
theorem shSs_cons(P:List UInt8->Prop)(t:Rt)(ts:List Rt):shSs P (t::ts)↔shS P t/\shSs P ts:=by rw[shSs]
theorem shSs_app(P:List UInt8->Prop): ∀(ts us:List Rt),shSs P (ts++us)↔shSs P ts/\shSs P us
 | [],us=>by rw[List.nil_append,shSs_nil];simp
 | t::ts,us=>by rw[List.cons_append,shSs_cons,shSs_cons,shSs_app P ts us,and_assoc]
theorem G.texts{P:List UInt8->Prop}(h0:P []){nt:NT}{xs:List Tok}{ts:List Rt}(h:G nt xs ts)(hP: ∀s,Tok.nam s∈xs->P s):shSs P ts:=by
 induction h<;>simp only[shSs_cons,shSs_nil,shSs_app,shS_mk,List.mem_cons,List.mem_append,List.not_mem_nil,reduceCtorEq,false_or,or_false,Tok.nam.injEq]at* <;>simp_all
mutual
theorem lay_mem{P:List UInt8->Prop}: ∀(t:Rt) (off:Nat) (n:Nd),shS P t->n∈lay t off->(∃S T,n.S=⟨S.toArray⟩/\P S/\n.T=⟨T.toArray⟩/\P T)/\n.Kids.length<=nn t
 | .mk K N M S T kids,off,n,hs,hn=>by
  rw[shS_mk]at hs
  rw[lay_mk,List.mem_append]at hn
  rw[nn_mk]
  rcases hn with hn | hn
  ·have:=lays_mem kids off n hs.2.2 hn
   exact⟨this.1,by omega⟩
  ·simp only[List.mem_cons,List.not_mem_nil,or_false]at hn
   subst hn
   refine⟨⟨S,T,rfl,hs.1,rfl,hs.2.1⟩,?_⟩
   show(lays kids off).2.length<=_
   rw[lays_len]
   have:=nns_ge kids
   omega
theorem lays_mem{P:List UInt8->Prop}: ∀(ts:List Rt) (off:Nat) (n:Nd),shSs P ts->n∈(lays ts off).1->(∃S T,n.S=⟨S.toArray⟩/\P S/\n.T=⟨T.toArray⟩/\P T)/\n.Kids.length<=nns ts
 | [],off,n,hs,hn=>by rw[lays_nil]at hn;cases hn
 | t::ts,off,n,hs,hn=>by
  rw[shSs_cons]at hs
  rw[lays_cons,List.mem_append]at hn
  rw[nns_cons]
  rcases hn with hn | hn
  ·have:=lay_mem t off n hs.1 hn
   exact⟨this.1,by omega⟩
  ·have:=lays_mem ts _ n hs.2 hn
   exact⟨this.1,by omega⟩
end
end Go.Proofs.YtmggnimiioepeaaGreatDoor.Pa
