import Derived.Test.YtmggnimiioepeaaGreatDoorQ0
import Derived.Test.YtmggnimiioepeaaGreatDoorQ2
import Derived.Test.YtmggnimiioepeaaGreatDoorQ1
import Derived.Test.YtmggnimiioepeaaGreatDoorQ3
import Derived.Test.YtmggnimiioepeaaGreatDoorQ16
import Derived.Test.YtmggnimiioepeaaGreatDoorQ13
namespace Go.Proofs.YtmggnimiioepeaaGreatDoor.AX
open Go Go.RowKit
set_option maxHeartbeats 1000000 in
theorem eqIntS_calls(xs:List Int)(ka kb:Option Addr)(cap cap':Nat)(w:World)(hx:KIx w ka xs)(hy:KIx w kb xs)(b1:xs.length<=1048576):
  Calls Tryz.prog 78 #[.slice ka xs.length cap,.slice kb xs.length cap'] w fun e w'=>e= .returned (.bool true)/\Below w.heap.size w w':=by
 have e0:((xs.length:Int) !=(xs.length:Int))=false:=by simp
 go_enter Tryz.func78,Tryz.ntmps78
 go_wp2
 go_loopw [5] (fun c wr=> ∃k:Nat,k<=xs.length/\c= .int .i64 k/\Below w.heap.size w wr) (fun c _=>xs.length-(intOf c).toNat)
 case atStart=>exact⟨0,Nat.zero_le _,rfl,Below.refl _ _⟩
 case round=>
  obtain⟨k,hk1,rfl,hb⟩:=hrel
  by_cases l1:k<xs.length
  ·obtain⟨g,rfl,q1,x0⟩:=(hx.of hb).at k l1
   obtain⟨g',rfl,q2,y0⟩:=(hy.of hb).at k l1
   simp only[Nat.zero_add]at x0 y0
   have j1:(k:Int)<(xs.length:Int):=by omega
   generalize xs[k]=x at*
   have he:(x !=x)=false:=by simp
   go_upto_region 6 with fail
   go_quiet (fail)
   go_wp2
   go_roundw
   case rel=>exact⟨k+1,by omega,by go_num,below_drewN hb _⟩
   case measure=>simp[intOf];omega
  ·go_wp2
   go_ret
   exact⟨rfl,hb⟩
set_option maxHeartbeats 1000000 in
theorem eqNode_calls(K N M:Int)(S T:ByteArray)(xs:List Int)(ka kb:Option Addr)(cap cap':Nat)(w:World)(hx:KIx w ka xs)(hy:KIx w kb xs)(b1:xs.length<=1048576):
  Calls Tryz.prog 47 #[.agg #[.int .i64 K,.int .i64 N,.int .i64 M,.string S,.string T,.slice ka xs.length cap],.agg #[.int .i64 K,.int .i64 N,.int .i64 M,.string S,.string T,.slice kb xs.length cap']] w fun e w'=>e= .returned (.bool true)/\Below w.heap.size w w':=by
 have EI:=fun W (hb:Below w.heap.size w W)=>eqIntS_calls xs ka kb cap cap' W (hx.of hb) (hy.of hb) b1
 have HEI:=hide EI
 have eK:(K !=K)=false:=by simp
 have eN:(N !=N)=false:=by simp
 have eM:(M !=M)=false:=by simp
 have eS:(S.toList==S.toList)=true:=by simp
 have eT:(T.toList==T.toList)=true:=by simp
 clear EI hx hy
 go_enter Tryz.func47,Tryz.ntmps47
 go_wp2_with fail
 refine(unhide HEI _ (bA (bA (Below.refl _ _) _) _)).mono ?_;rintro e w1 ⟨rfl,hb1⟩
 go_wp2
 go_ret
 exact⟨rfl,bT (bA (bA (Below.refl _ _) _) _) hb1⟩
set_option maxHeartbeats 2000000 in
theorem eqNodeS_calls(ns:List Nd)(g g' cap cap':Nat)(w:World)(hg:g<w.heap.size)(hg':g'<w.heap.size)(hx:NodesAt w g 0 ns)(hy:NodesAt w g' 0 ns)(b1:ns.length<=1048576)(hk: ∀n∈ns,n.Kids.length<=1048576):
  Calls Tryz.prog 19 #[.slice (some ⟨g,0,none⟩) ns.length cap,.slice (some ⟨g',0,none⟩) ns.length cap'] w fun e w'=>e= .returned (.bool true)/\Below w.heap.size w w':=by
 have e0:((ns.length:Int) !=(ns.length:Int))=false:=by simp
 have HX:=hide hx;have HY:=hide hy;have HK:=hide hk
 clear hx hy hk
 go_enter Tryz.func19,Tryz.ntmps19
 go_wp2
 go_loopw [5] (fun c wr=> ∃k:Nat,k<=ns.length/\c= .int .i64 k/\Below w.heap.size w wr) (fun c _=>ns.length-(intOf c).toNat)
 case atStart=>exact⟨0,Nat.zero_le _,rfl,Below.refl _ _⟩
 case round=>
  obtain⟨k,hk1,rfl,hb⟩:=hrel
  by_cases l1:k<ns.length
  ·obtain⟨⟨x0,x1,x2,x3,x4⟩,kx,cx,x5,hix⟩:=((unhide HX).of hg hb).at k l1
   obtain⟨⟨y0,y1,y2,y3,y4⟩,ky,cy,y5,hiy⟩:=((unhide HY).of hg' hb).at k l1
   have hkl:=unhide HK _ (List.getElem_mem l1)
   simp only[Nat.zero_add]at x0 x1 x2 x3 x4 x5 y0 y1 y2 y3 y4 y5
   have j1:(k:Int)<(ns.length:Int):=by omega
   have q1:g<wr.heap.size:=Nat.lt_of_lt_of_le hg hb.size
   have q2:g'<wr.heap.size:=Nat.lt_of_lt_of_le hg' hb.size
   cases e:ns[k]with | mk K N M S T ks=>
   rw[e]at x0 x1 x2 x3 x4 x5 y0 y1 y2 y3 y4 y5 hix hiy hkl
   simp only at x0 x1 x2 x3 x4 x5 y0 y1 y2 y3 y4 y5 hix hiy hkl
   have EN:Hid (∀W,Std wr W->Calls Tryz.prog 47 #[.agg #[.int .i64 K,.int .i64 N,.int .i64 M,.string S,.string T,.slice kx ks.length cx],.agg #[.int .i64 K,.int .i64 N,.int .i64 M,.string S,.string T,.slice ky ks.length cy]] W fun e w'=>e= .returned (.bool true)/\Below W.heap.size W w'):=
    fun W h=>eqNode_calls K N M S T ks kx ky cx cy W (hix.of h.2.2) (hiy.of h.2.2) hkl
   clear e hix hiy
   go_upto_region 6 with fail
   have h1:=Below.refl wr.heap.size wr
   have h2:=h1
   go_region_held3 (Std wr) (repeat(first | with_reducible assumption | with_reducible exact Std.refl _ | with_reducible refine Std.drew ?_ | with_reducible refine Std.alloc ?_ _ | with_reducible refine Std.setCell ?_ ?_ _ | with_reducible refine Std.call ?_ (by with_reducible assumption) | (simp<;>omega) | omega)) (first | (go_at_call 47;refine(unhide EN _ (by assumption)).mono ?_;rintro e w1 ⟨rfl,hb⟩;(first | have n3:=bT h2 hb | have n3:=bT (bA h2 _) hb | have n3:=bT (Below.drew h2) hb | have n3:=bT (Below.drew (bA h2 _)) hb | have n3:=bT (bA (Below.drew h2) _) hb);(first | have n2:=bT h1 hb | have n2:=bT (bA h1 _) hb | have n2:=bT (Below.drew h1) hb | have n2:=bT (Below.drew (bA h1 _)) hb | have n2:=bT (bA (Below.drew h1) _) hb);obtain⟨c1,f1⟩:=bcell hb;obtain⟨c2,f2⟩:=bcell n2;obtain⟨c3,f3⟩:=bcell n3;have hs:=hb.size;(try simp at hs);clear h1 h2;have h1:=hb;have h2:=n2;clear n2 hb))
   have hS:Std wr w1:=by assumption
   have d2:=bT hb hS.2.2
   go_wp2
   go_roundw
   case rel=>exact⟨k+1,by omega,by go_num,d2⟩
   case measure=>simp[intOf];omega
  ·go_wp2
   go_ret
   exact⟨rfl,hb⟩
theorem eqAst_calls(ns:List Nd)(g g' cap cap':Nat)(w:World)(hg:g<w.heap.size)(hg':g'<w.heap.size)(hx:NodesAt w g 0 ns)(hy:NodesAt w g' 0 ns)(b1:ns.length<=1048576)(hk: ∀n∈ns,n.Kids.length<=1048576):
  Calls Tryz.prog 6 #[.agg #[.slice (some ⟨g,0,none⟩) ns.length cap],.agg #[.slice (some ⟨g',0,none⟩) ns.length cap']] w fun e w'=>e= .returned (.bool true)/\Below w.heap.size w w':=by
 have EN:=fun W (hb:Below w.heap.size w W)=>eqNodeS_calls ns g g' cap cap' W (Nat.lt_of_lt_of_le hg hb.size) (Nat.lt_of_lt_of_le hg' hb.size) (hx.of hg hb) (hy.of hg' hb) b1 hk
 have HEN:=hide EN
 clear EN hx hy hk
 go_enter Tryz.func6,Tryz.ntmps6
 go_wp2_with fail
 refine(unhide HEN _ (bA (bA (Below.refl _ _) _) _)).mono ?_;rintro e w1 ⟨rfl,hb1⟩
 go_wp2
 go_ret
 exact⟨rfl,bT (bA (bA (Below.refl _ _) _) _) hb1⟩
end Go.Proofs.YtmggnimiioepeaaGreatDoor.AX
namespace Go.Proofs.YtmggnimiioepeaaGreatDoor.Pa
open Go Go.RowKit
def Hd(W:World)(na:Option Addr)(ns:List Nd):Prop:=ns=[]\/ ∃g,na=some ⟨g,0,none⟩/\g<W.heap.size/\AX.NodesAt W g 0 ns
theorem Hd.of{W W1:World}{na:Option Addr}{ns:List Nd}(h:Hd W na ns)(hb:Below W.heap.size W W1):Hd W1 na ns:=by
 rcases h with h | ⟨g,h1,h2,h3⟩
 ·exact Or.inl h
 ·exact Or.inr ⟨g,h1,Nat.lt_of_lt_of_le h2 hb.size,h3.of h2 hb⟩
theorem NS.hd{B:Nat}{W:World}{lab:Lbl}{na:Option Addr}{nc:Nat}{ns:List Nd}(h:NS B W lab na nc ns):Hd W na ns:=by
 by_cases e:ns=[]
 ·exact Or.inl e
 ·obtain⟨g,h1,_,h3,h4⟩:=h.nodes e
  exact Or.inr ⟨g,h1,h3,h4⟩
set_option maxHeartbeats 1000000 in
theorem eqNodeS_nil(a b:Option Addr)(c d:Nat)(w:World):Calls Tryz.prog 19 #[.slice a 0 c,.slice b 0 d] w fun e w'=>e= .returned (.bool true)/\Below w.heap.size w w':=by
 go_enter Tryz.func19,Tryz.ntmps19
 go_wp2
 go_loopw [5] (fun s wr=>s= .int .i64 0/\wr=w) (fun _ _=>0)
 case atStart=>exact⟨rfl,rfl⟩
 case round=>
  obtain⟨rfl,rfl⟩:=hrel
  go_wp2
  go_ret
  exact⟨rfl,Below.refl _ _⟩
theorem eqAst_any(ns:List Nd)(na nb:Option Addr)(cap cap':Nat)(w:World)(hx:Hd w na ns)(hy:Hd w nb ns)(b1:ns.length<=1048576)(hk: ∀n∈ns,n.Kids.length<=1048576):
  Calls Tryz.prog 6 #[.agg #[.slice na ns.length cap],.agg #[.slice nb ns.length cap']] w fun e w'=>e= .returned (.bool true)/\Below w.heap.size w w':=by
 by_cases e:ns=[]
 ·subst e
  have HEN:=hide (fun W=>eqNodeS_nil na nb cap cap' W)
  clear hx hy b1 hk
  go_enter Tryz.func6,Tryz.ntmps6
  go_wp2_with fail
  refine(unhide HEN _).mono ?_;rintro e w1 ⟨rfl,hb1⟩
  go_wp2
  go_ret
  exact⟨rfl,bT (bA (bA (Below.refl _ _) _) _) hb1⟩
 ·rcases hx with hx | ⟨g,rfl,h1,h2⟩
  ·exact absurd hx e
  rcases hy with hy | ⟨g',rfl,h3,h4⟩
  ·exact absurd hy e
  exact AX.eqAst_calls ns g g' cap cap' w h1 h3 h2 h4 b1 hk
set_option maxHeartbeats 1000000 in
theorem heldIntS_calls(n:Nat)(ka:Option Addr)(kc k:Nat)(w:World)(h:AX.KIx w ka (mIs k n))(b1:n<=1048576)(bk:k+n<=536870912):
  Calls Tryz.prog 50 #[.slice ka n kc,.int .i64 k] w fun e w'=>e= .returned (.int .i64 ((k+n:Nat):Int))/\Below w.heap.size w w':=by
 have HH:=hide h
 clear h
 go_enter Tryz.func50,Tryz.ntmps50
 go_wp2
 go_loopw [1,5] (fun c s wr=> ∃i:Nat,i<=n/\s= .int .i64 i/\c= .int .i64 ((k+i:Nat):Int)/\Below w.heap.size w wr) (fun _ s _=>n-(intOf s).toNat)
 case atStart=>exact⟨0,Nat.zero_le _,rfl,rfl,Below.refl _ _⟩
 case round=>
  obtain⟨i,hi,rfl,rfl,hb⟩:=hrel
  by_cases hlt:i<n
  ·have j1:(i:Int)<(n:Int):=by omega
   obtain⟨kg,rfl,hkg,hc⟩:=(unhide HH).of hb i _ (mIs_at k n i hlt)
   rw[Nat.zero_add]at hc
   obtain⟨j,hj⟩: ∃j,j=k+i:=⟨_,rfl⟩
   rw[<-hj]at hc⊢
   have jb:j<=536870912:=by omega
   have HJ:Hid (k+(i+1)=j+1):=by show _=_;omega
   have n0:((j:Int) !=(j:Int))=false:=by simp
   clear hj
   go_wp2
   go_roundw
   case rel=>exact⟨i+1,by omega,by go_num,by rw[unhide HJ];go_num,hb⟩
   case measure=>simp[intOf];omega
  ·obtain rfl:i=n:=by omega
   go_wp2
   go_ret
   exact⟨rfl,hb⟩
set_option maxHeartbeats 1000000 in
theorem heldNodeS_nil(a:Option Addr)(c k:Nat)(w:World):Calls Tryz.prog 21 #[.slice a 0 c,.int .i64 k] w fun e w'=>e= .returned (.int .i64 (k:Int))/\Below w.heap.size w w':=by
 go_enter Tryz.func21,Tryz.ntmps21
 go_wp2
 go_loopw [1,5] (fun c s wr=>s= .int .i64 0/\c= .int .i64 (k:Int)/\wr=w) (fun _ _ _=>0)
 case atStart=>exact⟨rfl,rfl,rfl⟩
 case round=>
  obtain⟨rfl,rfl,rfl⟩:=hrel
  go_wp2
  go_ret
  exact⟨rfl,Below.refl _ _⟩
set_option maxHeartbeats 1000000 in
theorem markNodeS_nil(a:Option Addr)(c k:Nat)(w:World):Calls Tryz.prog 20 #[.slice a 0 c,.int .i64 k] w fun e w'=>e= .returned (.int .i64 (k:Int))/\Below w.heap.size w w':=by
 go_enter Tryz.func20,Tryz.ntmps20
 go_wp2
 go_loopw [1,5] (fun c s wr=>s= .int .i64 0/\c= .int .i64 (k:Int)/\wr=w) (fun _ _ _=>0)
 case atStart=>exact⟨rfl,rfl,rfl⟩
 case round=>
  obtain⟨rfl,rfl,rfl⟩:=hrel
  go_wp2
  go_ret
  exact⟨rfl,Below.refl _ _⟩
set_option maxRecDepth 100000 in
set_option maxHeartbeats 8000000 in
theorem heldNodeS_calls(ns:List Nd)(g cap k:Nat)(w:World)(hg:g<w.heap.size)(h:AX.NodesAt w g 0 (mNds k ns))(b1:ns.length<=1048576)(b2: ∀n∈ns,n.Kids.length<=1048576)(bk0:1<=k)(bk:k+kA ns<=268435456):
  Calls Tryz.prog 21 #[.slice (some ⟨g,0,none⟩) ns.length cap,.int .i64 k] w fun e w'=>e= .returned (.int .i64 ((k+kA ns:Nat):Int))/\Below w.heap.size w w':=by
 have HNd:=hide h;have HB2:=hide b2
 clear h b2
 go_enter Tryz.func21,Tryz.ntmps21
 go_wp2
 go_loopw [1,5] (fun c s wr=> ∃i:Nat,i<=ns.length/\s= .int .i64 i/\c= .int .i64 ((k+kA (ns.take i):Nat):Int)/\Below w.heap.size w wr) (fun _ s _=>ns.length-(intOf s).toNat)
 case atStart=>exact⟨0,Nat.zero_le _,rfl,by simp[kA],Below.refl _ _⟩
 case round=>
  obtain⟨i,hi,rfl,rfl,hb⟩:=hrel
  by_cases hlt:i<ns.length
  ·have j1:(i:Int)<(ns.length:Int):=by omega
   obtain⟨⟨c0,c1,c2,c3,c4⟩,ka,kc,c5,hki⟩:=(unhide HNd).of hg hb i _ (mNds_at k ns i hlt)
   rw[Nat.zero_add]at c0 c1 c2 c3 c4 c5
   have x1:=unhide HB2 _ (List.getElem_mem hlt)
   have hk1:=kA_take ns i hlt
   have hk2:=kA_take_le ns (i+1)
   obtain⟨j,hj⟩: ∃j,j=k+kA (ns.take i):=⟨_,rfl⟩
   have hjb:j+(5+(ns[i]).Kids.length)<=268435456:=by omega
   have hj1:1<=j:=by omega
   obtain⟨m,hm⟩: ∃m,m=(ns[i]).Kids.length:=⟨_,rfl⟩
   have HK1:Hid (k+kA (ns.take (i+1))=j+5+m):=by show _=_;omega
   rw[<-hj]at c0 c1 c2 c3 c4 c5 hki⊢
   simp only[mNd,mIs_len]at c0 c1 c2 c3 c4 c5 hki
   rw[<-hm]at c5 hki x1 hjb
   have q1:g<wr.heap.size:=Nat.lt_of_lt_of_le hg hb.size
   have n0:((j:Int) !=(j:Int))=false:=by simp
   have n1:(((j:Int)+1) !=((j:Int)+1))=false:=by simp
   have n2:(((j:Int)+1+1) !=((j:Int)+1+1))=false:=by simp
   obtain⟨s3,hs3⟩: ∃s3,s3=mtx (j+3):=⟨_,rfl⟩
   obtain⟨s4,hs4⟩: ∃s4,s4=mtx (j+4):=⟨_,rfl⟩
   have HM3:Hid (∀W,Calls Tryz.prog 48 #[.int .i64 ((j:Int)+1+1+1)] W fun e w'=>e= .returned (.string s3)/\Below W.heap.size W w'):=fun W=>by
    rw[hs3,show(j:Int)+1+1+1=((j+3:Nat):Int)by omega]
    exact markText_fun (j+3) W (by omega) (by omega)
   have HM4:Hid (∀W,Calls Tryz.prog 48 #[.int .i64 ((j:Int)+1+1+1+1)] W fun e w'=>e= .returned (.string s4)/\Below W.heap.size W w'):=fun W=>by
    rw[hs4,show(j:Int)+1+1+1+1=((j+4:Nat):Int)by omega]
    exact markText_fun (j+4) W (by omega) (by omega)
   rw[<-hs3]at c3
   rw[<-hs4]at c4
   have HKi:=hide hki;have HB:=hide hb
   have es3:(s3.toList==s3.toList)=true:=by simp
   have es3':(s3.toList !=s3.toList)=false:=by simp
   have es4:(s4.toList==s4.toList)=true:=by simp
   have es4':(s4.toList !=s4.toList)=false:=by simp
   clear hj hk1 hk2 hm hs3 hs4 hki hb
   go_upto_region 13 with fail
   refine wp_region_held_drew (S:=Std wr) (by kernel_rfl) (Std.drew (Std.refl _)) (fun hHeld=> ?_)
   refine tW 0 39 (.slice (some ⟨g,0,none⟩) ns.length cap) ?_
   simp only[puts]
   refine tW 1 40 (.int .i64 (i:Int)) ?_
   simp only[puts]
   refine tW 2 41 (.pointer (some ⟨g,i*6,none⟩)) ?_
   simp only[puts]
   refine tW 3 42 (.pointer (some ⟨g,i*6+3,none⟩)) ?_
   simp only[puts]
   refine tW 4 43 (.string s3) ?_
   simp only[puts]
   refine tW 5 44 (.int .i64 ((j:Int)+1+1+1)) ?_
   simp only[puts]
   refine wpAnyH_ready (rs:=[6]) (by kernel_rfl) (by simp) ?_
   refine AllReadyH.cons rfl (fun Kx hK=> ?_) AllReadyH.nil
   go_simp
   have HSd:Hid (Std wr wr.drew):=Std.drew (Std.refl _)
   generalize wr.drew=wd at*
   refine(unhide HM3 wd).mono ?_
   rintro e wa ⟨rfl,hb2⟩
   have hSa:Std wr wa:=Std.call (unhide HSd) hb2
   refine hK.out _ _ hSa (fun hHeld2=> ?_)
   clear hK Kx hb2
   refine tW 7 46 (.bool false) ?_
   simp only[puts]
   refine wpAnyH_done (by kernel_rfl) ?_ _
   have hba:Below wr.heap.size wr wa:=hSa.2.2
   have qa:g<wa.heap.size:=Nat.lt_of_lt_of_le q1 hba.size
   have d4:=(hba.cell (p:=⟨g,i*6+4,none⟩) q1).trans c4
   have d5:=(hba.cell (p:=⟨g,i*6+5,none⟩) q1).trans c5
   have HKa:=hide ((unhide HKi).of hba)
   have HBa:=hide (bT (unhide HB) hba)
   clear hHeld hHeld2 HSd hSa hba c0 c1 c2 c3 c4 c5 HKi HB HM3 n0 n1 n2 es3 es3' q1
   go_upto_region 16 with fail
   refine wp_region_held_drew (S:=Std wa) (by kernel_rfl) (Std.drew (Std.refl _)) (fun hHeld=> ?_)
   refine tW 0 49 (.slice (some ⟨g,0,none⟩) ns.length cap) ?_
   simp only[puts]
   refine tW 1 50 (.int .i64 (i:Int)) ?_
   simp only[puts]
   refine tW 2 51 (.pointer (some ⟨g,i*6,none⟩)) ?_
   simp only[puts]
   refine tW 3 52 (.pointer (some ⟨g,i*6+4,none⟩)) ?_
   simp only[puts]
   refine tW 4 53 (.string s4) ?_
   simp only[puts]
   refine tW 5 54 (.int .i64 ((j:Int)+1+1+1+1)) ?_
   simp only[puts]
   refine wpAnyH_ready (rs:=[6]) (by kernel_rfl) (by simp) ?_
   refine AllReadyH.cons rfl (fun Kx hK=> ?_) AllReadyH.nil
   go_simp
   have HSd:Hid (Std wa wa.drew):=Std.drew (Std.refl _)
   generalize wa.drew=we at*
   refine(unhide HM4 we).mono ?_
   rintro e wf ⟨rfl,hb2⟩
   have hSa:Std wa wf:=Std.call (unhide HSd) hb2
   refine hK.out _ _ hSa (fun hHeld2=> ?_)
   clear hK Kx hb2
   refine tW 7 56 (.bool false) ?_
   simp only[puts]
   refine wpAnyH_done (by kernel_rfl) ?_ _
   have hbf:Below wa.heap.size wa wf:=hSa.2.2
   have qf:g<wf.heap.size:=Nat.lt_of_lt_of_le qa hbf.size
   have f5:=(hbf.cell (p:=⟨g,i*6+5,none⟩) qa).trans d5
   have HMI:Hid (∀kz:Int,kz=((j+5:Nat):Int)->Calls Tryz.prog 50 #[.slice ka m kc,.int .i64 kz] wf fun e w'=>e= .returned (.int .i64 ((j+5+m:Nat):Int))/\Below wf.heap.size wf w'):=fun kz hkz=>by
    subst hkz
    exact heldIntS_calls m ka kc (j+5) wf ((unhide HKa).of hbf) x1 (by omega)
   have HBf:=hide (bT (unhide HBa) hbf)
   clear hHeld hHeld2 HSd hSa hbf d4 d5 HKa HBa HM4 es4 es4' qa
   go_wp2_with fail
   refine(unhide HMI _ (by push_cast;omega)).mono ?_;rintro e wz ⟨rfl,hbz⟩
   have HBz:=hide (bT (unhide HBf) hbz)
   obtain⟨jz,hjz⟩: ∃jz,jz=j+5+m:=⟨_,rfl⟩
   rw[<-hjz]at HK1⊢
   have jzb:jz<=268435456:=by omega
   have jz0: ¬(jz:Int)<0:=by omega
   clear hjz hbz HBf HMI
   go_wp2
   go_roundw
   case rel=>exact⟨i+1,by omega,by go_num,by rw[unhide HK1],unhide HBz⟩
   case measure=>simp[intOf];omega
  ·obtain rfl:i=ns.length:=by omega
   rw[List.take_length]
   clear HNd HB2
   go_wp2
   go_ret
   exact⟨rfl,hb⟩
theorem heldAst_any(ns:List Nd)(na:Option Addr)(cap k:Nat)(w:World)(h:Hd w na (mNds k ns))(b1:ns.length<=1048576)(b2: ∀n∈ns,n.Kids.length<=1048576)(bk0:1<=k)(bk:k+kA ns<=268435456):
  Calls Tryz.prog 8 #[.agg #[.slice na ns.length cap],.int .i64 k] w fun e w'=>e= .returned (.int .i64 ((k+kA ns:Nat):Int))/\Below w.heap.size w w':=by
 have HM:Hid (∀W,Below w.heap.size w W->Calls Tryz.prog 21 #[.slice na ns.length cap,.int .i64 k] W fun e w'=>e= .returned (.int .i64 ((k+kA ns:Nat):Int))/\Below W.heap.size W w'):=fun W hb=>by
  rcases h.of hb with h0 | ⟨g,rfl,h1,h2⟩
  ·have e:ns=[]:=List.eq_nil_of_length_eq_zero (by rw[<-mNds_length k ns,h0];rfl)
   subst e
   exact heldNodeS_nil na cap k W
  ·exact heldNodeS_calls ns g cap k W h1 h2 b1 b2 bk0 bk
 obtain⟨z,hz⟩: ∃z,z=k+kA ns:=⟨_,rfl⟩
 rw[<-hz]at HM bk⊢
 have jz0: ¬(z:Int)<0:=by omega
 clear h b2 hz
 go_enter Tryz.func8,Tryz.ntmps8
 go_wp2_with fail
 refine(unhide HM _ (bA (Below.refl _ _) _)).mono ?_;rintro e w1 ⟨rfl,hB⟩
 have HB:=hide (bT (bA (Below.refl _ _) _) hB)
 clear hB HM
 go_wp2
 go_ret
 exact⟨rfl,unhide HB⟩
def clip(B:Nat)(lab:Lbl):Lbl:=fun b=>if b<B then none else lab b
theorem clip_low{B:Nat}{lab:Lbl}{b i:Nat}(h:clip B lab b=some i):B<=b:=by
 unfold clip at h
 split at h
 ·cases h
 ·omega
theorem own_cells{w:World}{B e size n:Nat}{G cap:Nat}{xs:List Value}(h:w.ownsRow B e size (.slice (some ⟨G,0,none⟩) n cap) n xs):B<=G/\G<w.heap.size/\(∀p,w.frozen? ⟨G,p,none⟩=false):=by
 rcases h.2 with⟨e1,_⟩ | ⟨g,c,cur,e1,e2,e3,_⟩
 ·cases e1
 ·simp only[Value.slice.injEq,Option.some.injEq,Addr.mk.injEq,and_true]at e1
  obtain⟨rfl,_,_⟩:=e1
  refine⟨e2,(Array.getElem?_eq_some_iff.1 e3).1,fun p=> ?_⟩
  simp[World.frozen?,e3]
theorem NS.marks{B:Nat}{W:World}{lab:Lbl}{na:Option Addr}{nc:Nat}{ns:List Nd}(h:NS B W lab na nc ns)(hn:ns≠[]): ∃G,na=some ⟨G,0,none⟩/\B<=G/\G<W.heap.size/\clip B lab G=none/\ ∀i n,ns[i]?=some n->NM W (clip B lab) G i n:=by
 obtain⟨G,rfl,h1,h2,_⟩:=h.nodes hn
 obtain⟨qs,e,ho,hk⟩:=h.ex
 obtain⟨_,_,hfz⟩:=own_cells ho
 refine⟨G,rfl,h1,h2,by unfold clip;rw[h.off G rfl];split<;>rfl,fun i n hi=> ?_⟩
 have hil:=(List.getElem?_eq_some_iff.1 hi).1
 rw[<-e]at hi
 simp only[List.getElem?_map,Option.map_eq_some_iff]at hi
 obtain⟨q,hq,rfl⟩:=hi
 have hc: ∀j,j<6->W.cell? ⟨G,i*6+j,none⟩=(cNv q)[j]?:=fun j hj=>by
  rw[ho.cellAt (i*6+j) (by omega)]
  exact cNv_at qs i q hq j hj
 refine⟨q.ka,q.kc,⟨h2,hfz,fun r v hv=> ?_⟩,?_⟩
 ·have hr:r<6:=(List.getElem?_eq_some_iff.1 hv).1
  rw[hc r hr]
  exact hv
 ·obtain⟨hk1,hk2⟩:=hk i q hq
  obtain⟨n,ka,kc⟩:=q
  by_cases e0:n.Kids=[]
  ·exact Or.inl e0
  ·rcases hk1.2 with⟨_,e2⟩ | ⟨kg,cap,cur,e1,e2,e3,e4⟩
   ·exact absurd (List.eq_nil_of_length_eq_zero e2) e0
   ·simp only[Value.slice.injEq]at e1
    obtain⟨rfl,_,rfl⟩:=e1
    obtain⟨g1,g2,g3⟩:=own_cells hk1
    refine Or.inr ⟨kg,rfl,?_,g2,g3,fun o x hx=> ?_⟩
    ·unfold clip
     rw[if_neg (by omega)]
     exact hk2 kg rfl
    ·have ho':=(List.getElem?_eq_some_iff.1 hx).1
     rw[hk1.cellAt o (by simpa using ho')]
     simp[iV,hx]
theorem clip_some{B:Nat}{lab:Lbl}{b i:Nat}(h:clip B lab b=some i):lab b=some i:=by
 unfold clip at h
 split at h
 ·cases h
 ·exact h
theorem markAst_any{B hi:Nat}{lab:Lbl}{nc:Nat}(ns:List Nd)(na:Option Addr)(cap k:Nat)(w:World)(h:NS B w lab na nc ns)(h1: ∀b,blk na=some b->b<hi)(h2: ∀b i,lab b=some i->b<hi)(b1:ns.length<=1048576)(b2: ∀n∈ns,n.Kids.length<=1048576)(bk0:1<=k)(bk:k+kA ns<=268435456):
  Calls Tryz.prog 7 #[.agg #[.slice na ns.length cap],.int .i64 k] w fun e w'=>e= .returned (.int .i64 ((k+kA ns:Nat):Int))/\Hd w' na (mNds k ns)/\ButM (fun b=>B<=b/\b<hi) w w':=by
 have HM:Hid (∀W,Below w.heap.size w W->Calls Tryz.prog 20 #[.slice na ns.length cap,.int .i64 k] W fun e w'=>e= .returned (.int .i64 ((k+kA ns:Nat):Int))/\Hd w' na (mNds k ns)/\ButM (fun b=>B<=b/\b<hi) W w'):=fun W hb=>by
  by_cases e:ns=[]
  ·subst e
   exact(markNodeS_nil na cap k W).mono (fun e w' hh=>⟨hh.1,Or.inl rfl,ButM.ofBelow hh.2⟩)
  ·obtain⟨G,rfl,g1,g2,g3,g4⟩:=(h.of hb).marks e
   refine(markNodeS_all ns (clip B lab) G cap k W g3 g4 b1 b2 bk0 bk).mono (fun e w' hh=>⟨hh.1,Or.inr ⟨G,rfl,Nat.lt_of_lt_of_le g2 hh.2.2.size,NM.nodes hh.2.1⟩,hh.2.2.mono (fun b hb=> ?_)⟩)
   rcases hb with rfl | ⟨i,hi⟩
   ·exact⟨g1,h1 _ rfl⟩
   ·exact⟨clip_low hi,h2 b i (clip_some hi)⟩
 clear h b2 h1 h2
 go_enter Tryz.func7,Tryz.ntmps7
 go_wp2_with fail
 refine(unhide HM _ (bA (Below.refl _ _) _)).mono ?_;rintro e w1 ⟨rfl,hH,hBw⟩
 have HH:=hide hH
 have HB:=hide ((ButM.ofBelow (S:=fun b=>B<=b/\b<hi) (bA (Below.refl w.heap.size w) (.cells #[.slice na ns.length cap] 24))).trans hBw)
 clear hH hBw HM
 go_wp2
 go_ret
 exact⟨rfl,unhide HH,unhide HB⟩
end Go.Proofs.YtmggnimiioepeaaGreatDoor.Pa
namespace Go.Proofs.YtmggnimiioepeaaGreatDoor.Pa
open Go Go.RowKit
def ParE(s:ByteArray)(w:World)(e:Ending)(w':World):Prop:=
 ∃na nc lab,e= .returned (.tuple #[.agg #[.slice na (parF s).1.length nc],.int .i64 (parF s).2])/\NS w.heap.size w' lab na nc (parF s).1/\Below w.heap.size w w'
theorem NS.nil0(B:Nat)(W:World):NS B W (fun _=>none) none 0 []:=⟨⟨[],rfl,⟨rfl,Or.inl ⟨rfl,rfl⟩⟩,fun i q h=>by simp at h⟩,fun _ _=>rfl,fun _ _ h=>by cases h⟩
theorem NS.empty{B:Nat}{W:World}(hB:B<=W.heap.size):NS B (W.alloc (.cells #[] 62)) (fun _=>none) (some ⟨W.heap.size,0,none⟩) 0 []:=
 ⟨⟨[],rfl,⟨rfl,Or.inr ⟨W.heap.size,0,#[],rfl,hB,heap_alloc_new W _,Nat.le_refl _,by unfold maxLen;omega,rfl,rfl⟩⟩,fun i q h=>by simp at h⟩,fun _ _=>rfl,fun _ _ h=>by cases h⟩
theorem own_base{w:World}{B B' e size n:Nat}{v:Value}{xs:List Value}(h:w.ownsRow B e size v n xs)(hB:B'<=B):w.ownsRow B' e size v n xs:=⟨h.1,h.2.imp id (fun⟨g,cap,cur,h1,h2,h3⟩=>⟨g,cap,cur,h1,Nat.le_trans hB h2,h3⟩)⟩
theorem NS.base{B B':Nat}{W:World}{lab:Lbl}{na:Option Addr}{nc:Nat}{ns:List Nd}(h:NS B W lab na nc ns)(hB:B'<=B):NS B' W lab na nc ns:=by
 obtain⟨qs,e,ho,hk⟩:=h.ex
 exact⟨⟨qs,e,own_base ho hB,fun i q hq=>⟨own_base (hk i q hq).1 hB,(hk i q hq).2⟩⟩,h.off,h.rng⟩
theorem ParE.no{s:ByteArray}{w w':World}{k:Int}(h:parF s=([],k))(hb:Below w.heap.size w w'):ParE s w (.returned (.tuple #[.agg #[.slice none 0 0],.int .i64 k])) w':=⟨none,0,fun _=>none,by rw[h];rfl,by rw[h];exact NS.nil0 _ _,hb⟩
theorem sgm_all(ts:List Tok):sgm ts 0 ts.length=ts:=by simp[sgm]
end Go.Proofs.YtmggnimiioepeaaGreatDoor.Pa
namespace Go.Proofs.YtmggnimiioepeaaGreatDoor.Pa
open Go Go.RowKit
set_option maxHeartbeats 8000000 in
theorem mostOpen_calls(L:List (Tok×ByteArray))(a:Option Addr)(c:Nat)(w:World)(hL:L.length<=1000000)(hT:TksI w a L):Calls Tryz.prog 14 #[.slice a L.length c] w fun e w'=>e= .returned (.int .i64 (brks (tks L)).2.1)/\Below w.heap.size w w':=by
 have HT:=hide hT
 clear hT
 go_enter Tryz.func14,Tryz.ntmps14
 go_wp2
 go_loopw [3,4,9] (fun o m i wr=> ∃k:Nat,k<=L.length/\i= .int .i64 k/\m= .int .i64 (brks ((tks L).take k)).2.1/\o= .int .i64 (brks ((tks L).take k)).1/\Below w.heap.size w wr) (fun _ _ i _=>L.length-(intOf i).toNat)
 case atStart=>exact⟨0,Nat.zero_le _,rfl,rfl,rfl,Below.refl _ _⟩
 case round=>
  obtain⟨k,hk,rfl,rfl,rfl,hb⟩:=hrel
  have HB:=hide hb
  clear hb
  have hbd:=brks_bound ((tks L).take k)
  have hlen:((tks L).take k).length=k:=by simp;omega
  rw[hlen]at hbd
  clear hlen
  by_cases hlt:k<L.length
  ·obtain⟨⟨t,S⟩,hp⟩: ∃p,L[k]?=some p:=⟨L[k],List.getElem?_eq_getElem hlt⟩
   obtain⟨hok,g,rfl,hg,hcs⟩:=((unhide HT).of (unhide HB)) k _ hp
   obtain⟨KK,V,hform⟩:=tkI_form t S
   simp only[hform]at hcs
   have c0:wr.cell? ⟨g,k*3,none⟩=some (.int .i64 KK):=hcs 0 (by omega)
   have c1:wr.cell? ⟨g,k*3+1,none⟩=some (.string S):=hcs 1 (by omega)
   have c2:wr.cell? ⟨g,k*3+2,none⟩=some (.int .i64 V):=hcs 2 (by omega)
   have HNx:=hide (tks_take L k _ hp)
   have HSn:=hide (brks_snoc ((tks L).take k) t)
   have t0:(S.toList==[40])=decide (t=pO):=text_beq hok 0 (by omega)
   have t1:(S.toList==[41])=decide (t=pC):=text_beq hok 1 (by omega)
   clear hcs hform hok hp
   generalize brks ((tks L).take k)=st at*
   obtain⟨O,M,Fb⟩:=st
   simp only at hbd
   have j1:(k:Int)<(L.length:Int):=by omega
   by_cases hO:t=pO
   ·skip
    rw[decide_eq_true hO]at t0
    rw[decide_eq_false (by rw[hO];decide)]at t1
    have HD:Hid (dlt t=1):=by
     show _=_
     unfold dlt
     rw[if_pos hO]
    have HSn2:Hid ((brks ((tks L).take (k+1))).1=(O+1)/\(brks ((tks L).take (k+1))).2.1=max M (O+1)):=by
     show _/\_
     rw[unhide HNx,unhide HSn]
     unfold stp1
     rw[unhide HD]
     exact⟨by show O+1=_;omega,by show max M (O+1)=_;first | rfl | (congr 1;omega)⟩
    clear HNx HSn HD hO
    go_wp2
    go_roundw
    case rel=>exact⟨k+1,by omega,by go_num,by rw[(unhide HSn2).2],by rw[(unhide HSn2).1],bA (unhide HB) _⟩
    case measure=>simp[intOf];omega
   by_cases hC:t=pC
   ·skip
    rw[decide_eq_false hO]at t0
    rw[decide_eq_true hC]at t1
    have HD:Hid (dlt t= -1):=by
     show _=_
     unfold dlt
     rw[if_neg hO,if_pos hC]
    have HSn2:Hid ((brks ((tks L).take (k+1))).1=(O-1)/\(brks ((tks L).take (k+1))).2.1=max M (O-1)):=by
     show _/\_
     rw[unhide HNx,unhide HSn]
     unfold stp1
     rw[unhide HD]
     exact⟨by show O+ -1=_;omega,by show max M (O+ -1)=_;first | rfl | (congr 1;omega)⟩
    clear HNx HSn HD hO hC
    go_wp2
    go_roundw
    case rel=>exact⟨k+1,by omega,by go_num,by rw[(unhide HSn2).2],by rw[(unhide HSn2).1],bA (unhide HB) _⟩
    case measure=>simp[intOf];omega
   rw[decide_eq_false hO]at t0
   rw[decide_eq_false hC]at t1
   have HD:Hid (dlt t=0):=by
    show _=_
    unfold dlt
    rw[if_neg hO,if_neg hC]
   have HSn2:Hid ((brks ((tks L).take (k+1))).1=O/\(brks ((tks L).take (k+1))).2.1=max M O):=by
    show _/\_
    rw[unhide HNx,unhide HSn]
    unfold stp1
    rw[unhide HD]
    exact⟨by show O+0=_;omega,by show max M (O+0)=_;first | rfl | (congr 1;omega)⟩
   clear HNx HSn HD hO hC
   go_wp2
   go_roundw
   case rel=>exact⟨k+1,by omega,by go_num,by rw[(unhide HSn2).2],by rw[(unhide HSn2).1],bA (unhide HB) _⟩
   case measure=>simp[intOf];omega
  ·obtain rfl:k=L.length:=by omega
   have HE:Hid ((tks L).take L.length=tks L):=List.take_of_length_le (by simp)
   clear hbd
   go_wp2
   go_ret
   exact⟨congrArg (fun l=>Ending.returned (.int .i64 (brks l).2.1)) (unhide HE),unhide HB⟩
end Go.Proofs.YtmggnimiioepeaaGreatDoor.Pa
