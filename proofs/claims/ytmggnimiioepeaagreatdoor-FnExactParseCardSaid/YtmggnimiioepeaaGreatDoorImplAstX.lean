import Derived.Test.YtmggnimiioepeaaGreatDoorQ0
import Derived.Test.YtmggnimiioepeaaGreatDoorQ2
import Derived.Test.YtmggnimiioepeaaGreatDoorQ27
import Derived.Test.YtmggnimiioepeaaGreatDoorQ1
import Derived.Test.YtmggnimiioepeaaGreatDoorQ16
import Derived.Test.YtmggnimiioepeaaGreatDoorQ28
import Derived.Test.YtmggnimiioepeaaGreatDoorKidFns
namespace Go.Proofs.YtmggnimiioepeaaGreatDoor.AX
open Go Go.RowKit
theorem _root_.Go.Proofs.YtmggnimiioepeaaGreatDoor.OwnInts.ofB{w w1:World}{B g n:Nat}{xs:List Int}(h:OwnInts w g n xs)(hg:g<B)(hb:Below B w w1):OwnInts w1 g n xs:=
 ⟨Nat.lt_of_lt_of_le h.size hb.size,fun o=>(hb.frozen (p:=⟨g,o,none⟩) hg).trans (h.frz o),fun o ho=>by
  obtain⟨v,hv⟩:=h.all o ho
  exact⟨v,(hb.cell (p:=⟨g,o,none⟩) hg).trans hv⟩,fun i x hx=>(hb.cell (p:=⟨g,0+i,none⟩) hg).trans (h.held i x hx)⟩
set_option maxHeartbeats 8000000 in
set_option maxRecDepth 10000 in
theorem AstOk_calls(ns:List Nd)(g cap:Nat)(w:World)(hg:g<w.heap.size)(hn:NodesAt w g 0 ns)(hb0:ns.length<=1048576)(hsm:Small ns)(hTK:TKw w)(hTR:TRules w):
  Calls Tryz.prog 18 #[.agg #[.slice (some ⟨g,0,none⟩) ns.length cap]] w fun e w'=>e= .returned (.bool (dB (IV ns)))/\Below w.heap.size w w':=by
 cases h1:((ns.length:Int)==0)
 rotate_left
 ·have HE:Hid (dB (IV ns)=false):=dB_false (fun h=>by have:=h.lo;simp at h1;rw[h1]at this;simp at this)
  clear hn hsm hTK hTR
  go_enter Tryz.func18,Tryz.ntmps18
  go_wp2
  go_ret
  exact⟨congrArg (fun z=>Ending.returned (.bool z)) HE.out.symm,bA (Below.refl _ _) _⟩
 by_cases h2:(10000:Int)<(ns.length:Int)
 ·have HE:Hid (dB (IV ns)=false):=dB_false (fun h=>by have:=h.hi;omega)
  clear hn hsm hTK hTR
  go_enter Tryz.func18,Tryz.ntmps18
  go_wp2
  go_ret
  exact⟨congrArg (fun z=>Ending.returned (.bool z)) HE.out.symm,bA (Below.refl _ _) _⟩
 have hlo:1<=ns.length:=by
  have:=beq_eq_false_iff_ne.1 h1
  omega
 have hb1:ns.length<=10000:=by omega
 have hmk:=make_ints ns.length hb0
 have HN:=hide hn;have HSM:=hide hsm;have HTK:=hide hTK;have HTR:=hide hTR
 clear hn hsm hTK hTR
 go_enter Tryz.func18,Tryz.ntmps18
 go_wp2
 go_loopw [3,5,6,7,8,9,10,28] (fun lo _ _ _ _ _ _ c wr=> ∃(k:Nat) (L:List Int) (ao:Option Addr) (lc:Nat),k<=ns.length/\c= .int .i64 k/\lo= .slice ao L.length lc/\wr.ownsRow (w.heap.size+2) 3 1 lo L.length (vInts L)/\Seg ns 0 k L/\
   (∀(i:Nat) (hi:i<ns.length),i<k->FitI ns[i] (kindsOf ns (ns[i]).Kids)/\dep ns i<=200)/\OwnInts wr (w.heap.size+1) ns.length (dl ns ns.length k)/\
   wr.cell? ⟨w.heap.size,0,none⟩=some (.slice (some ⟨g,0,none⟩) ns.length cap)/\w.heap.size+1<wr.heap.size/\Below w.heap.size w wr) (fun _ _ _ _ _ _ _ c _=>ns.length-(intOf c).toNat)
 case atStart=>
  refine⟨0,[],none,0,Nat.zero_le _,rfl,rfl,World.ownsRow_nil _ _ _ _,Seg.nil 0,fun i hi h=>by omega,?_,?_,?_,?_⟩
  ·have:=madeInts (w.alloc (.cells #[.slice (some ⟨g,0,none⟩) ns.length cap] 24)) ns.length 3
   simpa[dl,depTo]using this
  ·simp[go_sem]
  ·simp
  ·exact bA (bA (Below.refl _ _) _) _
 case round=>
  clear hmk
  obtain⟨k,L,ao,lc,hk,rfl,rfl,hown,hseg,hfit,hD,ba,hs1,hb⟩:=hrel
  by_cases hlt:k<ns.length
  ·obtain⟨hc5,ka,kc,c5w,hksw⟩:=(unhide HN).at k hlt
   obtain⟨c0,c1,c2,c3,c4⟩:=hc5.of hg hb
   have c5:=(hb.cell (p:=⟨g,0+k*6+5,none⟩) hg).trans c5w
   clear hc5 c5w
   have hka:kidsAt ns k=(ns[k]).Kids:=kidsAt_some (List.getElem?_eq_getElem hlt)
   have hstep:=fun h:IV ns=>iv_step h hlt hseg
   have hpush:=fun h1 h2=>hseg.push (k:=k) h1 h2
   have hlenL:=hseg.len
   have hdep:dep ns k=most (depTo ns k) (kidsAt ns k)+1:=rfl
   have hfk:FitI ns[k] (kindsOf ns (ns[k]).Kids)↔(Flds ns[k]/\KidsI (ns[k]).K (ns[k]).N (kindsOf ns (ns[k]).Kids)):=Iff.rfl
   obtain⟨hS,hT,hkl⟩:=unhide HSM _ (List.getElem_mem hlt)
   rw[hka]at hpush hdep
   cases e:ns[k]with | mk K N M S T ks=>
   rw[e]at c0 c1 c2 c3 c4 c5 hksw hstep hpush hdep hfk hS hT hkl hka
   simp only[Nat.zero_add]at c0 c1 c2 c3 c4 c5 hksw hstep hpush hdep hfk hS hT hkl hka
   have j1:(k:Int)<(ns.length:Int):=by omega
   have q1:g<wr.heap.size:=Nat.lt_of_lt_of_le hg hb.size
   have hFr:FrA (wr.alloc (.cells #[.int .i64 K,.int .i64 N,.int .i64 M,.string S,.string T,.slice ka ks.length kc] 62)) w (w.heap.size+2) g ns.length cap wr.heap.size ⟨K,N,M,S,T,ks⟩ ka kc (.slice ao L.length lc) L:=
    ⟨((Below.refl _ _).alloc (Nat.le_refl _) _ |>.cell (p:=⟨w.heap.size,0,none⟩) (by show w.heap.size<_;omega)).trans ba,by simp[go_sem],by simp[go_sem],by simp[go_sem],by simp[go_sem],by simp[go_sem],by simp[go_sem],by simp,by simp;omega,own_below hown ((Below.refl _ _).alloc (Nat.le_refl _) _),bA hb _⟩
   have hD1:=hD.of ((Below.refl wr.heap.size wr).alloc (Nat.le_refl _) (.cells #[.int .i64 K,.int .i64 N,.int .i64 M,.string S,.string T,.slice ka ks.length kc] 62))
   have FF:=fun W (hbw:Below w.heap.size w W)=>fieldsFit_calls K N M S T ks (.slice ka ks.length kc) W hS hT ((unhide HTK).of hbw) ((unhide HTR).of hbw)
   have HStep:=hide hstep;have HPush:=hide hpush;have HDep:=hide hdep;have HFk:=hide hfk;have HFr:=hide hFr;have HD1:=hide hD1;have HKs:=hide hksw;have HE':=hide e;have HKA:=hide hka;have HSeg:=hide hseg;have HFit:=hide hfit
   have hmk:=make_ints ks.length hkl
   clear hstep hpush hdep hfk hFr hD1 hD hseg hfit e hka hown hksw
   have hFl:dB (Flds ⟨K,N,M,S,T,ks⟩)=true↔Flds ⟨K,N,M,S,T,ks⟩:=dB_iff
   generalize dB (Flds ⟨K,N,M,S,T,ks⟩)=b1 at*
   have HFl:=hide hFl;have HFF:=hide FF
   clear hFl FF
   have hLb:L.length<=10000:=by omega
   cases b1
   ·have HE:Hid (dB (IV ns)=false):=dB_false (fun h=>by have:=(unhide HFl).2 (unhide HStep h).1;cases this)
    go_upto_region 9 with fail
    have HFr1:=unhide HFr
    have HD2:=unhide HD1
    generalize wr.alloc (.cells #[.int .i64 K,.int .i64 N,.int .i64 M,.string S,.string T,.slice ka ks.length kc] 62)=wb at*
    have R:Hid (∀W,Std wb W->Calls Tryz.prog 43 #[.agg #[.int .i64 K,.int .i64 N,.int .i64 M,.string S,.string T,.slice ka ks.length kc]] W fun e w'=>e= .returned (.bool false)/\Below W.heap.size W w'):=fun W h=>unhide HFF W (bT HFr1.below h.2.2)
    obtain⟨ba1,n0,n1,n2,n3,n4,n5,sz1,sa1,own1,hbw1⟩:=HFr1
    simp only at n0 n1 n2 n3 n4 n5
    have HOwn1:=hide own1
    clear own1
    have HDD:=hide HD2
    clear HD2 HFF HFr HD1
    have h1:=Below.refl wb.heap.size wb
    have h2:=h1
    clear HStep HPush HDep HFk HKs HE' HKA HSeg HFit HFl HN HSM HTK HTR HOwn1 HDD hmk ba
    refine wp_region_held_drew (S:=Std wb) (by kernel_rfl) (Std.drew (Std.refl _)) (fun hHeld=> ?_)
    refine takeW 0 39 (.agg #[.int .i64 K,.int .i64 N,.int .i64 M,.string S,.string T,.slice ka ks.length kc]) rfl rfl (by kernel_rfl) (by kernel_rfl) (by kernel_rfl) (fun _ _ _ h=>h) rfl (fun wx hSw=>by obtain⟨hs1,_,_⟩:=hSw;go_simp) (by assumption) ?_
    simp only[puts]
    refine wpAnyH_ready (rs:=[1]) (by kernel_rfl) (by simp) ?_
    refine AllReadyH.cons rfl (fun Kx hK=> ?_) AllReadyH.nil
    go_simp
    refine(unhide R _ (by assumption)).mono ?_
    rintro e w2 ⟨rfl,hb2⟩
    refine hK.out _ _ (Std.call (by assumption) hb2) (fun hHeld2=> ?_)
    clear hK Kx
    refine takeW 2 41 (.bool true) rfl rfl (by kernel_rfl) (by kernel_rfl) (by kernel_rfl) (fun _ _ _ h=>h) rfl (fun _ _=>by go_simp) (by assumption) ?_
    simp only[puts]
    refine takeW 3 42 (.bool true) rfl rfl (by kernel_rfl) (by kernel_rfl) (by kernel_rfl) (fun _ _ _ h=>h) rfl (fun _ _=>by go_simp) (by assumption) ?_
    simp only[puts]
    refine takeU 4 43 rfl rfl (by kernel_rfl) (by kernel_rfl) (by kernel_rfl) (fun _ _ _ h=>h) rfl (by assumption) ?_
    simp only[puts]
    refine takeU 5 44 rfl rfl (by kernel_rfl) (by kernel_rfl) (by kernel_rfl) (fun _ _ _ h=>h) rfl (by assumption) ?_
    simp only[puts]
    refine takeW 6 45 (.bool true) rfl rfl (by kernel_rfl) (by kernel_rfl) (by kernel_rfl) (fun _ _ _ h=>h) rfl (fun _ _=>by go_simp) (by assumption) ?_
    simp only[puts]
    refine takeW 7 46 (.bool true) rfl rfl (by kernel_rfl) (by kernel_rfl) (by kernel_rfl) (fun _ _ _ h=>h) rfl (fun _ _=>by go_simp) (by assumption) ?_
    simp only[puts]
    refine takeU 8 47 rfl rfl (by kernel_rfl) (by kernel_rfl) (by kernel_rfl) (fun _ _ _ h=>h) rfl (by assumption) ?_
    simp only[puts]
    refine takeU 9 48 rfl rfl (by kernel_rfl) (by kernel_rfl) (by kernel_rfl) (fun _ _ _ h=>h) rfl (by assumption) ?_
    simp only[puts]
    refine takeU 10 49 rfl rfl (by kernel_rfl) (by kernel_rfl) (by kernel_rfl) (fun _ _ _ h=>h) rfl (by assumption) ?_
    simp only[puts]
    refine takeU 11 50 rfl rfl (by kernel_rfl) (by kernel_rfl) (by kernel_rfl) (fun _ _ _ h=>h) rfl (by assumption) ?_
    simp only[puts]
    refine takeU 12 51 rfl rfl (by kernel_rfl) (by kernel_rfl) (by kernel_rfl) (fun _ _ _ h=>h) rfl (by assumption) ?_
    simp only[puts]
    refine takeU 13 52 rfl rfl (by kernel_rfl) (by kernel_rfl) (by kernel_rfl) (fun _ _ _ h=>h) rfl (by assumption) ?_
    simp only[puts]
    refine takeU 14 53 rfl rfl (by kernel_rfl) (by kernel_rfl) (by kernel_rfl) (fun _ _ _ h=>h) rfl (by assumption) ?_
    simp only[puts]
    refine takeW 15 54 (.bool true) rfl rfl (by kernel_rfl) (by kernel_rfl) (by kernel_rfl) (fun _ _ _ h=>h) rfl (fun _ _=>by go_simp) (by assumption) ?_
    simp only[puts]
    refine wpAnyH_done (by kernel_rfl) ?_ _
    go_wp2
    go_ret
    exact⟨congrArg (fun z=>Ending.returned (.bool z)) HE.out.symm,bT hbw1 hHeld2.2.2⟩
   by_cases hr0:(L.length:Int)-(ks.length:Int)<0
   ·have HE:Hid (dB (IV ns)=false):=dB_false (fun h=>by have:=(unhide HStep h).2.1;omega)
    go_upto_region 9 with fail
    have HFr1:=unhide HFr
    have HD2:=unhide HD1
    generalize wr.alloc (.cells #[.int .i64 K,.int .i64 N,.int .i64 M,.string S,.string T,.slice ka ks.length kc] 62)=wb at*
    have R:Hid (∀W,Std wb W->Calls Tryz.prog 43 #[.agg #[.int .i64 K,.int .i64 N,.int .i64 M,.string S,.string T,.slice ka ks.length kc]] W fun e w'=>e= .returned (.bool true)/\Below W.heap.size W w'):=fun W h=>unhide HFF W (bT HFr1.below h.2.2)
    obtain⟨ba1,n0,n1,n2,n3,n4,n5,sz1,sa1,own1,hbw1⟩:=HFr1
    simp only at n0 n1 n2 n3 n4 n5
    have HOwn1:=hide own1
    clear own1
    have HDD:=hide HD2
    clear HD2 HFF HFr HD1
    have h1:=Below.refl wb.heap.size wb
    have h2:=h1
    clear HStep HPush HDep HFk HKs HE' HKA HSeg HFit HFl HN HSM HTK HTR HOwn1 HDD hmk ba
    refine wp_region_held_drew (S:=Std wb) (by kernel_rfl) (Std.drew (Std.refl _)) (fun hHeld=> ?_)
    refine takeW 0 39 (.agg #[.int .i64 K,.int .i64 N,.int .i64 M,.string S,.string T,.slice ka ks.length kc]) rfl rfl (by kernel_rfl) (by kernel_rfl) (by kernel_rfl) (fun _ _ _ h=>h) rfl (fun wx hSw=>by obtain⟨hs1,_,_⟩:=hSw;go_simp) (by assumption) ?_
    simp only[puts]
    refine wpAnyH_ready (rs:=[1]) (by kernel_rfl) (by simp) ?_
    refine AllReadyH.cons rfl (fun Kx hK=> ?_) AllReadyH.nil
    go_simp
    refine(unhide R _ (by assumption)).mono ?_
    rintro e w2 ⟨rfl,hb2⟩
    refine hK.out _ _ (Std.call (by assumption) hb2) (fun hHeld2=> ?_)
    clear hK Kx
    refine takeW 2 41 (.bool false) rfl rfl (by kernel_rfl) (by kernel_rfl) (by kernel_rfl) (fun _ _ _ h=>h) rfl (fun _ _=>by go_simp) (by assumption) ?_
    simp only[puts]
    refine takeW 3 42 (.bool false) rfl rfl (by kernel_rfl) (by kernel_rfl) (by kernel_rfl) (fun _ _ _ h=>h) rfl (fun _ _=>by go_simp) (by assumption) ?_
    simp only[puts]
    refine takeW 4 43 (.int .i64 ((L.length:Int)-(ks.length:Int))) rfl rfl (by kernel_rfl) (by kernel_rfl) (by kernel_rfl) (fun _ _ _ h=>h) rfl (fun _ _=>by go_simp) (by assumption) ?_
    simp only[puts]
    refine takeW 5 44 (.bool true) rfl rfl (by kernel_rfl) (by kernel_rfl) (by kernel_rfl) (fun _ _ _ h=>h) rfl (fun _ _=>by go_simp) (by assumption) ?_
    simp only[puts]
    refine takeW 6 45 (.bool true) rfl rfl (by kernel_rfl) (by kernel_rfl) (by kernel_rfl) (fun _ _ _ h=>h) rfl (fun _ _=>by go_simp) (by assumption) ?_
    simp only[puts]
    refine takeW 7 46 (.bool true) rfl rfl (by kernel_rfl) (by kernel_rfl) (by kernel_rfl) (fun _ _ _ h=>h) rfl (fun _ _=>by go_simp) (by assumption) ?_
    simp only[puts]
    refine takeU 8 47 rfl rfl (by kernel_rfl) (by kernel_rfl) (by kernel_rfl) (fun _ _ _ h=>h) rfl (by assumption) ?_
    simp only[puts]
    refine takeU 9 48 rfl rfl (by kernel_rfl) (by kernel_rfl) (by kernel_rfl) (fun _ _ _ h=>h) rfl (by assumption) ?_
    simp only[puts]
    refine takeU 10 49 rfl rfl (by kernel_rfl) (by kernel_rfl) (by kernel_rfl) (fun _ _ _ h=>h) rfl (by assumption) ?_
    simp only[puts]
    refine takeU 11 50 rfl rfl (by kernel_rfl) (by kernel_rfl) (by kernel_rfl) (fun _ _ _ h=>h) rfl (by assumption) ?_
    simp only[puts]
    refine takeU 12 51 rfl rfl (by kernel_rfl) (by kernel_rfl) (by kernel_rfl) (fun _ _ _ h=>h) rfl (by assumption) ?_
    simp only[puts]
    refine takeU 13 52 rfl rfl (by kernel_rfl) (by kernel_rfl) (by kernel_rfl) (fun _ _ _ h=>h) rfl (by assumption) ?_
    simp only[puts]
    refine takeU 14 53 rfl rfl (by kernel_rfl) (by kernel_rfl) (by kernel_rfl) (fun _ _ _ h=>h) rfl (by assumption) ?_
    simp only[puts]
    refine takeW 15 54 (.bool true) rfl rfl (by kernel_rfl) (by kernel_rfl) (by kernel_rfl) (fun _ _ _ h=>h) rfl (fun _ _=>by go_simp) (by assumption) ?_
    simp only[puts]
    refine wpAnyH_done (by kernel_rfl) ?_ _
    go_wp2
    go_ret
    exact⟨congrArg (fun z=>Ending.returned (.bool z)) HE.out.symm,bT hbw1 hHeld2.2.2⟩
   obtain⟨r,hr⟩: ∃r,L.length=r+ks.length:=⟨L.length-ks.length,by omega⟩
   have er:(L.length:Int)-(ks.length:Int)=(r:Int):=by omega
   have hsl:=sliceI_low ao L.length lc r (by omega)
   rw[show L.length-r=ks.length by omega]at hsl
   have hrl:L.length-ks.length=r:=by omega
   have hdl:(L.drop r).length=ks.length:=by rw[List.length_drop];omega
   have hrL:r<=L.length:=by omega
   have hlc:=own_cap (unhide HFr).own
   have hsh:=sliceI_high ao L.length lc r (by omega)
   have HR:=hide hr;have HRL:=hide hrl;have HDL:=hide hdl
   clear hr hrl hdl
   have hEq:decide (ks=L.drop r)=true↔ks=L.drop r:=decide_eq_true_iff
   generalize hb2:decide (ks=L.drop r)=b2 at*
   have HB2:=hide hb2;have HEq:=hide hEq
   clear hb2 hEq
   cases b2
   ·have HE:Hid (dB (IV ns)=false):=dB_false (fun h=>by
     have:=(unhide HStep h).2.2.1
     rw[unhide HRL]at this
     have:=(unhide HEq).2 this
     cases this)
    go_upto_region 9 with fail
    have HFr1:=unhide HFr
    have HD2:=unhide HD1
    generalize wr.alloc (.cells #[.int .i64 K,.int .i64 N,.int .i64 M,.string S,.string T,.slice ka ks.length kc] 62)=wb at*
    have R:Hid (∀W,Std wb W->Calls Tryz.prog 43 #[.agg #[.int .i64 K,.int .i64 N,.int .i64 M,.string S,.string T,.slice ka ks.length kc]] W fun e w'=>e= .returned (.bool true)/\Below W.heap.size W w'):=fun W h=>unhide HFF W (bT HFr1.below h.2.2)
    obtain⟨ba1,n0,n1,n2,n3,n4,n5,sz1,sa1,own1,hbw1⟩:=HFr1
    simp only at n0 n1 n2 n3 n4 n5
    have HOwn1:=hide own1
    clear own1
    have HDD:=hide HD2
    clear HD2 HFF HFr HD1
    have h1:=Below.refl wb.heap.size wb
    have h2:=h1
    have R2:Hid (∀W,Std wb W->Calls Tryz.prog 44 #[.slice ka ks.length kc,.slice (if lc=r then ao else ao.map (·.add r)) ks.length (lc-r)] W fun e w'=>e= .returned (.bool false)/\Below W.heap.size W w'):=fun W h=>by
     have hbW:=bT hbw1 h.2.2
     have:=slicesEq_calls ks (L.drop r) ka kc (if lc=r then ao else ao.map (·.add r)) (lc-r) W ((unhide HKs).of hbW) (own_drop (own_below (unhide HOwn1) h.2.2) hrL) hkl
     rw[unhide HDL,unhide HB2]at this
     exact this
    generalize(if lc=r then ao else ao.map (·.add r))=a2 at*
    go_region_held3 (Std wb) (repeat(first | with_reducible assumption | with_reducible exact Std.refl _ | with_reducible refine Std.drew ?_ | with_reducible refine Std.alloc ?_ _ | with_reducible refine Std.setCell ?_ ?_ _ | with_reducible refine Std.call ?_ (by with_reducible assumption) | (simp<;>omega) | omega)) (first | (go_at_call 43;refine(unhide R _ (by assumption)).mono ?_;rintro e w1 ⟨rfl,hb⟩;(first | have n3:=bT h2 hb | have n3:=bT (bA h2 _) hb | have n3:=bT (Below.drew h2) hb | have n3:=bT (Below.drew (bA h2 _)) hb | have n3:=bT (bA (Below.drew h2) _) hb);(first | have n2:=bT h1 hb | have n2:=bT (bA h1 _) hb | have n2:=bT (Below.drew h1) hb | have n2:=bT (Below.drew (bA h1 _)) hb | have n2:=bT (bA (Below.drew h1) _) hb);obtain⟨c1,f1⟩:=bcell hb;obtain⟨c2,f2⟩:=bcell n2;obtain⟨c3,f3⟩:=bcell n3;have hs:=hb.size;(try simp at hs);clear h1 h2;have h1:=hb;have h2:=n2;clear n2 hb) | (go_at_call 44;refine(unhide R2 _ (by assumption)).mono ?_;rintro e w1 ⟨rfl,hb⟩;(first | have n3:=bT h2 hb | have n3:=bT (bA h2 _) hb | have n3:=bT (Below.drew h2) hb | have n3:=bT (Below.drew (bA h2 _)) hb | have n3:=bT (bA (Below.drew h2) _) hb);(first | have n2:=bT h1 hb | have n2:=bT (bA h1 _) hb | have n2:=bT (Below.drew h1) hb | have n2:=bT (Below.drew (bA h1 _)) hb | have n2:=bT (bA (Below.drew h1) _) hb);obtain⟨c1,f1⟩:=bcell hb;obtain⟨c2,f2⟩:=bcell n2;obtain⟨c3,f3⟩:=bcell n3;have hs:=hb.size;(try simp at hs);clear h1 h2;have h1:=hb;have h2:=n2;clear n2 hb))
    have hS2:Std wb w1:=by assumption
    go_wp2
    go_ret
    exact⟨congrArg (fun z=>Ending.returned (.bool z)) HE.out.symm,bT hbw1 hS2.2.2⟩
   ·have heq:ks=L.drop r:=(unhide HEq).1 rfl
    have hflds:Flds ⟨K,N,M,S,T,ks⟩:=(unhide HFl).1 rfl
    have HEQ:=hide heq;have HFLD:=hide hflds
    clear heq hflds
    go_upto_region 9 with fail
    have HFr1:=unhide HFr
    have HD2:=unhide HD1
    generalize wr.alloc (.cells #[.int .i64 K,.int .i64 N,.int .i64 M,.string S,.string T,.slice ka ks.length kc] 62)=wb at*
    have R:Hid (∀W,Std wb W->Calls Tryz.prog 43 #[.agg #[.int .i64 K,.int .i64 N,.int .i64 M,.string S,.string T,.slice ka ks.length kc]] W fun e w'=>e= .returned (.bool true)/\Below W.heap.size W w'):=fun W h=>unhide HFF W (bT HFr1.below h.2.2)
    have HFrb:=hide HFr1
    obtain⟨ba1,n0,n1,n2,n3,n4,n5,sz1,sa1,own1,hbw1⟩:=HFr1
    simp only at n0 n1 n2 n3 n4 n5
    have HOwn1:=hide own1
    clear own1
    have HDD:=hide HD2
    clear HD2 HFF HFr HD1
    have h1:=Below.refl wb.heap.size wb
    have h2:=h1
    have R2:Hid (∀W,Std wb W->Calls Tryz.prog 44 #[.slice ka ks.length kc,.slice (if lc=r then ao else ao.map (·.add r)) ks.length (lc-r)] W fun e w'=>e= .returned (.bool true)/\Below W.heap.size W w'):=fun W h=>by
     have hbW:=bT hbw1 h.2.2
     have:=slicesEq_calls ks (L.drop r) ka kc (if lc=r then ao else ao.map (·.add r)) (lc-r) W ((unhide HKs).of hbW) (own_drop (own_below (unhide HOwn1) h.2.2) hrL) hkl
     rw[unhide HDL,unhide HB2]at this
     exact this
    generalize(if lc=r then ao else ao.map (·.add r))=a2 at*
    go_region_held3 (Std wb) (repeat(first | with_reducible assumption | with_reducible exact Std.refl _ | with_reducible refine Std.drew ?_ | with_reducible refine Std.alloc ?_ _ | with_reducible refine Std.setCell ?_ ?_ _ | with_reducible refine Std.call ?_ (by with_reducible assumption) | (simp<;>omega) | omega)) (first | (go_at_call 43;refine(unhide R _ (by assumption)).mono ?_;rintro e w1 ⟨rfl,hb⟩;(first | have n3:=bT h2 hb | have n3:=bT (bA h2 _) hb | have n3:=bT (Below.drew h2) hb | have n3:=bT (Below.drew (bA h2 _)) hb | have n3:=bT (bA (Below.drew h2) _) hb);(first | have n2:=bT h1 hb | have n2:=bT (bA h1 _) hb | have n2:=bT (Below.drew h1) hb | have n2:=bT (Below.drew (bA h1 _)) hb | have n2:=bT (bA (Below.drew h1) _) hb);obtain⟨c1,f1⟩:=bcell hb;obtain⟨c2,f2⟩:=bcell n2;obtain⟨c3,f3⟩:=bcell n3;have hs:=hb.size;(try simp at hs);clear h1 h2;have h1:=hb;have h2:=n2;clear n2 hb) | (go_at_call 44;refine(unhide R2 _ (by assumption)).mono ?_;rintro e w1 ⟨rfl,hb⟩;(first | have n3:=bT h2 hb | have n3:=bT (bA h2 _) hb | have n3:=bT (Below.drew h2) hb | have n3:=bT (Below.drew (bA h2 _)) hb | have n3:=bT (bA (Below.drew h2) _) hb);(first | have n2:=bT h1 hb | have n2:=bT (bA h1 _) hb | have n2:=bT (Below.drew h1) hb | have n2:=bT (Below.drew (bA h1 _)) hb | have n2:=bT (bA (Below.drew h1) _) hb);obtain⟨c1,f1⟩:=bcell hb;obtain⟨c2,f2⟩:=bcell n2;obtain⟨c3,f3⟩:=bcell n3;have hs:=hb.size;(try simp at hs);clear h1 h2;have h1:=hb;have h2:=n2;clear n2 hb))
    have hS2:Std wb w1:=by assumption
    have hbw2:=bT hbw1 hS2.2.2
    have hFr2:=(unhide HFrb).of hS2.2.2
    have hD2:=(unhide HDD).of hS2.2.2
    have hkin: ∀x∈ks,∃p:Nat,x=(p:Int)/\p<k:=fun x hx=>by
     rw[unhide HEQ]at hx
     obtain⟨p,e,_,hp⟩:=(unhide HSeg).kid x (List.mem_of_mem_drop hx)
     exact⟨p,e,hp⟩
    have hK0:=madeInts w1 ks.length 3
    have hFr3:=hFr2.of ((Below.refl w1.heap.size w1).alloc (Nat.le_refl _) (.cells (madeCells #[.int .i64 0] ks.length) 3))
    have hD3:=hD2.of ((Below.refl w1.heap.size w1).alloc (Nat.le_refl _) (.cells (madeCells #[.int .i64 0] ks.length) 3))
    have hb6K:wr.heap.size<w1.heap.size:=hFr2.sz
    have hDK:w.heap.size+1<w1.heap.size:=hD2.size
    have hoK: ∀b,(Value.slice ao L.length lc).ownBlock=some b->w.heap.size+2<=b/\b<w1.heap.size:=own_lt hFr2.own
    have hb6D:w.heap.size+1<wr.heap.size:=hs1
    have m5:w1.cell? ⟨wr.heap.size,5,none⟩=some (.slice ka ks.length kc):=hFr2.n5
    have HFr3:=hide hFr3;have HD3:=hide hD3;have HK0:=hide hK0;have HKin:=hide hkin
    have HoK:=hide hoK
    clear hFr2 hD2 hFr3 hD3 hK0 hkin HFrb HDD HOwn1 R R2 hoK hsl
    go_wp2
    generalize w1.heap.size=KB at*
    generalize wr.heap.size=b6 at*
    have HMk:=hide hmk
    clear hmk hs1
    go_loopw [9,10,62] (fun _ _ c wi=> ∃j:Nat,j<=ks.length/\c= .int .i64 j/\FrA wi w (w.heap.size+2) g ns.length cap b6 ⟨K,N,M,S,T,ks⟩ ka kc (.slice ao L.length lc) L/\
     OwnInts wi (w.heap.size+1) ns.length ((dl ns ns.length k).set k (mostTo (depTo ns k) ks j))/\OwnInts wi KB ks.length ((kindsOf ns ks).take j)) (fun _ _ c _=>ks.length-(intOf c).toNat)
    case atStart=>
     refine⟨0,Nat.zero_le _,rfl,unhide HFr3,?_,?_⟩
     ·rw[show mostTo (depTo ns k) ks 0=0 from rfl,dl_zero ns _ k hlt]
      exact unhide HD3
     ·have h:=unhide HK0
      exact⟨h.size,h.frz,h.all,fun i x hx=>by simp at hx⟩
    case round=>
     clear HFr3 HD3 HK0
     obtain⟨j,hj,rfl,hFr,hD,hKi⟩:=hrel
     by_cases hjl:j<ks.length
     ·have j2:(j:Int)<(ks.length:Int):=by omega
      obtain⟨p,hp,hpk⟩:=unhide HKin ks[j] (List.getElem_mem hjl)
      obtain⟨kg,rfl,q4,x0⟩:=((unhide HKs).of hFr.below).at j hjl
      have hpn:p<ns.length:=by omega
      obtain⟨⟨d0,_,_,_,_⟩,_⟩:=((unhide HN).of hg hFr.below).at p hpn
      have hkd:j<(kindsOf ns ks).length:=by simp[kindsOf];exact hjl
      have hkx:(kindsOf ns ks)[j]=(ns[p]).K:=by
       simp only[kindsOf,List.getElem_map]
       rw[hp,show((p:Int)).toNat=p by simp,kindAt_some (List.getElem?_eq_getElem hpn)]
      have hms:=mostTo_succ (depTo ns k) ks j hjl
      rw[hp]at x0 hms
      rw[show((p:Int)).toNat=p by simp]at hms
      have y0:=hD.held p _ (dl_low ns ns.length k p hpk _)
      have y1:=hD.held k _ (dl_mid ns ns.length k hlt _)
      simp only[Nat.zero_add]at x0 d0 y0 y1
      have hput:=hKi.put hkd hjl
      rw[hkx]at hput
      have hoK:=unhide HoK
      have hFr1:=hFr.set (X:=KB) (O:=j) (by omega) (by omega) (fun h=>by have:=(hoK KB h).2;omega) (.int .i64 (ns[p]).K)
      have hD1:=hD.far (G:=KB) (O:=j) (by omega) (.int .i64 (ns[p]).K)
      obtain⟨z0,hz0⟩:=hKi.all j hjl
      have hfK:=hKi.frz
      have hfD:=hD.frz
      have ba3:=hFr.ba
      have sa3:=hFr.sa
      have szK:=hKi.size
      have szD:=hD.size
      have q3:g<wr.heap.size:=Nat.lt_of_lt_of_le hg hFr.below.size
      generalize(ns[p]).K=Kp at*
      generalize(depTo ns k).getD p 0=dv at*
      generalize mostTo (depTo ns k) ks j=mv at*
      have Hput:=hide hput;have HFr1:=hide hFr1;have HD1:=hide hD1;have HMs:=hide hms
      have jp:(p:Int)<(ns.length:Int):=by omega
      have nKD:KB≠w.heap.size+1:=by omega
      clear hput hFr1 hD1 hms hFr hD hKi hoK hp hkx
      go_upto_region 16 with fail
      have y0W:(wr.setCell ⟨KB,j,none⟩ (.int .i64 Kp)).cell? ⟨w.heap.size+1,p,none⟩=some (.int .i64 dv):=(setCell_farN nKD).trans y0
      have y1W:(wr.setCell ⟨KB,j,none⟩ (.int .i64 Kp)).cell? ⟨w.heap.size+1,k,none⟩=some (.int .i64 mv):=(setCell_farN nKD).trans y1
      have fW: ∀o,(wr.setCell ⟨KB,j,none⟩ (.int .i64 Kp)).frozen? ⟨w.heap.size+1,o,none⟩=false:=fun o=>by rw[frozen_setCellN];exact hfD o
      have sW:(wr.setCell ⟨KB,j,none⟩ (.int .i64 Kp)).heap.size=wr.heap.size:=by simp
      generalize wr.setCell ⟨KB,j,none⟩ (.int .i64 Kp)=W at*
      clear y0 y1 hz0 hfK hfD x0 d0 ba3
      have kI:(k:Int)<(ns.length:Int):=by omega
      by_cases hgt:mv<dv
      ·have HX:Hid (mostTo (depTo ns k) ks (j+1)=dv):=by show _=_;rw[unhide HMs,if_pos hgt]
       have hmx:max mv dv=dv:=by omega
       clear HMs
       go_region
       go_wp2
       go_roundw
       case rel=>
        have hoK:=unhide HoK
        refine⟨j+1,by omega,by go_num,((unhide HFr1).set (X:=w.heap.size+1) (O:=k) (by omega) (by omega) (fun h=>by have:=(hoK _ h).1;omega) _).of (Below.refl _ _).drew,?_,((unhide Hput).far (G:=w.heap.size+1) (O:=k) (by omega) _).of (Below.refl _ _).drew⟩
        have:=(unhide HD1).set k (by rw[List.length_set,dl_length _ _ _ (by omega)];exact hlt) hlt dv
        rw[List.set_set]at this
        rw[HX.out]
        exact this.of (Below.refl _ _).drew
       case measure=>simp[intOf];omega
      ·have HX:Hid (mostTo (depTo ns k) ks (j+1)=mv):=by show _=_;rw[unhide HMs,if_neg hgt]
       have hmx:max mv dv=mv:=by omega
       clear HMs
       go_region
       go_wp2
       go_roundw
       case rel=>
        have hoK:=unhide HoK
        refine⟨j+1,by omega,by go_num,((unhide HFr1).set (X:=w.heap.size+1) (O:=k) (by omega) (by omega) (fun h=>by have:=(hoK _ h).1;omega) _).of (Below.refl _ _).drew,?_,((unhide Hput).far (G:=w.heap.size+1) (O:=k) (by omega) _).of (Below.refl _ _).drew⟩
        have:=(unhide HD1).set k (by rw[List.length_set,dl_length _ _ _ (by omega)];exact hlt) hlt mv
        rw[List.set_set]at this
        rw[HX.out]
        exact this.of (Below.refl _ _).drew
       case measure=>simp[intOf];omega
     ·obtain rfl:j=ks.length:=by omega
      have hkl':(kindsOf ns ks).length=ks.length:=by simp[kindsOf]
      rw[show(kindsOf ns ks).take ks.length=kindsOf ns ks by rw[<-hkl',List.take_length]]at hKi
      have hmx:mostTo (depTo ns k) ks ks.length=most (depTo ns k) ks:=by unfold mostTo;rw[List.take_length]
      rw[hmx]at hD
      have hdk:=unhide HDep
      have hdb:=dep_bound ns k
      have y1:=hD.held k _ (dl_mid ns ns.length k hlt _)
      simp only[Nat.zero_add]at y1
      have hD1:=hD.set k (by rw[List.length_set,dl_length _ _ _ (by omega)];exact hlt) hlt (most (depTo ns k) ks+1)
      rw[List.set_set,<-hdk,dl_next ns _ k hlt]at hD1
      have hoK:=unhide HoK
      have hFr1:=hFr.set (X:=w.heap.size+1) (O:=k) (by omega) (by omega) (fun h=>by have:=(hoK _ h).1;omega) (.int .i64 (dep ns k))
      have hKi1:=hKi.far (G:=w.heap.size+1) (O:=k) (by omega) (.int .i64 (dep ns k))
      have KF:=fun W (hgW:KB<W.heap.size) (hI:IntsAt W KB 0 (kindsOf ns ks))=>kidsFit_calls K N M S T (.slice ka ks.length kc) ks (kindsOf ns ks) KB W hgW hI (by rw[hkl'];exact hkl) (unhide HFLD)
      rw[hkl']at KF
      have hKd:dB (KidsI K N (kindsOf ns ks))=true↔KidsI K N (kindsOf ns ks):=dB_iff
      have hm0:0<=most (depTo ns k) ks:=by rw[<-hmx];exact mostTo_nonneg _ _ _
      have hfD:=hD.frz
      have szD:=hD.size
      have eS:(most (depTo ns k) ks:Int)+1=dep ns k:=hdk.symm
      generalize dB (KidsI K N (kindsOf ns ks))=b3 at*
      generalize hmv:most (depTo ns k) ks=mv at*
      generalize hdv:dep ns k=dv at*
      have yW:(wr.setCell ⟨w.heap.size+1,k,none⟩ (.int .i64 dv)).cell? ⟨w.heap.size+1,k,none⟩=some (.int .i64 dv):=World.cell?_setCell_same _ _ _ y1
      have dvb:dv<=10001:=by omega
      have HKF:=hide KF;have HKd:=hide hKd;have HFr1:=hide hFr1;have HD1:=hide hD1;have HKi1:=hide hKi1;have HDv:=hide hdv;have HY:=hide yW
      clear KF hKd hFr1 hD1 hKi1 hFr hD hKi hdk hmv hdv hmx hoK yW
      have kI:(k:Int)<(ns.length:Int):=by omega
      go_upto_region 19 with fail
      generalize wr.setCell ⟨w.heap.size+1,k,none⟩ (.int .i64 dv)=W1 at*
      have hFrW:=unhide HFr1
      obtain⟨_,n0,n1,n2,n3,n4,n5,sz1,sa1,_,hbW⟩:=hFrW
      simp only at n0 n1 n2 n3 n4 n5
      have yW:=unhide HY
      have szW:w.heap.size+1<W1.heap.size:=(unhide HD1).size
      clear HY y1 hfD
      by_cases h200:200<dv
      ·have HE:Hid (dB (IV ns)=false):=dB_false (fun h=>by
        have:=(unhide HStep h).2.2.2.1
        omega)
       go_wp2
       go_ret
       exact⟨congrArg (fun z=>Ending.returned (.bool z)) HE.out.symm,hbW⟩
      have hKFW:=unhide HKF W1 (unhide HKi1).size (unhide HKi1).held
      cases b3
      ·have HE:Hid (dB (IV ns)=false):=dB_false (fun h=>by have:=(unhide HKd).2 (unhide HStep h).2.2.2.2;cases this)
       have HK2:=hide hKFW
       clear hKFW
       go_wp2_with fail
       refine(unhide HK2).mono ?_;rintro e w5 ⟨rfl,hb5⟩
       go_wp2
       go_ret
       exact⟨congrArg (fun z=>Ending.returned (.bool z)) HE.out.symm,bT hbW hb5⟩
      have HK2:=hide hKFW
      have hFI:FitI ⟨K,N,M,S,T,ks⟩ (kindsOf ns ks):=(unhide HFk).2 ⟨unhide HFLD,(unhide HKd).1 rfl⟩
      have hnextFit: ∀(i:Nat) (hi:i<ns.length),i<k+1->FitI ns[i] (kindsOf ns (ns[i]).Kids)/\dep ns i<=200:=fun i hi hik=>by
       by_cases ei:i=k
       ·subst ei
        rw[unhide HE']
        exact⟨hFI,by rw[unhide HDv];omega⟩
       ·exact unhide HFit i hi (by omega)
      have hnextSeg:Seg ns 0 (k+1) (L.take r++[(k:Int)]):=by
       have h1:=unhide HRL
       have h2:=unhide HEQ
       have h3:=unhide HR
       have:=unhide HPush (by omega) (by rw[h1];exact h2.symm)
       rw[h1]at this
       exact this
      have HNF:=hide hnextFit;have HNS:=hide hnextSeg
      clear hKFW hFI hnextFit hnextSeg HStep HPush HFk HFit HKd HFLD HKF
      go_wp2_with fail
      refine(unhide HK2).mono ?_;rintro e w5 ⟨rfl,hb5⟩
      have hFr5:=(unhide HFr1).of hb5
      have hD5:=(unhide HD1).of hb5
      have hsz5:=hFr5.below.size
      have hD5s:=hD5.size
      have ba5:=hFr5.ba
      have hcut:=own_cut (own_below hFr5.own ((Below.refl w5.heap.size w5).alloc (Nat.le_refl _) (.cells #[.int .i64 (k:Int)] 3))) hrL
      have hol:=own_lt hFr5.own
      obtain⟨i0,hi0,hz⟩:=Option.map_eq_some_iff.1 (show(Tryz.prog.info? 3).map (fun i=>(i.zero,i.size,i.bytes))=some (some (.int .i64 0),1,8)by kernel_rfl)
      simp only[Prod.mk.injEq]at hz
      obtain⟨hz0,hz1,hz2⟩:=hz
      have HFr5:=hide hFr5;have HD5:=hide hD5;have HCut:=hide hcut;have HOl:=hide hol
      clear hFr5 hD5 hcut hol HFr1 HD1 HKi1 hb5 hbW n0 n1 n2 n3 n4 n5 yW
      go_wp2_with (at_builtin;refine wpList_append_lies _ rfl (.tmp 108) (.tmp 110) 58 rfl (w.heap.size+2) 3 i0 _ 1 8 Tryz.underlying58 hi0 hz0 hz1 hz2 rfl (by decide) (.slice ao r lc) r (vInts (L.take r)) rfl (unhide HCut) ⟨w5.heap.size,0,none⟩ 1 1 [.int .i64 (k:Int)] rfl rfl (World.news_of_block (cs:= #[.int .i64 (k:Int)]) (MapKept.heap_alloc w5 _).1) (by intro u hu;simp at hu;subst hu;rfl) (by decide) (by unfold maxLen;omega) (by omega) (by simp;omega) _ rfl ?_;intro g2 cap2 w6 hown2 hgrow hat hlt2)
      have hlen:(L.take r++[(k:Int)]).length=r+1:=by simp;omega
      have HB6:Below (w.heap.size+2) w5 w6:=((Below.refl (w.heap.size+2) w5).alloc (by omega) _).grown hgrow (by simp;omega) (fun b hb'=>by
       cases ao with
       | none=>simp[Value.ownBlock]at hb'
       | some a=>
        simp[Value.ownBlock]at hb'
        exact(unhide HOl b (by simp[Value.ownBlock,hb'])).1)
      have hOW:w6.ownsRow (w.heap.size+2) 3 1 (.slice (some ⟨g2,0,none⟩) (r+1) cap2) (L.take r++[(k:Int)]).length (vInts (L.take r++[(k:Int)])):=by
       rw[hlen,vInts_append]
       exact hown2
      have hD6:=(unhide HD5).ofB (by omega) HB6
      have hbox:=(HB6.cell (p:=⟨w.heap.size,0,none⟩) (by show w.heap.size<_;omega)).trans ba5
      have hbl:=(unhide HFr5).below.trans (HB6.mono (by omega))
      have s6:=HB6.size
      have Hown:=hide hOW;have HD6:=hide hD6;have HBox:=hide hbox;have HBl:=hide hbl;have HLen:=hide hlen
      clear hown2 hgrow hat hOW hD6 hbox hbl hlen
      go_wp2
      go_roundw
      case rel=>
       refine⟨k+1,L.take r++[(k:Int)],some ⟨g2,0,none⟩,cap2,by omega,by go_num,?_,?_,unhide HNS,unhide HNF,unhide HD6,unhide HBox,by omega,unhide HBl⟩
       ·rw[unhide HLen]
       ·exact unhide Hown
      case measure=>simp[intOf];omega
  ·obtain rfl:k=ns.length:=by omega
   obtain⟨N1,hN1⟩: ∃N1,ns.length=N1+1:=⟨ns.length-1,by omega⟩
   have hiff:=iv_end hlo hb1 hseg (fun i hi=>(hfit i hi hi).1) (fun i hi=>(hfit i hi hi).2)
   have hN1':ns.length-1=N1:=by omega
   rw[hN1']at hiff
   have hNl:N1<ns.length:=by omega
   have hlL:=hseg.len
   have e1:(ns.length:Int)-1=(N1:Int):=by omega
   obtain⟨⟨d0,_,_,_,_⟩,_⟩:=((unhide HN).of hg hb).at N1 hNl
   rw[<-kindAt_some (List.getElem?_eq_getElem hNl)]at d0
   simp only[Nat.zero_add]at d0
   have q1:g<wr.heap.size:=Nat.lt_of_lt_of_le hg hb.size
   have QC:=fun w=>isQuery_calls (kindAt ns N1) w
   generalize kindAt ns N1=K at*
   generalize quB K=b at*
   have HI:=hide hiff;have HQ:=hide QC
   have HN1:=hide hN1
   have jN:(N1:Int)<(ns.length:Int):=by omega
   clear hiff QC hN1 hN1' hfit hseg hD hown
   cases hL1:((L.length:Int)==1)
   ·have HE:Hid (dB (IV ns)=false):=dB_false (fun h=>by
     have:=((unhide HI).1 h).1
     simp[this]at hL1)
    go_wp2
    go_ret
    exact⟨congrArg (fun z=>Ending.returned (.bool z)) HE.out.symm,hb⟩
   ·have HE:Hid (dB (IV ns)=b):=by
     show _=_
     rw[Bool.eq_iff_iff,dB_iff]
     have:L.length=1:=by simp at hL1;omega
     exact⟨fun h=>((unhide HI).1 h).2,fun h=>(unhide HI).2 ⟨this,h⟩⟩
    clear HI
    go_wp2_with fail
    refine(unhide HQ _).mono ?_;rintro e w2 ⟨rfl,rfl⟩
    go_wp2
    go_ret
    exact⟨congrArg (fun z=>Ending.returned (.bool z)) HE.out.symm,hb⟩
end Go.Proofs.YtmggnimiioepeaaGreatDoor.AX
