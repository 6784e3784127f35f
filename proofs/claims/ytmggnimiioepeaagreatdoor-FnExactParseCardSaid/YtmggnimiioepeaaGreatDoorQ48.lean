import Derived.Test.YtmggnimiioepeaaGreatDoorQ0
import Derived.Test.YtmggnimiioepeaaGreatDoorQ2
import Derived.Test.YtmggnimiioepeaaGreatDoorQ16
import Derived.Test.YtmggnimiioepeaaGreatDoorQ44
import Derived.Test.YtmggnimiioepeaaGreatDoorNodeOkBX
import Derived.Test.YtmggnimiioepeaaGreatDoorNodeOkCX
import Derived.Test.YtmggnimiioepeaaGreatDoorQ47
import Derived.Test.YtmggnimiioepeaaGreatDoorQ43
import Derived.Test.YtmggnimiioepeaaGreatDoorQ17
import Derived.Test.YtmggnimiioepeaaGreatDoorQ13
import Derived.Test.YtmggnimiioepeaaGreatDoorPaTok
import Derived.Test.YtmggnimiioepeaaGreatDoorQ31
namespace Go.Proofs.YtmggnimiioepeaaGreatDoor.AX
open Go Go.RowKit
set_option maxHeartbeats 8000000 in
set_option maxRecDepth 100000 in
theorem nodeOk7(ns:List Nd)(N M:Int)(S T:ByteArray)(ks:List Int)(q:ByteArray)(g cap i:Nat)(w:World)(hg:g<w.heap.size)(hi:i<ns.length)(_:ns.length<=10000)
  (hn:NodesAt w g 0 ns) (he:ns[i]=⟨7,N,M,S,T,ks⟩) (_:ks.length<=10000) (hk:KidsIn ns ks)
  (KC:Hid (∀W,Below w.heap.size w W->Calls Tryz.prog 57 #[.slice (some ⟨g,0,none⟩) ns.length cap,.int .i64 (i:Int)] W fun e w'=>e= .returned (.string q)/\w'=W)):
  Calls Tryz.prog 32 #[.slice (some ⟨g,0,none⟩) ns.length cap,.int .i64 (i:Int)] w fun e w'=>e= .returned (.bool (dB (FitS ⟨7,N,M,S,T,ks⟩ (kindsOf ns ks))))/\Below w.heap.size w w':=by
 obtain⟨⟨c0,c1,c2,c3,c4⟩,ka,kc,c5,hks⟩:=hn.at i hi
 rw[he]at c0 c1 c2 c3 c4 c5 hks
 simp only[Nat.zero_add]at c0 c1 c2 c3 c4 c5 hks
 have j0:(i:Int)<(ns.length:Int):=by omega
 have HF:Hid (FitS ⟨7,N,M,S,T,ks⟩ (kindsOf ns ks)↔(S.toList=[]/\T.toList=[]/\N=0/\M=0/\(∀x∈kindsOf ns ks,x=6)/\2<=ks.length)):=by
  show _↔_
  simp[FitS,kindsOf]
 have HN:=hide hn;have HK:=hide hk;have HS:=hide hks
 clear he hn hk hks
 cases bS:(S.toList==([]:List UInt8))
 ·have HE:Hid (dB (FitS ⟨7,N,M,S,T,ks⟩ (kindsOf ns ks))=false):=dB_false (fun h=>by have:=(HF.out.1 h).1;simp[this]at bS)
  clear HF
  go_enter Tryz.func32,Tryz.ntmps32
  go_wp2_with fail
  refine(KC.out _ (by(repeat(first | exact Below.refl _ _ | refine bA ?_ _ | refine Below.setCell ?_ (by simp) _)))).mono ?_;rintro e w1 ⟨rfl,rfl⟩
  go_wp2
  go_ret
  exact⟨congrArg (fun z=>Ending.returned (.bool z)) HE.out.symm,(by(repeat(first | exact Below.refl _ _ | refine bA ?_ _ | refine Below.setCell ?_ (by simp) _)))⟩
 cases bT:(T.toList==([]:List UInt8))
 ·have HE:Hid (dB (FitS ⟨7,N,M,S,T,ks⟩ (kindsOf ns ks))=false):=dB_false (fun h=>by have:=(HF.out.1 h).2.1;simp[this]at bT)
  clear HF
  go_enter Tryz.func32,Tryz.ntmps32
  go_wp2_with fail
  refine(KC.out _ (by(repeat(first | exact Below.refl _ _ | refine bA ?_ _ | refine Below.setCell ?_ (by simp) _)))).mono ?_;rintro e w1 ⟨rfl,rfl⟩
  go_wp2
  go_ret
  exact⟨congrArg (fun z=>Ending.returned (.bool z)) HE.out.symm,(by(repeat(first | exact Below.refl _ _ | refine bA ?_ _ | refine Below.setCell ?_ (by simp) _)))⟩
 cases bN:(N==0)
 ·have HE:Hid (dB (FitS ⟨7,N,M,S,T,ks⟩ (kindsOf ns ks))=false):=dB_false (fun h=>by have:=(HF.out.1 h).2.2.1;simp[this]at bN)
  clear HF
  go_enter Tryz.func32,Tryz.ntmps32
  go_wp2_with fail
  refine(KC.out _ (by(repeat(first | exact Below.refl _ _ | refine bA ?_ _ | refine Below.setCell ?_ (by simp) _)))).mono ?_;rintro e w1 ⟨rfl,rfl⟩
  go_wp2
  go_ret
  exact⟨congrArg (fun z=>Ending.returned (.bool z)) HE.out.symm,(by(repeat(first | exact Below.refl _ _ | refine bA ?_ _ | refine Below.setCell ?_ (by simp) _)))⟩
 cases bM:(M==0)
 ·have HE:Hid (dB (FitS ⟨7,N,M,S,T,ks⟩ (kindsOf ns ks))=false):=dB_false (fun h=>by have:=(HF.out.1 h).2.2.2.1;simp[this]at bM)
  clear HF
  go_enter Tryz.func32,Tryz.ntmps32
  go_wp2_with fail
  refine(KC.out _ (by(repeat(first | exact Below.refl _ _ | refine bA ?_ _ | refine Below.setCell ?_ (by simp) _)))).mono ?_;rintro e w1 ⟨rfl,rfl⟩
  go_wp2
  go_ret
  exact⟨congrArg (fun z=>Ending.returned (.bool z)) HE.out.symm,(by(repeat(first | exact Below.refl _ _ | refine bA ?_ _ | refine Below.setCell ?_ (by simp) _)))⟩
 obtain rfl:M=0:=by simpa using bM
 obtain rfl:N=0:=by simpa using bN
 have HG:Hid (FitS ⟨7,0,0,S,T,ks⟩ (kindsOf ns ks)↔((∀x∈kindsOf ns ks,x=6)/\2<=ks.length)):=by
  show _↔_
  rw[HF.out]
  simp at bS bT
  simp[bS,bT]
 clear HF
 go_enter Tryz.func32,Tryz.ntmps32
 go_wp2_with fail
 refine(KC.out _ (by(repeat(first | exact Below.refl _ _ | refine bA ?_ _ | refine Below.setCell ?_ (by simp) _)))).mono ?_;rintro e w1 ⟨rfl,rfl⟩
 go_wp2
 go_loopw [12] (fun c wr=> ∃k:Nat,k<=ks.length/\c= .int .i64 k/\(∀x∈(kindsOf ns ks).take k,x=6)/\wr.cell? ⟨w.heap.size,5,none⟩=some (.slice ka ks.length kc)/\w.heap.size<wr.heap.size/\Below w.heap.size w wr) (fun c _=>ks.length-(intOf c).toNat)
 case atStart=>exact⟨0,Nat.zero_le _,rfl,fun x hx=>by simp at hx,by simp[go_sem],by simp,(by(repeat(first | exact Below.refl _ _ | refine bA ?_ _ | refine Below.setCell ?_ (by simp) _)))⟩
 case round=>
  obtain⟨k,hk,rfl,hw,b5,hsz,hb⟩:=hrel
  have HW:=hide hw
  clear hw
  by_cases hlt:k<ks.length
  ·have j1:(k:Int)<(ks.length:Int):=by omega
   obtain⟨kg,rfl,q2,e0⟩:=((unhide HS).of hb).at k hlt
   obtain⟨p,hp⟩:=Int.eq_ofNat_of_zero_le ((unhide HK) ks[k] (List.getElem_mem hlt)).1
   have hpl:p<ns.length:=by have:=((unhide HK) ks[k] (List.getElem_mem hlt)).2;omega
   obtain⟨⟨d0,_,_,_,_⟩,_⟩:=((unhide HN).of hg hb).at p hpl
   have j2:(p:Int)<(ns.length:Int):=by omega
   have q1:g<wr.heap.size:=Nat.lt_of_lt_of_le hg hb.size
   have hkd:k<(kindsOf ns ks).length:=by simp[kindsOf];exact hlt
   have hkx:(kindsOf ns ks)[k]=(ns[p]).K:=by
    simp only[kindsOf,List.getElem_map]
    rw[hp,show((p:Int)).toNat=p by simp,kindAt_some (List.getElem?_eq_getElem hpl)]
   have hnext:(ns[p]).K=6-> ∀x∈(kindsOf ns ks).take (k+1),x=6:=fun h x hx=>by
    rw[take_snocN _ k hkd]at hx
    rcases List.mem_append.1 hx with h' | h'
    ·exact unhide HW x h'
    ·simp only[List.mem_singleton]at h';rw[h',hkx];exact h
   have hbad:(ns[p]).K≠6-> ¬FitS ⟨7,0,0,S,T,ks⟩ (kindsOf ns ks):=fun h hh=>h (by rw[<-hkx];exact(HG.out.1 hh).1 _ (List.getElem_mem hkd))
   have Hn:=hide hnext;have Hb:=hide hbad
   clear hnext hbad hkx hkd
   rw[hp]at e0
   simp only[Nat.zero_add]at e0 d0
   generalize(ns[p]).K=K at*
   clear hp
   by_cases h6:K=6
   ·have h6':(K !=6)=false:=by simp[h6]
    have H6:=hide h6
    clear h6
    go_wp2
    go_roundw
    case rel=>exact⟨k+1,by omega,by go_num,unhide Hn (unhide H6),b5,hsz,hb⟩
    case measure=>simp[intOf];omega
   ·have h6':(K !=6)=true:=by simp[h6]
    have H6:=hide h6
    clear h6
    go_wp2
    go_ret
    exact⟨congrArg (fun z=>Ending.returned (.bool z)) (dB_false (unhide Hb (unhide H6))).symm,hb⟩
  ·obtain rfl:k=ks.length:=by omega
   have HE:Hid (dB (FitS ⟨7,0,0,S,T,ks⟩ (kindsOf ns ks))=decide ((2:Int)<=(ks.length:Int))):=by
    show _=_
    rw[Bool.eq_iff_iff,dB_iff,decide_eq_true_eq,HG.out]
    have:=unhide HW
    rw[List.take_of_length_le (by simp[kindsOf])]at this
    exact⟨fun h=>by have:=h.2;omega,fun h=>⟨this,by omega⟩⟩
   clear HW HG
   go_wp2
   go_ret
   exact⟨congrArg (fun z=>Ending.returned (.bool z)) HE.out.symm,hb⟩
end Go.Proofs.YtmggnimiioepeaaGreatDoor.AX
namespace Go.Proofs.YtmggnimiioepeaaGreatDoor.AX
open Go Go.RowKit
theorem nodeOk_calls(ns:List Nd)(g cap i:Nat)(w:World)(hg:g<w.heap.size)(hn:NodesAt w g 0 ns)(hb1:ns.length<=10000)(hi:i<ns.length)(hsm:Small ns)(hk:KidsIn ns (ns[i]).Kids)(hkl:(ns[i]).Kids.length<=10000):
  Calls Tryz.prog 32 #[.slice (some ⟨g,0,none⟩) ns.length cap,.int .i64 (i:Int)] w fun e w'=>e= .returned (.bool (dB (FitS ns[i] (kindsOf ns (ns[i]).Kids))))/\Below w.heap.size w w':=by
 have KC:Hid (∀W,Below w.heap.size w W->Calls Tryz.prog 57 #[.slice (some ⟨g,0,none⟩) ns.length cap,.int .i64 (i:Int)] W fun e w'=>e= .returned (.string (mkS ((kindsOf ns (ns[i]).Kids).map ltr)))/\w'=W):=
  fun W hb=>kinds_calls ns g cap i W (Nat.lt_of_lt_of_le hg hb.size) (hn.of hg hb) hb1 hi hk hkl
 obtain⟨⟨c0,c1,c2,c3,c4⟩,ka,kc,c5,_⟩:=hn.at i hi
 obtain⟨hS,hT,_⟩:=hsm _ (List.getElem_mem hi)
 simp only[Nat.zero_add]at c0 c1 c2 c3 c4 c5
 have j0:(i:Int)<(ns.length:Int):=by omega
 cases e:ns[i]with | mk K N M S T ks=>
 rw[e]at c0 c1 c2 c3 c4 c5 hS hT hk hkl KC
 simp only at c0 c1 c2 c3 c4 c5 hS hT hk hkl KC⊢
 have hq:=mkS_toList ((kindsOf ns ks).map ltr)
 have hqs:(mkS ((kindsOf ns ks).map ltr)).size<=1048576:=by rw[mkS_size];simp[kindsOf];omega
 by_cases hK:K<1\/15<K
 ·exact nodeOkX K N M S T ks ka ks.length kc _ _ g cap ns.length i w hg j0 hq hqs hS hT c0 c1 c2 c3 c4 c5 KC hK
 have hc:K=1\/K=2\/K=3\/K=4\/K=5\/K=6\/K=7\/K=8\/K=9\/K=10\/K=11\/K=12\/K=13\/K=14\/K=15:=by omega
 rcases hc with rfl | rfl | rfl | rfl | rfl | rfl | rfl | rfl | rfl | rfl | rfl | rfl | rfl | rfl | rfl
 ·exact nodeOk1 N M S T ks ka ks.length kc _ _ g cap ns.length i w hg j0 hq hqs hS hT c0 c1 c2 c3 c4 c5 KC
 ·exact nodeOk2 N M S T ks ka ks.length kc _ _ g cap ns.length i w hg j0 hq hqs hS hT c0 c1 c2 c3 c4 c5 KC
 ·exact nodeOk3 N M S T ks ka ks.length kc _ _ g cap ns.length i w hg j0 hq hqs hS hT c0 c1 c2 c3 c4 c5 KC
 ·exact nodeOk4 N M S T ks ka ks.length kc _ _ g cap ns.length i w hg j0 hq hqs hS hT c0 c1 c2 c3 c4 c5 KC
 ·exact nodeOk5 N M S T ks ka ks.length kc _ _ g cap ns.length i w hg j0 hq hqs hS hT c0 c1 c2 c3 c4 c5 KC
 ·exact nodeOk6 N M S T ks ka ks.length kc _ _ g cap ns.length i w hg j0 hq hqs hS hT c0 c1 c2 c3 c4 c5 KC
 ·exact nodeOk7 ns N M S T ks _ g cap i w hg hi hb1 hn e hkl hk KC
 ·exact nodeOk8 N M S T ks ka ks.length kc _ _ g cap ns.length i w hg j0 hq hqs hS hT c0 c1 c2 c3 c4 c5 KC
 ·exact nodeOk9 N M S T ks ka ks.length kc _ _ g cap ns.length i w hg j0 hq hqs hS hT c0 c1 c2 c3 c4 c5 KC
 ·exact nodeOk10 N M S T ks ka ks.length kc _ _ g cap ns.length i w hg j0 hq hqs hS hT c0 c1 c2 c3 c4 c5 KC
 ·exact nodeOk11 N M S T ks ka ks.length kc _ _ g cap ns.length i w hg j0 hq hqs hS hT c0 c1 c2 c3 c4 c5 KC
 ·exact nodeOk12 N M S T ks ka ks.length kc _ _ g cap ns.length i w hg j0 hq hqs hS hT c0 c1 c2 c3 c4 c5 KC
 ·exact nodeOk13 N M S T ks ka ks.length kc _ _ g cap ns.length i w hg j0 hq hqs hS hT c0 c1 c2 c3 c4 c5 KC
 ·exact nodeOk14 N M S T ks ka ks.length kc _ _ g cap ns.length i w hg j0 hq hqs hS hT c0 c1 c2 c3 c4 c5 KC
 ·exact nodeOk15 N M S T ks ka ks.length kc _ _ g cap ns.length i w hg j0 hq hqs hS hT c0 c1 c2 c3 c4 c5 KC
theorem sAstOk_calls(ns:List Nd)(g cap:Nat)(w:World)(hg:g<w.heap.size)(hn:NodesAt w g 0 ns)(hb0:ns.length<=1048576)(hsm:Small ns):
  Calls Tryz.prog 12 #[.agg #[.slice (some ⟨g,0,none⟩) ns.length cap]] w fun e w'=>e= .returned (.bool (dB (SV ns)))/\Below w.heap.size w w':=
 sAstOk_of ns g cap w hg hn hb0 hsm (fun hb1 hseg i hi W hb=>nodeOk_calls ns g cap i W (Nat.lt_of_lt_of_le hg hb.size) (hn.of hg hb) hb1 hi hsm (seg_kids hseg hb1 i hi).1 (seg_kids hseg hb1 i hi).2)
end Go.Proofs.YtmggnimiioepeaaGreatDoor.AX
namespace Go.Proofs.YtmggnimiioepeaaGreatDoor.Pa
open Go Go.RowKit
set_option maxHeartbeats 8000000 in
set_option maxRecDepth 100000 in
theorem sParse_calls(s:ByteArray)(w:World):Calls Tryz.prog 4 #[.string s] w (ParE s w):=by
 obtain⟨w1,hw1⟩: ∃w1,w1=w.alloc (.cells #[.slice none 0 0] 24):=⟨_,rfl⟩
 have hC1:CellsAt w1 w.heap.size [.slice none 0 0]:=by rw[hw1];exact CellsAt.new w [.slice none 0 0] _
 have hb1:Below w.heap.size w w1:=by rw[hw1];exact bA (Below.refl _ _) _
 have HW1:=hide hw1;have HC1:=hide hC1;have HB1:=hide hb1
 clear hw1 hC1 hb1
 by_cases h1:20000<s.size
 ·have HR:=hide (par_1 h1)
  have j1:(20000:Int)<(s.size:Int):=by omega
  have x0:=(unhide HC1).c1
  have hfX:=(unhide HC1).frz
  have hlX:=(unhide HC1).lt
  clear h1
  go_enter Tryz.func4,Tryz.ntmps4
  go_upto_region 1 with fail
  rw[<-unhide HW1]
  clear HW1
  go_wp2
  (try simp only[Exit.inBlock,Exit.then])
  refine bodyPost_ret (v:= .tuple #[.agg #[.slice none 0 0],.int .i64 1]) (by simp[results,Tryz.results4,go_sem,World.cell?_setCell_same _ _ _ x0]) rfl (ParE.no (unhide HR) (Below.setCell (unhide HB1) (Nat.le_refl _) _))
 have j1: ¬(20000:Int)<(s.size:Int):=by omega
 have HTk:=hide (l2Tokens_calls s w1 (by omega))
 go_enter Tryz.func4,Tryz.ntmps4
 go_upto_region 1 with fail
 rw[<-unhide HW1]
 clear HW1
 go_wp2_with fail
 refine(unhide HTk).mono ?_
 clear HTk
 rcases hl:lex s 0 with _ | L
 ·have HR:=hide (par_2 h1 hl)
  rintro e w2 ⟨a,c,n,b,rfl,hb2,hno,_⟩
  obtain rfl:=hno hl
  have HC2:=hide ((unhide HC1).of hb2)
  have HB2:=hide (bT (unhide HB1) hb2)
  have x0:=(unhide HC2).c1
  have hfX:=(unhide HC2).frz
  have hlX:=(unhide HC2).lt
  clear hno hl h1 hb2 HC1 HB1
  go_wp2
  (try simp only[Exit.inBlock,Exit.then])
  refine bodyPost_ret (v:= .tuple #[.agg #[.slice none 0 0],.int .i64 2]) (by simp[results,Tryz.results4,go_sem,World.cell?_setCell_same _ _ _ x0]) rfl (ParE.no (unhide HR) (Below.setCell (unhide HB2) (Nat.le_refl _) _))
 rintro e w2 ⟨a,c,n,b,rfl,hb2,_,hyes⟩
 obtain⟨rfl,rfl,hLs,hA,hown⟩:=hyes L hl
 have hT2:TksS w2 a L:=TksS.mk rfl hown hA
 have hL2:L.length<=20000:=by omega
 have HC2:=hide ((unhide HC1).of hb2)
 have HB2:=hide (bT (unhide HB1) hb2)
 obtain⟨BM,hBM⟩: ∃BM,BM=(brks (tks L)).2.1:=⟨_,rfl⟩
 obtain⟨ft,hft⟩: ∃ft,ft=((brks (tks L)).2.2&&decide ((brks (tks L)).1=0)):=⟨_,rfl⟩
 have HMo:Hid (Calls Tryz.prog 10 #[.slice a L.length c] w2 fun e w'=>e= .returned (.tuple #[.int .i64 BM,.bool ft])/\w2=w'):=(l2Most_calls L a c w2 (by omega) hT2).mono (fun e w' h=>⟨by rw[h.1,hBM,hft],h.2.symm⟩)
 have x0:=(unhide HC2).c1
 have hfX:=(unhide HC2).frz
 have hlX:=(unhide HC2).lt
 have HT2:=hide hT2;have HA:=hide hA
 clear hyes hb2 HC1 HB1 hown hLs hT2 hA
 by_cases h3:400<BM
 ·have HR:=hide (par_3 h1 hl (by rw[<-hBM];exact h3))
  clear hBM hft h1 hl
  go_wp2_with fail
  refine(unhide HMo).mono ?_;rintro e _ ⟨rfl,rfl⟩
  go_wp2
  (try simp only[Exit.inBlock,Exit.then])
  refine bodyPost_ret (v:= .tuple #[.agg #[.slice none 0 0],.int .i64 3]) (by simp[results,Tryz.results4,go_sem,World.cell?_setCell_same _ _ _ x0]) rfl (ParE.no (unhide HR) (Below.setCell (unhide HB2) (Nat.le_refl _) _))
 have h3': ¬400<(brks (tks L)).2.1:=by rw[<-hBM];exact h3
 cases ft
 ·have hub: ¬Bal (tks L):=fun hb=>by
   have:=(brks_bal (tks L)).2 hb
   rw[this.1,this.2]at hft
   simp at hft
  have HR:=hide (par_4 h1 hl h3' (unbal hub))
  clear hBM hft h1 hl hub h3'
  go_wp2_with fail
  refine(unhide HMo).mono ?_;rintro e _ ⟨rfl,rfl⟩
  go_wp2
  (try simp only[Exit.inBlock,Exit.then])
  refine bodyPost_ret (v:= .tuple #[.agg #[.slice none 0 0],.int .i64 4]) (by simp[results,Tryz.results4,go_sem,World.cell?_setCell_same _ _ _ x0]) rfl (ParE.no (unhide HR) (Below.setCell (unhide HB2) (Nat.le_refl _) _))
 have hbal:Bal (tks L):=(brks_bal (tks L)).1 (by
  have h:=hft.symm
  rw[Bool.and_eq_true,decide_eq_true_iff]at h
  exact h)
 obtain⟨WN,hWN⟩: ∃WN,WN=w2.alloc (.cells #[] 62):=⟨_,rfl⟩
 have hbN:Below w2.heap.size w2 WN:=by rw[hWN];exact bA (Below.refl _ _) _
 have hPr:Pre w2 L WN (fun _=>none) (some ⟨w2.heap.size,0,none⟩) 0 [] .query (8*L.length+100) 0 L.length:=⟨Nat.zero_le _,Nat.le_refl _,by simp only[rnk];omega,hbN,by rw[hWN];exact NS.empty (Nat.le_refl _),by simp;omega⟩
 have hcall:=(shyp_all w2 a c L (by omega) (unhide HT2) (8*L.length+100)).qu WN (fun _=>none) (some ⟨w2.heap.size,0,none⟩) 0 [] 0 L.length hPr
 have HCN:=hide ((unhide HC2).of hbN)
 have HBN:=hide (bT (unhide HB2) hbN)
 have HWN:=hide hWN
 have hsz:w2.heap.size<WN.heap.size:=by rw[hWN];simp
 have hs12:w.heap.size<w2.heap.size:=hlX
 have hsg:sgm (tks L) 0 L.length=tks L:=by have:=sgm_all (tks L);rwa [tks_len]at this
 rw[hsg]at hcall
 obtain⟨RQ,hRQ⟩: ∃RQ,RQ=sP (8*L.length+100) .query (tks L):=⟨_,rfl⟩
 have hsp: ∀t,RQ=some [t]↔iP (8*L.length+3) .query (tks L)=some ([t],[]):=fun t=>by rw[hRQ];exact sP_is (L:=L) (t:=t) (8*L.length+100) (by omega) hbal
 have HQ4:Hid (RQ=none->parF s=([],4)):=fun hr=>par_4 h1 hl h3' (fun t e=>by rw[(hsp t).2 e]at hr;cases hr)
 have HQ0:Hid (∀t,RQ=some [t]->IV (lay t 0)->parF s=(lay t 0,0)):=fun t hr=>par_0 h1 hl h3' ((hsp t).1 hr)
 have HQ5:Hid (∀t,RQ=some [t]-> ¬IV (lay t 0)->parF s=([],5)):=fun t hr=>par_5 h1 hl h3' ((hsp t).1 hr)
 have HQs:Hid (∀t,RQ=some [t]->(lay t 0).length<=20000/\AX.Small (lay t 0)/\lay t 0≠[]):=fun t hr=>lay_small hL2 (unhide HA) (G.ofI ((hsp t).1 hr))
 have HQ:Hid (RQ=none\/ ∃t,RQ=some [t]):=by
  show _\/_
  rw[hRQ]
  exact sP_one (f:=8*L.length+100) (nt:= .query) (xs:=tks L) (by simp[single])
 rw[<-hRQ]at hcall
 have HC:=hide hcall
 clear hWN hbN hPr hsg hBM hft hbal hsp hRQ hcall h1 hl h3'
 go_wp2_with fail
 refine(unhide HMo).mono ?_;rintro e _ ⟨rfl,rfl⟩
 clear HMo
 rcases unhide HQ with hr | ⟨t,hr⟩
 ·have HR:=hide (unhide HQ4 hr)
  rw[hr]at HC
  clear hr x0 hfX hlX HQ HQ4 HQ0 HQ5 HQs
  go_wp2_with fail
  rw[<-unhide HWN]
  refine(unhide HC).mono ?_
  intro e w3 hpe
  obtain⟨na2,nc2,lab2,ns2,rfl,hN2,hF2,hl2⟩:=hpe.no
  have HC3:=hide ((unhide HCN).but hF2.but (fun e=>by simp[blk]at e;omega))
  have HB3:=hide ((unhide HBN).trans (hF2.but.below (B:=w.heap.size) (by omega) (fun b e=>by simp[blk]at e;omega)))
  have x0:=(unhide HC3).c1
  have hfX:=(unhide HC3).frz
  have hlX:=(unhide HC3).lt
  clear hpe hN2 hF2 hl2 HC HCN HBN HWN
  go_wp2
  (try simp only[Exit.inBlock,Exit.then])
  refine bodyPost_ret (v:= .tuple #[.agg #[.slice none 0 0],.int .i64 4]) (by simp[results,Tryz.results4,go_sem,World.cell?_setCell_same _ _ _ x0]) rfl (ParE.no (unhide HR) (Below.setCell (unhide HB3) (Nat.le_refl _) _))
 obtain⟨hsm1,hsm2,hsm3⟩:=unhide HQs t hr
 have HP0:=hide (unhide HQ0 t hr)
 have HP5:=hide (unhide HQ5 t hr)
 rw[hr]at HC
 have Hs1:=hide hsm1;have Hs2:=hide hsm2;have Hs3:=hide hsm3
 clear hr x0 hfX hlX HQ HQ4 HQ0 HQ5 HQs hsm1 hsm2 hsm3
 go_wp2_with fail
 rw[<-unhide HWN]
 refine(unhide HC).mono ?_
 intro e w3 hpe
 obtain⟨na2,nc2,lab2,ns2,rfl,hN2,hF2,hl2,he2⟩:=hpe.yes
 simp only[List.nil_append,List.length_nil]at he2
 have hsm1:=unhide Hs1
 have hsm2:=unhide Hs2
 have hsm3:=unhide Hs3
 obtain⟨g,rfl,hg1,hg2,hnd⟩:=hN2.nodes (by rw[he2];exact hsm3)
 have HC3:=hide ((unhide HCN).but hF2.but (fun e=>by simp[blk]at e;omega))
 have HB3:=hide ((unhide HBN).trans (hF2.but.below (B:=w.heap.size) (by omega) (fun b e=>by simp[blk]at e;omega)))
 have hlab:lab2 w.heap.size=none:=hF2.lb w.heap.size (by omega)
 obtain⟨w4,hw4⟩: ∃w4,w4=w3.alloc (.cells #[.slice (some ⟨g,0,none⟩) ns2.length nc2] 24):=⟨_,rfl⟩
 have hb4:Below w3.heap.size w3 w4:=by rw[hw4];exact bA (Below.refl _ _) _
 have hA4:CellsAt w4 w3.heap.size [.slice (some ⟨g,0,none⟩) ns2.length nc2]:=by rw[hw4];exact CellsAt.new w3 [.slice (some ⟨g,0,none⟩) ns2.length nc2] _
 have HOk:=hide (AX.sAstOk_calls ns2 g nc2 w4 (Nat.lt_of_lt_of_le hg2 hb4.size) (hnd.of hg2 hb4) (by rw[he2];omega) (by rw[he2];exact hsm2))
 have HC4:=hide ((unhide HC3).of hb4)
 have HB4:=hide (bT (unhide HB3) hb4)
 have HN4:=hide (hN2.of hb4)
 have HA4:=hide hA4;have Hw4:=hide hw4;have HE2:=hide he2;have Hlab:=hide hlab
 have y0:=hA4.c1
 have hlY:=hA4.lt
 clear hpe hN2 hF2 hl2 HC HCN HBN HWN hw4 hb4 hA4 he2 hnd hsm1 hsm2 hsm3 HC3 HB3 hlab
 go_upto_region 15 with fail
 rw[<-unhide Hw4]
 clear Hw4
 go_wp2_with fail
 refine(unhide HOk).mono ?_
 clear HOk
 by_cases hsv:IV (lay t 0)
 ·have HR:=hide (unhide HP0 hsv)
  have hsv2:SV ns2:=by rw[unhide HE2];exact(iv_iff_sv _).1 hsv
  rw[dB_true hsv2]
  rintro e w5 ⟨rfl,hb5⟩
  have HC5:=hide ((unhide HC4).of hb5)
  have HB5:=hide (bT (unhide HB4) hb5)
  have HN5:=hide ((unhide HN4).of hb5)
  have y1:=((unhide HA4).of hb5).c1
  have hlY1:=((unhide HA4).of hb5).lt
  have x0:=(unhide HC5).c1
  have hfX:=(unhide HC5).frz
  have hlX:=(unhide HC5).lt
  clear hb5 HC4 HB4 HN4 HA4 y0 hlY hsv hsv2 HP0 HP5
  go_wp2
  (try simp only[Exit.inBlock,Exit.then])
  refine bodyPost_ret (v:= .tuple #[.agg #[.slice (some ⟨g,0,none⟩) ns2.length nc2],.int .i64 0]) (by simp[results,Tryz.results4,go_sem,World.cell?_setCell_same _ _ _ x0]) rfl ?_
  refine⟨some ⟨g,0,none⟩,nc2,lab2,?_,?_,Below.setCell (unhide HB5) (Nat.le_refl _) _⟩
  ·rw[unhide HR,unhide HE2]
  ·rw[unhide HR,<-unhide HE2]
   refine((unhide HN5).base (Nat.le_of_lt hs12)).but (S:=fun b=>b=w.heap.size) (ButB.set (S:=fun b=>b=w.heap.size) (ButB.refl _ _) (Or.inl rfl) _) (fun b e e'=>by simp[blk]at e;omega) (fun b i e e'=>by rw[e',unhide Hlab]at e;cases e)
 ·have HR:=hide (unhide HP5 hsv)
  have hsv2: ¬SV ns2:=by rw[unhide HE2];exact fun h=>hsv ((iv_iff_sv _).2 h)
  rw[dB_false hsv2]
  rintro e w5 ⟨rfl,hb5⟩
  have HC5:=hide ((unhide HC4).of hb5)
  have HB5:=hide (bT (unhide HB4) hb5)
  have x0:=(unhide HC5).c1
  have hfX:=(unhide HC5).frz
  have hlX:=(unhide HC5).lt
  clear hb5 HC4 HB4 HN4 HA4 y0 hlY hsv hsv2 HP0 HP5
  go_wp2
  (try simp only[Exit.inBlock,Exit.then])
  refine bodyPost_ret (v:= .tuple #[.agg #[.slice none 0 0],.int .i64 5]) (by simp[results,Tryz.results4,go_sem,World.cell?_setCell_same _ _ _ x0]) rfl (ParE.no (unhide HR) (Below.setCell (unhide HB5) (Nat.le_refl _) _))
end Go.Proofs.YtmggnimiioepeaaGreatDoor.Pa
namespace Go.Proofs.YtmggnimiioepeaaGreatDoor.Pa
open Go Go.RowKit
set_option maxRecDepth 100000 in
set_option maxHeartbeats 8000000 in
theorem lawParse_calls(T:ByteArray)(w:World)(hK:Tabs w):Calls Tryz.prog 3 #[.string T] w fun e w'=>e= .returned (.bool true)/\Below w.heap.size w w':=by
 by_cases hbig:1048576<T.size
 ·have j:(1048576:Int)<(T.size:Int):=by omega
  clear hK
  go_enter Tryz.func3,Tryz.ntmps3
  go_wp2
  go_ret
  exact⟨rfl,Below.refl _ _⟩
 have j: ¬(1048576:Int)<(T.size:Int):=by omega
 have HS:Hid (∀W,Calls Tryz.prog 4 #[.string T] W fun e w'=> ∃na nc lab,e= .returned (.tuple #[.agg #[.slice na (parF T).1.length nc],.int .i64 (parF T).2])/\NS W.heap.size w' lab na nc (parF T).1/\Below W.heap.size W w'):=fun W=>sParse_calls T W
 have HI:Hid (∀W,Below w.heap.size w W->Calls Tryz.prog 5 #[.string T] W fun e w'=> ∃na nc lab,e= .returned (.tuple #[.agg #[.slice na (parF T).1.length nc],.int .i64 (parF T).2])/\NS W.heap.size w' lab na nc (parF T).1/\Below W.heap.size W w'):=fun W hb=>iParse_calls T W (hK.of hb)
 obtain⟨b1,hk,hkt⟩:=par_small T
 generalize(parF T).2=code at*
 generalize(parF T).1=ns at*
 have b2:ns.length<=1048576:=by omega
 have HKs:=hide hk
 have ec:((code:Int) !=code)=false:=by simp
 obtain⟨kk,hkk⟩: ∃kk,kk=1+kA ns:=⟨_,rfl⟩
 have kn: ¬((kk:Int)<0):=by omega
 have ek:((kk:Int) !=(kk:Int))=false:=by simp
 have Hkk:=hide hkk
 have Hkt:=hide hkt;have Hb2:=hide b2
 clear hK hk hkk hkt b1 b2 hbig
 go_enter Tryz.func3,Tryz.ntmps3
 go_wp2_with fail
 refine(unhide HS _).mono ?_;rintro e w1 ⟨a0,c0,lab0,rfl,hN0,hb1⟩
 obtain⟨wA,hwA⟩: ∃wA,wA=w1.alloc (.cells #[.slice a0 ns.length c0] 24):=⟨_,rfl⟩
 have hbA:Below w1.heap.size w1 wA:=by rw[hwA];exact bA (Below.refl _ _) _
 have HXA:Hid (CellsAt wA w1.heap.size [.slice a0 ns.length c0]):=by show CellsAt _ _ _;rw[hwA];exact CellsAt.new w1 [.slice a0 ns.length c0] _
 have HH0:=hide (hN0.hd.of hbA)
 have HBA:=hide (bT hb1 hbA)
 have HwA:=hide hwA
 have hsA:w1.heap.size<wA.heap.size:=(unhide HXA).lt
 clear hN0 hb1 HS hwA hbA
 go_wp2_with fail
 rw[<-unhide HwA]
 clear HwA
 refine(unhide HI wA (unhide HBA)).mono ?_;rintro e w2 ⟨a1,c1,lab1,rfl,hN1,hb2⟩
 obtain⟨wB,hwB⟩: ∃wB,wB=w2.alloc (.cells #[.slice a1 ns.length c1] 24):=⟨_,rfl⟩
 have hbB:Below w2.heap.size w2 wB:=by rw[hwB];exact bA (Below.refl _ _) _
 have HYB:Hid (CellsAt wB w2.heap.size [.slice a1 ns.length c1]):=by show CellsAt _ _ _;rw[hwB];exact CellsAt.new w2 [.slice a1 ns.length c1] _
 have HAB:=hide (bT hb2 hbB)
 have HXB:=hide ((unhide HXA).of (unhide HAB))
 have HN1:=hide (hN1.of hbB)
 have Hlo:Hid ((∀b,blk a1=some b->b<w2.heap.size)/\ ∀b i,lab1 b=some i->b<w2.heap.size):=⟨fun b e=>(hN1.lt b e).2,hN1.rng⟩
 have HEq:=hide (eqAst_any ns a1 a0 c1 c0 wB (unhide HN1).hd ((unhide HH0).of (unhide HAB)) (unhide Hb2) (unhide HKs))
 have hs2:wA.heap.size<=w2.heap.size:=hb2.size
 have hsB:w2.heap.size<wB.heap.size:=(unhide HYB).lt
 have HwB:=hide hwB
 have x0:=(unhide HXB).c1
 have hlX:=(unhide HXB).lt
 have y0:=(unhide HYB).c1
 have hlY:=(unhide HYB).lt
 clear hN1 hb2 hwB hbB HXA
 go_upto_region 5 with fail
 rw[<-unhide HwB]
 clear HwB
 go_wp2_with fail
 refine(unhide HEq).mono ?_;rintro e w3 ⟨rfl,hb3⟩
 have HA3:=hide (bT (unhide HAB) hb3)
 have HX3:=hide ((unhide HXB).of hb3)
 have HY3:=hide ((unhide HYB).of hb3)
 have HN3:=hide ((unhide HN1).of hb3)
 have HMk:Hid (Calls Tryz.prog 7 #[.agg #[.slice a1 ns.length c1],.int .i64 1] w3 fun e w'=>e= .returned (.int .i64 (kk:Int))/\Hd w' a1 (mNds 1 ns)/\ButM (fun b=>wA.heap.size<=b/\b<w2.heap.size) w3 w'):=by
  show Calls _ _ _ _ _
  rw[unhide Hkk]
  exact markAst_any ns a1 c1 1 w3 (unhide HN3) (unhide Hlo).1 (unhide Hlo).2 (unhide Hb2) (unhide HKs) (Nat.le_refl _) (by have:=unhide Hkt;omega)
 have hs3:wB.heap.size<=w3.heap.size:=hb3.size
 clear hb3 HEq HXB HYB HN1 HAB x0 hlX y0 hlY Hlo
 have x0:=(unhide HX3).c1
 have hlX:=(unhide HX3).lt
 have y0:=(unhide HY3).c1
 have hlY:=(unhide HY3).lt
 go_wp2_with fail
 refine(unhide HMk).mono ?_;rintro e w4 ⟨rfl,hH4,hB4⟩
 have hl4:Below wA.heap.size w3 w4:=hB4.low _ (fun b hb=>hb.1) (by omega)
 have HA4:=hide ((unhide HA3).trans hl4)
 have HX4:Hid (w4.cell? ⟨w1.heap.size,0,none⟩=some (.slice a0 ns.length c0)):=(hB4.cell w1.heap.size 0 hlX (fun e=>by omega)).trans x0
 have HY4:Hid (w4.cell? ⟨w2.heap.size,0,none⟩=some (.slice a1 ns.length c1)):=(hB4.cell w2.heap.size 0 hlY (fun e=>by omega)).trans y0
 have hs4:w3.heap.size<=w4.heap.size:=hB4.size
 have HH4:=hide hH4
 have HHe:Hid (∀W,Below w4.heap.size w4 W->Calls Tryz.prog 8 #[.agg #[.slice a1 ns.length c1],.int .i64 1] W fun e w'=>e= .returned (.int .i64 (kk:Int))/\Below W.heap.size W w'):=fun W hb=>by
  rw[unhide Hkk]
  exact heldAst_any ns a1 c1 1 W ((unhide HH4).of hb) (unhide Hb2) (unhide HKs) (Nat.le_refl _) (by have:=unhide Hkt;omega)
 clear hH4 hB4 hl4 HMk HX3 HY3 HN3 HA3 x0 hlX y0 hlY
 have x0:=unhide HX4
 have y0:=unhide HY4
 go_wp2_with fail
 refine(unhide HHe w4 (Below.refl _ _)).mono ?_;rintro e w5 ⟨rfl,hb5⟩
 have HA5:=hide ((unhide HA4).trans (hb5.mono (by omega)))
 have HB5:=hide hb5
 have hs5:w4.heap.size<=w5.heap.size:=hb5.size
 have HX5:Hid (w5.cell? ⟨w1.heap.size,0,none⟩=some (.slice a0 ns.length c0)):=(hb5.cell (p:=⟨w1.heap.size,0,none⟩) (by dsimp only;omega)).trans x0
 have HY5:Hid (w5.cell? ⟨w2.heap.size,0,none⟩=some (.slice a1 ns.length c1)):=(hb5.cell (p:=⟨w2.heap.size,0,none⟩) (by dsimp only;omega)).trans y0
 clear hb5 HX4 HY4 HA4 x0 y0
 go_wp2_with fail
 refine(unhide HI w5 (bT (unhide HBA) (unhide HA5))).mono ?_;rintro e w6 ⟨a2,c2,lab2,rfl,hN2,hb6⟩
 obtain⟨wC,hwC⟩: ∃wC,wC=w6.alloc (.cells #[.slice a2 ns.length c2] 24):=⟨_,rfl⟩
 have hbC:Below w6.heap.size w6 wC:=by rw[hwC];exact bA (Below.refl _ _) _
 have HZC:Hid (CellsAt wC w6.heap.size [.slice a2 ns.length c2]):=by show CellsAt _ _ _;rw[hwC];exact CellsAt.new w6 [.slice a2 ns.length c2] _
 have h5C:Below w5.heap.size w5 wC:=bT hb6 hbC
 have hs6:w5.heap.size<=w6.heap.size:=hb6.size
 have HAC:=hide ((unhide HA5).trans (h5C.mono (by omega)))
 have H4C:=hide (bT (unhide HB5) h5C)
 have HEq:=hide (eqAst_any ns a2 a0 c2 c0 wC (hN2.of hbC).hd ((unhide HH0).of (unhide HAC)) (unhide Hb2) (unhide HKs))
 have x0:wC.cell? ⟨w1.heap.size,0,none⟩=some (.slice a0 ns.length c0):=(h5C.cell (p:=⟨w1.heap.size,0,none⟩) (by dsimp only;omega)).trans (unhide HX5)
 have y0:wC.cell? ⟨w2.heap.size,0,none⟩=some (.slice a1 ns.length c1):=(h5C.cell (p:=⟨w2.heap.size,0,none⟩) (by dsimp only;omega)).trans (unhide HY5)
 have z0:=(unhide HZC).c1
 have hsC:w6.heap.size<wC.heap.size:=(unhide HZC).lt
 have HwC:=hide hwC
 clear hN2 hb6 hwC hbC h5C HX5 HY5 HA5 HB5 HI
 go_upto_region 16 with fail
 rw[<-unhide HwC]
 clear HwC
 go_wp2_with fail
 refine(unhide HEq).mono ?_;rintro e w7 ⟨rfl,hb7⟩
 have HA7:=hide ((unhide HAC).trans (hb7.mono (by omega)))
 have y1:w7.cell? ⟨w2.heap.size,0,none⟩=some (.slice a1 ns.length c1):=(hb7.cell (p:=⟨w2.heap.size,0,none⟩) (by dsimp only;omega)).trans y0
 have H47:=hide (bT (unhide H4C) hb7)
 have hs7:wC.heap.size<=w7.heap.size:=hb7.size
 clear hb7 HEq HAC H4C x0 y0 z0 HZC
 go_wp2_with fail
 refine(unhide HHe w7 (unhide H47)).mono ?_;rintro e w8 ⟨rfl,hb8⟩
 have HA8:=hide (bT (unhide HBA) ((unhide HA7).trans (hb8.mono (by omega))))
 clear hb8 HA7 HHe H47
 go_wp2
 go_ret
 exact⟨rfl,unhide HA8⟩
end Go.Proofs.YtmggnimiioepeaaGreatDoor.Pa
