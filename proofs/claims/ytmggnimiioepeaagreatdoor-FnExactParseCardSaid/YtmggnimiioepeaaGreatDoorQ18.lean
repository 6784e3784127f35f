import Derived.Test.YtmggnimiioepeaaGreatDoorQ0
import Derived.Test.YtmggnimiioepeaaGreatDoorQ17
import Derived.Test.YtmggnimiioepeaaGreatDoorQ4
namespace Go.Proofs.YtmggnimiioepeaaGreatDoor.Pa
open Go Go.RowKit
structure PsrI(w:World)(pb:Nat)(a:Option Addr)(c:Nat)(L:List (Tok×ByteArray))(k:Nat):Prop where
 lt:pb<w.heap.size
 c0:w.cell? ⟨pb,0,none⟩=some (.slice a L.length c)
 c1:w.cell? ⟨pb,1,none⟩=some (.int .i64 (k:Int))
 toks:TksI w a L
theorem PsrI.of{w w1:World}{pb:Nat}{a:Option Addr}{c:Nat}{L:List (Tok×ByteArray)}{k:Nat}(h:PsrI w pb a c L k)(hb:Below w.heap.size w w1):PsrI w1 pb a c L k:=
 ⟨Nat.lt_of_lt_of_le h.lt hb.size,((bcell hb).1 pb 0 h.lt).trans h.c0,((bcell hb).1 pb 1 h.lt).trans h.c1,h.toks.of hb⟩
set_option maxHeartbeats 2000000 in
theorem ahead_no(w:World)(pb:Nat)(a:Option Addr)(c:Nat)(L:List (Tok×ByteArray))(k j:Nat)(h:PsrI w pb a c L k)(hk:k<=1000000)(hj:j<=10)(hL:L.length<=k+j):Calls Tryz.prog 71 #[.pointer (some ⟨pb,0,none⟩),.int .i64 (j:Int)] w fun e w'=>e= .returned (.agg #[.int .i64 0,.string ⟨#[]⟩,.int .i64 0])/\Below w.heap.size w w':=by
 have c0:=h.c0
 have c1:=h.c1
 have hpb:=h.lt
 clear h
 have j1: ¬(k:Int)+(j:Int)<(L.length:Int):=by omega
 have jd:decide ((k:Int)+(j:Int)<(L.length:Int))=false:=decide_eq_false j1
 have jw:IntKind.i64.wrap ((k:Int)+(j:Int))=(k:Int)+(j:Int):=by rw[IntKind.wrap_i64];omega
 go_enter Tryz.func71,Tryz.ntmps71
 go_upto_region 1 with fail
 have d0:(w.alloc (.cells #[.int .i64 0,.string ⟨#[]⟩,.int .i64 0] 68)).cell? ⟨pb,0,none⟩=some (.slice a L.length c):=((bcell (bA (Below.refl w.heap.size w) _)).1 pb 0 hpb).trans c0
 have d1:(w.alloc (.cells #[.int .i64 0,.string ⟨#[]⟩,.int .i64 0] 68)).cell? ⟨pb,1,none⟩=some (.int .i64 (k:Int)):=((bcell (bA (Below.refl w.heap.size w) _)).1 pb 1 hpb).trans c1
 obtain⟨W,hW⟩: ∃W,W=w.alloc (.cells #[.int .i64 0,.string ⟨#[]⟩,.int .i64 0] 68):=⟨_,rfl⟩
 have hCx:CellsAt W w.heap.size [.int .i64 0,.string ⟨#[]⟩,.int .i64 0]:=by rw[hW];exact CellsAt.new w [.int .i64 0,.string ⟨#[]⟩,.int .i64 0] 68
 have hWB:Below w.heap.size w W:=by rw[hW];exact bA (Below.refl _ _) _
 rw[<-hW]at d0 d1
 rw[<-hW]
 have hpW:pb<W.heap.size:=Nat.lt_of_lt_of_le hpb hWB.size
 clear hW c0 c1
 have HCx:=hide hCx;have HWB:=hide hWB
 clear hCx hWB
 refine wp_region_held_drew (S:=Std W) (by kernel_rfl) (Std.drew (Std.refl _)) (fun hHeld=> ?_)
 refine tW 0 5 (.pointer (some ⟨pb,0,none⟩)) ?_
 simp only[puts]
 refine tW 1 6 (.pointer (some ⟨pb,0,none⟩)) ?_
 simp only[puts]
 refine tW 2 7 (.pointer (some ⟨pb,1,none⟩)) ?_
 simp only[puts]
 refine tW 3 8 (.int .i64 (k:Int)) ?_
 simp only[puts]
 refine tW 4 9 (.int .i64 (j:Int)) ?_
 simp only[puts]
 refine tW 5 10 (.int .i64 ((k:Int)+(j:Int))) ?_
 simp only[puts]
 refine tW 6 11 (.pointer (some ⟨pb,0,none⟩)) ?_
 simp only[puts]
 refine tW 7 12 (.pointer (some ⟨pb,0,none⟩)) ?_
 simp only[puts]
 refine tW 8 13 (.pointer (some ⟨pb,0,none⟩)) ?_
 simp only[puts]
 refine tW 9 14 (.slice a L.length c) ?_
 simp only[puts]
 refine tW 10 15 (.int .i64 (L.length:Int)) ?_
 simp only[puts]
 refine tW 11 16 (.bool false) ?_
 simp only[puts]
 refine wpAnyH_done (by kernel_rfl) ?_ _
 have HCd:Hid (CellsAt W.drew w.heap.size [.int .i64 0,.string ⟨#[]⟩,.int .i64 0]):=(unhide HCx).of (Below.refl _ _).drew
 have HBd:Hid (Below w.heap.size w W.drew):=(unhide HWB).drew
 generalize W.drew=W2 at*
 clear hHeld d0 d1 HCx HWB hpW
 obtain⟨e0,e1,e2⟩:W2.cell? ⟨w.heap.size,0,none⟩=some (.int .i64 0)/\W2.cell? ⟨w.heap.size,1,none⟩=some (.string ⟨#[]⟩)/\W2.cell? ⟨w.heap.size,2,none⟩=some (.int .i64 0):=⟨(unhide HCd).all 0 _ rfl,(unhide HCd).all 1 _ rfl,(unhide HCd).all 2 _ rfl⟩
 have hxl:=(unhide HCd).lt
 have hfz:=(unhide HCd).frz
 go_wp2
 refine bodyPost_ret (v:= .agg #[.int .i64 0,.string ⟨#[]⟩,.int .i64 0]) (by simp[results,Tryz.results71,go_sem,e0,e1,e2]) rfl ⟨rfl,?_⟩
 (repeat(refine Below.setCell ?_ (by dsimp only;omega) _))
 exact unhide HBd
set_option maxHeartbeats 4000000 in
theorem ahead_yes(w:World)(pb:Nat)(a:Option Addr)(c:Nat)(L:List (Tok×ByteArray))(k j:Nat)(h:PsrI w pb a c L k)(hk:k<=1000000)(hj:j<=10)(q:Tok×ByteArray)(hq:L[k+j]?=some q):Calls Tryz.prog 71 #[.pointer (some ⟨pb,0,none⟩),.int .i64 (j:Int)] w fun e w'=>e= .returned (.agg (tkI q.1 q.2).toArray)/\Below w.heap.size w w':=by
 have c0:=h.c0
 have c1:=h.c1
 have hpb:=h.lt
 obtain⟨_,g,rfl,hg,hcs⟩:=h.toks _ _ hq
 have hlt:=(List.getElem?_eq_some_iff.1 hq).1
 obtain⟨KK,V,hform⟩:=tkI_form q.1 q.2
 rw[hform]
 simp only[hform]at hcs
 obtain⟨i,hi⟩: ∃i:Nat,i=k+j:=⟨_,rfl⟩
 rw[<-hi]at hcs hlt
 have k0:w.cell? ⟨g,i*3,none⟩=some (.int .i64 KK):=hcs 0 (by omega)
 have k1:w.cell? ⟨g,i*3+1,none⟩=some (.string q.2):=hcs 1 (by omega)
 have k2:w.cell? ⟨g,i*3+2,none⟩=some (.int .i64 V):=hcs 2 (by omega)
 have jw:IntKind.i64.wrap ((k:Int)+(j:Int))=(i:Int):=by rw[IntKind.wrap_i64];omega
 have j1:(i:Int)<(L.length:Int):=by omega
 have jd:decide ((i:Int)<(L.length:Int))=true:=decide_eq_true j1
 generalize q.2=T at*
 clear h hcs hform hq hi
 go_enter Tryz.func71,Tryz.ntmps71
 go_upto_region 1 with fail
 obtain⟨W,hW⟩: ∃W,W=w.alloc (.cells #[.int .i64 0,.string ⟨#[]⟩,.int .i64 0] 68):=⟨_,rfl⟩
 have hCx:CellsAt W w.heap.size [.int .i64 0,.string ⟨#[]⟩,.int .i64 0]:=by rw[hW];exact CellsAt.new w [.int .i64 0,.string ⟨#[]⟩,.int .i64 0] 68
 have hWB:Below w.heap.size w W:=by rw[hW];exact bA (Below.refl _ _) _
 rw[<-hW]
 clear hW
 have HCx:=hide hCx;have HWB:=hide hWB
 clear hCx hWB
 refine wp_region_held_drew (S:=Std w) (by kernel_rfl) (Std.drew (Std.mk (unhide HWB))) (fun hHeld=> ?_)
 refine tW 0 5 (.pointer (some ⟨pb,0,none⟩)) ?_
 simp only[puts]
 refine tW 1 6 (.pointer (some ⟨pb,0,none⟩)) ?_
 simp only[puts]
 refine tW 2 7 (.pointer (some ⟨pb,1,none⟩)) ?_
 simp only[puts]
 refine tW 3 8 (.int .i64 (k:Int)) ?_
 simp only[puts]
 refine tW 4 9 (.int .i64 (j:Int)) ?_
 simp only[puts]
 refine tW 5 10 (.int .i64 (i:Int)) ?_
 simp only[puts]
 refine tW 6 11 (.pointer (some ⟨pb,0,none⟩)) ?_
 simp only[puts]
 refine tW 7 12 (.pointer (some ⟨pb,0,none⟩)) ?_
 simp only[puts]
 refine tW 8 13 (.pointer (some ⟨pb,0,none⟩)) ?_
 simp only[puts]
 refine tW 9 14 (.slice (some ⟨g,0,none⟩) L.length c) ?_
 simp only[puts]
 refine tW 10 15 (.int .i64 (L.length:Int)) ?_
 simp only[puts]
 refine tW 11 16 (.bool true) ?_
 simp only[puts]
 refine wpAnyH_done (by kernel_rfl) ?_ _
 have HCd:Hid (CellsAt W.drew w.heap.size [.int .i64 0,.string ⟨#[]⟩,.int .i64 0]):=(unhide HCx).of (Below.refl _ _).drew
 have HBd:Hid (Below w.heap.size w W.drew):=(unhide HWB).drew
 generalize W.drew=W2 at*
 clear hHeld HCx HWB
 go_upto_region 2 with fail
 refine wp_region_held_drew (S:=Std w) (by kernel_rfl) (Std.drew (Std.mk (unhide HBd))) (fun hHeld=> ?_)
 refine tW 0 17 (.pointer (some ⟨pb,0,none⟩)) ?_
 simp only[puts]
 refine tW 1 18 (.pointer (some ⟨pb,0,none⟩)) ?_
 simp only[puts]
 refine tW 2 19 (.pointer (some ⟨pb,0,none⟩)) ?_
 simp only[puts]
 refine tW 3 20 (.slice (some ⟨g,0,none⟩) L.length c) ?_
 simp only[puts]
 refine tW 4 21 (.pointer (some ⟨pb,0,none⟩)) ?_
 simp only[puts]
 refine tW 5 22 (.pointer (some ⟨pb,0,none⟩)) ?_
 simp only[puts]
 refine tW 6 23 (.pointer (some ⟨pb,1,none⟩)) ?_
 simp only[puts]
 refine tW 7 24 (.int .i64 (k:Int)) ?_
 simp only[puts]
 refine tW 8 25 (.int .i64 (j:Int)) ?_
 simp only[puts]
 refine tW 9 26 (.int .i64 (i:Int)) ?_
 simp only[puts]
 refine tW 10 27 (.pointer (some ⟨g,i*3,none⟩)) ?_
 simp only[puts]
 refine tW 11 28 (.agg #[.int .i64 KK,.string T,.int .i64 V]) ?_
 simp only[puts]
 have HCe:Hid (CellsAt W2.drew w.heap.size [.int .i64 0,.string ⟨#[]⟩,.int .i64 0]):=(unhide HCd).of (Below.refl _ _).drew
 have HBe:Hid (Below w.heap.size w W2.drew):=(unhide HBd).drew
 generalize W2.drew=W3 at*
 obtain⟨e0,e1,e2⟩:W3.cell? ⟨w.heap.size,0,none⟩=some (.int .i64 0)/\W3.cell? ⟨w.heap.size,1,none⟩=some (.string ⟨#[]⟩)/\W3.cell? ⟨w.heap.size,2,none⟩=some (.int .i64 0):=⟨(unhide HCe).all 0 _ rfl,(unhide HCe).all 1 _ rfl,(unhide HCe).all 2 _ rfl⟩
 have hfz:=(unhide HCe).frz
 refine wpAnyH_ready (rs:=[12]) (by kernel_rfl) (by simp) ?_
 refine AllReadyH.cons rfl (fun Kx hK=> ?_) AllReadyH.nil
 go_simp
 have HBf:Hid (Below w.heap.size w (((W3.setCell ⟨w.heap.size,0,none⟩ (.int .i64 KK)).setCell ⟨w.heap.size,1,none⟩ (.string T)).setCell ⟨w.heap.size,2,none⟩ (.int .i64 V))):=((((unhide HBe).setCell (by dsimp only;omega) _).setCell (by dsimp only;omega) _).setCell (by dsimp only;omega) _)
 have HCf:Hid (CellsAt (((W3.setCell ⟨w.heap.size,0,none⟩ (.int .i64 KK)).setCell ⟨w.heap.size,1,none⟩ (.string T)).setCell ⟨w.heap.size,2,none⟩ (.int .i64 V)) w.heap.size [.int .i64 KK,.string T,.int .i64 V]):=((((unhide HCe).set 0 (.int .i64 KK) (by simp)).set 1 (.string T) (by simp)).set 2 (.int .i64 V) (by simp))
 refine hK.out _ _ (Std.mk (unhide HBf)) (fun hHeld2=> ?_)
 clear hK Kx
 refine wpAnyH_done (by kernel_rfl) ?_ _
 clear hHeld hHeld2 HCd HBd HCe HBe e0 e1 e2 hfz
 generalize((W3.setCell ⟨w.heap.size,0,none⟩ (.int .i64 KK)).setCell ⟨w.heap.size,1,none⟩ (.string T)).setCell ⟨w.heap.size,2,none⟩ (.int .i64 V)=W4 at*
 obtain⟨f0,f1,f2⟩:W4.cell? ⟨w.heap.size,0,none⟩=some (.int .i64 KK)/\W4.cell? ⟨w.heap.size,1,none⟩=some (.string T)/\W4.cell? ⟨w.heap.size,2,none⟩=some (.int .i64 V):=⟨(unhide HCf).all 0 _ rfl,(unhide HCf).all 1 _ rfl,(unhide HCf).all 2 _ rfl⟩
 go_wp2
 refine bodyPost_ret (v:= .agg #[.int .i64 KK,.string T,.int .i64 V]) (by simp[results,Tryz.results71,go_sem,f0,f1,f2]) rfl ⟨rfl,?_⟩
 exact unhide HBf
end Go.Proofs.YtmggnimiioepeaaGreatDoor.Pa
namespace Go.Proofs.YtmggnimiioepeaaGreatDoor.Pa
open Go Go.RowKit
theorem PsrI.step{w:World}{pb:Nat}{a:Option Addr}{c:Nat}{L:List (Tok×ByteArray)}{k:Nat}(h:PsrI w pb a c L k)(hne: ∀g,a=some ⟨g,0,none⟩->g≠pb):PsrI (w.setCell ⟨pb,1,none⟩ (.int .i64 ((k+1:Nat):Int))) pb a c L (k+1):=by
 refine⟨by simpa using h.lt,?_,World.cell?_setCell_same _ _ _ h.c1,fun i p hp=> ?_⟩
 ·rw[setCell_otherN (by omega)];exact h.c0
 ·obtain⟨h0,g,h1,h2,h3⟩:=h.toks i p hp
  refine⟨h0,g,h1,by simpa using h2,fun j hj=> ?_⟩
  rw[setCell_farN (fun e=>hne g h1 e.symm)]
  exact h3 j hj
theorem tkField1(K V:Int)(T:ByteArray)(W:World):Sem.run Tryz.prog (Instr.field 68 (.agg #[.int .i64 K,.string T,.int .i64 V]) 1) W= .ok (.string T) W:=by kernel_rfl
set_option maxHeartbeats 2000000 in
set_option maxRecDepth 100000 in
theorem takes_no(w:World)(pb:Nat)(a:Option Addr)(c:Nat)(L:List (Tok×ByteArray))(k:Nat)(h:PsrI w pb a c L k)(hk:k<=1000000)(S:ByteArray)(q:Nat)(hq:q<28)(hS:S.toList=syT q)(hn:(tks L)[k]?≠some (.sy q)):Calls Tryz.prog 69 #[.pointer (some ⟨pb,0,none⟩),.string S] w fun e w'=>e= .returned (.bool false)/\Below w.heap.size w w':=by
 have key: ∃K T V,(T.toList==S.toList)=false/\Calls Tryz.prog 71 #[.pointer (some ⟨pb,0,none⟩),.int .i64 0] w fun e w'=>e= .returned (.agg #[.int .i64 K,.string T,.int .i64 V])/\Below w.heap.size w w':=by
  cases hp:L[k]? with
  | none=>
   refine⟨0,⟨#[]⟩,0,?_,ahead_no w pb a c L k 0 h hk (by omega) (by have:=List.getElem?_eq_none_iff.1 hp;omega)⟩
   rw[hS,show(⟨#[]⟩:ByteArray).toList=[]from Go.ByteArray.toList_mk []]
   have: ∀q,q<28->(([]:List UInt8)==syT q)=false:=by decide
   exact this q hq
  | some p=>
   obtain⟨K,V,hf⟩:=tkI_form p.1 p.2
   refine⟨K,p.2,V,?_,?_⟩
   ·rw[hS,text_beq (h.toks k p hp).1 q hq]
    exact decide_eq_false (fun e=>hn (by simp[hp,e]))
   ·have:=ahead_yes w pb a c L k 0 h hk (by omega) p hp
    rw[hf]at this
    exact this
 obtain⟨K,T,V,hT,hC⟩:=key
 have HC:=hide hC
 clear hC h hn hS
 have hT':(T.toList !=S.toList)=true:=by rw[bne,hT];rfl
 go_enter Tryz.func69,Tryz.ntmps69
 go_wp2_with fail
 refine(unhide HC).mono ?_;rintro e w1 ⟨rfl,hb1⟩
 have HB:=hide hb1
 clear hb1
 have hfd:=tkField1 K V T w1
 go_wp2
 go_ret
 exact⟨rfl,unhide HB⟩
set_option maxHeartbeats 2000000 in
set_option maxRecDepth 100000 in
theorem takes_yes(w:World)(pb:Nat)(a:Option Addr)(c:Nat)(L:List (Tok×ByteArray))(k:Nat)(h:PsrI w pb a c L k)(hne: ∀g,a=some ⟨g,0,none⟩->g≠pb)(hfz:w.frozen? ⟨pb,1,none⟩=false)(hk:k<=1000000)(S:ByteArray)(q:Nat)(hq:q<28)(hS:S.toList=syT q)(p:Tok×ByteArray)(hp:L[k]?=some p)(ht:p.1= .sy q):Calls Tryz.prog 69 #[.pointer (some ⟨pb,0,none⟩),.string S] w fun e w'=>e= .returned (.bool true)/\PsrI w' pb a c L (k+1)/\ButB (fun b=>b=pb) w w'/\w'.frozen? ⟨pb,1,none⟩=false:=by
 obtain⟨K,V,hf⟩:=tkI_form p.1 p.2
 have hC:=ahead_yes w pb a c L k 0 h hk (by omega) p hp
 rw[hf]at hC
 have hT:(p.2.toList==S.toList)=true:=by
  rw[hS,text_beq (h.toks k p hp).1 q hq]
  exact decide_eq_true ht
 generalize p.2=T at*
 have HC:=hide hC;have HP:=hide h;have HN:=hide hne
 have hpb:=h.lt
 clear hC hS hf hp ht hne
 go_enter Tryz.func69,Tryz.ntmps69
 go_wp2_with fail
 refine(unhide HC).mono ?_;rintro e w1 ⟨rfl,hb1⟩
 have HB:=hide hb1
 have hP1:=(unhide HP).of hb1
 have c1:=hP1.c1
 have hf1:w1.frozen? ⟨pb,1,none⟩=false:=((bcell hb1).2 pb 1 hpb).trans hfz
 have HP1:=hide hP1
 have jw:(k:Int)+1=((k+1:Nat):Int):=by omega
 have HJ:=hide jw
 clear hb1 h HP HC hP1 jw
 have hfd:=tkField1 K V T w1
 go_wp2
 go_ret
 refine⟨rfl,?_,?_,?_⟩
 ·have:=(unhide HP1).step (unhide HN)
  rw[<-unhide HJ]at this
  exact this
 ·exact ButB.set (S:=fun b=>b=pb) (ButB.ofBelow (unhide HB)) (Or.inl rfl) _
 ·rw[frozen_setCellN];exact hf1
end Go.Proofs.YtmggnimiioepeaaGreatDoor.Pa
namespace Go.Proofs.YtmggnimiioepeaaGreatDoor.Pa
open Go Go.RowKit
set_option maxHeartbeats 2000000 in
set_option maxRecDepth 100000 in
theorem needs_no(w:World)(pb:Nat)(a:Option Addr)(c:Nat)(L:List (Tok×ByteArray))(k:Nat)(h:PsrI w pb a c L k)(hk:k<=1000000)(S:ByteArray)(q:Nat)(hq:q<28)(hS:S.toList=syT q)(hn:(tks L)[k]?≠some (.sy q)):Calls Tryz.prog 70 #[.pointer (some ⟨pb,0,none⟩),.string S] w fun e w'=>e= .panicked [{v:= .iface 43 (.agg #[]),recovered:=false}]/\Below w.heap.size w w':=by
 have HC:=hide (takes_no w pb a c L k h hk S q hq hS hn)
 clear h hS hn
 go_enter Tryz.func70,Tryz.ntmps70
 go_wp2_with fail
 refine(unhide HC).mono ?_;rintro e w1 ⟨rfl,hb1⟩
 have HB:=hide hb1
 clear hb1
 go_wp2
 exact⟨rfl,rfl,unhide HB⟩
set_option maxHeartbeats 2000000 in
set_option maxRecDepth 100000 in
theorem needs_yes(w:World)(pb:Nat)(a:Option Addr)(c:Nat)(L:List (Tok×ByteArray))(k:Nat)(h:PsrI w pb a c L k)(hne: ∀g,a=some ⟨g,0,none⟩->g≠pb)(hfz:w.frozen? ⟨pb,1,none⟩=false)(hk:k<=1000000)(S:ByteArray)(q:Nat)(hq:q<28)(hS:S.toList=syT q)(p:Tok×ByteArray)(hp:L[k]?=some p)(ht:p.1= .sy q):Calls Tryz.prog 70 #[.pointer (some ⟨pb,0,none⟩),.string S] w fun e w'=>e= .returned (.tuple #[])/\PsrI w' pb a c L (k+1)/\ButB (fun b=>b=pb) w w'/\w'.frozen? ⟨pb,1,none⟩=false:=by
 have HC:=hide (takes_yes w pb a c L k h hne hfz hk S q hq hS p hp ht)
 clear h hS hp ht hne hfz
 go_enter Tryz.func70,Tryz.ntmps70
 go_wp2_with fail
 refine(unhide HC).mono ?_;rintro e w1 ⟨rfl,hb1⟩
 have HB:=hide hb1
 clear hb1
 go_wp2
 go_returns
 exact⟨rfl,unhide HB⟩
end Go.Proofs.YtmggnimiioepeaaGreatDoor.Pa
namespace Go.Proofs.YtmggnimiioepeaaGreatDoor.Pa
open Go Go.RowKit
def RowT(w:World)(S:Nat->Prop)(l:Value)(n:Nat)(us:Nat->Value):Prop:=
 (n=0/\l= .slice none 0 0)\/ ∃g c,l= .slice (some ⟨g,0,none⟩) n c/\n<=c/\S g/\g<w.heap.size/\ ∀i,i<n->w.cell? ⟨g,i,none⟩=some (us i)
inductive TV(w:World)(S:Nat->Prop):Rt->Value->Prop
 | int (v:Int):TV w S (rInt v) (.iface 128 (.agg #[.int .i64 v]))
 | null:TV w S rNull (.iface 130 (.agg #[]))
 | col (s:List UInt8) (v:Int):TV w S (rCol s v) (.iface 138 (.agg #[.string ⟨s.toArray⟩,.int .i64 v]))
 | src (a b:List UInt8):TV w S (rSrc a b) (.iface 143 (.agg #[.string ⟨a.toArray⟩,.string ⟨b.toArray⟩]))
 | agg (M:Int) (ts ss:List Rt) (hs:ss≠[]) (l q:Value) (us vs:Nat->Value) (hl:RowT w S l ts.length us) (hq:RowT w S q ss.length vs) (h1: ∀(i:Nat) t,ts[i]?=some t->TV w S t (us i)) (h2: ∀(i:Nat) t,ss[i]?=some t->TV w S t (vs i)):TV w S (.mk 4 ts.length M [] [] (ts++ss)) (.iface 141 (.agg #[l,q,.nilIface,.int .i64 M]))
 | aggW (M:Int) (ts ss:List Rt) (hs:ss≠[]) (c:Rt) (l q:Value) (ty:Nat) (u:Value) (us vs:Nat->Value) (hl:RowT w S l ts.length us) (hq:RowT w S q ss.length vs) (h1: ∀(i:Nat) t,ts[i]?=some t->TV w S t (us i)) (h2: ∀(i:Nat) t,ss[i]?=some t->TV w S t (vs i)) (h3:TV w S c (.iface ty u)):TV w S (.mk 4 ts.length M [] [] (ts++(ss++[c]))) (.iface 141 (.agg #[l,q,.iface ty u,.int .i64 M]))
 | sel (M:Int) (hM:M=0\/M=1) (ts ss:List Rt) (hs:ss≠[]) (l q:Value) (us vs:Nat->Value) (hl:RowT w S l ts.length us) (hq:RowT w S q ss.length vs) (h1: ∀(i:Nat) t,ts[i]?=some t->TV w S t (us i)) (h2: ∀(i:Nat) t,ss[i]?=some t->TV w S t (vs i)):TV w S (.mk 6 ts.length M [] [] (ts++ss)) (.iface 116 (.agg #[l,q,.nilIface,.bool (M==1)]))
 | selW (M:Int) (hM:M=0\/M=1) (ts ss:List Rt) (hs:ss≠[]) (c:Rt) (l q:Value) (ty:Nat) (u:Value) (us vs:Nat->Value) (hl:RowT w S l ts.length us) (hq:RowT w S q ss.length vs) (h1: ∀(i:Nat) t,ts[i]?=some t->TV w S t (us i)) (h2: ∀(i:Nat) t,ss[i]?=some t->TV w S t (vs i)) (h3:TV w S c (.iface ty u)):TV w S (.mk 6 ts.length M [] [] (ts++(ss++[c]))) (.iface 116 (.agg #[l,q,.iface ty u,.bool (M==1)]))
 | row (K:Int) (ty:Nat) (hK:(K=7/\ty=99)\/(K=14/\ty=150)\/(K=15/\ty=145)) (ts:List Rt) (l:Value) (us:Nat->Value) (hl:RowT w S l ts.length us) (h1: ∀(i:Nat) t,ts[i]?=some t->TV w S t (us i)):TV w S (.mk K 0 0 [] [] ts) (.iface ty (.agg #[l]))
 | cmp (M:Int) (t s:Rt) (ty sy:Nat) (u v:Value) (h1:TV w S t (.iface ty u)) (h2:TV w S s (.iface sy v)):TV w S (.mk 8 0 M [] [] [t,s]) (.iface 169 (.agg #[.int .i64 M,.iface ty u,.iface sy v]))
 | isn (M:Int) (hM:M=0\/M=1) (t:Rt) (ty:Nat) (u:Value) (h1:TV w S t (.iface ty u)):TV w S (.mk 9 0 M [] [] [t]) (.iface 163 (.agg #[.bool (M==1),.iface ty u]))
 | exi (t:Rt) (ty:Nat) (u:Value) (h1:TV w S t (.iface ty u)):TV w S (.mk 10 0 0 [] [] [t]) (.iface 155 (.agg #[.iface ty u]))
 | inn (M:Int) (hM:M=0\/M=1) (t s:Rt) (ty sy:Nat) (u v:Value) (h1:TV w S t (.iface ty u)) (h2:TV w S s (.iface sy v)):TV w S (.mk 11 0 M [] [] [t,s]) (.iface 165 (.agg #[.bool (M==1),.iface ty u,.iface sy v]))
 | qua (M N:Int) (t s:Rt) (ty sy:Nat) (u v:Value) (h1:TV w S t (.iface ty u)) (h2:TV w S s (.iface sy v)):TV w S (.mk 12 N M [] [] [t,s]) (.iface 167 (.agg #[.int .i64 M,.int .i64 N,.iface ty u,.iface sy v]))
 | not (t:Rt) (ty:Nat) (u:Value) (h1:TV w S t (.iface ty u)):TV w S (.mk 13 0 0 [] [] [t]) (.iface 153 (.agg #[.iface ty u]))
theorem RowT.mono{w w1:World}{S T:Nat->Prop}{l:Value}{n:Nat}{us:Nat->Value}(h:RowT w S l n us)(hs: ∀b,S b->b<w.heap.size->T b/\b<w1.heap.size/\w1.heap[b]?=w.heap[b]?):RowT w1 T l n us:=by
 rcases h with h | ⟨g,c,h1,h2,h3,h4,h5⟩
 ·exact Or.inl h
 ·obtain⟨a1,a2,a3⟩:=hs g h3 h4
  exact Or.inr ⟨g,c,h1,h2,a1,a2,fun i hi=>(World.cell?_of_block (a:=⟨g,i,none⟩) a3).trans (h5 i hi)⟩
theorem TV.mono{w w1:World}{S T:Nat->Prop}{t:Rt}{v:Value}(h:TV w S t v)(hs: ∀b,S b->b<w.heap.size->T b/\b<w1.heap.size/\w1.heap[b]?=w.heap[b]?):TV w1 T t v:=by
 induction h with
 | int v=>exact .int v
 | null=>exact .null
 | col s v=>exact .col s v
 | src a b=>exact .src a b
 | agg M ts ss hn l q us vs hl hq h1 h2 i1 i2=>exact .agg M ts ss hn l q us vs (hl.mono hs) (hq.mono hs) i1 i2
 | aggW M ts ss hn c l q ty u us vs hl hq h1 h2 h3 i1 i2 i3=>exact .aggW M ts ss hn c l q ty u us vs (hl.mono hs) (hq.mono hs) i1 i2 i3
 | sel M hM ts ss hn l q us vs hl hq h1 h2 i1 i2=>exact .sel M hM ts ss hn l q us vs (hl.mono hs) (hq.mono hs) i1 i2
 | selW M hM ts ss hn c l q ty u us vs hl hq h1 h2 h3 i1 i2 i3=>exact .selW M hM ts ss hn c l q ty u us vs (hl.mono hs) (hq.mono hs) i1 i2 i3
 | row K ty hK ts l us hl h1 i1=>exact .row K ty hK ts l us (hl.mono hs) i1
 | cmp M t s ty sy u v h1 h2 i1 i2=>exact .cmp M t s ty sy u v i1 i2
 | isn M hM t ty u h1 i1=>exact .isn M hM t ty u i1
 | exi t ty u h1 i1=>exact .exi t ty u i1
 | inn M hM t s ty sy u v h1 h2 i1 i2=>exact .inn M hM t s ty sy u v i1 i2
 | qua M N t s ty sy u v h1 h2 i1 i2=>exact .qua M N t s ty sy u v i1 i2
 | not t ty u h1 i1=>exact .not t ty u i1
theorem TV.but{w w1:World}{S X:Nat->Prop}{t:Rt}{v:Value}(h:TV w S t v)(hb:ButB X w w1)(hx: ∀b,S b->b<w.heap.size-> ¬X b):TV w1 S t v:=h.mono fun b hs hl=>⟨hs,Nat.lt_of_lt_of_le hl hb.size,hb.block b hl (hx b hs hl)⟩
theorem TV.wide{w:World}{S T:Nat->Prop}{t:Rt}{v:Value}(h:TV w S t v)(hs: ∀b,S b->b<w.heap.size->T b):TV w T t v:=h.mono fun b h1 h2=>⟨hs b h1 h2,h2,rfl⟩
theorem TV.form{w:World}{S:Nat->Prop}{t:Rt}{v:Value}(h:TV w S t v): ∃ty u,v= .iface ty u:=by cases h<;>exact⟨_,_,rfl⟩
def csT:List Value:=[.string ⟨#[]⟩,.string ⟨#[61]⟩,.string ⟨#[60,62]⟩,.string ⟨#[60]⟩,.string ⟨#[60,61]⟩,.string ⟨#[62]⟩,.string ⟨#[62,61]⟩]
def awT:List Value:=[.string ⟨#[]⟩,.string ⟨#[67,79,85,78,84]⟩,.string ⟨#[67,79,85,78,84]⟩,.string ⟨#[77,73,78]⟩,.string ⟨#[77,65,88]⟩]
theorem cs_at(j:Nat)(h1:1<=j)(h2:j<=6): ∃s,csT[j]?=some (.string s)/\s.toList=syT (j+4):=by
 rcases(by omega:j=1\/j=2\/j=3\/j=4\/j=5\/j=6)with rfl | rfl | rfl | rfl | rfl | rfl<;>exact⟨_,rfl,Go.ByteArray.toList_mk _⟩
theorem aw_at(j:Nat)(h1:2<=j)(h2:j<=4): ∃s,awT[j]?=some (.string s)/\s.toList=syT (j+23):=by
 rcases(by omega:j=2\/j=3\/j=4)with rfl | rfl | rfl<;>exact⟨_,rfl,Go.ByteArray.toList_mk _⟩
theorem tab_butX{w w1:World}{g:Nat}{l:List Value}(h:TabAt w g l){X:Nat->Prop}(hb:ButB X w w1)(hx: ¬X g):TabAt w1 g l:=⟨Nat.lt_of_lt_of_le h.size hb.size,fun i=>(hb.cell g i h.size hx).trans (h.cell i)⟩
structure PO(w:World)(pb:Nat)(a:Option Addr)(c:Nat)(L:List (Tok×ByteArray))(k:Nat):Prop where
 p:PsrI w pb a c L k
 ne: ∀g,a=some ⟨g,0,none⟩->g<pb
 tc:TabAt w 7 csT
 ta:TabAt w 5 awT
 gc:7<pb/\5<pb
 fz:w.frozen? ⟨pb,1,none⟩=false
 le:k<=L.length
 lm:L.length<=100000
abbrev atP(pb:Nat):Nat->Prop:=fun b=>b=pb
theorem PO.of{w w1:World}{pb:Nat}{a:Option Addr}{c:Nat}{L:List (Tok×ByteArray)}{k:Nat}(h:PO w pb a c L k)(hb:Below w.heap.size w w1):PO w1 pb a c L k:=
 ⟨h.p.of hb,h.ne,h.tc.of hb,h.ta.of hb,h.gc,((bcell hb).2 pb 1 h.p.lt).trans h.fz,h.le,h.lm⟩
theorem PO.but{w w1:World}{pb:Nat}{a:Option Addr}{c:Nat}{L:List (Tok×ByteArray)}{k:Nat}(h:PO w pb a c L k){X:Nat->Prop}(hb:ButB X w w1)(hX: ∀b,X b->pb<b):PO w1 pb a c L k:=by
 have n: ∀b,b<=pb-> ¬X b:=fun b e x=>by have:=hX b x;omega
 exact⟨⟨Nat.lt_of_lt_of_le h.p.lt hb.size,(hb.cell pb 0 h.p.lt (n _ (Nat.le_refl _))).trans h.p.c0,(hb.cell pb 1 h.p.lt (n _ (Nat.le_refl _))).trans h.p.c1,fun i p hi=>by
  obtain⟨h0,g,h1,h2,h3⟩:=h.p.toks i p hi
  exact⟨h0,g,h1,Nat.lt_of_lt_of_le h2 hb.size,fun j hj=>(hb.cell g _ h2 (n _ (Nat.le_of_lt (h.ne g h1)))).trans (h3 j hj)⟩⟩,h.ne,tab_butX h.tc hb (n _ (Nat.le_of_lt h.gc.1)),tab_butX h.ta hb (n _ (Nat.le_of_lt h.gc.2)),h.gc,(hb.frz pb 1 h.p.lt (n _ (Nat.le_refl _))).trans h.fz,h.le,h.lm⟩
theorem PO.step{w w1:World}{pb:Nat}{a:Option Addr}{c:Nat}{L:List (Tok×ByteArray)}{k:Nat}(h:PO w pb a c L k)(h2:PsrI w1 pb a c L (k+1))(h3:ButB (atP pb) w w1)(h4:w1.frozen? ⟨pb,1,none⟩=false)(hk:k<L.length):PO w1 pb a c L (k+1):=
 ⟨h2,h.ne,tab_butX h.tc h3 (fun e=>by have:=h.gc.1;unfold atP at e;omega),tab_butX h.ta h3 (fun e=>by have:=h.gc.2;unfold atP at e;omega),h.gc,h4,hk,h.lm⟩
abbrev mis:Ending:= .panicked [{v:= .iface 43 (.agg #[]),recovered:=false}]
def IE(W:World)(pb:Nat)(a:Option Addr)(c:Nat)(L:List (Tok×ByteArray))(k:Nat)(r:Option (List Rt×List Tok))(e:Ending)(W':World):Prop:=
 ButB (atP pb) W W'/\((r=none/\e=mis)\/ ∃t k' ty u,r=some ([t],(tks L).drop k')/\k<=k'/\e= .returned (.iface ty u)/\TV W' (fun b=>W.heap.size<=b) t (.iface ty u)/\PO W' pb a c L k')
theorem drop_tok(L:List (Tok×ByteArray))(k:Nat):(tks L)[k]?=((tks L).drop k).head?:=by
 rw[List.head?_drop]
theorem drop_cons{L:List (Tok×ByteArray)}{k:Nat}{t:Tok}{r:List Tok}(h:(tks L).drop k=t::r):(tks L)[k]?=some t/\r=(tks L).drop (k+1)/\k<L.length/\ ∃s,L[k]?=some (t,s):=by
 have h0:(tks L)[k]?=some t:=by rw[drop_tok,h];rfl
 have h1:(tks L).drop (k+1)=r:=by rw[<-List.drop_drop,h];rfl
 have h2:=(List.getElem?_eq_some_iff.1 h0).1
 simp at h2
 refine⟨h0,h1.symm,h2,(L[k]).2,?_⟩
 rw[List.getElem?_eq_getElem h2]
 have:=h0
 simp[List.getElem?_eq_getElem h2]at this
 exact congrArg some (Prod.ext this rfl)
theorem takesY{w:World}{pb:Nat}{a:Option Addr}{c:Nat}{L:List (Tok×ByteArray)}{k:Nat}(h:PO w pb a c L k)(S:ByteArray)(q:Nat)(hq:q<28)(hS:S.toList=syT q){r:List Tok}(hr:(tks L).drop k= .sy q::r):Calls Tryz.prog 69 #[.pointer (some ⟨pb,0,none⟩),.string S] w fun e w'=>e= .returned (.bool true)/\PO w' pb a c L (k+1)/\ButB (atP pb) w w':=by
 obtain⟨_,_,hk,s,hs⟩:=drop_cons hr
 refine(takes_yes w pb a c L k h.p (fun g e=>Nat.ne_of_lt (h.ne g e)) h.fz (by have:=h.le;have:=h.lm;omega) S q hq hS _ hs rfl).mono ?_
 rintro e w1 ⟨h1,h2,h3,h4⟩
 exact⟨h1,h.step h2 h3 h4 hk,h3⟩
theorem takesN{w:World}{pb:Nat}{a:Option Addr}{c:Nat}{L:List (Tok×ByteArray)}{k:Nat}(h:PO w pb a c L k)(S:ByteArray)(q:Nat)(hq:q<28)(hS:S.toList=syT q)(hr: ∀r,(tks L).drop k≠ .sy q::r):Calls Tryz.prog 69 #[.pointer (some ⟨pb,0,none⟩),.string S] w fun e w'=>e= .returned (.bool false)/\Below w.heap.size w w':=
 takes_no w pb a c L k h.p (by have:=h.le;have:=h.lm;omega) S q hq hS (fun e=>by
  rw[drop_tok]at e
  cases hd:(tks L).drop k with
  | nil=>rw[hd]at e;cases e
  | cons t r=>rw[hd]at e;simp at e;exact hr r (by rw[hd,e]))
theorem needsY{w:World}{pb:Nat}{a:Option Addr}{c:Nat}{L:List (Tok×ByteArray)}{k:Nat}(h:PO w pb a c L k)(S:ByteArray)(q:Nat)(hq:q<28)(hS:S.toList=syT q){r:List Tok}(hr:(tks L).drop k= .sy q::r):Calls Tryz.prog 70 #[.pointer (some ⟨pb,0,none⟩),.string S] w fun e w'=>e= .returned (.tuple #[])/\PO w' pb a c L (k+1)/\ButB (atP pb) w w':=by
 obtain⟨_,_,hk,s,hs⟩:=drop_cons hr
 refine(needs_yes w pb a c L k h.p (fun g e=>Nat.ne_of_lt (h.ne g e)) h.fz (by have:=h.le;have:=h.lm;omega) S q hq hS _ hs rfl).mono ?_
 rintro e w1 ⟨h1,h2,h3,h4⟩
 exact⟨h1,h.step h2 h3 h4 hk,h3⟩
theorem needsN{w:World}{pb:Nat}{a:Option Addr}{c:Nat}{L:List (Tok×ByteArray)}{k:Nat}(h:PO w pb a c L k)(S:ByteArray)(q:Nat)(hq:q<28)(hS:S.toList=syT q)(hr: ∀r,(tks L).drop k≠ .sy q::r):Calls Tryz.prog 70 #[.pointer (some ⟨pb,0,none⟩),.string S] w fun e w'=>e=mis/\Below w.heap.size w w':=
 needs_no w pb a c L k h.p (by have:=h.le;have:=h.lm;omega) S q hq hS (fun e=>by
  rw[drop_tok]at e
  cases hd:(tks L).drop k with
  | nil=>rw[hd]at e;cases e
  | cons t r=>rw[hd]at e;simp at e;exact hr r (by rw[hd,e]))
end Go.Proofs.YtmggnimiioepeaaGreatDoor.Pa
