import Derived.Test.YtmggnimiioepeaaGreatDoorQ0
import Derived.Test.YtmggnimiioepeaaGreatDoorQ24
namespace Go.Proofs.YtmggnimiioepeaaGreatDoor.Pa
open Go Go.RowKit
def Ent(gf:Nat):Prop:= ∀(args:Array Value) (w:World),(callFunc gf args).run Tryz.prog w= .ok (.enter gf args) w
def NdE(K N M:Int)(S T:ByteArray)(W:World)(e:Ending)(W':World):Prop:=e= .returned (.agg #[.int .i64 K,.int .i64 N,.int .i64 M,.string S,.string T,.slice none 0 0])/\Below W.heap.size W W'
def KdE(B:Nat)(ks:List Value)(W:World)(e:Ending)(W':World):Prop:= ∃ka kc,e= .returned (.slice ka ks.length kc)/\Below W.heap.size W W'/\(∀(i:Nat) v,ks[i]?=some v-> ∃g,ka=some ⟨g,0,none⟩/\W'.cell? ⟨g,i,none⟩=some v)/\ ∀b,blk ka=some b->b<W'.heap.size/\(b<B\/W.heap.size<=b)
structure TM(B:Nat)(w:World)(ty:Nat)(u:Value)(K N M:Int)(S T:ByteArray)(ks:List Value):Prop where
 nd: ∃nf nv,(∀W:World,(method 297 ty u "loop.example/s0035/impl.node").run Tryz.prog W= .ok (nf,nv) W)/\Ent nf/\ ∀W,Below w.heap.size w W->Calls Tryz.prog nf #[nv] W (NdE K N M S T W)
 kd: ∃kf kv,(∀W:World,(method 297 ty u "loop.example/s0035/impl.kids").run Tryz.prog W= .ok (kf,kv) W)/\Ent kf/\ ∀W,Below w.heap.size w W->Calls Tryz.prog kf #[kv] W (KdE B ks W)
set_option maxRecDepth 100000 in
set_option maxHeartbeats 4000000 in
theorem flagP(b:Bool)(w:World):Calls Tryz.prog 149 #[.bool b] w fun e w'=>e= .returned (.int .i64 (if b then 1 else 0))/\w'=w:=by
 cases b
 ·go_enter Tryz.func149,Tryz.ntmps149
  go_wp2
  go_returns
  exact⟨rfl,rfl⟩
 ·go_enter Tryz.func149,Tryz.ntmps149
  go_wp2
  go_returns
  exact⟨rfl,rfl⟩
theorem flag_M{M:Int}(h:M=0\/M=1):(if(M==1)=true then(1:Int)else 0)=M:=by rcases h with rfl | rfl<;>rfl
set_option maxRecDepth 100000 in
set_option maxHeartbeats 4000000 in
theorem nd_intTree(v:Int)(w:World):Calls Tryz.prog 153 #[.agg #[.int .i64 v]] w (NdE 1 v 0 ⟨#[]⟩ ⟨#[]⟩ w):=by
 go_enter Tryz.func153,Tryz.ntmps153
 go_wp2
 go_returns
 exact⟨rfl,by first | exact bA (Below.refl _ _) _ | exact Below.refl _ _ | exact bA (bA (Below.refl _ _) _) _ | exact bA (bA (bA (Below.refl _ _) _) _) _⟩
set_option maxRecDepth 100000 in
set_option maxHeartbeats 4000000 in
theorem nd_nullTree(w:World):Calls Tryz.prog 154 #[.agg #[]] w (NdE 2 0 0 ⟨#[]⟩ ⟨#[]⟩ w):=by
 go_enter Tryz.func154,Tryz.ntmps154
 go_wp2
 go_returns
 exact⟨rfl,by first | exact bA (Below.refl _ _) _ | exact Below.refl _ _ | exact bA (bA (Below.refl _ _) _) _ | exact bA (bA (bA (Below.refl _ _) _) _) _⟩
set_option maxRecDepth 100000 in
set_option maxHeartbeats 4000000 in
theorem nd_colTree(s:ByteArray)(v:Int)(w:World):Calls Tryz.prog 155 #[.agg #[.string s,.int .i64 v]] w (NdE 3 v 0 s ⟨#[]⟩ w):=by
 go_enter Tryz.func155,Tryz.ntmps155
 go_wp2
 go_returns
 exact⟨rfl,by first | exact bA (Below.refl _ _) _ | exact Below.refl _ _ | exact bA (bA (Below.refl _ _) _) _ | exact bA (bA (bA (Below.refl _ _) _) _) _⟩
set_option maxRecDepth 100000 in
set_option maxHeartbeats 4000000 in
theorem nd_srcTree(s t:ByteArray)(w:World):Calls Tryz.prog 157 #[.agg #[.string s,.string t]] w (NdE 5 0 0 s t w):=by
 go_enter Tryz.func157,Tryz.ntmps157
 go_wp2
 go_returns
 exact⟨rfl,by first | exact bA (Below.refl _ _) _ | exact Below.refl _ _ | exact bA (bA (Below.refl _ _) _) _ | exact bA (bA (bA (Below.refl _ _) _) _) _⟩
set_option maxRecDepth 100000 in
set_option maxHeartbeats 4000000 in
theorem nd_aggTree(M:Int)(la:Option Addr)(ln lc:Nat)(qa:Option Addr)(qn qc:Nat)(w:World):Calls Tryz.prog 156 #[.agg #[.slice la ln lc,.slice qa qn qc,.nilIface,.int .i64 M]] w (NdE 4 ln M ⟨#[]⟩ ⟨#[]⟩ w):=by
 go_enter Tryz.func156,Tryz.ntmps156
 go_wp2
 go_returns
 exact⟨rfl,by first | exact bA (Below.refl _ _) _ | exact Below.refl _ _ | exact bA (bA (Below.refl _ _) _) _ | exact bA (bA (bA (Below.refl _ _) _) _) _⟩
set_option maxRecDepth 100000 in
set_option maxHeartbeats 4000000 in
theorem nd_aggTreeW(M:Int)(la:Option Addr)(ln lc:Nat)(qa:Option Addr)(qn qc:Nat)(ty:Nat)(u:Value)(w:World):Calls Tryz.prog 156 #[.agg #[.slice la ln lc,.slice qa qn qc,.iface ty u,.int .i64 M]] w (NdE 4 ln M ⟨#[]⟩ ⟨#[]⟩ w):=by
 go_enter Tryz.func156,Tryz.ntmps156
 go_wp2
 go_returns
 exact⟨rfl,by first | exact bA (Below.refl _ _) _ | exact Below.refl _ _ | exact bA (bA (Below.refl _ _) _) _ | exact bA (bA (bA (Below.refl _ _) _) _) _⟩
set_option maxRecDepth 100000 in
set_option maxHeartbeats 4000000 in
theorem nd_unionTree(la:Option Addr)(ln lc:Nat)(w:World):Calls Tryz.prog 144 #[.agg #[.slice la ln lc]] w (NdE 7 0 0 ⟨#[]⟩ ⟨#[]⟩ w):=by
 go_enter Tryz.func144,Tryz.ntmps144
 go_wp2
 go_returns
 exact⟨rfl,by first | exact bA (Below.refl _ _) _ | exact Below.refl _ _ | exact bA (bA (Below.refl _ _) _) _ | exact bA (bA (bA (Below.refl _ _) _) _) _⟩
set_option maxRecDepth 100000 in
set_option maxHeartbeats 4000000 in
theorem nd_andTree(la:Option Addr)(ln lc:Nat)(w:World):Calls Tryz.prog 162 #[.agg #[.slice la ln lc]] w (NdE 14 0 0 ⟨#[]⟩ ⟨#[]⟩ w):=by
 go_enter Tryz.func162,Tryz.ntmps162
 go_wp2
 go_returns
 exact⟨rfl,by first | exact bA (Below.refl _ _) _ | exact Below.refl _ _ | exact bA (bA (Below.refl _ _) _) _ | exact bA (bA (bA (Below.refl _ _) _) _) _⟩
set_option maxRecDepth 100000 in
set_option maxHeartbeats 4000000 in
theorem nd_orTree(la:Option Addr)(ln lc:Nat)(w:World):Calls Tryz.prog 159 #[.agg #[.slice la ln lc]] w (NdE 15 0 0 ⟨#[]⟩ ⟨#[]⟩ w):=by
 go_enter Tryz.func159,Tryz.ntmps159
 go_wp2
 go_returns
 exact⟨rfl,by first | exact bA (Below.refl _ _) _ | exact Below.refl _ _ | exact bA (bA (Below.refl _ _) _) _ | exact bA (bA (bA (Below.refl _ _) _) _) _⟩
set_option maxRecDepth 100000 in
set_option maxHeartbeats 4000000 in
theorem nd_cmpTree(M:Int)(ty sy:Nat)(u v:Value)(w:World):Calls Tryz.prog 174 #[.agg #[.int .i64 M,.iface ty u,.iface sy v]] w (NdE 8 0 M ⟨#[]⟩ ⟨#[]⟩ w):=by
 go_enter Tryz.func174,Tryz.ntmps174
 go_wp2
 go_returns
 exact⟨rfl,by first | exact bA (Below.refl _ _) _ | exact Below.refl _ _ | exact bA (bA (Below.refl _ _) _) _ | exact bA (bA (bA (Below.refl _ _) _) _) _⟩
set_option maxRecDepth 100000 in
set_option maxHeartbeats 4000000 in
theorem nd_isNullTree(M:Int)(hM:M=0\/M=1)(ty:Nat)(u:Value)(w:World):Calls Tryz.prog 168 #[.agg #[.bool (M==1),.iface ty u]] w (NdE 9 0 M ⟨#[]⟩ ⟨#[]⟩ w):=by
 go_enter Tryz.func168,Tryz.ntmps168
 go_wp2_with fail
 refine(flagP (M==1) _).mono ?_
 rintro e w1 ⟨rfl,rfl⟩
 rw[flag_M hM]
 go_wp2
 go_returns
 exact⟨rfl,by first | exact bA (Below.refl _ _) _ | exact Below.refl _ _ | exact bA (bA (Below.refl _ _) _) _ | exact bA (bA (bA (Below.refl _ _) _) _) _⟩
set_option maxRecDepth 100000 in
set_option maxHeartbeats 4000000 in
theorem nd_existsTree(ty:Nat)(u:Value)(w:World):Calls Tryz.prog 166 #[.agg #[.iface ty u]] w (NdE 10 0 0 ⟨#[]⟩ ⟨#[]⟩ w):=by
 go_enter Tryz.func166,Tryz.ntmps166
 go_wp2
 go_returns
 exact⟨rfl,by first | exact bA (Below.refl _ _) _ | exact Below.refl _ _ | exact bA (bA (Below.refl _ _) _) _ | exact bA (bA (bA (Below.refl _ _) _) _) _⟩
set_option maxRecDepth 100000 in
set_option maxHeartbeats 4000000 in
theorem nd_inTree(M:Int)(hM:M=0\/M=1)(ty sy:Nat)(u v:Value)(w:World):Calls Tryz.prog 170 #[.agg #[.bool (M==1),.iface ty u,.iface sy v]] w (NdE 11 0 M ⟨#[]⟩ ⟨#[]⟩ w):=by
 go_enter Tryz.func170,Tryz.ntmps170
 go_wp2_with fail
 refine(flagP (M==1) _).mono ?_
 rintro e w1 ⟨rfl,rfl⟩
 rw[flag_M hM]
 go_wp2
 go_returns
 exact⟨rfl,by first | exact bA (Below.refl _ _) _ | exact Below.refl _ _ | exact bA (bA (Below.refl _ _) _) _ | exact bA (bA (bA (Below.refl _ _) _) _) _⟩
set_option maxRecDepth 100000 in
set_option maxHeartbeats 4000000 in
theorem nd_quantTree(M N:Int)(ty sy:Nat)(u v:Value)(w:World):Calls Tryz.prog 172 #[.agg #[.int .i64 M,.int .i64 N,.iface ty u,.iface sy v]] w (NdE 12 N M ⟨#[]⟩ ⟨#[]⟩ w):=by
 go_enter Tryz.func172,Tryz.ntmps172
 go_wp2
 go_returns
 exact⟨rfl,by first | exact bA (Below.refl _ _) _ | exact Below.refl _ _ | exact bA (bA (Below.refl _ _) _) _ | exact bA (bA (bA (Below.refl _ _) _) _) _⟩
set_option maxRecDepth 100000 in
set_option maxHeartbeats 4000000 in
theorem nd_notTree(ty:Nat)(u:Value)(w:World):Calls Tryz.prog 164 #[.agg #[.iface ty u]] w (NdE 13 0 0 ⟨#[]⟩ ⟨#[]⟩ w):=by
 go_enter Tryz.func164,Tryz.ntmps164
 go_wp2
 go_returns
 exact⟨rfl,by first | exact bA (Below.refl _ _) _ | exact Below.refl _ _ | exact bA (bA (Below.refl _ _) _) _ | exact bA (bA (bA (Below.refl _ _) _) _) _⟩
set_option maxRecDepth 100000 in
set_option maxHeartbeats 4000000 in
theorem nd_selectTree(M:Int)(hM:M=0\/M=1)(la:Option Addr)(ln lc:Nat)(qa:Option Addr)(qn qc:Nat)(w:World):Calls Tryz.prog 148 #[.agg #[.slice la ln lc,.slice qa qn qc,.nilIface,.bool (M==1)]] w (NdE 6 ln M ⟨#[]⟩ ⟨#[]⟩ w):=by
 go_enter Tryz.func148,Tryz.ntmps148
 go_upto_region 1 with fail
 obtain⟨W,hW⟩: ∃W,W=(w.alloc (.cells #[.slice la ln lc,.slice qa qn qc,.nilIface,.bool (M==1)] 116)).alloc (.cells #[.int .i64 0,.int .i64 0,.int .i64 0,.string ⟨#[]⟩,.string ⟨#[]⟩,.slice none 0 0] 62):=⟨_,rfl⟩
 have hb1:Below w.heap.size w (w.alloc (.cells #[.slice la ln lc,.slice qa qn qc,.nilIface,.bool (M==1)] 116)):=bA (Below.refl _ _) _
 have hC0:=CellsAt.new w [.slice la ln lc,.slice qa qn qc,.nilIface,.bool (M==1)] 116
 have hC1:=CellsAt.new (w.alloc (.cells #[.slice la ln lc,.slice qa qn qc,.nilIface,.bool (M==1)] 116)) [.int .i64 0,.int .i64 0,.int .i64 0,.string ⟨#[]⟩,.string ⟨#[]⟩,.slice none 0 0] 62
 have e1:(w.alloc (.cells #[.slice la ln lc,.slice qa qn qc,.nilIface,.bool (M==1)] 116)).heap.size=w.heap.size+1:=by simp
 rw[e1]at hC1
 have hBW:Below w.heap.size w W:=by rw[hW];exact bA hb1 _
 have hC2:CellsAt W w.heap.size [.slice la ln lc,.slice qa qn qc,.nilIface,.bool (M==1)]:=by rw[hW];exact hC0.of (bA (Below.refl _ _) _)
 have hC3:CellsAt W (w.heap.size+1) [.int .i64 0,.int .i64 0,.int .i64 0,.string ⟨#[]⟩,.string ⟨#[]⟩,.slice none 0 0]:=by rw[hW];exact hC1
 rw[<-hW]
 have HBW:=hide hBW;have HC3:=hide hC3
 have d0:W.drew.cell? ⟨w.heap.size,0,none⟩=some (.slice la ln lc):=(hC2.of (W1:=W.drew) (Below.refl _ _).drew).all 0 _ rfl
 have d3:W.drew.cell? ⟨w.heap.size,3,none⟩=some (.bool (M==1)):=(hC2.of (W1:=W.drew) (Below.refl _ _).drew).all 3 _ rfl
 clear hb1 hC0 hC1 e1 hBW hC2 hC3 hW
 refine wp_region_held_drew (S:=fun X=>X.cell? ⟨w.heap.size,0,none⟩=some (.slice la ln lc)/\X.cell? ⟨w.heap.size,3,none⟩=some (.bool (M==1))) (by kernel_rfl) ⟨d0,d3⟩ (fun hHeld=> ?_)
 refine tW 0 3 (.pointer (some ⟨w.heap.size,3,none⟩)) ?_
 simp only[puts]
 refine tW 1 4 (.bool (M==1)) ?_
 simp only[puts]
 refine tW 3 6 (.pointer (some ⟨w.heap.size,0,none⟩)) ?_
 simp only[puts]
 refine tW 4 7 (.pointer (some ⟨w.heap.size,0,none⟩)) ?_
 simp only[puts]
 refine tW 5 8 (.slice la ln lc) ?_
 simp only[puts]
 refine tW 6 9 (.int .i64 (ln:Int)) ?_
 simp only[puts]
 refine wpAnyH_ready (rs:=[2]) (by kernel_rfl) (by simp) ?_
 refine AllReadyH.cons rfl (fun Kx hK=> ?_) AllReadyH.nil
 go_simp
 refine(flagP (M==1) _).mono ?_
 rintro e w1 ⟨rfl,rfl⟩
 rw[flag_M hM]
 go_simp
 refine hK.out _ _ ⟨d0,d3⟩ (fun hHeld2=> ?_)
 clear hK Kx
 refine tW 7 10 (.agg #[.int .i64 6,.int .i64 (ln:Int),.int .i64 M,.string ⟨#[]⟩,.string ⟨#[]⟩,.slice none 0 0]) ?_
 simp only[puts]
 have HC4:Hid (CellsAt W.drew (w.heap.size+1) [.int .i64 0,.int .i64 0,.int .i64 0,.string ⟨#[]⟩,.string ⟨#[]⟩,.slice none 0 0]):=(unhide HC3).of (Below.refl _ _).drew
 have HB4:Hid (Below w.heap.size w W.drew):=(unhide HBW).drew
 generalize W.drew=W2 at*
 obtain⟨f0,f1,f2,f3,f4,f5⟩:=(unhide HC4).c6
 have hfz:=(unhide HC4).frz
 refine wpAnyH_ready (rs:=[8]) (by kernel_rfl) (by simp) ?_
 refine AllReadyH.cons rfl (fun Kx hK=> ?_) AllReadyH.nil
 go_simp
 obtain⟨W5,hW5⟩: ∃W5,W5=(((((W2.setCell ⟨w.heap.size+1,0,none⟩ (.int .i64 6)).setCell ⟨w.heap.size+1,1,none⟩ (.int .i64 (ln:Int))).setCell ⟨w.heap.size+1,2,none⟩ (.int .i64 M)).setCell ⟨w.heap.size+1,3,none⟩ (.string ⟨#[]⟩)).setCell ⟨w.heap.size+1,4,none⟩ (.string ⟨#[]⟩)).setCell ⟨w.heap.size+1,5,none⟩ (.slice none 0 0):=⟨_,rfl⟩
 have HC5:Hid (CellsAt W5 (w.heap.size+1) [.int .i64 6,.int .i64 (ln:Int),.int .i64 M,.string ⟨#[]⟩,.string ⟨#[]⟩,.slice none 0 0]):=by
  show CellsAt _ _ _
  rw[hW5]
  exact(((((((unhide HC4).set 0 (.int .i64 6) (by simp)).set 1 (.int .i64 (ln:Int)) (by simp)).set 2 (.int .i64 M) (by simp)).set 3 (.string ⟨#[]⟩) (by simp)).set 4 (.string ⟨#[]⟩) (by simp)).set 5 (.slice none 0 0) (by simp))
 have HB5:Hid (Below w.heap.size w W5):=by
  show Below _ _ _
  rw[hW5]
  (repeat(refine Below.setCell ?_ (by dsimp only;omega) _))
  exact unhide HB4
 have g0:W5.cell? ⟨w.heap.size,0,none⟩=some (.slice la ln lc):=by
  rw[hW5]
  (repeat(rw[setCell_farN (by omega)]))
  exact d0
 have g3:W5.cell? ⟨w.heap.size,3,none⟩=some (.bool (M==1)):=by
  rw[hW5]
  (repeat(rw[setCell_farN (by omega)]))
  exact d3
 rw[<-hW5]
 refine hK.out _ _ ⟨g0,g3⟩ (fun hHeld3=> ?_)
 clear hK Kx hW5 hHeld hHeld2 hHeld3
 refine wpAnyH_done (by kernel_rfl) ?_ _
 obtain⟨q0,q1,q2,q3,q4,q5⟩:=(unhide HC5).c6
 go_wp2
 refine bodyPost_ret (v:= .agg #[.int .i64 6,.int .i64 (ln:Int),.int .i64 M,.string ⟨#[]⟩,.string ⟨#[]⟩,.slice none 0 0]) (by simp[results,Tryz.results148,go_sem,q0,q1,q2,q3,q4,q5]) rfl ⟨rfl,unhide HB5⟩
set_option maxRecDepth 100000 in
set_option maxHeartbeats 4000000 in
theorem nd_selectTreeW(M:Int)(hM:M=0\/M=1)(la:Option Addr)(ln lc:Nat)(qa:Option Addr)(qn qc:Nat)(ty:Nat)(u:Value)(w:World):Calls Tryz.prog 148 #[.agg #[.slice la ln lc,.slice qa qn qc,.iface ty u,.bool (M==1)]] w (NdE 6 ln M ⟨#[]⟩ ⟨#[]⟩ w):=by
 go_enter Tryz.func148,Tryz.ntmps148
 go_upto_region 1 with fail
 obtain⟨W,hW⟩: ∃W,W=(w.alloc (.cells #[.slice la ln lc,.slice qa qn qc,.iface ty u,.bool (M==1)] 116)).alloc (.cells #[.int .i64 0,.int .i64 0,.int .i64 0,.string ⟨#[]⟩,.string ⟨#[]⟩,.slice none 0 0] 62):=⟨_,rfl⟩
 have hb1:Below w.heap.size w (w.alloc (.cells #[.slice la ln lc,.slice qa qn qc,.iface ty u,.bool (M==1)] 116)):=bA (Below.refl _ _) _
 have hC0:=CellsAt.new w [.slice la ln lc,.slice qa qn qc,.iface ty u,.bool (M==1)] 116
 have hC1:=CellsAt.new (w.alloc (.cells #[.slice la ln lc,.slice qa qn qc,.iface ty u,.bool (M==1)] 116)) [.int .i64 0,.int .i64 0,.int .i64 0,.string ⟨#[]⟩,.string ⟨#[]⟩,.slice none 0 0] 62
 have e1:(w.alloc (.cells #[.slice la ln lc,.slice qa qn qc,.iface ty u,.bool (M==1)] 116)).heap.size=w.heap.size+1:=by simp
 rw[e1]at hC1
 have hBW:Below w.heap.size w W:=by rw[hW];exact bA hb1 _
 have hC2:CellsAt W w.heap.size [.slice la ln lc,.slice qa qn qc,.iface ty u,.bool (M==1)]:=by rw[hW];exact hC0.of (bA (Below.refl _ _) _)
 have hC3:CellsAt W (w.heap.size+1) [.int .i64 0,.int .i64 0,.int .i64 0,.string ⟨#[]⟩,.string ⟨#[]⟩,.slice none 0 0]:=by rw[hW];exact hC1
 rw[<-hW]
 have HBW:=hide hBW;have HC3:=hide hC3
 have d0:W.drew.cell? ⟨w.heap.size,0,none⟩=some (.slice la ln lc):=(hC2.of (W1:=W.drew) (Below.refl _ _).drew).all 0 _ rfl
 have d3:W.drew.cell? ⟨w.heap.size,3,none⟩=some (.bool (M==1)):=(hC2.of (W1:=W.drew) (Below.refl _ _).drew).all 3 _ rfl
 clear hb1 hC0 hC1 e1 hBW hC2 hC3 hW
 refine wp_region_held_drew (S:=fun X=>X.cell? ⟨w.heap.size,0,none⟩=some (.slice la ln lc)/\X.cell? ⟨w.heap.size,3,none⟩=some (.bool (M==1))) (by kernel_rfl) ⟨d0,d3⟩ (fun hHeld=> ?_)
 refine tW 0 3 (.pointer (some ⟨w.heap.size,3,none⟩)) ?_
 simp only[puts]
 refine tW 1 4 (.bool (M==1)) ?_
 simp only[puts]
 refine tW 3 6 (.pointer (some ⟨w.heap.size,0,none⟩)) ?_
 simp only[puts]
 refine tW 4 7 (.pointer (some ⟨w.heap.size,0,none⟩)) ?_
 simp only[puts]
 refine tW 5 8 (.slice la ln lc) ?_
 simp only[puts]
 refine tW 6 9 (.int .i64 (ln:Int)) ?_
 simp only[puts]
 refine wpAnyH_ready (rs:=[2]) (by kernel_rfl) (by simp) ?_
 refine AllReadyH.cons rfl (fun Kx hK=> ?_) AllReadyH.nil
 go_simp
 refine(flagP (M==1) _).mono ?_
 rintro e w1 ⟨rfl,rfl⟩
 rw[flag_M hM]
 go_simp
 refine hK.out _ _ ⟨d0,d3⟩ (fun hHeld2=> ?_)
 clear hK Kx
 refine tW 7 10 (.agg #[.int .i64 6,.int .i64 (ln:Int),.int .i64 M,.string ⟨#[]⟩,.string ⟨#[]⟩,.slice none 0 0]) ?_
 simp only[puts]
 have HC4:Hid (CellsAt W.drew (w.heap.size+1) [.int .i64 0,.int .i64 0,.int .i64 0,.string ⟨#[]⟩,.string ⟨#[]⟩,.slice none 0 0]):=(unhide HC3).of (Below.refl _ _).drew
 have HB4:Hid (Below w.heap.size w W.drew):=(unhide HBW).drew
 generalize W.drew=W2 at*
 obtain⟨f0,f1,f2,f3,f4,f5⟩:=(unhide HC4).c6
 have hfz:=(unhide HC4).frz
 refine wpAnyH_ready (rs:=[8]) (by kernel_rfl) (by simp) ?_
 refine AllReadyH.cons rfl (fun Kx hK=> ?_) AllReadyH.nil
 go_simp
 obtain⟨W5,hW5⟩: ∃W5,W5=(((((W2.setCell ⟨w.heap.size+1,0,none⟩ (.int .i64 6)).setCell ⟨w.heap.size+1,1,none⟩ (.int .i64 (ln:Int))).setCell ⟨w.heap.size+1,2,none⟩ (.int .i64 M)).setCell ⟨w.heap.size+1,3,none⟩ (.string ⟨#[]⟩)).setCell ⟨w.heap.size+1,4,none⟩ (.string ⟨#[]⟩)).setCell ⟨w.heap.size+1,5,none⟩ (.slice none 0 0):=⟨_,rfl⟩
 have HC5:Hid (CellsAt W5 (w.heap.size+1) [.int .i64 6,.int .i64 (ln:Int),.int .i64 M,.string ⟨#[]⟩,.string ⟨#[]⟩,.slice none 0 0]):=by
  show CellsAt _ _ _
  rw[hW5]
  exact(((((((unhide HC4).set 0 (.int .i64 6) (by simp)).set 1 (.int .i64 (ln:Int)) (by simp)).set 2 (.int .i64 M) (by simp)).set 3 (.string ⟨#[]⟩) (by simp)).set 4 (.string ⟨#[]⟩) (by simp)).set 5 (.slice none 0 0) (by simp))
 have HB5:Hid (Below w.heap.size w W5):=by
  show Below _ _ _
  rw[hW5]
  (repeat(refine Below.setCell ?_ (by dsimp only;omega) _))
  exact unhide HB4
 have g0:W5.cell? ⟨w.heap.size,0,none⟩=some (.slice la ln lc):=by
  rw[hW5]
  (repeat(rw[setCell_farN (by omega)]))
  exact d0
 have g3:W5.cell? ⟨w.heap.size,3,none⟩=some (.bool (M==1)):=by
  rw[hW5]
  (repeat(rw[setCell_farN (by omega)]))
  exact d3
 rw[<-hW5]
 refine hK.out _ _ ⟨g0,g3⟩ (fun hHeld3=> ?_)
 clear hK Kx hW5 hHeld hHeld2 hHeld3
 refine wpAnyH_done (by kernel_rfl) ?_ _
 obtain⟨q0,q1,q2,q3,q4,q5⟩:=(unhide HC5).c6
 go_wp2
 refine bodyPost_ret (v:= .agg #[.int .i64 6,.int .i64 (ln:Int),.int .i64 M,.string ⟨#[]⟩,.string ⟨#[]⟩,.slice none 0 0]) (by simp[results,Tryz.results148,go_sem,q0,q1,q2,q3,q4,q5]) rfl ⟨rfl,unhide HB5⟩
set_option maxRecDepth 100000 in
set_option maxHeartbeats 4000000 in
theorem kd_leaf(B:Nat)(w:World):Calls Tryz.prog 152 #[.agg #[]] w (KdE B [] w):=by
 go_enter Tryz.func152,Tryz.ntmps152
 go_wp2
 go_ret
 exact⟨none,0,rfl,by first | exact bA (Below.refl _ _) _ | exact Below.refl _ _ | exact bA (bA (Below.refl _ _) _) _ | exact bA (bA (bA (Below.refl _ _) _) _) _,by simp,by simp[blk]⟩
set_option maxRecDepth 100000 in
set_option maxHeartbeats 4000000 in
theorem kd_unionTree(B:Nat)(la:Option Addr)(lc:Nat)(ks:List Value)(w:World)(hc: ∀(i:Nat) v,ks[i]?=some v-> ∃g,la=some ⟨g,0,none⟩/\w.cell? ⟨g,i,none⟩=some v)(hb: ∀b,blk la=some b->b<w.heap.size/\b<B):Calls Tryz.prog 143 #[.agg #[.slice la ks.length lc]] w (KdE B ks w):=by
 have HC:=hide hc;have HB:=hide hb
 clear hc hb
 go_enter Tryz.func143,Tryz.ntmps143
 go_wp2
 go_ret
 have hbb:Below w.heap.size w (w.alloc (.cells #[.slice la ks.length lc] 99)):=bA (Below.refl _ _) _
 refine⟨la,lc,rfl,hbb,fun i v hi=> ?_,fun b hb=> ?_⟩
 ·obtain⟨g,e1,e2⟩:=unhide HC i v hi
  refine⟨g,e1,?_⟩
  have hg:=(unhide HB g (by rw[e1];rfl)).1
  exact(hbb.cell (p:=⟨g,i,none⟩) hg).trans e2
 ·have:=unhide HB b hb
  exact⟨Nat.lt_of_lt_of_le this.1 hbb.size,Or.inl this.2⟩
set_option maxRecDepth 100000 in
set_option maxHeartbeats 4000000 in
theorem kd_andTree(B:Nat)(la:Option Addr)(lc:Nat)(ks:List Value)(w:World)(hc: ∀(i:Nat) v,ks[i]?=some v-> ∃g,la=some ⟨g,0,none⟩/\w.cell? ⟨g,i,none⟩=some v)(hb: ∀b,blk la=some b->b<w.heap.size/\b<B):Calls Tryz.prog 161 #[.agg #[.slice la ks.length lc]] w (KdE B ks w):=by
 have HC:=hide hc;have HB:=hide hb
 clear hc hb
 go_enter Tryz.func161,Tryz.ntmps161
 go_wp2
 go_ret
 have hbb:Below w.heap.size w (w.alloc (.cells #[.slice la ks.length lc] 150)):=bA (Below.refl _ _) _
 refine⟨la,lc,rfl,hbb,fun i v hi=> ?_,fun b hb=> ?_⟩
 ·obtain⟨g,e1,e2⟩:=unhide HC i v hi
  refine⟨g,e1,?_⟩
  have hg:=(unhide HB g (by rw[e1];rfl)).1
  exact(hbb.cell (p:=⟨g,i,none⟩) hg).trans e2
 ·have:=unhide HB b hb
  exact⟨Nat.lt_of_lt_of_le this.1 hbb.size,Or.inl this.2⟩
set_option maxRecDepth 100000 in
set_option maxHeartbeats 4000000 in
theorem kd_orTree(B:Nat)(la:Option Addr)(lc:Nat)(ks:List Value)(w:World)(hc: ∀(i:Nat) v,ks[i]?=some v-> ∃g,la=some ⟨g,0,none⟩/\w.cell? ⟨g,i,none⟩=some v)(hb: ∀b,blk la=some b->b<w.heap.size/\b<B):Calls Tryz.prog 158 #[.agg #[.slice la ks.length lc]] w (KdE B ks w):=by
 have HC:=hide hc;have HB:=hide hb
 clear hc hb
 go_enter Tryz.func158,Tryz.ntmps158
 go_wp2
 go_ret
 have hbb:Below w.heap.size w (w.alloc (.cells #[.slice la ks.length lc] 145)):=bA (Below.refl _ _) _
 refine⟨la,lc,rfl,hbb,fun i v hi=> ?_,fun b hb=> ?_⟩
 ·obtain⟨g,e1,e2⟩:=unhide HC i v hi
  refine⟨g,e1,?_⟩
  have hg:=(unhide HB g (by rw[e1];rfl)).1
  exact(hbb.cell (p:=⟨g,i,none⟩) hg).trans e2
 ·have:=unhide HB b hb
  exact⟨Nat.lt_of_lt_of_le this.1 hbb.size,Or.inl this.2⟩
set_option maxRecDepth 100000 in
set_option maxHeartbeats 4000000 in
theorem kd_isNullTree(B:Nat)(c:Bool)(ty:Nat)(u:Value)(w:World):Calls Tryz.prog 167 #[.agg #[.bool c,.iface ty u]] w (KdE B [.iface ty u] w):=by
 go_enter Tryz.func167,Tryz.ntmps167
 go_wp2
 go_ret
 have hb1:Below w.heap.size w (w.alloc (.cells #[.bool c,.iface ty u] 163)):=bA (Below.refl _ _) _
 have hC:=CellsAt.new (w.alloc (.cells #[.bool c,.iface ty u] 163)) [.iface ty u] 48
 refine⟨some ⟨(w.alloc (.cells #[.bool c,.iface ty u] 163)).heap.size,0,none⟩,_,by simp;rfl,bA hb1 _,fun i v hi=>⟨_,rfl,hC.all i v hi⟩,fun b hb=> ?_⟩
 simp[blk]at hb
 subst hb
 exact⟨by simp,Or.inr (by omega)⟩
set_option maxRecDepth 100000 in
set_option maxHeartbeats 4000000 in
theorem kd_existsTree(B:Nat)(ty:Nat)(u:Value)(w:World):Calls Tryz.prog 165 #[.agg #[.iface ty u]] w (KdE B [.iface ty u] w):=by
 go_enter Tryz.func165,Tryz.ntmps165
 go_wp2
 go_ret
 have hb1:Below w.heap.size w (w.alloc (.cells #[.iface ty u] 155)):=bA (Below.refl _ _) _
 have hC:=CellsAt.new (w.alloc (.cells #[.iface ty u] 155)) [.iface ty u] 48
 refine⟨some ⟨(w.alloc (.cells #[.iface ty u] 155)).heap.size,0,none⟩,_,by simp;rfl,bA hb1 _,fun i v hi=>⟨_,rfl,hC.all i v hi⟩,fun b hb=> ?_⟩
 simp[blk]at hb
 subst hb
 exact⟨by simp,Or.inr (by omega)⟩
set_option maxRecDepth 100000 in
set_option maxHeartbeats 4000000 in
theorem kd_notTree(B:Nat)(ty:Nat)(u:Value)(w:World):Calls Tryz.prog 163 #[.agg #[.iface ty u]] w (KdE B [.iface ty u] w):=by
 go_enter Tryz.func163,Tryz.ntmps163
 go_wp2
 go_ret
 have hb1:Below w.heap.size w (w.alloc (.cells #[.iface ty u] 153)):=bA (Below.refl _ _) _
 have hC:=CellsAt.new (w.alloc (.cells #[.iface ty u] 153)) [.iface ty u] 48
 refine⟨some ⟨(w.alloc (.cells #[.iface ty u] 153)).heap.size,0,none⟩,_,by simp;rfl,bA hb1 _,fun i v hi=>⟨_,rfl,hC.all i v hi⟩,fun b hb=> ?_⟩
 simp[blk]at hb
 subst hb
 exact⟨by simp,Or.inr (by omega)⟩
set_option maxRecDepth 100000 in
set_option maxHeartbeats 4000000 in
theorem kd_cmpTree(B:Nat)(M:Int)(ty sy:Nat)(u v:Value)(w:World):Calls Tryz.prog 173 #[.agg #[.int .i64 M,.iface ty u,.iface sy v]] w (KdE B [.iface ty u,.iface sy v] w):=by
 go_enter Tryz.func173,Tryz.ntmps173
 go_wp2
 go_ret
 have hb1:Below w.heap.size w (w.alloc (.cells #[.int .i64 M,.iface ty u,.iface sy v] 169)):=bA (Below.refl _ _) _
 have hC:=CellsAt.new (w.alloc (.cells #[.int .i64 M,.iface ty u,.iface sy v] 169)) [.iface ty u,.iface sy v] 48
 refine⟨some ⟨(w.alloc (.cells #[.int .i64 M,.iface ty u,.iface sy v] 169)).heap.size,0,none⟩,_,by simp;rfl,bA hb1 _,fun i v hi=>⟨_,rfl,hC.all i v hi⟩,fun b hb=> ?_⟩
 simp[blk]at hb
 subst hb
 exact⟨by simp,Or.inr (by omega)⟩
set_option maxRecDepth 100000 in
set_option maxHeartbeats 4000000 in
theorem kd_inTree(B:Nat)(c:Bool)(ty sy:Nat)(u v:Value)(w:World):Calls Tryz.prog 169 #[.agg #[.bool c,.iface ty u,.iface sy v]] w (KdE B [.iface ty u,.iface sy v] w):=by
 go_enter Tryz.func169,Tryz.ntmps169
 go_wp2
 go_ret
 have hb1:Below w.heap.size w (w.alloc (.cells #[.bool c,.iface ty u,.iface sy v] 165)):=bA (Below.refl _ _) _
 have hC:=CellsAt.new (w.alloc (.cells #[.bool c,.iface ty u,.iface sy v] 165)) [.iface ty u,.iface sy v] 48
 refine⟨some ⟨(w.alloc (.cells #[.bool c,.iface ty u,.iface sy v] 165)).heap.size,0,none⟩,_,by simp;rfl,bA hb1 _,fun i v hi=>⟨_,rfl,hC.all i v hi⟩,fun b hb=> ?_⟩
 simp[blk]at hb
 subst hb
 exact⟨by simp,Or.inr (by omega)⟩
set_option maxRecDepth 100000 in
set_option maxHeartbeats 4000000 in
theorem kd_quantTree(B:Nat)(M N:Int)(ty sy:Nat)(u v:Value)(w:World):Calls Tryz.prog 171 #[.agg #[.int .i64 M,.int .i64 N,.iface ty u,.iface sy v]] w (KdE B [.iface ty u,.iface sy v] w):=by
 go_enter Tryz.func171,Tryz.ntmps171
 go_wp2
 go_ret
 have hb1:Below w.heap.size w (w.alloc (.cells #[.int .i64 M,.int .i64 N,.iface ty u,.iface sy v] 167)):=bA (Below.refl _ _) _
 have hC:=CellsAt.new (w.alloc (.cells #[.int .i64 M,.int .i64 N,.iface ty u,.iface sy v] 167)) [.iface ty u,.iface sy v] 48
 refine⟨some ⟨(w.alloc (.cells #[.int .i64 M,.int .i64 N,.iface ty u,.iface sy v] 167)).heap.size,0,none⟩,_,by simp;rfl,bA hb1 _,fun i v hi=>⟨_,rfl,hC.all i v hi⟩,fun b hb=> ?_⟩
 simp[blk]at hb
 subst hb
 exact⟨by simp,Or.inr (by omega)⟩
end Go.Proofs.YtmggnimiioepeaaGreatDoor.Pa
