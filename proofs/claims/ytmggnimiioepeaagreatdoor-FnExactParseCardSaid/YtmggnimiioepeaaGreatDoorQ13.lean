import Derived.Test.YtmggnimiioepeaaGreatDoorQ0
import Derived.Test.YtmggnimiioepeaaGreatDoorQ12
import Derived.Test.YtmggnimiioepeaaGreatDoorQ5
namespace Go.Proofs.YtmggnimiioepeaaGreatDoor.Pa
open Go Go.RowKit
abbrev tks(L:List (Tok×ByteArray)):List Tok:=L.map Prod.fst
theorem tks_take(L:List (Tok×ByteArray))(k:Nat)(p:Tok×ByteArray)(h:L[k]?=some p):(tks L).take (k+1)=(tks L).take k++[p.1]:=by
 obtain⟨hk,e⟩:=List.getElem?_eq_some_iff.1 h
 rw[List.take_succ_eq_append_getElem (by simpa using hk)]
 simp[e]
set_option maxHeartbeats 8000000 in
theorem l2Most_calls(L:List (Tok×ByteArray))(a:Option Addr)(c:Nat)(w:World)(hL:L.length<=1000000)(hT:TksS w a L):Calls Tryz.prog 10 #[.slice a L.length c] w fun e w'=>e= .returned (.tuple #[.int .i64 (brks (tks L)).2.1,.bool ((brks (tks L)).2.2&&decide ((brks (tks L)).1=0))])/\w'=w:=by
 go_enter Tryz.func10,Tryz.ntmps10
 go_wp2
 go_loopw [4,5,6,7] (fun m o f i wr=> ∃k:Nat,k<=L.length/\i= .int .i64 k/\m= .int .i64 (brks ((tks L).take k)).2.1/\o= .int .i64 (brks ((tks L).take k)).1/\f= .bool (brks ((tks L).take k)).2.2/\wr=w) (fun _ _ _ i _=>L.length-(intOf i).toNat)
 case atStart=>exact⟨0,Nat.zero_le _,rfl,rfl,rfl,rfl,rfl⟩
 case round=>
  obtain⟨k,hk,rfl,rfl,rfl,rfl,rfl⟩:=hrel
  have hbd:=brks_bound ((tks L).take k)
  have hlen:((tks L).take k).length=k:=by simp;omega
  rw[hlen]at hbd
  clear hlen
  by_cases hlt:k<L.length
  ·obtain⟨⟨t,S⟩,hp⟩: ∃p,L[k]?=some p:=⟨L[k],List.getElem?_eq_getElem hlt⟩
   obtain⟨hok,g,rfl,hg,hcs⟩:=hT k _ hp
   obtain⟨bb,V,hform⟩:=tkS_form t S
   have c0:wr.cell? ⟨g,k*3,none⟩=some (.string S):=by
    have:=hcs 0 (by omega)
    simp only[hform]at this
    simpa using this
   have HNx:=hide (tks_take L k _ hp)
   have HSn:=hide (brks_snoc ((tks L).take k) t)
   have t0:(S.toList==[40])=decide (t=pO):=text_beq hok 0 (by omega)
   have t1:(S.toList==[41])=decide (t=pC):=text_beq hok 1 (by omega)
   have HT:=hide hT
   clear hT hcs hform hok hp
   generalize brks ((tks L).take k)=st at*
   obtain⟨O,M,Fb⟩:=st
   simp only at hbd
   have j1:(k:Int)<(L.length:Int):=by omega
   by_cases hO:t=pO
   ·skip
    rw[decide_eq_true hO]at t0
    rw[decide_eq_false (by rw[hO];decide)]at t1
    have HD:Hid (dlt t=1):=by
     show _=_
     unfold dlt
     rw[if_pos hO]
    have HSn2:Hid (brks ((tks L).take (k+1))=(O+1,max M (O+1),Fb&&decide (0<=O+1))):=by
     show _=_
     rw[unhide HNx,unhide HSn]
     unfold stp1
     rw[unhide HD]
     try rfl
    clear HNx HSn HD hO
    cases Fb
    ·by_cases hgt:M<(O+1)
     ·have HM:Hid (max M (O+1)=(O+1)):=by show _=_;omega
      go_wp2
      go_roundw
      case rel=>exact⟨k+1,by omega,by go_num,by rw[unhide HSn2];exact congrArg (Value.int .i64) (unhide HM).symm,by rw[unhide HSn2],by rw[unhide HSn2];rfl,by first | rfl | trivial⟩
      case measure=>simp[intOf];omega
     ·have HM:Hid (max M (O+1)=M):=by show _=_;omega
      go_wp2
      go_roundw
      case rel=>exact⟨k+1,by omega,by go_num,by rw[unhide HSn2];exact congrArg (Value.int .i64) (unhide HM).symm,by rw[unhide HSn2],by rw[unhide HSn2];rfl,by first | rfl | trivial⟩
      case measure=>simp[intOf];omega
    ·by_cases hge:0<=(O+1)
     ·by_cases hgt:M<(O+1)
      ·have HM:Hid (max M (O+1)=(O+1)):=by show _=_;omega
       go_wp2
       go_roundw
       case rel=>exact⟨k+1,by omega,by go_num,by rw[unhide HSn2];exact congrArg (Value.int .i64) (unhide HM).symm,by rw[unhide HSn2],by rw[unhide HSn2];exact congrArg Value.bool (by simp only[decide_eq_true hge,Bool.and_self];try exact decide_eq_true (by omega)),by first | rfl | trivial⟩
       case measure=>simp[intOf];omega
      ·have HM:Hid (max M (O+1)=M):=by show _=_;omega
       go_wp2
       go_roundw
       case rel=>exact⟨k+1,by omega,by go_num,by rw[unhide HSn2];exact congrArg (Value.int .i64) (unhide HM).symm,by rw[unhide HSn2],by rw[unhide HSn2];exact congrArg Value.bool (by simp only[decide_eq_true hge,Bool.and_self];try exact decide_eq_true (by omega)),by first | rfl | trivial⟩
       case measure=>simp[intOf];omega
     ·have hgt: ¬M<(O+1):=by omega
      have HM:Hid (max M (O+1)=M):=by show _=_;omega
      go_wp2
      go_roundw
      case rel=>exact⟨k+1,by omega,by go_num,by rw[unhide HSn2];exact congrArg (Value.int .i64) (unhide HM).symm,by rw[unhide HSn2],by rw[unhide HSn2];exact congrArg Value.bool (by simp only[decide_eq_false hge,Bool.and_false];try exact decide_eq_false (by omega)),by first | rfl | trivial⟩
      case measure=>simp[intOf];omega
   by_cases hC:t=pC
   ·skip
    rw[decide_eq_false hO]at t0
    rw[decide_eq_true hC]at t1
    have HD:Hid (dlt t= -1):=by
     show _=_
     unfold dlt
     rw[if_neg hO,if_pos hC]
    have HSn2:Hid (brks ((tks L).take (k+1))=(O-1,max M (O-1),Fb&&decide (0<=O-1))):=by
     show _=_
     rw[unhide HNx,unhide HSn]
     unfold stp1
     rw[unhide HD]
     rw[show O+ -1=O-1 by omega]
    clear HNx HSn HD hO hC
    cases Fb
    ·by_cases hgt:M<(O-1)
     ·have HM:Hid (max M (O-1)=(O-1)):=by show _=_;omega
      go_wp2
      go_roundw
      case rel=>exact⟨k+1,by omega,by go_num,by rw[unhide HSn2];exact congrArg (Value.int .i64) (unhide HM).symm,by rw[unhide HSn2],by rw[unhide HSn2];rfl,by first | rfl | trivial⟩
      case measure=>simp[intOf];omega
     ·have HM:Hid (max M (O-1)=M):=by show _=_;omega
      go_wp2
      go_roundw
      case rel=>exact⟨k+1,by omega,by go_num,by rw[unhide HSn2];exact congrArg (Value.int .i64) (unhide HM).symm,by rw[unhide HSn2],by rw[unhide HSn2];rfl,by first | rfl | trivial⟩
      case measure=>simp[intOf];omega
    ·by_cases hge:0<=(O-1)
     ·by_cases hgt:M<(O-1)
      ·have HM:Hid (max M (O-1)=(O-1)):=by show _=_;omega
       go_wp2
       go_roundw
       case rel=>exact⟨k+1,by omega,by go_num,by rw[unhide HSn2];exact congrArg (Value.int .i64) (unhide HM).symm,by rw[unhide HSn2],by rw[unhide HSn2];exact congrArg Value.bool (by simp only[decide_eq_true hge,Bool.and_self];try exact decide_eq_true (by omega)),by first | rfl | trivial⟩
       case measure=>simp[intOf];omega
      ·have HM:Hid (max M (O-1)=M):=by show _=_;omega
       go_wp2
       go_roundw
       case rel=>exact⟨k+1,by omega,by go_num,by rw[unhide HSn2];exact congrArg (Value.int .i64) (unhide HM).symm,by rw[unhide HSn2],by rw[unhide HSn2];exact congrArg Value.bool (by simp only[decide_eq_true hge,Bool.and_self];try exact decide_eq_true (by omega)),by first | rfl | trivial⟩
       case measure=>simp[intOf];omega
     ·have hgt: ¬M<(O-1):=by omega
      have HM:Hid (max M (O-1)=M):=by show _=_;omega
      go_wp2
      go_roundw
      case rel=>exact⟨k+1,by omega,by go_num,by rw[unhide HSn2];exact congrArg (Value.int .i64) (unhide HM).symm,by rw[unhide HSn2],by rw[unhide HSn2];exact congrArg Value.bool (by simp only[decide_eq_false hge,Bool.and_false];try exact decide_eq_false (by omega)),by first | rfl | trivial⟩
      case measure=>simp[intOf];omega
   rw[decide_eq_false hO]at t0
   rw[decide_eq_false hC]at t1
   have HD:Hid (dlt t=0):=by
    show _=_
    unfold dlt
    rw[if_neg hO,if_neg hC]
   have HSn2:Hid (brks ((tks L).take (k+1))=(O,max M (O),Fb&&decide (0<=O))):=by
    show _=_
    rw[unhide HNx,unhide HSn]
    unfold stp1
    rw[unhide HD]
    rw[show O+0=O by omega]
   clear HNx HSn HD hO hC
   cases Fb
   ·by_cases hgt:M<O
    ·have HM:Hid (max M O=O):=by show _=_;omega
     go_wp2
     go_roundw
     case rel=>exact⟨k+1,by omega,by go_num,by rw[unhide HSn2];exact congrArg (Value.int .i64) (unhide HM).symm,by rw[unhide HSn2],by rw[unhide HSn2];rfl,by first | rfl | trivial⟩
     case measure=>simp[intOf];omega
    ·have HM:Hid (max M O=M):=by show _=_;omega
     go_wp2
     go_roundw
     case rel=>exact⟨k+1,by omega,by go_num,by rw[unhide HSn2];exact congrArg (Value.int .i64) (unhide HM).symm,by rw[unhide HSn2],by rw[unhide HSn2];rfl,by first | rfl | trivial⟩
     case measure=>simp[intOf];omega
   ·by_cases hge:0<=O
    ·by_cases hgt:M<O
     ·have HM:Hid (max M O=O):=by show _=_;omega
      go_wp2
      go_roundw
      case rel=>exact⟨k+1,by omega,by go_num,by rw[unhide HSn2];exact congrArg (Value.int .i64) (unhide HM).symm,by rw[unhide HSn2],by rw[unhide HSn2];exact congrArg Value.bool (by simp only[decide_eq_true hge,Bool.and_self];try exact decide_eq_true (by omega)),by first | rfl | trivial⟩
      case measure=>simp[intOf];omega
     ·have HM:Hid (max M O=M):=by show _=_;omega
      go_wp2
      go_roundw
      case rel=>exact⟨k+1,by omega,by go_num,by rw[unhide HSn2];exact congrArg (Value.int .i64) (unhide HM).symm,by rw[unhide HSn2],by rw[unhide HSn2];exact congrArg Value.bool (by simp only[decide_eq_true hge,Bool.and_self];try exact decide_eq_true (by omega)),by first | rfl | trivial⟩
      case measure=>simp[intOf];omega
    ·have hgt: ¬M<O:=by omega
     have HM:Hid (max M O=M):=by show _=_;omega
     go_wp2
     go_roundw
     case rel=>exact⟨k+1,by omega,by go_num,by rw[unhide HSn2];exact congrArg (Value.int .i64) (unhide HM).symm,by rw[unhide HSn2],by rw[unhide HSn2];exact congrArg Value.bool (by simp only[decide_eq_false hge,Bool.and_false];try exact decide_eq_false (by omega)),by first | rfl | trivial⟩
     case measure=>simp[intOf];omega
  ·obtain rfl:k=L.length:=by omega
   have HE:Hid ((tks L).take L.length=tks L):=List.take_of_length_le (by simp)
   rw[unhide HE]at*
   clear hT HE
   clear hbd
   generalize hst:brks (tks L)=st
   have HE2:=hide hst
   clear hst
   obtain⟨O,M,Fb⟩:=st
   cases Fb
   ·go_wp2
    go_returns
    exact⟨by rw[unhide HE2];simp,rfl⟩
   ·by_cases h0:O=0
    ·subst h0
     go_wp2
     go_returns
     exact⟨by rw[unhide HE2];simp,rfl⟩
    ·have h0':(O==0)=false:=beq_eq_false_iff_ne.2 h0
     go_wp2
     go_returns
     exact⟨by rw[unhide HE2];simp[h0],rfl⟩
end Go.Proofs.YtmggnimiioepeaaGreatDoor.Pa
namespace Go.Proofs.YtmggnimiioepeaaGreatDoor.Pa
open Go Go.RowKit
def topsP(sep:Tok):Int->Nat->List Tok->List Nat
 | _,_,[]=>[]
 | d,i,t::r=>if dn d t=0/\t=sep then i::topsP sep (up d t) (i+1) r else topsP sep (up d t) (i+1) r
def dep(d:Int)(xs:List Tok):Int:=xs.foldl up d
theorem topsP_snoc(sep t:Tok): ∀(xs:List Tok) (d:Int) (i:Nat),topsP sep d i (xs++[t])=topsP sep d i xs++(if dn (dep d xs) t=0/\t=sep then[i+xs.length]else[])
 | [],d,i=>rfl
 | x::xs,d,i=>by
  have ih:=topsP_snoc sep t xs (up d x) (i+1)
  have e:dep d (x::xs)=dep (up d x) xs:=rfl
  rw[e,List.cons_append]
  unfold topsP
  rw[ih,List.length_cons,show i+1+xs.length=i+(xs.length+1)by omega]
  split<;>simp
theorem topsP_len(sep:Tok): ∀(xs:List Tok) (d:Int) (i:Nat),(topsP sep d i xs).length<=xs.length
 | [],d,i=>Nat.le_refl _
 | x::xs,d,i=>by
  have ih:=topsP_len sep xs (up d x) (i+1)
  unfold topsP
  split
  ·simp;omega
  ·simp;omega
theorem dep_snoc(d:Int)(xs:List Tok)(t:Tok):dep d (xs++[t])=up (dep d xs) t:=by simp[dep]
theorem dep_bound: ∀(xs:List Tok) (d:Int),d-xs.length<=dep d xs/\dep d xs<=d+xs.length
 | [],d=>by simp[dep]
 | x::xs,d=>by
  have ih:=dep_bound xs (up d x)
  have e:dep d (x::xs)=dep (up d x) xs:=rfl
  have hu:d-1<=up d x/\up d x<=d+1:=by
   unfold up dn
   by_cases h1:x=pC
   ·subst h1;simp;omega
   ·by_cases h2:x=pO
    ·subst h2;simp;omega
    ·simp[h1,h2];omega
  rw[e,List.length_cons]
  omega
def sgm(ts:List Tok)(a b:Nat):List Tok:=(ts.drop a).take (b-a)
theorem sgm_snoc(L:List (Tok×ByteArray))(a k:Nat)(h:a<=k)(p:Tok×ByteArray)(hp:L[k]?=some p):sgm (tks L) a (k+1)=sgm (tks L) a k++[p.1]:=by
 unfold sgm
 obtain⟨hk,e⟩:=List.getElem?_eq_some_iff.1 hp
 rw[show k+1-a=k-a+1 by omega,List.take_succ_eq_append_getElem (by simp;omega)]
 congr 1
 simp[show a+(k-a)=k by omega,e]
theorem sgm_len(ts:List Tok)(a k:Nat)(h:a<=k)(hk:k<=ts.length):(sgm ts a k).length=k-a:=by simp[sgm];omega
def vN(P:List Nat):List Value:=P.map fun x:Nat=>Value.int .i64 (x:Int)
theorem vN_snoc(P:List Nat)(k:Nat):vN (P++[k])=vN P++[.int .i64 (k:Int)]:=by simp[vN]
set_option maxHeartbeats 8000000 in
theorem l2Tops_calls(L:List (Tok×ByteArray))(ad:Option Addr)(c:Nat)(w:World)(hL:L.length<=1000000)(hT:TksS w ad L)(a b:Nat)(hab:a<=b)(hb:b<=L.length)(S:ByteArray)(q:Nat)(hq:q<28)(hS:S.toList=syT q):Calls Tryz.prog 28 #[.slice ad L.length c,.int .i64 (a:Int),.int .i64 (b:Int),.string S] w fun e w'=> ∃g cap,e= .returned (.slice g (topsP (.sy q) 0 a (sgm (tks L) a b)).length cap)/\w'.ownsRow w.heap.size 3 1 (.slice g (topsP (.sy q) 0 a (sgm (tks L) a b)).length cap) (topsP (.sy q) 0 a (sgm (tks L) a b)).length (vN (topsP (.sy q) 0 a (sgm (tks L) a b)))/\Below w.heap.size w w':=by
 obtain⟨ti,hti,hz⟩:=Option.map_eq_some_iff.1 (show(Tryz.prog.info? 3).map (fun i=>(i.zero,i.size,i.bytes))=some (some (.int .i64 0),1,8)by kernel_rfl)
 simp only[Prod.mk.injEq]at hz
 obtain⟨hz0,hz1,hz2⟩:=hz
 have HT:=hide hT;have HS:=hide hS
 clear hT hS
 go_enter Tryz.func28,Tryz.ntmps28
 go_wp2
 go_loopw [9,10,11] (fun o d i wr=> ∃(k:Nat) (g:Option Addr) (cap:Nat),a<=k/\k<=b/\i= .int .i64 k/\d= .int .i64 (dep 0 (sgm (tks L) a k))/\o= .slice g (topsP (.sy q) 0 a (sgm (tks L) a k)).length cap/\wr.ownsRow w.heap.size 3 1 (.slice g (topsP (.sy q) 0 a (sgm (tks L) a k)).length cap) (topsP (.sy q) 0 a (sgm (tks L) a k)).length (vN (topsP (.sy q) 0 a (sgm (tks L) a k)))/\Below w.heap.size w wr) (fun _ _ i _=>b-(intOf i).toNat)
 case atStart=>
  refine⟨a,some ⟨w.heap.size,0,none⟩,0,Nat.le_refl _,hab,rfl,?_,?_,?_,bA (Below.refl _ _) _⟩
  ·simp[sgm,dep]
  ·simp[sgm,topsP]
  ·have:=World.ownsRow_made (e:=3) (size:=1) w #[] 0 (Nat.le_refl w.heap.size) (by unfold maxLen;decide) rfl
   simpa[sgm,topsP,vN]using this
 case round=>
  obtain⟨k,g,cap,hak,hkb,rfl,rfl,rfl,hown,hbw⟩:=hrel
  have HO:=hide hown;have HB:=hide hbw
  have hszB:=hbw.size
  clear hown hbw
  have hbd:=dep_bound (sgm (tks L) a k) 0
  have hpl:=topsP_len (.sy q) (sgm (tks L) a k) 0 a
  have hlen:=sgm_len (tks L) a k hak (by simp;omega)
  rw[hlen]at hbd hpl
  by_cases hlt:k<b
  ·obtain⟨⟨t,Sk⟩,hp⟩: ∃p,L[k]?=some p:=⟨L[k],List.getElem?_eq_getElem (by omega)⟩
   obtain⟨hok,gt,rfl,hg,hcs⟩:=(unhide HT) k _ hp
   obtain⟨bb,V,hform⟩:=tkS_form t Sk
   simp only[hform]at hcs
   have c0:wr.cell? ⟨gt,k*3,none⟩=some (.string Sk):=((bcell (unhide HB)).1 gt _ hg).trans (hcs 0 (by omega))
   have HC5:Hid (∀w5,Below w.heap.size w w5->w5.cell? ⟨gt,k*3,none⟩=some (.string Sk)):=fun w5 h=>((bcell h).1 gt _ hg).trans (hcs 0 (by omega))
   have hgr:gt<wr.heap.size:=by omega
   have t0:(Sk.toList==[40])=decide (t=pO):=text_beq hok 0 (by omega)
   have t1:(Sk.toList==[41])=decide (t=pC):=text_beq hok 1 (by omega)
   have t2:(Sk.toList==S.toList)=decide (t= .sy q):=by rw[unhide HS];exact text_beq hok q hq
   have HSn:=hide (sgm_snoc L a k hak _ hp)
   have HTp:Hid (topsP (.sy q) 0 a (sgm (tks L) a (k+1))=topsP (.sy q) 0 a (sgm (tks L) a k)++(if dn (dep 0 (sgm (tks L) a k)) t=0/\t= .sy q then[k]else[])):=by
    show _=_
    rw[unhide HSn,topsP_snoc,hlen,show a+(k-a)=k by omega]
   have HDp:Hid (dep 0 (sgm (tks L) a (k+1))=up (dep 0 (sgm (tks L) a k)) t):=by
    show _=_
    rw[unhide HSn,dep_snoc]
   clear hcs hform hok hp HSn hlen
   generalize dep 0 (sgm (tks L) a k)=O at*
   generalize topsP (.sy q) 0 a (sgm (tks L) a k)=PP at*
   have j1:(k:Int)<(b:Int):=by omega
   have j2:(k:Int)<(L.length:Int):=by omega
   by_cases hO:t=pO
   ·skip
    have HD1:Hid (dn O t=O/\up O t=O+1):=by
     show _/\_
     subst hO
     unfold up dn
     exact⟨by simp,by simp⟩
    rw[(unhide HD1).1]at HTp
    rw[(unhide HD1).2]at HDp
    clear HD1
    by_cases hzr:O=0
    ·by_cases hse:t= .sy q
     ·rw[if_pos ⟨hzr,hse⟩]at HTp
      rw[decide_eq_true hse]at t2
      rw[decide_eq_true hO]at t0;rw[decide_eq_false (by rw[hO];decide)]at t1
      clear hse hO
      subst hzr
      obtain⟨W,hW⟩: ∃W,W=wr.alloc (.cells #[.int .i64 (k:Int)] 3):=⟨_,rfl⟩
      have hWB:Below wr.heap.size wr W:=by rw[hW];exact bA (Below.refl _ _) _
      have HWO:=hide (own_below (unhide HO) hWB)
      have HWS:Hid (SrcC W 1 (some ⟨wr.heap.size,0,none⟩) 1 1 [.int .i64 (k:Int)]):=by
       show SrcC _ _ _ _ _ _
       rw[hW]
       exact srcNew _ _ [.int .i64 (k:Int)] _ 1 1 rfl (by simp[Value.oneCell']) rfl 1
      have hWz:w.heap.size<=W.heap.size:=by have:=hWB.size;omega
      have HAp:Hid (∀w5,W.grownBy w5 (blk g)->w5.cell? ⟨gt,k*3,none⟩=some (.string Sk)/\Below w.heap.size w w5):=fun w5 hg5=>by
       have h5:=grown_below (bT (unhide HB) hWB) hg5 (fun j hj=>((unhide HO).lt j (by rw[own_slice];exact hj)).1)
       exact⟨unhide HC5 w5 h5,h5⟩
      have HWe:=hide hW
      have hgx: ∀w5,Below w.heap.size w w5->gt<w5.heap.size:=fun w5 h=>Nat.lt_of_lt_of_le hg h.size
      have HGx:=hide hgx
      clear hW hWB hgx
      go_wp2_with (at_builtin;rw[<-unhide HWe];refine wpList_append_gen W rfl (.tmp 38) (.tmp 40) 58 rfl w.heap.size 3 ti _ 1 8 Tryz.underlying58 hti hz0 hz1 hz2 rfl (by decide) g PP.length cap (vN PP) rfl (unhide HWO) (some ⟨wr.heap.size,0,none⟩) 1 1 [.int .i64 (k:Int)] rfl (unhide HWS) (by unfold maxLen;omega) (by omega) hWz ?_;intro ra rc w5 hown2 hgrow hat;obtain⟨hcx,hb5⟩:=unhide HAp w5 hgrow;have hg5:=unhide HGx w5 hb5;have HO2:=hide hown2;have HB5:=hide hb5;clear hown2 hgrow hat hb5)
      go_wp2
      go_roundw
      case rel=>exact⟨k+1,ra,rc,by omega,by omega,by go_num,(by rw[unhide HDp];try rfl),(by rw[unhide HTp];simp),(by rw[unhide HTp,List.length_append,vN_snoc];exact unhide HO2),unhide HB5⟩
      case measure=>simp[intOf];omega
     ·rw[if_neg (fun x=>hse x.2),List.append_nil]at HTp
      rw[decide_eq_false hse]at t2
      rw[decide_eq_true hO]at t0;rw[decide_eq_false (by rw[hO];decide)]at t1
      clear hse hO
      subst hzr
      go_wp2
      go_roundw
      case rel=>exact⟨k+1,g,cap,by omega,by omega,by go_num,(by rw[unhide HDp];try rfl),by rw[unhide HTp],by rw[unhide HTp];exact unhide HO,unhide HB⟩
      case measure=>simp[intOf];omega
    ·rw[if_neg (fun x=>hzr x.1),List.append_nil]at HTp
     rw[decide_eq_true hO]at t0;rw[decide_eq_false (by rw[hO];decide)]at t1
     have hzb:(O==0)=false:=beq_eq_false_iff_ne.2 hzr
     clear t2 hO
     go_wp2
     go_roundw
     case rel=>exact⟨k+1,g,cap,by omega,by omega,by go_num,by rw[unhide HDp],by rw[unhide HTp],by rw[unhide HTp];exact unhide HO,unhide HB⟩
     case measure=>simp[intOf];omega
   by_cases hC:t=pC
   ·skip
    have HD1:Hid (dn O t=(O-1)/\up O t=O-1):=by
     show _/\_
     subst hC
     unfold up dn
     exact⟨by simp,by simp⟩
    rw[(unhide HD1).1]at HTp
    rw[(unhide HD1).2]at HDp
    clear HD1
    by_cases hzr:(O-1)=0
    ·by_cases hse:t= .sy q
     ·rw[if_pos ⟨hzr,hse⟩]at HTp
      rw[decide_eq_true hse]at t2
      rw[decide_eq_false hO]at t0;rw[decide_eq_true hC]at t1
      clear hse hO hC
      obtain rfl:O=1:=by omega
      obtain⟨W,hW⟩: ∃W,W=wr.alloc (.cells #[.int .i64 (k:Int)] 3):=⟨_,rfl⟩
      have hWB:Below wr.heap.size wr W:=by rw[hW];exact bA (Below.refl _ _) _
      have HWO:=hide (own_below (unhide HO) hWB)
      have HWS:Hid (SrcC W 1 (some ⟨wr.heap.size,0,none⟩) 1 1 [.int .i64 (k:Int)]):=by
       show SrcC _ _ _ _ _ _
       rw[hW]
       exact srcNew _ _ [.int .i64 (k:Int)] _ 1 1 rfl (by simp[Value.oneCell']) rfl 1
      have hWz:w.heap.size<=W.heap.size:=by have:=hWB.size;omega
      have HAp:Hid (∀w5,W.grownBy w5 (blk g)->w5.cell? ⟨gt,k*3,none⟩=some (.string Sk)/\Below w.heap.size w w5):=fun w5 hg5=>by
       have h5:=grown_below (bT (unhide HB) hWB) hg5 (fun j hj=>((unhide HO).lt j (by rw[own_slice];exact hj)).1)
       exact⟨unhide HC5 w5 h5,h5⟩
      have HWe:=hide hW
      have hgx: ∀w5,Below w.heap.size w w5->gt<w5.heap.size:=fun w5 h=>Nat.lt_of_lt_of_le hg h.size
      have HGx:=hide hgx
      clear hW hWB hgx
      go_wp2_with (at_builtin;rw[<-unhide HWe];refine wpList_append_gen W rfl (.tmp 38) (.tmp 40) 58 rfl w.heap.size 3 ti _ 1 8 Tryz.underlying58 hti hz0 hz1 hz2 rfl (by decide) g PP.length cap (vN PP) rfl (unhide HWO) (some ⟨wr.heap.size,0,none⟩) 1 1 [.int .i64 (k:Int)] rfl (unhide HWS) (by unfold maxLen;omega) (by omega) hWz ?_;intro ra rc w5 hown2 hgrow hat;obtain⟨hcx,hb5⟩:=unhide HAp w5 hgrow;have hg5:=unhide HGx w5 hb5;have HO2:=hide hown2;have HB5:=hide hb5;clear hown2 hgrow hat hb5)
      go_wp2
      go_roundw
      case rel=>exact⟨k+1,ra,rc,by omega,by omega,by go_num,(by rw[unhide HDp];try rfl),(by rw[unhide HTp];simp),(by rw[unhide HTp,List.length_append,vN_snoc];exact unhide HO2),unhide HB5⟩
      case measure=>simp[intOf];omega
     ·rw[if_neg (fun x=>hse x.2),List.append_nil]at HTp
      rw[decide_eq_false hse]at t2
      rw[decide_eq_false hO]at t0;rw[decide_eq_true hC]at t1
      clear hse hO hC
      obtain rfl:O=1:=by omega
      go_wp2
      go_roundw
      case rel=>exact⟨k+1,g,cap,by omega,by omega,by go_num,(by rw[unhide HDp];try rfl),by rw[unhide HTp],by rw[unhide HTp];exact unhide HO,unhide HB⟩
      case measure=>simp[intOf];omega
    ·rw[if_neg (fun x=>hzr x.1),List.append_nil]at HTp
     rw[decide_eq_false hO]at t0;rw[decide_eq_true hC]at t1
     have hzb:((O-1)==0)=false:=beq_eq_false_iff_ne.2 hzr
     clear t2 hO hC
     go_wp2
     go_roundw
     case rel=>exact⟨k+1,g,cap,by omega,by omega,by go_num,by rw[unhide HDp],by rw[unhide HTp],by rw[unhide HTp];exact unhide HO,unhide HB⟩
     case measure=>simp[intOf];omega
   have HD1:Hid (dn O t=O/\up O t=O):=by
    show _/\_
    skip
    unfold up dn
    exact⟨if_neg hC,by rw[if_neg hO,if_neg hC]⟩
   rw[(unhide HD1).1]at HTp
   rw[(unhide HD1).2]at HDp
   clear HD1
   by_cases hzr:O=0
   ·by_cases hse:t= .sy q
    ·rw[if_pos ⟨hzr,hse⟩]at HTp
     rw[decide_eq_true hse]at t2
     rw[decide_eq_false hO]at t0;rw[decide_eq_false hC]at t1
     clear hse hO hC
     subst hzr
     obtain⟨W,hW⟩: ∃W,W=wr.alloc (.cells #[.int .i64 (k:Int)] 3):=⟨_,rfl⟩
     have hWB:Below wr.heap.size wr W:=by rw[hW];exact bA (Below.refl _ _) _
     have HWO:=hide (own_below (unhide HO) hWB)
     have HWS:Hid (SrcC W 1 (some ⟨wr.heap.size,0,none⟩) 1 1 [.int .i64 (k:Int)]):=by
      show SrcC _ _ _ _ _ _
      rw[hW]
      exact srcNew _ _ [.int .i64 (k:Int)] _ 1 1 rfl (by simp[Value.oneCell']) rfl 1
     have hWz:w.heap.size<=W.heap.size:=by have:=hWB.size;omega
     have HAp:Hid (∀w5,W.grownBy w5 (blk g)->w5.cell? ⟨gt,k*3,none⟩=some (.string Sk)/\Below w.heap.size w w5):=fun w5 hg5=>by
      have h5:=grown_below (bT (unhide HB) hWB) hg5 (fun j hj=>((unhide HO).lt j (by rw[own_slice];exact hj)).1)
      exact⟨unhide HC5 w5 h5,h5⟩
     have HWe:=hide hW
     have hgx: ∀w5,Below w.heap.size w w5->gt<w5.heap.size:=fun w5 h=>Nat.lt_of_lt_of_le hg h.size
     have HGx:=hide hgx
     clear hW hWB hgx
     go_wp2_with (at_builtin;rw[<-unhide HWe];refine wpList_append_gen W rfl (.tmp 38) (.tmp 40) 58 rfl w.heap.size 3 ti _ 1 8 Tryz.underlying58 hti hz0 hz1 hz2 rfl (by decide) g PP.length cap (vN PP) rfl (unhide HWO) (some ⟨wr.heap.size,0,none⟩) 1 1 [.int .i64 (k:Int)] rfl (unhide HWS) (by unfold maxLen;omega) (by omega) hWz ?_;intro ra rc w5 hown2 hgrow hat;obtain⟨hcx,hb5⟩:=unhide HAp w5 hgrow;have hg5:=unhide HGx w5 hb5;have HO2:=hide hown2;have HB5:=hide hb5;clear hown2 hgrow hat hb5)
     go_wp2
     go_roundw
     case rel=>exact⟨k+1,ra,rc,by omega,by omega,by go_num,(by rw[unhide HDp];try rfl),(by rw[unhide HTp];simp),(by rw[unhide HTp,List.length_append,vN_snoc];exact unhide HO2),unhide HB5⟩
     case measure=>simp[intOf];omega
    ·rw[if_neg (fun x=>hse x.2),List.append_nil]at HTp
     rw[decide_eq_false hse]at t2
     rw[decide_eq_false hO]at t0;rw[decide_eq_false hC]at t1
     clear hse hO hC
     subst hzr
     go_wp2
     go_roundw
     case rel=>exact⟨k+1,g,cap,by omega,by omega,by go_num,(by rw[unhide HDp];try rfl),by rw[unhide HTp],by rw[unhide HTp];exact unhide HO,unhide HB⟩
     case measure=>simp[intOf];omega
   ·rw[if_neg (fun x=>hzr x.1),List.append_nil]at HTp
    rw[decide_eq_false hO]at t0;rw[decide_eq_false hC]at t1
    have hzb:(O==0)=false:=beq_eq_false_iff_ne.2 hzr
    clear t2 hO hC
    go_wp2
    go_roundw
    case rel=>exact⟨k+1,g,cap,by omega,by omega,by go_num,by rw[unhide HDp],by rw[unhide HTp],by rw[unhide HTp];exact unhide HO,unhide HB⟩
    case measure=>simp[intOf];omega
  ·obtain rfl:k=b:=by omega
   have jb: ¬(k:Int)<(k:Int):=by omega
   clear HT HS
   go_wp2
   go_ret
   exact⟨g,cap,rfl,unhide HO,unhide HB⟩
end Go.Proofs.YtmggnimiioepeaaGreatDoor.Pa
namespace Go.Proofs.YtmggnimiioepeaaGreatDoor.Pa
open Go Go.RowKit
theorem fst1_tops(sep:Tok): ∀(xs:List Tok) (d:Int) (i:Nat),(topsP sep d i xs).head?=(fst1 sep d xs).map (fun p=>i+p.1.length)
 | [],d,i=>rfl
 | t::r,d,i=>by
  have ih:=fst1_tops sep r (up d t) (i+1)
  unfold topsP fst1
  split
  ·simp
  ·rw[ih]
   cases fst1 sep (up d t) r with
   | none=>rfl
   | some p=>simp;omega
theorem fst1_split(sep:Tok): ∀(xs:List Tok) (d:Int) (x y:List Tok),fst1 sep d xs=some (x,y)->xs.length=x.length+1+y.length
 | [],d,x,y,h=>by simp[fst1]at h
 | t::r,d,x,y,h=>by
  unfold fst1 at h
  split at h
  ·simp only[Option.some.injEq,Prod.mk.injEq]at h
   obtain⟨rfl,rfl⟩:=h
   simp;omega
  ·cases hf:fst1 sep (up d t) r with
   | none=>rw[hf]at h;simp at h
   | some p=>
    obtain⟨x',y'⟩:=p
    rw[hf]at h
    simp only[Option.some.injEq,Prod.mk.injEq]at h
    obtain⟨rfl,rfl⟩:=h
    have:=fst1_split sep r (up d t) x' y' hf
    simp;omega
theorem wraps_iff(r:List Tok)(a:Nat):(∃x,wraps (pO::r)=some x)↔(topsP pC 0 a (pO::r)).head?=some (a+r.length):=by
 have e:topsP pC 0 a (pO::r)=topsP pC 1 (a+1) r:=by
  show(if dn 0 pO=0/\pO=pC then _ else _)=_
  rw[if_neg (by decide)]
  rfl
 rw[e,fst1_tops]
 cases hf:fst1 pC 1 r with
 | none=>simp[wraps,hf]
 | some p=>
  obtain⟨x,y⟩:=p
  have hl:=fst1_split pC r 1 x y hf
  cases y with
  | nil=>
   simp at hl
   simp[wraps,hf]
   omega
  | cons y0 y=>
   simp at hl
   simp[wraps,hf]
   omega
theorem wraps_no(t:Tok)(r:List Tok)(h:t≠pO):wraps (t::r)=none:=if_neg h
theorem wraps_short(t:Tok):wraps [t]=none:=by
 show(if t=pO then(none:Option (List Tok))else none)=none
 split<;>rfl
theorem sgm_cons(L:List (Tok×ByteArray))(a b:Nat)(h:a<b)(p:Tok×ByteArray)(hp:L[a]?=some p): ∃r,sgm (tks L) a b=p.1::r/\(b<=L.length->r.length=b-a-1):=by
 obtain⟨ha,e⟩:=List.getElem?_eq_some_iff.1 hp
 have ha':a<(tks L).length:=by simpa using ha
 refine⟨((tks L).drop (a+1)).take (b-a-1),?_,fun hb=>by simp;omega⟩
 unfold sgm
 rw[List.drop_eq_getElem_cons ha',show b-a=(b-a-1)+1 by omega,List.take_succ_cons]
 simp[e]
set_option maxHeartbeats 2000000 in
theorem l2Is_calls(L:List (Tok×ByteArray))(ad:Option Addr)(c:Nat)(w:World)(hT:TksS w ad L)(i b:Nat)(hb:b<=L.length)(S:ByteArray)(q:Nat)(hq:q<28)(hS:S.toList=syT q):Calls Tryz.prog 30 #[.slice ad L.length c,.int .i64 (i:Int),.int .i64 (b:Int),.string S] w fun e w'=>e= .returned (.bool (decide (i<b/\(tks L)[i]?=some (.sy q))))/\w'=w:=by
 by_cases hi:i<b
 ·obtain⟨⟨t,Sk⟩,hp⟩: ∃p,L[i]?=some p:=⟨L[i],List.getElem?_eq_getElem (by omega)⟩
  obtain⟨hok,gt,rfl,hg,hcs⟩:=hT i _ hp
  obtain⟨bb,V,hform⟩:=tkS_form t Sk
  simp only[hform]at hcs
  have c0:w.cell? ⟨gt,i*3,none⟩=some (.string Sk):=hcs 0 (by omega)
  have t2:(Sk.toList==S.toList)=decide (t= .sy q):=by rw[hS];exact text_beq hok q hq
  have HE:Hid (decide (i<b/\(tks L)[i]?=some (.sy q))=decide (t= .sy q)):=by
   show _=_
   have:(tks L)[i]?=some t:=by simp[hp]
   rw[this]
   simp[hi]
  clear hcs hform hok hp hT hS
  have j1:(i:Int)<(b:Int):=by omega
  have j2:(i:Int)<(L.length:Int):=by omega
  generalize decide (t= .sy q)=p at*
  cases p
  ·go_enter Tryz.func30,Tryz.ntmps30
   go_wp2
   go_ret
   exact⟨congrArg (fun z=>Ending.returned (.bool z)) HE.out.symm,rfl⟩
  ·go_enter Tryz.func30,Tryz.ntmps30
   go_wp2
   go_ret
   exact⟨congrArg (fun z=>Ending.returned (.bool z)) HE.out.symm,rfl⟩
 ·have HE:Hid (decide (i<b/\(tks L)[i]?=some (.sy q))=false):=by
   show _=_
   exact decide_eq_false (fun h=>hi h.1)
  have j1: ¬(i:Int)<(b:Int):=by omega
  clear hT hS
  go_enter Tryz.func30,Tryz.ntmps30
  go_wp2
  go_ret
  first | exact⟨congrArg (fun z=>Ending.returned (.bool z)) HE.out.symm,rfl⟩ | exact⟨rfl,rfl⟩
set_option maxHeartbeats 4000000 in
theorem l2Wraps_calls(L:List (Tok×ByteArray))(ad:Option Addr)(c:Nat)(w:World)(hL:L.length<=1000000)(hT:TksS w ad L)(a b:Nat)(hab:a<=b)(hb:b<=L.length):Calls Tryz.prog 80 #[.slice ad L.length c,.int .i64 (a:Int),.int .i64 (b:Int)] w fun e w'=>e= .returned (.bool (dB (∃x,wraps (sgm (tks L) a b)=some x)))/\Below w.heap.size w w':=by
 by_cases h2:b-a<2
 ·have HE:Hid (dB (∃x,wraps (sgm (tks L) a b)=some x)=false):=by
   show _=_
   have hl:=sgm_len (tks L) a b hab (by simpa using hb)
   generalize sgm (tks L) a b=g at*
   refine dB_false ?_
   rintro⟨x,hx⟩
   match g,hl,hx with
   | [],_,hx=>cases hx
   | [t],_,hx=>rw[wraps_short]at hx;cases hx
   | _::_::_,hl,_=>simp at hl;omega
  have j1:(b:Int)-(a:Int)<2:=by omega
  clear hT
  go_enter Tryz.func80,Tryz.ntmps80
  go_wp2
  go_ret
  exact⟨congrArg (fun z=>Ending.returned (.bool z)) HE.out.symm,Below.refl _ _⟩
 ·obtain⟨⟨t,Sk⟩,hp⟩: ∃p,L[a]?=some p:=⟨L[a],List.getElem?_eq_getElem (by omega)⟩
  have HTC:=hide (fun w (h:TksS w ad L)=>l2Tops_calls L ad c w hL h a b hab hb ⟨#[41]⟩ 1 (by omega) (Go.ByteArray.toList_mk [41]))
  have HT:=hide hT
  obtain⟨r,hr,hrl⟩:=sgm_cons L a b (by omega) _ hp
  have hrl:=hrl hb
  obtain⟨hok,gt,rfl,hg,hcs⟩:=hT a _ hp
  obtain⟨bb,V,hform⟩:=tkS_form t Sk
  simp only[hform]at hcs
  have c0:w.cell? ⟨gt,a*3,none⟩=some (.string Sk):=hcs 0 (by omega)
  have t0:(Sk.toList==[40])=decide (t=pO):=text_beq hok 0 (by omega)
  have j1: ¬(b:Int)-(a:Int)<2:=by omega
  have j2:(a:Int)<(L.length:Int):=by omega
  clear hcs hform hok hp hT
  by_cases hO:t=pO
  ·rw[decide_eq_true hO]at t0
   have HW:Hid ((∃x,wraps (sgm (tks L) a b)=some x)↔(topsP pC 0 a (sgm (tks L) a b)).head?=some (b-1)):=by
    show _↔_
    rw[hr,hO,wraps_iff r a,show a+r.length=b-1 by omega]
   clear hr hrl hO
   generalize topsP pC 0 a (sgm (tks L) a b)=PP at*
   go_enter Tryz.func80,Tryz.ntmps80
   go_wp2_with fail
   refine(unhide HTC _ (unhide HT)).mono ?_
   rintro e w2 ⟨g,cap,rfl,hown,hb2⟩
   have HB2:=hide hb2
   clear hb2 HT HTC
   cases PP with
   | nil=>
    have HE:Hid (dB (∃x,wraps (sgm (tks L) a b)=some x)=false):=dB_false (fun h=>by have:=HW.out.1 h;simp at this)
    clear hown HW
    go_wp2
    go_ret
    exact⟨congrArg (fun z=>Ending.returned (.bool z)) HE.out.symm,unhide HB2⟩
   | cons p0 PP=>
    obtain⟨x,y,e1,e2⟩:=ownsRow_form hown
    have hcell: ∃G,g=some ⟨G,0,none⟩/\G<w2.heap.size/\w2.cell? ⟨G,0,none⟩=some (.int .i64 (p0:Int)):=by
     rcases hown.2 with⟨f1,f2⟩ | ⟨G,cp,cur,f1,f2,f3,f4⟩
     ·simp at f2
     ·simp only[Value.slice.injEq]at f1
      obtain⟨rfl,_,rfl⟩:=f1
      refine⟨G,rfl,(Array.getElem?_eq_some_iff.1 f3).1,?_⟩
      rw[hown.cellAt 0 (by simp)]
      rfl
    obtain⟨G,rfl,hG,cG⟩:=hcell
    have jl:(0:Int)<((p0::PP).length:Int):=by simp
    clear hown e1 e2
    generalize(p0::PP).length=nl at*
    by_cases hq:p0=b-1
    ·have HE:Hid (dB (∃x,wraps (sgm (tks L) a b)=some x)=true):=dB_true (HW.out.2 (by simp[hq]))
     have jq:((p0:Int)==(b:Int)-1)=true:=by rw[beq_iff_eq];omega
     clear HW hq
     go_wp2
     go_ret
     exact⟨congrArg (fun z=>Ending.returned (.bool z)) HE.out.symm,unhide HB2⟩
    ·have HE:Hid (dB (∃x,wraps (sgm (tks L) a b)=some x)=false):=dB_false (fun h=>hq (by simpa using HW.out.1 h))
     have jq:((p0:Int)==(b:Int)-1)=false:=by rw[beq_eq_false_iff_ne];omega
     clear HW hq
     go_wp2
     go_ret
     exact⟨congrArg (fun z=>Ending.returned (.bool z)) HE.out.symm,unhide HB2⟩
  ·rw[decide_eq_false hO]at t0
   have HE:Hid (dB (∃x,wraps (sgm (tks L) a b)=some x)=false):=dB_false (fun⟨x,hx⟩=>by rw[hr,wraps_no t r hO]at hx;cases hx)
   clear hO HT HTC hr hrl
   go_enter Tryz.func80,Tryz.ntmps80
   go_wp2
   go_ret
   exact⟨congrArg (fun z=>Ending.returned (.bool z)) HE.out.symm,Below.refl _ _⟩
end Go.Proofs.YtmggnimiioepeaaGreatDoor.Pa
