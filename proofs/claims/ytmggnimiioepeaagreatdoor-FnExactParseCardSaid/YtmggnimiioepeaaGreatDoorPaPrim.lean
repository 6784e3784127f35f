import Derived.Test.YtmggnimiioepeaaGreatDoorQ0
import Derived.Test.YtmggnimiioepeaaGreatDoorQ14
namespace Go.Proofs.YtmggnimiioepeaaGreatDoor.Pa
open Go Go.RowKit
set_option maxHeartbeats 8000000 in
set_option maxRecDepth 100000 in
theorem prim_not(w0:World)(ad:Option Addr)(c:Nat)(L:List (Tok×ByteArray))(f:Nat)(hL:L.length<=1000000)(hT:TksS w0 ad L)(H:SHyp w0 ad c L f)(W:World)(lab:Lbl)(na:Option Addr)(nc:Nat)(ns:List Nd)(a b:Nat)(hP:Pre w0 L W lab na nc ns .prim (f+1) a b)(r:List Tok)(hr0:sgm (tks L) a b= .sy 20::r):
  Calls Tryz.prog 94 #[.slice ad L.length c,.int .i64 (a:Int),.int .i64 (b:Int),.slice na ns.length nc] W (PE w0.heap.size W lab na ns (sP (f+1) .prim (sgm (tks L) a b)) (b-a)):=by
 obtain⟨tn,htn,hy⟩:=Option.map_eq_some_iff.1 (show(Tryz.prog.info? 62).map (fun i=>(i.zero,i.size,i.bytes))=some (some (.agg #[.int .i64 0,.int .i64 0,.int .i64 0,.string ⟨#[]⟩,.string ⟨#[]⟩,.slice none 0 0]),6,80)by kernel_rfl)
 simp only[Prod.mk.injEq]at hy
 obtain⟨hy0,hy1,hy2⟩:=hy
 have hab:=hP.ab
 have hbl:=hP.bl
 have hln:=hP.ln
 have hfu:=hP.fu
 simp only[rnk]at hfu
 have hbt:b<=(tks L).length:=by simp;omega
 have hTW:=hP.tk hT
 have hzz:w0.heap.size<=W.heap.size:=hP.be.size
 obtain⟨RR,hRR⟩: ∃RR,RR=sP (f+1) .prim (sgm (tks L) a b):=⟨_,rfl⟩
 rw[<-hRR]
 have hlt:a<b:=((is_head hbt).2 ⟨r,hr0⟩).1
 obtain⟨t0,_,e0⟩:=sgm_head (tks L) a b hlt hbt
 have hr1:r=sgm (tks L) (a+1) b:=by rw[e0]at hr0;simp only[List.cons.injEq]at hr0;exact hr0.2.symm
 have hR0:RR=(match sP f .prim (sgm (tks L) (a+1) b)with | some [t]=>some [Rt.mk 13 0 0 [] [] [t]] | _=>none):=by rw[hRR,hr0,hr1];rfl
 have HRR:=hide hR0
 have HI:=hide (l2Is_calls L ad c W hTW a b hbl ⟨#[78,79,84]⟩ 20 (by omega) (Go.ByteArray.toList_mk [78,79,84]))
 rw[is_dec hbt]at HI
 rw[dB_true ⟨r,hr0⟩]at HI
 have hcall:=H.pr W lab na nc ns (a+1) b ⟨by omega,hbl,by simp only[rnk];omega,hP.be,hP.ns,by omega⟩
 have eI:((a+1:Nat):Int)=(a:Int)+1:=by omega
 rw[eI]at hcall
 clear hRR hR0 hr0 hr1 e0 hTW H hP hT eI
 go_enter Tryz.func94,Tryz.ntmps94
 go_wp2_with fail
 refine(unhide HI).mono ?_;rintro e wI ⟨rfl,rfl⟩
 rcases sP_one (f:=f) (nt:= .prim) (xs:=sgm (tks L) (a+1) b) (by simp[single])with hr | ⟨t,hr⟩
 ·rw[hr]at hcall
  have HC:=hide hcall
  have HR:Hid (RR=none):=by
   show RR=none
   rw[unhide HRR,hr]
  clear hcall hr
  go_wp2_with fail
  refine(unhide HC).mono ?_
  intro e w2 hpe
  obtain⟨na2,nc2,lab2,ns2,rfl,hN2,hF2,hl2⟩:=hpe.no
  have HN2:=hide hN2;have HF2:=hide (hF2)
  clear hN2 hF2 HC hpe
  obtain⟨WN,hWN⟩: ∃WN,WN=(w2.alloc (.cells #[.int .i64 ((ns2.length:Int)-1)] 3)).alloc (.cells #[.int .i64 13,.int .i64 0,.int .i64 0,.string ⟨#[]⟩,.string ⟨#[]⟩,.slice (some ⟨w2.heap.size,0,none⟩) 1 1] 62):=⟨_,rfl⟩
  have hBzw7:w0.heap.size<=w2.heap.size:=Nat.le_trans hzz (unhide HF2).size
  obtain⟨nN,nK,nC,nB,nW,nZ⟩:=lit_node (unhide HN2) hBzw7 ⟨13,0,0,⟨#[]⟩,⟨#[]⟩,[(ns2.length:Int)-1]⟩ (by simp) WN hWN
  have HnN:=hide nN;have HnK:=hide nK;have HnC:=hide nC;have HnW:=hide nW
  have HWe:=hide hWN
  have hlmw7:ns2.length<=1000000:=by omega
  clear hWN nN nK nC nW nZ
  go_wp2_with (at_builtin;rw[<-unhide HWe];refine wpList_pushN WN rfl (.tmp 31) (.tmp 37) 22 rfl tn _ Tryz.underlying22 htn hy0 hy1 hy2 rfl w0.heap.size lab2 na2 nc2 ns2 rfl (unhide HnN) ⟨13,0,0,⟨#[]⟩,⟨#[]⟩,[(ns2.length:Int)-1]⟩ (some ⟨w2.heap.size,0,none⟩) 1 (unhide HnK) (w2.heap.size+1) 1 rfl (unhide HnC) hlmw7 nB ?_;intro ra rc w7 hn7 hb7 hat7;have HN7:=hide hn7;have HB7:=hide hb7;have HA7:=hide hat7;clear hn7 hb7 hat7)
  go_wp2
  go_returns
  have hFp:=((unhide HF2).thenB (unhide HnW)).push (ka:=some ⟨w2.heap.size,0,none⟩) (fun b hb=>by simp[blk]at hb;subst hb;exact(unhide HF2).size) (unhide HB7) (unhide HA7) ns2.length
  refine⟨ra,rc,_,_,?_,unhide HN7,hFp,by simp;omega,fun t ht=> ?_⟩
  ·rw[unhide HR];simp
  ·rw[unhide HR]at ht;cases ht
 ·rw[hr]at hcall
  have HC:=hide hcall
  have HR:Hid (RR=some [.mk 13 0 0 [] [] [t]]):=by
   show RR=_
   rw[unhide HRR,hr]
  clear hcall hr
  go_wp2_with fail
  refine(unhide HC).mono ?_
  intro e w2 hpe
  obtain⟨na2,nc2,lab2,ns2,rfl,hN2,hF2,hl2,he2⟩:=hpe.yes
  have HN2:=hide hN2;have HF2:=hide (hF2);have HE2:=hide he2
  clear hN2 hF2 he2 HC hpe
  obtain⟨WN,hWN⟩: ∃WN,WN=(w2.alloc (.cells #[.int .i64 ((ns2.length:Int)-1)] 3)).alloc (.cells #[.int .i64 13,.int .i64 0,.int .i64 0,.string ⟨#[]⟩,.string ⟨#[]⟩,.slice (some ⟨w2.heap.size,0,none⟩) 1 1] 62):=⟨_,rfl⟩
  have hBzw7:w0.heap.size<=w2.heap.size:=Nat.le_trans hzz (unhide HF2).size
  obtain⟨nN,nK,nC,nB,nW,nZ⟩:=lit_node (unhide HN2) hBzw7 ⟨13,0,0,⟨#[]⟩,⟨#[]⟩,[(ns2.length:Int)-1]⟩ (by simp) WN hWN
  have HnN:=hide nN;have HnK:=hide nK;have HnC:=hide nC;have HnW:=hide nW
  have HWe:=hide hWN
  have hlmw7:ns2.length<=1000000:=by omega
  clear hWN nN nK nC nW nZ
  go_wp2_with (at_builtin;rw[<-unhide HWe];refine wpList_pushN WN rfl (.tmp 31) (.tmp 37) 22 rfl tn _ Tryz.underlying22 htn hy0 hy1 hy2 rfl w0.heap.size lab2 na2 nc2 ns2 rfl (unhide HnN) ⟨13,0,0,⟨#[]⟩,⟨#[]⟩,[(ns2.length:Int)-1]⟩ (some ⟨w2.heap.size,0,none⟩) 1 (unhide HnK) (w2.heap.size+1) 1 rfl (unhide HnC) hlmw7 nB ?_;intro ra rc w7 hn7 hb7 hat7;have HN7:=hide hn7;have HB7:=hide hb7;have HA7:=hide hat7;clear hn7 hb7 hat7)
  go_wp2
  go_returns
  have hFp:=((unhide HF2).thenB (unhide HnW)).push (ka:=some ⟨w2.heap.size,0,none⟩) (fun b hb=>by simp[blk]at hb;subst hb;exact(unhide HF2).size) (unhide HB7) (unhide HA7) ns2.length
  refine⟨ra,rc,_,_,?_,unhide HN7,hFp,by simp;omega,fun t' ht=> ?_⟩
  ·rw[unhide HR];simp
  ·rw[unhide HR]at ht
   simp only[Option.some.injEq,List.cons.injEq,and_true]at ht
   rw[<-ht,lay_mk,lays_cons,lays_nil,unhide HE2]
   simp
set_option maxHeartbeats 8000000 in
set_option maxRecDepth 100000 in
theorem prim_exists(w0:World)(ad:Option Addr)(c:Nat)(L:List (Tok×ByteArray))(f:Nat)(hL:L.length<=1000000)(hT:TksS w0 ad L)(H:SHyp w0 ad c L f)(W:World)(lab:Lbl)(na:Option Addr)(nc:Nat)(ns:List Nd)(a b:Nat)(hP:Pre w0 L W lab na nc ns .prim (f+1) a b)(r:List Tok)(hr0:sgm (tks L) a b= .sy 21::r):
  Calls Tryz.prog 94 #[.slice ad L.length c,.int .i64 (a:Int),.int .i64 (b:Int),.slice na ns.length nc] W (PE w0.heap.size W lab na ns (sP (f+1) .prim (sgm (tks L) a b)) (b-a)):=by
 obtain⟨tn,htn,hy⟩:=Option.map_eq_some_iff.1 (show(Tryz.prog.info? 62).map (fun i=>(i.zero,i.size,i.bytes))=some (some (.agg #[.int .i64 0,.int .i64 0,.int .i64 0,.string ⟨#[]⟩,.string ⟨#[]⟩,.slice none 0 0]),6,80)by kernel_rfl)
 simp only[Prod.mk.injEq]at hy
 obtain⟨hy0,hy1,hy2⟩:=hy
 have hab:=hP.ab
 have hbl:=hP.bl
 have hln:=hP.ln
 have hfu:=hP.fu
 simp only[rnk]at hfu
 have hbt:b<=(tks L).length:=by simp;omega
 have hTW:=hP.tk hT
 have hzz:w0.heap.size<=W.heap.size:=hP.be.size
 obtain⟨RR,hRR⟩: ∃RR,RR=sP (f+1) .prim (sgm (tks L) a b):=⟨_,rfl⟩
 rw[<-hRR]
 have hlt:a<b:=((is_head hbt).2 ⟨r,hr0⟩).1
 obtain⟨t0,_,e0⟩:=sgm_head (tks L) a b hlt hbt
 have hr1:r=sgm (tks L) (a+1) b:=by rw[e0]at hr0;simp only[List.cons.injEq]at hr0;exact hr0.2.symm
 have hR0:RR=(match wraps (sgm (tks L) (a+1) b)with | none=>none | some i=>(match sP f .query i with | some [q]=>some [Rt.mk 10 0 0 [] [] [q]] | _=>none)):=by rw[hRR,hr0,hr1];rfl
 have HRR:=hide hR0
 have HI:=hide (l2Is_calls L ad c W hTW a b hbl ⟨#[78,79,84]⟩ 20 (by omega) (Go.ByteArray.toList_mk [78,79,84]))
 rw[is_dec hbt]at HI
 have HI0:=hide (l2Is_calls L ad c W hTW a b hbl ⟨#[40]⟩ 0 (by omega) (Go.ByteArray.toList_mk [40]))
 rw[is_dec hbt]at HI0
 have HI1:=hide (l2Is_calls L ad c W hTW a b hbl ⟨#[69,88,73,83,84,83]⟩ 21 (by omega) (Go.ByteArray.toList_mk [69,88,73,83,84,83]))
 rw[is_dec hbt]at HI1
 rw[dB_false (fun⟨r',e⟩=>by rw[hr0]at e;simp at e)]at HI
 rw[dB_false (fun⟨r',e⟩=>by rw[hr0]at e;simp at e)]at HI0
 rw[dB_true ⟨r,hr0⟩]at HI1
 have HWr:=hide (l2Wraps_calls L ad c W hL hTW (a+1) b (by omega) hbl)
 rw[show((a+1:Nat):Int)=(a:Int)+1 by omega]at HWr
 have HH:=hide H;have HP:=hide hP
 clear hRR hR0 hr0 hr1 e0 hTW H hP hT
 go_enter Tryz.func94,Tryz.ntmps94
 go_wp2_with fail
 refine(unhide HI).mono ?_;rintro e wI ⟨rfl,rfl⟩
 go_wp2_with fail
 refine(unhide HI0).mono ?_;rintro e wI ⟨rfl,rfl⟩
 go_wp2_with fail
 refine(unhide HI1).mono ?_;rintro e wI ⟨rfl,rfl⟩
 by_cases hw: ∃x,wraps (sgm (tks L) (a+1) b)=some x
 ·rw[dB_true hw]at HWr
  obtain⟨i,hw⟩:=hw
  obtain⟨hab2,rfl⟩:=sgm_wraps (by omega) hbt hw
  rw[hw]at HRR
  clear hw
  go_wp2_with fail
  refine(unhide HWr).mono ?_;rintro e w1 ⟨rfl,hb1⟩
  have hcall:=(unhide HH).qu w1 lab na nc ns (a+2) (b-1) ⟨by omega,by omega,by simp only[rnk];omega,(unhide HP).be.trans (hb1.mono hzz),(unhide HP).ns.of hb1,by omega⟩
  rw[show((a+2:Nat):Int)=(a:Int)+2 by omega,show((b-1:Nat):Int)=(b:Int)-1 by omega]at hcall
  have HB1:=hide hb1
  clear hb1 HWr HH HP
  rcases sP_one (f:=f) (nt:= .query) (xs:=sgm (tks L) (a+1+1) (b-1)) (by simp[single])with hr | ⟨t,hr⟩
  ·rw[hr]at hcall
   have HC:=hide hcall
   have HR:Hid (RR=none):=by
    show RR=none
    rw[unhide HRR,hr]
   clear hcall hr
   go_wp2_with fail
   refine(unhide HC).mono ?_
   intro e w2 hpe
   obtain⟨na2,nc2,lab2,ns2,rfl,hN2,hF2,hl2⟩:=hpe.no
   have HN2:=hide hN2;have HF2:=hide ((Fr.ofBelow (unhide HB1)).trans hF2)
   clear hN2 hF2 HC hpe
   obtain⟨WN,hWN⟩: ∃WN,WN=(w2.alloc (.cells #[.int .i64 ((ns2.length:Int)-1)] 3)).alloc (.cells #[.int .i64 10,.int .i64 0,.int .i64 0,.string ⟨#[]⟩,.string ⟨#[]⟩,.slice (some ⟨w2.heap.size,0,none⟩) 1 1] 62):=⟨_,rfl⟩
   have hBzw7:w0.heap.size<=w2.heap.size:=Nat.le_trans hzz (unhide HF2).size
   obtain⟨nN,nK,nC,nB,nW,nZ⟩:=lit_node (unhide HN2) hBzw7 ⟨10,0,0,⟨#[]⟩,⟨#[]⟩,[(ns2.length:Int)-1]⟩ (by simp) WN hWN
   have HnN:=hide nN;have HnK:=hide nK;have HnC:=hide nC;have HnW:=hide nW
   have HWe:=hide hWN
   have hlmw7:ns2.length<=1000000:=by omega
   clear hWN nN nK nC nW nZ
   go_wp2_with (at_builtin;rw[<-unhide HWe];refine wpList_pushN WN rfl (.tmp 88) (.tmp 94) 22 rfl tn _ Tryz.underlying22 htn hy0 hy1 hy2 rfl w0.heap.size lab2 na2 nc2 ns2 rfl (unhide HnN) ⟨10,0,0,⟨#[]⟩,⟨#[]⟩,[(ns2.length:Int)-1]⟩ (some ⟨w2.heap.size,0,none⟩) 1 (unhide HnK) (w2.heap.size+1) 1 rfl (unhide HnC) hlmw7 nB ?_;intro ra rc w7 hn7 hb7 hat7;have HN7:=hide hn7;have HB7:=hide hb7;have HA7:=hide hat7;clear hn7 hb7 hat7)
   go_wp2
   go_returns
   have hFp:=((unhide HF2).thenB (unhide HnW)).push (ka:=some ⟨w2.heap.size,0,none⟩) (fun b hb=>by simp[blk]at hb;subst hb;exact(unhide HF2).size) (unhide HB7) (unhide HA7) ns2.length
   refine⟨ra,rc,_,_,?_,unhide HN7,hFp,by simp;omega,fun t ht=> ?_⟩
   ·rw[unhide HR];simp
   ·rw[unhide HR]at ht;cases ht
  ·rw[hr]at hcall
   have HC:=hide hcall
   have HR:Hid (RR=some [.mk 10 0 0 [] [] [t]]):=by
    show RR=_
    rw[unhide HRR,hr]
   clear hcall hr
   go_wp2_with fail
   refine(unhide HC).mono ?_
   intro e w2 hpe
   obtain⟨na2,nc2,lab2,ns2,rfl,hN2,hF2,hl2,he2⟩:=hpe.yes
   have HN2:=hide hN2;have HF2:=hide ((Fr.ofBelow (unhide HB1)).trans hF2);have HE2:=hide he2
   clear hN2 hF2 he2 HC hpe
   obtain⟨WN,hWN⟩: ∃WN,WN=(w2.alloc (.cells #[.int .i64 ((ns2.length:Int)-1)] 3)).alloc (.cells #[.int .i64 10,.int .i64 0,.int .i64 0,.string ⟨#[]⟩,.string ⟨#[]⟩,.slice (some ⟨w2.heap.size,0,none⟩) 1 1] 62):=⟨_,rfl⟩
   have hBzw7:w0.heap.size<=w2.heap.size:=Nat.le_trans hzz (unhide HF2).size
   obtain⟨nN,nK,nC,nB,nW,nZ⟩:=lit_node (unhide HN2) hBzw7 ⟨10,0,0,⟨#[]⟩,⟨#[]⟩,[(ns2.length:Int)-1]⟩ (by simp) WN hWN
   have HnN:=hide nN;have HnK:=hide nK;have HnC:=hide nC;have HnW:=hide nW
   have HWe:=hide hWN
   have hlmw7:ns2.length<=1000000:=by omega
   clear hWN nN nK nC nW nZ
   go_wp2_with (at_builtin;rw[<-unhide HWe];refine wpList_pushN WN rfl (.tmp 88) (.tmp 94) 22 rfl tn _ Tryz.underlying22 htn hy0 hy1 hy2 rfl w0.heap.size lab2 na2 nc2 ns2 rfl (unhide HnN) ⟨10,0,0,⟨#[]⟩,⟨#[]⟩,[(ns2.length:Int)-1]⟩ (some ⟨w2.heap.size,0,none⟩) 1 (unhide HnK) (w2.heap.size+1) 1 rfl (unhide HnC) hlmw7 nB ?_;intro ra rc w7 hn7 hb7 hat7;have HN7:=hide hn7;have HB7:=hide hb7;have HA7:=hide hat7;clear hn7 hb7 hat7)
   go_wp2
   go_returns
   have hFp:=((unhide HF2).thenB (unhide HnW)).push (ka:=some ⟨w2.heap.size,0,none⟩) (fun b hb=>by simp[blk]at hb;subst hb;exact(unhide HF2).size) (unhide HB7) (unhide HA7) ns2.length
   refine⟨ra,rc,_,_,?_,unhide HN7,hFp,by simp;omega,fun t' ht=> ?_⟩
   ·rw[unhide HR];simp
   ·rw[unhide HR]at ht
    simp only[Option.some.injEq,List.cons.injEq,and_true]at ht
    rw[<-ht,lay_mk,lays_cons,lays_nil,unhide HE2]
    simp
 ·rw[dB_false hw]at HWr
  have HR:Hid (RR=none):=by
   show RR=none
   rw[unhide HRR]
   cases hq:wraps (sgm (tks L) (a+1) b)with
   | none=>rfl
   | some i=>exact absurd ⟨i,hq⟩ hw
  clear hw
  go_wp2_with fail
  refine(unhide HWr).mono ?_;rintro e w1 ⟨rfl,hb1⟩
  have HB1:=hide hb1
  clear hb1 HWr HH
  go_wp2
  go_returns
  refine⟨na,nc,lab,ns,?_,(unhide HP).ns.of (unhide HB1),Fr.ofBelow (unhide HB1),by omega,fun t ht=> ?_⟩
  ·rw[unhide HR];rfl
  ·rw[unhide HR]at ht;cases ht
set_option maxHeartbeats 8000000 in
set_option maxRecDepth 100000 in
theorem prim_brk(w0:World)(ad:Option Addr)(c:Nat)(L:List (Tok×ByteArray))(f:Nat)(hL:L.length<=1000000)(hT:TksS w0 ad L)(H:SHyp w0 ad c L f)(W:World)(lab:Lbl)(na:Option Addr)(nc:Nat)(ns:List Nd)(a b:Nat)(hP:Pre w0 L W lab na nc ns .prim (f+1) a b)(r:List Tok)(hr0:sgm (tks L) a b= .sy 0::r)(hn: ∀r',r≠ .sy 11::r'):
  Calls Tryz.prog 94 #[.slice ad L.length c,.int .i64 (a:Int),.int .i64 (b:Int),.slice na ns.length nc] W (PE w0.heap.size W lab na ns (sP (f+1) .prim (sgm (tks L) a b)) (b-a)):=by
 have hab:=hP.ab
 have hbl:=hP.bl
 have hln:=hP.ln
 have hfu:=hP.fu
 simp only[rnk]at hfu
 have hbt:b<=(tks L).length:=by simp;omega
 have hTW:=hP.tk hT
 have hzz:w0.heap.size<=W.heap.size:=hP.be.size
 obtain⟨RR,hRR⟩: ∃RR,RR=sP (f+1) .prim (sgm (tks L) a b):=⟨_,rfl⟩
 rw[<-hRR]
 have hlt:a<b:=((is_head hbt).2 ⟨r,hr0⟩).1
 obtain⟨t0,_,e0⟩:=sgm_head (tks L) a b hlt hbt
 have hr1:r=sgm (tks L) (a+1) b:=by rw[e0]at hr0;simp only[List.cons.injEq]at hr0;exact hr0.2.symm
 have hR0:RR=(match wraps (sgm (tks L) a b)with | none=>none | some i=>sP f .cond i):=by rw[hRR,hr0];exact prim_brS hn
 have HRR:=hide hR0
 have HI:=hide (l2Is_calls L ad c W hTW a b hbl ⟨#[78,79,84]⟩ 20 (by omega) (Go.ByteArray.toList_mk [78,79,84]))
 rw[is_dec hbt]at HI
 have HI0:=hide (l2Is_calls L ad c W hTW a b hbl ⟨#[40]⟩ 0 (by omega) (Go.ByteArray.toList_mk [40]))
 rw[is_dec hbt]at HI0
 have HI1:=hide (l2Is_calls L ad c W hTW (a+1) b hbl ⟨#[83,69,76,69,67,84]⟩ 11 (by omega) (Go.ByteArray.toList_mk [83,69,76,69,67,84]))
 rw[is_dec hbt]at HI1
 rw[dB_false (fun⟨r',e⟩=>by rw[hr0]at e;simp at e)]at HI
 rw[dB_true ⟨r,hr0⟩]at HI0
 rw[dB_false (fun⟨r',e⟩=>hn r' (by rw[hr1];exact e)),show((a+1:Nat):Int)=(a:Int)+1 by omega]at HI1
 have HWr:=hide (l2Wraps_calls L ad c W hL hTW a b (by omega) hbl)
 have HH:=hide H;have HP:=hide hP
 clear hRR hR0 hr0 hr1 e0 hTW H hP hT hn
 go_enter Tryz.func94,Tryz.ntmps94
 go_wp2_with fail
 refine(unhide HI).mono ?_;rintro e wI ⟨rfl,rfl⟩
 go_wp2_with fail
 refine(unhide HI0).mono ?_;rintro e wI ⟨rfl,rfl⟩
 go_wp2_with fail
 refine(unhide HI1).mono ?_;rintro e wI ⟨rfl,rfl⟩
 by_cases hw: ∃x,wraps (sgm (tks L) a b)=some x
 ·rw[dB_true hw]at HWr
  obtain⟨i,hw⟩:=hw
  obtain⟨hab2,rfl⟩:=sgm_wraps (by omega) hbt hw
  rw[hw]at HRR
  clear hw
  go_wp2_with fail
  refine(unhide HWr).mono ?_;rintro e w1 ⟨rfl,hb1⟩
  have hcall:=(unhide HH).bo 0 .cond w1 lab na nc ns (a+1) (b-1) (by simp) ⟨by omega,by omega,by simp only[rnk];omega,(unhide HP).be.trans (hb1.mono hzz),(unhide HP).ns.of hb1,by omega⟩
  rw[show((a+1:Nat):Int)=(a:Int)+1 by omega,show((b-1:Nat):Int)=(b:Int)-1 by omega]at hcall
  have HC:=hide hcall
  have HB1:=hide hb1
  clear hb1 HWr HH HP hcall
  go_wp2_with fail
  refine(unhide HC).mono ?_
  rintro e w2 ⟨na2,nc2,lab2,ns2,rfl,hN2,hF2,hl2,hr2⟩
  have HE:Hid (NS w0.heap.size w2 lab2 na2 nc2 ns2/\Fr wI w2 lab lab2 na na2/\ns2.length<=ns.length+(b-a)/\ ∀t,RR=some [t]->ns2=ns++lay t ns.length):=⟨hN2,(Fr.ofBelow (unhide HB1)).trans hF2,by omega,by rw[unhide HRR];exact hr2⟩
  have HR:Hid (RR=sP f .cond (sgm (tks L) (a+1) (b-1))):=unhide HRR
  clear hN2 hF2 hl2 hr2 HC HB1 HRR
  generalize sP f .cond (sgm (tks L) (a+1) (b-1))=QQ at*
  go_wp2
  go_returns
  refine⟨na2,nc2,lab2,ns2,?_,unhide HE⟩
  rw[unhide HR]
  rfl
 ·rw[dB_false hw]at HWr
  have HR:Hid (RR=none):=by
   show RR=none
   rw[unhide HRR]
   cases hq:wraps (sgm (tks L) a b)with
   | none=>rfl
   | some i=>exact absurd ⟨i,hq⟩ hw
  clear hw
  go_wp2_with fail
  refine(unhide HWr).mono ?_;rintro e w1 ⟨rfl,hb1⟩
  have HB1:=hide hb1
  clear hb1 HWr HH
  go_wp2
  go_returns
  refine⟨na,nc,lab,ns,?_,(unhide HP).ns.of (unhide HB1),Fr.ofBelow (unhide HB1),by omega,fun t ht=> ?_⟩
  ·rw[unhide HR];rfl
  ·rw[unhide HR]at ht;cases ht
end Go.Proofs.YtmggnimiioepeaaGreatDoor.Pa
