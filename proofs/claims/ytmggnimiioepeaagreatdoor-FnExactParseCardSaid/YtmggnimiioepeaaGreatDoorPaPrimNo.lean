import Derived.Test.YtmggnimiioepeaaGreatDoorQ0
import Derived.Test.YtmggnimiioepeaaGreatDoorPaPrim
namespace Go.Proofs.YtmggnimiioepeaaGreatDoor.Pa
open Go Go.RowKit
theorem bytes_mk'(s:ByteArray):s=⟨s.toList.toArray⟩:=by
 obtain⟨⟨l⟩⟩:=s
 have:=Go.ByteArray.toList_mk l
 rw[this]
set_option maxHeartbeats 8000000 in
set_option maxRecDepth 100000 in
theorem prim_nin(w0:World)(ad:Option Addr)(c:Nat)(L:List (Tok×ByteArray))(f:Nat)(hL:L.length<=1000000)(hT:TksS w0 ad L)(H:SHyp w0 ad c L f)(W:World)(lab:Lbl)(na:Option Addr)(nc:Nat)(ns:List Nd)(a b:Nat)(hP:Pre w0 L W lab na nc ns .prim (f+1) a b)(h1: ∀r,sgm (tks L) a b≠ .sy 20::r)(h2: ∀r,sgm (tks L) a b≠ .sy 21::r)(h3: ∀r,sgm (tks L) a b≠ .sy 0::r)(x y:List Tok)(hop:opS 0 (sgm (tks L) a b)=some (x,.sy 20,y)):
  Calls Tryz.prog 94 #[.slice ad L.length c,.int .i64 (a:Int),.int .i64 (b:Int),.slice na ns.length nc] W (PE w0.heap.size W lab na ns (sP (f+1) .prim (sgm (tks L) a b)) (b-a)):=by
 obtain⟨tn,htn,hy⟩:=Option.map_eq_some_iff.1 (show(Tryz.prog.info? 62).map (fun i=>(i.zero,i.size,i.bytes))=some (some (.agg #[.int .i64 0,.int .i64 0,.int .i64 0,.string ⟨#[]⟩,.string ⟨#[]⟩,.slice none 0 0]),6,80)by kernel_rfl)
 simp only[Prod.mk.injEq]at hy
 obtain⟨hy0,hy1,hy2⟩:=hy
 have hab:=hP.ab
 have hbl:=hP.bl
 have hln:=hP.ln
 have hfu:=hP.fu
 simp only[rnk]at hfu
 have hbt:b<=(tks L).length:=by simp;omega
 have hTW:=hP.tk hT
 have hzz:w0.heap.size<=W.heap.size:=hP.be.size
 obtain⟨RR,hRR⟩: ∃RR,RR=sP (f+1) .prim (sgm (tks L) a b):=⟨_,rfl⟩
 rw[<-hRR]
 have HI:=hide (l2Is_calls L ad c W hTW a b hbl ⟨#[78,79,84]⟩ 20 (by omega) (Go.ByteArray.toList_mk [78,79,84]))
 rw[is_dec hbt]at HI
 have HI0:=hide (l2Is_calls L ad c W hTW a b hbl ⟨#[40]⟩ 0 (by omega) (Go.ByteArray.toList_mk [40]))
 rw[is_dec hbt]at HI0
 have HI1:=hide (l2Is_calls L ad c W hTW a b hbl ⟨#[69,88,73,83,84,83]⟩ 21 (by omega) (Go.ByteArray.toList_mk [69,88,73,83,84,83]))
 rw[is_dec hbt]at HI1
 rw[dB_false (fun⟨r',e⟩=>h1 r' e)]at HI
 rw[dB_false (fun⟨r',e⟩=>h2 r' e)]at HI1
 rw[dB_false (fun⟨r',e⟩=>h3 r' e)]at HI0
 rw[prim_opS h1 h2 (fun r e=>absurd e (h3 r))]at hRR
 have HOp:=hide (l2Operator_calls L ad c W hL hTW a b hab hbl)
 obtain⟨p,hop1,hap,hpb,hx,hcp,hy,_⟩:=opS_at hab hbt hop
 rw[hop1]at HOp
 rw[hop]at hRR
 simp only[]at hRR
 rw[hx]at hRR
 have hcall:=H.sc W lab na nc ns a p ⟨hap,by omega,by simp only[rnk];omega,hP.be,hP.ns,by omega⟩
 have HRR:=hide hRR;have HH:=hide H;have HNi:=hide hP.ns;have HBe:=hide hP.be;have HT0:=hide hT;have HYy:=hide hy;have HCp:=hide hcp
 clear hRR h1 h2 h3 hTW H hP hT hop hop1 hx hy hcp
 go_enter Tryz.func94,Tryz.ntmps94
 go_wp2_with fail
 refine(unhide HI).mono ?_;rintro e wI ⟨rfl,rfl⟩
 go_wp2_with fail
 refine(unhide HI0).mono ?_;rintro e wI ⟨rfl,rfl⟩
 go_wp2_with fail
 refine(unhide HI1).mono ?_;rintro e wI ⟨rfl,rfl⟩
 go_wp2_with fail
 refine(unhide HOp).mono ?_;rintro e wI ⟨rfl,rfl⟩
 rcases sP_one (f:=f) (nt:= .scal) (xs:=sgm (tks L) a p) (by simp[single])with hr | ⟨t,hr⟩
 ·rw[hr]at hcall
  have HC:=hide hcall
  have HR:Hid (RR=none):=by
   show RR=none
   rw[unhide HRR,hr]
  clear hcall hr
  go_wp2_with fail
  refine(unhide HC).mono ?_
  intro e w2 hpe
  obtain⟨na2,nc2,lab2,ns2,rfl,hN2,hF2,hl2⟩:=hpe.no
  have HN2:=hide hN2;have HF2:=hide hF2
  clear hN2 hF2 HC hpe
  go_wp2
  go_returns
  refine⟨na2,nc2,lab2,ns2,?_,unhide HN2,unhide HF2,by omega,fun t ht=> ?_⟩
  ·rw[unhide HR];rfl
  ·rw[unhide HR]at ht;cases ht
 rw[hr]at hcall HRR
 simp only[]at HRR
 have HC:=hide hcall
 clear hcall hr
 go_wp2_with fail
 refine(unhide HC).mono ?_
 intro e w2 hpe
 obtain⟨na2,nc2,lab2,ns2,rfl,hN2,hF2,hl2,he2⟩:=hpe.yes
 have hbe2:Below w0.heap.size w0 w2:=(unhide HBe).trans (hF2.below hzz (unhide HNi))
 have HTk2:=hide ((unhide HT0).of hbe2)
 obtain⟨Sk,g,bb,V,hok,rfl,hgl,hfm,c0,-,-⟩:=(unhide HTk2).cells (unhide HCp)
 have HN2:=hide hN2;have HF2:=hide hF2;have HE2:=hide he2
 have hn21:1<=ns2.length:=by rw[he2];have:=lay_pos t ns.length;simp;omega
 have j2:(p:Int)<(L.length:Int):=by omega
 have hzw2:w0.heap.size<=w2.heap.size:=hbe2.size
 clear hN2 hF2 he2 HC hpe hfm hbe2
 have tIS:(Sk.toList==[73,83])=false:=by
  rw[show([73,83]:List UInt8)=syT 23 from rfl,text_beq hok 23 (by omega)]
  exact decide_eq_false (by simp)
 have tNO:(Sk.toList==[78,79,84])=true:=by
  rw[show([78,79,84]:List UInt8)=syT 20 from rfl,text_beq hok 20 (by omega)]
  exact decide_eq_true (rfl)
 have HCo:=hide (fun w=>l2CompOf_calls Sk w)
 rw[cmpL_tok hok]at HCo
 have HRn:Hid (RR=(match sgm (tks L) (p+1) b with | .sy 22::z=>quS 11 0 1 (sP f .query) t z | _=>none)):=by
  show RR=_
  rw[unhide HRR,unhide HYy]
  rfl
 clear HRR
 obtain⟨w3,hw3⟩: ∃w3,w3=w2.alloc (.cells #[.int .i64 11,.int .i64 0,.int .i64 0,.string ⟨#[]⟩,.string ⟨#[]⟩,.slice none 0 0] 62):=⟨_,rfl⟩
 have hX3:CellsAt w3 w2.heap.size [.int .i64 11,.int .i64 0,.int .i64 0,.string ⟨#[]⟩,.string ⟨#[]⟩,.slice none 0 0]:=by
  rw[hw3]
  exact CellsAt.new w2 [.int .i64 11,.int .i64 0,.int .i64 0,.string ⟨#[]⟩,.string ⟨#[]⟩,.slice none 0 0] 62
 have hb3:Below w2.heap.size w2 w3:=by rw[hw3];exact bA (Below.refl _ _) _
 have HX3:=hide hX3;have HN3:=hide ((unhide HN2).of hb3);have HF3:=hide ((unhide HF2).thenB hb3)
 have HTk:=hide ((unhide HTk2).of hb3)
 have HW3:=hide hw3
 have hxw:wI.heap.size<=w2.heap.size:=(unhide HF2).size
 have hxX:g<w2.heap.size:=hgl
 have HXn:Hid (blk na2≠some w2.heap.size):=fun e=>by have:=((unhide HN2).lt _ e).2;omega
 have HXl:Hid (lab2 w2.heap.size=none):=by
  show _=_
  cases hl:lab2 w2.heap.size with
  | none=>rfl
  | some i=>have:=(unhide HN2).rng _ _ hl;omega
 have hX3l:=hX3.lt
 clear hX3 hb3 hw3
 have HIn:=hide (l2Is_calls L (some ⟨g,0,none⟩) c w3 (unhide HTk) (p+1) b hbl ⟨#[73,78]⟩ 22 (by omega) (Go.ByteArray.toList_mk [73,78]))
 rw[is_dec hbt,show((p+1:Nat):Int)=(p:Int)+1 by omega]at HIn
 by_cases hin: ∃r,sgm (tks L) (p+1) b= .sy 22::r
 ·rw[dB_true hin]at HIn
  obtain⟨ri,hin⟩:=hin
  have hlt9:=((is_head hbt).2 ⟨ri,hin⟩).1
  obtain⟨t9,_,e9⟩:=sgm_head (tks L) (p+1) b hlt9 hbt
  have hri:ri=sgm (tks L) (p+1+1) b:=by rw[e9]at hin;simp only[List.cons.injEq]at hin;exact hin.2.symm
  have HRR:Hid (RR=quS 11 0 1 (sP f .query) t (sgm (tks L) (p+2) b)):=by
   show RR=_
   rw[unhide HRn,hin,hri]
   rfl
  clear hin e9 hri HRn
  go_wp2_with fail
  rw[<-unhide HW3]
  refine(unhide HIn).mono ?_;rintro e w3' ⟨rfl,rfl⟩
  clear HIn HW3
  obtain⟨x0,x1,x2,x3,x4,x5⟩:=(unhide HX3).c6
  have hfX:=(unhide HX3).frz
  have hlX:=(unhide HX3).lt
  have c0':w3'.cell? ⟨g,p*3,none⟩=some (.string Sk):=by
   obtain⟨S',g',b',V',q1,q2,_,_,q5,_,_⟩:=(unhide HTk).cells (unhide HCp)
   simp only[Option.some.injEq,Addr.mk.injEq,and_true]at q2
   subst q2
   rw[q5]
   have:S'.toList=Sk.toList:=by rw[(tok_text q1 20 (by omega)).2 rfl,(tok_text hok 20 (by omega)).2 rfl]
   rw[bytes_mk' S',bytes_mk' Sk,this]
  have hgl3:g<w3'.heap.size:=by omega
  generalize w2.heap.size=X at*
  obtain⟨w9,hw9⟩: ∃w9,w9=w3'.setCell ⟨X,2,none⟩ (.int .i64 1):=⟨_,rfl⟩
  have hX9:CellsAt w9 X [.int .i64 11,.int .i64 0,.int .i64 1,.string ⟨#[]⟩,.string ⟨#[]⟩,.slice none 0 0]:=by
   rw[hw9]
   exact(unhide HX3).set 2 (.int .i64 1) (by simp)
  have hb9:ButB (fun b=>b=X) w3' w9:=by
   rw[hw9]
   exact ButB.set (S:=fun b=>b=X) (ButB.refl _ _) (Or.inl rfl) _
  have hN9:=(unhide HN3).but hb9 (fun b e e'=>unhide HXn (by rw[<-e'];exact e)) (fun b i e e'=>by rw[e',unhide HXl]at e;cases e)
  have hF9:=(unhide HF3).local hb9 (fun b e=>by rw[e];exact hxw)
  have hT9:TksS w9 (some ⟨g,0,none⟩) L:=(unhide HT0).of ((unhide HBe).trans (hF9.below hzz (unhide HNi)))
  have d0:w9.cell? ⟨g,p*3,none⟩=some (.string Sk):=by rw[hw9,setCell_farN (by have:=hxX;omega)];exact c0'
  have hgl9:g<w9.heap.size:=Nat.lt_of_lt_of_le hgl3 hb9.size
  have HX9:=hide hX9;have HN9:=hide hN9;have HF9:=hide hF9;have HT9:=hide hT9
  have HW9:=hide hw9
  clear hw9 hX9 hb9 hN9 hF9 hT9 HX3 HN3 HF3 HTk
  have HX3:=HX9;have HN3:=HN9;have HF3:=HF9;have HTk:=HT9
  clear HX9 HN9 HF9 HT9
  go_upto_region 33 with fail
  rw[<-unhide HW9]
  clear x0 x1 x2 x3 x4 x5 hfX hlX c0' hgl3 HW9
  go_wp2_with fail
  refine(unhide HCo _).mono ?_;rintro e w9' ⟨rfl,rfl⟩
  clear HCo
  have HWr:=hide (l2Wraps_calls L (some ⟨g,0,none⟩) c w9' hL (unhide HTk) (p+2) b (by omega) hbl)
  rw[show((p+2:Nat):Int)=(p:Int)+2 by omega]at HWr
  have jq: ¬(b:Int)<(p:Int)+2:=by omega
  by_cases hw: ∃x,wraps (sgm (tks L) (p+2) b)=some x
  ·rw[dB_true hw]at HWr
   obtain⟨i,hw⟩:=hw
   obtain⟨hab2,rfl⟩:=sgm_wraps (by omega) hbt hw
   unfold quS at HRR
   rw[hw]at HRR
   clear hw
   go_wp2_with fail
   refine(unhide HWr).mono ?_;rintro e w4 ⟨rfl,hb4⟩
   have hz4:w0.heap.size<=w9'.heap.size:=Nat.le_trans hzz (unhide HF3).size
   have hbe4:Below w0.heap.size w0 w4:=((unhide HBe).trans ((unhide HF3).below hzz (unhide HNi))).trans (hb4.mono hz4)
   have hcall:=(unhide HH).qu w4 lab2 na2 nc2 ns2 (p+2+1) (b-1) ⟨by omega,by omega,by simp only[rnk];omega,hbe4,(unhide HN3).of hb4,by omega⟩
   rw[show((p+2+1:Nat):Int)=(p:Int)+2+1 by omega,show((b-1:Nat):Int)=(b:Int)-1 by omega]at hcall
   have HF4:=hide ((unhide HF3).thenB hb4)
   have HX4:=hide ((unhide HX3).of hb4)
   have hxl4:X<w4.heap.size:=(unhide HX4).lt
   clear hb4 hbe4 HWr HX3 HF3
   rcases sP_one (f:=f) (nt:= .query) (xs:=sgm (tks L) (p+2+1) (b-1)) (by simp[single])with hr | ⟨q,hr⟩
   ·rw[hr]at hcall
    have HC:=hide hcall
    have HR:Hid (RR=none):=by
     show RR=_
     rw[unhide HRR]
     simp only[hr]
    clear hcall hr HRR
    go_wp2_with fail
    refine(unhide HC).mono ?_
    intro e w5 hpe
    obtain⟨na3,nc3,lab3,ns3,rfl,hN5,hF5,hl5⟩:=hpe.no
    obtain⟨-,q2,q3,-⟩:=hF5.stay (x:=X) hxl4 (unhide HXn)
    have hX5:=(unhide HX4).but hF5.but (unhide HXn)
    have HF5:=hide ((unhide HF4).trans hF5);have HN5:=hide hN5
    have HXn5:=hide q2
    have HXl5:=hide (q3.trans (unhide HXl))
    have hz5:w0.heap.size<=w5.heap.size:=Nat.le_trans hzz (unhide HF5).size
    clear hpe HC hN5 hF5 q2 q3
    obtain⟨x0,x1,x2,x3,x4,x5⟩:=hX5.c6
    have hfX:=hX5.frz
    have hlX:=hX5.lt
    have HX5:=hide hX5
    clear hX5
    obtain⟨w6,hw6⟩: ∃w6,w6=(w5.setCell ⟨X,5,none⟩ (.slice (some ⟨w5.heap.size,0,none⟩) 2 2)).alloc (.cells #[.int .i64 ((ns2.length:Int)-1),.int .i64 ((ns3.length:Int)-1)] 3):=⟨_,rfl⟩
    obtain⟨w5',hw5'⟩: ∃w5',w5'=w5.setCell ⟨X,5,none⟩ (.slice (some ⟨w5.heap.size,0,none⟩) 2 2):=⟨_,rfl⟩
    have hs5:w5'.heap.size=w5.heap.size:=by rw[hw5'];simp
    have hb5':ButB (fun b=>b=X) w5 w5':=by
     rw[hw5']
     exact ButB.set (S:=fun b=>b=X) (ButB.refl _ _) (Or.inl rfl) _
    have hX5':CellsAt w5' X [.int .i64 11,.int .i64 0,.int .i64 1,.string ⟨#[]⟩,.string ⟨#[]⟩,.slice (some ⟨w5.heap.size,0,none⟩) 2 2]:=by
     rw[hw5']
     exact(unhide HX5).set 5 (.slice (some ⟨w5.heap.size,0,none⟩) 2 2) (by simp)
    rw[<-hw5']at hw6
    have hN5':NS w0.heap.size w5' lab3 na3 nc3 ns3:=(unhide HN5).but hb5' (fun b e e'=>unhide HXn5 (by rw[<-e'];exact e)) (fun b i e e'=>by rw[e',unhide HXl5]at e;cases e)
    have hF5':Fr wI w5' lab lab3 na na3:=(unhide HF5).local hb5' (fun b e=>by rw[e];exact hxw)
    have hb6:Below w5'.heap.size w5' w6:=by rw[hw6];exact bA (Below.refl _ _) _
    have hX6:=hX5'.of hb6
    have hK6:=KO.new hN5' (by rw[hs5];exact hz5) [(ns2.length:Int)-1,(ns3.length:Int)-1] (by simp)
    rw[hs5]at hK6
    have hK6':KO w0.heap.size w6 lab3 na3 (some ⟨w5.heap.size,0,none⟩) 2 [(ns2.length:Int)-1,(ns3.length:Int)-1]:=by rw[hw6];exact hK6
    have HN6:=hide (hN5'.of hb6);have HF6:=hide (hF5'.thenB hb6);have HK6:=hide hK6'
    have HX6:=hide hX6
    have HW6:Hid (w6=(w5.setCell ⟨X,5,none⟩ (.slice (some ⟨w5.heap.size,0,none⟩) 2 2)).alloc (.cells #[.int .i64 ((ns2.length:Int)-1),.int .i64 ((ns3.length:Int)-1)] 3)):=by
     show _=_
     rw[hw6,hw5']
    clear hw6 hw5' hs5 hb5' hX5' hN5' hF5' hb6 hX6 hK6 hK6'
    go_upto_region 47 with fail
    rw[<-unhide HW6]
    clear x0 x1 x2 x3 x4 x5 hfX hlX
    obtain⟨x0,x1,x2,x3,x4,x5⟩:=(unhide HX6).c6
    have hlX:=(unhide HX6).lt
    obtain⟨WN,hWN⟩: ∃WN,WN=w6.alloc (.cells #[.int .i64 11,.int .i64 0,.int .i64 1,.string ⟨#[]⟩,.string ⟨#[]⟩,.slice (some ⟨w5.heap.size,0,none⟩) 2 2] 62):=⟨_,rfl⟩
    obtain⟨nN,nK,nC,nB,nW,nZ⟩:=lit_node0 (unhide HN6) (Nat.le_trans hzz (unhide HF6).size) ⟨11,0,1,⟨#[]⟩,⟨#[]⟩,[(ns2.length:Int)-1,(ns3.length:Int)-1]⟩ (some ⟨w5.heap.size,0,none⟩) 2 (unhide HK6) WN hWN
    have HnN:=hide nN;have HnK:=hide nK;have HnC:=hide nC;have HnW:=hide nW
    have HWe:=hide hWN
    have hlm:ns3.length<=1000000:=by omega
    have hx5:wI.heap.size<=w5.heap.size:=(unhide HF5).size
    clear hWN nN nK nC nW nZ
    go_wp2_with (at_builtin;rw[<-unhide HWe];refine wpList_pushN WN rfl (.tmp 242) (.tmp 244) 22 rfl tn _ Tryz.underlying22 htn hy0 hy1 hy2 rfl w0.heap.size lab3 na3 nc3 ns3 rfl (unhide HnN) ⟨11,0,1,⟨#[]⟩,⟨#[]⟩,[(ns2.length:Int)-1,(ns3.length:Int)-1]⟩ (some ⟨w5.heap.size,0,none⟩) 2 (unhide HnK) w6.heap.size 1 rfl (unhide HnC) hlm nB ?_;intro ra rc w7 hn7 hb7 hat7;have HN7:=hide hn7;have HB7:=hide hb7;have HA7:=hide hat7;clear hn7 hb7 hat7)
    go_wp2
    go_returns
    have hFp:=((unhide HF6).thenB (unhide HnW)).push (ka:=some ⟨w5.heap.size,0,none⟩) (fun b hb=>by simp[blk]at hb;subst hb;exact hx5) (unhide HB7) (unhide HA7) ns3.length
    refine⟨ra,rc,_,_,?_,unhide HN7,hFp,by simp;omega,fun t ht=> ?_⟩
    ·rw[unhide HR];simp
    ·rw[unhide HR]at ht;cases ht
   ·rw[hr]at hcall
    have HC:=hide hcall
    have HR:Hid (RR=some [.mk 11 0 1 [] [] [t,q]]):=by
     show RR=_
     rw[unhide HRR]
     simp only[hr]
    clear hcall hr HRR
    go_wp2_with fail
    refine(unhide HC).mono ?_
    intro e w5 hpe
    obtain⟨na3,nc3,lab3,ns3,rfl,hN5,hF5,hl5,he5⟩:=hpe.yes
    obtain⟨-,q2,q3,-⟩:=hF5.stay (x:=X) hxl4 (unhide HXn)
    have hX5:=(unhide HX4).but hF5.but (unhide HXn)
    have HF5:=hide ((unhide HF4).trans hF5);have HN5:=hide hN5;have HE5:=hide he5
    have HXn5:=hide q2
    have HXl5:=hide (q3.trans (unhide HXl))
    have hz5:w0.heap.size<=w5.heap.size:=Nat.le_trans hzz (unhide HF5).size
    clear hpe HC hN5 hF5 q2 q3 he5
    obtain⟨x0,x1,x2,x3,x4,x5⟩:=hX5.c6
    have hfX:=hX5.frz
    have hlX:=hX5.lt
    have HX5:=hide hX5
    clear hX5
    obtain⟨w6,hw6⟩: ∃w6,w6=(w5.setCell ⟨X,5,none⟩ (.slice (some ⟨w5.heap.size,0,none⟩) 2 2)).alloc (.cells #[.int .i64 ((ns2.length:Int)-1),.int .i64 ((ns3.length:Int)-1)] 3):=⟨_,rfl⟩
    obtain⟨w5',hw5'⟩: ∃w5',w5'=w5.setCell ⟨X,5,none⟩ (.slice (some ⟨w5.heap.size,0,none⟩) 2 2):=⟨_,rfl⟩
    have hs5:w5'.heap.size=w5.heap.size:=by rw[hw5'];simp
    have hb5':ButB (fun b=>b=X) w5 w5':=by
     rw[hw5']
     exact ButB.set (S:=fun b=>b=X) (ButB.refl _ _) (Or.inl rfl) _
    have hX5':CellsAt w5' X [.int .i64 11,.int .i64 0,.int .i64 1,.string ⟨#[]⟩,.string ⟨#[]⟩,.slice (some ⟨w5.heap.size,0,none⟩) 2 2]:=by
     rw[hw5']
     exact(unhide HX5).set 5 (.slice (some ⟨w5.heap.size,0,none⟩) 2 2) (by simp)
    rw[<-hw5']at hw6
    have hN5':NS w0.heap.size w5' lab3 na3 nc3 ns3:=(unhide HN5).but hb5' (fun b e e'=>unhide HXn5 (by rw[<-e'];exact e)) (fun b i e e'=>by rw[e',unhide HXl5]at e;cases e)
    have hF5':Fr wI w5' lab lab3 na na3:=(unhide HF5).local hb5' (fun b e=>by rw[e];exact hxw)
    have hb6:Below w5'.heap.size w5' w6:=by rw[hw6];exact bA (Below.refl _ _) _
    have hX6:=hX5'.of hb6
    have hK6:=KO.new hN5' (by rw[hs5];exact hz5) [(ns2.length:Int)-1,(ns3.length:Int)-1] (by simp)
    rw[hs5]at hK6
    have hK6':KO w0.heap.size w6 lab3 na3 (some ⟨w5.heap.size,0,none⟩) 2 [(ns2.length:Int)-1,(ns3.length:Int)-1]:=by rw[hw6];exact hK6
    have HN6:=hide (hN5'.of hb6);have HF6:=hide (hF5'.thenB hb6);have HK6:=hide hK6'
    have HX6:=hide hX6
    have HW6:Hid (w6=(w5.setCell ⟨X,5,none⟩ (.slice (some ⟨w5.heap.size,0,none⟩) 2 2)).alloc (.cells #[.int .i64 ((ns2.length:Int)-1),.int .i64 ((ns3.length:Int)-1)] 3)):=by
     show _=_
     rw[hw6,hw5']
    clear hw6 hw5' hs5 hb5' hX5' hN5' hF5' hb6 hX6 hK6 hK6'
    go_upto_region 47 with fail
    rw[<-unhide HW6]
    clear x0 x1 x2 x3 x4 x5 hfX hlX
    obtain⟨x0,x1,x2,x3,x4,x5⟩:=(unhide HX6).c6
    have hlX:=(unhide HX6).lt
    obtain⟨WN,hWN⟩: ∃WN,WN=w6.alloc (.cells #[.int .i64 11,.int .i64 0,.int .i64 1,.string ⟨#[]⟩,.string ⟨#[]⟩,.slice (some ⟨w5.heap.size,0,none⟩) 2 2] 62):=⟨_,rfl⟩
    obtain⟨nN,nK,nC,nB,nW,nZ⟩:=lit_node0 (unhide HN6) (Nat.le_trans hzz (unhide HF6).size) ⟨11,0,1,⟨#[]⟩,⟨#[]⟩,[(ns2.length:Int)-1,(ns3.length:Int)-1]⟩ (some ⟨w5.heap.size,0,none⟩) 2 (unhide HK6) WN hWN
    have HnN:=hide nN;have HnK:=hide nK;have HnC:=hide nC;have HnW:=hide nW
    have HWe:=hide hWN
    have hlm:ns3.length<=1000000:=by omega
    have hx5:wI.heap.size<=w5.heap.size:=(unhide HF5).size
    clear hWN nN nK nC nW nZ
    go_wp2_with (at_builtin;rw[<-unhide HWe];refine wpList_pushN WN rfl (.tmp 242) (.tmp 244) 22 rfl tn _ Tryz.underlying22 htn hy0 hy1 hy2 rfl w0.heap.size lab3 na3 nc3 ns3 rfl (unhide HnN) ⟨11,0,1,⟨#[]⟩,⟨#[]⟩,[(ns2.length:Int)-1,(ns3.length:Int)-1]⟩ (some ⟨w5.heap.size,0,none⟩) 2 (unhide HnK) w6.heap.size 1 rfl (unhide HnC) hlm nB ?_;intro ra rc w7 hn7 hb7 hat7;have HN7:=hide hn7;have HB7:=hide hb7;have HA7:=hide hat7;clear hn7 hb7 hat7)
    go_wp2
    go_returns
    have hFp:=((unhide HF6).thenB (unhide HnW)).push (ka:=some ⟨w5.heap.size,0,none⟩) (fun b hb=>by simp[blk]at hb;subst hb;exact hx5) (unhide HB7) (unhide HA7) ns3.length
    refine⟨ra,rc,_,_,?_,unhide HN7,hFp,by simp;omega,fun t' ht=> ?_⟩
    ·rw[unhide HR];simp
    ·rw[unhide HR]at ht
     simp only[Option.some.injEq,List.cons.injEq,and_true]at ht
     rw[<-ht,lay_mk,lays_cons,lays_cons,lays_nil,unhide HE5,unhide HE2]
     simp[Int.add_assoc]
  ·rw[dB_false hw]at HWr
   have HR:Hid (RR=none):=by
    show RR=none
    rw[unhide HRR]
    unfold quS
    cases hq:wraps (sgm (tks L) (p+2) b)with
    | none=>rfl
    | some i=>exact absurd ⟨i,hq⟩ hw
   clear hw
   go_wp2_with fail
   refine(unhide HWr).mono ?_;rintro e w4 ⟨rfl,hb4⟩
   have HB4:=hide hb4
   clear hb4 HWr HH
   go_wp2
   go_returns
   refine⟨na2,nc2,lab2,ns2,?_,(unhide HN3).of (unhide HB4),(unhide HF3).thenB (unhide HB4),by omega,fun t ht=> ?_⟩
   ·rw[unhide HR];rfl
   ·rw[unhide HR]at ht;cases ht
 ·rw[dB_false hin]at HIn
  have HR:Hid (RR=none):=by
   show RR=none
   rw[unhide HRn]
   split
   ·rename_i e
    exact absurd ⟨_,e⟩ hin
   ·rfl
  clear hin HRn
  go_wp2_with fail
  rw[<-unhide HW3]
  refine(unhide HIn).mono ?_;rintro e w3' ⟨rfl,rfl⟩
  go_wp2
  go_returns
  refine⟨na2,nc2,lab2,ns2,?_,unhide HN3,unhide HF3,by omega,fun t ht=> ?_⟩
  ·rw[unhide HR];rfl
  ·rw[unhide HR]at ht;cases ht
set_option maxHeartbeats 8000000 in
set_option maxRecDepth 100000 in
theorem prim_ninB(w0:World)(ad:Option Addr)(c:Nat)(L:List (Tok×ByteArray))(f:Nat)(hL:L.length<=1000000)(hT:TksS w0 ad L)(H:SHyp w0 ad c L f)(W:World)(lab:Lbl)(na:Option Addr)(nc:Nat)(ns:List Nd)(a b:Nat)(hP:Pre w0 L W lab na nc ns .prim (f+1) a b)(h1: ∀r,sgm (tks L) a b≠ .sy 20::r)(h2: ∀r,sgm (tks L) a b≠ .sy 21::r)(r0:List Tok)(h3:sgm (tks L) a b= .sy 0:: .sy 11::r0)(x y:List Tok)(hop:opS 0 (sgm (tks L) a b)=some (x,.sy 20,y)):
  Calls Tryz.prog 94 #[.slice ad L.length c,.int .i64 (a:Int),.int .i64 (b:Int),.slice na ns.length nc] W (PE w0.heap.size W lab na ns (sP (f+1) .prim (sgm (tks L) a b)) (b-a)):=by
 obtain⟨tn,htn,hy⟩:=Option.map_eq_some_iff.1 (show(Tryz.prog.info? 62).map (fun i=>(i.zero,i.size,i.bytes))=some (some (.agg #[.int .i64 0,.int .i64 0,.int .i64 0,.string ⟨#[]⟩,.string ⟨#[]⟩,.slice none 0 0]),6,80)by kernel_rfl)
 simp only[Prod.mk.injEq]at hy
 obtain⟨hy0,hy1,hy2⟩:=hy
 have hab:=hP.ab
 have hbl:=hP.bl
 have hln:=hP.ln
 have hfu:=hP.fu
 simp only[rnk]at hfu
 have hbt:b<=(tks L).length:=by simp;omega
 have hTW:=hP.tk hT
 have hzz:w0.heap.size<=W.heap.size:=hP.be.size
 obtain⟨RR,hRR⟩: ∃RR,RR=sP (f+1) .prim (sgm (tks L) a b):=⟨_,rfl⟩
 rw[<-hRR]
 have HI:=hide (l2Is_calls L ad c W hTW a b hbl ⟨#[78,79,84]⟩ 20 (by omega) (Go.ByteArray.toList_mk [78,79,84]))
 rw[is_dec hbt]at HI
 have HI0:=hide (l2Is_calls L ad c W hTW a b hbl ⟨#[40]⟩ 0 (by omega) (Go.ByteArray.toList_mk [40]))
 rw[is_dec hbt]at HI0
 have HI1:=hide (l2Is_calls L ad c W hTW a b hbl ⟨#[69,88,73,83,84,83]⟩ 21 (by omega) (Go.ByteArray.toList_mk [69,88,73,83,84,83]))
 rw[is_dec hbt]at HI1
 rw[dB_false (fun⟨r',e⟩=>h1 r' e)]at HI
 rw[dB_false (fun⟨r',e⟩=>h2 r' e)]at HI1
 rw[dB_true ⟨_,h3⟩]at HI0
 have hlt:a<b:=((is_head hbt).2 ⟨_,h3⟩).1
 obtain⟨t0,_,e0⟩:=sgm_head (tks L) a b hlt hbt
 have hr1:sgm (tks L) (a+1) b= .sy 11::r0:=by rw[e0]at h3;simp only[List.cons.injEq]at h3;exact h3.2
 have HIs:=hide (l2Is_calls L ad c W hTW (a+1) b hbl ⟨#[83,69,76,69,67,84]⟩ 11 (by omega) (Go.ByteArray.toList_mk [83,69,76,69,67,84]))
 rw[is_dec hbt]at HIs
 rw[dB_true ⟨r0,hr1⟩,show((a+1:Nat):Int)=(a:Int)+1 by omega]at HIs
 rw[prim_opS h1 h2 (fun r e=>by rw[h3]at e;simp only[List.cons.injEq,true_and]at e;exact⟨r0,e.symm⟩)]at hRR
 clear hr1 e0
 have HOp:=hide (l2Operator_calls L ad c W hL hTW a b hab hbl)
 obtain⟨p,hop1,hap,hpb,hx,hcp,hy,_⟩:=opS_at hab hbt hop
 rw[hop1]at HOp
 rw[hop]at hRR
 simp only[]at hRR
 rw[hx]at hRR
 have hcall:=H.sc W lab na nc ns a p ⟨hap,by omega,by simp only[rnk];omega,hP.be,hP.ns,by omega⟩
 have HRR:=hide hRR;have HH:=hide H;have HNi:=hide hP.ns;have HBe:=hide hP.be;have HT0:=hide hT;have HYy:=hide hy;have HCp:=hide hcp
 clear hRR h1 h2 h3 hTW H hP hT hop hop1 hx hy hcp
 go_enter Tryz.func94,Tryz.ntmps94
 go_wp2_with fail
 refine(unhide HI).mono ?_;rintro e wI ⟨rfl,rfl⟩
 go_wp2_with fail
 refine(unhide HI0).mono ?_;rintro e wI ⟨rfl,rfl⟩
 go_wp2_with fail
 refine(unhide HIs).mono ?_;rintro e wI ⟨rfl,rfl⟩
 go_wp2_with fail
 refine(unhide HI1).mono ?_;rintro e wI ⟨rfl,rfl⟩
 go_wp2_with fail
 refine(unhide HOp).mono ?_;rintro e wI ⟨rfl,rfl⟩
 rcases sP_one (f:=f) (nt:= .scal) (xs:=sgm (tks L) a p) (by simp[single])with hr | ⟨t,hr⟩
 ·rw[hr]at hcall
  have HC:=hide hcall
  have HR:Hid (RR=none):=by
   show RR=none
   rw[unhide HRR,hr]
  clear hcall hr
  go_wp2_with fail
  refine(unhide HC).mono ?_
  intro e w2 hpe
  obtain⟨na2,nc2,lab2,ns2,rfl,hN2,hF2,hl2⟩:=hpe.no
  have HN2:=hide hN2;have HF2:=hide hF2
  clear hN2 hF2 HC hpe
  go_wp2
  go_returns
  refine⟨na2,nc2,lab2,ns2,?_,unhide HN2,unhide HF2,by omega,fun t ht=> ?_⟩
  ·rw[unhide HR];rfl
  ·rw[unhide HR]at ht;cases ht
 rw[hr]at hcall HRR
 simp only[]at HRR
 have HC:=hide hcall
 clear hcall hr
 go_wp2_with fail
 refine(unhide HC).mono ?_
 intro e w2 hpe
 obtain⟨na2,nc2,lab2,ns2,rfl,hN2,hF2,hl2,he2⟩:=hpe.yes
 have hbe2:Below w0.heap.size w0 w2:=(unhide HBe).trans (hF2.below hzz (unhide HNi))
 have HTk2:=hide ((unhide HT0).of hbe2)
 obtain⟨Sk,g,bb,V,hok,rfl,hgl,hfm,c0,-,-⟩:=(unhide HTk2).cells (unhide HCp)
 have HN2:=hide hN2;have HF2:=hide hF2;have HE2:=hide he2
 have hn21:1<=ns2.length:=by rw[he2];have:=lay_pos t ns.length;simp;omega
 have j2:(p:Int)<(L.length:Int):=by omega
 have hzw2:w0.heap.size<=w2.heap.size:=hbe2.size
 clear hN2 hF2 he2 HC hpe hfm hbe2
 have tIS:(Sk.toList==[73,83])=false:=by
  rw[show([73,83]:List UInt8)=syT 23 from rfl,text_beq hok 23 (by omega)]
  exact decide_eq_false (by simp)
 have tNO:(Sk.toList==[78,79,84])=true:=by
  rw[show([78,79,84]:List UInt8)=syT 20 from rfl,text_beq hok 20 (by omega)]
  exact decide_eq_true (rfl)
 have HCo:=hide (fun w=>l2CompOf_calls Sk w)
 rw[cmpL_tok hok]at HCo
 have HRn:Hid (RR=(match sgm (tks L) (p+1) b with | .sy 22::z=>quS 11 0 1 (sP f .query) t z | _=>none)):=by
  show RR=_
  rw[unhide HRR,unhide HYy]
  rfl
 clear HRR
 obtain⟨w3,hw3⟩: ∃w3,w3=w2.alloc (.cells #[.int .i64 11,.int .i64 0,.int .i64 0,.string ⟨#[]⟩,.string ⟨#[]⟩,.slice none 0 0] 62):=⟨_,rfl⟩
 have hX3:CellsAt w3 w2.heap.size [.int .i64 11,.int .i64 0,.int .i64 0,.string ⟨#[]⟩,.string ⟨#[]⟩,.slice none 0 0]:=by
  rw[hw3]
  exact CellsAt.new w2 [.int .i64 11,.int .i64 0,.int .i64 0,.string ⟨#[]⟩,.string ⟨#[]⟩,.slice none 0 0] 62
 have hb3:Below w2.heap.size w2 w3:=by rw[hw3];exact bA (Below.refl _ _) _
 have HX3:=hide hX3;have HN3:=hide ((unhide HN2).of hb3);have HF3:=hide ((unhide HF2).thenB hb3)
 have HTk:=hide ((unhide HTk2).of hb3)
 have HW3:=hide hw3
 have hxw:wI.heap.size<=w2.heap.size:=(unhide HF2).size
 have hxX:g<w2.heap.size:=hgl
 have HXn:Hid (blk na2≠some w2.heap.size):=fun e=>by have:=((unhide HN2).lt _ e).2;omega
 have HXl:Hid (lab2 w2.heap.size=none):=by
  show _=_
  cases hl:lab2 w2.heap.size with
  | none=>rfl
  | some i=>have:=(unhide HN2).rng _ _ hl;omega
 have hX3l:=hX3.lt
 clear hX3 hb3 hw3
 have HIn:=hide (l2Is_calls L (some ⟨g,0,none⟩) c w3 (unhide HTk) (p+1) b hbl ⟨#[73,78]⟩ 22 (by omega) (Go.ByteArray.toList_mk [73,78]))
 rw[is_dec hbt,show((p+1:Nat):Int)=(p:Int)+1 by omega]at HIn
 by_cases hin: ∃r,sgm (tks L) (p+1) b= .sy 22::r
 ·rw[dB_true hin]at HIn
  obtain⟨ri,hin⟩:=hin
  have hlt9:=((is_head hbt).2 ⟨ri,hin⟩).1
  obtain⟨t9,_,e9⟩:=sgm_head (tks L) (p+1) b hlt9 hbt
  have hri:ri=sgm (tks L) (p+1+1) b:=by rw[e9]at hin;simp only[List.cons.injEq]at hin;exact hin.2.symm
  have HRR:Hid (RR=quS 11 0 1 (sP f .query) t (sgm (tks L) (p+2) b)):=by
   show RR=_
   rw[unhide HRn,hin,hri]
   rfl
  clear hin e9 hri HRn
  go_wp2_with fail
  rw[<-unhide HW3]
  refine(unhide HIn).mono ?_;rintro e w3' ⟨rfl,rfl⟩
  clear HIn HW3
  obtain⟨x0,x1,x2,x3,x4,x5⟩:=(unhide HX3).c6
  have hfX:=(unhide HX3).frz
  have hlX:=(unhide HX3).lt
  have c0':w3'.cell? ⟨g,p*3,none⟩=some (.string Sk):=by
   obtain⟨S',g',b',V',q1,q2,_,_,q5,_,_⟩:=(unhide HTk).cells (unhide HCp)
   simp only[Option.some.injEq,Addr.mk.injEq,and_true]at q2
   subst q2
   rw[q5]
   have:S'.toList=Sk.toList:=by rw[(tok_text q1 20 (by omega)).2 rfl,(tok_text hok 20 (by omega)).2 rfl]
   rw[bytes_mk' S',bytes_mk' Sk,this]
  have hgl3:g<w3'.heap.size:=by omega
  generalize w2.heap.size=X at*
  obtain⟨w9,hw9⟩: ∃w9,w9=w3'.setCell ⟨X,2,none⟩ (.int .i64 1):=⟨_,rfl⟩
  have hX9:CellsAt w9 X [.int .i64 11,.int .i64 0,.int .i64 1,.string ⟨#[]⟩,.string ⟨#[]⟩,.slice none 0 0]:=by
   rw[hw9]
   exact(unhide HX3).set 2 (.int .i64 1) (by simp)
  have hb9:ButB (fun b=>b=X) w3' w9:=by
   rw[hw9]
   exact ButB.set (S:=fun b=>b=X) (ButB.refl _ _) (Or.inl rfl) _
  have hN9:=(unhide HN3).but hb9 (fun b e e'=>unhide HXn (by rw[<-e'];exact e)) (fun b i e e'=>by rw[e',unhide HXl]at e;cases e)
  have hF9:=(unhide HF3).local hb9 (fun b e=>by rw[e];exact hxw)
  have hT9:TksS w9 (some ⟨g,0,none⟩) L:=(unhide HT0).of ((unhide HBe).trans (hF9.below hzz (unhide HNi)))
  have d0:w9.cell? ⟨g,p*3,none⟩=some (.string Sk):=by rw[hw9,setCell_farN (by have:=hxX;omega)];exact c0'
  have hgl9:g<w9.heap.size:=Nat.lt_of_lt_of_le hgl3 hb9.size
  have HX9:=hide hX9;have HN9:=hide hN9;have HF9:=hide hF9;have HT9:=hide hT9
  have HW9:=hide hw9
  clear hw9 hX9 hb9 hN9 hF9 hT9 HX3 HN3 HF3 HTk
  have HX3:=HX9;have HN3:=HN9;have HF3:=HF9;have HTk:=HT9
  clear HX9 HN9 HF9 HT9
  go_upto_region 33 with fail
  rw[<-unhide HW9]
  clear x0 x1 x2 x3 x4 x5 hfX hlX c0' hgl3 HW9
  go_wp2_with fail
  refine(unhide HCo _).mono ?_;rintro e w9' ⟨rfl,rfl⟩
  clear HCo
  have HWr:=hide (l2Wraps_calls L (some ⟨g,0,none⟩) c w9' hL (unhide HTk) (p+2) b (by omega) hbl)
  rw[show((p+2:Nat):Int)=(p:Int)+2 by omega]at HWr
  have jq: ¬(b:Int)<(p:Int)+2:=by omega
  by_cases hw: ∃x,wraps (sgm (tks L) (p+2) b)=some x
  ·rw[dB_true hw]at HWr
   obtain⟨i,hw⟩:=hw
   obtain⟨hab2,rfl⟩:=sgm_wraps (by omega) hbt hw
   unfold quS at HRR
   rw[hw]at HRR
   clear hw
   go_wp2_with fail
   refine(unhide HWr).mono ?_;rintro e w4 ⟨rfl,hb4⟩
   have hz4:w0.heap.size<=w9'.heap.size:=Nat.le_trans hzz (unhide HF3).size
   have hbe4:Below w0.heap.size w0 w4:=((unhide HBe).trans ((unhide HF3).below hzz (unhide HNi))).trans (hb4.mono hz4)
   have hcall:=(unhide HH).qu w4 lab2 na2 nc2 ns2 (p+2+1) (b-1) ⟨by omega,by omega,by simp only[rnk];omega,hbe4,(unhide HN3).of hb4,by omega⟩
   rw[show((p+2+1:Nat):Int)=(p:Int)+2+1 by omega,show((b-1:Nat):Int)=(b:Int)-1 by omega]at hcall
   have HF4:=hide ((unhide HF3).thenB hb4)
   have HX4:=hide ((unhide HX3).of hb4)
   have hxl4:X<w4.heap.size:=(unhide HX4).lt
   clear hb4 hbe4 HWr HX3 HF3
   rcases sP_one (f:=f) (nt:= .query) (xs:=sgm (tks L) (p+2+1) (b-1)) (by simp[single])with hr | ⟨q,hr⟩
   ·rw[hr]at hcall
    have HC:=hide hcall
    have HR:Hid (RR=none):=by
     show RR=_
     rw[unhide HRR]
     simp only[hr]
    clear hcall hr HRR
    go_wp2_with fail
    refine(unhide HC).mono ?_
    intro e w5 hpe
    obtain⟨na3,nc3,lab3,ns3,rfl,hN5,hF5,hl5⟩:=hpe.no
    obtain⟨-,q2,q3,-⟩:=hF5.stay (x:=X) hxl4 (unhide HXn)
    have hX5:=(unhide HX4).but hF5.but (unhide HXn)
    have HF5:=hide ((unhide HF4).trans hF5);have HN5:=hide hN5
    have HXn5:=hide q2
    have HXl5:=hide (q3.trans (unhide HXl))
    have hz5:w0.heap.size<=w5.heap.size:=Nat.le_trans hzz (unhide HF5).size
    clear hpe HC hN5 hF5 q2 q3
    obtain⟨x0,x1,x2,x3,x4,x5⟩:=hX5.c6
    have hfX:=hX5.frz
    have hlX:=hX5.lt
    have HX5:=hide hX5
    clear hX5
    obtain⟨w6,hw6⟩: ∃w6,w6=(w5.setCell ⟨X,5,none⟩ (.slice (some ⟨w5.heap.size,0,none⟩) 2 2)).alloc (.cells #[.int .i64 ((ns2.length:Int)-1),.int .i64 ((ns3.length:Int)-1)] 3):=⟨_,rfl⟩
    obtain⟨w5',hw5'⟩: ∃w5',w5'=w5.setCell ⟨X,5,none⟩ (.slice (some ⟨w5.heap.size,0,none⟩) 2 2):=⟨_,rfl⟩
    have hs5:w5'.heap.size=w5.heap.size:=by rw[hw5'];simp
    have hb5':ButB (fun b=>b=X) w5 w5':=by
     rw[hw5']
     exact ButB.set (S:=fun b=>b=X) (ButB.refl _ _) (Or.inl rfl) _
    have hX5':CellsAt w5' X [.int .i64 11,.int .i64 0,.int .i64 1,.string ⟨#[]⟩,.string ⟨#[]⟩,.slice (some ⟨w5.heap.size,0,none⟩) 2 2]:=by
     rw[hw5']
     exact(unhide HX5).set 5 (.slice (some ⟨w5.heap.size,0,none⟩) 2 2) (by simp)
    rw[<-hw5']at hw6
    have hN5':NS w0.heap.size w5' lab3 na3 nc3 ns3:=(unhide HN5).but hb5' (fun b e e'=>unhide HXn5 (by rw[<-e'];exact e)) (fun b i e e'=>by rw[e',unhide HXl5]at e;cases e)
    have hF5':Fr wI w5' lab lab3 na na3:=(unhide HF5).local hb5' (fun b e=>by rw[e];exact hxw)
    have hb6:Below w5'.heap.size w5' w6:=by rw[hw6];exact bA (Below.refl _ _) _
    have hX6:=hX5'.of hb6
    have hK6:=KO.new hN5' (by rw[hs5];exact hz5) [(ns2.length:Int)-1,(ns3.length:Int)-1] (by simp)
    rw[hs5]at hK6
    have hK6':KO w0.heap.size w6 lab3 na3 (some ⟨w5.heap.size,0,none⟩) 2 [(ns2.length:Int)-1,(ns3.length:Int)-1]:=by rw[hw6];exact hK6
    have HN6:=hide (hN5'.of hb6);have HF6:=hide (hF5'.thenB hb6);have HK6:=hide hK6'
    have HX6:=hide hX6
    have HW6:Hid (w6=(w5.setCell ⟨X,5,none⟩ (.slice (some ⟨w5.heap.size,0,none⟩) 2 2)).alloc (.cells #[.int .i64 ((ns2.length:Int)-1),.int .i64 ((ns3.length:Int)-1)] 3)):=by
     show _=_
     rw[hw6,hw5']
    clear hw6 hw5' hs5 hb5' hX5' hN5' hF5' hb6 hX6 hK6 hK6'
    go_upto_region 47 with fail
    rw[<-unhide HW6]
    clear x0 x1 x2 x3 x4 x5 hfX hlX
    obtain⟨x0,x1,x2,x3,x4,x5⟩:=(unhide HX6).c6
    have hlX:=(unhide HX6).lt
    obtain⟨WN,hWN⟩: ∃WN,WN=w6.alloc (.cells #[.int .i64 11,.int .i64 0,.int .i64 1,.string ⟨#[]⟩,.string ⟨#[]⟩,.slice (some ⟨w5.heap.size,0,none⟩) 2 2] 62):=⟨_,rfl⟩
    obtain⟨nN,nK,nC,nB,nW,nZ⟩:=lit_node0 (unhide HN6) (Nat.le_trans hzz (unhide HF6).size) ⟨11,0,1,⟨#[]⟩,⟨#[]⟩,[(ns2.length:Int)-1,(ns3.length:Int)-1]⟩ (some ⟨w5.heap.size,0,none⟩) 2 (unhide HK6) WN hWN
    have HnN:=hide nN;have HnK:=hide nK;have HnC:=hide nC;have HnW:=hide nW
    have HWe:=hide hWN
    have hlm:ns3.length<=1000000:=by omega
    have hx5:wI.heap.size<=w5.heap.size:=(unhide HF5).size
    clear hWN nN nK nC nW nZ
    go_wp2_with (at_builtin;rw[<-unhide HWe];refine wpList_pushN WN rfl (.tmp 242) (.tmp 244) 22 rfl tn _ Tryz.underlying22 htn hy0 hy1 hy2 rfl w0.heap.size lab3 na3 nc3 ns3 rfl (unhide HnN) ⟨11,0,1,⟨#[]⟩,⟨#[]⟩,[(ns2.length:Int)-1,(ns3.length:Int)-1]⟩ (some ⟨w5.heap.size,0,none⟩) 2 (unhide HnK) w6.heap.size 1 rfl (unhide HnC) hlm nB ?_;intro ra rc w7 hn7 hb7 hat7;have HN7:=hide hn7;have HB7:=hide hb7;have HA7:=hide hat7;clear hn7 hb7 hat7)
    go_wp2
    go_returns
    have hFp:=((unhide HF6).thenB (unhide HnW)).push (ka:=some ⟨w5.heap.size,0,none⟩) (fun b hb=>by simp[blk]at hb;subst hb;exact hx5) (unhide HB7) (unhide HA7) ns3.length
    refine⟨ra,rc,_,_,?_,unhide HN7,hFp,by simp;omega,fun t ht=> ?_⟩
    ·rw[unhide HR];simp
    ·rw[unhide HR]at ht;cases ht
   ·rw[hr]at hcall
    have HC:=hide hcall
    have HR:Hid (RR=some [.mk 11 0 1 [] [] [t,q]]):=by
     show RR=_
     rw[unhide HRR]
     simp only[hr]
    clear hcall hr HRR
    go_wp2_with fail
    refine(unhide HC).mono ?_
    intro e w5 hpe
    obtain⟨na3,nc3,lab3,ns3,rfl,hN5,hF5,hl5,he5⟩:=hpe.yes
    obtain⟨-,q2,q3,-⟩:=hF5.stay (x:=X) hxl4 (unhide HXn)
    have hX5:=(unhide HX4).but hF5.but (unhide HXn)
    have HF5:=hide ((unhide HF4).trans hF5);have HN5:=hide hN5;have HE5:=hide he5
    have HXn5:=hide q2
    have HXl5:=hide (q3.trans (unhide HXl))
    have hz5:w0.heap.size<=w5.heap.size:=Nat.le_trans hzz (unhide HF5).size
    clear hpe HC hN5 hF5 q2 q3 he5
    obtain⟨x0,x1,x2,x3,x4,x5⟩:=hX5.c6
    have hfX:=hX5.frz
    have hlX:=hX5.lt
    have HX5:=hide hX5
    clear hX5
    obtain⟨w6,hw6⟩: ∃w6,w6=(w5.setCell ⟨X,5,none⟩ (.slice (some ⟨w5.heap.size,0,none⟩) 2 2)).alloc (.cells #[.int .i64 ((ns2.length:Int)-1),.int .i64 ((ns3.length:Int)-1)] 3):=⟨_,rfl⟩
    obtain⟨w5',hw5'⟩: ∃w5',w5'=w5.setCell ⟨X,5,none⟩ (.slice (some ⟨w5.heap.size,0,none⟩) 2 2):=⟨_,rfl⟩
    have hs5:w5'.heap.size=w5.heap.size:=by rw[hw5'];simp
    have hb5':ButB (fun b=>b=X) w5 w5':=by
     rw[hw5']
     exact ButB.set (S:=fun b=>b=X) (ButB.refl _ _) (Or.inl rfl) _
    have hX5':CellsAt w5' X [.int .i64 11,.int .i64 0,.int .i64 1,.string ⟨#[]⟩,.string ⟨#[]⟩,.slice (some ⟨w5.heap.size,0,none⟩) 2 2]:=by
     rw[hw5']
     exact(unhide HX5).set 5 (.slice (some ⟨w5.heap.size,0,none⟩) 2 2) (by simp)
    rw[<-hw5']at hw6
    have hN5':NS w0.heap.size w5' lab3 na3 nc3 ns3:=(unhide HN5).but hb5' (fun b e e'=>unhide HXn5 (by rw[<-e'];exact e)) (fun b i e e'=>by rw[e',unhide HXl5]at e;cases e)
    have hF5':Fr wI w5' lab lab3 na na3:=(unhide HF5).local hb5' (fun b e=>by rw[e];exact hxw)
    have hb6:Below w5'.heap.size w5' w6:=by rw[hw6];exact bA (Below.refl _ _) _
    have hX6:=hX5'.of hb6
    have hK6:=KO.new hN5' (by rw[hs5];exact hz5) [(ns2.length:Int)-1,(ns3.length:Int)-1] (by simp)
    rw[hs5]at hK6
    have hK6':KO w0.heap.size w6 lab3 na3 (some ⟨w5.heap.size,0,none⟩) 2 [(ns2.length:Int)-1,(ns3.length:Int)-1]:=by rw[hw6];exact hK6
    have HN6:=hide (hN5'.of hb6);have HF6:=hide (hF5'.thenB hb6);have HK6:=hide hK6'
    have HX6:=hide hX6
    have HW6:Hid (w6=(w5.setCell ⟨X,5,none⟩ (.slice (some ⟨w5.heap.size,0,none⟩) 2 2)).alloc (.cells #[.int .i64 ((ns2.length:Int)-1),.int .i64 ((ns3.length:Int)-1)] 3)):=by
     show _=_
     rw[hw6,hw5']
    clear hw6 hw5' hs5 hb5' hX5' hN5' hF5' hb6 hX6 hK6 hK6'
    go_upto_region 47 with fail
    rw[<-unhide HW6]
    clear x0 x1 x2 x3 x4 x5 hfX hlX
    obtain⟨x0,x1,x2,x3,x4,x5⟩:=(unhide HX6).c6
    have hlX:=(unhide HX6).lt
    obtain⟨WN,hWN⟩: ∃WN,WN=w6.alloc (.cells #[.int .i64 11,.int .i64 0,.int .i64 1,.string ⟨#[]⟩,.string ⟨#[]⟩,.slice (some ⟨w5.heap.size,0,none⟩) 2 2] 62):=⟨_,rfl⟩
    obtain⟨nN,nK,nC,nB,nW,nZ⟩:=lit_node0 (unhide HN6) (Nat.le_trans hzz (unhide HF6).size) ⟨11,0,1,⟨#[]⟩,⟨#[]⟩,[(ns2.length:Int)-1,(ns3.length:Int)-1]⟩ (some ⟨w5.heap.size,0,none⟩) 2 (unhide HK6) WN hWN
    have HnN:=hide nN;have HnK:=hide nK;have HnC:=hide nC;have HnW:=hide nW
    have HWe:=hide hWN
    have hlm:ns3.length<=1000000:=by omega
    have hx5:wI.heap.size<=w5.heap.size:=(unhide HF5).size
    clear hWN nN nK nC nW nZ
    go_wp2_with (at_builtin;rw[<-unhide HWe];refine wpList_pushN WN rfl (.tmp 242) (.tmp 244) 22 rfl tn _ Tryz.underlying22 htn hy0 hy1 hy2 rfl w0.heap.size lab3 na3 nc3 ns3 rfl (unhide HnN) ⟨11,0,1,⟨#[]⟩,⟨#[]⟩,[(ns2.length:Int)-1,(ns3.length:Int)-1]⟩ (some ⟨w5.heap.size,0,none⟩) 2 (unhide HnK) w6.heap.size 1 rfl (unhide HnC) hlm nB ?_;intro ra rc w7 hn7 hb7 hat7;have HN7:=hide hn7;have HB7:=hide hb7;have HA7:=hide hat7;clear hn7 hb7 hat7)
    go_wp2
    go_returns
    have hFp:=((unhide HF6).thenB (unhide HnW)).push (ka:=some ⟨w5.heap.size,0,none⟩) (fun b hb=>by simp[blk]at hb;subst hb;exact hx5) (unhide HB7) (unhide HA7) ns3.length
    refine⟨ra,rc,_,_,?_,unhide HN7,hFp,by simp;omega,fun t' ht=> ?_⟩
    ·rw[unhide HR];simp
    ·rw[unhide HR]at ht
     simp only[Option.some.injEq,List.cons.injEq,and_true]at ht
     rw[<-ht,lay_mk,lays_cons,lays_cons,lays_nil,unhide HE5,unhide HE2]
     simp[Int.add_assoc]
  ·rw[dB_false hw]at HWr
   have HR:Hid (RR=none):=by
    show RR=none
    rw[unhide HRR]
    unfold quS
    cases hq:wraps (sgm (tks L) (p+2) b)with
    | none=>rfl
    | some i=>exact absurd ⟨i,hq⟩ hw
   clear hw
   go_wp2_with fail
   refine(unhide HWr).mono ?_;rintro e w4 ⟨rfl,hb4⟩
   have HB4:=hide hb4
   clear hb4 HWr HH
   go_wp2
   go_returns
   refine⟨na2,nc2,lab2,ns2,?_,(unhide HN3).of (unhide HB4),(unhide HF3).thenB (unhide HB4),by omega,fun t ht=> ?_⟩
   ·rw[unhide HR];rfl
   ·rw[unhide HR]at ht;cases ht
 ·rw[dB_false hin]at HIn
  have HR:Hid (RR=none):=by
   show RR=none
   rw[unhide HRn]
   split
   ·rename_i e
    exact absurd ⟨_,e⟩ hin
   ·rfl
  clear hin HRn
  go_wp2_with fail
  rw[<-unhide HW3]
  refine(unhide HIn).mono ?_;rintro e w3' ⟨rfl,rfl⟩
  go_wp2
  go_returns
  refine⟨na2,nc2,lab2,ns2,?_,unhide HN3,unhide HF3,by omega,fun t ht=> ?_⟩
  ·rw[unhide HR];rfl
  ·rw[unhide HR]at ht;cases ht
end Go.Proofs.YtmggnimiioepeaaGreatDoor.Pa
