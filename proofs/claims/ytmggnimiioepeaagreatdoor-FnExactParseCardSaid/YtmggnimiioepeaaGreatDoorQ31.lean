import Derived.Test.YtmggnimiioepeaaGreatDoorQ0
import Derived.Test.YtmggnimiioepeaaGreatDoorQ17
import Derived.Test.YtmggnimiioepeaaGreatDoorQ24
import Derived.Test.YtmggnimiioepeaaGreatDoorQ27
import Derived.Test.YtmggnimiioepeaaGreatDoorQ12
import Derived.Test.YtmggnimiioepeaaGreatDoorImplAstX
namespace Go.Proofs.YtmggnimiioepeaaGreatDoor.Pa
open Go Go.RowKit
theorem lex_all(s:ByteArray): ∀(n k:Nat) (acc:List (Tok×ByteArray)),s.size<=k+n->LexI s k acc-> ∀L,lex s 0=some L->L.length<=s.size/\ ∀p∈L,TOk p.1 p.2
 | 0,k,acc,hn,h,L,hL=>by
  rw[h.done (by omega)]at hL
  cases hL
  exact⟨Nat.le_trans h.2.1 h.1,h.2.2.1⟩
 | n+1,k,acc,hn,h,L,hL=>by
  by_cases hk:k<s.size
  ·cases hb:blank (byt s k)with
   | true=>exact lex_all s n (k+1) acc (by omega) (h.blank hk hb) L hL
   | false=>
    by_cases h0:0<tln s k
    ·cases ht:tokOf (ttx s k)with
     | none=>rw[h.no hk hb (Or.inr ht)]at hL;cases hL
     | some t=>exact lex_all s n _ _ (by omega) (h.tok hk hb h0 t ht) L hL
    ·rw[h.no hk hb (Or.inl (by omega))]at hL;cases hL
  ·rw[h.done (by omega)]at hL
   cases hL
   exact⟨Nat.le_trans h.2.1 h.1,h.2.2.1⟩
structure Tabs(w:World):Prop where
 kw:TKw w
 sg:TSg w
 ru:TRules w
 cs:TabAt w 7 csT
 aw:TabAt w 5 awT
theorem Tabs.of{w w1:World}(h:Tabs w)(hb:Below w.heap.size w w1):Tabs w1:=⟨h.kw.of hb,h.sg.of hb,h.ru.of hb,h.cs.of hb,h.aw.of hb⟩
structure AC(A:Nat)(W:World)(v u:Value):Prop where
 a:CellsAt W A [v]
 c:CellsAt W (A+1) [u]
section
variable {A:Nat}{W W1:World}{v u:Value}{S:Nat->Prop}
theorem AC.of(h:AC A W v u)(hb:Below W.heap.size W W1):AC A W1 v u:=⟨h.a.of hb,h.c.of hb⟩
theorem AC.but(h:AC A W v u)(hb:ButB S W W1)(h1: ¬S A)(h2: ¬S (A+1)):AC A W1 v u:=⟨h.a.but hb h1,h.c.but hb h2⟩
theorem AC.put(h:AC A W v u)(v' u':Value):AC A ((W.setCell ⟨A,0,none⟩ v').setCell ⟨A+1,0,none⟩ u') v' u':=
 ⟨(h.a.set 0 v' (by simp)).far 0 u' (by omega),((h.c.far 0 v' (by omega)).set 0 u' (by simp))⟩
theorem put_below{w W:World}(h:Below w.heap.size w W)(v u:Value):Below w.heap.size w ((W.setCell ⟨w.heap.size,0,none⟩ v).setCell ⟨w.heap.size+1,0,none⟩ u):=Below.setCell (Below.setCell h (Nat.le_refl _) v) (Nat.le_succ _) u
end
set_option maxHeartbeats 8000000 in
set_option maxRecDepth 100000 in
theorem iParse_calls(s:ByteArray)(w:World)(hT:Tabs w):Calls Tryz.prog 5 #[.string s] w (ParE s w):=by
 have hmf: ∀(fn:Fn) (first cap:Array Value) (w:World),(Instr.makeFunc fn first cap).run Tryz.prog w= .ok (.func fn first cap) w:=fun _ _ _ _=>rfl
 obtain⟨w1,hw1⟩: ∃w1,w1=(w.alloc (.cells #[.slice none 0 0] 24)).alloc (.cells #[.int .i64 0] 3):=⟨_,rfl⟩
 have hC1:CellsAt w1 w.heap.size [.slice none 0 0]:=by rw[hw1];exact(CellsAt.new w [.slice none 0 0] _).of (bA (Below.refl _ _) _)
 have hD1:CellsAt w1 (w.heap.size+1) [.int .i64 0]:=by
  rw[hw1]
  have:=CellsAt.new (w.alloc (.cells #[.slice none 0 0] 24)) [.int .i64 0] 3
  simpa using this
 have hb1:Below w.heap.size w w1:=by rw[hw1];exact bA (bA (Below.refl _ _) _) _
 have HW1:=hide hw1;have HC1:Hid (AC w.heap.size w1 (.slice none 0 0) (.int .i64 0)):=⟨hC1,hD1⟩;have HB1:=hide hb1;have HT:=hide hT
 clear hw1 hC1 hD1 hb1 hT
 go_enter_defers Tryz.func5,Tryz.ntmps5
 go_upto_region 1 with fail
 rw[<-unhide HW1]
 clear HW1
 by_cases h1:20000<s.size
 ·have HR:=hide (par_1 h1)
  have j1:(20000:Int)<(s.size:Int):=by omega
  clear h1
  have x0:=(unhide HC1).a.c1
  have hfX:=(unhide HC1).a.frz
  have hlX:=(unhide HC1).a.lt
  have y0:=(unhide HC1).c.c1
  have hfY:=(unhide HC1).c.frz
  have hlY:=(unhide HC1).c.lt
  obtain⟨wz,hwz⟩: ∃wz,wz=(w1.setCell ⟨w.heap.size,0,none⟩ (.slice none 0 0)).setCell ⟨w.heap.size+1,0,none⟩ (.int .i64 1):=⟨_,rfl⟩
  have hZ:AC w.heap.size wz (.slice none 0 0) (.int .i64 1):=by rw[hwz];exact(unhide HC1).put _ _
  have z0:=hZ.a.c1
  have z1:=hZ.c.c1
  have Hwz:=hide hwz
  clear hwz hZ
  go_wp2
  rw[<-unhide Hwz]
  simp[bodyPostD,Leaves,results,Tryz.results5,go_sem,z0,z1]
  exact ParE.no (unhide HR) (by rw[unhide Hwz];exact put_below (unhide HB1) _ _)
 have j1: ¬(20000:Int)<(s.size:Int):=by omega
 have HSc:=hide (scan_calls s w1 (by omega) ((unhide HT).of (unhide HB1)).kw ((unhide HT).of (unhide HB1)).sg)
 rcases hl:lex s 0 with _ | L
 ·have HR:=hide (par_2 h1 hl)
  have Hl:=hide hl
  clear hl h1
  go_wp2_with fail
  refine(unhide HSc).mono ?_
  clear HSc
  rintro e w2 ⟨a,c,n,b,rfl,hb2,hno,_⟩
  obtain rfl:=hno (unhide Hl)
  have HC2:=hide ((unhide HC1).of hb2)
  have HB2:=hide (bT (unhide HB1) hb2)
  clear hno hb2 HC1 HB1
  have x0:=(unhide HC2).a.c1
  have hfX:=(unhide HC2).a.frz
  have hlX:=(unhide HC2).a.lt
  have y0:=(unhide HC2).c.c1
  have hfY:=(unhide HC2).c.frz
  have hlY:=(unhide HC2).c.lt
  obtain⟨wz,hwz⟩: ∃wz,wz=(w2.setCell ⟨w.heap.size,0,none⟩ (.slice none 0 0)).setCell ⟨w.heap.size+1,0,none⟩ (.int .i64 2):=⟨_,rfl⟩
  have hZ:AC w.heap.size wz (.slice none 0 0) (.int .i64 2):=by rw[hwz];exact(unhide HC2).put _ _
  have z0:=hZ.a.c1
  have z1:=hZ.c.c1
  have Hwz:=hide hwz
  clear hwz hZ
  go_wp2
  rw[<-unhide Hwz]
  simp[bodyPostD,Leaves,results,Tryz.results5,go_sem,z0,z1]
  exact ParE.no (unhide HR) (by rw[unhide Hwz];exact put_below (unhide HB2) _ _)
 obtain⟨hLs,hA⟩:=lex_all s s.size 0 [] (by omega) (LexI.start s) L hl
 have hL2:L.length<=20000:=by omega
 obtain⟨BM,hBM⟩: ∃BM,BM=(brks (tks L)).2.1:=⟨_,rfl⟩
 have HQ3:Hid (400<BM->parF s=([],3)):=fun h=>par_3 h1 hl (by rw[<-hBM];exact h)
 obtain⟨RQ,hRQ⟩: ∃RQ,RQ=iP (8*L.length+3) .query (tks L):=⟨_,rfl⟩
 have HQ4:Hid (¬400<BM->(∀t,RQ≠some ([t],[]))->parF s=([],4)):=fun h hr=>par_4 h1 hl (by rw[<-hBM];exact h) (by rw[<-hRQ];exact hr)
 have HQ0:Hid (¬400<BM-> ∀t,RQ=some ([t],[])->IV (lay t 0)->parF s=(lay t 0,0)):=fun h t hr=>par_0 h1 hl (by rw[<-hBM];exact h) (by rw[<-hRQ];exact hr)
 have HQ5:Hid (¬400<BM-> ∀t,RQ=some ([t],[])-> ¬IV (lay t 0)->parF s=([],5)):=fun h t hr=>par_5 h1 hl (by rw[<-hBM];exact h) (by rw[<-hRQ];exact hr)
 have HQs:Hid (∀t,RQ=some ([t],[])->(lay t 0).length<=20000/\AX.Small (lay t 0)/\lay t 0≠[]):=fun t hr=>lay_small hL2 hA (G.ofI (by rw[<-hRQ];exact hr))
 have HA:=hide hA;have Hl:=hide hl;have HBM:=hide hBM;have HRQ:=hide hRQ
 clear h1 hl hA hLs hBM hRQ
 go_wp2_with fail
 refine(unhide HSc).mono ?_
 clear HSc
 rintro e w2 ⟨a,c,n,b,rfl,hb2,_,hyes⟩
 obtain⟨rfl,rfl,hown⟩:=hyes L (unhide Hl)
 have hTI:TksI w2 a L:=TksI.mk rfl hown (unhide HA)
 have hag: ∀g,a=some ⟨g,0,none⟩->g<w2.heap.size:=fun g e=>(row_lt hown g (by rw[e];rfl)).2
 have HMo:Hid (Calls Tryz.prog 14 #[.slice a L.length c] w2 fun e w'=>e= .returned (.int .i64 BM)/\Below w2.heap.size w2 w'):=(mostOpen_calls L a c w2 (by omega) hTI).mono (fun e w' h=>⟨by rw[h.1,unhide HBM],h.2⟩)
 have HC2:=hide ((unhide HC1).of hb2)
 have HB2:=hide (bT (unhide HB1) hb2)
 have HTI:=hide hTI;have Hag:=hide hag
 clear hyes hb2 HC1 HB1 hown hTI hag Hl HA HBM
 go_wp2_with fail
 refine(unhide HMo).mono ?_
 clear HMo
 rintro e w3 ⟨rfl,hb3⟩
 have HC3:=hide ((unhide HC2).of hb3)
 have HB3:=hide (bT (unhide HB2) hb3)
 have HTI3:=hide ((unhide HTI).of hb3)
 have Hag3:Hid (∀g,a=some ⟨g,0,none⟩->g<w3.heap.size):=fun g e=>Nat.lt_of_lt_of_le (unhide Hag g e) hb3.size
 clear hb3 HC2 HB2 HTI Hag
 by_cases h3:400<BM
 ·have HR:=hide (unhide HQ3 h3)
  have x0:=(unhide HC3).a.c1
  have hfX:=(unhide HC3).a.frz
  have hlX:=(unhide HC3).a.lt
  have y0:=(unhide HC3).c.c1
  have hfY:=(unhide HC3).c.frz
  have hlY:=(unhide HC3).c.lt
  obtain⟨wz,hwz⟩: ∃wz,wz=(w3.setCell ⟨w.heap.size,0,none⟩ (.slice none 0 0)).setCell ⟨w.heap.size+1,0,none⟩ (.int .i64 3):=⟨_,rfl⟩
  have hZ:AC w.heap.size wz (.slice none 0 0) (.int .i64 3):=by rw[hwz];exact(unhide HC3).put _ _
  have z0:=hZ.a.c1
  have z1:=hZ.c.c1
  have Hwz:=hide hwz
  clear hwz hZ
  go_wp2
  rw[<-unhide Hwz]
  simp[bodyPostD,Leaves,results,Tryz.results5,go_sem,z0,z1]
  exact ParE.no (unhide HR) (by rw[unhide Hwz];exact put_below (unhide HB3) _ _)
 have Hh3:=hide h3
 obtain⟨w4,hw4⟩: ∃w4,w4=w3.alloc (.cells #[.slice a L.length c,.int .i64 0] 45):=⟨_,rfl⟩
 have hb4:Below w3.heap.size w3 w4:=by rw[hw4];exact bA (Below.refl _ _) _
 have hP4:CellsAt w4 w3.heap.size [.slice a L.length c,.int .i64 0]:=by rw[hw4];exact CellsAt.new w3 [.slice a L.length c,.int .i64 0] _
 have HB4:=hide (bT (unhide HB3) hb4)
 have HC4:=hide ((unhide HC3).of hb4)
 have hA3:=(unhide HC3).a.lt
 have hA4:=(unhide HC3).c.lt
 have hPO:PO w4 w3.heap.size a c L 0:=by
  have hT4:=(unhide HT).of (unhide HB4)
  have hT0:=unhide HT
  have hs3:=(unhide HB3).size
  exact⟨⟨hP4.lt,hP4.all 0 _ rfl,hP4.all 1 _ rfl,(unhide HTI3).of hb4⟩,unhide Hag3,hT4.cs,hT4.aw,⟨Nat.lt_of_lt_of_le hT0.cs.size hs3,Nat.lt_of_lt_of_le hT0.aw.size hs3⟩,hP4.frz 1,Nat.zero_le _,by omega⟩
 have HWh:=hide (whole_calls hPO (8*L.length+3) (by omega))
 have Hw4:=hide hw4
 clear hw4 hb4 hP4 hPO HB3 HC3 HTI3 Hag3
 rw[<-unhide HRQ]at HWh
 clear HRQ
 go_upto_region 10 with fail
 rw[<-unhide Hw4]
 clear Hw4
 go_wp2_with fail
 refine(unhide HWh).mono ?_
 clear HWh
 rintro e w5 ⟨hB5,hres⟩
 have HC5:=hide ((unhide HC4).but hB5 (fun e=>by unfold atP at e;omega) (fun e=>by unfold atP at e;omega))
 have HB5:=hide ((unhide HB4).trans (hB5.below (B:=w.heap.size) (unhide HB4).size (fun b e=>by unfold atP at e;omega)))
 clear hB5 HC4 HB4
 rcases hres with⟨t,ty,u,hrq,rfl,htv⟩ | ⟨hno,rfl⟩
 rotate_left
 ·have HR:=hide (unhide HQ4 (unhide Hh3) hno)
  have x0:=(unhide HC5).a.c1
  have hfX:=(unhide HC5).a.frz
  have hlX:=(unhide HC5).a.lt
  have y0:=(unhide HC5).c.c1
  have hfY:=(unhide HC5).c.frz
  have hlY:=(unhide HC5).c.lt
  clear hno HQ3 HQ4 HQ0 HQ5 HQs
  go_wp2
  refine leaves_cons (f:=15) (args:= #[.pointer (some ⟨w.heap.size,0,none⟩),.pointer (some ⟨w.heap.size+1,0,none⟩)]) (by simp) (by simp[go_sem]) ?_
  refine(rec_panic w.heap.size (w.heap.size+1) _ _ w5 x0 y0 (hfX 0) (hfY 0) hlX hlY (by omega)).mono ?_
  rintro e u' w'' ⟨rfl,rfl,hw''⟩
  have hZ:AC w.heap.size w'' (.slice none 0 0) (.int .i64 4):=by rw[hw''];exact((unhide HC5).put _ _).of (bA (Below.refl _ _) _)
  have HBz:Hid (Below w.heap.size w w''):=by
   show Below _ _ _
   rw[hw'']
   exact bA (put_below (unhide HB5) _ _) _
  have z0:=hZ.a.c1
  have z1:=hZ.c.c1
  clear hw'' hZ
  simp[Leaves,settle,results,Tryz.results5,go_sem,z0,z1]
  exact ParE.no (unhide HR) (unhide HBz)
 obtain⟨hsm1,hsm2,hsm3⟩:=unhide HQs t hrq
 have HP0:=hide (unhide HQ0 (unhide Hh3) t hrq)
 have HP5:=hide (unhide HQ5 (unhide Hh3) t hrq)
 have HLd:Hid (Calls Tryz.prog 16 #[.slice none 0 0,.iface ty u] w5 (LayE w5.heap.size w5 (fun _=>none) none [] t)):=layDown_calls w5 (SizeOf.sizeOf t+1) t (.iface ty u) (Nat.lt_succ_self _) (htv.wide (fun b _ h=>h)) ty u rfl w5 (fun _=>none) none 0 [] (Below.refl _ _) (NS.nil0 _ _) (by simp;omega)
 have Hs1:=hide hsm1;have Hs2:=hide hsm2;have Hs3:=hide hsm3
 clear hrq htv HQ3 HQ4 HQ0 HQ5 HQs hsm1 hsm2 hsm3
 go_wp2_with fail
 refine(unhide HLd).mono ?_
 clear HLd
 rintro e w6 ⟨na2,nc2,lab2,ns2,rfl,hN2,hF2,he2⟩
 simp only[List.nil_append,List.length_nil]at he2
 have hsm1:=unhide Hs1
 have hsm2:=unhide Hs2
 have hsm3:=unhide Hs3
 obtain⟨g,rfl,hg1,hg2,_⟩:=hN2.nodes (by rw[he2];exact hsm3)
 have hlA:=(unhide HC5).a.lt
 have hlC:=(unhide HC5).c.lt
 have HC6:=hide ((unhide HC5).but hF2.but (fun e=>by simp[blk]at e) (fun e=>by simp[blk]at e))
 have HB6:=hide ((unhide HB5).trans (hF2.but.below (B:=w.heap.size) (by omega) (fun b e=>by simp[blk]at e)))
 have hlab:lab2 w.heap.size=none:=hF2.lb w.heap.size hlA
 have hlab1:lab2 (w.heap.size+1)=none:=hF2.lb (w.heap.size+1) hlC
 obtain⟨w7,hw7⟩: ∃w7,w7=w6.setCell ⟨w.heap.size,0,none⟩ (.slice (some ⟨g,0,none⟩) ns2.length nc2):=⟨_,rfl⟩
 have hb7:ButB (fun b=>b=w.heap.size) w6 w7:=by rw[hw7];exact ButB.set (S:=fun b=>b=w.heap.size) (ButB.refl _ _) (Or.inl rfl) _
 have HB7:Hid (Below w.heap.size w w7):=by
  show Below _ _ _
  rw[hw7]
  exact Below.setCell (unhide HB6) (Nat.le_refl _) _
 have HC7:Hid (AC w.heap.size w7 (.slice (some ⟨g,0,none⟩) ns2.length nc2) (.int .i64 0)):=by
  refine⟨?_,(unhide HC6).c.but hb7 (fun e=>by omega)⟩
  rw[hw7]
  exact(unhide HC6).a.set 0 _ (by simp)
 have hN7:=hN2.but hb7 (fun b e e'=>by simp[blk]at e;omega) (fun b i e e'=>by rw[e',hlab]at e;cases e)
 obtain⟨g',hgg,_,hg7,hnd7⟩:=hN7.nodes (by rw[he2];exact hsm3)
 simp only[Option.some.injEq,Addr.mk.injEq,and_true]at hgg
 subst hgg
 have hT7:=(unhide HT).of (unhide HB7)
 have HOk:=hide (AX.AstOk_calls ns2 g nc2 w7 hg7 hnd7 (by rw[he2];omega) (by rw[he2];exact hsm2) hT7.kw hT7.ru)
 have HN7:=hide hN7;have Hw7:=hide hw7;have HE2:=hide he2;have Hlab:=hide hlab;have Hlab1:=hide hlab1
 have x0:=(unhide HC6).a.c1
 have hfX:=(unhide HC6).a.frz
 have hlX:=(unhide HC6).a.lt
 have x7:=(unhide HC7).a.c1
 have hlX7:=(unhide HC7).a.lt
 clear hN2 hF2 hw7 hb7 hN7 hnd7 hT7 he2 hsm1 hsm2 hsm3 Hs1 Hs2 Hs3 HC5 HB5 hlab hlab1 HB6
 go_upto_region 11 with fail
 rw[<-unhide Hw7]
 clear Hw7 x0 hfX hlX HC6
 go_wp2_with fail
 refine(unhide HOk).mono ?_
 clear HOk
 by_cases hsv:IV (lay t 0)
 ·have HR:=hide (unhide HP0 hsv)
  have hsv2:IV ns2:=by rw[unhide HE2];exact hsv
  rw[dB_true hsv2]
  rintro e w8 ⟨rfl,hb8⟩
  have HC8:=hide ((unhide HC7).of hb8)
  have HB8:=hide (bT (unhide HB7) hb8)
  have HN8:=hide ((unhide HN7).of hb8)
  clear hb8 HC7 HB7 HN7 hsv hsv2 HP0 HP5 x7 hlX7
  have x0:=(unhide HC8).a.c1
  have hfX:=(unhide HC8).a.frz
  have hlX:=(unhide HC8).a.lt
  have y0:=(unhide HC8).c.c1
  have hfY:=(unhide HC8).c.frz
  have hlY:=(unhide HC8).c.lt
  obtain⟨wz,hwz⟩: ∃wz,wz=(w8.setCell ⟨w.heap.size,0,none⟩ (.slice (some ⟨g,0,none⟩) ns2.length nc2)).setCell ⟨w.heap.size+1,0,none⟩ (.int .i64 0):=⟨_,rfl⟩
  have hZ:AC w.heap.size wz (.slice (some ⟨g,0,none⟩) ns2.length nc2) (.int .i64 0):=by rw[hwz];exact(unhide HC8).put _ _
  have z0:=hZ.a.c1
  have z1:=hZ.c.c1
  have Hwz:=hide hwz
  clear hwz hZ
  go_wp2
  rw[<-unhide Hwz]
  refine leaves_cons (f:=15) (args:= #[.pointer (some ⟨w.heap.size,0,none⟩),.pointer (some ⟨w.heap.size+1,0,none⟩)]) (by simp) (by simp[go_sem]) ?_
  refine(rec_idle _ _ _).mono ?_
  rintro e u' w'' ⟨rfl,rfl,rfl⟩
  simp[Leaves,settle,results,Tryz.results5,go_sem,z0,z1]
  refine⟨some ⟨g,0,none⟩,nc2,lab2,?_,?_,by rw[unhide Hwz];exact put_below (unhide HB8) _ _⟩
  ·rw[unhide HR,unhide HE2]
  ·rw[unhide HR,<-unhide HE2,unhide Hwz]
   exact((unhide HN8).base (Nat.le_of_lt (Nat.lt_trans (Nat.lt_succ_self _) hlC))).but (S:=fun b=>b=w.heap.size\/b=w.heap.size+1) (ButB.set (S:=fun b=>b=w.heap.size\/b=w.heap.size+1) (ButB.set (S:=fun b=>b=w.heap.size\/b=w.heap.size+1) (ButB.refl _ _) (Or.inl (Or.inl rfl)) _) (Or.inl (Or.inr rfl)) _) (fun b e e'=>by simp[blk]at e;omega) (fun b i e e'=>by
    rcases e' with e' | e'
    ·rw[e',unhide Hlab]at e;cases e
    ·rw[e',unhide Hlab1]at e;cases e)
 ·have HR:=hide (unhide HP5 hsv)
  have hsv2: ¬IV ns2:=by rw[unhide HE2];exact hsv
  rw[dB_false hsv2]
  rintro e w8 ⟨rfl,hb8⟩
  have HC8:=hide ((unhide HC7).of hb8)
  have HB8:=hide (bT (unhide HB7) hb8)
  clear hb8 HC7 HB7 HN7 hsv hsv2 HP0 HP5 x7 hlX7
  have x0:=(unhide HC8).a.c1
  have hfX:=(unhide HC8).a.frz
  have hlX:=(unhide HC8).a.lt
  have y0:=(unhide HC8).c.c1
  have hfY:=(unhide HC8).c.frz
  have hlY:=(unhide HC8).c.lt
  obtain⟨wz,hwz⟩: ∃wz,wz=(w8.setCell ⟨w.heap.size,0,none⟩ (.slice none 0 0)).setCell ⟨w.heap.size+1,0,none⟩ (.int .i64 5):=⟨_,rfl⟩
  have hZ:AC w.heap.size wz (.slice none 0 0) (.int .i64 5):=by rw[hwz];exact(unhide HC8).put _ _
  have z0:=hZ.a.c1
  have z1:=hZ.c.c1
  have Hwz:=hide hwz
  clear hwz hZ
  go_wp2
  rw[<-unhide Hwz]
  refine leaves_cons (f:=15) (args:= #[.pointer (some ⟨w.heap.size,0,none⟩),.pointer (some ⟨w.heap.size+1,0,none⟩)]) (by simp) (by simp[go_sem]) ?_
  refine(rec_idle _ _ _).mono ?_
  rintro e u' w'' ⟨rfl,rfl,rfl⟩
  simp[Leaves,settle,results,Tryz.results5,go_sem,z0,z1]
  exact ParE.no (unhide HR) (by rw[unhide Hwz];exact put_below (unhide HB8) _ _)
end Go.Proofs.YtmggnimiioepeaaGreatDoor.Pa
namespace Go.Proofs.YtmggnimiioepeaaGreatDoor.Pa
open Go Go.RowKit
mutual
theorem kA_lay: ∀(t:Rt) (off:Nat),kA (lay t off)+1=6*nn t
 | .mk K N M S T kids,off=>by
  have:=kA_lays kids off
  rw[lay_mk,nn_mk,kA_append]
  simp only[kA,lays_len]
  omega
theorem kA_lays: ∀(ts:List Rt) (off:Nat),kA (lays ts off).1+ts.length=6*nns ts
 | [],off=>by rw[lays_nil,nns_nil];rfl
 | t::ts,off=>by
  have h1:=kA_lay t off
  have h2:=kA_lays ts (off+(lay t off).length)
  rw[lays_cons,nns_cons,List.length_cons]
  simp only[kA_append]
  omega
end
theorem par_form(s:ByteArray):(parF s).1=[]\/ ∃L t,L.length<=20000/\(∀p∈L,TOk p.1 p.2)/\G .query (tks L) [t]/\(parF s).1=lay t 0:=by
 by_cases h:20000<s.size
 ·rw[par_1 h];exact Or.inl rfl
 cases hl:lex s 0 with
 | none=>rw[par_2 h hl];exact Or.inl rfl
 | some L=>
  obtain⟨h1,h2⟩:=lex_all s s.size 0 [] (by omega) (LexI.start s) L hl
  by_cases h3:400<(brks (tks L)).2.1
  ·rw[par_3 h hl h3];exact Or.inl rfl
  by_cases h4: ∃t,iP (8*L.length+3) .query (tks L)=some ([t],[])
  ·obtain⟨t,h4⟩:=h4
   by_cases h5:IV (lay t 0)
   ·rw[par_0 h hl h3 h4 h5]
    exact Or.inr ⟨L,t,by omega,h2,G.ofI h4,rfl⟩
   ·rw[par_5 h hl h3 h4 h5];exact Or.inl rfl
  ·rw[par_4 h hl h3 (fun t e=>h4 ⟨t,e⟩)];exact Or.inl rfl
theorem par_small(s:ByteArray):(parF s).1.length<=20000/\(∀n∈(parF s).1,n.Kids.length<=1048576)/\kA (parF s).1<=120000:=by
 rcases par_form s with h | ⟨L,t,h1,h2,h3,h⟩
 ·rw[h]
  exact⟨Nat.zero_le _,fun n hn=>by simp at hn,Nat.zero_le _⟩
 ·obtain⟨g1,g2,_⟩:=lay_small h1 h2 h3
  rw[h]
  refine⟨g1,fun n hn=>(g2 n hn).2.2,?_⟩
  have:=kA_lay t 0
  rw[lay_len]at g1
  omega
end Go.Proofs.YtmggnimiioepeaaGreatDoor.Pa
