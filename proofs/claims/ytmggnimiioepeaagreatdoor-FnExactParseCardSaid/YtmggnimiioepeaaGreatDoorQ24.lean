import Derived.Test.YtmggnimiioepeaaGreatDoorQ0
import Derived.Test.YtmggnimiioepeaaGreatDoorQ23
namespace Go.Proofs.YtmggnimiioepeaaGreatDoor.Pa
open Go Go.RowKit
def contU(more:List Tok->Option (List Rt×List Tok))(ts:List Rt):List Tok->Option (List Rt×List Tok)
 | c::r=>if c=kUnion then(match r with | .sy 16::r1=>(match more r1 with | some (l,r2)=>some (ts++l,r2) | none=>none) | _=>none)else some (ts,c::r)
 | []=>some (ts,[])
theorem sels_cont{g:Nat}{ts r:List Tok}{t:Rt}(h:iP g .sel ts=some ([t],r)):iP (g+1) .sels ts=contU (iP g .sels) [t] r:=by
 show(match iP g .sel ts with
  | some ([t],c::r)=>if c=kUnion then(match r with | .sy 16::r1=>(match iP g .sels r1 with | some (l,r2)=>some (t::l,r2) | none=>none) | _=>none)else some ([t],c::r)
  | some ([t],[])=>some ([t],[])
  | _=>none)=_
 rw[h]
 cases r with
 | nil=>rfl
 | cons c r=>rfl
theorem sels_none{g:Nat}{ts:List Tok}(h:iP g .sel ts=none):iP (g+1) .sels ts=none:=by
 show(match iP g .sel ts with
  | some ([t],c::r)=>if c=kUnion then(match r with | .sy 16::r1=>(match iP g .sels r1 with | some (l,r2)=>some (t::l,r2) | none=>none) | _=>none)else some ([t],c::r)
  | some ([t],[])=>some ([t],[])
  | _=>none)=_
 rw[h]
theorem contU_no{more:List Tok->Option (List Rt×List Tok)}{ts:List Rt}{r:List Tok}(h: ∀r',r≠ .sy 15::r'):contU more ts r=some (ts,r):=by
 cases r with
 | nil=>rfl
 | cons c r=>
  simp only[contU]
  rw[if_neg (fun e=>h r (by rw[e]))]
theorem contU_all{more:List Tok->Option (List Rt×List Tok)}{ts:List Rt}{r:List Tok}(h: ∀r',r≠ .sy 16::r'):contU more ts (.sy 15::r)=none:=by
 simp only[contU,if_true]
theorem contU_bad{g:Nat}{ts:List Rt}{r:List Tok}(h:iP g .sel r=none):contU (iP (g+1) .sels) ts (.sy 15:: .sy 16::r)=none:=by
 simp only[contU,if_true]
 rw[sels_none h]
theorem contU_yes{g:Nat}{ts:List Rt}{r r1:List Tok}{t:Rt}(h:iP g .sel r=some ([t],r1)):contU (iP (g+1) .sels) ts (.sy 15:: .sy 16::r)=contU (iP g .sels) (ts++[t]) r1:=by
 simp only[contU,if_true]
 rw[sels_cont h]
 cases r1 with
 | nil=>rfl
 | cons c r=>
  simp only[contU]
  by_cases hc:c=kUnion
  ·rw[if_pos hc,if_pos hc]
   cases r with
   | nil=>rfl
   | cons d r2=>
    cases d with
    | nam _=>rfl
    | num _=>rfl
    | sy q=>
     by_cases hq:q=16
     ·subst hq
      simp only[]
      cases iP g .sels r2<;>simp
     ·have e1: ∀xs:List Rt,(match Tok.sy q::r2 with | .sy 16::r1=>(match iP g .sels r1 with | some (l,r2)=>some (xs++l,r2) | none=>none) | _=>none)=none:=fun xs=>by
       split
       ·rename_i e
        simp only[List.cons.injEq,Tok.sy.injEq]at e
        exact absurd e.1 hq
       ·rfl
      rw[e1 [t],e1 (ts++[t])]
  ·rw[if_neg hc,if_neg hc]
set_option maxHeartbeats 8000000 in
set_option maxRecDepth 100000 in
theorem query_calls{w:World}{pb:Nat}{a:Option Addr}{c:Nat}{L:List (Tok×ByteArray)}{k:Nat}(h:PO w pb a c L k)(f0:Nat)(hf0:2+8*(L.length-k)<f0+1)(H: ∀g,g<=f0->IHyp pb a c L g):Calls Tryz.prog 41 #[.pointer (some ⟨pb,0,none⟩)] w (IE w pb a c L k (iP (f0+1) .query ((tks L).drop k))):=by
 obtain⟨ti,hti,hz⟩:=Option.map_eq_some_iff.1 (show(Tryz.prog.info? 48).map (fun i=>(i.zero,i.size,i.bytes))=some (some .nilIface,1,16)by kernel_rfl)
 simp only[Prod.mk.injEq]at hz
 obtain⟨hz0,hz1,hz2⟩:=hz
 have hpw:=h.p.lt
 have hLm:=h.lm
 have hkl:=h.le
 obtain⟨f,rfl⟩: ∃f,f0=f+1:=⟨f0-1,by omega⟩
 obtain⟨QQ,hQQ⟩: ∃QQ,QQ=iP (f+1+1) .query ((tks L).drop k):=⟨_,rfl⟩
 rw[<-hQQ]
 obtain⟨RR,hRR⟩: ∃RR,RR=iP (f+1) .sels ((tks L).drop k):=⟨_,rfl⟩
 have hQ1:QQ=joinF 7 RR:=by rw[hQQ,hRR];rfl
 have HC:=hide ((H f (by omega)).se w k h (by omega))
 have HI:=hide (fun g W k' (h1:g<=f) (h2:8*(L.length-k')<g) (h3:PO W pb a c L k')=>(H g (by omega)).se W k' h3 h2)
 have HQ1:=hide hQ1;have HRR:=hide hRR
 clear h H hRR hQQ hQ1
 go_enter Tryz.func41,Tryz.ntmps41
 go_wp2_with fail
 refine(unhide HC).mono ?_
 rintro e w1 ⟨hb1,⟨hr1,rfl⟩ | ⟨t,k1,ty,u,hr1,hk1,rfl,hT1,hP1⟩⟩
 ·have HR:Hid (QQ=none):=by
   show QQ=none
   rw[unhide HQ1,unhide HRR,sels_none hr1]
   rfl
  have HB1:=hide hb1
  clear hb1 hr1 HC
  go_wp2
  exact⟨rfl,unhide HB1,Or.inl ⟨unhide HR,rfl⟩⟩
 ·have HR1:=hide hr1;have HB1:=hide hb1
  have hz1w:w.heap.size<=w1.heap.size:=hb1.size
  have HRL:=hide (RL.one hz1w hT1)
  have HP1:=hide (hP1.of (bA (Below.refl _ _) (.cells #[.iface ty u] 48)))
  clear hr1 hb1 hT1 hP1 HC
  go_wp2_with fail
  go_loopw [3] (fun pv wr=> ∃(k' g:Nat) (ga:Option Addr) (gc:Nat) (ts:List Rt),pv= .slice ga ts.length gc/\PO wr pb a c L k'/\ButB (atP pb) w wr/\RL w.heap.size wr ga gc ts/\ts≠[]/\k<=k'/\ts.length<=k'-k+1/\g<=f/\8*(L.length-k')<g/\RR=contU (iP g .sels) ts ((tks L).drop k')) (fun _ wr=>L.length-kOf wr pb)
  case atStart=>exact⟨k1,f,some ⟨w1.heap.size,0,none⟩,1,[t],rfl,unhide HP1,(unhide HB1).trans (ButB.ofBelow (bA (Below.refl _ _) _)),unhide HRL,by simp,hk1,by simp,Nat.le_refl _,by omega,by rw[unhide HRR];exact sels_cont (unhide HR1)⟩
  case round=>
   obtain⟨k',g,ga,gc,ts,rfl,hP,hB,hL,hne,hk,htl,hgf,hfu,hR⟩:=hrel
   have HKm:=hide hP.kOf
   have hk'l:=hP.le
   have hzr:w.heap.size<=wr.heap.size:=hB.size
   have HL:=hide hL;have HB:=hide hB
   by_cases hd: ∃r,(tks L).drop k'= .sy 15::r
   ·obtain⟨r,hd⟩:=hd
    obtain⟨_,hr,hkl',_⟩:=drop_cons hd
    rw[hd,hr]at hR
    have HCt:=hide (takesY hP ⟨#[85,78,73,79,78]⟩ 15 (by omega) (Go.ByteArray.toList_mk [85,78,73,79,78]) hd)
    have HR:=hide hR
    obtain⟨g',rfl⟩: ∃g',g=g'+1:=⟨g-1,by omega⟩
    clear hP hL hB hd hr hR hne
    go_wp2_with fail
    refine(unhide HCt).mono ?_;rintro e w2 ⟨rfl,hP2,hb2⟩
    have HB2:=hide ((unhide HB).trans hb2)
    have HL2:=hide ((unhide HL).but hb2 (fun b e=>by unfold atP at e;omega))
    have hz2w:wr.heap.size<=w2.heap.size:=hb2.size
    clear hb2 HCt
    by_cases hd3: ∃r,(tks L).drop (k'+1)= .sy 16::r
    ·obtain⟨r3,hd3⟩:=hd3
     obtain⟨_,hr3,hkl3,_⟩:=drop_cons hd3
     have HC3:=hide (needsY hP2 ⟨#[65,76,76]⟩ 16 (by omega) (Go.ByteArray.toList_mk [65,76,76]) hd3)
     rw[hd3,hr3]at HR
     clear hd3 hr3 hP2
     go_wp2_with fail
     refine(unhide HC3).mono ?_;rintro e w3 ⟨rfl,hP3,hb3⟩
     have HC4:=hide (unhide HI g' w3 (k'+1+1) (by omega) (by omega) hP3)
     have HB3:=hide ((unhide HB2).trans hb3)
     have HL3:=hide ((unhide HL2).but hb3 (fun b e=>by unfold atP at e;omega))
     have hz3w:w2.heap.size<=w3.heap.size:=hb3.size
     clear hb3 hP3 HC3
     go_wp2_with fail
     refine(unhide HC4).mono ?_
     rintro e w4 ⟨hb4,⟨hr4,rfl⟩ | ⟨t4,k4,ty4,u4,hr4,hk4,rfl,hT4,hP4⟩⟩
     ·have HRn:Hid (QQ=none):=by
       show QQ=none
       rw[unhide HQ1,unhide HR,contU_bad hr4]
       rfl
      have HB4:=hide ((unhide HB3).trans hb4)
      clear hb4 hr4 HC4
      go_wp2
      exact⟨rfl,unhide HB4,Or.inl ⟨unhide HRn,rfl⟩⟩
     ·have HR4:Hid (RR=contU (iP g' .sels) (ts++[t4]) ((tks L).drop k4)):=by
       show RR=_
       rw[unhide HR]
       exact contU_yes hr4
      have HB4:=hide ((unhide HB3).trans hb4)
      have HL4:=hide ((unhide HL3).but hb4 (fun b e=>by unfold atP at e;omega))
      have HP4:=hide hP4
      have hk4l:=hP4.le
      have hz4:w3.heap.size<=w4.heap.size:=hb4.size
      have HT4:Hid (TV w4 (fun b=>w.heap.size<=b/\blk ga≠some b) t4 (.iface ty4 u4)):=hT4.wide (fun b e _=>⟨by omega,fun x=>by have:=((unhide HL3).lt b x).2;omega⟩)
      obtain⟨WA,hWA⟩: ∃WA,WA=w4.alloc (.cells #[.iface ty4 u4] 48):=⟨_,rfl⟩
      have HWe:=hide hWA
      have htm:ts.length<=1000000:=by omega
      have hzB:w.heap.size<=w4.heap.size:=by omega
      clear hb4 hr4 HC4 hT4 hP4 hWA
      go_wp2_with (at_builtin;rw[<-unhide HWe];refine wpList_pushT WA rfl (.tmp 11) (.tmp 14) 72 rfl ti _ Tryz.underlying72 hti hz0 hz1 hz2 rfl w.heap.size ga gc ts rfl w4 (unhide HL4) t4 ty4 u4 (unhide HT4) (unhide HWe) 1 rfl htm hzB ?_;intro ra rc w6 hl6 hb6;have HL6:=hide hl6;have HB6:=hide hb6;clear hl6 hb6)
      go_wp2
      have HP6:Hid (PO w6 pb a c L k4):=(unhide HP4).but (unhide HB6) (fun b e=>by have:=((unhide HL4).lt b e).1;omega)
      go_roundw
      case rel=>exact⟨k4,g',ra,rc,ts++[t4],by simp,unhide HP6,(unhide HB4).trans' (unhide HB6) (fun b e=>Or.inr ((unhide HL4).lt b e).1),unhide HL6,by simp,by omega,by simp;omega,by omega,by omega,unhide HR4⟩
      case measure=>
       have h1:=(unhide HP6).kOf
       rw[h1,unhide HKm]
       omega
    ·have HC3:=hide (needsN hP2 ⟨#[65,76,76]⟩ 16 (by omega) (Go.ByteArray.toList_mk [65,76,76]) (fun r e=>hd3 ⟨r,e⟩))
     have HRn:Hid (QQ=none):=by
      show QQ=none
      rw[unhide HQ1,unhide HR,contU_all (fun r e=>hd3 ⟨r,e⟩)]
      rfl
     clear hd3 hP2
     go_wp2_with fail
     refine(unhide HC3).mono ?_;rintro e w3 ⟨rfl,hb3⟩
     have HB3:=hide ((unhide HB2).trans (ButB.ofBelow hb3))
     clear hb3 HC3
     go_wp2
     exact⟨rfl,unhide HB3,Or.inl ⟨unhide HRn,rfl⟩⟩
   ·have HCt:=hide (takesN hP ⟨#[85,78,73,79,78]⟩ 15 (by omega) (Go.ByteArray.toList_mk [85,78,73,79,78]) (fun r e=>hd ⟨r,e⟩))
    have HR:Hid (QQ=joinF 7 (some (ts,(tks L).drop k'))):=by
     show QQ=_
     rw[unhide HQ1,hR,contU_no (fun r e=>hd ⟨r,e⟩)]
    have HP:=hide hP
    clear hP hL hB hd hR
    go_wp2_with fail
    refine(unhide HCt).mono ?_;rintro e w2 ⟨rfl,hb2⟩
    have HB2:=hide ((unhide HB).trans (ButB.ofBelow hb2))
    have hL2:=(unhide HL).but (X:=fun _=>False) (ButB.ofBelow hb2) (fun _ e=>e.elim)
    have HP2:=hide ((unhide HP).of hb2)
    clear hb2 HCt HL HP HB
    match ts,hne,hL2 with
    | [],hne,_=>exact absurd rfl hne
    | [t],_,hL2=>
     obtain⟨gg,ty,u,rfl,hg,hc,hT⟩:=hL2.head
     have HT:=hide hT
     clear hL2 hT
     go_wp2
     go_ret
     exact⟨unhide HB2,Or.inr ⟨t,k',ty,u,unhide HR,hk,rfl,unhide HT,unhide HP2⟩⟩
    | t::v::l,_,hL2=>
     have HL2:=hide hL2
     clear hL2
     have jn: ¬(((t::v::l).length:Int)=1):=by simp;omega
     have jb:(((t::v::l).length:Int)==1)=false:=beq_eq_false_iff_ne.2 jn
     have HRs:Hid (QQ=some ([.mk 7 0 0 [] [] (t::v::l)],(tks L).drop k')):=unhide HR
     clear HR htl
     generalize hts:t::v::l=ts at*
     clear hts jn
     go_wp2
     go_ret
     obtain⟨us,hR,hT⟩:=(unhide HL2).fin
     exact⟨unhide HB2,Or.inr ⟨_,k',_,_,unhide HRs,hk,rfl,TV.row 7 99 (by simp) ts _ us hR hT,unhide HP2⟩⟩
theorem ihyp_all(pb:Nat)(a:Option Addr)(c:Nat)(L:List (Tok×ByteArray)): ∀f g,g<=f->IHyp pb a c L g
 | f,0,_=>⟨fun _ _ _ h=>by omega,fun _ _ _ _ _ _ h=>by omega,fun _ _ _ h=>by omega,fun _ _ _ h=>by omega,fun _ _ _ h=>by omega,fun _ _ _ h=>by omega,fun _ _ _ h=>by omega⟩
 | 0,g+1,h=>by omega
 | f+1,g+1,h=>by
  have H: ∀q,q<=g->IHyp pb a c L q:=fun q hq=>ihyp_all pb a c L f q (by omega)
  exact⟨fun W k hP hf=>scalar_calls hP g hf (H g (Nat.le_refl _)),fun W k la ln lc hP hf=>tail_calls hP g hf H la ln lc,fun W k hP hf=>prim_calls hP g hf (H g (Nat.le_refl _)),fun W k hP hf=>conj_calls hP g hf H,fun W k hP hf=>cond_calls hP g hf H,fun W k hP hf=>selection_calls hP g hf H,fun W k hP hf=>query_calls hP g hf H⟩
set_option maxHeartbeats 4000000 in
set_option maxRecDepth 100000 in
theorem whole_calls{w:World}{pb:Nat}{a:Option Addr}{c:Nat}{L:List (Tok×ByteArray)}(h:PO w pb a c L 0)(f:Nat)(hf:2+8*L.length<f):Calls Tryz.prog 17 #[.pointer (some ⟨pb,0,none⟩)] w fun e w'=>ButB (atP pb) w w'/\((∃t ty u,iP f .query (tks L)=some ([t],[])/\e= .returned (.iface ty u)/\TV w' (fun b=>w.heap.size<=b) t (.iface ty u))\/((∀t,iP f .query (tks L)≠some ([t],[]))/\e=mis)):=by
 have HC:=hide ((ihyp_all pb a c L f f (Nat.le_refl _)).qu w 0 h (by omega))
 rw[List.drop_zero]at HC
 have hpw:=h.p.lt
 clear h
 go_enter Tryz.func17,Tryz.ntmps17
 go_wp2_with fail
 refine(unhide HC).mono ?_
 rintro e w1 ⟨hb1,⟨hr1,rfl⟩ | ⟨t,k1,ty,u,hr1,hk1,rfl,hT1,hP1⟩⟩
 ·have HB1:=hide hb1;have HR1:=hide hr1
  clear hb1 hr1 HC
  go_wp2
  exact⟨rfl,unhide HB1,Or.inr ⟨fun t e=>(by rw[unhide HR1]at e;cases e),rfl⟩⟩
 have HB1:=hide hb1;have HR1:=hide hr1;have HT1:=hide hT1
 clear hb1 hr1 hT1 HC
 by_cases hd:(tks L).drop k1=[]
 ·have HN:=hide (nk_any hP1 0 0 ⟨#[]⟩ (hd_nil hd))
  have HD:=hide hd
  clear hP1 hd
  go_wp2_with fail
  refine(unhide HN).mono ?_;rintro e w2 ⟨rfl,_,hb2⟩
  have HB2:=hide hb2
  clear hb2 HN
  go_wp2
  go_ret
  exact⟨(unhide HB1).trans (unhide HB2),Or.inl ⟨t,ty,u,by rw[unhide HR1,unhide HD],rfl,(unhide HT1).but (unhide HB2) (fun b h1 _ e=>by unfold atP at e;omega)⟩⟩
 ·obtain⟨K,T,V,hv,hK⟩: ∃K T V,HdV L k1 K T V/\K≠0:=by
   cases hq:(tks L).drop k1 with
   | nil=>exact absurd hq hd
   | cons t r=>
    cases t with
    | nam s=>exact⟨2,_,0,hd_nam hP1.p.toks hq,by omega⟩
    | num v=>obtain⟨T,hT⟩:=hd_num hq;exact⟨3,T,v,hT,by omega⟩
    | sy q=>obtain⟨_,K,T,h1,h2,_⟩:=hd_sy hP1.p.toks hq;exact⟨K,T,0,h1,by omega⟩
  have HN:=hide (nk_no hP1 0 K V T hv hK)
  have HD:=hide hd
  clear hP1 hd hv hK
  go_wp2_with fail
  refine(unhide HN).mono ?_;rintro e w2 ⟨rfl,hb2⟩
  have HB2:=hide hb2
  clear hb2 HN
  go_wp2
  refine⟨rfl,(unhide HB1).trans (ButB.ofBelow (unhide HB2)),Or.inr ⟨fun t' e=> ?_,rfl⟩⟩
  rw[unhide HR1]at e
  simp only[Option.some.injEq,Prod.mk.injEq]at e
  exact unhide HD e.2
end Go.Proofs.YtmggnimiioepeaaGreatDoor.Pa
namespace Go.Proofs.YtmggnimiioepeaaGreatDoor.Pa
open Go Go.RowKit
theorem slice_high0(g n c:Nat)(w:World):(Instr.slice 72 (.slice (some ⟨g,0,none⟩) n c) none (some (.int .i64 0)) none).run Tryz.prog w= .ok (.slice (some ⟨g,0,none⟩) 0 c) w:=by
 have ht:Tryz.prog.underlying 72=some (.slice (Tryz.prog.elem 72)):=by kernel_rfl
 have hs: ∀w,(sizeOf (Tryz.prog.elem 72)).run Tryz.prog w= .ok 1 w:=fun _=>by kernel_rfl
 rw[run_slice_h _ _ _ _ _ ht .i64 0 (by omega) (by omega),hs]
 simp[Result.andThen,sliced,Addr.add]
theorem own_zerosT(w:World)(n cap:Nat)(z:Value)(hz:z.cells.size=1)(hn:n<=cap)(hc:cap<=maxLen):(w.drew.alloc (.cells (Builtin.zeroCells z.cells n++Builtin.zeroCells z.cells (cap-n)) 48)).ownsRow w.heap.size 48 1 (.slice (some ⟨w.heap.size,0,none⟩) 0 cap) 0 []:=
 ⟨rfl,Or.inr ⟨w.heap.size,cap,_,rfl,Nat.le_refl _,(MapKept.heap_alloc w.drew _).1,Nat.zero_le _,hc,by rw[Array.size_append,size_zeroCells,size_zeroCells,hz];omega,by simp⟩⟩
set_option maxRecDepth 100000 in
set_option maxHeartbeats 2000000 in
theorem GrowT(n:Nat)(h0:0<n)(hn:n<=1048576)(w:World):Calls Tryz.prog 147 #[.slice none 0 0,.int .i64 (n:Int)] w fun e w'=> ∃g c,e= .returned (.slice (some ⟨g,0,none⟩) 0 c)/\w'.ownsRow w.heap.size 48 1 (.slice (some ⟨g,0,none⟩) 0 c) 0 []/\Below w.heap.size w w':=by
 obtain⟨i,hi,hz⟩:=Option.map_eq_some_iff.1 (show(Tryz.prog.info? 48).map (fun i=>(i.zero,i.size,i.bytes))=some (some .nilIface,1,16)by kernel_rfl)
 simp only[Prod.mk.injEq]at hz
 obtain⟨hz0,hz1,hz2⟩:=hz
 have hti:Tryz.prog.underlying 3=some (.int .i64):=by kernel_rfl
 have HR:=hide (Lib.run_append_nil_zeros (P:=Tryz.prog) w 72 3 72 48 i _ .i64 .i64 Tryz.underlying72 hti hi hz0 n h0 (by omega) (by omega) (by rw[hz2];omega))
 have HO:=hide (own_zerosT w n (grownCap w n 0 48) .nilIface rfl (grownCap_ge w n 0 _) (grownCap_le_maxLen w n 0 _ (by unfold maxLen;omega)))
 have HB:Hid (Below w.heap.size w (w.drew.alloc (.cells (Builtin.zeroCells (Value.nilIface).cells n++Builtin.zeroCells (Value.nilIface).cells (grownCap w n 0 48-n)) 48))):=bA (Below.drew (Below.refl _ _)) _
 generalize(w.drew.alloc (.cells (Builtin.zeroCells (Value.nilIface).cells n++Builtin.zeroCells (Value.nilIface).cells (grownCap w n 0 48-n)) 48))=W at HR HO HB
 generalize grownCap w n 0 48=c at HR HO
 have h1: ¬(n:Int)<0:=by omega
 have h2:(n:Int)>0:=by omega
 have hsl:=slice_high0 w.heap.size n c
 have hw:IntKind.i64.wrap (n:Int)=n:=wrap_small _ (by omega) (by omega)
 go_enter Tryz.func147,Tryz.ntmps147
 go_wp2_with (at_builtin;refine Lib.wpList_append_run _ rfl _ _ _ _ rfl _ _ rfl rfl _ _ (unhide HR) ?_)
 go_ret
 exact⟨_,_,rfl,unhide HO,unhide HB⟩
theorem SrcC.of{w w1:World}{z m c:Nat}{xa:Option Addr}{news:List Value}(h:SrcC w z xa m c news)(hb:Below w.heap.size w w1)(hl: ∀b,blk xa=some b->b<w.heap.size):SrcC w1 z xa m c news:=by
 refine⟨h.1,h.2.1,h.2.2.imp id (fun⟨G,e1,e2⟩=>⟨G,e1,fun j u hj=> ?_⟩)⟩
 have hG:G<w.heap.size:=hl G (by rw[e1];rfl)
 exact(hb.cell (p:=⟨G,j,none⟩) hG).trans (e2 j u hj)
set_option maxRecDepth 100000 in
set_option maxHeartbeats 4000000 in
theorem Concat2(w:World)(A:Nat)(la qa:Option Addr)(lc qc:Nat)(lv qv:List Value)(hA:A<w.heap.size)(h0:w.cell? ⟨A,0,none⟩=some (.slice la lv.length lc))(h1:w.cell? ⟨A,1,none⟩=some (.slice qa qv.length qc))(hl:SrcC w 1 la lv.length lc lv)(hq:SrcC w 1 qa qv.length qc qv)(hla: ∀b,blk la=some b->b<w.heap.size)(hqa: ∀b,blk qa=some b->b<w.heap.size)(hn:0<qv.length)(hm:lv.length+qv.length<=100000):
  Calls Tryz.prog 146 #[.slice (some ⟨A,0,none⟩) 2 2] w fun e w'=> ∃ra rc,e= .returned (.slice ra (lv.length+qv.length) rc)/\w'.ownsRow w.heap.size 48 1 (.slice ra (lv.length+qv.length) rc) (lv.length+qv.length) (lv++qv)/\Below w.heap.size w w':=by
 obtain⟨ti,hti,hz⟩:=Option.map_eq_some_iff.1 (show(Tryz.prog.info? 48).map (fun i=>(i.zero,i.size,i.bytes))=some (some .nilIface,1,16)by kernel_rfl)
 simp only[Prod.mk.injEq]at hz
 obtain⟨hz0,hz1,hz2⟩:=hz
 have HLs:=hide hl;have HQs:=hide hq;have HLa:=hide hla;have HQa:=hide hqa
 clear hl hq hla hqa
 have HG:=hide (GrowT (lv.length+qv.length) (by omega) (by omega) w)
 have e1:((lv.length+qv.length:Nat):Int)=(lv.length:Int)+(qv.length:Int):=by omega
 rw[e1]at HG
 have j1: ¬(lv.length:Int)<0:=by omega
 have j2: ¬(lv.length:Int)+(qv.length:Int)<0:=by omega
 clear e1
 go_enter Tryz.func146,Tryz.ntmps146
 go_wp2
 refine wp_loop_rounds 3 ?_
 rw[rounds_succ]
 go_wp2
 rw[rounds_succ]
 go_wp2
 rw[rounds_succ]
 go_wp2_with fail
 refine(unhide HG).mono ?_
 rintro e w1 ⟨g,c,rfl,hown,hb1⟩
 have c0:w1.cell? ⟨A,0,none⟩=some (.slice la lv.length lc):=(hb1.cell (p:=⟨A,0,none⟩) hA).trans h0
 have c1:w1.cell? ⟨A,1,none⟩=some (.slice qa qv.length qc):=(hb1.cell (p:=⟨A,1,none⟩) hA).trans h1
 have hA1:A<w1.heap.size:=Nat.lt_of_lt_of_le hA hb1.size
 have HO:=hide hown;have HB1:=hide hb1
 have hz1w:w.heap.size<=w1.heap.size:=hb1.size
 clear hown hb1 HG
 have HL1:=hide ((unhide HLs).of (unhide HB1) (unhide HLa))
 go_wp2_with fail
 refine wp_loop_rounds 3 ?_
 rw[rounds_succ]
 go_wp2_with (at_builtin;refine wpList_append_gen w1 rfl (.tmp 31) (.tmp 32) 72 rfl w.heap.size 48 ti _ 1 16 Tryz.underlying72 hti hz0 hz1 hz2 rfl (by decide) (some ⟨g,0,none⟩) 0 c [] rfl (unhide HO) la lv.length lc lv rfl (unhide HL1) (by unfold maxLen;omega) (by omega) hz1w ?_;intro ra rc w2 hown2 hgrow hat;have HO2:=hide hown2;have HG2:=hide hgrow;clear hown2 hgrow hat)
 have HB2:Hid (Below w.heap.size w w2):=grown_below (unhide HB1) (unhide HG2) (fun j hj=>((unhide HO).lt j (by rw[own_slice];exact hj)).1)
 rw[Nat.zero_add]at HO2
 have hA2:A<w2.heap.size:=Nat.lt_of_lt_of_le hA (unhide HB2).size
 have d1:w2.cell? ⟨A,1,none⟩=some (.slice qa qv.length qc):=((unhide HB2).cell (p:=⟨A,1,none⟩) hA).trans h1
 have HQ2:=hide ((unhide HQs).of (unhide HB2) (unhide HQa))
 have hz2w:w.heap.size<=w2.heap.size:=(unhide HB2).size
 clear c0 c1 hA1 HL1 HG2
 rw[rounds_succ]
 go_wp2_with (at_builtin;refine wpList_append_gen w2 rfl (.tmp 31) (.tmp 32) 72 rfl w.heap.size 48 ti _ 1 16 Tryz.underlying72 hti hz0 hz1 hz2 rfl (by decide) ra lv.length rc ([]++lv) rfl (unhide HO2) qa qv.length qc qv rfl (unhide HQ2) (by unfold maxLen;omega) (by omega) hz2w ?_;intro ra3 rc3 w3 hown3 hgrow3 hat3;have HO3:=hide hown3;have HG3:=hide hgrow3;clear hown3 hgrow3 hat3)
 have HB3:Hid (Below w.heap.size w w3):=grown_below (unhide HB2) (unhide HG3) (fun j hj=>((unhide HO2).lt j (by rw[own_slice];exact hj)).1)
 rw[rounds_succ]
 go_wp2
 go_ret
 exact⟨ra3,rc3,rfl,by simpa using unhide HO3,unhide HB3⟩
end Go.Proofs.YtmggnimiioepeaaGreatDoor.Pa
