import Derived.Test.YtmggnimiioepeaaGreatDoorQ0
import Derived.Test.YtmggnimiioepeaaGreatDoorQ9
import Derived.Test.YtmggnimiioepeaaGreatDoorQ1
namespace Go.Proofs.YtmggnimiioepeaaGreatDoor.Pa
open Go Go.RowKit
def tkS:Tok->ByteArray->List Value
 | .num v,s=>[.string s,.bool true,.int .i64 v]
 | _,s=>[.string s,.bool false,.int .i64 0]
def flS(L:List (Tok×ByteArray)):List Value:=L.flatMap fun p=>tkS p.1 p.2
theorem flS_snoc(L:List (Tok×ByteArray))(t:Tok)(s:ByteArray):flS (L++[(t,s)])=flS L++tkS t s:=by simp[flS]
theorem slAt(s:ByteArray)(k m:Nat)(hk:k<=m)(hm:m<=s.size)(x:Int)(hx:x=(m:Int))(T:ByteArray)(hT:s.extract k m=T)(w:World):(Instr.slice 9 (.string s) (some (.int .i64 (k:Int))) (some (.int .i64 x)) none).run Tryz.prog w= .ok (.string T) w:=by
 subst hx
 have:=run_slice_string (P:=Tryz.prog) (w:=w) 9 s .i64 .i64 (k:Int) (m:Int) Tryz.underlying9 (by omega) (by omega) (by omega)
 rw[this,<-hT]
 rfl
theorem tok_long{T:ByteArray}(hn: ¬NumB T)(h64: ¬T.size<=64):tokOf T=none:=by
 unfold tokOf
 rw[dB_false hn]
 simp[show 64<T.size by omega]
theorem tok_nonnum{T:ByteArray}(hT:TokB T)(hn: ¬NumB T)(h64:T.size<=64): ∃t,tokOf T=some t/\tkS t T=[.string T,.bool false,.int .i64 0]:=by
 rcases hT with h | h | h
 ·refine⟨_,tok_word h h64,?_⟩
  split<;>rfl
 ·exact absurd h hn
 ·exact⟨_,tok_sign h,rfl⟩
theorem srcNew(W:World)(X:Nat)(vs:List Value)(t:TypeId)(m size:Nat)(hX:W.heap.size=X)(h1: ∀u∈vs,u.oneCell'=true)(hl:vs.length=m*size)(c:Nat):SrcC (W.alloc (.cells vs.toArray t)) size (some ⟨X,0,none⟩) m c vs:=by
 subst hX
 exact⟨hl,h1,Or.inr ⟨_,rfl,fun j u hj=>(CellsAt.new W vs t).all j u hj⟩⟩
def TokPost(s:ByteArray)(w:World)(e:Ending)(w':World):Prop:=
 ∃a c n b,e= .returned (.tuple #[.slice a n c,.bool b])/\Below w.heap.size w w'/\(lex s 0=none->b=false)/\
  ∀L,lex s 0=some L->b=true/\n=L.length/\L.length<=s.size/\(∀p∈L,TOk p.1 p.2)/\w'.ownsRow w.heap.size 55 3 (.slice a n c) n (flS L)
theorem TokPost.no{s:ByteArray}{w w':World}{a:Option Addr}{n c:Nat}(h:lex s 0=none)(hb:Below w.heap.size w w'):TokPost s w (.returned (.tuple #[.slice a n c,.bool false])) w':=
 ⟨a,c,n,false,rfl,hb,fun _=>rfl,fun L hL=>by rw[h]at hL;cases hL⟩
theorem TokPost.yes{s:ByteArray}{w w':World}{a:Option Addr}{c:Nat}{L:List (Tok×ByteArray)}(h:lex s 0=some L)(hb:Below w.heap.size w w')(hl:L.length<=s.size)(hA: ∀p∈L,TOk p.1 p.2)(ho:w'.ownsRow w.heap.size 55 3 (.slice a L.length c) L.length (flS L)):TokPost s w (.returned (.tuple #[.slice a L.length c,.bool true])) w':=by
 refine⟨a,c,L.length,true,rfl,hb,fun h0=>(by rw[h]at h0;cases h0),fun L' hL=> ?_⟩
 rw[h]at hL
 cases hL
 exact⟨rfl,rfl,hl,hA,ho⟩
set_option maxHeartbeats 8000000 in
set_option maxRecDepth 100000 in
theorem l2Tokens_calls(s:ByteArray)(w:World)(hs:s.size<=1000000):Calls Tryz.prog 9 #[.string s] w (TokPost s w):=by
 obtain⟨ti,hti,hz⟩:=Option.map_eq_some_iff.1 (show(Tryz.prog.info? 55).map (fun i=>(i.zero,i.size,i.bytes))=some (some (.agg #[.string ⟨#[]⟩,.bool false,.int .i64 0]),3,32)by kernel_rfl)
 simp only[Prod.mk.injEq]at hz
 obtain⟨hz0,hz1,hz2⟩:=hz
 go_enter Tryz.func9,Tryz.ntmps9
 go_wp2
 go_loopw [4,5] (fun o i wr=> ∃(k:Nat) (acc:List (Tok×ByteArray)) (a:Option Addr) (c:Nat),LexI s k acc/\i= .int .i64 k/\o= .slice a acc.length c/\wr.ownsRow w.heap.size 55 3 (.slice a acc.length c) acc.length (flS acc)/\Below w.heap.size w wr) (fun _ i _=>s.size-(intOf i).toNat)
 case atStart=>exact⟨0,[],some ⟨w.heap.size,0,none⟩,0,LexI.start s,rfl,rfl,World.ownsRow_made w #[] 0 (Nat.le_refl _) (by unfold maxLen;decide) rfl,bA (Below.refl _ _) _⟩
 case round=>
  obtain⟨k,acc,a,c,hlex,rfl,rfl,hown,hb⟩:=hrel
  have HL:=hide hlex;have HO:=hide hown;have HB:=hide hb
  have hks:=hlex.1
  have hal:=hlex.2.1
  clear hlex hown hb
  by_cases hlt:k<s.size
  ·have eb:=byt_eq s k hlt
   have BC:=fun w=>l2Blank_calls (byt s k) w
   have j1:(k:Int)<(s.size:Int):=by omega
   cases hbl:blank (byt s k)
   ·rw[hbl]at BC
    have HBl:=hide hbl
    have HBC:=hide BC
    clear hbl BC
    by_cases h45:byt s k=45
    ·skip
     have hJ1:J1 s k=k+2:=by unfold J1;rw[if_pos h45]
     have HPos:=hide (tln_pos s k hlt)
     have HMax:=hide (tln_max s k hlt)
     rw[hJ1]at HPos HMax
     clear hJ1
     rw[h45]at HBC eb
     clear h45
     by_cases hJs:k+2<=s.size
     rotate_left
     ·have HNo:=hide ((unhide HL).no hlt (unhide HBl) (Or.inl (by
       have: ¬0<tln s k:=fun h=>hJs ((unhide HPos).2 h).1
       omega)))
      have hJ:(s.size:Int)<(k:Int)+2:=by omega
      have HBX:=hide (unhide HB)
      clear HPos HMax HL HO HB
      go_wp2_with fail
      refine(unhide HBC _).mono ?_;rintro e w1 ⟨rfl,rfl⟩
      go_wp2
      go_returns
      exact TokPost.no (unhide HNo) (bA (unhide HBX) _)
     have hJ: ¬(s.size:Int)<(k:Int)+2:=by omega
     have hJ':(k:Int)+2<=(s.size:Int):=by omega
     have TC:=fun w=>l2IsToken_calls (s.extract k (k+2)) w (by rw[ext_size s _ _ hJs];omega)
     have HTk:Hid (dB (TokB (s.extract k (k+2)))=true↔0<tln s k):=by
      show _↔_
      rw[dB_iff,<-(unhide HPos)]
      exact⟨fun h=>⟨hJs,h⟩,fun h=>h.2⟩
     clear HPos
     generalize dB (TokB (s.extract k (k+2)))=p at*
     generalize hT0:s.extract k (k+2)=T0 at*
     have SL:=fun w=>slAt s k (k+2) (by omega) hJs ((k:Int)+2) (by omega) T0 hT0 w
     have HTC:=hide TC
     clear TC
     cases p
     ·have HNo:=hide ((unhide HL).no hlt (unhide HBl) (Or.inl (by
       have: ¬0<tln s k:=fun h=>by have:=(unhide HTk).2 h;cases this
       omega)))
      have HBX:=hide (unhide HB)
      clear HMax HL HO HB HTk
      go_wp2_with fail
      refine(unhide HBC _).mono ?_;rintro e w1 ⟨rfl,rfl⟩
      go_wp2_with fail
      refine(unhide HTC _).mono ?_;rintro e w1 ⟨rfl,rfl⟩
      go_wp2
      go_returns
      exact TokPost.no (unhide HNo) (bA (unhide HBX) _)
     have hpos:=(unhide HTk).1 rfl
     clear HTk
     go_wp2_with fail
     refine(unhide HBC _).mono ?_;rintro e w1 ⟨rfl,rfl⟩
     go_wp2_with fail
     refine(unhide HTC _).mono ?_;rintro e w1 ⟨rfl,rfl⟩
     clear HTC HBC hT0 SL hJ hJ'
     go_wp2
     rename World=>wo
     go_loopw [6] (fun j wr2=> ∃m:Nat,k+2<=m/\m<=s.size/\j= .int .i64 m/\(∀q,k+2<=q->q<m->LongB (s.extract k q) (byt s q))/\Below wo.heap.size wo wr2) (fun j _=>s.size-(intOf j).toNat)
     case atStart=>exact⟨k+2,Nat.le_refl _,hJs,by go_num,fun q a b=>by omega,Below.refl _ _⟩
     case round=>
      obtain⟨m,hm1,hm2,rfl,hall,hb2⟩:=hrel
      have HAll:=hide hall;have HB2:=hide hb2
      clear hall hb2
      rename World=>W0
      have hTe:s.extract k m=s.extract k m:=rfl
      generalize hT1:s.extract k m=T at hTe
      have SL:=fun w=>slAt s k m (by omega) hm2 (m:Int) rfl T hT1 w
      have hTz:T.size=m-k:=by rw[<-hT1];exact ext_size s k m hm2
      by_cases hlm:m<s.size
      ·obtain⟨b,_,hbm⟩:=byt_get s m hlm
       have LC:=fun w=>l2Longer_calls T b w (by omega) (by omega)
       have ebm:=byt_eq s m hlm
       have jm:(m:Int)<(s.size:Int):=by omega
       rw[hbm]at ebm
       by_cases hlg:LongB T (b.toNat:Int)
       ·rw[dB_true hlg]at LC
        have HLC:=hide LC
        have HAll2:Hid (∀q,k+2<=q->q<m+1->LongB (s.extract k q) (byt s q)):=fun q h1 h2=>by
         by_cases e:q=m
         ·subst e;rw[hT1,hbm];exact hlg
         ·exact unhide HAll q h1 (by omega)
        clear LC hlg HAll
        go_upto_region 11 with fail
        refine wp_region_held_drew (S:=Std W0) (by kernel_rfl) (Std.drew (Std.refl _)) (fun hHeld=> ?_)
        refine tW 0 41 (.int .i64 (m:Int)) ?_
        simp only[puts]
        refine tW 1 42 (.string s) ?_
        simp only[puts]
        refine tW 2 43 (.int .i64 (s.size:Int)) ?_
        simp only[puts]
        refine tW 3 44 (.bool true) ?_
        simp only[puts]
        refine tW 4 45 (.bool true) ?_
        simp only[puts]
        refine tW 5 46 (.string s) ?_
        simp only[puts]
        refine tW 6 47 (.int .i64 (k:Int)) ?_
        simp only[puts]
        refine tW 7 48 (.int .i64 (m:Int)) ?_
        simp only[puts]
        refine tW 8 49 (.string T) ?_
        simp only[puts]
        refine tW 9 50 (.string s) ?_
        simp only[puts]
        refine tW 10 51 (.int .i64 (m:Int)) ?_
        simp only[puts]
        refine tW 11 52 (.int .u8 (b.toNat:Int)) ?_
        simp only[puts]
        refine wpAnyH_ready (rs:=[12]) (by kernel_rfl) (by simp) ?_
        refine AllReadyH.cons rfl (fun Kx hK=> ?_) AllReadyH.nil
        go_simp
        refine(unhide HLC _).mono ?_
        rintro e W2 ⟨rfl,hb3⟩
        refine hK.out _ _ (Std.call (by assumption) hb3) (fun hHeld2=> ?_)
        clear hK Kx
        refine tW 13 54 (.bool true) ?_
        simp only[puts]
        refine wpAnyH_done (by kernel_rfl) ?_ _
        have HB3:Hid (Below wo.heap.size wo W2):=bT (unhide HB2) hHeld2.2.2
        clear hHeld hHeld2 hb3 HLC HB2
        go_wp2
        go_roundw
        case rel=>exact⟨m+1,by omega,by omega,by go_num,unhide HAll2,unhide HB3⟩
        case measure=>simp[intOf];omega
       ·rw[dB_false hlg]at LC
        have HLC:=hide LC
        have hmx:m=k+tln s k:=unhide HMax hpos m hm1 hm2 (unhide HAll) (Or.inr (by rw[hT1,hbm];exact hlg))
        have hT:T=ttx s k:=by rw[<-hT1,hmx];rfl
        have HMx:=hide hmx;have HT:=hide hT
        clear LC hlg HAll hmx hT
        go_upto_region 11 with fail
        refine wp_region_held_drew (S:=Std W0) (by kernel_rfl) (Std.drew (Std.refl _)) (fun hHeld=> ?_)
        refine tW 0 41 (.int .i64 (m:Int)) ?_
        simp only[puts]
        refine tW 1 42 (.string s) ?_
        simp only[puts]
        refine tW 2 43 (.int .i64 (s.size:Int)) ?_
        simp only[puts]
        refine tW 3 44 (.bool true) ?_
        simp only[puts]
        refine tW 4 45 (.bool true) ?_
        simp only[puts]
        refine tW 5 46 (.string s) ?_
        simp only[puts]
        refine tW 6 47 (.int .i64 (k:Int)) ?_
        simp only[puts]
        refine tW 7 48 (.int .i64 (m:Int)) ?_
        simp only[puts]
        refine tW 8 49 (.string T) ?_
        simp only[puts]
        refine tW 9 50 (.string s) ?_
        simp only[puts]
        refine tW 10 51 (.int .i64 (m:Int)) ?_
        simp only[puts]
        refine tW 11 52 (.int .u8 (b.toNat:Int)) ?_
        simp only[puts]
        refine wpAnyH_ready (rs:=[12]) (by kernel_rfl) (by simp) ?_
        refine AllReadyH.cons rfl (fun Kx hK=> ?_) AllReadyH.nil
        go_simp
        refine(unhide HLC _).mono ?_
        rintro e W2 ⟨rfl,hb3⟩
        refine hK.out _ _ (Std.call (by assumption) hb3) (fun hHeld2=> ?_)
        clear hK Kx
        refine tW 13 54 (.bool false) ?_
        simp only[puts]
        refine wpAnyH_done (by kernel_rfl) ?_ _
        have HB3:Hid (Below wo.heap.size wo W2):=bT (unhide HB2) hHeld2.2.2
        clear hHeld hHeld2 hb3 HLC HB2
        have hT:=unhide HT
        have hTs:T.size=tln s k:=by rw[hT,ttx_size s k hlt]
        have hTk:TokB T:=by rw[hT];exact ttx_TokB s k hlt hpos
        have hsz3:=(unhide HB3).size
        have hszB:=(unhide HB).size
        have NC:=fun w=>l2IsNumber_calls T w (by omega)
        clear hT
        by_cases hn:NumB T
        ·rw[dB_true hn]at NC
         have HNC:=hide NC
         have DC:=fun w=>l2Digits_calls T w (by omega) (by omega)
         clear NC
         by_cases h18:T.size-frn T<=18
         ·have HVC:=hide (fun w=>l2Value_calls T w (by omega) h18)
          have HL2:Hid (LexI s m (acc++[(.num (nVal T),T)])):=by
           show LexI _ _ _
           have h9:=(unhide HL).tok hlt (unhide HBl) hpos (.num (nVal T)) (by rw[<-unhide HT,tok_num hn,if_pos h18])
           rw[<-unhide HT,<-unhide HMx]at h9
           exact h9
          generalize T.size-frn T=n18 at*
          generalize nVal T=V at*
          have HDC:=hide DC
          clear DC
          have j18: ¬(18:Int)<(n18:Int):=by omega
          go_wp2_with fail
          refine(unhide HNC _).mono ?_;rintro e w9 ⟨rfl,rfl⟩
          go_wp2_with fail
          refine(unhide HDC _).mono ?_;rintro e w9 ⟨rfl,rfl⟩
          go_wp2_with fail
          refine(unhide HVC _).mono ?_;rintro e w9 ⟨rfl,rfl⟩
          go_wp2_with (at_builtin;refine wpList_append_gen _ rfl (.tmp 77) (.tmp 79) 30 rfl w.heap.size 55 ti _ 3 32 Tryz.underlying30 hti hz0 hz1 hz2 rfl (by decide) a acc.length c (flS acc) rfl (own_below (unhide HO) (by(repeat first | refine bA ?_ _ | refine Below.setCell ?_ (by dsimp only;omega) _);exact unhide HB3)) (some ⟨W2.heap.size+1,0,none⟩) 1 1 [.string T,.bool true,.int .i64 V] rfl (srcNew _ _ [.string T,.bool true,.int .i64 V] _ 1 3 (by simp) (by simp[Value.oneCell']) rfl 1) (by unfold maxLen;omega) (by omega) (by simp;omega) ?_;intro ra rc w5 hown2 hgrow hat)
          have HO2:=hide hown2
          have HB5:=hide (grown_below (by(repeat first | refine bA ?_ _ | refine Below.setCell ?_ (by dsimp only;omega) _);exact bT (unhide HB) (unhide HB3)) hgrow (fun j hj=>((unhide HO).lt j (by rw[own_slice];exact hj)).1))
          clear hown2 hgrow hat
          go_wp2
          go_roundw
          case rel=>exact⟨m,acc++[(_,T)],ra,rc,unhide HL2,rfl,by simp,by rw[List.length_append,flS_snoc];exact unhide HO2,unhide HB5⟩
          case measure=>simp[intOf];omega
         ·have HNo:=hide ((unhide HL).no hlt (unhide HBl) (Or.inr (by rw[<-unhide HT,tok_num hn,if_neg h18])))
          generalize T.size-frn T=n18 at*
          have HDC:=hide DC
          clear DC
          have j18:(18:Int)<(n18:Int):=by omega
          have HBX:=hide (bT (unhide HB) (unhide HB3))
          clear HL HO HB HB3
          go_wp2_with fail
          refine(unhide HNC _).mono ?_;rintro e w9 ⟨rfl,rfl⟩
          go_wp2_with fail
          refine(unhide HDC _).mono ?_;rintro e w9 ⟨rfl,rfl⟩
          go_wp2
          go_returns
          exact TokPost.no (unhide HNo) (bA (bA (unhide HBX) _) _)
        ·rw[dB_false hn]at NC
         have HNC:=hide NC
         clear NC
         by_cases h64:T.size<=64
         ·obtain⟨t,ht,htk⟩:=tok_nonnum hTk hn h64
          have HL2:Hid (LexI s m (acc++[(t,T)])):=by
           show LexI _ _ _
           have h9:=(unhide HL).tok hlt (unhide HBl) hpos t (by rw[<-unhide HT,ht])
           rw[<-unhide HT,<-unhide HMx]at h9
           exact h9
          have Htk:=hide htk
          have j64: ¬(64:Int)<(T.size:Int):=by omega
          clear htk ht
          go_wp2_with fail
          refine(unhide HNC _).mono ?_;rintro e w9 ⟨rfl,rfl⟩
          go_wp2_with (at_builtin;refine wpList_append_gen _ rfl (.tmp 77) (.tmp 79) 30 rfl w.heap.size 55 ti _ 3 32 Tryz.underlying30 hti hz0 hz1 hz2 rfl (by decide) a acc.length c (flS acc) rfl (own_below (unhide HO) (by(repeat first | refine bA ?_ _ | refine Below.setCell ?_ (by dsimp only;omega) _);exact unhide HB3)) (some ⟨W2.heap.size+1,0,none⟩) 1 1 [.string T,.bool false,.int .i64 0] rfl (srcNew _ _ [.string T,.bool false,.int .i64 0] _ 1 3 (by simp) (by simp[Value.oneCell']) rfl 1) (by unfold maxLen;omega) (by omega) (by simp;omega) ?_;intro ra rc w5 hown2 hgrow hat)
          have HO2:=hide hown2
          have HB5:=hide (grown_below (by(repeat first | refine bA ?_ _ | refine Below.setCell ?_ (by dsimp only;omega) _);exact bT (unhide HB) (unhide HB3)) hgrow (fun j hj=>((unhide HO).lt j (by rw[own_slice];exact hj)).1))
          clear hown2 hgrow hat
          go_wp2
          go_roundw
          case rel=>exact⟨m,acc++[(_,T)],ra,rc,unhide HL2,rfl,by simp,by rw[List.length_append,flS_snoc];rw[unhide Htk];exact unhide HO2,unhide HB5⟩
          case measure=>simp[intOf];omega
         ·have HNo:=hide ((unhide HL).no hlt (unhide HBl) (Or.inr (by rw[<-unhide HT,tok_long hn h64])))
          have j64:(64:Int)<(T.size:Int):=by omega
          have HBX:=hide (bT (unhide HB) (unhide HB3))
          clear HL HO HB HB3
          go_wp2_with fail
          refine(unhide HNC _).mono ?_;rintro e w9 ⟨rfl,rfl⟩
          go_wp2
          go_returns
          exact TokPost.no (unhide HNo) (bA (bA (unhide HBX) _) _)
      ·have hmx:m=k+tln s k:=unhide HMax hpos m hm1 hm2 (unhide HAll) (Or.inl (by omega))
       have hT:T=ttx s k:=by rw[<-hT1,hmx];rfl
       have HMx:=hide hmx;have HT:=hide hT
       have jm: ¬(m:Int)<(s.size:Int):=by omega
       clear HAll hmx hT
       go_upto_region 11 with fail
       refine wp_region_held_drew (S:=Std W0) (by kernel_rfl) (Std.drew (Std.refl _)) (fun hHeld=> ?_)
       refine tW 0 41 (.int .i64 (m:Int)) ?_
       simp only[puts]
       refine tW 1 42 (.string s) ?_
       simp only[puts]
       refine tW 2 43 (.int .i64 (s.size:Int)) ?_
       simp only[puts]
       refine tW 3 44 (.bool false) ?_
       simp only[puts]
       refine tW 4 45 (.bool false) ?_
       simp only[puts]
       refine tU 5 46 ?_
       simp only[puts]
       refine tU 6 47 ?_
       simp only[puts]
       refine tU 7 48 ?_
       simp only[puts]
       refine tU 8 49 ?_
       simp only[puts]
       refine tU 9 50 ?_
       simp only[puts]
       refine tU 10 51 ?_
       simp only[puts]
       refine tU 11 52 ?_
       simp only[puts]
       refine tU 12 53 ?_
       simp only[puts]
       refine tW 13 54 (.bool false) ?_
       simp only[puts]
       refine wpAnyH_done (by kernel_rfl) ?_ _
       have HB3:Hid (Below wo.heap.size wo W0.drew):=(unhide HB2).drew
       clear hHeld HB2
       generalize W0.drew=W2 at*
       have hT:=unhide HT
       have hTs:T.size=tln s k:=by rw[hT,ttx_size s k hlt]
       have hTk:TokB T:=by rw[hT];exact ttx_TokB s k hlt hpos
       have hsz3:=(unhide HB3).size
       have hszB:=(unhide HB).size
       have NC:=fun w=>l2IsNumber_calls T w (by omega)
       clear hT
       by_cases hn:NumB T
       ·rw[dB_true hn]at NC
        have HNC:=hide NC
        have DC:=fun w=>l2Digits_calls T w (by omega) (by omega)
        clear NC
        by_cases h18:T.size-frn T<=18
        ·have HVC:=hide (fun w=>l2Value_calls T w (by omega) h18)
         have HL2:Hid (LexI s m (acc++[(.num (nVal T),T)])):=by
          show LexI _ _ _
          have h9:=(unhide HL).tok hlt (unhide HBl) hpos (.num (nVal T)) (by rw[<-unhide HT,tok_num hn,if_pos h18])
          rw[<-unhide HT,<-unhide HMx]at h9
          exact h9
         generalize T.size-frn T=n18 at*
         generalize nVal T=V at*
         have HDC:=hide DC
         clear DC
         have j18: ¬(18:Int)<(n18:Int):=by omega
         go_wp2_with fail
         refine(unhide HNC _).mono ?_;rintro e w9 ⟨rfl,rfl⟩
         go_wp2_with fail
         refine(unhide HDC _).mono ?_;rintro e w9 ⟨rfl,rfl⟩
         go_wp2_with fail
         refine(unhide HVC _).mono ?_;rintro e w9 ⟨rfl,rfl⟩
         go_wp2_with (at_builtin;refine wpList_append_gen _ rfl (.tmp 77) (.tmp 79) 30 rfl w.heap.size 55 ti _ 3 32 Tryz.underlying30 hti hz0 hz1 hz2 rfl (by decide) a acc.length c (flS acc) rfl (own_below (unhide HO) (by(repeat first | refine bA ?_ _ | refine Below.setCell ?_ (by dsimp only;omega) _);exact unhide HB3)) (some ⟨W2.heap.size+1,0,none⟩) 1 1 [.string T,.bool true,.int .i64 V] rfl (srcNew _ _ [.string T,.bool true,.int .i64 V] _ 1 3 (by simp) (by simp[Value.oneCell']) rfl 1) (by unfold maxLen;omega) (by omega) (by simp;omega) ?_;intro ra rc w5 hown2 hgrow hat)
         have HO2:=hide hown2
         have HB5:=hide (grown_below (by(repeat first | refine bA ?_ _ | refine Below.setCell ?_ (by dsimp only;omega) _);exact bT (unhide HB) (unhide HB3)) hgrow (fun j hj=>((unhide HO).lt j (by rw[own_slice];exact hj)).1))
         clear hown2 hgrow hat
         go_wp2
         go_roundw
         case rel=>exact⟨m,acc++[(_,T)],ra,rc,unhide HL2,rfl,by simp,by rw[List.length_append,flS_snoc];exact unhide HO2,unhide HB5⟩
         case measure=>simp[intOf];omega
        ·have HNo:=hide ((unhide HL).no hlt (unhide HBl) (Or.inr (by rw[<-unhide HT,tok_num hn,if_neg h18])))
         generalize T.size-frn T=n18 at*
         have HDC:=hide DC
         clear DC
         have j18:(18:Int)<(n18:Int):=by omega
         have HBX:=hide (bT (unhide HB) (unhide HB3))
         clear HL HO HB HB3
         go_wp2_with fail
         refine(unhide HNC _).mono ?_;rintro e w9 ⟨rfl,rfl⟩
         go_wp2_with fail
         refine(unhide HDC _).mono ?_;rintro e w9 ⟨rfl,rfl⟩
         go_wp2
         go_returns
         exact TokPost.no (unhide HNo) (bA (bA (unhide HBX) _) _)
       ·rw[dB_false hn]at NC
        have HNC:=hide NC
        clear NC
        by_cases h64:T.size<=64
        ·obtain⟨t,ht,htk⟩:=tok_nonnum hTk hn h64
         have HL2:Hid (LexI s m (acc++[(t,T)])):=by
          show LexI _ _ _
          have h9:=(unhide HL).tok hlt (unhide HBl) hpos t (by rw[<-unhide HT,ht])
          rw[<-unhide HT,<-unhide HMx]at h9
          exact h9
         have Htk:=hide htk
         have j64: ¬(64:Int)<(T.size:Int):=by omega
         clear htk ht
         go_wp2_with fail
         refine(unhide HNC _).mono ?_;rintro e w9 ⟨rfl,rfl⟩
         go_wp2_with (at_builtin;refine wpList_append_gen _ rfl (.tmp 77) (.tmp 79) 30 rfl w.heap.size 55 ti _ 3 32 Tryz.underlying30 hti hz0 hz1 hz2 rfl (by decide) a acc.length c (flS acc) rfl (own_below (unhide HO) (by(repeat first | refine bA ?_ _ | refine Below.setCell ?_ (by dsimp only;omega) _);exact unhide HB3)) (some ⟨W2.heap.size+1,0,none⟩) 1 1 [.string T,.bool false,.int .i64 0] rfl (srcNew _ _ [.string T,.bool false,.int .i64 0] _ 1 3 (by simp) (by simp[Value.oneCell']) rfl 1) (by unfold maxLen;omega) (by omega) (by simp;omega) ?_;intro ra rc w5 hown2 hgrow hat)
         have HO2:=hide hown2
         have HB5:=hide (grown_below (by(repeat first | refine bA ?_ _ | refine Below.setCell ?_ (by dsimp only;omega) _);exact bT (unhide HB) (unhide HB3)) hgrow (fun j hj=>((unhide HO).lt j (by rw[own_slice];exact hj)).1))
         clear hown2 hgrow hat
         go_wp2
         go_roundw
         case rel=>exact⟨m,acc++[(_,T)],ra,rc,unhide HL2,rfl,by simp,by rw[List.length_append,flS_snoc];rw[unhide Htk];exact unhide HO2,unhide HB5⟩
         case measure=>simp[intOf];omega
        ·have HNo:=hide ((unhide HL).no hlt (unhide HBl) (Or.inr (by rw[<-unhide HT,tok_long hn h64])))
         have j64:(64:Int)<(T.size:Int):=by omega
         have HBX:=hide (bT (unhide HB) (unhide HB3))
         clear HL HO HB HB3
         go_wp2_with fail
         refine(unhide HNC _).mono ?_;rintro e w9 ⟨rfl,rfl⟩
         go_wp2
         go_returns
         exact TokPost.no (unhide HNo) (bA (bA (unhide HBX) _) _)
    ·skip
     have hJ1:J1 s k=k+1:=by unfold J1;rw[if_neg h45]
     have HPos:=hide (tln_pos s k hlt)
     have HMax:=hide (tln_max s k hlt)
     rw[hJ1]at HPos HMax
     clear hJ1
     have hb45:(byt s k==45)=false:=beq_eq_false_iff_ne.2 h45
     have hJs:k+1<=s.size:=hlt
     have hJ: ¬(s.size:Int)<(k:Int)+1:=by omega
     have hJ':(k:Int)+1<=(s.size:Int):=by omega
     have TC:=fun w=>l2IsToken_calls (s.extract k (k+1)) w (by rw[ext_size s _ _ hJs];omega)
     have HTk:Hid (dB (TokB (s.extract k (k+1)))=true↔0<tln s k):=by
      show _↔_
      rw[dB_iff,<-(unhide HPos)]
      exact⟨fun h=>⟨hJs,h⟩,fun h=>h.2⟩
     clear HPos
     generalize dB (TokB (s.extract k (k+1)))=p at*
     generalize hT0:s.extract k (k+1)=T0 at*
     have SL:=fun w=>slAt s k (k+1) (by omega) hJs ((k:Int)+1) (by omega) T0 hT0 w
     have HTC:=hide TC
     clear TC
     cases p
     ·have HNo:=hide ((unhide HL).no hlt (unhide HBl) (Or.inl (by
       have: ¬0<tln s k:=fun h=>by have:=(unhide HTk).2 h;cases this
       omega)))
      have HBX:=hide (unhide HB)
      clear HMax HL HO HB HTk
      go_wp2_with fail
      refine(unhide HBC _).mono ?_;rintro e w1 ⟨rfl,rfl⟩
      go_wp2_with fail
      refine(unhide HTC _).mono ?_;rintro e w1 ⟨rfl,rfl⟩
      go_wp2
      go_returns
      exact TokPost.no (unhide HNo) (bA (unhide HBX) _)
     have hpos:=(unhide HTk).1 rfl
     clear HTk
     go_wp2_with fail
     refine(unhide HBC _).mono ?_;rintro e w1 ⟨rfl,rfl⟩
     go_wp2_with fail
     refine(unhide HTC _).mono ?_;rintro e w1 ⟨rfl,rfl⟩
     clear HTC HBC hT0 SL hJ hJ'
     go_wp2
     rename World=>wo
     go_loopw [6] (fun j wr2=> ∃m:Nat,k+1<=m/\m<=s.size/\j= .int .i64 m/\(∀q,k+1<=q->q<m->LongB (s.extract k q) (byt s q))/\Below wo.heap.size wo wr2) (fun j _=>s.size-(intOf j).toNat)
     case atStart=>exact⟨k+1,Nat.le_refl _,hJs,by go_num,fun q a b=>by omega,Below.refl _ _⟩
     case round=>
      obtain⟨m,hm1,hm2,rfl,hall,hb2⟩:=hrel
      have HAll:=hide hall;have HB2:=hide hb2
      clear hall hb2
      rename World=>W0
      have hTe:s.extract k m=s.extract k m:=rfl
      generalize hT1:s.extract k m=T at hTe
      have SL:=fun w=>slAt s k m (by omega) hm2 (m:Int) rfl T hT1 w
      have hTz:T.size=m-k:=by rw[<-hT1];exact ext_size s k m hm2
      by_cases hlm:m<s.size
      ·obtain⟨b,_,hbm⟩:=byt_get s m hlm
       have LC:=fun w=>l2Longer_calls T b w (by omega) (by omega)
       have ebm:=byt_eq s m hlm
       have jm:(m:Int)<(s.size:Int):=by omega
       rw[hbm]at ebm
       by_cases hlg:LongB T (b.toNat:Int)
       ·rw[dB_true hlg]at LC
        have HLC:=hide LC
        have HAll2:Hid (∀q,k+1<=q->q<m+1->LongB (s.extract k q) (byt s q)):=fun q h1 h2=>by
         by_cases e:q=m
         ·subst e;rw[hT1,hbm];exact hlg
         ·exact unhide HAll q h1 (by omega)
        clear LC hlg HAll
        go_upto_region 11 with fail
        refine wp_region_held_drew (S:=Std W0) (by kernel_rfl) (Std.drew (Std.refl _)) (fun hHeld=> ?_)
        refine tW 0 41 (.int .i64 (m:Int)) ?_
        simp only[puts]
        refine tW 1 42 (.string s) ?_
        simp only[puts]
        refine tW 2 43 (.int .i64 (s.size:Int)) ?_
        simp only[puts]
        refine tW 3 44 (.bool true) ?_
        simp only[puts]
        refine tW 4 45 (.bool true) ?_
        simp only[puts]
        refine tW 5 46 (.string s) ?_
        simp only[puts]
        refine tW 6 47 (.int .i64 (k:Int)) ?_
        simp only[puts]
        refine tW 7 48 (.int .i64 (m:Int)) ?_
        simp only[puts]
        refine tW 8 49 (.string T) ?_
        simp only[puts]
        refine tW 9 50 (.string s) ?_
        simp only[puts]
        refine tW 10 51 (.int .i64 (m:Int)) ?_
        simp only[puts]
        refine tW 11 52 (.int .u8 (b.toNat:Int)) ?_
        simp only[puts]
        refine wpAnyH_ready (rs:=[12]) (by kernel_rfl) (by simp) ?_
        refine AllReadyH.cons rfl (fun Kx hK=> ?_) AllReadyH.nil
        go_simp
        refine(unhide HLC _).mono ?_
        rintro e W2 ⟨rfl,hb3⟩
        refine hK.out _ _ (Std.call (by assumption) hb3) (fun hHeld2=> ?_)
        clear hK Kx
        refine tW 13 54 (.bool true) ?_
        simp only[puts]
        refine wpAnyH_done (by kernel_rfl) ?_ _
        have HB3:Hid (Below wo.heap.size wo W2):=bT (unhide HB2) hHeld2.2.2
        clear hHeld hHeld2 hb3 HLC HB2
        go_wp2
        go_roundw
        case rel=>exact⟨m+1,by omega,by omega,by go_num,unhide HAll2,unhide HB3⟩
        case measure=>simp[intOf];omega
       ·rw[dB_false hlg]at LC
        have HLC:=hide LC
        have hmx:m=k+tln s k:=unhide HMax hpos m hm1 hm2 (unhide HAll) (Or.inr (by rw[hT1,hbm];exact hlg))
        have hT:T=ttx s k:=by rw[<-hT1,hmx];rfl
        have HMx:=hide hmx;have HT:=hide hT
        clear LC hlg HAll hmx hT
        go_upto_region 11 with fail
        refine wp_region_held_drew (S:=Std W0) (by kernel_rfl) (Std.drew (Std.refl _)) (fun hHeld=> ?_)
        refine tW 0 41 (.int .i64 (m:Int)) ?_
        simp only[puts]
        refine tW 1 42 (.string s) ?_
        simp only[puts]
        refine tW 2 43 (.int .i64 (s.size:Int)) ?_
        simp only[puts]
        refine tW 3 44 (.bool true) ?_
        simp only[puts]
        refine tW 4 45 (.bool true) ?_
        simp only[puts]
        refine tW 5 46 (.string s) ?_
        simp only[puts]
        refine tW 6 47 (.int .i64 (k:Int)) ?_
        simp only[puts]
        refine tW 7 48 (.int .i64 (m:Int)) ?_
        simp only[puts]
        refine tW 8 49 (.string T) ?_
        simp only[puts]
        refine tW 9 50 (.string s) ?_
        simp only[puts]
        refine tW 10 51 (.int .i64 (m:Int)) ?_
        simp only[puts]
        refine tW 11 52 (.int .u8 (b.toNat:Int)) ?_
        simp only[puts]
        refine wpAnyH_ready (rs:=[12]) (by kernel_rfl) (by simp) ?_
        refine AllReadyH.cons rfl (fun Kx hK=> ?_) AllReadyH.nil
        go_simp
        refine(unhide HLC _).mono ?_
        rintro e W2 ⟨rfl,hb3⟩
        refine hK.out _ _ (Std.call (by assumption) hb3) (fun hHeld2=> ?_)
        clear hK Kx
        refine tW 13 54 (.bool false) ?_
        simp only[puts]
        refine wpAnyH_done (by kernel_rfl) ?_ _
        have HB3:Hid (Below wo.heap.size wo W2):=bT (unhide HB2) hHeld2.2.2
        clear hHeld hHeld2 hb3 HLC HB2
        have hT:=unhide HT
        have hTs:T.size=tln s k:=by rw[hT,ttx_size s k hlt]
        have hTk:TokB T:=by rw[hT];exact ttx_TokB s k hlt hpos
        have hsz3:=(unhide HB3).size
        have hszB:=(unhide HB).size
        have NC:=fun w=>l2IsNumber_calls T w (by omega)
        clear hT
        by_cases hn:NumB T
        ·rw[dB_true hn]at NC
         have HNC:=hide NC
         have DC:=fun w=>l2Digits_calls T w (by omega) (by omega)
         clear NC
         by_cases h18:T.size-frn T<=18
         ·have HVC:=hide (fun w=>l2Value_calls T w (by omega) h18)
          have HL2:Hid (LexI s m (acc++[(.num (nVal T),T)])):=by
           show LexI _ _ _
           have h9:=(unhide HL).tok hlt (unhide HBl) hpos (.num (nVal T)) (by rw[<-unhide HT,tok_num hn,if_pos h18])
           rw[<-unhide HT,<-unhide HMx]at h9
           exact h9
          generalize T.size-frn T=n18 at*
          generalize nVal T=V at*
          have HDC:=hide DC
          clear DC
          have j18: ¬(18:Int)<(n18:Int):=by omega
          go_wp2_with fail
          refine(unhide HNC _).mono ?_;rintro e w9 ⟨rfl,rfl⟩
          go_wp2_with fail
          refine(unhide HDC _).mono ?_;rintro e w9 ⟨rfl,rfl⟩
          go_wp2_with fail
          refine(unhide HVC _).mono ?_;rintro e w9 ⟨rfl,rfl⟩
          go_wp2_with (at_builtin;refine wpList_append_gen _ rfl (.tmp 77) (.tmp 79) 30 rfl w.heap.size 55 ti _ 3 32 Tryz.underlying30 hti hz0 hz1 hz2 rfl (by decide) a acc.length c (flS acc) rfl (own_below (unhide HO) (by(repeat first | refine bA ?_ _ | refine Below.setCell ?_ (by dsimp only;omega) _);exact unhide HB3)) (some ⟨W2.heap.size+1,0,none⟩) 1 1 [.string T,.bool true,.int .i64 V] rfl (srcNew _ _ [.string T,.bool true,.int .i64 V] _ 1 3 (by simp) (by simp[Value.oneCell']) rfl 1) (by unfold maxLen;omega) (by omega) (by simp;omega) ?_;intro ra rc w5 hown2 hgrow hat)
          have HO2:=hide hown2
          have HB5:=hide (grown_below (by(repeat first | refine bA ?_ _ | refine Below.setCell ?_ (by dsimp only;omega) _);exact bT (unhide HB) (unhide HB3)) hgrow (fun j hj=>((unhide HO).lt j (by rw[own_slice];exact hj)).1))
          clear hown2 hgrow hat
          go_wp2
          go_roundw
          case rel=>exact⟨m,acc++[(_,T)],ra,rc,unhide HL2,rfl,by simp,by rw[List.length_append,flS_snoc];exact unhide HO2,unhide HB5⟩
          case measure=>simp[intOf];omega
         ·have HNo:=hide ((unhide HL).no hlt (unhide HBl) (Or.inr (by rw[<-unhide HT,tok_num hn,if_neg h18])))
          generalize T.size-frn T=n18 at*
          have HDC:=hide DC
          clear DC
          have j18:(18:Int)<(n18:Int):=by omega
          have HBX:=hide (bT (unhide HB) (unhide HB3))
          clear HL HO HB HB3
          go_wp2_with fail
          refine(unhide HNC _).mono ?_;rintro e w9 ⟨rfl,rfl⟩
          go_wp2_with fail
          refine(unhide HDC _).mono ?_;rintro e w9 ⟨rfl,rfl⟩
          go_wp2
          go_returns
          exact TokPost.no (unhide HNo) (bA (bA (unhide HBX) _) _)
        ·rw[dB_false hn]at NC
         have HNC:=hide NC
         clear NC
         by_cases h64:T.size<=64
         ·obtain⟨t,ht,htk⟩:=tok_nonnum hTk hn h64
          have HL2:Hid (LexI s m (acc++[(t,T)])):=by
           show LexI _ _ _
           have h9:=(unhide HL).tok hlt (unhide HBl) hpos t (by rw[<-unhide HT,ht])
           rw[<-unhide HT,<-unhide HMx]at h9
           exact h9
          have Htk:=hide htk
          have j64: ¬(64:Int)<(T.size:Int):=by omega
          clear htk ht
          go_wp2_with fail
          refine(unhide HNC _).mono ?_;rintro e w9 ⟨rfl,rfl⟩
          go_wp2_with (at_builtin;refine wpList_append_gen _ rfl (.tmp 77) (.tmp 79) 30 rfl w.heap.size 55 ti _ 3 32 Tryz.underlying30 hti hz0 hz1 hz2 rfl (by decide) a acc.length c (flS acc) rfl (own_below (unhide HO) (by(repeat first | refine bA ?_ _ | refine Below.setCell ?_ (by dsimp only;omega) _);exact unhide HB3)) (some ⟨W2.heap.size+1,0,none⟩) 1 1 [.string T,.bool false,.int .i64 0] rfl (srcNew _ _ [.string T,.bool false,.int .i64 0] _ 1 3 (by simp) (by simp[Value.oneCell']) rfl 1) (by unfold maxLen;omega) (by omega) (by simp;omega) ?_;intro ra rc w5 hown2 hgrow hat)
          have HO2:=hide hown2
          have HB5:=hide (grown_below (by(repeat first | refine bA ?_ _ | refine Below.setCell ?_ (by dsimp only;omega) _);exact bT (unhide HB) (unhide HB3)) hgrow (fun j hj=>((unhide HO).lt j (by rw[own_slice];exact hj)).1))
          clear hown2 hgrow hat
          go_wp2
          go_roundw
          case rel=>exact⟨m,acc++[(_,T)],ra,rc,unhide HL2,rfl,by simp,by rw[List.length_append,flS_snoc];rw[unhide Htk];exact unhide HO2,unhide HB5⟩
          case measure=>simp[intOf];omega
         ·have HNo:=hide ((unhide HL).no hlt (unhide HBl) (Or.inr (by rw[<-unhide HT,tok_long hn h64])))
          have j64:(64:Int)<(T.size:Int):=by omega
          have HBX:=hide (bT (unhide HB) (unhide HB3))
          clear HL HO HB HB3
          go_wp2_with fail
          refine(unhide HNC _).mono ?_;rintro e w9 ⟨rfl,rfl⟩
          go_wp2
          go_returns
          exact TokPost.no (unhide HNo) (bA (bA (unhide HBX) _) _)
      ·have hmx:m=k+tln s k:=unhide HMax hpos m hm1 hm2 (unhide HAll) (Or.inl (by omega))
       have hT:T=ttx s k:=by rw[<-hT1,hmx];rfl
       have HMx:=hide hmx;have HT:=hide hT
       have jm: ¬(m:Int)<(s.size:Int):=by omega
       clear HAll hmx hT
       go_upto_region 11 with fail
       refine wp_region_held_drew (S:=Std W0) (by kernel_rfl) (Std.drew (Std.refl _)) (fun hHeld=> ?_)
       refine tW 0 41 (.int .i64 (m:Int)) ?_
       simp only[puts]
       refine tW 1 42 (.string s) ?_
       simp only[puts]
       refine tW 2 43 (.int .i64 (s.size:Int)) ?_
       simp only[puts]
       refine tW 3 44 (.bool false) ?_
       simp only[puts]
       refine tW 4 45 (.bool false) ?_
       simp only[puts]
       refine tU 5 46 ?_
       simp only[puts]
       refine tU 6 47 ?_
       simp only[puts]
       refine tU 7 48 ?_
       simp only[puts]
       refine tU 8 49 ?_
       simp only[puts]
       refine tU 9 50 ?_
       simp only[puts]
       refine tU 10 51 ?_
       simp only[puts]
       refine tU 11 52 ?_
       simp only[puts]
       refine tU 12 53 ?_
       simp only[puts]
       refine tW 13 54 (.bool false) ?_
       simp only[puts]
       refine wpAnyH_done (by kernel_rfl) ?_ _
       have HB3:Hid (Below wo.heap.size wo W0.drew):=(unhide HB2).drew
       clear hHeld HB2
       generalize W0.drew=W2 at*
       have hT:=unhide HT
       have hTs:T.size=tln s k:=by rw[hT,ttx_size s k hlt]
       have hTk:TokB T:=by rw[hT];exact ttx_TokB s k hlt hpos
       have hsz3:=(unhide HB3).size
       have hszB:=(unhide HB).size
       have NC:=fun w=>l2IsNumber_calls T w (by omega)
       clear hT
       by_cases hn:NumB T
       ·rw[dB_true hn]at NC
        have HNC:=hide NC
        have DC:=fun w=>l2Digits_calls T w (by omega) (by omega)
        clear NC
        by_cases h18:T.size-frn T<=18
        ·have HVC:=hide (fun w=>l2Value_calls T w (by omega) h18)
         have HL2:Hid (LexI s m (acc++[(.num (nVal T),T)])):=by
          show LexI _ _ _
          have h9:=(unhide HL).tok hlt (unhide HBl) hpos (.num (nVal T)) (by rw[<-unhide HT,tok_num hn,if_pos h18])
          rw[<-unhide HT,<-unhide HMx]at h9
          exact h9
         generalize T.size-frn T=n18 at*
         generalize nVal T=V at*
         have HDC:=hide DC
         clear DC
         have j18: ¬(18:Int)<(n18:Int):=by omega
         go_wp2_with fail
         refine(unhide HNC _).mono ?_;rintro e w9 ⟨rfl,rfl⟩
         go_wp2_with fail
         refine(unhide HDC _).mono ?_;rintro e w9 ⟨rfl,rfl⟩
         go_wp2_with fail
         refine(unhide HVC _).mono ?_;rintro e w9 ⟨rfl,rfl⟩
         go_wp2_with (at_builtin;refine wpList_append_gen _ rfl (.tmp 77) (.tmp 79) 30 rfl w.heap.size 55 ti _ 3 32 Tryz.underlying30 hti hz0 hz1 hz2 rfl (by decide) a acc.length c (flS acc) rfl (own_below (unhide HO) (by(repeat first | refine bA ?_ _ | refine Below.setCell ?_ (by dsimp only;omega) _);exact unhide HB3)) (some ⟨W2.heap.size+1,0,none⟩) 1 1 [.string T,.bool true,.int .i64 V] rfl (srcNew _ _ [.string T,.bool true,.int .i64 V] _ 1 3 (by simp) (by simp[Value.oneCell']) rfl 1) (by unfold maxLen;omega) (by omega) (by simp;omega) ?_;intro ra rc w5 hown2 hgrow hat)
         have HO2:=hide hown2
         have HB5:=hide (grown_below (by(repeat first | refine bA ?_ _ | refine Below.setCell ?_ (by dsimp only;omega) _);exact bT (unhide HB) (unhide HB3)) hgrow (fun j hj=>((unhide HO).lt j (by rw[own_slice];exact hj)).1))
         clear hown2 hgrow hat
         go_wp2
         go_roundw
         case rel=>exact⟨m,acc++[(_,T)],ra,rc,unhide HL2,rfl,by simp,by rw[List.length_append,flS_snoc];exact unhide HO2,unhide HB5⟩
         case measure=>simp[intOf];omega
        ·have HNo:=hide ((unhide HL).no hlt (unhide HBl) (Or.inr (by rw[<-unhide HT,tok_num hn,if_neg h18])))
         generalize T.size-frn T=n18 at*
         have HDC:=hide DC
         clear DC
         have j18:(18:Int)<(n18:Int):=by omega
         have HBX:=hide (bT (unhide HB) (unhide HB3))
         clear HL HO HB HB3
         go_wp2_with fail
         refine(unhide HNC _).mono ?_;rintro e w9 ⟨rfl,rfl⟩
         go_wp2_with fail
         refine(unhide HDC _).mono ?_;rintro e w9 ⟨rfl,rfl⟩
         go_wp2
         go_returns
         exact TokPost.no (unhide HNo) (bA (bA (unhide HBX) _) _)
       ·rw[dB_false hn]at NC
        have HNC:=hide NC
        clear NC
        by_cases h64:T.size<=64
        ·obtain⟨t,ht,htk⟩:=tok_nonnum hTk hn h64
         have HL2:Hid (LexI s m (acc++[(t,T)])):=by
          show LexI _ _ _
          have h9:=(unhide HL).tok hlt (unhide HBl) hpos t (by rw[<-unhide HT,ht])
          rw[<-unhide HT,<-unhide HMx]at h9
          exact h9
         have Htk:=hide htk
         have j64: ¬(64:Int)<(T.size:Int):=by omega
         clear htk ht
         go_wp2_with fail
         refine(unhide HNC _).mono ?_;rintro e w9 ⟨rfl,rfl⟩
         go_wp2_with (at_builtin;refine wpList_append_gen _ rfl (.tmp 77) (.tmp 79) 30 rfl w.heap.size 55 ti _ 3 32 Tryz.underlying30 hti hz0 hz1 hz2 rfl (by decide) a acc.length c (flS acc) rfl (own_below (unhide HO) (by(repeat first | refine bA ?_ _ | refine Below.setCell ?_ (by dsimp only;omega) _);exact unhide HB3)) (some ⟨W2.heap.size+1,0,none⟩) 1 1 [.string T,.bool false,.int .i64 0] rfl (srcNew _ _ [.string T,.bool false,.int .i64 0] _ 1 3 (by simp) (by simp[Value.oneCell']) rfl 1) (by unfold maxLen;omega) (by omega) (by simp;omega) ?_;intro ra rc w5 hown2 hgrow hat)
         have HO2:=hide hown2
         have HB5:=hide (grown_below (by(repeat first | refine bA ?_ _ | refine Below.setCell ?_ (by dsimp only;omega) _);exact bT (unhide HB) (unhide HB3)) hgrow (fun j hj=>((unhide HO).lt j (by rw[own_slice];exact hj)).1))
         clear hown2 hgrow hat
         go_wp2
         go_roundw
         case rel=>exact⟨m,acc++[(_,T)],ra,rc,unhide HL2,rfl,by simp,by rw[List.length_append,flS_snoc];rw[unhide Htk];exact unhide HO2,unhide HB5⟩
         case measure=>simp[intOf];omega
        ·have HNo:=hide ((unhide HL).no hlt (unhide HBl) (Or.inr (by rw[<-unhide HT,tok_long hn h64])))
         have j64:(64:Int)<(T.size:Int):=by omega
         have HBX:=hide (bT (unhide HB) (unhide HB3))
         clear HL HO HB HB3
         go_wp2_with fail
         refine(unhide HNC _).mono ?_;rintro e w9 ⟨rfl,rfl⟩
         go_wp2
         go_returns
         exact TokPost.no (unhide HNo) (bA (bA (unhide HBX) _) _)
   ·have HBl:=hide hbl
    rw[hbl]at BC
    have HBC:=hide BC
    have HL2:=hide ((unhide HL).blank hlt hbl)
    clear hbl BC HL
    go_wp2_with fail
    refine(unhide HBC _).mono ?_;rintro e w1 ⟨rfl,rfl⟩
    go_wp2
    go_roundw
    case rel=>exact⟨k+1,acc,a,c,unhide HL2,by go_num,rfl,unhide HO,unhide HB⟩
    case measure=>simp[intOf];omega
  ·have hlt': ¬(k:Int)<(s.size:Int):=by omega
   have HD:=hide ((unhide HL).done (by omega))
   have HA:=hide (unhide HL).2.2.1
   clear HL
   go_wp2
   go_returns
   exact TokPost.yes (unhide HD) (unhide HB) (by omega) (unhide HA) (unhide HO)
end Go.Proofs.YtmggnimiioepeaaGreatDoor.Pa
