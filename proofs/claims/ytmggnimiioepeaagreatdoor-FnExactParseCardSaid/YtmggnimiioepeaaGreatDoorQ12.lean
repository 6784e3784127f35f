import Derived.Test.YtmggnimiioepeaaGreatDoorQ0
import Derived.Test.YtmggnimiioepeaaGreatDoorQ11
import Derived.Test.YtmggnimiioepeaaGreatDoorPaTok
namespace Go.Proofs.YtmggnimiioepeaaGreatDoor.Pa
open Go Go.RowKit
def szOf:Value->Nat
 | .string b=>b.size
 | _=>0
theorem cut_cut(s:ByteArray)(k m:Nat):(s.extract k s.size).extract m (s.extract k s.size).size=s.extract (k+m) s.size:=by
 rw[rsz,ByteArray.extract_extract]
 congr 1
 omega
set_option maxHeartbeats 8000000 in
set_option maxRecDepth 100000 in
theorem scan_calls(s:ByteArray)(w:World)(hs:s.size<=1000000)(hT1:TKw w)(hT2:TSg w):Calls Tryz.prog 13 #[.string s] w (ScanPost s w):=by
 obtain⟨ti,hti,hz⟩:=Option.map_eq_some_iff.1 (show(Tryz.prog.info? 68).map (fun i=>(i.zero,i.size,i.bytes))=some (some (.agg #[.int .i64 0,.string ⟨#[]⟩,.int .i64 0]),3,32)by kernel_rfl)
 simp only[Prod.mk.injEq]at hz
 obtain⟨hz0,hz1,hz2⟩:=hz
 have HK:=hide hT1;have HG:=hide hT2
 clear hT1 hT2
 go_enter Tryz.func13,Tryz.ntmps13
 go_wp2
 go_step3
 go_wp2
 go_step3
 go_wp2
 go_loopw [4,5] (fun o r wr=> ∃(k:Nat) (acc:List (Tok×ByteArray)) (a:Option Addr) (c:Nat) (R:ByteArray),LexI s k acc/\r= .string R/\s.extract k s.size=R/\o= .slice a acc.length c/\wr.ownsRow w.heap.size 68 3 (.slice a acc.length c) acc.length (flI acc)/\Below w.heap.size w wr) (fun _ r _=>szOf r)
 case atStart=>exact⟨0,[],none,0,s,LexI.start s,rfl,ext_all s,rfl,World.ownsRow_nil _ _ _ _,Below.refl _ _⟩
 case round=>
  obtain⟨k,acc,a,c,R,hlex,rfl,hR,rfl,hown,hb⟩:=hrel
  have HL:=hide hlex;have HO:=hide hown;have HB:=hide hb
  have hks:=hlex.1
  have hal:=hlex.2.1
  have hszB:=hb.size
  clear hlex hown hb
  have hRz:=rsz s k
  rw[hR]at hRz
  by_cases hlt:k<s.size
  ·have hb0:byt R 0=byt s k:=by rw[<-hR,rb s k 0 (by omega),Nat.add_zero]
   have hRp:0<R.size:=by omega
   have eb:=byt_eq R 0 hRp
   rw[hb0]at eb
   have HW1:=hide (fun hL W (h:TKw W)=>wordStep s k hlt hs hL W h)
   have HW2:=hide (fun hL hD W=>numStep s k hlt hs hL hD W)
   have HW3:=hide (fun hL hD W (h:TSg W)=>signStep s k hlt hL hD W h)
   have HCut:=hide (fun m=>cut_cut s k m)
   rw[hR]at HW1 HW2 HW3 HCut
   have HR:=hide hR
   have j1:(0:Int)<(R.size:Int):=by omega
   have HRz:=hide hRz
   clear hR hb0 hRz
   have BC:=fun w=>isBlank_calls (byt s k) w
   cases hbl:blank (byt s k)
   ·rw[hbl]at BC
    have HBl:=hide hbl
    have HBC:=hide BC
    clear hbl BC
    have LC:=fun w=>isLetter_calls (byt s k) w
    cases hL:letter (byt s k)
    ·rw[hL]at LC
     have HLC:=hide LC
     clear LC
     have DC:=fun w=>isDigit_calls (byt s k) w
     cases hD:digit (byt s k)
     ·rw[hD]at DC
      have HDC:=hide DC
      clear DC
      by_cases h45:byt s k=45
      ·have HS:=hide (unhide HW2 hL (Or.inr h45))
       rw[h45]at HBC HLC HDC eb
       clear HW1 HW2 HW3 hL hD h45
       go_wp2_with fail
       refine(unhide HBC _).mono ?_;rintro e w1 ⟨rfl,rfl⟩
       go_wp2_with fail
       refine(unhide HLC _).mono ?_;rintro e w1 ⟨rfl,rfl⟩
       go_wp2_with fail
       refine(unhide HDC _).mono ?_;rintro e w1 ⟨rfl,rfl⟩
       go_wp2_with fail
       rename World=>wo
       refine(unhide HS _).mono ?_
       rintro e w9 ⟨v,rfl,hv,hb9⟩
       have hsz9:=hb9.size
       simp only[World.size_alloc]at hsz9
       obtain⟨hc9,hf9⟩:=bcell hb9
       have HC9:=hide (bT (bA (Below.refl wo.heap.size wo) _) hb9)
       have HB9:=hide (bT (unhide HB) (unhide HC9))
       have hCx:=hide ((CellsAt.new wo [.int .i64 0,.string ⟨#[]⟩,.int .i64 0] 68).of hb9)
       clear hb9
       rcases hv with⟨t,hp,ht,KK,VV,htk,rfl⟩ | ⟨hno,rfl⟩
       ·have HL2:=hide ((unhide HL).tok hlt (unhide HBl) hp t ht)
        have htz:=ttx_size s k hlt
        have htl:=tln_le s k hlt
        have hRz:=unhide HRz
        have HCu:=hide (unhide HCut (tln s k))
        have Htk:=hide htk
        clear ht htk HL
        generalize ttx s k=T at*
        generalize hn:tln s k=n at*
        have jn:(T.size:Int)<=(R.size:Int):=by omega
        have HTz:=hide htz
        have hac:acc.length+1<=1000000:=by omega
        clear hRz htz htl hn
        obtain⟨W,hW⟩: ∃W,W=(((w9.setCell ⟨wo.heap.size,0,none⟩ (.int .i64 KK)).setCell ⟨wo.heap.size,1,none⟩ (.string T)).setCell ⟨wo.heap.size,2,none⟩ (.int .i64 VV)).alloc (.cells #[.int .i64 KK,.string T,.int .i64 VV] 68):=⟨_,rfl⟩
        have hWB:Below wo.heap.size wo W:=by
         rw[hW]
         exact bA (((unhide HC9).setCell (by dsimp only;omega) _ |>.setCell (by dsimp only;omega) _).setCell (by dsimp only;omega) _) _
        have HWO:=hide (own_below (unhide HO) hWB)
        have HWC:Hid (CellsAt W wo.heap.size [.int .i64 KK,.string T,.int .i64 VV]):=by
         show CellsAt _ _ _
         rw[hW]
         exact box3 w9 wo.heap.size _ _ _ _ _ _ _ (unhide hCx)
        have HWS:Hid (SrcC W 3 (some ⟨w9.heap.size,0,none⟩) 1 1 [.int .i64 KK,.string T,.int .i64 VV]):=by
         show SrcC _ _ _ _ _ _
         rw[hW]
         exact srcNewI _ _ [.int .i64 KK,.string T,.int .i64 VV] _ 1 3 (by simp) (by simp[Value.oneCell']) rfl 1
        have hWz:w.heap.size<=W.heap.size:=by have:=hWB.size;omega
        have HWB:=hide hWB
        have HAp:Hid (∀ra rc w5,w5.ownsRow w.heap.size 68 3 (.slice ra (acc.length+1) rc) (acc.length+1) (flI acc++[.int .i64 KK,.string T,.int .i64 VV])->W.grownBy w5 (blk a)->w5.cell? ⟨wo.heap.size,1,none⟩=some (.string T)/\Below w.heap.size w w5):=fun ra rc w5 _ hg=>⟨
         ((ButB.grown (S:=fun b=>blk a=some b) hg (fun b h=>h)).cell wo.heap.size 1 (unhide HWC).lt (fun h=>by have:=((unhide HO).lt _ (by rw[own_slice];exact h)).2;omega)).trans ((unhide HWC).all 1 _ rfl),
         grown_below (bT (unhide HB) (unhide HWB)) hg (fun j hj=>((unhide HO).lt j (by rw[own_slice];exact hj)).1)⟩
        have HWe:=hide hW
        clear hW hWB
        go_wp2_with (at_builtin;rw[<-unhide HWe];refine wpList_append_gen W rfl (.tmp 47) (.tmp 49) 38 rfl w.heap.size 68 ti _ 3 32 Tryz.underlying38 hti hz0 hz1 hz2 rfl (by decide) a acc.length c (flI acc) rfl (unhide HWO) (some ⟨w9.heap.size,0,none⟩) 1 1 [.int .i64 KK,.string T,.int .i64 VV] rfl (unhide HWS) (by unfold maxLen;omega) (by omega) hWz ?_;intro ra rc w5 hown2 hgrow hat;obtain⟨hcx,hb5⟩:=unhide HAp ra rc w5 hown2 hgrow;have HO2:=hide hown2;have HB5:=hide hb5;clear hown2 hgrow hat hb5)
        go_wp2
        go_roundw
        case rel=>exact⟨k+n,acc++[(t,T)],ra,rc,_,unhide HL2,rfl,(by have h9:=(unhide HCu).symm;have h8:=unhide HTz;rw[<-h8]at h9⊢;simpa using h9),by simp,by rw[List.length_append,flI_snoc,unhide Htk];exact unhide HO2,unhide HB5⟩
        case measure=>have:=unhide HTz;simp[szOf];omega
       ·have HNo:=hide ((unhide HL).no hlt (unhide HBl) hno)
        have jz:((R.size:Int)==0)=false:=by have:=unhide HRz;rw[beq_eq_false_iff_ne];omega
        clear HL HO hno
        go_wp2
        go_returns
        exact ScanPost.no (unhide HNo) (by(repeat first | refine bA ?_ _ | refine Below.setCell ?_ (by dsimp only;omega) _);exact unhide HB9)
      ·have HS:=hide (unhide HW3 hL (fun h=>h.elim (fun h=>by rw[hD]at h;cases h) h45))
       have hb45:(byt s k==45)=false:=beq_eq_false_iff_ne.2 h45
       clear HW1 HW2 HW3 hL hD h45
       go_wp2_with fail
       refine(unhide HBC _).mono ?_;rintro e w1 ⟨rfl,rfl⟩
       go_wp2_with fail
       refine(unhide HLC _).mono ?_;rintro e w1 ⟨rfl,rfl⟩
       go_wp2_with fail
       refine(unhide HDC _).mono ?_;rintro e w1 ⟨rfl,rfl⟩
       go_wp2_with fail
       rename World=>wo
       refine(unhide HS _ ((unhide HG).of (by first | exact bA (unhide HB) _))).mono ?_
       rintro e w9 ⟨v,rfl,hv,hb9⟩
       have hsz9:=hb9.size
       simp only[World.size_alloc]at hsz9
       obtain⟨hc9,hf9⟩:=bcell hb9
       have HC9:=hide (bT (bA (Below.refl wo.heap.size wo) _) hb9)
       have HB9:=hide (bT (unhide HB) (unhide HC9))
       have hCx:=hide ((CellsAt.new wo [.int .i64 0,.string ⟨#[]⟩,.int .i64 0] 68).of hb9)
       clear hb9
       rcases hv with⟨t,hp,ht,KK,VV,htk,rfl⟩ | ⟨hno,rfl⟩
       ·have HL2:=hide ((unhide HL).tok hlt (unhide HBl) hp t ht)
        have htz:=ttx_size s k hlt
        have htl:=tln_le s k hlt
        have hRz:=unhide HRz
        have HCu:=hide (unhide HCut (tln s k))
        have Htk:=hide htk
        clear ht htk HL
        generalize ttx s k=T at*
        generalize hn:tln s k=n at*
        have jn:(T.size:Int)<=(R.size:Int):=by omega
        have HTz:=hide htz
        have hac:acc.length+1<=1000000:=by omega
        clear hRz htz htl hn
        obtain⟨W,hW⟩: ∃W,W=(((w9.setCell ⟨wo.heap.size,0,none⟩ (.int .i64 KK)).setCell ⟨wo.heap.size,1,none⟩ (.string T)).setCell ⟨wo.heap.size,2,none⟩ (.int .i64 VV)).alloc (.cells #[.int .i64 KK,.string T,.int .i64 VV] 68):=⟨_,rfl⟩
        have hWB:Below wo.heap.size wo W:=by
         rw[hW]
         exact bA (((unhide HC9).setCell (by dsimp only;omega) _ |>.setCell (by dsimp only;omega) _).setCell (by dsimp only;omega) _) _
        have HWO:=hide (own_below (unhide HO) hWB)
        have HWC:Hid (CellsAt W wo.heap.size [.int .i64 KK,.string T,.int .i64 VV]):=by
         show CellsAt _ _ _
         rw[hW]
         exact box3 w9 wo.heap.size _ _ _ _ _ _ _ (unhide hCx)
        have HWS:Hid (SrcC W 3 (some ⟨w9.heap.size,0,none⟩) 1 1 [.int .i64 KK,.string T,.int .i64 VV]):=by
         show SrcC _ _ _ _ _ _
         rw[hW]
         exact srcNewI _ _ [.int .i64 KK,.string T,.int .i64 VV] _ 1 3 (by simp) (by simp[Value.oneCell']) rfl 1
        have hWz:w.heap.size<=W.heap.size:=by have:=hWB.size;omega
        have HWB:=hide hWB
        have HAp:Hid (∀ra rc w5,w5.ownsRow w.heap.size 68 3 (.slice ra (acc.length+1) rc) (acc.length+1) (flI acc++[.int .i64 KK,.string T,.int .i64 VV])->W.grownBy w5 (blk a)->w5.cell? ⟨wo.heap.size,1,none⟩=some (.string T)/\Below w.heap.size w w5):=fun ra rc w5 _ hg=>⟨
         ((ButB.grown (S:=fun b=>blk a=some b) hg (fun b h=>h)).cell wo.heap.size 1 (unhide HWC).lt (fun h=>by have:=((unhide HO).lt _ (by rw[own_slice];exact h)).2;omega)).trans ((unhide HWC).all 1 _ rfl),
         grown_below (bT (unhide HB) (unhide HWB)) hg (fun j hj=>((unhide HO).lt j (by rw[own_slice];exact hj)).1)⟩
        have HWe:=hide hW
        clear hW hWB
        go_wp2_with (at_builtin;rw[<-unhide HWe];refine wpList_append_gen W rfl (.tmp 47) (.tmp 49) 38 rfl w.heap.size 68 ti _ 3 32 Tryz.underlying38 hti hz0 hz1 hz2 rfl (by decide) a acc.length c (flI acc) rfl (unhide HWO) (some ⟨w9.heap.size,0,none⟩) 1 1 [.int .i64 KK,.string T,.int .i64 VV] rfl (unhide HWS) (by unfold maxLen;omega) (by omega) hWz ?_;intro ra rc w5 hown2 hgrow hat;obtain⟨hcx,hb5⟩:=unhide HAp ra rc w5 hown2 hgrow;have HO2:=hide hown2;have HB5:=hide hb5;clear hown2 hgrow hat hb5)
        go_wp2
        go_roundw
        case rel=>exact⟨k+n,acc++[(t,T)],ra,rc,_,unhide HL2,rfl,(by have h9:=(unhide HCu).symm;have h8:=unhide HTz;rw[<-h8]at h9⊢;simpa using h9),by simp,by rw[List.length_append,flI_snoc,unhide Htk];exact unhide HO2,unhide HB5⟩
        case measure=>have:=unhide HTz;simp[szOf];omega
       ·have HNo:=hide ((unhide HL).no hlt (unhide HBl) hno)
        have jz:((R.size:Int)==0)=false:=by have:=unhide HRz;rw[beq_eq_false_iff_ne];omega
        clear HL HO hno
        go_wp2
        go_returns
        exact ScanPost.no (unhide HNo) (by(repeat first | refine bA ?_ _ | refine Below.setCell ?_ (by dsimp only;omega) _);exact unhide HB9)
     ·rw[hD]at DC
      have HDC:=hide DC
      clear DC
      have HS:=hide (unhide HW2 hL (Or.inl hD))
      clear HW1 HW2 HW3 hL hD
      go_wp2_with fail
      refine(unhide HBC _).mono ?_;rintro e w1 ⟨rfl,rfl⟩
      go_wp2_with fail
      refine(unhide HLC _).mono ?_;rintro e w1 ⟨rfl,rfl⟩
      go_wp2_with fail
      refine(unhide HDC _).mono ?_;rintro e w1 ⟨rfl,rfl⟩
      go_wp2_with fail
      rename World=>wo
      refine(unhide HS _).mono ?_
      rintro e w9 ⟨v,rfl,hv,hb9⟩
      have hsz9:=hb9.size
      simp only[World.size_alloc]at hsz9
      obtain⟨hc9,hf9⟩:=bcell hb9
      have HC9:=hide (bT (bA (Below.refl wo.heap.size wo) _) hb9)
      have HB9:=hide (bT (unhide HB) (unhide HC9))
      have hCx:=hide ((CellsAt.new wo [.int .i64 0,.string ⟨#[]⟩,.int .i64 0] 68).of hb9)
      clear hb9
      rcases hv with⟨t,hp,ht,KK,VV,htk,rfl⟩ | ⟨hno,rfl⟩
      ·have HL2:=hide ((unhide HL).tok hlt (unhide HBl) hp t ht)
       have htz:=ttx_size s k hlt
       have htl:=tln_le s k hlt
       have hRz:=unhide HRz
       have HCu:=hide (unhide HCut (tln s k))
       have Htk:=hide htk
       clear ht htk HL
       generalize ttx s k=T at*
       generalize hn:tln s k=n at*
       have jn:(T.size:Int)<=(R.size:Int):=by omega
       have HTz:=hide htz
       have hac:acc.length+1<=1000000:=by omega
       clear hRz htz htl hn
       obtain⟨W,hW⟩: ∃W,W=(((w9.setCell ⟨wo.heap.size,0,none⟩ (.int .i64 KK)).setCell ⟨wo.heap.size,1,none⟩ (.string T)).setCell ⟨wo.heap.size,2,none⟩ (.int .i64 VV)).alloc (.cells #[.int .i64 KK,.string T,.int .i64 VV] 68):=⟨_,rfl⟩
       have hWB:Below wo.heap.size wo W:=by
        rw[hW]
        exact bA (((unhide HC9).setCell (by dsimp only;omega) _ |>.setCell (by dsimp only;omega) _).setCell (by dsimp only;omega) _) _
       have HWO:=hide (own_below (unhide HO) hWB)
       have HWC:Hid (CellsAt W wo.heap.size [.int .i64 KK,.string T,.int .i64 VV]):=by
        show CellsAt _ _ _
        rw[hW]
        exact box3 w9 wo.heap.size _ _ _ _ _ _ _ (unhide hCx)
       have HWS:Hid (SrcC W 3 (some ⟨w9.heap.size,0,none⟩) 1 1 [.int .i64 KK,.string T,.int .i64 VV]):=by
        show SrcC _ _ _ _ _ _
        rw[hW]
        exact srcNewI _ _ [.int .i64 KK,.string T,.int .i64 VV] _ 1 3 (by simp) (by simp[Value.oneCell']) rfl 1
       have hWz:w.heap.size<=W.heap.size:=by have:=hWB.size;omega
       have HWB:=hide hWB
       have HAp:Hid (∀ra rc w5,w5.ownsRow w.heap.size 68 3 (.slice ra (acc.length+1) rc) (acc.length+1) (flI acc++[.int .i64 KK,.string T,.int .i64 VV])->W.grownBy w5 (blk a)->w5.cell? ⟨wo.heap.size,1,none⟩=some (.string T)/\Below w.heap.size w w5):=fun ra rc w5 _ hg=>⟨
        ((ButB.grown (S:=fun b=>blk a=some b) hg (fun b h=>h)).cell wo.heap.size 1 (unhide HWC).lt (fun h=>by have:=((unhide HO).lt _ (by rw[own_slice];exact h)).2;omega)).trans ((unhide HWC).all 1 _ rfl),
        grown_below (bT (unhide HB) (unhide HWB)) hg (fun j hj=>((unhide HO).lt j (by rw[own_slice];exact hj)).1)⟩
       have HWe:=hide hW
       clear hW hWB
       go_wp2_with (at_builtin;rw[<-unhide HWe];refine wpList_append_gen W rfl (.tmp 47) (.tmp 49) 38 rfl w.heap.size 68 ti _ 3 32 Tryz.underlying38 hti hz0 hz1 hz2 rfl (by decide) a acc.length c (flI acc) rfl (unhide HWO) (some ⟨w9.heap.size,0,none⟩) 1 1 [.int .i64 KK,.string T,.int .i64 VV] rfl (unhide HWS) (by unfold maxLen;omega) (by omega) hWz ?_;intro ra rc w5 hown2 hgrow hat;obtain⟨hcx,hb5⟩:=unhide HAp ra rc w5 hown2 hgrow;have HO2:=hide hown2;have HB5:=hide hb5;clear hown2 hgrow hat hb5)
       go_wp2
       go_roundw
       case rel=>exact⟨k+n,acc++[(t,T)],ra,rc,_,unhide HL2,rfl,(by have h9:=(unhide HCu).symm;have h8:=unhide HTz;rw[<-h8]at h9⊢;simpa using h9),by simp,by rw[List.length_append,flI_snoc,unhide Htk];exact unhide HO2,unhide HB5⟩
       case measure=>have:=unhide HTz;simp[szOf];omega
      ·have HNo:=hide ((unhide HL).no hlt (unhide HBl) hno)
       have jz:((R.size:Int)==0)=false:=by have:=unhide HRz;rw[beq_eq_false_iff_ne];omega
       clear HL HO hno
       go_wp2
       go_returns
       exact ScanPost.no (unhide HNo) (by(repeat first | refine bA ?_ _ | refine Below.setCell ?_ (by dsimp only;omega) _);exact unhide HB9)
    ·rw[hL]at LC
     have HLC:=hide LC
     have HS:=hide (unhide HW1 hL)
     clear LC HW1 HW2 HW3 hL
     go_wp2_with fail
     refine(unhide HBC _).mono ?_;rintro e w1 ⟨rfl,rfl⟩
     go_wp2_with fail
     refine(unhide HLC _).mono ?_;rintro e w1 ⟨rfl,rfl⟩
     go_wp2_with fail
     rename World=>wo
     refine(unhide HS _ ((unhide HK).of (by first | exact bA (unhide HB) _))).mono ?_
     rintro e w9 ⟨v,rfl,hv,hb9⟩
     have hsz9:=hb9.size
     simp only[World.size_alloc]at hsz9
     obtain⟨hc9,hf9⟩:=bcell hb9
     have HC9:=hide (bT (bA (Below.refl wo.heap.size wo) _) hb9)
     have HB9:=hide (bT (unhide HB) (unhide HC9))
     have hCx:=hide ((CellsAt.new wo [.int .i64 0,.string ⟨#[]⟩,.int .i64 0] 68).of hb9)
     clear hb9
     rcases hv with⟨t,hp,ht,KK,VV,htk,rfl⟩ | ⟨hno,rfl⟩
     ·have HL2:=hide ((unhide HL).tok hlt (unhide HBl) hp t ht)
      have htz:=ttx_size s k hlt
      have htl:=tln_le s k hlt
      have hRz:=unhide HRz
      have HCu:=hide (unhide HCut (tln s k))
      have Htk:=hide htk
      clear ht htk HL
      generalize ttx s k=T at*
      generalize hn:tln s k=n at*
      have jn:(T.size:Int)<=(R.size:Int):=by omega
      have HTz:=hide htz
      have hac:acc.length+1<=1000000:=by omega
      clear hRz htz htl hn
      obtain⟨W,hW⟩: ∃W,W=(((w9.setCell ⟨wo.heap.size,0,none⟩ (.int .i64 KK)).setCell ⟨wo.heap.size,1,none⟩ (.string T)).setCell ⟨wo.heap.size,2,none⟩ (.int .i64 VV)).alloc (.cells #[.int .i64 KK,.string T,.int .i64 VV] 68):=⟨_,rfl⟩
      have hWB:Below wo.heap.size wo W:=by
       rw[hW]
       exact bA (((unhide HC9).setCell (by dsimp only;omega) _ |>.setCell (by dsimp only;omega) _).setCell (by dsimp only;omega) _) _
      have HWO:=hide (own_below (unhide HO) hWB)
      have HWC:Hid (CellsAt W wo.heap.size [.int .i64 KK,.string T,.int .i64 VV]):=by
       show CellsAt _ _ _
       rw[hW]
       exact box3 w9 wo.heap.size _ _ _ _ _ _ _ (unhide hCx)
      have HWS:Hid (SrcC W 3 (some ⟨w9.heap.size,0,none⟩) 1 1 [.int .i64 KK,.string T,.int .i64 VV]):=by
       show SrcC _ _ _ _ _ _
       rw[hW]
       exact srcNewI _ _ [.int .i64 KK,.string T,.int .i64 VV] _ 1 3 (by simp) (by simp[Value.oneCell']) rfl 1
      have hWz:w.heap.size<=W.heap.size:=by have:=hWB.size;omega
      have HWB:=hide hWB
      have HAp:Hid (∀ra rc w5,w5.ownsRow w.heap.size 68 3 (.slice ra (acc.length+1) rc) (acc.length+1) (flI acc++[.int .i64 KK,.string T,.int .i64 VV])->W.grownBy w5 (blk a)->w5.cell? ⟨wo.heap.size,1,none⟩=some (.string T)/\Below w.heap.size w w5):=fun ra rc w5 _ hg=>⟨
       ((ButB.grown (S:=fun b=>blk a=some b) hg (fun b h=>h)).cell wo.heap.size 1 (unhide HWC).lt (fun h=>by have:=((unhide HO).lt _ (by rw[own_slice];exact h)).2;omega)).trans ((unhide HWC).all 1 _ rfl),
       grown_below (bT (unhide HB) (unhide HWB)) hg (fun j hj=>((unhide HO).lt j (by rw[own_slice];exact hj)).1)⟩
      have HWe:=hide hW
      clear hW hWB
      go_wp2_with (at_builtin;rw[<-unhide HWe];refine wpList_append_gen W rfl (.tmp 47) (.tmp 49) 38 rfl w.heap.size 68 ti _ 3 32 Tryz.underlying38 hti hz0 hz1 hz2 rfl (by decide) a acc.length c (flI acc) rfl (unhide HWO) (some ⟨w9.heap.size,0,none⟩) 1 1 [.int .i64 KK,.string T,.int .i64 VV] rfl (unhide HWS) (by unfold maxLen;omega) (by omega) hWz ?_;intro ra rc w5 hown2 hgrow hat;obtain⟨hcx,hb5⟩:=unhide HAp ra rc w5 hown2 hgrow;have HO2:=hide hown2;have HB5:=hide hb5;clear hown2 hgrow hat hb5)
      go_wp2
      go_roundw
      case rel=>exact⟨k+n,acc++[(t,T)],ra,rc,_,unhide HL2,rfl,(by have h9:=(unhide HCu).symm;have h8:=unhide HTz;rw[<-h8]at h9⊢;simpa using h9),by simp,by rw[List.length_append,flI_snoc,unhide Htk];exact unhide HO2,unhide HB5⟩
      case measure=>have:=unhide HTz;simp[szOf];omega
     ·have HNo:=hide ((unhide HL).no hlt (unhide HBl) hno)
      have jz:((R.size:Int)==0)=false:=by have:=unhide HRz;rw[beq_eq_false_iff_ne];omega
      clear HL HO hno
      go_wp2
      go_returns
      exact ScanPost.no (unhide HNo) (by(repeat first | refine bA ?_ _ | refine Below.setCell ?_ (by dsimp only;omega) _);exact unhide HB9)
   ·have HL2:=hide ((unhide HL).blank hlt hbl)
    rw[hbl]at BC
    have HBC:=hide BC
    clear hbl BC HL
    go_wp2_with fail
    refine(unhide HBC _).mono ?_;rintro e w1 ⟨rfl,rfl⟩
    go_wp2
    go_roundw
    case rel=>exact⟨k+1,acc,a,c,_,unhide HL2,rfl,(unhide HCut 1).symm,rfl,(unhide HO).alloc _,bA (unhide HB) _⟩
    case measure=>simp[szOf];omega
  ·have hke:k=s.size:=by omega
   have HD:=hide ((unhide HL).done (by omega))
   clear HL
   have hR0:R.size=0:=by omega
   go_wp2
   go_returns
   exact ScanPost.yes (unhide HD) (unhide HB) (unhide HO)
end Go.Proofs.YtmggnimiioepeaaGreatDoor.Pa
namespace Go.Proofs.YtmggnimiioepeaaGreatDoor.Pa
open Go Go.RowKit
theorem syT_inj: ∀j,j<28-> ∀k,k<28->syT j=syT k->j=k:=by decide
theorem syT_first: ∀k,k<28->(k<11->syT k∈sgs)/\(11<=k->syT k∈kws):=by decide
theorem tok_text{t:Tok}{s:ByteArray}(h:TOk t s)(k:Nat)(hk:k<28):s.toList=syT k↔t= .sy k:=by
 constructor
 ·intro e
  cases t with
  | nam b=>
   exfalso
   obtain⟨_,hw,_,hn⟩:=h
   by_cases h11:k<11
   ·have hg:SignB s:=by unfold SignB;rw[e];exact(syT_first k hk).1 h11
    have:=hg.first.2.2.1
    rw[hw.2.1]at this
    cases this
   ·exact hn (by rw[e];exact(syT_first k hk).2 (by omega))
  | num v=>
   exfalso
   by_cases h11:k<11
   ·have hg:SignB s:=by unfold SignB;rw[e];exact(syT_first k hk).1 h11
    exact sign_num hg h.1
   ·have hg:s.toList∈kws:=by rw[e];exact(syT_first k hk).2 (by omega)
    exact letter_num (kw_first hg).2 h.1
  | sy j=>
   have:syT j=syT k:=by rw[<-h.2];exact e
   rw[syT_inj j h.1 k hk this]
 ·rintro rfl
  exact h.2
theorem text_beq{t:Tok}{s:ByteArray}(h:TOk t s)(k:Nat)(hk:k<28):(s.toList==syT k)=decide (t= .sy k):=by
 by_cases e:t= .sy k
 ·rw[decide_eq_true e];exact beq_iff_eq.2 ((tok_text h k hk).2 e)
 ·rw[decide_eq_false e];exact beq_eq_false_iff_ne.2 (fun x=>e ((tok_text h k hk).1 x))
def dlt(t:Tok):Int:=if t=pO then 1 else if t=pC then-1 else 0
def stp1(x:Int×Int×Bool)(t:Tok):Int×Int×Bool:=(x.1+dlt t,max x.2.1 (x.1+dlt t),x.2.2&&decide (0<=x.1+dlt t))
def brks(ts:List Tok):Int×Int×Bool:=ts.foldl stp1 (0,0,true)
theorem brks_snoc(ts:List Tok)(t:Tok):brks (ts++[t])=stp1 (brks ts) t:=by simp[brks]
theorem dlt_small(t:Tok): -1<=dlt t/\dlt t<=1:=by
 unfold dlt
 split
 ·omega
 ·split<;>omega
theorem fold_bound: ∀(ts:List Tok) (x:Int×Int×Bool),x.1-ts.length<=(ts.foldl stp1 x).1/\(ts.foldl stp1 x).1<=x.1+ts.length/\x.2.1<=(ts.foldl stp1 x).2.1/\(ts.foldl stp1 x).2.1<=max x.2.1 (x.1+ts.length)
 | [],x=>by simp;omega
 | t::ts,x=>by
  have ih:=fold_bound ts (stp1 x t)
  have hd:=dlt_small t
  rw[List.foldl_cons,List.length_cons]
  generalize ts.foldl stp1 (stp1 x t)=r at*
  unfold stp1 at ih
  simp only at ih
  omega
theorem brks_bound(ts:List Tok): -(ts.length:Int)<=(brks ts).1/\(brks ts).1<=ts.length/\0<=(brks ts).2.1/\(brks ts).2.1<=ts.length:=by
 have:=fold_bound ts (0,0,true)
 unfold brks
 simp only at this
 omega
theorem opn_cons(d:Int)(t:Tok)(ts:List Tok):opn d (t::ts)=opn (d+dlt t) ts:=by
 unfold opn dlt
 rw[List.foldl_cons]
 congr 1
 by_cases h1:t=pO
 ·rw[if_pos h1,if_pos h1]
 ·rw[if_neg h1,if_neg h1]
  by_cases h2:t=pC
  ·rw[if_pos h2,if_pos h2];omega
  ·rw[if_neg h2,if_neg h2];omega
theorem fold_opn: ∀(ts:List Tok) (x:Int×Int×Bool),(ts.foldl stp1 x).1=opn x.1 ts/\((ts.foldl stp1 x).2.2=true↔x.2.2=true/\ ∀k,1<=k->k<=ts.length->0<=opn x.1 (ts.take k))
 | [],x=>⟨rfl,by simp;intro _ k h1 h2;omega⟩
 | t::ts,x=>by
  obtain⟨h1,h2⟩:=fold_opn ts (stp1 x t)
  rw[List.foldl_cons,h1,h2]
  refine⟨(opn_cons _ _ _).symm,?_⟩
  show(x.2.2&&decide (0<=x.1+dlt t))=true/\_↔_
  rw[Bool.and_eq_true,decide_eq_true_eq]
  constructor
  ·rintro⟨⟨a,b⟩,c⟩
   refine⟨a,fun k k1 k2=> ?_⟩
   obtain⟨m,rfl⟩: ∃m,k=m+1:=⟨k-1,by omega⟩
   rw[List.take_succ_cons,opn_cons]
   by_cases hm:m=0
   ·subst hm;simpa[opn]using b
   ·exact c m (by omega) (by simpa using k2)
  ·rintro⟨a,c⟩
   refine⟨⟨a,?_⟩,fun m m1 m2=> ?_⟩
   ·have:=c 1 (by omega) (by simp)
    rw[List.take_succ_cons,opn_cons]at this
    simpa[opn]using this
   ·have:=c (m+1) (by omega) (by simpa using m2)
    rw[List.take_succ_cons,opn_cons]at this
    exact this
theorem brks_bal(ts:List Tok):((brks ts).2.2=true/\(brks ts).1=0)↔Bal ts:=by
 obtain⟨h1,h2⟩:=fold_opn ts (0,0,true)
 unfold brks Bal
 rw[h1,h2]
 constructor
 ·rintro⟨⟨_,a⟩,b⟩
  refine⟨b,fun k=> ?_⟩
  by_cases k0:k=0
  ·subst k0;simp[opn]
  ·by_cases kl:k<=ts.length
   ·exact a k (by omega) kl
   ·rw[List.take_of_length_le (by omega),b];omega
 ·rintro⟨a,b⟩
  exact⟨⟨rfl,fun k _ _=>b k⟩,a⟩
def TksS(w:World)(a:Option Addr)(L:List (Tok×ByteArray)):Prop:= ∀i p,L[i]?=some p->TOk p.1 p.2/\ ∃g,a=some ⟨g,0,none⟩/\g<w.heap.size/\ ∀j,j<3->w.cell? ⟨g,i*3+j,none⟩=(tkS p.1 p.2)[j]?
theorem TksS.of{w w1:World}{a:Option Addr}{L:List (Tok×ByteArray)}(h:TksS w a L)(hb:Below w.heap.size w w1):TksS w1 a L:=fun i p hp=>by
 obtain⟨h0,g,h1,h2,h3⟩:=h i p hp
 exact⟨h0,g,h1,Nat.lt_of_lt_of_le h2 hb.size,fun j hj=>((bcell hb).1 g _ h2).trans (h3 j hj)⟩
theorem flS_at: ∀(L:List (Tok×ByteArray)) (i:Nat) (p:Tok×ByteArray),L[i]?=some p-> ∀j,j<3->(flS L)[i*3+j]?=(tkS p.1 p.2)[j]?
 | [],i,p,h=>by simp at h
 | q::L,0,p,h=>fun j hj=>by
  simp at h
  subst h
  have hl:(tkS q.1 q.2).length=3:=by obtain⟨t,s⟩:=q;cases t<;>rfl
  show(tkS q.1 q.2++flS L)[0*3+j]?=_
  rw[Nat.zero_mul,Nat.zero_add,List.getElem?_append_left (by omega)]
 | q::L,i+1,p,h=>fun j hj=>by
  have hl:(tkS q.1 q.2).length=3:=by obtain⟨t,s⟩:=q;cases t<;>rfl
  have:=flS_at L i p (by simpa using h) j hj
  show(tkS q.1 q.2++flS L)[(i+1)*3+j]?=_
  rw[List.getElem?_append_right (by omega),show(i+1)*3+j-(tkS q.1 q.2).length=i*3+j by omega]
  exact this
theorem TksS.mk{w:World}{B n c:Nat}{a:Option Addr}{L:List (Tok×ByteArray)}(hn:n=L.length)(h:w.ownsRow B 55 3 (.slice a n c) n (flS L))(hA: ∀p∈L,TOk p.1 p.2):TksS w a L:=fun i p hp=>by
 refine⟨hA p (List.mem_of_getElem? hp),?_⟩
 have hi:=(List.getElem?_eq_some_iff.1 hp).1
 rcases h.2 with⟨f1,f2⟩ | ⟨g,cap,cur,f1,f2,f3,f4⟩
 ·omega
 ·simp only[Value.slice.injEq]at f1
  obtain⟨rfl,_,rfl⟩:=f1
  refine⟨g,rfl,(Array.getElem?_eq_some_iff.1 f3).1,fun j hj=> ?_⟩
  rw[h.cellAt (i*3+j) (by omega)]
  exact flS_at L i p hp j hj
def TksI(w:World)(a:Option Addr)(L:List (Tok×ByteArray)):Prop:= ∀i p,L[i]?=some p->TOk p.1 p.2/\ ∃g,a=some ⟨g,0,none⟩/\g<w.heap.size/\ ∀j,j<3->w.cell? ⟨g,i*3+j,none⟩=(tkI p.1 p.2)[j]?
theorem TksI.of{w w1:World}{a:Option Addr}{L:List (Tok×ByteArray)}(h:TksI w a L)(hb:Below w.heap.size w w1):TksI w1 a L:=fun i p hp=>by
 obtain⟨h0,g,h1,h2,h3⟩:=h i p hp
 exact⟨h0,g,h1,Nat.lt_of_lt_of_le h2 hb.size,fun j hj=>((bcell hb).1 g _ h2).trans (h3 j hj)⟩
theorem tkI_len(t:Tok)(s:ByteArray):(tkI t s).length=3:=by
 cases t with
 | nam b=>rfl
 | num v=>rfl
 | sy k=>unfold tkI;simp only[];split<;>rfl
theorem tkI_form(t:Tok)(s:ByteArray): ∃K V,tkI t s=[.int .i64 K,.string s,.int .i64 V]:=by
 cases t with
 | nam b=>exact⟨2,0,rfl⟩
 | num v=>exact⟨3,v,rfl⟩
 | sy k=>
  by_cases h:k<11
  ·exact⟨4,0,if_pos h⟩
  ·exact⟨1,0,if_neg h⟩
theorem tkS_form(t:Tok)(s:ByteArray): ∃b V,tkS t s=[.string s,.bool b,.int .i64 V]:=by
 cases t with
 | nam b=>exact⟨false,0,rfl⟩
 | num v=>exact⟨true,v,rfl⟩
 | sy k=>exact⟨false,0,rfl⟩
theorem flI_at: ∀(L:List (Tok×ByteArray)) (i:Nat) (p:Tok×ByteArray),L[i]?=some p-> ∀j,j<3->(flI L)[i*3+j]?=(tkI p.1 p.2)[j]?
 | [],i,p,h=>by simp at h
 | q::L,0,p,h=>fun j hj=>by
  simp at h
  subst h
  have hl:=tkI_len q.1 q.2
  show(tkI q.1 q.2++flI L)[0*3+j]?=_
  rw[Nat.zero_mul,Nat.zero_add,List.getElem?_append_left (by omega)]
 | q::L,i+1,p,h=>fun j hj=>by
  have hl:=tkI_len q.1 q.2
  have:=flI_at L i p (by simpa using h) j hj
  show(tkI q.1 q.2++flI L)[(i+1)*3+j]?=_
  rw[List.getElem?_append_right (by omega),show(i+1)*3+j-(tkI q.1 q.2).length=i*3+j by omega]
  exact this
theorem TksI.mk{w:World}{B n c:Nat}{a:Option Addr}{L:List (Tok×ByteArray)}(hn:n=L.length)(h:w.ownsRow B 68 3 (.slice a n c) n (flI L))(hA: ∀p∈L,TOk p.1 p.2):TksI w a L:=fun i p hp=>by
 refine⟨hA p (List.mem_of_getElem? hp),?_⟩
 have hi:=(List.getElem?_eq_some_iff.1 hp).1
 rcases h.2 with⟨f1,f2⟩ | ⟨g,cap,cur,f1,f2,f3,f4⟩
 ·omega
 ·simp only[Value.slice.injEq]at f1
  obtain⟨rfl,_,rfl⟩:=f1
  refine⟨g,rfl,(Array.getElem?_eq_some_iff.1 f3).1,fun j hj=> ?_⟩
  rw[h.cellAt (i*3+j) (by omega)]
  exact flI_at L i p hp j hj
end Go.Proofs.YtmggnimiioepeaaGreatDoor.Pa
