import Derived.Test.YtmggnimiioepeaaGreatDoorQ0
import Derived.Test.YtmggnimiioepeaaGreatDoorQ9
import Derived.Test.YtmggnimiioepeaaGreatDoorQ8
import Derived.Test.YtmggnimiioepeaaGreatDoorQ1
namespace Go.Proofs.YtmggnimiioepeaaGreatDoor.Pa
open Go Go.RowKit
def tkI:Tok->ByteArray->List Value
 | .nam _,s=>[.int .i64 2,.string s,.int .i64 0]
 | .num v,s=>[.int .i64 3,.string s,.int .i64 v]
 | .sy k,s=>if k<11 then[.int .i64 4,.string s,.int .i64 0]else[.int .i64 1,.string s,.int .i64 0]
theorem clone_calls(s:ByteArray)(w:World)(hs:s.size<=1048576):Calls Tryz.prog 64 #[.string s] w fun e w'=>e= .returned (.string s)/\Below w.heap.size w w':=by
 have HS:=hide (fun W=>sh_stringslite_Clone s W (by omega))
 go_enter Tryz.func64,Tryz.ntmps64
 go_wp2_with fail
 refine(unhide HS _).mono ?_;rintro e w1 ⟨rfl,hb1⟩
 have HB1:=hide hb1
 clear hb1
 go_wp2
 go_ret
 exact⟨rfl,unhide HB1⟩
set_option maxHeartbeats 2000000 in
theorem scanWord_no(s:ByteArray)(w:World)(hs:s.size<=1048576)(h64:64<spn s):Calls Tryz.prog 37 #[.string s] w fun e w'=>e= .returned (.tuple #[.agg #[.int .i64 0,.string ⟨#[]⟩,.int .i64 0],.bool false])/\Below w.heap.size w w':=by
 have SP:=fun w=>spanLen_calls s w hs
 generalize spn s=n at*
 have HP:=hide SP
 clear SP
 have j1:(64:Int)<(n:Int):=by omega
 go_enter Tryz.func37,Tryz.ntmps37
 go_wp2_with fail
 refine(unhide HP _).mono ?_;rintro e w1 ⟨rfl,rfl⟩
 go_wp2
 refine bodyPost_ret (v:= .tuple #[.agg #[.int .i64 0,.string ⟨#[]⟩,.int .i64 0],.bool false]) (by simp[results,Tryz.results37,go_sem]) rfl ⟨rfl,?_⟩
 exact bA (Below.refl _ _) _
set_option maxHeartbeats 2000000 in
theorem scanWord_yes(s:ByteArray)(w:World)(hs:s.size<=1048576)(h64:spn s<=64)(hT:TKw w):Calls Tryz.prog 37 #[.string s] w fun e w'=>e= .returned (.tuple #[.agg #[.int .i64 (if(s.extract 0 (spn s)).toList∈kws then 1 else 2),.string (s.extract 0 (spn s)),.int .i64 0],.bool true])/\Below w.heap.size w w':=by
 have hle:=spn_le s
 have SP:=fun w=>spanLen_calls s w hs
 have CL:=fun W=>clone_calls (s.extract 0 (spn s)) W (by rw[ext_size s _ _ hle];omega)
 have KC:=fun W (h:TKw W)=>isKeyword_calls (s.extract 0 (spn s)) W h
 have HH:Hid (s.extract 0 (spn s)=s.extract 0 (spn s)):=rfl
 generalize hn:spn s=n at*
 generalize hTT:s.extract 0 n=T at*
 have HP:=hide SP;have HC:=hide CL;have HK:=hide KC;have HTT:=hide hTT;have HTw:=hide hT
 clear SP CL KC hTT hT
 have j1: ¬(64:Int)<(n:Int):=by omega
 have j2:(n:Int)<=(s.size:Int):=by omega
 by_cases hk:T.toList∈kws
 ·rw[if_pos hk]
  have hk':decide (T.toList∈kws)=true:=by simp[hk]
  rw[hk']at HK
  clear hk' hk
  go_enter Tryz.func37,Tryz.ntmps37
  go_wp2_with fail
  refine(unhide HP _).mono ?_;rintro e w1 ⟨rfl,rfl⟩
  go_wp2_with fail
  rw[(unhide HTT:s.extract 0 n=T)]
  refine(unhide HC _).mono ?_;rintro e w2 ⟨rfl,hb1⟩
  obtain⟨hc,hf⟩:=bcell hb1
  have HB1:=hide (bT (bA (Below.refl w.heap.size w) _) hb1)
  have HT2:=hide ((unhide HTw).of (unhide HB1))
  clear hb1
  go_wp2_with fail
  refine(unhide HK _ (unhide HT2)).mono ?_;rintro e w3 ⟨rfl,rfl⟩
  go_wp2
  refine bodyPost_ret (v:= .tuple #[.agg #[.int .i64 1,.string T,.int .i64 0],.bool true]) (by simp[results,Tryz.results37,go_sem,hc]) rfl ⟨rfl,?_⟩
  (repeat(refine Below.setCell ?_ (by dsimp only;omega) _))
  exact unhide HB1
 ·rw[if_neg hk]
  have hk':decide (T.toList∈kws)=false:=by simp[hk]
  rw[hk']at HK
  clear hk' hk
  go_enter Tryz.func37,Tryz.ntmps37
  go_wp2_with fail
  refine(unhide HP _).mono ?_;rintro e w1 ⟨rfl,rfl⟩
  go_wp2_with fail
  rw[(unhide HTT:s.extract 0 n=T)]
  refine(unhide HC _).mono ?_;rintro e w2 ⟨rfl,hb1⟩
  obtain⟨hc,hf⟩:=bcell hb1
  have HB1:=hide (bT (bA (Below.refl w.heap.size w) _) hb1)
  have HT2:=hide ((unhide HTw).of (unhide HB1))
  clear hb1
  go_wp2_with fail
  refine(unhide HK _ (unhide HT2)).mono ?_;rintro e w3 ⟨rfl,rfl⟩
  go_wp2
  refine bodyPost_ret (v:= .tuple #[.agg #[.int .i64 2,.string T,.int .i64 0],.bool true]) (by simp[results,Tryz.results37,go_sem,hc]) rfl ⟨rfl,?_⟩
  (repeat(refine Below.setCell ?_ (by dsimp only;omega) _))
  exact unhide HB1
end Go.Proofs.YtmggnimiioepeaaGreatDoor.Pa
namespace Go.Proofs.YtmggnimiioepeaaGreatDoor.Pa
open Go Go.RowKit
def sgO:List (List UInt8):=[[60,62],[60,61],[62,61],[40],[41],[44],[46],[42],[61],[60],[62]]
def sgB(k:Nat):ByteArray:=⟨(sgO.getD k []).toArray⟩
theorem sgB_data(k:Nat):(sgB k).data.toList=sgO.getD k []:=by simp[sgB]
abbrev TSg(w:World):Prop:=TabAt w 0 [.string ⟨#[60,62]⟩,.string ⟨#[60,61]⟩,.string ⟨#[62,61]⟩,.string ⟨#[40]⟩,.string ⟨#[41]⟩,.string ⟨#[44]⟩,.string ⟨#[46]⟩,.string ⟨#[42]⟩,.string ⟨#[61]⟩,.string ⟨#[60]⟩,.string ⟨#[62]⟩]
theorem sg_index(k:Nat)(hk:k<11)(w:World):(Instr.index 95 (.agg #[.string ⟨#[60,62]⟩,.string ⟨#[60,61]⟩,.string ⟨#[62,61]⟩,.string ⟨#[40]⟩,.string ⟨#[41]⟩,.string ⟨#[44]⟩,.string ⟨#[46]⟩,.string ⟨#[42]⟩,.string ⟨#[61]⟩,.string ⟨#[60]⟩,.string ⟨#[62]⟩]) (.int .i64 (k:Int))).run Tryz.prog w= .ok (.string (sgB k)) w:=by
 rcases(show k=0\/k=1\/k=2\/k=3\/k=4\/k=5\/k=6\/k=7\/k=8\/k=9\/k=10 from by omega)with rfl | rfl | rfl | rfl | rfl | rfl | rfl | rfl | rfl | rfl | rfl<;>kernel_rfl
theorem data_list(s:ByteArray):s.data.toList=s.toList:=by
 obtain⟨d⟩:=s
 rw[show d=d.toList.toArray by simp,Go.ByteArray.toList_mk]
theorem toList_inj{s t:ByteArray}(h:s.toList=t.toList):s=t:=by
 rw[<-data_list,<-data_list]at h
 obtain⟨d⟩:=s;obtain⟨e⟩:=t
 congr
 exact Array.toList_inj.1 h
theorem pre_iff(s:ByteArray)(k:Nat):Lib.hasPrefix s.data.toList (sgB k).data.toList=true↔s.toList.take (sgO.getD k []).length=sgO.getD k []/\(sgO.getD k []).length<=s.size:=by
 rw[sgB_data,data_list,<-Lib.hasPrefix_of_take,Bool.and_eq_true,decide_eq_true_eq,beq_iff_eq,size_toList]
 exact And.comm
theorem sgO_facts(k:Nat)(hk:k<11):sgO.getD k []∈sgs/\((k<3/\(sgO.getD k []).length=2)\/(3<=k/\(sgO.getD k []).length=1)):=by
 rcases(show k=0\/k=1\/k=2\/k=3\/k=4\/k=5\/k=6\/k=7\/k=8\/k=9\/k=10 from by omega)with rfl | rfl | rfl | rfl | rfl | rfl | rfl | rfl | rfl | rfl | rfl<;>decide
theorem sgs_sgO(x:List UInt8)(h:x∈sgs): ∃k,k<11/\sgO.getD k []=x/\(x.length=2->k<3):=by
 simp only[sgs,List.mem_cons,List.not_mem_nil,or_false]at h
 rcases h with rfl | rfl | rfl | rfl | rfl | rfl | rfl | rfl | rfl | rfl | rfl
 ·exact⟨3,by decide,rfl,by decide⟩
 ·exact⟨4,by decide,rfl,by decide⟩
 ·exact⟨5,by decide,rfl,by decide⟩
 ·exact⟨6,by decide,rfl,by decide⟩
 ·exact⟨7,by decide,rfl,by decide⟩
 ·exact⟨8,by decide,rfl,by decide⟩
 ·exact⟨0,by decide,rfl,by decide⟩
 ·exact⟨9,by decide,rfl,by decide⟩
 ·exact⟨1,by decide,rfl,by decide⟩
 ·exact⟨10,by decide,rfl,by decide⟩
 ·exact⟨2,by decide,rfl,by decide⟩
theorem sign_first(s:ByteArray)(hL: ¬letter (byt s 0)=true)(hD: ¬(digit (byt s 0)=true\/byt s 0=45))(k:Nat)(hk:k<11)(hno: ∀j,j<k->Lib.hasPrefix s.data.toList (sgB j).data.toList=false)(h:Lib.hasPrefix s.data.toList (sgB k).data.toList=true):tlen s≠0/\s.extract 0 (tlen s)=sgB k:=by
 obtain⟨h1,h2⟩:=(pre_iff s k).1 h
 obtain⟨h3,h4⟩:=sgO_facts k hk
 have hb: ∀n,s.toList.take n=sgO.getD k []->s.extract 0 n=sgB k:=fun n e=>toList_inj (by rw[hd_list,e,<-data_list,sgB_data])
 rcases h4 with⟨h5,h6⟩ | ⟨h5,h6⟩
 ·rw[h6]at h1 h2
  have ht:tlen s=2:=by
   unfold tlen
   rw[if_neg hL,if_neg hD,if_pos ⟨h2,by rw[h1];exact h3⟩]
  rw[ht]
  exact⟨by omega,hb 2 h1⟩
 ·rw[h6]at h1 h2
  have hn2: ¬(2<=s.size/\s.toList.take 2∈sgs):=fun⟨a,b⟩=>by
   have hl:(s.toList.take 2).length=2:=by rw[List.length_take,size_toList];omega
   obtain⟨j,j1,j2,j3⟩:=sgs_sgO _ b
   have hj:=j3 hl
   have:=(pre_iff s j).2 ⟨by rw[j2,hl],by rw[j2,hl];exact a⟩
   rw[hno j (by omega)]at this
   cases this
  have ht:tlen s=1:=by
   unfold tlen
   rw[if_neg hL,if_neg hD,if_neg hn2,if_pos (by rw[h1];exact h3)]
  rw[ht]
  exact⟨by omega,hb 1 h1⟩
theorem sign_none(s:ByteArray)(h0:0<s.size)(hL: ¬letter (byt s 0)=true)(hD: ¬(digit (byt s 0)=true\/byt s 0=45))(hno: ∀j,j<11->Lib.hasPrefix s.data.toList (sgB j).data.toList=false):tlen s=0:=by
 have hn: ∀n,n<=s.size->s.toList.take n∉sgs:=fun n hn b=>by
  have hl:(s.toList.take n).length=n:=by rw[List.length_take,size_toList];omega
  obtain⟨j,j1,j2,j3⟩:=sgs_sgO _ b
  have:=(pre_iff s j).2 ⟨by rw[j2,hl],by rw[j2,hl];exact hn⟩
  rw[hno j j1]at this
  cases this
 unfold tlen
 rw[if_neg hL,if_neg hD,if_neg (fun h=>hn 2 h.1 h.2),if_neg (hn 1 h0)]
set_option maxHeartbeats 4000000 in
theorem scanSign_calls(s:ByteArray)(w:World)(hT:TSg w)(h0:0<s.size)(hL: ¬letter (byt s 0)=true)(hD: ¬(digit (byt s 0)=true\/byt s 0=45)):Calls Tryz.prog 40 #[.string s] w fun e w'=>e= .returned (if tlen s=0 then .tuple #[.agg #[.int .i64 0,.string ⟨#[]⟩,.int .i64 0],.bool false]else .tuple #[.agg #[.int .i64 4,.string (s.extract 0 (tlen s)),.int .i64 0],.bool true])/\Below w.heap.size w w':=by
 have c0:w.cell? ⟨0,0,none⟩=some (.string ⟨#[60,62]⟩):=hT.cell 0
 have c1:w.cell? ⟨0,1,none⟩=some (.string ⟨#[60,61]⟩):=hT.cell 1
 have c2:w.cell? ⟨0,2,none⟩=some (.string ⟨#[62,61]⟩):=hT.cell 2
 have c3:w.cell? ⟨0,3,none⟩=some (.string ⟨#[40]⟩):=hT.cell 3
 have c4:w.cell? ⟨0,4,none⟩=some (.string ⟨#[41]⟩):=hT.cell 4
 have c5:w.cell? ⟨0,5,none⟩=some (.string ⟨#[44]⟩):=hT.cell 5
 have c6:w.cell? ⟨0,6,none⟩=some (.string ⟨#[46]⟩):=hT.cell 6
 have c7:w.cell? ⟨0,7,none⟩=some (.string ⟨#[42]⟩):=hT.cell 7
 have c8:w.cell? ⟨0,8,none⟩=some (.string ⟨#[61]⟩):=hT.cell 8
 have c9:w.cell? ⟨0,9,none⟩=some (.string ⟨#[60]⟩):=hT.cell 9
 have c10:w.cell? ⟨0,10,none⟩=some (.string ⟨#[62]⟩):=hT.cell 10
 have hix:=sg_index
 have hz:=hT.size
 clear hT
 have HF:=hide (sign_first s hL hD)
 have HN:=hide (sign_none s h0 hL hD)
 have HPC:=hide (fun j W=>sh_strings_HasPrefix s (sgB j) W)
 obtain⟨R,hR⟩: ∃R:Value,R=if tlen s=0 then .tuple #[.agg #[.int .i64 0,.string ⟨#[]⟩,.int .i64 0],.bool false]else .tuple #[.agg #[.int .i64 4,.string (s.extract 0 (tlen s)),.int .i64 0],.bool true]:=⟨_,rfl⟩
 rw[<-hR]
 have HR0:Hid (tlen s=0->R= .tuple #[.agg #[.int .i64 0,.string ⟨#[]⟩,.int .i64 0],.bool false]):=fun h=>by rw[hR,if_pos h]
 have HR1:Hid (∀T,tlen s≠0->s.extract 0 (tlen s)=T->R= .tuple #[.agg #[.int .i64 4,.string T,.int .i64 0],.bool true]):=fun T h e=>by rw[hR,if_neg h,e]
 clear hR
 generalize tlen s=n at*
 clear hL hD h0
 go_enter Tryz.func40,Tryz.ntmps40
 go_wp2
 go_loopw [5,7] (fun _ i wr=> ∃k:Nat,k<=11/\i= .int .i64 k/\(∀j,j<k->Lib.hasPrefix s.data.toList (sgB j).data.toList=false)/\wr=w.alloc (.cells #[.int .i64 0,.string ⟨#[]⟩,.int .i64 0] 68)) (fun _ i _=>11-(intOf i).toNat)
 case atStart=>exact⟨0,by omega,rfl,fun j hj=>by omega,rfl⟩
 case round=>
  obtain⟨k,hk,rfl,hno,rfl⟩:=hrel
  by_cases hlt:k<11
  ·have hi:=hix k hlt
   clear hix
   have PC:=hide (fun W=>unhide HPC k W)
   have Hno:=hide hno
   clear hno HPC
   have HF2:=hide (unhide HF k hlt (unhide Hno))
   clear HF HN
   generalize hq:Lib.hasPrefix s.data.toList (sgB k).data.toList=q at*
   have HQ:=hide hq
   clear hq
   cases q
   ·clear HF2
    go_wp2_with fail
    refine(unhide PC _).mono ?_;rintro e w1 ⟨rfl,rfl⟩
    go_wp2
    go_roundw
    case rel=>
     refine⟨k+1,by omega,by go_num,fun j hj=> ?_,by first | rfl | trivial⟩
     by_cases e:j=k
     ·subst e;exact unhide HQ
     ·exact unhide Hno j (by omega)
    case measure=>simp[intOf];omega
   ·obtain⟨hn0,hext⟩:=unhide HF2 rfl
    have HRe:=hide (unhide HR1 _ hn0 hext)
    clear hext HF2 hn0 HR0 HR1
    generalize sgB k=T at*
    go_wp2_with fail
    refine(unhide PC _).mono ?_;rintro e w1 ⟨rfl,rfl⟩
    go_wp2
    refine bodyPost_ret (v:= .tuple #[.agg #[.int .i64 4,.string T,.int .i64 0],.bool true]) (by simp[results,Tryz.results40,go_sem]) rfl ⟨congrArg Ending.returned (unhide HRe).symm,?_⟩
    first | exact bA (Below.refl _ _) _ | ((repeat(refine Below.setCell ?_ (by dsimp only;omega) _));exact bA (Below.refl _ _) _)
  ·obtain rfl:k=11:=by omega
   have hn0:=unhide HN hno
   have HRe:=hide (unhide HR0 hn0)
   clear hno HN HF HPC hix HR0 HR1 hn0
   go_wp2
   refine bodyPost_ret (v:= .tuple #[.agg #[.int .i64 0,.string ⟨#[]⟩,.int .i64 0],.bool false]) (by simp[results,Tryz.results40,go_sem]) rfl ⟨congrArg Ending.returned (unhide HRe).symm,?_⟩
   first | exact bA (Below.refl _ _) _ | ((repeat(refine Below.setCell ?_ (by dsimp only;omega) _));exact bA (Below.refl _ _) _)
end Go.Proofs.YtmggnimiioepeaaGreatDoor.Pa
namespace Go.Proofs.YtmggnimiioepeaaGreatDoor.Pa
open Go Go.RowKit
def flI(L:List (Tok×ByteArray)):List Value:=L.flatMap fun p=>tkI p.1 p.2
theorem flI_snoc(L:List (Tok×ByteArray))(t:Tok)(s:ByteArray):flI (L++[(t,s)])=flI L++tkI t s:=by simp[flI]
theorem srcNewI(W:World)(X:Nat)(vs:List Value)(t:TypeId)(m size:Nat)(hX:W.heap.size=X)(h1: ∀u∈vs,u.oneCell'=true)(hl:vs.length=m*size)(c:Nat):SrcC (W.alloc (.cells vs.toArray t)) size (some ⟨X,0,none⟩) m c vs:=by
 subst hX
 exact⟨hl,h1,Or.inr ⟨_,rfl,fun j u hj=>(CellsAt.new W vs t).all j u hj⟩⟩
def ScanPost(s:ByteArray)(w:World)(e:Ending)(w':World):Prop:=
 ∃a c n b,e= .returned (.tuple #[.slice a n c,.bool b])/\Below w.heap.size w w'/\(lex s 0=none->b=false)/\
  ∀L,lex s 0=some L->b=true/\n=L.length/\w'.ownsRow w.heap.size 68 3 (.slice a n c) n (flI L)
theorem ScanPost.no{s:ByteArray}{w w':World}{a:Option Addr}{n c:Nat}(h:lex s 0=none)(hb:Below w.heap.size w w'):ScanPost s w (.returned (.tuple #[.slice a n c,.bool false])) w':=
 ⟨a,c,n,false,rfl,hb,fun _=>rfl,fun L hL=>by rw[h]at hL;cases hL⟩
theorem ScanPost.yes{s:ByteArray}{w w':World}{a:Option Addr}{c:Nat}{L:List (Tok×ByteArray)}(h:lex s 0=some L)(hb:Below w.heap.size w w')(ho:w'.ownsRow w.heap.size 68 3 (.slice a L.length c) L.length (flI L)):ScanPost s w (.returned (.tuple #[.slice a L.length c,.bool true])) w':=by
 refine⟨a,c,L.length,true,rfl,hb,fun h0=>(by rw[h]at h0;cases h0),fun L' hL=> ?_⟩
 rw[h]at hL
 cases hL
 exact⟨rfl,rfl,ho⟩
def StepR(s:ByteArray)(k:Nat)(v:Value):Prop:=
 (∃t,0<tln s k/\tokOf (ttx s k)=some t/\ ∃K V,tkI t (ttx s k)=[.int .i64 K,.string (ttx s k),.int .i64 V]/\v= .tuple #[.agg #[.int .i64 K,.string (ttx s k),.int .i64 V],.bool true])\/
 ((tln s k=0\/tokOf (ttx s k)=none)/\v= .tuple #[.agg #[.int .i64 0,.string ⟨#[]⟩,.int .i64 0],.bool false])
theorem wordStep(s:ByteArray)(k:Nat)(hk:k<s.size)(hs:s.size<=1000000)(hL:letter (byt s k)=true)(W:World)(hT:TKw W):Calls Tryz.prog 37 #[.string (s.extract k s.size)] W fun e w'=> ∃v,e= .returned v/\StepR s k v/\Below W.heap.size W w':=by
 have hz:=rsz s k
 have hb0:byt (s.extract k s.size) 0=byt s k:=by rw[rb s k 0 (by omega),Nat.add_zero]
 have ht:tln s k=spn (s.extract k s.size):=by unfold tln tlen;rw[hb0,if_pos hL]
 have hp:0<tln s k:=by rw[ht];exact spn_pos _ (by omega) (by rw[hb0];exact part_letter hL)
 have hx:(s.extract k s.size).extract 0 (spn (s.extract k s.size))=ttx s k:=by rw[<-ht];exact ttx_eq s k hk
 have hw:WordB (ttx s k):=by
  rcases ttx_tok s k hk hp with h | h | h
  ·exact h.2.2
  ·rw[hL]at h;exact absurd h.1 (by simp)
  ·rw[hL]at h;exact absurd h.1 (by simp)
 have hzz:=ttx_size s k hk
 by_cases h64:spn (s.extract k s.size)<=64
 ·refine(scanWord_yes (s.extract k s.size) W (by omega) h64 hT).mono ?_
  rintro e w' ⟨rfl,hb⟩
  refine⟨_,rfl,Or.inl ⟨_,hp,tok_word hw (by omega),?_⟩,hb⟩
  rw[hx]
  by_cases hkw:(ttx s k).toList∈kws
  ·rw[if_pos hkw,if_pos hkw]
   exact⟨1,0,if_neg (by omega),rfl⟩
  ·rw[if_neg hkw,if_neg hkw]
   exact⟨2,0,rfl,rfl⟩
 ·refine(scanWord_no (s.extract k s.size) W (by omega) (by omega)).mono ?_
  rintro e w' ⟨rfl,hb⟩
  exact⟨_,rfl,Or.inr ⟨Or.inr (tok_word_no hw (by omega)),rfl⟩,hb⟩
theorem numStep(s:ByteArray)(k:Nat)(hk:k<s.size)(hs:s.size<=1000000)(hL:letter (byt s k)=false)(hD:digit (byt s k)=true\/byt s k=45)(W:World):Calls Tryz.prog 39 #[.string (s.extract k s.size)] W fun e w'=> ∃v,e= .returned v/\StepR s k v/\Below W.heap.size W w':=by
 have hz:=rsz s k
 have hb0:byt (s.extract k s.size) 0=byt s k:=by rw[rb s k 0 (by omega),Nat.add_zero]
 have ht:tln s k=if dgs (s.extract k s.size)=0 then 0 else frn (s.extract k s.size)+dgs (s.extract k s.size):=by
  unfold tln tlen;rw[hb0,if_neg (by simp[hL]),if_pos hD]
 by_cases h0:dgs (s.extract k s.size)=0
 ·refine(scanNumber_no (s.extract k s.size) W (by omega) (by omega) (Or.inl h0)).mono ?_
  rintro e w' ⟨rfl,hb⟩
  exact⟨_,rfl,Or.inr ⟨Or.inl (by rw[ht,if_pos h0]),rfl⟩,hb⟩
 ·rw[if_neg h0]at ht
  have hp:0<tln s k:=by omega
  have hx:hd (s.extract k s.size)=ttx s k:=by unfold hd;rw[<-ht];exact ttx_eq s k hk
  have hn:NumB (ttx s k)/\(ttx s k).size-frn (ttx s k)=dgs (s.extract k s.size):=by
   rcases ttx_tok s k hk hp with h | h | h
   ·rw[hL]at h;exact absurd h.1 (by simp)
   ·exact⟨h.2.2.2.2.1,h.2.2.2.2.2⟩
   ·exact absurd hD h.2.1
  by_cases h18:dgs (s.extract k s.size)<=18
  ·refine(scanNumber_yes (s.extract k s.size) W (by omega) (by omega) (by omega) h18).mono ?_
   rintro e w' ⟨rfl,hb⟩
   rw[hx]
   exact⟨_,rfl,Or.inl ⟨_,hp,by rw[tok_num hn.1,if_pos (by omega)],3,_,rfl,rfl⟩,hb⟩
  ·refine(scanNumber_no (s.extract k s.size) W (by omega) (by omega) (Or.inr (by omega))).mono ?_
   rintro e w' ⟨rfl,hb⟩
   exact⟨_,rfl,Or.inr ⟨Or.inr (by rw[tok_num hn.1,if_neg (by omega)]),rfl⟩,hb⟩
theorem signStep(s:ByteArray)(k:Nat)(hk:k<s.size)(hL:letter (byt s k)=false)(hD: ¬(digit (byt s k)=true\/byt s k=45))(W:World)(hT:TSg W):Calls Tryz.prog 40 #[.string (s.extract k s.size)] W fun e w'=> ∃v,e= .returned v/\StepR s k v/\Below W.heap.size W w':=by
 have hz:=rsz s k
 have hb0:byt (s.extract k s.size) 0=byt s k:=by rw[rb s k 0 (by omega),Nat.add_zero]
 refine(scanSign_calls (s.extract k s.size) W hT (by omega) (by rw[hb0];simp[hL]) (by rw[hb0];exact hD)).mono ?_
 rintro e w' ⟨rfl,hb⟩
 refine⟨_,rfl,?_,hb⟩
 by_cases h0:tlen (s.extract k s.size)=0
 ·rw[if_pos h0]
  exact Or.inr ⟨Or.inl h0,rfl⟩
 ·rw[if_neg h0,ttx_eq s k hk]
  have hp:0<tln s k:=by unfold tln;omega
  have hg:SignB (ttx s k):=by
   rcases ttx_tok s k hk hp with h | h | h
   ·rw[hL]at h;exact absurd h.1 (by simp)
   ·exact absurd h.2.1 hD
   ·exact h.2.2
  have hi:=(mem_idx hg).1
  have h11:sgs.length=11:=rfl
  exact Or.inl ⟨_,hp,tok_sign hg,4,0,if_pos (by omega),rfl⟩
theorem box3(W:World)(x:Nat)(v0 v1 v2 u0 u1 u2:Value)(o:Obj)(h:CellsAt W x [u0,u1,u2]):CellsAt ((((W.setCell ⟨x,0,none⟩ v0).setCell ⟨x,1,none⟩ v1).setCell ⟨x,2,none⟩ v2).alloc o) x [v0,v1,v2]:=
 (((h.set 0 v0 (by simp)).set 1 v1 (by simp)).set 2 v2 (by simp)).of (bA (Below.refl _ _) _)
end Go.Proofs.YtmggnimiioepeaaGreatDoor.Pa
