import Derived.Test.YtmggnimiioepeaaGreatDoorQ0
import Derived.Test.YtmggnimiioepeaaGreatDoorQ6
import Derived.Test.YtmggnimiioepeaaGreatDoorQ1
namespace Go.Proofs.YtmggnimiioepeaaGreatDoor
open Go Go.RowKit
theorem byt_eq(s:ByteArray)(i:Nat)(h:i<s.size):((s[i]'h).toNat:Int)=byt s i:=by
 unfold byt
 have hl:i<s.toList.length:=by rw[size_toList];exact h
 rw[List.getD_eq_getElem?_getD,List.getElem?_eq_getElem hl]
 congr 2
 cases s with | mk d=>
 simp[Go.ByteArray.toList_eq]
 rfl
def wordTo(s:ByteArray)(k:Nat):Prop:= ∀i,i<k->letter (byt s i)=true\/(i≠0/\(digit (byt s i)=true\/byt s i=95))
theorem word_iff(s:ByteArray):WordB s↔(wordTo s s.size/\0<s.size):=by
 unfold WordB wordTo part
 constructor
 ·intro⟨h0,h1,h2⟩
  refine⟨fun i hi=> ?_,h0⟩
  by_cases e:i=0
  ·subst e;exact Or.inl h1
  ·have:=h2 i hi
   simp at this
   rcases this with(h | h) | h
   ·exact Or.inl h
   ·exact Or.inr ⟨e,Or.inl h⟩
   ·exact Or.inr ⟨e,Or.inr h⟩
 ·intro⟨h1,h0⟩
  refine⟨h0,?_,fun i hi=> ?_⟩
  ·rcases h1 0 h0 with h | h
   ·exact h
   ·exact absurd rfl h.1
  ·simp
   rcases h1 i hi with h | ⟨_,h | h⟩
   ·exact Or.inl (Or.inl h)
   ·exact Or.inl (Or.inr h)
   ·exact Or.inr h
set_option maxHeartbeats 1000000 in
theorem isWord_calls(s:ByteArray)(w:World)(hs:s.size<=1048576):Calls Tryz.prog 51 #[.string s] w fun e w'=>e= .returned (.bool (dB (WordB s)))/\w'=w:=by
 go_enter Tryz.func51,Tryz.ntmps51
 go_wp2
 go_loopw [3] (fun i wr=> ∃k:Nat,k<=s.size/\i= .int .i64 k/\wordTo s k/\wr=w) (fun i _=>s.size-(intOf i).toNat)
 case atStart=>exact⟨0,Nat.zero_le _,rfl,fun i hi=>by omega,rfl⟩
 case round=>
  obtain⟨k,hk,rfl,hw,rfl⟩:=hrel
  have HW:=hide hw
  clear hw
  by_cases hlt:k<s.size
  ·have eb:=byt_eq s k hlt
   have LC:=fun w=>letter_calls (byt s k) w
   have DC:=fun w=>digit_calls (byt s k) w
   have hnext:(letter (byt s k)=true\/(k≠0/\(digit (byt s k)=true\/byt s k=95)))->wordTo s (k+1):=fun h i hi=>by
    by_cases e:i=k
    ·subst e;exact h
    ·exact unhide HW i (by omega)
   have hbad: ¬(letter (byt s k)=true\/(k≠0/\(digit (byt s k)=true\/byt s k=95)))-> ¬WordB s:=fun h hh=>h (((word_iff s).1 hh).1 k hlt)
   have Hn:=hide hnext;have Hb:=hide hbad
   clear hnext hbad
   generalize byt s k=c at*
   generalize letter c=l at*
   generalize digit c=d at*
   have HL:=hide LC;have HD:=hide DC
   clear LC DC
   have j1:(k:Int)<(s.size:Int):=by omega
   cases l
   ·by_cases h0:k=0
    ·have h0':((k:Int)==0)=true:=by simp[h0]
     have H0:=hide h0
     clear h0
     go_wp2_with fail
     refine(unhide HL _).mono ?_;rintro e w1 ⟨rfl,rfl⟩
     go_wp2
     go_ret
     exact⟨congrArg (fun z=>Ending.returned (.bool z)) (dB_false (unhide Hb (by have h0:=unhide H0;simp[h0]))).symm,rfl⟩
    ·have h0':((k:Int)==0)=false:=by simp;omega
     have H0:=hide h0
     clear h0
     cases d
     ·by_cases h95:c=95
      ·have h95':(c !=95)=false:=by simp[h95]
       have H95:=hide h95
       clear h95
       go_wp2_with fail
       refine(unhide HL _).mono ?_;rintro e w1 ⟨rfl,rfl⟩
       go_wp2_with fail
       refine(unhide HD _).mono ?_;rintro e w1 ⟨rfl,rfl⟩
       go_wp2
       go_roundw
       case rel=>exact⟨k+1,by omega,by go_num,unhide Hn (by have h0:=unhide H0;have h95:=unhide H95;simp[h0,h95]),by first | rfl | trivial⟩
       case measure=>simp[intOf];omega
      ·have h95':(c !=95)=true:=by simp[h95]
       have H95:=hide h95
       clear h95
       go_wp2_with fail
       refine(unhide HL _).mono ?_;rintro e w1 ⟨rfl,rfl⟩
       go_wp2_with fail
       refine(unhide HD _).mono ?_;rintro e w1 ⟨rfl,rfl⟩
       go_wp2
       go_ret
       exact⟨congrArg (fun z=>Ending.returned (.bool z)) (dB_false (unhide Hb (by have h95:=unhide H95;simp[h95]))).symm,rfl⟩
     ·go_wp2_with fail
      refine(unhide HL _).mono ?_;rintro e w1 ⟨rfl,rfl⟩
      go_wp2_with fail
      refine(unhide HD _).mono ?_;rintro e w1 ⟨rfl,rfl⟩
      go_wp2
      go_roundw
      case rel=>exact⟨k+1,by omega,by go_num,unhide Hn (by have h0:=unhide H0;simp[h0]),by first | rfl | trivial⟩
      case measure=>simp[intOf];omega
   ·go_wp2_with fail
    refine(unhide HL _).mono ?_;rintro e w1 ⟨rfl,rfl⟩
    go_wp2
    go_roundw
    case rel=>exact⟨k+1,by omega,by go_num,unhide Hn (by simp),by first | rfl | trivial⟩
    case measure=>simp[intOf];omega
  ·obtain rfl:k=s.size:=by omega
   have HE:=word_iff s
   have H2:=hide HE
   clear HE
   by_cases h0:0<s.size
   ·have h0':(0:Int)<(s.size:Int):=by omega
    go_wp2
    go_ret
    exact⟨congrArg (fun z=>Ending.returned (.bool z)) (dB_true ((unhide H2).2 ⟨unhide HW,h0⟩)).symm,rfl⟩
   ·have h0': ¬(0:Int)<(s.size:Int):=by omega
    go_wp2
    go_ret
    exact⟨congrArg (fun z=>Ending.returned (.bool z)) (dB_false (fun h=>absurd ((unhide H2).1 h).2 h0)).symm,rfl⟩
end Go.Proofs.YtmggnimiioepeaaGreatDoor
namespace Go.Proofs.YtmggnimiioepeaaGreatDoor
open Go
def dg(b:UInt8):Bool:=digit (b.toNat:Int)
theorem dg_iff(b:UInt8):dg b=true↔48<=b.toNat/\b.toNat<=57:=by
 unfold dg digit
 simp
 omega
theorem byt_get(s:ByteArray)(i:Nat)(h:i<s.size): ∃b,s.toList[i]?=some b/\byt s i=(b.toNat:Int):=by
 have hl:i<s.toList.length:=by rw[size_toList];exact h
 refine⟨s.toList[i],List.getElem?_eq_getElem hl,?_⟩
 unfold byt
 rw[List.getD_eq_getElem?_getD,List.getElem?_eq_getElem hl]
 rfl
theorem byt_range(s:ByteArray)(i:Nat):0<=byt s i/\byt s i<=255:=by
 unfold byt
 have:=UInt8.toNat_lt (s.toList.getD i 0)
 omega
def frn(s:ByteArray):Nat:=if 0<s.size/\byt s 0=45 then 1 else 0
theorem frn_le(s:ByteArray):frn s<=1/\frn s<=s.size:=by unfold frn;split<;>omega
def NumB(s:ByteArray):Prop:=frn s<s.size/\ ∀i,frn s<=i->i<s.size->digit (byt s i)=true
def vF(a:Nat)(l:List UInt8):Nat:=l.foldl (fun a b=>a*10+(b.toNat-48)) a
theorem vF_bound: ∀(l:List UInt8) (a k:Nat),(∀b∈l,dg b=true)->a<10^k->vF a l<10^(k+l.length)
 | [],a,k,_,h=>by simpa[vF]using h
 | b::l,a,k,hd,h=>by
  have hb:=(dg_iff b).1 (hd b (by simp))
  have h1:a*10+(b.toNat-48)<10^(k+1):=by
   rw[Nat.pow_succ];omega
  have:=vF_bound l (a*10+(b.toNat-48)) (k+1) (fun x hx=>hd x (by simp[hx])) h1
  rw[List.length_cons,show k+(l.length+1)=k+1+l.length by omega]
  exact this
def vTo(s:ByteArray)(k:Nat):Nat:=vF 0 ((s.toList.take k).filter dg)
theorem vTo_zero(s:ByteArray):vTo s 0=0:=by simp[vTo,vF]
theorem take_at(s:ByteArray)(k:Nat)(b:UInt8)(h:s.toList[k]?=some b):s.toList.take (k+1)=s.toList.take k++[b]:=by
 rw[List.take_add_one,h];rfl
theorem vTo_digit(s:ByteArray)(k:Nat)(h:k<s.size)(hd:digit (byt s k)=true):(vTo s (k+1):Int)=(vTo s k:Int)*10+(byt s k-48):=by
 obtain⟨b,hb,e⟩:=byt_get s k h
 have hdb:dg b=true:=by unfold dg;rw[<-e];exact hd
 have hr:=(dg_iff b).1 hdb
 unfold vTo
 rw[take_at s k b hb,List.filter_append,List.filter_cons_of_pos hdb,List.filter_nil]
 unfold vF
 rw[List.foldl_append]
 simp only[List.foldl_cons,List.foldl_nil]
 rw[e]
 omega
theorem vTo_other(s:ByteArray)(k:Nat)(h:k<s.size)(hd:digit (byt s k)=false):vTo s (k+1)=vTo s k:=by
 obtain⟨b,hb,e⟩:=byt_get s k h
 have hdb: ¬dg b=true:=by unfold dg;rw[<-e,hd];simp
 unfold vTo
 rw[take_at s k b hb,List.filter_append,List.filter_cons_of_neg hdb,List.filter_nil,List.append_nil]
theorem vTo_bound(s:ByteArray)(k:Nat):vTo s k<10^((s.toList.take k).filter dg).length:=by
 have:=vF_bound ((s.toList.take k).filter dg) 0 0 (fun b hb=>(List.mem_filter.1 hb).2) (by simp)
 simpa[vTo]using this
theorem filter_len(s:ByteArray)(k:Nat)(h:frn s=1->digit (byt s 0)=false):((s.toList.take k).filter dg).length<=s.size-frn s:=by
 by_cases hf:frn s=1
 ·have hs:0<s.size:=by have:=frn_le s;omega
  obtain⟨b,hb,e⟩:=byt_get s 0 hs
  have hdb: ¬dg b=true:=by unfold dg;rw[<-e,h hf];simp
  cases hl:s.toList with
  | nil=>rw[hl]at hb;simp at hb
  | cons c r=>
   rw[hl]at hb
   simp at hb
   subst hb
   have hlen:=size_toList s
   rw[hl]at hlen
   simp at hlen
   cases k with
   | zero=>simp
   | succ k=>
    rw[List.take_succ_cons,List.filter_cons_of_neg hdb]
    have h1:=List.length_filter_le dg (r.take k)
    have h2:=List.length_take_le' k r
    omega
 ·have:frn s=0:=by have:=frn_le s;omega
  have h1:=List.length_filter_le dg (s.toList.take k)
  have h2:=List.length_take_le' k s.toList
  rw[size_toList]at h2
  omega
theorem digit_45:digit 45=false:=by decide
theorem frn_one{s:ByteArray}(h:frn s=1):0<s.size/\byt s 0=45:=by
 unfold frn at h
 split at h
 ·assumption
 ·omega
theorem vTo_small(s:ByteArray)(k:Nat)(h:s.size-frn s<=18):vTo s k<1000000000000000000:=by
 have h1:=vTo_bound s k
 have h2:=filter_len s k (fun e=>by rw[(frn_one e).2];exact digit_45)
 have h3:10^((s.toList.take k).filter dg).length<=10^18:=Nat.pow_le_pow_right (by omega) (by omega)
 have:(10:Nat)^18=1000000000000000000:=by decide
 omega
def nVal(s:ByteArray):Int:=if byt s 0=45 then-(vTo s s.size:Int)else(vTo s s.size:Int)
theorem parseM_ok: ∀(l:List UInt8) (a k:Nat),(∀b∈l,dg b=true)->a<10^k->k+l.length<=18->Lib.parseUintM 18446744073709551615 a l= .ok (vF a l)
 | [],a,k,_,_,_=>rfl
 | b::l,a,k,hd,ha,hk=>by
  have hb:=(dg_iff b).1 (hd b (by simp))
  have hl:(b::l).length=l.length+1:=rfl
  have h1:a*10+(b.toNat-48)<10^(k+1):=by rw[Nat.pow_succ];omega
  have h2:10^(k+1)<=10^18:=Nat.pow_le_pow_right (by omega) (by omega)
  have h3:(10:Nat)^18=1000000000000000000:=by decide
  unfold Lib.parseUintM
  rw[if_pos hb,if_neg (by omega),if_neg (by omega),parseM_ok l _ (k+1) (fun x hx=>hd x (by simp[hx])) h1 (by omega)]
  rfl
theorem parse_ok(s:ByteArray)(h:NumB s)(h18:s.size-frn s<=18):Lib.parseIntB 64 s.data.toList= .ok (nVal s):=by
 have hsm:=vTo_small s s.size h18
 obtain⟨h1,h2⟩:=h
 have hlen:=size_toList s
 have hall:s.toList.take s.size=s.toList:=List.take_of_length_le (by omega)
 rw[Go.ByteArray.toList_eq]at hlen hall
 have hbyt: ∀(i:Nat) b,s.data.toList[i]?=some b->byt s i=(b.toNat:Int):=fun i b hb=>by
  unfold byt
  rw[Go.ByteArray.toList_eq,List.getD_eq_getElem?_getD,hb]
  rfl
 unfold nVal
 unfold vTo at hsm⊢
 rw[Go.ByteArray.toList_eq,hall]at hsm⊢
 cases hl:s.data.toList with
 | nil=>rw[hl]at hlen;simp at hlen;omega
 | cons c r=>
  rw[hl]at hlen hsm
  have hc:=hbyt 0 c (by rw[hl];rfl)
  have hr: ∀b∈r,dg b=true:=fun b hb=>by
   obtain⟨i,hi⟩:=List.getElem?_of_mem hb
   have hil:=(List.getElem?_eq_some_iff.1 hi).1
   have e:=hbyt (i+1) b (by rw[hl];simpa using hi)
   have:=h2 (i+1) (by have:=frn_le s;omega) (by simp at hlen;omega)
   unfold dg
   rw[<-e]
   exact this
  simp at hlen
  unfold Lib.parseIntB
  simp only[]
  by_cases h45:c.toNat=45
  ·have hf:frn s=1:=by unfold frn;rw[if_pos ⟨by omega,by rw[hc,h45];rfl⟩]
   have hcd: ¬dg c=true:=by unfold dg;rw[h45];decide
   rw[List.filter_cons_of_neg hcd,List.filter_eq_self.2 hr]at hsm⊢
   have hne:r≠[]:=fun e=>by rw[e]at hlen;simp at hlen;omega
   rw[if_pos (Or.inr h45)]
   unfold Lib.parseUintB
   rw[if_neg hne,show(2:Nat)^64-1=18446744073709551615 by decide,parseM_ok r 0 0 hr (by simp) (by omega)]
   simp only[]
   rw[if_neg (by simp[h45]),if_neg (by intro e;have:=e.2;have h63:(2:Nat)^(64-1)=9223372036854775808:=(by decide);omega),if_pos h45,if_pos (by rw[hc,h45];rfl)]
  ·have hf:frn s=0:=by unfold frn;rw[if_neg (fun e=>h45 (by have:=e.2;rw[hc]at this;omega))]
   have hcd:dg c=true:=by
    have:=h2 0 (by omega) (by omega)
    unfold dg
    rw[<-hc]
    exact this
   have h43:c.toNat≠43:=by have:=(dg_iff c).1 hcd;omega
   have hall': ∀b∈c::r,dg b=true:=fun b hb=>by
    cases List.mem_cons.1 hb with
    | inl e=>rw[e];exact hcd
    | inr e=>exact hr b e
   rw[List.filter_eq_self.2 hall']at hsm⊢
   rw[if_neg (by omega)]
   unfold Lib.parseUintB
   rw[if_neg (by simp),show(2:Nat)^64-1=18446744073709551615 by decide,parseM_ok (c::r) 0 0 hall' (by simp) (by simp;omega)]
   simp only[]
   rw[if_neg (by intro e;have:=e.2;have h63:(2:Nat)^(64-1)=9223372036854775808:=(by decide);omega),if_neg (by omega),if_neg h45,if_neg (by rw[hc];omega)]
def dsp(s:ByteArray):Nat:=(s.toList.takeWhile dg).length
theorem dsp_le(s:ByteArray):dsp s<=s.size:=by
 rw[<-size_toList]
 exact(List.takeWhile_sublist _).length_le
theorem ext_size(s:ByteArray)(a b:Nat)(h:b<=s.size):(s.extract a b).size=b-a:=by
 rw[ByteArray.size_extract];omega
theorem ext_list(s:ByteArray)(a b:Nat):(s.extract a b).toList=(s.toList.drop a).take (b-a):=by
 rw[Go.ByteArray.toList_eq,Go.ByteArray.toList_eq,ByteArray.data_extract]
 simp
theorem ext_byt(s:ByteArray)(a b i:Nat)(h:i<b-a):byt (s.extract a b) i=byt s (a+i):=by
 unfold byt
 rw[ext_list,List.getD_eq_getElem?_getD,List.getElem?_take,if_pos h,List.getElem?_drop,List.getD_eq_getElem?_getD]
theorem ext_all(s:ByteArray):s.extract 0 s.size=s:=ByteArray.extract_zero_size
end Go.Proofs.YtmggnimiioepeaaGreatDoor
namespace Go.Proofs.YtmggnimiioepeaaGreatDoor
open Go Go.RowKit
theorem numB_iff(s:ByteArray):NumB s↔0<s.size-frn s/\ ∀i,i<s.size-frn s->digit (byt (s.extract (frn s) s.size) i)=true:=by
 have hf:=frn_le s
 unfold NumB
 constructor
 ·rintro⟨h1,h2⟩
  exact⟨by omega,fun i hi=>by rw[ext_byt s _ _ i (by omega)];exact h2 _ (by omega) (by omega)⟩
 ·rintro⟨h1,h2⟩
  refine⟨by omega,fun i h3 h4=> ?_⟩
  have:=h2 (i-frn s) (by omega)
  rw[ext_byt s _ _ _ (by omega)]at this
  rwa [show frn s+(i-frn s)=i by omega]at this
set_option maxHeartbeats 4000000 in
theorem l2IsNumber_calls(s:ByteArray)(w:World)(hs:s.size<=1048576):Calls Tryz.prog 25 #[.string s] w fun e w'=>e= .returned (.bool (dB (NumB s)))/\w'=w:=by
 have hf:=frn_le s
 obtain⟨t,hst⟩: ∃t,t=s.extract (frn s) s.size:=⟨_,rfl⟩
 have hts:t.size=s.size-frn s:=by rw[hst];exact ext_size s _ _ (Nat.le_refl _)
 have HYes:Hid ((∀i,i<t.size->digit (byt t i)=true)->0<t.size->NumB s):=fun h1 h2=>(numB_iff s).2 ⟨by omega,fun i hi=>by rw[<-hst];exact h1 i (by omega)⟩
 have HNo:Hid (∀i,i<t.size->digit (byt t i)=false-> ¬NumB s):=fun i hi h1 h2=>by
  have:=((numB_iff s).1 h2).2 i (by omega)
  rw[<-hst,h1]at this
  cases this
 have HNo0:Hid (t.size=0-> ¬NumB s):=fun h0 h2=>by
  have:=((numB_iff s).1 h2).1
  omega
 have ht:t.size<=1048576:=by omega
 by_cases h0:0<s.size
 ·have j0:(0:Int)<(s.size:Int):=by omega
  have eb0:=byt_eq s 0 h0
  by_cases h45:byt s 0=45
  ·have hf1:frn s=1:=by unfold frn;rw[if_pos ⟨h0,h45⟩]
   rw[hf1]at hst hts
   go_enter Tryz.func25,Tryz.ntmps25
   go_wp2
   rw[<-hst]
   clear hst hf1 h45 eb0 hts hf
   go_loopw [3] (fun i wr=> ∃k:Nat,k<=t.size/\i= .int .i64 k/\(∀j,j<k->digit (byt t j)=true)/\wr=w) (fun i _=>t.size-(intOf i).toNat)
   case atStart=>exact⟨0,Nat.zero_le _,rfl,fun i hi=>by omega,rfl⟩
   case round=>
    obtain⟨k,hk,rfl,hw,rfl⟩:=hrel
    have HW:=hide hw
    clear hw
    by_cases hlt:k<t.size
    ·have eb:=byt_eq t k hlt
     have PC:=fun w=>digit_calls (byt t k) w
     have j1:(k:Int)<(t.size:Int):=by omega
     have Hn:Hid (digit (byt t k)=true-> ∀j,j<k+1->digit (byt t j)=true):=fun h j hj=>by
      by_cases e:j=k
      ·subst e;exact h
      ·exact unhide HW j (by omega)
     have He:Hid (digit (byt t k)=false->dB (NumB s)=false):=fun h=>dB_false (unhide HNo k hlt h)
     generalize byt t k=c at*
     generalize digit c=p at*
     have HP:=hide PC
     clear PC
     cases p
     ·go_wp2_with fail
      refine(unhide HP _).mono ?_;rintro e w1 ⟨rfl,rfl⟩
      go_wp2
      go_ret
      exact⟨congrArg (fun z:Bool=>Ending.returned (.bool z)) (unhide He (by first | rfl | trivial)).symm,rfl⟩
     ·go_wp2_with fail
      refine(unhide HP _).mono ?_;rintro e w1 ⟨rfl,rfl⟩
      go_wp2
      go_roundw
      case rel=>exact⟨k+1,by omega,by go_num,unhide Hn (by first | rfl | trivial),by first | rfl | trivial⟩
      case measure=>simp[intOf];omega
    ·obtain rfl:k=t.size:=by omega
     by_cases hz:0<t.size
     ·have jz:(0:Int)<(t.size:Int):=by omega
      have He:=hide (dB_true (unhide HYes (unhide HW) hz))
      go_wp2
      go_ret
      exact⟨congrArg (fun z:Bool=>Ending.returned (.bool z)) (unhide He).symm,rfl⟩
     ·have jz: ¬(0:Int)<(t.size:Int):=by omega
      have He:=hide (dB_false (unhide HNo0 (by omega)))
      go_wp2
      go_ret
      exact⟨congrArg (fun z:Bool=>Ending.returned (.bool z)) (unhide He).symm,rfl⟩
  ·have hf1:frn s=0:=by unfold frn;rw[if_neg (fun e=>h45 e.2)]
   rw[hf1,ext_all]at hst
   clear hf1 hts hf
   subst hst
   generalize byt t 0=b0 at*
   have hb45:(b0==45)=false:=by simp[h45]
   go_enter Tryz.func25,Tryz.ntmps25
   go_wp2
   clear h45 eb0
   go_loopw [3] (fun i wr=> ∃k:Nat,k<=t.size/\i= .int .i64 k/\(∀j,j<k->digit (byt t j)=true)/\wr=w) (fun i _=>t.size-(intOf i).toNat)
   case atStart=>exact⟨0,Nat.zero_le _,rfl,fun i hi=>by omega,rfl⟩
   case round=>
    obtain⟨k,hk,rfl,hw,rfl⟩:=hrel
    have HW:=hide hw
    clear hw
    by_cases hlt:k<t.size
    ·have eb:=byt_eq t k hlt
     have PC:=fun w=>digit_calls (byt t k) w
     have j1:(k:Int)<(t.size:Int):=by omega
     have Hn:Hid (digit (byt t k)=true-> ∀j,j<k+1->digit (byt t j)=true):=fun h j hj=>by
      by_cases e:j=k
      ·subst e;exact h
      ·exact unhide HW j (by omega)
     have He:Hid (digit (byt t k)=false->dB (NumB t)=false):=fun h=>dB_false (unhide HNo k hlt h)
     generalize byt t k=c at*
     generalize digit c=p at*
     have HP:=hide PC
     clear PC
     cases p
     ·go_wp2_with fail
      refine(unhide HP _).mono ?_;rintro e w1 ⟨rfl,rfl⟩
      go_wp2
      go_ret
      exact⟨congrArg (fun z:Bool=>Ending.returned (.bool z)) (unhide He (by first | rfl | trivial)).symm,rfl⟩
     ·go_wp2_with fail
      refine(unhide HP _).mono ?_;rintro e w1 ⟨rfl,rfl⟩
      go_wp2
      go_roundw
      case rel=>exact⟨k+1,by omega,by go_num,unhide Hn (by first | rfl | trivial),by first | rfl | trivial⟩
      case measure=>simp[intOf];omega
    ·obtain rfl:k=t.size:=by omega
     by_cases hz:0<t.size
     ·have jz:(0:Int)<(t.size:Int):=by omega
      have He:=hide (dB_true (unhide HYes (unhide HW) hz))
      go_wp2
      go_ret
      exact⟨congrArg (fun z:Bool=>Ending.returned (.bool z)) (unhide He).symm,rfl⟩
     ·exact absurd h0 hz
 ·have j0: ¬(0:Int)<(s.size:Int):=by omega
  have hf1:frn s=0:=by unfold frn;rw[if_neg (fun e=>h0 e.1)]
  rw[hf1,ext_all]at hst
  clear hf1 hts hf
  subst hst
  have hz0:t.size=0:=by omega
  have He:=hide (dB_false (unhide HNo0 hz0))
  clear HYes HNo HNo0
  go_enter Tryz.func25,Tryz.ntmps25
  go_wp2
  go_loopw [3] (fun i wr=>i= .int .i64 0/\wr=w) (fun i _=>0)
  case atStart=>exact⟨rfl,rfl⟩
  case round=>
   obtain⟨rfl,rfl⟩:=hrel
   go_wp2
   go_ret
   exact⟨congrArg (fun z:Bool=>Ending.returned (.bool z)) (unhide He).symm,rfl⟩
set_option maxHeartbeats 2000000 in
theorem l2Digits_calls(s:ByteArray)(w:World)(hs:s.size<=1048576)(h0:0<s.size):Calls Tryz.prog 26 #[.string s] w fun e w'=>e= .returned (.int .i64 ((s.size-frn s:Nat):Int))/\w'=w:=by
 have eb0:=byt_eq s 0 h0
 have j0:(0:Int)<(s.size:Int):=by omega
 by_cases h45:byt s 0=45
 ·have hf1:frn s=1:=by unfold frn;rw[if_pos ⟨h0,h45⟩]
  rw[hf1]
  have HE:Hid (((s.size-1:Nat):Int)=(s.size:Int)-1):=by show _=_;omega
  clear hf1
  go_enter Tryz.func26,Tryz.ntmps26
  go_wp2
  go_ret
  exact⟨congrArg (fun z:Int=>Ending.returned (.int .i64 z)) (unhide HE).symm,rfl⟩
 ·have hf1:frn s=0:=by unfold frn;rw[if_neg (fun e=>h45 e.2)]
  rw[hf1,Nat.sub_zero]
  clear hf1
  go_enter Tryz.func26,Tryz.ntmps26
  go_wp2
  go_ret
  exact⟨rfl,rfl⟩
set_option maxHeartbeats 4000000 in
theorem l2Value_calls(s:ByteArray)(w:World)(h0:0<s.size)(h18:s.size-frn s<=18):Calls Tryz.prog 27 #[.string s] w fun e w'=>e= .returned (.int .i64 (nVal s))/\w'=w:=by
 have hs:s.size<=20:=by have:=frn_le s;omega
 have HSm:Hid (∀k,vTo s k<1000000000000000000):=fun k=>vTo_small s k h18
 clear h18
 go_enter Tryz.func27,Tryz.ntmps27
 go_wp2
 go_loopw [3,4] (fun v i wr=> ∃k:Nat,k<=s.size/\i= .int .i64 k/\v= .int .i64 (vTo s k:Int)/\wr=w) (fun _ i _=>s.size-(intOf i).toNat)
 case atStart=>exact⟨0,Nat.zero_le _,rfl,by rw[vTo_zero];rfl,rfl⟩
 case round=>
  obtain⟨k,hk,rfl,rfl,rfl⟩:=hrel
  by_cases hlt:k<s.size
  ·have eb:=byt_eq s k hlt
   have PC:=fun w=>digit_calls (byt s k) w
   have j1:(k:Int)<(s.size:Int):=by omega
   have Hd:=hide (vTo_digit s k hlt)
   have Ho:=hide (vTo_other s k hlt)
   have hb:=unhide HSm k
   have hr:=byt_range s k
   have hdr:digit (byt s k)=true->48<=byt s k/\byt s k<=57:=fun h=>by simpa[digit]using h
   have HDr:=hide hdr
   clear hdr
   generalize byt s k=c at*
   generalize vTo s k=v at*
   cases hp:digit c
   ·rw[hp]at PC Ho
    have HP:=hide PC
    have HO2:=hide (unhide Ho rfl)
    clear PC hp Hd HDr Ho
    go_wp2_with fail
    refine(unhide HP _).mono ?_;rintro e w1 ⟨rfl,rfl⟩
    go_wp2
    go_roundw
    case rel=>exact⟨k+1,by omega,by go_num,by rw[unhide HO2],by first | rfl | trivial⟩
    case measure=>simp[intOf];omega
   ·have hcr:=unhide HDr hp
    rw[hp]at PC Hd
    have HP:=hide PC
    have hd2:=unhide Hd rfl
    have hb2:=unhide HSm (k+1)
    have HD2:=hide hd2
    have hb3:(v:Int)*10+(c-48)<1000000000000000000:=by omega
    clear hd2 hb2
    have w1':IntKind.i64.wrap ((v:Int)*10)=(v:Int)*10:=by rw[IntKind.wrap_i64];omega
    have w2':IntKind.u8.wrap (c-48)=c-48:=by rw[IntKind.wrap_u8];omega
    have w3':IntKind.i64.wrap (c-48)=c-48:=by rw[IntKind.wrap_i64];omega
    have w4':IntKind.i64.wrap ((v:Int)*10+(c-48))=(v:Int)*10+(c-48):=by rw[IntKind.wrap_i64];omega
    clear PC hp Hd HDr Ho
    go_wp2_with fail
    refine(unhide HP _).mono ?_;rintro e w1 ⟨rfl,rfl⟩
    go_wp2
    go_roundw
    case rel=>exact⟨k+1,by omega,by go_num,by rw[unhide HD2],by first | rfl | trivial⟩
    case measure=>simp[intOf];omega
  ·obtain rfl:k=s.size:=by omega
   have eb0:=byt_eq s 0 h0
   have j0:(0:Int)<(s.size:Int):=by omega
   have hb:=unhide HSm s.size
   by_cases h45:byt s 0=45
   ·have HE:Hid (nVal s= -(vTo s s.size:Int)):=by show _=_;unfold nVal;rw[if_pos h45]
    have w1':IntKind.i64.wrap (-(vTo s s.size:Int))= -(vTo s s.size:Int):=by rw[IntKind.wrap_i64];omega
    go_wp2
    go_ret
    exact⟨congrArg (fun z:Int=>Ending.returned (.int .i64 z)) (unhide HE).symm,rfl⟩
   ·have HE:Hid (nVal s=(vTo s s.size:Int)):=by show _=_;unfold nVal;rw[if_neg h45]
    go_wp2
    go_ret
    exact⟨congrArg (fun z:Int=>Ending.returned (.int .i64 z)) (unhide HE).symm,rfl⟩
end Go.Proofs.YtmggnimiioepeaaGreatDoor
namespace Go.Proofs.YtmggnimiioepeaaGreatDoor
open Go Go.RowKit
set_option maxHeartbeats 4000000 in
theorem keyword_calls(s:ByteArray)(w:World):Calls Tryz.prog 84 #[.string s] w fun e w'=>e= .returned (.bool (decide (s.toList∈kws)))/\w'=w:=by
 generalize hl:s.toList=l
 by_cases h0:(l==[83,69,76,69,67,84])=true
 ·have HE:Hid (decide (l∈kws)=true):=by show _=_;rw[beq_iff_eq.1 h0];rfl
  try simp only[Bool.not_eq_true]at*
  rw[<-hl]at*
  go_enter Tryz.func84,Tryz.ntmps84
  go_wp2
  go_ret
  exact⟨congrArg (fun z=>Ending.returned (.bool z)) HE.out.symm,rfl⟩
 by_cases h1:(l==[68,73,83,84,73,78,67,84])=true
 ·have HE:Hid (decide (l∈kws)=true):=by show _=_;rw[beq_iff_eq.1 h1];rfl
  try simp only[Bool.not_eq_true]at*
  rw[<-hl]at*
  go_enter Tryz.func84,Tryz.ntmps84
  go_wp2
  go_ret
  exact⟨congrArg (fun z=>Ending.returned (.bool z)) HE.out.symm,rfl⟩
 by_cases h2:(l==[70,82,79,77])=true
 ·have HE:Hid (decide (l∈kws)=true):=by show _=_;rw[beq_iff_eq.1 h2];rfl
  try simp only[Bool.not_eq_true]at*
  rw[<-hl]at*
  go_enter Tryz.func84,Tryz.ntmps84
  go_wp2
  go_ret
  exact⟨congrArg (fun z=>Ending.returned (.bool z)) HE.out.symm,rfl⟩
 by_cases h3:(l==[87,72,69,82,69])=true
 ·have HE:Hid (decide (l∈kws)=true):=by show _=_;rw[beq_iff_eq.1 h3];rfl
  try simp only[Bool.not_eq_true]at*
  rw[<-hl]at*
  go_enter Tryz.func84,Tryz.ntmps84
  go_wp2
  go_ret
  exact⟨congrArg (fun z=>Ending.returned (.bool z)) HE.out.symm,rfl⟩
 by_cases h4:(l==[85,78,73,79,78])=true
 ·have HE:Hid (decide (l∈kws)=true):=by show _=_;rw[beq_iff_eq.1 h4];rfl
  try simp only[Bool.not_eq_true]at*
  rw[<-hl]at*
  go_enter Tryz.func84,Tryz.ntmps84
  go_wp2
  go_ret
  exact⟨congrArg (fun z=>Ending.returned (.bool z)) HE.out.symm,rfl⟩
 by_cases h5:(l==[65,76,76])=true
 ·have HE:Hid (decide (l∈kws)=true):=by show _=_;rw[beq_iff_eq.1 h5];rfl
  try simp only[Bool.not_eq_true]at*
  rw[<-hl]at*
  go_enter Tryz.func84,Tryz.ntmps84
  go_wp2
  go_ret
  exact⟨congrArg (fun z=>Ending.returned (.bool z)) HE.out.symm,rfl⟩
 by_cases h6:(l==[65,78,89])=true
 ·have HE:Hid (decide (l∈kws)=true):=by show _=_;rw[beq_iff_eq.1 h6];rfl
  try simp only[Bool.not_eq_true]at*
  rw[<-hl]at*
  go_enter Tryz.func84,Tryz.ntmps84
  go_wp2
  go_ret
  exact⟨congrArg (fun z=>Ending.returned (.bool z)) HE.out.symm,rfl⟩
 by_cases h7:(l==[65,78,68])=true
 ·have HE:Hid (decide (l∈kws)=true):=by show _=_;rw[beq_iff_eq.1 h7];rfl
  try simp only[Bool.not_eq_true]at*
  rw[<-hl]at*
  go_enter Tryz.func84,Tryz.ntmps84
  go_wp2
  go_ret
  exact⟨congrArg (fun z=>Ending.returned (.bool z)) HE.out.symm,rfl⟩
 by_cases h8:(l==[79,82])=true
 ·have HE:Hid (decide (l∈kws)=true):=by show _=_;rw[beq_iff_eq.1 h8];rfl
  try simp only[Bool.not_eq_true]at*
  rw[<-hl]at*
  go_enter Tryz.func84,Tryz.ntmps84
  go_wp2
  go_ret
  exact⟨congrArg (fun z=>Ending.returned (.bool z)) HE.out.symm,rfl⟩
 by_cases h9:(l==[78,79,84])=true
 ·have HE:Hid (decide (l∈kws)=true):=by show _=_;rw[beq_iff_eq.1 h9];rfl
  try simp only[Bool.not_eq_true]at*
  rw[<-hl]at*
  go_enter Tryz.func84,Tryz.ntmps84
  go_wp2
  go_ret
  exact⟨congrArg (fun z=>Ending.returned (.bool z)) HE.out.symm,rfl⟩
 by_cases h10:(l==[69,88,73,83,84,83])=true
 ·have HE:Hid (decide (l∈kws)=true):=by show _=_;rw[beq_iff_eq.1 h10];rfl
  try simp only[Bool.not_eq_true]at*
  rw[<-hl]at*
  go_enter Tryz.func84,Tryz.ntmps84
  go_wp2
  go_ret
  exact⟨congrArg (fun z=>Ending.returned (.bool z)) HE.out.symm,rfl⟩
 by_cases h11:(l==[73,78])=true
 ·have HE:Hid (decide (l∈kws)=true):=by show _=_;rw[beq_iff_eq.1 h11];rfl
  try simp only[Bool.not_eq_true]at*
  rw[<-hl]at*
  go_enter Tryz.func84,Tryz.ntmps84
  go_wp2
  go_ret
  exact⟨congrArg (fun z=>Ending.returned (.bool z)) HE.out.symm,rfl⟩
 by_cases h12:(l==[73,83])=true
 ·have HE:Hid (decide (l∈kws)=true):=by show _=_;rw[beq_iff_eq.1 h12];rfl
  try simp only[Bool.not_eq_true]at*
  rw[<-hl]at*
  go_enter Tryz.func84,Tryz.ntmps84
  go_wp2
  go_ret
  exact⟨congrArg (fun z=>Ending.returned (.bool z)) HE.out.symm,rfl⟩
 by_cases h13:(l==[78,85,76,76])=true
 ·have HE:Hid (decide (l∈kws)=true):=by show _=_;rw[beq_iff_eq.1 h13];rfl
  try simp only[Bool.not_eq_true]at*
  rw[<-hl]at*
  go_enter Tryz.func84,Tryz.ntmps84
  go_wp2
  go_ret
  exact⟨congrArg (fun z=>Ending.returned (.bool z)) HE.out.symm,rfl⟩
 by_cases h14:(l==[67,79,85,78,84])=true
 ·have HE:Hid (decide (l∈kws)=true):=by show _=_;rw[beq_iff_eq.1 h14];rfl
  try simp only[Bool.not_eq_true]at*
  rw[<-hl]at*
  go_enter Tryz.func84,Tryz.ntmps84
  go_wp2
  go_ret
  exact⟨congrArg (fun z=>Ending.returned (.bool z)) HE.out.symm,rfl⟩
 by_cases h15:(l==[77,73,78])=true
 ·have HE:Hid (decide (l∈kws)=true):=by show _=_;rw[beq_iff_eq.1 h15];rfl
  try simp only[Bool.not_eq_true]at*
  rw[<-hl]at*
  go_enter Tryz.func84,Tryz.ntmps84
  go_wp2
  go_ret
  exact⟨congrArg (fun z=>Ending.returned (.bool z)) HE.out.symm,rfl⟩
 by_cases h16:(l==[77,65,88])=true
 ·have HE:Hid (decide (l∈kws)=true):=by show _=_;rw[beq_iff_eq.1 h16];rfl
  try simp only[Bool.not_eq_true]at*
  rw[<-hl]at*
  go_enter Tryz.func84,Tryz.ntmps84
  go_wp2
  go_ret
  exact⟨congrArg (fun z=>Ending.returned (.bool z)) HE.out.symm,rfl⟩
 have HE:Hid (decide (l∈kws)=false):=by
  show _=_
  simp only[beq_iff_eq]at*
  simp[kws, *]
 simp only[Bool.not_eq_true]at*
 rw[<-hl]at*
 go_enter Tryz.func84,Tryz.ntmps84
 go_wp2
 go_ret
 exact⟨congrArg (fun z=>Ending.returned (.bool z)) HE.out.symm,rfl⟩
end Go.Proofs.YtmggnimiioepeaaGreatDoor
namespace Go.Proofs.YtmggnimiioepeaaGreatDoor
open Go Go.RowKit
def kwB(k:Nat):ByteArray:=⟨(kws.getD k []).toArray⟩
theorem kwB_toList(k:Nat):(kwB k).toList=kws.getD k []:=Go.ByteArray.toList_mk _
abbrev TKw(w:World):Prop:=TabAt w 2 [.string ⟨#[83,69,76,69,67,84]⟩,.string ⟨#[68,73,83,84,73,78,67,84]⟩,.string ⟨#[70,82,79,77]⟩,.string ⟨#[87,72,69,82,69]⟩,.string ⟨#[85,78,73,79,78]⟩,.string ⟨#[65,76,76]⟩,.string ⟨#[65,78,89]⟩,.string ⟨#[65,78,68]⟩,.string ⟨#[79,82]⟩,.string ⟨#[78,79,84]⟩,.string ⟨#[69,88,73,83,84,83]⟩,.string ⟨#[73,78]⟩,.string ⟨#[73,83]⟩,.string ⟨#[78,85,76,76]⟩,.string ⟨#[67,79,85,78,84]⟩,.string ⟨#[77,73,78]⟩,.string ⟨#[77,65,88]⟩]
theorem kw_index(k:Nat)(hk:k<17)(w:World):(Instr.index 109 (.agg #[.string ⟨#[83,69,76,69,67,84]⟩,.string ⟨#[68,73,83,84,73,78,67,84]⟩,.string ⟨#[70,82,79,77]⟩,.string ⟨#[87,72,69,82,69]⟩,.string ⟨#[85,78,73,79,78]⟩,.string ⟨#[65,76,76]⟩,.string ⟨#[65,78,89]⟩,.string ⟨#[65,78,68]⟩,.string ⟨#[79,82]⟩,.string ⟨#[78,79,84]⟩,.string ⟨#[69,88,73,83,84,83]⟩,.string ⟨#[73,78]⟩,.string ⟨#[73,83]⟩,.string ⟨#[78,85,76,76]⟩,.string ⟨#[67,79,85,78,84]⟩,.string ⟨#[77,73,78]⟩,.string ⟨#[77,65,88]⟩]) (.int .i64 (k:Int))).run Tryz.prog w= .ok (.string (kwB k)) w:=by
 rcases(show k=0\/k=1\/k=2\/k=3\/k=4\/k=5\/k=6\/k=7\/k=8\/k=9\/k=10\/k=11\/k=12\/k=13\/k=14\/k=15\/k=16 from by omega)with rfl | rfl | rfl | rfl | rfl | rfl | rfl | rfl | rfl | rfl | rfl | rfl | rfl | rfl | rfl | rfl | rfl<;>kernel_rfl
set_option maxHeartbeats 4000000 in
theorem isKeyword_calls(s:ByteArray)(w:World)(hT:TKw w):Calls Tryz.prog 65 #[.string s] w fun e w'=>e= .returned (.bool (decide (s.toList∈kws)))/\w'=w:=by
 have c0:w.cell? ⟨2,0,none⟩=some (.string ⟨#[83,69,76,69,67,84]⟩):=hT.cell 0
 have c1:w.cell? ⟨2,1,none⟩=some (.string ⟨#[68,73,83,84,73,78,67,84]⟩):=hT.cell 1
 have c2:w.cell? ⟨2,2,none⟩=some (.string ⟨#[70,82,79,77]⟩):=hT.cell 2
 have c3:w.cell? ⟨2,3,none⟩=some (.string ⟨#[87,72,69,82,69]⟩):=hT.cell 3
 have c4:w.cell? ⟨2,4,none⟩=some (.string ⟨#[85,78,73,79,78]⟩):=hT.cell 4
 have c5:w.cell? ⟨2,5,none⟩=some (.string ⟨#[65,76,76]⟩):=hT.cell 5
 have c6:w.cell? ⟨2,6,none⟩=some (.string ⟨#[65,78,89]⟩):=hT.cell 6
 have c7:w.cell? ⟨2,7,none⟩=some (.string ⟨#[65,78,68]⟩):=hT.cell 7
 have c8:w.cell? ⟨2,8,none⟩=some (.string ⟨#[79,82]⟩):=hT.cell 8
 have c9:w.cell? ⟨2,9,none⟩=some (.string ⟨#[78,79,84]⟩):=hT.cell 9
 have c10:w.cell? ⟨2,10,none⟩=some (.string ⟨#[69,88,73,83,84,83]⟩):=hT.cell 10
 have c11:w.cell? ⟨2,11,none⟩=some (.string ⟨#[73,78]⟩):=hT.cell 11
 have c12:w.cell? ⟨2,12,none⟩=some (.string ⟨#[73,83]⟩):=hT.cell 12
 have c13:w.cell? ⟨2,13,none⟩=some (.string ⟨#[78,85,76,76]⟩):=hT.cell 13
 have c14:w.cell? ⟨2,14,none⟩=some (.string ⟨#[67,79,85,78,84]⟩):=hT.cell 14
 have c15:w.cell? ⟨2,15,none⟩=some (.string ⟨#[77,73,78]⟩):=hT.cell 15
 have c16:w.cell? ⟨2,16,none⟩=some (.string ⟨#[77,65,88]⟩):=hT.cell 16
 have hix:=kw_index
 have hz:=hT.size
 clear hT
 go_enter Tryz.func65,Tryz.ntmps65
 go_wp2
 go_loopw [4,6] (fun _ i wr=> ∃k:Nat,k<=17/\i= .int .i64 k/\(∀j,j<k->kws.getD j []≠s.toList)/\wr=w) (fun _ i _=>17-(intOf i).toNat)
 case atStart=>exact⟨0,by omega,rfl,fun j hj=>by omega,rfl⟩
 case round=>
  obtain⟨k,hk,rfl,hno,rfl⟩:=hrel
  by_cases hlt:k<17
  ·have hi:=hix k hlt
   clear hix
   by_cases he:kws.getD k []=s.toList
   ·have h1:((kwB k).toList==s.toList)=true:=by rw[kwB_toList,he];simp
    have HE:Hid (decide (s.toList∈kws)=true):=by
     show _=_
     rw[decide_eq_true_eq,<-he]
     have:kws.length=17:=rfl
     rw[List.getD_eq_getElem?_getD,List.getElem?_eq_getElem (by omega)]
     simp
    go_wp2
    go_ret
    exact⟨congrArg (fun z=>Ending.returned (.bool z)) HE.out.symm,rfl⟩
   ·have h1:((kwB k).toList==s.toList)=false:=by rw[kwB_toList];exact beq_eq_false_iff_ne.2 he
    have Hno:=hide hno
    have He:=hide he
    clear hno he
    go_wp2
    go_roundw
    case rel=>
     refine⟨k+1,by omega,by go_num,fun j hj=> ?_,by first | rfl | trivial⟩
     by_cases e:j=k
     ·subst e;exact unhide He
     ·exact unhide Hno j (by omega)
    case measure=>simp[intOf];omega
  ·obtain rfl:k=17:=by omega
   have HE:Hid (decide (s.toList∈kws)=false):=by
    show _=_
    rw[decide_eq_false_iff_not]
    intro hm
    obtain⟨j,hj,e⟩:=List.mem_iff_getElem.1 hm
    have:kws.length=17:=rfl
    refine hno j (by omega) ?_
    rw[List.getD_eq_getElem?_getD,List.getElem?_eq_getElem hj]
    simpa using e
   go_wp2
   go_ret
   exact⟨congrArg (fun z=>Ending.returned (.bool z)) HE.out.symm,rfl⟩
end Go.Proofs.YtmggnimiioepeaaGreatDoor
