import Derived.Test.YtmggnimiioepeaaGreatDoorQ0
import Derived.Test.YtmggnimiioepeaaGreatDoorQ7
import Derived.Test.YtmggnimiioepeaaGreatDoorProg
import Derived.Test.YtmggnimiioepeaaGreatDoorQ1
import Derived.Test.YtmggnimiioepeaaGreatDoorQ2
namespace Go.Proofs.YtmggnimiioepeaaGreatDoor
open Go Go.RowKit
def spn(s:ByteArray):Nat:=(s.toList.takeWhile (fun b=>part (b.toNat:Int))).length
theorem takeWhile_len{α:Type}(p:α->Bool)(d:α): ∀(l:List α) (k:Nat),(∀i,i<k->p (l.getD i d)=true)->k<=l.length->(k=l.length\/p (l.getD k d)=false)->(l.takeWhile p).length=k
 | [],k,_,h2,_=>by simp at h2;subst h2;rfl
 | x::l,0,_,_,h3=>by
  rcases h3 with h | h
  ·simp at h
  ·simp at h
   simp[List.takeWhile,h]
 | x::l,k+1,h1,h2,h3=>by
  have hx:p x=true:=by simpa using h1 0 (by omega)
  have:=takeWhile_len p d l k (fun i hi=>by simpa using h1 (i+1) (by omega)) (by simpa using h2) (by simpa using h3)
  simp[List.takeWhile,hx,this]
theorem spn_eq(s:ByteArray)(k:Nat)(h1: ∀i,i<k->part (byt s i)=true)(h2:k<=s.size)(h3:k=s.size\/part (byt s k)=false):spn s=k:=
 takeWhile_len _ 0 s.toList k h1 (by rw[size_toList];exact h2) (by rw[size_toList];exact h3)
theorem spn_le(s:ByteArray):spn s<=s.size:=by
 rw[<-size_toList]
 exact(List.takeWhile_sublist _).length_le
theorem takeWhile_full{α:Type}(p:α->Bool)(d:α): ∀(l:List α),(l.takeWhile p).length=l.length-> ∀i,i<l.length->p (l.getD i d)=true
 | [],_,i,hi=>by simp at hi
 | x::l,h,i,hi=>by
  cases hx:p x
  ·simp[List.takeWhile,hx]at h
  ·simp[List.takeWhile,hx]at h
   cases i with
   | zero=>simpa using hx
   | succ i=>simpa using takeWhile_full p d l h i (by simpa using hi)
theorem spn_full(s:ByteArray)(h:spn s=s.size)(i:Nat)(hi:i<s.size):part (byt s i)=true:=
 takeWhile_full _ 0 s.toList (by rw[size_toList];exact h) i (by rw[size_toList];exact hi)
set_option maxHeartbeats 1000000 in
theorem spanLen_calls(s:ByteArray)(w:World)(hs:s.size<=1048576):Calls Tryz.prog 62 #[.string s,.func (Fn.func 63) #[] #[]] w fun e w'=>e= .returned (.int .i64 (spn s))/\w'=w:=by
 go_enter Tryz.func62,Tryz.ntmps62
 go_wp2
 go_loopw [5] (fun i wr=> ∃k:Nat,k<=s.size/\i= .int .i64 k/\(∀j,j<k->part (byt s j)=true)/\wr=w) (fun i _=>s.size-(intOf i).toNat)
 case atStart=>exact⟨0,Nat.zero_le _,rfl,fun i hi=>by omega,rfl⟩
 case round=>
  obtain⟨k,hk,rfl,hw,rfl⟩:=hrel
  have HW:=hide hw
  clear hw
  by_cases hlt:k<s.size
  ·have eb:=byt_eq s k hlt
   have PC:=fun w=>isWordPart_calls (byt s k) w
   have j1:(k:Int)<(s.size:Int):=by omega
   have hnext:part (byt s k)=true-> ∀j,j<k+1->part (byt s j)=true:=fun h j hj=>by
    by_cases e:j=k
    ·subst e;exact h
    ·exact unhide HW j (by omega)
   have hend:part (byt s k)=false->spn s=k:=fun h=>spn_eq s k (unhide HW) hk (Or.inr h)
   have Hn:=hide hnext;have He:=hide hend
   clear hnext hend
   generalize byt s k=c at*
   generalize part c=p at*
   have HP:=hide PC
   clear PC
   cases p
   ·go_wp2_with fail
    refine(unhide HP _).mono ?_;rintro e w1 ⟨rfl,rfl⟩
    go_wp2
    go_ret
    exact⟨congrArg (fun z:Nat=>Ending.returned (.int .i64 (z:Int))) (unhide He (by first | rfl | trivial)).symm,rfl⟩
   ·go_wp2_with fail
    refine(unhide HP _).mono ?_;rintro e w1 ⟨rfl,rfl⟩
    go_wp2
    go_roundw
    case rel=>exact⟨k+1,by omega,by go_num,unhide Hn (by first | rfl | trivial),by first | rfl | trivial⟩
    case measure=>simp[intOf];omega
  ·obtain rfl:k=s.size:=by omega
   have He:=hide (spn_eq s s.size (unhide HW) hk (Or.inl rfl))
   go_wp2
   go_ret
   exact⟨congrArg (fun z:Nat=>Ending.returned (.int .i64 (z:Int))) (unhide He).symm,rfl⟩
theorem name_iff(s:ByteArray):NameB s↔(s.toList≠[]/\s.size<=64/\letter (byt s 0)=true/\spn s=s.size/\s.toList∉kws):=by
 unfold NameB WordB
 constructor
 ·intro⟨⟨h0,h1,h2⟩,h3,h4⟩
  refine⟨fun e=> ?_,h3,h1,spn_eq s _ h2 (Nat.le_refl _) (Or.inl rfl),h4⟩
  rw[<-size_toList,e]at h0
  simp at h0
 ·intro⟨h0,h3,h1,h2,h4⟩
  refine⟨⟨?_,h1,spn_full s h2⟩,h3,h4⟩
  rw[<-size_toList]
  exact List.length_pos_iff.2 h0
set_option maxHeartbeats 1000000 in
theorem sIsName_calls(s:ByteArray)(w:World)(hs:s.size<=1048576):Calls Tryz.prog 59 #[.string s] w fun e w'=>e= .returned (.bool (dB (NameB s)))/\w'=w:=by
 have WC:=fun w=>isWord_calls s w hs
 have KC:=fun w=>keyword_calls s w
 have HN:Hid (NameB s↔(dB (WordB s)=true/\s.size<=64/\ ¬decide (s.toList∈kws)=true)):=by
  show _↔_
  rw[dB_iff];unfold NameB;simp
 generalize dB (WordB s)=b at*
 generalize decide (s.toList∈kws)=k at*
 have HW:=hide WC;have HK:=hide KC
 clear WC KC
 cases b
 ·have HE:Hid (dB (NameB s)=false):=dB_false (fun h=>by have:=(HN.out.1 h).1;simp at this)
  clear HN
  go_enter Tryz.func59,Tryz.ntmps59
  go_wp2_with fail
  refine(unhide HW _).mono ?_;rintro e w1 ⟨rfl,rfl⟩
  go_wp2
  go_ret
  exact⟨congrArg (fun z=>Ending.returned (.bool z)) HE.out.symm,rfl⟩
 ·by_cases h64:(s.size:Int)<=64
  ·cases k
   ·have HE:Hid (dB (NameB s)=true):=dB_true (HN.out.2 ⟨rfl,by omega,by simp⟩)
    clear HN
    go_enter Tryz.func59,Tryz.ntmps59
    go_wp2_with fail
    refine(unhide HW _).mono ?_;rintro e w1 ⟨rfl,rfl⟩
    go_wp2_with fail
    refine(unhide HK _).mono ?_;rintro e w1 ⟨rfl,rfl⟩
    go_wp2
    go_ret
    exact⟨congrArg (fun z=>Ending.returned (.bool z)) HE.out.symm,rfl⟩
   ·have HE:Hid (dB (NameB s)=false):=dB_false (fun h=>by have:=(HN.out.1 h).2.2;simp at this)
    clear HN
    go_enter Tryz.func59,Tryz.ntmps59
    go_wp2_with fail
    refine(unhide HW _).mono ?_;rintro e w1 ⟨rfl,rfl⟩
    go_wp2_with fail
    refine(unhide HK _).mono ?_;rintro e w1 ⟨rfl,rfl⟩
    go_wp2
    go_ret
    exact⟨congrArg (fun z=>Ending.returned (.bool z)) HE.out.symm,rfl⟩
  ·have HE:Hid (dB (NameB s)=false):=dB_false (fun h=>by have:=(HN.out.1 h).2.1;omega)
   clear HN
   go_enter Tryz.func59,Tryz.ntmps59
   go_wp2_with fail
   refine(unhide HW _).mono ?_;rintro e w1 ⟨rfl,rfl⟩
   go_wp2
   go_ret
   exact⟨congrArg (fun z=>Ending.returned (.bool z)) HE.out.symm,rfl⟩
end Go.Proofs.YtmggnimiioepeaaGreatDoor
namespace Go.Proofs.YtmggnimiioepeaaGreatDoor
open Go Go.Shelf
def sh_laysC174_ren:Go.Shelf.Ren:=⟨fun | 174=>66 | 247=>86 | 245=>87 | 287=>95 | 279=>96 | 280=>97 | 281=>98 | 282=>99 | 321=>106 | 322=>107 | 316=>85 | 171=>109 | 205=>108 | 243=>112 | 246=>114 | 283=>116 | 284=>117 | 285=>118 | 286=>119 | 129=>122 | 317=>121 | 318=>123 | 319=>124 | 320=>125 | 337=>126 | 338=>127 | n=>n,fun | 9=>9 | 3=>3 | 2=>2 | 75=>92 | 85=>93 | 4=>4 | 167=>118 | 5=>5 | 53=>119 | 175=>120 | 46=>122 | 168=>123 | 37=>82 | 0=>0 | 210=>135 | 21=>21 | 127=>117 | 145=>148 | 143=>146 | 171=>157 | 173=>160 | 212=>172 | 51=>173 | 20=>20 | 213=>174 | 232=>178 | 233=>179 | 80=>180 | n=>n,fun | 15=>3 | 16=>4 | 17=>6 | 18=>8 | 19=>9 | n=>n⟩
theorem sh_laysC174:Go.Proofs.LaysC.n174 Tryz.prog sh_laysC174_ren:={
 mixed:=by kernel_rfl
 f129:=Tryz.func122.trans (congrArg some (by kernel_rfl))
 f171:=Tryz.func109.trans (congrArg some (by kernel_rfl))
 f174:=Tryz.func66.trans (congrArg some (by kernel_rfl))
 f205:=Tryz.func108.trans (congrArg some (by kernel_rfl))
 f243:=Tryz.func112.trans (congrArg some (by kernel_rfl))
 f245:=Tryz.func87.trans (congrArg some (by kernel_rfl))
 f246:=Tryz.func114.trans (congrArg some (by kernel_rfl))
 f247:=Tryz.func86.trans (congrArg some (by kernel_rfl))
 f279:=Tryz.func96.trans (congrArg some (by kernel_rfl))
 f280:=Tryz.func97.trans (congrArg some (by kernel_rfl))
 f281:=Tryz.func98.trans (congrArg some (by kernel_rfl))
 f282:=Tryz.func99.trans (congrArg some (by kernel_rfl))
 f283:=Tryz.func116.trans (congrArg some (by kernel_rfl))
 f284:=Tryz.func117.trans (congrArg some (by kernel_rfl))
 f285:=Tryz.func118.trans (congrArg some (by kernel_rfl))
 f286:=Tryz.func119.trans (congrArg some (by kernel_rfl))
 f287:=Tryz.func95.trans (congrArg some (by kernel_rfl))
 f316:=Tryz.func85.trans (congrArg some (by kernel_rfl))
 f317:=Tryz.func121.trans (congrArg some (by kernel_rfl))
 f318:=Tryz.func123.trans (congrArg some (by kernel_rfl))
 f319:=Tryz.func124.trans (congrArg some (by kernel_rfl))
 f320:=Tryz.func125.trans (congrArg some (by kernel_rfl))
 f321:=Tryz.func106.trans (congrArg some (by kernel_rfl))
 f322:=Tryz.func107.trans (congrArg some (by kernel_rfl))
 f337:=Tryz.func126.trans (congrArg some (by kernel_rfl))
 f338:=Tryz.func127.trans (congrArg some (by kernel_rfl))
 t0:=Tryz.underlying0
 a0:=Tryz.isAgg0
 z0:=Tryz.sizeOf0
 v0:=Tryz.zeroValue0
 t2:=Tryz.underlying2
 a2:=Tryz.isAgg2
 z2:=Tryz.sizeOf2
 v2:=Tryz.zeroValue2
 t3:=Tryz.underlying3
 a3:=Tryz.isAgg3
 z3:=Tryz.sizeOf3
 v3:=Tryz.zeroValue3
 t4:=Tryz.underlying4
 a4:=Tryz.isAgg4
 z4:=Tryz.sizeOf4
 v4:=Tryz.zeroValue4
 t5:=Tryz.underlying5
 a5:=Tryz.isAgg5
 z5:=Tryz.sizeOf5
 v5:=Tryz.zeroValue5
 t9:=Tryz.underlying9
 a9:=Tryz.isAgg9
 z9:=Tryz.sizeOf9
 v9:=Tryz.zeroValue9
 t20:=Tryz.underlying20
 a20:=Tryz.isAgg20
 z20:=Tryz.sizeOf20
 v20:=Tryz.zeroValue20
 t21:=Tryz.underlying21
 a21:=Tryz.isAgg21
 z21:=Tryz.sizeOf21
 v21:=Tryz.zeroValue21
 t37:=Tryz.underlying82
 a37:=Tryz.isAgg82
 z37:=Tryz.sizeOf82
 v37:=Tryz.zeroValue82
 t46:=Tryz.underlying122
 a46:=Tryz.isAgg122
 z46:=Tryz.sizeOf122
 v46:=Tryz.zeroValue122
 t51:=Tryz.underlying173
 a51:=Tryz.isAgg173
 z51:=Tryz.sizeOf173
 v51:=Tryz.zeroValue173
 t53:=Tryz.underlying119
 a53:=Tryz.isAgg119
 z53:=Tryz.sizeOf119
 v53:=Tryz.zeroValue119
 t75:=Tryz.underlying92
 a75:=Tryz.isAgg92
 z75:=Tryz.sizeOf92
 v75:=Tryz.zeroValue92
 t85:=Tryz.underlying93
 a85:=Tryz.isAgg93
 z85:=Tryz.sizeOf93
 v85:=Tryz.zeroValue93
 t127:=Tryz.underlying117
 a127:=Tryz.isAgg117
 z127:=Tryz.sizeOf117
 v127:=Tryz.zeroValue117
 t143:=Tryz.underlying146
 a143:=Tryz.isAgg146
 z143:=Tryz.sizeOf146
 v143:=Tryz.zeroValue146
 t145:=Tryz.underlying148
 a145:=Tryz.isAgg148
 z145:=Tryz.sizeOf148
 v145:=Tryz.zeroValue148
 t167:=Tryz.underlying118
 a167:=Tryz.isAgg118
 z167:=Tryz.sizeOf118
 v167:=Tryz.zeroValue118
 t168:=Tryz.underlying123
 a168:=Tryz.isAgg123
 z168:=Tryz.sizeOf123
 v168:=Tryz.zeroValue123
 t171:=Tryz.underlying157
 a171:=Tryz.isAgg157
 z171:=Tryz.sizeOf157
 v171:=Tryz.zeroValue157
 t173:=Tryz.underlying160
 a173:=Tryz.isAgg160
 z173:=Tryz.sizeOf160
 v173:=Tryz.zeroValue160
 t175:=Tryz.underlying120
 a175:=Tryz.isAgg120
 z175:=Tryz.sizeOf120
 v175:=Tryz.zeroValue120
 t210:=Tryz.underlying135
 a210:=Tryz.isAgg135
 z210:=Tryz.sizeOf135
 v210:=Tryz.zeroValue135
 t212:=Tryz.underlying172
 a212:=Tryz.isAgg172
 z212:=Tryz.sizeOf172
 v212:=Tryz.zeroValue172
 t213:=Tryz.underlying174
 a213:=Tryz.isAgg174
 z213:=Tryz.sizeOf174
 t232:=Tryz.underlying178
 a232:=Tryz.isAgg178
 z232:=Tryz.sizeOf178
 v232:=Tryz.zeroValue178
 t233:=Tryz.underlying179
 a233:=Tryz.isAgg179
 z233:=Tryz.sizeOf179
 v233:=Tryz.zeroValue179
 g15:=by kernel_rfl
 g16:=by kernel_rfl
 g17:=by kernel_rfl
 g18:=by kernel_rfl
 g19:=by kernel_rfl
 t80:=Tryz.underlying180
 a80:=Tryz.isAgg180
 z80:=Tryz.sizeOf180
 v80:=Tryz.zeroValue180
 i0:=by kernel_rfl
 i2:=by kernel_rfl
 i3:=by kernel_rfl
 i4:=by kernel_rfl
 i5:=by kernel_rfl
 i9:=by kernel_rfl
 i20:=by kernel_rfl
 i21:=by kernel_rfl
 i37:=by kernel_rfl
 i46:=by kernel_rfl
 i51:=by kernel_rfl
 i53:=by kernel_rfl
 i75:=by kernel_rfl
 i80:=by kernel_rfl
 i85:=by kernel_rfl
 i127:=by kernel_rfl
 i143:=by kernel_rfl
 i145:=by kernel_rfl
 i167:=by kernel_rfl
 i168:=by kernel_rfl
 i171:=by kernel_rfl
 i173:=by kernel_rfl
 i175:=by kernel_rfl
 i210:=by kernel_rfl
 i212:=by kernel_rfl
 i232:=by kernel_rfl
 i233:=by kernel_rfl
 m15:=by kernel_rfl
 m16:=by kernel_rfl
 m17:=by kernel_rfl
 m18:=by kernel_rfl
 m19:=by kernel_rfl
 c0:=by kernel_rfl
 c2:=by kernel_rfl
 c3:=by kernel_rfl
 c4:=by kernel_rfl
 c5:=by kernel_rfl
 c9:=by kernel_rfl
 c20:=by kernel_rfl
 c21:=by kernel_rfl
 c37:=by kernel_rfl
 c46:=by kernel_rfl
 c51:=by kernel_rfl
 c53:=by kernel_rfl
 c75:=by kernel_rfl
 c80:=by kernel_rfl
 c85:=by kernel_rfl
 c127:=by kernel_rfl
 c143:=by kernel_rfl
 c145:=by kernel_rfl
 c167:=by kernel_rfl
 c168:=by kernel_rfl
 c171:=by kernel_rfl
 c173:=by kernel_rfl
 c175:=by kernel_rfl
 c210:=by kernel_rfl
 c212:=by kernel_rfl
 c213:=by kernel_rfl
 c232:=by kernel_rfl
 c233:=by kernel_rfl}
open Go.RowKit in
theorem sh_strconv_ParseInt_10_at64_ok(s:ByteArray)(hmax:s.size<=9223372036854775806)(v:Int)(h:Lib.parseIntB 64 s.data.toList= .ok v)(w:World):
  Calls Tryz.prog 66 #[.string s,.int .i64 10,.int .i64 64] w fun e w'=>e= .returned (.tuple #[.int .i64 v,.nilIface])/\(w'=w\/ ∃t,w'=Lib.bytesWorld w 5 t):=Any.strconv_ParseInt_10_at64_ok sh_laysC174 s hmax v h w
def sh_laysM316_ren:Go.Shelf.Ren:=⟨fun | 316=>85 | n=>n,fun | 9=>9 | 3=>3 | 4=>4 | 37=>82 | 0=>0 | 127=>117 | 5=>5 | n=>n,fun | n=>n⟩
theorem sh_laysM316:Go.Proofs.LaysM.n316 Tryz.prog sh_laysM316_ren:={
 mixed:=by kernel_rfl
 f316:=Tryz.func85.trans (congrArg some (by kernel_rfl))
 t0:=Tryz.underlying0
 a0:=Tryz.isAgg0
 z0:=Tryz.sizeOf0
 v0:=Tryz.zeroValue0
 t3:=Tryz.underlying3
 a3:=Tryz.isAgg3
 z3:=Tryz.sizeOf3
 v3:=Tryz.zeroValue3
 t4:=Tryz.underlying4
 a4:=Tryz.isAgg4
 z4:=Tryz.sizeOf4
 v4:=Tryz.zeroValue4
 t9:=Tryz.underlying9
 a9:=Tryz.isAgg9
 z9:=Tryz.sizeOf9
 v9:=Tryz.zeroValue9
 t37:=Tryz.underlying82
 a37:=Tryz.isAgg82
 z37:=Tryz.sizeOf82
 v37:=Tryz.zeroValue82
 t127:=Tryz.underlying117
 a127:=Tryz.isAgg117
 z127:=Tryz.sizeOf117
 v127:=Tryz.zeroValue117
 t5:=Tryz.underlying5
 a5:=Tryz.isAgg5
 z5:=Tryz.sizeOf5
 v5:=Tryz.zeroValue5
 i0:=by kernel_rfl
 i3:=by kernel_rfl
 i4:=by kernel_rfl
 i5:=by kernel_rfl
 i9:=by kernel_rfl
 i37:=by kernel_rfl
 i127:=by kernel_rfl}
open Go.RowKit in
theorem sh_stringslite_Clone(s:ByteArray)(w:World)(hlim:s.size<=281474976710656):
  Calls Tryz.prog 85 #[.string s] w fun e w'=>e= .returned (.string s)/\Below w.heap.size w w':=Any.stringslite_Clone sh_laysM316 s w hlim
def sh_lays99_ren:Go.Shelf.Ren:=⟨fun | 99=>67 | 206=>88 | n=>n,fun | 9=>9 | 4=>4 | 3=>3 | n=>n,fun | n=>n⟩
theorem sh_lays99:Go.Proofs.Lays.n99 Tryz.prog sh_lays99_ren:={
 mixed:=by kernel_rfl
 f99:=Tryz.func67.trans (congrArg some (by kernel_rfl))
 f206:=Tryz.func88.trans (congrArg some (by kernel_rfl))
 t3:=Tryz.underlying3
 a3:=Tryz.isAgg3
 z3:=Tryz.sizeOf3
 v3:=Tryz.zeroValue3
 t4:=Tryz.underlying4
 a4:=Tryz.isAgg4
 z4:=Tryz.sizeOf4
 v4:=Tryz.zeroValue4
 t9:=Tryz.underlying9
 a9:=Tryz.isAgg9
 z9:=Tryz.sizeOf9
 v9:=Tryz.zeroValue9}
open Go.RowKit Go.Lib in
theorem sh_strings_HasPrefix(s p:ByteArray)(w:World):
  Calls Tryz.prog 67 #[.string s,.string p] w fun e w'=>e= .returned (.bool (Lib.hasPrefix s.data.toList p.data.toList))/\w'=w:=Any.strings_HasPrefix sh_lays99 s p w
end Go.Proofs.YtmggnimiioepeaaGreatDoor
namespace Go.Proofs.YtmggnimiioepeaaGreatDoor
open Go Go.RowKit
theorem dsp_eq(s:ByteArray)(k:Nat)(h1: ∀i,i<k->digit (byt s i)=true)(h2:k<=s.size)(h3:k=s.size\/digit (byt s k)=false):dsp s=k:=
 takeWhile_len _ 0 s.toList k h1 (by rw[size_toList];exact h2) (by rw[size_toList];exact h3)
theorem takeWhile_in{α:Type}(p:α->Bool)(d:α): ∀(l:List α) (i:Nat),i<(l.takeWhile p).length->p (l.getD i d)=true
 | [],i,hi=>by simp at hi
 | x::l,i,hi=>by
  cases hx:p x
  ·simp[List.takeWhile,hx]at hi
  ·cases i with
   | zero=>simpa using hx
   | succ i=>simpa using takeWhile_in p d l i (by simpa[List.takeWhile,hx]using hi)
theorem dsp_in(s:ByteArray)(i:Nat)(h:i<dsp s):digit (byt s i)=true:=takeWhile_in dg 0 s.toList i h
set_option maxHeartbeats 1000000 in
theorem spanDig_calls(s:ByteArray)(w:World)(hs:s.size<=1048576):Calls Tryz.prog 62 #[.string s,.func (Fn.func 38) #[] #[]] w fun e w'=>e= .returned (.int .i64 (dsp s))/\w'=w:=by
 go_enter Tryz.func62,Tryz.ntmps62
 go_wp2
 go_loopw [5] (fun i wr=> ∃k:Nat,k<=s.size/\i= .int .i64 k/\(∀j,j<k->digit (byt s j)=true)/\wr=w) (fun i _=>s.size-(intOf i).toNat)
 case atStart=>exact⟨0,Nat.zero_le _,rfl,fun i hi=>by omega,rfl⟩
 case round=>
  obtain⟨k,hk,rfl,hw,rfl⟩:=hrel
  have HW:=hide hw
  clear hw
  by_cases hlt:k<s.size
  ·have eb:=byt_eq s k hlt
   have PC:=fun w=>isDigit_calls (byt s k) w
   have j1:(k:Int)<(s.size:Int):=by omega
   have hnext:digit (byt s k)=true-> ∀j,j<k+1->digit (byt s j)=true:=fun h j hj=>by
    by_cases e:j=k
    ·subst e;exact h
    ·exact unhide HW j (by omega)
   have hend:digit (byt s k)=false->dsp s=k:=fun h=>dsp_eq s k (unhide HW) hk (Or.inr h)
   have Hn:=hide hnext;have He:=hide hend
   clear hnext hend
   generalize byt s k=c at*
   generalize digit c=p at*
   have HP:=hide PC
   clear PC
   cases p
   ·go_wp2_with fail
    refine(unhide HP _).mono ?_;rintro e w1 ⟨rfl,rfl⟩
    go_wp2
    go_ret
    exact⟨congrArg (fun z:Nat=>Ending.returned (.int .i64 (z:Int))) (unhide He (by first | rfl | trivial)).symm,rfl⟩
   ·go_wp2_with fail
    refine(unhide HP _).mono ?_;rintro e w1 ⟨rfl,rfl⟩
    go_wp2
    go_roundw
    case rel=>exact⟨k+1,by omega,by go_num,unhide Hn (by first | rfl | trivial),by first | rfl | trivial⟩
    case measure=>simp[intOf];omega
  ·obtain rfl:k=s.size:=by omega
   have He:=hide (dsp_eq s s.size (unhide HW) hk (Or.inl rfl))
   go_wp2
   go_ret
   exact⟨congrArg (fun z:Nat=>Ending.returned (.int .i64 (z:Int))) (unhide He).symm,rfl⟩
def dgs(s:ByteArray):Nat:=dsp (s.extract (frn s) s.size)
theorem dgs_le(s:ByteArray):frn s+dgs s<=s.size:=by
 have h1:=dsp_le (s.extract (frn s) s.size)
 rw[ext_size s _ _ (Nat.le_refl _)]at h1
 have:=frn_le s
 unfold dgs
 omega
theorem dgs_in(s:ByteArray)(i:Nat)(h1:frn s<=i)(h2:i<frn s+dgs s):digit (byt s i)=true:=by
 have hd:=dgs_le s
 have:=dsp_in (s.extract (frn s) s.size) (i-frn s) (by unfold dgs at h2;omega)
 rw[ext_byt s _ _ _ (by omega)]at this
 rwa [show frn s+(i-frn s)=i by omega]at this
def hd(s:ByteArray):ByteArray:=s.extract 0 (frn s+dgs s)
theorem hd_facts(s:ByteArray)(h1:1<=dgs s)(h18:dgs s<=18):(hd s).size=frn s+dgs s/\NumB (hd s)/\(hd s).size-frn (hd s)<=18/\(hd s).size<=19:=by
 have hd':=dgs_le s
 have hf:=frn_le s
 have hz:(hd s).size=frn s+dgs s:=by
  unfold hd
  rw[ext_size s _ _ hd'];omega
 have hb: ∀i,i<frn s+dgs s->byt (hd s) i=byt s i:=fun i hi=>by
  unfold hd
  rw[ext_byt s _ _ _ (by omega),Nat.zero_add]
 have hfr:frn (hd s)=frn s:=by
  have hb0:=hb 0 (by omega)
  unfold frn
  rw[hb0,hz]
  by_cases e:byt s 0=45
  ·rw[if_pos ⟨by omega,e⟩,if_pos ⟨by omega,e⟩]
  ·rw[if_neg (fun x=>e x.2),if_neg (fun x=>e x.2)]
 refine⟨hz,⟨by omega,fun i h3 h4=> ?_⟩,by omega,by omega⟩
 rw[hb i (by omega)]
 exact dgs_in s i (by omega) (by omega)
theorem bytes_below(w w':World)(h:w'=w\/ ∃t,w'=Lib.bytesWorld w 5 t):Below w.heap.size w w':=by
 rcases h with rfl | ⟨t,rfl⟩
 ·exact Below.refl _ _
 ·exact Lib.bytesWorld_below w 5 t
set_option maxHeartbeats 2000000 in
theorem scanNumber_no(s:ByteArray)(w:World)(h0:0<s.size)(hs:s.size<=1048576)(hd:dgs s=0\/18<dgs s):Calls Tryz.prog 39 #[.string s] w fun e w'=>e= .returned (.tuple #[.agg #[.int .i64 0,.string ⟨#[]⟩,.int .i64 0],.bool false])/\Below w.heap.size w w':=by
 have hb:=dgs_le s
 have SP:=fun w=>spanDig_calls (s.extract (frn s) s.size) w (by rw[ext_size s _ _ (Nat.le_refl _)];omega)
 rw[show dsp (s.extract (frn s) s.size)=dgs s from rfl]at SP
 have eb0:=byt_eq s 0 h0
 have j0:(0:Int)<(s.size:Int):=by omega
 by_cases h45:byt s 0=45
 ·have hf1:frn s=1:=by unfold frn;rw[if_pos ⟨h0,h45⟩]
  rw[hf1]at SP
  generalize dgs s=d at*
  clear hf1
  have HP:=hide SP
  clear SP
  rcases hd with rfl | hd
  ·go_enter Tryz.func39,Tryz.ntmps39
   go_wp2_with fail
   refine(unhide HP _).mono ?_;rintro e w1 ⟨rfl,rfl⟩
   go_wp2
   refine bodyPost_ret (v:= .tuple #[.agg #[.int .i64 0,.string ⟨#[]⟩,.int .i64 0],.bool false]) (by simp[results,Tryz.results39,go_sem]) rfl ⟨rfl,?_⟩
   exact bA (Below.refl _ _) _
  ·have hd0:(d:Int)≠0:=by omega
   have hd18:(18:Int)<(d:Int):=by omega
   go_enter Tryz.func39,Tryz.ntmps39
   go_wp2_with fail
   refine(unhide HP _).mono ?_;rintro e w1 ⟨rfl,rfl⟩
   go_wp2
   refine bodyPost_ret (v:= .tuple #[.agg #[.int .i64 0,.string ⟨#[]⟩,.int .i64 0],.bool false]) (by simp[results,Tryz.results39,go_sem]) rfl ⟨rfl,?_⟩
   exact bA (Below.refl _ _) _
 ·have hf1:frn s=0:=by unfold frn;rw[if_neg (fun e=>h45 e.2)]
  rw[hf1,ext_all]at SP
  generalize dgs s=d at*
  clear hf1
  have HP:=hide SP
  clear SP
  rcases hd with rfl | hd
  ·go_enter Tryz.func39,Tryz.ntmps39
   go_wp2_with fail
   refine(unhide HP _).mono ?_;rintro e w1 ⟨rfl,rfl⟩
   go_wp2
   refine bodyPost_ret (v:= .tuple #[.agg #[.int .i64 0,.string ⟨#[]⟩,.int .i64 0],.bool false]) (by simp[results,Tryz.results39,go_sem]) rfl ⟨rfl,?_⟩
   exact bA (Below.refl _ _) _
  ·have hd0:(d:Int)≠0:=by omega
   have hd18:(18:Int)<(d:Int):=by omega
   go_enter Tryz.func39,Tryz.ntmps39
   go_wp2_with fail
   refine(unhide HP _).mono ?_;rintro e w1 ⟨rfl,rfl⟩
   go_wp2
   refine bodyPost_ret (v:= .tuple #[.agg #[.int .i64 0,.string ⟨#[]⟩,.int .i64 0],.bool false]) (by simp[results,Tryz.results39,go_sem]) rfl ⟨rfl,?_⟩
   exact bA (Below.refl _ _) _
set_option maxHeartbeats 2000000 in
theorem scanNumber_yes(s:ByteArray)(w:World)(h0:0<s.size)(hs:s.size<=1048576)(hd1:1<=dgs s)(hd2:dgs s<=18):Calls Tryz.prog 39 #[.string s] w fun e w'=>e= .returned (.tuple #[.agg #[.int .i64 3,.string (hd s),.int .i64 (nVal (hd s))],.bool true])/\Below w.heap.size w w':=by
 have hb:=dgs_le s
 obtain⟨q1,q2,q3,q4⟩:=hd_facts s hd1 hd2
 have HPI:=hide (fun W=>sh_strconv_ParseInt_10_at64_ok (hd s) (by omega) (nVal (hd s)) (parse_ok (hd s) q2 q3) W)
 have SP:=fun w=>spanDig_calls (s.extract (frn s) s.size) w (by rw[ext_size s _ _ (Nat.le_refl _)];omega)
 rw[show dsp (s.extract (frn s) s.size)=dgs s from rfl]at SP
 have eb0:=byt_eq s 0 h0
 have j0:(0:Int)<(s.size:Int):=by omega
 have hhd:hd s=s.extract 0 (frn s+dgs s):=rfl
 generalize hd s=T at*
 generalize nVal T=V at*
 by_cases h45:byt s 0=45
 ·have hf1:frn s=1:=by unfold frn;rw[if_pos ⟨h0,h45⟩]
  rw[hf1]at SP
  rw[hf1]at hhd
  rw[hf1]at hb
  generalize dgs s=d at*
  clear hf1
  have HP:=hide SP
  clear SP
  have hd0:(d:Int)≠0:=by omega
  have hd18: ¬(18:Int)<(d:Int):=by omega
  have HB:=hide hb
  have HH:=hide hhd
  clear hhd
  have hd0':((d:Int)==0)=false:=by simp;omega
  have hd18':decide ((18:Int)<(d:Int))=false:=by simp;omega
  have hle:(1+d:Int)<=(s.size:Int):=by omega
  go_enter Tryz.func39,Tryz.ntmps39
  go_wp2_with fail
  refine(unhide HP _).mono ?_;rintro e w1 ⟨rfl,rfl⟩
  go_wp2_with fail
  rw[<-(unhide HH:T=s.extract 0 (1+d))]
  refine(unhide HPI _).mono ?_;rintro e w1 ⟨rfl,hw1⟩
  have hb1:=bytes_below _ _ hw1
  obtain⟨hc,hf⟩:=bcell hb1
  have HB1:=hide (bT (bA (Below.refl w.heap.size w) _) hb1)
  clear hb1 hw1
  go_wp2
  refine bodyPost_ret (v:= .tuple #[.agg #[.int .i64 3,.string T,.int .i64 V],.bool true]) (by simp[results,Tryz.results39,go_sem,hc]) rfl ⟨rfl,?_⟩
  (repeat(refine Below.setCell ?_ (by dsimp only;omega) _))
  exact unhide HB1
 ·have hf1:frn s=0:=by unfold frn;rw[if_neg (fun e=>h45 e.2)]
  rw[hf1,ext_all]at SP
  rw[hf1,Nat.zero_add]at hhd
  rw[hf1]at hb
  generalize dgs s=d at*
  clear hf1
  have HP:=hide SP
  clear SP
  have hd0:(d:Int)≠0:=by omega
  have hd18: ¬(18:Int)<(d:Int):=by omega
  have HB:=hide hb
  have HH:=hide hhd
  clear hhd
  have hd0':((d:Int)==0)=false:=by simp;omega
  have hd18':decide ((18:Int)<(d:Int))=false:=by simp;omega
  have hle:(0+d:Int)<=(s.size:Int):=by omega
  go_enter Tryz.func39,Tryz.ntmps39
  go_wp2_with fail
  refine(unhide HP _).mono ?_;rintro e w1 ⟨rfl,rfl⟩
  go_wp2_with fail
  rw[<-(unhide HH:T=s.extract 0 (d))]
  refine(unhide HPI _).mono ?_;rintro e w1 ⟨rfl,hw1⟩
  have hb1:=bytes_below _ _ hw1
  obtain⟨hc,hf⟩:=bcell hb1
  have HB1:=hide (bT (bA (Below.refl w.heap.size w) _) hb1)
  clear hb1 hw1
  go_wp2
  refine bodyPost_ret (v:= .tuple #[.agg #[.int .i64 3,.string T,.int .i64 V],.bool true]) (by simp[results,Tryz.results39,go_sem,hc]) rfl ⟨rfl,?_⟩
  (repeat(refine Below.setCell ?_ (by dsimp only;omega) _))
  exact unhide HB1
end Go.Proofs.YtmggnimiioepeaaGreatDoor
namespace Go.Proofs.YtmggnimiioepeaaGreatDoor.Pa
open Go Go.RowKit
def sgs:List (List UInt8):=[[40],[41],[44],[46],[42],[61],[60,62],[60],[60,61],[62],[62,61]]
def syT(k:Nat):List UInt8:=if k<11 then sgs.getD k []else kws.getD (k-11) []
def SignB(s:ByteArray):Prop:=s.toList∈sgs
def TokB(s:ByteArray):Prop:=WordB s\/NumB s\/SignB s
def blank(c:Int):Bool:=decide (c=32) || decide (c=10) || decide (c=9)
def TOk:Tok->ByteArray->Prop
 | .nam b,s=>s.toList=b/\NameB s
 | .num v,s=>NumB s/\s.size-frn s<=18/\v=nVal s
 | .sy k,s=>k<28/\s.toList=syT k
noncomputable def tokOf(s:ByteArray):Option Tok:=
 if dB (NumB s)=true then(if s.size-frn s<=18 then some (.num (nVal s))else none)
 else if 64<s.size then none
 else if s.toList∈kws then some (.sy (11+kws.idxOf s.toList))
 else if s.toList∈sgs then some (.sy (sgs.idxOf s.toList))
 else some (.nam s.toList)
def LongB(s:ByteArray)(c:Int):Prop:=
 if letter (byt s 0)=true then part c=true
 else if digit (byt s (s.size-1))=true then digit c=true
 else ∃b:UInt8,(b.toNat:Int)=c/\s.toList++[b]∈sgs
def tlen(s:ByteArray):Nat:=
 if letter (byt s 0)=true then spn s
 else if digit (byt s 0)=true\/byt s 0=45 then(if dgs s=0 then 0 else frn s+dgs s)
 else if 2<=s.size/\s.toList.take 2∈sgs then 2
 else if s.toList.take 1∈sgs then 1
 else 0
theorem letter_iff(c:Int):letter c=true↔(65<=c/\c<=90)\/(97<=c/\c<=122):=by simp[letter]
theorem digit_iff(c:Int):digit c=true↔48<=c/\c<=57:=by simp[digit]
theorem part_letter{c:Int}(h:letter c=true):part c=true:=by simp[part,h]
theorem takeWhile_end{α:Type}(p:α->Bool)(d:α): ∀(l:List α),(l.takeWhile p).length=l.length\/p (l.getD (l.takeWhile p).length d)=false
 | []=>Or.inl rfl
 | x::l=>by
  cases hx:p x
  ·right;simp[List.takeWhile,hx]
  ·rcases takeWhile_end p d l with h | h
   ·left;simp[List.takeWhile,hx,h]
   ·right;simpa[List.takeWhile,hx]using h
theorem dsp_end(s:ByteArray):dsp s=s.size\/digit (byt s (dsp s))=false:=by
 rcases takeWhile_end dg 0 s.toList with h | h
 ·exact Or.inl (by unfold dsp;rw[h,size_toList])
 ·exact Or.inr h
theorem spn_end(s:ByteArray):spn s=s.size\/part (byt s (spn s))=false:=by
 rcases takeWhile_end (fun b:UInt8=>part (b.toNat:Int)) 0 s.toList with h | h
 ·exact Or.inl (by unfold spn;rw[h,size_toList])
 ·exact Or.inr h
theorem spn_in(s:ByteArray)(i:Nat)(h:i<spn s):part (byt s i)=true:=takeWhile_in (fun b:UInt8=>part (b.toNat:Int)) 0 s.toList i h
theorem spn_pos(s:ByteArray)(h0:0<s.size)(h:part (byt s 0)=true):0<spn s:=by
 rcases Nat.eq_zero_or_pos (spn s)with e | e
 ·rcases spn_end s with h1 | h1
  ·omega
  ·rw[e,h]at h1;cases h1
 ·exact e
theorem dgs_pos(s:ByteArray):0<dgs s↔frn s<s.size/\digit (byt s (frn s))=true:=by
 have hf:=frn_le s
 have hz:=ext_size s (frn s) s.size (Nat.le_refl _)
 constructor
 ·intro h
  have h1:=dgs_le s
  exact⟨by omega,dgs_in s _ (Nat.le_refl _) (by omega)⟩
 ·rintro⟨h1,h2⟩
  rcases Nat.eq_zero_or_pos (dgs s)with e | e
  ·have e':dsp (s.extract (frn s) s.size)=0:=e
   rcases dsp_end (s.extract (frn s) s.size)with h3 | h3
   ·omega
   ·rw[e',ext_byt s _ _ 0 (by omega),Nat.add_zero,h2]at h3;cases h3
  ·exact e
theorem dgs_eq(s:ByteArray)(k:Nat)(h1: ∀i,frn s<=i->i<frn s+k->digit (byt s i)=true)(h2:frn s+k<=s.size)(h3:frn s+k=s.size\/digit (byt s (frn s+k))=false):dgs s=k:=by
 have hz:=ext_size s (frn s) s.size (Nat.le_refl _)
 refine dsp_eq _ k (fun i hi=> ?_) (by omega) ?_
 ·rw[ext_byt s _ _ _ (by omega)];exact h1 _ (by omega) (by omega)
 ·rcases h3 with h3 | h3
  ·exact Or.inl (by omega)
  ·by_cases e:frn s+k=s.size
   ·exact Or.inl (by omega)
   ·right;rw[ext_byt s _ _ _ (by omega)];exact h3
theorem hd_list(r:ByteArray)(n:Nat):(r.extract 0 n).toList=r.toList.take n:=by rw[ext_list];simp
theorem hd_byt(r:ByteArray)(n i:Nat)(h:i<n):byt (r.extract 0 n) i=byt r i:=by rw[ext_byt r _ _ _ (by omega),Nat.zero_add]
theorem list_at2(r:ByteArray)(h:2<=r.size): ∃b c l,r.toList=b::c::l/\byt r 0=(b.toNat:Int)/\byt r 1=(c.toNat:Int):=by
 cases hl:r.toList with
 | nil=>rw[<-size_toList,hl]at h;simp at h
 | cons b l=>
  cases l with
  | nil=>rw[<-size_toList,hl]at h;simp at h
  | cons c l=>exact⟨b,c,l,rfl,by simp[byt,hl],by simp[byt,hl]⟩
theorem sgs_facts: ∀x∈sgs,(∃b,x=[b]/\letter (b.toNat:Int)=false/\digit (b.toNat:Int)=false/\(b.toNat:Int)≠45)\/(∃b c,x=[b,c]/\[b]∈sgs/\digit (c.toNat:Int)=false/\letter (b.toNat:Int)=false/\digit (b.toNat:Int)=false/\(b.toNat:Int)≠45):=by
 intro x hx
 simp only[sgs,List.mem_cons,List.not_mem_nil,or_false]at hx
 rcases hx with rfl | rfl | rfl | rfl | rfl | rfl | rfl | rfl | rfl | rfl | rfl
 all_goals first
  | exact Or.inl ⟨_,rfl,by decide,by decide,by decide⟩
  | exact Or.inr ⟨_,_,rfl,by decide,by decide,by decide,by decide,by decide⟩
theorem SignB.first{s:ByteArray}(h:SignB s):0<s.size/\s.size<=2/\letter (byt s 0)=false/\digit (byt s 0)=false/\byt s 0≠45:=by
 have hz:=size_toList s
 rcases sgs_facts _ h with⟨b,e,h1,h2,h3⟩ | ⟨b,c,e,_,_,h1,h2,h3⟩
 all_goals
  have hb:byt s 0=(b.toNat:Int):=by simp[byt,e]
  rw[e]at hz
  simp at hz
  exact⟨by omega,by omega,by rw[hb];exact h1,by rw[hb];exact h2,by rw[hb];exact h3⟩
theorem num_first{s:ByteArray}(h:NumB s):digit (byt s 0)=true\/byt s 0=45:=by
 by_cases e:byt s 0=45
 ·exact Or.inr e
 ·left
  have hf:frn s=0:=by unfold frn;rw[if_neg (fun x=>e x.2)]
  have:=h.1
  exact h.2 0 (by omega) (by omega)
theorem letter_no{c:Int}(h:letter c=true):digit c=false/\c≠45:=by
 have:=(letter_iff c).1 h
 refine⟨?_,by omega⟩
 cases hd:digit c
 ·rfl
 ·have:=(digit_iff c).1 hd;omega
theorem letter_num{s:ByteArray}(h:letter (byt s 0)=true): ¬NumB s:=fun hn=>by
 have:=letter_no h
 rcases num_first hn with h1 | h1
 ·rw[this.1]at h1;cases h1
 ·exact this.2 h1
theorem sign_num{s:ByteArray}(h:SignB s): ¬NumB s:=fun hn=>by
 have:=h.first
 rcases num_first hn with h1 | h1
 ·rw[this.2.2.2.1]at h1;cases h1
 ·exact this.2.2.2.2 h1
theorem tlen_le(r:ByteArray)(h0:0<r.size):tlen r<=r.size:=by
 have h1:=spn_le r
 have h2:=dgs_le r
 unfold tlen
 split
 ·exact h1
 ·split
  ·split<;>omega
  ·split
   ·omega
   ·split<;>omega
def j0(r:ByteArray):Nat:=if byt r 0=45 then 2 else 1
theorem tlen_pos(r:ByteArray)(h0:0<r.size):(j0 r<=r.size/\TokB (r.extract 0 (j0 r)))↔0<tlen r:=by
 by_cases hL:letter (byt r 0)=true
 ·have hn:=letter_no hL
  have hj:j0 r=1:=by unfold j0;rw[if_neg hn.2]
  have ht:tlen r=spn r:=by unfold tlen;rw[if_pos hL]
  rw[hj,ht]
  refine⟨fun _=>spn_pos r h0 (part_letter hL),fun _=>⟨h0,Or.inl ?_⟩⟩
  have hz:=ext_size r 0 1 h0
  refine⟨by omega,by rw[hd_byt r 1 0 (by omega)];exact hL,fun i hi=> ?_⟩
  rw[hd_byt r 1 i (by omega),show i=0 by omega]
  exact part_letter hL
 ·by_cases hD:digit (byt r 0)=true
  ·have h45:byt r 0≠45:=fun e=>by rw[e]at hD;exact absurd hD (by decide)
   have hj:j0 r=1:=by unfold j0;rw[if_neg h45]
   have hf:frn r=0:=by unfold frn;rw[if_neg (fun x=>h45 x.2)]
   have hp:0<dgs r:=(dgs_pos r).2 ⟨by omega,by rw[hf];exact hD⟩
   have ht:tlen r=frn r+dgs r:=by unfold tlen;rw[if_neg hL,if_pos (Or.inl hD),if_neg (by omega)]
   rw[hj,ht]
   refine⟨fun _=>by omega,fun _=>⟨h0,Or.inr (Or.inl ?_)⟩⟩
   have hz:=ext_size r 0 1 h0
   have hb:=hd_byt r 1 0 (by omega)
   have hf1:frn (r.extract 0 1)=0:=by unfold frn;rw[if_neg (fun x=>h45 (by rw[<-hb];exact x.2))]
   refine⟨by omega,fun i h1 h2=> ?_⟩
   rw[hd_byt r 1 i (by omega),show i=0 by omega]
   exact hD
  ·by_cases h45:byt r 0=45
   ·have hj:j0 r=2:=by unfold j0;rw[if_pos h45]
    have hf:frn r=1:=by unfold frn;rw[if_pos ⟨h0,h45⟩]
    have ht:0<tlen r↔0<dgs r:=by
     unfold tlen;rw[if_neg hL,if_pos (Or.inr h45)]
     split<;>omega
    rw[hj,ht,dgs_pos,hf]
    constructor
    ·rintro⟨h2,hT⟩
     have hz:=ext_size r 0 2 h2
     have hb:=hd_byt r 2 0 (by omega)
     refine⟨by omega,?_⟩
     rcases hT with h | h | h
     ·exact absurd (by rw[<-hb];exact h.2.1) hL
     ·have hf1:frn (r.extract 0 2)=1:=by unfold frn;rw[if_pos ⟨by omega,by rw[hb];exact h45⟩]
      have:=h.2 1 (by omega) (by omega)
      rwa [hd_byt r 2 1 (by omega)]at this
     ·exact absurd (by rw[hb];exact h45) h.first.2.2.2.2
    ·rintro⟨h2,hT⟩
     have hz:=ext_size r 0 2 (by omega)
     have hb:=hd_byt r 2 0 (by omega)
     have hf1:frn (r.extract 0 2)=1:=by unfold frn;rw[if_pos ⟨by omega,by rw[hb];exact h45⟩]
     refine⟨by omega,Or.inr (Or.inl ⟨by omega,fun i h3 h4=> ?_⟩)⟩
     rw[hd_byt r 2 i (by omega),show i=1 by omega]
     exact hT
   ·have hj:j0 r=1:=by unfold j0;rw[if_neg h45]
    have hDn: ¬(digit (byt r 0)=true\/byt r 0=45):=fun h=>h.elim hD h45
    have hz:=ext_size r 0 1 h0
    have hb:=hd_byt r 1 0 (by omega)
    rw[hj]
    have hS:TokB (r.extract 0 1)↔r.toList.take 1∈sgs:=by
     rw[<-hd_list r 1]
     constructor
     ·rintro(h | h | h)
      ·exact absurd (by rw[<-hb];exact h.2.1) hL
      ·exact absurd (by rw[<-hb];exact num_first h) hDn
      ·exact h
     ·exact fun h=>Or.inr (Or.inr h)
    rw[hS]
    unfold tlen
    rw[if_neg hL,if_neg hDn]
    constructor
    ·rintro⟨_,h⟩
     split
     ·omega
     ·omega
    ·intro h
     split at h
     ·rename_i h2
      refine⟨h0,?_⟩
      obtain⟨b,c,l,e,_⟩:=list_at2 r h2.1
      have h3:=h2.2
      rw[e]at h3⊢
      simp only[List.take]at h3⊢
      rcases sgs_facts _ h3 with⟨x,e2,_⟩ | ⟨x,y,e2,h4,_⟩
      ·simp at e2
      ·simp only[List.cons.injEq]at e2
       rw[e2.1];exact h4
     ·split at h
      ·rename_i h3
       exact⟨h0,h3⟩
      ·omega
end Go.Proofs.YtmggnimiioepeaaGreatDoor.Pa
