import Derived.Test.YtmggnimiioepeaaGreatDoorQ0
import Derived.Test.YtmggnimiioepeaaGreatDoorCards
import Derived.Test.YtmggnimiioepeaaGreatDoorTie
import Derived.Test.YtmggnimiioepeaaGreatDoorQ48
namespace Go.Proofs.YtmggnimiioepeaaGreatDoor.fnExactParse
open Go.ChangeShapes Go.WideShapes Go.ChangeAt Go.RowKit Go.Joins
theorem own:ownKnob Tryz.prog.godebug=none:=by kernel_rfl
theorem laidOut:laidOutB Tryz.prog=true:=by kernel_rfl
theorem hTKw{W:World}(h:laidMetH Tryz.prog Rows.fnExactParseRow.laid W):TKw W:=by
 obtain⟨h1,h2⟩:=Tables.cells_of_laid (n:= "loop.example/s0035/impl.keywords") (d:=Rows.laid_loop_example_s0035_impl_keywords) h (by kernel_rfl) (by simp[Rows.fnExactParseRow]) (g:=2) (t:=109) (by kernel_rfl) (by kernel_rfl) 4 (by kernel_rfl)
 exact⟨h1,h2⟩
theorem hTSg{W:World}(h:laidMetH Tryz.prog Rows.fnExactParseRow.laid W):Pa.TSg W:=by
 obtain⟨h1,h2⟩:=Tables.cells_of_laid (n:= "loop.example/s0035/impl.signs") (d:=Rows.laid_loop_example_s0035_impl_signs) h (by kernel_rfl) (by simp[Rows.fnExactParseRow]) (g:=0) (t:=95) (by kernel_rfl) (by kernel_rfl) 4 (by kernel_rfl)
 exact⟨h1,h2⟩
theorem hTRules{W:World}(h:laidMetH Tryz.prog Rows.fnExactParseRow.laid W):TRules W:=by
 obtain⟨h1,h2⟩:=Tables.cells_of_laid (n:= "loop.example/s0035/impl.fieldRules") (d:=Rows.laid_loop_example_s0035_impl_fieldRules) h (by kernel_rfl) (by simp[Rows.fnExactParseRow]) (g:=1) (t:=103) (by kernel_rfl) (by kernel_rfl) 4 (by kernel_rfl)
 exact⟨h1,h2⟩
theorem hTCs{W:World}(h:laidMetH Tryz.prog Rows.fnExactParseRow.laid W):TabAt W 7 Pa.csT:=by
 obtain⟨h1,h2⟩:=Tables.cells_of_laid (n:= "loop.example/s0035/impl.compSigns") (d:=Rows.laid_loop_example_s0035_impl_compSigns) h (by kernel_rfl) (by simp[Rows.fnExactParseRow]) (g:=7) (t:=176) (by kernel_rfl) (by kernel_rfl) 4 (by kernel_rfl)
 exact⟨h1,h2⟩
theorem hTAw{W:World}(h:laidMetH Tryz.prog Rows.fnExactParseRow.laid W):TabAt W 5 Pa.awT:=by
 obtain⟨h1,h2⟩:=Tables.cells_of_laid (n:= "loop.example/s0035/impl.aggWords") (d:=Rows.laid_loop_example_s0035_impl_aggWords) h (by kernel_rfl) (by simp[Rows.fnExactParseRow]) (g:=5) (t:=149) (by kernel_rfl) (by kernel_rfl) 4 (by kernel_rfl)
 exact⟨h1,h2⟩
theorem hTabs{W:World}(h:laidMetH Tryz.prog Rows.fnExactParseRow.laid W):Pa.Tabs W:=⟨hTKw h,hTSg h,hTRules h,hTCs h,hTAw h⟩
set_option maxRecDepth 100000 in
theorem lifted(os:Os)(started:os.Started)(H:Type)(enc:TypeId×Value->H):
  ReturnsInHanded {} Tryz.checked os 3 .any (fun w args=>(Rows.fnExactParseSpec.pre enc Tryz.prog Tryz.f3 [] false w args/\laidMetH Tryz.prog Rows.fnExactParseRow.laid w)/\sizedMet enc Tryz.prog Tryz.f3 (OpenSpec.ofChange Rows.fnExactParseSpec) false w args)
   (Rows.fnExactParseSpec.post enc Tryz.prog Tryz.f3 false true false false):=by
 refine returnsInHanded_of_change_and (C:=Tryz.checked) (X:=fun w _=>laidMetH Tryz.prog Rows.fnExactParseRow.laid w) (fun _ _ _ hh h=>h.of_heap hh) own started (by kernel_rfl) Tryz.func3
  (ChangeSpec.witness_shaped (enc:=enc) (C:=Tryz.checked) (os:=os) (X:=fun w _=>laidMetH Tryz.prog Rows.fnExactParseRow.laid w) false (World.laidAll Tryz.prog os Rows.fnExactParseRow.laid) #[.string ⟨#[]⟩] 8 (World.laidAll_os _ _ _)
   (World.shaped_of_ZipB (by kernel_rfl) (by kernel_rfl)) (by kernel_rfl) (by kernel_rfl) (by kernel_rfl)
   (by rw[MakeChecks.laidMetH_plain _ _ _ (by kernel_rfl)];exact laidMet_laidAll _ (by kernel_rfl) (by kernel_rfl))) ?_
 intro W base args ds gs before hval0 hW _ _ hL _
 have hval: ∀(j:Nat) t v,Tryz.f3.params[j]?=some t->args[j]?=some v->Value.okWide Tryz.prog W .any base t v:=hval0
 have hW':=hW
 obtain⟨p,q,hA0,hV,rfl,hfz,hnd⟩:=hW
 have hA:DataW.TrodAll enc Tryz.prog W 0 (fun _=>true) true Tryz.f3.params.toList args.toList ds p:=hA0
 rw[Tryz.params3]at hA hval
 obtain⟨v0,vs0,d0,ds0,p0,q0,hargs,rfl,rfl,h0,r0⟩:=trodAll_cons hA
 obtain⟨rfl,rfl,rfl⟩:=trodAll_nil r0
 obtain rfl:args= #[v0]:=by cases args;simp_all
 obtain⟨x0,rfl,rfl,rfl,wx0⟩:=Go.ChangeMaps.open_string Tryz.underlying9 (hval 0 9 v0 rfl rfl) h0
 refine(Pa.lawParse_calls x0 W (hTabs hL)).mono fun e W' ⟨he,hb⟩=> ?_
 subst he
 obtain⟨g0,g1,g2,g3,g4,rfl⟩:=Frame.len5 (Frame.trodVars_length hV)
 exact⟨_,rfl,Frame.law_post laidOut (by kernel_rfl) (by kernel_rfl) (by kernel_rfl) Tryz.underlying4 hW' rfl hb⟩
theorem said:Rows.FnExactParseSaid:=
 OpenClaim.holds_of_wide 3 Tryz.f3 rfl rfl rfl rfl rfl rfl rfl ⟨rfl,rfl,rfl,rfl,rfl⟩ rfl rfl rfl rfl rfl (by kernel_rfl) Tryz.func3 (by kernel_rfl)
  (of_decide_eq_true (by kernel_rfl)) (by unfold Func.isWrapper;first | (rw[if_pos (by decide+kernel)];kernel_rfl) | (rw[if_neg (by decide+kernel)];exact⟨rfl,rfl⟩))
  (fun os started H enc _=>lifted os started H enc)
theorem plain(f:FuncId)(fn:Func)(hf:Tryz.pinned.checked.prog.funcNamed "loop.example/s0035/laws.FnExactParse" =some f)(hfn:Tryz.pinned.checked.prog.funcs[f]?=some fn):
  true=Tryz.pinned.checked.prog.looks []/\ ∀(j:Nat) t,fn.params[j]?=some t->Tryz.pinned.checked.prog.wantsStandIn t=false:=by
 obtain rfl:f=3:=Option.some.inj ((show Tryz.prog.funcNamed "loop.example/s0035/laws.FnExactParse" =some 3 by kernel_rfl).symm.trans hf) |>.symm
 obtain rfl:fn=Tryz.f3:=(Option.some.inj (Tryz.func3.symm.trans hfn)).symm
 have hall:(Tryz.f3.params.toList.all fun u=> !Tryz.prog.wantsStandIn u)=true:=by kernel_rfl
 refine⟨by kernel_rfl,fun j t ht=> ?_⟩
 have:=List.all_eq_true.1 hall t (Array.mem_toList_iff.2 (Array.mem_of_getElem? ht))
 exact(show Tryz.prog.wantsStandIn t=false by simpa using this)
theorem card:Rows.FnExactParseCardSaid:=
 Claim7.holds_tied_plain_at .later [] _ _ _ _ said (fun _ h=>by cases h) (by kernel_rfl) (fun _ h=>by cases h) fnExactParse_row_tie rfl ⟨rfl,rfl⟩ (by kernel_rfl) rfl plain (by kernel_rfl)
end Go.Proofs.YtmggnimiioepeaaGreatDoor.fnExactParse
namespace Go.Proofs.YtmggnimiioepeaaGreatDoor
theorem fnExactParse_card:Rows.FnExactParseCardSaid:=fnExactParse.card
end Go.Proofs.YtmggnimiioepeaaGreatDoor
