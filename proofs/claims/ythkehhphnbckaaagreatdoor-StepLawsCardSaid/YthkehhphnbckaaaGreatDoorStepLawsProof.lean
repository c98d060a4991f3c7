import Derived.Test.YthkehhphnbckaaaGreatDoorStepLaws
/- The law StepLaws is proved: for every input, and every world that starts as the program's text lays its variables, the call returns true and each argument reads as it did. -/
namespace Go.Proofs.YthkehhphnbckaaaGreatDoor.lawStepLaws
open Go.ChangeShapes Go.WideShapes Go.ChangeAt Go.RowKit
open Go.ChangeMaps (open_string)
set_option maxRecDepth 100000 in
theorem contract (H:Type) (enc:TypeId×Value->H) (W:World) (base:Nat) (args:Array Value) (ds gs:List (DataW H)) (before:List MemPlace)
  (hval:∀(j:Nat) t v,Tryz.f3.params[j]? =some t->args[j]? =some v->Value.okWide Tryz.prog W .any base t v)
  (hW:DataW.Whole enc Tryz.prog Tryz.f3.params.toList Rows.stepLawsSpec.vars false W args.toList ds gs before) (hG:GP W.heap.size W):
  Calls Tryz.prog 3 args W λe W'=>∃v,e = .returned v/\Rows.stepLawsSpec.post enc Tryz.prog Tryz.f3 false true false false W args v W':=by
 have hW':=hW;obtain⟨p,q,hA0,hV,rfl,hfz,hnd⟩:=hW;have hA:DataW.TrodAll enc Tryz.prog W 0 (λ_=>true) true Tryz.f3.params.toList args.toList ds p:=hA0;rw[Tryz.params3]at hA hval;obtain⟨v0,vs0,d0,ds0,p0,q0,hargs,hds,_,h0,r0⟩:=trodAll_cons hA;obtain⟨v1,vs1,d1,ds1,p1,q1,rfl,rfl,_,h1,r1⟩:=trodAll_cons r0;obtain⟨v2,vs2,d2,ds2,p2,q2,rfl,rfl,_,h2,r2⟩:=trodAll_cons r1;obtain⟨v3,vs3,d3,ds3,p3,q3,rfl,rfl,_,h3,r3⟩:=trodAll_cons r2;obtain⟨rfl,rfl,rfl⟩:=trodAll_nil r3;obtain rfl:args = #[v0,v1,v2,v3]:=by cases args;simp_all
 obtain⟨s0,rfl,_,_,hs0⟩:=open_string Tryz.underlying9 (hval 0 9 v0 rfl rfl) h0;obtain⟨s1,rfl,_,_,hs1⟩:=open_string Tryz.underlying9 (hval 1 9 v1 rfl rfl) h1;obtain⟨n2,rfl,_,_,hs2⟩:=open_int Tryz.underlying3 (hval 2 3 v2 rfl rfl) h2;obtain⟨n3,rfl,_,_,hs3⟩:=open_int Tryz.underlying3 (hval 3 3 v3 rfl rfl) h3;refine(law s0 s1 n2 n3 W hs0 hs1 hG).mono λe W' ⟨he,hb⟩=>?_
 subst he;exact⟨_,rfl,Zwy rfl (by kernel_rfl) 4 (by kernel_rfl) (λH xs hx=>by
  match xs,hx with
  | [a0,a1,a2,a3],_=>rfl) hW' hb (by kernel_rfl)⟩
theorem reads (os:Os) {H:Type} (enc:TypeId×Value->H):∃x,DataW.whole enc Tryz.prog ((World.laidAll Tryz.prog os Zwu).forCall (λ_ _=>0) ⟨#[],#[.string ByteArray.empty,.string ByteArray.empty,.int .i64 0,.int .i64 0],[]⟩).memory Tryz.f3.params.toList Rows.stepLawsSpec.vars false (#[.string ByteArray.empty,.string ByteArray.empty,.int .i64 0,.int .i64 0]:Array Value).toList 8=some ([.lit (.string []),.lit (.string []),.lit (.int .i64 0),.lit (.int .i64 0)],[],x):=
 ⟨[],by kernel_rfl⟩
set_option maxRecDepth 100000 in
theorem wit_ok (os:Os):Input.okWideB Tryz.prog ((World.laidAll Tryz.prog os Zwu).forCall (λ_ _=>0) ⟨#[],#[.string ByteArray.empty,.string ByteArray.empty,.int .i64 0,.int .i64 0],[]⟩) 3 ⟨#[],#[.string ByteArray.empty,.string ByteArray.empty,.int .i64 0,.int .i64 0],[]⟩=true:=by kernel_rfl
set_option maxRecDepth 100000 in
theorem wit_sized (os:Os) (H:Type) (enc:TypeId×Value->H):(OpenSpec.ofChange Rows.stepLawsSpec).bare.sizedB enc Tryz.prog Tryz.f3 false ((World.laidAll Tryz.prog os Zwu).forCall (λ_ _=>0) ⟨#[],#[.string ByteArray.empty,.string ByteArray.empty,.int .i64 0,.int .i64 0],[]⟩).memory #[.string ByteArray.empty,.string ByteArray.empty,.int .i64 0,.int .i64 0] 8=true:=by kernel_rfl
set_option maxRecDepth 100000 in
theorem wit_row (os:Os) (H:Type) (enc:TypeId×Value->H):(OpenSpec.ofChange Rows.stepLawsSpec).preRow enc Tryz.prog Tryz.f3 Rows.stepLawsRow.domain false Zwu ((World.laidAll Tryz.prog os Zwu).forCall (λ_ _=>0) ⟨#[],#[.string ByteArray.empty,.string ByteArray.empty,.int .i64 0,.int .i64 0],[]⟩).memory #[.string ByteArray.empty,.string ByteArray.empty,.int .i64 0,.int .i64 0]:=by
 obtain⟨places,hx⟩:=reads os enc;exact OpenSpec.preRow_of_cond 8 hx (by kernel_rfl) (λk hk=>by cases hk) (wit_sized os H enc) (Zww os _)
set_option maxRecDepth 100000 in
theorem lifted (os:Os) (started:os.Started) (H:Type) (enc:TypeId×Value->H) (F:Stop.Interp):
  ReturnsInHanded {} Tryz.checked os 3 .any ((OpenSpec.ofChange Rows.stepLawsSpec).preRow enc Tryz.prog Tryz.f3 Rows.stepLawsRow.domain false Rows.stepLawsRow.laid) (((OpenSpec.ofChange Rows.stepLawsSpec).at F).post enc Tryz.prog Tryz.f3 false true false false):=by
 refine returnsInHanded_of_row (C:=Tryz.checked) (s:=(OpenSpec.ofChange Rows.stepLawsSpec)) own started (by kernel_rfl) Tryz.func3 (Zbsz (os:=os) #[.string ByteArray.empty,.string ByteArray.empty,.int .i64 0,.int .i64 0] (wit_ok os) (wit_row os H enc)) ?_;intro W base args ds gs before hval hW _ _ _ hL hS _;exact contract H enc W base args ds gs before hval hW (Zqt hL hS)
set_option maxHeartbeats 40000000 in
set_option maxRecDepth 100000 in
theorem closed:joinedFacts Tryz.prog 3 Tryz.f3 (OpenSpec.ofChange Rows.stepLawsSpec).bare Rows.stepLawsRow=true:=by
 unfold joinedFacts
 repeat' (with_reducible refine Bool.and_eq_true_iff.2 ⟨?_,?_⟩)
 all_goals as_aux_lemma=>kernel_rfl
theorem inst:Tryz.f3.isInstance Tryz.prog Rows.stepLawsRow.origin Rows.stepLawsRow.targs:=of_decide_eq_true (by kernel_rfl)
theorem wrap:Tryz.f3.isWrapper Tryz.prog Rows.stepLawsRow.wrapper Rows.stepLawsRow.mainSum:=by unfold Func.isWrapper;first|(rw[if_pos (by decide +kernel)];kernel_rfl)|(rw[if_neg (by decide +kernel)];exact⟨rfl,rfl⟩)
theorem named:Tryz.prog.funcNamed Rows.stepLawsRow.func=some 3:=by kernel_rfl
theorem said:Rows.StepLawsSaid:=
 OpenClaim.holds_of_cond 3 Tryz.f3 rfl rfl rfl rfl rfl rfl rfl ⟨rfl,rfl,rfl,rfl,rfl⟩ rfl rfl rfl rfl rfl named Tryz.func3 closed inst wrap
  (λos started H enc _ F=>by rw[OpenClaim.pre_eq_preRow];exact lifted os started H enc F)
theorem plain (f:FuncId) (fn:Func) (hf:Tryz.pinned.checked.prog.funcNamed Rows.stepLawsRow.func=some f) (hfn:Tryz.pinned.checked.prog.funcs[f]? =some fn):
  true=Tryz.pinned.checked.prog.looks []/\∀(j:Nat) t,fn.params[j]? =some t->Tryz.pinned.checked.prog.wantsStandIn t=false:=by
 obtain rfl:f=3:=Option.some.inj ((show Tryz.prog.funcNamed Rows.stepLawsRow.func=some 3 by kernel_rfl).symm.trans hf) |>.symm
 obtain rfl:fn=Tryz.f3:=(Option.some.inj (Tryz.func3.symm.trans hfn)).symm;refine⟨by kernel_rfl,λj t ht=>?_⟩;have hm:=Array.mem_of_getElem? ht;have hall:(Tryz.f3.params.toList.all λu=> !Tryz.prog.wantsStandIn u)=true:=by kernel_rfl
 exact(show Tryz.prog.wantsStandIn t=false by simpa using List.all_eq_true.1 hall t (by simpa using hm))
theorem wfText:Rows.stepLawsRow.wfByText (OpenSpec.ofChange Rows.stepLawsSpec)=true:=by kernel_rfl
theorem goesBy:false=Rows.stepLawsRow.goesBy Tryz.prog:=by kernel_rfl
theorem card:Rows.StepLawsCardSaid:=
 Claim7.holds_tied_plain_at .later [] _ _ _ _ said (λ_ h=>by cases h) wfText (λ_ h=>by cases h) stepLaws_row_tie rfl ⟨rfl,rfl⟩ (by kernel_rfl) rfl plain goesBy
end Go.Proofs.YthkehhphnbckaaaGreatDoor.lawStepLaws
