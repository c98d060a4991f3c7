import Derived.Test.YthkehhphnbckaaaGreatDoorCheckMany
/- The law CheckMany is proved: for every input, and every world that starts as the program's text lays its variables, the call returns true and each argument reads as it did. -/
namespace Go.Proofs.YthkehhphnbckaaaGreatDoor.lawCheckMany
open Go.ChangeShapes Go.WideShapes Go.ChangeAt Go.RowKit
open Go.ChangeMaps (open_string)
set_option maxRecDepth 100000 in
theorem contract (H:Type) (enc:TypeId×Value→H) (W:World) (base:Nat) (args:Array Value) (ds gs:List (DataW H)) (before:List MemPlace)
  (hval:∀(j:Nat) t v,Tryz.f9.params[j]? =some t→args[j]? =some v→Value.okWide Tryz.prog W .any base t v)
  (hW:DataW.Whole enc Tryz.prog Tryz.f9.params.toList Rows.checkManySpec.vars false W args.toList ds gs before) (hG:GP W.heap.size W):
  Calls Tryz.prog 9 args W fun e W'=>∃v,e = .returned v∧Rows.checkManySpec.post enc Tryz.prog Tryz.f9 false true false false W args v W':=by
 have hW':=hW
 obtain⟨p,q,hA0,hV,rfl,hfz,hnd⟩:=hW
 have hA:DataW.TrodAll enc Tryz.prog W 0 (fun _=>true) true Tryz.f9.params.toList args.toList ds p:=hA0
 rw[Tryz.params9]at hA hval
 obtain⟨v0,vs0,d0,ds0,p0,q0,hargs,hds,_,h0,r0⟩:=trodAll_cons hA
 obtain⟨rfl,rfl,rfl⟩:=trodAll_nil r0
 obtain rfl:args = #[v0]:=by cases args;simp_all
 obtain⟨n0,rfl,_,_,hs0⟩:=open_int Tryz.underlying3 (hval 0 3 v0 rfl rfl) h0
 refine(law n0 W hG).mono fun e W' ⟨he,hb⟩=>?_
 subst he
 exact⟨_,rfl,Zwy rfl (by kernel_rfl) 1 (by kernel_rfl) (fun H xs hx=>by
  match xs,hx with
  | [a0],_=>rfl) hW' hb (by kernel_rfl)⟩
theorem reads (os:Os) {H:Type} (enc:TypeId×Value→H):∃x,DataW.whole enc Tryz.prog ((World.laidAll Tryz.prog os Zwu).forCall (fun _ _=>0) ⟨#[],#[.int .i64 0],[]⟩).memory Tryz.f9.params.toList Rows.checkManySpec.vars false (#[.int .i64 0]:Array Value).toList 8=some ([.lit (.int .i64 0)],[],x):=
 ⟨[],by kernel_rfl⟩
set_option maxRecDepth 100000 in
theorem wit_ok (os:Os):Input.okWideB Tryz.prog ((World.laidAll Tryz.prog os Zwu).forCall (fun _ _=>0) ⟨#[],#[.int .i64 0],[]⟩) 9 ⟨#[],#[.int .i64 0],[]⟩=true:=by kernel_rfl
set_option maxRecDepth 100000 in
theorem wit_sized (os:Os) (H:Type) (enc:TypeId×Value→H):(OpenSpec.ofChange Rows.checkManySpec).bare.sizedB enc Tryz.prog Tryz.f9 false ((World.laidAll Tryz.prog os Zwu).forCall (fun _ _=>0) ⟨#[],#[.int .i64 0],[]⟩).memory #[.int .i64 0] 8=true:=by kernel_rfl
set_option maxRecDepth 100000 in
theorem wit_row (os:Os) (H:Type) (enc:TypeId×Value→H):(OpenSpec.ofChange Rows.checkManySpec).preRow enc Tryz.prog Tryz.f9 Rows.checkManyRow.domain false Zwu ((World.laidAll Tryz.prog os Zwu).forCall (fun _ _=>0) ⟨#[],#[.int .i64 0],[]⟩).memory #[.int .i64 0]:=by
 obtain⟨places,hx⟩:=reads os enc
 exact OpenSpec.preRow_of_cond 8 hx (by kernel_rfl) (fun k hk=>by cases hk) (wit_sized os H enc) (Zww os _)
set_option maxRecDepth 100000 in
theorem lifted (os:Os) (started:os.Started) (H:Type) (enc:TypeId×Value→H) (F:Stop.Interp):
  ReturnsInHanded {} Tryz.checked os 9 .any ((OpenSpec.ofChange Rows.checkManySpec).preRow enc Tryz.prog Tryz.f9 Rows.checkManyRow.domain false Rows.checkManyRow.laid) (((OpenSpec.ofChange Rows.checkManySpec).at F).post enc Tryz.prog Tryz.f9 false true false false):=by
 refine returnsInHanded_of_row (C:=Tryz.checked) (s:=(OpenSpec.ofChange Rows.checkManySpec)) own started (by kernel_rfl) Tryz.func9 (Zbsz (os:=os) #[.int .i64 0] (wit_ok os) (wit_row os H enc)) ?_
 intro W base args ds gs before hval hW _ _ _ hL hS _
 exact contract H enc W base args ds gs before hval hW (Zqt hL hS)
set_option maxHeartbeats 40000000 in
set_option maxRecDepth 100000 in
theorem closed:joinedFacts Tryz.prog 9 Tryz.f9 (OpenSpec.ofChange Rows.checkManySpec).bare Rows.checkManyRow=true:=by
 unfold joinedFacts
 repeat' (with_reducible refine Bool.and_eq_true_iff.2 ⟨?_,?_⟩)
 all_goals as_aux_lemma=>kernel_rfl
theorem inst:Tryz.f9.isInstance Tryz.prog Rows.checkManyRow.origin Rows.checkManyRow.targs:=of_decide_eq_true (by kernel_rfl)
theorem wrap:Tryz.f9.isWrapper Tryz.prog Rows.checkManyRow.wrapper Rows.checkManyRow.mainSum:=by unfold Func.isWrapper;first|(rw[if_pos (by decide +kernel)];kernel_rfl)|(rw[if_neg (by decide +kernel)];exact⟨rfl,rfl⟩)
theorem named:Tryz.prog.funcNamed Rows.checkManyRow.func=some 9:=by kernel_rfl
theorem said:Rows.CheckManySaid:=
 OpenClaim.holds_of_cond 9 Tryz.f9 rfl rfl rfl rfl rfl rfl rfl ⟨rfl,rfl,rfl,rfl,rfl⟩ rfl rfl rfl rfl rfl named Tryz.func9 closed inst wrap
  (fun os started H enc _ F=>by rw[OpenClaim.pre_eq_preRow];exact lifted os started H enc F)
theorem plain (f:FuncId) (fn:Func) (hf:Tryz.pinned.checked.prog.funcNamed Rows.checkManyRow.func=some f) (hfn:Tryz.pinned.checked.prog.funcs[f]? =some fn):
  true=Tryz.pinned.checked.prog.looks []∧∀(j:Nat) t,fn.params[j]? =some t→Tryz.pinned.checked.prog.wantsStandIn t=false:=by
 obtain rfl:f=9:=Option.some.inj ((show Tryz.prog.funcNamed Rows.checkManyRow.func=some 9 by kernel_rfl).symm.trans hf) |>.symm
 obtain rfl:fn=Tryz.f9:=(Option.some.inj (Tryz.func9.symm.trans hfn)).symm
 refine⟨by kernel_rfl,fun j t ht=>?_⟩
 have hm:=Array.mem_of_getElem? ht
 have hall:(Tryz.f9.params.toList.all fun u=> !Tryz.prog.wantsStandIn u)=true:=by kernel_rfl
 exact(show Tryz.prog.wantsStandIn t=false by simpa using List.all_eq_true.1 hall t (by simpa using hm))
theorem wfText:Rows.checkManyRow.wfByText (OpenSpec.ofChange Rows.checkManySpec)=true:=by kernel_rfl
theorem goesBy:false=Rows.checkManyRow.goesBy Tryz.prog:=by kernel_rfl
theorem card:Rows.CheckManyCardSaid:=
 Claim7.holds_tied_plain_at .later [] _ _ _ _ said (fun _ h=>by cases h) wfText (fun _ h=>by cases h) checkMany_row_tie rfl ⟨rfl,rfl⟩ (by kernel_rfl) rfl plain goesBy
end Go.Proofs.YthkehhphnbckaaaGreatDoor.lawCheckMany
