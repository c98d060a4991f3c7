import Derived.Test.YtcpjfpdecklkgaaGreatDoorCheckAll
import Derived.Test.YtcpjfpdecklkgaaGreatDoorMbv
/- The law CheckAll is proved: for every input of at most the bulk that the second form names, and every world that starts as the program's text lays its variables, the call returns true and each argument reads as it did. -/
namespace Go.Proofs.YtcpjfpdecklkgaaGreatDoor.lawCheckAll
open Go.Proofs.Tryz
open Go.ChangeShapes Go.WideShapes Go.ChangeAt Go.RowKit
open Go.ChangeMaps (open_string)
set_option maxRecDepth 100000 in
theorem contract (H:Type) (enc:TypeId×Value->H) (W:World) (base:Nat) (args:Array Value) (ds gs:List (DataW H)) (before:List MemPlace)
  (hval:∀(j:Nat) t v,Tryz.f3.params[j]? =some t->args[j]? =some v->Value.okWide prog W .any base t v)
  (hW:DataW.Whole enc prog Tryz.f3.params.toList Rows.checkAllSpec.vars false W args.toList ds gs before) (hG:GP W.heap.size W) (hk:Rows.uptoSmall H (ds++gs)=true):
  Calls prog 3 args W λe W'=>∃v,e = .returned v/\Rows.checkAllSpec.post enc prog Tryz.f3 false true false false W args v W':=by
 have hW':=hW;obtain⟨p,q,hA0,hV,rfl,hfz,hnd⟩:=hW;have hA:DataW.TrodAll enc prog W 0 (λ_=>true) true Tryz.f3.params.toList args.toList ds p:=hA0;rw[Tryz.params3]at hA hval;obtain⟨v0,vs0,d0,ds0,p0,q0,hargs,hds,_,h0,r0⟩:=trodAll_cons hA;obtain⟨rfl,rfl,rfl⟩:=trodAll_nil r0;obtain rfl:args = #[v0]:=by cases args;simp_all
 obtain⟨x0,hF0,hl0,hs0⟩:=Zbxh (hval 0 22 v0 rfl rfl) h0;rw[hds]at hk;have hbk:=of_decide_eq_true hk;simp only[List.cons_append,List.nil_append,Rows.uptoBulkAll]at hbk;have hu0:x0.length<=1048576/\∀y∈x0,SmallR y 1048576:=⟨by omega,λy hy=>(hs0 y hy).mono (by omega)⟩;refine(law v0 x0 W hF0 hu0 hG).mono λe W' ⟨he,hb⟩=>?_
 subst he;exact⟨_,rfl,Zwy rfl (by kernel_rfl) 1 (by kernel_rfl) (λH xs hx=>by
  match xs,hx with
  | [a0],_=>rfl) hW' hb (by kernel_rfl)⟩
theorem reads (os:Os) {H:Type} (enc:TypeId×Value->H):∃x,DataW.whole enc prog ((World.laidAll prog os Zwu).forCall (λ_ _=>0) ⟨#[],#[.slice none 0 0],[]⟩).memory Tryz.f3.params.toList Rows.checkAllSpec.vars false (#[.slice none 0 0]:Array Value).toList 8=some ([.nil],[],x):=
 ⟨[],by kernel_rfl⟩
set_option maxRecDepth 100000 in
theorem wit_okUpto (os:Os):Input.okWideB prog ((World.laidAll prog os Zwu).forCall (λ_ _=>0) ⟨#[],#[.slice none 0 0],[]⟩) 3 ⟨#[],#[.slice none 0 0],[]⟩=true:=by kernel_rfl
set_option maxRecDepth 100000 in
theorem wit_sizedUpto (os:Os) (H:Type) (enc:TypeId×Value->H):(Rows.OpenSpec.upto Rows.checkAllSpec).bare.sizedB enc prog Tryz.f3 false ((World.laidAll prog os Zwu).forCall (λ_ _=>0) ⟨#[],#[.slice none 0 0],[]⟩).memory #[.slice none 0 0] 8=true:=by kernel_rfl
set_option maxRecDepth 100000 in
theorem wit_rowUpto (os:Os) (H:Type) (enc:TypeId×Value->H):(Rows.OpenSpec.upto Rows.checkAllSpec).preRow enc prog Tryz.f3 Rows.checkAllUptoRow.domain false Zwu ((World.laidAll prog os Zwu).forCall (λ_ _=>0) ⟨#[],#[.slice none 0 0],[]⟩).memory #[.slice none 0 0]:=by
 obtain⟨places,hx⟩:=reads os enc;exact OpenSpec.preRow_of_cond 8 hx (by kernel_rfl) (λk hk=>by cases hk;kernel_rfl) (wit_sizedUpto os H enc) (Zww os _)
set_option maxRecDepth 100000 in
theorem liftedUpto (os:Os) (started:os.Started) (H:Type) (enc:TypeId×Value->H) (F:Stop.Interp):
  ReturnsInHanded {} Tryz.checked os 3 .any ((Rows.OpenSpec.upto Rows.checkAllSpec).preRow enc prog Tryz.f3 Rows.checkAllUptoRow.domain false Rows.checkAllUptoRow.laid) (((Rows.OpenSpec.upto Rows.checkAllSpec).at F).post enc prog Tryz.f3 false true false false):=by
 refine returnsInHanded_of_row (C:=Tryz.checked) (s:=(Rows.OpenSpec.upto Rows.checkAllSpec)) own started (by kernel_rfl) func3 (Zbsz (os:=os) #[.slice none 0 0] (wit_okUpto os) (wit_rowUpto os H enc)) ?_;intro W base args ds gs before hval hW _ hk _ hL hS _;exact contract H enc W base args ds gs before hval hW (Zqt hL hS) (hk _ rfl)
set_option maxHeartbeats 40000000 in
set_option maxRecDepth 100000 in
theorem closedUpto:joinedFacts prog 3 Tryz.f3 (Rows.OpenSpec.upto Rows.checkAllSpec).bare Rows.checkAllUptoRow=true:=by
 unfold joinedFacts
 repeat' (with_reducible refine Bool.and_eq_true_iff.2 ⟨?_,?_⟩)
 all_goals as_aux_lemma=>kernel_rfl
theorem instUpto:Tryz.f3.isInstance prog Rows.checkAllUptoRow.origin Rows.checkAllUptoRow.targs:=of_decide_eq_true (by kernel_rfl)
theorem wrapUpto:Tryz.f3.isWrapper prog Rows.checkAllUptoRow.wrapper Rows.checkAllUptoRow.mainSum:=by unfold Func.isWrapper;first|(rw[if_pos (by decide +kernel)];kernel_rfl)|(rw[if_neg (by decide +kernel)];exact⟨rfl,rfl⟩)
theorem namedUpto:prog.funcNamed Rows.checkAllUptoRow.func=some 3:=by kernel_rfl
theorem saidUpto:Rows.CheckAllUptoSaid:=
 OpenClaim.holds_of_cond 3 Tryz.f3 rfl rfl rfl rfl rfl rfl rfl ⟨rfl,rfl,rfl,rfl,rfl⟩ rfl rfl rfl rfl rfl namedUpto func3 closedUpto instUpto wrapUpto
  (λos started H enc _ F=>by rw[OpenClaim.pre_eq_preRow];exact liftedUpto os started H enc F)
theorem plainUpto (f:FuncId) (fn:Func) (hf:Tryz.pinned.checked.prog.funcNamed Rows.checkAllUptoRow.func=some f) (hfn:Tryz.pinned.checked.prog.funcs[f]? =some fn):
  true=Tryz.pinned.checked.prog.looks []/\∀(j:Nat) t,fn.params[j]? =some t->Tryz.pinned.checked.prog.wantsStandIn t=false:=by
 obtain rfl:f=3:=Option.some.inj ((show prog.funcNamed Rows.checkAllUptoRow.func=some 3 by kernel_rfl).symm.trans hf) |>.symm
 obtain rfl:fn=Tryz.f3:=(Option.some.inj (func3.symm.trans hfn)).symm;refine⟨by kernel_rfl,λj t ht=>?_⟩;have hm:=Array.mem_of_getElem? ht;have hall:(Tryz.f3.params.toList.all λu=> !prog.wantsStandIn u)=true:=by kernel_rfl
 exact(show prog.wantsStandIn t=false by simpa using List.all_eq_true.1 hall t (by simpa using hm))
theorem wfTextUpto:Rows.checkAllUptoRow.wfByText (Rows.OpenSpec.upto Rows.checkAllSpec)=true:=by kernel_rfl
theorem goesByUpto:false=Rows.checkAllUptoRow.goesBy prog:=by kernel_rfl
theorem cardUpto:Rows.CheckAllUptoCardSaid:=
 Claim7.holds_tied_plain_at .later [] _ _ _ _ saidUpto (λ_ h=>by cases h) wfTextUpto (λ_ h=>by cases h) checkAllUpto_row_tie rfl ⟨rfl,rfl⟩ (by kernel_rfl) rfl plainUpto goesByUpto
end Go.Proofs.YtcpjfpdecklkgaaGreatDoor.lawCheckAll
