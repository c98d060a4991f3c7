import Derived.Test.YtmgcaldphpnfgaaGreatDoorDenoOrder
import Derived.Test.YtmgcaldphpnfgaaGreatDoorMbp
/- The law DenoOrder is proved: for every input of at most the bulk that the second form names, and every world that starts as the program's text lays its variables, the call returns true and each argument reads as it did. -/
namespace Go.Proofs.YtmgcaldphpnfgaaGreatDoor.lawDenoOrder
open Go.ChangeShapes Go.WideShapes Go.ChangeAt Go.RowKit
open Go.ChangeMaps (open_string)
set_option maxRecDepth 100000 in
theorem contract (H:Type) (enc:TypeId×Value->H) (W:World) (base:Nat) (args:Array Value) (ds gs:List (DataW H)) (before:List MemPlace)
  (hval:∀(j:Nat) t v,Tryz.f8.params[j]? =some t->args[j]? =some v->Value.okWide Tryz.prog W .any base t v)
  (hW:DataW.Whole enc Tryz.prog Tryz.f8.params.toList Rows.denoOrderSpec.vars false W args.toList ds gs before) (hG:GP W.heap.size W) (hk:Rows.uptoSmall H (ds++gs)=true):
  Calls Tryz.prog 8 args W λe W'=>∃v,e = .returned v/\Rows.denoOrderSpec.post enc Tryz.prog Tryz.f8 false true false false W args v W':=by
 have hW':=hW;obtain⟨p,q,hA0,hV,rfl,hfz,hnd⟩:=hW;have hA:DataW.TrodAll enc Tryz.prog W 0 (λ_=>true) true Tryz.f8.params.toList args.toList ds p:=hA0;rw[Tryz.params8]at hA hval;obtain⟨v0,vs0,d0,ds0,p0,q0,hargs,hds,_,h0,r0⟩:=trodAll_cons hA;obtain⟨v1,vs1,d1,ds1,p1,q1,rfl,rfl,_,h1,r1⟩:=trodAll_cons r0;obtain⟨v2,vs2,d2,ds2,p2,q2,rfl,rfl,_,h2,r2⟩:=trodAll_cons r1;obtain⟨rfl,rfl,rfl⟩:=trodAll_nil r2;obtain rfl:args = #[v0,v1,v2]:=by cases args;simp_all
 obtain⟨x0,hF0,hl0,hs0⟩:=Zbxh (hval 0 49 v0 rfl rfl) h0;obtain⟨x1,hF1,hs1⟩:=Zchz (hval 1 50 v1 rfl rfl) h1;obtain⟨n2,rfl,_,_,hs2⟩:=open_int Tryz.underlying3 (hval 2 3 v2 rfl rfl) h2;rw[hds]at hk;have hbk:=of_decide_eq_true hk;simp only[List.cons_append,List.nil_append,Rows.uptoBulkAll]at hbk;have hu0:x0.length<=1048576/\∀y∈x0,SmallR y 1048576:=⟨by omega,λy hy=>(hs0 y hy).mono (by omega)⟩;refine(law v0 x0 v1 x1 n2 W hF0 hu0 hF1 hs1 hG).mono λe W' ⟨he,hb⟩=>?_
 subst he;exact⟨_,rfl,Zwy rfl (by kernel_rfl) 3 (by kernel_rfl) (λH xs hx=>by
  match xs,hx with
  | [a0,a1,a2],_=>rfl) hW' hb (by kernel_rfl)⟩
theorem reads (os:Os) {H:Type} (enc:TypeId×Value->H):∃x,DataW.whole enc Tryz.prog ((World.laidAll Tryz.prog os Zwu).forCall (λ_ _=>0) ⟨#[],#[.slice none 0 0,.slice none 0 0,.int .i64 0],[]⟩).memory Tryz.f8.params.toList Rows.denoOrderSpec.vars false (#[.slice none 0 0,.slice none 0 0,.int .i64 0]:Array Value).toList 8=some ([.nil,.nil,.lit (.int .i64 0)],[],x):=
 ⟨[],by kernel_rfl⟩
set_option maxRecDepth 100000 in
theorem wit_okUpto (os:Os):Input.okWideB Tryz.prog ((World.laidAll Tryz.prog os Zwu).forCall (λ_ _=>0) ⟨#[],#[.slice none 0 0,.slice none 0 0,.int .i64 0],[]⟩) 8 ⟨#[],#[.slice none 0 0,.slice none 0 0,.int .i64 0],[]⟩=true:=by kernel_rfl
set_option maxRecDepth 100000 in
theorem wit_sizedUpto (os:Os) (H:Type) (enc:TypeId×Value->H):(Rows.OpenSpec.upto Rows.denoOrderSpec).bare.sizedB enc Tryz.prog Tryz.f8 false ((World.laidAll Tryz.prog os Zwu).forCall (λ_ _=>0) ⟨#[],#[.slice none 0 0,.slice none 0 0,.int .i64 0],[]⟩).memory #[.slice none 0 0,.slice none 0 0,.int .i64 0] 8=true:=by kernel_rfl
set_option maxRecDepth 100000 in
theorem wit_rowUpto (os:Os) (H:Type) (enc:TypeId×Value->H):(Rows.OpenSpec.upto Rows.denoOrderSpec).preRow enc Tryz.prog Tryz.f8 Rows.denoOrderUptoRow.domain false Zwu ((World.laidAll Tryz.prog os Zwu).forCall (λ_ _=>0) ⟨#[],#[.slice none 0 0,.slice none 0 0,.int .i64 0],[]⟩).memory #[.slice none 0 0,.slice none 0 0,.int .i64 0]:=by
 obtain⟨places,hx⟩:=reads os enc;exact OpenSpec.preRow_of_cond 8 hx (by kernel_rfl) (λk hk=>by cases hk;kernel_rfl) (wit_sizedUpto os H enc) (Zww os _)
set_option maxRecDepth 100000 in
theorem liftedUpto (os:Os) (started:os.Started) (H:Type) (enc:TypeId×Value->H) (F:Stop.Interp):
  ReturnsInHanded {} Tryz.checked os 8 .any ((Rows.OpenSpec.upto Rows.denoOrderSpec).preRow enc Tryz.prog Tryz.f8 Rows.denoOrderUptoRow.domain false Rows.denoOrderUptoRow.laid) (((Rows.OpenSpec.upto Rows.denoOrderSpec).at F).post enc Tryz.prog Tryz.f8 false true false false):=by
 refine returnsInHanded_of_row (C:=Tryz.checked) (s:=(Rows.OpenSpec.upto Rows.denoOrderSpec)) own started (by kernel_rfl) Tryz.func8 (Zbsz (os:=os) #[.slice none 0 0,.slice none 0 0,.int .i64 0] (wit_okUpto os) (wit_rowUpto os H enc)) ?_;intro W base args ds gs before hval hW _ hk _ hL hS _;exact contract H enc W base args ds gs before hval hW (Zqt hL hS) (hk _ rfl)
set_option maxHeartbeats 40000000 in
set_option maxRecDepth 100000 in
theorem closedUpto:joinedFacts Tryz.prog 8 Tryz.f8 (Rows.OpenSpec.upto Rows.denoOrderSpec).bare Rows.denoOrderUptoRow=true:=by
 unfold joinedFacts
 repeat' (with_reducible refine Bool.and_eq_true_iff.2 ⟨?_,?_⟩)
 all_goals as_aux_lemma=>kernel_rfl
theorem instUpto:Tryz.f8.isInstance Tryz.prog Rows.denoOrderUptoRow.origin Rows.denoOrderUptoRow.targs:=of_decide_eq_true (by kernel_rfl)
theorem wrapUpto:Tryz.f8.isWrapper Tryz.prog Rows.denoOrderUptoRow.wrapper Rows.denoOrderUptoRow.mainSum:=by unfold Func.isWrapper;first|(rw[if_pos (by decide +kernel)];kernel_rfl)|(rw[if_neg (by decide +kernel)];exact⟨rfl,rfl⟩)
theorem namedUpto:Tryz.prog.funcNamed Rows.denoOrderUptoRow.func=some 8:=by kernel_rfl
theorem saidUpto:Rows.DenoOrderUptoSaid:=
 OpenClaim.holds_of_cond 8 Tryz.f8 rfl rfl rfl rfl rfl rfl rfl ⟨rfl,rfl,rfl,rfl,rfl⟩ rfl rfl rfl rfl rfl namedUpto Tryz.func8 closedUpto instUpto wrapUpto
  (λos started H enc _ F=>by rw[OpenClaim.pre_eq_preRow];exact liftedUpto os started H enc F)
theorem plainUpto (f:FuncId) (fn:Func) (hf:Tryz.pinned.checked.prog.funcNamed Rows.denoOrderUptoRow.func=some f) (hfn:Tryz.pinned.checked.prog.funcs[f]? =some fn):
  true=Tryz.pinned.checked.prog.looks []/\∀(j:Nat) t,fn.params[j]? =some t->Tryz.pinned.checked.prog.wantsStandIn t=false:=by
 obtain rfl:f=8:=Option.some.inj ((show Tryz.prog.funcNamed Rows.denoOrderUptoRow.func=some 8 by kernel_rfl).symm.trans hf) |>.symm
 obtain rfl:fn=Tryz.f8:=(Option.some.inj (Tryz.func8.symm.trans hfn)).symm;refine⟨by kernel_rfl,λj t ht=>?_⟩;have hm:=Array.mem_of_getElem? ht;have hall:(Tryz.f8.params.toList.all λu=> !Tryz.prog.wantsStandIn u)=true:=by kernel_rfl
 exact(show Tryz.prog.wantsStandIn t=false by simpa using List.all_eq_true.1 hall t (by simpa using hm))
theorem wfTextUpto:Rows.denoOrderUptoRow.wfByText (Rows.OpenSpec.upto Rows.denoOrderSpec)=true:=by kernel_rfl
theorem goesByUpto:false=Rows.denoOrderUptoRow.goesBy Tryz.prog:=by kernel_rfl
theorem cardUpto:Rows.DenoOrderUptoCardSaid:=
 Claim7.holds_tied_plain_at .later [] _ _ _ _ saidUpto (λ_ h=>by cases h) wfTextUpto (λ_ h=>by cases h) denoOrderUpto_row_tie rfl ⟨rfl,rfl⟩ (by kernel_rfl) rfl plainUpto goesByUpto
end Go.Proofs.YtmgcaldphpnfgaaGreatDoor.lawDenoOrder
