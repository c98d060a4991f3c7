import Derived.Test.YtmgcaldphpnfgaaGreatDoorRunPart
import Derived.Test.YtmgcaldphpnfgaaGreatDoorMbr
/- The law RunPart is proved: for every input of at most the bulk that the second form names, and every world that starts as the program's text lays its variables, the call returns true and each argument reads as it did. -/
namespace Go.Proofs.YtmgcaldphpnfgaaGreatDoor.lawRunPart
open Go.ChangeShapes Go.WideShapes Go.ChangeAt Go.RowKit
open Go.ChangeMaps (open_string)
set_option maxRecDepth 100000 in
theorem contract (H:Type) (enc:TypeId×Value->H) (W:World) (base:Nat) (args:Array Value) (ds gs:List (DataW H)) (before:List MemPlace)
  (hval:∀(j:Nat) t v,Tryz.f4.params[j]? =some t->args[j]? =some v->Value.okWide Tryz.prog W .any base t v)
  (hW:DataW.Whole enc Tryz.prog Tryz.f4.params.toList Rows.runPartSpec.vars false W args.toList ds gs before) (hG:GP W.heap.size W) (hk:Rows.uptoSmall H (ds++gs)=true):
  Calls Tryz.prog 4 args W λe W'=>∃v,e = .returned v/\Rows.runPartSpec.post enc Tryz.prog Tryz.f4 false true false false W args v W':=by
 have hW':=hW;obtain⟨p,q,hA0,hV,rfl,hfz,hnd⟩:=hW;have hA:DataW.TrodAll enc Tryz.prog W 0 (λ_=>true) true Tryz.f4.params.toList args.toList ds p:=hA0;rw[Tryz.params4]at hA hval;obtain⟨v0,vs0,d0,ds0,p0,q0,hargs,hds,_,h0,r0⟩:=trodAll_cons hA;obtain⟨v1,vs1,d1,ds1,p1,q1,rfl,rfl,_,h1,r1⟩:=trodAll_cons r0;obtain⟨rfl,rfl,rfl⟩:=trodAll_nil r1;obtain rfl:args = #[v0,v1]:=by cases args;simp_all
 obtain⟨x0,ra0,rb0,rc0,rd0,re0,rf0,rg0,rh0,rfl,hP0,hs0⟩:=Zbcy (hval 0 25 v0 rfl rfl) h0;obtain⟨x1,hF1,hs1⟩:=Zbxj (hval 1 26 v1 rfl rfl) h1;rw[hds]at hk;have hbk:=of_decide_eq_true hk;simp only[List.cons_append,List.nil_append,Rows.uptoBulkAll]at hbk;have hu0:SmallR x0 1048576:=hs0.mono (by omega);have hu1:∀x∈x1,x.2.size<=1048576:=λx hx=>by have:=hs1 x hx;omega
 refine(law x0 ra0 rb0 rc0 rd0 re0 rf0 rg0 rh0 v1 x1 W hP0 hu0 hF1 hu1 hG).mono λe W' ⟨he,hb⟩=>?_
 subst he;exact⟨_,rfl,Zwy rfl (by kernel_rfl) 2 (by kernel_rfl) (λH xs hx=>by
  match xs,hx with
  | [a0,a1],_=>rfl) hW' hb (by kernel_rfl)⟩
theorem reads (os:Os) {H:Type} (enc:TypeId×Value->H):∃x,DataW.whole enc Tryz.prog ((World.laidAll Tryz.prog os Zwu).forCall (λ_ _=>0) ⟨#[],#[.agg #[.string ByteArray.empty,.slice none 0 0,.slice none 0 0,.slice none 0 0,.slice none 0 0],.slice none 0 0],[]⟩).memory Tryz.f4.params.toList Rows.runPartSpec.vars false (#[.agg #[.string ByteArray.empty,.slice none 0 0,.slice none 0 0,.slice none 0 0,.slice none 0 0],.slice none 0 0]:Array Value).toList 8=some ([.agg [.lit (.string []),.nil,.nil,.nil,.nil],.nil],[],x):=
 ⟨[],by kernel_rfl⟩
set_option maxRecDepth 100000 in
theorem wit_okUpto (os:Os):Input.okWideB Tryz.prog ((World.laidAll Tryz.prog os Zwu).forCall (λ_ _=>0) ⟨#[],#[.agg #[.string ByteArray.empty,.slice none 0 0,.slice none 0 0,.slice none 0 0,.slice none 0 0],.slice none 0 0],[]⟩) 4 ⟨#[],#[.agg #[.string ByteArray.empty,.slice none 0 0,.slice none 0 0,.slice none 0 0,.slice none 0 0],.slice none 0 0],[]⟩=true:=by kernel_rfl
set_option maxRecDepth 100000 in
theorem wit_sizedUpto (os:Os) (H:Type) (enc:TypeId×Value->H):(Rows.OpenSpec.upto Rows.runPartSpec).bare.sizedB enc Tryz.prog Tryz.f4 false ((World.laidAll Tryz.prog os Zwu).forCall (λ_ _=>0) ⟨#[],#[.agg #[.string ByteArray.empty,.slice none 0 0,.slice none 0 0,.slice none 0 0,.slice none 0 0],.slice none 0 0],[]⟩).memory #[.agg #[.string ByteArray.empty,.slice none 0 0,.slice none 0 0,.slice none 0 0,.slice none 0 0],.slice none 0 0] 8=true:=by kernel_rfl
set_option maxRecDepth 100000 in
theorem wit_rowUpto (os:Os) (H:Type) (enc:TypeId×Value->H):(Rows.OpenSpec.upto Rows.runPartSpec).preRow enc Tryz.prog Tryz.f4 Rows.runPartUptoRow.domain false Zwu ((World.laidAll Tryz.prog os Zwu).forCall (λ_ _=>0) ⟨#[],#[.agg #[.string ByteArray.empty,.slice none 0 0,.slice none 0 0,.slice none 0 0,.slice none 0 0],.slice none 0 0],[]⟩).memory #[.agg #[.string ByteArray.empty,.slice none 0 0,.slice none 0 0,.slice none 0 0,.slice none 0 0],.slice none 0 0]:=by
 obtain⟨places,hx⟩:=reads os enc;exact OpenSpec.preRow_of_cond 8 hx (by kernel_rfl) (λk hk=>by cases hk;kernel_rfl) (wit_sizedUpto os H enc) (Zww os _)
set_option maxRecDepth 100000 in
theorem liftedUpto (os:Os) (started:os.Started) (H:Type) (enc:TypeId×Value->H) (F:Stop.Interp):
  ReturnsInHanded {} Tryz.checked os 4 .any ((Rows.OpenSpec.upto Rows.runPartSpec).preRow enc Tryz.prog Tryz.f4 Rows.runPartUptoRow.domain false Rows.runPartUptoRow.laid) (((Rows.OpenSpec.upto Rows.runPartSpec).at F).post enc Tryz.prog Tryz.f4 false true false false):=by
 refine returnsInHanded_of_row (C:=Tryz.checked) (s:=(Rows.OpenSpec.upto Rows.runPartSpec)) own started (by kernel_rfl) Tryz.func4 (Zbsz (os:=os) #[.agg #[.string ByteArray.empty,.slice none 0 0,.slice none 0 0,.slice none 0 0,.slice none 0 0],.slice none 0 0] (wit_okUpto os) (wit_rowUpto os H enc)) ?_;intro W base args ds gs before hval hW _ hk _ hL hS _;exact contract H enc W base args ds gs before hval hW (Zqt hL hS) (hk _ rfl)
set_option maxHeartbeats 40000000 in
set_option maxRecDepth 100000 in
theorem closedUpto:joinedFacts Tryz.prog 4 Tryz.f4 (Rows.OpenSpec.upto Rows.runPartSpec).bare Rows.runPartUptoRow=true:=by
 unfold joinedFacts
 repeat' (with_reducible refine Bool.and_eq_true_iff.2 ⟨?_,?_⟩)
 all_goals as_aux_lemma=>kernel_rfl
theorem instUpto:Tryz.f4.isInstance Tryz.prog Rows.runPartUptoRow.origin Rows.runPartUptoRow.targs:=of_decide_eq_true (by kernel_rfl)
theorem wrapUpto:Tryz.f4.isWrapper Tryz.prog Rows.runPartUptoRow.wrapper Rows.runPartUptoRow.mainSum:=by unfold Func.isWrapper;first|(rw[if_pos (by decide +kernel)];kernel_rfl)|(rw[if_neg (by decide +kernel)];exact⟨rfl,rfl⟩)
theorem namedUpto:Tryz.prog.funcNamed Rows.runPartUptoRow.func=some 4:=by kernel_rfl
theorem saidUpto:Rows.RunPartUptoSaid:=
 OpenClaim.holds_of_cond 4 Tryz.f4 rfl rfl rfl rfl rfl rfl rfl ⟨rfl,rfl,rfl,rfl,rfl⟩ rfl rfl rfl rfl rfl namedUpto Tryz.func4 closedUpto instUpto wrapUpto
  (λos started H enc _ F=>by rw[OpenClaim.pre_eq_preRow];exact liftedUpto os started H enc F)
theorem plainUpto (f:FuncId) (fn:Func) (hf:Tryz.pinned.checked.prog.funcNamed Rows.runPartUptoRow.func=some f) (hfn:Tryz.pinned.checked.prog.funcs[f]? =some fn):
  true=Tryz.pinned.checked.prog.looks []/\∀(j:Nat) t,fn.params[j]? =some t->Tryz.pinned.checked.prog.wantsStandIn t=false:=by
 obtain rfl:f=4:=Option.some.inj ((show Tryz.prog.funcNamed Rows.runPartUptoRow.func=some 4 by kernel_rfl).symm.trans hf) |>.symm
 obtain rfl:fn=Tryz.f4:=(Option.some.inj (Tryz.func4.symm.trans hfn)).symm;refine⟨by kernel_rfl,λj t ht=>?_⟩;have hm:=Array.mem_of_getElem? ht;have hall:(Tryz.f4.params.toList.all λu=> !Tryz.prog.wantsStandIn u)=true:=by kernel_rfl
 exact(show Tryz.prog.wantsStandIn t=false by simpa using List.all_eq_true.1 hall t (by simpa using hm))
theorem wfTextUpto:Rows.runPartUptoRow.wfByText (Rows.OpenSpec.upto Rows.runPartSpec)=true:=by kernel_rfl
theorem goesByUpto:false=Rows.runPartUptoRow.goesBy Tryz.prog:=by kernel_rfl
theorem cardUpto:Rows.RunPartUptoCardSaid:=
 Claim7.holds_tied_plain_at .later [] _ _ _ _ saidUpto (λ_ h=>by cases h) wfTextUpto (λ_ h=>by cases h) runPartUpto_row_tie rfl ⟨rfl,rfl⟩ (by kernel_rfl) rfl plainUpto goesByUpto
end Go.Proofs.YtmgcaldphpnfgaaGreatDoor.lawRunPart
