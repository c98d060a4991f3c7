/- The law GraphAll is proved: for every input of at most the bulk that the second form names, and every world that starts as the program's text lays its variables, the call returns true and each argument reads as it did. -/
import Derived.Test.YtphjfaoghphleaaGreatDoorGraphAll
import Derived.Test.YtphjfaoghphleaaGreatDoorMbj
set_option maxRecDepth 1000000
set_option maxHeartbeats 40000000
namespace Go.Proofs.YtphjfaoghphleaaGreatDoor
namespace lawGraphAll
open Go.Proofs.Tryz Go.ChangeShapes Go.WideShapes Go.ChangeAt Go.RowKit
open Go.ChangeMaps (open_string)
theorem contract (H:Type) (enc:TypeId×Value->H) (W:World) (base:Nat) (args:Array Value) (ds gs:List (DataW H)) (before:List MemPlace)
  (hval:∀(j:Nat) t v,Tryz.f3.params[j]? =some t->args[j]? =some v->Value.okWide prog W .any base t v)
  (hW:DataW.Whole enc prog Tryz.f3.params.toList Rows.graphAllSpec.vars false W args.toList ds gs before) (hG:GXM W) (hk:Rows.uptoSmall H (ds++gs)=true):
  Calls prog 3 args W λe W'=>∃v,e = .returned v/\Rows.graphAllSpec.post enc prog Tryz.f3 false true false false W args v W':=by
 have hW':=hW;obtain⟨p,q,hA0,hV,rfl,hfz,hnd⟩:=hW;have hA:DataW.TrodAll enc prog W 0 (λ_=>true) true Tryz.f3.params.toList args.toList ds p:=hA0;rw[Tryz.params3]at hA hval;obtain⟨v0,vs0,d0,ds0,p0,q0,hargs,hds,_,h0,r0⟩:=trodAll_cons hA;obtain⟨v1,vs1,d1,ds1,p1,q1,rfl,rfl,_,h1,r1⟩:=trodAll_cons r0;obtain⟨rfl,rfl,rfl⟩:=trodAll_nil r1;obtain rfl:args = #[v0,v1]:=by cases args;simp_all
 obtain⟨x0,hF0,hl0,hs0⟩:=Zbxh (hval 0 22 v0 rfl rfl) h0;obtain⟨x1,rfl,hs1⟩:=Zdla (hval 1 24 v1 rfl rfl) h1;rw[hds]at hk;have hbk:=of_decide_eq_true hk;simp only[List.cons_append,List.nil_append,Rows.uptoBulkAll]at hbk;have hu0:x0.length<=1048576/\∀y∈x0,SmallR y 1048576:=⟨by omega,λy hy=>(hs0 y hy).mono (by omega)⟩;have hu1:x1.2.size<=1048576:=by omega
 refine(law v0 x0 x1 W hF0 hu0 hu1 hG).mono λe W' ⟨he,hb⟩=>?_
 subst he;exact⟨_,rfl,Zwy rfl (by kernel_rfl) 2 (by kernel_rfl) (λH xs hx=>by
  match xs,hx with
  | [a0,a1],_=>rfl) hW' hb (by kernel_rfl)⟩
theorem reads (os:Os) {H:Type} (enc:TypeId×Value->H):∃x,DataW.whole enc prog ((World.laidAll prog os Zwu).forCall (λ_ _=>0) ⟨#[],#[.slice none 0 0,.agg #[.bool false,.string ByteArray.empty]],[]⟩).memory Tryz.f3.params.toList Rows.graphAllSpec.vars false (#[.slice none 0 0,.agg #[.bool false,.string ByteArray.empty]]:Array Value).toList 8=some ([.nil,.agg [.lit (.bool false),.lit (.string [])]],[],x):=
 ⟨[],by kernel_rfl⟩
theorem goes_none {P:Program} (h:P.funcs.any Func.goes=false) (f:FuncId):P.goes f=false:=by
 unfold Program.goes;rw[h,Bool.and_false,Bool.or_false,List.any_eq_false];intro g _
 cases e:P.funcs[g]? with
 | none=>simp
 | some fn=>
  have hm:=Array.mem_of_getElem? e;have:=(Array.any_eq_false'.1 h) fn hm;simpa using this
theorem goesAt_none {P:Program} (h:P.funcs.any Func.goes=false) (s:Start) (n:String):P.goesAt s n=false:=by
 unfold Program.goesAt Program.goesFrom;have h1:(P.funcNamed n).any P.goes=false:=by
  cases P.funcNamed n with
  | none=>rfl
  | some f=>exact goes_none h f
 have h2:P.inits.toList.any P.goes=false:=by
  rw[List.any_eq_false];intro g _;rw[goes_none h g];simp
 rw[h1,Bool.false_or]
 cases s<;>first|rfl|exact h2
theorem noGo:prog.funcs.any Func.goes=false:=by kernel_rfl
theorem wit_okUpto (os:Os):Input.okWideB prog ((World.laidAll prog os Zwu).forCall (λ_ _=>0) ⟨#[],#[.slice none 0 0,.agg #[.bool false,.string ByteArray.empty]],[]⟩) 3 ⟨#[],#[.slice none 0 0,.agg #[.bool false,.string ByteArray.empty]],[]⟩=true:=by kernel_rfl
theorem wit_sizedUpto (os:Os) (H:Type) (enc:TypeId×Value->H):(Rows.OpenSpec.upto Rows.graphAllSpec).bare.sizedB enc prog Tryz.f3 false ((World.laidAll prog os Zwu).forCall (λ_ _=>0) ⟨#[],#[.slice none 0 0,.agg #[.bool false,.string ByteArray.empty]],[]⟩).memory #[.slice none 0 0,.agg #[.bool false,.string ByteArray.empty]] 8=true:=by kernel_rfl
theorem wit_rowUpto (os:Os) (H:Type) (enc:TypeId×Value->H):(Rows.OpenSpec.upto Rows.graphAllSpec).preRow enc prog Tryz.f3 Rows.graphAllUptoRow.domain false Zwu ((World.laidAll prog os Zwu).forCall (λ_ _=>0) ⟨#[],#[.slice none 0 0,.agg #[.bool false,.string ByteArray.empty]],[]⟩).memory #[.slice none 0 0,.agg #[.bool false,.string ByteArray.empty]]:=by
 obtain⟨places,hx⟩:=reads os enc;exact OpenSpec.preRow_of_cond 8 hx (by kernel_rfl) (λk hk=>by cases hk;kernel_rfl) (wit_sizedUpto os H enc) (Zww os _)
theorem liftedUpto (os:Os) (started:os.Started) (H:Type) (enc:TypeId×Value->H) (F:Stop.Interp):
  ReturnsInHanded {} Tryz.checked os 3 .any ((Rows.OpenSpec.upto Rows.graphAllSpec).preRow enc prog Tryz.f3 Rows.graphAllUptoRow.domain false Rows.graphAllUptoRow.laid) (((Rows.OpenSpec.upto Rows.graphAllSpec).at F).post enc prog Tryz.f3 false true false false):=by
 refine returnsInHanded_of_row (C:=Tryz.checked) (s:=(Rows.OpenSpec.upto Rows.graphAllSpec)) own started (by kernel_rfl) func3 (Zbsz (os:=os) #[.slice none 0 0,.agg #[.bool false,.string ByteArray.empty]] (wit_okUpto os) (wit_rowUpto os H enc)) ?_;intro W base args ds gs before hval hW _ hk _ hL hS _;exact contract H enc W base args ds gs before hval hW (Zdaw hL hS) (hk _ rfl)
theorem closedUpto:joinedFacts prog 3 Tryz.f3 (Rows.OpenSpec.upto Rows.graphAllSpec).bare Rows.graphAllUptoRow=true:=by
 unfold joinedFacts
 repeat' (with_reducible refine Bool.and_eq_true_iff.2 ⟨?_,?_⟩)
 all_goals as_aux_lemma=>kernel_rfl
theorem instUpto:Tryz.f3.isInstance prog Rows.graphAllUptoRow.origin Rows.graphAllUptoRow.targs:=of_decide_eq_true (by kernel_rfl)
theorem wrapUpto:Tryz.f3.isWrapper prog Rows.graphAllUptoRow.wrapper Rows.graphAllUptoRow.mainSum:=by unfold Func.isWrapper;first|(rw[if_pos (by decide +kernel)];kernel_rfl)|(rw[if_neg (by decide +kernel)];exact⟨rfl,rfl⟩)
theorem namedUpto:prog.funcNamed Rows.graphAllUptoRow.func=some 3:=by kernel_rfl
theorem saidUpto:Rows.GraphAllUptoSaid:=
 OpenClaim.holds_of_cond 3 Tryz.f3 rfl rfl rfl rfl rfl rfl rfl ⟨rfl,rfl,rfl,rfl,rfl⟩ rfl rfl rfl rfl rfl namedUpto func3 closedUpto instUpto wrapUpto
  (λos started H enc _ F=>by rw[OpenClaim.pre_eq_preRow];exact liftedUpto os started H enc F)
theorem plainUpto (f:FuncId) (fn:Func) (hf:Tryz.pinned.checked.prog.funcNamed Rows.graphAllUptoRow.func=some f) (hfn:Tryz.pinned.checked.prog.funcs[f]? =some fn):
  true=Tryz.pinned.checked.prog.looks []/\∀(j:Nat) t,fn.params[j]? =some t->Tryz.pinned.checked.prog.wantsStandIn t=false:=by
 obtain rfl:f=3:=Option.some.inj ((show prog.funcNamed Rows.graphAllUptoRow.func=some 3 by kernel_rfl).symm.trans hf) |>.symm
 obtain rfl:fn=Tryz.f3:=(Option.some.inj (func3.symm.trans hfn)).symm;refine⟨by kernel_rfl,λj t ht=>?_⟩;have hm:=Array.mem_of_getElem? ht;have hall:(Tryz.f3.params.toList.all λu=> !prog.wantsStandIn u)=true:=by kernel_rfl
 exact(show prog.wantsStandIn t=false by simpa using List.all_eq_true.1 hall t (by simpa using hm))
theorem wfTextUpto:Rows.graphAllUptoRow.wfByText (Rows.OpenSpec.upto Rows.graphAllSpec)=true:=by kernel_rfl
theorem goesByUpto:false=Rows.graphAllUptoRow.goesBy prog:=(goesAt_none noGo _ _).symm
theorem cardUpto:Rows.GraphAllUptoCardSaid:=
 Claim7.holds_tied_plain_at .later [] _ _ _ _ saidUpto (λ_ h=>by cases h) wfTextUpto (λ_ h=>by cases h) graphAllUpto_row_tie rfl ⟨rfl,rfl⟩ (by kernel_rfl) rfl plainUpto goesByUpto
