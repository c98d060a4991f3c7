import Derived.Test.YthkehhphnbckaaaGreatDoorCheckLess
import Derived.Test.YthkehhphnbckaaaGreatDoorMbr
/- The law CheckLess is proved: for every input of at most the bulk that the second form names, and every world that starts as the program's text lays its variables, the call returns true and each argument reads as it did. -/
namespace Go.Proofs.YthkehhphnbckaaaGreatDoor.lawCheckLess
open Go.ChangeShapes Go.WideShapes Go.ChangeAt Go.RowKit
open Go.ChangeMaps (open_string)
set_option maxRecDepth 100000 in
theorem contract (H:Type) (enc:TypeId×Value→H) (W:World) (base:Nat) (args:Array Value) (ds gs:List (DataW H)) (before:List MemPlace)
  (hval:∀(j:Nat) t v,Tryz.f7.params[j]? =some t→args[j]? =some v→Value.okWide Tryz.prog W .any base t v)
  (hW:DataW.Whole enc Tryz.prog Tryz.f7.params.toList Rows.checkLessSpec.vars false W args.toList ds gs before) (hG:GP W.heap.size W) (hk:Rows.uptoSmall H (ds++gs)=true):
  Calls Tryz.prog 7 args W fun e W'=>∃v,e = .returned v∧Rows.checkLessSpec.post enc Tryz.prog Tryz.f7 false true false false W args v W':=by
 have hW':=hW
 obtain⟨p,q,hA0,hV,rfl,hfz,hnd⟩:=hW
 have hA:DataW.TrodAll enc Tryz.prog W 0 (fun _=>true) true Tryz.f7.params.toList args.toList ds p:=hA0
 rw[Tryz.params7]at hA hval
 obtain⟨v0,vs0,d0,ds0,p0,q0,hargs,hds,_,h0,r0⟩:=trodAll_cons hA
 obtain⟨v1,vs1,d1,ds1,p1,q1,rfl,rfl,_,h1,r1⟩:=trodAll_cons r0
 obtain⟨rfl,rfl,rfl⟩:=trodAll_nil r1
 obtain rfl:args = #[v0,v1]:=by cases args;simp_all
 obtain⟨x0,hF0,hl0,hs0⟩:=Zbxh (hval 0 53 v0 rfl rfl) h0
 obtain⟨n1,rfl,_,_,hs1⟩:=open_int Tryz.underlying3 (hval 1 3 v1 rfl rfl) h1
 rw[hds]at hk
 have hbk:=of_decide_eq_true hk
 simp only[List.cons_append,List.nil_append,Rows.uptoBulkAll]at hbk
 have hu0:x0.length≤1048576∧∀y∈x0,SmallR y 1048576:=⟨by omega,fun y hy=>(hs0 y hy).mono (by omega)⟩
 refine(law v0 x0 n1 W hF0 hu0 hG).mono fun e W' ⟨he,hb⟩=>?_
 subst he
 exact⟨_,rfl,Zwy rfl (by kernel_rfl) 2 (by kernel_rfl) (fun H xs hx=>by
  match xs,hx with
  | [a0,a1],_=>rfl) hW' hb (by kernel_rfl)⟩
theorem reads (os:Os) {H:Type} (enc:TypeId×Value→H):∃x,DataW.whole enc Tryz.prog ((World.laidAll Tryz.prog os Zwu).forCall (fun _ _=>0) ⟨#[],#[.slice none 0 0,.int .i64 0],[]⟩).memory Tryz.f7.params.toList Rows.checkLessSpec.vars false (#[.slice none 0 0,.int .i64 0]:Array Value).toList 8=some ([.nil,.lit (.int .i64 0)],[],x):=
 ⟨[],by kernel_rfl⟩
set_option maxRecDepth 100000 in
theorem wit_okUpto (os:Os):Input.okWideB Tryz.prog ((World.laidAll Tryz.prog os Zwu).forCall (fun _ _=>0) ⟨#[],#[.slice none 0 0,.int .i64 0],[]⟩) 7 ⟨#[],#[.slice none 0 0,.int .i64 0],[]⟩=true:=by kernel_rfl
set_option maxRecDepth 100000 in
theorem wit_sizedUpto (os:Os) (H:Type) (enc:TypeId×Value→H):(Rows.OpenSpec.upto Rows.checkLessSpec).bare.sizedB enc Tryz.prog Tryz.f7 false ((World.laidAll Tryz.prog os Zwu).forCall (fun _ _=>0) ⟨#[],#[.slice none 0 0,.int .i64 0],[]⟩).memory #[.slice none 0 0,.int .i64 0] 8=true:=by kernel_rfl
set_option maxRecDepth 100000 in
theorem wit_rowUpto (os:Os) (H:Type) (enc:TypeId×Value→H):(Rows.OpenSpec.upto Rows.checkLessSpec).preRow enc Tryz.prog Tryz.f7 Rows.checkLessUptoRow.domain false Zwu ((World.laidAll Tryz.prog os Zwu).forCall (fun _ _=>0) ⟨#[],#[.slice none 0 0,.int .i64 0],[]⟩).memory #[.slice none 0 0,.int .i64 0]:=by
 obtain⟨places,hx⟩:=reads os enc
 exact OpenSpec.preRow_of_cond 8 hx (by kernel_rfl) (fun k hk=>by cases hk;kernel_rfl) (wit_sizedUpto os H enc) (Zww os _)
set_option maxRecDepth 100000 in
theorem liftedUpto (os:Os) (started:os.Started) (H:Type) (enc:TypeId×Value→H) (F:Stop.Interp):
  ReturnsInHanded {} Tryz.checked os 7 .any ((Rows.OpenSpec.upto Rows.checkLessSpec).preRow enc Tryz.prog Tryz.f7 Rows.checkLessUptoRow.domain false Rows.checkLessUptoRow.laid) (((Rows.OpenSpec.upto Rows.checkLessSpec).at F).post enc Tryz.prog Tryz.f7 false true false false):=by
 refine returnsInHanded_of_row (C:=Tryz.checked) (s:=(Rows.OpenSpec.upto Rows.checkLessSpec)) own started (by kernel_rfl) Tryz.func7 (Zbsz (os:=os) #[.slice none 0 0,.int .i64 0] (wit_okUpto os) (wit_rowUpto os H enc)) ?_
 intro W base args ds gs before hval hW _ hk _ hL hS _
 exact contract H enc W base args ds gs before hval hW (Zqt hL hS) (hk _ rfl)
set_option maxHeartbeats 40000000 in
set_option maxRecDepth 100000 in
theorem closedUpto:joinedFacts Tryz.prog 7 Tryz.f7 (Rows.OpenSpec.upto Rows.checkLessSpec).bare Rows.checkLessUptoRow=true:=by
 unfold joinedFacts
 repeat' (with_reducible refine Bool.and_eq_true_iff.2 ⟨?_,?_⟩)
 all_goals as_aux_lemma=>kernel_rfl
theorem instUpto:Tryz.f7.isInstance Tryz.prog Rows.checkLessUptoRow.origin Rows.checkLessUptoRow.targs:=of_decide_eq_true (by kernel_rfl)
theorem wrapUpto:Tryz.f7.isWrapper Tryz.prog Rows.checkLessUptoRow.wrapper Rows.checkLessUptoRow.mainSum:=by unfold Func.isWrapper;first|(rw[if_pos (by decide +kernel)];kernel_rfl)|(rw[if_neg (by decide +kernel)];exact⟨rfl,rfl⟩)
theorem namedUpto:Tryz.prog.funcNamed Rows.checkLessUptoRow.func=some 7:=by kernel_rfl
theorem saidUpto:Rows.CheckLessUptoSaid:=
 OpenClaim.holds_of_cond 7 Tryz.f7 rfl rfl rfl rfl rfl rfl rfl ⟨rfl,rfl,rfl,rfl,rfl⟩ rfl rfl rfl rfl rfl namedUpto Tryz.func7 closedUpto instUpto wrapUpto
  (fun os started H enc _ F=>by rw[OpenClaim.pre_eq_preRow];exact liftedUpto os started H enc F)
theorem plainUpto (f:FuncId) (fn:Func) (hf:Tryz.pinned.checked.prog.funcNamed Rows.checkLessUptoRow.func=some f) (hfn:Tryz.pinned.checked.prog.funcs[f]? =some fn):
  true=Tryz.pinned.checked.prog.looks []∧∀(j:Nat) t,fn.params[j]? =some t→Tryz.pinned.checked.prog.wantsStandIn t=false:=by
 obtain rfl:f=7:=Option.some.inj ((show Tryz.prog.funcNamed Rows.checkLessUptoRow.func=some 7 by kernel_rfl).symm.trans hf) |>.symm
 obtain rfl:fn=Tryz.f7:=(Option.some.inj (Tryz.func7.symm.trans hfn)).symm
 refine⟨by kernel_rfl,fun j t ht=>?_⟩
 have hm:=Array.mem_of_getElem? ht
 have hall:(Tryz.f7.params.toList.all fun u=> !Tryz.prog.wantsStandIn u)=true:=by kernel_rfl
 exact(show Tryz.prog.wantsStandIn t=false by simpa using List.all_eq_true.1 hall t (by simpa using hm))
theorem wfTextUpto:Rows.checkLessUptoRow.wfByText (Rows.OpenSpec.upto Rows.checkLessSpec)=true:=by kernel_rfl
theorem goesByUpto:false=Rows.checkLessUptoRow.goesBy Tryz.prog:=by kernel_rfl
theorem cardUpto:Rows.CheckLessUptoCardSaid:=
 Claim7.holds_tied_plain_at .later [] _ _ _ _ saidUpto (fun _ h=>by cases h) wfTextUpto (fun _ h=>by cases h) checkLessUpto_row_tie rfl ⟨rfl,rfl⟩ (by kernel_rfl) rfl plainUpto goesByUpto
end Go.Proofs.YthkehhphnbckaaaGreatDoor.lawCheckLess
