import Derived.Test.YtcpjfpdecklkgaaGreatDoorTie
import Derived.Test.YtcpjfpdecklkgaaGreatDoorCards
import Derived.Test.YtcpjfpdecklkgaaGreatDoorMae
import Derived.ProofKit
import Derived.OpenShut
import Derived.Deep.DeepHandedRow
import Derived.Lib.LaidTab
import Derived.Lib.LaidU8
import Derived.Stop.LaidErr
import Derived.Stop.Joined
import Derived.Lay
import Derived.Shelf.Vars
namespace Go.Proofs.YtcpjfpdecklkgaaGreatDoor
open Go.Proofs.Tryz
open Go.ChangeShapes Go.WideShapes Go.ChangeAt Go.RowKit
theorem own:ownKnob prog.godebug=none:=by kernel_rfl
theorem gTab:prog.globalNamed Zbfl=some 2:=by kernel_rfl
theorem Zqc:(prog.globals[2]?).map (·.type)=some 286:=by kernel_rfl
theorem Zik:prog.cellsOf 286=20:=by kernel_rfl
theorem Zil:prog.cellsOf 221=1:=by kernel_rfl
abbrev Zwu:List (String×DataW Unit):=Rows.checkAllRow.laid
theorem Zqr {W:World} (hL:laidMetH prog Zwu W) (hS:W.ShapedOpen prog):Glob W:=by
 rw[MakeChecks.laidMetH_plain _ _ _ (by kernel_rfl)]at hL;have ht:Lib.TabIs prog W Zbfl .u64 Lib.pow10Tab:=Lib.tabIs_of_head gTab Zqc underlying286 underlying221 Zil Zik hL.tail.tail;have herr:∀n d g,(n,d)∈Zwu->prog.globalNamed n=some g->(prog.globals[g]?).map (·.type)=some 163->(∃nm x,d = .iface nm x)->∃tp p,W.cell? ⟨g,0,none⟩=some (.iface tp p):=by
  rintro n d g hm hg hty ⟨nm,x,rfl⟩;obtain⟨g',t',cs,fuel,p,hg',ht',hv,hd⟩:=Lib.laidMet.reads hL hm;obtain rfl:=Option.some.inj (hg.symm.trans hg');obtain rfl:=Option.some.inj (hty.symm.trans ht');obtain⟨f1,u,v,hcs,_⟩:=iface_of_trod underlying163 hd;refine⟨u,v,?_⟩;have:=World.var?_cell hg hv 0;rw[Array.eq_one_of_toList hcs]at this;simpa using this
 refine⟨?_,ht,?_,?_,?_⟩
 ·exact cell_of_shapedOpen_int (zero:=#[.int .i64 0]) (t:=3) hS (of_decide_eq_true (by kernel_rfl)) (by kernel_rfl) rfl (by kernel_rfl) (by kernel_rfl) underlying3
 ·exact Zie (Lib.TabIs.cell ht gTab 0 (by decide))
 ·exact herr _ _ _ (.tail _ (.tail _ (.tail _ (.tail _ (.tail _ (.head _)))))) (by kernel_rfl) (by kernel_rfl) ⟨_,_,rfl⟩
 ·exact herr _ _ _ (.tail _ (.tail _ (.tail _ (.tail _ (.head _))))) (by kernel_rfl) (by kernel_rfl) ⟨_,_,rfl⟩
theorem Zww (os:Os) (args:Array Value):laidMetH prog Zwu ((World.laidAll prog os Zwu).forCall (λ_ _=>0) ⟨#[],args,[]⟩).memory:=by
 rw[MakeChecks.laidMetH_plain _ _ _ (by kernel_rfl)];exact laidMet_laidAll _ (by kernel_rfl) (by kernel_rfl)
theorem laidOut:laidOutB prog=true:=by kernel_rfl
theorem Zbrp {H:Type} {enc:TypeId×Value->H} {W W':World} (hb:Below W.heap.size W W'):∀ {ts:List TypeId} {vs:List Value} {ds:List (DataW H)} {ps:List MemPlace},
  DataW.TrodAll enc prog W 0 (λ_=>true) true ts vs ds ps->(∀x∈ps,x.block<W.heap.size)->(ts.all λt=>prog.readableRec t&&decide (t<prog.types.size))=true->
  DataW.TrodAll enc prog W' 0 (λb=>decide (b<W.heap.size)) true ts vs ds ps:=by
 intro ts
 induction ts with
 | nil=>
  intro vs ds ps h _ _
  cases vs<;>cases ds<;>simp_all[DataW.TrodAll]
 | cons t ts ih=>
  intro vs ds ps h hlt hr;obtain⟨v,vs',d,ds',p,q,rfl,rfl,rfl,h0,h1⟩:=trodAll_cons h;rw[List.all_cons,Bool.and_eq_true,Bool.and_eq_true]at hr;exact⟨p,q,Below.trod laidOut hr.1.1 (of_decide_eq_true hr.1.2) h0 hb (λx hx=>hlt x (List.mem_append_left _ hx)),ih h1 (λx hx=>hlt x (List.mem_append_right _ hx)) hr.2,rfl⟩
theorem Zwy {H:Type} {enc:TypeId×Value->H} {fn:Func} {spec:ChangeSpec} {W W':World} {args:Array Value} {ds gs:List (DataW H)} {before:List MemPlace}
  (hvars:spec.vars = []) (hres:fn.resultTypes = #[4]) (n:Nat) (hn:fn.params.size=n) (hfn:∀H (xs:List (DataW H)),xs.length=n->spec.fn H xs = { results:=[.lit (.bool true)],args:=xs })
  (hW:DataW.Whole enc prog fn.params.toList spec.vars false W args.toList ds gs before) (hb:Below W.heap.size W W')
  (hr:(fn.params.toList.all λt=>prog.readableRec t&&decide (t<prog.types.size))=true):
  spec.post enc prog fn false true false false W args (.bool true) W':=by
 have hW':=hW;have hlt:=hW.lt;obtain⟨p,q,hA,hV,rfl,hfz,hnd⟩:=hW;rw[hvars]at hV;obtain⟨rfl,rfl⟩:=trodVars_none hV;have hl:∀ {ts:List TypeId} {vs:List Value} {ds:List (DataW H)} {ps:List MemPlace},DataW.TrodAll enc prog W 0 (λ_=>true) true ts vs ds ps->ds.length=ts.length:=by
  intro ts
  induction ts with
  | nil=>intro vs ds ps h;cases vs<;>cases ds<;>simp_all[DataW.TrodAll]
  | cons t ts ih=>
   intro vs ds ps h;obtain⟨v,vs',d,ds',p,q,rfl,rfl,rfl,_,h'⟩:=trodAll_cons h;simp[ih h']
 have hdl:=hl hA;have e:spec.fn H (ds ++ []) = { results:=[.lit (.bool true)],args:=ds }:=by
  rw[List.append_nil];exact hfn H ds (by rw[hdl,<-hn];simp)
 refine⟨ds,[],_,[],p,[],hW',?_,?_,?_,hb.frame _,λh=>by cases h⟩
 ·rw[e,hres];exact trodAll_mk1 (shut_bool underlying4 _)
 ·rw[e];exact Zbrp hb hA (λx hx=>hlt x (by simpa using hx)) hr
 ·rw[e,hvars];exact rfl
theorem Zbta (os:Os) (args:Array Value):((World.laidAll prog os Zwu).forCall (λ_ _=>0) ⟨#[],args,[]⟩).Shaped prog:=World.shaped_of_ZipB (by kernel_rfl) (by kernel_rfl)
theorem Zbsz {H:Type} {enc:TypeId×Value->H} {os:Os} {f:FuncId} {fn:Func} {s:OpenSpec} {conds:List PathCond} {apart:Bool} (args:Array Value)
  (hok:Input.okWideB prog ((World.laidAll prog os Zwu).forCall (λ_ _=>0) ⟨#[],args,[]⟩) f ⟨#[],args,[]⟩=true)
  (hrow:s.preRow enc prog fn conds apart Zwu ((World.laidAll prog os Zwu).forCall (λ_ _=>0) ⟨#[],args,[]⟩).memory args):
  ∃(w:World) (tape:Tape) (i:Input),w.os=os/\(w.forCall tape i).Shaped prog/\i.vars = []/\Input.okWide prog (w.forCall tape i) .any w.heap.size f i/\
   s.preRow enc prog fn conds apart Zwu (w.forCall tape i).memory i.args/\({}:Assume).holds prog (lone (Frame.enter prog f i.args .normal) [] (w.forCall tape i)):=
 ⟨World.laidAll prog os Zwu,λ_ _=>0,⟨#[],args,[]⟩,World.laidAll_os _ _ _,Zbta os args,(Input.okWide_of_okWideB (base:=0) hok).1,(Input.okWide_of_okWideB hok).2,hrow,by
  simp only[Assume.holds];exact⟨by simp,by simp,λh=>by simp at h,by simp,by simp⟩⟩
end Go.Proofs.YtcpjfpdecklkgaaGreatDoor
