import Derived.Lib.SmallJoins
import Derived.Test.YtphjfaoghphleaaGreatDoorMbf
set_option maxRecDepth 100000
namespace Go.Proofs.YtphjfaoghphleaaGreatDoor
open Go.Proofs.Tryz Go.ChangeShapes Go.WideShapes Go.ChangeAt Go.RowKit Go.Deep Go.Lib
theorem Zdla {H:Type} {c:TypeId×Value->H} {W:World} {base:Nat} {r:Reach} {k:Nat} {s:Nat->Bool} {a:Bool} {v:Value} {d:DataW H} {ps:List MemPlace}
  (b:Value.okWide prog W r k 24 v) (h:DataW.Trod c prog W base s a 24 v d ps):
  ∃x:Bool×ByteArray,v = .agg #[.bool x.1,.string x.2]/\x.2.size<=Rows.uptoBulk d:=by
 obtain⟨u,w,t,j,n,rfl,p,_,m,o⟩:=Go.Joins.open_agg2 underlying24 (by kernel_rfl) (by kernel_rfl) b h;obtain⟨q,f,_⟩:=DataW.trod_bool underlying4 m;obtain⟨i,g,l,_⟩:=DataW.trod_string underlying9 o;simp at f g;subst f g;refine⟨(q,i),rfl,?_⟩;have e:=Zgo (show j.1∈[t.1,j.1] by simp);rw[p,Rows.uptoBulk];show i.size<=_;rw[Lib.size_eq];rw[l]at e⊢;simp only[Rows.uptoBulk]at e;exact Nat.le_trans (Nat.le_of_succ_le e) (Nat.le_succ _)
