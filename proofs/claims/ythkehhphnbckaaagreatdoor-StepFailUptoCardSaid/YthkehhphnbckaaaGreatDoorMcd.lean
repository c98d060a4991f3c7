import Derived.Deep.SlicePairs
import Derived.Test.YthkehhphnbckaaaGreatDoorMbr
namespace Go.Proofs.YthkehhphnbckaaaGreatDoor
open Go.ChangeShapes Go.WideShapes Go.ChangeAt Go.RowKit Go.Deep
def Zbvg:Value→Bool
 | .bool b=>b
 | _=>false
def strW:Value→ByteArray
 | .string s=>s
 | _=>ByteArray.empty
set_option maxRecDepth 100000 in
theorem Zbxj {H:Type} {enc:TypeId×Value→H} {W:World} {base:Nat} {r:Reach} {b0:Nat} {sp:Nat→Bool} {held:Bool} {v:Value} {d:DataW H} {ps:List MemPlace}
  (hval:Value.okWide Tryz.prog W r b0 40 v) (h:DataW.Trod enc Tryz.prog W base sp held 40 v d ps):
  ∃fs:List (Bool×ByteArray),Zbb W v fs∧∀f∈fs,f.2.size≤Rows.uptoBulk d:=by
 obtain⟨a,n,c,rfl⟩:=okWide_slice Tryz.underlying40 hval
 obtain⟨fuel,hf⟩:=h
 rcases open_slice_pairs Tryz.underlying40 Tryz.underlying25 (by kernel_rfl) rfl rfl (by kernel_rfl) (by kernel_rfl) hf with⟨hcs,_⟩|⟨a',len,cap,m,k,V0,V1,D0,D1,P0,P1,hcs,hb,hl,hm,hmm,hd,hall⟩
 ·simp[Value.cells]at hcs
  obtain⟨rfl,rfl,rfl⟩:=hcs
  exact⟨[],⟨none,0,rfl,by simp,by simp[maxLen],fun h=>absurd rfl h⟩,by simp⟩
 ·simp[Value.cells]at hcs
  obtain⟨rfl,rfl,rfl⟩:=hcs
  have hnm:n≤m:=by rw[hmm];split<;>omega
  have each:∀i,i<n→W.cell? (a'.add (i*2))=some (.bool (Zbvg (V0 i)))∧W.cell? (a'.add (i*2+1))=some (.string (strW (V1 i)))∧D1 i = .lit (.string (strW (V1 i)).data.toList):=by
   intro i hi
   obtain⟨c0,c1,t0,t1⟩:=hall i (by omega)
   obtain⟨s0,e0,_⟩:=DataW.trod_bool Tryz.underlying4 t0
   obtain⟨s1,e1,d1,w1⟩:=DataW.trod_string Tryz.underlying9 t1
   simp at e0 e1
   simp only[Prod.mk.injEq]at d1
   rw[e0]at c0
   rw[e1]at c1
   rw[e0,e1]
   exact⟨c0,c1,d1.1⟩
  refine⟨(List.range n).map fun i=>(Zbvg (V0 i),strW (V1 i)),⟨some a',c,by simp,by simpa using hl,hm,fun hne=>?_⟩,?_⟩
  ·have hn:0<n:=by
    rcases Nat.eq_zero_or_pos n with h0|h0
    ·subst h0;simp at hne
    ·exact h0
   obtain⟨b,o,sp'⟩:=a'
   have h0:=(each 0 hn).1
   have hs:sp'=none:=by simpa[Addr.add]using World.cell?_spot h0
   subst hs
   refine⟨b,o,rfl,?_,fun j x hx=>?_⟩
   ·simpa[Addr.add]using Zie h0
   ·have hj:j<n:=by have:=(List.getElem?_eq_some_iff.1 hx).1;simpa using this
    rw[List.getElem?_map,List.getElem?_range hj]at hx
    simp at hx
    subst hx
    obtain⟨h1,h2,_⟩:=each j hj
    rw[Addr.add_lit]at h1 h2
    exact⟨h1,h2⟩
  ·intro f hf
   obtain⟨i,hi,rfl⟩:=List.mem_map.1 hf
   have e2:=(each i (List.mem_range.1 hi)).2.2
   injection hd with hd _
   have h1:=Zgo (show DataW.agg [D0 i,D1 i]∈(List.range n).map fun i=>DataW.agg [D0 i,D1 i]from List.mem_map.2 ⟨i,hi,rfl⟩)
   have h2:=Zgp ((List.range n).map fun i=>DataW.agg [D0 i,D1 i]) ((List.range (m-n)).map fun j=>DataW.agg [D0 (n+j),D1 (n+j)])
   rw[←hd]at h2
   simp only[Rows.uptoBulk,Rows.uptoBulkAll,e2]at h1
   show(strW (V1 i)).size≤_
   rw[Lib.size_eq]
   omega
end Go.Proofs.YthkehhphnbckaaaGreatDoor
namespace Go.Proofs.YthkehhphnbckaaaGreatDoor
open Go.ChangeShapes Go.WideShapes Go.ChangeAt Go.RowKit Go.Deep
set_option maxRecDepth 100000 in
theorem Zbxi {H:Type} {enc:TypeId×Value→H} {W:World} {base:Nat} {r:Reach} {b0:Nat} {sp:Nat→Bool} {held:Bool} {v:Value} {d:DataW H} {ps:List MemPlace}
  (hval:Value.okWide Tryz.prog W r b0 39 v) (h:DataW.Trod enc Tryz.prog W base sp held 39 v d ps):
  ∃(x:StepS) (a1 a2:Option Addr) (c1 c2:Nat),v = .agg (Zbny x a1 a2 c1 c2)∧IsStrs W (.slice a1 x.args.length c1) x.args∧IsStrs W (.slice a2 x.lits.length c2) x.lits∧SmallS x (Rows.uptoBulk d):=by
 obtain⟨cs,rfl,hsz⟩:=okWide_struct Tryz.underlying39 hval
 have hc:Tryz.prog.cellsOf 39=5:=by kernel_rfl
 obtain⟨fuel,hf⟩:=h
 have hl:(Value.agg cs).cells.toList.length=5:=by
  show cs.toList.length=5
  rw[Array.length_toList,hsz,hc]
 obtain⟨x,⟨va,vl,e,ha,hb⟩,hs⟩:=Zbcz hl hf
 obtain⟨a1,c1,rfl⟩:=Zue ha
 obtain⟨a2,c2,rfl⟩:=Zue hb
 refine⟨x,a1,a2,c1,c2,?_,ha,hb,hs⟩
 congr 1
 apply Array.toList_inj.1
 exact e
end Go.Proofs.YthkehhphnbckaaaGreatDoor
