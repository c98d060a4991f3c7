import Derived.Test.YtcpjfpdecklkgaaGreatDoorRows
import Derived.Deep.Slices
import Derived.Deep.Strs
import Derived.Test.YtcpjfpdecklkgaaGreatDoorGate
import Derived.Test.YtcpjfpdecklkgaaGreatDoorMaq
namespace Go.Proofs.YtcpjfpdecklkgaaGreatDoor
open Go.Proofs.Tryz
theorem Zgo {H:Type} {d:DataW H} {l:List (DataW H)} (h:d∈l):Rows.uptoBulk d<=Rows.uptoBulkAll l:=by
 induction l with
 | nil=>cases h
 | cons x r ih=>
  simp only[Rows.uptoBulkAll]
  cases List.mem_cons.1 h with
  | inl e=>subst e;omega
  | inr e=>have:=ih e;omega
theorem Zgp {H:Type} (elems spare:List (DataW H)):Rows.uptoBulkAll elems+1<=Rows.uptoBulk (.slice elems spare):=by
 simp only[Rows.uptoBulk];omega
open Go.ChangeShapes Go.WideShapes Go.ChangeAt Go.RowKit Go.Deep
theorem Zgn {H:Type} (d:DataW H):1<=Rows.uptoBulk d:=by
 cases d with
 | lit l=>cases l<;>simp[Rows.uptoBulk]
 | _=>simp[Rows.uptoBulk]
theorem Zgm {H:Type}:∀l:List (DataW H),l.length<=Rows.uptoBulkAll l
 | []=>by simp[Rows.uptoBulkAll]
 | d::l=>by
  have h1:=Zgn d;have h2:=Zgm l;simp only[List.length_cons,Rows.uptoBulkAll];omega
section
variable {H:Type} {enc:TypeId×Value->H} {W:World} {base:Nat} {sp:Nat->Bool} {held:Bool}
theorem Zbcw {t e:TypeId} {k fuel:Nat} {cs:List Value} {x:DataW H×List MemPlace} {α:Type} [Inhabited α] (Pr:List Value->α->Prop) (Qb:α->Nat->Prop) (ht:prog.underlying t=some (.slice e)) (hk:prog.cellsOf e=k) (hk0:0<k)
  (elem:∀n cs' y,cs'.length=k->DataW.trod enc prog W base sp held n e cs'=some y->∃a:α,Pr cs' a/\Qb a (Rows.uptoBulk y.1)) (mono:∀a m m',Qb a m->m<=m'->Qb a m')
  (h:DataW.trod enc prog W base sp held fuel t cs=some x):∃v rows xs,cs = [v]/\IsRow W v k rows/\AllA Pr rows xs/\xs.length<=Rows.uptoBulk x.1/\∀a∈xs,Qb a (Rows.uptoBulk x.1):=by
 rcases open_slice ht h with⟨hcs,_⟩|⟨a',len,cap,m,nn,D,Pl,hcs,hb,hl,hm,hmm,hx,hall⟩
 ·exact⟨.slice none 0 0,[],[],hcs,⟨none,0,rfl,by simp,by simp[maxLen],λh=>absurd rfl h⟩,AllA.nil _,by simp,by simp⟩
 ·rw[hk]at hall
  have hnm:len<=m:=by rw[hmm];split<;>omega
  have each:∀i,i<len->∃p:List Value×α,p.1.length=k/\(∀j,j<k->W.cell? (a'.add (i*k+j))=p.1[j]?)/\Pr p.1 p.2/\Qb p.2 (Rows.uptoBulk (D i)):=by
   intro i hi;obtain⟨cs',h1,h2⟩:=hall i (by omega);obtain⟨_,hlen,hcell⟩:=World.cells?_some h1;obtain⟨a,ha,hq⟩:=elem _ _ _ hlen h2;refine⟨(cs',a),hlen,λj hj=>?_,ha,hq⟩;have:=hcell j hj;rw[add_add]at this;exact this
  obtain⟨X,hX⟩:=choose_lt each;have hbk:Rows.uptoBulkAll ((List.range len).map D)+1<=Rows.uptoBulk x.1:=by rw[hx];exact Zgp _ _
  have hbl:=Zgm ((List.range len).map D);simp only[List.length_map,List.length_range]at hbl;refine⟨.slice (some a') len cap,(List.range len).map λi=>(X i).1,(List.range len).map λi=>(X i).2,hcs,⟨some a',cap,by simp,by simpa using hl,hm,λhne=>?_⟩,⟨by simp,λj r y hr hy=>?_⟩,by simp only[List.length_map,List.length_range];omega,λa ha=>?_⟩
  ·have hn:0<len:=by
    rcases Nat.eq_zero_or_pos len with h0|h0
    ·subst h0;simp at hne
    ·exact h0
   obtain⟨b,o,sp'⟩:=a';obtain⟨hl0,hc0,_⟩:=hX 0 hn;have h0:=hc0 0 hk0;rw[List.getElem?_eq_getElem (by rw[hl0];exact hk0)]at h0;have hs:sp'=none:=by simpa[Addr.add]using World.cell?_spot h0
   subst hs;refine⟨b,o,rfl,?_,λj r hr i u hu=>?_⟩
   ·simpa[Addr.add]using Zie h0
   ·have hj:j<len:=by have:=(List.getElem?_eq_some_iff.1 hr).1;simpa using this
    rw[List.getElem?_map,List.getElem?_range hj]at hr;simp at hr;subst hr;obtain⟨hl1,hc1,_⟩:=hX j hj;have hi:i<k:=by rw[<-hl1];exact(List.getElem?_eq_some_iff.1 hu).1
    have:=hc1 i hi;rw[hu,Addr.add_lit,<-Nat.add_assoc]at this;exact this
  ·have hj:j<len:=by have:=(List.getElem?_eq_some_iff.1 hr).1;simpa using this
   rw[List.getElem?_map,List.getElem?_range hj]at hr hy;simp at hr hy;subst hr hy;exact(hX j hj).2.2.1
  ·obtain⟨i,hi,rfl⟩:=List.mem_map.1 ha
   have hi':=List.mem_range.1 hi;refine mono _ _ _ (hX i hi').2.2.2 ?_;have:=Zgo (show D i∈(List.range len).map D from List.mem_map.2 ⟨i,hi,rfl⟩);omega
theorem Zbqr {w:World} {v:Value} {xs:List ByteArray} (h:IsRow w v 1 (Zbpk xs)):IsStrs w v xs:=by
 obtain⟨a,c,hv,h1,h2,h3⟩:=h;rw[Zbpo]at h1 hv;refine⟨a,c,hv,h1,h2,λhne=>?_⟩;obtain⟨b,o,e,hb,hc⟩:=h3 (by intro e;apply hne;cases xs with
  | nil=>rfl
  | cons x xs=>simp[Zbpk]at e)
 refine⟨b,o,e,hb,λk x hx=>?_⟩;have:=hc k [.string x] (by unfold Zbpk;rw[List.getElem?_map,hx];rfl) 0 (.string x) rfl;simpa using this
instance:Inhabited StepS:=⟨⟨ByteArray.empty,0,[],[],0⟩⟩
instance:Inhabited RuleS:=⟨⟨ByteArray.empty,[],[],[],[]⟩⟩
theorem Zbdb {fuel:Nat} {cs:List Value} {x:DataW H×List MemPlace} (h:DataW.trod enc prog W base sp held fuel 29 cs=some x):∃v xs,cs = [v]/\IsStrs W v xs/\SmallL xs (Rows.uptoBulk x.1):=by
 obtain⟨v,rows,xs,hcs,hrow,hall,hlen,hsm⟩:=Zbcw (α:=ByteArray) (λcs' y=>cs' = [.string y]) (λy m=>y.size<=m) underlying29 (k:=1) (by kernel_rfl) (by decide)
  (λn cs' y _ hy=>by
   obtain⟨s,e1,e2,_⟩:=DataW.trod_string underlying9 hy;refine⟨s,e1,?_⟩;rw[e2];simp only[Rows.uptoBulk];rw[Lib.size_eq];omega) (λ_ _ _ h1 h2=>Nat.le_trans h1 h2) h
 have hrows:rows=Zbpk xs:=by
  apply List.ext_getElem?;intro j;unfold Zbpk;rw[List.getElem?_map]
  rcases Nat.lt_or_ge j xs.length with hj|hj
  ·have:=hall.2 j (rows[j]'(by rw[hall.1];exact hj)) xs[j] (List.getElem?_eq_getElem _) (List.getElem?_eq_getElem hj)
   rw[List.getElem?_eq_getElem (by rw[hall.1];exact hj),List.getElem?_eq_getElem hj,this];rfl
  ·rw[List.getElem?_eq_none (by rw[hall.1];exact hj),List.getElem?_eq_none hj];rfl
 subst hrows;exact⟨v,xs,hcs,Zbqr hrow,hlen,hsm⟩
theorem Ztk {n:Int} (h:(Lit.int .i64 n).wf=true):Zba n:=by
 have h2:=of_decide_eq_true (by simpa[Lit.wf]using h:decide (IntKind.i64.min<=n/\n<=IntKind.i64.max)=true);have e1:IntKind.i64.min = -9223372036854775808:=by decide
 have e2:IntKind.i64.max=9223372036854775807:=by decide
 unfold Zba;omega
set_option maxRecDepth 100000 in
theorem Zbcz {fuel:Nat} {cs:List Value} {x:DataW H×List MemPlace} (hl:cs.length=5) (h:DataW.trod enc prog W base sp held fuel 34 cs=some x):∃y:StepS,Zcc W cs y/\SmallS y (Rows.uptoBulk x.1):=by
 obtain⟨xs,n,_,hx,_,hxl,hf⟩:=DataW.trod_struct underlying34 h;have c0:prog.cellsOf 9=1:=by kernel_rfl
 have c1:prog.cellsOf 3=1:=by kernel_rfl
 have c2:prog.cellsOf 29=1:=by kernel_rfl
 match xs,hxl,cs,hl with
 | [y0,y1,y2,y3,y4],_,[v0,v1,v2,v3,v4],_=>
  have g0:=hf 0 _ rfl;have g1:=hf 1 _ rfl;have g2:=hf 2 _ rfl;have g3:=hf 3 _ rfl;have g4:=hf 4 _ rfl;simp[c0,c1,c2]at g0 g1 g2 g3 g4;obtain⟨s0,f0,e0,_⟩:=DataW.trod_string underlying9 g0;obtain⟨n1,f1,e1,w1⟩:=DataW.trod_int underlying3 g1;obtain⟨u2,l2,f2,i2,m2⟩:=Zbdb g2;obtain⟨u3,l3,f3,i3,m3⟩:=Zbdb g3;obtain⟨n4,f4,e4,w4⟩:=DataW.trod_int underlying3 g4;simp at f0 f1 f2 f3 f4;subst f0 f1 f2 f3 f4;have hb:Rows.uptoBulk x.1=Rows.uptoBulk y0.1+(Rows.uptoBulk y1.1+(Rows.uptoBulk y2.1+(Rows.uptoBulk y3.1+(Rows.uptoBulk y4.1+0))))+1:=by rw[hx];rfl
  have hs:s0.size<=Rows.uptoBulk y0.1:=by rw[e0];simp only[Rows.uptoBulk];rw[Lib.size_eq];omega
  exact⟨⟨s0,n1,l2,l3,n4⟩,⟨_,_,rfl,i2,i3⟩,⟨by show s0.size<=_;omega,m2.mono (by omega),m3.mono (by omega),Ztk w1,Ztk w4⟩⟩
set_option maxRecDepth 100000 in
theorem Zbda {fuel:Nat} {cs:List Value} {x:DataW H×List MemPlace} (h:DataW.trod enc prog W base sp held fuel 35 cs=some x):∃v xs,cs = [v]/\StepsI W v xs/\xs.length<=Rows.uptoBulk x.1/\∀y∈xs,SmallS y (Rows.uptoBulk x.1):=by
 obtain⟨v,rows,xs,hcs,hrow,hall,hlen,hsm⟩:=Zbcw (α:=StepS) (Zcc W) SmallS underlying35 (k:=5) (by kernel_rfl) (by decide) (λn cs' y hl hy=>Zbcz hl hy) (λ_ _ _ h1 h2=>h1.mono h2) h;exact⟨v,xs,hcs,⟨rows,hrow,hall⟩,hlen,hsm⟩
set_option maxRecDepth 100000 in
theorem Zbcx {fuel:Nat} {cs:List Value} {x:DataW H×List MemPlace} (hl:cs.length=5) (h:DataW.trod enc prog W base sp held fuel 37 cs=some x):∃y:RuleS,RuleI W cs y/\SmallR y (Rows.uptoBulk x.1):=by
 obtain⟨xs,n,_,hx,_,hxl,hf⟩:=DataW.trod_struct underlying37 h;have c0:prog.cellsOf 9=1:=by kernel_rfl
 have c1:prog.cellsOf 35=1:=by kernel_rfl
 have c2:prog.cellsOf 29=1:=by kernel_rfl
 match xs,hxl,cs,hl with
 | [y0,y1,y2,y3,y4],_,[v0,v1,v2,v3,v4],_=>
  have g0:=hf 0 _ rfl;have g1:=hf 1 _ rfl;have g2:=hf 2 _ rfl;have g3:=hf 3 _ rfl;have g4:=hf 4 _ rfl;simp[c0,c1,c2]at g0 g1 g2 g3 g4;obtain⟨s0,f0,e0,_⟩:=DataW.trod_string underlying9 g0;obtain⟨u1,l1,f1,i1,m1⟩:=Zbdb g1;obtain⟨u2,l2,f2,i2,m2⟩:=Zbdb g2;obtain⟨u3,l3,f3,i3,m3⟩:=Zbdb g3;obtain⟨u4,l4,f4,i4,m4,k4⟩:=Zbda g4;simp at f0 f1 f2 f3 f4;subst f0 f1 f2 f3 f4;have hb:Rows.uptoBulk x.1=Rows.uptoBulk y0.1+(Rows.uptoBulk y1.1+(Rows.uptoBulk y2.1+(Rows.uptoBulk y3.1+(Rows.uptoBulk y4.1+0))))+1:=by rw[hx];rfl
  have hs:s0.size<=Rows.uptoBulk y0.1:=by rw[e0];simp only[Rows.uptoBulk];rw[Lib.size_eq];omega
  exact⟨⟨s0,l1,l2,l3,l4⟩,⟨_,_,_,_,rfl,i1,i2,i3,i4⟩,⟨by show s0.size<=_;omega,m1.mono (by omega),m2.mono (by omega),m3.mono (by omega),by show l4.length<=_;omega,λy hy=>(k4 y hy).mono (by omega)⟩⟩
end
set_option maxRecDepth 100000 in
theorem Zbxh {H:Type} {enc:TypeId×Value->H} {W:World} {base:Nat} {r:Reach} {b0:Nat} {sp:Nat->Bool} {held:Bool} {v:Value} {d:DataW H} {ps:List MemPlace}
  (hval:Value.okWide prog W r b0 22 v) (h:DataW.Trod enc prog W base sp held 22 v d ps):
  ∃xs:List RuleS,RulesI W v xs/\xs.length<=Rows.uptoBulk d/\∀y∈xs,SmallR y (Rows.uptoBulk d):=by
 obtain⟨a,n,c,rfl⟩:=okWide_slice underlying22 hval;obtain⟨fuel,hf⟩:=h;obtain⟨v',rows,xs,hcs,hrow,hall,hlen,hsm⟩:=Zbcw (α:=RuleS) (RuleI W) SmallR underlying22 (k:=5) (by kernel_rfl) (by decide) (λn cs' y hl hy=>Zbcx hl hy) (λ_ _ _ h1 h2=>h1.mono h2) hf;simp[Value.cells]at hcs;subst hcs;exact⟨xs,⟨rows,hrow,hall⟩,hlen,hsm⟩
end Go.Proofs.YtcpjfpdecklkgaaGreatDoor
