import Derived.Lib.ReplaceLaws
import Derived.Lib.SplitLaws
import Derived.Deep.AppendLies
import Derived.Deep.RegionHeld3
import Derived.Deep.DeepCutAuto
import Derived.Lib.SlBytesRow
import Derived.Lib.ItoaNum
import Derived.Lib.AtoiAllCases
import Derived.Test.YthkehhphnbckaaaGreatDoorMap
import Derived.Deep.CutBlock
import Derived.BigRegion
import Derived.Lib.ItoaLen
namespace Go.Proofs.YthkehhphnbckaaaGreatDoor
open Go.Lib
def Zxf:List UInt8->List UInt8->List (List UInt8)
 | acc,[]=>if acc = []then []else [acc]
 | acc,c::r=>if c=10 then acc::Zxf [] r else Zxf (acc ++ [c]) r
def Zxl (s:List UInt8):List (List UInt8):=Zxf [] s
def Zul (l:List (List UInt8)):List UInt8:=(l.map (· ++ [10])).flatten
theorem Zxg:∀(a acc b:List UInt8),(10:UInt8)∉a->Zxf acc (a++10::b)=(acc++a)::Zxl b
 | [],acc,b,_=>by simp[Zxf,Zxl]
 | c::a,acc,b,h=>by
  have hc:c≠10:=λe=>h (by simp[e])
  have ha:(10:UInt8)∉a:=λe=>h (by simp[e])
  rw[List.cons_append,Zxf,if_neg hc,Zxg a (acc ++ [c]) b ha];simp
theorem Zxh:∀(s acc:List UInt8),(10:UInt8)∉s->Zxf acc s=if acc++s = []then []else [acc++s]
 | [],acc,_=>by simp[Zxf]
 | c::a,acc,h=>by
  have hc:c≠10:=λe=>h (by simp[e])
  have ha:(10:UInt8)∉a:=λe=>h (by simp[e])
  rw[Zxf,if_neg hc,Zxh a (acc ++ [c]) ha];simp
theorem Zxm {a b:List UInt8} (h:(10:UInt8)∉a):Zxl (a++10::b)=a::Zxl b:=by
 unfold Zxl;rw[Zxg a [] b h];simp[Zxl]
theorem Zxn {s:List UInt8} (h:(10:UInt8)∉s) (hn:s≠[]):Zxl s = [s]:=by
 unfold Zxl;rw[Zxh s [] h];simp[hn]
theorem Zxo:Zxl [] = []:=rfl
theorem Zxr {P:List UInt8->Prop} (h0:P []) (h1:∀s,(10:UInt8)∉s->s≠[]->P s) (h2:∀a b,(10:UInt8)∉a->P b->P (a++10::b)) (s:List UInt8):P s:=by
 suffices H:∀n,∀s:List UInt8,s.length<=n->P s from H s.length s (Nat.le_refl _)
 intro n
 induction n with
 | zero=>intro s hs;have:s = []:=List.eq_nil_of_length_eq_zero (by omega);subst this;exact h0
 | succ n ih=>
  intro s hs
  rcases Zoz 10 s with h|⟨a,b,rfl,h⟩
  ·by_cases hn:s = []
   ·subst hn;exact h0
   ·exact h1 s h hn
  ·exact h2 a b h (ih b (by simp at hs;omega))
theorem Zun (x:List UInt8) (l:List (List UInt8)):Zul (x::l)=x++10::Zul l:=by simp[Zul]
theorem Zum (l m:List (List UInt8)):Zul (l++m)=Zul l++Zul m:=by simp[Zul]
theorem Zuo (l:List (List UInt8)):(Zul l).length=(l.map List.length).sum+l.length:=by
 induction l with
 | nil=>rfl
 | cons x l ih=>rw[Zun];simp[ih];omega
theorem Zxt (s:List UInt8):((Zxl s).map List.length).sum+(Zxl s).length<=s.length+1:=by
 induction s using Zxr with
 | h0=>simp[Zxo]
 | h1 s h hn=>rw[Zxn h hn];simp
 | h2 a b h ih=>rw[Zxm h];simp;omega
theorem Zxs (s:List UInt8):(Zxl s).length<=s.length:=by
 induction s using Zxr with
 | h0=>simp[Zxo]
 | h1 s h hn=>rw[Zxn h hn];have:=List.length_pos_iff.2 hn;simp;omega
 | h2 a b h ih=>rw[Zxm h];simp;omega
theorem Zxq (s:List UInt8):∀l∈Zxl s,l.length<=s.length:=by
 induction s using Zxr with
 | h0=>simp[Zxo]
 | h1 s h hn=>rw[Zxn h hn];simp
 | h2 a b h ih=>
  rw[Zxm h];intro l hl
  rcases List.mem_cons.1 hl with rfl|hl
  ·simp
  ·have:=ih l hl;simp;omega
theorem Zbzi (s:List UInt8):∀l∈Zxl s,(10:UInt8)∉l:=by
 induction s using Zxr with
 | h0=>simp[Zxo]
 | h1 s h hn=>rw[Zxn h hn];simpa using h
 | h2 a b h ih=>
  rw[Zxm h];intro l hl
  rcases List.mem_cons.1 hl with rfl|hl
  ·exact h
  ·exact ih l hl
theorem Zbzh:∀(l:List (List UInt8)),(∀x∈l,(10:UInt8)∉x)->Zxl (Zul l)=l
 | [],_=>rfl
 | x::l,h=>by rw[Zun,Zxm (h x (by simp)),Zbzh l (λy hy=>h y (by simp[hy]))]
def Zbha (old new:List UInt8):Nat->List UInt8->List UInt8
 | 0,s=>s
 | _+1,[]=>[]
 | f+1,c::r=>if old.isPrefixOf (c::r)then new++Zbha old new f ((c::r).drop old.length)else c::Zbha old new f r
def Zbhc (old new s:List UInt8):List UInt8:=Zbha old new s.length s
theorem Zbhb (old new:List UInt8) (ho:old≠[]):∀(f:Nat) (s:List UInt8),s.length<=f->∀f',s.length<=f'->Zbha old new f s=Zbha old new f' s
 | 0,s,h,f',h'=>by
  have:s = []:=List.eq_nil_of_length_eq_zero (by omega);subst this
  cases f'<;>rfl
 | f+1,s,h,f',h'=>by
  cases s with
  | nil=>cases f'<;>rfl
  | cons c r=>
   have hl:0<old.length:=List.length_pos_iff.2 ho
   cases f' with
   | zero=>simp at h'
   | succ f'=>
    unfold Zbha;have e:((c::r).drop old.length).length<=r.length:=by simp;omega
    simp at h h';rw[Zbhb old new ho f _ (by omega) f' (by omega),Zbhb old new ho f r (by omega) f' (by omega)]
theorem Zbhd (old new:List UInt8) (ho:old≠[]) (c:UInt8) (r:List UInt8):Zbhc old new (c::r)=if old.isPrefixOf (c::r)then new++Zbhc old new ((c::r).drop old.length)else c::Zbhc old new r:=by
 have hl:0<old.length:=List.length_pos_iff.2 ho;unfold Zbhc;rw[List.length_cons,Zbha];split
 ·rw[Zbhb old new ho r.length _ (by simp;omega) _ (Nat.le_refl _)]
 ·rfl
theorem Zbhe (old new:List UInt8) (ho:old≠[]) (s:List UInt8) (h:old.isPrefixOf s=true):Zbhc old new s=new++Zbhc old new (s.drop old.length):=by
 cases s with
 | nil=>cases old with
  | nil=>exact absurd rfl ho
  | cons a t=>simp at h
 | cons c r=>rw[Zbhd _ _ ho,if_pos h]
theorem Zbhf (old new:List UInt8) (ho:old≠[]):∀(s:List UInt8) (i:Nat),index s old=(i:Int)->Zbhc old new s=s.take i++new++Zbhc old new (s.drop (i+old.length))
 | [],i,h=>by
  unfold index at h
  cases old with
  | nil=>exact absurd rfl ho
  | cons a t=>simp at h
 | c::r,i,h=>by
  unfold index at h
  by_cases hp:old.isPrefixOf (c::r)=true
  ·rw[if_pos hp]at h
   have:i=0:=by omega
   subst this;rw[Zbhe old new ho _ hp];simp
  ·rw[if_neg hp]at h
   have hge:=index_ge r old
   by_cases hm:index r old = -1
   ·simp[hm]at h
   ·have h':index r old+1=(i:Int):=by simpa[hm]using h
    obtain⟨k,rfl⟩:∃k,i=k+1:=⟨i-1,by omega⟩;rw[Zbhd _ _ ho,if_neg hp,Zbhf old new ho r k (by omega)];simp[Nat.add_right_comm]
theorem Zbhh (old new:List UInt8) (ho:old≠[]):∀(s:List UInt8),index s old = -1->Zbhc old new s=s
 | [],_=>rfl
 | c::r,h=>by
  unfold index at h
  by_cases hp:old.isPrefixOf (c::r)=true
  ·rw[if_pos hp]at h;omega
  ·rw[if_neg hp]at h
   have hge:=index_ge r old
   by_cases hm:index r old = -1
   ·rw[Zbhd _ _ ho,if_neg hp,Zbhh old new ho r hm]
   ·rw[if_neg (by simpa using hm)]at h;omega
theorem Zbhk (old new:List UInt8) (ho:old≠[]):∀(n:Nat) (s:List UInt8),s.length<=n->replaceK old new (count s old) s=Zbhc old new s/\(Zbhc old new s).length+count s old*old.length=s.length+count s old*new.length
 | n,s,hn=>by
  have hl:0<old.length:=List.length_pos_iff.2 ho;have hge:=index_ge s old
  by_cases hm:index s old = -1
  ·rw[count_miss hm,Zbhh old new ho s hm]
   exact⟨rfl,by simp⟩
  ·obtain⟨i,hi⟩:∃i:Nat,index s old=i:=⟨(index s old).toNat,by omega⟩
   have hroom:i+old.length<=s.length:=by
    have hc:contains s old=true:=by unfold contains;rw[decide_eq_true_eq];omega
    have e:=Zbhf old old ho s i hi
    rcases indexB_cases ⟨s.toArray⟩ ⟨old.toArray⟩with hix|⟨j,hj,hr⟩
    ·have:index s old = -1:=hix
     omega
    ·have e2:index s old=(j:Int):=hj
     have:i=j:=by omega
     subst this;have e3:(⟨old.toArray⟩:ByteArray).size=old.length:=by simp[ByteArray.size]
     have e4:(⟨s.toArray⟩:ByteArray).size=s.length:=by simp[ByteArray.size]
     rw[e3,e4]at hr;exact hr
   have hcnt:count s old=1+count (s.drop (i+old.length)) old:=by
    have h:=countB_hit ⟨s.toArray⟩ ⟨old.toArray⟩ i (by simp[ByteArray.size];omega) hi;have e1:countB ⟨s.toArray⟩ ⟨old.toArray⟩=count s old:=rfl;have e2:countB ((⟨s.toArray⟩:ByteArray).extract (i+(⟨old.toArray⟩:ByteArray).size) (⟨s.toArray⟩:ByteArray).size) ⟨old.toArray⟩=count (s.drop (i+old.length)) old:=by
     unfold countB;rw[extract_to_end];rfl
    rw[e1,e2]at h;exact h
   cases n with
   | zero=>omega
   | succ n=>
    have ih:=Zbhk old new ho n (s.drop (i+old.length)) (by simp;omega);rw[hcnt,Nat.add_comm 1,replaceK_hit old new _ s i hi,ih.1,<-Zbhf old new ho s i hi];refine⟨rfl,?_⟩;rw[Zbhf old new ho s i hi];have h2:=ih.2;simp only[List.length_append,List.length_take,List.length_drop,Nat.add_mul,Nat.one_mul]at h2⊢;omega
theorem Zbhi (old:List UInt8) (ho:old≠[]):∀(n:Nat) (s:List UInt8),s.length<=n->Zbhc old old s=s
 | n,[],_=>rfl
 | 0,c::r,h=>by simp at h
 | n+1,c::r,h=>by
  have hl:0<old.length:=List.length_pos_iff.2 ho;simp at h;rw[Zbhd _ _ ho];split
  ·rename_i hp
   obtain⟨t,ht⟩:=List.isPrefixOf_iff_prefix.1 hp;rw[Zbhi old ho n _ (by simp;omega),<-ht];simp
  ·rw[Zbhi old ho n r (by omega)]
theorem Zbhj (old new s:List UInt8) (ho:old≠[]):replaceAll s old new=Zbhc old new s:=by
 unfold replaceAll replace;split
 ·rename_i h
  have:old=new:=beq_iff_eq.1 h;subst this;exact(Zbhi old ho _ s (Nat.le_refl _)).symm
 ·have e:replaceNum s old (-1)=count s old:=by unfold replaceNum;rw[if_pos (Or.inl (by omega))]
  rw[e];exact(Zbhk old new ho _ s (Nat.le_refl _)).1
theorem Zbhg (old new s:List UInt8) (ho:old≠[]):(Zbhc old new s).length+count s old*old.length=s.length+count s old*new.length:=(Zbhk old new ho _ s (Nat.le_refl _)).2
end Go.Proofs.YthkehhphnbckaaaGreatDoor
namespace Go.Proofs.YthkehhphnbckaaaGreatDoor
open Go.RowKit
def RowAt (w:World) (B:Nat) (v:Value) (fs:List F2):Prop:=w.ownsRow B 67 2 v fs.length (Znm fs)
def Apart (v:Value) (b:Nat) (r:Option Nat):Prop:=∀g,v.ownBlock=some g->g≠b/\r≠some g
theorem RowAt.below {w w':World} {B:Nat} {v:Value} {fs:List F2} (h:RowAt w B v fs) (hb:Below w.heap.size w w'):RowAt w' B v fs:=World.ownsRow.kept h (Zrc hb none) (by cases Value.ownBlock v<;>simp)
theorem RowAt.files {w:World} {B:Nat} {v:Value} {fs:List F2} (h:RowAt w B v fs):IsFiles w v fs:=OwnF.files (.inl ⟨h,rfl⟩)
theorem RowAt.new {w:World} {B b:Nat} {v:Value} {fs T:List F2} {r:Option Nat} (h:RowAt w B v fs) (w':World) (ht:IsTree w' w.heap.size b r T):Apart v b r:=by
 intro g hg;have:=World.ownsRow.lt h g hg;obtain⟨h1,h2,_⟩:=ht.rlt;exact⟨by omega,λe=>by have:=(h1 g e).1;omega⟩
theorem IsTree.grown {w w':World} {B b:Nat} {r row:Option Nat} {fs:List F2} (h:IsTree w B b r fs) (hg:w.grownBy w' row) (hb:some b≠row) (hr:r=none∨r≠row):IsTree w' B b r fs:=by
 obtain⟨h1,h2,h3,v,h4,h5⟩:=h;exact⟨h1,h2,h3,v,(hg.block b (block_lt h4) hb).trans h4,h5.kept hg hr⟩
theorem RowAt.after {w w':World} {B b:Nat} {r:Option Nat} {v:Value} {fs T:List F2} (h:RowAt w' w.heap.size v fs) (ht:IsTree w B b r T) (hg:w.grownBy w' none):IsTree w' B b r T/\Apart v b r:=by
 refine⟨ht.grown hg (by simp) (by cases r<;>simp),λg hgv=>?_⟩;have:=World.ownsRow.lt h g hgv;obtain⟨h1,h2,h3⟩:=ht.rlt;exact⟨by omega,λe=>by have:=(h1 g e).2;omega⟩
theorem Apart.tree {w w':World} {B b:Nat} {r:Option Nat} {v:Value} {T:List F2} (h:Apart v b r) (ht:IsTree w B b r T) (hg:w.grownBy w' v.ownBlock):IsTree w' B b r T:=by
 refine ht.grown hg (λe=>(h b e.symm).1 rfl) ?_
 cases r with
 | none=>exact .inl rfl
 | some g=>exact .inr λe=>(h g e.symm).2 rfl
def BothT (wr w:World) (b1 b2:Nat) (r1 r2:Option Nat) (T U:List F2):Prop:=
 ∃B1 B2,IsTree w B1 b1 r1 T/\IsTree w B2 b2 r2 U/\b1<B2/\(∀k,r1=some k->k<B2)/\Below wr.heap.size wr w/\wr.heap.size<=B1/\wr.heap.size<=B2
theorem BothT.below {wr w w':World} {b1 b2:Nat} {r1 r2:Option Nat} {T U:List F2} (h:BothT wr w b1 b2 r1 r2 T U) (hb:Below w.heap.size w w'):BothT wr w' b1 b2 r1 r2 T U:=by
 obtain⟨B1,B2,h1,h2,h3,h4,h5,h6⟩:=h;exact⟨B1,B2,h1.below hb,h2.below hb,h3,h4,h5.trans (hb.mono h5.size),h6⟩
open Go.Shelf
def SmallL (xs:List ByteArray) (m:Nat):Prop:=xs.length<=m/\∀x∈xs,x.size<=m
theorem SmallL.mono {xs:List ByteArray} {m m':Nat} (h:SmallL xs m) (hm:m<=m'):SmallL xs m':=⟨by have:=h.1;omega,λx hx=>by have:=h.2 x hx;omega⟩
def Zcc (w:World) (r:List Value) (x:StepS):Prop:=∃va vl,r = [.string x.out,.int .i64 x.op,va,vl,.int .i64 x.n]/\IsStrs w va x.args/\IsStrs w vl x.lits
def StepsI (w:World) (v:Value) (xs:List StepS):Prop:=∃rows,IsRow w v 5 rows/\AllA (Zcc w) rows xs
def RuleI (w:World) (r:List Value) (x:RuleS):Prop:=∃vi vo vf vs,r = [.string x.name,vi,vo,vf,vs]/\IsStrs w vi x.ins/\IsStrs w vo x.outs/\IsStrs w vf x.after/\StepsI w vs x.steps
def RulesI (w:World) (v:Value) (xs:List RuleS):Prop:=∃rows,IsRow w v 5 rows/\AllA (RuleI w) rows xs
def Zba (n:Int):Prop:= -9223372036854775808<=n/\n<=9223372036854775807
structure SmallS (x:StepS) (m:Nat):Prop where
 out:x.out.size<=m
 args:SmallL x.args m
 lits:SmallL x.lits m
 op:Zba x.op
 n:Zba x.n
structure SmallR (x:RuleS) (m:Nat):Prop where
 name:x.name.size<=m
 ins:SmallL x.ins m
 outs:SmallL x.outs m
 after:SmallL x.after m
 few:x.steps.length<=m
 steps:∀y∈x.steps,SmallS y m
theorem SmallS.mono {x:StepS} {m m':Nat} (h:SmallS x m) (hm:m<=m'):SmallS x m':=⟨Nat.le_trans h.out hm,h.args.mono hm,h.lits.mono hm,h.op,h.n⟩
theorem SmallR.mono {x:RuleS} {m m':Nat} (h:SmallR x m) (hm:m<=m'):SmallR x m':=⟨Nat.le_trans h.name hm,h.ins.mono hm,h.outs.mono hm,h.after.mono hm,Nat.le_trans h.few hm,λy hy=>(h.steps y hy).mono hm⟩
theorem StepsI.below {w w':World} {v:Value} {xs:List StepS} (h:StepsI w v xs) (hb:Below w.heap.size w w'):StepsI w' v xs:=by
 obtain⟨rows,h1,h2⟩:=h;exact⟨rows,h1.below hb,h2.imp λr x h=>by obtain⟨va,vl,rfl,ha,hl⟩:=h;exact⟨va,vl,rfl,ha.below hb,hl.below hb⟩⟩
theorem RuleI.below {w w':World} {r:List Value} {x:RuleS} (h:RuleI w r x) (hb:Below w.heap.size w w'):RuleI w' r x:=by
 obtain⟨vi,vo,vf,vs,rfl,h1,h2,h3,h4⟩:=h;exact⟨vi,vo,vf,vs,rfl,h1.below hb,h2.below hb,h3.below hb,h4.below hb⟩
theorem RulesI.below {w w':World} {v:Value} {xs:List RuleS} (h:RulesI w v xs) (hb:Below w.heap.size w w'):RulesI w' v xs:=by
 obtain⟨rows,h1,h2⟩:=h;exact⟨rows,h1.below hb,h2.imp λr x h=>h.below hb⟩
theorem Zue {w:World} {v:Value} {xs:List ByteArray} (h:IsStrs w v xs):∃a c,v = .slice a xs.length c:=by
 obtain⟨a,c,rfl,_⟩:=h;exact⟨a,c,rfl⟩
theorem Zbov {w:World} {v:Value} {xs:List StepS} (h:StepsI w v xs):∃a c,v = .slice a xs.length c:=by
 obtain⟨rows,⟨a,c,rfl,_⟩,hall⟩:=h;exact⟨a,c,by rw[hall.1]⟩
theorem Zbjn {w:World} {v:Value} {xs:List RuleS} (h:RulesI w v xs):∃a c,v = .slice a xs.length c/\xs.length<=c/\c<=maxLen:=by
 obtain⟨rows,⟨a,c,rfl,h1,h2,_⟩,hall⟩:=h;rw[<-hall.1];exact⟨a,c,rfl,h1,h2⟩
theorem Zbjm {w:World} {v:Value} {xs:List RuleS} (h:RulesI w v xs) {k:Nat} {x:RuleS} (hx:xs[k]? =some x):
  ∃g o cap a1 c1 a2 c2 a3 c3 a4 c4,v = .slice (some ⟨g,o,none⟩) xs.length cap/\g<w.heap.size/\RuleI w [.string x.name,.slice a1 x.ins.length c1,.slice a2 x.outs.length c2,.slice a3 x.after.length c3,.slice a4 x.steps.length c4] x/\∀w',Below w.heap.size w w'->
   w'.cell? ⟨g,o+k*5,none⟩=some (.string x.name)/\w'.cell? ⟨g,o+k*5+1,none⟩=some (.slice a1 x.ins.length c1)/\w'.cell? ⟨g,o+k*5+2,none⟩=some (.slice a2 x.outs.length c2)/\w'.cell? ⟨g,o+k*5+3,none⟩=some (.slice a3 x.after.length c3)/\w'.cell? ⟨g,o+k*5+4,none⟩=some (.slice a4 x.steps.length c4):=by
 obtain⟨rows,⟨a,c,rfl,_,_,h2⟩,hall⟩:=h;have hk:k<rows.length:=by rw[hall.1];exact(List.getElem?_eq_some_iff.1 hx).1
 have hR:=hall.2 k _ x (List.getElem?_eq_getElem hk) hx;obtain⟨b,o,rfl,hb,hc⟩:=h2 (by rintro rfl;simp at hk);obtain⟨vi,vo,vf,vs,e,h1,h2,h3,h4⟩:=id hR;obtain⟨a1,c1,q1⟩:=Zue h1;obtain⟨a2,c2,q2⟩:=Zue h2;obtain⟨a3,c3,q3⟩:=Zue h3;obtain⟨a4,c4,q4⟩:=Zbov h4;subst q1 q2 q3 q4;rw[e]at hR;refine⟨b,o,c,a1,c1,a2,c2,a3,c3,a4,c4,by rw[hall.1],hb,hR,λw' hw=>?_⟩;have key:∀(i:Nat) u,rows[k][i]? =some u->w'.cell? ⟨b,o+k*5+i,none⟩=some u:=λi u hu=>(hw.cell (p:=⟨b,o+k*5+i,none⟩) hb).trans (hc k _ (List.getElem?_eq_getElem hk) i u hu)
 rw[e]at key;exact⟨key 0 _ rfl,key 1 _ rfl,key 2 _ rfl,key 3 _ rfl,key 4 _ rfl⟩
theorem Zbou {w:World} {v:Value} {xs:List StepS} (h:StepsI w v xs) {k:Nat} {y:StepS} (hy:xs[k]? =some y):
  ∃b o cap va vl,v = .slice (some ⟨b,o,none⟩) xs.length cap/\IsStrs w va y.args/\IsStrs w vl y.lits/\
   ∀w',Below w.heap.size w w'->w'.cell? ⟨b,o+k*5,none⟩=some (.string y.out)/\w'.cell? ⟨b,o+k*5+1,none⟩=some (.int .i64 y.op)/\w'.cell? ⟨b,o+k*5+2,none⟩=some va/\w'.cell? ⟨b,o+k*5+3,none⟩=some vl/\w'.cell? ⟨b,o+k*5+4,none⟩=some (.int .i64 y.n):=by
 obtain⟨rows,⟨a,c,rfl,_,_,h2⟩,hall⟩:=h;have hk:k<rows.length:=by rw[hall.1];exact(List.getElem?_eq_some_iff.1 hy).1
 obtain⟨va,vl,e,ha,hl⟩:=hall.2 k _ y (List.getElem?_eq_getElem hk) hy;obtain⟨b,o,rfl,hb,hc⟩:=h2 (by rintro rfl;simp at hk);refine⟨b,o,c,va,vl,by rw[hall.1],ha,hl,λw' hw=>?_⟩;have key:∀(i:Nat) u,rows[k][i]? =some u->w'.cell? ⟨b,o+k*5+i,none⟩=some u:=λi u hu=>(hw.cell (p:=⟨b,o+k*5+i,none⟩) hb).trans (hc k _ (List.getElem?_eq_getElem hk) i u hu)
 rw[e]at key;exact⟨key 0 _ rfl,key 1 _ rfl,key 2 _ rfl,key 3 _ rfl,key 4 _ rfl⟩
def OpenV (w:World) (v:Value):Prop:=∀b,v.ownBlock=some b->∀i,w.frozen? ⟨b,i,none⟩=false
theorem OpenV.keep {Av:Nat->Prop} {w w':World} {v:Value} (h:OpenV w v) (hb:∀b,v.ownBlock=some b->b<w.heap.size/\¬Av b) (hf:Fr Av w w'):OpenV w' v:=
 λb e i=>(World.frozen?_of_block (hf.block b (hb b e).1 (hb b e).2)).trans (h b e i)
def StrsO (Av:Nat->Prop) (w:World) (v:Value) (xs:List ByteArray):Prop:=StrsA Av w v xs/\OpenV w v
theorem StrsO.keep {Av:Nat->Prop} {w w':World} {v:Value} {xs:List ByteArray} (h:StrsO Av w v xs) (hf:Fr Av w w'):StrsO Av w' v xs:=⟨RowA.keep h.1 hf,h.2.keep h.1.2 hf⟩
theorem StrsO.mono {Av Av':Nat->Prop} {w:World} {v:Value} {xs:List ByteArray} (h:StrsO Av w v xs) (hm:∀b,b<w.heap.size->Av' b->Av b):StrsO Av' w v xs:=⟨RowA.mono h.1 hm,h.2⟩
section
variable {P:Program} {ops:Array Oper} {Q:Exit->Act->World->Prop} {md:Region.Mode} {S:Bool->World->Prop} {st:Nat}
def wpAnyS (P:Program) (md:Region.Mode) (ops:Array Oper) (Q:Exit->Act->World->Prop) (S:Bool->World->Prop) (st:Nat):Nat->Array Bool->Act->World->Prop
 | 0,listed,a,w=>Region.ready md ops listed = []/\Q .normal a w
 | fuel+1,listed,a,w=>
  (Region.ready md ops listed = []->Q .normal a w)/\
  ∀i∈Region.ready md ops listed,wpOp P ops Q i (λa' w'=>S ((listed.setIfInBounds i true).getD st false) w'/\wpAnyS P md ops Q S st fuel (listed.setIfInBounds i true) a' w') a w
def AllReadyS (P:Program) (md:Region.Mode) (ops:Array Oper) (Q:Exit->Act->World->Prop) (S:Bool->World->Prop) (st fuel:Nat) (listed:Array Bool) (a:Act) (w:World) (rs:List Nat):Prop:=
 ∀i∈rs,wpOp P ops Q i (λa' w'=>S ((listed.setIfInBounds i true).getD st false) w'/\wpAnyS P md ops Q S st fuel (listed.setIfInBounds i true) a' w') a w
theorem AllReadyS.nil {fuel:Nat} {listed:Array Bool} {a:Act} {w:World}:AllReadyS P md ops Q S st fuel listed a w []:=λ_ h=>by cases h
theorem AllReadyS.cons {fuel:Nat} {listed:Array Bool} {a:Act} {w:World} {i:Nat} {o:Oper} {rs:List Nat} {b:Bool} (ho:ops[i]? =some o) (hb:(listed.setIfInBounds i true).getD st false=b)
  (h:∀K':Act->World->Prop,Shut (∀a w,S b w->(S b w->wpAnyS P md ops Q S st fuel (listed.setIfInBounds i true) a w)->K' a w)->if Region.wanted o (yielded ops a.tmps)=true then Oper.wp P o a w K' Q else K' (a.put o.dst undef) w)
  (hs:AllReadyS P md ops Q S st fuel listed a w rs):AllReadyS P md ops Q S st fuel listed a w (i::rs):=λj hj=>by
 rcases List.mem_cons.1 hj with rfl|hj
 ·exact wpOp_step ho (λK' hK=>h K' (λa w hS hW=>hK a w ⟨by rw[hb];exact hS,hW hS⟩))
 ·exact hs j hj
end
end Go.Proofs.YthkehhphnbckaaaGreatDoor
namespace Go.Proofs.YthkehhphnbckaaaGreatDoor
open Go.RowKit Go.Shelf
def Zau (xs:List ByteArray) (s:ByteArray) (r:Int):Prop:=(r = -1/\∀k:Nat,xs[k]? ≠some s)∨∃k:Nat,r=(k:Int)/\xs[k]? =some s/\∀j<k,xs[j]? ≠some s
theorem Zgx {x s:ByteArray} (h:(x.toList==s.toList)=true):x=s:=by
 rw[ByteArray.toList_eq,ByteArray.toList_eq]at h;have:=eq_of_beq h;exact ByteArray.ext (Array.toList_inj.1 this)
theorem Zgz {x s:ByteArray} (h:(x.toList==s.toList)=false):x≠s:=by
 rintro rfl;simp at h
theorem Zua {w:World} {v:Value} {xs:List ByteArray} (h:IsStrs w v xs):∃a c,v = .slice a xs.length c/\xs.length<=c/\c<=maxLen/\∀(k:Nat) x,xs[k]? =some x->∃b o,a=some ⟨b,o,none⟩/\∀w',Below w.heap.size w w'->w'.cell? ⟨b,o+k,none⟩=some (.string x):=by
 obtain⟨a,c,rfl,hlc,hcm,hcell⟩:=h;refine⟨a,c,rfl,hlc,hcm,λk x hx=>?_⟩;obtain⟨b,o,e,hb,hc⟩:=hcell (by rintro rfl;simp at hx);exact⟨b,o,e,λw' hw=>(hw.cell (p:=⟨b,o+k,none⟩) hb).trans (hc k x hx)⟩
def Zon (s:ByteArray):List ByteArray->Nat->Int
 | [],_=> -1
 | y::r,k=>if y.toList==s.toList then(k:Int)else Zon s r (k+1)
def Zoi (xs:List ByteArray) (s:ByteArray):Int:=Zon s xs 0
theorem Zoo (s:ByteArray):∀(xs:List ByteArray) (k:Nat),(Zon s xs k = -1/\∀j:Nat,xs[j]? ≠some s)∨∃j:Nat,Zon s xs k=((k+j:Nat):Int)/\xs[j]? =some s/\∀i<j,xs[i]? ≠some s
 | [],k=> .inl ⟨rfl,λj=>by simp⟩
 | y::r,k=>by
  unfold Zon
  by_cases h:(y.toList==s.toList)=true
  ·rw[if_pos h]
   exact .inr ⟨0,rfl,by rw[Zgx h];rfl,λi hi=>absurd hi (by omega)⟩
  ·rw[if_neg h]
   have hne:y≠s:=Zgz (by simpa using h)
   rcases Zoo s r (k+1)with⟨h1,h2⟩|⟨j,h1,h2,h3⟩
   ·refine .inl ⟨h1,λj=>?_⟩
    cases j with
    | zero=>intro e;exact hne (by simpa using e)
    | succ j=>simpa using h2 j
   ·refine .inr ⟨j+1,by rw[h1];congr 1;omega,by simpa using h2,λi hi=>?_⟩
    cases i with
    | zero=>intro e;exact hne (by simpa using e)
    | succ i=>simpa using h3 i (by omega)
theorem Zom (xs:List ByteArray) (s:ByteArray):Zau xs s (Zoi xs s):=by
 rcases Zoo s xs 0 with h|⟨j,h1,h2,h3⟩
 ·exact .inl h
 ·exact .inr ⟨j,by unfold Zoi;rw[h1];congr 1;omega,h2,h3⟩
theorem Zop {xs:List ByteArray} {s:ByteArray} {r t:Int} (h:Zau xs s r) (h':Zau xs s t):r=t:=by
 rcases h with⟨rfl,h1⟩|⟨k,rfl,h1,h2⟩<;>rcases h' with⟨rfl,h3⟩|⟨j,rfl,h3,h4⟩
 ·rfl
 ·exact absurd h3 (h1 j)
 ·exact absurd h1 (h3 k)
 ·rcases Nat.lt_trichotomy k j with h|h|h
  ·exact absurd h1 (h4 k h)
  ·rw[h]
  ·exact absurd h3 (h2 j h)
def Zly (size k:Nat) (a:Option Addr) (n c:Nat):Value:= .slice (if c=k then a else a.map (·.add (k*size))) (n-k) (c-k)
theorem IsRow.take {w:World} {a:Option Addr} {n c k:Nat} {rows:List (List Value)} (h:IsRow w (.slice a n c) k rows) {m:Nat} (hm:m<=n):IsRow w (.slice a m c) k (rows.take m):=by
 obtain⟨a',c',q,h1,h2,h3⟩:=h;injection q with q1 q2 q3
 subst q1 q3;refine⟨a,c,by rw[List.length_take];congr 1;omega,by rw[List.length_take];omega,h2,λhne=>?_⟩;obtain⟨b,o,ha,hb,hc⟩:=h3 (by rintro rfl;simp at hne);refine⟨b,o,ha,hb,λj x hx=>hc j x ?_⟩;rw[List.getElem?_take]at hx;split at hx
 ·exact hx
 ·cases hx
theorem IsRow.drop {w:World} {a:Option Addr} {n c k:Nat} {rows:List (List Value)} (h:IsRow w (.slice a n c) k rows) {m:Nat} (hm:m<=n):IsRow w (Zly k m a n c) k (rows.drop m):=by
 obtain⟨a',c',q,h1,h2,h3⟩:=h;injection q with q1 q2 q3
 subst q1 q3;refine⟨_,c-m,by unfold Zly;rw[List.length_drop,q2],by rw[List.length_drop];omega,by omega,λhne=>?_⟩;have hlt:m<rows.length:=by
  rcases Nat.lt_or_ge m rows.length with h|h
  ·exact h
  ·rw[List.drop_eq_nil_of_le h]at hne;exact absurd rfl hne
 obtain⟨b,o,ha,hb,hc⟩:=h3 (by rintro rfl;simp at hlt);subst ha;refine⟨b,o+m*k,by rw[if_neg (by omega),Option.map_some,Addr.add_lit],hb,λj r hr i u hu=>?_⟩;rw[List.getElem?_drop]at hr;have:=hc (m+j) r hr i u hu;rw[Nat.add_mul]at this;rw[<-this]
 congr 2
 omega
section
variable {w:World} {ops:Array Oper} {o:Oper} {a:Act} {K:Act->World->Prop} {Q:Exit->Act->World->Prop} {E:Prop}
end
theorem OwnStrs.below {B:Nat} {w w':World} {v:Value} {xs:List ByteArray} (h:OwnStrs B w v xs) (hb:Below w.heap.size w w'):OwnStrs B w' v xs:=World.ownsRow.kept (row:=none) h ⟨hb.os,hb.tape,hb.output,hb.size,λk hk _=>hb.block k hk⟩ (by cases Value.ownBlock _<;>simp)
theorem Zfy {w:World} {g:Nat} {o:Obj} (h:w.heap[g]? =some o):g<w.heap.size:=by
 rcases Nat.lt_or_ge g w.heap.size with h'|h'
 ·exact h'
 ·rw[Array.getElem?_eq_none h']at h;cases h
end Go.Proofs.YthkehhphnbckaaaGreatDoor
namespace Go.Proofs.YthkehhphnbckaaaGreatDoor
open Go.RowKit
theorem Zbyo (c:UInt8) (w:World):(Go.convert 60 9 (.slice (some ⟨w.heap.size,0,none⟩) 1 1)).run Tryz.prog (w.alloc (.cells #[.int .u8 c.toNat] 5)) = .ok (.string ⟨#[c]⟩) (w.alloc (.cells #[.int .u8 c.toNat] 5)):=
 Lib.run_convert_whole (P:=Tryz.prog) _ 60 5 9 (by kernel_rfl) (by kernel_rfl) (by kernel_rfl) w.heap.size 0 ⟨#[c]⟩ (λi hi=>by
  have:i=0:=by simp[ByteArray.size]at hi;omega
  subst this;rw[World.cell?_alloc_at _ _ _ _ rfl];rfl) 1
def digB (n:Nat):ByteArray:=if n<10 then⟨#[UInt8.ofNat (48+n)]⟩else⟨#[UInt8.ofNat (48+n/10),UInt8.ofNat (48+n % 10)]⟩
set_option maxRecDepth 100000 in
theorem Zbzw (n:Nat) (h:n<10) (w:World):
  Calls Tryz.prog 13 #[.int .i64 n] w λe w'=>e = .returned (.string (digB n))/\Below w.heap.size w w':=by
 have hd:digB n=⟨#[UInt8.ofNat (48+n)]⟩:=by unfold digB;rw[if_pos h]
 rw[hd];have hc:=Zbyo (UInt8.ofNat (48+n));have hn:(UInt8.ofNat (48+n)).toNat=48+n:=by rw[UInt8.toNat_ofNat'];omega
 rw[hn]at hc;generalize UInt8.ofNat (48+n)=c at *
 push_cast at hc
 have hcw:=hc w;clear hn hd hc
 go_enter Tryz.func13,Tryz.ntmps13
 go_wp2;go_ret;exact⟨rfl,(Below.refl _ _).alloc (Nat.le_refl _) _⟩
open Go.Lib
theorem Zbzx (n:Nat):numS (n:Int)=decDigits n:=by
 unfold numS;rw[Int.max_eq_left (by omega)];unfold itoa;rw[if_neg (by omega)];simp
end Go.Proofs.YthkehhphnbckaaaGreatDoor
namespace Go.Proofs.YthkehhphnbckaaaGreatDoor
open Go.RowKit Go.Shelf
def nmsS (ys:List StepS):List ByteArray:=(ys.map λy=>y.out::y.args).flatten
def nmsR (x:RuleS) (k:Nat):List ByteArray:=[x.name]++x.ins++x.outs++x.after++nmsS (x.steps.take k)
def Zch (xs:List ByteArray):Prop:=∃i j:Nat,j<i/\i<xs.length/\xs[j]? =xs[i]?
def naF (op:Int) (len:Nat):Int:=if op=5 then min (len:Int) 6 else if op=6 then 0 else 1
def nlF (op:Int):Int:=if op=6∨op=7 then 1 else if op=8 then 2 else 0
def MayX (x:StepS):Prop:=(1<=x.op/\x.op<=9)/\(x.args.length:Int)=naF x.op x.args.length/\(x.lits.length:Int)=nlF x.op/\(x.op=8->∀y,x.lits[0]? =some y->(y.toList==([]:List UInt8))=false)/\0<=x.n/\x.n<=2000/\(x.op=9∨x.n=0)/\∀l∈x.lits,l.size<=100
def Zav (x:RuleS):Prop:=(∀y∈nmsR x x.steps.length,Zbcf y.data.toList=true)/\(∀(j:Nat) y,x.steps[j]? =some y->MayX y)/\(0:Int)<(x.outs.length:Int)
def Zbdi (x:RuleS) (k:Nat):List ByteArray:=(x.steps.take k).map StepS.out
def BigX (x:RuleS):Prop:=(8:Int)<(x.ins.length:Int)∨(4:Int)<(x.outs.length:Int)∨(8:Int)<(x.after.length:Int)∨(12:Int)<(x.steps.length:Int)
def Zcd (x:RuleS) (k:Nat) (y:StepS):Prop:=Zoi x.ins y.out<0/\Zoi (Zbdi x k) y.out<0/\∀a∈y.args,¬(Zoi x.ins a<0/\Zoi (Zbdi x k) a<0)
def Zbj (x:RuleS):Prop:=¬Zch x.ins/\¬Zch x.outs/\¬Zch x.after/\Zoi x.after x.name<0/\(∀(k:Nat) y,x.steps[k]? =some y->Zcd x k y)/\∀a∈x.outs,Zoi x.ins a<0/\0<=Zoi (Zbdi x x.steps.length) a
def RuleC (x:RuleS) (c:Int):Prop:=(¬Zav x/\c=1)∨(Zav x/\BigX x/\c=4)∨(Zav x/\¬BigX x/\¬Zbj x/\c=2)∨(Zav x/\¬BigX x/\Zbj x/\c=0)
theorem RuleC.one {x:RuleS} {c d:Int} (h:RuleC x c) (h':RuleC x d):c=d:=by
 rcases h with⟨a,rfl⟩|⟨a,b,rfl⟩|⟨a,b,e,rfl⟩|⟨a,b,e,rfl⟩<;>rcases h' with⟨a',rfl⟩|⟨a',b',rfl⟩|⟨a',b',e',rfl⟩|⟨a',b',e',rfl⟩<;>first|rfl|contradiction
open Go.Lib
abbrev ValT:=Bool×ByteArray
def noV:ValT:=(false,⟨#[]⟩)
def capV (t:List UInt8):ValT:=if t.length<=2000 then(true,⟨t.toArray⟩)else noV
def litT (x:StepS) (i:Nat):List UInt8:=(x.lits.getD i ⟨#[]⟩).data.toList
def Zox:List ByteArray->Bool
 | []=>true
 | y::_=> !(y.toList==([]:List UInt8))
def mayB (x:StepS):Bool:=decide (1<=x.op/\x.op<=9)&&decide ((x.args.length:Int)=naF x.op x.args.length)&&decide ((x.lits.length:Int)=nlF x.op)&&(decide (x.op≠8)||Zox x.lits)&&decide (0<=x.n/\x.n<=2000) &&
 (decide (x.op=9)||decide (x.n=0))&&x.lits.all λl=>decide (l.size<=100)
theorem Zyt (x:StepS):mayB x=true↔MayX x:=by
 unfold mayB MayX;simp only[Bool.and_eq_true,decide_eq_true_eq,Bool.or_eq_true,List.all_eq_true];have e:(x.op≠8∨Zox x.lits=true)↔(x.op=8->∀y,x.lits[0]? =some y->(y.toList==([]:List UInt8))=false):=by
  by_cases h:x.op=8
  ·cases hl:x.lits with
   | nil=>simp[Zox]
   | cons y r=>simp[Zox,h]
  ·simp[h]
 rw[e];constructor
 ·rintro⟨⟨⟨⟨⟨⟨a,b⟩,c⟩,d⟩,f⟩,g⟩,i⟩;exact⟨a,b,c,d,f.1,f.2,g,i⟩
 ·rintro⟨a,b,c,d,f1,f2,g,i⟩;exact⟨⟨⟨⟨⟨⟨a,b⟩,c⟩,d⟩,⟨f1,f2⟩⟩,g⟩,i⟩
def doT (x:StepS) (b:List (List UInt8)):Option (List UInt8):=
 if x.op=2 then(if b.headD [] = []then none else some (b.headD []))
 else if x.op=3 then some (Zul (srtL (Zxl (b.headD []))))
 else if x.op=4 then some (itoa ((Zxl (b.headD [])).length:Int) ++ [10])
 else if x.op=5 then some b.flatten
 else if x.op=6 then some (litT x 0)
 else if x.op=7 then some (Zul ((Zxl (b.headD [])).filter λl=>contains l (litT x 0)))
 else if x.op=8 then some (Zbhc (litT x 0) (litT x 1) (b.headD []))
 else if x.op=9 then some ((b.headD []).take x.n.toNat)
 else some (b.headD [])
def outV:Option (List UInt8)->ValT
 | none=>noV
 | some t=>capV t
def doV (x:StepS) (vs:List ValT):ValT:=
 if (mayB x&&decide (vs.length=x.args.length)&&vs.all (·.1))=true then outV (doT x (vs.map (·.2.data.toList)))else noV
def Zbbt (v:ValT):ValT:=if v.1=true then v else noV
theorem Zok {xs:List ByteArray} {s:ByteArray}:Zoi xs s<0↔s∉xs:=by
 rcases Zom xs s with⟨h,h1⟩|⟨k,h,h1,_⟩
 ·rw[h];exact⟨λ_ hm=>by obtain⟨j,hj⟩:=List.getElem?_of_mem hm;exact h1 j hj,λ_=>by decide⟩
 ·rw[h];exact⟨λe=>absurd e (by omega),λe=>absurd (List.mem_of_getElem? h1) e⟩
theorem Zoj {xs:List ByteArray} {s:ByteArray}:0<=Zoi xs s↔s∈xs:=by
 have:=@Zok xs s;constructor
 ·intro h;exact Classical.byContradiction λe=>by have:=this.2 e;omega
 ·intro h;exact Int.not_lt.1 λe=>this.1 e h
theorem Zol {xs:List ByteArray} {s:ByteArray} {k:Nat} (h:xs[k]? =some s) (h2:∀j<k,xs[j]? ≠some s):Zoi xs s=(k:Int):=
 Zop (Zom xs s) (.inr ⟨k,rfl,h,h2⟩)
def setE (e:ByteArray->ValT) (k:ByteArray) (v:ValT):ByteArray->ValT:=λn=>if n=k then v else e n
def byE:List ByteArray->List ValT->(ByteArray->ValT)->ByteArray->ValT
 | k::ks,v::vs,e=>byE ks vs (setE e k v)
 | _,_,e=>e
def Zbom:List StepS->(ByteArray->ValT)->(ByteArray->ValT)
 | [],e=>e
 | s::l,e=>Zbom l (setE e s.out (doV s (s.args.map λa=>Zbbt (e a))))
def runP (r:RuleS) (ins:List ValT):List ValT:=if ins.length≠r.ins.length then []else r.outs.map λo=>Zbbt (Zbom r.steps (byE r.ins ins λ_=>noV) o)
end Go.Proofs.YthkehhphnbckaaaGreatDoor
