import Derived.Lib.ReplaceLaws
import Derived.Lib.SplitLaws
import Derived.Deep.AppendLies
import Derived.Deep.RegionHeld3
import Derived.Test.YtcpjfpdecklkgaaGreatDoorMae
import Derived.Test.YtcpjfpdecklkgaaGreatDoorMao
import Derived.Deep.DeepCutAuto
namespace Go.Proofs.YtcpjfpdecklkgaaGreatDoor
open Go.Proofs.Tryz
open Go.Lib
def Zxf:List UInt8->List UInt8->List (List UInt8)
 | acc,[]=>if acc = []then []else [acc]
 | acc,c::r=>if c=10 then acc::Zxf [] r else Zxf (acc ++ [c]) r
def Zxl (s:List UInt8):List (List UInt8):=Zxf [] s
def Zul (l:List (List UInt8)):List UInt8:=(l.map (· ++ [10])).flatten
theorem Zxg:∀(a acc b:List UInt8),(10:UInt8)∉a->Zxf acc (a++10::b)=(acc++a)::Zxl b
 | [],acc,b,_=>by simp[Zxf,Zxl]
 | c::a,acc,b,h=>by
  have hc:c≠10:=λe=>h (by simp[e])
  have ha:(10:UInt8)∉a:=λe=>h (by simp[e])
  rw[List.cons_append,Zxf,if_neg hc,Zxg a (acc ++ [c]) b ha];simp
theorem Zxh:∀(s acc:List UInt8),(10:UInt8)∉s->Zxf acc s=if acc++s = []then []else [acc++s]
 | [],acc,_=>by simp[Zxf]
 | c::a,acc,h=>by
  have hc:c≠10:=λe=>h (by simp[e])
  have ha:(10:UInt8)∉a:=λe=>h (by simp[e])
  rw[Zxf,if_neg hc,Zxh a (acc ++ [c]) ha];simp
theorem Zxm {a b:List UInt8} (h:(10:UInt8)∉a):Zxl (a++10::b)=a::Zxl b:=by
 unfold Zxl;rw[Zxg a [] b h];simp[Zxl]
theorem Zxn {s:List UInt8} (h:(10:UInt8)∉s) (hn:s≠[]):Zxl s = [s]:=by
 unfold Zxl;rw[Zxh s [] h];simp[hn]
theorem Zxo:Zxl [] = []:=rfl
theorem Zxr {P:List UInt8->Prop} (h0:P []) (h1:∀s,(10:UInt8)∉s->s≠[]->P s) (h2:∀a b,(10:UInt8)∉a->P b->P (a++10::b)) (s:List UInt8):P s:=by
 suffices H:∀n,∀s:List UInt8,s.length<=n->P s from H s.length s (Nat.le_refl _)
 intro n
 induction n with
 | zero=>intro s hs;have:s = []:=List.eq_nil_of_length_eq_zero (by omega);subst this;exact h0
 | succ n ih=>
  intro s hs
  rcases Zoz 10 s with h|⟨a,b,rfl,h⟩
  ·by_cases hn:s = []
   ·subst hn;exact h0
   ·exact h1 s h hn
  ·exact h2 a b h (ih b (by simp at hs;omega))
theorem Zun (x:List UInt8) (l:List (List UInt8)):Zul (x::l)=x++10::Zul l:=by simp[Zul]
theorem Zum (l m:List (List UInt8)):Zul (l++m)=Zul l++Zul m:=by simp[Zul]
theorem Zuo (l:List (List UInt8)):(Zul l).length=(l.map List.length).sum+l.length:=by
 induction l with
 | nil=>rfl
 | cons x l ih=>rw[Zun];simp[ih];omega
theorem Zxt (s:List UInt8):((Zxl s).map List.length).sum+(Zxl s).length<=s.length+1:=by
 induction s using Zxr with
 | h0=>simp[Zxo]
 | h1 s h hn=>rw[Zxn h hn];simp
 | h2 a b h ih=>rw[Zxm h];simp;omega
theorem Zxs (s:List UInt8):(Zxl s).length<=s.length:=by
 induction s using Zxr with
 | h0=>simp[Zxo]
 | h1 s h hn=>rw[Zxn h hn];have:=List.length_pos_iff.2 hn;simp;omega
 | h2 a b h ih=>rw[Zxm h];simp;omega
theorem Zxq (s:List UInt8):∀l∈Zxl s,l.length<=s.length:=by
 induction s using Zxr with
 | h0=>simp[Zxo]
 | h1 s h hn=>rw[Zxn h hn];simp
 | h2 a b h ih=>
  rw[Zxm h];intro l hl
  rcases List.mem_cons.1 hl with rfl|hl
  ·simp
  ·have:=ih l hl;simp;omega
def Zbha (old new:List UInt8):Nat->List UInt8->List UInt8
 | 0,s=>s
 | _+1,[]=>[]
 | f+1,c::r=>if old.isPrefixOf (c::r)then new++Zbha old new f ((c::r).drop old.length)else c::Zbha old new f r
def Zbhc (old new s:List UInt8):List UInt8:=Zbha old new s.length s
theorem Zbhb (old new:List UInt8) (ho:old≠[]):∀(f:Nat) (s:List UInt8),s.length<=f->∀f',s.length<=f'->Zbha old new f s=Zbha old new f' s
 | 0,s,h,f',h'=>by
  have:s = []:=List.eq_nil_of_length_eq_zero (by omega);subst this
  cases f'<;>rfl
 | f+1,s,h,f',h'=>by
  cases s with
  | nil=>cases f'<;>rfl
  | cons c r=>
   have hl:0<old.length:=List.length_pos_iff.2 ho
   cases f' with
   | zero=>simp at h'
   | succ f'=>
    unfold Zbha;have e:((c::r).drop old.length).length<=r.length:=by simp;omega
    simp at h h';rw[Zbhb old new ho f _ (by omega) f' (by omega),Zbhb old new ho f r (by omega) f' (by omega)]
theorem Zbhd (old new:List UInt8) (ho:old≠[]) (c:UInt8) (r:List UInt8):Zbhc old new (c::r)=if old.isPrefixOf (c::r)then new++Zbhc old new ((c::r).drop old.length)else c::Zbhc old new r:=by
 have hl:0<old.length:=List.length_pos_iff.2 ho;unfold Zbhc;rw[List.length_cons,Zbha];split
 ·rw[Zbhb old new ho r.length _ (by simp;omega) _ (Nat.le_refl _)]
 ·rfl
theorem Zbhe (old new:List UInt8) (ho:old≠[]) (s:List UInt8) (h:old.isPrefixOf s=true):Zbhc old new s=new++Zbhc old new (s.drop old.length):=by
 cases s with
 | nil=>cases old with
  | nil=>exact absurd rfl ho
  | cons a t=>simp at h
 | cons c r=>rw[Zbhd _ _ ho,if_pos h]
theorem Zbhf (old new:List UInt8) (ho:old≠[]):∀(s:List UInt8) (i:Nat),index s old=(i:Int)->Zbhc old new s=s.take i++new++Zbhc old new (s.drop (i+old.length))
 | [],i,h=>by
  unfold index at h
  cases old with
  | nil=>exact absurd rfl ho
  | cons a t=>simp at h
 | c::r,i,h=>by
  unfold index at h
  by_cases hp:old.isPrefixOf (c::r)=true
  ·rw[if_pos hp]at h
   have:i=0:=by omega
   subst this;rw[Zbhe old new ho _ hp];simp
  ·rw[if_neg hp]at h
   have hge:=index_ge r old
   by_cases hm:index r old = -1
   ·simp[hm]at h
   ·have h':index r old+1=(i:Int):=by simpa[hm]using h
    obtain⟨k,rfl⟩:∃k,i=k+1:=⟨i-1,by omega⟩;rw[Zbhd _ _ ho,if_neg hp,Zbhf old new ho r k (by omega)];simp[Nat.add_right_comm]
theorem Zbhh (old new:List UInt8) (ho:old≠[]):∀(s:List UInt8),index s old = -1->Zbhc old new s=s
 | [],_=>rfl
 | c::r,h=>by
  unfold index at h
  by_cases hp:old.isPrefixOf (c::r)=true
  ·rw[if_pos hp]at h;omega
  ·rw[if_neg hp]at h
   have hge:=index_ge r old
   by_cases hm:index r old = -1
   ·rw[Zbhd _ _ ho,if_neg hp,Zbhh old new ho r hm]
   ·rw[if_neg (by simpa using hm)]at h;omega
theorem Zbhk (old new:List UInt8) (ho:old≠[]):∀(n:Nat) (s:List UInt8),s.length<=n->replaceK old new (count s old) s=Zbhc old new s/\(Zbhc old new s).length+count s old*old.length=s.length+count s old*new.length
 | n,s,hn=>by
  have hl:0<old.length:=List.length_pos_iff.2 ho;have hge:=index_ge s old
  by_cases hm:index s old = -1
  ·rw[count_miss hm,Zbhh old new ho s hm]
   exact⟨rfl,by simp⟩
  ·obtain⟨i,hi⟩:∃i:Nat,index s old=i:=⟨(index s old).toNat,by omega⟩
   have hroom:i+old.length<=s.length:=by
    have hc:contains s old=true:=by unfold contains;rw[decide_eq_true_eq];omega
    have e:=Zbhf old old ho s i hi
    rcases indexB_cases ⟨s.toArray⟩ ⟨old.toArray⟩with hix|⟨j,hj,hr⟩
    ·have:index s old = -1:=hix
     omega
    ·have e2:index s old=(j:Int):=hj
     have:i=j:=by omega
     subst this;have e3:(⟨old.toArray⟩:ByteArray).size=old.length:=by simp[ByteArray.size]
     have e4:(⟨s.toArray⟩:ByteArray).size=s.length:=by simp[ByteArray.size]
     rw[e3,e4]at hr;exact hr
   have hcnt:count s old=1+count (s.drop (i+old.length)) old:=by
    have h:=countB_hit ⟨s.toArray⟩ ⟨old.toArray⟩ i (by simp[ByteArray.size];omega) hi;have e1:countB ⟨s.toArray⟩ ⟨old.toArray⟩=count s old:=rfl;have e2:countB ((⟨s.toArray⟩:ByteArray).extract (i+(⟨old.toArray⟩:ByteArray).size) (⟨s.toArray⟩:ByteArray).size) ⟨old.toArray⟩=count (s.drop (i+old.length)) old:=by
     unfold countB;rw[extract_to_end];rfl
    rw[e1,e2]at h;exact h
   cases n with
   | zero=>omega
   | succ n=>
    have ih:=Zbhk old new ho n (s.drop (i+old.length)) (by simp;omega);rw[hcnt,Nat.add_comm 1,replaceK_hit old new _ s i hi,ih.1,<-Zbhf old new ho s i hi];refine⟨rfl,?_⟩;rw[Zbhf old new ho s i hi];have h2:=ih.2;simp only[List.length_append,List.length_take,List.length_drop,Nat.add_mul,Nat.one_mul]at h2⊢;omega
theorem Zbhi (old:List UInt8) (ho:old≠[]):∀(n:Nat) (s:List UInt8),s.length<=n->Zbhc old old s=s
 | n,[],_=>rfl
 | 0,c::r,h=>by simp at h
 | n+1,c::r,h=>by
  have hl:0<old.length:=List.length_pos_iff.2 ho;simp at h;rw[Zbhd _ _ ho];split
  ·rename_i hp
   obtain⟨t,ht⟩:=List.isPrefixOf_iff_prefix.1 hp;rw[Zbhi old ho n _ (by simp;omega),<-ht];simp
  ·rw[Zbhi old ho n r (by omega)]
theorem Zbhj (old new s:List UInt8) (ho:old≠[]):replaceAll s old new=Zbhc old new s:=by
 unfold replaceAll replace;split
 ·rename_i h
  have:old=new:=beq_iff_eq.1 h;subst this;exact(Zbhi old ho _ s (Nat.le_refl _)).symm
 ·have e:replaceNum s old (-1)=count s old:=by unfold replaceNum;rw[if_pos (Or.inl (by omega))]
  rw[e];exact(Zbhk old new ho _ s (Nat.le_refl _)).1
theorem Zbhg (old new s:List UInt8) (ho:old≠[]):(Zbhc old new s).length+count s old*old.length=s.length+count s old*new.length:=(Zbhk old new ho _ s (Nat.le_refl _)).2
end Go.Proofs.YtcpjfpdecklkgaaGreatDoor
namespace Go.Proofs.YtcpjfpdecklkgaaGreatDoor
open Go.Proofs.Tryz
open Go.RowKit
def RowAt (w:World) (B:Nat) (v:Value) (fs:List F2):Prop:=w.ownsRow B 51 2 v fs.length (Znm fs)
def Apart (v:Value) (b:Nat) (r:Option Nat):Prop:=∀g,v.ownBlock=some g->g≠b/\r≠some g
theorem RowAt.below {w w':World} {B:Nat} {v:Value} {fs:List F2} (h:RowAt w B v fs) (hb:Below w.heap.size w w'):RowAt w' B v fs:=World.ownsRow.kept h (Zrc hb none) (by cases Value.ownBlock v<;>simp)
theorem RowAt.files {w:World} {B:Nat} {v:Value} {fs:List F2} (h:RowAt w B v fs):IsFiles w v fs:=OwnF.files (.inl ⟨h,rfl⟩)
theorem RowAt.new {w:World} {B b:Nat} {v:Value} {fs T:List F2} {r:Option Nat} (h:RowAt w B v fs) (w':World) (ht:IsTree w' w.heap.size b r T):Apart v b r:=by
 intro g hg;have:=World.ownsRow.lt h g hg;obtain⟨h1,h2,_⟩:=ht.rlt;exact⟨by omega,λe=>by have:=(h1 g e).1;omega⟩
theorem IsTree.grown {w w':World} {B b:Nat} {r row:Option Nat} {fs:List F2} (h:IsTree w B b r fs) (hg:w.grownBy w' row) (hb:some b≠row) (hr:r=none∨r≠row):IsTree w' B b r fs:=by
 obtain⟨h1,h2,h3,v,h4,h5⟩:=h;exact⟨h1,h2,h3,v,(hg.block b (block_lt h4) hb).trans h4,h5.kept hg hr⟩
theorem RowAt.after {w w':World} {B b:Nat} {r:Option Nat} {v:Value} {fs T:List F2} (h:RowAt w' w.heap.size v fs) (ht:IsTree w B b r T) (hg:w.grownBy w' none):IsTree w' B b r T/\Apart v b r:=by
 refine⟨ht.grown hg (by simp) (by cases r<;>simp),λg hgv=>?_⟩;have:=World.ownsRow.lt h g hgv;obtain⟨h1,h2,h3⟩:=ht.rlt;exact⟨by omega,λe=>by have:=(h1 g e).2;omega⟩
theorem Apart.tree {w w':World} {B b:Nat} {r:Option Nat} {v:Value} {T:List F2} (h:Apart v b r) (ht:IsTree w B b r T) (hg:w.grownBy w' v.ownBlock):IsTree w' B b r T:=by
 refine ht.grown hg (λe=>(h b e.symm).1 rfl) ?_
 cases r with
 | none=>exact .inl rfl
 | some g=>exact .inr λe=>(h g e.symm).2 rfl
def BothT (wr w:World) (b1 b2:Nat) (r1 r2:Option Nat) (T U:List F2):Prop:=
 ∃B1 B2,IsTree w B1 b1 r1 T/\IsTree w B2 b2 r2 U/\b1<B2/\(∀k,r1=some k->k<B2)/\Below wr.heap.size wr w/\wr.heap.size<=B1/\wr.heap.size<=B2
theorem BothT.below {wr w w':World} {b1 b2:Nat} {r1 r2:Option Nat} {T U:List F2} (h:BothT wr w b1 b2 r1 r2 T U) (hb:Below w.heap.size w w'):BothT wr w' b1 b2 r1 r2 T U:=by
 obtain⟨B1,B2,h1,h2,h3,h4,h5,h6⟩:=h;exact⟨B1,B2,h1.below hb,h2.below hb,h3,h4,h5.trans (hb.mono h5.size),h6⟩
open Go.Shelf
def SmallL (xs:List ByteArray) (m:Nat):Prop:=xs.length<=m/\∀x∈xs,x.size<=m
theorem SmallL.mono {xs:List ByteArray} {m m':Nat} (h:SmallL xs m) (hm:m<=m'):SmallL xs m':=⟨by have:=h.1;omega,λx hx=>by have:=h.2 x hx;omega⟩
def Zcc (w:World) (r:List Value) (x:StepS):Prop:=∃va vl,r = [.string x.out,.int .i64 x.op,va,vl,.int .i64 x.n]/\IsStrs w va x.args/\IsStrs w vl x.lits
def StepsI (w:World) (v:Value) (xs:List StepS):Prop:=∃rows,IsRow w v 5 rows/\AllA (Zcc w) rows xs
def RuleI (w:World) (r:List Value) (x:RuleS):Prop:=∃vi vo vf vs,r = [.string x.name,vi,vo,vf,vs]/\IsStrs w vi x.ins/\IsStrs w vo x.outs/\IsStrs w vf x.after/\StepsI w vs x.steps
def RulesI (w:World) (v:Value) (xs:List RuleS):Prop:=∃rows,IsRow w v 5 rows/\AllA (RuleI w) rows xs
def Zba (n:Int):Prop:= -9223372036854775808<=n/\n<=9223372036854775807
structure SmallS (x:StepS) (m:Nat):Prop where
 out:x.out.size<=m
 args:SmallL x.args m
 lits:SmallL x.lits m
 op:Zba x.op
 n:Zba x.n
structure SmallR (x:RuleS) (m:Nat):Prop where
 name:x.name.size<=m
 ins:SmallL x.ins m
 outs:SmallL x.outs m
 after:SmallL x.after m
 few:x.steps.length<=m
 steps:∀y∈x.steps,SmallS y m
theorem SmallS.mono {x:StepS} {m m':Nat} (h:SmallS x m) (hm:m<=m'):SmallS x m':=⟨Nat.le_trans h.out hm,h.args.mono hm,h.lits.mono hm,h.op,h.n⟩
theorem SmallR.mono {x:RuleS} {m m':Nat} (h:SmallR x m) (hm:m<=m'):SmallR x m':=⟨Nat.le_trans h.name hm,h.ins.mono hm,h.outs.mono hm,h.after.mono hm,Nat.le_trans h.few hm,λy hy=>(h.steps y hy).mono hm⟩
theorem StepsI.below {w w':World} {v:Value} {xs:List StepS} (h:StepsI w v xs) (hb:Below w.heap.size w w'):StepsI w' v xs:=by
 obtain⟨rows,h1,h2⟩:=h;exact⟨rows,h1.below hb,h2.imp λr x h=>by obtain⟨va,vl,rfl,ha,hl⟩:=h;exact⟨va,vl,rfl,ha.below hb,hl.below hb⟩⟩
theorem RuleI.below {w w':World} {r:List Value} {x:RuleS} (h:RuleI w r x) (hb:Below w.heap.size w w'):RuleI w' r x:=by
 obtain⟨vi,vo,vf,vs,rfl,h1,h2,h3,h4⟩:=h;exact⟨vi,vo,vf,vs,rfl,h1.below hb,h2.below hb,h3.below hb,h4.below hb⟩
theorem RuleA.ruleI {Av:Nat->Prop} {w:World} {r:List Value} {x:RuleS} (h:RuleA Av w r x):RuleI w r x:=by
 obtain⟨vi,vo,vf,vs,rfl,h1,h2,h3,rows,h4,h5⟩:=h;exact⟨vi,vo,vf,vs,rfl,h1.isStrs,h2.isStrs,h3.isStrs,rows,h4.1,h5.imp λr x h=>by obtain⟨va,vl,rfl,ha,hl⟩:=h;exact⟨va,vl,rfl,ha.isStrs,hl.isStrs⟩⟩
theorem RulesA.rulesI {Av:Nat->Prop} {w:World} {v:Value} {xs:List RuleS} (h:RulesA Av w v xs):RulesI w v xs:=by
 obtain⟨rows,h1,h2⟩:=h;exact⟨rows,h1.1,h2.imp λr x h=>h.ruleI⟩
theorem RulesI.below {w w':World} {v:Value} {xs:List RuleS} (h:RulesI w v xs) (hb:Below w.heap.size w w'):RulesI w' v xs:=by
 obtain⟨rows,h1,h2⟩:=h;exact⟨rows,h1.below hb,h2.imp λr x h=>h.below hb⟩
theorem Zue {w:World} {v:Value} {xs:List ByteArray} (h:IsStrs w v xs):∃a c,v = .slice a xs.length c:=by
 obtain⟨a,c,rfl,_⟩:=h;exact⟨a,c,rfl⟩
theorem Zbov {w:World} {v:Value} {xs:List StepS} (h:StepsI w v xs):∃a c,v = .slice a xs.length c:=by
 obtain⟨rows,⟨a,c,rfl,_⟩,hall⟩:=h;exact⟨a,c,by rw[hall.1]⟩
theorem Zbjn {w:World} {v:Value} {xs:List RuleS} (h:RulesI w v xs):∃a c,v = .slice a xs.length c/\xs.length<=c/\c<=maxLen:=by
 obtain⟨rows,⟨a,c,rfl,h1,h2,_⟩,hall⟩:=h;rw[<-hall.1];exact⟨a,c,rfl,h1,h2⟩
theorem Zbjm {w:World} {v:Value} {xs:List RuleS} (h:RulesI w v xs) {k:Nat} {x:RuleS} (hx:xs[k]? =some x):
  ∃g o cap a1 c1 a2 c2 a3 c3 a4 c4,v = .slice (some ⟨g,o,none⟩) xs.length cap/\g<w.heap.size/\RuleI w [.string x.name,.slice a1 x.ins.length c1,.slice a2 x.outs.length c2,.slice a3 x.after.length c3,.slice a4 x.steps.length c4] x/\∀w',Below w.heap.size w w'->
   w'.cell? ⟨g,o+k*5,none⟩=some (.string x.name)/\w'.cell? ⟨g,o+k*5+1,none⟩=some (.slice a1 x.ins.length c1)/\w'.cell? ⟨g,o+k*5+2,none⟩=some (.slice a2 x.outs.length c2)/\w'.cell? ⟨g,o+k*5+3,none⟩=some (.slice a3 x.after.length c3)/\w'.cell? ⟨g,o+k*5+4,none⟩=some (.slice a4 x.steps.length c4):=by
 obtain⟨rows,⟨a,c,rfl,_,_,h2⟩,hall⟩:=h;have hk:k<rows.length:=by rw[hall.1];exact(List.getElem?_eq_some_iff.1 hx).1
 have hR:=hall.2 k _ x (List.getElem?_eq_getElem hk) hx;obtain⟨b,o,rfl,hb,hc⟩:=h2 (by rintro rfl;simp at hk);obtain⟨vi,vo,vf,vs,e,h1,h2,h3,h4⟩:=id hR;obtain⟨a1,c1,q1⟩:=Zue h1;obtain⟨a2,c2,q2⟩:=Zue h2;obtain⟨a3,c3,q3⟩:=Zue h3;obtain⟨a4,c4,q4⟩:=Zbov h4;subst q1 q2 q3 q4;rw[e]at hR;refine⟨b,o,c,a1,c1,a2,c2,a3,c3,a4,c4,by rw[hall.1],hb,hR,λw' hw=>?_⟩;have key:∀(i:Nat) u,rows[k][i]? =some u->w'.cell? ⟨b,o+k*5+i,none⟩=some u:=λi u hu=>(hw.cell (p:=⟨b,o+k*5+i,none⟩) hb).trans (hc k _ (List.getElem?_eq_getElem hk) i u hu)
 rw[e]at key;exact⟨key 0 _ rfl,key 1 _ rfl,key 2 _ rfl,key 3 _ rfl,key 4 _ rfl⟩
structure ShortR (x:RuleS):Prop where
 ins:x.ins.length<=10
 outs:x.outs.length<=6
 after:x.after.length<=10
 steps:x.steps.length<=14
 each:∀y∈x.steps,y.args.length<=8/\y.lits.length<=3
theorem Zbou {w:World} {v:Value} {xs:List StepS} (h:StepsI w v xs) {k:Nat} {y:StepS} (hy:xs[k]? =some y):
  ∃b o cap va vl,v = .slice (some ⟨b,o,none⟩) xs.length cap/\IsStrs w va y.args/\IsStrs w vl y.lits/\
   ∀w',Below w.heap.size w w'->w'.cell? ⟨b,o+k*5,none⟩=some (.string y.out)/\w'.cell? ⟨b,o+k*5+1,none⟩=some (.int .i64 y.op)/\w'.cell? ⟨b,o+k*5+2,none⟩=some va/\w'.cell? ⟨b,o+k*5+3,none⟩=some vl/\w'.cell? ⟨b,o+k*5+4,none⟩=some (.int .i64 y.n):=by
 obtain⟨rows,⟨a,c,rfl,_,_,h2⟩,hall⟩:=h;have hk:k<rows.length:=by rw[hall.1];exact(List.getElem?_eq_some_iff.1 hy).1
 obtain⟨va,vl,e,ha,hl⟩:=hall.2 k _ y (List.getElem?_eq_getElem hk) hy;obtain⟨b,o,rfl,hb,hc⟩:=h2 (by rintro rfl;simp at hk);refine⟨b,o,c,va,vl,by rw[hall.1],ha,hl,λw' hw=>?_⟩;have key:∀(i:Nat) u,rows[k][i]? =some u->w'.cell? ⟨b,o+k*5+i,none⟩=some u:=λi u hu=>(hw.cell (p:=⟨b,o+k*5+i,none⟩) hb).trans (hc k _ (List.getElem?_eq_getElem hk) i u hu)
 rw[e]at key;exact⟨key 0 _ rfl,key 1 _ rfl,key 2 _ rfl,key 3 _ rfl,key 4 _ rfl⟩
def OpenV (w:World) (v:Value):Prop:=∀b,v.ownBlock=some b->∀i,w.frozen? ⟨b,i,none⟩=false
theorem Zbcv {w:World} {B e size:Nat} {v:Value} {n:Nat} {xs:List Value} (h:w.ownsRow B e size v n xs):OpenV w v:=by
 intro b hb i
 rcases h.2 with⟨rfl,_⟩|⟨g,cap,cur,rfl,_,hg,_⟩
 ·cases hb
 ·cases hb
  simp[World.frozen?,hg]
theorem Zbcu (w:World) (n c:Nat):OpenV w (.slice none n c):=λb hb=>by cases hb
theorem OpenV.keep {Av:Nat->Prop} {w w':World} {v:Value} (h:OpenV w v) (hb:∀b,v.ownBlock=some b->b<w.heap.size/\¬Av b) (hf:Fr Av w w'):OpenV w' v:=
 λb e i=>(World.frozen?_of_block (hf.block b (hb b e).1 (hb b e).2)).trans (h b e i)
def StrsO (Av:Nat->Prop) (w:World) (v:Value) (xs:List ByteArray):Prop:=StrsA Av w v xs/\OpenV w v
theorem StrsO.keep {Av:Nat->Prop} {w w':World} {v:Value} {xs:List ByteArray} (h:StrsO Av w v xs) (hf:Fr Av w w'):StrsO Av w' v xs:=⟨RowA.keep h.1 hf,h.2.keep h.1.2 hf⟩
def StrsW (Av:Nat->Prop) (w:World) (v:Value) (xs:List ByteArray):Prop:=StrsO Av w v xs/\w.ownsRow 0 9 1 v xs.length (xs.map Value.string)
theorem Zckk {w w':World} {B e size:Nat} {v:Value} {n:Nat} {xs:List Value} (h:w.ownsRow B e size v n xs) (hb:∀b,v.ownBlock=some b->w'.heap[b]? =w.heap[b]?):w'.ownsRow B e size v n xs:=by
 obtain⟨hl,h⟩:=h;refine⟨hl,?_⟩
 rcases h with h|⟨g,c,cur,rfl,h1,hg,r⟩
 ·exact .inl h
 ·exact .inr ⟨g,c,cur,rfl,h1,(hb g rfl).trans hg,r⟩
theorem Zckl {w:World} {B e size:Nat} {v:Value} {n:Nat} {xs:List Value} (h:w.ownsRow B e size v n xs):w.ownsRow 0 e size v n xs:=Zbdt h (Nat.zero_le _)
theorem StrsW.keep {Av:Nat->Prop} {w w':World} {v:Value} {xs:List ByteArray} (h:StrsW Av w v xs) (hf:Fr Av w w'):StrsW Av w' v xs:=⟨StrsO.keep h.1 hf,Zckk h.2 λb e=>hf.block b (h.1.1.2 b e).1 (h.1.1.2 b e).2⟩
theorem StrsO.mono {Av Av':Nat->Prop} {w:World} {v:Value} {xs:List ByteArray} (h:StrsO Av w v xs) (hm:∀b,b<w.heap.size->Av' b->Av b):StrsO Av' w v xs:=⟨RowA.mono h.1 hm,h.2⟩
theorem StrsW.mono {Av Av':Nat->Prop} {w:World} {v:Value} {xs:List ByteArray} (h:StrsW Av w v xs) (hm:∀b,b<w.heap.size->Av' b->Av b):StrsW Av' w v xs:=⟨StrsO.mono h.1 hm,h.2⟩
theorem Zbkf {w:World} {ty:TypeId} {v:Value} {xs:List ByteArray} (h:IsStrs w v xs) (hn:xs.length<=1048576):
  ∃a n c w',(Builtin.append_ #[29,29] ty #[.slice none 0 0,v]).run prog w = .ok (.slice a n c) w'/\StrsW (λb=>b<w.heap.size) w' (.slice a n c) xs/\w.grownBy w' none:=by
 obtain⟨i0,hi,hz0,hz1,hz2⟩:=Zsv Zsy;obtain⟨a,c,rfl,hlc,hcm,hcell⟩:=h
 by_cases he:xs = []
 ·subst he
  cases a with
  | none=>
   refine⟨none,0,0,w,?_,⟨⟨Zbqd _ _,Zbcu _ _ _⟩,World.ownsRow_nil _ _ _ _⟩,⟨rfl,rfl,rfl,Nat.le_refl _,λ_ _ _=>rfl⟩⟩;simp[Builtin.append_,run_underlying underlying29,sizeOf,typeInfo,hi,Builtin.lenOf,Builtin.firstCells]
  | some ad=>
   obtain⟨v',w',hr,h2,h3,_⟩:=run_append_own (P:=prog) w w.heap.size 29 ty 9 i0 (.string ByteArray.empty) 1 16 underlying29 hi hz0 hz1 hz2 rfl (by decide) (.slice none 0 0) 0 [] (World.ownsRow_nil _ _ _ _) ad 0 c [] rfl (by simp) (by simp) (by unfold maxLen;omega) (by omega) (Nat.le_refl _);obtain⟨aa,ca,rfl,_⟩:=Zbea h2;exact⟨aa,_,ca,w',hr,⟨⟨Zbqf (xs:=[]) (by simpa using h2),Zbcv h2⟩,Zckl (by simpa using h2)⟩,h3⟩
 ·obtain⟨b,o,rfl,hb,hc⟩:=hcell he
  obtain⟨v',w',hr,h2,h3,_⟩:=run_append_own (P:=prog) w w.heap.size 29 ty 9 i0 (.string ByteArray.empty) 1 16 underlying29 hi hz0 hz1 hz2 rfl (by decide) (.slice none 0 0) 0 [] (World.ownsRow_nil _ _ _ _) ⟨b,o,none⟩ xs.length c (xs.map Value.string) (by simp) (λj u hj=>by
   rw[List.getElem?_map]at hj;obtain⟨x,hx,rfl⟩:=Option.map_eq_some_iff.1 hj;have:=hc j x hx;simp only[Addr.add];split
   ·rename_i hj0;rw[hj0]at this;simpa using this
   ·exact this) (λu hu=>by obtain⟨x,_,rfl⟩:=List.mem_map.1 hu;rfl) (by unfold maxLen;omega) (by omega) (Nat.le_refl _)
  obtain⟨aa,ca,rfl,_⟩:=Zbea h2;exact⟨aa,_,ca,w',hr,⟨⟨Zbqf (by simpa using h2),Zbcv h2⟩,Zckl (by simpa using h2)⟩,h3⟩
theorem Zbod {ops:Array Oper} {o:Oper} {a:Act} {w:World} {K:Act->World->Prop} {Q:Exit->Act->World->Prop} {E:Prop} (hgd:o.guard=none) (s x:Operand)
  (ho:o.op = .call { callee:= .builtin .append,args:=#[s,x],argTypes:=#[29,29] }) {v:Value} {xs:List ByteArray} (hs:a.eval s = .slice none 0 0) (hx:a.eval x=v) (hI:IsStrs w v xs) (hn:xs.length<=1048576)
  (h:∀a' n c w',StrsW (λb=>b<w.heap.size) w' (.slice a' n c) xs->w.grownBy w' none->K (a.put o.dst (.slice a' n c)) w'):
  if Region.wanted o (yielded ops a.tmps)=true then Oper.wp prog o a w K Q else E:=by
 have hw:Region.wanted o (yielded ops a.tmps)=true:=by simp[Region.wanted,hgd]
 rw[if_pos hw];obtain⟨a',n,c,w',hr,h1,h2⟩:=Zbkf (ty:=o.type) hI hn;unfold Oper.wp execOp;simp only[ho,resolve,invoke,builtin,Sem.run_bind,Sem.run_pure,Result.andThen_ok,List.map_toArray,List.map_cons,List.map_nil,hs,hx,hr];exact h a' n c w' h1 h2
theorem Zfj {B:Nat} {w0 w w':World} (h:Below B w0 w) (hg:w.grownBy w' none) (hB:B<=w.heap.size):Below B w0 w':=h.grown hg hB (λk e=>by cases e)
def Zbsp (md:Region.Mode) (ops:Array Oper) (i:Nat):Nat->Nat->Bool
 | 0,_=>false
 | f+1,j=>match ops[j]? with
  | none=>false
  | some o=>o.after.any λe=>Region.binds md e&&(e.on==i||Zbsp md ops i f e.on)
def Zaj (md:Region.Mode) (ops:Array Oper) (L:Array Bool):Prop:=∀(j:Nat) (o:Oper),ops[j]? =some o->L.getD j false=true->∀e∈o.after,Region.binds md e=true->L.getD e.on false=true
def Zjk (md:Region.Mode) (ops:Array Oper) (L:Array Bool):Bool:=(List.range ops.size).all λj=> !L.getD j false||match ops[j]? with
 | some o=>o.after.all λe=> !Region.binds md e||L.getD e.on false
 | none=>true
section
variable {P:Program} {ops:Array Oper} {Q:Exit->Act->World->Prop} {md:Region.Mode} {S:Bool->World->Prop} {st:Nat}
theorem Zjl {L:Array Bool} (h:Zjk md ops L=true):Zaj md ops L:=by
 intro j o ho hl e he hb;have hj:j<ops.size:=(Array.getElem?_eq_some_iff.1 ho).1;have:=List.all_eq_true.1 h j (List.mem_range.2 hj);simp only[hl,Bool.not_true,Bool.false_or,ho,Array.all_eq_true_iff_forall_mem]at this;have:=this e he;simpa[hb]using this
theorem Zqf {L:Array Bool} {i:Nat} (h:L.getD i true=false):L.getD i false=false:=by
 rw[Array.getD_eq_getD_getElem?]at h⊢
 cases h2:L[i]? with
 | none=>rfl
 | some b=>rw[h2]at h;exact h
theorem Zjn {L:Array Bool} {i:Nat} (h:Zaj md ops L):∀(f j:Nat),Zbsp md ops i f j=true->L.getD j false=true->L.getD i false=true
 | 0,_,hw,_=>by simp[Zbsp]at hw
 | f+1,j,hw,hl=>by
  unfold Zbsp at hw
  cases ho:ops[j]? with
  | none=>rw[ho]at hw;cases hw
  | some o=>
   rw[ho]at hw
   dsimp only at hw
   rw[<-Array.any_toList]at hw;obtain⟨e,he,hp⟩:=List.any_eq_true.1 hw;simp only[Bool.and_eq_true,Bool.or_eq_true,beq_iff_eq]at hp;have he:=Array.mem_toList_iff.1 he;obtain⟨hb,h1|h1⟩:=hp
   ·rw[<-h1];exact h j o ho hl e he hb
   ·exact Zjn h f e.on h1 (h j o ho hl e he hb)
theorem Zjm {L:Array Bool} {i:Nat} (h:Zaj md ops L) (hi:i∈Region.ready md ops L):Zaj md ops (L.setIfInBounds i true):=by
 intro j o ho hl e he hb;refine getD_set_true ?_;obtain⟨h1,oi,hoi,hall⟩:=mem_ready.1 hi
 by_cases hji:j=i
 ·subst hji
  rw[ho]at hoi;injection hoi with hoi
  subst hoi;exact hall e he hb
 ·rw[getD_set_ne false (Ne.symm hji)]at hl
  exact h j o ho hl e he hb
def wpAnyS (P:Program) (md:Region.Mode) (ops:Array Oper) (Q:Exit->Act->World->Prop) (S:Bool->World->Prop) (st:Nat):Nat->Array Bool->Act->World->Prop
 | 0,listed,a,w=>Region.ready md ops listed = []/\Q .normal a w
 | fuel+1,listed,a,w=>
  (Region.ready md ops listed = []->Q .normal a w)/\
  ∀i∈Region.ready md ops listed,wpOp P ops Q i (λa' w'=>S ((listed.setIfInBounds i true).getD st false) w'/\wpAnyS P md ops Q S st fuel (listed.setIfInBounds i true) a' w') a w
theorem Zbua:∀(fuel:Nat) (listed:Array Bool) (a:Act) (w:World),wpAnyS P md ops Q S st fuel listed a w->wpAny P md ops Q fuel listed a w
 | 0,_,_,_,h=>h
 | fuel+1,_,_,_,h=>⟨h.1,λi hi=>wpOp_mono (λa' w' h'=>Zbua fuel _ a' w' h'.2) (h.2 i hi)⟩
theorem wpAnyS_first {i:Nat} {oi:Oper} {v:Value} (hi:ops[i]? =some oi) (hsel:∀(j:Nat) (o:Oper) cs b,ops[j]? =some o->o.op≠.select cs b)
  (hQ:∀c a w,Q (.panic c) (a.put oi.dst v) w->Q (.panic c) a w) (hne:i≠st) (f:Nat) (hwt:Zbsp md ops i f st=true):
  ∀(fuel:Nat) (listed:Array Bool) (a:Act) (w:World),Zaj md ops listed->
   (∀j oj,ops[j]? =some oj->j≠i->listed.getD j true=false->(∀e∈oj.after,Region.binds md e=true->e.on≠i)->oi.apart ops oj=true)->
   i∈Region.ready md ops listed->YieldsIf P ops (S false) oi v a->S false w->listed.getD st false=false->
   wpAnyS P md ops Q S st fuel (listed.setIfInBounds i true) (a.put oi.dst v) w->wpAnyS P md ops Q S st (fuel+1) listed a w:=by
 intro fuel
 induction fuel with
 | zero=>
  intro listed a w _ _ hr hy hS hL H;refine⟨λh=>(by rw[h]at hr;cases hr),λj hj=>?_⟩
  by_cases hji:j=i
  ·subst hji;exact hy.wpOp hi hS ⟨by rw[getD_set_ne false hne,hL];exact hS,H⟩
  ·have:=ready_mono hj hji
   rw[H.1]at this
   cases this
 | succ fuel ih=>
  intro listed a w hcl hfree hr hy hS hL H;refine⟨λh=>(by rw[h]at hr;cases hr),λj hj=>?_⟩
  by_cases hji:j=i
  ·subst hji;exact hy.wpOp hi hS ⟨by rw[getD_set_ne false hne,hL];exact hS,H⟩
  ·have h1:=H.2 j (ready_mono hj hji)
   obtain⟨hjun,oj,hoj,hall⟩:=mem_ready.1 hj;have hnot:∀e∈oj.after,Region.binds md e=true->e.on≠i:=λe he hb heq=>by
    have h1:=hall e he hb;have h0:=(mem_ready.1 hr).1;rw[heq]at h1
    rcases Nat.lt_or_ge i listed.size with h'|h'
    ·simp[h']at h0 h1;rw[h0]at h1;cases h1
    ·simp[Array.getElem?_eq_none h']at h1
   have h2:=wpOp_putIf hoj (hfree j oj hoj hji hjun hnot) (λcs b=>hsel i oi cs b hi) (λcs b=>hsel j oj cs b hoj) hQ hy h1;have hfree':∀k ok,ops[k]? =some ok->k≠i->(listed.setIfInBounds j true).getD k true=false->
     (∀e∈ok.after,Region.binds md e=true->e.on≠i)->oi.apart ops ok=true:=λk ok hk hki hun hno=>by
    refine hfree k ok hk hki ?_ hno
    by_cases hjk:j=k
    ·subst hjk;exact hjun
    ·rw[getD_set_ne true hjk]at hun;exact hun
   have hcl':=Zjm hcl hj;have hri:i∈Region.ready md ops (listed.setIfInBounds j true):=ready_mono hr (Ne.symm hji);have hst:(listed.setIfInBounds j true).getD st false=false:=by
    cases hx:(listed.setIfInBounds j true).getD st false with
    | false=>rfl
    | true=>
     exfalso
     have h3:=Zjn hcl' f st hwt hx;rw[Zqf (mem_ready.1 hri).1]at h3
     cases h3
   have hst2:((listed.setIfInBounds i true).setIfInBounds j true).getD st false=false:=by
    rw[Array.setIfInBounds_comm _ _ (Ne.symm hji),getD_set_ne false hne];exact hst
   refine wpOp_mono (λa' w' h3=>?_) h2;have h4:=h3.2.1;rw[hst2]at h4;refine⟨by rw[hst];exact h4,ih (listed.setIfInBounds j true) a' w' hcl' hfree' hri h3.1 h4 hst ?_⟩;rw[Array.setIfInBounds_comm _ _ hji];exact h3.2.2
theorem Zbtw {i:Nat} {oi:Oper} {v:Value} (hi:ops[i]? =some oi) (hsel:∀(j:Nat) (o:Oper) cs b,ops[j]? =some o->o.op≠.select cs b)
  (hQ:∀c a w,Q (.panic c) (a.put oi.dst v) w->Q (.panic c) a w) (hne:i≠st):
  ∀(fuel:Nat) (listed:Array Bool) (a:Act) (w:World),S (listed.getD st false) w->
   (∀j oj,ops[j]? =some oj->j≠i->listed.getD j true=false->(∀e∈oj.after,Region.binds md e=true->e.on≠i)->oi.apart ops oj=true)->
   i∈Region.ready md ops listed->YieldsIf P ops (λw=>∃b,S b w) oi v a->
   wpAnyS P md ops Q S st fuel (listed.setIfInBounds i true) (a.put oi.dst v) w->wpAnyS P md ops Q S st (fuel+1) listed a w:=by
 intro fuel
 induction fuel with
 | zero=>
  intro listed a w hS _ hr hy H;refine⟨λh=>(by rw[h]at hr;cases hr),λj hj=>?_⟩
  by_cases hji:j=i
  ·subst hji;exact hy.wpOp hi ⟨_,hS⟩ ⟨by rw[getD_set_ne false hne];exact hS,H⟩
  ·have:=ready_mono hj hji
   rw[H.1]at this
   cases this
 | succ fuel ih=>
  intro listed a w hS hfree hr hy H;refine⟨λh=>(by rw[h]at hr;cases hr),λj hj=>?_⟩
  by_cases hji:j=i
  ·subst hji;exact hy.wpOp hi ⟨_,hS⟩ ⟨by rw[getD_set_ne false hne];exact hS,H⟩
  ·have h1:=H.2 j (ready_mono hj hji)
   obtain⟨hjun,oj,hoj,hall⟩:=mem_ready.1 hj;have hnot:∀e∈oj.after,Region.binds md e=true->e.on≠i:=λe he hb heq=>by
    have h1:=hall e he hb;have h0:=(mem_ready.1 hr).1;rw[heq]at h1
    rcases Nat.lt_or_ge i listed.size with h'|h'
    ·simp[h']at h0 h1;rw[h0]at h1;cases h1
    ·simp[Array.getElem?_eq_none h']at h1
   have h2:=wpOp_putIf hoj (hfree j oj hoj hji hjun hnot) (λcs b=>hsel i oi cs b hi) (λcs b=>hsel j oj cs b hoj) hQ hy h1;have hfree':∀k ok,ops[k]? =some ok->k≠i->(listed.setIfInBounds j true).getD k true=false->
     (∀e∈ok.after,Region.binds md e=true->e.on≠i)->oi.apart ops ok=true:=λk ok hk hki hun hno=>by
    refine hfree k ok hk hki ?_ hno
    by_cases hjk:j=k
    ·subst hjk;exact hjun
    ·rw[getD_set_ne true hjk]at hun;exact hun
   have hri:i∈Region.ready md ops (listed.setIfInBounds j true):=ready_mono hr (Ne.symm hji);have hst2:((listed.setIfInBounds i true).setIfInBounds j true).getD st false=(listed.setIfInBounds j true).getD st false:=by
    rw[Array.setIfInBounds_comm _ _ (Ne.symm hji),getD_set_ne false hne]
   refine wpOp_mono (λa' w' h3=>?_) h2;have hS':S ((listed.setIfInBounds j true).getD st false) w':=by rw[<-hst2];exact h3.2.1
   refine⟨hS',ih (listed.setIfInBounds j true) a' w' hS' hfree' hri h3.1 ?_⟩;rw[Array.setIfInBounds_comm _ _ hji];exact h3.2.2
theorem Zbty {i f:Nat} {oi:Oper} {v:Value} {fuel:Nat} {listed:Array Bool} {a:Act} {w:World} (hi:ops[i]? =some oi)
  (hs:Region.noSelect ops=true) (hcl:Zjk md ops listed=true) (hwt:Zbsp md ops i f st=true) (hne:(i==st)=false) (hf:Region.free md ops listed i=true) (hr:(Region.ready md ops listed).contains i=true)
  (hQ:∀c a w,Q (.panic c) (a.put oi.dst v) w->Q (.panic c) a w) (hL:listed.getD st false=false) (hy:YieldsIf P ops (S false) oi v a) (hS:S false w)
  (h:wpAnyS P md ops Q S st fuel (listed.setIfInBounds i true) (a.put oi.dst v) w):wpAnyS P md ops Q S st (fuel+1) listed a w:=
 wpAnyS_first hi (Region.noSelect_spec hs) hQ (by simpa using hne) f hwt fuel listed a w (Zjl hcl) (Region.free_spec hi hf) (by simpa using hr) hy hS hL h
theorem Zbtz {i:Nat} {oi:Oper} {v:Value} {fuel:Nat} {listed:Array Bool} {a:Act} {w:World} (hi:ops[i]? =some oi)
  (hs:Region.noSelect ops=true) (hne:(i==st)=false) (hf:Region.free md ops listed i=true) (hr:(Region.ready md ops listed).contains i=true)
  (hQ:∀c a w,Q (.panic c) (a.put oi.dst v) w->Q (.panic c) a w) {b:Bool} (hb:listed.getD st false=b) (hy:YieldsIf P ops (λw=>∃b,S b w) oi v a) (hS:S b w)
  (h:wpAnyS P md ops Q S st fuel (listed.setIfInBounds i true) (a.put oi.dst v) w):wpAnyS P md ops Q S st (fuel+1) listed a w:=
 Zbtw hi (Region.noSelect_spec hs) hQ (by simpa using hne) fuel listed a w (hb▸hS) (Region.free_spec hi hf) (by simpa using hr) hy h
theorem Zbtu {listed:Array Bool} {a:Act} {w:World} (hr:Region.ready md ops listed = []) (h:Q .normal a w):∀fuel,wpAnyS P md ops Q S st fuel listed a w
 | 0=>⟨hr,h⟩
 | _+1=>⟨λ_=>h,by rw[hr];simp⟩
theorem Zbuk {id:Nat} {a:Act} {w:World} (hm:P.follows .mixedOrders=true) (hS:S false w.drew)
  (h:S false w.drew->wpAnyS P .any ops Q S st ops.size (Array.replicate ops.size false) a w.drew):(Code.region id ops true).wp P Q a w:=
 wp_region_any hm (Zbua _ _ _ _ (h hS))
def AllReadyS (P:Program) (md:Region.Mode) (ops:Array Oper) (Q:Exit->Act->World->Prop) (S:Bool->World->Prop) (st fuel:Nat) (listed:Array Bool) (a:Act) (w:World) (rs:List Nat):Prop:=
 ∀i∈rs,wpOp P ops Q i (λa' w'=>S ((listed.setIfInBounds i true).getD st false) w'/\wpAnyS P md ops Q S st fuel (listed.setIfInBounds i true) a' w') a w
theorem AllReadyS.nil {fuel:Nat} {listed:Array Bool} {a:Act} {w:World}:AllReadyS P md ops Q S st fuel listed a w []:=λ_ h=>by cases h
theorem AllReadyS.cons {fuel:Nat} {listed:Array Bool} {a:Act} {w:World} {i:Nat} {o:Oper} {rs:List Nat} {b:Bool} (ho:ops[i]? =some o) (hb:(listed.setIfInBounds i true).getD st false=b)
  (h:∀K':Act->World->Prop,Shut (∀a w,S b w->(S b w->wpAnyS P md ops Q S st fuel (listed.setIfInBounds i true) a w)->K' a w)->if Region.wanted o (yielded ops a.tmps)=true then Oper.wp P o a w K' Q else K' (a.put o.dst undef) w)
  (hs:AllReadyS P md ops Q S st fuel listed a w rs):AllReadyS P md ops Q S st fuel listed a w (i::rs):=λj hj=>by
 rcases List.mem_cons.1 hj with rfl|hj
 ·exact wpOp_step ho (λK' hK=>h K' (λa w hS hW=>hK a w ⟨by rw[hb];exact hS,hW hS⟩))
 ·exact hs j hj
theorem Zbtx {rs:List Nat} {fuel:Nat} {listed:Array Bool} {a:Act} {w:World} (hr:Region.ready md ops listed=rs) (hne:rs≠[])
  (h:AllReadyS P md ops Q S st fuel listed a w rs):wpAnyS P md ops Q S st (fuel+1) listed a w:=
 ⟨λh0=>absurd (hr▸h0) hne,hr▸h⟩
end
end Go.Proofs.YtcpjfpdecklkgaaGreatDoor
