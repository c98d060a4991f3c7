import Derived.Shelf.Sort.AssemblysIn
import Derived.Shelf.Slices.In.SortNone
import Derived.Sort.EveryDepth
import Derived.Sort.OwnSorted
import Derived.Test.YtokogjhcidkckaaGreatDoorMak
import Derived.Laws.OwnMore
import Derived.Deep.RegionHeld3
import Derived.Lib.Bytealg
import Derived.Deep.AppendLies
import Derived.Deep.DeepCutAuto
namespace Go.Proofs.YtokogjhcidkckaaGreatDoor
open Go.Lib (hid)
open Go.Proofs.Tryz
open Go.RowKit Go.Shelf Go.Sort
def OwnStrs (B:Nat) (w:World) (v:Value) (xs:List ByteArray):Prop:=w.ownsRow B 9 1 v xs.length (xs.map Value.string)
def Zah (w:World) (xs:List ByteArray) (e:Ending) (w':World):Prop:=∃v,e = .returned v/\((xs = []/\v = .slice none 0 0)∨(∃g c,v = .slice (some ⟨g,0,none⟩) xs.length c/\OwnStrs w.heap.size w' v xs))/\Below w.heap.size w w'
theorem Zbqh {Av:Nat->Prop} {w:World} {v:Value} {xs:List ByteArray} (h:StrsA Av w v xs):∃a c,v = .slice a xs.length c/\xs.length<=c/\c<=maxLen/\(xs≠[]->∃b o,a=some ⟨b,o,none⟩/\b<w.heap.size/\∀(j:Nat) x,xs[j]? =some x->w.cell? ⟨b,o+j,none⟩=some (.string x)):=by
 obtain⟨⟨a,c,rfl,h1,h2,h3⟩,_⟩:=h;rw[Zbpo]at h1;refine⟨a,c,by rw[Zbpo],h1,h2,λhne=>?_⟩;obtain⟨b,o,ha,hb,hc⟩:=h3 (by intro e;apply hne;have:=congrArg List.length e;rw[Zbpo]at this;exact List.eq_nil_of_length_eq_zero this);refine⟨b,o,ha,hb,λj x hx=>?_⟩;have:=hc j [.string x] (by unfold Zbpk;rw[List.getElem?_map,hx];rfl) 0 (.string x) rfl;simpa using this
theorem StrsA.isStrs {Av:Nat->Prop} {w:World} {v:Value} {xs:List ByteArray} (h:StrsA Av w v xs):IsStrs w v xs:=Zbqh h
set_option maxHeartbeats 2000000 in
set_option maxRecDepth 100000 in
theorem Zjh (v:Value) (xs:List ByteArray) (w:World) (h:IsStrs w v xs) (hn:xs.length<=8796093022208):
  Calls prog 89 #[v] w (Zah w xs):=by
 obtain⟨a,c,rfl,h1,h1m,h2⟩:=h;obtain⟨i0,hi,hz0,hz1,hz2⟩:=info_parts Zsy
 cases a with
 | none=>
  have hfs:xs = []:=by
   rcases xs with _|⟨f,fs⟩
   ·rfl
   ·obtain⟨b,o,ha,_⟩:=h2 (by simp)
    cases ha
  subst hfs;have hq:∀w,(Go.binOp .eql 47 (.slice none 0 c) (.slice none 0 0)).run prog w = .ok (.bool true) w:=λw=>Lib.run_eql_slice_nil w 47 9 none 0 c 0 0 underlying47
  go_enter func89,ntmps89
  go_wp2;go_ret;exact⟨_,rfl,.inl ⟨rfl,rfl⟩,Below.refl _ _⟩
 | some ad=>
  obtain⟨ab,ao,asp⟩:=ad;have hq:∀w,(Go.binOp .eql 47 (.slice (some ⟨ab,ao,asp⟩) xs.length c) (.slice none 0 0)).run prog w = .ok (.bool false) w:=λw=>Lib.run_eql_slice_nil w 47 9 _ _ _ _ _ underlying47
  have hcells:∀j u,(xs.map Value.string)[j]? =some u->w.cell? ((⟨ab,ao,asp⟩:Addr).add j)=some u:=by
   intro j u hu;rw[List.getElem?_map]at hu;obtain⟨x,hx,rfl⟩:=Option.map_eq_some_iff.1 hu;obtain⟨b,o,ha,_,hc⟩:=h2 (by rintro rfl;simp at hx)
   cases ha
   rw[Addr.add_lit];exact hc j x hx
  have HC:=hid hcells;clear hcells h2
  go_enter func89,ntmps89
  go_wp2_with (at_builtin;refine wpList_append_own _ rfl _ _ 47 rfl w.heap.size 9 i0 _ 1 16 underlying47 hi hz0 hz1 hz2 rfl (by decide) _ _ _ rfl (World.ownsRow_made w #[] 0 (Nat.le_refl _) (Nat.zero_le _) (by simp)) ⟨ab,ao,asp⟩ xs.length c (xs.map Value.string) rfl ?qc1 ?qc2 ?qc3 ?qc4 ?qc5 ?qc6 ?_)
  case qc1=>simp
  case qc2=>
   intro j u hj;exact Lib.cell?_alloc_some _ (HC.out j u hj)
  case qc3=>
   intro u hu;obtain⟨x,_,rfl⟩:=List.mem_map.1 hu;rfl
  case qc4=>unfold maxLen;omega
  case qc5=>omega
  case qc6=>simp
  intro v' w1 hown hgrow hnil;go_wp2;go_ret;have hb:Below w.heap.size w w1:=((Below.refl _ w).alloc (Nat.le_refl _) _).grown hgrow (by simp) (by intro k hk;simp[Value.ownBlock]at hk;omega);refine⟨_,rfl,?_,hb⟩;have hown':OwnStrs w.heap.size w1 v' xs:=by unfold OwnStrs;simpa using hown
  rcases hown'.2 with⟨hv,h0⟩|⟨g,cap,cur,hv,_⟩
  ·exact .inl ⟨List.eq_nil_of_length_eq_zero h0,hv⟩
  ·exact .inr ⟨g,cap,hv,hown'⟩
theorem Zmp (xs:List ByteArray):(xs.map (·.data.toList)).map encStr=xs.map Value.string:=by
 rw[List.map_map];exact List.map_congr_left λx _=>by simp[encStr]
theorem Zmq (xs:List ByteArray):(srtL (xs.map (·.data.toList))).map encStr=(srtB xs).map Value.string:=by
 unfold srtB;rw[List.map_map];exact List.map_congr_left λx _=>by simp[encStr]
theorem e190:nmRen.f 190=96:=by kernel_rfl
set_option maxRecDepth 100000 in
theorem Zbmi (B g c:Nat) (xs:List ByteArray) (w:World) (h:OwnStrs B w (.slice (some ⟨g,0,none⟩) xs.length c) xs) (hn:xs.length<=8796093022208):
  Calls prog 96 #[.slice (some ⟨g,0,none⟩) xs.length c] w λe w'=>e = .returned (.tuple #[])/\OwnStrs B w' (.slice (some ⟨g,0,none⟩) xs.length c) (srtB xs)/\w.grownBy w' (some g):=by
 obtain⟨hl,⟨hv,_⟩|⟨g',cap',cur,hv,hbase,hb,h1,h2,h3,h4⟩⟩:=h
 ·cases hv
 cases hv
 have hsl:(xs.map (·.data.toList)).length=xs.length:=by simp
 have hH:Holds encStr w g 0 (xs.map (·.data.toList)).toArray:=holds_of_block hb (by rw[hsl,Zmp];simpa using h4);have hgl:g<w.heap.size:=(Array.getElem?_eq_some_iff.1 hb).1;have hz:(xs.map (·.data.toList)).length<4611686018427387904:=by rw[hsl];omega
 have hd:=λD:Nat=>AnyS.slices_Sort_string_in lLays_n190 D g 0 c (xs.map (·.data.toList)) w hH hgl hz
 have hc:=calls_of_every_depth hd;rw[e190,hsl]at hc;refine hc.mono ?_;rintro e w' ⟨rfl,n,os,rfl⟩;refine⟨rfl,?_,grownBy_sorted _⟩;have:=ownsRow_sorted (n:=n) (os:=os) (ts:=srtL (xs.map (·.data.toList))) (ss:=xs.map (·.data.toList)) (cap:=c) (Zbnc _) hbase hb (by rw[hsl];exact h1) h2 h3;rw[Zmq,hsl]at this;unfold OwnStrs;rw[Zbnb];exact this
theorem Zbmj (a:Option Addr) (c:Nat) (w:World):Calls prog 96 #[.slice a 0 c] w λe w'=>e = .returned (.tuple #[])/\w'=w:=
 by
 have:=Any.slices_Sort_string_none lLays_n190 a c w
 rwa [e190]at this
theorem Zbid {Av:Nat->Prop} {w:World} {v:Value} {k:Nat} {rows:List (List Value)} (h:RowA Av w v k rows):∃a c,v = .slice a rows.length c/\rows.length<=c/\c<=maxLen:=by
 obtain⟨⟨a,c,rfl,h1,h2,_⟩,_⟩:=h;exact⟨a,c,rfl,h1,h2⟩
def OwnSteps (B:Nat) (w:World) (v:Value) (xs:List StepS):Prop:=∃rows,w.ownsRow B 60 5 v rows.length rows.flatten/\AllA (StepA (AvOf B v) w) rows xs
theorem OwnSteps.below {B:Nat} {w w':World} {v:Value} {xs:List StepS} (h:OwnSteps B w v xs) (hb:Below w.heap.size w w'):OwnSteps B w' v xs:=by
 obtain⟨rows,h1,h2⟩:=h;exact⟨rows,World.ownsRow.kept (row:=none) h1 ⟨hb.os,hb.tape,hb.output,hb.size,λk hk _=>hb.block k hk⟩ (by cases h:Value.ownBlock _<;>simp),h2.imp λr x h=>h.keep (Zpv hb)⟩
theorem OwnSteps.fr {B:Nat} {w w':World} {v:Value} {xs:List StepS} {Av:Nat->Prop} (h:OwnSteps B w v xs) (hf:Fr Av w w') (h1:∀b,Av b->AvOf B v b) (h2:∀b,v.ownBlock=some b->¬Av b):OwnSteps B w' v xs:=by
 obtain⟨rows,hr,ha⟩:=h;refine⟨rows,?_,ha.imp λr x h=>h.keep (hf.mono λb _ e=>h1 b e)⟩;refine⟨hr.1,?_⟩
 rcases hr.2 with hn|⟨g,cap,cur,rfl,hb,hg,rest⟩
 ·exact .inl hn
 ·exact .inr ⟨g,cap,cur,rfl,hb,(hf.block g (Array.getElem?_eq_some_iff.1 hg).1 (h2 g rfl)).trans hg,rest⟩
theorem OwnSteps.len {B:Nat} {w:World} {v:Value} {xs:List StepS} (h:OwnSteps B w v xs):∃a c,v = .slice a xs.length c:=by
 obtain⟨rows,h1,h2⟩:=h
 rcases h1.2 with⟨rfl,h0⟩|⟨g,cap,cur,rfl,_⟩
 ·exact⟨none,0,by rw[<-h2.1,h0]⟩
 ·exact⟨_,cap,by rw[h2.1]⟩
theorem OwnSteps.lt {B:Nat} {w:World} {v:Value} {xs:List StepS} (h:OwnSteps B w v xs):∀b,v.ownBlock=some b->B<=b/\b<w.heap.size:=by
 obtain⟨rows,h1,_⟩:=h;exact λb e=>h1.lt b e
theorem Zjj {w:World} {xs:List ByteArray} {e:Ending} {w':World} (h:Zah w xs e w'):∃a n c,e = .returned (.slice a n c)/\StrsA (λb=>b<w.heap.size) w' (.slice a n c) xs/\Below w.heap.size w w':=by
 obtain⟨v,rfl,hv,hb⟩:=h
 rcases hv with⟨rfl,rfl⟩|⟨g,c,rfl,ho⟩
 ·exact⟨_,_,_,rfl,Zbie _ _ _,hb⟩
 ·exact⟨_,_,_,rfl,Zbqf (t:=9) ho,hb⟩
theorem Zboi {Av:Nat->Prop} {w:World} {v:Value} {xs:List StepS} (h:StepsA Av w v xs):∃a c,v = .slice a xs.length c/\xs.length<=c/\c<=maxLen:=by
 obtain⟨rows,hrow,hall⟩:=h;rw[<-hall.1];exact Zbid hrow
def OwnRules (B:Nat) (w:World) (v:Value) (xs:List RuleS):Prop:=∃rows,w.ownsRow B 50 5 v rows.length rows.flatten/\AllA (RuleA (AvOf B v) w) rows xs
theorem Zbxk (B:Nat) (w:World):OwnRules B w (.slice none 0 0) []:=⟨[],⟨rfl,.inl ⟨rfl,rfl⟩⟩,AllA.nil _⟩
theorem OwnRules.below {B:Nat} {w w':World} {v:Value} {xs:List RuleS} (h:OwnRules B w v xs) (hb:Below w.heap.size w w'):OwnRules B w' v xs:=by
 obtain⟨rows,h1,h2⟩:=h;exact⟨rows,World.ownsRow.kept (row:=none) h1 ⟨hb.os,hb.tape,hb.output,hb.size,λk hk _=>hb.block k hk⟩ (by cases h:Value.ownBlock _<;>simp),h2.imp λr x h=>h.keep (Zpv hb)⟩
theorem OwnRules.fr {B:Nat} {w w':World} {v:Value} {xs:List RuleS} {Av:Nat->Prop} (h:OwnRules B w v xs) (hf:Fr Av w w') (h1:∀b,Av b->AvOf B v b) (h2:∀b,v.ownBlock=some b->¬Av b):OwnRules B w' v xs:=by
 obtain⟨rows,hr,ha⟩:=h;refine⟨rows,?_,ha.imp λr x h=>h.keep (hf.mono λb _ e=>h1 b e)⟩;refine⟨hr.1,?_⟩
 rcases hr.2 with hn|⟨g,cap,cur,rfl,hb,hg,rest⟩
 ·exact .inl hn
 ·exact .inr ⟨g,cap,cur,rfl,hb,(hf.block g (Array.getElem?_eq_some_iff.1 hg).1 (h2 g rfl)).trans hg,rest⟩
theorem OwnRules.len {B:Nat} {w:World} {v:Value} {xs:List RuleS} (h:OwnRules B w v xs):∃a c,v = .slice a xs.length c:=by
 obtain⟨rows,h1,h2⟩:=h
 rcases h1.2 with⟨rfl,h0⟩|⟨g,cap,cur,rfl,_⟩
 ·exact⟨none,0,by rw[<-h2.1,h0]⟩
 ·exact⟨_,cap,by rw[h2.1]⟩
theorem OwnRules.rulesA {B:Nat} {w:World} {v:Value} {xs:List RuleS} (h:OwnRules B w v xs):RulesA (λb=>b<B) w v xs:=by
 obtain⟨rows,h1,h2⟩:=h;exact⟨rows,Zbif h1 (h2.len λr x h=>h.len),h2.imp λr x h=>h.mono λb _ e=> .inl e⟩
theorem OwnRules.lt {B:Nat} {w:World} {v:Value} {xs:List RuleS} (h:OwnRules B w v xs):∀b,v.ownBlock=some b->B<=b/\b<w.heap.size:=by
 obtain⟨rows,h1,_⟩:=h;exact λb e=>h1.lt b e
theorem Zbuh {w:World} {ops:Array Oper} {rest:List Oper} {o:Oper} {a:Act} {Q:Exit->Act->World->Prop} (hgd:o.guard=none) (s x:Operand)
  (ho:o.op = .call { callee:= .builtin .append,args:=#[s,x],argTypes:=#[22,22] })
  (B:Nat) (v:Value) (xs:List RuleS) (y:RuleS) (a1 a2 a3 a4:Option Addr) (n1 c1 n2 c2 n3 c3 n4 c4:Nat) (hs:a.eval s=v) (hown:OwnRules B w v xs) (hB:B<=w.heap.size) (hn:xs.length<=1000000000)
  (hrl:RuleA (AvOf B v) w [.string y.name,.slice a1 n1 c1,.slice a2 n2 c2,.slice a3 n3 c3,.slice a4 n4 c4] y)
  (gx:Nat) (hx:a.eval x = .slice (some ⟨gx,0,none⟩) 1 1) (hgx:gx=w.heap.size)
  (h:∀v' w',OwnRules B w' v' (xs ++ [y])->Below B w w'->Fr (λb=>v.ownBlock=some b) w w'->(∀b,v'.ownBlock=some b->v.ownBlock=some b∨w.heap.size<=b)->wpList prog ops Q rest (a.put o.dst v') w'):
  wpList prog ops Q (o::rest) a (w.alloc (.cells #[.string y.name,.slice a1 n1 c1,.slice a2 n2 c2,.slice a3 n3 c3,.slice a4 n4 c4] 50)):=by
 subst hgx;obtain⟨i0,hi,hz0,hz1,hz2⟩:=Zsv Zsw;obtain⟨rows,h1,h2⟩:=hown;have hrl2:=h2.1;have hfa:=Zpu (AvOf B v) w (.cells #[.string y.name,.slice a1 n1 c1,.slice a2 n2 c2,.slice a3 n3 c3,.slice a4 n4 c4] 50);refine Zbue _ hgd s x 22 ho B 50 i0 (.agg #[.string ByteArray.empty,.slice none 0 0,.slice none 0 0,.slice none 0 0,.slice none 0 0]) 5 112 underlying22 hi hz0 hz1 hz2 rfl (by decide) v rows.length rows.flatten hs (h1.alloc _) ⟨w.heap.size,0,none⟩ 1 1 [.string y.name,.slice a1 n1 c1,.slice a2 n2 c2,.slice a3 n3 c3,.slice a4 n4 c4] hx rfl ?_ ?_ (by decide) ?_ ?_ ?_ ?_
 ·intro j u hj
  match j,hj with
  | 0,hj=>simp at hj;subst hj;simp[Addr.add]
  | 1,hj=>simp at hj;subst hj;simp[Addr.add]
  | 2,hj=>simp at hj;subst hj;simp[Addr.add]
  | 3,hj=>simp at hj;subst hj;simp[Addr.add]
  | 4,hj=>simp at hj;subst hj;simp[Addr.add]
 ·intro u hu;simp at hu;rcases hu with rfl|rfl|rfl|rfl|rfl<;>rfl
 ·unfold maxLen;omega
 ·omega
 ·simp;omega
 ·intro v' w' ho' hg hnew
  have h3:AllA (RuleA (AvOf B v) w) (rows ++ [[.string y.name,.slice a1 n1 c1,.slice a2 n2 c2,.slice a3 n3 c3,.slice a4 n4 c4]]) (xs ++ [y]):=h2.snoc hrl;have h4:=Zqx (B:=B) (v':=v') (h3.imp λr x h=>h.keep hfa) hg (λb hb=>(hnew b hb).imp id λe=>Nat.le_trans (by simp) e);refine h v' w' ⟨_,?_,h4⟩ (((Below.refl B w).alloc hB _).grown hg (by simp;omega) (λb hb=>(h1.lt b hb).1)) ((Zpu _ w _).trans (Zpx hg λk e=>e)) (λb hb=>(hnew b hb).imp id λe=>Nat.le_trans (by simp) e);rw[List.length_append,List.flatten_append];simpa using ho'
def Zbz (w:World) (ys:List RuleS) (e:Ending) (w':World):Prop:=∃a n c,e = .returned (.slice a n c)/\OwnRules w.heap.size w' (.slice a n c) ys/\Below w.heap.size w w'
open Go.Lib
theorem Zjz:∀a b:List UInt8,compareBytes a b=0->a=b
 | [],[],_=>rfl
 | [],_::_,h=>by simp[compareBytes]at h
 | _::_,[],h=>by simp[compareBytes]at h
 | a::az,b::bs,h=>by
  unfold compareBytes at h;split at h
  ·cases h
  ·split at h
   ·cases h
   ·rename_i h1 h2
    have:a=b:=UInt8.toNat_inj.1 (by rw[UInt8.lt_iff_toNat_lt]at h1 h2;omega);rw[this,Zjz az bs h]
theorem Zjv:∀a b:List UInt8,compareBytes b a = -compareBytes a b
 | [],[]=>rfl
 | [],_::_=>rfl
 | _::_,[]=>rfl
 | a::az,b::bs=>by
  unfold compareBytes
  by_cases h1:a<b
  ·have h2:¬b<a:=by rw[UInt8.lt_iff_toNat_lt]at h1⊢;omega
   rw[if_pos h1,if_neg h2,if_pos h1];rfl
  ·by_cases h2:b<a
   ·rw[if_pos h2,if_neg h1,if_pos h2]
   ·rw[if_neg h2,if_neg h1,if_neg h1,if_neg h2,Zjv az bs]
theorem Zjy:∀a b c:List UInt8,compareBytes a b<0->compareBytes b c<0->compareBytes a c<0
 | [],[],_,h,_=>by simp[compareBytes]at h
 | [],_::_,[],_,h=>by simp[compareBytes]at h
 | [],_::_,_::_,_,_=>by simp[compareBytes]
 | _::_,[],_,h,_=>by simp[compareBytes]at h
 | _::_,_::_,[],_,h=>by simp[compareBytes]at h
 | a::az,b::bs,c::cs,h1,h2=>by
  unfold compareBytes at h1 h2⊢;simp only[UInt8.lt_iff_toNat_lt]at h1 h2⊢
  by_cases hab:a.toNat<b.toNat
  ·by_cases hbc:b.toNat<c.toNat
   ·rw[if_pos (by omega)];decide
   ·rw[if_neg hbc]at h2
    by_cases hcb:c.toNat<b.toNat
    ·rw[if_pos hcb]at h2;exact absurd h2 (by decide)
    ·rw[if_pos (by omega)];decide
  ·rw[if_neg hab]at h1
   by_cases hba:b.toNat<a.toNat
   ·rw[if_pos hba]at h1;exact absurd h1 (by decide)
   ·rw[if_neg hba]at h1
    by_cases hbc:b.toNat<c.toNat
    ·rw[if_pos (by omega)];decide
    ·rw[if_neg hbc]at h2
     by_cases hcb:c.toNat<b.toNat
     ·rw[if_pos hcb]at h2;exact absurd h2 (by decide)
     ·rw[if_neg hcb]at h2
      rw[if_neg (by omega),if_neg (by omega)];exact Zjy az bs cs h1 h2
def cmpF (f:ByteArray×ByteArray) (x:ByteArray):Int:=compareBytes f.1.data.toList x.data.toList
def Zcwl (fs:List (ByteArray×ByteArray)):Prop:=fs.Pairwise λf g=>cmpF f g.1<0
end Go.Proofs.YtokogjhcidkckaaGreatDoor
namespace Go.Proofs.YtokogjhcidkckaaGreatDoor
open Go.Lib (hid)
open Go.Proofs.Tryz
open Go.RowKit
def IsFiles (w:World) (v:Value) (fs:List F2):Prop:=
 ∃a c,v = .slice a fs.length c/\fs.length<=c/\c<=maxLen/\(fs≠[]->∃b o,a=some ⟨b,o,none⟩/\b<w.heap.size/\∀(j:Nat) x,fs[j]? =some x->w.cell? ⟨b,o+j*2,none⟩=some (.string x.1)/\w.cell? ⟨b,o+j*2+1,none⟩=some (.string x.2))
theorem IsFiles.below {w w':World} {v:Value} {fs:List F2} (h:IsFiles w v fs) (hb:Below w.heap.size w w'):IsFiles w' v fs:=by
 obtain⟨a,c,rfl,h1,h1m,h2⟩:=h;refine⟨a,c,rfl,h1,h1m,λhne=>?_⟩;obtain⟨b,o,rfl,h3,h4⟩:=h2 hne;exact⟨b,o,rfl,Nat.lt_of_lt_of_le h3 hb.size,λj x hx=>⟨(hb.cell h3).trans (h4 j x hx).1,(hb.cell h3).trans (h4 j x hx).2⟩⟩
theorem Zno (fs:List F2):∀(j:Nat) (x:F2),fs[j]? =some x->(Znm fs)[j*2]? =some (.string x.1)/\(Znm fs)[j*2+1]? =some (.string x.2):=by
 induction fs with
 | nil=>intro j x h;simp at h
 | cons f fs ih=>
  intro j x h;rw[Znp]
  cases j with
  | zero=>simp at h;subst h;simp
  | succ j=>rw[Nat.add_mul];simpa using ih j x (by simpa using h)
theorem OwnF.files {w:World} {B:Nat} {r:Option Nat} {v:Value} {fs:List F2} (h:OwnF w B r v fs):IsFiles w v fs:=by
 rcases h with⟨hown,rfl⟩|⟨rfl,rfl,a,rfl⟩
 ·obtain⟨hl,⟨rfl,h0⟩|⟨g,c,cur,rfl,hgB,hg,hnc,hcm,hcs,htk⟩⟩:=hown
  ·obtain rfl:=List.eq_nil_of_length_eq_zero h0
   exact⟨none,0,rfl,by simp,by simp[maxLen],λh=>absurd rfl h⟩
  ·refine⟨_,c,rfl,hnc,hcm,λ_=>⟨g,0,rfl,?_,λj x hx=>?_⟩⟩
   ·rcases Nat.lt_or_ge g w.heap.size with h|h
    ·exact h
    ·rw[Array.getElem?_eq_none h]at hg;cases hg
   ·have key:∀(t:Nat) u,(Znm fs)[t]? =some u->w.cell? ⟨g,t,none⟩=some u:=by
     intro t u hu;rw[<-htk,List.getElem?_take]at hu;split at hu
     ·simp only[World.cell?,hg];simpa using hu
     ·cases hu
    have:=Zno fs j x hx;rw[Nat.zero_add];exact⟨key _ _ this.1,key _ _ this.2⟩
 ·exact⟨a,0,rfl,by simp,by simp[maxLen],λh=>absurd rfl h⟩
theorem Zkg (a b:ByteArray) (w:World):Calls prog 126 #[.string a,.string b] w λe w'=>e = .returned (.int .i64 (Lib.compareBytes a.data.toList b.data.toList))/\w'=w:=
 Any.strings_Compare lLays_n106 a b w
def IsTree (w:World) (B b:Nat) (r:Option Nat) (fs:List F2):Prop:=
 B<=b/\Zcwl fs/\fs.length<=60/\∃v,w.heap[b]? =some (.cells #[v] 188 (0,0))/\OwnF w B r v fs
theorem OwnF.kept {w w':World} {B:Nat} {r row:Option Nat} {v:Value} {fs:List F2} (h:OwnF w B r v fs) (hg:w.grownBy w' row) (hne:r=none∨r≠row):OwnF w' B r v fs:=by
 rcases h with⟨hown,rfl⟩|⟨rfl,rfl,a,rfl⟩
 ·exact .inl ⟨hown.kept hg hne,rfl⟩
 ·exact .inr ⟨rfl,rfl,a,rfl⟩
theorem OwnF.shape {w:World} {B:Nat} {r:Option Nat} {v:Value} {fs:List F2} (h:OwnF w B r v fs):∃a c,v = .slice a fs.length c/\fs.length<=c/\c<=maxLen:=by
 obtain⟨a,c,hv,h1,h2,_⟩:=h.files;exact⟨a,c,hv,h1,h2⟩
theorem OwnF.lt {w:World} {B:Nat} {r:Option Nat} {v:Value} {fs:List F2} (h:OwnF w B r v fs) {k:Nat} (hk:r=some k):B<=k/\k<w.heap.size:=by
 rcases h with⟨hown,rfl⟩|⟨rfl,rfl,a,rfl⟩
 ·exact hown.lt k hk
 ·cases hk
theorem block_lt {w:World} {b:Nat} {o:Obj} (h:w.heap[b]? =some o):b<w.heap.size:=by
 rcases Nat.lt_or_ge b w.heap.size with h'|h'
 ·exact h'
 ·rw[Array.getElem?_eq_none h']at h;cases h
theorem Zrc {w w':World} (h:Below w.heap.size w w') (row:Option Nat):w.grownBy w' row:=⟨h.os,h.tape,h.output,h.size,λk hk _=>h.block k hk⟩
theorem IsTree.below {w w':World} {B b:Nat} {r:Option Nat} {fs:List F2} (h:IsTree w B b r fs) (hb:Below w.heap.size w w'):IsTree w' B b r fs:=by
 obtain⟨h1,h2,h3,v,h4,h5⟩:=h;exact⟨h1,h2,h3,v,(hb.block b (block_lt h4)).trans h4,h5.kept (Zrc hb none) (by cases r<;>simp)⟩
theorem IsTree.ptr {w:World} {B b:Nat} {r:Option Nat} {fs:List F2} (h:IsTree w B b r fs):∃a c,w.heap[b]? =some (.cells #[.slice a fs.length c] 188 (0,0))/\OwnF w B r (.slice a fs.length c) fs/\fs.length<=c/\c<=maxLen:=by
 obtain⟨_,_,_,v,h4,h5⟩:=h;obtain⟨a,c,rfl,h6,h7⟩:=h5.shape;exact⟨a,c,h4,h5,h6,h7⟩
theorem Zda (b n c:Nat) (a:Option Addr) (w:World) (h:w.heap[b]? =some (.cells #[.slice a n c] 188 (0,0))):
  Calls prog 239 #[.pointer (some ⟨b,0,none⟩)] w λe w'=>e = .returned (.slice a n c)/\w=w':=by
 have hc:w.cell? ⟨b,0,none⟩=some (.slice a n c):=by simp[World.cell?,h]
 clear h
 go_enter func239,ntmps239
 go_wp2;go_ret;exact⟨rfl,rfl⟩
def GB (B:Nat):Prop:=0<B/\2<B/\3<B/\4<B
theorem GB.mono {B B':Nat} (h:GB B) (hB:B<=B'):GB B':=by
 obtain⟨h1,h2,h3,h4⟩:=h;exact⟨by omega,by omega,by omega,by omega⟩
theorem Glob.gb {w:World} (h:Glob w):GB w.heap.size:=by
 obtain⟨⟨m,hm⟩,ht,htop,⟨t1,p1,h1⟩,⟨t2,p2,h2⟩⟩:=h;exact⟨Zie hm,htop,Zie h1,Zie h2⟩
theorem Glob.low {w w':World} {B:Nat} (h:Glob w) (hB:GB B) (hb:Below B w w'):Glob w':=by
 obtain⟨⟨m,hm⟩,ht,htop,⟨t1,p1,h1⟩,⟨t2,p2,h2⟩⟩:=h;exact⟨⟨m,(hb.cell hB.1).trans hm⟩,var?_below hb (by kernel_rfl) hB.2.1 ht,Nat.lt_of_lt_of_le htop hb.size,⟨t1,p1,(hb.cell hB.2.2.1).trans h1⟩,⟨t2,p2,(hb.cell hB.2.2.2).trans h2⟩⟩
structure Frame2 (w w':World) (b:Nat) (r:Option Nat):Prop where
 os:w'.os=w.os
 tape:w'.tape=w.tape
 output:w'.output=w.output
 size:w.heap.size<=w'.heap.size
 block:∀k,k<w.heap.size->k≠b->some k≠r->w'.heap[k]? =w.heap[k]?
theorem Frame2.of_below {w w':World} (h:Below w.heap.size w w') (b:Nat) (r:Option Nat):Frame2 w w' b r:=⟨h.os,h.tape,h.output,h.size,λk hk _ _=>h.block k hk⟩
theorem Frame2.trans {a b c:World} {k:Nat} {r r':Option Nat} (h:Frame2 a b k r) (h':Frame2 b c k r') (hr:r'=r∨∃g,r'=some g/\a.heap.size<=g):Frame2 a c k r:=by
 refine⟨h'.os.trans h.os,h'.tape.trans h.tape,h'.output.trans h.output,Nat.le_trans h.size h'.size,λj hj h1 h2=>?_⟩;refine(h'.block j (Nat.lt_of_lt_of_le hj h.size) h1 ?_).trans (h.block j hj h1 h2)
 rcases hr with rfl|⟨g,rfl,hg⟩
 ·exact h2
 ·intro e;injection e with e;omega
theorem Frame2.below {w w':World} {b B:Nat} {r:Option Nat} (h:Frame2 w w' b r) (hB:B<=w.heap.size) (hb:B<=b) (hr:∀k,r=some k->B<=k):Below B w w':=
 ⟨h.os,h.tape,h.output,h.size,λk hk=>h.block k (by omega) (by omega) (λe=>by have:=hr k e.symm;omega)⟩
theorem OwnF.ne {w:World} {B b:Nat} {r:Option Nat} {v:Value} {fs:List F2} {cs:Array Value} (h:OwnF w B r v fs) (hb:w.heap[b]? =some (.cells cs 188 (0,0))):r≠some b:=by
 rcases h with⟨⟨_,⟨rfl,_⟩|⟨g,c,cur,rfl,_,hg,_⟩⟩,rfl⟩|⟨_,rfl,_⟩
 ·simp[Value.ownBlock]
 ·intro e
  injection e with e
  subst e;rw[hb]at hg;simp at hg
 ·simp
theorem IsTree.rlt {w:World} {B b:Nat} {r:Option Nat} {fs:List F2} (h:IsTree w B b r fs):(∀k,r=some k->B<=k/\k<w.heap.size)/\B<=b/\b<w.heap.size:=by
 obtain⟨h1,_,_,v,h4,h5⟩:=h;exact⟨λk hk=>h5.lt hk,h1,block_lt h4⟩
theorem IsTree.low {w:World} {B B' b:Nat} {r:Option Nat} {fs:List F2} (h:IsTree w B b r fs) (hB:B'<=B):IsTree w B' b r fs:=by
 obtain⟨h1,h2,h3,v,h4,h5⟩:=h;refine⟨Nat.le_trans hB h1,h2,h3,v,h4,?_⟩
 rcases h5 with⟨h5,h6⟩|h5
 ·exact .inl ⟨Zbdv h5 hB,h6⟩
 ·exact .inr h5
def AllIs (p:Value) (a:Option Addr) (c:Nat) (fs:List F2) (w:World):Prop:=
 ∀w',Below w.heap.size w w'->Calls prog 239 #[p] w' λe w''=>e = .returned (.slice a fs.length c)/\w'=w''
theorem IsTree.all {w:World} {B b:Nat} {r:Option Nat} {fs:List F2} (h:IsTree w B b r fs):∃a c,AllIs (.pointer (some ⟨b,0,none⟩)) a c fs w/\IsFiles w (.slice a fs.length c) fs:=by
 obtain⟨a,c,hb,hown,hc,hcm⟩:=h.ptr;exact⟨a,c,λw' hw=>Zda b fs.length c a w' ((hw.block b (block_lt hb)).trans hb),hown.files⟩
theorem AllIs.below {p:Value} {a:Option Addr} {c:Nat} {fs:List F2} {w w':World} (h:AllIs p a c fs w) (hb:Below w.heap.size w w'):AllIs p a c fs w':=
 λw'' h''=>h w'' (hb.trans (h''.mono hb.size))
def Zld (s:List UInt8):Option (List UInt8×List UInt8):=
 if (Lib.cut s [58]).2.2 then
  if (Zqk (Lib.cut s [58]).1 (Lib.cut s [58]).2.1.length).2 then
   some ((Lib.cut s [58]).2.1.take (Zqk (Lib.cut s [58]).1 (Lib.cut s [58]).2.1.length).1.toNat,(Lib.cut s [58]).2.1.drop (Zqk (Lib.cut s [58]).1 (Lib.cut s [58]).2.1.length).1.toNat)
  else none
 else none
theorem Zlm {s:List UInt8} {d:UInt8} (h:d∉s):Lib.cut s [d]=(s,[],false):=by
 unfold Lib.cut;rw[Zsl h,if_neg (by decide)]
theorem Zlj {a b:List UInt8} {d:UInt8} (h:d∉a):Lib.cut (a++d::b) [d]=(a,b,true):=by
 unfold Lib.cut;rw[index_hit h,if_pos (Int.natCast_nonneg _)];simp only[Int.toNat_natCast,List.length_cons,List.length_nil,Nat.zero_add,Zmb];simp
theorem Zlg {s:List UInt8} (h:58∉s):Zld s=none:=by
 unfold Zld;rw[Zlm h];rfl
theorem Zle {a b:List UInt8} (h:58∉a):Zld (a++58::b)=if (Zqk a b.length).2 then some (b.take (Zqk a b.length).1.toNat,b.drop (Zqk a b.length).1.toNat)else none:=by
 unfold Zld;rw[Zlj h];rfl
theorem Zlf {s p q:List UInt8} (h:Zld s=some (p,q)):q.length<s.length:=by
 rcases Zoz 58 s with hs|⟨a,b,rfl,ha⟩
 ·rw[Zlg hs]at h;cases h
 ·rw[Zle ha]at h
  split at h
  ·injection h with h
   injection h with h1 h2
   rw[<-h2];simp;omega
  ·cases h
def getF:Nat->List UInt8->Option (List (List UInt8))
 | 0,_=>none
 | f+1,s=>if s = []then some []else match Zld s with
  | none=>none
  | some (p,q)=>(getF f q).map (p :: ·)
theorem Zqg:∀(f:Nat) (s:List UInt8),s.length<f->∀f',s.length<f'->getF f s=getF f' s
 | 0,s,h,_,_=>absurd h (by omega)
 | f+1,s,h,0,h'=>absurd h' (by omega)
 | f+1,s,h,f'+1,h'=>by
  unfold getF;split
  ·rfl
  ·cases hc:Zld s with
   | none=>rfl
   | some pq=>
    obtain⟨p,q⟩:=pq;have:=Zlf hc;simp only;rw[Zqg f q (by omega) f' (by omega)]
def getS (s:List UInt8):Option (List (List UInt8)):=getF (s.length+1) s
theorem Zqn:getS []=some []:=rfl
theorem Zqo {s:List UInt8} (h0:s≠[]) (h:Zld s=none):getS s=none:=by
 rw[getS,getF,if_neg h0,h]
theorem Zqp {s p q:List UInt8} (h0:s≠[]) (h:Zld s=some (p,q)):getS s=(getS q).map (p :: ·):=by
 rw[getS,getF,if_neg h0,h];have:=Zlf h;simp only;rw[Zqg s.length q (by omega) (q.length+1) (by omega)];rfl
def GetAt (s cur:List UInt8) (done:List ByteArray):Prop:=
 getS s=(getS cur).map (done.map (·.data.toList) ++ ·)/\done.length+cur.length<=s.length
theorem GetAt.none {s cur:List UInt8} {done:List ByteArray} (h:GetAt s cur done) (h0:cur≠[]) (hc:Zld cur=none):getS s=none:=by
 rw[h.1,Zqo h0 hc];rfl
theorem GetAt.next {s cur p q:List UInt8} {done:List ByteArray} (h:GetAt s cur done) (h0:cur≠[]) (hc:Zld cur=some (p,q)):GetAt s q (done ++ [⟨p.toArray⟩]):=by
 have h1:=h.1;have h2:=h.2;have h3:=Zlf hc;refine⟨?_,by simp;omega⟩;rw[h1,Zqp h0 hc,Option.map_map]
 congr 1
 funext l
 simp
theorem GetAt.done {s:List UInt8} {done:List ByteArray} (h:GetAt s [] done):getS s=some (done.map (·.data.toList)):=by
 rw[h.1,Zqn];simp
def RowAt (w:World) (B:Nat) (v:Value) (fs:List F2):Prop:=w.ownsRow B 148 2 v fs.length (Znm fs)
def Apart (v:Value) (b:Nat) (r:Option Nat):Prop:=∀g,v.ownBlock=some g->g≠b/\r≠some g
theorem RowAt.below {w w':World} {B:Nat} {v:Value} {fs:List F2} (h:RowAt w B v fs) (hb:Below w.heap.size w w'):RowAt w' B v fs:=World.ownsRow.kept h (Zrc hb none) (by cases Value.ownBlock v<;>simp)
theorem RowAt.files {w:World} {B:Nat} {v:Value} {fs:List F2} (h:RowAt w B v fs):IsFiles w v fs:=OwnF.files (.inl ⟨h,rfl⟩)
theorem RowAt.new {w:World} {B b:Nat} {v:Value} {fs T:List F2} {r:Option Nat} (h:RowAt w B v fs) (w':World) (ht:IsTree w' w.heap.size b r T):Apart v b r:=by
 intro g hg;have:=World.ownsRow.lt h g hg;obtain⟨h1,h2,_⟩:=ht.rlt;exact⟨by omega,λe=>by have:=(h1 g e).1;omega⟩
theorem IsTree.grown {w w':World} {B b:Nat} {r row:Option Nat} {fs:List F2} (h:IsTree w B b r fs) (hg:w.grownBy w' row) (hb:some b≠row) (hr:r=none∨r≠row):IsTree w' B b r fs:=by
 obtain⟨h1,h2,h3,v,h4,h5⟩:=h;exact⟨h1,h2,h3,v,(hg.block b (block_lt h4) hb).trans h4,h5.kept hg hr⟩
theorem RowAt.after {w w':World} {B b:Nat} {r:Option Nat} {v:Value} {fs T:List F2} (h:RowAt w' w.heap.size v fs) (ht:IsTree w B b r T) (hg:w.grownBy w' none):IsTree w' B b r T/\Apart v b r:=by
 refine⟨ht.grown hg (by simp) (by cases r<;>simp),λg hgv=>?_⟩;have:=World.ownsRow.lt h g hgv;obtain⟨h1,h2,h3⟩:=ht.rlt;exact⟨by omega,λe=>by have:=(h1 g e).2;omega⟩
theorem Apart.tree {w w':World} {B b:Nat} {r:Option Nat} {v:Value} {T:List F2} (h:Apart v b r) (ht:IsTree w B b r T) (hg:w.grownBy w' v.ownBlock):IsTree w' B b r T:=by
 refine ht.grown hg (λe=>(h b e.symm).1 rfl) ?_
 cases r with
 | none=>exact .inl rfl
 | some g=>exact .inr λe=>(h g e.symm).2 rfl
def BothT (wr w:World) (b1 b2:Nat) (r1 r2:Option Nat) (T U:List F2):Prop:=
 ∃B1 B2,IsTree w B1 b1 r1 T/\IsTree w B2 b2 r2 U/\b1<B2/\(∀k,r1=some k->k<B2)/\Below wr.heap.size wr w/\wr.heap.size<=B1/\wr.heap.size<=B2
theorem BothT.below {wr w w':World} {b1 b2:Nat} {r1 r2:Option Nat} {T U:List F2} (h:BothT wr w b1 b2 r1 r2 T U) (hb:Below w.heap.size w w'):BothT wr w' b1 b2 r1 r2 T U:=by
 obtain⟨B1,B2,h1,h2,h3,h4,h5,h6⟩:=h;exact⟨B1,B2,h1.below hb,h2.below hb,h3,h4,h5.trans (hb.mono h5.size),h6⟩
open Go.Shelf
def SmallL (xs:List ByteArray) (m:Nat):Prop:=xs.length<=m/\∀x∈xs,x.size<=m
theorem SmallL.mono {xs:List ByteArray} {m m':Nat} (h:SmallL xs m) (hm:m<=m'):SmallL xs m':=⟨by have:=h.1;omega,λx hx=>by have:=h.2 x hx;omega⟩
def Zcc (w:World) (r:List Value) (x:StepS):Prop:=∃va vl,r = [.string x.out,.int .i64 x.op,va,vl,.int .i64 x.n]/\IsStrs w va x.args/\IsStrs w vl x.lits
def StepsI (w:World) (v:Value) (xs:List StepS):Prop:=∃rows,IsRow w v 5 rows/\AllA (Zcc w) rows xs
def RuleI (w:World) (r:List Value) (x:RuleS):Prop:=∃vi vo vf vs,r = [.string x.name,vi,vo,vf,vs]/\IsStrs w vi x.ins/\IsStrs w vo x.outs/\IsStrs w vf x.after/\StepsI w vs x.steps
def RulesI (w:World) (v:Value) (xs:List RuleS):Prop:=∃rows,IsRow w v 5 rows/\AllA (RuleI w) rows xs
def Zba (n:Int):Prop:= -9223372036854775808<=n/\n<=9223372036854775807
structure SmallS (x:StepS) (m:Nat):Prop where
 out:x.out.size<=m
 args:SmallL x.args m
 lits:SmallL x.lits m
 op:Zba x.op
 n:Zba x.n
structure SmallR (x:RuleS) (m:Nat):Prop where
 name:x.name.size<=m
 ins:SmallL x.ins m
 outs:SmallL x.outs m
 after:SmallL x.after m
 few:x.steps.length<=m
 steps:∀y∈x.steps,SmallS y m
theorem SmallS.mono {x:StepS} {m m':Nat} (h:SmallS x m) (hm:m<=m'):SmallS x m':=⟨Nat.le_trans h.out hm,h.args.mono hm,h.lits.mono hm,h.op,h.n⟩
theorem SmallR.mono {x:RuleS} {m m':Nat} (h:SmallR x m) (hm:m<=m'):SmallR x m':=⟨Nat.le_trans h.name hm,h.ins.mono hm,h.outs.mono hm,h.after.mono hm,Nat.le_trans h.few hm,λy hy=>(h.steps y hy).mono hm⟩
theorem StepsI.below {w w':World} {v:Value} {xs:List StepS} (h:StepsI w v xs) (hb:Below w.heap.size w w'):StepsI w' v xs:=by
 obtain⟨rows,h1,h2⟩:=h;exact⟨rows,h1.below hb,h2.imp λr x h=>by obtain⟨va,vl,rfl,ha,hl⟩:=h;exact⟨va,vl,rfl,ha.below hb,hl.below hb⟩⟩
theorem RuleI.below {w w':World} {r:List Value} {x:RuleS} (h:RuleI w r x) (hb:Below w.heap.size w w'):RuleI w' r x:=by
 obtain⟨vi,vo,vf,vs,rfl,h1,h2,h3,h4⟩:=h;exact⟨vi,vo,vf,vs,rfl,h1.below hb,h2.below hb,h3.below hb,h4.below hb⟩
theorem RuleA.ruleI {Av:Nat->Prop} {w:World} {r:List Value} {x:RuleS} (h:RuleA Av w r x):RuleI w r x:=by
 obtain⟨vi,vo,vf,vs,rfl,h1,h2,h3,rows,h4,h5⟩:=h;exact⟨vi,vo,vf,vs,rfl,h1.isStrs,h2.isStrs,h3.isStrs,rows,h4.1,h5.imp λr x h=>by obtain⟨va,vl,rfl,ha,hl⟩:=h;exact⟨va,vl,rfl,ha.isStrs,hl.isStrs⟩⟩
theorem RulesA.rulesI {Av:Nat->Prop} {w:World} {v:Value} {xs:List RuleS} (h:RulesA Av w v xs):RulesI w v xs:=by
 obtain⟨rows,h1,h2⟩:=h;exact⟨rows,h1.1,h2.imp λr x h=>h.ruleI⟩
theorem RulesI.below {w w':World} {v:Value} {xs:List RuleS} (h:RulesI w v xs) (hb:Below w.heap.size w w'):RulesI w' v xs:=by
 obtain⟨rows,h1,h2⟩:=h;exact⟨rows,h1.below hb,h2.imp λr x h=>h.below hb⟩
theorem Zue {w:World} {v:Value} {xs:List ByteArray} (h:IsStrs w v xs):∃a c,v = .slice a xs.length c:=by
 obtain⟨a,c,rfl,_⟩:=h;exact⟨a,c,rfl⟩
theorem Zbov {w:World} {v:Value} {xs:List StepS} (h:StepsI w v xs):∃a c,v = .slice a xs.length c:=by
 obtain⟨rows,⟨a,c,rfl,_⟩,hall⟩:=h;exact⟨a,c,by rw[hall.1]⟩
theorem Zbjn {w:World} {v:Value} {xs:List RuleS} (h:RulesI w v xs):∃a c,v = .slice a xs.length c/\xs.length<=c/\c<=maxLen:=by
 obtain⟨rows,⟨a,c,rfl,h1,h2,_⟩,hall⟩:=h;rw[<-hall.1];exact⟨a,c,rfl,h1,h2⟩
theorem Zbjm {w:World} {v:Value} {xs:List RuleS} (h:RulesI w v xs) {k:Nat} {x:RuleS} (hx:xs[k]? =some x):
  ∃g o cap a1 c1 a2 c2 a3 c3 a4 c4,v = .slice (some ⟨g,o,none⟩) xs.length cap/\g<w.heap.size/\RuleI w [.string x.name,.slice a1 x.ins.length c1,.slice a2 x.outs.length c2,.slice a3 x.after.length c3,.slice a4 x.steps.length c4] x/\∀w',Below w.heap.size w w'->
   w'.cell? ⟨g,o+k*5,none⟩=some (.string x.name)/\w'.cell? ⟨g,o+k*5+1,none⟩=some (.slice a1 x.ins.length c1)/\w'.cell? ⟨g,o+k*5+2,none⟩=some (.slice a2 x.outs.length c2)/\w'.cell? ⟨g,o+k*5+3,none⟩=some (.slice a3 x.after.length c3)/\w'.cell? ⟨g,o+k*5+4,none⟩=some (.slice a4 x.steps.length c4):=by
 obtain⟨rows,⟨a,c,rfl,_,_,h2⟩,hall⟩:=h;have hk:k<rows.length:=by rw[hall.1];exact(List.getElem?_eq_some_iff.1 hx).1
 have hR:=hall.2 k _ x (List.getElem?_eq_getElem hk) hx;obtain⟨b,o,rfl,hb,hc⟩:=h2 (by rintro rfl;simp at hk);obtain⟨vi,vo,vf,vs,e,h1,h2,h3,h4⟩:=id hR;obtain⟨a1,c1,q1⟩:=Zue h1;obtain⟨a2,c2,q2⟩:=Zue h2;obtain⟨a3,c3,q3⟩:=Zue h3;obtain⟨a4,c4,q4⟩:=Zbov h4;subst q1 q2 q3 q4;rw[e]at hR;refine⟨b,o,c,a1,c1,a2,c2,a3,c3,a4,c4,by rw[hall.1],hb,hR,λw' hw=>?_⟩;have key:∀(i:Nat) u,rows[k][i]? =some u->w'.cell? ⟨b,o+k*5+i,none⟩=some u:=λi u hu=>(hw.cell (p:=⟨b,o+k*5+i,none⟩) hb).trans (hc k _ (List.getElem?_eq_getElem hk) i u hu)
 rw[e]at key;exact⟨key 0 _ rfl,key 1 _ rfl,key 2 _ rfl,key 3 _ rfl,key 4 _ rfl⟩
structure ShortR (x:RuleS):Prop where
 ins:x.ins.length<=10
 outs:x.outs.length<=6
 after:x.after.length<=10
 steps:x.steps.length<=14
 each:∀y∈x.steps,y.args.length<=8/\y.lits.length<=3
theorem Zbou {w:World} {v:Value} {xs:List StepS} (h:StepsI w v xs) {k:Nat} {y:StepS} (hy:xs[k]? =some y):
  ∃b o cap va vl,v = .slice (some ⟨b,o,none⟩) xs.length cap/\IsStrs w va y.args/\IsStrs w vl y.lits/\
   ∀w',Below w.heap.size w w'->w'.cell? ⟨b,o+k*5,none⟩=some (.string y.out)/\w'.cell? ⟨b,o+k*5+1,none⟩=some (.int .i64 y.op)/\w'.cell? ⟨b,o+k*5+2,none⟩=some va/\w'.cell? ⟨b,o+k*5+3,none⟩=some vl/\w'.cell? ⟨b,o+k*5+4,none⟩=some (.int .i64 y.n):=by
 obtain⟨rows,⟨a,c,rfl,_,_,h2⟩,hall⟩:=h;have hk:k<rows.length:=by rw[hall.1];exact(List.getElem?_eq_some_iff.1 hy).1
 obtain⟨va,vl,e,ha,hl⟩:=hall.2 k _ y (List.getElem?_eq_getElem hk) hy;obtain⟨b,o,rfl,hb,hc⟩:=h2 (by rintro rfl;simp at hk);refine⟨b,o,c,va,vl,by rw[hall.1],ha,hl,λw' hw=>?_⟩;have key:∀(i:Nat) u,rows[k][i]? =some u->w'.cell? ⟨b,o+k*5+i,none⟩=some u:=λi u hu=>(hw.cell (p:=⟨b,o+k*5+i,none⟩) hb).trans (hc k _ (List.getElem?_eq_getElem hk) i u hu)
 rw[e]at key;exact⟨key 0 _ rfl,key 1 _ rfl,key 2 _ rfl,key 3 _ rfl,key 4 _ rfl⟩
def OpenV (w:World) (v:Value):Prop:=∀b,v.ownBlock=some b->∀i,w.frozen? ⟨b,i,none⟩=false
theorem Zbcv {w:World} {B e size:Nat} {v:Value} {n:Nat} {xs:List Value} (h:w.ownsRow B e size v n xs):OpenV w v:=by
 intro b hb i
 rcases h.2 with⟨rfl,_⟩|⟨g,cap,cur,rfl,_,hg,_⟩
 ·cases hb
 ·cases hb
  simp[World.frozen?,hg]
theorem Zbcu (w:World) (n c:Nat):OpenV w (.slice none n c):=λb hb=>by cases hb
theorem OpenV.keep {Av:Nat->Prop} {w w':World} {v:Value} (h:OpenV w v) (hb:∀b,v.ownBlock=some b->b<w.heap.size/\¬Av b) (hf:Fr Av w w'):OpenV w' v:=
 λb e i=>(World.frozen?_of_block (hf.block b (hb b e).1 (hb b e).2)).trans (h b e i)
def StrsO (Av:Nat->Prop) (w:World) (v:Value) (xs:List ByteArray):Prop:=StrsA Av w v xs/\OpenV w v
theorem StrsO.keep {Av:Nat->Prop} {w w':World} {v:Value} {xs:List ByteArray} (h:StrsO Av w v xs) (hf:Fr Av w w'):StrsO Av w' v xs:=⟨RowA.keep h.1 hf,h.2.keep h.1.2 hf⟩
def StrsW (Av:Nat->Prop) (w:World) (v:Value) (xs:List ByteArray):Prop:=StrsO Av w v xs/\w.ownsRow 0 9 1 v xs.length (xs.map Value.string)
theorem Zckk {w w':World} {B e size:Nat} {v:Value} {n:Nat} {xs:List Value} (h:w.ownsRow B e size v n xs) (hb:∀b,v.ownBlock=some b->w'.heap[b]? =w.heap[b]?):w'.ownsRow B e size v n xs:=by
 obtain⟨hl,h⟩:=h;refine⟨hl,?_⟩
 rcases h with h|⟨g,c,cur,rfl,h1,hg,r⟩
 ·exact .inl h
 ·exact .inr ⟨g,c,cur,rfl,h1,(hb g rfl).trans hg,r⟩
theorem Zckl {w:World} {B e size:Nat} {v:Value} {n:Nat} {xs:List Value} (h:w.ownsRow B e size v n xs):w.ownsRow 0 e size v n xs:=Zbdt h (Nat.zero_le _)
theorem StrsW.keep {Av:Nat->Prop} {w w':World} {v:Value} {xs:List ByteArray} (h:StrsW Av w v xs) (hf:Fr Av w w'):StrsW Av w' v xs:=⟨StrsO.keep h.1 hf,Zckk h.2 λb e=>hf.block b (h.1.1.2 b e).1 (h.1.1.2 b e).2⟩
theorem StrsO.mono {Av Av':Nat->Prop} {w:World} {v:Value} {xs:List ByteArray} (h:StrsO Av w v xs) (hm:∀b,b<w.heap.size->Av' b->Av b):StrsO Av' w v xs:=⟨RowA.mono h.1 hm,h.2⟩
theorem StrsW.mono {Av Av':Nat->Prop} {w:World} {v:Value} {xs:List ByteArray} (h:StrsW Av w v xs) (hm:∀b,b<w.heap.size->Av' b->Av b):StrsW Av' w v xs:=⟨StrsO.mono h.1 hm,h.2⟩
theorem Zbkf {w:World} {ty:TypeId} {v:Value} {xs:List ByteArray} (h:IsStrs w v xs) (hn:xs.length<=1048576):
  ∃a n c w',(Builtin.append_ #[47,47] ty #[.slice none 0 0,v]).run prog w = .ok (.slice a n c) w'/\StrsW (λb=>b<w.heap.size) w' (.slice a n c) xs/\w.grownBy w' none:=by
 obtain⟨i0,hi,hz0,hz1,hz2⟩:=Zsv Zsy;obtain⟨a,c,rfl,hlc,hcm,hcell⟩:=h
 by_cases he:xs = []
 ·subst he
  cases a with
  | none=>
   refine⟨none,0,0,w,?_,⟨⟨Zbqd _ _,Zbcu _ _ _⟩,World.ownsRow_nil _ _ _ _⟩,⟨rfl,rfl,rfl,Nat.le_refl _,λ_ _ _=>rfl⟩⟩;simp[Builtin.append_,run_underlying underlying47,sizeOf,typeInfo,hi,Builtin.lenOf,Builtin.firstCells]
  | some ad=>
   obtain⟨v',w',hr,h2,h3,_⟩:=run_append_own (P:=prog) w w.heap.size 47 ty 9 i0 (.string ByteArray.empty) 1 16 underlying47 hi hz0 hz1 hz2 rfl (by decide) (.slice none 0 0) 0 [] (World.ownsRow_nil _ _ _ _) ad 0 c [] rfl (by simp) (by simp) (by unfold maxLen;omega) (by omega) (Nat.le_refl _);obtain⟨aa,ca,rfl,_⟩:=Zbea h2;exact⟨aa,_,ca,w',hr,⟨⟨Zbqf (xs:=[]) (by simpa using h2),Zbcv h2⟩,Zckl (by simpa using h2)⟩,h3⟩
 ·obtain⟨b,o,rfl,hb,hc⟩:=hcell he
  obtain⟨v',w',hr,h2,h3,_⟩:=run_append_own (P:=prog) w w.heap.size 47 ty 9 i0 (.string ByteArray.empty) 1 16 underlying47 hi hz0 hz1 hz2 rfl (by decide) (.slice none 0 0) 0 [] (World.ownsRow_nil _ _ _ _) ⟨b,o,none⟩ xs.length c (xs.map Value.string) (by simp) (λj u hj=>by
   rw[List.getElem?_map]at hj;obtain⟨x,hx,rfl⟩:=Option.map_eq_some_iff.1 hj;have:=hc j x hx;simp only[Addr.add];split
   ·rename_i hj0;rw[hj0]at this;simpa using this
   ·exact this) (λu hu=>by obtain⟨x,_,rfl⟩:=List.mem_map.1 hu;rfl) (by unfold maxLen;omega) (by omega) (Nat.le_refl _)
  obtain⟨aa,ca,rfl,_⟩:=Zbea h2;exact⟨aa,_,ca,w',hr,⟨⟨Zbqf (by simpa using h2),Zbcv h2⟩,Zckl (by simpa using h2)⟩,h3⟩
theorem Zbod {ops:Array Oper} {o:Oper} {a:Act} {w:World} {K:Act->World->Prop} {Q:Exit->Act->World->Prop} {E:Prop} (hgd:o.guard=none) (s x:Operand)
  (ho:o.op = .call { callee:= .builtin .append,args:=#[s,x],argTypes:=#[47,47] }) {v:Value} {xs:List ByteArray} (hs:a.eval s = .slice none 0 0) (hx:a.eval x=v) (hI:IsStrs w v xs) (hn:xs.length<=1048576)
  (h:∀a' n c w',StrsW (λb=>b<w.heap.size) w' (.slice a' n c) xs->w.grownBy w' none->K (a.put o.dst (.slice a' n c)) w'):
  if Region.wanted o (yielded ops a.tmps)=true then Oper.wp prog o a w K Q else E:=by
 have hw:Region.wanted o (yielded ops a.tmps)=true:=by simp[Region.wanted,hgd]
 rw[if_pos hw];obtain⟨a',n,c,w',hr,h1,h2⟩:=Zbkf (ty:=o.type) hI hn;unfold Oper.wp execOp;simp only[ho,resolve,invoke,builtin,Sem.run_bind,Sem.run_pure,Result.andThen_ok,List.map_toArray,List.map_cons,List.map_nil,hs,hx,hr];exact h a' n c w' h1 h2
theorem Zfj {B:Nat} {w0 w w':World} (h:Below B w0 w) (hg:w.grownBy w' none) (hB:B<=w.heap.size):Below B w0 w':=h.grown hg hB (λk e=>by cases e)
end Go.Proofs.YtokogjhcidkckaaGreatDoor
