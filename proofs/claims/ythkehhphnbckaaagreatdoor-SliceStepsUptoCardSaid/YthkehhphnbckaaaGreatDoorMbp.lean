import Derived.Test.YthkehhphnbckaaaGreatDoorMbo
import Derived.Test.YthkehhphnbckaaaGreatDoorMbh
import Derived.Deep.RegionHeld3
namespace Go.Proofs.YthkehhphnbckaaaGreatDoor
open Go.Lib (hid)
open Go.RowKit Go.Shelf
theorem Zbir {w w':World} {x:RuleS} {e:Ending} (h:Zbu w w' x e):∃b1 m1 e1 b2 m2 e2 b3 m3 e3 b4 m4 e4,e = .returned (.agg #[.string x.name,.slice b1 m1 e1,.slice b2 m2 e2,.slice b3 m3 e3,.slice b4 m4 e4])/\
  RuleA (λb=>b<w.heap.size) w' [.string x.name,.slice b1 m1 e1,.slice b2 m2 e2,.slice b3 m3 e3,.slice b4 m4 e4] x:=by
 obtain⟨vi,vo,vf,vs,rfl,h1,h2,h3,h4⟩:=h;obtain⟨b1,m1,e1,q1⟩:=Zbig h1;obtain⟨b2,m2,e2,q2⟩:=Zbig h2;obtain⟨b3,m3,e3,q3⟩:=Zbig h3;obtain⟨b4,e4,q4,_,_⟩:=Zboi h4;subst q1 q2 q3 q4;exact⟨b1,m1,e1,b2,m2,e2,b3,m3,e3,b4,_,e4,rfl,⟨_,_,_,_,rfl,h1,h2,h3,h4⟩⟩
theorem Zbcl {l:List ByteArray}:Zbck l=true↔l.Nodup:=by
 unfold Zbck;rw[decide_eq_true_eq];constructor
 ·intro h;exact(Zcn (L:=[]) (by simpa using h)).1
 ·intro h
  have:∀(l L:List ByteArray),l.Nodup->(∀k∈l,k∉L)->(addS L l).length=L.length+l.length:=by
   intro l
   induction l with
   | nil=>intro L _ _;simp[addS]
   | cons k ks ih=>
    intro L h1 h2;have hk:insS L k=L ++ [k]:=by unfold insS;rw[if_neg (λh=>h2 k (by simp) (Zsj.1 h))]
    have e:addS L (k::ks)=addS (insS L k) ks:=rfl;obtain⟨n1,n2⟩:=List.nodup_cons.1 h1;rw[e,hk,ih _ n2]
    ·simp;omega
    ·intro a ha hm
     rcases List.mem_append.1 hm with hm|hm
     ·exact h2 a (by simp[ha]) hm
     ·obtain rfl:a=k:=by simpa using hm
      exact n1 ha
  simpa using this l [] h (by simp)
theorem Zbrq {l:List ByteArray}:Zch l↔¬l.Nodup:=by
 constructor
 ·rintro⟨i,j,hj,hi,e⟩ hn
  have h1:j<l.length:=by omega
  rw[List.getElem?_eq_getElem h1,List.getElem?_eq_getElem hi]at e;exact List.pairwise_iff_getElem.1 hn j i h1 hi hj (Option.some.inj e)
 ·intro h
  refine Classical.byContradiction λhx=>h ?_
  refine List.pairwise_iff_getElem.2 λj i h1 hi hj e=>hx ⟨i,j,hj,hi,?_⟩
  rw[List.getElem?_eq_getElem h1,List.getElem?_eq_getElem hi,e]
theorem Zpq (x:RuleS):Zpo x=true↔Zav x:=by
 unfold Zpo Zav nmsR nmsS;rw[List.take_length];simp only[Bool.and_eq_true,List.all_eq_true,decide_eq_true_eq,Zbnm,Zyt,List.mem_append,List.mem_singleton,List.mem_flatten,List.mem_map,okN];constructor
 ·rintro⟨⟨⟨⟨⟨h1,h2⟩,h3⟩,h4⟩,h5⟩,h6⟩
  refine⟨?_,λj y hy=>(h6 y (List.mem_of_getElem? hy)).1.1,by omega⟩;rintro y ((((rfl|h)|h)|h)|⟨l,⟨s,hs,rfl⟩,h⟩)
  ·exact h1
  ·exact h2 y h
  ·exact h4 y h
  ·exact h5 y h
  ·rcases List.mem_cons.1 h with rfl|h
   ·exact(h6 s hs).1.2
   ·exact(h6 s hs).2 y h
 ·rintro⟨h1,h2,h3⟩
  refine⟨⟨⟨⟨⟨h1 _ (by simp),λy hy=>h1 y (by simp[hy])⟩,by omega⟩,λy hy=>h1 y (by simp[hy])⟩,λy hy=>h1 y (by simp[hy])⟩,λs hs=>⟨⟨?_,?_⟩,λa ha=>?_⟩⟩
  ·obtain⟨j,hj⟩:=List.getElem?_of_mem hs
   exact h2 j s hj
  ·exact h1 _ (.inr ⟨_,⟨s,hs,rfl⟩,by simp⟩)
  ·exact h1 _ (.inr ⟨_,⟨s,hs,rfl⟩,by simp[ha]⟩)
theorem Zfs (x:RuleS):Zbkx x=true↔¬BigX x:=by
 unfold Zbkx BigX;simp only[Bool.and_eq_true,decide_eq_true_eq];omega
theorem Zpn (outs:List ByteArray):∀(l:List StepS) (T M:List ByteArray),Zpm outs T M l=true↔
  (∀(k:Nat) y,l[k]? =some y->(∀a∈y.args,a∈T∨a∈(l.take k).map StepS.out)/\y.out∉T/\y.out∉(l.take k).map StepS.out)/\∀a∈outs,a∈M∨a∈l.map StepS.out
 | [],T,M=>by
  unfold Zpm;simp only[List.all_eq_true,Zsj,List.getElem?_nil,reduceCtorEq,false_implies,implies_true,true_and,List.map_nil,List.not_mem_nil,or_false]
 | s::r,T,M=>by
  have hT:∀a,a∈addS T [s.out]↔a∈T∨a=s.out:=λa=>by rw[Zcp];simp
  have hM:∀a,a∈addS M [s.out]↔a∈M∨a=s.out:=λa=>by rw[Zcp];simp
  unfold Zpm
  by_cases h:s.args.all (inS T)=true/\inS T s.out=false
  ·rw[if_pos h,Zpn outs r]
   obtain⟨h1,h2⟩:=h;simp only[List.all_eq_true,Zsj]at h1;have h2':s.out∉T:=λhm=>by rw[Zsj.2 hm]at h2;cases h2
   constructor
   ·rintro⟨a1,a2⟩
    refine⟨λk y hy=>?_,λa ha=>?_⟩
    ·cases k with
     | zero=>
          obtain rfl:s=y:=by simpa using hy
          exact⟨λa ha=> .inl (h1 a ha),h2',by simp⟩
     | succ k=>
      obtain⟨b1,b2,b3⟩:=a1 k y (by simpa using hy);refine⟨λa ha=>?_,λhm=>b2 ((hT _).2 (.inl hm)),?_⟩
      ·rcases b1 a ha with h|h
       ·rcases(hT a).1 h with h|h
        ·exact .inl h
        ·right;rw[List.take_succ_cons,List.map_cons];simp[h]
       ·right;rw[List.take_succ_cons,List.map_cons];exact List.mem_cons_of_mem _ h
      ·rw[List.take_succ_cons,List.map_cons]
       intro hm
       rcases List.mem_cons.1 hm with h|h
       ·exact b2 ((hT _).2 (.inr h))
       ·exact b3 h
    ·rcases a2 a ha with h|h
     ·rcases(hM a).1 h with h|h
      ·exact .inl h
      ·right;simp[h]
     ·right;rw[List.map_cons];exact List.mem_cons_of_mem _ h
   ·rintro⟨a1,a2⟩
    refine⟨λk y hy=>?_,λa ha=>?_⟩
    ·obtain⟨b1,b2,b3⟩:=a1 (k+1) y (by simpa using hy)
     rw[List.take_succ_cons,List.map_cons]at b1 b3;refine⟨λa ha=>?_,λhm=>?_,λhm=>b3 (List.mem_cons_of_mem _ hm)⟩
     ·rcases b1 a ha with h|h
      ·exact .inl ((hT a).2 (.inl h))
      ·rcases List.mem_cons.1 h with h|h
       ·exact .inl ((hT a).2 (.inr h))
       ·exact .inr h
     ·rcases(hT _).1 hm with h|h
      ·exact b2 h
      ·exact b3 (by rw[h];simp)
    ·rcases a2 a ha with h|h
     ·exact .inl ((hM a).2 (.inl h))
     ·rw[List.map_cons]at h
      rcases List.mem_cons.1 h with h|h
      ·exact .inl ((hM a).2 (.inr h))
      ·exact .inr h
  ·rw[if_neg h]
   refine⟨λh=>absurd h (by decide),λ⟨a1,_⟩=>absurd ?_ h⟩;obtain⟨b1,b2,_⟩:=a1 0 s rfl;refine⟨?_,?_⟩
   ·simp only[List.all_eq_true,Zsj]
    intro a ha
    rcases b1 a ha with h|h
    ·exact h
    ·simp at h
   ·cases hi:inS T s.out with
    | false=>rfl
    | true=>exact absurd (Zsj.1 hi) b2
theorem Zbaf (x:RuleS):Zbac x=true↔Zbj x:=by
 have hA:∀(l:List ByteArray) a,a∈addS [] l↔a∈l:=λl a=>by rw[Zcp];simp
 unfold Zbac Zbj Zcd Zbdi;simp only[Bool.and_eq_true,Zbcl,Zbrq,Classical.not_not,Zok,Zpn,Bool.not_eq_true',Zoj,List.take_length];have hI:inS (addS [] x.after) x.name=false↔x.name∉x.after:=by
  cases h:inS (addS [] x.after) x.name with
  | true=>exact⟨λh=>(by cases h),λh'=>absurd ((hA _ _).1 (Zsj.1 h)) h'⟩
  | false=>exact⟨λ_ hm=>(by rw[Zsj.2 ((hA _ _).2 hm)]at h;cases h),λ_=>rfl⟩
 rw[hI];constructor
 ·rintro⟨⟨⟨⟨h1,h2⟩,h3⟩,h4⟩,h5,h6⟩
  refine⟨h1,h2,h3,h4,λk y hy=>?_,λa ha=>?_⟩
  ·obtain⟨b1,b2,b3⟩:=h5 k y hy
   refine⟨λhm=>b2 ((hA _ _).2 hm),b3,λa ha=>?_⟩;rintro⟨c1,c2⟩
   rcases b1 a ha with h|h
   ·exact c1 ((hA _ _).1 h)
   ·exact c2 h
  ·have hm:a∈x.steps.map StepS.out:=by
    rcases h6 a ha with h|h
    ·simp at h
    ·exact h
   refine⟨λhi=>?_,hm⟩;obtain⟨s,hs,rfl⟩:=List.mem_map.1 hm;obtain⟨k,hk⟩:=List.getElem?_of_mem hs;exact(h5 k s hk).2.1 ((hA _ _).2 hi)
 ·rintro⟨h1,h2,h3,h4,h5,h6⟩
  refine⟨⟨⟨⟨h1,h2⟩,h3⟩,h4⟩,λk y hy=>?_,λa ha=> .inr (h6 a ha).2⟩;obtain⟨b1,b2,b3⟩:=h5 k y hy;refine⟨λa ha=>?_,λhm=>b1 ((hA _ _).1 hm),b2⟩
  by_cases hi:a∈x.ins
  ·exact .inl ((hA _ _).2 hi)
  ·exact .inr (Classical.byContradiction λhk=>b3 a ha ⟨hi,hk⟩)
theorem Zbiq (x:RuleS):RuleC x (Zbip x):=by
 unfold Zbip RuleC;have f:=Zpq x;have s:=Zfs x;have n:=Zbaf x
 cases h1:Zpo x with
 | false=>rw[h1]at f;exact .inl ⟨λh=>absurd (f.2 h) (by decide),by simp⟩
 | true=>
  rw[h1]at f
  cases h2:Zbkx x with
  | false=>rw[h2]at s;exact .inr (.inl ⟨f.1 rfl,Classical.byContradiction λh=>absurd (s.2 h) (by decide),by simp⟩)
  | true=>
   rw[h2]at s
   cases h3:Zbac x with
   | false=>rw[h3]at n;exact .inr (.inr (.inl ⟨f.1 rfl,s.1 rfl,λh=>absurd (n.2 h) (by decide),by simp⟩))
   | true=>rw[h3]at n;exact .inr (.inr (.inr ⟨f.1 rfl,s.1 rfl,n.1 rfl,by simp⟩))
theorem Zbkv (x:RuleS):ShortR (cutR x):=
 ⟨by show(x.ins.take 10).length<=10;rw[List.length_take];omega,by show(x.outs.take 6).length<=6;rw[List.length_take];omega,by show(x.after.take 10).length<=10;rw[List.length_take];omega,
  by show((x.steps.take 14).map cutS).length<=14;rw[List.length_map,List.length_take];omega,λy hy=>by
   obtain⟨z,hz,rfl⟩:=List.mem_map.1 (show y∈(x.steps.take 14).map cutS from hy);exact⟨by show(z.args.take 8).length<=8;rw[List.length_take];omega,by show(z.lits.take 3).length<=3;rw[List.length_take];omega⟩⟩
theorem Zbma {x:RuleS} {m:Nat} (h:SmallR x m):SmallR (cutR x) m:=by
 have tk:∀ {l:List ByteArray} (k:Nat),SmallL l m->SmallL (l.take k) m:=λk h=>⟨by rw[List.length_take];have:=h.1;omega,λz hz=>h.2 z (List.mem_of_mem_take hz)⟩
 exact⟨h.name,tk 10 h.ins,tk 6 h.outs,tk 10 h.after,by show((x.steps.take 14).map cutS).length<=m;rw[List.length_map,List.length_take];have:=h.few;omega,λy hy=>by
  obtain⟨z,hz,rfl⟩:=List.mem_map.1 (show y∈(x.steps.take 14).map cutS from hy);have:=h.steps z (List.mem_of_mem_take hz);exact⟨this.out,tk 8 this.args,tk 3 this.lits,this.op,this.n⟩⟩
def boxR (w:World) (B:Nat) (s:ByteArray) (v1 v2 v3 v4:Value):World:=
 ((((w.setCell ⟨B,0,none⟩ (.string s)).setCell ⟨B,1,none⟩ v1).setCell ⟨B,2,none⟩ v2).setCell ⟨B,3,none⟩ v3).setCell ⟨B,4,none⟩ v4
theorem Zgf (w:World) (B:Nat) (s:ByteArray) (v1 v2 v3 v4:Value):Below B w (boxR w B s v1 v2 v3 v4):=
 (((((Below.refl _ _).setCell (p:=⟨B,0,none⟩) (Nat.le_refl _) _).setCell (p:=⟨B,1,none⟩) (Nat.le_refl _) _).setCell (p:=⟨B,2,none⟩) (Nat.le_refl _) _).setCell (p:=⟨B,3,none⟩) (Nat.le_refl _) _).setCell (p:=⟨B,4,none⟩) (Nat.le_refl _) _
theorem Zgg (w:World) (B:Nat) (s:ByteArray) (v1 v2 v3 v4:Value) (k:Nat) (h:k≠B):(boxR w B s v1 v2 v3 v4).heap[k]? =w.heap[k]?:=by
 unfold boxR;rw[Below.heap_setCell _ _ _ _ h,Below.heap_setCell _ _ _ _ h,Below.heap_setCell _ _ _ _ h,Below.heap_setCell _ _ _ _ h,Below.heap_setCell _ _ _ _ h]
theorem Zge (w:World) (B:Nat) (s:ByteArray) (v1 v2 v3 v4:Value) {a b c d e:Value} {T:TypeId} (h:w.heap[B]? =some (.cells #[a,b,c,d,e] T)):(boxR w B s v1 v2 v3 v4).heap[B]? =some (.cells #[.string s,v1,v2,v3,v4] T):=
 heap_set _ _ (heap_set _ _ (heap_set _ _ (heap_set _ _ (heap_set _ _ h))))
theorem Zgd {w1 w2:World} {B:Nat} {y:RuleS} {v1 v2 v3 v4:Value} {a b c d e:Value} {T:TypeId} (hra:RuleA (λk=>k<w1.heap.size) w2 [.string y.name,v1,v2,v3,v4] y) (hx:w2.heap[B]? =some (.cells #[a,b,c,d,e] T)) (hB:B+1<=w1.heap.size):
  Below B w2 (boxR w2 B y.name v1 v2 v3 v4)/\(boxR w2 B y.name v1 v2 v3 v4).heap[B]? =some (.cells #[.string y.name,v1,v2,v3,v4] T)/\RuleI (boxR w2 B y.name v1 v2 v3 v4) [.string y.name,v1,v2,v3,v4] y:=by
 have hb:=Zgf w2 B y.name v1 v2 v3 v4;refine⟨hb,Zge _ _ _ _ _ _ _ hx,(hra.keep (w':=boxR w2 B y.name v1 v2 v3 v4) ⟨hb.os,hb.tape,hb.output,hb.size,λk hk hn=>?_⟩).ruleI⟩;exact Zgg _ _ _ _ _ _ _ _ (λe=>hn (by show k<_;omega))
theorem Zbio {Av:Nat->Prop} {w:World} {s:ByteArray} {b1 b2 b3 b4:Option Addr} {m1 m2 m3 m4 e1 e2 e3 e4:Nat} {y:RuleS} (h:RuleA Av w [.string s,.slice b1 m1 e1,.slice b2 m2 e2,.slice b3 m3 e3,.slice b4 m4 e4] y):m1=y.ins.length/\m2=y.outs.length/\m3=y.after.length/\m4=y.steps.length:=by
 obtain⟨vi,vo,vf,vs,q,h1,h2,h3,h4⟩:=h.ruleI;simp only[List.cons.injEq,and_true]at q;obtain⟨_,rfl,rfl,rfl,rfl⟩:=q;obtain⟨_,_,g1⟩:=Zue h1;obtain⟨_,_,g2⟩:=Zue h2;obtain⟨_,_,g3⟩:=Zue h3;obtain⟨_,_,g4⟩:=Zbov h4;exact⟨(Value.slice.inj g1).2.1,(Value.slice.inj g2).2.1,(Value.slice.inj g3).2.1,(Value.slice.inj g4).2.1⟩
theorem Zcbs {P:Program} {fn:Func} {p u:Tmp} {ty:TypeId} (h:fn.results = #[.cell p ty,.tmp u]) (tmps:Array Value) (w:World) (g:Nat) (t:TypeId) (cs:Array Value) (fr:Nat×Nat) (d:TypeDesc)
  (hp:tmps.getD p undef = .pointer (some ⟨g,0,none⟩)) (hg:w.heap[g]? =some (.cells cs t fr))
  (hu:P.underlying ty=some d) (hd:(match d with | .struct _ | .array _ _=>true|_=>false)=true) (hi:(P.info? ty).map (·.size)=some cs.size):
  (results fn tmps).run P w = .ok (.tuple #[.agg cs,tmps.getD u undef]) w:=by
 have hp':tmps[p]?.getD undef = .pointer (some ⟨g,0,none⟩):=by simpa using hp
 simp[results,h,hp',asAddr,run_loadVar_row w g t ty cs fr d hg hu hd hi]
def Zcbb (x:RuleS) (w:World) (e:Ending) (w':World):Prop:=∃b1 b2 b3 b4 e1 e2 e3 e4,e = .returned (.tuple #[.agg (Zbiz (cutR x) b1 b2 b3 b4 e1 e2 e3 e4),.bool (decide (Zbip (cutR x)=0))])/\
 RuleA (λk=>k<w.heap.size) w' [.string (cutR x).name,.slice b1 (cutR x).ins.length e1,.slice b2 (cutR x).outs.length e2,.slice b3 (cutR x).after.length e3,.slice b4 (cutR x).steps.length e4] (cutR x)/\Below w.heap.size w w'
theorem Zcbg {V:World} {B:Nat} {v0 v1 v2 v3 v4 x0 x1 x2 x3 x4:Value} (h:V.cell? ⟨B,0,none⟩=some v0/\V.cell? ⟨B,1,none⟩=some v1/\V.cell? ⟨B,2,none⟩=some v2/\V.cell? ⟨B,3,none⟩=some v3/\V.cell? ⟨B,4,none⟩=some v4):
  ∀W,W=((((V.setCell ⟨B+1,0,none⟩ x0).setCell ⟨B+1,1,none⟩ x1).setCell ⟨B+1,2,none⟩ x2).setCell ⟨B+1,3,none⟩ x3).setCell ⟨B+1,4,none⟩ x4->W.cell? ⟨B,0,none⟩=some v0/\W.cell? ⟨B,1,none⟩=some v1/\W.cell? ⟨B,2,none⟩=some v2/\W.cell? ⟨B,3,none⟩=some v3/\W.cell? ⟨B,4,none⟩=some v4:=by
 rintro W rfl;have e:∀o,(((((V.setCell ⟨B+1,0,none⟩ x0).setCell ⟨B+1,1,none⟩ x1).setCell ⟨B+1,2,none⟩ x2).setCell ⟨B+1,3,none⟩ x3).setCell ⟨B+1,4,none⟩ x4).cell? ⟨B,o,none⟩=V.cell? ⟨B,o,none⟩:=λo=>by
  have hn:∀(W:World) i x,(W.setCell ⟨B+1,i,none⟩ x).heap[B]? =W.heap[B]?:=λW i x=>Below.heap_setCell _ _ _ _ (by show B≠B+1;omega)
  simp only[World.cell?,hn]
 rw[e,e,e,e,e];exact h
set_option maxHeartbeats 8000000
set_option maxRecDepth 100000
theorem Zcbh (x:RuleS) (a1 a2 a3 a4:Option Addr) (c1 c2 c3 c4:Nat) (w:World) (hI:RuleI w [.string x.name,.slice a1 x.ins.length c1,.slice a2 x.outs.length c2,.slice a3 x.after.length c3,.slice a4 x.steps.length c4] x) (hs:SmallR x 1048576):
  Calls Tryz.prog 21 #[.agg (Zbiz x a1 a2 a3 a4 c1 c2 c3 c4)] w (Zcbb x w):=by
 have mixed:Tryz.prog.follows .mixedOrders=true:=by kernel_rfl
 obtain⟨W0,hW0⟩:∃V,(w.alloc (.cells (Zbiz x a1 a2 a3 a4 c1 c2 c3 c4) 33)).alloc (.cells Zbur 33)=V:=⟨_,rfl⟩;obtain⟨B,hB⟩:∃m,w.heap.size=m:=⟨_,rfl⟩;have hb0:Below B w W0:=by rw[<-hW0,<-hB];exact((Below.refl _ _).alloc (Nat.le_refl _) _).alloc (by simp) _
 have hs0:W0.heap.size=B+2:=by rw[<-hW0];simp[hB]
 have hx0:W0.heap[B]? =some (.cells (Zbiz x a1 a2 a3 a4 c1 c2 c3 c4) 33):=by rw[<-hW0,<-hB,Below.heap_alloc _ _ _ (by simp)];exact alloc_at w _
 have hz0:W0.heap[B+1]? =some (.cells Zbur 33):=by
  have:=alloc_at (w.alloc (.cells (Zbiz x a1 a2 a3 a4 c1 c2 c3 c4) 33)) (.cells Zbur 33);rw[World.size_alloc,hB]at this;rw[<-hW0];exact this
 have CL:Hid (Calls Tryz.prog 15 #[.agg (Zbiz x a1 a2 a3 a4 c1 c2 c3 c4)] W0 λe w'=>Zbu W0 w' (cutR x) e/\Below W0.heap.size W0 w'):=hid (Zwx x _ _ _ _ W0 (hI.below (by rw[hB];exact hb0)) hs);unfold Zcbb;obtain⟨y,hy⟩:∃y,cutR x=y:=⟨_,rfl⟩;have hym:SmallR y 1048576:=by rw[<-hy];exact Zbma hs
 have hyh:ShortR y:=by rw[<-hy];exact Zbkv x
 have HYM:=hid hym;have HYH:=hid hyh;rw[hy]at CL⊢;obtain⟨c,hc⟩:∃c,Zbip y=c:=⟨_,rfl⟩;have HCC:=hid hc;rw[hc];clear hc;have HW0:=hid hW0;have HB:=hid hB;have HB0:=hid hb0;have HS0:=hid hs0;have HXD:Hid (∀V,Below W0.heap.size W0 V->V.heap[B]? =some (.cells (Zbiz x a1 a2 a3 a4 c1 c2 c3 c4) 33)):=hid λV hV=>(hV.block B (by omega)).trans hx0
 have HZD:Hid (∀V,Below W0.heap.size W0 V->V.heap[B+1]? =some (.cells Zbur 33)):=hid λV hV=>(hV.block (B+1) (by omega)).trans hz0
 clear hI hs hW0 hb0 hs0 hz0 hy hym hyh;obtain⟨d0,d1,d2,d3,d4,_⟩:=cells5 hx0;clear hx0
 go_enter Tryz.func21,Tryz.ntmps21
 go_upto_region 1 with fail
 unfold Zbur at HW0
 try rw[HB.out]
 try rw[HW0.out]
 go_wp2_with fail
 refine CL.out.mono ?_;rintro e w2 ⟨hpost,hb2⟩;obtain⟨b1,m1,e1,b2,m2,e2,b3,m3,e3,b4,m4,e4,rfl,hra⟩:=Zbir hpost;have hx2:=HXD.out w2 hb2;have hz2:=HZD.out w2 hb2;have h02:Below B w w2:=HB0.out.trans (hb2.mono (by have:=HS0.out;omega));obtain⟨q1,q2,q3,q4⟩:=Zbio hra;subst q1 q2 q3 q4;obtain⟨f0,f1,f2,f3,f4,_⟩:=cells5 hx2;have hbR:=Zgf w2 B y.name (.slice b1 y.ins.length e1) (.slice b2 y.outs.length e2) (.slice b3 y.after.length e3) (.slice b4 y.steps.length e4);have hxR:=Zge w2 B y.name (.slice b1 y.ins.length e1) (.slice b2 y.outs.length e2) (.slice b3 y.after.length e3) (.slice b4 y.steps.length e4) hx2;have hzR:=(Zgg w2 B y.name (.slice b1 y.ins.length e1) (.slice b2 y.outs.length e2) (.slice b3 y.after.length e3) (.slice b4 y.steps.length e4) (B+1) (by omega)).trans hz2;have hR:=hra.keep (w':=boxR w2 B y.name (.slice b1 y.ins.length e1) (.slice b2 y.outs.length e2) (.slice b3 y.after.length e3) (.slice b4 y.steps.length e4)) ⟨hbR.os,hbR.tape,hbR.output,hbR.size,λk hk hn=>Zgg _ _ _ _ _ _ _ _ (λe=>hn (by show k<_;have:=HS0.out;omega))⟩;obtain⟨w3,hw3⟩:∃V,boxR w2 B y.name (.slice b1 y.ins.length e1) (.slice b2 y.outs.length e2) (.slice b3 y.after.length e3) (.slice b4 y.steps.length e4)=V:=⟨_,rfl⟩;rw[hw3]at hbR hxR hzR hR;unfold boxR at hw3;have h03:Below B w w3:=h02.trans hbR;have HS3:Hid (B+2<=w3.heap.size):=hid (by have:=HS0.out;have:=hb2.size;have:=hbR.size;omega);have hR0:RuleA (λk=>k<B) w3 [.string y.name,.slice b1 y.ins.length e1,.slice b2 y.outs.length e2,.slice b3 y.after.length e3,.slice b4 y.steps.length e4] y/\RuleA (λk=>k<B+2) w3 [.string y.name,.slice b1 y.ins.length e1,.slice b2 y.outs.length e2,.slice b3 y.after.length e3,.slice b4 y.steps.length e4] y:=by
  have:=HS0.out;exact⟨hR.mono λb _ e=>by show b<_;have e':b<B:=e;omega,hR.mono λb _ e=>by show b<_;have e':b<B+2:=e;omega⟩
 have H03:=hid h03;have HR0:=hid hR0;have HD:Hid (∀V,Below w3.heap.size w3 V->V.heap[B+1]? =some (.cells Zbur 33)/\(V.cell? ⟨B,0,none⟩=some (.string y.name)/\V.cell? ⟨B,1,none⟩=some (.slice b1 y.ins.length e1)/\V.cell? ⟨B,2,none⟩=some (.slice b2 y.outs.length e2)/\V.cell? ⟨B,3,none⟩=some (.slice b3 y.after.length e3)/\V.cell? ⟨B,4,none⟩=some (.slice b4 y.steps.length e4))):=by
  show ∀V,_;intro V hV;have hs:=HS3.out;obtain⟨g0,g1,g2,g3,g4,_⟩:=cells5 ((hV.block B (by omega)).trans hxR);exact⟨(hV.block (B+1) (by omega)).trans hzR,g0,g1,g2,g3,g4⟩
 have CR:Hid (∀V,Below w3.heap.size w3 V->Calls Tryz.prog 17 #[.agg (Zbiz y b1 b2 b3 b4 e1 e2 e3 e4)] V λe w'=>e = .returned (.int .i64 c)/\Below V.heap.size V w'):=by
  show ∀V,_;intro V hV;refine(Zhk y _ _ _ _ V (HR0.out.1.ruleI.below hV) HYM.out HYH.out).mono ?_;rintro e w' ⟨⟨c',rfl,hc'⟩,hb⟩;exact⟨by rw[hc'.one (Zbiq y),HCC.out],hb⟩
 clear hpost hb2 hra hx2 hz2 h02 hbR hxR hzR hR d0 d1 d2 d3 d4 h03 hR0
 go_upto_region 2 with fail
 try rw[hw3]
 clear hw3 f0 f1 f2 f3 f4;refine wp_region_held_drew (S:=λV=>V.cell? ⟨B,0,none⟩=some (.string y.name)/\V.cell? ⟨B,1,none⟩=some (.slice b1 y.ins.length e1)/\V.cell? ⟨B,2,none⟩=some (.slice b2 y.outs.length e2)/\V.cell? ⟨B,3,none⟩=some (.slice b3 y.after.length e3)/\V.cell? ⟨B,4,none⟩=some (.slice b4 y.steps.length e4)) (by kernel_rfl) ?_ (λhHeld=>?_)
 ·exact(HD.out _ (below_drewN (Below.refl _ _) 1)).2
 refine tkH 0 (v:=?_) ?_ ?_;rotate_left
 ·intro w hSw;obtain⟨p0,p1,p2,p3,p4⟩:=hSw;go_simp;try with_reducible rfl
 try simp only[Act.put,List.setIfInBounds_toArray,List.set_cons_zero,List.set_cons_succ]
 refine tkH 1 (v:=?_) ?_ ?_;rotate_left
 ·intro w hSw;obtain⟨p0,p1,p2,p3,p4⟩:=hSw;go_simp;try with_reducible rfl
 try simp only[Act.put,List.setIfInBounds_toArray,List.set_cons_zero,List.set_cons_succ]
 refine wpAnyH_ready (rs:=[2]) (by kernel_rfl) (by simp) ?_;refine AllReadyH.cons (o:=_) (by simp only[List.getElem?_toArray,List.getElem?_cons_succ,List.getElem?_cons_zero];rfl) (λK hK=>?_) ?_
 ·go_simp;refine(CR.out _ (below_drewN (Below.refl _ _) 1)).mono ?_;rintro e w4 ⟨rfl,hb4⟩;have HB4:Hid (Below w3.heap.size w3 w4):=hid ((below_drewN (Below.refl _ _) 1).trans (hb4.mono (by simp)));have HZ4:=hid (HD.out w4 HB4.out).1;clear hb4;dsimp only
  refine hK.out _ _ ?_ (λhHeld=>?_)
  ·try dsimp only
   exact(HD.out w4 HB4.out).2
  clear hK K
  try simp only[Act.put,List.setIfInBounds_toArray,List.set_cons_zero,List.set_cons_succ]
  refine tkH 3 (v:=?_) ?_ ?_;rotate_left
  ·intro w hSw;go_simp;try with_reducible rfl
  try simp only[Act.put,List.setIfInBounds_toArray,List.set_cons_zero,List.set_cons_succ]
  refine wpAnyH_ready (rs:=[4]) (by kernel_rfl) (by simp) ?_;refine AllReadyH.cons (o:=_) (by simp only[List.getElem?_toArray,List.getElem?_cons_succ,List.getElem?_cons_zero];rfl) (λK hK=>?_) ?_
  ·obtain⟨y0,y1,y2,y3,y4,u0,u1,u2,u3,u4⟩:=cells5 (show w4.heap[B+1]? =some (.cells #[.string ⟨#[]⟩,.slice none 0 0,.slice none 0 0,.slice none 0 0,.slice none 0 0] _)from HZ4.out);go_simp
   refine hK.out _ _ ?_ (λhHeld=>?_)
   ·try dsimp only
    exact Zcbg hHeld _ rfl
   clear hK K
   try simp only[Act.put,List.setIfInBounds_toArray,List.set_cons_zero,List.set_cons_succ]
   have hS5:=hHeld;have hb5:Below (B+1) w4 _:=Zgf w4 (B+1) y.name (.slice b1 y.ins.length e1) (.slice b2 y.outs.length e2) (.slice b3 y.after.length e3) (.slice b4 y.steps.length e4);have hz5:=Zge w4 (B+1) y.name (.slice b1 y.ins.length e1) (.slice b2 y.outs.length e2) (.slice b3 y.after.length e3) (.slice b4 y.steps.length e4) HZ4.out;have ho5:=Zgg w4 (B+1) y.name (.slice b1 y.ins.length e1) (.slice b2 y.outs.length e2) (.slice b3 y.after.length e3) (.slice b4 y.steps.length e4);obtain⟨w5,hw5⟩:∃V,boxR w4 (B+1) y.name (.slice b1 y.ins.length e1) (.slice b2 y.outs.length e2) (.slice b3 y.after.length e3) (.slice b4 y.steps.length e4)=V:=⟨_,rfl⟩;rw[hw5]at hb5 hz5 ho5;unfold boxR at hw5;rw[hw5]at hS5⊢;have HB5:=hid hb5;have HZ5:=hid hz5;have HO5:=hid ho5;clear hb5 hz5 ho5 hw5;refine wpAnyH_ready (rs:=[5]) (by kernel_rfl) (by simp) ?_;refine AllReadyH.cons (o:=_) (by simp only[List.getElem?_toArray,List.getElem?_cons_succ,List.getElem?_cons_zero];rfl) (λK hK=>?_) ?_
   ·go_simp
    refine hK.out _ _ ?_ (λhHeld=>?_)
    ·try dsimp only
     exact hS5
    clear hK K
    try simp only[Act.put,List.setIfInBounds_toArray,List.set_cons_zero,List.set_cons_succ]
    refine wpAnyH_done (by kernel_rfl) ?_ _;go_wp2;have hfr:Fr (λk=>k<B+2) w3 w5:=⟨HB5.out.os.trans HB4.out.os,HB5.out.tape.trans HB4.out.tape,HB5.out.output.trans HB4.out.output,Nat.le_trans HB4.out.size HB5.out.size,λk hk hn=>(HO5.out k (λe=>hn (by show k<_;omega))).trans (HB4.out.block k hk)⟩;refine bodyPost_ret (Zcbs rfl _ _ (B+1) _ _ _ _ rfl HZ5.out Tryz.underlying33 rfl (by kernel_rfl)) rfl ?_;exact⟨b1,b2,b3,b4,e1,e2,e3,e4,by first|rfl|simp,(HR0.out.2.keep hfr).mono (λb _ hb=>by show b<_;have:b<w.heap.size:=hb;have:=HB.out;omega),by rw[HB.out];exact H03.out.trans ((HB4.out.mono (by have:=HS3.out;omega)).trans (HB5.out.mono (by omega)))⟩
   exact AllReadyH.nil
  exact AllReadyH.nil
 exact AllReadyH.nil
theorem Zcbk {r:RuleS} (h:Zbip r=0):Zbj r:=by
 have hc:=Zbiq r;rw[h]at hc
 rcases hc with⟨_,e⟩|⟨_,_,e⟩|⟨_,_,_,e⟩|⟨_,_,e,_⟩
 ·exact absurd e (by decide)
 ·exact absurd e (by decide)
 ·exact absurd e (by decide)
 ·exact e
theorem Zcbj {r:RuleS} (hN:Zbj r) {j k:Nat} {s t:StepS} (hj:r.steps[j]? =some s) (hk:r.steps[k]? =some t) (hjk:j<=k):t.out∉s.args:=by
 intro hm;obtain⟨_,_,_,_,hS,_⟩:=hN;obtain⟨_,_,a1⟩:=hS j s hj;obtain⟨b1,b2,_⟩:=hS k t hk;have:=a1 _ hm;rw[Zok]at b1 b2;rw[Zok,Zok]at this;refine this ⟨b1,λh=>b2 ?_⟩;unfold Zbdi at h⊢;obtain⟨x,hx,e⟩:=List.mem_map.1 h;exact List.mem_map.2 ⟨x,List.take_subset_take_left _ hjk hx,e⟩
theorem Zcbn (outs:List ByteArray):∀(l:List StepS) (k:Nat) (s:StepS),l[k]? =some s->(Zcbl outs l)[k]? =some (decide (0<=Zoi outs s.out)||anyQ s.out (l.drop (k+1)) ((Zcbl outs l).drop (k+1)))
 | [],k,s,h=>by simp at h
 | x::l,0,s,h=>by
  obtain rfl:x=s:=by simpa using h
  simp[Zcbl]
 | x::l,k+1,s,h=>by
  have:=Zcbn outs l k s (by simpa using h);simpa[Zcbl]using this
theorem Zcbc (a:ByteArray):∀(m:Nat) (l:List StepS) (ms:List Bool),(∀(j:Nat) s,j<m->l[j]? =some s->a∉s.args)->anyQ a l ms=anyQ a (l.drop m) (ms.drop m)
 | 0,l,ms,_=>by simp
 | m+1,[],ms,_=>by simp[anyQ]
 | m+1,s::l,[],_=>by
  rw[List.drop_nil]
  cases l.drop m with
  | nil=>simp[anyQ]
  | cons _ _=>simp[anyQ]
 | m+1,s::l,x::ms,h=>by
  have h0:=h 0 s (by omega) rfl;rw[anyQ,List.drop_succ_cons,List.drop_succ_cons,<-Zcbc a m l ms (λj s' hj hs=>h (j+1) s' (by omega) (by simpa using hs))];have:decide (0<=Zoi s.args a)=false:=decide_eq_false (λe=>h0 (Zoj.1 e));rw[this,Bool.and_false,Bool.false_or]
theorem Zcbe (a:ByteArray):∀(l:List StepS) (ms:List Bool) (j:Nat) (s:StepS) (m:Bool),l[j]? =some s->ms[j]? =some m->anyQ a (l.take (j+1)) (ms.take (j+1))=(anyQ a (l.take j) (ms.take j)||(m&&decide (0<=Zoi s.args a)))
 | [],_,j,s,m,h,_=>by simp at h
 | _::_,[],j,s,m,_,h=>by simp at h
 | x::l,y::ms,0,s,m,h,h2=>by
  obtain rfl:x=s:=by simpa using h
  obtain rfl:y=m:=by simpa using h2
  simp[anyQ]
 | x::l,y::ms,j+1,s,m,h,h2=>by
  rw[List.take_succ_cons,List.take_succ_cons,List.take_succ_cons,List.take_succ_cons,anyQ,anyQ,Zcbe a l ms j s m (by simpa using h) (by simpa using h2),Bool.or_assoc]
theorem Zcbo {r:RuleS} (hN:Zbj r) (o:ByteArray) {k:Nat} {s:StepS} (hs:r.steps[k]? =some s):(Zcbl [o] r.steps)[k]? =some (decide (s.out=o)||anyQ s.out r.steps (Zcbl [o] r.steps)):=by
 rw[Zcbn _ _ _ _ hs,Zcbc s.out (k+1) r.steps _ (λj t hj ht=>Zcbj hN ht hs (by omega))];have:decide (0<=Zoi [o] s.out)=decide (s.out=o):=by
  rw[decide_eq_decide,Zoj];simp
 rw[this]
theorem Zcbd (a:ByteArray):∀(l:List StepS) (ms ns:List Bool),(∀(j:Nat),ms[j]? =some true->ns[j]? =some true)->anyQ a l ms=true->anyQ a l ns=true
 | [],_,_,_,h=>by simp[anyQ]at h
 | _::_,[],_,_,h=>by simp[anyQ]at h
 | s::l,m::ms,ns,hm,h=>by
  rw[anyQ,Bool.or_eq_true,Bool.and_eq_true]at h
  match ns,hm with
  | [],hm=>
   exfalso
   rcases h with⟨h,_⟩|h
   ·have:=hm 0 (by rw[h];rfl);simp at this
   ·have:∀(l:List StepS) (ms:List Bool),(∀j:Nat,ms[j]? ≠some true)->anyQ a l ms=false:=by
     intro l
     induction l with
     | nil=>intro ms _;simp[anyQ]
     | cons s l ih=>
      intro ms hms
      cases ms with
      | nil=>simp[anyQ]
      | cons m ms=>
       have hm0:m=false:=by
        have:=hms 0
        cases m with
        | false=>rfl
        | true=>exact absurd rfl this
       rw[anyQ,ih ms (λj=>by have:=hms (j+1);simpa using this),hm0];rfl
    rw[this l ms (λj hj=>by have:=hm (j+1) (by simpa using hj);simp at this)]at h
    cases h
  | n::ns,hm=>
   rw[anyQ,Bool.or_eq_true,Bool.and_eq_true]
   rcases h with⟨h1,h2⟩|h
   ·refine .inl ⟨?_,h2⟩
    have:=hm 0 (by rw[h1];rfl);simpa using this
   ·exact .inr (Zcbd a l ms ns (λj hj=>by have:=hm (j+1) (by simpa using hj);simpa using this) h)
theorem Zcbm {o:ByteArray} {outs:List ByteArray} (ho:o∈outs):∀(l:List StepS) (j:Nat),(Zcbl [o] l)[j]? =some true->(Zcbl outs l)[j]? =some true
 | [],j,h=>by simp[Zcbl]at h
 | s::l,0,h=>by
  simp only[Zcbl,List.getElem?_cons_zero,Option.some.injEq,Bool.or_eq_true,decide_eq_true_eq,Zoj]at h⊢
  rcases h with h|h
  ·obtain rfl:s.out=o:=by simpa using h
   exact .inl ho
  ·exact .inr (Zcbd _ _ _ _ (Zcbm ho l) h)
 | s::l,j+1,h=>by
  have:=Zcbm ho l j (by simpa[Zcbl]using h);simpa[Zcbl]using this
theorem Zcbr {r:RuleS} {o:ByteArray} (ho:o∈r.outs) {f:ByteArray} (hf:f∈Zbgw r [o]):0<=Zoi r.ins f/\0<=Zoi (Zbgw r r.outs) f:=by
 have mem:∀outs,f∈Zbgw r outs↔f∈r.ins/\anyQ f r.steps (Zcbl outs r.steps)=true:=λouts=>by
  unfold Zbgw;rw[Zcbx,List.mem_filter,decide_eq_true_eq,Zoj,Zcbf,Zcbp]
 rw[mem]at hf;rw[Zoj,Zoj,mem];exact⟨hf.1,hf.1,Zcbd _ _ _ _ (Zcbm ho r.steps) hf.2⟩
theorem Zcby (b:Bool):∀(l:List Bool) (k:Nat),(whL b k l).Pairwise λx y=>x<y
 | [],_=>List.Pairwise.nil
 | x::l,k=>by
  rw[whL];have ih:=Zcby b l (k+1);split
  ·refine List.pairwise_cons.2 ⟨λy hy=>?_,ih⟩
   have:=((Zbsu b l (k+1) y).1 hy).1;omega
  ·exact ih
def setM (ms:List Bool) (ks:List Nat):List Bool:=(List.range ms.length).map λk=>decide (k∈ks)
theorem Zcbw (ms:List Bool):setM ms []=List.replicate ms.length false:=by
 unfold setM;refine List.ext_getElem? λi=>?_
 rw[List.getElem?_map,List.getElem?_replicate]
 by_cases h:i<ms.length
 ·rw[List.getElem?_range h,if_pos h];simp
 ·rw[List.getElem?_eq_none (by simpa using h),if_neg h];rfl
theorem Zcbt (ms:List Bool):setM ms (whL true 0 ms)=ms:=by
 unfold setM;refine List.ext_getElem? λi=>?_
 rw[List.getElem?_map]
 by_cases h:i<ms.length
 ·rw[List.getElem?_range h,List.getElem?_eq_getElem h]
  show some (decide (i∈whL true 0 ms))=some ms[i]
  congr 1
  have h2:(i∈whL true 0 ms)↔ms[i]=true:=by rw[Zbsu,Nat.sub_zero,List.getElem?_eq_getElem h];simp
  cases e:ms[i]with
  | true=>exact decide_eq_true (h2.2 e)
  | false=>exact decide_eq_false (λhm=>by rw[h2.1 hm]at e;cases e)
 ·rw[List.getElem?_eq_none (by simpa using h),List.getElem?_eq_none (by omega)];rfl
theorem Zcbv (ms:List Bool) (ks:List Nat) {j k:Nat} (hj:ks[j]? =some k):setM ms (ks.take (j+1))=(setM ms (ks.take j)).set k true:=by
 unfold setM;refine List.ext_getElem? λi=>?_
 rw[List.getElem?_map,List.getElem?_set,List.length_map,List.length_range,List.getElem?_map]
 by_cases h:i<ms.length
 ·rw[List.getElem?_range h]
  by_cases e:k=i
  ·subst e
   rw[if_pos rfl,if_pos h,List.take_add_one,hj];simp
  ·rw[if_neg e,List.take_add_one,hj]
   have e':¬i=k:=λx=>e x.symm
   simp[e']
 ·rw[List.getElem?_eq_none (by simpa using h)]
  split
  ·rename_i e;subst e;rw[if_neg h];rfl
  ·rfl
theorem Zcbu (ms:List Bool) {j k:Nat} (hj:(whL true 0 ms)[j]? =some k):k<ms.length/\(setM ms ((whL true 0 ms).take j))[k]? =some false:=by
 have hk:k<ms.length:=Zbst true ms k (List.mem_of_getElem? hj);refine⟨hk,?_⟩;unfold setM;rw[List.getElem?_map,List.getElem?_range hk];show some (decide (k∈_))=some false
 congr 1
 rw[decide_eq_false_iff_not];intro hm;obtain⟨i,hi⟩:=List.getElem?_of_mem hm;rw[List.getElem?_take]at hi;split at hi
 ·rename_i hij
  have hp:=List.pairwise_iff_getElem.1 (Zcby true ms 0);obtain⟨h1,e1⟩:=List.getElem?_eq_some_iff.1 hi;obtain⟨h2,e2⟩:=List.getElem?_eq_some_iff.1 hj;have:=hp i j h1 h2 hij;omega
 ·cases hi
end Go.Proofs.YthkehhphnbckaaaGreatDoor
