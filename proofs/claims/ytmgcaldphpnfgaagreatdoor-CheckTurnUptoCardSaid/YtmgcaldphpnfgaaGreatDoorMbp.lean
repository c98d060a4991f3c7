import Derived.Test.YtmgcaldphpnfgaaGreatDoorMbo
import Derived.Test.YtmgcaldphpnfgaaGreatDoorMbm
namespace Go.Proofs.YtmgcaldphpnfgaaGreatDoor
open Go.Lib (hid)
theorem Zbwe {n:Nat} {p:Nat->Bool} (h:∀k,k<n->p k=false):(List.range n).find? p=none:=by
 rw[List.find?_eq_none];intro k hk;rw[h k (by simpa using hk)];decide
theorem Zbvb:∀ {ks L:List ByteArray},ks.Nodup->(∀k∈ks,k∉L)->(addS L ks).length=L.length+ks.length
 | [],L,_,_=>by simp[addS]
 | k::ks,L,hn,hd=>by
  have e:addS L (k::ks)=addS (insS L k) ks:=rfl;have hi:insS L k=L ++ [k]:=by unfold insS;rw[if_neg (λh=>hd k (by simp) (Zsj.1 h))]
  obtain⟨h1,h2⟩:=List.nodup_cons.1 hn;rw[e,Zbvb h2 (λa ha hm=>?_),hi]
  ·simp only[List.length_append,List.length_cons,List.length_nil];omega
  ·rw[hi]at hm
   rcases List.mem_append.1 hm with hm|hm
   ·exact hd a (by simp[ha]) hm
   ·obtain rfl:a=k:=by simpa using hm
    exact h1 ha
theorem Zbya {rs:List RuleS} {k:Nat} {x:RuleS} (h:x∈rs.take k):∃i,i<k/\rs[i]? =some x:=by
 obtain⟨i,hi⟩:=List.getElem?_of_mem h;rw[List.getElem?_take]at hi;split at hi
 ·exact⟨i,by assumption,hi⟩
 ·cases hi
theorem Zbxz {rs:List RuleS} (hn:∀(i j:Nat) x y,rs[i]? =some x->rs[j]? =some y->i<j->x.name≠y.name) (ho:∀r∈rs,r.outs.Nodup) (hf:∀(i j:Nat) x y,rs[i]? =some x->rs[j]? =some y->i<j->∀a∈x.outs,a∉y.outs):(List.range rs.length).find? (takP rs)=none:=by
 refine Zbwe λk hk=>?_
 have hx:=List.getElem?_eq_getElem hk;unfold takP;rw[hx];simp only[Option.map_some,Option.getD_some];unfold takB;rw[Bool.or_eq_false_iff];constructor
 ·cases e:inS (nmS (rs.take k)) rs[k].name with
  | false=>rfl
  | true=>
   obtain⟨y,hy,he⟩:=Zbbb.1 (Zsj.1 e);obtain⟨i,hik,hi⟩:=Zbya hy;exact absurd he.symm (hn i k y _ hi hx hik)
 ·rw[Zbvb (ho _ (List.getElem_mem _)) (λa ha hm=>?_)]
  ·simp
  ·obtain⟨y,hy,he⟩:=Zpk.1 hm
   obtain⟨i,hik,hi⟩:=Zbya hy;exact hf i k y _ hi hx hik a he ha
theorem Zbxq {rs:List RuleS} (h:∀r∈rs,Zbip r=0):rs.find? (λr=> !decide (Zbip r=0))=none:=by
 rw[List.find?_eq_none];intro r hr;simp[h r hr]
theorem OkTog.before {rs:List RuleS} (h:OkTog rs):Zet rs=(0,⟨#[]⟩):=by
 unfold Zet;rw[Zbxq h.each];simp only;rw[if_neg (by have:=h.few;omega),Zbxz h.names h.own h.files];simp only;have ha:(List.range rs.length).find? (astP rs)=none:=by
  refine Zbwe λk hk=>?_
  unfold astP;rw[List.getElem?_eq_getElem hk];simp only[Option.map_some,Option.getD_some,Bool.not_eq_false',List.all_eq_true];intro a hm;exact Zsj.2 (Zbbb.2 (h.after _ (List.getElem_mem _) a hm))
 rw[ha]
open Go.RowKit Go.Shelf
def Zckh (s:ByteArray):List StepS->List StepS
 | []=>[]
 | y::l=>{ y with out:=s } ::l
def chgR (k:Nat) (r:RuleS) (s:ByteArray) (x:StepS):RuleS:=
 if k=0 then { r with name:=s } else if k=1 then { r with ins:=r.ins ++ [s] } else if k=2 then { r with outs:=r.outs ++ [s] } else if k=3 then { r with after:=r.after ++ [s] }
 else if k=4 then { r with steps:=r.steps ++ [x] } else if k=5 then { r with steps:=Zckh s r.steps } else { r with steps:=r.steps.drop 1 }
theorem Zckm {r:RuleS} (h:Zbip r=0):r.ins.length<=8/\r.outs.length<=4/\r.after.length<=8/\r.steps.length<=12:=by
 unfold Zbip at h;split at h
 ·cases h
 split at h
 ·cases h
 rename_i h2
 have h2:Zbkx r=true:=by simpa using h2
 unfold Zbkx at h2;simp only[Bool.and_eq_true,decide_eq_true_eq]at h2;exact⟨h2.1.1.1,h2.1.1.2,h2.1.2,h2.2⟩
theorem Zcki (s:ByteArray) (l:List StepS):(Zckh s l).length=l.length:=by cases l<;>rfl
theorem Zckj {s:ByteArray} {l:List StepS} {y:StepS} (h:y∈Zckh s l):∃z∈l,y=z∨y = { z with out:=s }:=by
 cases l with
 | nil=>simp[Zckh]at h
 | cons z l=>
  rcases List.mem_cons.1 h with rfl|h
  ·exact⟨z,by simp,.inr rfl⟩
  ·exact⟨y,by simp[h],.inl rfl⟩
theorem Zckd {k:Nat} {r:RuleS} {s:ByteArray} {x:StepS} (h:Zbip r=0) (hr:ShortR r) (hx:x.args.length<=8/\x.lits.length<=3):ShortR (chgR k r s x):=by
 obtain⟨b1,b2,b3,b4⟩:=Zckm h;obtain⟨a1,a2,a3,a4,a5⟩:=hr;unfold chgR;split
 ·exact⟨a1,a2,a3,a4,a5⟩
 split
 ·exact⟨by show(r.ins ++ [s]).length<=10;rw[List.length_append,List.length_singleton];omega,a2,a3,a4,a5⟩
 split
 ·exact⟨a1,by show(r.outs ++ [s]).length<=6;rw[List.length_append,List.length_singleton];omega,a3,a4,a5⟩
 split
 ·exact⟨a1,a2,by show(r.after ++ [s]).length<=10;rw[List.length_append,List.length_singleton];omega,a4,a5⟩
 split
 ·refine⟨a1,a2,a3,by show(r.steps ++ [x]).length<=14;rw[List.length_append,List.length_singleton];omega,λy hy=>?_⟩
  rcases List.mem_append.1 (show y∈r.steps ++ [x]from hy)with hy|hy
  ·exact a5 y hy
  ·obtain rfl:y=x:=by simpa using hy
   exact hx
 split
 ·refine⟨a1,a2,a3,by show(Zckh s r.steps).length<=14;rw[Zcki];omega,λy hy=>?_⟩
  obtain⟨z,hz,rfl|rfl⟩:=Zckj (show y∈Zckh s r.steps from hy)
  ·exact a5 y hz
  ·exact a5 z hz
 ·exact⟨a1,a2,a3,by show(r.steps.drop 1).length<=14;rw[List.length_drop];omega,λy hy=>a5 y (List.mem_of_mem_drop (show y∈r.steps.drop 1 from hy))⟩
theorem Zcke {k m:Nat} {r:RuleS} {s:ByteArray} {x:StepS} (h:Zbip r=0) (hr:SmallR r m) (hm:13<=m) (hs:s.size<=m) (hx:SmallS x m):SmallR (chgR k r s x) m:=by
 obtain⟨b1,b2,b3,b4⟩:=Zckm h;obtain⟨a0,a1,a2,a3,a4,a5⟩:=hr;have app:∀ {l:List ByteArray},SmallL l m->l.length<=12->SmallL (l ++ [s]) m:=by
  intro l hl hn;refine⟨by rw[List.length_append,List.length_singleton];omega,λz hz=>?_⟩
  rcases List.mem_append.1 hz with hz|hz
  ·exact hl.2 z hz
  ·obtain rfl:z=s:=by simpa using hz
   exact hs
 unfold chgR;split
 ·exact⟨hs,a1,a2,a3,a4,a5⟩
 split
 ·exact⟨a0,app a1 (by omega),a2,a3,a4,a5⟩
 split
 ·exact⟨a0,a1,app a2 (by omega),a3,a4,a5⟩
 split
 ·exact⟨a0,a1,a2,app a3 (by omega),a4,a5⟩
 split
 ·refine⟨a0,a1,a2,a3,by show(r.steps ++ [x]).length<=m;rw[List.length_append,List.length_singleton];omega,λy hy=>?_⟩
  rcases List.mem_append.1 (show y∈r.steps ++ [x]from hy)with hy|hy
  ·exact a5 y hy
  ·obtain rfl:y=x:=by simpa using hy
   exact hx
 split
 ·refine⟨a0,a1,a2,a3,by show(Zckh s r.steps).length<=m;rw[Zcki];omega,λy hy=>?_⟩
  obtain⟨z,hz,rfl|rfl⟩:=Zckj (show y∈Zckh s r.steps from hy)
  ·exact a5 y hz
  ·have:=a5 z hz
   exact⟨hs,this.args,this.lits,this.op,this.n⟩
 ·exact⟨a0,a1,a2,a3,by show(r.steps.drop 1).length<=m;rw[List.length_drop];omega,λy hy=>a5 y (List.mem_of_mem_drop (show y∈r.steps.drop 1 from hy))⟩
theorem AllA.take {α:Type} {P:List Value->α->Prop} {rows:List (List Value)} {xs:List α} (h:AllA P rows xs) (m:Nat):AllA P (rows.take m) (xs.take m):=
 ⟨by rw[List.length_take,List.length_take,h.1],λj r x hr hx=>by
  rw[List.getElem?_take]at hr hx;split at hr
  ·rename_i hj;rw[if_pos hj]at hx;exact h.2 j r x hr hx
  ·cases hr⟩
theorem AllA.drop {α:Type} {P:List Value->α->Prop} {rows:List (List Value)} {xs:List α} (h:AllA P rows xs) (m:Nat):AllA P (rows.drop m) (xs.drop m):=
 ⟨by rw[List.length_drop,List.length_drop,h.1],λj r x hr hx=>by
  rw[List.getElem?_drop]at hr hx;exact h.2 _ r x hr hx⟩
def BoxQ (B:Nat) (w:World) (z:RuleS) (V:World):Prop:=∃u1 u2 u3 u4 m1 m2 m3 m4,V.heap[B]? =some (.cells #[.string z.name,.slice u1 z.ins.length m1,.slice u2 z.outs.length m2,.slice u3 z.after.length m3,.slice u4 z.steps.length m4] 25)/\RuleI V [.string z.name,.slice u1 z.ins.length m1,.slice u2 z.outs.length m2,.slice u3 z.after.length m3,.slice u4 z.steps.length m4] z/\Below B w V/\B+1<=V.heap.size
theorem Zckc {B:Nat} {w V:World} {z:RuleS} {vi vo vf vs:Value} (hx:V.heap[B]? =some (.cells #[.string z.name,vi,vo,vf,vs] 25)) (h1:IsStrs V vi z.ins) (h2:IsStrs V vo z.outs) (h3:IsStrs V vf z.after) (h4:StepsI V vs z.steps) (hb:Below B w V):BoxQ B w z V:=by
 obtain⟨u1,m1,rfl⟩:=Zue h1;obtain⟨u2,m2,rfl⟩:=Zue h2;obtain⟨u3,m3,rfl⟩:=Zue h3;obtain⟨u4,m4,rfl⟩:=Zbov h4;exact⟨u1,u2,u3,u4,m1,m2,m3,m4,hx,⟨_,_,_,_,rfl,h1,h2,h3,h4⟩,hb,(Array.getElem?_eq_some_iff.1 hx).1⟩
structure CpS (S B0:Nat) (V:World) (y:RuleS) (vi vo vf vs:Value) (rs:List (List Value)):Prop where
 ins:StrsW (λb=>b<S) V vi y.ins
 outs:StrsW (λb=>b<S) V vo y.outs
 after:StrsW (λb=>b<S) V vf y.after
 ap:Ap3 vi vo vf
 le:S<=B0
 sz:B0<=V.heap.size
 lo:∀b,vi.ownBlock=some b∨vo.ownBlock=some b∨vf.ownBlock=some b->b<B0
 own:V.ownsRow B0 42 5 vs rs.length rs.flatten
 all:AllA (StepA (AvOf B0 vs) V) rs y.steps
theorem Zckn {Av:Nat->Prop} {w:World} {r:List Value} {x:StepS} (h:StepA Av w r x):Zcc w r x:=by
 obtain⟨va,vl,e,h1,h2⟩:=h;exact⟨va,vl,e,StrsA.isStrs h1,StrsA.isStrs h2⟩
theorem CpS.keep {S B0 B:Nat} {V V':World} {y:RuleS} {vi vo vf vs:Value} {rs:List (List Value)} (h:CpS S B0 V y vi vo vf vs rs) (hB:B<S) (hf:Fr (λb=>b=B) V V'):CpS S B0 V' y vi vo vf vs rs:=
 have hS:Fr (λb=>b<S) V V':=hf.mono λ_ _ e=>by omega
 ⟨h.ins.keep hS,h.outs.keep hS,h.after.keep hS,h.ap,h.le,Nat.le_trans h.sz hf.size,h.lo,Zckk h.own λb e=>hf.block b (h.own.lt b e).2 (by have:=(h.own.lt b e).1;have:=h.le;omega),h.all.imp λ_ _ k=>k.keep (hf.mono λ_ _ e=> .inl (by have:=h.le;omega))⟩
theorem CpS.stepsA {S B0:Nat} {V:World} {y:RuleS} {vi vo vf vs:Value} {rs:List (List Value)} (h:CpS S B0 V y vi vo vf vs rs):StepsA (λb=>b<B0) V vs y.steps:=
 ⟨rs,Zbif h.own (h.all.len λ_ _ h=>h.len),h.all.imp λ_ _ h=>h.mono λ_ _ hb=> .inl hb⟩
theorem CpS.box {S B0 B:Nat} {w V:World} {y:RuleS} {vi vo vf vs:Value} {rs:List (List Value)} (h:CpS S B0 V y vi vo vf vs rs) (hx:V.heap[B]? =some (.cells #[.string y.name,vi,vo,vf,vs] 25)) (hb:Below B w V):BoxQ B w y V:=
 Zckc hx (StrsA.isStrs h.ins.1.1) (StrsA.isStrs h.outs.1.1) (StrsA.isStrs h.after.1.1) ⟨rs,Zbij h.own (h.all.len λ_ _ h=>h.len),h.all.imp λ_ _ k=>Zckn k⟩ hb
theorem Zcko {S:Nat} {w:World} {v u:Value} {xs:List ByteArray} (h:StrsW (λb=>b<S) w v xs) (hne:∀b,v.ownBlock=some b->u.ownBlock≠some b):StrsA (λb=>b<S∨u.ownBlock=some b) w v xs:=
 ⟨h.1.1.1,λb e=>⟨(h.1.1.2 b e).1,λh'=>h'.elim (h.1.1.2 b e).2 (hne b e)⟩⟩
theorem CpS.named {S B0 B:Nat} {w V:World} {y:RuleS} {vi vo vf vs:Value} {rs:List (List Value)} (h:CpS S B0 V y vi vo vf vs rs) (hB:B<S) (hx:V.heap[B]? =some (.cells #[.string y.name,vi,vo,vf,vs] 25)) (hb:Below B w V) (s:ByteArray):BoxQ B w { y with name:=s } (V.setCell ⟨B,0,none⟩ (.string s)):=by
 have hf:Fr (λb=>b=B) V (V.setCell ⟨B,0,none⟩ (.string s)):=Zpy (Av:=λb=>b=B) (a:=⟨B,0,none⟩) rfl _;have h':=h.keep hB hf;exact Zckc (heap_set 0 _ hx) (StrsA.isStrs h'.ins.1.1) (StrsA.isStrs h'.outs.1.1) (StrsA.isStrs h'.after.1.1) ⟨rs,Zbij h'.own (h'.all.len λ_ _ h=>h.len),h'.all.imp λ_ _ k=>Zckn k⟩ (hb.setCell (p:=⟨B,0,none⟩) (Nat.le_refl _) _)
theorem CpS.moreI {S B0 B:Nat} {w V V1 w7:World} {y:RuleS} {vi vo vf vs v':Value} {rs:List (List Value)} (h:CpS S B0 V y vi vo vf vs rs) (hB:B<S) (hx:V.heap[B]? =some (.cells #[.string y.name,vi,vo,vf,vs] 25)) (hb:Below B w V) (s:ByteArray) (hb1:Below V.heap.size V V1)
  (hown:w7.ownsRow 0 9 1 v' (y.ins.length+1) (y.ins.map Value.string ++ [.string s])) (hgr:V1.grownBy w7 vi.ownBlock) (hnew:∀b,v'.ownBlock=some b->vi.ownBlock=some b∨V1.heap.size<=b):BoxQ B w { y with ins:=y.ins ++ [s] } (w7.setCell ⟨B,1,none⟩ v'):=by
 have hBV:B<V.heap.size:=(Array.getElem?_eq_some_iff.1 hx).1;have hnB:∀b,vi.ownBlock=some b->b≠B:=λb e e'=>(h.ins.1.1.2 b e).2 (by show b<S;omega)
 have hf:Fr (λb=>b<S∨vi.ownBlock=some b) V (w7.setCell ⟨B,1,none⟩ v'):=(Zpv hb1).trans ((Zpx hgr λk hk=> .inr hk).trans (Zpy (a:=⟨B,1,none⟩) (.inl hB) _));have hb7:Below B w w7:=(hb.trans (hb1.mono (by omega))).grown hgr (by have:=hb1.size;omega) (λk hk=>by have:=hnB k hk;have:=(h.ins.1.1.2 k hk).2;have:¬k<S:=this;omega);have hx7:w7.heap[B]? =some (.cells #[.string y.name,vi,vo,vf,vs] 25):=(hgr.block B (by have:=hb1.size;omega) (λe=>hnB B e.symm rfl)).trans ((hb1.block B hBV).trans hx);have hv:=Zckk (w':=w7.setCell ⟨B,1,none⟩ v') hown λb e=>Below.heap_setCell _ _ _ _ (by
  show b≠B
  rcases hnew b e with k|k
  ·exact hnB b k
  ·have:=hb1.size;omega)
 have hst:StepsA (λb=>b<S∨vi.ownBlock=some b) V vs y.steps:=h.stepsA.mono λb _ e=>by
  rcases e with e|e
  ·have:=h.le;omega
  ·exact h.lo b (.inl e)
 obtain⟨rows,r1,r2⟩:=hst.keep hf;exact Zckc (vi:=v') (vo:=vo) (vf:=vf) (vs:=vs) (heap_set 1 v' hx7) (Zbqq (by simpa using hv)) (StrsA.isStrs (RowA.keep (Zcko h.outs (λb e e'=>((h.ap b).1 e').1 e)) hf)) (StrsA.isStrs (RowA.keep (Zcko h.after (λb e e'=>((h.ap b).1 e').2 e)) hf)) ⟨rows,r1.1,r2.imp λ_ _ k=>Zckn k⟩ (hb7.setCell (p:=⟨B,1,none⟩) (Nat.le_refl _) _)
theorem CpS.moreO {S B0 B:Nat} {w V V1 w7:World} {y:RuleS} {vi vo vf vs v':Value} {rs:List (List Value)} (h:CpS S B0 V y vi vo vf vs rs) (hB:B<S) (hx:V.heap[B]? =some (.cells #[.string y.name,vi,vo,vf,vs] 25)) (hb:Below B w V) (s:ByteArray) (hb1:Below V.heap.size V V1)
  (hown:w7.ownsRow 0 9 1 v' (y.outs.length+1) (y.outs.map Value.string ++ [.string s])) (hgr:V1.grownBy w7 vo.ownBlock) (hnew:∀b,v'.ownBlock=some b->vo.ownBlock=some b∨V1.heap.size<=b):BoxQ B w { y with outs:=y.outs ++ [s] } (w7.setCell ⟨B,2,none⟩ v'):=by
 have hBV:B<V.heap.size:=(Array.getElem?_eq_some_iff.1 hx).1;have hnB:∀b,vo.ownBlock=some b->b≠B:=λb e e'=>(h.outs.1.1.2 b e).2 (by show b<S;omega)
 have hf:Fr (λb=>b<S∨vo.ownBlock=some b) V (w7.setCell ⟨B,2,none⟩ v'):=(Zpv hb1).trans ((Zpx hgr λk hk=> .inr hk).trans (Zpy (a:=⟨B,2,none⟩) (.inl hB) _));have hb7:Below B w w7:=(hb.trans (hb1.mono (by omega))).grown hgr (by have:=hb1.size;omega) (λk hk=>by have:=hnB k hk;have:=(h.outs.1.1.2 k hk).2;have:¬k<S:=this;omega);have hx7:w7.heap[B]? =some (.cells #[.string y.name,vi,vo,vf,vs] 25):=(hgr.block B (by have:=hb1.size;omega) (λe=>hnB B e.symm rfl)).trans ((hb1.block B hBV).trans hx);have hv:=Zckk (w':=w7.setCell ⟨B,2,none⟩ v') hown λb e=>Below.heap_setCell _ _ _ _ (by
  show b≠B
  rcases hnew b e with k|k
  ·exact hnB b k
  ·have:=hb1.size;omega)
 have hst:StepsA (λb=>b<S∨vo.ownBlock=some b) V vs y.steps:=h.stepsA.mono λb _ e=>by
  rcases e with e|e
  ·have:=h.le;omega
  ·exact h.lo b (.inr (.inl e))
 obtain⟨rows,r1,r2⟩:=hst.keep hf;exact Zckc (vi:=vi) (vo:=v') (vf:=vf) (vs:=vs) (heap_set 2 v' hx7) (StrsA.isStrs (RowA.keep (Zcko h.ins (λb e e'=>((h.ap b).1 e).1 e')) hf)) (Zbqq (by simpa using hv)) (StrsA.isStrs (RowA.keep (Zcko h.after (λb e e'=>(h.ap b).2 e' e)) hf)) ⟨rows,r1.1,r2.imp λ_ _ k=>Zckn k⟩ (hb7.setCell (p:=⟨B,2,none⟩) (Nat.le_refl _) _)
theorem CpS.moreF {S B0 B:Nat} {w V V1 w7:World} {y:RuleS} {vi vo vf vs v':Value} {rs:List (List Value)} (h:CpS S B0 V y vi vo vf vs rs) (hB:B<S) (hx:V.heap[B]? =some (.cells #[.string y.name,vi,vo,vf,vs] 25)) (hb:Below B w V) (s:ByteArray) (hb1:Below V.heap.size V V1)
  (hown:w7.ownsRow 0 9 1 v' (y.after.length+1) (y.after.map Value.string ++ [.string s])) (hgr:V1.grownBy w7 vf.ownBlock) (hnew:∀b,v'.ownBlock=some b->vf.ownBlock=some b∨V1.heap.size<=b):BoxQ B w { y with after:=y.after ++ [s] } (w7.setCell ⟨B,3,none⟩ v'):=by
 have hBV:B<V.heap.size:=(Array.getElem?_eq_some_iff.1 hx).1;have hnB:∀b,vf.ownBlock=some b->b≠B:=λb e e'=>(h.after.1.1.2 b e).2 (by show b<S;omega)
 have hf:Fr (λb=>b<S∨vf.ownBlock=some b) V (w7.setCell ⟨B,3,none⟩ v'):=(Zpv hb1).trans ((Zpx hgr λk hk=> .inr hk).trans (Zpy (a:=⟨B,3,none⟩) (.inl hB) _));have hb7:Below B w w7:=(hb.trans (hb1.mono (by omega))).grown hgr (by have:=hb1.size;omega) (λk hk=>by have:=hnB k hk;have:=(h.after.1.1.2 k hk).2;have:¬k<S:=this;omega);have hx7:w7.heap[B]? =some (.cells #[.string y.name,vi,vo,vf,vs] 25):=(hgr.block B (by have:=hb1.size;omega) (λe=>hnB B e.symm rfl)).trans ((hb1.block B hBV).trans hx);have hv:=Zckk (w':=w7.setCell ⟨B,3,none⟩ v') hown λb e=>Below.heap_setCell _ _ _ _ (by
  show b≠B
  rcases hnew b e with k|k
  ·exact hnB b k
  ·have:=hb1.size;omega)
 have hst:StepsA (λb=>b<S∨vf.ownBlock=some b) V vs y.steps:=h.stepsA.mono λb _ e=>by
  rcases e with e|e
  ·have:=h.le;omega
  ·exact h.lo b (.inr (.inr e))
 obtain⟨rows,r1,r2⟩:=hst.keep hf;exact Zckc (vi:=vi) (vo:=vo) (vf:=v') (vs:=vs) (heap_set 3 v' hx7) (StrsA.isStrs (RowA.keep (Zcko h.ins (λb e e'=>((h.ap b).1 e).2 e')) hf)) (StrsA.isStrs (RowA.keep (Zcko h.outs (λb e e'=>(h.ap b).2 e e')) hf)) (Zbqq (by simpa using hv)) ⟨rows,r1.1,r2.imp λ_ _ k=>Zckn k⟩ (hb7.setCell (p:=⟨B,3,none⟩) (Nat.le_refl _) _)
theorem ap_s {S B0:Nat} {V:World} {y:RuleS} {vi vo vf vs:Value} {rs:List (List Value)} (h:CpS S B0 V y vi vo vf vs rs) {b:Nat} (e:vi.ownBlock=some b∨vo.ownBlock=some b∨vf.ownBlock=some b):vs.ownBlock≠some b:=λe'=>by
 have:=h.lo b e;have:=(h.own.lt b e').1;omega
theorem CpS.moreS {S B0 B:Nat} {w V V1 w7:World} {y:RuleS} {vi vo vf vs v':Value} {rs:List (List Value)} (h:CpS S B0 V y vi vo vf vs rs) (hB:B<S) (hx:V.heap[B]? =some (.cells #[.string y.name,vi,vo,vf,vs] 25)) (hb:Below B w V) {x:StepS} {va vl:Value} (hb1:Below V.heap.size V V1) (ha:StrsA (λb=>b<V.heap.size) V1 va x.args) (hl:StrsA (λb=>b<V.heap.size) V1 vl x.lits)
  (hown:w7.ownsRow B0 42 5 v' (rs.length+1) (rs.flatten ++ [.string x.out,.int .i64 x.op,va,vl,.int .i64 x.n])) (hgr:V1.grownBy w7 vs.ownBlock) (hnew:∀b,v'.ownBlock=some b->vs.ownBlock=some b∨V1.heap.size<=b):BoxQ B w { y with steps:=y.steps ++ [x] } (w7.setCell ⟨B,4,none⟩ v'):=by
 have hBV:B<V.heap.size:=(Array.getElem?_eq_some_iff.1 hx).1;have hle:=h.le;have hBV0:∀b,vs.ownBlock=some b->B0<=b:=λb e=>(h.own.lt b e).1
 have hf:Fr (λb=>b<S∨vs.ownBlock=some b) V (w7.setCell ⟨B,4,none⟩ v'):=(Zpv hb1).trans ((Zpx hgr λk hk=> .inr hk).trans (Zpy (a:=⟨B,4,none⟩) (.inl hB) _));have hb7:Below B w w7:=(hb.trans (hb1.mono (by omega))).grown hgr (by have:=hb1.size;omega) (λk hk=>by have:=hBV0 k hk;omega);have hx7:w7.heap[B]? =some (.cells #[.string y.name,vi,vo,vf,vs] 25):=(hgr.block B (by have:=hb1.size;omega) (λe=>by have:=hBV0 B e.symm;omega)).trans ((hb1.block B hBV).trans hx);have hv:(w7.setCell ⟨B,4,none⟩ v').ownsRow B0 42 5 v' (rs.length+1) (rs.flatten ++ [.string x.out,.int .i64 x.op,va,vl,.int .i64 x.n]):=Zckk hown λb e=>Below.heap_setCell _ _ _ _ (by
  show b≠B;have:=(hown.lt b e).1;omega)
 have hnewr:StepA (AvOf B0 vs) V1 [.string x.out,.int .i64 x.op,va,vl,.int .i64 x.n] x:=StepA.mono (Av:=λb=>b<V.heap.size) ⟨va,vl,rfl,ha,hl⟩ λb _ e=>by
  rcases e with e|e
  ·have:=h.sz;omega
  ·exact(h.own.lt b e).2
 have hall:=(Zqy ((h.all.imp λ_ _ k=>k.keep (Zpv hb1)).snoc hnewr) hgr hnew).imp λr x (k:StepA (AvOf B0 v') w7 r x)=>k.keep (w':=w7.setCell ⟨B,4,none⟩ v') (Zpy (a:=⟨B,4,none⟩) (.inl (by show B<B0;omega)) _)
 have hrow:=Zbij (rows:=rs ++ [[.string x.out,.int .i64 x.op,va,vl,.int .i64 x.n]]) (by rw[List.length_append,List.flatten_append];simpa using hv) (hall.len λ_ _ h=>h.len);exact Zckc (heap_set 4 v' hx7) (StrsA.isStrs (RowA.keep (Zcko h.ins (λb e=>ap_s h (.inl e))) hf)) (StrsA.isStrs (RowA.keep (Zcko h.outs (λb e=>ap_s h (.inr (.inl e)))) hf)) (StrsA.isStrs (RowA.keep (Zcko h.after (λb e=>ap_s h (.inr (.inr e)))) hf)) ⟨_,hrow,hall.imp λ_ _ k=>Zckn k⟩ (hb7.setCell (p:=⟨B,4,none⟩) (Nat.le_refl _) _)
theorem CpS.outS {S B0 B:Nat} {w V:World} {y:RuleS} {vi vo vf:Value} {rs:List (List Value)} {g n c:Nat} (h:CpS S B0 V y vi vo vf (.slice (some ⟨g,0,none⟩) n c) rs) (hB:B<S) (hx:V.heap[B]? =some (.cells #[.string y.name,vi,vo,vf,.slice (some ⟨g,0,none⟩) n c] 25)) (hb:Below B w V) (hn:0<n) (s:ByteArray):BoxQ B w { y with steps:=Zckh s y.steps } (V.setCell ⟨g,0,none⟩ (.string s)):=by
 have hle:=h.le;obtain⟨hl,h0|⟨g',c',cur,q,hgB,hg,hnc,hcm,hcs,htk⟩⟩:=id h.own
 ·cases h0.1
 injection q with q1 q2 q3
 injection q1 with q1
 injection q1 with q1
 subst q1 q2 q3;have hall:=h.all
 cases hrs:rs with
 | nil=>rw[hrs]at hn;simp at hn
 | cons r0 tl=>
  rw[hrs]at hall hl htk
  cases hys:y.steps with
  | nil=>have:=hall.1;rw[hys]at this;simp at this
  | cons t l=>
   rw[hys]at hall;obtain⟨va,vl,e0,ha,hb'⟩:=hall.2 0 r0 t rfl rfl;subst e0;have hf:Fr (AvOf B0 (.slice (some ⟨g,0,none⟩) rs.length c)) V (V.setCell ⟨g,0,none⟩ (.string s)):=Zpy (a:=⟨g,0,none⟩) (.inr rfl) _;have hf2:Fr (λb=>b<S∨(Value.slice (some ⟨g,0,none⟩) rs.length c).ownBlock=some b) V (V.setCell ⟨g,0,none⟩ (.string s)):=Zpy (a:=⟨g,0,none⟩) (.inr rfl) _;have hg':(V.setCell ⟨g,0,none⟩ (.string s)).heap[g]? =some (.cells (cur.setIfInBounds 0 (.string s)) 42 (0,0)):=heap_set 0 (.string s) hg;have hall':AllA (StepA (AvOf B0 (.slice (some ⟨g,0,none⟩) rs.length c)) (V.setCell ⟨g,0,none⟩ (.string s))) ([.string s,.int .i64 t.op,va,vl,.int .i64 t.n]::tl) ({ t with out:=s } ::l):=by
    refine⟨by have:=hall.1;simpa using this,λj r x hr hx=>?_⟩
    cases j with
    | zero=>
     obtain rfl:_=r:=by simpa using hr
     obtain rfl:_=x:=by simpa using hx
     exact⟨va,vl,rfl,RowA.keep ha hf,RowA.keep hb' hf⟩
    | succ j=>exact(hall.2 (j+1) r x (by simpa using hr) (by simpa using hx)).keep hf
   have hown:(V.setCell ⟨g,0,none⟩ (.string s)).ownsRow B0 42 5 (.slice (some ⟨g,0,none⟩) rs.length c) rs.length ([.string s,.int .i64 t.op,va,vl,.int .i64 t.n]::tl).flatten:=by
    refine⟨by rw[hrs];simpa using hl,.inr ⟨g,c,_,rfl,hgB,hg',hnc,hcm,by simpa using hcs,?_⟩⟩;rw[Array.toList_setIfInBounds,List.take_set,hrs,htk];simp
   have hrow:=Zbij (rows:=[.string s,.int .i64 t.op,va,vl,.int .i64 t.n]::tl) (w:=V.setCell ⟨g,0,none⟩ (.string s)) (v:= .slice (some ⟨g,0,none⟩) rs.length c) (by rw[hrs]at hown;simpa[hrs]using hown) (hall'.len λ_ _ h=>h.len);refine Zckc (z:={ y with steps:=Zckh s (t::l) }) ((Below.heap_setCell _ _ _ _ (by show B≠g;omega)).trans hx) (StrsA.isStrs (RowA.keep (Zcko h.ins (λb e=>ap_s h (.inl e))) hf2)) (StrsA.isStrs (RowA.keep (Zcko h.outs (λb e=>ap_s h (.inr (.inl e)))) hf2)) (StrsA.isStrs (RowA.keep (Zcko h.after (λb e=>ap_s h (.inr (.inr e)))) hf2)) ⟨_,hrow,hall'.imp λ_ _ k=>Zckn k⟩ (hb.setCell (p:=⟨g,0,none⟩) (by show B<=g;omega) _)
theorem CpS.first {S B0:Nat} {V:World} {y:RuleS} {vi vo vf:Value} {rs:List (List Value)} {g n c:Nat} (h:CpS S B0 V y vi vo vf (.slice (some ⟨g,0,none⟩) n c) rs) (hn:0<n):∃u,V.cell? ⟨g,0,none⟩=some u/\V.frozen? ⟨g,0,none⟩=false:=by
 obtain⟨hl,h0|⟨g',c',cur,q,hgB,hg,hnc,hcm,hcs,htk⟩⟩:=id h.own
 ·cases h0.1
 injection q with q1 q2 q3
 injection q1 with q1
 injection q1 with q1
 subst q1 q2 q3;have h0:0<cur.size:=by omega
 exact⟨cur[0],by simp[World.cell?,hg,h0],by simp[World.frozen?,hg]⟩
theorem CpS.dropS {S B0 B:Nat} {w V:World} {y:RuleS} {vi vo vf:Value} {rs:List (List Value)} {a:Option Addr} {n c:Nat} (h:CpS S B0 V y vi vo vf (.slice a n c) rs) (hB:B<S) (hx:V.heap[B]? =some (.cells #[.string y.name,vi,vo,vf,.slice a n c] 25)) (hb:Below B w V) (hn:1<=n):BoxQ B w { y with steps:=y.steps.drop 1 } (V.setCell ⟨B,4,none⟩ (Zly 5 1 a n c)):=by
 have hf:Fr (λb=>b=B) V (V.setCell ⟨B,4,none⟩ (Zly 5 1 a n c)):=Zpy (Av:=λb=>b=B) (a:=⟨B,4,none⟩) rfl _;have h':=h.keep hB hf;have hrow:=Zbij h'.own (h'.all.len λ_ _ h=>h.len);exact Zckc (heap_set 4 _ hx) (StrsA.isStrs h'.ins.1.1) (StrsA.isStrs h'.outs.1.1) (StrsA.isStrs h'.after.1.1) ⟨rs.drop 1,hrow.drop hn,AllA.drop (P:=Zcc (V.setCell ⟨B,4,none⟩ (Zly 5 1 a n c))) (h'.all.imp λ_ _ k=>Zckn k) 1⟩ (hb.setCell (p:=⟨B,4,none⟩) (Nat.le_refl _) _)
theorem Zcaj (s:ByteArray) (n:Int) (w:World) (hs:s.size<=maxLen) (h0:0<=n) (h1:n<=1000000):
  Calls Tryz.prog 22 #[.string s,.int .i64 n] w λe w'=>e = .returned (.string (s.extract 0 (min s.size n.toNat)))/\w=w':=by
 unfold maxLen at hs
 go_enter Tryz.func22,Tryz.ntmps22
 go_wp2
 all_goals go_ret
 all_goals first
  | exact⟨rfl,rfl⟩
  | exact⟨Zbhr (by rw[Nat.min_eq_right (by omega)]),rfl⟩
  | exact⟨Zbhr (by congr 1;omega),rfl⟩
def Zbuy (x:StepS) (w:World) (e:Ending) (w':World):Prop:=∃b1 m1 b2 m2,e = .returned (.agg (Zbny (cutS x) b1 b2 m1 m2))/\StrsA (λb=>b<w.heap.size) w' (.slice b1 (cutS x).args.length m1) (cutS x).args/\StrsA (λb=>b<w.heap.size) w' (.slice b2 (cutS x).lits.length m2) (cutS x).lits/\Below w.heap.size w w'
theorem Zbwh (a b c d e:Value) (w:World):Sem.run Tryz.prog (Instr.field 25 (.agg #[a,b,c,d,e]) 4) w = .ok e w:=by
 unfold Instr.field;simp[go_sem,part,asAgg]
set_option maxHeartbeats 8000000
set_option maxRecDepth 100000
theorem Zbxx (x:StepS) (a1 a2:Option Addr) (c1 c2:Nat) (w:World) (h1:IsStrs w (.slice a1 x.args.length c1) x.args) (h2:IsStrs w (.slice a2 x.lits.length c2) x.lits) (hs:SmallS x 1048576):
  Calls Tryz.prog 23 #[.agg (Zbny x a1 a2 c1 c2)] w (Zbuy x w):=by
 obtain⟨W1,hW1⟩:∃W1,(w.alloc (.cells (Zbny x a1 a2 c1 c2) 42)).alloc (.cells #[.string ⟨#[]⟩,.int .i64 0,.slice none 0 0,.slice none 0 0,.int .i64 0] 42)=W1:=⟨_,rfl⟩;have hb1:Below w.heap.size w W1:=by rw[<-hW1];exact((Below.refl _ _).alloc (Nat.le_refl _) _).alloc (by simp) _
 have hs1:W1.heap.size=w.heap.size+2:=by rw[<-hW1];simp
 have hx1:W1.heap[w.heap.size]? =some (.cells (Zbny x a1 a2 c1 c2) 42):=by rw[<-hW1,Below.heap_alloc _ _ _ (by simp)];exact alloc_at w _
 have hx2:W1.heap[w.heap.size+1]? =some (.cells #[.string ⟨#[]⟩,.int .i64 0,.slice none 0 0,.slice none 0 0,.int .i64 0] 42):=by
  rw[<-hW1];have:=alloc_at (w.alloc (.cells (Zbny x a1 a2 c1 c2) 42)) (.cells #[.string ⟨#[]⟩,.int .i64 0,.slice none 0 0,.slice none 0 0,.int .i64 0] 42);simpa using this
 obtain⟨W2,hW2⟩:∃W2,W1.alloc (.cells (Zbny x a1 a2 c1 c2) 42)=W2:=⟨_,rfl⟩;have hb2:Below W1.heap.size W1 W2:=by rw[<-hW2];exact(Below.refl _ _).alloc (Nat.le_refl _) _
 have hbw2:Below w.heap.size w W2:=hb1.trans (hb2.mono hb1.size);have hr:RuleI W2 [.string ⟨#[]⟩,.slice none 0 0,.slice none 0 0,.slice none 0 0,.slice (some ⟨W1.heap.size,0,none⟩) 1 1] ⟨⟨#[]⟩,[],[],[],[x]⟩:=by
  refine⟨_,_,_,_,rfl,Zbqk _,Zbqk _,Zbqk _,[[.string x.out,.int .i64 x.op,.slice a1 x.args.length c1,.slice a2 x.lits.length c2,.int .i64 x.n]],Zbil (rows:=[_]) (by rw[<-hW2];exact alloc_at W1 _) (by intro r hr;simp only[List.mem_cons,List.not_mem_nil,or_false]at hr;subst hr;rfl) (by show 1<=maxLen;decide),rfl,λj r y hr hy=>?_⟩
  match j,hr,hy with
  | 0,hr,hy=>
   obtain rfl:_=r:=by simpa using hr
   obtain rfl:x=y:=by simpa using hy
   exact⟨_,_,rfl,h1.below hbw2,h2.below hbw2⟩
  | j+1,hr,hy=>simp at hr
 have hsm:SmallR ⟨⟨#[]⟩,[],[],[],[x]⟩ 1048576:=⟨Nat.zero_le _,⟨Nat.zero_le _,by simp⟩,⟨Nat.zero_le _,by simp⟩,⟨Nat.zero_le _,by simp⟩,by show 1<=1048576;decide,λy hy=>by
  obtain rfl:y=x:=by simpa using hy
  exact hs⟩
 have cL:Hid (Calls Tryz.prog 51 #[.agg #[.string ⟨#[]⟩,.slice none 0 0,.slice none 0 0,.slice none 0 0,.slice (some ⟨W1.heap.size,0,none⟩) 1 1]] W2 λe w'=>∃vi vo vf b o cap b1 m1 b2 m2,e = .returned (.agg #[.string ⟨#[]⟩,vi,vo,vf,.slice (some ⟨b,o,none⟩) 1 cap])/\StrsA (λb=>b<W2.heap.size) w' (.slice b1 (cutS x).args.length m1) (cutS x).args/\StrsA (λb=>b<W2.heap.size) w' (.slice b2 (cutS x).lits.length m2) (cutS x).lits/\
   (w'.cell? ⟨b,o,none⟩=some (.string x.out)/\w'.cell? ⟨b,o+1,none⟩=some (.int .i64 x.op)/\w'.cell? ⟨b,o+2,none⟩=some (.slice b1 (cutS x).args.length m1)/\w'.cell? ⟨b,o+3,none⟩=some (.slice b2 (cutS x).lits.length m2)/\w'.cell? ⟨b,o+4,none⟩=some (.int .i64 x.n))/\Below W2.heap.size W2 w'):=by
  show Calls _ _ _ _ _;refine(Zwx ⟨⟨#[]⟩,[],[],[],[x]⟩ _ _ _ _ W2 hr hsm).mono ?_;rintro e w' ⟨⟨vi,vo,vf,vs,rfl,hi,ho,hf,hst⟩,hb⟩;obtain⟨b,o,cap,b1,n1,m1,b2,n2,m2,rfl,_,ha,hl,hc⟩:=Zbpb hst (k:=0) (x:=cutS x) rfl;obtain⟨_,_,q1,_⟩:=Zua ha.isStrs;obtain⟨_,rfl,_⟩:=Value.slice.inj q1;obtain⟨_,_,q2,_⟩:=Zua hl.isStrs;obtain⟨_,rfl,_⟩:=Value.slice.inj q2;have:=hc w' (Below.refl _ _);simp only[Nat.zero_mul,Nat.add_zero]at this;exact⟨vi,vo,vf,b,o,cap,b1,m1,b2,m2,rfl,ha,hl,this,hb⟩
 obtain⟨d0,d1,d2,d3,d4,_⟩:=cells5 hx1;have HX2:Hid (∀V,Below W2.heap.size W2 V->V.heap[w.heap.size+1]? =some (.cells #[.string ⟨#[]⟩,.int .i64 0,.slice none 0 0,.slice none 0 0,.int .i64 0] 42)):=hid λV hV=>by
  have hz:=hb2.size;rw[hV.block _ (by omega),hb2.block _ (by omega)];exact hx2
 have HLT:Hid (w.heap.size+1<W2.heap.size):=hid (by have:=hb2.size;omega);have HB2:=hid hbw2;have HW1:=hid hW1;have HW2:=hid hW2;clear h1 h2 hs hW1 hb1 hs1 hx1 hx2 hW2 hb2 hbw2 hr hsm
 go_enter Tryz.func23,Tryz.ntmps23
 go_upto_region 1 with fail
 rw[HW1.out]
 go_wp2_with fail
 rw[HW2.out];refine cL.out.mono ?_;rintro e w3 ⟨vi,vo,vf,b,o,cap,b1,m1,b2,m2,rfl,ha,hl,⟨g0,g1,g2,g3,g4⟩,hb3⟩;have HX3:=hid (HX2.out w3 hb3);have HB3:=hid (HB2.out.trans (hb3.mono HB2.out.size));have HA:=hid ha;have HL:=hid hl;obtain⟨z0,z1,z2,z3,z4,_⟩:=cells5 HX3.out;clear hb3 ha hl d0 d1 d2 d3 d4
 go_wp2_with fail
 rw[Zbwh];go_wp2;refine bodyPost_ret (Zbhl rfl _ _ (w.heap.size+1) _ _ _ _ rfl (heap_set _ _ (heap_set _ _ (heap_set _ _ (heap_set _ _ (heap_set _ _ HX3.out))))) Tryz.underlying42 rfl (by kernel_rfl)) rfl ?_;obtain⟨V,hV⟩:∃V,((((w3.setCell ⟨w.heap.size+1,0,none⟩ (.string x.out)).setCell ⟨w.heap.size+1,1,none⟩ (.int .i64 x.op)).setCell ⟨w.heap.size+1,2,none⟩ (.slice b1 (cutS x).args.length m1)).setCell ⟨w.heap.size+1,3,none⟩ (.slice b2 (cutS x).lits.length m2)).setCell ⟨w.heap.size+1,4,none⟩ (.int .i64 x.n)=V:=⟨_,rfl⟩;have hbV:Below (w.heap.size+1) w3 V:=by
  rw[<-hV];exact(((((Below.refl _ _).setCell (p:=⟨w.heap.size+1,0,none⟩) (Nat.le_refl _) _).setCell (p:=⟨w.heap.size+1,1,none⟩) (Nat.le_refl _) _).setCell (p:=⟨w.heap.size+1,2,none⟩) (Nat.le_refl _) _).setCell (p:=⟨w.heap.size+1,3,none⟩) (Nat.le_refl _) _).setCell (p:=⟨w.heap.size+1,4,none⟩) (Nat.le_refl _) _
 have hfr:Fr (λb=>b<W2.heap.size) w3 V:=by
  refine⟨hbV.os,hbV.tape,hbV.output,hbV.size,λk hk hn=>?_⟩;have hne:k≠w.heap.size+1:=by
   intro e;apply hn;show k<_;have:=HLT.out;omega
  rw[<-hV];rw[Below.heap_setCell _ _ _ _ hne,Below.heap_setCell _ _ _ _ hne,Below.heap_setCell _ _ _ _ hne,Below.heap_setCell _ _ _ _ hne,Below.heap_setCell _ _ _ _ hne]
 rw[hV];exact⟨b1,m1,b2,m2,rfl,RowA.mono (RowA.keep HA.out hfr) (λb _ hb=>by have:=HLT.out;show b<_;omega),RowA.mono (RowA.keep HL.out hfr) (λb _ hb=>by have:=HLT.out;show b<_;omega),HB3.out.trans (hbV.mono (by omega))⟩
end Go.Proofs.YtmgcaldphpnfgaaGreatDoor
