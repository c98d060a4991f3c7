import Derived.Test.YthkehhphnbckaaaGreatDoorMbo
import Derived.Test.YthkehhphnbckaaaGreatDoorMbh
namespace Go.Proofs.YthkehhphnbckaaaGreatDoor
open Go.RowKit Go.Shelf
theorem Zbir {w w':World} {x:RuleS} {e:Ending} (h:Zbu w w' x e):∃b1 m1 e1 b2 m2 e2 b3 m3 e3 b4 m4 e4,e = .returned (.agg #[.string x.name,.slice b1 m1 e1,.slice b2 m2 e2,.slice b3 m3 e3,.slice b4 m4 e4])∧
  RuleA (fun b=>b<w.heap.size) w' [.string x.name,.slice b1 m1 e1,.slice b2 m2 e2,.slice b3 m3 e3,.slice b4 m4 e4] x:=by
 obtain⟨vi,vo,vf,vs,rfl,h1,h2,h3,h4⟩:=h
 obtain⟨b1,m1,e1,q1⟩:=Zbig h1
 obtain⟨b2,m2,e2,q2⟩:=Zbig h2
 obtain⟨b3,m3,e3,q3⟩:=Zbig h3
 obtain⟨b4,e4,q4,_,_⟩:=Zboi h4
 subst q1 q2 q3 q4
 exact⟨b1,m1,e1,b2,m2,e2,b3,m3,e3,b4,_,e4,rfl,⟨_,_,_,_,rfl,h1,h2,h3,h4⟩⟩
def Zbvw (k:Nat) (xs:List RuleS):List RuleS:=(xs.take k).map cutR
theorem Zbvz {xs:List RuleS} {k:Nat} {x:RuleS} (h:xs[k]? =some x):Zbvw (k+1) xs=Zbvw k xs ++ [cutR x]:=by
 unfold Zbvw;rw[List.take_add_one,h,List.map_append];rfl
theorem Zbvy (k:Nat) (xs:List RuleS):(Zbvw k xs).length=min k xs.length:=by unfold Zbvw;rw[List.length_map,List.length_take]
theorem Zbvx {k m:Nat} {xs:List RuleS} (h:xs.length≤k) (h2:xs.length≤m):Zbvw k xs=Zbvw m xs:=by
 unfold Zbvw;rw[List.take_of_length_le h,List.take_of_length_le h2]
set_option maxHeartbeats 8000000 in
set_option maxRecDepth 100000 in
theorem Zbwl (v:Value) (xs:List RuleS) (w:World) (h:RulesI w v xs) (hs:∀x∈xs,SmallR x 1048576):
  Calls Tryz.prog 26 #[v] w (Zbz w (Zbvw 42 xs)):=by
 obtain⟨sa,sc,hv,hs1,hs2⟩:=Zbjn h
 subst hv
 have HCS:Hid (∀(k:Nat) x,xs[k]? =some x→_):=Lib.hid (fun k x hx=>Zbjm h (k:=k) (x:=x) hx)
 have HSM:=Lib.hid hs
 unfold maxLen at hs2
 have HO1:Hid (OwnRules w.heap.size w (.slice none 0 0) []):=Zbxk _ _
 clear h hs
 go_enter Tryz.func26,Tryz.ntmps26
 go_wp2
 go_loopw [3,4] (fun vv i wr=>∃k:Nat,k≤xs.length∧k≤42∧i = .int .i64 k∧OwnRules w.heap.size wr vv (Zbvw k xs)∧Below w.heap.size w wr)
  (fun _ i _=>xs.length-(intOf i).toNat)
 case atStart=>exact⟨0,Nat.zero_le _,Nat.zero_le _,rfl,HO1.out,Below.refl _ _⟩
 case round=>
  obtain⟨k,hk,hk42,rfl,hown,hnx⟩:=hrel
  have hsz:=hnx.size
  have HO:=Lib.hid hown
  have HNX:=Lib.hid hnx
  clear hown hnx
  by_cases hlt:k<xs.length
  ·by_cases h42:k<42
   ·obtain⟨x,hx⟩:∃x,xs[k]? =some x:=⟨xs[k],List.getElem?_eq_getElem hlt⟩
    obtain⟨g,o,cap,a1,c1,a2,c2,a3,c3,a4,c4,hv,hg,hR,hc⟩:=HCS.out k x hx
    have hi1:(k:Int)<(xs.length:Int):=by omega
    have hi2:(k:Int)<42:=by omega
    have hi0:(0:Int)≤(k:Int):=by omega
    have hfx:=HSM.out x (List.mem_of_getElem? hx)
    have htk:=Zbvz hx
    obtain⟨d0,d1,d2,d3,d4⟩:=hc _ HNX.out
    have HTK:=Lib.hid htk
    cases hv
    have cA:=Zwx x _ _ _ _ wr (hR.below HNX.out) hfx
    have CA:=Lib.hid cA
    clear hc hx htk hR hfx cA
    go_wp2_with fail
    refine CA.out.mono ?_
    rintro e w2 ⟨hpost,hb2⟩
    obtain⟨b1,m1,e1,b2,m2,e2,b3,m3,e3,b4,m4,e4,rfl,hra⟩:=Zbir hpost
    have hO2:=HO.out.below hb2
    have hlow:=fun b hb=>(HO.out.lt b hb).2
    have hra2:=RuleA.mono (Av':=AvOf w.heap.size _) hra fun b _ e=>by
     rcases e with e|e
     ·show b<wr.heap.size;omega
     ·exact hlow b e
    have HO2:=Lib.hid hO2
    have HR2:=Lib.hid hra2
    have HN2:=Lib.hid (HNX.out.trans (hb2.mono hsz))
    have HTL:Hid ((Zbvw k xs).length≤1000000000):=by show _≤_;rw[Zbvy];omega
    have HS2:=Lib.hid (Nat.le_trans hsz hb2.size)
    clear hra hb2 hO2 hlow hra2 d0 d1 d2 d3 d4 hpost
    go_wp2_with (at_builtin;refine Zbuh (by rfl) _ _ (by rfl) w.heap.size _ (Zbvw k xs) (cutR x) b1 b2 b3 b4 m1 e1 m2 e2 m3 e3 m4 e4 (by rfl) HO2.out HS2.out HTL.out HR2.out _ (by rfl) (by simp) ?_)
    intro v' w6 hown6 hb6 _ _
    have HO6:Hid (OwnRules w.heap.size w6 v' (Zbvw (k+1) xs)):=by show OwnRules _ _ _ _;rw[HTK.out];exact hown6
    have HN6:=Lib.hid (HN2.out.trans hb6)
    clear hown6 hb6
    go_wp2
    go_roundw
    case rel=>exact⟨k+1,by omega,by omega,by go_num,HO6.out,HN6.out⟩
    case measure=>simp[intOf];omega
   ·obtain rfl:k=42:=by omega
    have hi1:(42:Int)<(xs.length:Int):=by omega
    have hi2:((42:Nat):Int)<(xs.length:Int):=by omega
    obtain⟨a,c,q⟩:=HO.out.len
    subst q
    go_wp2
    go_ret
    exact⟨_,_,_,rfl,HO.out,HNX.out⟩
  ·have hfull:Zbvw k xs=Zbvw 42 xs:=Zbvx (by omega) (by omega)
   have hi1:¬(k:Int)<(xs.length:Int):=by omega
   have hO3:=HO.out
   rw[hfull]at hO3
   obtain⟨a,c,q⟩:=hO3.len
   subst q
   have HO3:=Lib.hid hO3
   clear hfull hO3
   go_wp2
   go_ret
   exact⟨_,_,_,rfl,HO3.out,HNX.out⟩
end Go.Proofs.YthkehhphnbckaaaGreatDoor
namespace Go.Proofs.YthkehhphnbckaaaGreatDoor
theorem Zbcl {l:List ByteArray}:Zbck l=true↔l.Nodup:=by
 unfold Zbck
 rw[decide_eq_true_eq]
 constructor
 ·intro h;exact(Zcn (L:=[]) (by simpa using h)).1
 ·intro h
  have:∀(l L:List ByteArray),l.Nodup→(∀k∈l,k∉L)→(addS L l).length=L.length+l.length:=by
   intro l
   induction l with
   | nil=>intro L _ _;simp[addS]
   | cons k ks ih=>
    intro L h1 h2
    have hk:insS L k=L ++ [k]:=by unfold insS;rw[if_neg (fun h=>h2 k (by simp) (Zsj.1 h))]
    have e:addS L (k::ks)=addS (insS L k) ks:=rfl
    obtain⟨n1,n2⟩:=List.nodup_cons.1 h1
    rw[e,hk,ih _ n2]
    ·simp;omega
    ·intro a ha hm
     rcases List.mem_append.1 hm with hm|hm
     ·exact h2 a (by simp[ha]) hm
     ·obtain rfl:a=k:=by simpa using hm
      exact n1 ha
  simpa using this l [] h (by simp)
theorem Zbrq {l:List ByteArray}:Zch l↔¬l.Nodup:=by
 constructor
 ·rintro⟨i,j,hj,hi,e⟩ hn
  have h1:j<l.length:=by omega
  rw[List.getElem?_eq_getElem h1,List.getElem?_eq_getElem hi]at e
  exact List.pairwise_iff_getElem.1 hn j i h1 hi hj (Option.some.inj e)
 ·intro h
  refine Classical.byContradiction fun hx=>h ?_
  refine List.pairwise_iff_getElem.2 fun j i h1 hi hj e=>hx ⟨i,j,hj,hi,?_⟩
  rw[List.getElem?_eq_getElem h1,List.getElem?_eq_getElem hi,e]
theorem Zpq (x:RuleS):Zpo x=true↔Zav x:=by
 unfold Zpo Zav nmsR nmsS
 rw[List.take_length]
 simp only[Bool.and_eq_true,List.all_eq_true,decide_eq_true_eq,Zbnm,Zyt,List.mem_append,List.mem_singleton,List.mem_flatten,List.mem_map,okN]
 constructor
 ·rintro⟨⟨⟨⟨⟨h1,h2⟩,h3⟩,h4⟩,h5⟩,h6⟩
  refine⟨?_,fun j y hy=>(h6 y (List.mem_of_getElem? hy)).1.1,by omega⟩
  rintro y ((((rfl|h)|h)|h)|⟨l,⟨s,hs,rfl⟩,h⟩)
  ·exact h1
  ·exact h2 y h
  ·exact h4 y h
  ·exact h5 y h
  ·rcases List.mem_cons.1 h with rfl|h
   ·exact(h6 s hs).1.2
   ·exact(h6 s hs).2 y h
 ·rintro⟨h1,h2,h3⟩
  refine⟨⟨⟨⟨⟨h1 _ (by simp),fun y hy=>h1 y (by simp[hy])⟩,by omega⟩,fun y hy=>h1 y (by simp[hy])⟩,fun y hy=>h1 y (by simp[hy])⟩,fun s hs=>⟨⟨?_,?_⟩,fun a ha=>?_⟩⟩
  ·obtain⟨j,hj⟩:=List.getElem?_of_mem hs
   exact h2 j s hj
  ·exact h1 _ (.inr ⟨_,⟨s,hs,rfl⟩,by simp⟩)
  ·exact h1 _ (.inr ⟨_,⟨s,hs,rfl⟩,by simp[ha]⟩)
theorem Zfs (x:RuleS):Zbkx x=true↔¬BigX x:=by
 unfold Zbkx BigX
 simp only[Bool.and_eq_true,decide_eq_true_eq]
 omega
theorem Zpn (outs:List ByteArray):∀(l:List StepS) (T M:List ByteArray),Zpm outs T M l=true↔
  (∀(k:Nat) y,l[k]? =some y→(∀a∈y.args,a∈T∨a∈(l.take k).map StepS.out)∧y.out∉T∧y.out∉(l.take k).map StepS.out)∧∀a∈outs,a∈M∨a∈l.map StepS.out
 | [],T,M=>by
  unfold Zpm
  simp only[List.all_eq_true,Zsj,List.getElem?_nil,reduceCtorEq,false_implies,implies_true,true_and,List.map_nil,List.not_mem_nil,or_false]
 | s::r,T,M=>by
  have hT:∀a,a∈addS T [s.out]↔a∈T∨a=s.out:=fun a=>by rw[Zcp];simp
  have hM:∀a,a∈addS M [s.out]↔a∈M∨a=s.out:=fun a=>by rw[Zcp];simp
  unfold Zpm
  by_cases h:s.args.all (inS T)=true∧inS T s.out=false
  ·rw[if_pos h,Zpn outs r]
   obtain⟨h1,h2⟩:=h
   simp only[List.all_eq_true,Zsj]at h1
   have h2':s.out∉T:=fun hm=>by rw[Zsj.2 hm]at h2;cases h2
   constructor
   ·rintro⟨a1,a2⟩
    refine⟨fun k y hy=>?_,fun a ha=>?_⟩
    ·cases k with
     | zero=>
          obtain rfl:s=y:=by simpa using hy
          exact⟨fun a ha=> .inl (h1 a ha),h2',by simp⟩
     | succ k=>
      obtain⟨b1,b2,b3⟩:=a1 k y (by simpa using hy)
      refine⟨fun a ha=>?_,fun hm=>b2 ((hT _).2 (.inl hm)),?_⟩
      ·rcases b1 a ha with h|h
       ·rcases(hT a).1 h with h|h
        ·exact .inl h
        ·right;rw[List.take_succ_cons,List.map_cons];simp[h]
       ·right;rw[List.take_succ_cons,List.map_cons];exact List.mem_cons_of_mem _ h
      ·rw[List.take_succ_cons,List.map_cons]
       intro hm
       rcases List.mem_cons.1 hm with h|h
       ·exact b2 ((hT _).2 (.inr h))
       ·exact b3 h
    ·rcases a2 a ha with h|h
     ·rcases(hM a).1 h with h|h
      ·exact .inl h
      ·right;simp[h]
     ·right;rw[List.map_cons];exact List.mem_cons_of_mem _ h
   ·rintro⟨a1,a2⟩
    refine⟨fun k y hy=>?_,fun a ha=>?_⟩
    ·obtain⟨b1,b2,b3⟩:=a1 (k+1) y (by simpa using hy)
     rw[List.take_succ_cons,List.map_cons]at b1 b3
     refine⟨fun a ha=>?_,fun hm=>?_,fun hm=>b3 (List.mem_cons_of_mem _ hm)⟩
     ·rcases b1 a ha with h|h
      ·exact .inl ((hT a).2 (.inl h))
      ·rcases List.mem_cons.1 h with h|h
       ·exact .inl ((hT a).2 (.inr h))
       ·exact .inr h
     ·rcases(hT _).1 hm with h|h
      ·exact b2 h
      ·exact b3 (by rw[h];simp)
    ·rcases a2 a ha with h|h
     ·exact .inl ((hM a).2 (.inl h))
     ·rw[List.map_cons]at h
      rcases List.mem_cons.1 h with h|h
      ·exact .inl ((hM a).2 (.inr h))
      ·exact .inr h
  ·rw[if_neg h]
   refine⟨fun h=>absurd h (by decide),fun⟨a1,_⟩=>absurd ?_ h⟩
   obtain⟨b1,b2,_⟩:=a1 0 s rfl
   refine⟨?_,?_⟩
   ·simp only[List.all_eq_true,Zsj]
    intro a ha
    rcases b1 a ha with h|h
    ·exact h
    ·simp at h
   ·cases hi:inS T s.out with
    | false=>rfl
    | true=>exact absurd (Zsj.1 hi) b2
theorem Zbaf (x:RuleS):Zbac x=true↔Zbj x:=by
 have hA:∀(l:List ByteArray) a,a∈addS [] l↔a∈l:=fun l a=>by rw[Zcp];simp
 unfold Zbac Zbj Zcd Zbdi
 simp only[Bool.and_eq_true,Zbcl,Zbrq,Classical.not_not,Zok,Zpn,Bool.not_eq_true',Zoj,List.take_length]
 have hI:inS (addS [] x.after) x.name=false↔x.name∉x.after:=by
  cases h:inS (addS [] x.after) x.name with
  | true=>exact⟨fun h=>(by cases h),fun h'=>absurd ((hA _ _).1 (Zsj.1 h)) h'⟩
  | false=>exact⟨fun _ hm=>(by rw[Zsj.2 ((hA _ _).2 hm)]at h;cases h),fun _=>rfl⟩
 rw[hI]
 constructor
 ·rintro⟨⟨⟨⟨h1,h2⟩,h3⟩,h4⟩,h5,h6⟩
  refine⟨h1,h2,h3,h4,fun k y hy=>?_,fun a ha=>?_⟩
  ·obtain⟨b1,b2,b3⟩:=h5 k y hy
   refine⟨fun hm=>b2 ((hA _ _).2 hm),b3,fun a ha=>?_⟩
   rintro⟨c1,c2⟩
   rcases b1 a ha with h|h
   ·exact c1 ((hA _ _).1 h)
   ·exact c2 h
  ·have hm:a∈x.steps.map StepS.out:=by
    rcases h6 a ha with h|h
    ·simp at h
    ·exact h
   refine⟨fun hi=>?_,hm⟩
   obtain⟨s,hs,rfl⟩:=List.mem_map.1 hm
   obtain⟨k,hk⟩:=List.getElem?_of_mem hs
   exact(h5 k s hk).2.1 ((hA _ _).2 hi)
 ·rintro⟨h1,h2,h3,h4,h5,h6⟩
  refine⟨⟨⟨⟨h1,h2⟩,h3⟩,h4⟩,fun k y hy=>?_,fun a ha=> .inr (h6 a ha).2⟩
  obtain⟨b1,b2,b3⟩:=h5 k y hy
  refine⟨fun a ha=>?_,fun hm=>b1 ((hA _ _).1 hm),b2⟩
  by_cases hi:a∈x.ins
  ·exact .inl ((hA _ _).2 hi)
  ·exact .inr (Classical.byContradiction fun hk=>b3 a ha ⟨hi,hk⟩)
theorem Zbiq (x:RuleS):RuleC x (Zbip x):=by
 unfold Zbip RuleC
 have f:=Zpq x
 have s:=Zfs x
 have n:=Zbaf x
 cases h1:Zpo x with
 | false=>rw[h1]at f;exact .inl ⟨fun h=>absurd (f.2 h) (by decide),by simp⟩
 | true=>
  rw[h1]at f
  cases h2:Zbkx x with
  | false=>rw[h2]at s;exact .inr (.inl ⟨f.1 rfl,Classical.byContradiction fun h=>absurd (s.2 h) (by decide),by simp⟩)
  | true=>
   rw[h2]at s
   cases h3:Zbac x with
   | false=>rw[h3]at n;exact .inr (.inr (.inl ⟨f.1 rfl,s.1 rfl,fun h=>absurd (n.2 h) (by decide),by simp⟩))
   | true=>rw[h3]at n;exact .inr (.inr (.inr ⟨f.1 rfl,s.1 rfl,n.1 rfl,by simp⟩))
end Go.Proofs.YthkehhphnbckaaaGreatDoor
namespace Go.Proofs.YthkehhphnbckaaaGreatDoor
open Go.RowKit
theorem Zbkv (x:RuleS):ShortR (cutR x):=
 ⟨by show(x.ins.take 10).length≤10;rw[List.length_take];omega,by show(x.outs.take 6).length≤6;rw[List.length_take];omega,by show(x.after.take 10).length≤10;rw[List.length_take];omega,
  by show((x.steps.take 14).map cutS).length≤14;rw[List.length_map,List.length_take];omega,fun y hy=>by
   obtain⟨z,hz,rfl⟩:=List.mem_map.1 (show y∈(x.steps.take 14).map cutS from hy)
   exact⟨by show(z.args.take 8).length≤8;rw[List.length_take];omega,by show(z.lits.take 3).length≤3;rw[List.length_take];omega⟩⟩
theorem Zbma {x:RuleS} {m:Nat} (h:SmallR x m):SmallR (cutR x) m:=by
 have tk:∀ {l:List ByteArray} (k:Nat),SmallL l m→SmallL (l.take k) m:=fun k h=>⟨by rw[List.length_take];have:=h.1;omega,fun z hz=>h.2 z (List.mem_of_mem_take hz)⟩
 exact⟨h.name,tk 10 h.ins,tk 6 h.outs,tk 10 h.after,by show((x.steps.take 14).map cutS).length≤m;rw[List.length_map,List.length_take];have:=h.few;omega,fun y hy=>by
  obtain⟨z,hz,rfl⟩:=List.mem_map.1 (show y∈(x.steps.take 14).map cutS from hy)
  have:=h.steps z (List.mem_of_mem_take hz)
  exact⟨this.out,tk 8 this.args,tk 3 this.lits,this.op,this.n⟩⟩
end Go.Proofs.YthkehhphnbckaaaGreatDoor
namespace Go.Proofs.YthkehhphnbckaaaGreatDoor
open Go.RowKit
def boxR (w:World) (B:Nat) (s:ByteArray) (v1 v2 v3 v4:Value):World:=
 ((((w.setCell ⟨B,0,none⟩ (.string s)).setCell ⟨B,1,none⟩ v1).setCell ⟨B,2,none⟩ v2).setCell ⟨B,3,none⟩ v3).setCell ⟨B,4,none⟩ v4
theorem Zgf (w:World) (B:Nat) (s:ByteArray) (v1 v2 v3 v4:Value):Below B w (boxR w B s v1 v2 v3 v4):=
 (((((Below.refl _ _).setCell (p:=⟨B,0,none⟩) (Nat.le_refl _) _).setCell (p:=⟨B,1,none⟩) (Nat.le_refl _) _).setCell (p:=⟨B,2,none⟩) (Nat.le_refl _) _).setCell (p:=⟨B,3,none⟩) (Nat.le_refl _) _).setCell (p:=⟨B,4,none⟩) (Nat.le_refl _) _
theorem Zgg (w:World) (B:Nat) (s:ByteArray) (v1 v2 v3 v4:Value) (k:Nat) (h:k≠B):(boxR w B s v1 v2 v3 v4).heap[k]? =w.heap[k]?:=by
 unfold boxR
 rw[Below.heap_setCell _ _ _ _ h,Below.heap_setCell _ _ _ _ h,Below.heap_setCell _ _ _ _ h,Below.heap_setCell _ _ _ _ h,Below.heap_setCell _ _ _ _ h]
theorem Zge (w:World) (B:Nat) (s:ByteArray) (v1 v2 v3 v4:Value) {a b c d e:Value} {T:TypeId} (h:w.heap[B]? =some (.cells #[a,b,c,d,e] T)):(boxR w B s v1 v2 v3 v4).heap[B]? =some (.cells #[.string s,v1,v2,v3,v4] T):=
 heap_set _ _ (heap_set _ _ (heap_set _ _ (heap_set _ _ (heap_set _ _ h))))
theorem Zgd {w1 w2:World} {B:Nat} {y:RuleS} {v1 v2 v3 v4:Value} {a b c d e:Value} {T:TypeId} (hra:RuleA (fun k=>k<w1.heap.size) w2 [.string y.name,v1,v2,v3,v4] y) (hx:w2.heap[B]? =some (.cells #[a,b,c,d,e] T)) (hB:B+1≤w1.heap.size):
  Below B w2 (boxR w2 B y.name v1 v2 v3 v4)∧(boxR w2 B y.name v1 v2 v3 v4).heap[B]? =some (.cells #[.string y.name,v1,v2,v3,v4] T)∧RuleI (boxR w2 B y.name v1 v2 v3 v4) [.string y.name,v1,v2,v3,v4] y:=by
 have hb:=Zgf w2 B y.name v1 v2 v3 v4
 refine⟨hb,Zge _ _ _ _ _ _ _ hx,(hra.keep (w':=boxR w2 B y.name v1 v2 v3 v4) ⟨hb.os,hb.tape,hb.output,hb.size,fun k hk hn=>?_⟩).ruleI⟩
 exact Zgg _ _ _ _ _ _ _ _ (fun e=>hn (by show k<_;omega))
theorem Zbio {Av:Nat→Prop} {w:World} {s:ByteArray} {b1 b2 b3 b4:Option Addr} {m1 m2 m3 m4 e1 e2 e3 e4:Nat} {y:RuleS} (h:RuleA Av w [.string s,.slice b1 m1 e1,.slice b2 m2 e2,.slice b3 m3 e3,.slice b4 m4 e4] y):m1=y.ins.length∧m2=y.outs.length∧m3=y.after.length∧m4=y.steps.length:=by
 obtain⟨vi,vo,vf,vs,q,h1,h2,h3,h4⟩:=h.ruleI
 simp only[List.cons.injEq,and_true]at q
 obtain⟨_,rfl,rfl,rfl,rfl⟩:=q
 obtain⟨_,_,g1⟩:=Zue h1
 obtain⟨_,_,g2⟩:=Zue h2
 obtain⟨_,_,g3⟩:=Zue h3
 obtain⟨_,_,g4⟩:=Zbov h4
 exact⟨(Value.slice.inj g1).2.1,(Value.slice.inj g2).2.1,(Value.slice.inj g3).2.1,(Value.slice.inj g4).2.1⟩
end Go.Proofs.YthkehhphnbckaaaGreatDoor
