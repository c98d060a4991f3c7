import Derived.Shelf.Strings.Prefix
import Derived.Test.YtcpjfpdecklkgaaGreatDoorMav
import Derived.Laws.MakeOwn
namespace Go.Proofs.YtcpjfpdecklkgaaGreatDoor
open Go.Lib (hid)
open Go.Proofs.Tryz
open Go.RowKit Go.Shelf
def Zxi (s:ByteArray):List ByteArray:=(Zxl s.data.toList).map λx=>⟨x.toArray⟩
def trimB (x:ByteArray):ByteArray:=⟨(Lib.trimSuffix x.data.toList [10]).toArray⟩
theorem Zbgt (s:ByteArray):(rawB s).map trimB=Zxi s:=by
 unfold rawB Zxi;rw[<-Zbgs,List.map_map,List.map_map];rfl
theorem Zxk (s:ByteArray):(Zxi s).length<=s.size:=by
 unfold Zxi;rw[List.length_map];have:=Zxs s.data.toList;show _<=s.data.size
 rwa [<-Array.length_toList]
theorem Zbgm (s:ByteArray):(rawB s).length<=s.size:=by
 have:=Zxk s
 rwa [<-Zbgt,List.length_map]at this
theorem Zbgr (s:List UInt8):∀l∈rawL s,l.length<=s.length:=by
 induction s using Zxr with
 | h0=>intro l hl;cases hl
 | h1 s h hn=>rw[Zbgq h hn];simp
 | h2 a b h ih=>
  rw[Zbgp h];intro l hl
  rcases List.mem_cons.1 hl with rfl|hl
  ·simp
  ·have:=ih l hl;simp;omega
theorem Zbgl (s:ByteArray):∀x∈rawB s,x.size<=s.size:=by
 intro x hx;obtain⟨l,hl,rfl⟩:=List.mem_map.1 hx;have:=Zbgr _ l hl;show l.toArray.size<=s.data.size;rw[List.size_toArray,<-Array.length_toList];exact this
section
attribute [local go_sem] Oper.semAt_some
set_option maxRecDepth 100000
set_option maxHeartbeats 4000000
theorem Zbpy (n:Nat) (s:ByteArray) (w:World):
  CallsIn Fence.wide n prog 51 #[.string s] w λe w'=>e = .returned (.func (.func 95) #[] #[.pointer (some ⟨w.heap.size,0,none⟩)])/\w'=w.alloc (.cells #[.string s] 9):=by
 refine callsIn_of_wp func51 rfl trivial ?_ rfl;simp only[ntmps51,List.size_toArray,List.length_cons,List.length_nil,Nat.reduceAdd,Nat.reduceSub,Array.replicate_succ,Array.replicate_zero,List.push_toArray,List.append_toArray,List.nil_append,List.cons_append]
 gi_wp2
 go_ret;exact⟨rfl,rfl⟩
theorem Zsq:(prog.info? 9).map (λi=>(i.zero,i.size,i.bytes))=some (some (.string ⟨#[]⟩),1,16):=by kernel_rfl
def Zbf (w:World) (s:ByteArray) (e:Ending) (w':World):Prop:=∃v,e = .returned v/\OwnStrs (w.heap.size+2) w' v (Zxi s)/\(v = .slice none 0 0↔Zxi s = [])/\Below w.heap.size w w'
def LinI (w:World) (B:Nat) (pre:List ByteArray) (W:World):Prop:=(∃v,Boxed W B 29 v/\W.ownsRow (B+2) 9 1 v pre.length ((pre.map trimB).map Value.string)/\(v = .slice none 0 0↔pre.map trimB = []))/\Below B w W/\B+2<=W.heap.size
theorem Zxd {w:World} {B:Nat} (s:List ByteArray) (X Y:World) (h:LinI w B s X) (hr:Rs (B+1) X Y):LinI w B s Y:=by
 obtain⟨⟨v,hv,ho,hn⟩,hb,hL⟩:=h;refine⟨⟨v,(hr.same B (by omega)).trans hv,?_,hn⟩,hr.below hb (by omega),by rw[hr.size];exact hL⟩;obtain⟨hl,h|⟨g,cap,cur,e,hg,hgb,r⟩⟩:=ho
 ·exact⟨hl,.inl h⟩
 ·exact⟨hl,.inr ⟨g,cap,cur,e,hg,(hr.same g (by omega)).trans hgb,r⟩⟩
theorem Zxc (w:World) (L:Nat) (hL:w.heap.size<=L):OwnFrom L (LinI w w.heap.size):=
 OwnFrom.and (Own.from (holdsRow_own (w.heap.size+2) w.heap.size 29 9 1 (λpre:List ByteArray=>pre.length) (λpre=>(pre.map trimB).map Value.string) (λpre v=>v = .slice none 0 0↔pre.map trimB = [])) _) (OwnFrom.and (ownFrom_below (Nat.le_refl _) hL) λ_ _ _ _ h hg _=>Nat.le_trans h hg.size)
theorem Zbnp (s:ByteArray) (w:World) (hs:s.size<=1000000000):Calls prog 27 #[.string s] w (Zbf w s):=by
 refine(callsIn_wide (n:=5)).1 ?_;obtain⟨i0,hi,hz0,hz1,hz2⟩:=info_parts Zsq;have mixed:prog.follows .mixedOrders=true:=by kernel_rfl
 refine callsIn_of_wp_marks func27 rfl trivial ?_ rfl;simp only[ntmps27,List.size_toArray,List.length_cons,List.length_nil,Nat.reduceAdd,Nat.reduceSub,Array.replicate_succ,Array.replicate_zero,List.push_toArray,List.append_toArray,List.nil_append,List.cons_append]
 gi_wp2_with (refine⟨trivial,?_⟩;gi_at_call 51;refine(Zbpy _ _ _).mono ?_;rintro e w' ⟨rfl,rfl⟩)
 have bO:=Boxed.new w 29 (.slice none 0 0);have bS:=Boxed.new (w.alloc (.cells #[.slice none 0 0] 29)) 9 (.string s);rw[World.size_alloc]at bS;have hB0:Below w.heap.size w ((w.alloc (.cells #[.slice none 0 0] 29)).alloc (.cells #[.string s] 9)):=((Below.refl _ w).alloc (Nat.le_refl _) _).alloc (by simp) _;refine Zbub (xs:=rawB s) rfl (by omega) (gf:=95) (lb:=#[.pointer (some ⟨w.heap.size+1,0,none⟩)]) rfl trivial (enters_of func95 (by kernel_rfl) rfl)
  (Zxp _ (by omega) (w.heap.size+1) s _ bS hs) (Below.refl _ _) (λ_=>rfl) (λ_ _ h=>h.keeps) (λ_=>rfl) (λ_ _ _ h k=>Eq.trans k h) (Zwg (by simp))
  (LinI w w.heap.size) (λs A B h hr=>Zxd s A B h hr) (Zxc w _ (by simp;omega))
  ⟨⟨_,bO.alloc _,World.ownsRow_nil _ _ _ _,by simp⟩,hB0,by simp⟩
  (λx=>{ tmps:=#[.string s,undef,.slice none 0 0,.pointer (some ⟨w.heap.size,0,none⟩),.string x,.string s,.func (.func 95) #[] #[.pointer (some ⟨w.heap.size+1,0,none⟩)],.string x,undef,undef,undef,undef,undef,undef],defers:=[] }) ?assign ?body ?done
 case assign=>
  intro l x W K hK
  gi_wp2
  exact hK
 case body=>
  rintro l pre x post W hx ⟨⟨v,hv,hrow,hnil⟩,hB,hL⟩;have hc:=hv.cell;have hxm:x∈rawB s:=by rw[hx];simp
  have hxs:=Zbgl s x hxm;have hWs:w.heap.size+2<=W.heap.size:=hL;have hpl:pre.length+1<=s.size:=by
   have:=Zbgm s;rw[hx]at this;simp at this⊢;omega
  have hT:∀F' W',CallsIn (Fence.wide.inRound l) F' prog 52 #[.string x,.string ⟨#[10]⟩] W' λe w'=>e = .returned (.string (trimB x))/\w'=W':=λF' W'=>CallsIn.inRound l ((callsIn_wide (n:=F')).2 (Any.strings_TrimSuffix lLays_n102 x ⟨#[10]⟩ W' (by omega)))
  have HX:=hid hx;clear hx hxm;have hvd:Boxed W.drew w.heap.size 29 v:=hv;have hrd:W.drew.ownsRow (w.heap.size+2) 9 1 v pre.length ((pre.map trimB).map Value.string):=hrow;have hBd:Below w.heap.size w W.drew:=below_drewN hB 1;have hcd:=hvd.cell;have hcA:(W.alloc (.cells #[.string (trimB x)] 9)).cell? ⟨w.heap.size,0,none⟩=some v:=(hv.alloc _).cell;have hml:pre.length+1<=maxLen:=by unfold maxLen;omega
  have fin:∀(W':World) (v':Value),v'≠.slice none 0 0->KeepsOthers W.drew W'->Below w.heap.size W.drew W'->Boxed W' w.heap.size 29 v'->W'.ownsRow (w.heap.size+2) 9 1 v' (pre.length+1) ((pre.map trimB).map Value.string ++ [.string (trimB x)])->
    (∀j,j<w.heap.size+2->j≠w.heap.size->W'.heap[j]? =W.drew.heap[j]?)->∀B',KeepsFrom B' W W'/\Zbd (w.heap.size+1) W W'/\LinI w w.heap.size (pre ++ [x]) W':=by
   intro W' v' hne hk hb hx ho hj B';have e:(pre ++ [x]).map trimB=pre.map trimB ++ [trimB x]:=by simp
   refine⟨⟨hk.size,λk o _ h h'=>hk.same k o h h'⟩,hj _ (by omega) (by omega),⟨v',hx,?_,?_⟩,hBd.trans hb,Nat.le_trans hL hk.size⟩
   ·rw[e,List.length_append,List.map_append];exact ho
   ·rw[e];simp[hne]
  gi_wp2
  refine wpIn_region_any mixed ?_
  change wpAnyIn _ _ _ _ _ _ _ _ _ (World.drew _)
  refine wpAnyIn_ready (rs:=[0,1]) (by kernel_rfl) (by simp) ?_;refine AllReadyIn.cons (o:=_) (by simp only[List.getElem?_toArray,List.getElem?_cons_zero];rfl) (λK hK=>?_) ?_
  ·go_simp
   refine hK _ _ ?_;clear hK K
   try simp only[Act.put,List.setIfInBounds_toArray,List.set_cons_zero,List.set_cons_succ]
   refine wpAnyIn_ready (rs:=[1]) (by kernel_rfl) (by simp) ?_;refine AllReadyIn.cons (o:=_) (by simp only[List.getElem?_toArray,List.getElem?_cons_succ,List.getElem?_cons_zero];rfl) (λK hK=>?_) ?_
   ·go_simp
    refine hK _ _ ?_;clear hK K
    try simp only[Act.put,List.setIfInBounds_toArray,List.set_cons_zero,List.set_cons_succ]
    refine wpAnyIn_ready (rs:=[2]) (by kernel_rfl) (by simp) ?_;refine AllReadyIn.cons (o:=_) (by simp only[List.getElem?_toArray,List.getElem?_cons_succ,List.getElem?_cons_zero];rfl) (λK hK=>?_) ?_
    ·go_simp
     refine⟨trivial,?_⟩;refine(hT _ _).mono ?_;rintro e w' ⟨rfl,rfl⟩
     dsimp only
     refine hK _ _ ?_;clear hK K
     try simp only[Act.put,List.setIfInBounds_toArray,List.set_cons_zero,List.set_cons_succ]
     refine wpAnyIn_ready (rs:=[3]) (by kernel_rfl) (by simp) ?_;refine AllReadyIn.cons (o:=_) (by simp only[List.getElem?_toArray,List.getElem?_cons_succ,List.getElem?_cons_zero];rfl) (λK hK=>?_) ?_
     ·go_simp
      refine hK _ _ ?_;clear hK K
      try simp only[Act.put,List.setIfInBounds_toArray,List.set_cons_zero,List.set_cons_succ]
      refine wpAnyIn_ready (rs:=[4]) (by kernel_rfl) (by simp) ?_;refine AllReadyIn.cons (o:=_) (by simp only[List.getElem?_toArray,List.getElem?_cons_succ,List.getElem?_cons_zero];rfl) (λK hK=>?_) ?_
      ·refine Zbno rfl _ _ 29 rfl (w.heap.size+2) 9 i0 (.string ⟨#[]⟩) 1 16 underlying29 hi hz0 hz1 hz2 rfl (by decide) v _ _ rfl (hrd.alloc _) ⟨W.heap.size,0,none⟩ 1 1 [.string (trimB x)] rfl rfl (cell_one_new _ _ _) (by simp[Value.oneCell']) hml (by omega) (by show w.heap.size+2<=(W.drew.alloc _).heap.size;rw[World.size_alloc];show _<=W.heap.size+1;omega) ?_
       intro v' w1 hown' hgrow hni;obtain⟨g',cap',rfl⟩:=ownsRow_succ hown';obtain⟨hv1,hv2,hr2,hk2,hb2,hj2⟩:=Zgj hvd hrd (by omega) (by show _<=W.heap.size;omega) hown' hgrow;have hc1:=hv1.cell;have hf1:=hv1.frozen;refine hK _ _ ?_;clear hK K
       try simp only[Act.put,List.setIfInBounds_toArray,List.set_cons_zero,List.set_cons_succ]
       refine wpAnyIn_ready (rs:=[5]) (by kernel_rfl) (by simp) ?_;refine AllReadyIn.cons (o:=_) (by simp only[List.getElem?_toArray,List.getElem?_cons_succ,List.getElem?_cons_zero];rfl) (λK hK=>?_) ?_
       ·go_simp
        refine hK _ _ ?_;clear hK K
        try simp only[Act.put,List.setIfInBounds_toArray,List.set_cons_zero,List.set_cons_succ]
        refine wpAnyIn_done (by kernel_rfl) ?_ _;exact fin _ _ (by simp) hk2 hb2 hv2 hr2 hj2 _
       exact AllReadyIn.nil
      exact AllReadyIn.nil
     exact AllReadyIn.nil
    exact AllReadyIn.nil
   exact AllReadyIn.nil
  refine AllReadyIn.cons (o:=_) (by simp only[List.getElem?_toArray,List.getElem?_cons_succ,List.getElem?_cons_zero];rfl) (λK hK=>?_) ?_
  ·go_simp
   refine hK _ _ ?_;clear hK K
   try simp only[Act.put,List.setIfInBounds_toArray,List.set_cons_zero,List.set_cons_succ]
   refine wpAnyIn_ready (rs:=[0,2]) (by kernel_rfl) (by simp) ?_;refine AllReadyIn.cons (o:=_) (by simp only[List.getElem?_toArray,List.getElem?_cons_zero];rfl) (λK hK=>?_) ?_
   ·go_simp
    refine hK _ _ ?_;clear hK K
    try simp only[Act.put,List.setIfInBounds_toArray,List.set_cons_zero,List.set_cons_succ]
    refine wpAnyIn_ready (rs:=[2]) (by kernel_rfl) (by simp) ?_;refine AllReadyIn.cons (o:=_) (by simp only[List.getElem?_toArray,List.getElem?_cons_succ,List.getElem?_cons_zero];rfl) (λK hK=>?_) ?_
    ·go_simp
     refine⟨trivial,?_⟩;refine(hT _ _).mono ?_;rintro e w' ⟨rfl,rfl⟩
     dsimp only
     refine hK _ _ ?_;clear hK K
     try simp only[Act.put,List.setIfInBounds_toArray,List.set_cons_zero,List.set_cons_succ]
     refine wpAnyIn_ready (rs:=[3]) (by kernel_rfl) (by simp) ?_;refine AllReadyIn.cons (o:=_) (by simp only[List.getElem?_toArray,List.getElem?_cons_succ,List.getElem?_cons_zero];rfl) (λK hK=>?_) ?_
     ·go_simp
      refine hK _ _ ?_;clear hK K
      try simp only[Act.put,List.setIfInBounds_toArray,List.set_cons_zero,List.set_cons_succ]
      refine wpAnyIn_ready (rs:=[4]) (by kernel_rfl) (by simp) ?_;refine AllReadyIn.cons (o:=_) (by simp only[List.getElem?_toArray,List.getElem?_cons_succ,List.getElem?_cons_zero];rfl) (λK hK=>?_) ?_
      ·refine Zbno rfl _ _ 29 rfl (w.heap.size+2) 9 i0 (.string ⟨#[]⟩) 1 16 underlying29 hi hz0 hz1 hz2 rfl (by decide) v _ _ rfl (hrd.alloc _) ⟨W.heap.size,0,none⟩ 1 1 [.string (trimB x)] rfl rfl (cell_one_new _ _ _) (by simp[Value.oneCell']) hml (by omega) (by show w.heap.size+2<=(W.drew.alloc _).heap.size;rw[World.size_alloc];show _<=W.heap.size+1;omega) ?_
       intro v' w1 hown' hgrow hni;obtain⟨g',cap',rfl⟩:=ownsRow_succ hown';obtain⟨hv1,hv2,hr2,hk2,hb2,hj2⟩:=Zgj hvd hrd (by omega) (by show _<=W.heap.size;omega) hown' hgrow;have hc1:=hv1.cell;have hf1:=hv1.frozen;refine hK _ _ ?_;clear hK K
       try simp only[Act.put,List.setIfInBounds_toArray,List.set_cons_zero,List.set_cons_succ]
       refine wpAnyIn_ready (rs:=[5]) (by kernel_rfl) (by simp) ?_;refine AllReadyIn.cons (o:=_) (by simp only[List.getElem?_toArray,List.getElem?_cons_succ,List.getElem?_cons_zero];rfl) (λK hK=>?_) ?_
       ·go_simp
        refine hK _ _ ?_;clear hK K
        try simp only[Act.put,List.setIfInBounds_toArray,List.set_cons_zero,List.set_cons_succ]
        refine wpAnyIn_done (by kernel_rfl) ?_ _;exact fin _ _ (by simp) hk2 hb2 hv2 hr2 hj2 _
       exact AllReadyIn.nil
      exact AllReadyIn.nil
     exact AllReadyIn.nil
    exact AllReadyIn.nil
   refine AllReadyIn.cons (o:=_) (by simp only[List.getElem?_toArray,List.getElem?_cons_succ,List.getElem?_cons_zero];rfl) (λK hK=>?_) ?_
   ·go_simp
    refine⟨trivial,?_⟩;refine(hT _ _).mono ?_;rintro e w' ⟨rfl,rfl⟩
    dsimp only
    refine hK _ _ ?_;clear hK K
    try simp only[Act.put,List.setIfInBounds_toArray,List.set_cons_zero,List.set_cons_succ]
    refine wpAnyIn_ready (rs:=[0,3]) (by kernel_rfl) (by simp) ?_;refine AllReadyIn.cons (o:=_) (by simp only[List.getElem?_toArray,List.getElem?_cons_zero];rfl) (λK hK=>?_) ?_
    ·go_simp
     refine hK _ _ ?_;clear hK K
     try simp only[Act.put,List.setIfInBounds_toArray,List.set_cons_zero,List.set_cons_succ]
     refine wpAnyIn_ready (rs:=[3]) (by kernel_rfl) (by simp) ?_;refine AllReadyIn.cons (o:=_) (by simp only[List.getElem?_toArray,List.getElem?_cons_succ,List.getElem?_cons_zero];rfl) (λK hK=>?_) ?_
     ·go_simp
      refine hK _ _ ?_;clear hK K
      try simp only[Act.put,List.setIfInBounds_toArray,List.set_cons_zero,List.set_cons_succ]
      refine wpAnyIn_ready (rs:=[4]) (by kernel_rfl) (by simp) ?_;refine AllReadyIn.cons (o:=_) (by simp only[List.getElem?_toArray,List.getElem?_cons_succ,List.getElem?_cons_zero];rfl) (λK hK=>?_) ?_
      ·refine Zbno rfl _ _ 29 rfl (w.heap.size+2) 9 i0 (.string ⟨#[]⟩) 1 16 underlying29 hi hz0 hz1 hz2 rfl (by decide) v _ _ rfl (hrd.alloc _) ⟨W.heap.size,0,none⟩ 1 1 [.string (trimB x)] rfl rfl (cell_one_new _ _ _) (by simp[Value.oneCell']) hml (by omega) (by show w.heap.size+2<=(W.drew.alloc _).heap.size;rw[World.size_alloc];show _<=W.heap.size+1;omega) ?_
       intro v' w1 hown' hgrow hni;obtain⟨g',cap',rfl⟩:=ownsRow_succ hown';obtain⟨hv1,hv2,hr2,hk2,hb2,hj2⟩:=Zgj hvd hrd (by omega) (by show _<=W.heap.size;omega) hown' hgrow;have hc1:=hv1.cell;have hf1:=hv1.frozen;refine hK _ _ ?_;clear hK K
       try simp only[Act.put,List.setIfInBounds_toArray,List.set_cons_zero,List.set_cons_succ]
       refine wpAnyIn_ready (rs:=[5]) (by kernel_rfl) (by simp) ?_;refine AllReadyIn.cons (o:=_) (by simp only[List.getElem?_toArray,List.getElem?_cons_succ,List.getElem?_cons_zero];rfl) (λK hK=>?_) ?_
       ·go_simp
        refine hK _ _ ?_;clear hK K
        try simp only[Act.put,List.setIfInBounds_toArray,List.set_cons_zero,List.set_cons_succ]
        refine wpAnyIn_done (by kernel_rfl) ?_ _;exact fin _ _ (by simp) hk2 hb2 hv2 hr2 hj2 _
       exact AllReadyIn.nil
      exact AllReadyIn.nil
     exact AllReadyIn.nil
    refine AllReadyIn.cons (o:=_) (by simp only[List.getElem?_toArray,List.getElem?_cons_succ,List.getElem?_cons_zero];rfl) (λK hK=>?_) ?_
    ·go_simp
     refine hK _ _ ?_;clear hK K
     try simp only[Act.put,List.setIfInBounds_toArray,List.set_cons_zero,List.set_cons_succ]
     refine wpAnyIn_ready (rs:=[0]) (by kernel_rfl) (by simp) ?_;refine AllReadyIn.cons (o:=_) (by simp only[List.getElem?_toArray,List.getElem?_cons_zero];rfl) (λK hK=>?_) ?_
     ·go_simp
      refine hK _ _ ?_;clear hK K
      try simp only[Act.put,List.setIfInBounds_toArray,List.set_cons_zero,List.set_cons_succ]
      refine wpAnyIn_ready (rs:=[4]) (by kernel_rfl) (by simp) ?_;refine AllReadyIn.cons (o:=_) (by simp only[List.getElem?_toArray,List.getElem?_cons_succ,List.getElem?_cons_zero];rfl) (λK hK=>?_) ?_
      ·refine Zbno rfl _ _ 29 rfl (w.heap.size+2) 9 i0 (.string ⟨#[]⟩) 1 16 underlying29 hi hz0 hz1 hz2 rfl (by decide) v _ _ rfl (hrd.alloc _) ⟨W.heap.size,0,none⟩ 1 1 [.string (trimB x)] rfl rfl (cell_one_new _ _ _) (by simp[Value.oneCell']) hml (by omega) (by show w.heap.size+2<=(W.drew.alloc _).heap.size;rw[World.size_alloc];show _<=W.heap.size+1;omega) ?_
       intro v' w1 hown' hgrow hni;obtain⟨g',cap',rfl⟩:=ownsRow_succ hown';obtain⟨hv1,hv2,hr2,hk2,hb2,hj2⟩:=Zgj hvd hrd (by omega) (by show _<=W.heap.size;omega) hown' hgrow;have hc1:=hv1.cell;have hf1:=hv1.frozen;refine hK _ _ ?_;clear hK K
       try simp only[Act.put,List.setIfInBounds_toArray,List.set_cons_zero,List.set_cons_succ]
       refine wpAnyIn_ready (rs:=[5]) (by kernel_rfl) (by simp) ?_;refine AllReadyIn.cons (o:=_) (by simp only[List.getElem?_toArray,List.getElem?_cons_succ,List.getElem?_cons_zero];rfl) (λK hK=>?_) ?_
       ·go_simp
        refine hK _ _ ?_;clear hK K
        try simp only[Act.put,List.setIfInBounds_toArray,List.set_cons_zero,List.set_cons_succ]
        refine wpAnyIn_done (by kernel_rfl) ?_ _;exact fin _ _ (by simp) hk2 hb2 hv2 hr2 hj2 _
       exact AllReadyIn.nil
      exact AllReadyIn.nil
     exact AllReadyIn.nil
    exact AllReadyIn.nil
   exact AllReadyIn.nil
  exact AllReadyIn.nil
 case done=>
  rintro D W hD ⟨⟨v,hv,hrow,hnil⟩,hB,hL⟩ hK;have hc:=hv.cell;have hlen:(rawB s).length=(Zxi s).length:=by rw[<-Zbgt,List.length_map]
  rw[Zbgt,hlen]at hrow;rw[Zbgt]at hnil
  gi_wp2
  refine⟨by simp,.inl ⟨_,_,rfl,run_takeDeferred hK,?_⟩⟩;exact⟨_,results_tmp rfl _ _ _,v,rfl,ownsRow_putObj hrow _ hK rfl,hnil,hB.trans (belowK_b (w:=w) (Nat.le_refl _) W D _ _ (by simp at hD;omega) hK rfl rfl)⟩
end
end Go.Proofs.YtcpjfpdecklkgaaGreatDoor
namespace Go.Proofs.YtcpjfpdecklkgaaGreatDoor
open Go.Lib (hid)
open Go.Proofs.Tryz
open Go.RowKit Go.Shelf
def valE (v:ValT):Value:= .agg #[.bool v.1,.string v.2]
theorem Zup (xs:List ByteArray) (k:Nat) (x:ByteArray) (h:xs[k]? =some x):Zul ((xs.take (k+1)).map (·.data.toList))=Zul ((xs.take k).map (·.data.toList))++x.data.toList ++ [10]:=by
 rw[List.take_add_one,h,List.map_append,Zum];simp[Zul]
theorem Zur (xs:List ByteArray) (k:Nat):(Zul ((xs.take k).map (·.data.toList))).length<=(Zul (xs.map (·.data.toList))).length:=by
 conv=>rhs;rw[<-List.take_append_drop k xs,List.map_append,Zum]
 simp
set_option maxHeartbeats 4000000
set_option maxRecDepth 100000
theorem Zmr (v:Value) (xs:List ByteArray) (w:World) (h:IsStrs w v xs) (hlen:(Zul (xs.map (·.data.toList))).length<=1000000000):
  Calls prog 223 #[v] w λe w'=>e = .returned (.string ⟨(Zul (xs.map (·.data.toList))).toArray⟩)/\Below w.heap.size w w':=by
 obtain⟨a,c,rfl,h1,h1m,h2⟩:=h;have hcells:∀(k:Nat) x,xs[k]? =some x->∃b o,a=some ⟨b,o,none⟩/\b<w.heap.size/\w.cell? ⟨b,o+k,none⟩=some (.string x):=by
  intro k x hx;obtain⟨b,o,ha,hb,hc⟩:=h2 (by rintro rfl;simp at hx);exact⟨b,o,ha,hb,hc k x hx⟩
 have HC:=hid hcells;have HLE:=hid hlen;clear hcells h2 hlen;unfold maxLen at h1m;obtain⟨res,hres⟩:∃res,res=Zul (xs.map (·.data.toList)):=⟨_,rfl⟩;rw[<-hres];have HRES:=hid hres;clear hres;have hB0:=Lib.fresh_isBuilder 161 5 w
 go_enter func223,ntmps223
 go_wp2
 go_loopw [8] (λi wr=>∃k:Nat,k<=xs.length/\i = .int .i64 k/\Lib.IsBuilder 161 5 w.heap.size w.heap.size (Lib.byteCells (Zul ((xs.take k).map (·.data.toList)))) wr/\Below w.heap.size w wr)
  (λi _=>xs.length-(intOf i).toNat)
 case atStart=>exact⟨0,Nat.zero_le _,rfl,hB0,(Below.refl _ _).alloc (Nat.le_refl _) _⟩
 case round=>
  obtain⟨k,hk,rfl,hbu,hnx⟩:=hrel;obtain⟨cur,hcur⟩:∃cur,Zul ((xs.take k).map (·.data.toList))=cur:=⟨_,rfl⟩;rw[hcur]at hbu;have HCUR:=hid hcur;have HBU:=hid hbu;clear hcur hB0 hbu;have hle:=Zur xs k;rw[HCUR.out]at hle;have hsz:=hnx.size
  by_cases hlt:k<xs.length
  ·obtain⟨x,hx⟩:∃x,xs[k]? =some x:=⟨xs[k],List.getElem?_eq_getElem hlt⟩
   obtain⟨b,o,ha,hb,hc⟩:=HC.out k x hx;subst ha;have hcx:wr.cell? ⟨b,o+k,none⟩=some (.string x):=(hnx.cell (by exact hb)).trans hc;have hnext:=Zup xs k x hx;have hle2:=Zur xs (k+1);rw[hnext,HCUR.out]at hle2;have hall:=HLE.out;simp only[List.length_append,List.length_cons,List.length_nil,<-Lib.size_eq]at hle2;have HNX:=hid hnext;have HL:=hid hle2;have HA:=hid hall;have hi1:(k:Int)<(xs.length:Int):=by omega
   have hi0:(0:Int)<=(k:Int):=by omega
   clear hnext hle2 hall hc hx hle
   go_wp2_with fail
   refine(Zbuo w.heap.size w.heap.size cur x _ HBU.out (by have:=HL.out;have:=HA.out;omega) (by omega)).mono ?_;rintro e w3 ⟨rfl,h3,hb3⟩;have s3:=hb3.size;have H3:=hid h3;clear h3
   go_wp2_with fail
   refine(Zbul w.heap.size w.heap.size (cur++x.data.toList) 10 10 rfl w3 H3.out (by have:=HL.out;have:=HA.out;simp only[List.length_append,<-Lib.size_eq];omega) (by omega)).mono ?_;rintro e w4 ⟨rfl,h4,hb4⟩;have hnx5:=(hnx.trans hb3).trans hb4;have H5:=hid h4;clear h4;go_wp2;go_roundw
   case rel=>exact⟨k+1,by omega,by go_num,by rw[HNX.out,HCUR.out];exact H5.out,hnx5⟩
   case measure=>simp[intOf];omega
  ·have hfull:cur=res:=by rw[<-HCUR.out,List.take_of_length_le (by omega),HRES.out]
   have HF:=hid hfull;have hi1:¬(k:Int)<(xs.length:Int):=by omega
   clear hfull
   go_wp2_with fail
   refine(Zgk w.heap.size w.heap.size cur wr HBU.out hsz).mono ?_;rintro e w2 ⟨rfl,hb2⟩;go_wp2;go_ret;exact⟨Zbhr (by rw[HF.out]),hnx.trans hb2⟩
theorem Zuz (xs:List (List UInt8)):Lib.join xs []=xs.flatten:=by
 unfold Lib.join
 induction xs with
 | nil=>rfl
 | cons x l ih=>
  cases l with
  | nil=>simp[List.intercalate]
  | cons y r=>rw[List.flatten_cons,<-ih];simp[List.intercalate,List.intersperse]
theorem Zbsx (v:Value) (xs:List ByteArray) (w:World) (h:IsStrs w v xs) (hN:xs.length<=1000000000) (hlen:(xs.map (·.data.toList)).flatten.length<=1000000000):
  Calls prog 111 #[v] w λe w'=>e = .returned (valE (capV (xs.map (·.data.toList)).flatten))/\Below w.heap.size w w':=by
 have hb:Below w.heap.size w (w.alloc (.cells #[.bool false,.string ⟨#[]⟩] 46)):=(Below.refl _ _).alloc (Nat.le_refl _) _;have cJ:=Zuy v xs ⟨#[]⟩ _ (h.below hb) (by omega) (by rw[show(⟨#[]⟩:ByteArray).data.toList = []from rfl,Zuz];omega);rw[show(⟨#[]⟩:ByteArray).data.toList = []from rfl,Zuz]at cJ;obtain⟨L,hL⟩:∃L,(xs.map (·.data.toList)).flatten=L:=⟨_,rfl⟩;rw[hL]at cJ hlen⊢;obtain⟨T,hT⟩:∃T:ByteArray,(⟨L.toArray⟩:ByteArray)=T:=⟨_,rfl⟩;have hTs:T.size=L.length:=by rw[<-hT];simp[ByteArray.size]
 rw[hT]at cJ;have CJ:=hid cJ;have HB:=hid hb;clear cJ hb h hN hL
 go_enter func111,ntmps111
 go_wp2_with fail
 refine CJ.out.mono ?_;rintro e w2 ⟨rfl,hb2⟩;have hx:=(hb2.block w.heap.size (by simp)).trans (alloc_at w _);obtain⟨d0,d1,f0,f1⟩:=Zih hx;have HX:=hid hx;have HB2:=hid (HB.out.trans (hb2.mono (by simp)));have hs2:=hb2.size;simp only[World.size_alloc]at hs2;have HS2:=hid hs2;clear hb2 hs2
 by_cases hc:L.length<=2000
 ·have hj:¬(2000:Int)<(T.size:Int):=by omega
  have hv:capV L=(true,T):=by unfold capV;rw[if_pos hc,hT]
  go_wp2;refine bodyPost_ret (Zbhl rfl _ _ w.heap.size _ _ _ _ rfl (heap_set _ _ (heap_set _ _ HX.out)) underlying46 rfl (by kernel_rfl)) rfl ?_;exact⟨by rw[hv];rfl,(HB2.out.setCell (p:=⟨w.heap.size,0,none⟩) (Nat.le_refl _) _).setCell (p:=⟨w.heap.size,1,none⟩) (Nat.le_refl _) _⟩
 ·have hj:(2000:Int)<(T.size:Int):=by omega
  have hv:capV L=noV:=by unfold capV;rw[if_neg hc]
  go_wp2;refine bodyPost_ret (Zbhl rfl _ _ w.heap.size _ _ _ _ rfl (heap_set _ _ (heap_set _ _ HX.out)) underlying46 rfl (by kernel_rfl)) rfl ?_;exact⟨by rw[hv];rfl,(HB2.out.setCell (p:=⟨w.heap.size,0,none⟩) (Nat.le_refl _) _).setCell (p:=⟨w.heap.size,1,none⟩) (Nat.le_refl _) _⟩
set_option maxHeartbeats 4000000
set_option maxRecDepth 100000
theorem Zbrz {v:ValT}:∃b t,v=(b,t)/\valE v = .agg #[.bool b,.string t]:=⟨v.1,v.2,rfl,rfl⟩
theorem Zbqp (w:World) (t:ByteArray) {W:World} (hb:Below (w.heap.size+1) (w.alloc (.cells #[.string t] 9)) W):IsStrs W (.slice (some ⟨w.heap.size,0,none⟩) 1 1) [t]:=by
 refine⟨_,1,rfl,Nat.le_refl _,by decide,λ_=>⟨w.heap.size,0,rfl,by have:=hb.size;simp at this;omega,λj x hx=>?_⟩⟩
 cases j with
 | zero=>
  obtain rfl:t=x:=by simpa using hx
  exact(hb.cell (p:=⟨w.heap.size,0,none⟩) (by simp)).trans (cell_one_new w (.string t) 9 0 _ rfl)
 | succ j=>simp at hx
theorem Zbas (s:ByteArray) (w:World) (hs:s.size<=1000000000):
  Calls prog 156 #[.string s] w λe w'=>e = .returned (valE (if s.data.toList = []then noV else capV s.data.toList))/\Below w.heap.size w w':=by
 obtain⟨R,hR⟩:∃R,(if s.data.toList = []then noV else capV s.data.toList)=R:=⟨_,rfl⟩;rw[hR];have hb:Below w.heap.size w (w.alloc (.cells #[.bool false,.string ⟨#[]⟩] 46)):=(Below.refl _ _).alloc (Nat.le_refl _) _;obtain⟨W1,hW1⟩:∃W1,w.alloc (.cells #[.bool false,.string ⟨#[]⟩] 46)=W1:=⟨_,rfl⟩;have hs1:W1.heap.size=w.heap.size+1:=by rw[<-hW1];simp
 have hx:W1.heap[w.heap.size]? =some (.cells #[.bool false,.string ⟨#[]⟩] 46):=by rw[<-hW1];exact alloc_at w _
 have cW:=Zbsx (.slice (some ⟨w.heap.size+1,0,none⟩) 1 1) [s] (W1.alloc (.cells #[.string s] 9)) (by rw[<-hs1];exact Zbqp W1 s (Below.refl _ _)) (by simp) (by simpa[<-Lib.size_eq]using hs);rw[show([s].map (·.data.toList)).flatten=s.data.toList by simp]at cW;rw[hW1]at hb;have HB:=hid hb;have HX:=hid hx;have CW:=hid cW;have HR:=hid hR;have HW1:=hid hW1;have HS1:=hid hs1;clear hb hx cW hR hW1 hs1
 by_cases he:s.data.toList = []
 ·have hq:(s.toList==([]:List UInt8))=true:=by rw[ByteArray.toList_eq,he];rfl
  obtain⟨d0,d1,f0,f1⟩:=Zih HX.out
  go_enter func156,ntmps156
  go_wp2_with fail
  rw[HW1.out];go_wp2;refine bodyPost_ret (Zbhl rfl _ _ w.heap.size _ _ _ _ rfl HX.out underlying46 rfl (by kernel_rfl)) rfl ?_;exact⟨by rw[<-HR.out,if_pos he];rfl,HB.out⟩
 ·have hq:(s.toList==([]:List UInt8))=false:=by rw[ByteArray.toList_eq];simpa using he
  have HR2:=hid (HR.out.symm.trans (if_neg he));obtain⟨ok,t,e1,e2⟩:=Zbrz (v:=capV s.data.toList);rw[e2]at CW;have HE:=hid e1;clear e1 e2 he
  go_enter func156,ntmps156
  go_wp2_with fail
  rw[HW1.out]
  go_wp2_with fail
  refine CW.out.mono ?_;rintro e w2 ⟨rfl,hb2⟩;have hx2:=(hb2.block w.heap.size (by have:=HS1.out;simp only[World.size_alloc];omega)).trans ((Below.heap_alloc _ _ _ (by have:=HS1.out;omega)).trans HX.out);obtain⟨d0,d1,f0,f1⟩:=Zih hx2;have HX2:=hid hx2;have HB2:=hid ((HB.out.alloc HB.out.size _).trans (hb2.mono (by have:=HS1.out;simp only[World.size_alloc];omega)));clear hx2 hb2;go_wp2;refine bodyPost_ret (Zbhl rfl _ _ w.heap.size _ _ _ _ rfl (heap_set _ _ (heap_set _ _ HX2.out)) underlying46 rfl (by kernel_rfl)) rfl ?_;exact⟨by rw[HR2.out,HE.out];rfl,(HB2.out.setCell (p:=⟨w.heap.size,0,none⟩) (Nat.le_refl _) _).setCell (p:=⟨w.heap.size,1,none⟩) (Nat.le_refl _) _⟩
theorem Zsr:(prog.info? 9).map (λi=>(i.zero,i.size,i.bytes))=some (some (.string ⟨#[]⟩),1,16):=by kernel_rfl
theorem Zyf (n:Nat) (hn:n<=1000000000) (w:World):(Instr.makeSlice 29 (.int .i64 0) (.int .i64 (n:Int))).run prog w = .ok (.slice (some ⟨w.heap.size,0,none⟩) 0 n) (w.alloc (.cells (madeCells #[.string ⟨#[]⟩] n) 9)):=by
 obtain⟨i0,hi,hz,hs,hb⟩:=info_parts Zsr;have:=run_make (P:=prog) w 29 9 i0 (.string ⟨#[]⟩) underlying29 hi hz .i64 .i64 0 n (by omega) (by omega) (by rw[hb];omega) (by omega);rw[hs,show(Value.string ⟨#[]⟩).cells = #[.string ⟨#[]⟩]from rfl]at this;simpa using this
def Zbrm (vs:List ValT):List ByteArray:=vs.map (·.2)
def Zak (w:World) (vs:List ValT) (e:Ending) (w':World):Prop:=∃v,e = .returned (.tuple #[v,.bool (vs.all (·.1))])/\(vs.all (·.1)=true->IsStrs w' v (Zbrm vs))/\Below w.heap.size w w'
theorem Zbdr {B:Nat} {w:World} {v:Value} {xs:List ByteArray} (h:w.ownsRow B 9 1 v xs.length (xs.map Value.string)):IsStrs w v xs:=(Zbqf (t:=9) h).isStrs
theorem Zko (v:Value) (vs:List ValT) (w:World) (h:Zbb w v vs) (hn:vs.length<=1000000000):
  Calls prog 66 #[v] w (Zak w vs):=by
 obtain⟨a,c,rfl,h1,h1m,h2⟩:=h;obtain⟨i0,hi,hz0,hz1,hz2⟩:=info_parts Zsr;have hcells:∀(k:Nat) x,vs[k]? =some x->∃b o,a=some ⟨b,o,none⟩/\∀w',Below w.heap.size w w'->w'.cell? ⟨b,o+k*2,none⟩=some (.bool x.1)/\w'.cell? ⟨b,o+k*2+1,none⟩=some (.string x.2):=by
  intro k x hx;obtain⟨b,o,ha,hb,hc⟩:=h2 (by rintro rfl;simp at hx);obtain⟨c1,c2⟩:=hc k x hx;exact⟨b,o,ha,λw' hw=>⟨(hw.cell (p:=⟨b,o+k*2,none⟩) hb).trans c1,(hw.cell (p:=⟨b,o+k*2+1,none⟩) hb).trans c2⟩⟩
 have HC:=hid hcells;have hmk:=Zyf vs.length hn;clear hcells h2;unfold maxLen at h1m
 go_enter func66,ntmps66
 go_wp2
 go_loopw [4,12] (λtv iv wr=>∃k:Nat,k<=vs.length/\iv = .int .i64 k/\(vs.take k).all (·.1)=true/\wr.ownsRow w.heap.size 9 1 tv k ((Zbrm (vs.take k)).map Value.string)/\Below w.heap.size w wr)
  (λ_ i _=>vs.length-(intOf i).toNat)
 case atStart=>exact⟨0,Nat.zero_le _,rfl,by simp,World.ownsRow_made w _ _ (Nat.le_refl _) (by unfold maxLen;omega) (by rw[size_madeCells];simp),(Below.refl _ _).alloc (Nat.le_refl _) _⟩
 case round=>
  obtain⟨k,hk,rfl,hall,hown,hnx⟩:=hrel;have HALL:=hid hall;have HOWN:=hid hown;have HNX:=hid hnx;have hsz:=hnx.size;clear hall hown hnx
  by_cases hlt:k<vs.length
  ·obtain⟨x,hx⟩:∃x,vs[k]? =some x:=⟨vs[k],List.getElem?_eq_getElem hlt⟩
   obtain⟨b,o,ha,hc⟩:=HC.out k x hx;obtain⟨c1,c2⟩:=hc _ HNX.out;subst ha;obtain⟨ok,s⟩:=x;simp only at c1 c2;have HX:=hid hx;have hi1:(k:Int)<(vs.length:Int):=by omega
   have hi0:(0:Int)<=(k:Int):=by omega
   clear hc hx
   cases ok
   ·go_wp2
    go_ret2
    have hno:vs.all (·.1)=false:=by
     rw[List.all_eq_false];exact⟨(false,s),List.mem_of_getElem? HX.out,by simp⟩
    refine⟨_,by rw[hno];rfl,?_,HNX.out.alloc hsz _⟩;rw[hno];exact λe=>by cases e
   ·have hl:k+1<=maxLen:=by unfold maxLen;omega
    have hbx:=alloc_at wr (.cells #[.bool true,.string s] 46)
    go_wp2_with (at_builtin;refine wpList_append_own _ rfl _ _ 29 rfl w.heap.size 9 i0 _ 1 16 underlying29 hi hz0 hz1 hz2 rfl (by decide) _ _ _ rfl ((HOWN.out.alloc _).alloc _) ⟨wr.heap.size+1,0,none⟩ 1 1 [.string s] rfl rfl ?qc2 ?qc3 hl ?qc5 ?qc6 ?_)
    case qc2=>
     have:=cell_one_new (wr.alloc (.cells #[.bool true,.string s] 46)) (.string s) 9;rw[World.size_alloc]at this;exact this
    case qc3=>intro u hu;simp at hu;subst hu;rfl
    case qc5=>omega
    case qc6=>simp;omega
    intro v' w1 hown' hgrow hnil;have hown1:=HOWN.out;have hbb:Below w.heap.size w w1:=((HNX.out.alloc hsz _).alloc (by simp;omega) _).grown hgrow (by simp;omega) (λj e=>(hown1.lt j e).1);have e:Zbrm (vs.take (k+1))=Zbrm (vs.take k) ++ [s]:=by rw[List.take_add_one,HX.out];simp[Zbrm]
    have HO:=hid (show w1.ownsRow w.heap.size 9 1 v' (k+1) ((Zbrm (vs.take (k+1))).map Value.string) by rw[e,List.map_append];exact hown');have HBB:=hid hbb;have HA2:Hid ((vs.take (k+1)).all (·.1)=true):=by
     show(vs.take (k+1)).all (·.1)=true;rw[List.take_add_one,HX.out,List.all_append,HALL.out];rfl
    clear hown' hgrow hnil hbb e hown1;go_wp2;go_roundw
    case rel=>exact⟨k+1,by omega,by go_num,HA2.out,HO.out,HBB.out⟩
    case measure=>simp[intOf];omega
  ·have hi1:¬(k:Int)<(vs.length:Int):=by omega
   have hfull:vs.take k=vs:=List.take_of_length_le (by omega);have HA2:=hid (show vs.all (·.1)=true by rw[<-hfull];exact HALL.out);have HO:=hid (show IsStrs wr u4 (Zbrm vs)from Zbdr (B:=w.heap.size) (by
    have:=HOWN.out;rw[hfull]at this;have hkl:k=(Zbrm vs).length:=by unfold Zbrm;rw[List.length_map];omega
    rw[<-hkl];exact this))
   go_wp2
   go_ret2
   exact⟨_,by rw[HA2.out];rfl,λ_=>HO.out,HNX.out⟩
end Go.Proofs.YtcpjfpdecklkgaaGreatDoor
