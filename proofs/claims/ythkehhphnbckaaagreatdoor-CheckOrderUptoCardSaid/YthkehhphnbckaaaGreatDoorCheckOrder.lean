import Derived.Test.YthkehhphnbckaaaGreatDoorMbm
import Derived.Test.YthkehhphnbckaaaGreatDoorMbp
import Derived.Test.YthkehhphnbckaaaGreatDoorMbt
namespace Go.Proofs.YthkehhphnbckaaaGreatDoor.lawCheckOrder
open Go.RowKit Go.Shelf
abbrev N0:Nat→Prop:=fun _=>False
theorem Zbye (turn:Int) (n:Nat) (h:0<n):∃(r:Int) (t:Nat),turn.tmod n=r∧-(n:Int)<r∧r<n∧(r+n).tmod n=(t:Int)∧t<n:=by
 refine⟨turn.tmod n,((turn.tmod n+n).tmod n).toNat,rfl,?_,?_,?_,?_⟩
 ·have:=Int.lt_tmod_of_pos turn (b:=(n:Int)) (by omega);omega
 ·exact Int.tmod_lt_of_pos _ (by omega)
 ·have h1:=Int.lt_tmod_of_pos turn (b:=(n:Int)) (by omega)
  have:=Int.tmod_nonneg (n:Int) (show 0≤turn.tmod n+n by omega);omega
 ·have h1:=Int.lt_tmod_of_pos turn (b:=(n:Int)) (by omega)
  have h2:=Int.tmod_lt_of_pos (turn.tmod n+n) (b:=(n:Int)) (by omega)
  have h3:=Int.tmod_nonneg (n:Int) (show 0≤turn.tmod n+n by omega)
  omega
set_option maxHeartbeats 8000000
set_option maxRecDepth 100000
theorem law (v:Value) (xs:List RuleS) (turn:Int) (w:World) (hI:RulesI w v xs) (hu:xs.length≤1048576∧∀y∈xs,SmallR y 1048576) (hG:GP w.heap.size w):
  Calls Tryz.prog 8 #[v,.int .i64 turn] w fun e w'=>e = .returned (.bool true)∧Below w.heap.size w w':=by
 have mixed:Tryz.prog.follows .mixedOrders=true:=by kernel_rfl
 have C0:=Lib.hid (Zfc w hG)
 have CL:Hid (∀w',Below w.heap.size w w'→Calls Tryz.prog 26 #[v] w' (Zbz w' (Zbvw 42 xs))):=by
  show ∀w',_
  exact fun w' hb=>Zbwl v xs w' (hI.below hb) hu.2
 obtain⟨ys,hys⟩:∃ys,Zbvw 42 xs=ys:=⟨_,rfl⟩
 have hyl:ys.length≤42:=by rw[←hys,Zbvy];omega
 have HYS:Hid (∀y∈ys,SmallR y 1048576):=by
  show ∀y∈ys,_
  intro y hy
  rw[←hys]at hy
  obtain⟨x,hx,rfl⟩:=List.mem_map.1 (show y∈(xs.take 42).map cutR from hy)
  exact Zbma (hu.2 x (List.mem_of_mem_take hx))
 rw[hys]at CL
 have CA:Hid (∀w' v' zs,Below w.heap.size w w'→RulesI w' v' zs→zs.length≤42→(∀z∈zs,SmallR z 1048576)→Calls Tryz.prog 27 #[v'] w' fun e w''=>(∃s,e = .returned (.tuple #[.int .i64 (Zbvn zs),.string s]))∧Below w'.heap.size w' w''):=by
  show ∀w' v' zs,_
  intro w' v' zs hb h hl hz
  refine(Zja v' zs w' h hz (by omega) (hG.below hb).glob.max).mono ?_
  rintro e w'' ⟨rfl,hb'⟩
  exact⟨⟨_,rfl⟩,hb'⟩
 have CC:Hid (∀w' v' zs,Below w.heap.size w w'→RulesI w' v' zs→zs.length≤42→(∀z∈zs,SmallR z 1048576)→Zbvn zs=3→Calls Tryz.prog 29 #[v'] w' fun e w''=>(∃a c,e = .returned (.slice a (Zot (Zbng zs)).length c)∧IsStrs w'' (.slice a (Zot (Zbng zs)).length c) (Zot (Zbng zs)))∧Below w'.heap.size w' w''):=by
  show ∀w' v' zs,_
  intro w' v' zs hb h hl hz h3
  refine(Zbvm v' zs w' h hz (by omega) (hG.below hb).glob.max).mono ?_
  rintro e w'' ⟨u,rfl,hs,hb'⟩
  have h0:(Zet zs).1=0:=by
   rcases Zbvq zs with⟨hT,_⟩|⟨_,_,h⟩
   ·rw[hT.before]
   ·exact absurd h3 h
  rw[if_pos h0]at hs
  obtain⟨a,c,rfl⟩:=Zue hs
  exact⟨⟨a,c,rfl,hs⟩,hb'⟩
 have CE:Hid (∀w' v1 v2 zs,IsStrs w' v1 zs→IsStrs w' v2 zs→Calls Tryz.prog 28 #[v1,v2] w' fun e w''=>e = .returned (.bool true)∧Below w'.heap.size w' w''):=by
  show ∀w' v1 v2 zs,_
  exact fun w' v1 v2 zs h1 h2=>Zbwb v1 v2 zs w' h1 h2
 have KEEP:Hid (∀ {w1 w2:World} {v':Value} {zs:List RuleS},RulesA N0 w1 v' zs→Below w1.heap.size w1 w2→RulesA N0 w2 v' zs):=by
  show ∀ {w1 w2:World} {v':Value} {zs:List RuleS},_
  exact fun h hb=>h.keep ((Zpv hb).mono fun b hb e=>by omega)
 clear hI hu hG hys
 go_enter Tryz.func8,Tryz.ntmps8
 go_wp2_with fail
 refine C0.out.mono ?_
 rintro e w1 ⟨rfl,hb1⟩
 have HB1:=Lib.hid hb1
 clear hb1
 go_wp2_with fail
 refine(CL.out _ HB1.out).mono ?_
 rintro e w2 ⟨ra,rn,rc,rfl,hown,hb2⟩
 have hra:RulesA N0 w2 (.slice ra rn rc) ys:=hown.rulesA.mono fun _ _ e=>e.elim
 obtain⟨a',c',q,hrc,hrm⟩:=Zbji hra
 injection q with q1 q2 q3
 subst q2 q3
 have HB2:=Lib.hid (HB1.out.trans (hb2.mono HB1.out.size))
 have HRA:=Lib.hid hra
 unfold maxLen at hrm
 clear hown hra hb2 q1
 obtain⟨n,hnn⟩:∃n,ys.length=n:=⟨_,rfl⟩
 have HNN:=Lib.hid hnn
 rw[hnn]at hyl hrc HRA⊢
 clear hnn
 by_cases hn0:n=0
 ·subst hn0
  go_wp2
  go_ret
  exact⟨rfl,HB2.out⟩
 have hz:¬(n:Int)=0:=by omega
 obtain⟨r,t,hr,hr1,hr2,ht,htn⟩:=Zbye turn n (by omega)
 have hw1:IntKind.i64.wrap r=r:=IntWalk.i64_in _ (by omega)
 have hw2:IntKind.i64.wrap (r+(n:Int))=r+(n:Int):=IntWalk.i64_in _ (by omega)
 have hw3:IntKind.i64.wrap (t:Int)=(t:Int):=IntWalk.i64_in _ (by omega)
 have ht0:(0:Int)≤(t:Int):=by omega
 have ht1:(t:Int)≤(n:Int):=by omega
 have ht2:(t:Int)≤(rc:Int):=by omega
 have hgz:((n:Int)==0)=false:=by simpa using hz
 have hgz':(n==0)=false:=by simpa using hn0
 go_upto_region 8 with fail
 have hbd:Below w2.heap.size w2 (w2.drewN 1):=below_drewN (Below.refl _ _) 1
 have hA:RulesA (fun b=>w2.heap.size≤b) (w2.drewN 1) (.slice ra n rc) ys:=(KEEP.out HRA.out hbd).mono fun b hb e=>by
  have:b<w2.heap.size:=hb
  omega
 have hdr:=Zbxr hA (m:=t) (by omega)
 obtain⟨r1,v1,W1,hr1,ho1,hg1,hl1,hall1⟩:=Zbxu (ty:=53) (v0:= .slice none 0 0) (B:=(w2.drewN 1).heap.size) (n:=0) (xs:=[]) ⟨rfl,.inl ⟨rfl,rfl⟩⟩ hdr (Nat.le_refl _) (by rw[List.length_drop,HNN.out];omega)
 have hB1:=(Zbxs hA (m:=t) (by omega)).keep (Zpx hg1 fun k e=>by cases e)
 have hC1:=hA.keep (Zpx hg1 fun k e=>by cases e)
 obtain⟨r2,v2,W2,hr2,ho2,hg2,hl2,hall2⟩:=Zbxu (ty:=53) ho1 hB1 hg1.size (by rw[List.length_drop,List.length_take,HNN.out];omega)
 have hC2:=hC1.keep (Zpx hg2 fun k e=>(ho1.lt k e).1)
 rw[Nat.zero_add,List.nil_append]at ho2
 have hboth:=Zbxt hall1 hall2 hg1 hg2 ho2 fun b e=>(ho1.lt b e).1
 obtain⟨zs,hzs⟩:∃zs,ys.drop t++ys.take t=zs:=⟨_,rfl⟩
 have hperm:zs.Perm ys:=by
  rw[←hzs]
  exact(List.perm_append_comm).trans (by rw[List.take_append_drop])
 have hzl:zs.length=n:=by rw[hperm.length_eq,HNN.out]
 rw[hzs]at hboth
 obtain⟨ta,tc,q,htl,htm⟩:=Zbji hboth
 subst q
 rw[hzl]at hboth htl hr2
 have HZS:Hid (∀y∈zs,SmallR y 1048576):=by show ∀y∈zs,_;exact fun y hy=>HYS.out y (hperm.mem_iff.1 hy)
 have HT2:=Lib.hid hboth
 have HRA2:=Lib.hid (hC2.mono (Av':=N0) fun b hb e=>e.elim)
 have HBW2:Hid (Below w.heap.size w W2):=Lib.hid (((HB2.out.trans (hbd.mono HB2.out.size)).grown hg1 HB2.out.size (fun k e=>by cases e)).grown hg2 ((HB2.out.trans (hbd.mono HB2.out.size)).grown hg1 HB2.out.size (fun k e=>by cases e)).size (fun k e=>Nat.le_trans HB2.out.size (ho1.lt k e).1))
 have HR1:=Lib.hid hr1
 have HR2:=Lib.hid hr2
 have hcp:=Zbvu hperm
 have HZL:=Lib.hid hzl
 have hzl42:zs.length≤42:=by omega
 have hyl42:ys.length≤42:=by rw[HNN.out];exact hyl
 obtain⟨c,hc⟩:∃c,Zbvn ys=c:=⟨_,rfl⟩
 obtain⟨d,hd⟩:∃d,Zbvn zs=d:=⟨_,rfl⟩
 have C1:=CA.out
 have K1:=Lib.hid (show Calls Tryz.prog 27 #[.slice ra n rc] W2 fun e w''=>(∃s,e = .returned (.tuple #[.int .i64 c,.string s]))∧Below W2.heap.size W2 w'' by rw[←hc];exact C1 W2 _ ys HBW2.out HRA2.out.rulesI hyl42 HYS.out)
 have K2:Hid (∀V,Below W2.heap.size W2 V→Calls Tryz.prog 27 #[.slice ta n tc] V fun e w''=>(∃s,e = .returned (.tuple #[.int .i64 d,.string s]))∧Below V.heap.size V w''):=by
  show ∀V,_
  intro V hV
  rw[←hd]
  exact C1 V _ zs (HBW2.out.trans (hV.mono HBW2.out.size)) (KEEP.out HT2.out hV).rulesI hzl42 HZS.out
 have K3:Hid (c=3→∀V,Below W2.heap.size W2 V→Calls Tryz.prog 29 #[.slice ra n rc] V fun e w''=>(∃a c,e = .returned (.slice a (Zot (Zbng ys)).length c)∧IsStrs w'' (.slice a (Zot (Zbng ys)).length c) (Zot (Zbng ys)))∧Below V.heap.size V w''):=by
  show c=3→_
  intro h3 V hV
  exact CC.out V _ ys (HBW2.out.trans (hV.mono HBW2.out.size)) (KEEP.out HRA2.out hV).rulesI hyl42 HYS.out (hc.trans h3)
 have K4:Hid (c=3→∀V,Below W2.heap.size W2 V→Calls Tryz.prog 29 #[.slice ta n tc] V fun e w''=>(∃a c,e = .returned (.slice a (Zot (Zbng ys)).length c)∧IsStrs w'' (.slice a (Zot (Zbng ys)).length c) (Zot (Zbng ys)))∧Below V.heap.size V w''):=by
  show c=3→_
  intro h3 V hV
  have:=CC.out V _ zs (HBW2.out.trans (hV.mono HBW2.out.size)) (KEEP.out HT2.out hV).rulesI hzl42 HZS.out (hcp.2.1.1 (hc.trans h3))
  rw[hcp.2.2 (hc.trans h3)]at this
  exact this
 have HCD:Hid ((c=3∧d=3)∨(c=0∧d=0)∨(c≠0∧c≠3∧d≠0∧d≠3)):=by
  show _∨_
  rw[hc,hd]at hcp
  have h1:=hcp.1
  have h2:=hcp.2.1
  omega
 unfold maxLen at htm
 have hw4:(r+(n:Int)).tmod (n:Int)=(t:Int):=ht
 clear hbd hA hdr hr1 ho1 hg1 hl1 hall1 hB1 hC1 hr2 ho2 hg2 hl2 hall2 hC2 hboth hzs hperm hzl hcp hzl42 hyl42 C1 hc hd CA CC CL
 refine wp_region_held_drew (S:=fun _=>True) (by kernel_rfl) ?_ (fun hHeld=>?_)
 ·trivial
 refine tkH 0 (v:=?_) ?_ ?_
 rotate_left
 ·intro w hSw;go_simp;try with_reducible rfl
 try simp only[Act.put,List.setIfInBounds_toArray,List.set_cons_zero,List.set_cons_succ]
 refine tkH 1 (v:=?_) ?_ ?_
 rotate_left
 ·intro w hSw;go_simp;try with_reducible rfl
 try simp only[Act.put,List.setIfInBounds_toArray,List.set_cons_zero,List.set_cons_succ]
 refine tkH 2 (v:=?_) ?_ ?_
 rotate_left
 ·intro w hSw;go_simp;try with_reducible rfl
 try simp only[Act.put,List.setIfInBounds_toArray,List.set_cons_zero,List.set_cons_succ]
 refine tkH 4 (v:=?_) ?_ ?_
 rotate_left
 ·intro w hSw;go_simp;try with_reducible rfl
 try simp only[Act.put,List.setIfInBounds_toArray,List.set_cons_zero,List.set_cons_succ]
 refine tkH 5 (v:=?_) ?_ ?_
 rotate_left
 ·intro w hSw;go_simp;try with_reducible rfl
 try simp only[Act.put,List.setIfInBounds_toArray,List.set_cons_zero,List.set_cons_succ]
 refine tkH 6 (v:=?_) ?_ ?_
 rotate_left
 ·intro w hSw;go_simp;try with_reducible rfl
 try simp only[Act.put,List.setIfInBounds_toArray,List.set_cons_zero,List.set_cons_succ]
 refine wpAnyH_ready (rs:=[3]) (by kernel_rfl) (by simp) ?_
 refine AllReadyH.cons (o:=_) (by simp only[List.getElem?_toArray,List.getElem?_cons_succ,List.getElem?_cons_zero];rfl) (fun K hK=>?_) ?_
 ·refine Zbxy (by rfl) _ _ 53 (by rfl) (by rfl) (by rfl) HR1.out ?_
  refine hK.out _ _ ?_ (fun hHeld=>?_)
  ·try dsimp only
  clear hK K
  try simp only[Act.put,List.setIfInBounds_toArray,List.set_cons_zero,List.set_cons_succ]
  refine wpAnyH_ready (rs:=[7]) (by kernel_rfl) (by simp) ?_
  refine AllReadyH.cons (o:=_) (by simp only[List.getElem?_toArray,List.getElem?_cons_succ,List.getElem?_cons_zero];rfl) (fun K hK=>?_) ?_
  ·refine Zbxy (by rfl) _ _ 53 (by rfl) (by rfl) (by rfl) HR2.out ?_
   refine hK.out _ _ ?_ (fun hHeld=>?_)
   ·try dsimp only
   clear hK K
   try simp only[Act.put,List.setIfInBounds_toArray,List.set_cons_zero,List.set_cons_succ]
   refine wpAnyH_ready (rs:=[8]) (by kernel_rfl) (by simp) ?_
   refine AllReadyH.cons (o:=_) (by simp only[List.getElem?_toArray,List.getElem?_cons_succ,List.getElem?_cons_zero];rfl) (fun K hK=>?_) ?_
   ·go_simp
    refine hK.out _ _ ?_ (fun hHeld=>?_)
    ·try dsimp only
    clear hK K
    try simp only[Act.put,List.setIfInBounds_toArray,List.set_cons_zero,List.set_cons_succ]
    refine wpAnyH_done (by kernel_rfl) ?_ _
    go_wp2_with fail
    refine K1.out.mono ?_
    rintro e w3 ⟨⟨s1,rfl⟩,hb3⟩
    have HB3:=Lib.hid hb3
    clear hb3
    go_wp2_with fail
    refine(K2.out _ HB3.out).mono ?_
    rintro e w4 ⟨⟨s2,rfl⟩,hb4⟩
    have HB4:=Lib.hid (HB3.out.trans (hb4.mono HB3.out.size))
    clear hb4
    rcases HCD.out with⟨h1,h2⟩|⟨h1,h2⟩|⟨h1,h2,h3,h4⟩
    ·subst h2
     have k3:=K3.out h1
     have k4:=K4.out h1
     have K3':=Lib.hid k3;have K4':=Lib.hid k4
     subst h1
     clear k3 k4 K3 K4 HCD
     go_wp2_with fail
     refine(K3'.out _ HB4.out).mono ?_
     rintro e w5 ⟨⟨p1,m1,rfl,hs5⟩,hb5⟩
     have HS5:=Lib.hid hs5
     have HB5:=Lib.hid (HB4.out.trans (hb5.mono HB4.out.size))
     clear hs5 hb5
     go_wp2_with fail
     refine(K4'.out _ HB5.out).mono ?_
     rintro e w6 ⟨⟨p2,m2,rfl,hs6⟩,hb6⟩
     have HS6:=Lib.hid hs6
     have HS5':=Lib.hid (HS5.out.below hb6)
     have HB6:=Lib.hid (HB5.out.trans (hb6.mono HB5.out.size))
     clear hs6 hb6
     go_wp2_with fail
     refine(CE.out _ _ _ _ HS5'.out HS6.out).mono ?_
     rintro e w7 ⟨rfl,hb7⟩
     have HB7:=Lib.hid (HB6.out.trans (hb7.mono HB6.out.size))
     clear hb7
     go_wp2
     go_ret
     exact⟨rfl,HBW2.out.trans (HB7.out.mono HBW2.out.size)⟩
    ·subst h1 h2
     clear HCD
     go_wp2
     go_ret
     exact⟨rfl,HBW2.out.trans (HB4.out.mono HBW2.out.size)⟩
    ·clear HCD
     have b1:(c==3)=false:=by simpa using h2
     have b2:(d==3)=false:=by simpa using h4
     have b3:(c==0)=false:=by simpa using h1
     have b4:(d==0)=false:=by simpa using h3
     have h1':¬c=0:=h1
     have h2':¬c=3:=h2
     have h3':¬d=0:=h3
     have h4':¬d=3:=h4
     go_wp2
     go_ret
     exact⟨rfl,HBW2.out.trans (HB4.out.mono HBW2.out.size)⟩
   exact AllReadyH.nil
  exact AllReadyH.nil
 exact AllReadyH.nil
end Go.Proofs.YthkehhphnbckaaaGreatDoor.lawCheckOrder
