import Derived.Test.YthkehhphnbckaaaGreatDoorMbm
import Derived.Test.YthkehhphnbckaaaGreatDoorMbp
import Derived.Test.YthkehhphnbckaaaGreatDoorMbt
namespace Go.Proofs.YthkehhphnbckaaaGreatDoor.lawCheckLess
open Go.RowKit Go.Shelf
abbrev N0:Nat→Prop:=fun _=>False
theorem Zbye (turn:Int) (n:Nat) (h:0<n):∃(r:Int) (t:Nat),turn.tmod n=r∧-(n:Int)<r∧r<n∧(r+n).tmod n=(t:Int)∧t<n:=by
 refine⟨turn.tmod n,((turn.tmod n+n).tmod n).toNat,rfl,?_,?_,?_,?_⟩
 ·have:=Int.lt_tmod_of_pos turn (b:=(n:Int)) (by omega);omega
 ·exact Int.tmod_lt_of_pos _ (by omega)
 ·have h1:=Int.lt_tmod_of_pos turn (b:=(n:Int)) (by omega)
  have:=Int.tmod_nonneg (n:Int) (show 0≤turn.tmod n+n by omega);omega
 ·have h1:=Int.lt_tmod_of_pos turn (b:=(n:Int)) (by omega)
  have h2:=Int.tmod_lt_of_pos (turn.tmod n+n) (b:=(n:Int)) (by omega)
  have h3:=Int.tmod_nonneg (n:Int) (show 0≤turn.tmod n+n by omega)
  omega
def aftB (zs:List RuleS) (s:ByteArray) (i:Nat):Bool:=(zs.take i).any fun r=>decide (0≤Zoi r.after s)
theorem Zbvd {zs:List RuleS} {s:ByteArray} {i:Nat} {z:RuleS} (h:zs[i]? =some z):aftB zs s (i+1)=(aftB zs s i||decide (0≤Zoi z.after s)):=by
 unfold aftB
 rw[List.take_add_one,h,List.any_append]
 simp
theorem Zbwd {xs:List ByteArray} {s:ByteArray}:0≤Zoi xs s↔s∈xs:=by
 rcases Zom xs s with⟨h,h2⟩|⟨k,h,h1,h2⟩
 ·rw[h]
  refine⟨fun e=>absurd e (by decide),fun hm=>?_⟩
  obtain⟨j,hj⟩:=List.getElem?_of_mem hm
  exact absurd hj (h2 j)
 ·rw[h]
  exact⟨fun _=>List.mem_of_getElem? h1,fun _=>by omega⟩
theorem Zbvc {zs:List RuleS} {s:ByteArray}:(aftB zs s zs.length=true↔∃r∈zs,s∈r.after):=by
 unfold aftB
 rw[List.take_length,List.any_eq_true]
 simp only[decide_eq_true_eq,Zbwd]
set_option maxHeartbeats 8000000
set_option maxRecDepth 100000
theorem law (v:Value) (xs:List RuleS) (turn:Int) (w:World) (hI:RulesI w v xs) (hu:xs.length≤1048576∧∀y∈xs,SmallR y 1048576) (hG:GP w.heap.size w):
  Calls Tryz.prog 7 #[v,.int .i64 turn] w fun e w'=>e = .returned (.bool true)∧Below w.heap.size w w':=by
 have mixed:Tryz.prog.follows .mixedOrders=true:=by kernel_rfl
 have C0:=Lib.hid (Zfc w hG)
 have CL:Hid (∀w',Below w.heap.size w w'→Calls Tryz.prog 26 #[v] w' (Zbz w' (Zbvw 42 xs))):=by
  show ∀w',_
  exact fun w' hb=>Zbwl v xs w' (hI.below hb) hu.2
 obtain⟨ys,hys⟩:∃ys,Zbvw 42 xs=ys:=⟨_,rfl⟩
 have hyl:ys.length≤42:=by rw[←hys,Zbvy];omega
 have HYS:Hid (∀y∈ys,SmallR y 1048576):=by
  show ∀y∈ys,_
  intro y hy
  rw[←hys]at hy
  obtain⟨x,hx,rfl⟩:=List.mem_map.1 (show y∈(xs.take 42).map cutR from hy)
  exact Zbma (hu.2 x (List.mem_of_mem_take hx))
 rw[hys]at CL
 have CA:Hid (∀w' v' zs,Below w.heap.size w w'→RulesI w' v' zs→zs.length≤42→(∀z∈zs,SmallR z 1048576)→Calls Tryz.prog 27 #[v'] w' fun e w''=>e = .returned (.tuple #[.int .i64 (allB zs (Zot (Zbng zs))).1,.string (allB zs (Zot (Zbng zs))).2])∧Below w'.heap.size w' w''):=by
  show ∀w' v' zs,_
  intro w' v' zs hb h hl hz
  exact Zja v' zs w' h hz (by omega) (hG.below hb).glob.max
 have KEEP:Hid (∀ {w1 w2:World} {v':Value} {zs:List RuleS},RulesA N0 w1 v' zs→Below w1.heap.size w1 w2→RulesA N0 w2 v' zs):=by
  show ∀ {w1 w2:World} {v':Value} {zs:List RuleS},_
  exact fun h hb=>h.keep ((Zpv hb).mono fun b hb e=>by omega)
 have HFI:Hid (∀v' l s w',IsStrs w' v' l→Calls Tryz.prog 23 #[v',.string s] w' fun e w''=>e = .returned (.int .i64 (Zoi l s))∧w''=w'):=by
  show ∀v' l s w',_
  exact fun v' l s w' h=>Zhe v' l s w' h
 clear hI hu hG hys
 go_enter Tryz.func7,Tryz.ntmps7
 go_wp2_with fail
 refine C0.out.mono ?_
 rintro e w1 ⟨rfl,hb1⟩
 have HB1:=Lib.hid hb1
 clear hb1
 go_wp2_with fail
 refine(CL.out _ HB1.out).mono ?_
 rintro e w2 ⟨ra,rn,rc,rfl,hown,hb2⟩
 have hra:RulesA N0 w2 (.slice ra rn rc) ys:=hown.rulesA.mono fun _ _ e=>e.elim
 obtain⟨a',c',q,hrc,hrm⟩:=Zbji hra
 injection q with q1 q2 q3
 subst q2 q3
 have HB2:=Lib.hid (HB1.out.trans (hb2.mono HB1.out.size))
 have HRA:=Lib.hid hra
 unfold maxLen at hrm
 clear hown hra hb2 q1
 obtain⟨n,hnn⟩:∃n,ys.length=n:=⟨_,rfl⟩
 have HNN:=Lib.hid hnn
 have cA:=CA.out w2 _ ys HB2.out HRA.out.rulesI hyl HYS.out
 obtain⟨c,hc⟩:∃c,(allB ys (Zot (Zbng ys))).1=c:=⟨_,rfl⟩
 obtain⟨cs,hcs⟩:∃s,(allB ys (Zot (Zbng ys))).2=s:=⟨_,rfl⟩
 rw[hc,hcs]at cA
 have HC:Hid (Zbvn ys=c):=Lib.hid hc
 rw[hnn]at hyl hrc HRA cA⊢
 have K0:=Lib.hid cA
 clear hnn hc hcs cA
 go_wp2_with fail
 refine K0.out.mono ?_
 rintro e w3 ⟨rfl,hb3⟩
 have HB3:=Lib.hid (HB2.out.trans (hb3.mono HB2.out.size))
 have HRA3:=Lib.hid (KEEP.out HRA.out hb3)
 clear hb3 K0 HRA
 by_cases hc0:c=0
 rotate_left
 ·have hcb:(c==0)=false:=by simpa using hc0
  go_wp2
  go_ret
  exact⟨rfl,HB3.out⟩
 subst hc0
 by_cases hn0:n=0
 ·subst hn0
  go_wp2
  go_ret
  exact⟨rfl,HB3.out⟩
 have hz:¬(n:Int)=0:=by omega
 obtain⟨r,t,hr,hr1,hr2,ht,htn⟩:=Zbye turn n (by omega)
 have hw1:IntKind.i64.wrap r=r:=IntWalk.i64_in _ (by omega)
 have hw2:IntKind.i64.wrap (r+(n:Int))=r+(n:Int):=IntWalk.i64_in _ (by omega)
 have hw3:IntKind.i64.wrap (t:Int)=(t:Int):=IntWalk.i64_in _ (by omega)
 have hw5:IntKind.i64.wrap ((t:Int)+1)=(t:Int)+1:=IntWalk.i64_in _ (by omega)
 have ht0:(0:Int)≤(t:Int):=by omega
 have ht1:(t:Int)≤(n:Int):=by omega
 have ht2:(t:Int)≤(rc:Int):=by omega
 have hgz:((n:Int)==0)=false:=by simpa using hz
 have hgz':(n==0)=false:=by simpa using hn0
 go_upto_region 9 with fail
 have hbd:Below w3.heap.size w3 (w3.drewN 1):=below_drewN (Below.refl _ _) 1
 have hA:RulesA (fun b=>w3.heap.size≤b) (w3.drewN 1) (.slice ra n rc) ys:=(KEEP.out HRA3.out hbd).mono fun b hb e=>by
  have:b<w3.heap.size:=hb
  omega
 obtain⟨r1,v1,W1,hr1,ho1,hg1,hl1,hall1⟩:=Zbxu (ty:=53) (v0:= .slice none 0 0) (B:=(w3.drewN 1).heap.size) (n:=0) (xs:=[]) ⟨rfl,.inl ⟨rfl,rfl⟩⟩ (Zbxs hA (m:=t) (by omega)) (Nat.le_refl _) (by rw[List.length_take,HNN.out];omega)
 have hC1:=hA.keep (Zpx hg1 fun k e=>by cases e)
 have hdr:=Zbxr hC1 (m:=t+1) (by omega)
 obtain⟨V6,hV6⟩:∃V,Zly 5 (t+1) ra n rc=V:=⟨_,rfl⟩
 rw[hV6]at hdr
 have hslq:∀W:World,(Instr.sliceAt 53 (.slice ra n rc) (some (.int .i64 ((t:Int)+1))) none none).run Tryz.prog W = .ok V6 W:=by
  intro W
  obtain⟨i0,hi,hz0,hz1,hz2⟩:=Zsv Zsw
  have e2:(t:Int)+1≤(n:Int):=by omega
  have e3:((t:Int)+1).toNat=t+1:=by omega
  have e4:¬(t:Int)+1<0:=by omega
  rw[←hV6]
  unfold Zly
  simp[Instr.sliceAt,Instr.slice,run_underlying Tryz.underlying53,sizeOf,typeInfo,hi,hz1,Instr.sliceBounds,go_sem,e2,e3,e4]
 obtain⟨r2,v2,W2,hr2,ho2,hg2,hl2,hall2⟩:=Zbxu (ty:=53) ho1 hdr hg1.size (by rw[List.length_drop,List.length_take,HNN.out];omega)
 have hC2:=hC1.keep (Zpx hg2 fun k e=>(ho1.lt k e).1)
 rw[Nat.zero_add,List.nil_append]at ho2
 have hboth:=Zbxt hall1 hall2 hg1 hg2 ho2 fun b e=>(ho1.lt b e).1
 obtain⟨x,hx⟩:∃x,ys[t]? =some x:=⟨ys[t]'(by rw[HNN.out];exact htn),List.getElem?_eq_getElem _⟩
 have hna:=Zbvt HC.out hx
 have hya:=Zbwm HC.out hx
 have hzm:∀r∈ys.take t++ys.drop (t+1),r∈ys:=fun r hr=>by
  obtain⟨j,_,hj⟩:=Zbwn hr
  exact List.mem_of_getElem? hj
 have hzn:(ys.take t++ys.drop (t+1)).length+1=n:=by rw[List.length_append,List.length_take,List.length_drop,HNN.out];omega
 obtain⟨zs,hzs⟩:∃zs,ys.take t++ys.drop (t+1)=zs:=⟨_,rfl⟩
 rw[hzs]at hboth hna hya hzm hzn
 obtain⟨ta,tc,q,htl,htm⟩:=Zbji hboth
 subst q
 obtain⟨m,hm⟩:∃m,zs.length=m:=⟨_,rfl⟩
 have HMM:=Lib.hid hm
 have HZS:Hid (∀y∈zs,SmallR y 1048576):=by show ∀y∈zs,_;exact fun y hy=>HYS.out y (hzm y hy)
 have HT2:=Lib.hid hboth
 have HRA2:=Lib.hid (hC2.mono (Av':=N0) fun b hb e=>e.elim)
 have HBW2:Hid (Below w.heap.size w W2):=Lib.hid (((HB3.out.trans (hbd.mono HB3.out.size)).grown hg1 HB3.out.size (fun k e=>by cases e)).grown hg2 ((HB3.out.trans (hbd.mono HB3.out.size)).grown hg1 HB3.out.size (fun k e=>by cases e)).size (fun k e=>Nat.le_trans HB3.out.size (ho1.lt k e).1))
 have hzl42:zs.length≤42:=by omega
 have cZ:=CA.out W2 _ zs HBW2.out HT2.out.rulesI hzl42 HZS.out
 obtain⟨d,hd⟩:∃d,(allB zs (Zot (Zbng zs))).1=d:=⟨_,rfl⟩
 obtain⟨ds,hds⟩:∃s,(allB zs (Zot (Zbng zs))).2=s:=⟨_,rfl⟩
 have HOUT:Hid ((aftB zs x.name m=false∧d=0)∨(aftB zs x.name m=true∧d=2∧ds.size≠0)):=by
  show _∨_
  have haf:=Zbvc (zs:=zs) (s:=x.name)
  rw[hm]at haf
  cases ha:aftB zs x.name m with
  | false=>
   refine .inl ⟨rfl,?_⟩
   rw[ha]at haf
   have:=hna fun r hr hm=>absurd (haf.2 ⟨r,hr,hm⟩) (by decide)
   rw[←hd];exact this
  | true=>
   rw[ha]at haf
   obtain⟨nm,e,hne⟩:=hya (haf.1 rfl)
   refine .inr ⟨rfl,?_,?_⟩
   ·rw[←hd,e]
   ·rw[←hds,e];exact hne
 rw[hd,hds]at cZ
 rw[hm]at htl hr2 HT2 cZ hzn
 have HX:Hid (∀V,Below W2.heap.size W2 V→∃g o,ra=some ⟨g,o,none⟩∧V.cell? ⟨g,o+t*5,none⟩=some (.string x.name)):=by
  show ∀V,_
  intro V hV
  obtain⟨g,o,cap,a1,c1,a2,c2,a3,c3,a4,c4,e,_,_,hcell⟩:=Zbjm (KEEP.out HRA2.out hV).rulesI (k:=t) hx
  injection e with e1 _ _
  exact⟨g,o,e1,(hcell V (Below.refl _ _)).1⟩
 have HZ:Hid (∀(i:Nat) z V,zs[i]? =some z→Below W2.heap.size W2 V→∃g o a3 c3,ta=some ⟨g,o,none⟩∧V.cell? ⟨g,o+i*5+3,none⟩=some (.slice a3 z.after.length c3)∧IsStrs V (.slice a3 z.after.length c3) z.after):=by
  show ∀(i:Nat) z V,_
  intro i z V hz hV
  obtain⟨g,o,cap,a1,c1,a2,c2,a3,c3,a4,c4,e,_,hri,hcell⟩:=Zbjm (KEEP.out HT2.out hV).rulesI (k:=i) hz
  injection e with e1 _ _
  obtain⟨_,_,_,_,q,_,_,h3,_⟩:=hri
  simp only[List.cons.injEq,and_true,true_and]at q
  obtain⟨_,_,rfl,_⟩:=q
  exact⟨g,o,a3,c3,e1,(hcell V (Below.refl _ _)).2.2.2.1,h3⟩
 have HR1:=Lib.hid hr1
 have HR2:=Lib.hid hr2
 have K1:=Lib.hid cZ
 unfold maxLen at htm
 have hw4:(r+(n:Int)).tmod (n:Int)=(t:Int):=ht
 clear hbd hA hdr hr1 ho1 hg1 hl1 hall1 hC1 hr2 ho2 hg2 hl2 hall2 hC2 hboth hzs hna hya hzm hzl42 cZ hd hds hm hx CA CL hV6
 refine wp_region_held_drew (S:=fun _=>True) (by kernel_rfl) ?_ (fun hHeld=>?_)
 ·trivial
 refine tkH 0 (v:=?_) ?_ ?_
 rotate_left
 ·intro w hSw;go_simp;try with_reducible rfl
 try simp only[Act.put,List.setIfInBounds_toArray,List.set_cons_zero,List.set_cons_succ]
 refine tkH 1 (v:=?_) ?_ ?_
 rotate_left
 ·intro w hSw;go_simp;try with_reducible rfl
 try simp only[Act.put,List.setIfInBounds_toArray,List.set_cons_zero,List.set_cons_succ]
 refine tkH 2 (v:=?_) ?_ ?_
 rotate_left
 ·intro w hSw;go_simp;try with_reducible rfl
 try simp only[Act.put,List.setIfInBounds_toArray,List.set_cons_zero,List.set_cons_succ]
 refine tkH 4 (v:=?_) ?_ ?_
 rotate_left
 ·intro w hSw;go_simp;try with_reducible rfl
 try simp only[Act.put,List.setIfInBounds_toArray,List.set_cons_zero,List.set_cons_succ]
 refine tkH 5 (v:=?_) ?_ ?_
 rotate_left
 ·intro w hSw;go_simp;try with_reducible rfl
 try simp only[Act.put,List.setIfInBounds_toArray,List.set_cons_zero,List.set_cons_succ]
 refine tkH 6 (v:=?_) ?_ ?_
 rotate_left
 ·intro w hSw;go_simp;try with_reducible rfl
 try simp only[Act.put,List.setIfInBounds_toArray,List.set_cons_zero,List.set_cons_succ]
 refine tkH 7 (v:=?_) ?_ ?_
 rotate_left
 ·intro w hSw;go_simp;try with_reducible rfl
 try simp only[Act.put,List.setIfInBounds_toArray,List.set_cons_zero,List.set_cons_succ]
 refine wpAnyH_ready (rs:=[3]) (by kernel_rfl) (by simp) ?_
 refine AllReadyH.cons (o:=_) (by simp only[List.getElem?_toArray,List.getElem?_cons_succ,List.getElem?_cons_zero];rfl) (fun K hK=>?_) ?_
 ·refine Zbxy (by rfl) _ _ 53 (by rfl) (by rfl) (by rfl) HR1.out ?_
  refine hK.out _ _ ?_ (fun hHeld=>?_)
  ·try dsimp only
  clear hK K
  try simp only[Act.put,List.setIfInBounds_toArray,List.set_cons_zero,List.set_cons_succ]
  refine wpAnyH_ready (rs:=[8]) (by kernel_rfl) (by simp) ?_
  refine AllReadyH.cons (o:=_) (by simp only[List.getElem?_toArray,List.getElem?_cons_succ,List.getElem?_cons_zero];rfl) (fun K hK=>?_) ?_
  ·refine Zbxy (by rfl) _ _ 53 (by rfl) (by rfl) (by rfl) HR2.out ?_
   refine hK.out _ _ ?_ (fun hHeld=>?_)
   ·try dsimp only
   clear hK K
   try simp only[Act.put,List.setIfInBounds_toArray,List.set_cons_zero,List.set_cons_succ]
   refine wpAnyH_ready (rs:=[9]) (by kernel_rfl) (by simp) ?_
   refine AllReadyH.cons (o:=_) (by simp only[List.getElem?_toArray,List.getElem?_cons_succ,List.getElem?_cons_zero];rfl) (fun K hK=>?_) ?_
   ·go_simp
    refine hK.out _ _ ?_ (fun hHeld=>?_)
    ·try dsimp only
    clear hK K
    try simp only[Act.put,List.setIfInBounds_toArray,List.set_cons_zero,List.set_cons_succ]
    refine wpAnyH_done (by kernel_rfl) ?_ _
    go_wp2_with fail
    refine K1.out.mono ?_
    rintro e w4 ⟨rfl,hb4⟩
    have HB4:=Lib.hid hb4
    clear hb4 hslq
    go_wp2_with fail
    go_loopw [12,57] (fun av iv wr=>∃i:Nat,i≤m∧iv = .int .i64 (i:Int)∧av = .bool (aftB zs x.name i)∧Below W2.heap.size W2 wr) (fun _ iv _=>m-(intOf iv).toNat)
    case atStart=>exact⟨0,Nat.zero_le _,rfl,rfl,HB4.out⟩
    case round=>
     obtain⟨i,hi,rfl,rfl,hbr⟩:=hrel
     by_cases hlt:i<m
     ·obtain⟨z,hz'⟩:∃z,zs[i]? =some z:=⟨zs[i]'(by rw[HMM.out];exact hlt),List.getElem?_eq_getElem _⟩
      have HNX:=Lib.hid (Zbvd (s:=x.name) hz')
      obtain⟨A,hA⟩:∃A,aftB zs x.name i=A:=⟨_,rfl⟩
      rw[hA]
      have HAA:=Lib.hid hA
      have hi1:(i:Int)<(m:Int):=by omega
      have hi0:(0:Int)≤(i:Int):=by omega
      obtain⟨F,hF⟩:∃F,Zoi z.after x.name=F:=⟨_,rfl⟩
      obtain⟨g1,o1,e1,k1⟩:=HX.out wr hbr
      obtain⟨g2,o2,a3,c3,e2,k2,k3⟩:=HZ.out i z wr hz' hbr
      subst e1 e2
      have CF:Hid (∀k:Nat,Calls Tryz.prog 23 #[.slice a3 z.after.length c3,.string x.name] (wr.drewN k) fun e w''=>e = .returned (.int .i64 F)∧w''=wr.drewN k):=by
       show ∀k:Nat,_
       intro k
       rw[←hF]
       exact HFI.out _ _ _ _ (k3.below (below_drewN (Below.refl _ _) k))
      have HDR:Hid (∀k,Below W2.heap.size W2 (wr.drewN k)):=by show ∀k,_;exact fun k=>below_drewN hbr k
      have HFF:=Lib.hid hF
      clear hA hF hz' k3 hbr
      have HEND:Hid (∀k:Nat,∃j:Nat,j≤m∧Value.int .i64 ((i:Int)+1) = .int .i64 (j:Int)∧Value.bool (A||decide (0≤F)) = .bool (aftB zs x.name j)∧Below W2.heap.size W2 (wr.drewN k)):=by
       show ∀k:Nat,_
       intro k
       exact⟨i+1,by omega,by go_num,by rw[HNX.out,HAA.out,HFF.out],HDR.out k⟩
      cases A with
      | true=>
       go_wp2_with fail
       go_quiet ((go_at_call 23;with_reducible refine Calls.quiet_of_same (CF.out _)))
       all_goals go_wp2
       all_goals go_roundw
       case rel=>exact HEND.out _
       case measure=>simp[intOf];omega
      | false=>
       by_cases hF0:0≤F
       ·have hd0:decide (0≤F)=true:=decide_eq_true hF0
        rw[hd0]at HEND
        go_wp2_with fail
        go_quiet ((go_at_call 23;with_reducible refine Calls.quiet_of_same (CF.out _)))
        all_goals go_wp2
        all_goals go_roundw
        case rel=>exact HEND.out _
        case measure=>simp[intOf];omega
       ·have hd0:decide (0≤F)=false:=decide_eq_false hF0
        rw[hd0]at HEND
        go_wp2_with fail
        go_quiet ((go_at_call 23;with_reducible refine Calls.quiet_of_same (CF.out _)))
        all_goals go_wp2
        all_goals go_roundw
        case rel=>exact HEND.out _
        case measure=>simp[intOf];omega
     ·have hi1:¬(i:Int)<(m:Int):=by omega
      obtain rfl:i=m:=by omega
      have HBR:=Lib.hid hbr
      clear hbr
      rcases HOUT.out with⟨ha,hd⟩|⟨ha,hd,hs⟩
      ·rw[ha]
       subst hd
       go_wp2
       go_ret
       exact⟨rfl,HBW2.out.trans (HBR.out.mono HBW2.out.size)⟩
      ·rw[ha]
       subst hd
       have hsb:ds.toList.isEmpty=false:=by
        rw[ByteArray.toList_eq,List.isEmpty_eq_false_iff]
        intro e
        rw[Lib.size_eq,e]at hs
        exact hs rfl
       go_wp2
       go_ret
       exact⟨rfl,HBW2.out.trans (HBR.out.mono HBW2.out.size)⟩
   exact AllReadyH.nil
  exact AllReadyH.nil
 exact AllReadyH.nil
end Go.Proofs.YthkehhphnbckaaaGreatDoor.lawCheckLess
