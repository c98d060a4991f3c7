import Derived.Deep.RegionHeld3
import Derived.Deep.RegionLaw
import Derived.Deep.CutBlock
import Derived.Deep.DeepCutAuto
import Derived.Test.YtmgcaldphpnfgaaGreatDoorMbn
namespace Go.Proofs.YtmgcaldphpnfgaaGreatDoor.lawDenoOrder
open Go.Lib (hid)
open Go.RowKit Go.Shelf
abbrev N0:Nat->Prop:=λ_=>False
theorem Zckx {w w':World} {v:Value} {vs:List ValT} (h:Zbb w v vs) (hb:Below w.heap.size w w'):Zbb w' v vs:=by
 obtain⟨a,c,rfl,h1,h1m,h2⟩:=h;refine⟨a,c,rfl,h1,h1m,λhne=>?_⟩;obtain⟨b,o,rfl,h3,h4⟩:=h2 hne;exact⟨b,o,rfl,Nat.lt_of_lt_of_le h3 hb.size,λj x hx=>⟨(hb.cell h3).trans (h4 j x hx).1,(hb.cell h3).trans (h4 j x hx).2⟩⟩
theorem Zcio (turn:Int) (n:Nat) (h:0<n):∃(r:Int) (t:Nat),turn.tmod n=r/\-(n:Int)<r/\r<n/\(r+n).tmod n=(t:Int)/\t<n:=by
 refine⟨turn.tmod n,((turn.tmod n+n).tmod n).toNat,rfl,?_,?_,?_,?_⟩
 ·have:=Int.lt_tmod_of_pos turn (b:=(n:Int)) (by omega);omega
 ·exact Int.tmod_lt_of_pos _ (by omega)
 ·have h1:=Int.lt_tmod_of_pos turn (b:=(n:Int)) (by omega)
  have:=Int.tmod_nonneg (n:Int) (show 0<=turn.tmod n+n by omega);omega
 ·have h1:=Int.lt_tmod_of_pos turn (b:=(n:Int)) (by omega)
  have h2:=Int.tmod_lt_of_pos (turn.tmod n+n) (b:=(n:Int)) (by omega);have h3:=Int.tmod_nonneg (n:Int) (show 0<=turn.tmod n+n by omega);omega
set_option maxHeartbeats 16000000
set_option maxRecDepth 100000
theorem law (v:Value) (xs:List RuleS) (fv:Value) (fs:List F2) (turn:Int) (w:World) (hI:RulesI w v xs) (hu:xs.length<=1048576/\∀y∈xs,SmallR y 1048576) (hF:IsFiles w fv fs) (hsz:∀f∈fs,f.1.size<=maxLen/\f.2.size<=maxLen) (hG:GP w.heap.size w):
  Calls Tryz.prog 8 #[v,fv,.int .i64 turn] w λe w'=>e = .returned (.bool true)/\Below w.heap.size w w':=by
 have mixed:Tryz.prog.follows .mixedOrders=true:=by kernel_rfl
 have C0:=hid (Zfc w hG);have CL:Hid (∀w',Below w.heap.size w w'->Calls Tryz.prog 25 #[v] w' (Zbz w' (Zbvw 42 xs))):=by
  show ∀w',_;exact λw' hb=>Zbwl v xs w' (hI.below hb) hu.2
 obtain⟨ys,hys⟩:∃ys,Zbvw 42 xs=ys:=⟨_,rfl⟩;have hyl:ys.length<=42:=by rw[<-hys,Zbvy];omega
 have hyz:∀y∈ys,SmallR y 1048576:=by
  intro y hy;rw[<-hys]at hy;obtain⟨x,hx,rfl⟩:=List.mem_map.1 (show y∈(xs.take 42).map cutR from hy);exact Zbma (hu.2 x (List.mem_of_mem_take hx))
 have HYS:Hid (∀y∈ys,SmallR y 1048576):=hid hyz;rw[hys]at CL;obtain⟨c,hc⟩:∃c,Zbvn ys=c:=⟨_,rfl⟩;have HC:=hid hc;have CA:Hid (∀w' v',Below w.heap.size w w'->RulesI w' v' ys->Calls Tryz.prog 26 #[v'] w' λe w''=>(∃s,e = .returned (.tuple #[.int .i64 c,.string s]))/\Below w'.heap.size w' w''):=by
  show ∀w' v',_;intro w' v' hb h;refine(Zja v' ys w' h hyz (by omega) (hG.below hb).glob.max).mono ?_;rintro e w'' ⟨rfl,hb'⟩;exact⟨⟨_,by rw[<-hc];rfl⟩,hb'⟩
 have HGL:Hid (∀V,Below w.heap.size w V->Glob V):=hid λV hV=>(hG.below hV).glob
 have CT:Hid (∀V,Below w.heap.size w V->Calls Tryz.prog 27 #[fv] V (Zchl fs V)):=hid λV hV=>Zcip fv fs V (hF.below hV) hsz (hG.below hV).glob
 unfold Zchl at CT;obtain⟨T,hT⟩:∃T,newF (fs.take 30)=T:=⟨_,rfl⟩;have hok:FOk T:=by rw[<-hT];exact FOk.new _
 have HOK:=hid hok;rw[hT]at CT;clear hI hu hG hys hyz hc hF hsz hT hok
 go_enter Tryz.func8,Tryz.ntmps8
 go_wp2_with fail
 refine C0.out.mono ?_;rintro e w1 ⟨rfl,hb1⟩;have HB1:=hid hb1;clear hb1
 go_wp2_with fail
 refine(CL.out _ HB1.out).mono ?_;rintro e w2 ⟨ra,rn,rc,rfl,hown,hb2⟩;have hra:RulesA N0 w2 (.slice ra rn rc) ys:=hown.rulesA.mono λ_ _ e=>e.elim
 obtain⟨a',c',q,hrc,hrm⟩:=Zbji hra;injection q with q1 q2 q3
 subst q2 q3;have HB2:=hid (HB1.out.trans (hb2.mono HB1.out.size));have HRA:=hid hra;unfold maxLen at hrm;clear hown hra hb2 q1
 go_wp2_with fail
 refine(CA.out _ _ HB2.out HRA.out.rulesI).mono ?_;rintro e w3 ⟨⟨s,rfl⟩,hb3⟩;have HB23:=hid hb3;have HB3:=hid (HB2.out.trans (hb3.mono HB2.out.size));clear hb3;obtain⟨n,hnn⟩:∃n,ys.length=n:=⟨_,rfl⟩;have HNN:=hid hnn;rw[hnn]at hyl hrc HRA⊢;clear hnn
 by_cases hc0:c=0
 rotate_left
 ·have b1:(c==0)=false:=by simpa using hc0
  go_wp2;go_ret;exact⟨rfl,HB3.out⟩
 subst hc0
 by_cases hn0:n=0
 ·subst hn0
  go_wp2;go_ret;exact⟨rfl,HB3.out⟩
 have hz:¬(n:Int)=0:=by omega
 have hgz:((n:Int)==0)=false:=by simpa using hz
 have hgz':(n==0)=false:=by simpa using hn0
 go_upto_region 8 with fail
 go_wp2_with fail
 refine(CT.out _ HB3.out).mono ?_;rintro e w4 ⟨tb,tr,tq,rfl,hT,hb4⟩;have hb24:=HB23.out.trans (hb4.mono HB23.out.size);have HB4:=hid (HB3.out.trans (hb4.mono HB3.out.size));have HT:=hid hT;have HB24:=hid hb24;have HB34:=hid hb4;clear hT hb4 hb24;obtain⟨r,t,hr,hr1,hr2,ht,htn⟩:=Zcio turn n (by omega);have hw1:IntKind.i64.wrap r=r:=IntWalk.i64_in _ (by omega);have hw2:IntKind.i64.wrap (r+(n:Int))=r+(n:Int):=IntWalk.i64_in _ (by omega);have hw3:IntKind.i64.wrap (t:Int)=(t:Int):=IntWalk.i64_in _ (by omega);have ht0:(0:Int)<=(t:Int):=by omega
 have ht1:(t:Int)<=(n:Int):=by omega
 have ht2:(t:Int)<=(rc:Int):=by omega
 have hw4:(r+(n:Int)).tmod (n:Int)=(t:Int):=ht;obtain⟨S,hS⟩:∃S,w4.heap.size=S:=⟨_,rfl⟩;have HS:=hid hS;have hra2:RulesA (λb=>S<=b) w2 (.slice ra n rc) ys:=HRA.out.mono λb hb e=>absurd e (by have:=HB24.out.size;show ¬S<=b;omega)
 have hbd:Below w4.heap.size w4 (w4.drewN 1):=below_drewN (Below.refl _ _) 1;have hSD:S<=(w4.drewN 1).heap.size:=by have:=hbd.size;omega
 have hA:RulesA (λb=>S<=b) (w4.drewN 1) (.slice ra n rc) ys:=hra2.keep (Zpv (HB24.out.trans (hbd.mono HB24.out.size)));have hdr:=Zbxr hA (m:=t) (by omega);obtain⟨rr1,v1,W1,hr1',ho1,hg1,hl1,hall1⟩:=Zbxu (ty:=49) (v0:= .slice none 0 0) (B:=(w4.drewN 1).heap.size) (n:=0) (xs:=[]) ⟨rfl,.inl ⟨rfl,rfl⟩⟩ hdr (Nat.le_refl _) (by rw[List.length_drop,HNN.out];omega);have hB1:=(Zbxs hA (m:=t) (by omega)).keep (Zpx hg1 λk e=>by cases e);obtain⟨rr2,v2,W2,hr2',ho2,hg2,hl2,hall2⟩:=Zbxu (ty:=49) ho1 hB1 hg1.size (by rw[List.length_drop,List.length_take,HNN.out];omega);rw[Nat.zero_add,List.nil_append]at ho2;obtain⟨zs,hzs⟩:∃zs,ys.drop t++ys.take t=zs:=⟨_,rfl⟩;have hperm:zs.Perm ys:=by
  rw[<-hzs];exact(List.perm_append_comm).trans (by rw[List.take_append_drop])
 have hzl:zs.length=n:=by rw[hperm.length_eq,HNN.out]
 have hsum:(ys.drop t).length+(ys.take t).length=n:=by rw[<-hzl,<-hzs,List.length_append]
 rw[hsum]at ho2;obtain⟨ta,tc,q,hta,_,htm⟩:=Zbea ho2;obtain⟨g,hg⟩:=hta hn0;subst q hg;have hQ0:=Zclc hSD hall1 hall2 hg1 hg2 (λb e=>Nat.le_trans hSD (ho1.lt b e).1) ho2 hsum;rw[hzs]at hQ0;have hgS:S<=g:=Nat.le_trans hSD (ho2.lt g rfl).1;obtain⟨o,ho⟩:∃o,0=o:=⟨_,rfl⟩;rw[ho]at hQ0 hr2';have hb4W:Below S w4 W2:=by
  rw[<-hS];exact((hbd.grown hg1 hbd.size (λk e=>by cases e)).grown hg2 (hbd.grown hg1 hbd.size (λk e=>by cases e)).size (λk e=>Nat.le_trans hbd.size (ho1.lt k e).1))
 have HSW:Hid (S<=w4.heap.size):=hid (Nat.le_of_eq hS.symm);have HQ0:=hid hQ0;have HBW:=hid hb4W;have HGS:=hid hgS;have HR1:=hid hr1';have HR2:=hid hr2';have HZL:=hid hzl;have HPM:=hid hperm;have HZS:Hid (∀y∈zs,SmallR y 1048576):=hid λy hy=>HYS.out y (hperm.mem_iff.1 hy)
 unfold maxLen at htm;clear hS hra2 hbd hSD hA hdr hr1' ho1 hg1 hl1 hall1 hB1 hr2' ho2 hg2 hl2 hall2 hzs hperm hzl hsum hta hQ0 hgS ho hb4W CA CL CT C0
 go_upto_region 10 with fail
 refine wp_region_held_drew (S:=λ_=>True) (by kernel_rfl) ?_ (λhHeld=>?_)
 ·trivial
 refine tkK 0 ?_;refine tkK 1 ?_;refine tkK 2 ?_;refine tkK 4 ?_;refine tkK 5 ?_;refine tkK 6 ?_
 try simp only[Act.put,List.setIfInBounds_toArray,List.set_cons_zero,List.set_cons_succ]
 refine rdH [3] ?_;refine rcH (λK hK=>?_) ?_
 ·refine Zbxy (by rfl) _ _ 49 (by rfl) (by rfl) (by rfl) HR1.out ?_
  refine hK.out _ _ ?_ (λhHeld=>?_)
  ·try dsimp only
   skip
  clear hK K
  try simp only[Act.put,List.setIfInBounds_toArray,List.set_cons_zero,List.set_cons_succ]
  refine rdH [7] ?_;refine rcH (λK hK=>?_) ?_
  ·refine Zbxy (by rfl) _ _ 49 (by rfl) (by rfl) (by rfl) HR2.out ?_
   refine hK.out _ _ ?_ (λhHeld=>?_)
   ·try dsimp only
    skip
   clear hK K
   try simp only[Act.put,List.setIfInBounds_toArray,List.set_cons_zero,List.set_cons_succ]
   refine rdH [8] ?_;refine rcH (λK hK=>?_) ?_
   ·go_simp
    refine hK.out _ _ ?_ (λhHeld=>?_)
    ·try dsimp only
     skip
    clear hK K
    try simp only[Act.put,List.setIfInBounds_toArray,List.set_cons_zero,List.set_cons_succ]
    refine wpAnyH_done (by kernel_rfl) ?_ _;have hrt:¬rc=t:=by omega
    rw[if_neg hrt];generalize Option.map _ ra=VD;clear hr hr1 hr2 ht hw1 hw2 hw3 ht0 ht1 ht2 hw4 hHeld
    go_upto_block 0 with fail
    go_cut [] (λwc=>OutQ g o tc wc (zs.map Zclu)/\Below S w4 wc)
    case first=>
     go_wp2_with fail
     go_loopw [62] (λiv wr=>∃i:Nat,iv = .int .i64 (i:Int)/\i<=n/\OutQ g o tc wr (Zckp zs i)/\Below S w4 wr) (λiv _=>n-(intOf iv).toNat)
     case atStart=>exact⟨0,rfl,Nat.zero_le _,by rw[Zclt];exact HQ0.out,HBW.out⟩
     case round=>
      obtain⟨i,rfl,hi,hq,hb⟩:=hrel;obtain⟨WR,hWR⟩:∃V,wr=V:=⟨_,rfl⟩;rw[hWR]at hq hb⊢;clear hWR
      by_cases hlt:i<n
      ·have hi0:(0:Int)<=(i:Int):=by omega
       have hi1:(i:Int)<(n:Int):=by omega
       obtain⟨x,hx⟩:∃x,zs[i]? =some x:=⟨zs[i]'(by rw[HZL.out];exact hlt),List.getElem?_eq_getElem _⟩;obtain⟨p1,n1,m1,p2,n2,m2,p3,n3,m3,p4,n4,m4,hri,hcell⟩:=hq.at (Zclp hx);obtain⟨y0,y1,y2,y3,y4,hfz⟩:=hcell WR rfl;have hxs:=HZS.out x (List.mem_of_getElem? hx);have CC:=hid (Zckf x _ _ _ _ WR hri hxs);have hgl:=hq.lt (by rw[Zclr,HZL.out];omega);have HQ:=hid hq;have HB:=hid hb;have HX:=hid hx;have HGL:=hid hgl;have HCELL:=hid hcell;have HXS:=hid hxs;clear hq hb hx hgl hri hcell hfz hxs
       go_wp2_with fail
       refine CC.out.mono ?_;rintro e V1 ⟨⟨vi,vo,vf,vs,rs,B0,rfl,h1,h2,h3,hap,hle,hsz,hlo,hown,hall⟩,hb1⟩;have hcp:CpW WR.heap.size V1 x vi vo vf vs:=⟨rs,B0,h1,h2,h3,hap,hle,hlo,hown,hall⟩;obtain⟨b1,c1,e1⟩:=Zue (StrsA.isStrs h1.1.1);obtain⟨b2,c2,e2⟩:=Zue (StrsA.isStrs h2.1.1);obtain⟨b3,c3,e3⟩:=Zue (StrsA.isStrs h3.1.1);obtain⟨b4,c4,e4,_⟩:=Zbea hown;rw[hall.1]at e4;obtain⟨N,hN⟩:∃N,WR.heap.size=N:=⟨_,rfl⟩;rw[hN]at hcp hb1;have hgN:g<N:=by rw[<-hN];exact HGL.out
       subst e1 e2 e3 e4;clear h1 h2 h3 hap hle hsz hlo hown hall y0 y1 y2 y3 y4;obtain⟨y0,y1,y2,y3,y4,hfz⟩:=HCELL.out V1 (hb1.block g hgN);have z0:=hfz (o+i*5);have z1:=hfz (o+i*5+1);have z2:=hfz (o+i*5+2);have z3:=hfz (o+i*5+3);have z4:=hfz (o+i*5+4);have hput:=Zcld (u0:= .string x.name) (u1:= .slice b1 x.ins.length c1) (u2:= .slice b2 x.outs.length c2) (u3:= .slice b3 x.after.length c3) (u4:= .slice b4 x.steps.length c4) y0 y1 y2 y3 y4;obtain⟨V2,hV2⟩:∃V,putR V1 g o i (.string x.name) (.slice b1 x.ins.length c1) (.slice b2 x.outs.length c2) (.slice b3 x.after.length c3) (.slice b4 x.steps.length c4)=V:=⟨_,rfl⟩;have HV2:=hid hV2;rw[hV2]at hput;have hgV:g<V2.heap.size:=by rw[<-hV2];exact Nat.lt_of_lt_of_le (Nat.lt_of_lt_of_le hgN (by have:=hb1.size;omega)) (Zcle _ _ _ _ _ _ _ _ _).size
       unfold putR at hV2;have HPUT:=hid hput;have HCP:=hid hcp;have HN:=hid hN;have HB1':=hid hb1;have HGN:=hid hgN;have HGV:=hid hgV;have HI0:Hid (StrsO (λb=>b<N) V2 (.slice b1 x.ins.length c1) x.ins):=hid (by rw[<-hV2];exact hcp.ins hgN);clear hfz hput hcp hb1 hgN hgV hN CC HCELL
       go_upto_region 15 with fail
       try rw[hV2]
       clear hV2 y0 y1 y2 y3 y4 z0 z1 z2 z3 z4;obtain⟨y0,y1,y2,y3,y4⟩:=HPUT.out V2 rfl;have hlm:x.ins.length<=1048576:=HXS.out.ins.1;have w0:IntKind.i64.wrap ((x.ins.length:Int)-1)=(x.ins.length:Int)-1:=IntWalk.i64_in _ (by omega)
       go_region
       clear y0 y1 y2 y3 y4 w0
       go_upto_block 2 with fail
       go_cut [] (λwc=>StrsO (λb=>b<N) wc (.slice b1 x.ins.length c1) x.ins.reverse/\Fr (λk=>(Value.slice b1 x.ins.length c1).ownBlock=some k) V2 wc)
       case first=>
        go_wp2_with fail
        go_loopw [15,16] (λav bv wr=>∃(a:Nat) (j:Int) (L:List ByteArray),av = .int .i64 (a:Int)/\bv = .int .i64 j/\j+1+a=x.ins.length/\2*a<=x.ins.length/\RevQ a x.ins L/\StrsO (λb=>b<N) wr (.slice b1 x.ins.length c1) L/\Fr (λk=>(Value.slice b1 x.ins.length c1).ownBlock=some k) V2 wr) (λav _ _=>x.ins.length-(intOf av).toNat)
        case atStart=>exact⟨0,_,x.ins,rfl,rfl,by omega,by omega,Zclj _,HI0.out.keep (Zpw _ _),Zpw _ _⟩
        case round=>
         obtain⟨a,j,L,rfl,rfl,hj,ha,hR,hL,hf⟩:=hrel;obtain⟨WA,hWA⟩:∃V,wr=V:=⟨_,rfl⟩;rw[hWA]at hL hf⊢;clear hWA;have HRQ:=hid hR;have HLA:=hid hL;have HFA:=hid hf;have hLl:L.length=x.ins.length:=hR.1
         by_cases hab:(a:Int)<j
         ·obtain⟨jn,rfl⟩:∃jn:Nat,j=(jn:Int):=⟨j.toNat,by omega⟩
          have hjn:jn+1+a=x.ins.length:=by omega
          obtain⟨sa,hsa⟩:∃s,L[a]? =some s:=⟨L[a]'(by omega),List.getElem?_eq_getElem _⟩;obtain⟨sb,hsb⟩:∃s,L[jn]? =some s:=⟨L[jn]'(by omega),List.getElem?_eq_getElem _⟩;obtain⟨a',c',q,_,_,hc⟩:=Zua hL.1.isStrs;injection q with q1 q2 q3
          subst q1 q3;clear q2;obtain⟨bb,oo,hab',hcx⟩:=hc a sa hsa;obtain⟨bb',oo',hab2,hcy⟩:=hc jn sb hsb;rw[hab']at hab2;injection hab2 with hab2
          injection hab2 with e1 e2
          subst e1 e2;have e1:=hcx _ (Below.refl _ _);have e2:=hcy _ (Below.refl _ _);subst hab';have f1:=hL.2 bb rfl (oo+a);have f2:=hL.2 bb rfl (oo+jn);have hbN:¬bb<N:=(hL.1.2 bb rfl).2;obtain⟨y0,y1,y2,y3,y4⟩:=HPUT.out WA ((hf.block g (by have:=HGV.out;omega) (by intro e;have e':bb=g:=Option.some.inj e;have:=HGN.out;omega)));have hi1':(a:Int)<(x.ins.length:Int):=by omega
          have hi2':(jn:Int)<(x.ins.length:Int):=by omega
          have ha0:(0:Int)<=(a:Int):=by omega
          have hj0:(0:Int)<=(jn:Int):=by omega
          have w3:IntKind.i64.wrap ((jn:Int)-1)=(jn:Int)-1:=IntWalk.i64_in _ (by omega);have e3:(WA.setCell ⟨bb,oo+a,none⟩ (.string sb)).cell? ⟨bb,oo+jn,none⟩=some (.string sb):=(World.cell?_setCell_other _ _ _ _ (by intro e;injection e with _ e;omega)).trans e2;have e4:(WA.setCell ⟨bb,oo+a,none⟩ (.string sb)).drew.cell? ⟨bb,oo+jn,none⟩=some (.string sb):=e3;have e5:(WA.setCell ⟨bb,oo+a,none⟩ (.string sb)).frozen? ⟨bb,oo+jn,none⟩=false:=by rw[Zckw];exact f2
          have HST:Hid (StrsO (λb=>b<N) ((WA.setCell ⟨bb,oo+a,none⟩ (.string sb)).setCell ⟨bb,oo+jn,none⟩ (.string sa)) (.slice (some ⟨bb,oo,none⟩) x.ins.length c1) ((L.set a sb).set jn sa)):=hid (Zclo (Zclo hL (by omega) sb) (by rw[List.length_set];omega) sa);have HFR:Hid (Fr (λk=>(Value.slice (some ⟨bb,oo,none⟩) x.ins.length c1).ownBlock=some k) V2 ((WA.setCell ⟨bb,oo+a,none⟩ (.string sb)).setCell ⟨bb,oo+jn,none⟩ (.string sa))):=hid (hf.trans ((Zpy (Av:=λk=>(Value.slice (some ⟨bb,oo,none⟩) x.ins.length c1).ownBlock=some k) (a:=⟨bb,oo+a,none⟩) rfl _).trans (Zpy (Av:=λk=>(Value.slice (some ⟨bb,oo,none⟩) x.ins.length c1).ownBlock=some k) (a:=⟨bb,oo+jn,none⟩) rfl _)));have HNQ:Hid (RevQ (a+1) x.ins ((L.set a sb).set jn sa)):=hid (Zcli hR hjn (by omega) hsa hsb);have HJN:=hid hjn;clear hR hL hf hcx hcy hc hsa hsb hLl hbN hjn
          go_wp2_with fail
          go_region
          all_goals go_wp2
          all_goals go_roundw
          case rel=>exact⟨a+1,(jn:Int)-1,_,by go_num,by go_num,by have:=HJN.out;omega,by have:=HJN.out;omega,HNQ.out,HST.out.keep (Zpw _ _),HFR.out.trans (Zpw _ _)⟩
          case measure=>simp[intOf];omega
         ·have HE:Hid (L=x.ins.reverse):=hid (Zclh hR (by omega))
          clear hR hL hf hLl
          go_wp2_with fail
          go_meet;exact⟨by rw[<-HE.out];exact HLA.out,HFA.out⟩
       case rest=>
        obtain⟨hc1,hf1⟩:=hcut;obtain⟨V3,hV3⟩:∃V,wc=V:=⟨_,rfl⟩;rw[hV3]at hc1 hf1⊢;clear hV3;have HC1:=hid hc1;have HF1:=hid hf1;have h1N:∀k,(Value.slice b1 x.ins.length c1).ownBlock=some k->N<=k:=λk e=>by have:=(HI0.out.1.2 k e).2;have:¬k<N:=this;omega
        have HKV3:Hid (V3.heap[g]? =V2.heap[g]?):=hid (hf1.block g HGV.out λe=>by have:=h1N g e;have:=HGN.out;omega);have HKE:Hid (∀V:World,V.heap[g]? =V3.heap[g]? ->V.heap[g]? =V2.heap[g]?):=hid λV h=>h.trans HKV3.out
        have HKSV3:Hid (V2.heap.size<=V3.heap.size):=hid hf1.size;have HO0:Hid (StrsO (λb=>b<N) V3 (.slice b2 x.outs.length c2) x.outs):=hid (HCP.out.outs (g:=g) (o:=o) (i:=i) (u0:= .string x.name) (u1:= .slice b1 x.ins.length c1) (u2:= .slice b2 x.outs.length c2) (u3:= .slice b3 x.after.length c3) (u4:= .slice b4 x.steps.length c4) HGN.out (by rw[HV2.out];exact hf1));clear hc1 hf1 h1N hlm
        go_upto_region 19 with fail
        obtain⟨y0,y1,y2,y3,y4⟩:=HPUT.out V3 HKV3.out;have hlm:x.outs.length<=1048576:=HXS.out.outs.1;have w0:IntKind.i64.wrap ((x.outs.length:Int)-1)=(x.outs.length:Int)-1:=IntWalk.i64_in _ (by omega)
        go_region
        clear y0 y1 y2 y3 y4 w0
        go_wp2_with fail
        go_loopw [17,18] (λav bv wr=>∃(a:Nat) (j:Int) (L:List ByteArray),av = .int .i64 (a:Int)/\bv = .int .i64 j/\j+1+a=x.outs.length/\2*a<=x.outs.length/\RevQ a x.outs L/\StrsO (λb=>b<N) wr (.slice b2 x.outs.length c2) L/\Fr (λk=>(Value.slice b2 x.outs.length c2).ownBlock=some k) V3 wr) (λav _ _=>x.outs.length-(intOf av).toNat)
        case atStart=>exact⟨0,_,x.outs,rfl,rfl,by omega,by omega,Zclj _,HO0.out.keep (Zpw _ _),Zpw _ _⟩
        case round=>
         obtain⟨a,j,L,rfl,rfl,hj,ha,hR,hL,hf⟩:=hrel;obtain⟨WA,hWA⟩:∃V,wr=V:=⟨_,rfl⟩;rw[hWA]at hL hf⊢;clear hWA;have HRQ:=hid hR;have HLA:=hid hL;have HFA:=hid hf;have hLl:L.length=x.outs.length:=hR.1
         by_cases hab:(a:Int)<j
         ·obtain⟨jn,rfl⟩:∃jn:Nat,j=(jn:Int):=⟨j.toNat,by omega⟩
          have hjn:jn+1+a=x.outs.length:=by omega
          obtain⟨sa,hsa⟩:∃s,L[a]? =some s:=⟨L[a]'(by omega),List.getElem?_eq_getElem _⟩;obtain⟨sb,hsb⟩:∃s,L[jn]? =some s:=⟨L[jn]'(by omega),List.getElem?_eq_getElem _⟩;obtain⟨a',c',q,_,_,hc⟩:=Zua hL.1.isStrs;injection q with q1 q2 q3
          subst q1 q3;clear q2;obtain⟨bb,oo,hab',hcx⟩:=hc a sa hsa;obtain⟨bb',oo',hab2,hcy⟩:=hc jn sb hsb;rw[hab']at hab2;injection hab2 with hab2
          injection hab2 with e1 e2
          subst e1 e2;have e1:=hcx _ (Below.refl _ _);have e2:=hcy _ (Below.refl _ _);subst hab';have f1:=hL.2 bb rfl (oo+a);have f2:=hL.2 bb rfl (oo+jn);have hbN:¬bb<N:=(hL.1.2 bb rfl).2;obtain⟨y0,y1,y2,y3,y4⟩:=HPUT.out WA (HKE.out _ (hf.block g (by have:=HGV.out;have:=HKSV3.out;omega) (by intro e;have e':bb=g:=Option.some.inj e;have:=HGN.out;omega)));have hi1':(a:Int)<(x.outs.length:Int):=by omega
          have hi2':(jn:Int)<(x.outs.length:Int):=by omega
          have ha0:(0:Int)<=(a:Int):=by omega
          have hj0:(0:Int)<=(jn:Int):=by omega
          have w3:IntKind.i64.wrap ((jn:Int)-1)=(jn:Int)-1:=IntWalk.i64_in _ (by omega);have e3:(WA.setCell ⟨bb,oo+a,none⟩ (.string sb)).cell? ⟨bb,oo+jn,none⟩=some (.string sb):=(World.cell?_setCell_other _ _ _ _ (by intro e;injection e with _ e;omega)).trans e2;have e4:(WA.setCell ⟨bb,oo+a,none⟩ (.string sb)).drew.cell? ⟨bb,oo+jn,none⟩=some (.string sb):=e3;have e5:(WA.setCell ⟨bb,oo+a,none⟩ (.string sb)).frozen? ⟨bb,oo+jn,none⟩=false:=by rw[Zckw];exact f2
          have HST:Hid (StrsO (λb=>b<N) ((WA.setCell ⟨bb,oo+a,none⟩ (.string sb)).setCell ⟨bb,oo+jn,none⟩ (.string sa)) (.slice (some ⟨bb,oo,none⟩) x.outs.length c2) ((L.set a sb).set jn sa)):=hid (Zclo (Zclo hL (by omega) sb) (by rw[List.length_set];omega) sa);have HFR:Hid (Fr (λk=>(Value.slice (some ⟨bb,oo,none⟩) x.outs.length c2).ownBlock=some k) V3 ((WA.setCell ⟨bb,oo+a,none⟩ (.string sb)).setCell ⟨bb,oo+jn,none⟩ (.string sa))):=hid (hf.trans ((Zpy (Av:=λk=>(Value.slice (some ⟨bb,oo,none⟩) x.outs.length c2).ownBlock=some k) (a:=⟨bb,oo+a,none⟩) rfl _).trans (Zpy (Av:=λk=>(Value.slice (some ⟨bb,oo,none⟩) x.outs.length c2).ownBlock=some k) (a:=⟨bb,oo+jn,none⟩) rfl _)));have HNQ:Hid (RevQ (a+1) x.outs ((L.set a sb).set jn sa)):=hid (Zcli hR hjn (by omega) hsa hsb);have HJN:=hid hjn;clear hR hL hf hcx hcy hc hsa hsb hLl hbN hjn
          go_wp2_with fail
          go_region
          all_goals go_wp2
          all_goals go_roundw
          case rel=>exact⟨a+1,(jn:Int)-1,_,by go_num,by go_num,by have:=HJN.out;omega,by have:=HJN.out;omega,HNQ.out,HST.out.keep (Zpw _ _),HFR.out.trans (Zpw _ _)⟩
          case measure=>simp[intOf];omega
         ·have HE:Hid (L=x.outs.reverse):=hid (Zclh hR (by omega))
          clear hR hL hf hLl;have hc2:StrsO (λb=>b<N) WA (.slice b2 x.outs.length c2) x.outs.reverse:=by rw[<-HE.out];exact HLA.out
          have hf2:=HFA.out;have hfin:=HCP.out.turn HQ.out (Zclp HX.out) HN.out HB1'.out HC1.out (by rw[HV2.out];exact HF1.out) hc2 hf2;have HQ4:Hid (OutQ g o tc WA (Zckp zs (i+1))):=hid (by rw[<-Zcls HX.out];exact hfin.1);have HB4':Hid (Below S w4 WA):=hid ((HB.out.trans (HB1'.out.mono (by have:=HB.out.size;have:=HN.out;have:=HSW.out;omega))).trans (hfin.2.below (by have:=HB1'.out.size;have:=HB.out.size;have:=HN.out;have:=HSW.out;omega) (λk hk e=>by have:=HGS.out;have:=HB.out.size;have:=HN.out;have:=HSW.out;omega)));clear hc2 hf2 hfin hlm;go_wp2;go_roundw
          case rel=>exact⟨i+1,by go_num,by omega,HQ4.out,HB4'.out⟩
          case measure=>simp[intOf];omega
      ·have hi1:¬(i:Int)<(n:Int):=by omega
       have HE:Hid (OutQ g o tc WR (zs.map Zclu)):=hid (by rw[<-Zclq (i:=i) (by rw[HZL.out];omega)];exact hq);have HB:=hid hb;clear hq hb
       go_wp2_with fail
       go_meet;exact⟨HE.out,HB.out⟩
    case rest=>
     obtain⟨hq,hb⟩:=hcut;obtain⟨WC,hWC⟩:∃V,wc=V:=⟨_,rfl⟩;rw[hWC]at hq hb⊢;clear hWC;have hsame:=Zclb (os:=zs.map Zclu) HC.out (HPM.out.map Zclu);have hb4C:Below w4.heap.size w4 WC:=by rw[HS.out];exact hb
     have hwC:Below w.heap.size w WC:=HB4.out.trans (hb4C.mono HB4.out.size);have hb2C:Below w2.heap.size w2 WC:=HB24.out.trans (hb4C.mono HB24.out.size);have HWC:=hid hwC;have HB2C:=hid hb2C;have C1:Hid (∀V nv names,Below WC.heap.size WC V->IsStrs V nv names->(∀s∈names,s.size<=maxLen)->names.length<=1000000000->Calls Tryz.prog 35 #[.slice ra n rc,.pointer (some ⟨tb,0,none⟩),nv] V λe w'=>∃g',e = .returned (.slice (some ⟨g',0,none⟩) names.length names.length)/\Zbb w' (.slice (some ⟨g',0,none⟩) names.length names.length) (names.map (Zob ys (Zbgv T)))/\Below V.heap.size V w'):=by
      show ∀V nv names,_;intro V nv names hV hN hns hnl;have hw:=hwC.trans (hV.mono hwC.size);refine(Zoe (.slice ra n rc) (.pointer (some ⟨tb,0,none⟩)) nv ys (Zbgv T) names V (HRA.out.rulesI.below (hb2C.trans (hV.mono hb2C.size))) HYS.out (by rw[HNN.out];omega) ⟨_,rfl⟩ (λz W _ hW=>Zbgx _ tb tr T z W ((HT.out.below (hb4C.trans (hV.mono hb4C.size))).below hW)) (Zcih HOK.out) hN hns hnl (HGL.out V hw) (HGL.out V hw).max).mono ?_;rintro e w' ⟨g',rfl,hrow,_,hb'⟩;have hfv:Zod ys (Zbgv T) names=names.map (Zob ys (Zbgv T)):=by unfold Zod;rw[if_pos (show Zkd ys=0 from HC.out)]
      rw[hfv]at hrow;have hv:=hrow.vals (by rw[List.length_map];unfold maxLen;omega);rw[List.length_map]at hv;exact⟨g',rfl,hv,hb'⟩
     have C2:Hid (∀V nv names,Below WC.heap.size WC V->IsStrs V nv names->(∀s∈names,s.size<=maxLen)->names.length<=1000000000->Calls Tryz.prog 35 #[.slice (some ⟨g,o,none⟩) n tc,.pointer (some ⟨tb,0,none⟩),nv] V λe w'=>∃g',e = .returned (.slice (some ⟨g',0,none⟩) names.length names.length)/\Zbb w' (.slice (some ⟨g',0,none⟩) names.length names.length) (names.map (Zob ys (Zbgv T)))/\Below V.heap.size V w'):=by
      show ∀V nv names,_;intro V nv names hV hN hns hnl;have hw:=hwC.trans (hV.mono hwC.size);have hol:(zs.map Zclu).length=n:=by rw[List.length_map,HZL.out]
      have hri:=hq.rulesI;rw[hol]at hri;refine(Zoe (.slice (some ⟨g,o,none⟩) n tc) (.pointer (some ⟨tb,0,none⟩)) nv (zs.map Zclu) (Zbgv T) names V (hri.below hV) (λr hr=>by obtain⟨y,hy,rfl⟩:=List.mem_map.1 hr;exact Zcln (HZS.out y hy)) (by rw[hol];omega) ⟨_,rfl⟩ (λz W _ hW=>Zbgx _ tb tr T z W ((HT.out.below (hb4C.trans (hV.mono hb4C.size))).below hW)) (Zcih HOK.out) hN hns hnl (HGL.out V hw) (HGL.out V hw).max).mono ?_;rintro e w' ⟨g',rfl,hrow,_,hb'⟩;have hfv:Zod (zs.map Zclu) (Zbgv T) names=names.map (Zob ys (Zbgv T)):=by
       unfold Zod;rw[if_pos (show Zkd (zs.map Zclu)=0 from hsame.1)];exact List.map_congr_left λz _=>hsame.2 _ z
      rw[hfv]at hrow;have hv:=hrow.vals (by rw[List.length_map];unfold maxLen;omega);rw[List.length_map]at hv;exact⟨g',rfl,hv,hb'⟩
     obtain⟨x0,hx0⟩:∃x,ys[0]? =some x:=⟨ys[0]'(by rw[HNN.out];omega),List.getElem?_eq_getElem _⟩;obtain⟨gb,go,cap,_,_,_,_,_,_,_,_,q,_,_,_⟩:=Zbjm HRA.out.rulesI hx0;injection q with q1 q2 q3
     subst q1 q3;clear q2 hx0;have HROW:Hid (∀(i:Nat) x,ys[i]? =some x->∃p2 d2,IsStrs w2 (.slice p2 x.outs.length d2) x.outs/\∀V,Below w2.heap.size w2 V->V.cell? ⟨gb,go+i*5+2,none⟩=some (.slice p2 x.outs.length d2)):=by
      show ∀(i:Nat) x,_;intro i x hx;obtain⟨gb',go',cap',p1,d1,p2,d2,p3,d3,p4,d4,q,hgl,hri,hcell⟩:=Zbjm HRA.out.rulesI hx;injection q with q1 q2 q3
      injection q1 with q1
      injection q1 with e1 e2
      subst e1 e2 q3;obtain⟨_,_,_,_,q,_,h2,_,_⟩:=hri;simp only[List.cons.injEq,and_true,true_and]at q;obtain⟨rfl,rfl,rfl,rfl⟩:=q;exact⟨p2,d2,h2,λV hV=>(hcell V hV).2.2.1⟩
     have CE:Hid (∀V v1 v2 l,Zbb V v1 l->Zbb V v2 l->Calls Tryz.prog 34 #[v1,v2] V λe w'=>e = .returned (.bool true)/\Below V.heap.size V w'):=by
      show ∀V v1 v2 l,_;exact λV v1 v2 l h1 h2=>Zckt v1 v2 l V h1 h2
     clear hq hb hsame hb4C hwC hb2C
     go_upto_block 6 with fail
     go_cut [] (λwx=>Below WC.heap.size WC wx)
     case first=>
      go_wp2_with fail
      go_loopw [19] (λiv wr=>∃i:Nat,iv = .int .i64 (i:Int)/\i<=n/\Below WC.heap.size WC wr) (λiv _=>n-(intOf iv).toNat)
      case atStart=>exact⟨0,rfl,Nat.zero_le _,Below.refl _ _⟩
      case round=>
       obtain⟨i,rfl,hi,hb⟩:=hrel;obtain⟨WR,hWR⟩:∃V,wr=V:=⟨_,rfl⟩;rw[hWR]at hb⊢;clear hWR;have HB:=hid hb;clear hb;have hi0:(0:Int)<=(i:Int):=by omega
       by_cases hlt:i<n
       ·by_cases h12:i<12
        ·have hi1:(i:Int)<(n:Int):=by omega
         have hi2:(i:Int)<12:=by omega
         obtain⟨x,hx⟩:∃x,ys[i]? =some x:=⟨ys[i]'(by rw[HNN.out];exact hlt),List.getElem?_eq_getElem _⟩;obtain⟨p2,d2,h2,hcell⟩:=HROW.out i x hx;have hxs:=HYS.out x (List.mem_of_getElem? hx);have hb2R:Below w2.heap.size w2 WR:=HB2C.out.trans (HB.out.mono HB2C.out.size);have hc2:∀V,Below WR.heap.size WR V->V.cell? ⟨gb,go+i*5+2,none⟩=some (.slice p2 x.outs.length d2):=λV hV=>hcell V (hb2R.trans (hV.mono hb2R.size))
         have HNM:Hid (∀V,Below WR.heap.size WR V->IsStrs V (.slice p2 x.outs.length d2) x.outs):=hid λV hV=>h2.below (hb2R.trans (hV.mono hb2R.size))
         have HNS:Hid (∀s∈x.outs,s.size<=maxLen):=hid λs hs=>by have:=hxs.outs.2 s hs;unfold maxLen;omega
         have HNL:Hid (x.outs.length<=1000000000):=hid (by have:=hxs.outs.1;omega);have HUP:Hid (∀V,Below WR.heap.size WR V->Below WC.heap.size WC V):=by
          show ∀V,_;exact λV hV=>HB.out.trans (hV.mono HB.out.size)
         have HSR:Hid (Below WR.heap.size WR WR.drew):=hid (Below.refl _ _).drew;clear hx hcell h2 hxs hb2R
         go_upto_region 27 with fail
         refine wp_region_held_drew (S:=λV=>Below WR.heap.size WR V) (by kernel_rfl) ?_ (λhHeld=>?_)
         ·exact HSR.out
         refine tkK 0 ?_;refine tkK 1 ?_;refine tkK 2 ?_;refine tkK 3 ?_;refine tkK 4 ?_;refine tkK 5 ?_
         try simp only[Act.put,List.setIfInBounds_toArray,List.set_cons_zero,List.set_cons_succ]
         refine tkH 6 (v:=?_) ?_ ?_;rotate_left
         ·intro w hSw;have k2:=hc2 _ hSw;go_simp;try with_reducible rfl
         try simp only[Act.put,List.setIfInBounds_toArray,List.set_cons_zero,List.set_cons_succ]
         refine tkK 8 ?_;refine tkK 9 ?_;refine tkK 10 ?_;refine tkK 11 ?_;refine tkK 12 ?_;refine tkK 13 ?_
         try simp only[Act.put,List.setIfInBounds_toArray,List.set_cons_zero,List.set_cons_succ]
         refine tkH 14 (v:=?_) ?_ ?_;rotate_left
         ·intro w hSw;have k2:=hc2 _ hSw;go_simp;try with_reducible rfl
         try simp only[Act.put,List.setIfInBounds_toArray,List.set_cons_zero,List.set_cons_succ]
         refine rdH [7] ?_;refine rcH (λK hK=>?_) ?_
         ·go_simp;refine(C1.out _ _ _ (HUP.out _ hHeld) (HNM.out _ hHeld) HNS.out HNL.out).mono ?_;rintro e w7 ⟨g7,rfl,hv7,hb7⟩;have HB7:=hid (hHeld.trans (hb7.mono hHeld.size));have HV7:=hid hv7;clear hv7 hb7;dsimp only
          refine hK.out _ _ ?_ (λhHeld=>?_)
          ·try dsimp only
           exact HB7.out
          clear hK K
          try simp only[Act.put,List.setIfInBounds_toArray,List.set_cons_zero,List.set_cons_succ]
          refine rdH [15] ?_;refine rcH (λK hK=>?_) ?_
          ·go_simp;refine(C2.out _ _ _ (HUP.out _ HB7.out) (HNM.out _ HB7.out) HNS.out HNL.out).mono ?_;rintro e w15 ⟨g15,rfl,hv15,hb15⟩;have HB15:=hid (HB7.out.trans (hb15.mono HB7.out.size));have HV15:=hid hv15;have HV7':=hid (Zckx HV7.out hb15);clear hv15 hb15;dsimp only
           refine hK.out _ _ ?_ (λhHeld=>?_)
           ·try dsimp only
            exact HB15.out
           clear hK K
           try simp only[Act.put,List.setIfInBounds_toArray,List.set_cons_zero,List.set_cons_succ]
           refine rdH [16] ?_;refine rcH (λK hK=>?_) ?_
           ·go_simp;refine(CE.out _ _ _ _ HV7'.out HV15.out).mono ?_;rintro e w16 ⟨rfl,hb16⟩;have HB16:=hid (HB15.out.trans (hb16.mono HB15.out.size));clear hb16;dsimp only
            refine hK.out _ _ ?_ (λhHeld=>?_)
            ·try dsimp only
             exact HB16.out
            clear hK K
            try simp only[Act.put,List.setIfInBounds_toArray,List.set_cons_zero,List.set_cons_succ]
            refine tkK 17 ?_
            try simp only[Act.put,List.setIfInBounds_toArray,List.set_cons_zero,List.set_cons_succ]
            refine wpAnyH_done (by kernel_rfl) ?_ _;clear hc2;go_wp2;go_roundw
            case rel=>exact⟨i+1,by go_num,by omega,HUP.out _ HB16.out⟩
            case measure=>simp[intOf];omega
           exact AllReadyH.nil
          exact AllReadyH.nil
         exact AllReadyH.nil
        ·have hi1:(i:Int)<(n:Int):=by omega
         have hi2:¬(i:Int)<12:=by omega
         go_wp2_with fail
         go_meet;exact HB.out
       ·have hi1:¬(i:Int)<(n:Int):=by omega
        go_wp2_with fail
        go_meet;exact HB.out
     case rest=>
      have HBX:=hid hcut;clear hcut;go_wp2;go_ret;exact⟨rfl,HWC.out.trans (HBX.out.mono HWC.out.size)⟩
   exact AllReadyH.nil
  exact AllReadyH.nil
 exact AllReadyH.nil
end Go.Proofs.YtmgcaldphpnfgaaGreatDoor.lawDenoOrder
