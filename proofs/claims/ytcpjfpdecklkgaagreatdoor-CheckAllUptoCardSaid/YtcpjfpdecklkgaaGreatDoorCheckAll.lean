import Derived.Test.YtcpjfpdecklkgaaGreatDoorMbt
namespace Go.Proofs.YtcpjfpdecklkgaaGreatDoor.lawCheckAll
open Go.Lib (hid)
open Go.Proofs.Tryz
open Go.RowKit Go.Shelf
set_option maxHeartbeats 8000000
set_option maxRecDepth 100000
theorem law (v:Value) (xs:List RuleS) (w:World) (hI:RulesI w v xs) (hu:xs.length<=1048576/\∀y∈xs,SmallR y 1048576) (hG:GP w.heap.size w):
  Calls prog 3 #[v] w λe w'=>e = .returned (.bool true)/\Below w.heap.size w w':=by
 have mixed:prog.follows .mixedOrders=true:=by kernel_rfl
 have C0:=hid (Zfc w hG);have CL:Hid (∀w',Below w.heap.size w w'->Calls prog 6 #[v] w' (Zbz w' (Zbvw 42 xs))):=by
  show ∀w',_;exact λw' hb=>Zbwl v xs w' (hI.below hb) hu.2
 obtain⟨ys,hys⟩:∃ys,Zbvw 42 xs=ys:=⟨_,rfl⟩;have hyl:ys.length<=42:=by rw[<-hys,Zbvy];omega
 have hyz:∀y∈ys,SmallR y 1048576/\ShortR y:=by
  intro y hy;rw[<-hys]at hy;obtain⟨x,hx,rfl⟩:=List.mem_map.1 (show y∈(xs.take 42).map cutR from hy);exact⟨Zbma (hu.2 x (List.mem_of_mem_take hx)),Zbkv x⟩
 rw[hys]at CL;obtain⟨c,hc⟩:∃c,allB ys (Zot (Zbng ys))=c:=⟨_,rfl⟩;obtain⟨c1,c2⟩:=c;have CA:Hid (∀w' v',Below w.heap.size w w'->RulesI w' v' ys->Calls prog 7 #[v'] w' λe w''=>e = .returned (.tuple #[.int .i64 c1,.string c2])/\Below w'.heap.size w' w''):=by
  show ∀w' v',_;intro w' v' hb h;refine(Zja v' ys w' h (λz hz=>(hyz z hz).1) (by omega) (hG.below hb).glob.max).mono ?_;rintro e w'' ⟨rfl,hb'⟩;rw[hc];exact⟨rfl,hb'⟩
 have CR:Hid (∀w' v',RulesI w' v' ys->Calls prog 8 #[v'] w' λe w''=>Zcbz ys e/\Below w'.heap.size w' w''):=by
  show ∀w' v',_;exact λw' v' h=>Zccs v' ys w' h (by omega) hyz
 have CC:Hid ((c1=0∨c1=3)->∀w' v',Below w.heap.size w w'->RulesI w' v' ys->Calls prog 10 #[v'] w' λe w''=>(∃a d,e = .returned (.slice a (Zot (Zbng ys)).length d)/\IsStrs w'' (.slice a (Zot (Zbng ys)).length d) (Zot (Zbng ys)))/\Below w'.heap.size w' w''):=by
  show _->∀w' v',_;intro h3 w' v' hb h;refine(Zbvm v' ys w' h (λz hz=>(hyz z hz).1) (by omega) (hG.below hb).glob.max).mono ?_;rintro e w'' ⟨u,rfl,hs,hb'⟩;have h0:(Zet ys).1=0:=by
   have hcA:Zbvn ys=c1:=by unfold Zbvn;rw[hc]
   rcases Zbvq ys with⟨hT,_⟩|⟨_,h1,h2⟩
   ·rw[hT.before]
   ·rw[hcA]at h1 h2
    rcases h3 with h|h
    ·exact absurd h h1
    ·exact absurd h h2
  rw[if_pos h0]at hs;obtain⟨a,d,rfl⟩:=Zue hs;exact⟨⟨a,d,rfl,hs⟩,hb'⟩
 have CY:Hid (∀w' v',RulesI w' v' ys->Calls prog 11 #[v'] w' λe w''=>CycX (Zcdi ys) w'' e/\Below w'.heap.size w' w''):=by
  show ∀w' v',_;exact λw' v' h=>Zccw v' ys w' h (by omega)
 have CE:Hid (∀w' v1 v2 zs,IsStrs w' v1 zs->IsStrs w' v2 zs->Calls prog 9 #[v1,v2] w' λe w''=>e = .returned (.bool true)/\Below w'.heap.size w' w''):=by
  show ∀w' v1 v2 zs,_;exact λw' v1 v2 zs h1 h2=>Zbwb v1 v2 zs w' h1 h2
 have HC:=hid hc;clear hI hu hG hys hyz hc
 go_enter func3,ntmps3
 go_wp2_with fail
 refine C0.out.mono ?_;rintro e w1 ⟨rfl,hb1⟩;have HB1:=hid hb1;clear hb1
 go_wp2_with fail
 refine(CL.out _ HB1.out).mono ?_;rintro e w2 ⟨ra,rn,rc,rfl,hown,hb2⟩;have hra:RulesI w2 (.slice ra rn rc) ys:=hown.rulesA.rulesI;have HB2:=hid (HB1.out.trans (hb2.mono HB1.out.size));have HRA:=hid hra;clear hown hra hb2
 go_wp2_with fail
 refine(CA.out _ _ HB2.out HRA.out).mono ?_;rintro e w3 ⟨rfl,hb3⟩;have HB3:=hid (HB2.out.trans (hb3.mono HB2.out.size));have HR3:=hid (HRA.out.below hb3);clear hb3
 go_wp2_with fail
 refine(CR.out _ _ HR3.out).mono ?_;rintro e w4 ⟨⟨c',s',rfl,hac⟩,hb4⟩;have hq:=Zccf hac;rw[HC.out]at hq;injection hq with q1 q2
 subst q1 q2;have HEQ:Hid ((c1=0∨c1=3)->Zot (Zbng ys)=Zcdi ys):=by show _->_;exact λh=>Zccg hac h
 have HB4:=hid (HB3.out.trans (hb4.mono HB3.out.size));have HR4:=hid (HR3.out.below hb4);clear hb4 hac
 rcases(show(c1=0∨c1=3)∨(¬c1=0/\¬c1=3) by omega)with h|⟨h1,h2⟩
 ·have K1:=hid (CC.out h _ _ HB4.out HR4.out)
  have heq:=HEQ.out h;have HEE:=hid heq;clear CC HEQ heq HC CA CR
  rcases h with rfl|rfl
  all_goals
   go_wp2_with fail
   refine K1.out.mono ?_;rintro e w5 ⟨⟨p1,m1,rfl,hs5⟩,hb5⟩;have HS5:=hid hs5;have HB5:=hid (HB4.out.trans (hb5.mono HB4.out.size));have HR5:=hid (HR4.out.below hb5);clear hs5 hb5
   go_wp2_with fail
   refine(CY.out _ _ HR5.out).mono ?_;rintro e w6 ⟨⟨p2,n2,m2,rfl,hs6⟩,hb6⟩;have HS6:=hid hs6;have HS5':=hid (HS5.out.below hb6);have HB6:=hid (HB5.out.trans (hb6.mono HB5.out.size));clear hs6 hb6
   go_wp2_with fail
   refine(CE.out _ _ _ (Zot (Zbng ys)) HS5'.out (by rw[HEE.out];exact HS6.out)).mono ?_;rintro e w7 ⟨rfl,hb7⟩;have HB7:=hid (HB6.out.trans (hb7.mono HB6.out.size));clear hb7;go_wp2;go_ret;exact⟨rfl,HB7.out⟩
 ·have b3:(c1 != 0)=true:=by simpa using h1
  have b4:(c1 != 3)=true:=by simpa using h2
  have b1:(c1==0)=false:=by simpa using h1
  have b2:(c1==3)=false:=by simpa using h2
  clear CC HEQ HC CA CR;go_wp2;go_ret;exact⟨rfl,HB4.out⟩
end Go.Proofs.YtcpjfpdecklkgaaGreatDoor.lawCheckAll
