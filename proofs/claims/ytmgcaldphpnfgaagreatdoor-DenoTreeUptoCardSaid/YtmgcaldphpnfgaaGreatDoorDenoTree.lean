import Derived.Deep.RegionHeld3
import Derived.Test.YtmgcaldphpnfgaaGreatDoorMbj
import Derived.Test.YtmgcaldphpnfgaaGreatDoorMbn
namespace Go.Proofs.YtmgcaldphpnfgaaGreatDoor.lawDenoTree
open Go.Lib (hid)
open Go.RowKit Go.Shelf
theorem Zcio (turn:Int) (n:Nat) (h:0<n):∃(r:Int) (t:Nat),turn.tmod n=r/\-(n:Int)<r/\r<n/\(r+n).tmod n=(t:Int)/\t<n:=by
 refine⟨turn.tmod n,((turn.tmod n+n).tmod n).toNat,rfl,?_,?_,?_,?_⟩
 ·have:=Int.lt_tmod_of_pos turn (b:=(n:Int)) (by omega);omega
 ·exact Int.tmod_lt_of_pos _ (by omega)
 ·have h1:=Int.lt_tmod_of_pos turn (b:=(n:Int)) (by omega)
  have:=Int.tmod_nonneg (n:Int) (show 0<=turn.tmod n+n by omega);omega
 ·have h1:=Int.lt_tmod_of_pos turn (b:=(n:Int)) (by omega)
  have h2:=Int.tmod_lt_of_pos (turn.tmod n+n) (b:=(n:Int)) (by omega);have h3:=Int.tmod_nonneg (n:Int) (show 0<=turn.tmod n+n by omega);omega
set_option maxHeartbeats 16000000
set_option maxRecDepth 100000
theorem law (v:Value) (xs:List RuleS) (fv:Value) (fs:List F2) (at0:Int) (s0:ByteArray) (w:World) (hI:RulesI w v xs) (hu:xs.length<=1048576/\∀y∈xs,SmallR y 1048576) (hF:IsFiles w fv fs) (hsz:∀f∈fs,f.1.size<=maxLen/\f.2.size<=maxLen) (hs0:s0.size<=maxLen) (hG:GP w.heap.size w):
  Calls Tryz.prog 6 #[v,fv,.int .i64 at0,.string s0] w λe w'=>e = .returned (.bool true)/\Below w.heap.size w w':=by
 have mixed:Tryz.prog.follows .mixedOrders=true:=by kernel_rfl
 have C0:=hid (Zfc w hG);have CL:Hid (∀w',Below w.heap.size w w'->Calls Tryz.prog 25 #[v] w' (Zbz w' (Zbvw 42 xs))):=by
  show ∀w',_;exact λw' hb=>Zbwl v xs w' (hI.below hb) hu.2
 obtain⟨ys,hys⟩:∃ys,Zbvw 42 xs=ys:=⟨_,rfl⟩;have hyl:ys.length<=42:=by rw[<-hys,Zbvy];omega
 have hyz:∀y∈ys,SmallR y 1048576:=by
  intro y hy;rw[<-hys]at hy;obtain⟨x,hx,rfl⟩:=List.mem_map.1 (show y∈(xs.take 42).map cutR from hy);exact Zbma (hu.2 x (List.mem_of_mem_take hx))
 have HYS:Hid (∀y∈ys,SmallR y 1048576):=hid hyz;rw[hys]at CL;obtain⟨c,hc⟩:∃c,Zbvn ys=c:=⟨_,rfl⟩;have HC:=hid hc;have CA:Hid (∀w' v',Below w.heap.size w w'->RulesI w' v' ys->Calls Tryz.prog 26 #[v'] w' λe w''=>(∃s,e = .returned (.tuple #[.int .i64 c,.string s]))/\Below w'.heap.size w' w''):=by
  show ∀w' v',_;intro w' v' hb h;refine(Zja v' ys w' h hyz (by omega) (hG.below hb).glob.max).mono ?_;rintro e w'' ⟨rfl,hb'⟩;exact⟨⟨_,by rw[<-hc];rfl⟩,hb'⟩
 have HGL:Hid (∀V,Below w.heap.size w V->Glob V):=hid λV hV=>(hG.below hV).glob
 have CT:Hid (∀V,Below w.heap.size w V->Calls Tryz.prog 27 #[fv] V (Zchl fs V)):=hid λV hV=>Zcip fv fs V (hF.below hV) hsz (hG.below hV).glob
 obtain⟨s1,hs1⟩:∃s1:ByteArray,s0.extract 0 (min s0.size (Int.toNat 50))=s1:=⟨_,rfl⟩;have hsl:s1.size<=maxLen:=by rw[<-hs1];unfold maxLen at *;simp;omega
 have CS:Hid (∀V,Calls Tryz.prog 22 #[.string s0,.int .i64 50] V λe w'=>e = .returned (.string s1)/\V=w'):=by
  show ∀V,_;intro V;rw[<-hs1];exact Zcaj s0 50 V hs0 (by decide) (by decide)
 have HSL:=hid hsl;unfold Zchl at CT;obtain⟨T,hT⟩:∃T,newF (fs.take 30)=T:=⟨_,rfl⟩;have hok:FOk T:=by rw[<-hT];exact FOk.new _
 have HOK:=hid hok;rw[hT]at CT;clear hI hu hG hys hyz hc hF hsz hs0 hs1 hsl hT hok
 go_enter Tryz.func6,Tryz.ntmps6
 go_wp2_with fail
 refine C0.out.mono ?_;rintro e w1 ⟨rfl,hb1⟩;have HB1:=hid hb1;clear hb1
 go_wp2_with fail
 refine(CL.out _ HB1.out).mono ?_;rintro e w2 ⟨ra,rn,rc,rfl,hown,hb2⟩;have hra:RulesI w2 (.slice ra rn rc) ys:=hown.rulesA.rulesI;obtain⟨_,_,q,hrc,hrm⟩:=Zbjn hra;injection q with q1 q2 q3
 subst q1 q2 q3;have HB2:=hid (HB1.out.trans (hb2.mono HB1.out.size));have HRA:=hid hra;unfold maxLen at hrm;clear hown hra hb2
 go_wp2_with fail
 refine(CA.out _ _ HB2.out HRA.out).mono ?_;rintro e w3 ⟨⟨s,rfl⟩,hb3⟩;have HB23:=hid hb3;have HB3:=hid (HB2.out.trans (hb3.mono HB2.out.size));clear hb3;obtain⟨n,hnn⟩:∃n,ys.length=n:=⟨_,rfl⟩;have HNN:=hid hnn;rw[hnn]at hyl hrc⊢;rw[hnn]at HRA;clear hnn
 by_cases hc0:c=0
 rotate_left
 ·have b1:(c==0)=false:=by simpa using hc0
  go_wp2;go_ret;exact⟨rfl,HB3.out⟩
 subst hc0
 by_cases hn0:n=0
 ·subst hn0
  go_wp2;go_ret;exact⟨rfl,HB3.out⟩
 have hz:¬(n:Int)=0:=by omega
 have hgz:((n:Int)==0)=false:=by simpa using hz
 have hgz':(n==0)=false:=by simpa using hn0
 obtain⟨r,k,hr,hr1,hr2,hk,hkn⟩:=Zcio at0 n (by omega);have hw1:IntKind.i64.wrap r=r:=IntWalk.i64_in _ (by omega);have hw2:IntKind.i64.wrap (r+(n:Int))=r+(n:Int):=IntWalk.i64_in _ (by omega);have hw3:IntKind.i64.wrap (k:Int)=(k:Int):=IntWalk.i64_in _ (by omega)
 go_upto_region 9 with fail
 go_wp2_with fail
 refine(CT.out _ HB3.out).mono ?_;rintro e w4 ⟨tb,tr,tq,rfl,hT,hb4⟩;have hb24:=HB23.out.trans (hb4.mono HB23.out.size);have HB4:=hid (HB3.out.trans (hb4.mono HB3.out.size));obtain⟨x,hxk⟩:∃x,ys[k]? =some x:=⟨ys[k]'(by rw[HNN.out];exact hkn),List.getElem?_eq_getElem _⟩;have hx0:Zbip x=0:=(Zbvs.1 HC.out).1.each x (List.mem_of_getElem? hxk);obtain⟨o,ho⟩:∃o,x.outs[0]? =some o:=⟨x.outs[0]'(Zcia hx0),List.getElem?_eq_getElem _⟩;have hol0:=Zcia hx0;have hos:o.size<=1048576:=(HYS.out x (List.mem_of_getElem? hxk)).outs.2 o (List.mem_of_getElem? ho);obtain⟨gb,go,cap,p1,d1,p2,d2,p3,d3,p4,d4,q,hgl,hri,hcell⟩:=Zbjm HRA.out hxk;injection q with q1 q2 q3
 subst q1 q3;clear q2;obtain⟨_,_,_,_,q,_,h2,_,_⟩:=hri;simp only[List.cons.injEq,and_true,true_and]at q;obtain⟨rfl,rfl,rfl,rfl⟩:=q;obtain⟨_,_,q,hol,hom,hoc⟩:=Zua h2;injection q with q1 q2' q3
 subst q1 q3;clear q2';obtain⟨ob,oo,q,hoc1⟩:=hoc 0 o ho;subst q;obtain⟨_,_,f2,_,_⟩:=hcell w4 hb24;have e0:=hoc1 w4 hb24;simp only[Nat.add_zero]at e0;have hl0:(0:Int)<(x.outs.length:Int):=by omega
 have hk0:(0:Int)<=(k:Int):=by omega
 have hk1:(k:Int)<(n:Int):=by omega
 have HSAME:Hid (Sorted T->Sorted (Zbum T o s1).2->Zob ys (Zbgv (Zbum T o s1).2) o=Zob ys (Zbgv T) o):=by
  show _->_->_;exact λh1 h2=>Zciq HC.out hxk (List.mem_of_getElem? ho) h1 s1 h2 o
 have CF:Hid (∀V r' T',Below w2.heap.size w2 V->IsTree V w3.heap.size tb r' T'->FOk T'->Calls Tryz.prog 28 #[.slice (some ⟨gb,go,none⟩) n rc,.pointer (some ⟨tb,0,none⟩),.string o] V λe w'=>e = .returned (valE (Zob ys (Zbgv T') o))/\Below V.heap.size V w'):=by
  show ∀V r' T',_;intro V r' T' hV hT' hk';have hw:=HB2.out.trans (hV.mono HB2.out.size);have:=Zchp (.slice (some ⟨gb,go,none⟩) n rc) (.pointer (some ⟨tb,0,none⟩)) ys (Zbgv T') o V (HRA.out.below hV) HYS.out (by rw[HNN.out];omega) ⟨_,rfl⟩ (λz W _ hW=>Zbgx _ tb r' T' z W (hT'.below hW)) (Zcih hk') (by unfold maxLen;omega) (HGL.out V hw) (HGL.out V hw).max;rw[Zchq HC.out]at this;exact this
 have HT:=hid hT;have HB24:=hid hb24;have HB34:=hid hb4;have HOS:=hid hos;clear hT hb4 hb24 hx0 ho hol0 hos hgl h2 hoc hoc1 hcell hxk CT CL CA C0
 go_upto_region 11 with fail
 clear f2 e0;obtain⟨z,hz⟩:∃z,Zob ys (Zbgv T) o=z:=⟨_,rfl⟩;obtain⟨z1,z2⟩:=z;have C1:=hid (CF.out w4 tr T HB24.out HT.out HOK.out);rw[hz]at C1;have HZ:=hid hz;clear hz;unfold valE at C1
 go_wp2_with fail
 refine C1.out.mono ?_;rintro e w5 ⟨rfl,hb5⟩;have HB5:=hid hb5;clear hb5
 go_upto_region 12 with fail
 obtain⟨M,hM⟩:∃m,w5.heap.size=m:=⟨_,rfl⟩;obtain⟨w6,hw6⟩:∃V,w5.alloc (.cells #[.bool z1,.string z2] 28)=V:=⟨_,rfl⟩;have hb6:Below w5.heap.size w5 w6:=by rw[<-hw6];exact(Below.refl _ _).alloc (Nat.le_refl _) _
 have hx6:w6.heap[M]? =some (.cells #[.bool z1,.string z2] 28):=by rw[<-hw6,<-hM];exact alloc_at w5 _
 have hs6:w6.heap.size=M+1:=by rw[<-hw6,World.size_alloc,hM]
 rw[hw6,hM];have hb46:Below w4.heap.size w4 w6:=HB5.out.trans (hb6.mono HB5.out.size);have hrl:=HT.out.rlt;have hT6:=HT.out.below hb46;have hM4:w4.heap.size<=M:=by rw[<-hM];exact HB5.out.size
 have h23:=HB23.out.size;have h34:=HB34.out.size;have hb26:Below w2.heap.size w2 w6:=HB24.out.trans (hb46.mono HB24.out.size);have hww6:Below w.heap.size w w6:=HB2.out.trans (hb26.mono HB2.out.size);have CW:=hid (Zbup _ tb tr T o s1 w6 hT6 (HGL.out w6 hww6) (by have:=HOS.out;unfold maxLen;omega) HSL.out);obtain⟨T',hT'⟩:∃T',(Zbum T o s1).2=T':=⟨_,rfl⟩;have hok':FOk T':=by rw[<-hT'];exact HOK.out.write o s1
 obtain⟨wc,hwc⟩:∃c,(Zbum T o s1).1=c:=⟨_,rfl⟩;have hwlow:∀k,tr=some k->w2.heap.size<=k:=λk hk=>by have:=(hrl.1 k hk).1;omega
 have HNX:Hid (∀w7 r',IsTree w7 w3.heap.size tb r' T'->Frame2 w6 w7 tb tr->Below w2.heap.size w2 w7/\w7.heap[M]? =some (.cells #[.bool z1,.string z2] 28)/\Zob ys (Zbgv T') o=(z1,z2)):=by
  show ∀w7 r',_;intro w7 r' h7 hf;refine⟨hb26.trans (hf.below hb26.size (by omega) hwlow),(hf.block M (by omega) (by omega) (λe=>by have:=(hrl.1 M e.symm).2;omega)).trans hx6,?_⟩;have h1:=HSAME.out HT.out.2.1;rw[hT']at h1;rw[h1 h7.2.1,HZ.out]
 rw[hT',hwc]at CW;have HOK':=hid hok';clear hw6 hb6 hx6 hs6 hb46 hrl hT6 hM4 h23 h34 hb26 hww6 hT' hok' hwc hwlow HSAME hM
 go_wp2_with fail
 refine(CS.out _).mono ?_;rintro e _ ⟨rfl,rfl⟩
 go_wp2_with fail
 refine CW.out.mono ?_;rintro e w7 ⟨r',rfl,hT7,hfr,_⟩;obtain⟨hb27,hx7,hz7⟩:=HNX.out w7 r' hT7 hfr;have C2:Hid (∀V,Below w7.heap.size w7 V->Calls Tryz.prog 28 #[.slice (some ⟨gb,go,none⟩) n rc,.pointer (some ⟨tb,0,none⟩),.string o] V λe w'=>e = .returned (.agg #[.bool z1,.string z2])/\Below V.heap.size V w'):=by
  show ∀V,_;intro V hV;have:=CF.out V r' T' (hb27.trans (hV.mono hb27.size)) (hT7.below hV) HOK'.out;rw[hz7]at this;exact this
 have hM7:M<w7.heap.size:=(Array.getElem?_eq_some_iff.1 hx7).1;have hq0:∀V,Below w7.heap.size w7 V->V.cell? ⟨M,0,none⟩=some (.bool z1):=λV hV=>by obtain⟨k0,_⟩:=Zih ((hV.block M hM7).trans hx7);exact k0
 have hq1:∀V,Below w7.heap.size w7 V->V.cell? ⟨M,1,none⟩=some (.string z2):=λV hV=>by obtain⟨_,k1,_⟩:=Zih ((hV.block M hM7).trans hx7);exact k1
 have HS0:Hid (Below w7.heap.size w7 w7.drew):=hid (Below.refl _ _).drew;have HB27:=hid hb27;have hnq:=Zchn z1 z2;have hgd:=Zcit;clear hT7 hfr hb27 hx7 hz7 hM7 HNX CW CF
 go_wp2_with fail
 go_region_held3 (λw'=>Below w7.heap.size w7 w') (first|assumption|exact HS0.out)
  (first
   | (go_at_call 28;refine(C2.out _ HS0.out).mono ?_;rintro e w8 ⟨rfl,hSn⟩;have hSn:=HS0.out.trans (hSn.mono HS0.out.size))
   | fail)
 have HSN:=hid hSn;clear hSn hq0 hq1;go_wp2;go_ret;exact⟨rfl,HB2.out.trans ((HB27.out.trans (HSN.out.mono HB27.out.size)).mono HB2.out.size)⟩
end Go.Proofs.YtmgcaldphpnfgaaGreatDoor.lawDenoTree
