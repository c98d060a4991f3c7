import Derived.Deep.CutBlock
import Derived.Deep.DeepCutAuto
import Derived.Test.YtokogjhcidkckaaGreatDoorMbf
namespace Go.Proofs.YtokogjhcidkckaaGreatDoor
open Go.Lib (hid)
open Go.Proofs.Tryz
open Go.RowKit Go.Shelf
theorem MatX.fix {B:Nat} {w:World} {g n:Nat} {M:Nat->Nat->Bool} (h:MatX B w g n n M):∃rb rc,∀w',Below w.heap.size w w'->MatF w' g n rb rc M:=by
 have hg:=h.mat.lt;have h1:∀i:Nat,∃x:Nat×Nat,i<n->w.cell? ⟨g,i,none⟩=some (.slice (some ⟨x.1,0,none⟩) n x.2)/\n<=x.2/\x.2<=9223372036854775807/\x.1<w.heap.size/\∀k<n,w.cell? ⟨x.1,k,none⟩=some (.bool (M i k)):=by
  intro i
  by_cases hi:i<n
  ·obtain⟨b,c,e,e1,e2,_,hr,_⟩:=h.cell hi
   exact⟨(b,c),λ_=>⟨e,e1,by unfold maxLen at e2;omega,hr.lt,λk hk=>(hr.cell hk).1⟩⟩
  ·exact⟨(0,0),λh=>absurd h hi⟩
 obtain⟨f,hf⟩:=Classical.skolem.1 h1;refine⟨λi=>(f i).1,λi=>(f i).2,λw' hw i hi=>?_⟩;obtain⟨e,e1,e2,e3,e4⟩:=hf i hi;exact⟨(hw.cell (p:=⟨g,i,none⟩) hg).trans e,e1,e2,λk hk=>(hw.cell (p:=⟨(f i).1,k,none⟩) e3).trans (e4 k hk)⟩
theorem FarI.congr {w:World} {g n:Nat} {F G:Nat->Int} (h:FarI w g n F) (e:∀k<n,F k=G k):FarI w g n G:=by
 obtain⟨cur,h1,h2,h3⟩:=h;exact⟨cur,h1,h2,λk hk=>by rw[<-e k hk];exact h3 k hk⟩
def CycX (T:List ByteArray) (w':World) (e:Ending):Prop:=∃a n c,e = .returned (.slice a n c)/\IsStrs w' (.slice a n c) T
set_option maxHeartbeats 16000000 in
set_option maxRecDepth 100000 in
theorem Zccw (v:Value) (xs:List RuleS) (w:World) (h:RulesI w v xs) (hn:xs.length<=1000):
  Calls prog 51 #[v] w λe w'=>CycX (Zcdi xs) w' e/\Below w.heap.size w w':=by
 have HI:=hid h;obtain⟨a1,c1,rfl,_,hm1,hc1⟩:=Zcgz h;obtain⟨n,hnn⟩:∃n,xs.length=n:=⟨_,rfl⟩;have HNN:=hid hnn;have CN:=hid (Zccz _ xs w h hn);have CC:Hid (∀g B w',MatX B w' g n n (Zcfw xs)->Calls prog 86 #[.slice (some ⟨g,0,none⟩) n n] w' λe w''=>(∃g',e = .returned (.slice (some ⟨g',0,none⟩) n n)/\MatX w'.heap.size w'' g' n n (fwK (Zcfw xs) n))/\Below w'.heap.size w' w''):=by
  show ∀g B w',_;exact λg B w' hm=>Zccv g n B _ w' hm (by omega)
 have HT0:Hid (Zced (fwK (Zcfw xs) n) (nmK xs) n<0->Zcdi xs = []):=by show _->_;exact Zcdk hnn
 have HT1:Hid (∀f:Nat,(f:Int)=Zced (fwK (Zcfw xs) n) (nmK xs) n->Zcdi xs=nmK xs f::Zcgm (Zcfw xs) (nmK xs) (farD (Zcfw xs) (far0 f) n n) n (Zccl (Zcfw xs) f (farD (Zcfw xs) (far0 f) n n) n-1).toNat f):=by show ∀f:Nat,_;exact λf=>Zcdj hnn
 have HNA:Hid (∀k,k<n->∃b o x,a1=some ⟨b,o,none⟩/\∀w',Below w.heap.size w w'->w'.cell? ⟨b,o+k*5,none⟩=some (.string x)/\nmK xs k=x):=by
  show ∀k,_;intro k hk;obtain⟨x,hx⟩:∃x,xs[k]? =some x:=⟨xs[k]'(by omega),List.getElem?_eq_getElem _⟩;obtain⟨b,o,_,_,_,_,_,_,_,_,ha,_,hc⟩:=hc1 k x hx;exact⟨b,o,x.name,ha,λw' hw=>⟨(hc w' hw).1,by unfold nmK;rw[hx]⟩⟩
 rw[hnn]at hn CN;rw[hnn];have hmk:=Zcfm n hn;unfold maxLen at hm1;rw[hnn]at *;clear h hc1 hnn HI HNN;obtain⟨M,hMM⟩:∃M,Zcfw xs=M:=⟨_,rfl⟩;rw[hMM]at CN CC HT0 HT1;obtain⟨C,hCC⟩:∃C,fwK M n=C:=⟨_,rfl⟩;rw[hCC]at CC HT0 HT1;obtain⟨NM,hNM⟩:∃N,nmK xs=N:=⟨_,rfl⟩;rw[hNM]at HT0 HT1 HNA;obtain⟨T,hT⟩:∃T,Zcdi xs=T:=⟨_,rfl⟩;rw[hT]at HT0 HT1⊢;clear hMM hCC hNM hT
 go_enter func51,ntmps51
 go_wp2_with fail
 refine CN.out.mono ?_;rintro e w1 ⟨⟨gm,rfl,hmat1⟩,hb1⟩;have HB1:=hid hb1;have HM1:=hid hmat1;clear hb1 hmat1
 go_wp2_with fail
 refine(CC.out _ _ _ HM1.out).mono ?_;rintro e w2 ⟨⟨gc,rfl,hmat2⟩,hb2⟩;have HB2:=hid (HB1.out.trans (hb2.mono HB1.out.size));obtain⟨rm,sm,hM⟩:=(HM1.out.below hb2).fix;obtain⟨rc,sc,hC⟩:=hmat2.fix;have HM:=hid hM;have HC:=hid hC;have HN:Hid (∀k,k<n->∃b o x,a1=some ⟨b,o,none⟩/\∀w',Below w2.heap.size w2 w'->w'.cell? ⟨b,o+k*5,none⟩=some (.string x)/\NM k=x):=by
  show ∀k,_;intro k hk;obtain⟨b,o,x,ha,hc⟩:=HNA.out k hk;exact⟨b,o,x,ha,λw' hw=>hc w' (HB2.out.trans (hw.mono HB2.out.size))⟩
 clear hb2 hmat2 hM hC HM1 CN CC HNA HB1
 go_wp2_with fail
 go_loopw [5,6] (λfv iv wr=>∃(f:Int) (i:Nat),fv = .int .i64 f/\iv = .int .i64 (i:Int)/\i<=n/\-1<=f/\f<(n:Int)/\Below w2.heap.size w2 wr/\f=Zced C NM i) (λ_ iv _=>n-(intOf iv).toNat)
 case atStart=>exact⟨-1,0,rfl,rfl,by omega,by omega,by omega,Below.refl _ _,rfl⟩
 case round=>
  obtain⟨f,i,rfl,rfl,hi,hf0,hf1,hbr,hfn⟩:=hrel;have HFN:=hid hfn;clear hfn;obtain⟨WR,hWR⟩:∃V,wr=V:=⟨_,rfl⟩;rw[hWR]at hbr⊢;clear hWR;have HBR:=hid hbr
  by_cases hlt:i<n
  ·have hi1:(i:Int)<(n:Int):=by omega
   have hi0:(0:Int)<=(i:Int):=by omega
   obtain⟨e1,e2,e3,e4⟩:=HC.out _ hbr i hlt;have e5:=e4 i hlt;obtain⟨x,hx⟩:∃x,C i i=x:=⟨_,rfl⟩;have HXI:=hid hx;rw[hx]at e5;obtain⟨b,o,nm,hab,hnc⟩:=HN.out i hlt;have HNI:=hid (hnc _ (Below.refl _ _)).2;have e6:=(hnc _ hbr).1;subst hab;have HDR:Hid (∀k,Below w2.heap.size w2 (WR.drewN k)):=by show ∀k,_;exact λk=>below_drewN HBR.out k
   clear hbr e4 hx hnc
   cases x
   ·go_wp2_with fail
    go_quiet (fail)
    all_goals go_wp2
    all_goals go_roundw
    case rel=>exact⟨f,i+1,rfl,by go_num,by omega,by omega,by omega,HDR.out _,Zceh HFN.out HXI.out⟩
    case measure=>simp[intOf];omega
   ·by_cases hneg:f<0
    ·have hd:decide (f<0)=true:=decide_eq_true hneg
     go_wp2_with fail
     go_quiet (fail)
     all_goals go_wp2
     all_goals go_roundw
     case rel=>exact⟨i,i+1,rfl,by go_num,by omega,by omega,by omega,HDR.out _,Zceg HFN.out HXI.out (by omega)⟩
     case measure=>simp[intOf];omega
    ·obtain⟨f',rfl⟩:∃f':Nat,f=(f':Int):=⟨f.toNat,by omega⟩
     have hd:decide ((f':Int)<0)=false:=decide_eq_false hneg;obtain⟨b',o',nf,hab,hnf⟩:=HN.out f' (by omega);injection hab with hab
     injection hab with q1 q2
     subst q1 q2;have HNF:=hid (hnf _ (Below.refl _ _)).2;have e7:=(hnf _ HBR.out).1;have hf2:(0:Int)<=(f':Int):=by omega
     obtain⟨q,hq⟩:∃q,Op.bytesLess nm.toList nf.toList=q:=⟨_,rfl⟩;have HQ:=hid hq;clear hnf
     cases q
     ·go_wp2_with fail
      go_quiet (fail)
      all_goals go_wp2
      all_goals go_roundw
      case rel=>exact⟨f',i+1,rfl,by go_num,by omega,by omega,by omega,HDR.out _,Zcef HFN.out (by rw[HNI.out,HNF.out];exact HQ.out)⟩
      case measure=>simp[intOf];omega
     ·go_wp2_with fail
      go_quiet (fail)
      all_goals go_wp2
      all_goals go_roundw
      case rel=>exact⟨i,i+1,rfl,by go_num,by omega,by omega,by omega,HDR.out _,Zcee HFN.out HXI.out (by rw[HNI.out,HNF.out];exact HQ.out)⟩
      case measure=>simp[intOf];omega
  ·have hi1:¬(i:Int)<(n:Int):=by omega
   clear hbr
   by_cases hneg:f<0
   ·have HTN:Hid (T = []):=hid (HT0.out (by rw[show n=i by omega,<-HFN.out];exact hneg))
    go_wp2;go_ret;exact⟨⟨none,0,0,rfl,by rw[HTN.out];exact(Zbdk 0 _).strsA.isStrs⟩,HB2.out.trans (HBR.out.mono HB2.out.size)⟩
   ·obtain⟨f',rfl⟩:∃f':Nat,f=(f':Int):=⟨f.toNat,by omega⟩
    have HTC:=hid (HT1.out f' (by rw[show n=i by omega];exact HFN.out));clear HT1 HT0;have hf2:(0:Int)<=(f':Int):=by omega
    have hfn:f'<n:=by omega
    have hg1:(1:Int)<=(n:Int):=by omega
    have HG:=hid HBR.out.size;have HF0:Hid (FarI (WR.alloc (.cells (madeCells #[.int .i64 0] n) 3)) WR.heap.size n (λ_=>0)):=hid Zcdl;have HB3:Hid (Below w2.heap.size w2 (WR.alloc (.cells (madeCells #[.int .i64 0] n) 3))):=hid (HBR.out.alloc HBR.out.size _)
    go_wp2_with fail
    go_loopw [61] (λiv wr=>∃(F:Nat->Int) (i:Nat),iv = .int .i64 (i:Int)/\i<=n/\FarI wr WR.heap.size n F/\(∀k<i,F k = -1)/\Below w2.heap.size w2 wr) (λiv _=>n-(intOf iv).toNat)
    case atStart=>exact⟨_,0,rfl,by omega,HF0.out,λk hk=>absurd hk (by omega),HB3.out⟩
    case round=>
     obtain⟨F,i,rfl,hi,hF,hz,hb⟩:=hrel;have HF:=hid hF;have HZ:=hid hz;have HB:=hid hb
     by_cases hlt:i<n
     ·obtain⟨e1,e2⟩:=hF.cell hlt
      have hi1:(i:Int)<(n:Int):=by omega
      have hi0:(0:Int)<=(i:Int):=by omega
      clear hF hz hb;go_wp2;go_roundw
      case rel=>exact⟨_,i+1,by go_num,by omega,HF.out.set (-1),λk hk=>by
       show(if k=i then(-1:Int)else F k) = -1
       by_cases e:k=i
       ·rw[if_pos e]
       ·rw[if_neg e];exact HZ.out k (by omega),HB.out.setCell HG.out _⟩
      case measure=>simp[intOf];omega
     ·obtain rfl:i=n:=by omega
      have hi1:¬(i:Int)<(i:Int):=by omega
      obtain⟨e1,e2⟩:=hF.cell hfn;have HF4:Hid (FarI (wr.setCell ⟨WR.heap.size,f',none⟩ (.int .i64 0)) WR.heap.size i (far0 f')):=hid ((hF.set 0).congr (λk hk=>by unfold far0;by_cases e:k=f'<;>simp[e,HZ.out k hk]));have HB4:Hid (Below w2.heap.size w2 (wr.setCell ⟨WR.heap.size,f',none⟩ (.int .i64 0))):=hid (hb.setCell HG.out _);have HK4:Hid (FarOk i M (far0 f')):=by
       show FarOk _ _ _;intro k hk;unfold far0
       by_cases e:k=f'
       ·simp only[if_pos e];exact⟨by omega,by omega,λh=>absurd h (by omega)⟩
       ·simp only[if_neg e];exact⟨by omega,by omega,λh=>absurd h (by omega)⟩
      clear hF hz hb
      go_upto_region 18 with fail
      obtain⟨W5,hW5⟩:∃V,wr.setCell ⟨WR.heap.size,f',none⟩ (.int .i64 0)=V:=⟨_,rfl⟩;rw[hW5]at HF4 HB4⊢;clear hW5 e1 e2;obtain⟨F0,hF0⟩:∃G:Nat->Int,far0 f'=G:=⟨_,rfl⟩;rw[hF0]at HF4 HK4 HTC;clear hF0 HF HZ HB
      go_wp2_with fail
      go_loopw [9] (λdv wr=>∃(F:Nat->Int) (d:Nat),dv = .int .i64 (d:Int)/\1<=d/\d<=i+1/\FarI wr WR.heap.size i F/\FarOk i M F/\Below w2.heap.size w2 wr/\F=farD M F0 i (d-1)) (λdv _=>i+1-(intOf dv).toNat)
      case atStart=>exact⟨_,1,rfl,by omega,by omega,HF4.out,HK4.out,HB4.out,rfl⟩
      case round=>
       obtain⟨F1,d,rfl,hd1,hd2,hF,hK,hb,hfd⟩:=hrel;have HFD:=hid hfd;clear hfd;have HF:=hid hF;have HK:=hid hK;have HB:=hid hb
       by_cases hdl:d<=i
       ·have hdi:(d:Int)<=(i:Int):=by omega
        have HD:=hid hd1;clear hF hK hb
        go_wp2_with fail
        go_loopw [10] (λpv wr=>∃(F:Nat->Int) (p:Nat),pv = .int .i64 (p:Int)/\p<=i/\FarI wr WR.heap.size i F/\FarOk i M F/\Below w2.heap.size w2 wr/\F=farP M (d:Int) F1 i p) (λpv _=>i-(intOf pv).toNat)
        case atStart=>exact⟨_,0,rfl,by omega,HF.out,HK.out,HB.out,rfl⟩
        case round=>
         obtain⟨F2,p,rfl,hp,hF,hK,hb,hfp⟩:=hrel;have HFP:=hid hfp;clear hfp;have HF:=hid hF;have HK:=hid hK;have HB:=hid hb;clear hF hK hb
         by_cases hpl:p<i
         ·have hp1:(p:Int)<(i:Int):=by omega
          have hp0:(0:Int)<=(p:Int):=by omega
          go_wp2_with fail
          go_loopw [11] (λqv wr=>∃(F:Nat->Int) (q:Nat),qv = .int .i64 (q:Int)/\q<=i/\FarI wr WR.heap.size i F/\FarOk i M F/\Below w2.heap.size w2 wr/\F=farQ M (d:Int) p F2 q) (λqv _=>i-(intOf qv).toNat)
          case atStart=>exact⟨_,0,rfl,by omega,HF.out,HK.out,HB.out,rfl⟩
          case round=>
           obtain⟨F,q,rfl,hq,hF,hK,hb,hfq⟩:=hrel;have HFQ:=hid hfq;clear hfq;have HF:=hid hF;have HK:=hid hK;have HB:=hid hb
           by_cases hql:q<i
           ·have hq1:(q:Int)<(i:Int):=by omega
            have hq0:(0:Int)<=(q:Int):=by omega
            have hg2:decide (q<i)=true:=decide_eq_true hql;obtain⟨y1,y2⟩:=hF.cell hpl;obtain⟨y3,_⟩:=hF.cell hql;obtain⟨u,hu⟩:∃u,F p=u:=⟨_,rfl⟩;obtain⟨t,ht⟩:∃t,F q=t:=⟨_,rfl⟩;rw[hu]at y1;rw[ht]at y3;obtain⟨z1,z2,z3,z4⟩:=HM.out _ hb p hpl;have z5:=z4 q hql;obtain⟨x,hx⟩:∃x,M p q=x:=⟨_,rfl⟩;rw[hx]at z5;have HU:=hid hu;have HT:=hid ht;have HX:=hid hx;have hw1:IntKind.i64.wrap ((d:Int)-1)=(d:Int)-1:=IntWalk.i64_in _ (by omega);clear hF hK hb z4 hu ht hx
            by_cases hu0:u<0
            ·have hg3:decide (u<0)=true:=decide_eq_true hu0
             cases x
             ·go_wp2
              go_roundw
              case rel=>exact⟨F,q+1,by go_num,by omega,HF.out,HK.out,HB.out,Zcdt HFQ.out (.inl HX.out)⟩
              case measure=>simp[intOf];omega
             ·by_cases htd:t=(d:Int)-1
              ·have HS:Hid (FarOk i M (λj=>if j=p then(d:Int)else F j)):=hid (HK.out.set hql (by rw[HU.out];exact hu0) HX.out (by rw[HT.out];exact htd) (by have:=HD.out;omega) (by omega))
               have HTD:=hid htd;subst htd;go_wp2;go_roundw
               case rel=>exact⟨_,q+1,by go_num,by omega,HF.out.set _,HS.out,HB.out.setCell HG.out _,Zcdw HFQ.out (by rw[HU.out];exact hu0) HX.out HT.out⟩
               case measure=>simp[intOf];omega
              ·have HTD:=hid htd
               go_wp2;go_roundw
               case rel=>exact⟨F,q+1,by go_num,by omega,HF.out,HK.out,HB.out,Zcdt HFQ.out (.inr (by rw[HT.out];exact HTD.out))⟩
               case measure=>simp[intOf];omega
            ·have hg3:decide (u<0)=false:=decide_eq_false hu0
             go_wp2;go_roundw
             case rel=>exact⟨F,p+1,by go_num,by omega,HF.out,HK.out,HB.out,Zcdr HFQ.out HFP.out (by rw[HU.out];exact hu0) hq⟩
             case measure=>simp[intOf];omega
           ·have hq1:¬(q:Int)<(i:Int):=by omega
            have hg2:decide (q<i)=false:=decide_eq_false hql;clear hF hK hb;go_wp2;go_roundw
            case rel=>exact⟨F,p+1,by go_num,by omega,HF.out,HK.out,HB.out,Zcds HFQ.out HFP.out (by omega)⟩
            case measure=>simp[intOf];omega
         ·have hp1:¬(p:Int)<(i:Int):=by omega
          go_wp2;go_roundw
          case rel=>exact⟨F2,d+1,by go_num,by omega,by omega,HF.out,HK.out,HB.out,Zcdp HFP.out HFD.out (by omega) HD.out⟩
          case measure=>simp[intOf];omega
       ·have hdi:¬(d:Int)<=(i:Int):=by omega
        rw[<-show F1=farD M F0 i i by have:=HFD.out;rw[show d-1=i by omega]at this;exact this]at HTC;clear hF hK hb HFD
        go_wp2_with fail
        go_loopw [12,13] (λbv kv wr=>∃(be:Int) (k:Nat),bv = .int .i64 be/\kv = .int .i64 (k:Int)/\k<=i/\0<=be/\be<=(i:Int)+1/\(0<be->∃l<i,M f' l=true/\F1 l=be-1)/\FarI wr WR.heap.size i F1/\Below w2.heap.size w2 wr/\be=Zccl M f' F1 k) (λ_ kv _=>i-(intOf kv).toNat)
        case atStart=>exact⟨0,0,rfl,rfl,by omega,by omega,by omega,λh=>absurd h (by omega),HF.out,HB.out,rfl⟩
        case round=>
         obtain⟨be,k,rfl,rfl,hk,hb0,hb1,hbe,hF,hb,hbn⟩:=hrel;have HBN:=hid hbn;clear hbn;have HF:=hid hF;have HB:=hid hb;have HBE:=hid hbe
         by_cases hkl:k<i
         ·have hk1:(k:Int)<(i:Int):=by omega
          have hk0:(0:Int)<=(k:Int):=by omega
          have hf1':(f':Int)<(i:Int):=by omega
          obtain⟨y3,_⟩:=hF.cell hkl;obtain⟨t,ht⟩:∃t,F1 k=t:=⟨_,rfl⟩;rw[ht]at y3;obtain⟨z1,z2,z3,z4⟩:=HM.out _ hb f' hfn;have z5:=z4 k hkl;obtain⟨x,hx⟩:∃x,M f' k=x:=⟨_,rfl⟩;rw[hx]at z5;have HT:=hid ht;have HX:=hid hx;obtain⟨ht1,ht2,_⟩:=HK.out k hkl;rw[ht]at ht1 ht2;have hw1:IntKind.i64.wrap (t+1)=t+1:=IntWalk.i64_in _ (by omega);clear hF hb z4 ht hx hbe
          cases x
          ·go_wp2
           go_roundw
           case rel=>exact⟨be,k+1,rfl,by go_num,by omega,by omega,by omega,HBE.out,HF.out,HB.out,Zccm HBN.out (.inl HX.out)⟩
           case measure=>simp[intOf];omega
          ·by_cases ht0:0<=t
           ·have hg3:decide (0<=t)=true:=decide_eq_true ht0
            have HNEW:Hid (0<t+1->∃l<i,M f' l=true/\F1 l=t+1-1):=by show 0<t+1->_;exact λ_=>⟨k,hkl,HX.out,by rw[HT.out];omega⟩
            by_cases hbz:be=0
            ·have hg4:(be==0)=true:=by rw[hbz];rfl
             go_wp2;go_roundw
             case rel=>exact⟨t+1,k+1,by go_num,by go_num,by omega,by omega,by omega,HNEW.out,HF.out,HB.out,Zcco HBN.out HX.out HT.out (by omega) (.inl (by omega))⟩
             case measure=>simp[intOf];omega
            ·have hg4:(be==0)=false:=by simpa using hbz
             by_cases htb:t+1<be
             ·go_wp2
              go_roundw
              case rel=>exact⟨t+1,k+1,by go_num,by go_num,by omega,by omega,by omega,HNEW.out,HF.out,HB.out,Zcco HBN.out HX.out HT.out (by omega) (.inr (by omega))⟩
              case measure=>simp[intOf];omega
             ·go_wp2
              go_roundw
              case rel=>exact⟨be,k+1,rfl,by go_num,by omega,by omega,by omega,HBE.out,HF.out,HB.out,Zccm HBN.out (.inr (.inr ⟨by omega,by rw[HT.out];omega⟩))⟩
              case measure=>simp[intOf];omega
           ·have hg3:decide (0<=t)=false:=decide_eq_false ht0
            go_wp2;go_roundw
            case rel=>exact⟨be,k+1,rfl,by go_num,by omega,by omega,by omega,HBE.out,HF.out,HB.out,Zccm HBN.out (.inr (.inl (by rw[HT.out];omega)))⟩
            case measure=>simp[intOf];omega
         ·have hk1:¬(k:Int)<(i:Int):=by omega
          have hf1':(f':Int)<(i:Int):=by omega
          obtain⟨b,o,nm,hab,hnc⟩:=HN.out f' hfn;have HNI:=hid (hnc _ (Below.refl _ _)).2;have HT2:Hid ([nm]++Zcgm M NM F1 i (be-1).toNat f'=T):=by show _=T;rw[HTC.out,HNI.out,HBN.out,show k=i by omega];rfl
          have e6:=(hnc _ hb).1;subst hab;have hw1:IntKind.i64.wrap (be-1)=be-1:=IntWalk.i64_in _ (by omega);have HF6:Hid (FarI (wr.alloc (.cells #[.string nm] 9)) WR.heap.size i F1):=hid (hF.below ((Below.refl _ _).alloc (Nat.le_refl _) _));have HB6:Hid (Below w2.heap.size w2 (wr.alloc (.cells #[.string nm] 9))):=hid (hb.alloc hb.size _);have HO6:Hid (OwnStrs w2.heap.size (wr.alloc (.cells #[.string nm] 9)) (.slice (some ⟨wr.heap.size,0,none⟩) 1 1) [nm]):=hid (Zbdx (alloc_at wr _) hb.size);clear hF hb hbe hnc
          go_wp2_with fail
          go_loopw [14,15,16] (λov av lv wr=>∃(names:List ByteArray) (p:Nat) (le:Int),av = .int .i64 (p:Int)/\lv = .int .i64 le/\p<i/\-1<=le/\le<=(i:Int)/\(0<le->∃l<i,M p l=true/\F1 l=le)/\OwnStrs w2.heap.size wr ov names/\(names.length:Int)+le<=(i:Int)+5/\FarI wr WR.heap.size i F1/\Below w2.heap.size w2 wr/\names++Zcgm M NM F1 i le.toNat p=T) (λ_ _ lv _=>(intOf lv).toNat)
          case atStart=>exact⟨[nm],f',be-1,rfl,by go_num,hfn,by omega,by omega,λh=>HBE.out (by omega),HO6.out,by simp only[List.length_cons,List.length_nil];omega,HF6.out,HB6.out,HT2.out⟩
          case round=>
           obtain⟨names,p,le,rfl,rfl,hp,hl0,hl1,hle,hown,hnl,hF,hb,htt⟩:=hrel;have HTT:=hid htt;clear htt;obtain⟨WL,hWL⟩:∃V,wr=V:=⟨_,rfl⟩;rw[hWL]at hown hF hb⊢;clear hWL e6;have HF:=hid hF;have HB:=hid hb;have HLE:=hid hle;have HOWN:=hid hown;have HNL:=hid hnl;obtain⟨oa,oc,q,_,hoc,hocm⟩:=Zbea hown;subst q;unfold maxLen at hocm
           by_cases hlp:0<le
           ·have hp1:(p:Int)<(i:Int):=by omega
            have hp0:(0:Int)<=(p:Int):=by omega
            clear hF hb hle hown hnl
            go_wp2_with fail
            go_loopw [17,18] (λnv kv wr=>∃(nx:Int) (k:Nat),nv = .int .i64 nx/\kv = .int .i64 (k:Int)/\k<=i/\-1<=nx/\nx<(i:Int)/\(0<=nx->F1 nx.toNat=le)/\(nx<0->∀l<k,M p l=true->F1 l≠le)/\Below WL.heap.size WL wr/\nx=Zcfy M NM p F1 le k) (λ_ kv _=>i-(intOf kv).toNat)
            case atStart=>exact⟨-1,0,rfl,rfl,by omega,by omega,by omega,λh=>absurd h (by omega),λ_ l hl=>absurd hl (by omega),Below.refl _ _,rfl⟩
            case round=>
             obtain⟨nx,k,rfl,rfl,hk,hn0,hn1,hnf,hno,hbl,hnn⟩:=hrel;have HNN:=hid hnn;clear hnn;have HNF:=hid hnf;have HNO:=hid hno;have HBL:=hid hbl;have hbw:=HB.out.trans (hbl.mono HB.out.size);have HBW:=hid hbw
             by_cases hkl:k<i
             ·have hk1:(k:Int)<(i:Int):=by omega
              have hk0:(0:Int)<=(k:Int):=by omega
              obtain⟨y3,_⟩:=(HF.out.below hbl).cell hkl;obtain⟨t,ht⟩:∃t,F1 k=t:=⟨_,rfl⟩;rw[ht]at y3;obtain⟨z1,z2,z3,z4⟩:=HM.out _ hbw p hp;have z5:=z4 k hkl;obtain⟨x,hx⟩:∃x,M p k=x:=⟨_,rfl⟩;rw[hx]at z5;have HT:=hid ht;have HX:=hid hx;obtain⟨b',o',nk,hab,hnc⟩:=HN.out k hkl;injection hab with hab
              injection hab with q1 q2
              subst q1 q2;have HNK:=hid (hnc _ (Below.refl _ _)).2;have e6:=(hnc _ hbw).1;have HDR:Hid (∀n,Below WL.heap.size WL (wr.drewN n)):=by show ∀n,_;exact λn=>below_drewN HBL.out n
              have HSTAY:Hid ((x=false∨¬t=le∨0<=nx)->nx<0->∀l<k+1,M p l=true->F1 l≠le):=by
               show _->_;intro hor hneg l hl hml
               rcases Nat.lt_or_ge l k with h|h
               ·exact HNO.out hneg l h hml
               ·obtain rfl:l=k:=by omega
                rcases hor with h|h|h
                ·rw[HX.out,h]at hml;cases hml
                ·rw[HT.out];exact h
                ·omega
              have HNEW:Hid (t=le->(0<=(k:Int)->F1 (k:Int).toNat=le)/\((k:Int)<0->∀l<k+1,M p l=true->F1 l≠le)):=by
               show t=le->_;exact λh=>⟨λ_=>by rw[Int.toNat_natCast,HT.out];exact h,λh=>absurd h (by omega)⟩
              clear hnc z4 ht hx hbw hbl hnf hno
              cases x
              ·go_wp2_with fail
               go_quiet (fail)
               all_goals go_wp2
               all_goals go_roundw
               case rel=>exact⟨nx,k+1,rfl,by go_num,by omega,by omega,by omega,HNF.out,HSTAY.out (.inl (by trivial)),HDR.out _,Zcgc HNN.out (.inl HX.out)⟩
               case measure=>simp[intOf];omega
              ·by_cases htl:t=le
               ·have hg5:(t==le)=true:=by rw[htl];simp
                have HTL:=hid htl
                by_cases hneg:nx<0
                ·have hd:decide (nx<0)=true:=decide_eq_true hneg
                 go_wp2_with fail
                 go_quiet (fail)
                 all_goals go_wp2
                 all_goals go_roundw
                 case rel=>exact⟨k,k+1,rfl,by go_num,by omega,by omega,by omega,(HNEW.out HTL.out).1,(HNEW.out HTL.out).2,HDR.out _,Zcgb HNN.out HX.out (by rw[HT.out];exact HTL.out) (by omega)⟩
                 case measure=>simp[intOf];omega
                ·obtain⟨x',rfl⟩:∃x':Nat,nx=(x':Int):=⟨nx.toNat,by omega⟩
                 have hd:decide ((x':Int)<0)=false:=decide_eq_false hneg;obtain⟨b',o',nf,hab,hnf⟩:=HN.out x' (by omega);injection hab with hab
                 injection hab with q1 q2
                 subst q1 q2;have HNF2:=hid (hnf _ (Below.refl _ _)).2;have e7:=(hnf _ HBW.out).1;have hx2:(0:Int)<=(x':Int):=by omega
                 obtain⟨q,hq⟩:∃q,Op.bytesLess nk.toList nf.toList=q:=⟨_,rfl⟩;have HQ:=hid hq;clear hnf
                 cases q
                 ·go_wp2_with fail
                  go_quiet (fail)
                  all_goals go_wp2
                  all_goals go_roundw
                  case rel=>exact⟨x',k+1,rfl,by go_num,by omega,by omega,by omega,HNF.out,HSTAY.out (.inr (.inr (by omega))),HDR.out _,Zcga HNN.out (by rw[HNK.out,HNF2.out];exact HQ.out)⟩
                  case measure=>simp[intOf];omega
                 ·go_wp2_with fail
                  go_quiet (fail)
                  all_goals go_wp2
                  all_goals go_roundw
                  case rel=>exact⟨k,k+1,rfl,by go_num,by omega,by omega,by omega,(HNEW.out HTL.out).1,(HNEW.out HTL.out).2,HDR.out _,Zcfz HNN.out HX.out (by rw[HT.out];exact HTL.out) (by rw[HNK.out,HNF2.out];exact HQ.out)⟩
                  case measure=>simp[intOf];omega
               ·have hg5:(t==le)=false:=by simpa using htl
                have HTL:=hid htl
                go_wp2_with fail
                go_quiet (fail)
                all_goals go_wp2
                all_goals go_roundw
                case rel=>exact⟨nx,k+1,rfl,by go_num,by omega,by omega,by omega,HNF.out,HSTAY.out (.inr (.inl HTL.out)),HDR.out _,Zcgc HNN.out (.inr (by rw[HT.out];exact HTL.out))⟩
                case measure=>simp[intOf];omega
             ·have hk1:¬(k:Int)<(i:Int):=by omega
              obtain rfl:k=i:=by omega
              have hpos:0<=nx:=by
               refine Int.not_lt.1 λhneg=>?_
               obtain⟨l,hl,h1,h2⟩:=HLE.out hlp;exact hno hneg l hl h1 h2
              obtain⟨x',rfl⟩:∃x':Nat,nx=(x':Int):=⟨nx.toNat,by omega⟩;have hFx:F1 x'=le:=by have:=hnf hpos;rwa [Int.toNat_natCast]at this
              obtain⟨b',o',nx2,hab,hnc⟩:=HN.out x' (by omega);injection hab with hab
              injection hab with q1 q2
              subst q1 q2;have HNK:=hid (hnc _ (Below.refl _ _)).2;have HTT2:Hid ((names ++ [nx2])++Zcgm M NM F1 k (le-1).toNat x'=T):=by show _=T;rw[<-HTT.out,Zcgn HNN.out hlp,HNK.out];simp
              have e6:=(hnc _ hbw).1;have hw2:IntKind.i64.wrap (le-1)=le-1:=IntWalk.i64_in _ (by omega);have hox:=HOWN.out.below hbl;have hba:=hbw.alloc hbw.size (.cells #[.string nx2] 9);obtain⟨v9,w9,hr9,ho9,hg9⟩:=Zbka (w:=wr.alloc (.cells #[.string nx2] 9)) (ty:=47) (ys:=[nx2]) (hox.below ((Below.refl _ _).alloc (Nat.le_refl _) _)) (Zbik (alloc_at wr _)) (by have:=HNL.out;simp only[List.length_cons,List.length_nil];omega) hba.size;have hF9:FarI w9 WR.heap.size k F1:=by
               have h0:=(HF.out.below hbl).below ((Below.refl _ _).alloc (Nat.le_refl _) (.cells #[.string nx2] 9));exact h0.keep (hg9.block _ h0.lt (Zcgl (hox.below ((Below.refl _ _).alloc (Nat.le_refl _) _)) h0))
              have HF9:=hid hF9;have HB9:Hid (Below w2.heap.size w2 w9):=hid (Zfl hba hg9 hba.size (λq hq=>(World.ownsRow.lt hox q hq).1));have HR9:=hid hr9;have HO9:=hid ho9;have HNE:Hid (0<le-1->∃l<k,M x' l=true/\F1 l=le-1):=by
               show 0<le-1->_;intro h;obtain⟨_,_,h3⟩:=HK.out x' (by omega);obtain⟨l,hl,h4,h5⟩:=h3 (by rw[hFx];omega);exact⟨l,hl,h4,by rw[h5,hFx]⟩
              clear hnc hbw hbl hnf hno hox hba hr9 ho9 hg9 hF9 hFx
              go_wp2_with (at_builtin;refine Zbud (by rfl) _ _ 47 (by rfl) (by rfl) (by rfl) HR9.out ?_)
              go_roundw
              case rel=>exact⟨names ++ [nx2],x',le-1,rfl,by go_num,by omega,by omega,by omega,HNE.out,HO9.out,by have:=HNL.out;simp only[List.length_append,List.length_cons,List.length_nil];omega,HF9.out,HB9.out,HTT2.out⟩
              case measure=>simp[intOf];omega
           ·have hlp':¬0<le:=hlp
            clear hF hb hle hown hnl;go_wp2;go_ret;exact⟨⟨_,_,_,rfl,by rw[<-HTT.out,show le.toNat=0 by omega];show IsStrs _ _ (names ++ []);rw[List.append_nil];exact HOWN.out.strsA.isStrs⟩,HB2.out.trans (HB.out.mono HB2.out.size)⟩
def Zcbz (xs:List RuleS) (e:Ending):Prop:=∃(c:Int) (s:ByteArray),e = .returned (.tuple #[.int .i64 c,.string s])/\AllC xs c s
theorem Zchj {xs:List RuleS} {P:Nat->RuleS->Prop} {i:Nat} {x:RuleS} (h:∀(j:Nat) y,j<i->xs[j]? =some y->P j y) (hx:xs[i]? =some x) (hp:P i x):∀(j:Nat) y,j<i+1->xs[j]? =some y->P j y:=by
 intro j y hj hy
 rcases Nat.lt_or_ge j i with h'|h'
 ·exact h j y h' hy
 ·obtain rfl:j=i:=by omega
  rw[hx]at hy;injection hy with hy
  rw[<-hy];exact hp
set_option maxHeartbeats 16000000 in
set_option maxRecDepth 100000 in
theorem Zccs (v:Value) (xs:List RuleS) (w:World) (h:RulesI w v xs) (hn:xs.length<=1000) (hs:∀x∈xs,SmallR x 1048576/\ShortR x):
  Calls prog 8 #[v] w λe w'=>Zcbz xs e/\Below w.heap.size w w':=by
 have HI:=hid h;obtain⟨a1,c1,rfl,_,hm1,hc1⟩:=Zcgz h;have HRU:Hid (∀(k:Nat) x,xs[k]? =some x->∃b o p1 q1 p2 q2 p3 q3 p4 q4,a1=some ⟨b,o,none⟩/\(∀w',Below w.heap.size w w'->Calls prog 50 #[.agg #[.string x.name,.slice p1 x.ins.length q1,.slice p2 x.outs.length q2,.slice p3 x.after.length q3,.slice p4 x.steps.length q4]] w' λe w''=>Zbv x e/\Below w'.heap.size w' w'')/\
   (∀w',Below w.heap.size w w'->w'.cell? ⟨b,o+k*5,none⟩=some (.string x.name)/\w'.cell? ⟨b,o+k*5+1,none⟩=some (.slice p1 x.ins.length q1)/\w'.cell? ⟨b,o+k*5+2,none⟩=some (.slice p2 x.outs.length q2)/\w'.cell? ⟨b,o+k*5+3,none⟩=some (.slice p3 x.after.length q3)/\w'.cell? ⟨b,o+k*5+4,none⟩=some (.slice p4 x.steps.length q4))/\
   (∀(j:Nat) s,x.outs[j]? =some s->∃b' o',p2=some ⟨b',o',none⟩/\∀w',Below w.heap.size w w'->w'.cell? ⟨b',o'+j,none⟩=some (.string s))/\(∀(j:Nat) s,x.after[j]? =some s->∃b' o',p3=some ⟨b',o',none⟩/\∀w',Below w.heap.size w w'->w'.cell? ⟨b',o'+j,none⟩=some (.string s))):=by
  show ∀(k:Nat) x,_;intro k x hx;obtain⟨b,o,p1,q1,p2,q2,p3,q3,p4,q4,ha,hr,hc⟩:=hc1 k x hx;obtain⟨hsm,hsh⟩:=hs x (List.mem_of_getElem? hx);have hr':=hr;obtain⟨vi,vo,vf,vs,q,h1,h2,h3,h4⟩:=hr;simp only[List.cons.injEq,and_true]at q;obtain⟨_,rfl,rfl,rfl,rfl⟩:=q;obtain⟨_,_,e2,_,_,s2⟩:=Zua h2;obtain⟨_,_,e3,_,_,s3⟩:=Zua h3;injection e2 with e2 _ e2'
  injection e3 with e3 _ e3'
  subst e2 e2' e3 e3';exact⟨b,o,p1,q1,p2,q2,p3,q3,p4,q4,ha,λw' hw=>Zhk x _ _ _ _ w' (hr'.below hw) hsm hsh,λw' hw=>hc w' hw,s2,s3⟩
 have CMK:Hid (∀s w',Below w.heap.size w w'->Calls prog 21 #[.slice a1 xs.length c1,.string s] w' λe w''=>(∃r:Int,e = .returned (.int .i64 r)/\Zcfo xs s=r/\-1<=r/\r<(xs.length:Int))/\w'=w''):=by
  show ∀s w',_;exact λs w' hw=>(Zccx _ _ s w' (HI.out.below hw)).mono (by rintro e w2 ⟨rfl,rfl⟩;exact⟨⟨_,rfl,rfl,Zcfp xs s⟩,rfl⟩)
 have CAT:Hid (∀s w',Below w.heap.size w w'->Calls prog 23 #[.slice a1 xs.length c1,.string s] w' λe w''=>(∃r:Int,e = .returned (.int .i64 r)/\Zoi (xs.map (·.name)) s=r/\-1<=r/\r<((xs.map (·.name)).length:Int))/\w'=w''):=by
  show ∀s w',_;exact λs w' hw=>(Zccu _ _ s w' (HI.out.below hw)).mono (by rintro e w2 ⟨rfl,rfl⟩;exact⟨⟨_,rfl,rfl,Zcdz _ s⟩,rfl⟩)
 have CCY:Hid (∀w',Below w.heap.size w w'->Calls prog 51 #[.slice a1 xs.length c1] w' λe w''=>CycX (Zcdi xs) w'' e/\Below w'.heap.size w' w''):=by show ∀w',_;exact λw' hw=>Zccw _ xs w' (HI.out.below hw) hn
 have HSH:Hid (∀(k:Nat) x,xs[k]? =some x->x.outs.length<=6/\x.after.length<=10):=by show ∀(k:Nat) x,_;exact λk x hx=>⟨(hs x (List.mem_of_getElem? hx)).2.outs,(hs x (List.mem_of_getElem? hx)).2.after⟩
 unfold maxLen at hm1;clear h hc1 hs
 go_enter func8,ntmps8
 go_wp2_with fail
 go_loopw [4] (λiv wr=>∃i:Nat,i<=xs.length/\iv = .int .i64 (i:Int)/\OkTo xs i/\Below w.heap.size w wr) (λiv _=>xs.length-(intOf iv).toNat)
 case atStart=>exact⟨0,Nat.zero_le _,rfl,λj y hj=>absurd hj (by omega),Below.refl _ _⟩
 case round=>
  obtain⟨i,hi,rfl,hok,hbr⟩:=hrel;obtain⟨WR,hWR⟩:∃V,wr=V:=⟨_,rfl⟩;rw[hWR]at hbr⊢;clear hWR;have HOK:=hid hok;have HBR:=hid hbr
  by_cases hlt:i<xs.length
  ·obtain⟨x,hx⟩:∃x,xs[i]? =some x:=⟨xs[i],List.getElem?_eq_getElem hlt⟩
   obtain⟨b,o,p1,q1,p2,q2,p3,q3,p4,q4,hab,hcr,hcs,_,_⟩:=HRU.out i x hx;have CR:=hid (hcr _ hbr);obtain⟨y0,y1,y2,y3,y4⟩:=hcs _ hbr;have HCS:=hid hcs;have HX:=hid hx;have hi1:(i:Int)<(xs.length:Int):=by omega
   have hi0:(0:Int)<=(i:Int):=by omega
   subst hab;clear hok hbr hcr hcs hx
   go_wp2_with fail
   refine CR.out.mono ?_;rintro e w5 ⟨⟨r,rfl,hr⟩,hb5⟩;have HB5:=hid (HBR.out.trans (hb5.mono HBR.out.size));have HR:=hid hr;clear hb5 hr y0 y1 y2 y3 y4;obtain⟨y0,_⟩:=HCS.out _ HB5.out
   by_cases hr0:r=0
   ·have HNX:Hid (OkTo xs (i+1)):=hid (Zchj HOK.out HX.out (by have:=HR.out;rw[hr0]at this;exact this))
    subst hr0;go_wp2;go_roundw
    case rel=>exact⟨i+1,by omega,by go_num,HNX.out,HB5.out⟩
    case measure=>simp[intOf];omega
   ·have HR0:=hid hr0
    have HDR:Hid (∀n,Below w.heap.size w (w5.drewN n)):=by show ∀n,_;exact λn=>below_drewN HB5.out n
    go_wp2_with fail
    go_quiet (fail)
    all_goals go_wp2
    all_goals go_ret2
    all_goals exact⟨⟨_,_,rfl,.inl ⟨i,x,HX.out,HOK.out,HR.out,HR0.out,rfl⟩⟩,HDR.out _⟩
  ·have hi1:¬(i:Int)<(xs.length:Int):=by omega
   have HALL:Hid (OkTo xs xs.length):=by show OkTo _ _;rw[show xs.length=i by omega];exact hok
   clear hok hbr
   by_cases h40:(40:Int)<(xs.length:Int)
   ·go_wp2
    go_ret2
    exact⟨⟨_,_,rfl,.inr (.inl ⟨HALL.out,h40,rfl,rfl⟩)⟩,HBR.out⟩
   have H40:Hid ((xs.length:Int)<=40):=hid (by omega)
   go_wp2_with fail
   go_loopw [6] (λiv wr=>∃i:Nat,i<=xs.length/\iv = .int .i64 (i:Int)/\Zcca xs i/\Below w.heap.size w wr) (λiv _=>xs.length-(intOf iv).toNat)
   case atStart=>exact⟨0,Nat.zero_le _,rfl,λa x ha=>absurd ha (by omega),HBR.out⟩
   case round=>
    obtain⟨i,hi,rfl,hon,hbr⟩:=hrel;obtain⟨WR,hWR⟩:∃V,wr=V:=⟨_,rfl⟩;rw[hWR]at hbr⊢;clear hWR HBR;have HON:=hid hon;have HBR:=hid hbr
    by_cases hlt:i<xs.length
    ·obtain⟨x,hx⟩:∃x,xs[i]? =some x:=⟨xs[i],List.getElem?_eq_getElem hlt⟩
     obtain⟨b,o,p1,q1,p2,q2,p3,q3,p4,q4,hab,_,hcs,hou,_⟩:=HRU.out i x hx;obtain⟨y0,y1,y2,y3,y4⟩:=hcs _ hbr;have HCS:=hid hcs;have HOU:=hid hou;have HX:=hid hx;have hsl:=(HSH.out i x hx).1;have hi1:(i:Int)<(xs.length:Int):=by omega
     have hi0:(0:Int)<=(i:Int):=by omega
     have CA:=hid (CAT.out x.name WR hbr);subst hab;clear hon hbr hcs hx hou
     go_wp2_with fail
     refine CA.out.mono ?_;rintro e w5 ⟨⟨r,rfl,hr,hr0,hr1⟩,rfl⟩;have HD:Hid (decide (r<(i:Int))=true↔(Zoi (xs.map (·.name)) x.name<(i:Int)∨∃o∈x.outs.take 0,Zcfo xs o<(i:Int))):=by
      show _↔_;rw[hr];simp
     obtain⟨bd,hbd⟩:∃bd,decide (r<(i:Int))=bd:=⟨_,rfl⟩;rw[hbd]at HD;clear hr hr0 hr1
     go_wp2_with fail
     go_loopw [7,57] (λbv jv wr=>∃(bb:Bool) (j:Nat),bv = .bool bb/\jv = .int .i64 (j:Int)/\j<=x.outs.length/\(bb=true↔(Zoi (xs.map (·.name)) x.name<(i:Int)∨∃o∈x.outs.take j,Zcfo xs o<(i:Int)))/\Below w.heap.size w wr) (λ_ jv _=>x.outs.length-(intOf jv).toNat)
     case atStart=>exact⟨bd,0,rfl,rfl,by omega,HD.out,HBR.out⟩
     case round=>
      obtain⟨bb,j,rfl,rfl,hj,hbb,hbj⟩:=hrel;obtain⟨WJ,hWJ⟩:∃V,wr=V:=⟨_,rfl⟩;rw[hWJ]at hbj⊢;clear hWJ y0 y1 y2 y3 y4;have HBJ:=hid hbj;have HBB:=hid hbb;obtain⟨y0,y1,y2,y3,y4⟩:=HCS.out _ hbj;clear hbb
      by_cases hjl:j<x.outs.length
      ·obtain⟨s,hs⟩:∃s,x.outs[j]? =some s:=⟨x.outs[j],List.getElem?_eq_getElem hjl⟩
       obtain⟨sb,so,hsb,hsc⟩:=HOU.out j s hs;have z0:=hsc _ hbj;subst hsb;have hj1:(j:Int)<(x.outs.length:Int):=by omega
       have hj0:(0:Int)<=(j:Int):=by omega
       have CM:=hid (CMK.out s WJ hbj);have HTK:Hid (∀P:ByteArray->Prop,(∃o∈x.outs.take (j+1),P o)↔(∃o∈x.outs.take j,P o)∨P s):=by
        show ∀P:ByteArray->Prop,_;intro P;rw[List.take_add_one,hs];simp only[Option.toList_some,List.mem_append,List.mem_singleton];constructor
        ·rintro⟨o,h|h,hp⟩
         ·exact .inl ⟨o,h,hp⟩
         ·exact .inr (h▸hp)
        ·rintro(⟨o,h,hp⟩|h)
         ·exact⟨o,.inl h,hp⟩
         ·exact⟨s,.inr rfl,h⟩
       clear hsc hs hbj
       cases bb
       ·go_wp2_with fail
        refine CM.out.mono ?_;rintro e w7 ⟨⟨r2,rfl,hr2,hr0,hr1⟩,rfl⟩;have HNB:Hid (decide (r2<(i:Int))=true↔(Zoi (xs.map (·.name)) x.name<(i:Int)∨∃o∈x.outs.take (j+1),Zcfo xs o<(i:Int))):=by
         show _↔_;have h1:¬(Zoi (xs.map (·.name)) x.name<(i:Int)∨∃o∈x.outs.take j,Zcfo xs o<(i:Int)):=λh=>absurd (HBB.out.2 h) (by decide)
         rw[HTK.out,hr2,decide_eq_true_iff];constructor
         ·exact λh=> .inr (.inr h)
         ·rintro(h|h|h)
          ·exact(h1 (.inl h)).elim
          ·exact(h1 (.inr h)).elim
          ·exact h
        clear hr2;go_wp2;go_roundw
        case rel=>exact⟨_,j+1,rfl,by go_num,by omega,HNB.out,HBJ.out⟩
        case measure=>simp[intOf];omega
       ·go_wp2
        go_roundw
        case rel=>exact⟨true,j+1,rfl,by go_num,by omega,⟨λ_=>(HBB.out.1 (by trivial)).elim .inl (λh=> .inr ((HTK.out _).2 (.inl h))),λ_=>by trivial⟩,HBJ.out⟩
        case measure=>simp[intOf];omega
      ·have hj1:¬(j:Int)<(x.outs.length:Int):=by omega
       have HDR:Hid (∀n,Below w.heap.size w (WJ.drewN n)):=by show ∀n,_;exact λn=>below_drewN HBJ.out n
       clear hbj;have HALLJ:Hid (x.outs.take j=x.outs):=hid (List.take_of_length_le (by omega))
       cases bb
       ·have HFN:Hid (Zcca xs (i+1)):=hid (Zchj (P:=λj y=>¬BadN xs j y) HON.out HX.out (λh=>absurd (HBB.out.2 (by rw[HALLJ.out];exact h)) (by decide)))
        go_wp2;go_roundw
        case rel=>exact⟨i+1,by omega,by go_num,HFN.out,HBJ.out⟩
        case measure=>simp[intOf];omega
       ·have HBD:Hid (BadN xs i x):=by show BadN _ _ _;have:=HBB.out.1 (by trivial);rw[HALLJ.out]at this;exact this
        go_wp2_with fail
        go_quiet (fail)
        all_goals go_wp2
        all_goals go_ret2
        all_goals exact⟨⟨_,_,rfl,.inr (.inr (.inl ⟨HALL.out,H40.out,i,x,HX.out,HON.out,HBD.out,rfl,rfl⟩))⟩,HDR.out _⟩
    ·have hi1:¬(i:Int)<(xs.length:Int):=by omega
     have HONE:Hid (Zcca xs xs.length):=by show Zcca _ _;rw[show xs.length=i by omega];exact hon
     clear hon hbr
     go_wp2_with fail
     go_loopw [10] (λiv wr=>∃i:Nat,i<=xs.length/\iv = .int .i64 (i:Int)/\Zccb xs i/\Below w.heap.size w wr) (λiv _=>xs.length-(intOf iv).toNat)
     case atStart=>exact⟨0,Nat.zero_le _,rfl,λa x ha=>absurd ha (by omega),HBR.out⟩
     case round=>
      obtain⟨i,hi,rfl,hfo,hbr⟩:=hrel;have HFO:=hid hfo;clear hfo;obtain⟨WR,hWR⟩:∃V,wr=V:=⟨_,rfl⟩;rw[hWR]at hbr⊢;clear hWR HBR;have HBR:=hid hbr
      by_cases hlt:i<xs.length
      ·obtain⟨x,hx⟩:∃x,xs[i]? =some x:=⟨xs[i],List.getElem?_eq_getElem hlt⟩
       obtain⟨b,o,p1,q1,p2,q2,p3,q3,p4,q4,hab,_,hcs,_,haf⟩:=HRU.out i x hx;obtain⟨y0,y1,y2,y3,y4⟩:=hcs _ hbr;have HX:=hid hx;have HCS:=hid hcs;have HAF:=hid haf;have hsl:=(HSH.out i x hx).2;have hi1:(i:Int)<(xs.length:Int):=by omega
       have hi0:(0:Int)<=(i:Int):=by omega
       subst hab;clear hbr hcs hx haf
       go_wp2_with fail
       go_loopw [88] (λjv wr=>∃j:Nat,jv = .int .i64 (j:Int)/\j<=x.after.length/\(∀a∈x.after.take j,0<=Zoi (xs.map (·.name)) a)/\Below w.heap.size w wr) (λjv _=>x.after.length-(intOf jv).toNat)
       case atStart=>exact⟨0,rfl,by omega,λa ha=>by simp at ha,HBR.out⟩
       case round=>
        obtain⟨j,rfl,hj,haf,hbj⟩:=hrel;have HAL:=hid haf;clear haf;obtain⟨WJ,hWJ⟩:∃V,wr=V:=⟨_,rfl⟩;rw[hWJ]at hbj⊢;clear hWJ y0 y1 y2 y3 y4;have HBJ:=hid hbj;obtain⟨y0,y1,y2,y3,y4⟩:=HCS.out _ hbj
        by_cases hjl:j<x.after.length
        ·obtain⟨s,hs⟩:∃s,x.after[j]? =some s:=⟨x.after[j],List.getElem?_eq_getElem hjl⟩
         obtain⟨sb,so,hsb,hsc⟩:=HAF.out j s hs;have z0:=hsc _ hbj;subst hsb;have hj1:(j:Int)<(x.after.length:Int):=by omega
         have hj0:(0:Int)<=(j:Int):=by omega
         have CA:=hid (CAT.out s WJ hbj);have HDR:Hid (∀n,Below w.heap.size w (WJ.drewN n)):=by show ∀n,_;exact λn=>below_drewN HBJ.out n
         have HSJ:=hid hs;clear hsc hs hbj
         go_wp2_with fail
         refine CA.out.mono ?_;rintro e w7 ⟨⟨r2,rfl,hr2,hr0,hr1⟩,rfl⟩;have HR2:=hid hr2;clear hr1 hr2
         by_cases hneg:r2<0
         ·have HLO:Hid (Zccc xs x):=hid ⟨s,List.mem_of_getElem? HSJ.out,by rw[HR2.out];exact hneg⟩
          go_wp2_with fail
          go_quiet (fail)
          all_goals go_wp2
          all_goals go_ret2
          all_goals exact⟨⟨_,_,rfl,.inr (.inr (.inr (.inl ⟨HALL.out,H40.out,HONE.out,i,x,HX.out,HFO.out,HLO.out,rfl,rfl⟩)))⟩,HDR.out _⟩
         ·have HAN:Hid (∀a∈x.after.take (j+1),0<=Zoi (xs.map (·.name)) a):=by
           show ∀a∈_,_;intro a ha;rw[List.take_add_one,HSJ.out]at ha
           rcases List.mem_append.1 ha with ha|ha
           ·exact HAL.out a ha
           ·have:a=s:=by simpa using ha
            rw[this,HR2.out];omega
          go_wp2;go_roundw
          case rel=>exact⟨j+1,by go_num,by omega,HAN.out,HBJ.out⟩
          case measure=>simp[intOf];omega
        ·have hj1:¬(j:Int)<(x.after.length:Int):=by omega
         clear hbj;go_wp2;go_roundw
         case rel=>exact⟨i+1,by omega,by go_num,Zchj (P:=λ_ y=>¬Zccc xs y) HFO.out HX.out (λ⟨a,ha,hl⟩=>by have:=HAL.out a (by rw[List.take_of_length_le (by omega)];exact ha);omega),HBJ.out⟩
         case measure=>simp[intOf];omega
      ·have hi1:¬(i:Int)<(xs.length:Int):=by omega
       have HFA:Hid (Zccb xs xs.length):=by show Zccb _ _;rw[show xs.length=i by omega];exact HFO.out
       have CY:=hid (CCY.out _ hbr);obtain⟨nms,hnms⟩:∃l,Zcdi xs=l:=⟨_,rfl⟩;have HNMS:=hid hnms;rw[hnms]at CY;clear hnms;clear hbr
       go_wp2_with fail
       refine CY.out.mono ?_;rintro e w8 ⟨⟨ca,cn,cc,rfl,hnm⟩,hb8⟩;obtain⟨ca',cc',q,_,hcm,hcell⟩:=Zua hnm;injection q with q1 q2 q3
       subst q1 q2 q3;have HB8:=hid (HBR.out.trans (hb8.mono HBR.out.size));have HDR:Hid (∀n,Below w.heap.size w (w8.drewN n)):=by show ∀n,_;exact λn=>below_drewN HB8.out n
       unfold maxLen at hcm;clear hnm hb8
       by_cases hpos:0<nms.length
       ·obtain⟨s,hs⟩:∃s,nms[0]? =some s:=⟨nms[0],List.getElem?_eq_getElem hpos⟩
        obtain⟨sb,so,hsb,hsc⟩:=hcell 0 s hs;have z0:=hsc _ (Below.refl _ _);rw[Nat.add_zero]at z0;subst hsb;have HHD:Hid (∃r,Zcdi xs=s::r):=by
         show ∃r,_;rw[HNMS.out]
         cases nms with
         | nil=>simp at hs
         | cons a r=>simp at hs;exact⟨r,by rw[hs]⟩
        have hp1:(0:Int)<(nms.length:Int):=by omega
        clear hsc hs hcell
        go_wp2_with fail
        go_quiet (fail)
        all_goals go_wp2
        all_goals go_ret2
        all_goals exact⟨⟨_,_,rfl,.inr (.inr (.inr (.inr (.inl ⟨HALL.out,H40.out,HONE.out,HFA.out,HHD.out,rfl⟩))))⟩,HDR.out _⟩
       ·have hp1:¬(0:Int)<(nms.length:Int):=by omega
        have HNIL:Hid (Zcdi xs = []):=by show _=_;rw[HNMS.out];exact List.eq_nil_of_length_eq_zero (by omega)
        clear hcell;go_wp2
        go_ret2
        exact⟨⟨_,_,rfl,.inr (.inr (.inr (.inr (.inr ⟨HALL.out,H40.out,HONE.out,HFA.out,HNIL.out,rfl,rfl⟩))))⟩,HB8.out⟩
end Go.Proofs.YtokogjhcidkckaaGreatDoor
