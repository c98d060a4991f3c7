import Derived.Test.YtphjfaoghphleaaGreatDoorMbd
set_option maxRecDepth 100000
set_option maxHeartbeats 16000000
namespace Go.Proofs.YtphjfaoghphleaaGreatDoor
open Go.Lib (hid)
open Go.Proofs.Tryz Go.RowKit Go.Shelf
theorem MatX.fix {B:Nat} {w:World} {g n:Nat} {M:Nat->Nat->Bool} (h:MatX B w g n n M):∃v y,∀w',Below w.heap.size w w'->MatF w' g n v y M:=by
 have u:=h.mat.lt;have s:∀i:Nat,∃x:Nat×Nat,i<n->w.cell? ⟨g,i,none⟩=some (.slice (some ⟨x.1,0,none⟩) n x.2)/\n<=x.2/\x.2<=9223372036854775807/\x.1<w.heap.size/\∀k<n,w.cell? ⟨x.1,k,none⟩=some (.bool (M i k)):=by
  intro i
  by_cases a:i<n
  ·obtain⟨b,c,e,d,j,_,m,_⟩:=h.cell a
   exact⟨(b,c),λ_=>⟨e,d,by unfold maxLen at j;omega,m.lt,λk l=>(m.cell l).1⟩⟩
  ·exact⟨(0,0),λh=>absurd h a⟩
 obtain⟨f,t⟩:=Classical.skolem.1 s;refine⟨λi=>(f i).1,λi=>(f i).2,λw' o i a=>?_⟩;obtain⟨e,d,j,q,r⟩:=t i a;exact⟨(o.cell (p:=⟨g,i,none⟩) u).trans e,d,j,λk l=>(o.cell (p:=⟨(f i).1,k,none⟩) q).trans (r k l)⟩
theorem FarI.congr {w:World} {g n:Nat} {F G:Nat->Int} (h:FarI w g n F) (e:∀k<n,F k=G k):FarI w g n G:=by
 obtain⟨a,c,d,f⟩:=h;exact⟨a,c,d,λk b=>by rw[<-e k b];exact f k b⟩
def CycX (T:List ByteArray) (w':World) (e:Ending):Prop:=∃a n c,e = .returned (.slice a n c)/\IsStrs w' (.slice a n c) T
theorem Zccw (v:Value) (xs:List RuleS) (w:World) (h:RulesI w v xs) (hn:xs.length<=1000):
  Calls prog 49 #[v] w λe w'=>CycX (Zcdi xs) w' e/\Below w.heap.size w w':=by
 have HI:=hid h;obtain⟨a1,c1,rfl,_,bM,bf⟩:=Zcgz h;obtain⟨n,K⟩:∃n,xs.length=n:=⟨_,rfl⟩;have P:=hid K;have CN:=hid (Zccz _ xs w h hn);have CC:Hid (∀g B w',MatX B w' g n n (Zcfw xs)->Calls prog 85 #[.slice (some ⟨g,0,none⟩) n n] w' λe bu=>(∃g',e = .returned (.slice (some ⟨g',0,none⟩) n n)/\MatX w'.heap.size bu g' n n (fwK (Zcfw xs) n))/\Below w'.heap.size w' bu):=by
  show ∀g B w',_;exact λg B w' hm=>Zccv g n B _ w' hm (by omega)
 have af:Hid (Zced (fwK (Zcfw xs) n) (nmK xs) n<0->Zcdi xs = []):=by show _->_;exact Zcdk K
 have ag:Hid (∀f:Nat,(f:Int)=Zced (fwK (Zcfw xs) n) (nmK xs) n->Zcdi xs=nmK xs f::Zcgm (Zcfw xs) (nmK xs) (farD (Zcfw xs) (far0 f) n n) n (Zccl (Zcfw xs) f (farD (Zcfw xs) (far0 f) n n) n-1).toNat f):=by show ∀f:Nat,_;exact λf=>Zcdj K
 have a8:Hid (∀k,k<n->∃b o x,a1=some ⟨b,o,none⟩/\∀w',Below w.heap.size w w'->w'.cell? ⟨b,o+k*5,none⟩=some (.string x)/\nmK xs k=x):=by
  show ∀k,_;intro k hk;obtain⟨x,hx⟩:∃x,xs[k]? =some x:=⟨xs[k]'(by omega),List.getElem?_eq_getElem _⟩;obtain⟨b,o,_,_,_,_,_,_,_,_,ha,_,hc⟩:=bf k x hx;exact⟨b,o,x.name,ha,λw' hw=>⟨(hc w' hw).1,by unfold nmK;rw[hx]⟩⟩
 rw[K]at hn CN;rw[K];have cc:=Zcfm n hn;unfold maxLen at bM;rw[K]at *;clear h bf K HI P;obtain⟨M,aX⟩:∃M,Zcfw xs=M:=⟨_,rfl⟩;rw[aX]at CN CC af ag;obtain⟨C,aU⟩:∃C,fwK M n=C:=⟨_,rfl⟩;rw[aU]at CC af ag;obtain⟨NM,aY⟩:∃N,nmK xs=N:=⟨_,rfl⟩;rw[aY]at af ag a8;obtain⟨T,hT⟩:∃T,Zcdi xs=T:=⟨_,rfl⟩;rw[hT]at af ag⊢;clear aX aU aY hT
 go_enter func49,ntmps49
 go_wp2_with fail
 refine CN.out.mono ?_;rintro e w1 ⟨⟨gm,rfl,al⟩,aC⟩;have a3:=hid aC;have a7:=hid al;clear aC al
 go_wp2_with fail
 refine(CC.out _ _ _ a7.out).mono ?_;rintro e A ⟨⟨gc,rfl,am⟩,aD⟩;have aa:=hid (a3.out.trans (aD.mono a3.out.size));obtain⟨rm,sm,hM⟩:=(a7.out.below aD).fix;obtain⟨rc,sc,hC⟩:=am.fix;have HM:=hid hM;have HC:=hid hC;have HN:Hid (∀k,k<n->∃b o x,a1=some ⟨b,o,none⟩/\∀w',Below A.heap.size A w'->w'.cell? ⟨b,o+k*5,none⟩=some (.string x)/\NM k=x):=by
  show ∀k,_;intro k hk;obtain⟨b,o,x,ha,hc⟩:=a8.out k hk;exact⟨b,o,x,ha,λw' hw=>hc w' (aa.out.trans (hw.mono aa.out.size))⟩
 clear aD am hM hC a7 CN CC a8 a3
 go_wp2_with fail
 go_loopw [5,6] (λfv iv wr=>∃(f:Int) (i:Nat),fv = .int .i64 f/\iv = .int .i64 (i:Int)/\i<=n/\-1<=f/\f<(n:Int)/\Below A.heap.size A wr/\f=Zced C NM i) (λ_ iv _=>n-(intOf iv).toNat)
 case atStart=>exact⟨-1,0,rfl,rfl,by omega,by omega,by omega,Below.refl _ _,rfl⟩
 case round=>
  obtain⟨f,i,rfl,rfl,hi,bX,bY,ah,Z⟩:=hrel;have ad:=hid Z;clear Z;obtain⟨U,bb⟩:∃V,wr=V:=⟨_,rfl⟩;rw[bb]at ah⊢;clear bb;have ac:=hid ah
  by_cases ak:i<n
  ·have aI:(i:Int)<(n:Int):=by omega
   have bK:(0:Int)<=(i:Int):=by omega
   obtain⟨e1,e2,e3,e4⟩:=HC.out _ ah i ak;have e5:=e4 i ak;obtain⟨x,hx⟩:∃x,C i i=x:=⟨_,rfl⟩;have aA:=hid hx;rw[hx]at e5;obtain⟨b,o,nm,a,m⟩:=HN.out i ak;have aq:=hid (m _ (Below.refl _ _)).2;have e6:=(m _ ah).1;subst a;have J:Hid (∀k,Below A.heap.size A (U.drewN k)):=by show ∀k,_;exact λk=>below_drewN ac.out k
   clear ah e4 hx m
   cases x
   ·go_wp2_with fail
    go_quiet (fail)
    all_goals go_wp2
    all_goals go_roundw
    case rel=>exact⟨f,i+1,rfl,by go_num,by omega,by omega,by omega,J.out _,Zceh ad.out aA.out⟩
    case measure=>simp[intOf];omega
   ·by_cases c:f<0
    ·have hd:decide (f<0)=true:=decide_eq_true c
     go_wp2_with fail
     go_quiet (fail)
     all_goals go_wp2
     all_goals go_roundw
     case rel=>exact⟨i,i+1,rfl,by go_num,by omega,by omega,by omega,J.out _,Zceg ad.out aA.out (by omega)⟩
     case measure=>simp[intOf];omega
    ·obtain⟨s,rfl⟩:∃s:Nat,f=(s:Int):=⟨f.toNat,by omega⟩
     have hd:decide ((s:Int)<0)=false:=decide_eq_false c;obtain⟨b',o',nf,a,D⟩:=HN.out s (by omega);injection a with a
     injection a with q1 q2
     subst q1 q2;have ae:=hid (D _ (Below.refl _ _)).2;have e7:=(D _ ac.out).1;have bG:(0:Int)<=(s:Int):=by omega
     obtain⟨q,hq⟩:∃q,Op.bytesLess nm.toList nf.toList=q:=⟨_,rfl⟩;have HQ:=hid hq;clear D
     cases q
     ·go_wp2_with fail
      go_quiet (fail)
      all_goals go_wp2
      all_goals go_roundw
      case rel=>exact⟨s,i+1,rfl,by go_num,by omega,by omega,by omega,J.out _,Zcef ad.out (by rw[aq.out,ae.out];exact HQ.out)⟩
      case measure=>simp[intOf];omega
     ·go_wp2_with fail
      go_quiet (fail)
      all_goals go_wp2
      all_goals go_roundw
      case rel=>exact⟨i,i+1,rfl,by go_num,by omega,by omega,by omega,J.out _,Zcee ad.out aA.out (by rw[aq.out,ae.out];exact HQ.out)⟩
      case measure=>simp[intOf];omega
  ·have aI:¬(i:Int)<(n:Int):=by omega
   clear ah
   by_cases c:f<0
   ·have bC:Hid (T = []):=hid (af.out (by rw[show n=i by omega,<-ad.out];exact c))
    go_wp2;go_ret;exact⟨⟨none,0,0,rfl,by rw[bC.out];exact(Zbdk 0 _).strsA.isStrs⟩,aa.out.trans (ac.out.mono aa.out.size)⟩
   ·obtain⟨s,rfl⟩:∃s:Nat,f=(s:Int):=⟨f.toNat,by omega⟩
    have a9:=hid (ag.out s (by rw[show n=i by omega];exact ad.out));clear ag af;have bG:(0:Int)<=(s:Int):=by omega
    have Z:s<n:=by omega
    have bZ:(1:Int)<=(n:Int):=by omega
    have HG:=hid ac.out.size;have b2:Hid (FarI (U.alloc (.cells (madeCells #[.int .i64 0] n) 3)) U.heap.size n (λ_=>0)):=hid Zcdl;have bw:Hid (Below A.heap.size A (U.alloc (.cells (madeCells #[.int .i64 0] n) 3))):=hid (ac.out.alloc ac.out.size _)
    go_wp2_with fail
    go_loopw [61] (λiv wr=>∃(F:Nat->Int) (i:Nat),iv = .int .i64 (i:Int)/\i<=n/\FarI wr U.heap.size n F/\(∀k<i,F k = -1)/\Below A.heap.size A wr) (λiv _=>n-(intOf iv).toNat)
    case atStart=>exact⟨_,0,rfl,by omega,b2.out,λk hk=>absurd hk (by omega),bw.out⟩
    case round=>
     obtain⟨F,i,rfl,hi,y,hz,z⟩:=hrel;have H:=hid y;have HZ:=hid hz;have E:=hid z
     by_cases ak:i<n
     ·obtain⟨e1,e2⟩:=y.cell ak
      have aI:(i:Int)<(n:Int):=by omega
      have bK:(0:Int)<=(i:Int):=by omega
      clear y hz z;go_wp2;go_roundw
      case rel=>exact⟨_,i+1,by go_num,by omega,H.out.set (-1),λk hk=>by
       show(if k=i then(-1:Int)else F k) = -1
       by_cases e:k=i
       ·rw[if_pos e]
       ·rw[if_neg e];exact HZ.out k (by omega),E.out.setCell HG.out _⟩
      case measure=>simp[intOf];omega
     ·obtain rfl:i=n:=by omega
      have aI:¬(i:Int)<(i:Int):=by omega
      obtain⟨e1,e2⟩:=y.cell Z;have a4:Hid (FarI (wr.setCell ⟨U.heap.size,s,none⟩ (.int .i64 0)) U.heap.size i (far0 s)):=hid ((y.set 0).congr (λk hk=>by unfold far0;by_cases e:k=s<;>simp[e,HZ.out k hk]));have aO:Hid (Below A.heap.size A (wr.setCell ⟨U.heap.size,s,none⟩ (.int .i64 0))):=hid (z.setCell HG.out _);have aP:Hid (FarOk i M (far0 s)):=by
       show FarOk _ _ _;intro k hk;unfold far0
       by_cases e:k=s
       ·simp only[if_pos e];exact⟨by omega,by omega,λh=>absurd h (by omega)⟩
       ·simp only[if_neg e];exact⟨by omega,by omega,λh=>absurd h (by omega)⟩
      clear y hz z
      go_upto_region 18 with fail
      obtain⟨W5,aZ⟩:∃V,wr.setCell ⟨U.heap.size,s,none⟩ (.int .i64 0)=V:=⟨_,rfl⟩;rw[aZ]at a4 aO⊢;clear aZ e1 e2;obtain⟨F0,aV⟩:∃G:Nat->Int,far0 s=G:=⟨_,rfl⟩;rw[aV]at a4 aP a9;clear aV H HZ E
      go_wp2_with fail
      go_loopw [9] (λdv wr=>∃(F:Nat->Int) (d:Nat),dv = .int .i64 (d:Int)/\1<=d/\d<=i+1/\FarI wr U.heap.size i F/\FarOk i M F/\Below A.heap.size A wr/\F=farD M F0 i (d-1)) (λdv _=>i+1-(intOf dv).toNat)
      case atStart=>exact⟨_,1,rfl,by omega,by omega,a4.out,aP.out,aO.out,rfl⟩
      case round=>
       obtain⟨F1,d,rfl,bD,bV,y,hK,z,bh⟩:=hrel;have a5:=hid bh;clear bh;have H:=hid y;have HK:=hid hK;have E:=hid z
       by_cases bW:d<=i
       ·have bE:(d:Int)<=(i:Int):=by omega
        have HD:=hid bD;clear y hK z
        go_wp2_with fail
        go_loopw [10] (λpv wr=>∃(F:Nat->Int) (p:Nat),pv = .int .i64 (p:Int)/\p<=i/\FarI wr U.heap.size i F/\FarOk i M F/\Below A.heap.size A wr/\F=farP M (d:Int) F1 i p) (λpv _=>i-(intOf pv).toNat)
        case atStart=>exact⟨_,0,rfl,by omega,H.out,HK.out,E.out,rfl⟩
        case round=>
         obtain⟨F2,p,rfl,hp,y,hK,z,bi⟩:=hrel;have a6:=hid bi;clear bi;have H:=hid y;have HK:=hid hK;have E:=hid z;clear y hK z
         by_cases bn:p<i
         ·have bm:(p:Int)<(i:Int):=by omega
          have bO:(0:Int)<=(p:Int):=by omega
          go_wp2_with fail
          go_loopw [11] (λqv wr=>∃(F:Nat->Int) (q:Nat),qv = .int .i64 (q:Int)/\q<=i/\FarI wr U.heap.size i F/\FarOk i M F/\Below A.heap.size A wr/\F=farQ M (d:Int) p F2 q) (λqv _=>i-(intOf qv).toNat)
          case atStart=>exact⟨_,0,rfl,by omega,H.out,HK.out,E.out,rfl⟩
          case round=>
           obtain⟨F,q,rfl,hq,y,hK,z,bj⟩:=hrel;have aj:=hid bj;clear bj;have H:=hid y;have HK:=hid hK;have E:=hid z
           by_cases an:q<i
           ·have bP:(q:Int)<(i:Int):=by omega
            have cg:(0:Int)<=(q:Int):=by omega
            have bH:decide (q<i)=true:=decide_eq_true an;obtain⟨y1,y2⟩:=y.cell bn;obtain⟨y3,_⟩:=y.cell an;obtain⟨u,hu⟩:∃u,F p=u:=⟨_,rfl⟩;obtain⟨t,ht⟩:∃t,F q=t:=⟨_,rfl⟩;rw[hu]at y1;rw[ht]at y3;obtain⟨z1,z2,z3,z4⟩:=HM.out _ z p bn;have z5:=z4 q an;obtain⟨x,hx⟩:∃x,M p q=x:=⟨_,rfl⟩;rw[hx]at z5;have HU:=hid hu;have X:=hid ht;have HX:=hid hx;have bt:IntKind.i64.wrap ((d:Int)-1)=(d:Int)-1:=IntWalk.i64_in _ (by omega);clear y hK z z4 hu ht hx
            by_cases ao:u<0
            ·have aF:decide (u<0)=true:=decide_eq_true ao
             cases x
             ·go_wp2
              go_roundw
              case rel=>exact⟨F,q+1,by go_num,by omega,H.out,HK.out,E.out,Zcdt aj.out (.inl HX.out)⟩
              case measure=>simp[intOf];omega
             ·by_cases ay:t=(d:Int)-1
              ·have HS:Hid (FarOk i M (λj=>if j=p then(d:Int)else F j)):=hid (HK.out.set an (by rw[HU.out];exact ao) HX.out (by rw[X.out];exact ay) (by have:=HD.out;omega) (by omega))
               have aR:=hid ay;subst ay;go_wp2;go_roundw
               case rel=>exact⟨_,q+1,by go_num,by omega,H.out.set _,HS.out,E.out.setCell HG.out _,Zcdw aj.out (by rw[HU.out];exact ao) HX.out X.out⟩
               case measure=>simp[intOf];omega
              ·have aR:=hid ay
               go_wp2;go_roundw
               case rel=>exact⟨F,q+1,by go_num,by omega,H.out,HK.out,E.out,Zcdt aj.out (.inr (by rw[X.out];exact aR.out))⟩
               case measure=>simp[intOf];omega
            ·have aF:decide (u<0)=false:=decide_eq_false ao
             go_wp2;go_roundw
             case rel=>exact⟨F,p+1,by go_num,by omega,H.out,HK.out,E.out,Zcdr aj.out a6.out (by rw[HU.out];exact ao) hq⟩
             case measure=>simp[intOf];omega
           ·have bP:¬(q:Int)<(i:Int):=by omega
            have bH:decide (q<i)=false:=decide_eq_false an;clear y hK z;go_wp2;go_roundw
            case rel=>exact⟨F,p+1,by go_num,by omega,H.out,HK.out,E.out,Zcds aj.out a6.out (by omega)⟩
            case measure=>simp[intOf];omega
         ·have bm:¬(p:Int)<(i:Int):=by omega
          go_wp2;go_roundw
          case rel=>exact⟨F2,d+1,by go_num,by omega,by omega,H.out,HK.out,E.out,Zcdp a6.out a5.out (by omega) HD.out⟩
          case measure=>simp[intOf];omega
       ·have bE:¬(d:Int)<=(i:Int):=by omega
        rw[<-show F1=farD M F0 i i by have:=a5.out;rw[show d-1=i by omega]at this;exact this]at a9;clear y hK z a5
        go_wp2_with fail
        go_loopw [12,13] (λbv kv wr=>∃(O:Int) (k:Nat),bv = .int .i64 O/\kv = .int .i64 (k:Int)/\k<=i/\0<=O/\O<=(i:Int)+1/\(0<O->∃l<i,M s l=true/\F1 l=O-1)/\FarI wr U.heap.size i F1/\Below A.heap.size A wr/\O=Zccl M s F1 k) (λ_ kv _=>i-(intOf kv).toNat)
        case atStart=>exact⟨0,0,rfl,rfl,by omega,by omega,by omega,λh=>absurd h (by omega),H.out,E.out,rfl⟩
        case round=>
         obtain⟨O,k,rfl,rfl,hk,bU,aC,aE,y,z,bc⟩:=hrel;have ab:=hid bc;clear bc;have H:=hid y;have E:=hid z;have ap:=hid aE
         by_cases R:k<i
         ·have aJ:(k:Int)<(i:Int):=by omega
          have bL:(0:Int)<=(k:Int):=by omega
          have bg:(s:Int)<(i:Int):=by omega
          obtain⟨y3,_⟩:=y.cell R;obtain⟨t,ht⟩:∃t,F1 k=t:=⟨_,rfl⟩;rw[ht]at y3;obtain⟨z1,z2,z3,z4⟩:=HM.out _ z s Z;have z5:=z4 k R;obtain⟨x,hx⟩:∃x,M s k=x:=⟨_,rfl⟩;rw[hx]at z5;have X:=hid ht;have HX:=hid hx;obtain⟨bQ,bR,_⟩:=HK.out k R;rw[ht]at bQ bR;have bt:IntKind.i64.wrap (t+1)=t+1:=IntWalk.i64_in _ (by omega);clear y z z4 ht hx aE
          cases x
          ·go_wp2
           go_roundw
           case rel=>exact⟨O,k+1,rfl,by go_num,by omega,by omega,by omega,ap.out,H.out,E.out,Zccm ab.out (.inl HX.out)⟩
           case measure=>simp[intOf];omega
          ·by_cases bq:0<=t
           ·have aF:decide (0<=t)=true:=decide_eq_true bq
            have I:Hid (0<t+1->∃l<i,M s l=true/\F1 l=t+1-1):=by show 0<t+1->_;exact λ_=>⟨k,R,HX.out,by rw[X.out];omega⟩
            by_cases bd:O=0
            ·have bI:(O==0)=true:=by rw[bd];rfl
             go_wp2;go_roundw
             case rel=>exact⟨t+1,k+1,by go_num,by go_num,by omega,by omega,by omega,I.out,H.out,E.out,Zcco ab.out HX.out X.out (by omega) (.inl (by omega))⟩
             case measure=>simp[intOf];omega
            ·have bI:(O==0)=false:=by simpa using bd
             by_cases ch:t+1<O
             ·go_wp2
              go_roundw
              case rel=>exact⟨t+1,k+1,by go_num,by go_num,by omega,by omega,by omega,I.out,H.out,E.out,Zcco ab.out HX.out X.out (by omega) (.inr (by omega))⟩
              case measure=>simp[intOf];omega
             ·go_wp2
              go_roundw
              case rel=>exact⟨O,k+1,rfl,by go_num,by omega,by omega,by omega,ap.out,H.out,E.out,Zccm ab.out (.inr (.inr ⟨by omega,by rw[X.out];omega⟩))⟩
              case measure=>simp[intOf];omega
           ·have aF:decide (0<=t)=false:=decide_eq_false bq
            go_wp2;go_roundw
            case rel=>exact⟨O,k+1,rfl,by go_num,by omega,by omega,by omega,ap.out,H.out,E.out,Zccm ab.out (.inr (.inl (by rw[X.out];omega)))⟩
            case measure=>simp[intOf];omega
         ·have aJ:¬(k:Int)<(i:Int):=by omega
          have bg:(s:Int)<(i:Int):=by omega
          obtain⟨b,o,nm,a,m⟩:=HN.out s Z;have aq:=hid (m _ (Below.refl _ _)).2;have bB:Hid ([nm]++Zcgm M NM F1 i (O-1).toNat s=T):=by show _=T;rw[a9.out,aq.out,ab.out,show k=i by omega];rfl
          have e6:=(m _ z).1;subst a;have bt:IntKind.i64.wrap (O-1)=O-1:=IntWalk.i64_in _ (by omega);have b3:Hid (FarI (wr.alloc (.cells #[.string nm] 9)) U.heap.size i F1):=hid (y.below ((Below.refl _ _).alloc (Nat.le_refl _) _));have bx:Hid (Below A.heap.size A (wr.alloc (.cells #[.string nm] 9))):=hid (z.alloc z.size _);have b8:Hid (OwnStrs A.heap.size (wr.alloc (.cells #[.string nm] 9)) (.slice (some ⟨wr.heap.size,0,none⟩) 1 1) [nm]):=hid (Zbdx (alloc_at wr _) z.size);clear y z aE m
          go_wp2_with fail
          go_loopw [14,15,16] (λov av lv wr=>∃(r:List ByteArray) (p:Nat) (le:Int),av = .int .i64 (p:Int)/\lv = .int .i64 le/\p<i/\-1<=le/\le<=(i:Int)/\(0<le->∃l<i,M p l=true/\F1 l=le)/\OwnStrs A.heap.size wr ov r/\(r.length:Int)+le<=(i:Int)+5/\FarI wr U.heap.size i F1/\Below A.heap.size A wr/\r++Zcgm M NM F1 i le.toNat p=T) (λ_ _ lv _=>(intOf lv).toNat)
          case atStart=>exact⟨[nm],s,O-1,rfl,by go_num,Z,by omega,by omega,λh=>ap.out (by omega),b8.out,by simp only[List.length_cons,List.length_nil];omega,b3.out,bx.out,bB.out⟩
          case round=>
           obtain⟨r,p,le,rfl,rfl,hp,ca,cb,aK,S,aN,y,z,br⟩:=hrel;have aS:=hid br;clear br;obtain⟨WL,ba⟩:∃V,wr=V:=⟨_,rfl⟩;rw[ba]at S y z⊢;clear ba e6;have H:=hid y;have E:=hid z;have b5:=hid aK;have a2:=hid S;have aQ:=hid aN;obtain⟨oa,oc,q,_,cf,bl⟩:=Zbea S;subst q;unfold maxLen at bl
           by_cases aL:0<le
           ·have bm:(p:Int)<(i:Int):=by omega
            have bO:(0:Int)<=(p:Int):=by omega
            clear y z aK S aN
            go_wp2_with fail
            go_loopw [17,18] (λnv kv wr=>∃(nx:Int) (k:Nat),nv = .int .i64 nx/\kv = .int .i64 (k:Int)/\k<=i/\-1<=nx/\nx<(i:Int)/\(0<=nx->F1 nx.toNat=le)/\(nx<0->∀l<k,M p l=true->F1 l≠le)/\Below WL.heap.size WL wr/\nx=Zcfy M NM p F1 le k) (λ_ kv _=>i-(intOf kv).toNat)
            case atStart=>exact⟨-1,0,rfl,rfl,by omega,by omega,by omega,λh=>absurd h (by omega),λ_ l hl=>absurd hl (by omega),Below.refl _ _,rfl⟩
            case round=>
             obtain⟨nx,k,rfl,rfl,hk,cd,ce,D,aw,Y,K⟩:=hrel;have P:=hid K;clear K;have ae:=hid D;have b7:=hid aw;have b0:=hid Y;have Q:=E.out.trans (Y.mono E.out.size);have b1:=hid Q
             by_cases R:k<i
             ·have aJ:(k:Int)<(i:Int):=by omega
              have bL:(0:Int)<=(k:Int):=by omega
              obtain⟨y3,_⟩:=(H.out.below Y).cell R;obtain⟨t,ht⟩:∃t,F1 k=t:=⟨_,rfl⟩;rw[ht]at y3;obtain⟨z1,z2,z3,z4⟩:=HM.out _ Q p hp;have z5:=z4 k R;obtain⟨x,hx⟩:∃x,M p k=x:=⟨_,rfl⟩;rw[hx]at z5;have X:=hid ht;have HX:=hid hx;obtain⟨b',o',nk,a,m⟩:=HN.out k R;injection a with a
              injection a with q1 q2
              subst q1 q2;have ar:=hid (m _ (Below.refl _ _)).2;have e6:=(m _ Q).1;have J:Hid (∀n,Below WL.heap.size WL (wr.drewN n)):=by show ∀n,_;exact λn=>below_drewN b0.out n
              have W:Hid ((x=false\/¬t=le\/0<=nx)->nx<0->∀l<k+1,M p l=true->F1 l≠le):=by
               show _->_;intro bN c l hl aM
               rcases Nat.lt_or_ge l k with h|h
               ·exact b7.out c l h aM
               ·obtain rfl:l=k:=by omega
                rcases bN with h|h|h
                ·rw[HX.out,h]at aM;cases aM
                ·rw[X.out];exact h
                ·omega
              have I:Hid (t=le->(0<=(k:Int)->F1 (k:Int).toNat=le)/\((k:Int)<0->∀l<k+1,M p l=true->F1 l≠le)):=by
               show t=le->_;exact λh=>⟨λ_=>by rw[Int.toNat_natCast,X.out];exact h,λh=>absurd h (by omega)⟩
              clear m z4 ht hx Q Y D aw
              cases x
              ·go_wp2_with fail
               go_quiet (fail)
               all_goals go_wp2
               all_goals go_roundw
               case rel=>exact⟨nx,k+1,rfl,by go_num,by omega,by omega,by omega,ae.out,W.out (.inl (by trivial)),J.out _,Zcgc P.out (.inl HX.out)⟩
               case measure=>simp[intOf];omega
              ·by_cases az:t=le
               ·have bJ:(t==le)=true:=by rw[az];simp
                have L:=hid az
                by_cases c:nx<0
                ·have hd:decide (nx<0)=true:=decide_eq_true c
                 go_wp2_with fail
                 go_quiet (fail)
                 all_goals go_wp2
                 all_goals go_roundw
                 case rel=>exact⟨k,k+1,rfl,by go_num,by omega,by omega,by omega,(I.out L.out).1,(I.out L.out).2,J.out _,Zcgb P.out HX.out (by rw[X.out];exact L.out) (by omega)⟩
                 case measure=>simp[intOf];omega
                ·obtain⟨x',rfl⟩:∃x':Nat,nx=(x':Int):=⟨nx.toNat,by omega⟩
                 have hd:decide ((x':Int)<0)=false:=decide_eq_false c;obtain⟨b',o',nf,a,D⟩:=HN.out x' (by omega);injection a with a
                 injection a with q1 q2
                 subst q1 q2;have a0:=hid (D _ (Below.refl _ _)).2;have e7:=(D _ b1.out).1;have cj:(0:Int)<=(x':Int):=by omega
                 obtain⟨q,hq⟩:∃q,Op.bytesLess nk.toList nf.toList=q:=⟨_,rfl⟩;have HQ:=hid hq;clear D
                 cases q
                 ·go_wp2_with fail
                  go_quiet (fail)
                  all_goals go_wp2
                  all_goals go_roundw
                  case rel=>exact⟨x',k+1,rfl,by go_num,by omega,by omega,by omega,ae.out,W.out (.inr (.inr (by omega))),J.out _,Zcga P.out (by rw[ar.out,a0.out];exact HQ.out)⟩
                  case measure=>simp[intOf];omega
                 ·go_wp2_with fail
                  go_quiet (fail)
                  all_goals go_wp2
                  all_goals go_roundw
                  case rel=>exact⟨k,k+1,rfl,by go_num,by omega,by omega,by omega,(I.out L.out).1,(I.out L.out).2,J.out _,Zcfz P.out HX.out (by rw[X.out];exact L.out) (by rw[ar.out,a0.out];exact HQ.out)⟩
                  case measure=>simp[intOf];omega
               ·have bJ:(t==le)=false:=by simpa using az
                have L:=hid az
                go_wp2_with fail
                go_quiet (fail)
                all_goals go_wp2
                all_goals go_roundw
                case rel=>exact⟨nx,k+1,rfl,by go_num,by omega,by omega,by omega,ae.out,W.out (.inr (.inl L.out)),J.out _,Zcgc P.out (.inr (by rw[X.out];exact L.out))⟩
                case measure=>simp[intOf];omega
             ·have aJ:¬(k:Int)<(i:Int):=by omega
              obtain rfl:k=i:=by omega
              have bo:0<=nx:=by
               refine Int.not_lt.1 λc=>?_
               obtain⟨l,hl,h1,h2⟩:=b5.out aL;exact aw c l hl h1 h2
              obtain⟨x',rfl⟩:∃x':Nat,nx=(x':Int):=⟨nx.toNat,by omega⟩;have aB:F1 x'=le:=by have:=D bo;rwa [Int.toNat_natCast]at this
              obtain⟨b',o',ai,a,m⟩:=HN.out x' (by omega);injection a with a
              injection a with q1 q2
              subst q1 q2;have ar:=hid (m _ (Below.refl _ _)).2;have aT:Hid ((r ++ [ai])++Zcgm M NM F1 k (le-1).toNat x'=T):=by show _=T;rw[<-aS.out,Zcgn P.out aL,ar.out];simp
              have e6:=(m _ Q).1;have ci:IntKind.i64.wrap (le-1)=le-1:=IntWalk.i64_in _ (by omega);have ax:=a2.out.below Y;have au:=Q.alloc Q.size (.cells #[.string ai] 9);obtain⟨v9,w9,bp,bk,aH⟩:=Zbka (w:=wr.alloc (.cells #[.string ai] 9)) (ty:=47) (ys:=[ai]) (ax.below ((Below.refl _ _).alloc (Nat.le_refl _) _)) (Zbik (alloc_at wr _)) (by have:=aQ.out;simp only[List.length_cons,List.length_nil];omega) au.size;have aW:FarI w9 U.heap.size k F1:=by
               have h0:=(H.out.below Y).below ((Below.refl _ _).alloc (Nat.le_refl _) (.cells #[.string ai] 9));exact h0.keep (aH.block _ h0.lt (Zcgl (ax.below ((Below.refl _ _).alloc (Nat.le_refl _) _)) h0))
              have b4:=hid aW;have bz:Hid (Below A.heap.size A w9):=hid (Zfl au aH au.size (λq hq=>(World.ownsRow.lt ax q hq).1));have bA:=hid bp;have b9:=hid bk;have b6:Hid (0<le-1->∃l<k,M x' l=true/\F1 l=le-1):=by
               show 0<le-1->_;intro h;obtain⟨_,_,h3⟩:=HK.out x' (by omega);obtain⟨l,hl,h4,h5⟩:=h3 (by rw[aB];omega);exact⟨l,hl,h4,by rw[h5,aB]⟩
              clear m Q Y D aw ax au bp bk aH aW aB
              go_wp2_with (at_builtin;refine Zbud (by rfl) _ _ 47 (by rfl) (by rfl) (by rfl) bA.out ?_)
              go_roundw
              case rel=>exact⟨r ++ [ai],x',le-1,rfl,by go_num,by omega,by omega,by omega,b6.out,b9.out,by have:=aQ.out;simp only[List.length_append,List.length_cons,List.length_nil];omega,b4.out,bz.out,aT.out⟩
              case measure=>simp[intOf];omega
           ·have bS:¬0<le:=aL
            clear y z aK S aN;go_wp2;go_ret;exact⟨⟨_,_,_,rfl,by rw[<-aS.out,show le.toNat=0 by omega];show IsStrs _ _ (r ++ []);rw[List.append_nil];exact a2.out.strsA.isStrs⟩,aa.out.trans (E.out.mono aa.out.size)⟩
def Zcbz (xs:List RuleS) (e:Ending):Prop:=∃(c:Int) (s:ByteArray),e = .returned (.tuple #[.int .i64 c,.string s])/\AllC xs c s
theorem Zchj {xs:List RuleS} {P:Nat->RuleS->Prop} {i:Nat} {x:RuleS} (h:∀(j:Nat) y,j<i->xs[j]? =some y->P j y) (hx:xs[i]? =some x) (c:P i x):∀(j:Nat) y,j<i+1->xs[j]? =some y->P j y:=by
 intro j y d a
 rcases Nat.lt_or_ge j i with b|b
 ·exact h j y b a
 ·obtain rfl:j=i:=by omega
  rw[hx]at a;injection a with a
  rw[<-a];exact c
theorem Zccs (v:Value) (xs:List RuleS) (w:World) (h:RulesI w v xs) (hn:xs.length<=1000) (m:∀x∈xs,SmallR x 1048576/\ShortR x):
  Calls prog 7 #[v] w λe w'=>Zcbz xs e/\Below w.heap.size w w':=by
 have HI:=hid h;obtain⟨a1,c1,rfl,_,aN,av⟩:=Zcgz h;have ad:Hid (∀(k:Nat) x,xs[k]? =some x->∃b o p1 q1 p2 q2 p3 q3 p4 q4,a1=some ⟨b,o,none⟩/\(∀w',Below w.heap.size w w'->Calls prog 48 #[.agg #[.string x.name,.slice p1 x.ins.length q1,.slice p2 x.outs.length q2,.slice p3 x.after.length q3,.slice p4 x.steps.length q4]] w' λe A=>Zbv x e/\Below w'.heap.size w' A)/\
   (∀w',Below w.heap.size w w'->w'.cell? ⟨b,o+k*5,none⟩=some (.string x.name)/\w'.cell? ⟨b,o+k*5+1,none⟩=some (.slice p1 x.ins.length q1)/\w'.cell? ⟨b,o+k*5+2,none⟩=some (.slice p2 x.outs.length q2)/\w'.cell? ⟨b,o+k*5+3,none⟩=some (.slice p3 x.after.length q3)/\w'.cell? ⟨b,o+k*5+4,none⟩=some (.slice p4 x.steps.length q4))/\
   (∀(j:Nat) s,x.outs[j]? =some s->∃b' o',p2=some ⟨b',o',none⟩/\∀w',Below w.heap.size w w'->w'.cell? ⟨b',o'+j,none⟩=some (.string s))/\(∀(j:Nat) s,x.after[j]? =some s->∃b' o',p3=some ⟨b',o',none⟩/\∀w',Below w.heap.size w w'->w'.cell? ⟨b',o'+j,none⟩=some (.string s))):=by
  show ∀(k:Nat) x,_;intro k x hx;obtain⟨b,o,p1,q1,p2,q2,p3,q3,p4,q4,B,hr,hc⟩:=av k x hx;obtain⟨aS,aQ⟩:=m x (List.mem_of_getElem? hx);have aP:=hr;obtain⟨vi,vo,vf,vs,q,h1,h2,h3,h4⟩:=hr;simp only[List.cons.injEq,and_true]at q;obtain⟨_,rfl,rfl,rfl,rfl⟩:=q;obtain⟨_,_,e2,_,_,s2⟩:=Zua h2;obtain⟨_,_,e3,_,_,s3⟩:=Zua h3;injection e2 with e2 _ aH
  injection e3 with e3 _ aI
  subst e2 aH e3 aI;exact⟨b,o,p1,q1,p2,q2,p3,q3,p4,q4,B,λw' Z=>Zhk x _ _ _ _ w' (aP.below Z) aS aQ,λw' Z=>hc w' Z,s2,s3⟩
 have a5:Hid (∀s w',Below w.heap.size w w'->Calls prog 20 #[.slice a1 xs.length c1,.string s] w' λe A=>(∃r:Int,e = .returned (.int .i64 r)/\Zcfo xs s=r/\-1<=r/\r<(xs.length:Int))/\w'=A):=by
  show ∀s w',_;exact λs w' Z=>(Zccx _ _ s w' (HI.out.below Z)).mono (by rintro e w2 ⟨rfl,rfl⟩;exact⟨⟨_,rfl,rfl,Zcfp xs s⟩,rfl⟩)
 have ag:Hid (∀s w',Below w.heap.size w w'->Calls prog 22 #[.slice a1 xs.length c1,.string s] w' λe A=>(∃r:Int,e = .returned (.int .i64 r)/\Zoi (xs.map (·.name)) s=r/\-1<=r/\r<((xs.map (·.name)).length:Int))/\w'=A):=by
  show ∀s w',_;exact λs w' Z=>(Zccu _ _ s w' (HI.out.below Z)).mono (by rintro e w2 ⟨rfl,rfl⟩;exact⟨⟨_,rfl,rfl,Zcdz _ s⟩,rfl⟩)
 have a4:Hid (∀w',Below w.heap.size w w'->Calls prog 49 #[.slice a1 xs.length c1] w' λe A=>CycX (Zcdi xs) A e/\Below w'.heap.size w' A):=by show ∀w',_;exact λw' Z=>Zccw _ xs w' (HI.out.below Z) hn
 have ao:Hid (∀(k:Nat) x,xs[k]? =some x->x.outs.length<=6/\x.after.length<=10):=by show ∀(k:Nat) x,_;exact λk x hx=>⟨(m x (List.mem_of_getElem? hx)).2.outs,(m x (List.mem_of_getElem? hx)).2.after⟩
 unfold maxLen at aN;clear h av m
 go_enter func7,ntmps7
 go_wp2_with fail
 go_loopw [4] (λS wr=>∃i:Nat,i<=xs.length/\S = .int .i64 (i:Int)/\OkTo xs i/\Below w.heap.size w wr) (λS _=>xs.length-(intOf S).toNat)
 case atStart=>exact⟨0,Nat.zero_le _,rfl,λj y hj=>absurd hj (by omega),Below.refl _ _⟩
 case round=>
  obtain⟨i,hi,rfl,W,c⟩:=hrel;obtain⟨WR,u⟩:∃V,wr=V:=⟨_,rfl⟩;rw[u]at c⊢;clear u;have al:=hid W;have f:=hid c
  by_cases M:i<xs.length
  ·obtain⟨x,hx⟩:∃x,xs[i]? =some x:=⟨xs[i],List.getElem?_eq_getElem M⟩
   obtain⟨b,o,p1,q1,p2,q2,p3,q3,p4,q4,J,aw,g,_,_⟩:=ad.out i x hx;have CR:=hid (aw _ c);obtain⟨y0,y1,y2,y3,y4⟩:=g _ c;have G:=hid g;have HX:=hid hx;have L:(i:Int)<(xs.length:Int):=by omega
   have ay:(0:Int)<=(i:Int):=by omega
   subst J;clear W c aw g hx
   go_wp2_with fail
   refine CR.out.mono ?_;rintro e w5 ⟨⟨r,rfl,hr⟩,hb5⟩;have ab:=hid (f.out.trans (hb5.mono f.out.size));have HR:=hid hr;clear hb5 hr y0 y1 y2 y3 y4;obtain⟨y0,_⟩:=G.out _ ab.out
   by_cases E:r=0
   ·have aD:Hid (OkTo xs (i+1)):=hid (Zchj al.out HX.out (by have:=HR.out;rw[E]at this;exact this))
    subst E;go_wp2;go_roundw
    case rel=>exact⟨i+1,by omega,by go_num,aD.out,ab.out⟩
    case measure=>simp[intOf];omega
   ·have aF:=hid E
    have C:Hid (∀n,Below w.heap.size w (w5.drewN n)):=by show ∀n,_;exact λn=>below_drewN ab.out n
    go_wp2_with fail
    go_quiet (fail)
    all_goals go_wp2
    all_goals go_ret2
    all_goals exact⟨⟨_,_,rfl,.inl ⟨i,x,HX.out,al.out,HR.out,aF.out,rfl⟩⟩,C.out _⟩
  ·have L:¬(i:Int)<(xs.length:Int):=by omega
   have p:Hid (OkTo xs xs.length):=by show OkTo _ _;rw[show xs.length=i by omega];exact W
   clear W c
   by_cases aJ:(40:Int)<(xs.length:Int)
   ·go_wp2
    go_ret2
    exact⟨⟨_,_,rfl,.inr (.inl ⟨p.out,aJ,rfl,rfl⟩)⟩,f.out⟩
   have T:Hid ((xs.length:Int)<=40):=hid (by omega)
   go_wp2_with fail
   go_loopw [6] (λS wr=>∃i:Nat,i<=xs.length/\S = .int .i64 (i:Int)/\Zcca xs i/\Below w.heap.size w wr) (λS _=>xs.length-(intOf S).toNat)
   case atStart=>exact⟨0,Nat.zero_le _,rfl,λa x B=>absurd B (by omega),f.out⟩
   case round=>
    obtain⟨i,hi,rfl,X,c⟩:=hrel;obtain⟨WR,u⟩:∃V,wr=V:=⟨_,rfl⟩;rw[u]at c⊢;clear u f;have am:=hid X;have f:=hid c
    by_cases M:i<xs.length
    ·obtain⟨x,hx⟩:∃x,xs[i]? =some x:=⟨xs[i],List.getElem?_eq_getElem M⟩
     obtain⟨b,o,p1,q1,p2,q2,p3,q3,p4,q4,J,_,g,a2,_⟩:=ad.out i x hx;obtain⟨y0,y1,y2,y3,y4⟩:=g _ c;have G:=hid g;have aE:=hid a2;have HX:=hid hx;have aR:=(ao.out i x hx).1;have L:(i:Int)<(xs.length:Int):=by omega
     have ay:(0:Int)<=(i:Int):=by omega
     have CA:=hid (ag.out x.name WR c);subst J;clear X c g hx a2
     go_wp2_with fail
     refine CA.out.mono ?_;rintro e w5 ⟨⟨r,rfl,hr,E,Y⟩,rfl⟩;have HD:Hid (decide (r<(i:Int))=true↔(Zoi (xs.map (·.name)) x.name<(i:Int)\/∃o∈x.outs.take 0,Zcfo xs o<(i:Int))):=by
      show _↔_;rw[hr];simp
     obtain⟨bd,aK⟩:∃bd,decide (r<(i:Int))=bd:=⟨_,rfl⟩;rw[aK]at HD;clear hr E Y
     go_wp2_with fail
     go_loopw [7,57] (λbv jv wr=>∃(bb:Bool) (j:Nat),bv = .bool bb/\jv = .int .i64 (j:Int)/\j<=x.outs.length/\(bb=true↔(Zoi (xs.map (·.name)) x.name<(i:Int)\/∃o∈x.outs.take j,Zcfo xs o<(i:Int)))/\Below w.heap.size w wr) (λ_ jv _=>x.outs.length-(intOf jv).toNat)
     case atStart=>exact⟨bd,0,rfl,rfl,by omega,HD.out,f.out⟩
     case round=>
      obtain⟨bb,j,rfl,rfl,hj,au,d⟩:=hrel;obtain⟨WJ,I⟩:∃V,wr=V:=⟨_,rfl⟩;rw[I]at d⊢;clear I y0 y1 y2 y3 y4;have t:=hid d;have U:=hid au;obtain⟨y0,y1,y2,y3,y4⟩:=G.out _ d;clear au
      by_cases af:j<x.outs.length
      ·obtain⟨s,m⟩:∃s,x.outs[j]? =some s:=⟨x.outs[j],List.getElem?_eq_getElem af⟩
       obtain⟨sb,so,R,z⟩:=aE.out j s m;have z0:=z _ d;subst R;have ae:(j:Int)<(x.outs.length:Int):=by omega
       have aM:(0:Int)<=(j:Int):=by omega
       have CM:=hid (a5.out s WJ d);have aq:Hid (∀P:ByteArray->Prop,(∃o∈x.outs.take (j+1),P o)↔(∃o∈x.outs.take j,P o)\/P s):=by
        show ∀P:ByteArray->Prop,_;intro P;rw[List.take_add_one,m];simp only[Option.toList_some,List.mem_append,List.mem_singleton];constructor
        ·rintro⟨o,h|h,hp⟩
         ·exact .inl ⟨o,h,hp⟩
         ·exact .inr (h▸hp)
        ·rintro(⟨o,h,hp⟩|h)
         ·exact⟨o,.inl h,hp⟩
         ·exact⟨s,.inr rfl,h⟩
       clear z m d
       cases bb
       ·go_wp2_with fail
        refine CM.out.mono ?_;rintro e w7 ⟨⟨r2,rfl,Q,E,Y⟩,rfl⟩;have aC:Hid (decide (r2<(i:Int))=true↔(Zoi (xs.map (·.name)) x.name<(i:Int)\/∃o∈x.outs.take (j+1),Zcfo xs o<(i:Int))):=by
         show _↔_;have h1:¬(Zoi (xs.map (·.name)) x.name<(i:Int)\/∃o∈x.outs.take j,Zcfo xs o<(i:Int)):=λh=>absurd (U.out.2 h) (by decide)
         rw[aq.out,Q,decide_eq_true_iff];constructor
         ·exact λh=> .inr (.inr h)
         ·rintro(h|h|h)
          ·exact(h1 (.inl h)).elim
          ·exact(h1 (.inr h)).elim
          ·exact h
        clear Q;go_wp2;go_roundw
        case rel=>exact⟨_,j+1,rfl,by go_num,by omega,aC.out,t.out⟩
        case measure=>simp[intOf];omega
       ·go_wp2
        go_roundw
        case rel=>exact⟨true,j+1,rfl,by go_num,by omega,⟨λ_=>(U.out.1 (by trivial)).elim .inl (λh=> .inr ((aq.out _).2 (.inl h))),λ_=>by trivial⟩,t.out⟩
        case measure=>simp[intOf];omega
      ·have ae:¬(j:Int)<(x.outs.length:Int):=by omega
       have C:Hid (∀n,Below w.heap.size w (WJ.drewN n)):=by show ∀n,_;exact λn=>below_drewN t.out n
       clear d;have F:Hid (x.outs.take j=x.outs):=hid (List.take_of_length_le (by omega))
       cases bb
       ·have a9:Hid (Zcca xs (i+1)):=hid (Zchj (P:=λj y=>¬BadN xs j y) am.out HX.out (λh=>absurd (U.out.2 (by rw[F.out];exact h)) (by decide)))
        go_wp2;go_roundw
        case rel=>exact⟨i+1,by omega,by go_num,a9.out,t.out⟩
        case measure=>simp[intOf];omega
       ·have a8:Hid (BadN xs i x):=by show BadN _ _ _;have:=U.out.1 (by trivial);rw[F.out]at this;exact this
        go_wp2_with fail
        go_quiet (fail)
        all_goals go_wp2
        all_goals go_ret2
        all_goals exact⟨⟨_,_,rfl,.inr (.inr (.inl ⟨p.out,T.out,i,x,HX.out,am.out,a8.out,rfl,rfl⟩))⟩,C.out _⟩
    ·have L:¬(i:Int)<(xs.length:Int):=by omega
     have H:Hid (Zcca xs xs.length):=by show Zcca _ _;rw[show xs.length=i by omega];exact X
     clear X c
     go_wp2_with fail
     go_loopw [10] (λS wr=>∃i:Nat,i<=xs.length/\S = .int .i64 (i:Int)/\Zccb xs i/\Below w.heap.size w wr) (λS _=>xs.length-(intOf S).toNat)
     case atStart=>exact⟨0,Nat.zero_le _,rfl,λa x B=>absurd B (by omega),f.out⟩
     case round=>
      obtain⟨i,hi,rfl,ax,c⟩:=hrel;have ac:=hid ax;clear ax;obtain⟨WR,u⟩:∃V,wr=V:=⟨_,rfl⟩;rw[u]at c⊢;clear u f;have f:=hid c
      by_cases M:i<xs.length
      ·obtain⟨x,hx⟩:∃x,xs[i]? =some x:=⟨xs[i],List.getElem?_eq_getElem M⟩
       obtain⟨b,o,p1,q1,p2,q2,p3,q3,p4,q4,J,_,g,_,K⟩:=ad.out i x hx;obtain⟨y0,y1,y2,y3,y4⟩:=g _ c;have HX:=hid hx;have G:=hid g;have a6:=hid K;have aR:=(ao.out i x hx).2;have L:(i:Int)<(xs.length:Int):=by omega
       have ay:(0:Int)<=(i:Int):=by omega
       subst J;clear c g hx K
       go_wp2_with fail
       go_loopw [88] (λjv wr=>∃j:Nat,jv = .int .i64 (j:Int)/\j<=x.after.length/\(∀a∈x.after.take j,0<=Zoi (xs.map (·.name)) a)/\Below w.heap.size w wr) (λjv _=>x.after.length-(intOf jv).toNat)
       case atStart=>exact⟨0,rfl,by omega,λa B=>by simp at B,f.out⟩
       case round=>
        obtain⟨j,rfl,hj,K,d⟩:=hrel;have ah:=hid K;clear K;obtain⟨WJ,I⟩:∃V,wr=V:=⟨_,rfl⟩;rw[I]at d⊢;clear I y0 y1 y2 y3 y4;have t:=hid d;obtain⟨y0,y1,y2,y3,y4⟩:=G.out _ d
        by_cases af:j<x.after.length
        ·obtain⟨s,m⟩:∃s,x.after[j]? =some s:=⟨x.after[j],List.getElem?_eq_getElem af⟩
         obtain⟨sb,so,R,z⟩:=a6.out j s m;have z0:=z _ d;subst R;have ae:(j:Int)<(x.after.length:Int):=by omega
         have aM:(0:Int)<=(j:Int):=by omega
         have CA:=hid (ag.out s WJ d);have C:Hid (∀n,Below w.heap.size w (WJ.drewN n)):=by show ∀n,_;exact λn=>below_drewN t.out n
         have ap:=hid m;clear z m d
         go_wp2_with fail
         refine CA.out.mono ?_;rintro e w7 ⟨⟨r2,rfl,Q,E,Y⟩,rfl⟩;have an:=hid Q;clear Y Q
         by_cases az:r2<0
         ·have aB:Hid (Zccc xs x):=hid ⟨s,List.mem_of_getElem? ap.out,by rw[an.out];exact az⟩
          go_wp2_with fail
          go_quiet (fail)
          all_goals go_wp2
          all_goals go_ret2
          all_goals exact⟨⟨_,_,rfl,.inr (.inr (.inr (.inl ⟨p.out,T.out,H.out,i,x,HX.out,ac.out,aB.out,rfl,rfl⟩)))⟩,C.out _⟩
         ·have a7:Hid (∀a∈x.after.take (j+1),0<=Zoi (xs.map (·.name)) a):=by
           show ∀a∈_,_;intro a B;rw[List.take_add_one,ap.out]at B
           rcases List.mem_append.1 B with B|B
           ·exact ah.out a B
           ·have:a=s:=by simpa using B
            rw[this,an.out];omega
          go_wp2;go_roundw
          case rel=>exact⟨j+1,by go_num,by omega,a7.out,t.out⟩
          case measure=>simp[intOf];omega
        ·have ae:¬(j:Int)<(x.after.length:Int):=by omega
         clear d;go_wp2;go_roundw
         case rel=>exact⟨i+1,by omega,by go_num,Zchj (P:=λ_ y=>¬Zccc xs y) ac.out HX.out (λ⟨a,B,hl⟩=>by have:=ah.out a (by rw[List.take_of_length_le (by omega)];exact B);omega),t.out⟩
         case measure=>simp[intOf];omega
      ·have L:¬(i:Int)<(xs.length:Int):=by omega
       have aj:Hid (Zccb xs xs.length):=by show Zccb _ _;rw[show xs.length=i by omega];exact ac.out
       have CY:=hid (a4.out _ c);obtain⟨nms,O⟩:∃l,Zcdi xs=l:=⟨_,rfl⟩;have aa:=hid O;rw[O]at CY;clear O;clear c
       go_wp2_with fail
       refine CY.out.mono ?_;rintro e w8 ⟨⟨ca,cn,cc,rfl,a0⟩,ar⟩;obtain⟨aT,aU,q,_,aL,D⟩:=Zua a0;injection q with q1 q2 q3
       subst q1 q2 q3;have ai:=hid (f.out.trans (ar.mono f.out.size));have C:Hid (∀n,Below w.heap.size w (w8.drewN n)):=by show ∀n,_;exact λn=>below_drewN ai.out n
       unfold maxLen at aL;clear a0 ar
       by_cases a3:0<nms.length
       ·obtain⟨s,m⟩:∃s,nms[0]? =some s:=⟨nms[0],List.getElem?_eq_getElem a3⟩
        obtain⟨sb,so,R,z⟩:=D 0 s m;have z0:=z _ (Below.refl _ _);rw[Nat.add_zero]at z0;subst R;have aA:Hid (∃r,Zcdi xs=s::r):=by
         show ∃r,_;rw[aa.out]
         cases nms with
         | nil=>simp at m
         | cons a r=>simp at m;exact⟨r,by rw[m]⟩
        have aO:(0:Int)<(nms.length:Int):=by omega
        clear z m D
        go_wp2_with fail
        go_quiet (fail)
        all_goals go_wp2
        all_goals go_ret2
        all_goals exact⟨⟨_,_,rfl,.inr (.inr (.inr (.inr (.inl ⟨p.out,T.out,H.out,aj.out,aA.out,rfl⟩))))⟩,C.out _⟩
       ·have aO:¬(0:Int)<(nms.length:Int):=by omega
        have ak:Hid (Zcdi xs = []):=by show _=_;rw[aa.out];exact List.eq_nil_of_length_eq_zero (by omega)
        clear D;go_wp2
        go_ret2
        exact⟨⟨_,_,rfl,.inr (.inr (.inr (.inr (.inr ⟨p.out,T.out,H.out,aj.out,ak.out,rfl,rfl⟩))))⟩,ai.out⟩
