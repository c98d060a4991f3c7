import Derived.Test.YtphjfaoghphleaaGreatDoorMam
import Derived.Shelf.SlicesE.DeleteFunc
set_option maxRecDepth 100000
set_option maxHeartbeats 16000000
namespace Go.Proofs.YtphjfaoghphleaaGreatDoor
open Go.Lib (hid)
open Go.Proofs.Tryz Go.RowKit Go.Shelf
def Zbdi (x:RuleS) (k:Nat):List ByteArray:=(x.steps.take k).map StepS.out
theorem Zbdj {x:RuleS} {k:Nat} {y:StepS} (h:x.steps[k]? =some y):Zbdi x k ++ [y.out]=Zbdi x (k+1):=by
 unfold Zbdi;rw[List.take_add_one,h];simp
def BigX (x:RuleS):Prop:=(8:Int)<(x.ins.length:Int)\/(4:Int)<(x.outs.length:Int)\/(8:Int)<(x.after.length:Int)\/(12:Int)<(x.steps.length:Int)
def Zcd (x:RuleS) (k:Nat) (y:StepS):Prop:=Zoi x.ins y.out<0/\Zoi (Zbdi x k) y.out<0/\∀a∈y.args,¬(Zoi x.ins a<0/\Zoi (Zbdi x k) a<0)
def Zbj (x:RuleS):Prop:=¬Zch x.ins/\¬Zch x.outs/\¬Zch x.after/\Zoi x.after x.name<0/\(∀(k:Nat) y,x.steps[k]? =some y->Zcd x k y)/\∀a∈x.outs,Zoi x.ins a<0/\0<=Zoi (Zbdi x x.steps.length) a
def RuleC (x:RuleS) (c:Int):Prop:=(¬Zav x/\c=1)\/(Zav x/\BigX x/\c=4)\/(Zav x/\¬BigX x/\¬Zbj x/\c=2)\/(Zav x/\¬BigX x/\Zbj x/\c=0)
theorem RuleC.one {x:RuleS} {c d:Int} (h:RuleC x c) (j:RuleC x d):c=d:=by
 rcases h with⟨a,rfl⟩|⟨a,b,rfl⟩|⟨a,b,e,rfl⟩|⟨a,b,e,rfl⟩<;>rcases j with⟨f,rfl⟩|⟨f,g,rfl⟩|⟨f,g,i,rfl⟩|⟨f,g,i,rfl⟩<;>first|rfl|contradiction
def Zbv (x:RuleS) (e:Ending):Prop:=∃c:Int,e = .returned (.int .i64 c)/\RuleC x c
theorem Zbjc {x:RuleS} (h:¬Zav x):Zbv x (.returned (.int .i64 1)):=⟨1,rfl,.inl ⟨h,rfl⟩⟩
theorem Zbjb {x:RuleS} (h:Zav x) (a:BigX x):Zbv x (.returned (.int .i64 4)):=⟨4,rfl,.inr (.inl ⟨h,a,rfl⟩)⟩
theorem Zbja {x:RuleS} (h:Zav x) (a:¬BigX x) (b:¬Zbj x):Zbv x (.returned (.int .i64 2)):=⟨2,rfl,.inr (.inr (.inl ⟨h,a,b,rfl⟩))⟩
theorem Zbjd {x:RuleS} (h:Zav x) (a:¬BigX x) (b:Zbj x):Zbv x (.returned (.int .i64 0)):=⟨0,rfl,.inr (.inr (.inr ⟨h,a,b,rfl⟩))⟩
theorem Zhk (x:RuleS) (vi vo vf vs:Value) (w:World) (h:RuleI w [.string x.name,vi,vo,vf,vs] x) (hs:SmallR x 1048576) (L:ShortR x):
  Calls prog 48 #[.agg #[.string x.name,vi,vo,vf,vs]] w λe w'=>Zbv x e/\Below w.heap.size w w':=by
 have hI:=h;obtain⟨_,_,_,_,q,h1,h2,h3,h4⟩:=h;simp only[List.cons.injEq,and_true,true_and]at q;obtain⟨rfl,rfl,rfl,rfl⟩:=q;obtain⟨a1,c1,rfl,_,b4,_⟩:=Zua h1;obtain⟨a2,c2,rfl,_,b5,aX⟩:=Zua h2;obtain⟨a3,c3,rfl,_,b6,_⟩:=Zua h3;obtain⟨a4,c4,rfl,bG,b7,bc⟩:=Zbpc h4;obtain⟨o1,aW⟩:∃o:Obj,o = .cells #[.string x.name,.slice a1 x.ins.length c1,.slice a2 x.outs.length c2,.slice a3 x.after.length c3,.slice a4 x.steps.length c4] 50:=⟨_,rfl⟩;have ap:Below w.heap.size w (w.alloc o1):=(Below.refl _ _).alloc (Nat.le_refl _) _;have ak:=alloc_at w o1;have aj:=Zfy ak;obtain⟨W1,am⟩:∃W1,w.alloc o1=W1:=⟨_,rfl⟩;rw[am]at ak ap aj;rw[aW]at ak am;have C:Hid (∀w',Below W1.heap.size W1 w'->w'.cell? ⟨w.heap.size,0,none⟩=some (.string x.name)/\w'.cell? ⟨w.heap.size,1,none⟩=some (.slice a1 x.ins.length c1)/\w'.cell? ⟨w.heap.size,2,none⟩=some (.slice a2 x.outs.length c2)/\w'.cell? ⟨w.heap.size,3,none⟩=some (.slice a3 x.after.length c3)/\w'.cell? ⟨w.heap.size,4,none⟩=some (.slice a4 x.steps.length c4)):=by
  show ∀w',_;intro w' hb;obtain⟨d0,d1,d2,d3,d4,_⟩:=cells5 ((hb.block _ aj).trans ak);exact⟨d0,d1,d2,d3,d4⟩
 have up:∀w',Below W1.heap.size W1 w'->Below w.heap.size w w':=λw' l=>ap.trans (l.mono ap.size)
 have ax:Hid (∀w',Below W1.heap.size W1 w'->Calls prog 82 #[.agg #[.string x.name,.slice a1 x.ins.length c1,.slice a2 x.outs.length c2,.slice a3 x.after.length c3,.slice a4 x.steps.length c4]] w' λe d=>Zaw x e/\Below w'.heap.size w' d):=by
  show ∀w',_;exact λw' l=>Zhf x _ _ _ _ w' (hI.below (up w' l)) hs L
 have be:Hid (∀w',Below W1.heap.size W1 w'->Calls prog 83 #[.slice a1 x.ins.length c1] w' λe d=>Zcg x.ins e/\Below w'.heap.size w' d):=by show ∀w',_;exact λw' l=>Zhm _ _ w' (h1.below (up w' l))
 have bf:Hid (∀w',Below W1.heap.size W1 w'->Calls prog 83 #[.slice a2 x.outs.length c2] w' λe d=>Zcg x.outs e/\Below w'.heap.size w' d):=by show ∀w',_;exact λw' l=>Zhm _ _ w' (h2.below (up w' l))
 have bg:Hid (∀w',Below W1.heap.size W1 w'->Calls prog 83 #[.slice a3 x.after.length c3] w' λe d=>Zcg x.after e/\Below w'.heap.size w' d):=by show ∀w',_;exact λw' l=>Zhm _ _ w' (h3.below (up w' l))
 have aA:Hid (∀s w',Below W1.heap.size W1 w'->Calls prog 64 #[.slice a1 x.ins.length c1,.string s] w' λe d=>e = .returned (.int .i64 (Zoi x.ins s))/\d=w'):=by show ∀s w',_;exact λs w' l=>Zhe _ _ s w' (h1.below (up w' l))
 have bd:Hid (∀s w',Below W1.heap.size W1 w'->Calls prog 64 #[.slice a3 x.after.length c3,.string s] w' λe d=>e = .returned (.int .i64 (Zoi x.after s))/\d=w'):=by show ∀s w',_;exact λs w' l=>Zhe _ _ s w' (h3.below (up w' l))
 have bv:Hid (∀(k:Nat) y,x.steps[k]? =some y->∃b o b1 e1 b2 e2,a4=some ⟨b,o,none⟩/\(∀w',Below W1.heap.size W1 w'->IsStrs w' (.slice b1 y.args.length e1) y.args)/\∀w',Below W1.heap.size W1 w'->
   w'.cell? ⟨b,o+k*5,none⟩=some (.string y.out)/\w'.cell? ⟨b,o+k*5+1,none⟩=some (.int .i64 y.op)/\w'.cell? ⟨b,o+k*5+2,none⟩=some (.slice b1 y.args.length e1)/\w'.cell? ⟨b,o+k*5+3,none⟩=some (.slice b2 y.lits.length e2)/\w'.cell? ⟨b,o+k*5+4,none⟩=some (.int .i64 y.n)):=by
  show ∀(k:Nat) y,_;intro k y hy;obtain⟨b,o,b1,e1,b2,e2,I,hI,hA,D⟩:=bc k y hy;exact⟨b,o,b1,e1,b2,e2,I,λw' l=>hA.below (up w' l),λw' l=>D w' (up w' l)⟩
 have aD:Hid (∀(k:Nat) y,x.outs[k]? =some y->∃b o,a2=some ⟨b,o,none⟩/\∀w',Below W1.heap.size W1 w'->w'.cell? ⟨b,o+k,none⟩=some (.string y)):=by
  show ∀(k:Nat) y,_;intro k y hy;obtain⟨b,o,I,D⟩:=aX k y hy;exact⟨b,o,I,λw' l=>D w' (up w' l)⟩
 have g:Hid (∀w',Below W1.heap.size W1 w'->Below w.heap.size w w'):=by show ∀w',_;exact up
 have bw:=hid am;have bt:=hid L;have HU:Hid (∀w' o,Below W1.heap.size W1 w'->Below W1.heap.size W1 (w'.alloc o)):=by show ∀w' o,_;exact λw' o h=>h.alloc h.size o
 have aV:x.ins.length<=10/\x.outs.length<=6/\x.after.length<=10/\x.steps.length<=14:=⟨L.ins,L.outs,L.after,L.steps⟩;obtain⟨n1,n2,n3,n4⟩:=aV;unfold maxLen at b7 b5 b4 b6;clear h1 h2 h3 h4 bc ap ak aj am aW o1 up hs L hI aX
 go_enter func48,ntmps48
 go_wp2_with fail
 rw[bw.out];refine(ax.out _ (Below.refl _ _)).mono ?_;rintro e w2 ⟨⟨b,rfl,hb⟩,aO⟩;have B:=hid aO;have ay:=hid hb;clear hb aO
 cases b
 ·go_wp2
  go_ret;exact⟨Zbjc (λh=>absurd (ay.out.2 h) (by decide)),g.out _ B.out⟩
 have M:Hid (Zav x):=hid (ay.out.1 (by trivial));clear ay;obtain⟨Q,R,S,T,U⟩:=C.out _ B.out
 by_cases g1:(8:Int)<(x.ins.length:Int)
 ·go_wp2
  go_ret;exact⟨Zbjb M.out (.inl g1),g.out _ B.out⟩
 by_cases g2:(4:Int)<(x.outs.length:Int)
 ·go_wp2
  go_ret;exact⟨Zbjb M.out (.inr (.inl g2)),g.out _ B.out⟩
 by_cases g3:(8:Int)<(x.after.length:Int)
 ·go_wp2
  go_ret;exact⟨Zbjb M.out (.inr (.inr (.inl g3))),g.out _ B.out⟩
 by_cases g4:(12:Int)<(x.steps.length:Int)
 ·go_wp2
  go_ret;exact⟨Zbjb M.out (.inr (.inr (.inr g4))),g.out _ B.out⟩
 have v:Hid (¬BigX x):=hid λh=>h.elim g1 (λh=>h.elim g2 (λh=>h.elim g3 g4))
 go_wp2_with fail
 refine(be.out _ B.out).mono ?_;rintro e w3 ⟨⟨b,rfl,ht⟩,aP⟩;have aK:=hid ht;clear ht;have Z:=hid (B.out.trans (aP.mono B.out.size));clear aP Q R S T U;obtain⟨Q,R,S,T,U⟩:=C.out _ Z.out
 cases b
 case true=>
  go_wp2;go_ret;exact⟨Zbja M.out v.out (λh=>h.1 (aK.out.1 (by trivial))),g.out _ Z.out⟩
 have bm:Hid (¬Zch x.ins):=hid λh=>absurd (aK.out.2 h) (by decide)
 go_wp2_with fail
 refine(bf.out _ Z.out).mono ?_;rintro e w4 ⟨⟨b,rfl,ht⟩,aQ⟩;have aL:=hid ht;clear ht;have aa:=hid (Z.out.trans (aQ.mono Z.out.size));clear aQ Q R S T U;obtain⟨Q,R,S,T,U⟩:=C.out _ aa.out
 cases b
 case true=>
  go_wp2;go_ret;exact⟨Zbja M.out v.out (λh=>h.2.1 (aL.out.1 (by trivial))),g.out _ aa.out⟩
 have bn:Hid (¬Zch x.outs):=hid λh=>absurd (aL.out.2 h) (by decide)
 go_wp2_with fail
 refine(bg.out _ aa.out).mono ?_;rintro e w5 ⟨⟨b,rfl,ht⟩,hb5⟩;have aM:=hid ht;clear ht;have ac:=hid (aa.out.trans (hb5.mono aa.out.size));clear hb5 Q R S T U;obtain⟨Q,R,S,T,U⟩:=C.out _ ac.out
 cases b
 case true=>
  go_wp2;go_ret;exact⟨Zbja M.out v.out (λh=>h.2.2.1 (aM.out.1 (by trivial))),g.out _ ac.out⟩
 have bo:Hid (¬Zch x.after):=hid λh=>absurd (aM.out.2 h) (by decide)
 go_wp2_with fail
 refine(bd.out _ _ ac.out).mono ?_;rintro e w6 ⟨rfl,rfl⟩;obtain⟨r,hr⟩:∃r,Zoi x.after x.name=r:=⟨_,rfl⟩;rw[hr];have aH:=hid hr
 by_cases g5:0<=r
 ·go_wp2
  go_ret;exact⟨Zbja M.out v.out (λh=>by have:=h.2.2.2.1;rw[aH.out]at this;omega),g.out _ ac.out⟩
 have bp:Hid (Zoi x.after x.name<0):=by show Zoi _ _<0;rw[aH.out];omega
 clear hr;have bj:Hid (OwnStrs W1.heap.size w6 (.slice none 0 0) []):=Zbdk _ _
 go_wp2_with fail
 go_loopw [3,4] (λkv iv wr=>∃(k:Nat) (u:List ByteArray),k<=x.steps.length/\u.length=k/\iv = .int .i64 (k:Int)/\OwnStrs W1.heap.size wr kv u/\Below W1.heap.size W1 wr/\u=Zbdi x k/\∀(j:Nat) y,j<k->x.steps[j]? =some y->Zcd x j y) (λ_ iv _=>x.steps.length-(intOf iv).toNat)
 case atStart=>exact⟨0,[],Nat.zero_le _,rfl,rfl,bj.out,ac.out,rfl,λj y hj=>absurd hj (by omega)⟩
 case round=>
  obtain⟨k,u,hk,aS,rfl,P,aq,aT,bb⟩:=hrel;have H:=hid aT;have aJ:=hid bb;clear aT bb;obtain⟨X,aN⟩:∃V,wr=V:=⟨_,rfl⟩;rw[aN]at P aq⊢;clear aN Q R S T U;have W:=hid aq;have av:=hid P;have bl:=hid aS;have b3:u.length<=1000:=by have:=n4;omega
  obtain⟨Q,R,S,T,U⟩:=C.out _ aq;obtain⟨la,lc,q,_,b8,aU⟩:=Zbea P;subst q;unfold maxLen at aU;clear aq P aS
  by_cases aj:k<x.steps.length
  ·obtain⟨y,hy⟩:∃y,x.steps[k]? =some y:=⟨x.steps[k],List.getElem?_eq_getElem aj⟩
   obtain⟨b,o,b1,e1,b2,e2,af,aw,az⟩:=bv.out k y hy;have aI:=hid aw;have b9:=hid az;have HY:=hid hy;have bB:=hid ((bt.out).each y (List.mem_of_getElem? hy)).1;obtain⟨z0,z1,z2,z3,z4⟩:=az _ W.out;have bz:(k:Int)<(x.steps.length:Int):=by omega
   have bE:(0:Int)<=(k:Int):=by omega
   subst af;clear aw az hy
   go_upto_region 12 with fail
   obtain⟨W2,an⟩:∃V,X.alloc (.cells #[.string y.out,.int .i64 y.op,.slice b1 y.args.length e1,.slice b2 y.lits.length e2,.int .i64 y.n] 58)=V:=⟨_,rfl⟩;have al:=alloc_at X (.cells #[.string y.out,.int .i64 y.op,.slice b1 y.args.length e1,.slice b2 y.lits.length e2,.int .i64 y.n] 58);have O:=Zfy al;have ai:Below W1.heap.size W1 W2:=by rw[<-an];exact HU.out _ _ W.out
   have aC:Hid (OwnStrs W1.heap.size W2 (.slice la u.length lc) u):=by show OwnStrs _ _ _ _;rw[<-an];exact av.out.below ((Below.refl _ _).alloc (Nat.le_refl _) _)
   rw[an]at al O⊢;obtain⟨p2,aZ⟩:∃p,X.heap.size=p:=⟨_,rfl⟩;rw[aZ]at al O⊢;have aB:Hid (∀w',Below W2.heap.size W2 w'->w'.cell? ⟨p2,0,none⟩=some (.string y.out)/\w'.cell? ⟨p2,2,none⟩=some (.slice b1 y.args.length e1)):=by
    show ∀w',_;intro w' hb;obtain⟨d0,d1,d2,d3,d4,_⟩:=cells5 ((hb.block _ O).trans al);exact⟨d0,d2⟩
   have m:=hid ai;have bA:Hid (∀n,Below W2.heap.size W2 (W2.drewN n)):=by show ∀n,_;exact λn=>below_drewN (Below.refl _ _) n
   have ar:=Zua (aI.out _ ai);obtain⟨bC,bD,q,_,bx,ar⟩:=ar;injection q with q1 q2 q3
   subst q1 q3;have bi:=hid ar;have CK:Hid (∀s w',Below W2.heap.size W2 w'->Calls prog 64 #[.slice la u.length lc,.string s] w' λe d=>e = .returned (.int .i64 (Zoi u s))/\d=w'):=by show ∀s w',_;exact λs w' l=>Zhe _ _ s w' (aC.out.strsA.isStrs.below l)
   have CI:Hid (∀s w',Below W2.heap.size W2 w'->Calls prog 64 #[.slice a1 x.ins.length c1,.string s] w' λe d=>e = .returned (.int .i64 (Zoi x.ins s))/\d=w'):=by show ∀s w',_;exact λs w' l=>aA.out s w' (m.out.trans (l.mono m.out.size))
   have f:Hid (∀w',Below W2.heap.size W2 w'->Below W1.heap.size W1 w'):=by show ∀w',_;exact λw' l=>m.out.trans (l.mono m.out.size)
   unfold maxLen at bx;clear al O ai an ar Q R S T U z0 z1 z2 z3 z4 aZ;obtain⟨z0,z2⟩:=aB.out _ (Below.refl _ _);obtain⟨Q,R,S,T,U⟩:=C.out _ m.out
   go_wp2_with fail
   refine(CI.out _ _ (Below.refl _ _)).mono ?_;rintro e w7 ⟨rfl,rfl⟩;obtain⟨r1,a8⟩:∃r,Zoi x.ins y.out=r:=⟨_,rfl⟩;rw[a8];have aE:=hid a8;clear a8
   by_cases g6:0<=r1
   ·have hd:decide (0<=r1)=true:=decide_eq_true g6
    go_wp2;go_ret;exact⟨Zbja M.out v.out (λh=>by have:=(h.2.2.2.2.1 k y HY.out).1;rw[aE.out]at this;omega),g.out _ m.out⟩
   have hd:decide (0<=r1)=false:=decide_eq_false g6
   go_wp2_with fail
   refine(CK.out _ _ (Below.refl _ _)).mono ?_;rintro e w7 ⟨rfl,rfl⟩;obtain⟨r2,a9⟩:∃r,Zoi u y.out=r:=⟨_,rfl⟩;rw[a9];have aF:=hid a9;clear a9
   by_cases g7:0<=r2
   ·go_wp2
    go_ret;exact⟨Zbja M.out v.out (λh=>by have:=(h.2.2.2.2.1 k y HY.out).2.1;rw[<-H.out,aF.out]at this;omega),g.out _ m.out⟩
   go_wp2_with fail
   go_loopw [6] (λjv wr=>∃j:Nat,j<=y.args.length/\jv = .int .i64 (j:Int)/\Below w7.heap.size w7 wr/\∀a∈y.args.take j,¬(Zoi x.ins a<0/\Zoi u a<0)) (λjv _=>y.args.length-(intOf jv).toNat)
   case atStart=>exact⟨0,Nat.zero_le _,rfl,Below.refl _ _,λa I=>by simp at I⟩
   case round=>
    obtain⟨j,hj,rfl,E,ah⟩:=hrel;have Y:=hid ah;clear ah;have A:=hid E;clear z0 z2 Q R S T U;obtain⟨z0,z2⟩:=aB.out _ E;obtain⟨Q,R,S,T,U⟩:=C.out _ (f.out _ E);clear E
    by_cases a6:j<y.args.length
    ·obtain⟨a,I⟩:∃a,y.args[j]? =some a:=⟨y.args[j],List.getElem?_eq_getElem a6⟩
     obtain⟨ab,ao,af,ag⟩:=bi.out j a I;have z5:=ag _ A.out;subst af;have a5:(j:Int)<(y.args.length:Int):=by omega
     have b0:(0:Int)<=(j:Int):=by omega
     have t:Hid (∀n,Below w7.heap.size w7 (wr.drewN n)):=by show ∀n,_;exact λn=>below_drewN A.out n
     obtain⟨r3,J⟩:∃r,Zoi x.ins a=r:=⟨_,rfl⟩;obtain⟨r4,K⟩:∃r,Zoi u a=r:=⟨_,rfl⟩;have F:Hid (∀n,Calls prog 64 #[.slice a1 x.ins.length c1,.string a] (wr.drewN n) λe d=>e = .returned (.int .i64 r3)/\d=wr.drewN n):=by show ∀n,_;rw[<-J];exact λn=>CI.out a _ (t.out n)
     have G:Hid (∀n,Calls prog 64 #[.slice la u.length lc,.string a] (wr.drewN n) λe d=>e = .returned (.int .i64 r4)/\d=wr.drewN n):=by show ∀n,_;rw[<-K];exact λn=>CK.out a _ (t.out n)
     have HA:=hid I;have ad:=hid J;have ae:=hid K;clear ag I J K;have au:Hid (¬(r3<0/\r4<0)->∀c∈y.args.take (j+1),¬(Zoi x.ins c<0/\Zoi u c<0)):=by
      show ¬_->∀c∈y.args.take (j+1),_;intro hn c D;rw[List.take_add_one,HA.out]at D
      rcases List.mem_append.1 D with D|D
      ·exact Y.out c D
      ·have:c=a:=by simpa using D
       rw[this,ad.out,ae.out];exact hn
     by_cases g8:r3<0
     ·have a0:decide (r3<0)=true:=decide_eq_true g8
      by_cases g9:r4<0
      ·go_wp2_with fail
       go_quiet ((go_at_call 64;first|with_reducible refine Calls.quiet_of_same (F.out _)|with_reducible refine Calls.quiet_of_same (G.out _)))
       all_goals go_wp2
       all_goals go_ret
       all_goals exact⟨Zbja M.out v.out (λh=>(h.2.2.2.2.1 k y HY.out).2.2 a (List.mem_of_getElem? HA.out) ⟨by rw[ad.out];exact g8,by rw[<-H.out,ae.out];exact g9⟩),g.out _ (f.out _ (t.out _))⟩
      ·go_wp2_with fail
       go_quiet ((go_at_call 64;first|with_reducible refine Calls.quiet_of_same (F.out _)|with_reducible refine Calls.quiet_of_same (G.out _)))
       all_goals go_wp2
       all_goals go_roundw
       case rel=>exact⟨j+1,by omega,by go_num,t.out _,au.out (λh=>by omega)⟩
       case measure=>simp[intOf];omega
     ·have a0:decide (r3<0)=false:=decide_eq_false g8
      go_wp2_with fail
      go_quiet ((go_at_call 64;first|with_reducible refine Calls.quiet_of_same (F.out _)|with_reducible refine Calls.quiet_of_same (G.out _)))
      all_goals go_wp2
      all_goals go_roundw
      case rel=>exact⟨j+1,by omega,by go_num,t.out _,au.out (λh=>by omega)⟩
      case measure=>simp[intOf];omega
    ·have a5:¬(j:Int)<(y.args.length:Int):=by omega
     have bu:Hid (∀(j:Nat) z,j<k+1->x.steps[j]? =some z->Zcd x j z):=by
      show ∀(j:Nat) z,_;intro i z hi hz
      rcases Nat.lt_or_ge i k with h|h
      ·exact aJ.out i z h hz
      ·obtain rfl:i=k:=by omega
       rw[HY.out]at hz;injection hz with hz
       rw[<-hz];refine⟨by rw[aE.out];omega,by rw[<-H.out,aF.out];omega,?_⟩;rw[<-H.out];have:=Y.out;rw[List.take_of_length_le (by omega)]at this;exact this
     have a7:=aC.out.below A.out;obtain⟨v9,w9,ba,aY,aR⟩:=Zbka (w:=wr.alloc (.cells #[.string y.out] 9)) (ty:=47) (ys:=[y.out]) (a7.below ((Below.refl _ _).alloc (Nat.le_refl _) _)) (Zbik (alloc_at wr _)) (by have:=b3;simp only[List.length_cons,List.length_nil];omega) (HU.out _ (.cells #[.string y.out] 9) (f.out _ A.out)).size;have br:=hid ba;have bq:=hid aY;have bh:Hid (Below W1.heap.size W1 w9):=by
      show Below _ _ _;exact Zfl (HU.out _ (.cells #[.string y.out] 9) (f.out _ A.out)) aR (HU.out _ (.cells #[.string y.out] 9) (f.out _ A.out)).size (λk hk=>(World.ownsRow.lt a7 k hk).1)
     clear ba aY aR a7
     go_wp2_with (at_builtin;refine Zbud (by rfl) _ _ 47 (by rfl) (by rfl) (by rfl) br.out ?_)
     go_roundw
     case rel=>exact⟨k+1,u ++ [y.out],by omega,by rw[List.length_append,bl.out];rfl,by go_num,bq.out,bh.out,by rw[H.out];exact Zbdj HY.out,bu.out⟩
     case measure=>simp[intOf];omega
  ·have bz:¬(k:Int)<(x.steps.length:Int):=by omega
   have CI:Hid (∀s w',Below X.heap.size X w'->Calls prog 64 #[.slice a1 x.ins.length c1,.string s] w' λe d=>e = .returned (.int .i64 (Zoi x.ins s))/\d=w'):=by show ∀s w',_;exact λs w' l=>aA.out s w' (W.out.trans (l.mono W.out.size))
   have CK:Hid (∀s w',Below X.heap.size X w'->Calls prog 64 #[.slice la u.length lc,.string s] w' λe d=>e = .returned (.int .i64 (Zoi u s))/\d=w'):=by show ∀s w',_;exact λs w' l=>Zhe _ _ s w' (av.out.strsA.isStrs.below l)
   have f:Hid (∀w',Below X.heap.size X w'->Below W1.heap.size W1 w'):=by show ∀w',_;exact λw' l=>W.out.trans (l.mono W.out.size)
   go_wp2_with fail
   go_loopw [7] (λjv wr=>∃j:Nat,j<=x.outs.length/\jv = .int .i64 (j:Int)/\Below X.heap.size X wr/\∀a∈x.outs.take j,Zoi x.ins a<0/\0<=Zoi u a) (λjv _=>x.outs.length-(intOf jv).toNat)
   case atStart=>exact⟨0,Nat.zero_le _,rfl,Below.refl _ _,λa I=>by simp at I⟩
   case round=>
    obtain⟨j,hj,rfl,E,ah⟩:=hrel;have Y:=hid ah;clear ah;have A:=hid E;clear Q R S T U;obtain⟨Q,R,S,T,U⟩:=C.out _ (f.out _ E);clear E
    by_cases a6:j<x.outs.length
    ·obtain⟨a,I⟩:∃a,x.outs[j]? =some a:=⟨x.outs[j],List.getElem?_eq_getElem a6⟩
     obtain⟨ab,ao,af,ag⟩:=aD.out j a I;have z5:=ag _ (f.out _ A.out);subst af;have a5:(j:Int)<(x.outs.length:Int):=by omega
     have b0:(0:Int)<=(j:Int):=by omega
     have t:Hid (∀n,Below X.heap.size X (wr.drewN n)):=by show ∀n,_;exact λn=>below_drewN A.out n
     obtain⟨r3,J⟩:∃r,Zoi x.ins a=r:=⟨_,rfl⟩;obtain⟨r4,K⟩:∃r,Zoi u a=r:=⟨_,rfl⟩;have F:Hid (∀n,Calls prog 64 #[.slice a1 x.ins.length c1,.string a] (wr.drewN n) λe d=>e = .returned (.int .i64 r3)/\d=wr.drewN n):=by show ∀n,_;rw[<-J];exact λn=>CI.out a _ (t.out n)
     have G:Hid (∀n,Calls prog 64 #[.slice la u.length lc,.string a] (wr.drewN n) λe d=>e = .returned (.int .i64 r4)/\d=wr.drewN n):=by show ∀n,_;rw[<-K];exact λn=>CK.out a _ (t.out n)
     have HA:=hid I;have ad:=hid J;have ae:=hid K;have bk:Hid (u=Zbdi x x.steps.length):=by show u=_;rw[H.out];congr 1;omega
     clear ag I J K
     by_cases g8:0<=r3
     ·have a0:decide (0<=r3)=true:=decide_eq_true g8
      go_wp2_with fail
      go_quiet ((go_at_call 64;first|with_reducible refine Calls.quiet_of_same (F.out _)|with_reducible refine Calls.quiet_of_same (G.out _)))
      all_goals go_wp2
      all_goals go_ret
      all_goals exact⟨Zbja M.out v.out (λh=>by have:=(h.2.2.2.2.2 a (List.mem_of_getElem? HA.out)).1;rw[ad.out]at this;omega),g.out _ (f.out _ (t.out _))⟩
     ·have a0:decide (0<=r3)=false:=decide_eq_false g8
      by_cases g9:r4<0
      ·go_wp2_with fail
       go_quiet ((go_at_call 64;first|with_reducible refine Calls.quiet_of_same (F.out _)|with_reducible refine Calls.quiet_of_same (G.out _)))
       all_goals go_wp2
       all_goals go_ret
       all_goals exact⟨Zbja M.out v.out (λh=>by have:=(h.2.2.2.2.2 a (List.mem_of_getElem? HA.out)).2;rw[<-bk.out,ae.out]at this;omega),g.out _ (f.out _ (t.out _))⟩
      ·go_wp2_with fail
       go_quiet ((go_at_call 64;first|with_reducible refine Calls.quiet_of_same (F.out _)|with_reducible refine Calls.quiet_of_same (G.out _)))
       all_goals go_wp2
       all_goals go_roundw
       case rel=>
        refine⟨j+1,by omega,by go_num,t.out _,?_⟩;intro c D;rw[List.take_add_one,HA.out]at D
        rcases List.mem_append.1 D with D|D
        ·exact Y.out c D
        ·have:c=a:=by simpa using D
         rw[this,ad.out,ae.out];exact⟨by omega,by omega⟩
       case measure=>simp[intOf];omega
    ·have a5:¬(j:Int)<(x.outs.length:Int):=by omega
     go_wp2;go_ret;refine⟨Zbjd M.out v.out ⟨bm.out,bn.out,bo.out,bp.out,λi z hz=>aJ.out i z (by have:=(List.getElem?_eq_some_iff.1 hz).1;omega) hz,?_⟩,g.out _ (f.out _ A.out)⟩;rw[show Zbdi x x.steps.length=u by rw[H.out];congr 1;omega];have:=Y.out;rw[List.take_of_length_le (by omega)]at this;exact this
open Go.Lib
abbrev ValT:=Bool×ByteArray
def noV:ValT:=(false,⟨#[]⟩)
def Zox:List ByteArray->Bool
 | []=>true
 | y::_=> !(y.toList==([]:List UInt8))
def mayB (x:StepS):Bool:=decide (1<=x.op/\x.op<=9)&&decide ((x.args.length:Int)=naF x.op x.args.length)&&decide ((x.lits.length:Int)=nlF x.op)&&(decide (x.op≠8)||Zox x.lits)&&decide (0<=x.n/\x.n<=2000) &&
 (decide (x.op=9)||decide (x.n=0))&&x.lits.all λl=>decide (l.size<=100)
theorem Zyt (x:StepS):mayB x=true↔MayX x:=by
 unfold mayB MayX;simp only[Bool.and_eq_true,decide_eq_true_eq,Bool.or_eq_true,List.all_eq_true];have e:(x.op≠8\/Zox x.lits=true)↔(x.op=8->∀y,x.lits[0]? =some y->(y.toList==([]:List UInt8))=false):=by
  by_cases h:x.op=8
  ·cases l:x.lits with
   | nil=>simp[Zox]
   | cons y r=>simp[Zox,h]
  ·simp[h]
 rw[e];constructor
 ·rintro⟨⟨⟨⟨⟨⟨a,b⟩,c⟩,d⟩,f⟩,g⟩,i⟩;exact⟨a,b,c,d,f.1,f.2,g,i⟩
 ·rintro⟨a,b,c,d,j,k,g,i⟩;exact⟨⟨⟨⟨⟨⟨a,b⟩,c⟩,d⟩,⟨j,k⟩⟩,g⟩,i⟩
theorem Zok {xs:List ByteArray} {s:ByteArray}:Zoi xs s<0↔s∉xs:=by
 rcases Zom xs s with⟨h,a⟩|⟨k,h,a,_⟩
 ·rw[h];exact⟨λ_ c=>by obtain⟨j,b⟩:=List.getElem?_of_mem c;exact a j b,λ_=>by decide⟩
 ·rw[h];exact⟨λe=>absurd e (by omega),λe=>absurd (List.mem_of_getElem? a) e⟩
theorem Zoj {xs:List ByteArray} {s:ByteArray}:0<=Zoi xs s↔s∈xs:=by
 have:=@Zok xs s;constructor
 ·intro h;exact Classical.byContradiction λe=>by have:=this.2 e;omega
 ·intro h;exact Int.not_lt.1 λe=>this.1 e h
theorem Zcdy {xs:List ByteArray} {s:ByteArray} (h:0<=Zoi xs s):xs[(Zoi xs s).toNat]? =some s/\∀j<(Zoi xs s).toNat,xs[j]? ≠some s:=by
 rcases Zom xs s with⟨a,_⟩|⟨k,a,b,c⟩
 ·omega
 ·rw[a];exact⟨b,c⟩
theorem Zol {xs:List ByteArray} {s:ByteArray} {k:Nat} (h:xs[k]? =some s) (a:∀j<k,xs[j]? ≠some s):Zoi xs s=(k:Int):=
 Zop (Zom xs s) (.inr ⟨k,rfl,h,a⟩)
def setE (e:ByteArray->ValT) (k:ByteArray) (v:ValT):ByteArray->ValT:=λn=>if n=k then v else e n
def byE:List ByteArray->List ValT->(ByteArray->ValT)->ByteArray->ValT
 | k::ks,v::vs,e=>byE ks vs (setE e k v)
 | _,_,e=>e
def Zbkt:Go.Shelf.Ren:=⟨fun|6=>114|8=>131|10=>78|n=>n,fun|0=>0|3=>3|4=>4|22=>47|23=>9|25=>121|n=>n,λn=>n⟩
theorem lSf8:Go.Proofs.SlLaysH.n8 prog Zbkt:={
 mixed:=by kernel_rfl
 f6:=⟨"slices.IndexFunc[[]string,string]",by decide,func114.trans (congrArg some (by kernel_rfl))⟩
 f8:=⟨"slices.ContainsFunc[[]string,string]",by decide,func131.trans (congrArg some (by kernel_rfl))⟩
 t0:=underlying0
 a0:=isAgg0
 z0:=sizeOf0
 v0:=zeroValue0
 t3:=underlying3
 a3:=isAgg3
 z3:=sizeOf3
 v3:=zeroValue3
 t4:=underlying4
 a4:=isAgg4
 z4:=sizeOf4
 v4:=zeroValue4
 t22:=underlying47
 a22:=isAgg47
 z22:=sizeOf47
 v22:=zeroValue47
 a23:=isAgg9
 z23:=sizeOf9
 t25:=underlying121
 a25:=isAgg121
 z25:=sizeOf121
 v25:=zeroValue121 }
theorem Zug (s:ByteArray) (w:World):Calls prog 213 #[.string s] w λe w'=>e = .returned (.bool (decide (100<s.size)))/\w'=w:=by
 go_enter func213,ntmps213
 go_wp2;go_ret;refine⟨?_,rfl⟩
 congr 2
 simp;omega
theorem Zto (a:Int) (w:World):Calls prog 147 #[.int .i64 a] w λe w'=>e = .returned (.bool (decide (1<=a/\a<=9)))/\w'=w:=by
 by_cases b:1<=a
 ·by_cases c:a<=9
  ·rw[decide_eq_true (show 1<=a/\a<=9 from⟨b,c⟩)]
   go_enter func147,ntmps147
   go_wp2;go_ret;exact⟨rfl,rfl⟩
  ·rw[decide_eq_false (show ¬(1<=a/\a<=9)from λh=>c h.2)]
   go_enter func147,ntmps147
   go_wp2;go_ret;exact⟨rfl,rfl⟩
 ·rw[decide_eq_false (show ¬(1<=a/\a<=9)from λh=>b h.1)]
  go_enter func147,ntmps147
  go_wp2;go_ret;exact⟨rfl,rfl⟩
def Zdp (x:StepS):Bool:=if x.op=5 then decide (x.args.length<=6)else if x.op=6 then decide (x.args.length=0)else decide (x.args.length=1)
def Zxy (x:StepS):Bool:=if (x.lits.any λl=>decide (100<l.size))=true then false else if x.op=6\/x.op=7 then decide (x.lits.length=1)else if x.op=8 then decide (x.lits.length=2)&&Zox x.lits else decide (x.lits.length=0)
def numB (x:StepS):Bool:=if x.op=9 then decide (0<=x.n)&&decide (x.n<=2000)else decide (x.n=0)
theorem Zzc (x:StepS):(decide (1<=x.op/\x.op<=9)&&Zdp x&&Zxy x&&numB x)=mayB x:=by
 obtain⟨r,g,c,a,n⟩:=x;unfold mayB Zdp Zxy numB naF nlF;simp only;have b:(a.any λl=>decide (100<l.size)) = !(a.all λl=>decide (l.size<=100)):=by
  rw[List.all_eq_not_any_not,Bool.not_not]
  congr 1
  funext l
  rw[Bool.eq_iff_iff];simp
 rw[b];obtain⟨q,i⟩:∃q,(a.all λl=>decide (l.size<=100))=q:=⟨_,rfl⟩;obtain⟨f,h⟩:∃f,Zox a=f:=⟨_,rfl⟩;rw[i,h];obtain⟨na,d⟩:∃na,c.length=na:=⟨_,rfl⟩;obtain⟨nl,e⟩:∃nl,a.length=nl:=⟨_,rfl⟩;rw[d,e];clear i h d e b;rw[Bool.eq_iff_iff]
 cases q
 ·simp
 ·cases f<;>by_cases j:g=5<;>by_cases k:g=6<;>by_cases m:g=7<;>by_cases o:g=8<;>by_cases p:g=9<;>first|omega|(simp[j,k,m,o,p];try omega)
theorem Zbnk (w:World) (x:StepS) (a b:Option Addr) (c d:Nat) {W:World} (k:Below (w.heap.size+1) (w.alloc (.cells #[.string x.out,.int .i64 x.op,.slice a x.args.length c,.slice b x.lits.length d,.int .i64 x.n] 58)) W):
  W.cell? ⟨w.heap.size,0,none⟩=some (.string x.out)/\W.cell? ⟨w.heap.size,1,none⟩=some (.int .i64 x.op)/\W.cell? ⟨w.heap.size,2,none⟩=some (.slice a x.args.length c)/\W.cell? ⟨w.heap.size,3,none⟩=some (.slice b x.lits.length d)/\W.cell? ⟨w.heap.size,4,none⟩=some (.int .i64 x.n):=by
 have h:=(k.block w.heap.size (by omega)).trans (alloc_at w _);obtain⟨e,f,g,i,j,_⟩:=cells5 h;exact⟨e,f,g,i,j⟩
theorem Zdq (x:StepS) (d f:Option Addr) (g h:Nat) (w:World) (j:x.args.length<=maxLen):
  Calls prog 148 #[.agg #[.string x.out,.int .i64 x.op,.slice d x.args.length g,.slice f x.lits.length h,.int .i64 x.n]] w λe w'=>e = .returned (.bool (Zdp x))/\Below w.heap.size w w':=by
 obtain⟨q,s,t,u,v⟩:=Zbnk w x d f g h (Below.refl _ _);have m:Below w.heap.size w (w.alloc (.cells #[.string x.out,.int .i64 x.op,.slice d x.args.length g,.slice f x.lits.length h,.int .i64 x.n] 58)):=(Below.refl _ _).alloc (Nat.le_refl _) _;have c:=hid m;obtain⟨r,a⟩:∃r,Zdp x=r:=⟨_,rfl⟩;rw[a];unfold Zdp at a;obtain⟨y,p,i,o,n⟩:=x;simp only at q s t u v a c j⊢;clear m;unfold maxLen at j
 by_cases k:p=5
 ·subst k
  rw[if_pos rfl]at a
  go_enter func148,ntmps148
  go_wp2;go_ret;refine⟨congrArg (λb:Bool=>Ending.returned (Value.bool b)) ?_,c.out⟩;rw[<-a,Bool.eq_iff_iff];simp only[decide_eq_true_eq];omega
 ·by_cases l:p=6
  ·subst l
   rw[if_neg (by decide),if_pos rfl]at a
   go_enter func148,ntmps148
   go_wp2;go_ret;refine⟨congrArg (λb:Bool=>Ending.returned (Value.bool b)) ?_,c.out⟩;rw[<-a,Bool.eq_iff_iff];simp only[beq_iff_eq,decide_eq_true_eq];omega
  ·rw[if_neg k,if_neg l]at a
   go_enter func148,ntmps148
   go_wp2;go_ret;refine⟨congrArg (λb:Bool=>Ending.returned (Value.bool b)) ?_,c.out⟩;rw[<-a,Bool.eq_iff_iff];simp only[beq_iff_eq,decide_eq_true_eq];omega
theorem Zbby (x:StepS) (d f:Option Addr) (g h:Nat) (w:World):
  Calls prog 150 #[.agg #[.string x.out,.int .i64 x.op,.slice d x.args.length g,.slice f x.lits.length h,.int .i64 x.n]] w λe w'=>e = .returned (.bool (numB x))/\Below w.heap.size w w':=by
 obtain⟨p,q,s,t,u⟩:=Zbnk w x d f g h (Below.refl _ _);have m:Below w.heap.size w (w.alloc (.cells #[.string x.out,.int .i64 x.op,.slice d x.args.length g,.slice f x.lits.length h,.int .i64 x.n] 58)):=(Below.refl _ _).alloc (Nat.le_refl _) _;have c:=hid m;obtain⟨r,a⟩:∃r,numB x=r:=⟨_,rfl⟩;rw[a];unfold numB at a;obtain⟨y,v,j,o,n⟩:=x;simp only at p q s t u a c⊢;clear m
 by_cases l:v=9
 ·subst l
  rw[if_pos rfl]at a
  by_cases i:0<=n
  ·by_cases k:n<=2000
   ·rw[decide_eq_true i,decide_eq_true k]at a
    subst a
    go_enter func150,ntmps150
    go_wp2;go_ret;exact⟨rfl,c.out⟩
   ·rw[decide_eq_true i,decide_eq_false k]at a
    subst a
    go_enter func150,ntmps150
    go_wp2;go_ret;exact⟨rfl,c.out⟩
  ·rw[decide_eq_false i,Bool.false_and]at a
   subst a
   go_enter func150,ntmps150
   go_wp2;go_ret;exact⟨rfl,c.out⟩
 ·rw[if_neg l]at a
  go_enter func150,ntmps150
  go_wp2;go_ret;refine⟨congrArg (λb:Bool=>Ending.returned (Value.bool b)) ?_,c.out⟩;rw[<-a,Bool.eq_iff_iff];simp only[beq_iff_eq,decide_eq_true_eq]
theorem Zkn (v:Value) (xs:List ByteArray) (w:World) (h:IsStrs w v xs):
  Calls prog 131 #[v,.func (.func 213) #[] #[]] w λe w'=>e = .returned (.bool (xs.any λl=>decide (100<l.size)))/\∃q,w'=w.drewN q:=by
 obtain⟨a,c,rfl,p,d,k⟩:=h
 by_cases f:xs = []
 ·subst f
  have:=AnyE.slices_ContainsFunc_empty lSf8 a c (.func (.func 213) #[] #[]) w;refine Calls.mono this ?_;rintro e w' ⟨rfl,rfl⟩;exact⟨rfl,0,rfl⟩
 ·obtain⟨b,o,rfl,r,m⟩:=k f
  have n:PredAt prog 213 #[] Value.string (λl:ByteArray=>decide (100<l.size)) w:=λW x _=>(Zug x W).mono λe w' ⟨h,i⟩=>⟨h,0,i⟩
  have:=AnyE.slices_ContainsFunc lSf8 Value.string (λl:ByteArray=>decide (100<l.size)) 213 #[] (enters_of func213 (by kernel_rfl) rfl) b o xs.length c xs w n (Nat.le_refl _) (by unfold maxLen at d;omega) (λj g=>by rw[getElem!_pos xs j g];exact m j _ (List.getElem?_eq_getElem g));rw[List.take_length]at this;exact this
theorem Zxz (x:StepS) (B m:Option Addr) (C p:Nat) (w:World) (E:IsStrs w (.slice m x.lits.length p) x.lits):
  Calls prog 149 #[.agg #[.string x.out,.int .i64 x.op,.slice B x.args.length C,.slice m x.lits.length p,.int .i64 x.n]] w λe w'=>e = .returned (.bool (Zxy x))/\Below w.heap.size w w':=by
 obtain⟨H,D,I,u,J⟩:=Zbnk w x B m C p (Below.refl _ _);have v:Below w.heap.size w (w.alloc (.cells #[.string x.out,.int .i64 x.op,.slice B x.args.length C,.slice m x.lits.length p,.int .i64 x.n] 58)):=(Below.refl _ _).alloc (Nat.le_refl _) _;obtain⟨r,c⟩:∃r,Zxy x=r:=⟨_,rfl⟩;rw[c];unfold Zxy at c;obtain⟨P,k,t,a,n⟩:=x;simp only at H D I u J c v E⊢;obtain⟨X,Y,e,V,M,f⟩:=Zua E
 cases e
 obtain⟨W1,i⟩:∃W1,w.alloc (.cells #[.string P,.int .i64 k,.slice B t.length C,.slice m a.length p,.int .i64 n] 58)=W1:=⟨_,rfl⟩;have G:=Zkn _ a W1 (by rw[<-i];exact E.below v);rw[i]at H D I u J v;have Q:=hid v;have U:=hid f;have s:=hid i;unfold maxLen at M;clear v f i E;obtain⟨g,T⟩:∃g,(a.any λl=>decide (100<l.size))=g:=⟨_,rfl⟩;rw[T]at G c;clear T
 go_enter func149,ntmps149
 go_wp2_with fail
 rw[s.out]
 go_wp2_with fail
 refine G.mono ?_;rintro e w2 ⟨rfl,q,rfl⟩;have d:Hid (Below w.heap.size w (W1.drewN q)):=hid (below_drewN Q.out q);obtain⟨W2,j⟩:∃W2,W1.drewN q=W2:=⟨_,rfl⟩;replace D:W2.cell? ⟨w.heap.size,1,none⟩=some (.int .i64 k):=by rw[<-j];exact D
 replace u:W2.cell? ⟨w.heap.size,3,none⟩=some (.slice m a.length p):=by rw[<-j];exact u
 rw[j]at d⊢;clear H I J G s Q j
 cases g
 ·rw[if_neg (by decide)]at c
  by_cases h:k=6\/k=7
  ·rw[if_pos h]at c
   rcases h with rfl|rfl
   ·go_wp2
    go_ret;refine⟨congrArg (λb:Bool=>Ending.returned (Value.bool b)) ?_,d.out⟩;rw[<-c,Bool.eq_iff_iff];simp only[beq_iff_eq,decide_eq_true_eq];omega
   ·go_wp2
    go_ret;refine⟨congrArg (λb:Bool=>Ending.returned (Value.bool b)) ?_,d.out⟩;rw[<-c,Bool.eq_iff_iff];simp only[beq_iff_eq,decide_eq_true_eq];omega
  ·rw[if_neg h]at c
   have Z:¬k=6:=λe=>h (.inl e)
   have n7:¬k=7:=λe=>h (.inr e)
   by_cases R:k=8
   ·subst R
    rw[if_pos rfl]at c
    by_cases K:a.length=2
    ·obtain⟨y,F⟩:∃y,a[0]? =some y:=⟨a[0],List.getElem?_eq_getElem (by omega)⟩
     obtain⟨b,o,L,S⟩:=U.out 0 y F;have O:=S _ d.out;subst L;have A:Zox a = !(y.toList==([]:List UInt8)):=by
      cases a with
      | nil=>simp at F
      | cons z l=>
       obtain rfl:z=y:=by simpa using F
       rfl
     rw[A,K]at c;rw[K]at u;simp only[Nat.add_zero]at O;clear S F A;go_wp2;go_ret;refine⟨congrArg (λb:Bool=>Ending.returned (Value.bool b)) ?_,d.out⟩;rw[<-c];simp
    ·rw[decide_eq_false K,Bool.false_and]at c
     subst c;have W:¬(a.length:Int)=2:=by omega
     go_wp2;go_ret;exact⟨rfl,d.out⟩
   ·rw[if_neg R]at c
    go_wp2;go_ret;refine⟨congrArg (λb:Bool=>Ending.returned (Value.bool b)) ?_,d.out⟩;rw[<-c,Bool.eq_iff_iff];simp only[beq_iff_eq,decide_eq_true_eq];omega
 ·rw[if_pos rfl]at c
  subst c;go_wp2;go_ret;exact⟨rfl,d.out⟩
theorem Zbnr (x:StepS) (i j:Option Addr) (k l:Nat) (w:World) (M:IsStrs w (.slice i x.args.length k) x.args) (O:IsStrs w (.slice j x.lits.length l) x.lits):
  Calls prog 107 #[.agg #[.string x.out,.int .i64 x.op,.slice i x.args.length k,.slice j x.lits.length l,.int .i64 x.n]] w λe w'=>e = .returned (.bool (mayB x))/\Below w.heap.size w w':=by
 have r:Below w.heap.size w (w.alloc (.cells #[.string x.out,.int .i64 x.op,.slice i x.args.length k,.slice j x.lits.length l,.int .i64 x.n] 58)):=(Below.refl _ _).alloc (Nat.le_refl _) _;have q:=λW (h:Below (w.heap.size+1) (w.alloc (.cells #[.string x.out,.int .i64 x.op,.slice i x.args.length k,.slice j x.lits.length l,.int .i64 x.n] 58)) W)=>Zbnk w x i j k l h
 have P:x.args.length<=maxLen:=by obtain⟨_,_,e,t,u,_⟩:=M;cases e;omega
 rw[<-Zzc x];have p:=λW=>Zto x.op W
 have v:=λW=>Zdq x i j k l W P
 have z:=λW=>Zbby x i j k l W
 obtain⟨W1,f⟩:∃W1,w.alloc (.cells #[.string x.out,.int .i64 x.op,.slice i x.args.length k,.slice j x.lits.length l,.int .i64 x.n] 58)=W1:=⟨_,rfl⟩;have o:W1.heap.size=w.heap.size+1:=by rw[<-f];simp
 rw[f]at r q;rw[<-o]at q;have y:=λW (h:Below W1.heap.size W1 W)=>Zxz x i j k l W (O.below (r.trans (h.mono (by omega))))
 obtain⟨V,t⟩:∃b,decide (1<=x.op/\x.op<=9)=b:=⟨_,rfl⟩;obtain⟨X,u⟩:∃b,Zdp x=b:=⟨_,rfl⟩;obtain⟨Y,H⟩:∃b,Zxy x=b:=⟨_,rfl⟩;obtain⟨b4,I⟩:∃b,numB x=b:=⟨_,rfl⟩;rw[t]at p;rw[u]at v;rw[H]at y;rw[I]at z;rw[t,u,H,I];obtain⟨Z,op,L,Q,n⟩:=x;simp only at p v y z q r f⊢;have B:=hid v;have K:=hid y;have T:=hid z;have m:=hid r;have s:=hid q;have S:=hid f;have HS:=hid o;clear v y z r q f t u H I M O P o
 go_enter func107,ntmps107
 go_wp2_with fail
 rw[S.out];have U:Hid (Below W1.heap.size W1 W1):=hid (Below.refl _ _);obtain⟨C,D,E,F,G⟩:=s.out W1 U.out
 cases V
 ·go_wp2_with (go_at_call 147;refine(p _).mono ?_;rintro e J ⟨rfl,rfl⟩)
  go_ret;exact⟨rfl,m.out⟩
 cases X
 ·go_wp2_with (first
   | (go_at_call 147;refine(p _).mono ?_;rintro e J ⟨rfl,rfl⟩)
   | (go_at_call 148;refine(B.out _).mono ?_;rintro e R ⟨rfl,c⟩;have a:=hid c;clear c))
  go_ret;exact⟨rfl,m.out.trans (a.out.mono m.out.size)⟩
 cases Y
 ·go_wp2_with (first
   | (go_at_call 147;refine(p _).mono ?_;rintro e J ⟨rfl,rfl⟩)
   | (go_at_call 148;refine(B.out _).mono ?_;rintro e R ⟨rfl,c⟩;have a:=hid c;obtain⟨C,D,E,F,G⟩:=s.out _ a.out;clear c)
   | (go_at_call 149;refine(K.out _ a.out).mono ?_;rintro e w4 ⟨rfl,g⟩;have d:=hid (a.out.trans (g.mono a.out.size));clear g))
  go_ret;exact⟨rfl,m.out.trans (d.out.mono m.out.size)⟩
 ·go_wp2_with (first
   | (go_at_call 147;refine(p _).mono ?_;rintro e J ⟨rfl,rfl⟩)
   | (go_at_call 148;refine(B.out _).mono ?_;rintro e R ⟨rfl,c⟩;have a:=hid c;obtain⟨C,D,E,F,G⟩:=s.out _ a.out;clear c)
   | (go_at_call 149;refine(K.out _ a.out).mono ?_;rintro e w4 ⟨rfl,g⟩;have d:=hid (a.out.trans (g.mono a.out.size));obtain⟨C,D,E,F,G⟩:=s.out _ d.out;clear g)
   | (go_at_call 150;refine(T.out _).mono ?_;rintro e w5 ⟨rfl,hb5⟩;have A:=hid (d.out.trans (hb5.mono d.out.size));clear hb5))
  go_ret;refine⟨?_,m.out.trans (A.out.mono m.out.size)⟩;simp only[Bool.true_and];rfl
open Go.Maps
def inS (L:List ByteArray) (k:ByteArray):Bool:=L.any λx=>decide (x=k)
theorem Zsj {L:List ByteArray} {k:ByteArray}:inS L k=true↔k∈L:=by
 unfold inS;rw[List.any_eq_true];constructor
 ·rintro⟨x,hx,e⟩;rw[<-of_decide_eq_true e];exact hx
 ·exact λh=>⟨k,h,by simp⟩
def insS (L:List ByteArray) (k:ByteArray):List ByteArray:=if inS L k=true then L else L ++ [k]
def addS (L:List ByteArray) (ks:List ByteArray):List ByteArray:=ks.foldl insS L
theorem Ztc {L:List ByteArray} {k a:ByteArray}:a∈insS L k↔a∈L\/a=k:=by
 unfold insS;split
 ·rename_i h
  have h:=Zsj.1 h;constructor
  ·exact .inl
  ·rintro(b|rfl)
   ·exact b
   ·exact h
 ·simp
theorem Ztb (L:List ByteArray) (k:ByteArray):(insS L k).length<=L.length+1:=by unfold insS;split<;>simp
theorem Zcp {ks L:List ByteArray} {a:ByteArray}:a∈addS L ks↔a∈L\/a∈ks:=by
 unfold addS
 induction ks generalizing L with
 | nil=>simp
 | cons k ks b=>rw[List.foldl_cons,b,Ztc,List.mem_cons,or_assoc]
theorem Zco (ks L:List ByteArray):(addS L ks).length<=L.length+ks.length:=by
 unfold addS
 induction ks generalizing L with
 | nil=>simp
 | cons k ks a=>rw[List.foldl_cons,List.length_cons];have:=a (insS L k);have:=Ztb L k;omega
theorem Zcq {ks:List ByteArray} (L:List ByteArray) {i:Nat} {k:ByteArray} (h:ks[i]? =some k):addS L (ks.take (i+1))=insS (addS L (ks.take i)) k:=by
 unfold addS;rw[List.take_add_one,h,List.foldl_append];rfl
def SetIs (w:World) (b:Nat) (L:List ByteArray):Prop:=∃m,MapIs prog 9 w b m/\(∀k,hasM m k=inS L k)/\(∀k,getM m k (.agg #[]) = .agg #[])/\m.length=L.length
theorem SetIs.lt {w:World} {b:Nat} {L:List ByteArray} (h:SetIs w b L):b<w.heap.size:=by obtain⟨m,a,_⟩:=h;exact a.lt
theorem SetIs.heap {w w':World} {b:Nat} {L:List ByteArray} (h:SetIs w b L) (c:w'.heap[b]? =w.heap[b]?):SetIs w' b L:=by
 obtain⟨m,a,r⟩:=h;exact⟨m,a.heap c,r⟩
theorem SetIs.below {B:Nat} {w w':World} {b:Nat} {L:List ByteArray} (h:SetIs w b L) (c:Below B w w') (a:b<B):SetIs w' b L:=h.heap (c.block b a)
theorem Zbkr (w:World):SetIs (w.alloc (.map #[] 0)) w.heap.size []:=⟨[],Zyj w _ _,λ_=>rfl,λ_=>rfl,rfl⟩
theorem SetIs.put {w:World} {b:Nat} {L:List ByteArray} {t e:TypeId} (h:SetIs w b L) (p:prog.underlying t=some (.map 9 e)) (q:L.length<=4000000000000000) (k:ByteArray) (o:k.size<=maxLen):
  ∃w',(Instr.mapUpdate t (.map (some b)) (.string k) (.agg #[])).run prog w = .ok () w'/\SetIs w' b (insS L k)/\w.mapTurned w' b:=by
 obtain⟨m,f,g,j,i⟩:=h;obtain⟨w',r,n,c⟩:=f.put underlying9 p (by unfold maxLen;omega) k o (.agg #[]);refine⟨w',r,⟨_,n,λd=>?_,λd=>?_,?_⟩,c⟩
 ·rw[Zrm,g,Bool.eq_iff_iff]
  simp only[Bool.or_eq_true,decide_eq_true_eq,Zsj,Ztc];constructor
  ·rintro(rfl|h)
   ·exact .inr rfl
   ·exact .inl h
  ·rintro(h|rfl)
   ·exact .inr h
   ·exact .inl rfl
 ·by_cases a:k=d
  ·subst a;exact Zqj _ _ _ _
  ·rw[Zqi _ _ _ a];exact j d
 ·obtain⟨D,_,_,_,_,l⟩:=f
  rw[Zbfq l,g];unfold insS
  by_cases a:inS L k=true
  ·simp[a,i]
  ·simp[a,i]
theorem SetIs.look {w:World} {b:Nat} {L:List ByteArray} {t e:TypeId} (h:SetIs w b L) (g:prog.underlying t=some (.map 9 e)) (i:(zeroValue e).run prog w = .ok (.agg #[]) w) (k:ByteArray) (f:k.size<=maxLen):
  (Instr.lookup t (.map (some b)) (.string k) true).run prog w = .ok (.tuple #[.agg #[],.bool (inS L k)]) w:=by
 obtain⟨m,a,c,d,j⟩:=h;rw[a.look_ok underlying9 g i k f,c,d]
theorem SetIs.len {w:World} {b:Nat} {L:List ByteArray} {t e:TypeId} (h:SetIs w b L) (d:prog.underlying t=some (.map 9 e)) (ty:TypeId):(Builtin.len_ #[t] ty #[.map (some b)]).run prog w = .ok (.int .i64 (L.length:Int)) w:=by
 obtain⟨m,a,_,_,c⟩:=h;rw[a.len d ty,c]
theorem Zrh (a:World) (row:Option Nat):a.grownBy a row:=⟨rfl,rfl,rfl,Nat.le_refl _,λ_ _ _=>rfl⟩
