import Derived.Test.YtphjfaoghphleaaGreatDoorMal
set_option maxRecDepth 100000
set_option maxHeartbeats 8000000
namespace Go.Proofs.YtphjfaoghphleaaGreatDoor
open Go.Lib (hid)
open Go.Proofs.Tryz Go.RowKit Go.Shelf
def naF (op:Int) (len:Nat):Int:=if op=5 then min (len:Int) 6 else if op=6 then 0 else 1
def nlF (op:Int):Int:=if op=6\/op=7 then 1 else if op=8 then 2 else 0
def MayX (x:StepS):Prop:=(1<=x.op/\x.op<=9)/\(x.args.length:Int)=naF x.op x.args.length/\(x.lits.length:Int)=nlF x.op/\(x.op=8->∀y,x.lits[0]? =some y->(y.toList==([]:List UInt8))=false)/\0<=x.n/\x.n<=2000/\(x.op=9\/x.n=0)/\∀l∈x.lits,l.size<=100
def Zbg (x:StepS) (e:Ending):Prop:=∃b,e = .returned (.bool b)/\(b=true↔MayX x)
def ArgQ (op:Int) (len:Nat) (na nl:Int):Prop:=naF op len=na/\nlF op=nl
theorem Zyy {x:StepS} (h:¬MayX x):Zbg x (.returned (.bool false)):=⟨false,rfl,(λe=>by cases e),λa=>(h a).elim⟩
theorem Zyz {x:StepS} {b:Bool} (h:¬MayX x) (a:b=false):Zbg x (.returned (.bool b)):=by subst a;exact Zyy h
theorem Zza {x:StepS} (h:MayX x):Zbg x (.returned (.bool true)):=⟨true,rfl,λ_=>h,λ_=>rfl⟩
theorem Zhi (x:StepS) (va vl:Value) (w:World) (h:Zcc w [.string x.out,.int .i64 x.op,va,vl,.int .i64 x.n] x) (hs:SmallS x 1048576):
  Calls prog 118 #[.agg #[.string x.out,.int .i64 x.op,va,vl,.int .i64 x.n]] w λe w'=>Zbg x e/\Below w.heap.size w w':=by
 obtain⟨aq,ar,q,ha,s⟩:=h;simp only[List.cons.injEq,and_true,true_and]at q;obtain⟨rfl,rfl⟩:=q;have ai:=hs.args.1;have aj:=hs.lits.1;have P:=hs.lits.2;obtain⟨i,f,d,c,n⟩:=x;simp only at ha s ai aj P⊢;obtain⟨a1,c1,rfl,_,ao,_⟩:=Zua ha;obtain⟨a2,c2,rfl,_,ah,U⟩:=Zua s;obtain⟨o1,W⟩:∃o:Obj,o = .cells #[.string i,.int .i64 f,.slice a1 d.length c1,.slice a2 c.length c2,.int .i64 n] 58:=⟨_,rfl⟩;have p:Below w.heap.size w (w.alloc o1):=(Below.refl _ _).alloc (Nat.le_refl _) _;have B:=alloc_at w o1;have t:=Zfy B;obtain⟨W1,E⟩:∃W1,w.alloc o1=W1:=⟨_,rfl⟩;rw[E]at B p t;rw[W]at B E;have ab:Hid (∀w',Below W1.heap.size W1 w'->w'.cell? ⟨w.heap.size,1,none⟩=some (.int .i64 f)/\w'.cell? ⟨w.heap.size,2,none⟩=some (.slice a1 d.length c1)/\w'.cell? ⟨w.heap.size,3,none⟩=some (.slice a2 c.length c2)/\w'.cell? ⟨w.heap.size,4,none⟩=some (.int .i64 n)):=by
  show ∀w',_;intro w' hb;obtain⟨_,d1,d2,d3,d4,_⟩:=cells5 ((hb.block _ t).trans B);exact⟨d1,d2,d3,d4⟩
 have HL:Hid (∀(k:Nat) y,c[k]? =some y->∃b o,a2=some ⟨b,o,none⟩/\∀w',Below W1.heap.size W1 w'->w'.cell? ⟨b,o+k,none⟩=some (.string y)):=by
  show ∀(k:Nat) y,_;intro k y C;obtain⟨b,o,e,O⟩:=U k y C;exact⟨b,o,e,λw' hw=>O w' (p.trans (hw.mono p.size))⟩
 have L:Hid (∀w',Below W1.heap.size W1 w'->Below w.heap.size w w'):=by show ∀w',_;exact λw' hw=>p.trans (hw.mono p.size)
 have S:=hid E;have ac:=hid P;clear ha s U p B t E W P hs o1
 by_cases A:1<=f/\f<=9
 ·go_enter func118,ntmps118
  go_upto_block 0 with fail
  go_cut [3,4] (λa b wx=>a = .int .i64 (naF f d.length)/\b = .int .i64 (nlF f)/\W1=wx)
  case first=>
   have ae:f=1\/f=2\/f=3\/f=4\/f=5\/f=6\/f=7\/f=8\/f=9:=by omega
   clear A
   rcases ae with rfl|rfl|rfl|rfl|rfl|rfl|rfl|rfl|rfl
   all_goals go_wp2_with fail
   all_goals go_meet
   all_goals exact⟨by simp[naF],by simp[nlF],S.out.symm⟩
  case rest=>
   obtain⟨rfl,rfl,rfl⟩:=hcut;obtain⟨na,u⟩:∃na,naF f d.length=na:=⟨_,rfl⟩;obtain⟨nl,v⟩:∃nl,nlF f=nl:=⟨_,rfl⟩;rw[u,v];have T:ArgQ f d.length na nl:=⟨u,v⟩;clear u v;obtain⟨d1,d2,d3,d4⟩:=ab.out W1 (Below.refl _ _);have m:=hid T;have K:=hid A;unfold maxLen at ah;clear T A
   go_wp2_with fail
   go_loopw [5] (λiv wr=>∃k:Nat,k<=c.length/\iv = .int .i64 (k:Int)/\(∀l∈c.take k,l.size<=100)/\W1=wr) (λiv _=>c.length-(intOf iv).toNat)
   case atStart=>exact⟨0,Nat.zero_le _,rfl,λl s=>by simp at s,rfl⟩
   case round=>
    obtain⟨k,hk,rfl,X,rfl⟩:=hrel;have R:=hid X;clear X;have g:=hid (L.out _ (Below.refl _ _))
    by_cases t:k<c.length
    ·obtain⟨y,C⟩:∃y,c[k]? =some y:=⟨c[k],List.getElem?_eq_getElem t⟩
     obtain⟨b,o,M,O⟩:=HL.out k y C;have V:=O _ (Below.refl _ _);subst M;have af:(k:Int)<(c.length:Int):=by omega
     have an:(0:Int)<=(k:Int):=by omega
     have al:=ac.out y (List.mem_of_getElem? C);obtain⟨z,hz⟩:∃z,y.size=z:=⟨_,rfl⟩;have HZ:=hid hz;have HY:=hid C;rw[hz]at al;clear O C
     by_cases am:100<z
     ·have hj:(100:Int)<(z:Int):=by omega
      have Q:Hid (¬MayX ⟨i,f,d,c,n⟩):=by
       show ¬_;intro h;have:=h.2.2.2.2.2.2.2 y (List.mem_of_getElem? HY.out);rw[HZ.out]at this;omega
      go_wp2;go_ret;exact⟨Zyy Q.out,L.out _ (Below.refl _ _)⟩
     ·have hj:¬(100:Int)<(z:Int):=by omega
      have ad:Hid (∀l∈c.take (k+1),l.size<=100):=by
       show ∀l∈c.take (k+1),_;intro l s;rw[List.take_add_one,HY.out]at s
       rcases List.mem_append.1 s with s|s
       ·exact R.out l s
       ·have:l=y:=by simpa using s
        rw[this,HZ.out];omega
      go_wp2;go_roundw
      case rel=>exact⟨k+1,by omega,by go_num,ad.out,trivial⟩
      case measure=>simp[intOf];omega
    ·have af:¬(k:Int)<(c.length:Int):=by omega
     have J:Hid (∀l∈c,l.size<=100):=by show ∀l∈c,_;have:=R.out;rw[List.take_of_length_le (by omega)]at this;exact this
     by_cases Y:(d.length:Int)=na
     ·by_cases Z:(c.length:Int)=nl
      ·by_cases h8:f=8
       ·subst h8
        have ag:c.length=2:=by
         have:=m.out.2;rw[show nlF 8=2 from rfl]at this;omega
        obtain⟨y,C⟩:∃y,c[0]? =some y:=⟨c[0],List.getElem?_eq_getElem (by omega)⟩;obtain⟨b,o,M,O⟩:=HL.out 0 y C;have V:=O _ (Below.refl _ _);rw[Nat.add_zero]at V;subst M;have ap:(0:Int)<(c.length:Int):=by omega
        obtain⟨q,hq⟩:∃q,(y.toList==([]:List UInt8))=q:=⟨_,rfl⟩;have D:=hid (And.intro C hq);clear O C ag
        cases q
        ·by_cases H:0<=n
         ·by_cases I:n<=2000
          ·by_cases r:n=0
           ·have G:Hid (MayX ⟨i,8,d,c,n⟩):=hid ⟨by show(1:Int)<=8/\8<=9;have:=K.out;omega,Y.trans m.out.1.symm,Z.trans m.out.2.symm,λ_ y' F=>by rw[D.out.1]at F;injection F with F;rw[<-F];exact D.out.2,H,I,.inr r,J.out⟩
            go_wp2;go_ret
            first|exact⟨Zza G.out,g.out⟩|exact⟨Zza (by have h:=G.out;rw[r]at h;exact h),g.out⟩
           ·have j:Hid (¬MayX ⟨i,8,d,c,n⟩):=hid λh=>(h.2.2.2.2.2.2.1).elim (λe=>absurd e (by show ¬(8:Int)=9;decide)) (λe=>r e)
            go_wp2;go_ret
            first|exact⟨Zyy j.out,g.out⟩|exact⟨Zyz j.out (by first|simpa using r|simp[h9,r]),g.out⟩
          ·have j:Hid (¬MayX ⟨i,8,d,c,n⟩):=hid λh=>I h.2.2.2.2.2.1
           go_wp2;go_ret;exact⟨Zyy j.out,g.out⟩
         ·have j:Hid (¬MayX ⟨i,8,d,c,n⟩):=hid λh=>H h.2.2.2.2.1
          go_wp2;go_ret;exact⟨Zyy j.out,g.out⟩
        ·have j:Hid (¬MayX ⟨i,8,d,c,n⟩):=hid λh=>by have:=h.2.2.2.1 rfl y D.out.1;rw[D.out.2]at this;cases this
         go_wp2;go_ret;exact⟨Zyy j.out,g.out⟩
       ·by_cases h9:f=9
        ·subst h9
         by_cases H:0<=n
         ·by_cases I:n<=2000
          ·have G:Hid (MayX ⟨i,9,d,c,n⟩):=hid ⟨by show(1:Int)<=9/\9<=9;have:=K.out;omega,Y.trans m.out.1.symm,Z.trans m.out.2.symm,λe=>absurd e (by show ¬(9:Int)=8;decide),H,I,.inl rfl,J.out⟩
           go_wp2;go_ret
           first|exact⟨Zza G.out,g.out⟩|exact⟨Zza (by have h:=G.out;rw[r]at h;exact h),g.out⟩
          ·have j:Hid (¬MayX ⟨i,9,d,c,n⟩):=hid λh=>I h.2.2.2.2.2.1
           go_wp2;go_ret;exact⟨Zyy j.out,g.out⟩
         ·have j:Hid (¬MayX ⟨i,9,d,c,n⟩):=hid λh=>H h.2.2.2.2.1
          go_wp2;go_ret;exact⟨Zyy j.out,g.out⟩
        ·by_cases H:0<=n
         ·by_cases I:n<=2000
          ·by_cases r:n=0
           ·have G:Hid (MayX ⟨i,f,d,c,n⟩):=hid ⟨by show(1:Int)<=f/\f<=9;have:=K.out;omega,Y.trans m.out.1.symm,Z.trans m.out.2.symm,λe=>absurd e h8,H,I,.inr r,J.out⟩
            go_wp2;go_ret
            first|exact⟨Zza G.out,g.out⟩|exact⟨Zza (by have h:=G.out;rw[r]at h;exact h),g.out⟩
           ·have j:Hid (¬MayX ⟨i,f,d,c,n⟩):=hid λh=>(h.2.2.2.2.2.2.1).elim (λe=>absurd e (by show ¬(f:Int)=9;exact h9)) (λe=>r e)
            go_wp2;go_ret
            first|exact⟨Zyy j.out,g.out⟩|exact⟨Zyz j.out (by first|simpa using r|simp[h9,r]),g.out⟩
          ·have j:Hid (¬MayX ⟨i,f,d,c,n⟩):=hid λh=>I h.2.2.2.2.2.1
           go_wp2;go_ret;exact⟨Zyy j.out,g.out⟩
         ·have j:Hid (¬MayX ⟨i,f,d,c,n⟩):=hid λh=>H h.2.2.2.2.1
          go_wp2;go_ret;exact⟨Zyy j.out,g.out⟩
      ·have j:Hid (¬MayX ⟨i,f,d,c,n⟩):=hid λh=>Z (h.2.2.1.trans m.out.2)
       go_wp2;go_ret;exact⟨Zyy j.out,g.out⟩
     ·have j:Hid (¬MayX ⟨i,f,d,c,n⟩):=hid λh=>Y (h.2.1.trans m.out.1)
      go_wp2;go_ret;exact⟨Zyy j.out,g.out⟩
 ·have ak:¬f=1/\¬f=2/\¬f=3/\¬f=4/\¬f=5/\¬f=6/\¬f=7/\¬f=8/\¬f=9:=by omega
  obtain⟨n1,n2,n3,n4,n5,n6,n7,n8,n9⟩:=ak;have aa:Hid (Below w.heap.size w W1):=by show Below _ _ _;exact L.out _ (Below.refl _ _)
  have j:Hid (¬MayX ⟨i,f,d,c,n⟩):=hid λh=>A h.1
  clear A
  go_enter func118,ntmps118
  go_wp2;go_ret;exact⟨Zyy j.out,by rw[S.out];exact aa.out⟩
def Zav (x:RuleS):Prop:=(∀y∈nmsR x x.steps.length,Zbcf y.data.toList=true)/\(∀(j:Nat) y,x.steps[j]? =some y->MayX y)/\(0:Int)<(x.outs.length:Int)
def Zaw (x:RuleS) (e:Ending):Prop:=∃b,e = .returned (.bool b)/\(b=true↔Zav x)
theorem Zpr {x:RuleS} (h:¬Zav x):Zaw x (.returned (.bool false)):=⟨false,rfl,(λe=>by cases e),λa=>(h a).elim⟩
theorem Zps {x:RuleS} (h:Zav x):Zaw x (.returned (.bool true)):=⟨true,rfl,λ_=>h,λ_=>rfl⟩
theorem Zhf (x:RuleS) (vi vo vf vs:Value) (w:World) (h:RuleI w [.string x.name,vi,vo,vf,vs] x) (hs:SmallR x 1048576) (I:ShortR x):
  Calls prog 82 #[.agg #[.string x.name,vi,vo,vf,vs]] w λe w'=>Zaw x e/\Below w.heap.size w w':=by
 obtain⟨_,_,_,_,q,h1,h2,h3,h4⟩:=h;simp only[List.cons.injEq,and_true,true_and]at q;obtain⟨rfl,rfl,rfl,rfl⟩:=q;obtain⟨a1,c1,rfl,_,_,_⟩:=Zua h1;obtain⟨a2,c2,rfl,_,bl,_⟩:=Zua h2;obtain⟨a3,c3,rfl,_,_,_⟩:=Zua h3;obtain⟨a4,c4,rfl,bq,bm,aJ⟩:=Zbpc h4;obtain⟨o1,Q⟩:∃o:Obj,o = .cells #[.string x.name,.slice a1 x.ins.length c1,.slice a2 x.outs.length c2,.slice a3 x.after.length c3,.slice a4 x.steps.length c4] 50:=⟨_,rfl⟩;have X:Below w.heap.size w (w.alloc o1):=(Below.refl _ _).alloc (Nat.le_refl _) _;have R:=alloc_at w o1;have H:=Zfy R;obtain⟨W1,W⟩:∃W1,w.alloc o1=W1:=⟨_,rfl⟩;rw[W]at R X H;rw[Q]at R W;have c:Hid (∀w',Below W1.heap.size W1 w'->w'.cell? ⟨w.heap.size,0,none⟩=some (.string x.name)/\w'.cell? ⟨w.heap.size,1,none⟩=some (.slice a1 x.ins.length c1)/\w'.cell? ⟨w.heap.size,2,none⟩=some (.slice a2 x.outs.length c2)/\w'.cell? ⟨w.heap.size,3,none⟩=some (.slice a3 x.after.length c3)/\w'.cell? ⟨w.heap.size,4,none⟩=some (.slice a4 x.steps.length c4)):=by
  show ∀w',_;intro w' hb;obtain⟨d0,d1,d2,d3,d4,_⟩:=cells5 ((hb.block _ H).trans R);exact⟨d0,d1,d2,d3,d4⟩
 have Z:∀w',Below W1.heap.size W1 w'->Below w.heap.size w w':=λw' A=>X.trans (A.mono X.size)
 have H1:Hid (∀w',Below W1.heap.size W1 w'->IsRow w' (.slice a1 x.ins.length c1) 1 (Zbpk x.ins)):=by show ∀w',_;exact λw' A=>Zud (h1.below (Z w' A))
 have H2:Hid (∀w',Below W1.heap.size W1 w'->IsRow w' (.slice a2 x.outs.length c2) 1 (Zbpk x.outs)):=by show ∀w',_;exact λw' A=>Zud (h2.below (Z w' A))
 have H3:Hid (∀w',Below W1.heap.size W1 w'->IsRow w' (.slice a3 x.after.length c3) 1 (Zbpk x.after)):=by show ∀w',_;exact λw' A=>Zud (h3.below (Z w' A))
 have aU:Hid (∀(k:Nat) y,x.steps[k]? =some y->∃b o b1 e1 b2 e2,a4=some ⟨b,o,none⟩/\(∀w',Below W1.heap.size W1 w'->Calls prog 118 #[.agg #[.string y.out,.int .i64 y.op,.slice b1 y.args.length e1,.slice b2 y.lits.length e2,.int .i64 y.n]] w' λe aj=>Zbg y e/\Below w'.heap.size w' aj)/\(∀w',Below W1.heap.size W1 w'->IsRow w' (.slice b1 y.args.length e1) 1 (Zbpk y.args))/\∀w',Below W1.heap.size W1 w'->
   w'.cell? ⟨b,o+k*5,none⟩=some (.string y.out)/\w'.cell? ⟨b,o+k*5+1,none⟩=some (.int .i64 y.op)/\w'.cell? ⟨b,o+k*5+2,none⟩=some (.slice b1 y.args.length e1)/\w'.cell? ⟨b,o+k*5+3,none⟩=some (.slice b2 y.lits.length e2)/\w'.cell? ⟨b,o+k*5+4,none⟩=some (.int .i64 y.n)):=by
  show ∀(k:Nat) y,_;intro k y J;obtain⟨b,o,b1,e1,b2,e2,ha,hI,hA,hc⟩:=aJ k y J;exact⟨b,o,b1,e1,b2,e2,ha,λw' A=>Zhi y _ _ w' (by obtain⟨va,vl,q,ha,hl⟩:=hI;exact⟨va,vl,q,ha.below (Z w' A),hl.below (Z w' A)⟩) (hs.steps y (List.mem_of_getElem? J)),λw' A=>Zud (hA.below (Z w' A)),λw' A=>hc w' (Z w' A)⟩
 have G:Hid (∀w',Below W1.heap.size W1 w'->Below w.heap.size w w'):=by show ∀w',_;exact Z
 have aV:=hid W;have HS:=hid hs;have U:=hid I;have aP:=hid (Zbbg x);have aq:Hid (OwnStrs W1.heap.size (W1.alloc (.cells #[.string x.name] 9)).drew (.slice (some ⟨W1.heap.size,0,none⟩) 1 1) [x.name]):=hid (Zbdx (alloc_at W1 _) (Nat.le_refl _));have aS:Hid (Below W1.heap.size W1 W1.drew):=by show Below _ _ _;exact(Below.refl _ _).drew
 have HU:Hid (∀w' o,Below W1.heap.size W1 w'->Below W1.heap.size W1 (w'.alloc o)):=by show ∀w' o,_;exact λw' o h=>h.alloc h.size o
 have az:Hid (∀w' o,Below W1.heap.size W1 w'->Below W1.heap.size W1 (w'.alloc o).drew):=by show ∀w' o,_;exact λw' o h=>(h.alloc h.size o).drew
 have ao:Hid (∀(k:Nat) y w',y∈nmsR x k->Calls prog 119 #[.string y] w' λe aj=>e = .returned (.bool (Zbcf y.data.toList))/\Below w'.heap.size w' aj):=by
  show ∀(k:Nat) y w',_;exact λk y w' J=>Zyw y w' (by have:=Zbbf hs k y J;unfold maxLen;omega)
 have aB:x.ins.length<=10/\x.outs.length<=6/\x.after.length<=10/\x.steps.length<=14:=⟨I.ins,I.outs,I.after,I.steps⟩;obtain⟨n1,n2,n3,n4⟩:=aB;unfold maxLen at bm bl;clear h1 h2 h3 h4 aJ X R H W Q o1 Z hs I
 go_enter func82,ntmps82
 go_wp2_with fail
 rw[aV.out];refine wp_region_held_drew (S:=λw'=>Below W1.heap.size W1 w') (by kernel_rfl) ?_ (λhHeld=>?_)
 ·exact aS.out
 refine tkH 0 (v:=?_) ?_ ?_;rotate_left
 ·intro w a;obtain⟨l,m,f,p,g⟩:=c.out _ a;go_simp;try with_reducible rfl
 try simp only[Act.put,sA,sZ,sS]
 refine tkH 1 (v:=?_) ?_ ?_;rotate_left
 ·intro w a;obtain⟨l,m,f,p,g⟩:=c.out _ a;go_simp;try with_reducible rfl
 try simp only[Act.put,sA,sZ,sS]
 refine tkH 3 (v:=?_) ?_ ?_;rotate_left
 ·intro w a;obtain⟨l,m,f,p,g⟩:=c.out _ a;go_simp;try with_reducible rfl
 try simp only[Act.put,sA,sZ,sS]
 refine tkH 4 (v:=?_) ?_ ?_;rotate_left
 ·intro w a;obtain⟨l,m,f,p,g⟩:=c.out _ a;go_simp;try with_reducible rfl
 try simp only[Act.put,sA,sZ,sS]
 refine tkH 6 (v:=?_) ?_ ?_;rotate_left
 ·intro w a;obtain⟨l,m,f,p,g⟩:=c.out _ a;go_simp;try with_reducible rfl
 try simp only[Act.put,sA,sZ,sS]
 refine tkH 7 (v:=?_) ?_ ?_;rotate_left
 ·intro w a;obtain⟨l,m,f,p,g⟩:=c.out _ a;go_simp;try with_reducible rfl
 try simp only[Act.put,sA,sZ,sS]
 refine tkH 9 (v:=?_) ?_ ?_;rotate_left
 ·intro w a;obtain⟨l,m,f,p,g⟩:=c.out _ a;go_simp;try with_reducible rfl
 try simp only[Act.put,sA,sZ,sS]
 refine tkH 10 (v:=?_) ?_ ?_;rotate_left
 ·intro w a;obtain⟨l,m,f,p,g⟩:=c.out _ a;go_simp;try with_reducible rfl
 try simp only[Act.put,sA,sZ,sS]
 refine rdH [2] ?_;refine rcH (λK i=>?_) ?_
 ·go_simp
  refine i.out _ _ ?_ (λhHeld=>?_)
  ·try dsimp only
   exact az.out _ _ (Below.refl _ _)
  clear i K
  try simp only[Act.put,sA,sZ,sS]
  refine rdH [5] ?_;refine rcH (λK i=>?_) ?_
  ·refine Zbob (by rfl) _ _ (by rfl) W1.heap.size _ _ ([x.name]) (x.ins) (by rfl) (by rfl) (aq.out) (H1.out _ (by assumption)) (by have:=n1;have:=n2;have:=n3;simp only[List.length_cons,List.length_nil];omega) (Below.size (by assumption)) ?_;intro v1 w1 Q bd _;have aX:=Zfl (show Below W1.heap.size W1 _ by assumption) bd (Below.size (by assumption)) (λk O=>(World.ownsRow.lt aq.out k O).1);have ae:=hid Q;clear Q
   refine i.out _ _ ?_ (λhHeld=>?_)
   ·try dsimp only
    assumption
   clear i K
   try simp only[Act.put,sA,sZ,sS]
   refine rdH [8] ?_;refine rcH (λK i=>?_) ?_
   ·refine Zbob (by rfl) _ _ (by rfl) W1.heap.size _ _ ([x.name]++x.ins) (x.outs) (by rfl) (by rfl) (ae.out) (H2.out _ (by assumption)) (by have:=n1;have:=n2;have:=n3;simp only[List.length_append,List.length_cons,List.length_nil];omega) (Below.size (by assumption)) ?_;intro v2 w2 aD be _;have aY:=Zfl (show Below W1.heap.size W1 _ by assumption) be (Below.size (by assumption)) (λk O=>(World.ownsRow.lt ae.out k O).1);have af:=hid aD;clear aD
    refine i.out _ _ ?_ (λhHeld=>?_)
    ·try dsimp only
     assumption
    clear i K
    try simp only[Act.put,sA,sZ,sS]
    refine rdH [11] ?_;refine rcH (λK i=>?_) ?_
    ·refine Zbob (by rfl) _ _ (by rfl) W1.heap.size _ _ ([x.name]++x.ins++x.outs) (x.after) (by rfl) (by rfl) (af.out) (H3.out _ (by assumption)) (by have:=n1;have:=n2;have:=n3;simp only[List.length_append,List.length_cons,List.length_nil];omega) (Below.size (by assumption)) ?_;intro v3 w3 aE bf _;have aZ:=Zfl (show Below W1.heap.size W1 _ by assumption) bf (Below.size (by assumption)) (λk O=>(World.ownsRow.lt af.out k O).1);have ar:=hid aE;clear aE
     refine i.out _ _ ?_ (λhHeld=>?_)
     ·try dsimp only
      assumption
     clear i K
     try simp only[Act.put,sA,sZ,sS]
     refine tkK 12 ?_
     try simp only[Act.put,sA,sZ,sS]
     refine wpAnyH_done (by kernel_rfl) ?_ _;have ag:Below W1.heap.size W1 w3:=by assumption
     have ax:Hid (OwnStrs W1.heap.size w3 v3 (nmsR x 0)):=by show OwnStrs _ _ _ _;rw[aP.out];exact ar.out
     obtain⟨W3,a5⟩:∃V,w3=V:=⟨_,rfl⟩;rw[a5]at ag ax⊢;have aL:=hid ag;clear a5 ag aX aY aZ hHeld ae af ar
     go_wp2_with fail
     go_loopw [3,4] (λlv iv wr=>∃k:Nat,k<=x.steps.length/\iv = .int .i64 (k:Int)/\OwnStrs W1.heap.size wr lv (nmsR x k)/\(∀(j:Nat) y,j<k->x.steps[j]? =some y->MayX y)/\Below W1.heap.size W1 wr) (λ_ iv _=>x.steps.length-(intOf iv).toNat)
     case atStart=>exact⟨0,Nat.zero_le _,rfl,ax.out,λj y hj=>absurd hj (by omega),aL.out⟩
     case round=>
      obtain⟨k,O,rfl,s,ab,Y⟩:=hrel;obtain⟨WR,a6⟩:∃V,wr=V:=⟨_,rfl⟩;rw[a6]at s Y⊢;clear a6;have r:=hid Y;have aa:=hid s;have ap:=hid ab;obtain⟨_,_,f,_,g⟩:=c.out _ Y;obtain⟨la,lc,q,_,aC,aA⟩:=Zbea s;subst q;have bn:=Zbbd U.out k;unfold maxLen at aA;clear Y s ab
      by_cases H:k<x.steps.length
      ·obtain⟨y,J⟩:∃y,x.steps[k]? =some y:=⟨x.steps[k],List.getElem?_eq_getElem H⟩
       obtain⟨b,o,b1,e1,b2,e2,ah,a9,ac,ai⟩:=aU.out k y J;have aN:=hid (a9 _ r.out);have ay:=hid ac;have d:=hid ai;have HY:=hid J;have aW:=hid ((U.out).each y (List.mem_of_getElem? J)).1;have T:=hid (Zbbe J);obtain⟨z0,C,D,E,F⟩:=ai _ r.out;have bi:(k:Int)<(x.steps.length:Int):=by omega
       have bo:(0:Int)<=(k:Int):=by omega
       subst ah;clear a9 ac ai J
       go_wp2_with fail
       refine aN.out.mono ?_;rintro e w5 ⟨⟨bb,rfl,a8⟩,hb5⟩;have am:=hid a8;have ad:=hid (r.out.trans (hb5.mono r.out.size));have au:Hid (OwnStrs W1.heap.size w5 (.slice la (nmsR x k).length lc) (nmsR x k)):=by show OwnStrs _ _ _ _;exact aa.out.below hb5
       clear a8 hb5 z0 C D E F
       cases bb
       ·go_wp2
        go_ret;exact⟨Zpr (λh=>absurd (am.out.2 (h.2.1 k y HY.out)) (by decide)),G.out _ ad.out⟩
       ·have aT:Hid (Below W1.heap.size W1 w5.drew):=by show Below _ _ _;exact ad.out.drew
        go_wp2_with fail
        refine wp_region_held_drew (S:=λw'=>Below W1.heap.size W1 w') (by kernel_rfl) ?_ (λhHeld=>?_)
        ·exact aT.out
        refine tkH 0 (v:=?_) ?_ ?_;rotate_left
        ·intro w a;obtain⟨l,m,f,p,g⟩:=c.out _ a;obtain⟨z0,C,D,E,F⟩:=d.out _ a;go_simp;try with_reducible rfl
        try simp only[Act.put,sA,sZ,sS]
        refine tkH 1 (v:=?_) ?_ ?_;rotate_left
        ·intro w a;obtain⟨l,m,f,p,g⟩:=c.out _ a;obtain⟨z0,C,D,E,F⟩:=d.out _ a;go_simp;try with_reducible rfl
        try simp only[Act.put,sA,sZ,sS]
        refine tkH 2 (v:=?_) ?_ ?_;rotate_left
        ·intro w a;obtain⟨l,m,f,p,g⟩:=c.out _ a;obtain⟨z0,C,D,E,F⟩:=d.out _ a;go_simp;try with_reducible rfl
        try simp only[Act.put,sA,sZ,sS]
        refine tkH 3 (v:=?_) ?_ ?_;rotate_left
        ·intro w a;obtain⟨l,m,f,p,g⟩:=c.out _ a;obtain⟨z0,C,D,E,F⟩:=d.out _ a;go_simp;try with_reducible rfl
        try simp only[Act.put,sA,sZ,sS]
        refine tkH 4 (v:=?_) ?_ ?_;rotate_left
        ·intro w a;obtain⟨l,m,f,p,g⟩:=c.out _ a;obtain⟨z0,C,D,E,F⟩:=d.out _ a;go_simp;try with_reducible rfl
        try simp only[Act.put,sA,sZ,sS]
        refine tkH 5 (v:=?_) ?_ ?_;rotate_left
        ·intro w a;obtain⟨l,m,f,p,g⟩:=c.out _ a;obtain⟨z0,C,D,E,F⟩:=d.out _ a;go_simp;try with_reducible rfl
        try simp only[Act.put,sA,sZ,sS]
        refine tkH 6 (v:=?_) ?_ ?_;rotate_left
        ·intro w a;obtain⟨l,m,f,p,g⟩:=c.out _ a;obtain⟨z0,C,D,E,F⟩:=d.out _ a;go_simp;try with_reducible rfl
        try simp only[Act.put,sA,sZ,sS]
        refine tkH 9 (v:=?_) ?_ ?_;rotate_left
        ·intro w a;obtain⟨l,m,f,p,g⟩:=c.out _ a;obtain⟨z0,C,D,E,F⟩:=d.out _ a;go_simp;try with_reducible rfl
        try simp only[Act.put,sA,sZ,sS]
        refine tkH 10 (v:=?_) ?_ ?_;rotate_left
        ·intro w a;obtain⟨l,m,f,p,g⟩:=c.out _ a;obtain⟨z0,C,D,E,F⟩:=d.out _ a;go_simp;try with_reducible rfl
        try simp only[Act.put,sA,sZ,sS]
        refine tkH 11 (v:=?_) ?_ ?_;rotate_left
        ·intro w a;obtain⟨l,m,f,p,g⟩:=c.out _ a;obtain⟨z0,C,D,E,F⟩:=d.out _ a;go_simp;try with_reducible rfl
        try simp only[Act.put,sA,sZ,sS]
        refine tkH 12 (v:=?_) ?_ ?_;rotate_left
        ·intro w a;obtain⟨l,m,f,p,g⟩:=c.out _ a;obtain⟨z0,C,D,E,F⟩:=d.out _ a;go_simp;try with_reducible rfl
        try simp only[Act.put,sA,sZ,sS]
        refine tkH 13 (v:=?_) ?_ ?_;rotate_left
        ·intro w a;obtain⟨l,m,f,p,g⟩:=c.out _ a;obtain⟨z0,C,D,E,F⟩:=d.out _ a;go_simp;try with_reducible rfl
        try simp only[Act.put,sA,sZ,sS]
        refine tkH 14 (v:=?_) ?_ ?_;rotate_left
        ·intro w a;obtain⟨l,m,f,p,g⟩:=c.out _ a;obtain⟨z0,C,D,E,F⟩:=d.out _ a;go_simp;try with_reducible rfl
        try simp only[Act.put,sA,sZ,sS]
        refine rdH [7] ?_;refine rcH (λK i=>?_) ?_
        ·go_simp
         refine i.out _ _ ?_ (λhHeld=>?_)
         ·try dsimp only
          exact az.out _ _ ad.out
         clear i K
         try simp only[Act.put,sA,sZ,sS]
         refine rdH [8] ?_;refine rcH (λK i=>?_) ?_
         ·refine Zbob (by rfl) _ _ (by rfl) W1.heap.size _ _ (nmsR x k) ([y.out]) (by rfl) (by rfl) (au.out.below ((Below.refl _ _).alloc (Nat.le_refl _) _).drew) (Zbik (alloc_at w5 _)) (by have h1:=Zbbd U.out k;simp only[List.length_cons,List.length_nil];omega) (Below.size (by assumption)) ?_;intro v7 w7 aF bg _;have ba:=Zfl (show Below W1.heap.size W1 _ by assumption) bg (Below.size (by assumption)) (λk O=>(World.ownsRow.lt au.out k O).1);have av:=hid aF;clear aF
          refine i.out _ _ ?_ (λhHeld=>?_)
          ·try dsimp only
           assumption
          clear i K
          try simp only[Act.put,sA,sZ,sS]
          refine rdH [15] ?_;refine rcH (λK i=>?_) ?_
          ·refine Zbob (by rfl) _ _ (by rfl) W1.heap.size _ _ (nmsR x k ++ [y.out]) (y.args) (by rfl) (by rfl) (av.out) (ay.out _ (by assumption)) (by have h1:=Zbbd U.out k;have h2:=aW.out;simp only[List.length_append,List.length_cons,List.length_nil];omega) (Below.size (by assumption)) ?_;intro v8 w8 aH bh _;have bc:=Zfl (show Below W1.heap.size W1 _ by assumption) bh (Below.size (by assumption)) (λk O=>(World.ownsRow.lt av.out k O).1);have aQ:=hid aH;clear aH
           refine i.out _ _ ?_ (λhHeld=>?_)
           ·try dsimp only
            assumption
           clear i K
           try simp only[Act.put,sA,sZ,sS]
           refine tkK 16 ?_
           try simp only[Act.put,sA,sZ,sS]
           refine wpAnyH_done (by kernel_rfl) ?_ _;have a0:Below W1.heap.size W1 w8:=by assumption
           have aR:Hid (OwnStrs W1.heap.size w8 v8 (nmsR x (k+1))):=by show OwnStrs _ _ _ _;rw[T.out];exact aQ.out
           have aM:=hid a0;have aO:Hid (∀(j:Nat) z,j<k+1->x.steps[j]? =some z->MayX z):=by
            show ∀(j:Nat) z,_;intro j z hj B
            rcases Nat.lt_or_ge j k with h|h
            ·exact ap.out j z h B
            ·obtain rfl:j=k:=by omega
             rw[HY.out]at B;injection B with B
             rw[<-B];exact am.out.1 (by trivial)
           clear ba bc hHeld a0;go_wp2;go_roundw
           case rel=>exact⟨k+1,by omega,by go_num,aR.out,aO.out,aM.out⟩
           case measure=>simp[intOf];omega
          exact AllReadyH.nil
         exact AllReadyH.nil
        exact AllReadyH.nil
      ·obtain rfl:k=x.steps.length:=by omega
       have an:Hid (∀(j:Nat) z,(nmsR x x.steps.length)[j]? =some z->∃b o,la=some ⟨b,o,none⟩/\∀w',Below WR.heap.size WR w'->w'.cell? ⟨b,o+j,none⟩=some (.string z)):=by
        show ∀(j:Nat) z,_;intro j z B;obtain⟨a',c',q,_,_,h3⟩:=Zua aa.out.strsA.isStrs;injection q with q1 q2 q3
        subst q1;exact h3 j z B
       obtain⟨L,hL⟩:∃L,nmsR x x.steps.length=L:=⟨_,rfl⟩;have HL:=hid hL;rw[hL]at an bn aC⊢;have bi:¬(x.steps.length:Int)<(x.steps.length:Int):=by omega
       clear hL H O
       go_wp2_with fail
       go_loopw [5] (λiv wr=>∃j:Nat,j<=L.length/\iv = .int .i64 (j:Int)/\(∀z∈L.take j,Zbcf z.data.toList=true)/\Below WR.heap.size WR wr) (λiv _=>L.length-(intOf iv).toNat)
       case atStart=>exact⟨0,Nat.zero_le _,rfl,λz B=>by simp at B,Below.refl _ _⟩
       case round=>
        obtain⟨j,hj,rfl,aI,P⟩:=hrel;have aw:=hid aI;have T:=hid P;clear aI
        by_cases bk:j<L.length
        ·obtain⟨z,B⟩:∃z,L[j]? =some z:=⟨L[j],List.getElem?_eq_getElem bk⟩
         obtain⟨b,o,ah,hc⟩:=an.out j z B;have z0:=hc _ P;subst ah;have HZ:=hid B;have CM:=hid (ao.out x.steps.length z wr (by rw[HL.out];exact List.mem_of_getElem? B));obtain⟨q,hq⟩:∃q,Zbcf z.data.toList=q:=⟨_,rfl⟩;rw[hq]at CM;have HQ:=hid hq;have bj:(j:Int)<(L.length:Int):=by omega
         have bp:(0:Int)<=(j:Int):=by omega
         clear hc P B hq
         go_wp2_with fail
         refine CM.out.mono ?_;rintro e w6 ⟨rfl,a7⟩;have al:=hid (T.out.trans (a7.mono T.out.size));clear a7
         cases q
         ·go_wp2
          go_ret;exact⟨Zpr (λh=>by have:=h.1 z (by rw[HL.out];exact List.mem_of_getElem? HZ.out);rw[HQ.out]at this;cases this),G.out _ (r.out.trans (al.out.mono r.out.size))⟩
         ·have aK:Hid (∀z∈L.take (j+1),Zbcf z.data.toList=true):=by
           show ∀z∈L.take (j+1),_;intro u hu;rw[List.take_add_one,HZ.out]at hu
           rcases List.mem_append.1 hu with hu|hu
           ·exact aw.out u hu
           ·have:u=z:=by simpa using hu
            rw[this];exact HQ.out
          go_wp2;go_roundw
          case rel=>exact⟨j+1,by omega,by go_num,aK.out,al.out⟩
          case measure=>simp[intOf];omega
        ·have bj:¬(j:Int)<(L.length:Int):=by omega
         have M:=hid (r.out.trans (P.mono r.out.size));obtain⟨_,_,u2,_,_⟩:=c.out _ M.out;have ak:Hid (∀z∈L,Zbcf z.data.toList=true):=by show ∀z∈L,_;have:=aw.out;rw[List.take_of_length_le (by omega)]at this;exact this
         clear P
         by_cases t:(0:Int)<(x.outs.length:Int)
         ·have HR:Hid (Zav x):=hid ⟨by rw[HL.out];exact ak.out,λj y J=>ap.out j y (List.getElem?_eq_some_iff.1 J).1 J,t⟩
          go_wp2;go_ret
          first|exact⟨Zps HR.out,G.out _ M.out⟩|exact⟨⟨_,rfl,λ_=>HR.out,λ_=>by simpa using t⟩,G.out _ M.out⟩
         ·have HR:Hid (¬Zav x):=hid λh=>t h.2.2
          go_wp2;go_ret
          first|exact⟨Zpr HR.out,G.out _ M.out⟩|exact⟨⟨_,rfl,λe=>absurd (of_decide_eq_true e) (by simpa using t),λh=>(HR.out h).elim⟩,G.out _ M.out⟩
    exact AllReadyH.nil
   exact AllReadyH.nil
  exact AllReadyH.nil
 exact AllReadyH.nil
