import Derived.Test.YtphjfaoghphleaaGreatDoorMbc
set_option maxRecDepth 100000
set_option maxHeartbeats 8000000
namespace Go.Proofs.YtphjfaoghphleaaGreatDoor
open Go.Lib (hid)
open Go.Proofs.Tryz Go.RowKit Go.Shelf
theorem Zccu (v:Value) (xs:List RuleS) (s:ByteArray) (w:World) (h:RulesI w v xs):
  Calls prog 22 #[v,.string s] w λe w'=>e = .returned (.int .i64 (Zoi (xs.map (·.name)) s))/\w'=w:=by
 refine(Zcct v xs s w h).mono ?_;rintro e w' ⟨⟨r,rfl,a,_⟩,rfl⟩
 grind [Zop,Zom]
theorem Zccy (v:Value) (xs:List RuleS) (s:ByteArray) (w:World) (h:RulesI w v xs):
  Calls prog 20 #[v,.string s] w λe w'=>(∃r:Int,e = .returned (.int .i64 r)/\MakR xs s r)/\w=w':=by
 obtain⟨Q,S,rfl,_,M,c⟩:=Zcgz h;have z:xs.length<=maxLen:=by omega
 unfold maxLen at z;have n:=hid c;clear c h
 go_enter func20,ntmps20
 go_wp2
 go_loopw [5] (λi wr=>∃k:Nat,k<=xs.length/\i = .int .i64 k/\(∀j<k,∀x,xs[j]? =some x->s∉x.outs)/\w=wr)
  (λi _=>xs.length-(intOf i).toNat)
 case atStart=>exact⟨0,Nat.zero_le _,rfl,λj G=>absurd G (by omega),rfl⟩
 case round=>
  obtain⟨k,U,rfl,g,rfl⟩:=hrel;have t:=hid (Below.refl w.heap.size w);have b:=hid g;clear g
  by_cases A:k<xs.length
  ·obtain⟨x,hx⟩:∃x,xs[k]? =some x:=⟨xs[k],List.getElem?_eq_getElem A⟩
   obtain⟨R,V,_,_,I,J,_,_,_,_,P,l,d⟩:=n.out k x hx;subst P;have D:=hid hx;obtain⟨_,_,T,_⟩:=d _ t.out;have a:IsStrs w (.slice I x.outs.length J) x.outs:=by
    obtain⟨X,Y,W,Z,q,_,K,_,_⟩:=l;simp only[List.cons.injEq,and_true]at q;obtain⟨_,rfl,rfl,rfl,rfl⟩:=q;exact K
   have E:=Zhd _ x.outs s w a;have u:(k:Int)<(xs.length:Int):=by omega
   have L:(0:Int)<=(k:Int):=by omega
   have H:=hid E;clear d hx l a E
   go_wp2_with fail
   refine H.out.mono ?_;rintro e w1 ⟨⟨r,rfl,l,O,B⟩,rfl⟩;have C:=hid l;clear l B
   by_cases f:0<=r
   ·go_wp2
    go_ret;exact⟨⟨k,rfl,.inr ⟨k,x,rfl,D.out,Zor C.out f,b.out⟩⟩,rfl⟩
   ·have p:=hid (Zos C.out (by omega))
    go_wp2
    all_goals go_roundw
    case rel=>exact⟨k+1,by omega,by go_num,λj G y m=>by
     rcases Nat.lt_or_ge j k with h|h
     ·exact b.out j h y m
     ·obtain rfl:j=k:=by omega
      rw[D.out]at m;injection m with m
      rw[<-m];exact p.out,trivial⟩
    case measure=>simp[intOf];omega
  ·have u:¬(k:Int)<(xs.length:Int):=by omega
   have o:=hid (show xs.length<=k by omega);go_wp2;go_ret;exact⟨⟨-1,rfl,.inl ⟨rfl,λx hx=>by
    obtain⟨i,F⟩:=List.getElem?_of_mem hx;exact b.out i (by have:=(List.getElem?_eq_some_iff.1 F).1;have:=o.out;omega) x F⟩⟩,rfl⟩
theorem Zccx (v:Value) (xs:List RuleS) (s:ByteArray) (w:World) (h:RulesI w v xs):
  Calls prog 20 #[v,.string s] w λe w'=>e = .returned (.int .i64 (Zcfo xs s))/\w'=w:=by
 grind [Zccy,Zcft,Zcfq]
def RowX (w:World) (b n:Nat) (f:Nat->Bool):Prop:=∃cur:Array Value,w.heap[b]? =some (.cells cur 4 (0,0))/\n<=cur.size/\∀k<n,cur[k]? =some (.bool (f k))
def upd (M:Nat->Nat->Bool) (q k:Nat) (x:Bool):Nat->Nat->Bool:=λa b=>if a=q/\b=k then x else M a b
def MatX (B:Nat) (w:World) (g n i:Nat) (M:Nat->Nat->Bool):Prop:=B<=g/\∃(cur:Array Value) (bs:Nat->Nat),w.heap[g]? =some (.cells cur 93 (0,0))/\cur.size=n/\(∀j<i,∀j'<j,bs j'≠bs j)/\
 ∀j<i,∃c,cur[j]? =some (.slice (some ⟨bs j,0,none⟩) n c)/\n<=c/\c<=maxLen/\B<=bs j/\RowX w (bs j) n (M j)
theorem RowX.row {w:World} {b n:Nat} {f:Nat->Bool} (h:RowX w b n f):BoolRow w b n:=by
 obtain⟨a,c,d,e⟩:=h;exact⟨a,c,d,λk g=>⟨_,e k g⟩⟩
theorem RowX.lt {w:World} {b n:Nat} {f:Nat->Bool} (h:RowX w b n f):b<w.heap.size:=h.row.lt
theorem RowX.keep {w w':World} {b n:Nat} {f:Nat->Bool} (h:RowX w b n f) (e:w'.heap[b]? =w.heap[b]?):RowX w' b n f:=by
 obtain⟨a,c,d⟩:=h;exact⟨a,e.trans c,d⟩
theorem RowX.set {w:World} {b n k:Nat} {f:Nat->Bool} (x:Bool) (h:RowX w b n f):RowX (w.setCell ⟨b,k,none⟩ (.bool x)) b n (λj=>if j=k then x else f j):=by
 obtain⟨a,c,d,e⟩:=h;refine⟨_,heap_set k (.bool x) c,by simpa using d,λj g=>?_⟩
 grind
theorem RowX.cell {w:World} {b n k:Nat} {f:Nat->Bool} (h:RowX w b n f) (g:k<n):w.cell? ⟨b,k,none⟩=some (.bool (f k))/\w.frozen? ⟨b,k,none⟩=false:=by
 obtain⟨a,c,d,e⟩:=h
 grind [World.cell?,World.frozen?]
theorem RowX.congr {w:World} {b n:Nat} {f f':Nat->Bool} (h:RowX w b n f) (e:∀k<n,f k=f' k):RowX w b n f':=by
 obtain⟨a,d,g,i⟩:=h;exact⟨a,d,g,λk c=>by rw[<-e k c];exact i k c⟩
theorem Zcgy {w:World} {n:Nat}:RowX (w.alloc (.cells (madeCells #[.bool false] n) 4)) w.heap.size n (λ_=>false):=by
 refine⟨_,alloc_at w _,by rw[size_madeCells];exact Nat.le_refl _,λk b=>?_⟩;have a:k % 1=0:=by omega
 simp[madeCells,b,a]
theorem MatX.mat {B:Nat} {w:World} {g n i:Nat} {M:Nat->Nat->Bool} (h:MatX B w g n i M):Mat B w g n i:=by
 obtain⟨m,a,b,o,p,_,q⟩:=h;refine⟨m,a,o,p,λj r=>?_⟩;obtain⟨c,e,d,f,k,l⟩:=q j r;exact⟨b j,c,e,d,f,k,l.row⟩
theorem MatX.congr {B:Nat} {w:World} {g n i:Nat} {M M':Nat->Nat->Bool} (h:MatX B w g n i M) (e:∀j<i,∀k<n,M j k=M' j k):MatX B w g n i M':=by
 obtain⟨q,a,d,r,s,u,t⟩:=h;refine⟨q,a,d,r,s,u,λj b=>?_⟩;obtain⟨c,f,l,m,o,p⟩:=t j b;exact⟨c,f,l,m,o,p.congr (e j b)⟩
theorem MatX.keep {B:Nat} {w w':World} {g n i:Nat} {M:Nat->Nat->Bool} (h:MatX B w g n i M) (d:∀k,k<w.heap.size->w'.heap[k]? =w.heap[k]?):MatX B w' g n i M:=by
 have u:=h.mat.lt;obtain⟨p,a,f,q,r,t,s⟩:=h;refine⟨p,a,f,(d g u).trans q,r,t,λj v=>?_⟩;obtain⟨c,e,l,m,o,b⟩:=s j v;exact⟨c,e,l,m,o,b.keep (d _ b.lt)⟩
theorem MatX.below {B:Nat} {w w':World} {g n i:Nat} {M:Nat->Nat->Bool} (h:MatX B w g n i M) (a:Below w.heap.size w w'):MatX B w' g n i M:=h.keep λk b=>a.block k b
theorem MatX.cell {B:Nat} {w:World} {g n i j:Nat} {M:Nat->Nat->Bool} (h:MatX B w g n i M) (J:j<i):∃b c,w.cell? ⟨g,j,none⟩=some (.slice (some ⟨b,0,none⟩) n c)/\n<=c/\c<=maxLen/\B<=b/\RowX w b n (M j)/\
  ∀k x,MatX B (w.setCell ⟨b,k,none⟩ (.bool x)) g n i (upd M j k x):=by
 have p:∀b m,BoolRow w b m->g≠b:=λb m o=>h.mat.ne o
 obtain⟨G,l,d,u,H,I,v⟩:=h;obtain⟨c,e,z,A,C,r⟩:=v j J;refine⟨d j,c,by simp[World.cell?,u,e],z,A,C,r,λk x=>⟨G,l,d,(Below.heap_setCell _ _ _ _ (p _ _ r.row)).trans u,H,I,λq K=>?_⟩⟩;obtain⟨y,f,D,E,F,t⟩:=v q K;refine⟨y,f,D,E,F,?_⟩
 by_cases s:q=j
 ·subst s
  exact(t.set x).congr λa _=>by unfold upd;simp
 ·have o:d q≠d j:=by
   grind
  exact(t.keep (Below.heap_setCell _ _ _ _ o)).congr λa _=>by unfold upd;simp[s]
theorem MatX.setRow {B:Nat} {w w':World} {g n i b c:Nat} {M:Nat->Nat->Bool} {f:Nat->Bool} (h:MatX B w g n i M) (p:∀k,k<w.heap.size->w'.heap[k]? =w.heap[k]?) (v:RowX w' b n f) (x:w.heap.size<=b) (J:B<=b) (K:n<=c) (Q:c<=maxLen) (hi:i<n):
  MatX B (w'.setCell ⟨g,i,none⟩ (.slice (some ⟨b,0,none⟩) n c)) g n (i+1) (λj=>if j=i then f else M j):=by
 have G:=h.keep p;have a:∀l m,BoolRow w' l m->l≠g:=λl m q=>(G.mat.ne q).symm
 obtain⟨H,z,o,t,I,R,u⟩:=h;have L:=Zfy t;refine⟨H,_,λj=>if j=i then b else o j,heap_set i _ ((p g L).trans t),by simpa using I,?_,λj O=>?_⟩
 ·intro j O d P
  show(if d=i then b else o d)≠(if j=i then b else o j);rw[if_neg (show ¬d=i by omega)]
  by_cases e:j=i
  ·rw[if_pos e]
   obtain⟨_,_,_,_,_,q⟩:=u d (by omega);have:=q.lt;omega
  ·grind
 ·rw[Array.getElem?_setIfInBounds]
  by_cases e:i=j
  ·subst e
   rw[if_pos rfl,if_pos (by omega)];simp only[if_true];exact⟨c,rfl,K,Q,J,v.keep (Below.heap_setCell _ _ _ _ (a _ _ v.row))⟩
  ·dsimp only
   have A:¬j=i:=by omega
   simp only[if_neg e,if_neg A];obtain⟨y,C,D,E,F,r⟩:=u j (by omega);have s:=r.keep (p _ r.lt);exact⟨y,C,D,E,F,s.keep (Below.heap_setCell _ _ _ _ (a _ _ s.row))⟩
theorem MatX.begin {B:Nat} {w:World} {a:Array Value} {n:Nat} (M:Nat->Nat->Bool) (c:B<=w.heap.size) (d:a.size=n):MatX B (w.alloc (.cells a 93)) w.heap.size n 0 M:=
 ⟨c,a,λ_=>0,alloc_at w _,d,λj b=>absurd b (by omega),λj b=>absurd b (by omega)⟩
def rowM (xs:List RuleS) (i:Nat) (f:Nat->Bool):Nat->Nat->Bool:=λa b=>if a=i then f b else Zcfw xs a b
theorem Zcfe {xs:List RuleS} {l:List ByteArray} {j:Nat} {s:ByteArray} (h:l[j]? =some s) (k:Nat):Zcfd xs (l.take (j+1)) k=(Zcfd xs (l.take j) k||Zcfo xs s==(k:Int)):=by
 unfold Zcfd;rw[List.take_add_one,h,List.any_append];simp
theorem Zcce {xs:List RuleS} {l:List ByteArray} {j:Nat} {s:ByteArray} (h:l[j]? =some s) (k:Nat):Zccd xs (l.take (j+1)) k=(Zccd xs (l.take j) k||Zoi (xs.map (·.name)) s==(k:Int)):=by
 unfold Zccd;rw[List.take_add_one,h,List.any_append];simp
theorem Zcgx {xs:List RuleS} {i k:Nat} {f d:Nat->Bool} (h:∀b,d b=(f b||((k:Int)==(b:Int)))):∀(a b:Nat),upd (rowM xs i f) i k true a b=rowM xs i d a b:=by
 intro a b;unfold upd rowM
 by_cases c:a=i
 ·by_cases e:b=k
  ·simp[c,e,h]
  ·have:((k:Int)==(b:Int))=false:=by simp;omega
   simp[c,e,h,this]
 ·simp[c]
theorem Zcgw {xs:List RuleS} {i:Nat} {f c:Nat->Bool} (h:∀b,c b=f b) (a b:Nat):rowM xs i f a b=rowM xs i c a b:=by
 unfold rowM;rw[h]
theorem Zcgv {xs:List RuleS} {i:Nat} {x:RuleS} {f:Nat->Bool} (hx:xs[i]? =some x) (h:∀b,f b=(Zcfd xs x.ins b||Zccd xs x.after b)) (a b:Nat):rowM xs i f a b=Zcfw xs a b:=by
 unfold rowM
 by_cases c:a=i
 ·rw[if_pos c,c,h]
  unfold Zcfw;rw[hx]
 ·rw[if_neg c]
theorem Zccz (v:Value) (xs:List RuleS) (w:World) (h:RulesI w v xs) (hn:xs.length<=1000):
  Calls prog 84 #[v,.bool false] w λe w'=>(∃g,e = .returned (.slice (some ⟨g,0,none⟩) xs.length xs.length)/\MatX w.heap.size w' g xs.length xs.length (Zcfw xs))/\Below w.heap.size w w':=by
 have HI:=hid h;obtain⟨a1,c1,rfl,_,a0,Z⟩:=Zcgz h;have a8:=Zcfn xs.length hn;have a9:=Zcfl xs.length hn;have al:Hid (∀(k:Nat) x,xs[k]? =some x->∃b o W ao a3 c3,a1=some ⟨b,o,none⟩/\(∀w',Below w.heap.size w w'->w'.cell? ⟨b,o+k*5+1,none⟩=some (.slice W x.ins.length ao)/\w'.cell? ⟨b,o+k*5+3,none⟩=some (.slice a3 x.after.length c3))/\
   x.ins.length<=maxLen/\x.after.length<=maxLen/\(∀(j:Nat) s,x.ins[j]? =some s->∃X o',W=some ⟨X,o',none⟩/\∀w',Below w.heap.size w w'->w'.cell? ⟨X,o'+j,none⟩=some (.string s))/\(∀(j:Nat) s,x.after[j]? =some s->∃X o',a3=some ⟨X,o',none⟩/\∀w',Below w.heap.size w w'->w'.cell? ⟨X,o'+j,none⟩=some (.string s))):=by
  show ∀(k:Nat) x,_;intro k x hx;obtain⟨b,o,p1,q1,p2,q2,p3,q3,p4,q4,ha,M,T⟩:=Z k x hx;obtain⟨vi,vo,vf,vs,q,h1,h2,h3,h4⟩:=M;simp only[List.cons.injEq,and_true]at q;obtain⟨_,rfl,rfl,rfl,rfl⟩:=q;obtain⟨_,_,e1,l1,m1,s1⟩:=Zua h1;obtain⟨_,_,e3,l3,m3,s3⟩:=Zua h3;injection e1 with e1 _ ap
  injection e3 with e3 _ aq
  subst e1 ap e3 aq;exact⟨b,o,p1,q1,p3,q3,ha,λw' hw=>by obtain⟨_,y1,_,y3,_⟩:=T w' hw;exact⟨y1,y3⟩,by omega,by omega,s1,s3⟩
 have ae:Hid (∀s w',Below w.heap.size w w'->Calls prog 20 #[.slice a1 xs.length c1,.string s] w' λe S=>(∃r:Int,e = .returned (.int .i64 r)/\Zcfo xs s=r/\-1<=r/\r<(xs.length:Int))/\w'=S):=by
  show ∀s w',_;exact λs w' hw=>(Zccx _ _ s w' (HI.out.below hw)).mono (by rintro e w2 ⟨rfl,rfl⟩;exact⟨⟨_,rfl,rfl,Zcfp xs s⟩,rfl⟩)
 have ad:Hid (∀s w',Below w.heap.size w w'->Calls prog 22 #[.slice a1 xs.length c1,.string s] w' λe S=>(∃r:Int,e = .returned (.int .i64 r)/\Zoi (xs.map (·.name)) s=r/\-1<=r/\r<((xs.map (·.name)).length:Int))/\w'=S):=by
  show ∀s w',_;exact λs w' hw=>(Zccu _ _ s w' (HI.out.below hw)).mono (by rintro e w2 ⟨rfl,rfl⟩;exact⟨⟨_,rfl,rfl,Zcdz _ s⟩,rfl⟩)
 have ai:Hid (∀D:Array Value,D.size=xs.length->MatX w.heap.size (w.alloc (.cells D 93)) w.heap.size xs.length 0 (Zcfw xs)):=by show ∀D:Array Value,_;exact λD T=>MatX.begin _ (Nat.le_refl _) T
 have af:Hid (∀o,Below w.heap.size w (w.alloc o)):=by show ∀o,_;exact λo=>(Below.refl _ _).alloc (Nat.le_refl _) o
 unfold maxLen at a0;clear h Z
 go_enter func84,ntmps84
 go_wp2_with fail
 go_loopw [6] (λiv wr=>∃i:Nat,i<=xs.length/\iv = .int .i64 (i:Int)/\MatX w.heap.size wr w.heap.size xs.length i (Zcfw xs)/\Below w.heap.size w wr) (λiv _=>xs.length-(intOf iv).toNat)
 case atStart=>exact⟨0,Nat.zero_le _,rfl,ai.out _ (size_madeCells _ _),af.out _⟩
 case round=>
  obtain⟨i,hi,rfl,f,F⟩:=hrel;obtain⟨WR,Y⟩:∃V,wr=V:=⟨_,rfl⟩;rw[Y]at f F⊢;clear Y;have G:=hid f;have C:=hid F
  by_cases L:i<xs.length
  ·obtain⟨x,hx⟩:∃x,xs[i]? =some x:=⟨xs[i],List.getElem?_eq_getElem L⟩
   obtain⟨b,o,p1,q1,p3,q3,ar,T,ay,az,s1,s3⟩:=al.out i x hx;have HX:=hid hx;have HC:=hid T;have am:=hid s1;have an:=hid s3;have aw:(i:Int)<(xs.length:Int):=by omega
   have aA:(0:Int)<=(i:Int):=by omega
   obtain⟨u0,a6,au⟩:=(f.mat.below ((Below.refl _ _).alloc (Nat.le_refl _) (.cells (madeCells #[.bool false] xs.length) 4))).slot L;subst ar;unfold maxLen at ay az;clear f F hx T s1 s3
   go_upto_region 6 with fail
   obtain⟨W3,E⟩:∃V,(WR.alloc (.cells (madeCells #[.bool false] xs.length) 4)).setCell ⟨w.heap.size,i,none⟩ (.slice (some ⟨WR.heap.size,0,none⟩) xs.length xs.length)=V:=⟨_,rfl⟩;have aa:MatX w.heap.size W3 w.heap.size xs.length (i+1) (rowM xs i (Zcfd xs (x.ins.take 0))):=by
    rw[<-E];exact G.out.setRow (λk hk=>((Below.refl WR.heap.size WR).alloc (Nat.le_refl _) _).block k hk) Zcgy (Nat.le_refl _) C.out.size (Nat.le_refl _) (by unfold maxLen;omega) L |>.congr (λa _ b _=>by unfold rowM Zcfd;by_cases h:a=i<;>simp[h])
   have I:Below w.heap.size w W3:=by
    rw[<-E];exact(C.out.alloc C.out.size _).setCell (Nat.le_refl _) _
   rw[E];have aj:=hid aa;have ag:=hid I;obtain⟨y1,_⟩:=HC.out _ I;clear E aa I a6 au
   go_wp2_with fail
   go_loopw [34] (λR wr=>∃j:Nat,j<=x.ins.length/\R = .int .i64 (j:Int)/\MatX w.heap.size wr w.heap.size xs.length (i+1) (rowM xs i (Zcfd xs (x.ins.take j)))/\Below w.heap.size w wr) (λR _=>x.ins.length-(intOf R).toNat)
   case atStart=>exact⟨0,Nat.zero_le _,rfl,aj.out,ag.out⟩
   case round=>
    obtain⟨j,hj,rfl,d,c⟩:=hrel;obtain⟨WJ,z⟩:∃V,wr=V:=⟨_,rfl⟩;rw[z]at d c⊢;clear z;have t:=hid d;have p:=hid c
    by_cases K:j<x.ins.length
    ·obtain⟨s,P⟩:∃s,x.ins[j]? =some s:=⟨x.ins[j],List.getElem?_eq_getElem K⟩
     obtain⟨sb,so,Q,B⟩:=am.out j s P;have z0:=B _ c;subst Q;have J:(j:Int)<(x.ins.length:Int):=by omega
     have ax:(0:Int)<=(j:Int):=by omega
     have CM:=hid (ae.out s WJ c);have y:=hid P;clear B P d c
     go_wp2_with fail
     refine CM.out.mono ?_;rintro e w7 ⟨⟨r,rfl,M,a2,ac⟩,rfl⟩;have U:=hid M;clear M
     by_cases ab:0<=r
     ·obtain⟨k,rfl⟩:∃k:Nat,r=(k:Int):=⟨r.toNat,by omega⟩
      obtain⟨rb,rc,a4,a5,O,A,m,n⟩:=t.out.cell (Nat.lt_succ_self i);obtain⟨a7,av⟩:=m.cell (show k<xs.length by omega);have u:=hid n;have H:=hid A;unfold maxLen at O;clear m A n;go_wp2;go_roundw
      case rel=>exact⟨j+1,by omega,by go_num,(u.out k true).congr (λa _ b _=>Zcgx (λb=>by rw[Zcfe y.out,U.out]) a b),p.out.setCell H.out _⟩
      case measure=>simp[intOf];omega
     ·go_wp2
      go_roundw
      case rel=>exact⟨j+1,by omega,by go_num,t.out.congr (λa _ b _=>Zcgw (λb=>by rw[Zcfe y.out,U.out,show(r==(b:Int))=false by simp;omega];simp) a b),p.out⟩
      case measure=>simp[intOf];omega
    ·have J:¬(j:Int)<(x.ins.length:Int):=by omega
     have ak:Hid (MatX w.heap.size WJ w.heap.size xs.length (i+1) (rowM xs i λb=>Zcfd xs x.ins b||Zccd xs (x.after.take 0) b)):=hid (d.congr λa _ b _=>Zcgw (λb=>by rw[List.take_of_length_le (l:=x.ins) (by omega)];simp[Zccd]) a b);have ah:=hid c;obtain⟨_,y3⟩:=HC.out _ c;clear d c
     go_wp2_with fail
     go_loopw [56] (λR wr=>∃j:Nat,j<=x.after.length/\R = .int .i64 (j:Int)/\MatX w.heap.size wr w.heap.size xs.length (i+1) (rowM xs i λb=>Zcfd xs x.ins b||Zccd xs (x.after.take j) b)/\Below w.heap.size w wr) (λR _=>x.after.length-(intOf R).toNat)
     case atStart=>exact⟨0,Nat.zero_le _,rfl,ak.out,ah.out⟩
     case round=>
      obtain⟨j,hj,rfl,d,c⟩:=hrel;obtain⟨WJ,z⟩:∃V,wr=V:=⟨_,rfl⟩;rw[z]at d c⊢;clear z;have t:=hid d;have p:=hid c
      by_cases K:j<x.after.length
      ·obtain⟨s,P⟩:∃s,x.after[j]? =some s:=⟨x.after[j],List.getElem?_eq_getElem K⟩
       obtain⟨sb,so,Q,B⟩:=an.out j s P;have z0:=B _ c;subst Q;have J:(j:Int)<(x.after.length:Int):=by omega
       have ax:(0:Int)<=(j:Int):=by omega
       have CM:=hid (ad.out s WJ c);have y:=hid P;clear B P d c
       go_wp2_with fail
       refine CM.out.mono ?_;rintro e w7 ⟨⟨r,rfl,M,a2,ac⟩,rfl⟩;rw[List.length_map]at ac;have U:=hid M;clear M
       by_cases ab:0<=r
       ·obtain⟨k,rfl⟩:∃k:Nat,r=(k:Int):=⟨r.toNat,by omega⟩
        obtain⟨rb,rc,a4,a5,O,A,m,n⟩:=t.out.cell (Nat.lt_succ_self i);obtain⟨a7,av⟩:=m.cell (show k<xs.length by omega);have u:=hid n;have H:=hid A;unfold maxLen at O;clear m A n;go_wp2;go_roundw
        case rel=>exact⟨j+1,by omega,by go_num,(u.out k true).congr (λa _ b _=>Zcgx (λb=>by rw[Zcce y.out,U.out];simp[Bool.or_assoc]) a b),p.out.setCell H.out _⟩
        case measure=>simp[intOf];omega
       ·go_wp2
        go_roundw
        case rel=>exact⟨j+1,by omega,by go_num,t.out.congr (λa _ b _=>Zcgw (λb=>by rw[Zcce y.out,U.out,show(r==(b:Int))=false by simp;omega];simp) a b),p.out⟩
        case measure=>simp[intOf];omega
      ·have J:¬(j:Int)<(x.after.length:Int):=by omega
       clear d c;go_wp2;go_roundw
       case rel=>exact⟨i+1,by omega,by go_num,t.out.congr (λa _ b _=>Zcgv HX.out (λb=>by rw[List.take_of_length_le (l:=x.after) (by omega)]) a b),p.out⟩
       case measure=>simp[intOf];omega
  ·obtain rfl:i=xs.length:=by omega
   have aw:¬(xs.length:Int)<(xs.length:Int):=by omega
   clear f F;go_wp2;go_ret;exact⟨⟨_,rfl,G.out⟩,C.out⟩
def fwJ (M:Nat->Nat->Bool) (k q j:Nat):Nat->Nat->Bool:=λa b=>if a<q\/(a=q/\b<j)then M a b||(M a k&&M k b)else M a b
theorem Zceo (M:Nat->Nat->Bool) (k q j:Nat):fwJ M k q j q k=M q k:=by
 unfold fwJ;split
 ·cases M q k<;>simp
 ·rfl
theorem Zcen (M:Nat->Nat->Bool) (k q j:Nat):fwJ M k q j q j=M q j:=by
 unfold fwJ;rw[if_neg (by omega)]
theorem Zcem (M:Nat->Nat->Bool) (k q j:Nat):fwJ M k q j k j=M k j:=by
 unfold fwJ;split
 ·cases M k j<;>simp
 ·rfl
theorem Zcer (M:Nat->Nat->Bool) (k a b:Nat):M a b=fwJ M k 0 0 a b:=by
 unfold fwJ;rw[if_neg (by omega)]
theorem Zceq {M:Nat->Nat->Bool} {k q j:Nat} {x:Bool} (h:M q k=true) (hx:x=(M q j||M k j)) (a b:Nat):upd (fwJ M k q j) q j x a b=fwJ M k q (j+1) a b:=by
 unfold upd
 by_cases e:a=q/\b=j
 ·obtain⟨rfl,rfl⟩:=e
  rw[if_pos ⟨rfl,rfl⟩];unfold fwJ;rw[if_pos (by omega),h,hx];simp
 ·rw[if_neg e]
  unfold fwJ
  by_cases g:a<q\/(a=q/\b<j)
  ·rw[if_pos g,if_pos (by omega)]
  ·rw[if_neg g,if_neg (by omega)]
theorem Zcep {M:Nat->Nat->Bool} {k q j:Nat} (h:M q k=false) (a b:Nat):fwJ M k q j a b=fwJ M k (q+1) 0 a b:=by
 unfold fwJ
 by_cases e:a=q
 ·subst e
  rw[if_pos (show a<a+1\/(a=a+1/\b<0) by omega),h];simp
 ·by_cases g:a<q
  ·rw[if_pos (by omega),if_pos (by omega)]
  ·rw[if_neg (by omega),if_neg (by omega)]
theorem Zcel {M:Nat->Nat->Bool} {k q n:Nat} (a b:Nat) (c:b<n):fwJ M k q n a b=fwJ M k (q+1) 0 a b:=by
 unfold fwJ
 by_cases g:a<q+1
 ·rw[if_pos (by omega),if_pos (by omega)]
 ·rw[if_neg (by omega),if_neg (by omega)]
theorem Zcek {M:Nat->Nat->Bool} {k n:Nat} (a b:Nat) (c:a<n):fwJ (fwK M k) k n 0 a b=fwK M (k+1) a b:=by
 unfold fwJ;rw[if_pos (by omega)];rfl
theorem Zcch {w:World} {ty:TypeId} {b n c:Nat} {f:Nat->Bool} (h:RowX w b n f) (h0:0<n) (K:n<=1000):
  ∃i cap w',(Builtin.append_ #[93,93] ty #[.slice none 0 0,.slice (some ⟨b,0,none⟩) n c]).run prog w = .ok (.slice (some ⟨i,0,none⟩) n cap) w'/\RowX w' i n f/\n<=cap/\cap<=maxLen/\w.heap.size<=i/\w.grownBy w' none:=by
 obtain⟨I,E,y,G,B⟩:=Zsv Zcfa;obtain⟨d,z,J,v⟩:=h;have o:(d.toList.take n).length=n*1:=by rw[List.length_take,Array.length_toList];omega
 obtain⟨L,w',F,x,D,_⟩:=run_append_own (P:=prog) w w.heap.size 93 ty 4 I (.bool false) 1 1 underlying93 E y G B rfl (by decide) (.slice none 0 0) 0 [] (World.ownsRow_nil w _ _ 1) ⟨b,0,none⟩ n c (d.toList.take n) o
  (λj u m=>by
   rw[List.getElem?_take]at m;split at m
   ·rw[Addr.add_lit]
    simp only[Nat.zero_add];rw[Array.getElem?_toList]at m;simp[World.cell?,z,m]
   ·cases m)
  (λu H=>by
   obtain⟨k,a⟩:=List.getElem?_of_mem H;rw[List.getElem?_take]at a;split at a
   ·rename_i r
    have hx:=v k r;rw[Array.getElem?_toList,hx]at a;injection a with a
    rw[<-a];rfl
   ·cases a)
  (by unfold maxLen;omega) (by omega) (Nat.le_refl _)
 rw[Nat.zero_add]at x
 rcases x.2 with⟨_,y⟩|⟨i,cap,g,rfl,A,q,s,p,C,t⟩
 ·omega
 ·refine⟨i,cap,w',F,⟨g,q,by omega,λk a=>?_⟩,s,p,A,D⟩
  have hx:=v k a;have e:=congrArg (λl:List Value=>l[k]?) t;simp only[List.nil_append]at e;rw[List.getElem?_take,if_pos (by omega),List.getElem?_take,if_pos a,Array.getElem?_toList,Array.getElem?_toList,hx]at e;exact e
theorem Zccv (g n B:Nat) (M:Nat->Nat->Bool) (w:World) (h:MatX B w g n n M) (hn:n<=1000):
  Calls prog 85 #[.slice (some ⟨g,0,none⟩) n n] w λe w'=>(∃g',e = .returned (.slice (some ⟨g',0,none⟩) n n)/\MatX w.heap.size w' g' n n (fwK M n))/\Below w.heap.size w w':=by
 have HM:=hid h;have au:=Zcfn n hn;have ah:Hid (∀r:Array Value,r.size=n->MatX w.heap.size (w.alloc (.cells r 93)) w.heap.size n 0 M):=by show ∀r:Array Value,_;exact λr hc=>MatX.begin _ (Nat.le_refl _) hc
 have ad:Hid (∀o,Below w.heap.size w (w.alloc o)):=by show ∀o,_;exact λo=>(Below.refl _ _).alloc (Nat.le_refl _) o
 clear h
 go_enter func85,ntmps85
 go_wp2_with fail
 go_loopw [5] (λiv wr=>∃i:Nat,i<=n/\iv = .int .i64 (i:Int)/\MatX w.heap.size wr w.heap.size n i M/\Below w.heap.size w wr) (λiv _=>n-(intOf iv).toNat)
 case atStart=>exact⟨0,Nat.zero_le _,rfl,ah.out _ (size_madeCells _ _),ad.out _⟩
 case round=>
  obtain⟨i,hi,rfl,d,f⟩:=hrel;obtain⟨WR,T⟩:∃V,wr=V:=⟨_,rfl⟩;rw[T]at d f⊢;clear T;have L:=hid d;have ag:=hid f
  by_cases F:i<n
  ·obtain⟨b,c,av,_,aw,_,v,_⟩:=(HM.out.below f).cell F
   obtain⟨g2,R,W2,y,m,X,D,an,t⟩:=Zcch (ty:=93) (c:=c) v (by omega) hn;have Y:∀k,k<WR.heap.size->W2.heap[k]? =WR.heap[k]?:=λk hk=>t.block k hk (by simp)
   have aa:MatX w.heap.size W2 w.heap.size n i M:=d.keep λk hk=>t.block k hk (by simp)
   obtain⟨u0,a2,ax⟩:=aa.mat.slot F;have HR:=hid y;have ai:Hid (MatX w.heap.size (W2.setCell ⟨w.heap.size,i,none⟩ (.slice (some ⟨g2,0,none⟩) n R)) w.heap.size n (i+1) M):=hid ((d.setRow Y m an (by have:=f.size;omega) X D F).congr (λa _ b _=>by by_cases e:a=i<;>simp[e]));have af:Hid (Below w.heap.size w (W2.setCell ⟨w.heap.size,i,none⟩ (.slice (some ⟨g2,0,none⟩) n R))):=hid ((Zfj f t f.size).setCell (Nat.le_refl _) _);have ao:(i:Int)<(n:Int):=by omega
   have ay:(0:Int)<=(i:Int):=by omega
   clear d f v y m t aa Y
   go_wp2_with (at_builtin;refine Zbud (by rfl) _ _ 93 (by rfl) (by rfl) (by rfl) HR.out ?_)
   go_roundw
   case rel=>exact⟨i+1,by omega,by go_num,ai.out,af.out⟩
   case measure=>simp[intOf];omega
  ·obtain rfl:i=n:=by omega
   have ao:¬(i:Int)<(i:Int):=by omega
   clear d f
   go_wp2_with fail
   go_loopw [6] (λkv wr=>∃k:Nat,k<=i/\kv = .int .i64 (k:Int)/\MatX w.heap.size wr w.heap.size i i (fwK M k)/\Below w.heap.size w wr) (λkv _=>i-(intOf kv).toNat)
   case atStart=>exact⟨0,Nat.zero_le _,rfl,L.out,ag.out⟩
   case round=>
    obtain⟨k,hk,rfl,ab,U⟩:=hrel;have A:=hid ab;have J:=hid U;clear ab U;obtain⟨C,hC⟩:∃C,fwK M k=C:=⟨_,rfl⟩;have HC:=hid hC
    by_cases Z:k<i
    ·rw[hC]at A
     clear hC;have ap:(k:Int)<(i:Int):=by omega
     have a0:(0:Int)<=(k:Int):=by omega
     go_wp2_with fail
     go_loopw [7] (λqv wr=>∃q:Nat,q<=i/\qv = .int .i64 (q:Int)/\MatX w.heap.size wr w.heap.size i i (fwJ C k q 0)/\Below w.heap.size w wr) (λqv _=>i-(intOf qv).toNat)
     case atStart=>exact⟨0,Nat.zero_le _,rfl,A.out.congr (λa _ b _=>Zcer C k a b),J.out⟩
     case round=>
      obtain⟨q,hq,rfl,ac,W⟩:=hrel;have P:=hid ac;have K:=hid W;clear ac W
      by_cases ar:q<i
      ·have aq:(q:Int)<(i:Int):=by omega
       have a1:(0:Int)<=(q:Int):=by omega
       go_wp2_with fail
       go_loopw [8] (λjv wr=>∃j:Nat,j<=i/\jv = .int .i64 (j:Int)/\MatX w.heap.size wr w.heap.size i i (fwJ C k q j)/\Below w.heap.size w wr) (λjv _=>i-(intOf jv).toNat)
       case atStart=>exact⟨0,Nat.zero_le _,rfl,P.out,K.out⟩
       case round=>
        obtain⟨j,hj,rfl,l,s⟩:=hrel;obtain⟨WJ,S⟩:∃V,wr=V:=⟨_,rfl⟩;rw[S]at l s⊢;clear S;have O:=hid l;have z:=hid s
        by_cases u:j<i
        ·have E:(j:Int)<(i:Int):=by omega
         have az:(0:Int)<=(j:Int):=by omega
         have hd:decide ((j:Int)<(i:Int))=true:=decide_eq_true E;have am:decide (j<i)=true:=decide_eq_true u;obtain⟨b1,c1,e1,l1,m1,B1,r1,s1⟩:=l.cell ar;obtain⟨b2,c2,e2,l2,m2,B2,r2,_⟩:=l.cell Z;obtain⟨z1,f1⟩:=r1.cell Z;obtain⟨z2,f2⟩:=r1.cell u;obtain⟨z3,f3⟩:=r2.cell u;rw[Zceo]at z1;rw[Zcen]at z2;rw[Zcem]at z3;obtain⟨x1,G⟩:∃x,C q k=x:=⟨_,rfl⟩;obtain⟨x2,H⟩:∃x,C q j=x:=⟨_,rfl⟩;obtain⟨x3,I⟩:∃x,C k j=x:=⟨_,rfl⟩;rw[G]at z1;rw[H]at z2;rw[I]at z3;have Q:=hid G;have ak:=hid H;have al:=hid I;have aj:=hid s1;have ae:=hid B1;unfold maxLen at m1 m2;clear l s r1 r2 s1 B1 B2 G H I
         cases x1
         ·go_wp2
          go_roundw
          case rel=>exact⟨q+1,by omega,by go_num,O.out.congr (λa _ b _=>Zcep Q.out a b),z.out⟩
          case measure=>simp[intOf];omega
         ·have p:Hid (∀x,x=(x2||x3)->MatX w.heap.size (WJ.setCell ⟨b1,j,none⟩ (.bool x)).drew w.heap.size i i (fwJ C k q (j+1))/\Below w.heap.size w (WJ.setCell ⟨b1,j,none⟩ (.bool x)).drew):=by
           show ∀x,_;intro x hx;exact⟨((aj.out j x).congr (λa _ b _=>Zceq Q.out (by rw[ak.out,al.out];exact hx) a b)).below (Below.refl _ _).drew,(z.out.setCell ae.out _).drew⟩
          cases x2
          all_goals go_wp2_with fail
          all_goals go_region
          all_goals go_wp2
          all_goals go_roundw
          case rel=>exact⟨j+1,by omega,by go_num,(p.out _ (by simp)).1,(p.out _ (by simp)).2⟩
          case measure=>simp[intOf];omega
          case rel=>exact⟨j+1,by omega,by go_num,(p.out _ (by simp)).1,(p.out _ (by simp)).2⟩
          case measure=>simp[intOf];omega
        ·have E:¬(j:Int)<(i:Int):=by omega
         have hd:decide ((j:Int)<(i:Int))=false:=decide_eq_false E;have am:decide (j<i)=false:=decide_eq_false u;clear l s;go_wp2;go_roundw
         case rel=>exact⟨q+1,by omega,by go_num,(O.out.congr (λa _ b hb=>by rw[show j=i by omega];exact Zcel a b hb)),z.out⟩
         case measure=>simp[intOf];omega
      ·have aq:¬(q:Int)<(i:Int):=by omega
       go_wp2;go_roundw
       case rel=>exact⟨k+1,by omega,by go_num,(P.out.congr (λa ha b _=>by rw[show q=i by omega,<-HC.out];exact Zcek a b ha)),K.out⟩
       case measure=>simp[intOf];omega
    ·have ap:¬(k:Int)<(i:Int):=by omega
     go_wp2;go_ret;exact⟨⟨_,rfl,by have:=A.out;rw[show k=i by omega]at this;exact this⟩,J.out⟩
