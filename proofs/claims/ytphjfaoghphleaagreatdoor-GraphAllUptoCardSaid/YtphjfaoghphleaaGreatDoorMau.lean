import Derived.Test.YtphjfaoghphleaaGreatDoorMat
set_option maxRecDepth 100000
set_option maxHeartbeats 4000000
namespace Go.Proofs.YtphjfaoghphleaaGreatDoor
open Go.Lib (hid)
open Go.Proofs.Tryz Go.RowKit Go.Shelf Go.Maps
def okN (x:ByteArray):Bool:=Zbcf x.data.toList
def Zbnm (x:StepS):Bool:=mayB x&&okN x.out&&x.args.all okN
def Zpo (r:RuleS):Bool:=okN r.name&&r.ins.all okN&&decide (0<r.outs.length)&&r.outs.all okN&&r.after.all okN&&r.steps.all Zbnm
def Zbkx (r:RuleS):Bool:=decide (r.ins.length<=8)&&decide (r.outs.length<=4)&&decide (r.after.length<=8)&&decide (r.steps.length<=12)
def MayW (w:World):Prop:=∃m,w.cell? ⟨0,0,none⟩=some (.int .i64 m)
theorem Zic {w:World} {b k:Nat} {v:Value} (h:w.cell? ⟨b,k,none⟩=some v):b<w.heap.size:=by
 cases a:w.heap[b]? with
 | none=>grind [World.cell?]
 | some o=>grind
theorem Zblx {ks:List ByteArray} (h:SmallL ks 1048576):∀k∈ks,k.size<=maxLen:=λk a=>by have:=h.2 k a;unfold maxLen;omega
theorem MayW.below {w w':World} (h:MayW w) (a:Below w.heap.size w w'):MayW w':=by
 obtain⟨m,h⟩:=h;exact⟨m,(a.cell (p:=⟨_,0,none⟩) (Zic h)).trans h⟩
theorem Zyx (s:ByteArray) (w:World) (b:s.size<=maxLen) (a:MayW w):Calls prog 191 #[.string s] w λe w'=>e = .returned (.bool (okN s))/\Below w.heap.size w w':=by
 obtain⟨m,h⟩:=a;exact Zzb s m w b h
theorem Zyr (s:ByteArray) (w:World) (c:s.size<=maxLen) (b:MayW w):Calls prog 263 #[.string s] w λe w'=>e = .returned (.bool (!okN s))/\Below w.heap.size w w':=by
 have C:=hid (Zyx s w c b);clear c b
 go_enter func263,ntmps263
 go_wp2_with (go_at_call 191;refine C.out.mono ?_;rintro e d ⟨rfl,a⟩)
 go_ret;exact⟨rfl,a⟩
theorem Zys (v:Value) (xs:List ByteArray) (w:World) (h:IsStrs w v xs) (g:∀x∈xs,x.size<=maxLen) (d:MayW w):Calls prog 208 #[v] w λe w'=>e = .returned (.bool (xs.all okN))/\Below w.heap.size w w':=by
 have a:=Zki 263 #[] (enters_of func263 (by kernel_rfl) rfl) v xs (λx=> !okN x) w.heap.size w (Nat.le_refl _) (λW b=>h.below b) (λx hx W b=>Zyr x W (g x hx) (d.below b));have e:(!xs.any λx=> !okN x)=xs.all okN:=by rw[<-List.not_all_eq_any_not];simp
 obtain⟨r,f⟩:∃r,(xs.any λx=> !okN x)=r:=⟨_,rfl⟩;rw[f]at a e;rw[<-e];have i:=hid a;clear h g d a e f
 go_enter func208,ntmps208
 go_wp2_with (go_at_call 131;refine i.out.mono ?_;rintro e j ⟨rfl,c⟩)
 go_ret;exact⟨rfl,c⟩
theorem Zbnn (x:StepS) (u y:Option Addr) (v z:Nat) (w:World) (K:IsStrs w (.slice u x.args.length v) x.args) (T:IsStrs w (.slice y x.lits.length z) x.lits) (M:SmallS x 1048576) (L:MayW w):
  Calls prog 211 #[.agg #[.string x.out,.int .i64 x.op,.slice u x.args.length v,.slice y x.lits.length z,.int .i64 x.n]] w λe w'=>e = .returned (.bool (Zbnm x))/\Below w.heap.size w w':=by
 obtain⟨W1,g⟩:∃W1,w.alloc (.cells #[.string x.out,.int .i64 x.op,.slice u x.args.length v,.slice y x.lits.length z,.int .i64 x.n] 58)=W1:=⟨_,rfl⟩;have i:Below w.heap.size w W1:=by rw[<-g];exact(Below.refl _ _).alloc (Nat.le_refl _) _
 have S:W1.heap[w.heap.size]? =some (.cells #[.string x.out,.int .i64 x.op,.slice u x.args.length v,.slice y x.lits.length z,.int .i64 x.n] 58):=by rw[<-g];exact alloc_at w _
 have O:W1.heap.size=w.heap.size+1:=by rw[<-g];simp
 have J:∀W,Below W1.heap.size W1 W->W.heap[w.heap.size]? =some (.cells #[.string x.out,.int .i64 x.op,.slice u x.args.length v,.slice y x.lits.length z,.int .i64 x.n] 58):=λW h=>(h.block _ (by omega)).trans S
 have C:∀W,Below W1.heap.size W1 W->Calls prog 107 #[.agg #[.string x.out,.int .i64 x.op,.slice u x.args.length v,.slice y x.lits.length z,.int .i64 x.n]] W λe w'=>e = .returned (.bool (mayB x))/\Below W1.heap.size W1 w':=λW h=>(Zbnr x u y v z W (K.below (i.trans (h.mono i.size))) (T.below (i.trans (h.mono i.size)))).mono λe w' r=>⟨r.1,h.trans (r.2.mono h.size)⟩
 have D:∀W,Below W1.heap.size W1 W->Calls prog 191 #[.string x.out] W λe w'=>e = .returned (.bool (okN x.out))/\Below W1.heap.size W1 w':=λW h=>(Zyx x.out W (by have:=M.out;unfold maxLen;omega) (L.below (i.trans (h.mono i.size)))).mono λe w' r=>⟨r.1,h.trans (r.2.mono h.size)⟩
 have E:∀W,Below W1.heap.size W1 W->Calls prog 208 #[.slice u x.args.length v] W λe w'=>e = .returned (.bool (x.args.all okN))/\Below W1.heap.size W1 w':=λW h=>(Zys _ x.args W (K.below (i.trans (h.mono i.size))) (Zblx M.args) (L.below (i.trans (h.mono i.size)))).mono λe w' r=>⟨r.1,h.trans (r.2.mono h.size)⟩
 unfold Zbnm;obtain⟨Y,G⟩:∃b,mayB x=b:=⟨_,rfl⟩;obtain⟨Z,H⟩:∃b,okN x.out=b:=⟨_,rfl⟩;obtain⟨b2,I⟩:∃b,x.args.all okN=b:=⟨_,rfl⟩;rw[G]at C;rw[H]at D;rw[I]at E;rw[G,H,I];obtain⟨aa,op,R,U,n⟩:=x;simp only at C D E J i g⊢;have B:=hid C;have F:=hid D;have Q:=hid E;have t:=hid i;have l:=hid J;have X:=hid g;clear C D E i J g G H I K T M L S O
 go_enter func211,ntmps211
 go_wp2_with fail
 rw[X.out];have A:Hid (Below W1.heap.size W1 W1):=hid (Below.refl _ _);obtain⟨m,o,p,q,s,_⟩:=cells5 (l.out W1 A.out)
 cases Y
 ·go_wp2_with (first
   | (go_at_call 107;(with_reducible refine(B.out _ A.out).mono ?_);rintro e P ⟨rfl,c⟩;have a:=hid c;obtain⟨m,o,p,q,s,_⟩:=cells5 <| l.out _ a.out;clear c))
  go_ret;exact⟨rfl,t.out.trans (a.out.mono t.out.size)⟩
 cases Z
 ·go_wp2_with (first
   | (go_at_call 107;(with_reducible refine(B.out _ A.out).mono ?_);rintro e P ⟨rfl,c⟩;have a:=hid c;obtain⟨m,o,p,q,s,_⟩:=cells5 <| l.out _ a.out;clear c)
   | (go_at_call 191;(with_reducible refine(F.out _ a.out).mono ?_);rintro e V ⟨rfl,f⟩;have d:=hid f;obtain⟨m,o,p,q,s,_⟩:=cells5 <| l.out _ d.out;clear f))
  go_ret;exact⟨rfl,t.out.trans (d.out.mono t.out.size)⟩
 cases b2
 ·go_wp2_with (first
   | (go_at_call 107;(with_reducible refine(B.out _ A.out).mono ?_);rintro e P ⟨rfl,c⟩;have a:=hid c;obtain⟨m,o,p,q,s,_⟩:=cells5 <| l.out _ a.out;clear c)
   | (go_at_call 191;(with_reducible refine(F.out _ a.out).mono ?_);rintro e V ⟨rfl,f⟩;have d:=hid f;obtain⟨m,o,p,q,s,_⟩:=cells5 <| l.out _ d.out;clear f)
   | (go_at_call 208;(with_reducible refine(Q.out _ d.out).mono ?_);rintro e w4 ⟨rfl,k⟩;have j:=hid k;obtain⟨m,o,p,q,s,_⟩:=cells5 <| l.out _ j.out;clear k))
  go_ret;exact⟨rfl,t.out.trans (j.out.mono t.out.size)⟩
 go_wp2_with (first
  | (go_at_call 107;(with_reducible refine(B.out _ A.out).mono ?_);rintro e P ⟨rfl,c⟩;have a:=hid c;obtain⟨m,o,p,q,s,_⟩:=cells5 <| l.out _ a.out;clear c)
  | (go_at_call 191;(with_reducible refine(F.out _ a.out).mono ?_);rintro e V ⟨rfl,f⟩;have d:=hid f;obtain⟨m,o,p,q,s,_⟩:=cells5 <| l.out _ d.out;clear f)
  | (go_at_call 208;(with_reducible refine(Q.out _ d.out).mono ?_);rintro e w4 ⟨rfl,k⟩;have j:=hid k;obtain⟨m,o,p,q,s,_⟩:=cells5 <| l.out _ j.out;clear k))
 go_ret;exact⟨rfl,t.out.trans (j.out.mono t.out.size)⟩
theorem Zbnl (x:StepS) (c d:Option Addr) (f g:Nat) (w:World) (m:IsStrs w (.slice c x.args.length f) x.args) (p:IsStrs w (.slice d x.lits.length g) x.lits) (r:SmallS x 1048576) (q:MayW w):
  Calls prog 210 #[.agg #[.string x.out,.int .i64 x.op,.slice c x.args.length f,.slice d x.lits.length g,.int .i64 x.n]] w λe w'=>e = .returned (.bool (!Zbnm x))/\Below w.heap.size w w':=by
 obtain⟨W1,a⟩:∃W1,w.alloc (.cells #[.string x.out,.int .i64 x.op,.slice c x.args.length f,.slice d x.lits.length g,.int .i64 x.n] 58)=W1:=⟨_,rfl⟩;have h:Below w.heap.size w W1:=by rw[<-a];exact(Below.refl _ _).alloc (Nat.le_refl _) _
 have o:W1.heap[w.heap.size]? =some (.cells #[.string x.out,.int .i64 x.op,.slice c x.args.length f,.slice d x.lits.length g,.int .i64 x.n] 58):=by rw[<-a];exact alloc_at w _
 obtain⟨u,v,y,z,A,_⟩:=cells5 o;have C:=hid (Zbnn x c d f g W1 (m.below h) (p.below h) r (q.below h));obtain⟨D,l⟩:∃b,Zbnm x=b:=⟨_,rfl⟩;rw[l]at C⊢;obtain⟨B,E,k,s,n⟩:=x;simp only at C u v y z A a⊢;have j:=hid h;have t:=hid a;clear h a o m p r q l
 go_enter func210,ntmps210
 go_wp2_with (go_at_call 211;rw[t.out];(with_reducible refine C.out.mono ?_);rintro e F ⟨rfl,i⟩)
 go_ret;exact⟨rfl,j.out.trans (i.mono j.out.size)⟩
theorem Zdn (xs:List StepS) (q:StepS->Bool) (p:Nat->Bool) (h:∀(k:Nat) x,xs[k]? =some x->p k=q x):(List.range xs.length).any p=xs.any q:=by
 rw[Bool.eq_iff_iff,List.any_eq_true,List.any_eq_true];constructor
 ·rintro⟨k,a,b⟩
  have a:=List.mem_range.1 a;exact⟨xs[k],List.getElem_mem a,by rw[<-h k _ (List.getElem?_eq_getElem a)];exact b⟩
 ·rintro⟨x,hx,b⟩
  obtain⟨k,a,e⟩:=List.getElem_of_mem hx;exact⟨k,List.mem_range.2 a,by rw[h k x (by rw[List.getElem?_eq_getElem a,e])];exact b⟩
theorem Zkh (l:Nat) (j:Array Value) (P:∀t w,(callFunc l t).run prog w = .ok (.enter l t) w) (v:Value) (xs:List StepS) (q:StepS->Bool) (w:World) (X:StepsI w v xs)
  (U:∀x∈xs,∀(F G:Option Addr) (H I:Nat) W,Below w.heap.size w W->IsStrs W (.slice F x.args.length H) x.args->IsStrs W (.slice G x.lits.length I) x.lits->Calls prog l (#[.agg #[.string x.out,.int .i64 x.op,.slice F x.args.length H,.slice G x.lits.length I,.int .i64 x.n]]++j) W λe E=>e = .returned (.bool (q x))/\Below W.heap.size W E):
  Calls prog 209 #[v,.func (.func l) #[] j] w λe w'=>e = .returned (.bool (xs.any q))/\Below w.heap.size w w':=by
 obtain⟨d,B,g⟩:=X;obtain⟨a,c,rfl,Q,R,S⟩:=id B;have L:∀(k:Nat) x,xs[k]? =some x->∃r,d[k]? =some r/\Zcc w r x:=by
  intro k x hx;have s:k<d.length:=by rw[g.1];exact(List.getElem?_eq_some_iff.1 hx).1
  exact⟨d[k],List.getElem?_eq_getElem s,g.2 k _ x (List.getElem?_eq_getElem s) hx⟩
 have hx:∀(k:Nat),k<d.length->∃x,xs[k]? =some x:=λk s=>⟨xs[k]'(by rw[<-g.1];exact s),List.getElem?_eq_getElem _⟩
 refine(Zkj l j P a d.length c (Nat.le_trans Q R) (λk=>(d.getD k []).getD 0 undef) (λk=>(d.getD k []).getD 1 undef) (λk=>(d.getD k []).getD 2 undef) (λk=>(d.getD k []).getD 3 undef) (λk=>(d.getD k []).getD 4 undef) (λk=>(xs[k]?.map q).getD false) (λ_ W=>Below w.heap.size w W) w (λk W s y=>?_) (λk W s _ y=>?_) (Below.refl _ _)).mono ?_
 ·obtain⟨x,f⟩:=hx k s
  obtain⟨r,C,va,vl,D,_,_⟩:=L k x f;obtain⟨b,o,rfl,A,T⟩:=S (by rintro rfl;simp at s);refine⟨b,o,rfl,?_⟩;have z:d.getD k []=r:=by rw[List.getD_eq_getElem?_getD,C];rfl
  have m:∀(i:Nat) u,r[i]? =some u->W.cell? ⟨b,o+k*5+i,none⟩=some u:=λi u V=>(y.cell (p:=⟨b,_,none⟩) A).trans (T k r C i u V)
  simp only[z];subst D;exact⟨m 0 _ rfl,m 1 _ rfl,m 2 _ rfl,m 3 _ rfl,m 4 _ rfl⟩
 ·obtain⟨x,f⟩:=hx k s
  obtain⟨r,C,va,vl,D,J,K⟩:=L k x f;obtain⟨M,Y,rfl⟩:=Zue J;obtain⟨O,Z,rfl⟩:=Zue K;have z:d.getD k []=r:=by rw[List.getD_eq_getElem?_getD,C];rfl
  simp only[z];subst D;refine(U x (List.mem_of_getElem? f) M O Y Z W y (J.below y) (K.below y)).mono ?_;rintro e E ⟨rfl,A⟩;exact⟨by rw[f];rfl,y.trans (A.mono y.size)⟩
 ·intro e w' h
  obtain⟨rfl,k,_,A⟩:=h.any;exact⟨by rw[g.1,Zdn xs q _ (λk x f=>by rw[f];rfl)],A⟩
theorem Zpp (r:RuleS) (A B I J:Option Addr) (C D K L:Nat) (w:World) (hr:RuleI w [.string r.name,.slice A r.ins.length C,.slice B r.outs.length D,.slice I r.after.length K,.slice J r.steps.length L] r) (G:SmallR r 1048576) (M:MayW w):
  Calls prog 144 #[.agg (Zbiz r A B I J C D K L)] w λe w'=>e = .returned (.bool (Zpo r))/\Below w.heap.size w w':=by
 obtain⟨vi,vo,vf,ah,qe,h1,h2,h3,h4⟩:=hr;simp only[List.cons.injEq,and_true,true_and]at qe;obtain⟨rfl,rfl,rfl,rfl⟩:=qe;obtain⟨W1,t⟩:∃W1,w.alloc (.cells (Zbiz r A B I J C D K L) 50)=W1:=⟨_,rfl⟩;have o:Below w.heap.size w W1:=by rw[<-t];exact(Below.refl _ _).alloc (Nat.le_refl _) _
 have hc:W1.heap[w.heap.size]? =some (.cells (Zbiz r A B I J C D K L) 50):=by rw[<-t];exact alloc_at w _
 have ac:W1.heap.size=w.heap.size+1:=by rw[<-t];simp
 have hD:∀W,Below W1.heap.size W1 W->W.heap[w.heap.size]? =some (.cells (Zbiz r A B I J C D K L) 50):=λW h=>(h.block _ (by omega)).trans hc
 have T:∀W,Below W1.heap.size W1 W->Calls prog 191 #[.string r.name] W λe w'=>e = .returned (.bool (okN r.name))/\Below W1.heap.size W1 w':=λW h=>(Zyx r.name W (by have:=G.name;unfold maxLen;omega) (M.below (o.trans (h.mono o.size)))).mono λe w' r=>⟨r.1,h.trans (r.2.mono h.size)⟩
 have U:∀W,Below W1.heap.size W1 W->Calls prog 208 #[.slice A r.ins.length C] W λe w'=>e = .returned (.bool (r.ins.all okN))/\Below W1.heap.size W1 w':=λW h=>(Zys _ r.ins W (h1.below (o.trans (h.mono o.size))) (Zblx G.ins) (M.below (o.trans (h.mono o.size)))).mono λe w' r=>⟨r.1,h.trans (r.2.mono h.size)⟩
 have V:∀W,Below W1.heap.size W1 W->Calls prog 208 #[.slice B r.outs.length D] W λe w'=>e = .returned (.bool (r.outs.all okN))/\Below W1.heap.size W1 w':=λW h=>(Zys _ r.outs W (h2.below (o.trans (h.mono o.size))) (Zblx G.outs) (M.below (o.trans (h.mono o.size)))).mono λe w' r=>⟨r.1,h.trans (r.2.mono h.size)⟩
 have X:∀W,Below W1.heap.size W1 W->Calls prog 208 #[.slice I r.after.length K] W λe w'=>e = .returned (.bool (r.after.all okN))/\Below W1.heap.size W1 w':=λW h=>(Zys _ r.after W (h3.below (o.trans (h.mono o.size))) (Zblx G.after) (M.below (o.trans (h.mono o.size)))).mono λe w' r=>⟨r.1,h.trans (r.2.mono h.size)⟩
 have Y:∀W,Below W1.heap.size W1 W->Calls prog 209 #[.slice J r.steps.length L,.func (.func 210) #[] #[]] W λe w'=>e = .returned (.bool (r.steps.any λx=> !Zbnm x))/\Below W1.heap.size W1 w':=λW h=>(Zkh 210 #[] (enters_of func210 (by kernel_rfl) rfl) _ r.steps (λx=> !Zbnm x) W (h4.below (o.trans (h.mono o.size))) (λx hx A B C D W2 ab hA hL=>Zbnl x A B C D W2 hA hL (G.steps x hx) ((M.below (o.trans (h.mono o.size))).below ab))).mono λe w' r=>⟨r.1,h.trans (r.2.mono h.size)⟩
 have e5:(!r.steps.any λx=> !Zbnm x)=r.steps.all Zbnm:=by rw[<-List.not_all_eq_any_not];simp
 have F:r.outs.length<=1048576:=G.outs.1;unfold Zpo;rw[<-e5];obtain⟨b0,h0⟩:∃b,okN r.name=b:=⟨_,rfl⟩;obtain⟨b1,g1⟩:∃b,r.ins.all okN=b:=⟨_,rfl⟩;obtain⟨b2,S⟩:∃b,decide (0<r.outs.length)=b:=⟨_,rfl⟩;obtain⟨b3,g3⟩:∃b,r.outs.all okN=b:=⟨_,rfl⟩;obtain⟨b4,g4⟩:∃b,r.after.all okN=b:=⟨_,rfl⟩;obtain⟨b5,g5⟩:∃b,(r.steps.any λx=> !Zbnm x)=b:=⟨_,rfl⟩;rw[h0]at T;rw[g1]at U;rw[g3]at V;rw[g4]at X;rw[g5]at Y;rw[h0,g1,S,g3,g4,g5];obtain⟨af,insN,y,aa,ae⟩:=r;simp only[Zbiz]at T U V X Y hD o t F S⊢;have E:=hid T;have H:=hid U;have R:=hid V;have Z:=hid X;have Q5:=hid Y;have s:=hid o;have i:=hid hD;have HW:=hid t;clear T U V X Y o hD t h0 g1 g3 g4 g5 h1 h2 h3 h4 G M hc ac e5;have ag:∀(fn:Fn) (first P:Array Value) (w:World),(Instr.makeFunc fn first P).run prog w = .ok (.func fn first P) w:=λ_ _ _ _=>rfl
 go_enter func144,ntmps144
 go_wp2_with fail
 rw[HW.out];have z:Hid (Below W1.heap.size W1 W1):=hid (Below.refl _ _);obtain⟨j,k,l,m,n,_⟩:=cells5 (i.out W1 z.out)
 cases b0
 ·go_wp2_with (first
   | (go_at_call 191;(with_reducible refine(E.out _ z.out).mono ?_);rintro e O ⟨rfl,c⟩;have a:=hid c;obtain⟨j,k,l,m,n,_⟩:=cells5 <| i.out _ a.out;clear c))
  go_ret;exact⟨rfl,s.out.trans (a.out.mono s.out.size)⟩
 cases b1
 ·go_wp2_with (first
   | (go_at_call 191;(with_reducible refine(E.out _ z.out).mono ?_);rintro e O ⟨rfl,c⟩;have a:=hid c;obtain⟨j,k,l,m,n,_⟩:=cells5 <| i.out _ a.out;clear c)
   | (go_at_call 208;(with_reducible refine(H.out _ a.out).mono ?_);rintro e Q ⟨rfl,f⟩;have d:=hid f;obtain⟨j,k,l,m,n,_⟩:=cells5 <| i.out _ d.out;clear f))
  go_ret;exact⟨rfl,s.out.trans (d.out.mono s.out.size)⟩
 cases b2
 ·have ad:¬(0:Int)<(y.length:Int):=by have:=of_decide_eq_false S;omega
  go_wp2_with (first
   | (go_at_call 191;(with_reducible refine(E.out _ z.out).mono ?_);rintro e O ⟨rfl,c⟩;have a:=hid c;obtain⟨j,k,l,m,n,_⟩:=cells5 <| i.out _ a.out;clear c)
   | (go_at_call 208;(with_reducible refine(H.out _ a.out).mono ?_);rintro e Q ⟨rfl,f⟩;have d:=hid f;obtain⟨j,k,l,m,n,_⟩:=cells5 <| i.out _ d.out;clear f))
  go_ret;exact⟨rfl,s.out.trans (d.out.mono s.out.size)⟩
 have ad:(0:Int)<(y.length:Int):=by have:=of_decide_eq_true S;omega
 cases b3
 ·go_wp2_with (first
   | (go_at_call 191;(with_reducible refine(E.out _ z.out).mono ?_);rintro e O ⟨rfl,c⟩;have a:=hid c;obtain⟨j,k,l,m,n,_⟩:=cells5 <| i.out _ a.out;clear c)
   | (go_at_call 208;(with_reducible refine(H.out _ a.out).mono ?_);rintro e Q ⟨rfl,f⟩;have d:=hid f;obtain⟨j,k,l,m,n,_⟩:=cells5 <| i.out _ d.out;clear f)
   | (go_at_call 208;(with_reducible refine(R.out _ d.out).mono ?_);rintro e w5 ⟨rfl,hb5⟩;have g:=hid hb5;obtain⟨j,k,l,m,n,_⟩:=cells5 <| i.out _ g.out;clear hb5))
  go_ret;exact⟨rfl,s.out.trans (g.out.mono s.out.size)⟩
 cases b4
 ·go_wp2_with (first
   | (go_at_call 191;(with_reducible refine(E.out _ z.out).mono ?_);rintro e O ⟨rfl,c⟩;have a:=hid c;obtain⟨j,k,l,m,n,_⟩:=cells5 <| i.out _ a.out;clear c)
   | (go_at_call 208;(with_reducible refine(H.out _ a.out).mono ?_);rintro e Q ⟨rfl,f⟩;have d:=hid f;obtain⟨j,k,l,m,n,_⟩:=cells5 <| i.out _ d.out;clear f)
   | (go_at_call 208;(with_reducible refine(R.out _ d.out).mono ?_);rintro e w5 ⟨rfl,hb5⟩;have g:=hid hb5;obtain⟨j,k,l,m,n,_⟩:=cells5 <| i.out _ g.out;clear hb5)
   | (go_at_call 208;(with_reducible refine(Z.out _ g.out).mono ?_);rintro e w6 ⟨rfl,q⟩;have p:=hid q;obtain⟨j,k,l,m,n,_⟩:=cells5 <| i.out _ p.out;clear q))
  go_ret;exact⟨rfl,s.out.trans (p.out.mono s.out.size)⟩
 cases b5
 ·go_wp2_with (first
   | (go_at_call 191;(with_reducible refine(E.out _ z.out).mono ?_);rintro e O ⟨rfl,c⟩;have a:=hid c;obtain⟨j,k,l,m,n,_⟩:=cells5 <| i.out _ a.out;clear c)
   | (go_at_call 208;(with_reducible refine(H.out _ a.out).mono ?_);rintro e Q ⟨rfl,f⟩;have d:=hid f;obtain⟨j,k,l,m,n,_⟩:=cells5 <| i.out _ d.out;clear f)
   | (go_at_call 208;(with_reducible refine(R.out _ d.out).mono ?_);rintro e w5 ⟨rfl,hb5⟩;have g:=hid hb5;obtain⟨j,k,l,m,n,_⟩:=cells5 <| i.out _ g.out;clear hb5)
   | (go_at_call 208;(with_reducible refine(Z.out _ g.out).mono ?_);rintro e w6 ⟨rfl,q⟩;have p:=hid q;obtain⟨j,k,l,m,n,_⟩:=cells5 <| i.out _ p.out;clear q)
   | (go_at_call 209;(with_reducible refine(Q5.out _ p.out).mono ?_);rintro e w7 ⟨rfl,v⟩;have u:=hid v;obtain⟨j,k,l,m,n,_⟩:=cells5 <| i.out _ u.out;clear v))
  go_ret;exact⟨rfl,s.out.trans (u.out.mono s.out.size)⟩
 go_wp2_with (first
  | (go_at_call 191;(with_reducible refine(E.out _ z.out).mono ?_);rintro e O ⟨rfl,c⟩;have a:=hid c;obtain⟨j,k,l,m,n,_⟩:=cells5 <| i.out _ a.out;clear c)
  | (go_at_call 208;(with_reducible refine(H.out _ a.out).mono ?_);rintro e Q ⟨rfl,f⟩;have d:=hid f;obtain⟨j,k,l,m,n,_⟩:=cells5 <| i.out _ d.out;clear f)
  | (go_at_call 208;(with_reducible refine(R.out _ d.out).mono ?_);rintro e w5 ⟨rfl,hb5⟩;have g:=hid hb5;obtain⟨j,k,l,m,n,_⟩:=cells5 <| i.out _ g.out;clear hb5)
  | (go_at_call 208;(with_reducible refine(Z.out _ g.out).mono ?_);rintro e w6 ⟨rfl,q⟩;have p:=hid q;obtain⟨j,k,l,m,n,_⟩:=cells5 <| i.out _ p.out;clear q)
  | (go_at_call 209;(with_reducible refine(Q5.out _ p.out).mono ?_);rintro e w7 ⟨rfl,v⟩;have u:=hid v;obtain⟨j,k,l,m,n,_⟩:=cells5 <| i.out _ u.out;clear v))
 go_ret;exact⟨rfl,s.out.trans (u.out.mono s.out.size)⟩
theorem Zbky (r:RuleS) (s t u v:Option Addr) (A B C D:Nat) (w:World) (f:SmallR r 1048576):
  Calls prog 145 #[.agg (Zbiz r s t u v A B C D)] w λe w'=>e = .returned (.bool (Zbkx r))/\Below w.heap.size w w':=by
 have k:=f.ins.1;have l:=f.outs.1;have m:=f.after.1;have n:=f.few;unfold Zbkx;obtain⟨x,g⟩:∃b,decide (r.ins.length<=8)=b:=⟨_,rfl⟩;obtain⟨y,h⟩:∃b,decide (r.outs.length<=4)=b:=⟨_,rfl⟩;obtain⟨z,i⟩:∃b,decide (r.after.length<=8)=b:=⟨_,rfl⟩;obtain⟨b4,j⟩:∃b,decide (r.steps.length<=12)=b:=⟨_,rfl⟩;rw[g,h,i,j];obtain⟨p,insN,c,a,d⟩:=r;simp only[Zbiz]at g h i j k l m n⊢;clear f
 cases x
 ·have E:¬(insN.length:Int)<=8:=by have:=of_decide_eq_false g;omega
  go_enter func145,ntmps145
  go_wp2;go_ret;exact⟨rfl,(Below.refl _ _).alloc (Nat.le_refl _) _⟩
 have E:(insN.length:Int)<=8:=by have:=of_decide_eq_true g;omega
 cases y
 ·have F:¬(c.length:Int)<=4:=by have:=of_decide_eq_false h;omega
  go_enter func145,ntmps145
  go_wp2;go_ret;exact⟨rfl,(Below.refl _ _).alloc (Nat.le_refl _) _⟩
 have F:(c.length:Int)<=4:=by have:=of_decide_eq_true h;omega
 cases z
 ·have G:¬(a.length:Int)<=8:=by have:=of_decide_eq_false i;omega
  go_enter func145,ntmps145
  go_wp2;go_ret;exact⟨rfl,(Below.refl _ _).alloc (Nat.le_refl _) _⟩
 have G:(a.length:Int)<=8:=by have:=of_decide_eq_true i;omega
 have o:decide ((d.length:Int)<=12)=b4:=by rw[<-j,Bool.eq_iff_iff,decide_eq_true_eq,decide_eq_true_eq];omega
 have q:=hid o;clear o j
 go_enter func145,ntmps145
 go_wp2;go_ret;exact⟨congrArg (λb=>Ending.returned (.bool b)) q.out,(Below.refl _ _).alloc (Nat.le_refl _) _⟩
def Zbe (sb:Nat) (a:Option Addr) (A B:World):Prop:=B.heap[sb]? =A.heap[sb]? /\∀g,(a.map Addr.block)=some g->B.heap[g]? =A.heap[g]?
theorem Zwh {b:Nat} {a:Option Addr} {w:World} (h:b<w.heap.size) (c:∀g,(a.map Addr.block)=some g->g<w.heap.size) (W:World) (l:Nat) (o o':Obj) (e:w.heap.size<=l) (_:W.heap[l]? =some o) (_:o.isCells=false) (_:o.isWalk=false):Zbe b a W (W.putObj l o'):=
 ⟨World.putObj_heap_other (by omega),λg d=>World.putObj_heap_other (by have:=c g d;omega)⟩
section
attribute [local go_sem] Oper.semAt_some
end
open Go.Lib
def Zbak (outs:List ByteArray):List StepS->List Bool×List ByteArray
 | []=>([],outs)
 | s::r=>if 0<=Zoi (Zbak outs r).2 s.out then(true::(Zbak outs r).1,(Zbak outs r).2++s.args)else(false::(Zbak outs r).1,(Zbak outs r).2)
def BoolR (w:World) (g:Nat) (ms:List Bool):Prop:=w.heap[g]? =some (.cells (ms.map Value.bool).toArray 4 (0,0))
theorem BoolR.cell {w:World} {g:Nat} {a:List Bool} (h:BoolR w g a) {k:Nat} {m:Bool} (b:a[k]? =some m):w.cell? ⟨g,k,none⟩=some (.bool m)/\w.frozen? ⟨g,k,none⟩=false:=by
 have h:w.heap[g]? =some (.cells (a.map Value.bool).toArray 4 (0,0)):=h;refine⟨?_,by simp[World.frozen?,h]⟩;simp only[World.cell?,h,Option.isSome_none,Bool.false_eq_true,if_false];rw[List.getElem?_toArray,List.getElem?_map,b];rfl
theorem BoolR.set {w:World} {g:Nat} {a:List Bool} (h:BoolR w g a) (k:Nat) (b:Bool):BoolR (w.setCell ⟨g,k,none⟩ (.bool b)) g (a.set k b):=by
 have:=heap_set k (Value.bool b) (show w.heap[g]? =some (.cells (a.map Value.bool).toArray 4 (0,0))from h);unfold BoolR;rw[this,List.setIfInBounds_toArray,List.map_set]
theorem Zgc (w:World) (n:Nat):BoolR (w.alloc (.cells (madeCells #[.bool false] n) 4)) w.heap.size (List.replicate n false):=by
 unfold BoolR;rw[alloc_at]
 congr 2
 apply Array.ext';unfold madeCells;rw[Array.toList_map];apply List.ext_getElem?;intro i;rw[List.getElem?_map,Array.toList_range,List.map_replicate,List.getElem?_replicate]
 by_cases a:i<n
 ·rw[List.getElem?_range a,if_pos a];simp[Nat.mod_one]
 ·rw[List.getElem?_eq_none (by simp;omega),if_neg a];rfl
theorem Zsm:(prog.info? 4).map (λi=>(i.zero,i.size,i.bytes))=some (some (.bool false),1,1):=by kernel_rfl
theorem Zyd (n:Nat) (f:n<=1000000000) (w:World):(Instr.makeSlice 93 (.int .i64 (n:Int)) (.int .i64 (n:Int))).run prog w = .ok (.slice (some ⟨w.heap.size,0,none⟩) n n) (w.alloc (.cells (madeCells #[.bool false] n) 4)):=by
 obtain⟨e,b,d,c,a⟩:=info_parts Zsm;have:=run_make (P:=prog) w 93 4 e (.bool false) underlying93 b d .i64 .i64 n n (by omega) (Int.le_refl _) (by rw[a];omega) (by omega);rw[c,show(Value.bool false).cells = #[.bool false]from rfl]at this;simpa using this
theorem Zbam (b:List ByteArray) (s:StepS) (r:List StepS) (L:List ByteArray) (d:∀a,a∈L↔a∈(Zbak b r).2):
  Zbak b (s::r)=if inS L s.out=true then(true::(Zbak b r).1,(Zbak b r).2++s.args)else(false::(Zbak b r).1,(Zbak b r).2):=by
 have e:(0<=Zoi (Zbak b r).2 s.out)↔inS L s.out=true:=by rw[Zoj,Zsj,d]
 rw[Zbak]
 by_cases h:inS L s.out=true
 ·rw[if_pos (e.2 h),if_pos h]
 ·rw[if_neg (λc=>h (e.1 c)),if_neg h]
theorem Zma {α:Type} {l:List α} {k:Nat} {x:α} (h:l[k]? =some x):l.drop k=x::l.drop (k+1):=by
 obtain⟨a,e⟩:=List.getElem?_eq_some_iff.1 h;rw[<-e];exact List.drop_eq_getElem_cons a
structure NdI (w:World) (n N:Nat) (outs:List ByteArray) (steps:List StepS) (pre:List (Nat×List Value)) (W:World):Prop where
 set:∃L,SetIs W (n+1) L/\(∀a,a∈L↔a∈(Zbak outs (steps.drop (N-pre.length))).2)/\L.length<=1048576+pre.length*1048576
 marks:BoolR W (n+3) (List.replicate (N-pre.length) false++(Zbak outs (steps.drop (N-pre.length))).1)
 b2:Boxed W (n+2) 251 (.map (some (n+1)))
 b4:Boxed W (n+4) 93 (.slice (some ⟨n+3,0,none⟩) N N)
 below:Below n w W
 size:n+6<=W.heap.size
 few:pre.length<=N
theorem NdI.keep {w:World} {n N:Nat} {b:List ByteArray} {a:List StepS} {pre:List (Nat×List Value)} {W W':World} (h:NdI w n N b a pre W) (e:W'.os=W.os) (s:W'.tape=W.tape) (q:W'.output=W.output) (r:W.heap.size<=W'.heap.size) (d:∀k,k<n+6->W'.heap[k]? =W.heap[k]?):NdI w n N b a pre W':=by
 obtain⟨⟨L,f,g,i⟩,j,l,m,c,t,o⟩:=h;exact⟨⟨L,f.heap (d _ (by omega)),g,i⟩,(d _ (by omega)).trans j,(d _ (by omega)).trans l,(d _ (by omega)).trans m,⟨e.trans c.os,s.trans c.tape,q.trans c.output,Nat.le_trans c.size r,λk p=>(d k (by omega)).trans (c.block k p)⟩,by omega,o⟩
theorem Zbgy (k:Nat) (M:List Bool):List.replicate (k+1) false++M=List.replicate k false++false::M:=by
 rw[List.replicate_succ',List.append_assoc];rfl
theorem NdI.no {w:World} {n N:Nat} {d:List ByteArray} {b:List StepS} {pre:List (Nat×List Value)} {x:Nat×List Value} {W W':World} {k:Nat} {y:StepS} {L:List ByteArray} (s:N=b.length) (t:N=k+1+pre.length) (q:b[k]? =some y) (h:NdI w n N d b pre W)
  (i:∀a,a∈L↔a∈(Zbak d (b.drop (k+1))).2) (p:SetIs W (n+1) L) (o:L.length<=1048576+pre.length*1048576) (f:inS L y.out=false) (e:Below W.heap.size W W'):NdI w n N d b (pre ++ [x]) W':=by
 have r:=h.size;have g:N-(pre ++ [x]).length=k:=by simp;omega
 have l:N-pre.length=k+1:=by omega
 have c:=Zbam d y (b.drop (k+1)) L i;rw[f,if_neg (by decide),<-Zma q]at c;have j:=h.marks;rw[l]at j;refine⟨⟨L,p.heap (e.block _ (by omega)),?_,?_⟩,?_,(e.block _ (by omega)).trans h.b2,(e.block _ (by omega)).trans h.b4,h.below.trans (e.mono (by omega)),Nat.le_trans r e.size,by simp;omega⟩
 ·rw[g,c];exact i
 ·have m:(pre ++ [x]).length=pre.length+1:=by rw[List.length_append];rfl
  rw[m];exact Nat.le_trans o (Nat.add_le_add_left (Nat.mul_le_mul_right _ (Nat.le_succ _)) _)
 ·rw[g,c,<-Zbgy];exact(e.block _ (by omega)).trans j
def IsInts (w:World) (v:Value) (xs:List Nat):Prop:=∃a c,v = .slice a xs.length c/\xs.length<=c/\c<=maxLen/\(xs≠[]->∃b o,a=some ⟨b,o,none⟩/\b<w.heap.size/\∀(j:Nat) x,xs[j]? =some x->w.cell? ⟨b,o+j,none⟩=some (.int .i64 (x:Int)))
theorem IsInts.below {w w':World} {v:Value} {xs:List Nat} (h:IsInts w v xs) (e:Below w.heap.size w w'):IsInts w' v xs:=by
 obtain⟨a,c,rfl,g,i,k⟩:=h;refine⟨a,c,rfl,g,i,λd=>?_⟩;obtain⟨b,o,rfl,f,l⟩:=k d;exact⟨b,o,rfl,Nat.lt_of_lt_of_le f e.size,λj x hx=>(e.cell (p:=⟨b,o+j,none⟩) f).trans (l j x hx)⟩
def intV (n:Nat):Value:= .int .i64 (n:Int)
theorem Zbdp {B:Nat} {w:World} {v:Value} {xs:List Nat} (h:w.ownsRow B 3 1 v xs.length (xs.map intV)):IsInts w v xs:=by
 obtain⟨_,⟨rfl,d⟩|⟨g,a,b,rfl,_,c,f,i,_,k⟩⟩:=h
 ·obtain rfl:xs = []:=List.eq_nil_of_length_eq_zero d
  exact⟨none,0,rfl,Nat.le_refl _,by decide,λh=>absurd rfl h⟩
 ·refine⟨_,a,rfl,f,i,λ_=>⟨g,0,rfl,(Array.getElem?_eq_some_iff.1 c).1,λj x hx=>?_⟩⟩
  have l:=(List.getElem?_eq_some_iff.1 hx).1;have e:(b.toList.take (xs.length*1))[j]? =(xs.map intV)[j]?:=by rw[k]
  rw[Nat.mul_one,List.getElem?_take_of_lt l,List.getElem?_map,hx]at e;simp only[World.cell?,c,Nat.zero_add,Option.isSome_none,Bool.false_eq_true,if_false];rw[<-Array.getElem?_toList,e];rfl
theorem Zsn:(prog.info? 3).map (λi=>(i.zero,i.size,i.bytes))=some (some (.int .i64 0),1,8):=by kernel_rfl
theorem Zub {w:World} {b:Nat} {s:ByteArray} {t:TypeId} (h:w.heap[b]? =some (.cells #[.string s] t)):IsStrs w (.slice (some ⟨b,0,none⟩) 1 1) [s]:=by
 refine⟨_,1,rfl,Nat.le_refl _,by decide,λ_=>⟨b,0,rfl,(Array.getElem?_eq_some_iff.1 h).1,λj x hx=>?_⟩⟩
 match j,hx with
 | 0,hx=>
  obtain rfl:s=x:=by simpa using hx
  simp[World.cell?,h]
theorem Zbiv {w:World} {r:RuleS} {c a d e:Option Addr} {f b g h:Nat} (j:RuleI w [.string r.name,.slice c r.ins.length f,.slice a r.outs.length b,.slice d r.after.length g,.slice e r.steps.length h] r):IsStrs w (.slice a r.outs.length b) r.outs:=by
 obtain⟨o,p,n,s,q,k,i,l,m⟩:=j;simp only[List.cons.injEq,and_true,true_and]at q;obtain⟨rfl,rfl,rfl,rfl⟩:=q;exact i
def Zpm (outs:List ByteArray):List ByteArray->List ByteArray->List StepS->Bool
 | _,M,[]=>outs.all (inS M)
 | T,M,s::r=>if s.args.all (inS T)=true/\inS T s.out=false then Zpm outs (addS T [s.out]) (addS M [s.out]) r else false
theorem Zcr (T:List ByteArray) (k:ByteArray):decide ((addS T [k]).length=T.length+1) = !inS T k:=by
 show decide ((insS T k).length=T.length+1) = !inS T k;unfold insS
 cases h:inS T k
 ·simp
 ·simp
theorem Zbos (r:RuleS) (L Q S U:Option Addr) (O V X Y:Nat) (w:World) (hr:RuleI w [.string r.name,.slice L r.ins.length O,.slice Q r.outs.length V,.slice S r.after.length X,.slice U r.steps.length Y] r) (hs:SmallR r 1048576):
  Calls prog 212 #[.agg (Zbiz r L Q S U O V X Y)] w λe w'=>e = .returned (.bool (Zpm r.outs (addS [] r.ins) [] r.steps))/\Below w.heap.size w w':=by
 obtain⟨vi,vo,vf,aW,qe,h1,h2,h3,h4⟩:=hr;simp only[List.cons.injEq,and_true,true_and]at qe;obtain⟨rfl,rfl,rfl,rfl⟩:=qe;have az:=hs.few;have aO:=hs.ins.1;obtain⟨n,H⟩:∃n,w.heap.size=n:=⟨_,rfl⟩;have mixed:prog.follows .mixedOrders=true:=by kernel_rfl
 have aV:=@run_makeMap prog;obtain⟨R,hR⟩:∃R,Zpm r.outs (addS [] r.ins) [] r.steps=R:=⟨_,rfl⟩;rw[hR,H];obtain⟨m,insN,f,l,a⟩:=r;simp only[Zbiz]at hR az aO h1 h2 h4 hs⊢;have HN:=hid H;have HR:=hid hR;have H1:=hid h1;have H2:=hid h2;have H4:=hid h4;have HS:=hid hs;clear hR h1 h2 h3 h4 hs
 go_enter func212,ntmps212
 obtain⟨W3,t⟩:∃W,((w.alloc (.cells #[.string m,.slice L insN.length O,.slice Q f.length V,.slice S l.length X,.slice U a.length Y] 50)).alloc (.map #[] 0)).alloc (.map #[] 0)=W:=⟨_,rfl⟩;have P:W3.heap.size=n+3:=by rw[<-t];simp[H]
 have C:Below n w W3:=by rw[<-t,<-H];exact(((Below.refl _ _).alloc (Nat.le_refl _) _).alloc (by simp) _).alloc (by simp;omega) _
 have a5:W3.heap[n]? =some (.cells #[.string m,.slice L insN.length O,.slice Q f.length V,.slice S l.length X,.slice U a.length Y] 50):=by
  rw[<-t,Below.heap_alloc _ _ _ (by simp[H];omega),Below.heap_alloc _ _ _ (by simp[H]),<-H];exact alloc_at w _
 have s:SetIs W3 (n+1) []:=by
  have:=Zbkr (w.alloc (.cells #[.string m,.slice L insN.length O,.slice Q f.length V,.slice S l.length X,.slice U a.length Y] 50));rw[World.size_alloc,H]at this;rw[<-t];exact this.heap (Below.heap_alloc _ _ _ (by simp[H]))
 have aq:SetIs W3 (n+2) []:=by
  have:=Zbkr ((w.alloc (.cells #[.string m,.slice L insN.length O,.slice Q f.length V,.slice S l.length X,.slice U a.length Y] 50)).alloc (.map #[] 0));rw[World.size_alloc,World.size_alloc,H]at this;rw[<-t];exact this
 have CA:=hid (Zha (n+1) [] (.slice L insN.length O) insN W3 s (H1.out.below (by rw[H];exact C)) (λg o c aP e=>by
  obtain⟨g',o',e',aT,_⟩:=Ztz H1.out aP;have e2:=e'.symm.trans (Value.slice.inj e).1
  cases e2
  omega) (by simp;omega) (Zblx HS.out.ins))
 have aI:=hid t;have aE:=hid P;have a9:=hid C;have aJ:=hid a5;have aC:=hid aq;clear t P C a5 s aq
 go_wp2_with fail
 rw[aI.out]
 (with_reducible refine CA.out.mono ?_)
 rintro e W4 ⟨rfl,F,x,A⟩;have P:=aE.out;have D:W4.heap[n]? =some (.cells #[.string m,.slice L insN.length O,.slice Q f.length V,.slice S l.length X,.slice U a.length Y] 50):=(x.block n (by omega) (λe=>by cases e)).trans aJ.out;obtain⟨d0,d1,d2,d3,d4,_⟩:=cells5 D;have aH:=hid F;have aK:=hid D;have aD:Hid (SetIs W4 (n+2) []):=hid (aC.out.heap (x.block _ (by omega) (λe=>by cases e)));have aL:Hid (n+3<=W4.heap.size):=hid (by omega);have aA:Hid (Below n w W4):=hid (a9.out.grown x (by omega) (λj e=>by cases e;omega));clear F D x A P;go_wp2
 go_loopw [2,6,16,17,18,19,20,21,22,23,24,25,26,27,28,29,30,31,32,33,34,35,36,37,38] (λ_ _ iv _ _ _ _ _ _ _ _ _ _ _ _ _ _ _ _ _ _ _ _ _ _ wr=>∃k T M,k<=a.length/\iv = .int .i64 (k:Int)/\SetIs wr (n+1) T/\SetIs wr (n+2) M/\T.length<=insN.length+k/\M.length<=k/\Zpm f T M (a.drop k)=R/\wr.heap[n]? =some (.cells #[.string m,.slice L insN.length O,.slice Q f.length V,.slice S l.length X,.slice U a.length Y] 50)/\n+3<=wr.heap.size/\Below n w wr) (λ_ _ iv _ _ _ _ _ _ _ _ _ _ _ _ _ _ _ _ _ _ _ _ _ _ _=>a.length-(intOf iv).toNat)
 case atStart=>exact⟨0,_,[],Nat.zero_le _,rfl,aH.out,aD.out,by have:=Zco insN [];simpa using this,Nat.le_refl _,HR.out,aK.out,aL.out,aA.out⟩
 case round=>
  obtain⟨k,T,M,hk,rfl,hT,hM,ae,ad,Z,hx,hz,hb⟩:=hrel;have HT:=hid hT;have HM:=hid hM;have HX:=hid hx;have I:=hid hz;have HB:=hid hb
  by_cases ag:k<a.length
  ·obtain⟨y,hy⟩:∃y,a[k]? =some y:=⟨a[k],List.getElem?_eq_getElem ag⟩
   obtain⟨b,o,aS,va,vl,e,aj,a7,a6⟩:=Zbou H4.out hy;obtain⟨b1,m1,rfl⟩:=Zue aj;obtain⟨b2,m2,rfl⟩:=Zue a7;injection e with e1 _ e3
   subst e1 e3;have ah:=HS.out.steps y (List.mem_of_getElem? hy);have ay:a.drop k=y::a.drop (k+1):=by
    rw[List.drop_eq_getElem_cons ag];congr 1;rw[List.getElem?_eq_getElem ag]at hy;exact Option.some.inj hy
   rw[ay,Zpm]at Z;have af:Below w.heap.size w wr:=by rw[HN.out];exact hb
   obtain⟨e0,e1,e2,e3,e4⟩:=a6 wr af;have aN:(k:Int)<(a.length:Int):=by omega
   have aU:(0:Int)<=(k:Int):=by omega
   have cH:∀W,Below wr.heap.size wr W->Calls prog 171 #[.map (some (n+1)),.slice b1 y.args.length m1] W λe w'=>e = .returned (.bool (y.args.all (inS T)))/\Below W.heap.size W w':=λW hW=>(Zhh (n+1) T _ y.args W (hT.below hW (by omega)) (aj.below (af.trans (hW.mono (by rw[HN.out];omega)))) (Zblx ah.args))
   have ak:∀z∈[y.out],z.size<=maxLen:=by intro z hz;simp at hz;subst hz;have:=ah.out;unfold maxLen;omega
   have cT:∀W g,Below wr.heap.size wr W->W.heap[g]? =some (.cells #[.string y.out] 9)->wr.heap.size<=g->Calls prog 169 #[.map (some (n+1)),.slice (some ⟨g,0,none⟩) 1 1] W λe w'=>e = .returned (.bool (!inS T y.out))/\SetIs w' (n+1) (addS T [y.out])/\W.grownBy w' (some (n+1))/\w'.heap.size=W.heap.size:=λW g hW hg aM=>(Zha (n+1) T _ [y.out] W (hT.below hW (by omega)) (Zub hg) (λg' o' c' _ e=>by cases (Value.slice.inj e).1;omega) (by simp;omega) ak).mono λe w' q=>⟨by rw[q.1,List.length_singleton,Zcr],q.2⟩
   have cM:∀W g,SetIs W (n+2) M->W.heap[g]? =some (.cells #[.string y.out] 9)->wr.heap.size<=g->Calls prog 169 #[.map (some (n+2)),.slice (some ⟨g,0,none⟩) 1 1] W (Zae W (n+2) M [y.out]):=λW g hW hg aM=>Zha (n+2) M _ [y.out] W hW (Zub hg) (λg' o' c' _ e=>by cases (Value.slice.inj e).1;omega) (by simp;omega) ak
   obtain⟨bA,aw⟩:∃b,y.args.all (inS T)=b:=⟨_,rfl⟩;obtain⟨bT,ax⟩:∃b,inS T y.out=b:=⟨_,rfl⟩;rw[aw]at cH Z;rw[ax]at cT Z;have CH:=hid cH;have CT:=hid cT;have CM:=hid cM;obtain⟨W1,G⟩:∃W,wr.alloc (.cells #[.string y.out,.int .i64 y.op,.slice b1 y.args.length m1,.slice b2 y.lits.length m2,.int .i64 y.n] 58)=W:=⟨_,rfl⟩;have a0:W1.heap.size=wr.heap.size+1:=by rw[<-G];simp
   have au:Below wr.heap.size wr W1:=by rw[<-G];exact(Below.refl _ _).alloc (Nat.le_refl _) _
   have ai:W1.heap[wr.heap.size]? =some (.cells #[.string y.out,.int .i64 y.op,.slice b1 y.args.length m1,.slice b2 y.lits.length m2,.int .i64 y.n] 58):=by rw[<-G];exact alloc_at wr _
   obtain⟨f0,f1,f2,f3,f4,_⟩:=cells5 ai;have p:=hid au;have ab:=hid G;have HF:=hid Z;have K:=hid ai;have aR:=hid a0;have a8:Hid (T.length<=insN.length+k/\M.length<=k):=hid ⟨ae,ad⟩;have u:=HF.out;clear hT hM ae ad Z hx hz hb hy aj a7 a6 ah ay af cH cT cM ak aw ax au G ai a0
   cases bA
   ·rw[if_neg (λh=>by cases h.1)]at u
    subst u
    go_wp2_with (go_at_call 171;rw[ab.out];(with_reducible refine(CH.out _ p.out).mono ?_);rintro e w2 ⟨rfl,i⟩;have d:=hid (p.out.trans (i.mono p.out.size));clear i)
    go_ret;exact⟨rfl,HB.out.trans (d.out.mono (by have:=I.out;omega))⟩
   cases bT
   ·rw[if_pos ⟨rfl,rfl⟩]at u
    have aB:=hid u;clear u
    go_wp2_with (first
     | (go_at_call 171;rw[ab.out];(with_reducible refine(CH.out _ p.out).mono ?_);rintro e w2 ⟨rfl,i⟩;have B:=hid ((i.block _ (Array.getElem?_eq_some_iff.1 K.out).1).trans K.out);obtain⟨f0,f1,f2,f3,f4,_⟩:=cells5 B.out;have d:=hid (p.out.trans (i.mono p.out.size));clear i)
     | (go_at_call 169;(with_reducible refine(CT.out _ _ (d.out.alloc d.out.size _) (alloc_at w2 _) d.out.size).mono ?_);rintro e w3 ⟨rfl,s,v,E⟩;have ao:=hid (show w3.heap[wr.heap.size]? =_ from(v.block _ (by rw[World.size_alloc];have:=(Array.getElem?_eq_some_iff.1 B.out).1;omega) (λe=>by have:=Option.some.inj e;have:=I.out;omega)).trans ((Below.heap_alloc _ _ _ (Array.getElem?_eq_some_iff.1 B.out).1).trans B.out));obtain⟨f0,f1,f2,f3,f4,_⟩:=cells5 ao.out;have aF:=hid s;have J:=hid v;have am:=hid (show SetIs w3 (n+2) M from HM.out.heap ((v.block _ (by rw[World.size_alloc];have:=I.out;have:=d.out.size;omega) (λe=>by have:=Option.some.inj e;omega)).trans ((Below.heap_alloc _ _ _ (by have:=I.out;have:=d.out.size;omega)).trans (d.out.block _ (by have:=I.out;omega)))));have ac:=hid (show wr.heap.size<=w3.heap.size by rw[E,World.size_alloc];have:=d.out.size;omega);clear s v E)
     | (go_at_call 169;(with_reducible refine(CM.out _ _ (am.out.heap (Below.heap_alloc _ _ _ (by have:=I.out;have:=ac.out;omega))) (alloc_at w3 _) ac.out).mono ?_);rintro e w4 ⟨rfl,ar,x,A⟩;have an:=hid ar;have aa:=hid x;have ap:=hid A;clear ar x A))
    have hz:=I.out;have aQ:=d.out.size;have E:=ac.out;have i:Below n w (w2.alloc (.cells #[.string y.out] 9)):=HB.out.trans ((d.out.alloc d.out.size _).mono (by omega));have C:Below n w w3:=i.grown J.out (by rw[World.size_alloc];omega) (λj e=>by cases e;omega);have av:Below n w w4:=(C.alloc (by omega) (.cells #[.string y.out] 9)).grown aa.out (by rw[World.size_alloc];omega) (λj e=>by cases e;omega);have F:SetIs w4 (n+1) (addS T [y.out]):=aF.out.heap ((aa.out.block _ (by rw[World.size_alloc];omega) (λe=>by have:=Option.some.inj e;omega)).trans (Below.heap_alloc _ _ _ (by omega)));have D:w4.heap[n]? =wr.heap[n]?:=(aa.out.block _ (by rw[World.size_alloc];omega) (λe=>by have:=Option.some.inj e;omega)).trans ((Below.heap_alloc _ _ _ (by omega)).trans ((J.out.block _ (by rw[World.size_alloc];omega) (λe=>by have:=Option.some.inj e;omega)).trans ((Below.heap_alloc _ _ _ (by omega)).trans (d.out.block _ (by omega)))));have A:n+3<=w4.heap.size:=by rw[ap.out,World.size_alloc];omega
    have al:=hid (show SetIs w4 (n+1) (addS T [y.out])/\w4.heap[n]? =wr.heap[n]? /\n+3<=w4.heap.size/\Below n w w4 from⟨F,D,A,av⟩);clear hz aQ E i C av F D A;go_roundw
    case rel=>
     obtain⟨r1,r2,r3,r4⟩:=al.out;obtain⟨l1,l2⟩:=a8.out;exact⟨k+1,_,_,by omega,by go_num,r1,an.out,by have:=Zco [y.out] T;simp at this;omega,by have:=Zco [y.out] M;simp at this;omega,aB.out,r2.trans HX.out,r3,r4⟩
    case measure=>simp[intOf];omega
   ·rw[if_neg (λh=>by cases h.2)]at u
    subst u
    go_wp2_with (first
     | (go_at_call 171;rw[ab.out];(with_reducible refine(CH.out _ p.out).mono ?_);rintro e w2 ⟨rfl,i⟩;have B:=hid ((i.block _ (Array.getElem?_eq_some_iff.1 K.out).1).trans K.out);obtain⟨f0,f1,f2,f3,f4,_⟩:=cells5 B.out;have d:=hid (p.out.trans (i.mono p.out.size));clear i)
     | (go_at_call 169;(with_reducible refine(CT.out _ _ (d.out.alloc d.out.size _) (alloc_at w2 _) d.out.size).mono ?_);rintro e w3 ⟨rfl,s,v,E⟩;have J:=hid v;clear s v E))
    go_ret;exact⟨rfl,(HB.out.trans ((d.out.alloc d.out.size _).mono (by have:=I.out;omega))).grown J.out (by rw[World.size_alloc];have:=I.out;have:=d.out.size;omega) (λj e=>by cases e;omega)⟩
  ·have aN:¬(k:Int)<(a.length:Int):=by omega
   obtain rfl:k=a.length:=by omega
   rw[List.drop_length,Zpm]at Z;obtain⟨q0,q1,q2,q3,q4,_⟩:=cells5 hx;have CH:=hid (Zhh (n+2) M _ f wr hM (H2.out.below (by rw[HN.out];exact hb)) (Zblx HS.out.outs));rw[Z]at CH;clear hT hM ae ad Z hx hz hb
   go_wp2_with (go_at_call 171;(with_reducible refine CH.out.mono ?_);rintro e w2 ⟨rfl,i⟩)
   go_ret;exact⟨rfl,HB.out.trans (i.mono (by have:=I.out;omega))⟩
