import Derived.Test.YtphjfaoghphleaaGreatDoorMao
set_option maxRecDepth 100000
set_option maxHeartbeats 20000000
namespace Go.Proofs.YtphjfaoghphleaaGreatDoor
open Go.Lib (hid)
open Go.Proofs.Tryz Go.RowKit Go.Shelf
theorem Zqz {w w':World} {o:Obj} (a:(w.alloc o).grownBy w' none):w'.heap[w.heap.size]? =some o:=(a.block _ (by simp) (by simp)).trans (alloc_at w o)
theorem Zrb {w w':World} {o:Obj} (a:(w.alloc o).drew.grownBy w' none):w'.heap[w.heap.size]? =some o:=(a.block w.heap.size (by show _<(w.alloc o).heap.size;simp) (by simp)).trans (alloc_at w o)
theorem Zrf {w w':World} {g:Nat} {o:Obj} (b:w.grownBy w' none) (a:w.heap[g]? =some o):w'.heap[g]? =some o:=by
 refine(b.block _ ?_ (by simp)).trans a
 rcases Nat.lt_or_ge g w.heap.size with h|h
 ·exact h
 ·rw[Array.getElem?_eq_none h]at a;cases a
theorem Zfn {B g:Nat} {w0 w:World} (h:Below B w0 w) (a:B<=g) (u0 u1 u2 u3 u4:Value):Below B w0 (((((w.setCell ⟨g,0,none⟩ u0).setCell ⟨g,1,none⟩ u1).setCell ⟨g,2,none⟩ u2).setCell ⟨g,3,none⟩ u3).setCell ⟨g,4,none⟩ u4):=
 ((((h.setCell a _).setCell a _).setCell a _).setCell a _).setCell a _
theorem Zlx (w:World):w.drew.heap.size=w.heap.size:=rfl
theorem Zdj (w:World) (o:Obj):(w.alloc o).heap.size=w.heap.size+1:=by simp
theorem Zrs {w:World} {g:Nat} {t:TypeId} {z0 b c d e:Value} (a:w.heap[g]? =some (.cells #[z0,b,c,d,e] t)) (u0 u1 u2 u3 u4:Value):
  (((((w.setCell ⟨g,0,none⟩ u0).setCell ⟨g,1,none⟩ u1).setCell ⟨g,2,none⟩ u2).setCell ⟨g,3,none⟩ u3).setCell ⟨g,4,none⟩ u4).heap[g]? =some (.cells #[u0,u1,u2,u3,u4] t):=
 heap_set 4 u4 (heap_set 3 u3 (heap_set 2 u2 (heap_set 1 u1 (heap_set 0 u0 a))))
theorem Zpz {Av:Nat->Prop} {w:World} {g:Nat} (b:Av g) (u0 u1 u2 u3 u4:Value):Fr Av w (((((w.setCell ⟨g,0,none⟩ u0).setCell ⟨g,1,none⟩ u1).setCell ⟨g,2,none⟩ u2).setCell ⟨g,3,none⟩ u3).setCell ⟨g,4,none⟩ u4):=
 ((((Zpy (a:=⟨g,0,none⟩) b u0).trans (Zpy (a:=⟨g,1,none⟩) b u1)).trans (Zpy (a:=⟨g,2,none⟩) b u2)).trans (Zpy (a:=⟨g,3,none⟩) b u3)).trans (Zpy (a:=⟨g,4,none⟩) b u4)
theorem Zbqn {w w':World} {B a g:Nat} {v:Value} {xs:List ByteArray} (h:StrsW (λb=>b<a) w v xs) (d:Below w.heap.size w w') (c:∀b,b<w.heap.size->(b<B\/b=g)->b<a):StrsW (λb=>b<B\/b=g) w' v xs:=
 StrsW.keep (StrsW.mono h c) (Zpv d)
theorem Zrd {w w':World} (a:w.grownBy w' none):Below w.heap.size w w':=Zfj (Below.refl _ _) a (Nat.le_refl _)
theorem Zre {w w':World} {o:Obj} (a:(w.alloc o).grownBy w' none):Below w.heap.size w w':=Zfj ((Below.refl _ _).alloc (Nat.le_refl _) _) a (by simp)
theorem Zfo {w w1 w2:World} (h:Below w.heap.size w w1) (a:Below w1.heap.size w1 w2):Below w.heap.size w w2:=h.trans (a.mono h.size)
def Ap3 (u v x:Value):Prop:=∀b,(u.ownBlock=some b->v.ownBlock≠some b/\x.ownBlock≠some b)/\(v.ownBlock=some b->x.ownBlock≠some b)
def Zal (B:Nat) (x:RuleS) (g:Nat) (W:World):Prop:=∃vi vo vf,W.heap[g]? =some (.cells #[.string x.name,vi,vo,vf,.slice none 0 0] 50)/\StrsW (λb=>b<B\/b=g) W vi x.ins/\StrsW (λb=>b<B\/b=g) W vo x.outs/\StrsW (λb=>b<B\/b=g) W vf x.after/\Ap3 vi vo vf
theorem Zks {B g:Nat} {x:RuleS} {w:World} {h i j k l vi vo vf:Value} (f:w.heap[g]? =some (.cells #[h,i,j,k,l] 50)) (a:StrsW (λb=>b<B\/b=g) w vi x.ins) (c:StrsW (λb=>b<B\/b=g) w vo x.outs) (d:StrsW (λb=>b<B\/b=g) w vf x.after) (e:Ap3 vi vo vf):
  Zal B x g (((((w.setCell ⟨g,0,none⟩ (.string x.name)).setCell ⟨g,1,none⟩ vi).setCell ⟨g,2,none⟩ vo).setCell ⟨g,3,none⟩ vf).setCell ⟨g,4,none⟩ (.slice none 0 0)):=
 ⟨vi,vo,vf,Zrs f _ _ _ _ _,StrsW.keep a (Zpz (.inr rfl) _ _ _ _ _),StrsW.keep c (Zpz (.inr rfl) _ _ _ _ _),StrsW.keep d (Zpz (.inr rfl) _ _ _ _ _),e⟩
theorem Zkr {B:Nat} {x:RuleS} {w:World} {vi vo vf:Value} (a:StrsW (λb=>b<B\/b=w.heap.size) w vi x.ins) (c:StrsW (λb=>b<B\/b=w.heap.size) w vo x.outs) (d:StrsW (λb=>b<B\/b=w.heap.size) w vf x.after) (e:Ap3 vi vo vf):
  Zal B x w.heap.size (w.alloc (.cells #[.string x.name,vi,vo,vf,.slice none 0 0] 50)):=
 ⟨vi,vo,vf,alloc_at _ _,StrsW.keep a (Zpu _ _ _),StrsW.keep c (Zpu _ _ _),StrsW.keep d (Zpu _ _ _),e⟩
structure CopyL (W1 WC:World) (g:Nat) (x:RuleS) (vi vo vf vv:Value) (rs:List (List Value)) (ys:List StepS) (wr:World):Prop where
 below:Below W1.heap.size W1 wr
 record:wr.heap[g]? =some (.cells #[.string x.name,vi,vo,vf,vv] 50)
 ins:StrsW (λb=>b<W1.heap.size\/b=g\/WC.heap.size<=b) wr vi x.ins
 outs:StrsW (λb=>b<W1.heap.size\/b=g\/WC.heap.size<=b) wr vo x.outs
 after:StrsW (λb=>b<W1.heap.size\/b=g\/WC.heap.size<=b) wr vf x.after
 size:WC.heap.size<=wr.heap.size
 own:wr.ownsRow WC.heap.size 58 5 vv rs.length rs.flatten
 all:AllA (StepA (AvOf WC.heap.size vv) wr) rs ys
section
variable {W1 WC:World} {g:Nat} {x:RuleS} {vi vo vf vv:Value} {rs:List (List Value)} {ys:List StepS} {wr w':World}
theorem CopyL.step (h:CopyL W1 WC g x vi vo vf vv rs ys wr) (b:g<WC.heap.size) (a:Below wr.heap.size wr w'):CopyL W1 WC g x vi vo vf vv rs ys w':=
 ⟨h.below.trans (a.mono h.below.size),(a.block g (Nat.lt_of_lt_of_le b h.size)).trans h.record,StrsW.keep h.ins (Zpv a),StrsW.keep h.outs (Zpv a),StrsW.keep h.after (Zpv a),Nat.le_trans h.size a.size,
  World.ownsRow.kept (row:=none) h.own ⟨a.os,a.tape,a.output,a.size,λk c _=>a.block k c⟩ (by cases Value.ownBlock _<;>simp),h.all.imp λr x h=>h.keep (Zpv a)⟩
theorem CopyL.grow (h:CopyL W1 WC g x vi vo vf vv rs ys wr) (s:W1.heap.size<=g) (q:g<WC.heap.size) {r:List Value} {y:StepS} {a n c:_} (d:wr.grownBy w' vv.ownBlock) (o:∀b,(Value.slice a n c).ownBlock=some b->vv.ownBlock=some b\/wr.heap.size<=b)
  (A:StepA (AvOf WC.heap.size vv) wr r y) (z:w'.ownsRow WC.heap.size 58 5 (.slice a n c) (rs.length+1) (rs.flatten++r)):
  CopyL W1 WC g x vi vo vf (.slice a n c) (rs ++ [r]) (ys ++ [y]) (w'.setCell ⟨g,4,none⟩ (.slice a n c)):=by
 have f:∀k,vv.ownBlock=some k->WC.heap.size<=k:=λk m=>(h.own.lt k m).1
 have w:W1.heap.size<=WC.heap.size:=by omega
 have i:Fr (λb=>b<W1.heap.size\/b=g\/WC.heap.size<=b) wr w':=Zpx d λk m=> .inr (.inr (f k m))
 have j:Fr (λb=>b<W1.heap.size\/b=g\/WC.heap.size<=b) w' (w'.setCell ⟨g,4,none⟩ (.slice a n c)):=Zpy (a:=⟨g,4,none⟩) (.inr (.inl rfl)) _;have t:Fr (λb=>b=g) w' (w'.setCell ⟨g,4,none⟩ (.slice a n c)):=Zpy (Av:=λb=>b=g) (a:=⟨g,4,none⟩) rfl _;have p:w'.heap[g]? =some (.cells #[.string x.name,vi,vo,vf,vv] 50):=(d.block g (Nat.lt_of_lt_of_le q h.size) (λe=>by have:=f g e.symm;omega)).trans h.record;have l:=(Zqy (h.all.snoc A) d o).imp λB C (u:StepA (AvOf WC.heap.size (.slice a n c)) w' B C)=>u.keep (t.mono λb _ e=> .inl (by subst e;exact q))
 refine⟨(h.below.grown d h.below.size λk m=>by have:=f k m;omega).setCell s _,heap_set 4 _ p,StrsW.keep (StrsW.keep h.ins i) j,StrsW.keep (StrsW.keep h.outs i) j,StrsW.keep (StrsW.keep h.after i) j,Nat.le_trans h.size (by simpa[World.setCell]using d.size),?_,l⟩;have v:=ownsRow_setCell_below (a:=⟨g,4,none⟩) z q (.slice a n c);rw[List.length_append,List.flatten_append];simpa using v
end
theorem Zbot {w:World} {v:Value} {xs:List StepS} (h:StepsI w v xs) {k:Nat} {y:StepS} (B:xs[k]? =some y):
  ∃b o cap l q m r,v = .slice (some ⟨b,o,none⟩) xs.length cap/\b<w.heap.size/\IsStrs w (.slice l y.args.length q) y.args/\IsStrs w (.slice m y.lits.length r) y.lits/\
   ∀w',Below w.heap.size w w'->w'.cell? ⟨b,o+k*5,none⟩=some (.string y.out)/\w'.cell? ⟨b,o+k*5+1,none⟩=some (.int .i64 y.op)/\w'.cell? ⟨b,o+k*5+2,none⟩=some (.slice l y.args.length q)/\w'.cell? ⟨b,o+k*5+3,none⟩=some (.slice m y.lits.length r)/\w'.cell? ⟨b,o+k*5+4,none⟩=some (.int .i64 y.n):=by
 obtain⟨j,⟨a,c,rfl,_,_,C⟩,f⟩:=h;have s:k<j.length:=by rw[f.1];exact(List.getElem?_eq_some_iff.1 B).1
 obtain⟨I,J,e,t,A⟩:=f.2 k _ y (List.getElem?_eq_getElem s) B;obtain⟨b,o,rfl,z,D⟩:=C (by rintro rfl;simp at s);obtain⟨l,q,rfl,G⟩:=id t;obtain⟨m,r,rfl,H⟩:=id A;refine⟨b,o,c,l,q,m,r,by rw[f.1],z,t,A,λw' F=>?_⟩;have d:∀(i:Nat) u,j[k][i]? =some u->w'.cell? ⟨b,o+k*5+i,none⟩=some u:=λi u E=>(F.cell (p:=⟨b,o+k*5+i,none⟩) z).trans (D k _ (List.getElem?_eq_getElem s) i u E)
 rw[e]at d;exact⟨d 0 _ rfl,d 1 _ rfl,d 2 _ rfl,d 3 _ rfl,d 4 _ rfl⟩
theorem Zbnj {wr w':World} {B:Nat} {vv:Value} {y:StepS} {a c:Value} (d:StrsA (λb=>b<wr.heap.size) w' a y.args) (f:StrsA (λb=>b<wr.heap.size) w' c y.lits) (i:B<=wr.heap.size) (h:∀b,vv.ownBlock=some b->b<wr.heap.size):
  StepA (AvOf B vv) w' [.string y.out,.int .i64 y.op,a,c,.int .i64 y.n] y:=
 StepA.mono (Av:=λb=>b<wr.heap.size) ⟨a,c,rfl,d,f⟩ λb _ e=>by
  rcases e with e|e
  ·omega
  ·exact h b e
def RuleO (w w':World) (x:RuleS) (e:Ending):Prop:=
 ∃vi vo vf vs,e = .returned (.agg #[.string x.name,vi,vo,vf,vs])/\StrsO (λb=>b<w.heap.size) w' vi x.ins/\StrsO (λb=>b<w.heap.size) w' vo x.outs/\StrsO (λb=>b<w.heap.size) w' vf x.after/\StepsA (λb=>b<w.heap.size) w' vs x.steps/\OpenV w' vs
def RuleF (w w':World) (x:RuleS) (e:Ending):Prop:=
 ∃vi vo vf vs,e = .returned (.agg #[.string x.name,vi,vo,vf,vs])/\StrsO (λb=>b<w.heap.size) w' vi x.ins/\StrsO (λb=>b<w.heap.size) w' vo x.outs/\StrsO (λb=>b<w.heap.size) w' vf x.after/\StepsA (λb=>b<w.heap.size) w' vs x.steps/\OpenV w' vs/\Ap3 vi vo vf/\
  ∃B0,(∀b,vi.ownBlock=some b\/vf.ownBlock=some b->b<B0)/\StepsA (λb=>b<B0) w' vs x.steps
theorem RuleF.o {w w':World} {x:RuleS} {e:Ending} (h:RuleF w w' x e):RuleO w w' x e:=by
 obtain⟨vi,vo,vf,j,a,b,c,d,f,i,_⟩:=h;exact⟨vi,vo,vf,j,a,b,c,d,f,i⟩
theorem RuleO.e {w w':World} {x:RuleS} {e:Ending} (h:RuleO w w' x e):Zbu w w' x e:=by
 obtain⟨vi,vo,vf,i,a,b,c,d,f,_⟩:=h;exact⟨vi,vo,vf,i,a,b.1,c.1,d.1,f⟩
def RuleW (w w':World) (x:RuleS) (e:Ending):Prop:=
 ∃vi vo vf vs rs B0,e = .returned (.agg #[.string x.name,vi,vo,vf,vs])/\StrsW (λb=>b<w.heap.size) w' vi x.ins/\StrsW (λb=>b<w.heap.size) w' vo x.outs/\StrsW (λb=>b<w.heap.size) w' vf x.after/\Ap3 vi vo vf/\
  w.heap.size<=B0/\B0<=w'.heap.size/\(∀b,vi.ownBlock=some b\/vo.ownBlock=some b\/vf.ownBlock=some b->b<B0)/\w'.ownsRow B0 58 5 vs rs.length rs.flatten/\AllA (StepA (AvOf B0 vs) w') rs x.steps
theorem RuleW.f {w w':World} {x:RuleS} {e:Ending} (h:RuleW w w' x e):RuleF w w' x e:=by
 obtain⟨vi,vo,vf,k,rs,c,l,m,n,o,p,s,_,q,d,i⟩:=h;have j:StepsA (λb=>b<c) w' k x.steps:=⟨rs,Zbif d (i.len λr x h=>h.len),i.imp λr x h=>h.mono λb _ a=> .inl a⟩;exact⟨vi,vo,vf,k,l,m.1,n.1,o.1,j.mono λb _ a=>by omega,Zbcv d,p,c,λb a=>q b (a.elim .inl λh=> .inr (.inr h)),j⟩
theorem Zckf (x:RuleS) (vi vo vf vs:Value) (w:World) (h:RuleI w [.string x.name,vi,vo,vf,vs] x) (hf:SmallR x 1048576):
  Calls prog 53 #[.agg #[.string x.name,vi,vo,vf,vs]] w λe w'=>RuleW w w' x e/\Below w.heap.size w w':=by
 obtain⟨_,_,_,_,q,G,F,h3,h4⟩:=h
 cases q
 obtain⟨a1,c1,rfl,_⟩:=id G;obtain⟨a2,c2,rfl,_⟩:=id F;obtain⟨a3,c3,rfl,_⟩:=id h3;obtain⟨M,aq,an⟩:=id h4;obtain⟨a4,c4,rfl,_⟩:=id aq;obtain⟨ob,bp⟩:∃o:Obj,o = .cells #[.string x.name,.slice a1 x.ins.length c1,.slice a2 x.outs.length c2,.slice a3 x.after.length c3,.slice a4 M.length c4] 50:=⟨_,rfl⟩;obtain⟨W1,ac⟩:∃W1,(w.alloc ob).alloc (.cells #[.string ⟨#[]⟩,.slice none 0 0,.slice none 0 0,.slice none 0 0,.slice none 0 0] 50)=W1:=⟨_,rfl⟩;have s:Below w.heap.size w W1:=by rw[<-ac];exact((Below.refl _ _).alloc (Nat.le_refl _) _).alloc (by simp) _
 have aS:W1.heap.size=w.heap.size+2:=by rw[<-ac];simp
 have aU:W1.heap[w.heap.size]? =some ob:=by rw[<-ac,Below.heap_alloc _ _ _ (by simp)];exact alloc_at w ob
 have aV:W1.heap[w.heap.size+1]? =some (.cells #[.string ⟨#[]⟩,.slice none 0 0,.slice none 0 0,.slice none 0 0,.slice none 0 0] 50):=by
  rw[<-ac];have:=alloc_at (w.alloc ob) (.cells #[.string ⟨#[]⟩,.slice none 0 0,.slice none 0 0,.slice none 0 0,.slice none 0 0] 50);simpa using this
 subst bp;have v:∀w',Below W1.heap.size W1 w'->_:=λw' (l:Below W1.heap.size W1 w')=>cells5 ((l.block w.heap.size (by omega)).trans aU)
 have bh:=λw' l=>(v w' l).1
 have bi:=λw' l=>(v w' l).2.1
 have bj:=λw' l=>(v w' l).2.2.1
 have bk:=λw' l=>(v w' l).2.2.2.1
 have aj:=λw' l=>(v w' l).2.2.2.2.1
 have a5:=hid aj;have aZ:Hid (Below W1.heap.size W1 W1.drew):=by show Below _ _ _;exact(Below.refl _ _).drew
 have HU:Hid (∀w' o,Below W1.heap.size W1 w'->Below W1.heap.size W1 (w'.alloc o)):=by show ∀w' o,_;exact λw' o h=>h.alloc h.size o
 have ba:Hid (∀o,Below W1.heap.size W1 (W1.alloc o).drew):=by show ∀o,_;exact λo=>((Below.refl _ _).alloc (Nat.le_refl _) o).drew
 have L:=hid s;have H1:Hid (∀w',Below W1.heap.size W1 w'->IsStrs w' (.slice a1 x.ins.length c1) x.ins):=by show ∀w',_;exact λw' l=>G.below (s.trans (l.mono s.size))
 have H2:Hid (∀w',Below W1.heap.size W1 w'->IsStrs w' (.slice a2 x.outs.length c2) x.outs):=by show ∀w',_;exact λw' l=>F.below (s.trans (l.mono s.size))
 have H3:Hid (∀w',Below W1.heap.size W1 w'->IsStrs w' (.slice a3 x.after.length c3) x.after):=by show ∀w',_;exact λw' l=>h3.below (s.trans (l.mono s.size))
 have H4:=hid h4;have bd:=hid aV;have bc:=hid ac;have N1:=hid hf.ins.1;have N2:=hid hf.outs.1;have N3:=hid hf.after.1;have a6:=hid hf;have aC:=hid aS;clear v G F h3 h4 s aS aU aV aj hf aq ac
 go_enter func53,ntmps53
 go_upto_region 1 with fail
 rw[bc.out]
 go_cut [3] (λt wx=>∃g,t = .pointer (some ⟨g,0,none⟩)/\W1.heap.size<=g/\Below W1.heap.size W1 wx/\Zal W1.heap.size x g wx)
 case first=>
  refine wp_region_held_drew (S:=λw'=>Below W1.heap.size W1 w') (by kernel_rfl) ?_ (λhHeld=>?_)
  ·exact aZ.out
  refine tkK 0 ?_;refine tkK 1 ?_;refine tkK 2 ?_;refine tkK 3 ?_;refine tkK 5 ?_;refine tkK 6 ?_;refine tkK 8 ?_;refine tkK 9 ?_
  try simp only[Act.put,sA,sZ,sS]
  refine rdH [4,12] ?_;refine rcH (λK d=>?_) ?_
  ·refine Zbod (by rfl) _ _ (by rfl) (by rfl) (by rfl) (H1.out _ (by assumption)) N1.out ?_;intro i1 i2 i3 wI B C;skip;have J:=Zfj (show Below W1.heap.size W1 _ by assumption) C (show Below W1.heap.size W1 _ by assumption).size
   refine d.out _ _ ?_ (λhHeld=>?_)
   ·try dsimp only
    assumption
   clear d K
   try simp only[Act.put,sA,sZ,sS]
   refine rdH [7,12] ?_;refine rcH (λK d=>?_) ?_
   ·refine Zbod (by rfl) _ _ (by rfl) (by rfl) (by rfl) (H2.out _ (by assumption)) N2.out ?_;intro j1 j2 j3 wO A c;skip;have J:=Zfj (show Below W1.heap.size W1 _ by assumption) c (show Below W1.heap.size W1 _ by assumption).size
    refine d.out _ _ ?_ (λhHeld=>?_)
    ·try dsimp only
     assumption
    clear d K
    try simp only[Act.put,sA,sZ,sS]
    refine rdH [10,12] ?_;refine rcH (λK d=>?_) ?_
    ·refine Zbod (by rfl) _ _ (by rfl) (by rfl) (by rfl) (H3.out _ (by assumption)) N3.out ?_;intro l1 l2 l3 wF D f;skip;have J:=Zfj (show Below W1.heap.size W1 _ by assumption) f (show Below W1.heap.size W1 _ by assumption).size
     refine d.out _ _ ?_ (λhHeld=>?_)
     ·try dsimp only
      assumption
     clear d K
     try simp only[Act.put,sA,sZ,sS]
     refine tkK 11 ?_
     try simp only[Act.put,sA,sZ,sS]
     refine rdH [12] ?_;refine rcH (λK d=>?_) ?_
     ·go_simp
      refine d.out _ _ ?_ (λhHeld=>?_)
      ·try dsimp only
       exact HU.out _ _ (by assumption)
      clear d K
      try simp only[Act.put,sA,sZ,sS]
      refine rdH [13] ?_;refine rcH (λK d=>?_) ?_
      ·go_simp
       refine d.out _ _ ?_ (λhHeld=>?_)
       ·try dsimp only
        exact HU.out _ _ (by assumption)
       clear d K
       try simp only[Act.put,sA,sZ,sS]
       refine wpAnyH_done (by kernel_rfl) ?_ _;have s1:=C.size;have s2:=c.size;have s3:=f.size
       (try simp only[Zlx]at s1 s2 s3);(try simp only[Zdj]at s1 s2 s3)
       have H:Below wO.heap.size wO wF:=by first|exact Zrd f|exact Zre f
       have X:Below wI.heap.size wI wO:=by first|exact Zrd c|exact Zre c
       have W:=Zfo X H
       try clear O P Q R T u0 u1 u2 u3 u4
       go_wp2_with fail
       go_meet;refine⟨_,rfl,by omega,by assumption,?_⟩;exact Zkr (Zbqn B W (by intro b s I;(try simp only[Zlx]);(try simp only[Zdj]);omega)) (Zbqn A H (by intro b s I;(try simp only[Zlx]);(try simp only[Zdj]);omega)) (Zbqn D (Below.refl _ _) (by intro b s I;(try simp only[Zlx]);(try simp only[Zdj]);omega)) (λb=>⟨λG=>⟨λF=>(by have m:=(B.1.1.2 b G).1;have p:¬b<_:=(A.1.1.2 b F).2;(try simp only[Zlx]at m p);(try simp only[Zdj]at m p);omega),λF=>(by have m:=(B.1.1.2 b G).1;have p:¬b<_:=(D.1.1.2 b F).2;(try simp only[Zlx]at m p);(try simp only[Zdj]at m p);omega)⟩,λG F=>(by have m:=(A.1.1.2 b G).1;have p:¬b<_:=(D.1.1.2 b F).2;(try simp only[Zlx]at m p);(try simp only[Zdj]at m p);omega)⟩)
      exact AllReadyH.nil
     exact AllReadyH.nil
    refine rcH (λK d=>?_) ?_
    ·go_simp
     refine d.out _ _ ?_ (λhHeld=>?_)
     ·try dsimp only
      exact HU.out _ _ (by assumption)
     clear d K
     try simp only[Act.put,sA,sZ,sS]
     refine rdH [10] ?_;refine rcH (λK d=>?_) ?_
     ·refine Zbod (by rfl) _ _ (by rfl) (by rfl) (by rfl) (H3.out _ (by assumption)) N3.out ?_;intro l1 l2 l3 wF D f;have E:=Zqz f;obtain⟨O,P,Q,R,T,u0,u1,u2,u3,u4⟩:=cells5 E;have J:=Zfj (show Below W1.heap.size W1 _ by assumption) f (show Below W1.heap.size W1 _ by assumption).size
      refine d.out _ _ ?_ (λhHeld=>?_)
      ·try dsimp only
       assumption
      clear d K
      try simp only[Act.put,sA,sZ,sS]
      refine tkK 11 ?_
      try simp only[Act.put,sA,sZ,sS]
      refine rdH [13] ?_;refine rcH (λK d=>?_) ?_
      ·go_simp
       refine d.out _ _ ?_ (λhHeld=>?_)
       ·try dsimp only
        refine Zfn (by assumption) ?_ _ _ _ _ _;exact Below.size (by assumption)
       clear d K
       try simp only[Act.put,sA,sZ,sS]
       refine wpAnyH_done (by kernel_rfl) ?_ _;have s1:=C.size;have s2:=c.size;have s3:=f.size
       (try simp only[Zlx]at s1 s2 s3);(try simp only[Zdj]at s1 s2 s3)
       have H:Below wO.heap.size wO wF:=by first|exact Zrd f|exact Zre f
       have X:Below wI.heap.size wI wO:=by first|exact Zrd c|exact Zre c
       have W:=Zfo X H
       try clear O P Q R T u0 u1 u2 u3 u4
       go_wp2_with fail
       go_meet;refine⟨_,rfl,by omega,by assumption,?_⟩;exact Zks E (Zbqn B W (by intro b s I;(try simp only[Zlx]);(try simp only[Zdj]);omega)) (Zbqn A H (by intro b s I;(try simp only[Zlx]);(try simp only[Zdj]);omega)) (Zbqn D (Below.refl _ _) (by intro b s I;(try simp only[Zlx]);(try simp only[Zdj]);omega)) (λb=>⟨λG=>⟨λF=>(by have m:=(B.1.1.2 b G).1;have p:¬b<_:=(A.1.1.2 b F).2;(try simp only[Zlx]at m p);(try simp only[Zdj]at m p);omega),λF=>(by have m:=(B.1.1.2 b G).1;have p:¬b<_:=(D.1.1.2 b F).2;(try simp only[Zlx]at m p);(try simp only[Zdj]at m p);omega)⟩,λG F=>(by have m:=(A.1.1.2 b G).1;have p:¬b<_:=(D.1.1.2 b F).2;(try simp only[Zlx]at m p);(try simp only[Zdj]at m p);omega)⟩)
      exact AllReadyH.nil
     exact AllReadyH.nil
    exact AllReadyH.nil
   refine rcH (λK d=>?_) ?_
   ·go_simp
    refine d.out _ _ ?_ (λhHeld=>?_)
    ·try dsimp only
     exact HU.out _ _ (by assumption)
    clear d K
    try simp only[Act.put,sA,sZ,sS]
    refine rdH [7] ?_;refine rcH (λK d=>?_) ?_
    ·refine Zbod (by rfl) _ _ (by rfl) (by rfl) (by rfl) (H2.out _ (by assumption)) N2.out ?_;intro j1 j2 j3 wO A c;have E:=Zqz c;obtain⟨O,P,Q,R,T,u0,u1,u2,u3,u4⟩:=cells5 E;have J:=Zfj (show Below W1.heap.size W1 _ by assumption) c (show Below W1.heap.size W1 _ by assumption).size
     refine d.out _ _ ?_ (λhHeld=>?_)
     ·try dsimp only
      assumption
     clear d K
     try simp only[Act.put,sA,sZ,sS]
     refine rdH [10] ?_;refine rcH (λK d=>?_) ?_
     ·refine Zbod (by rfl) _ _ (by rfl) (by rfl) (by rfl) (H3.out _ (by assumption)) N3.out ?_;intro l1 l2 l3 wF D f;have E:=Zrf f E;clear O P Q R T u0 u1 u2 u3 u4;obtain⟨O,P,Q,R,T,u0,u1,u2,u3,u4⟩:=cells5 E;have J:=Zfj (show Below W1.heap.size W1 _ by assumption) f (show Below W1.heap.size W1 _ by assumption).size
      refine d.out _ _ ?_ (λhHeld=>?_)
      ·try dsimp only
       assumption
      clear d K
      try simp only[Act.put,sA,sZ,sS]
      refine tkK 11 ?_
      try simp only[Act.put,sA,sZ,sS]
      refine rdH [13] ?_;refine rcH (λK d=>?_) ?_
      ·go_simp
       refine d.out _ _ ?_ (λhHeld=>?_)
       ·try dsimp only
        refine Zfn (by assumption) ?_ _ _ _ _ _;exact Below.size (by assumption)
       clear d K
       try simp only[Act.put,sA,sZ,sS]
       refine wpAnyH_done (by kernel_rfl) ?_ _;have s1:=C.size;have s2:=c.size;have s3:=f.size
       (try simp only[Zlx]at s1 s2 s3);(try simp only[Zdj]at s1 s2 s3)
       have H:Below wO.heap.size wO wF:=by first|exact Zrd f|exact Zre f
       have X:Below wI.heap.size wI wO:=by first|exact Zrd c|exact Zre c
       have W:=Zfo X H
       try clear O P Q R T u0 u1 u2 u3 u4
       go_wp2_with fail
       go_meet;refine⟨_,rfl,by omega,by assumption,?_⟩;exact Zks E (Zbqn B W (by intro b s I;(try simp only[Zlx]);(try simp only[Zdj]);omega)) (Zbqn A H (by intro b s I;(try simp only[Zlx]);(try simp only[Zdj]);omega)) (Zbqn D (Below.refl _ _) (by intro b s I;(try simp only[Zlx]);(try simp only[Zdj]);omega)) (λb=>⟨λG=>⟨λF=>(by have m:=(B.1.1.2 b G).1;have p:¬b<_:=(A.1.1.2 b F).2;(try simp only[Zlx]at m p);(try simp only[Zdj]at m p);omega),λF=>(by have m:=(B.1.1.2 b G).1;have p:¬b<_:=(D.1.1.2 b F).2;(try simp only[Zlx]at m p);(try simp only[Zdj]at m p);omega)⟩,λG F=>(by have m:=(A.1.1.2 b G).1;have p:¬b<_:=(D.1.1.2 b F).2;(try simp only[Zlx]at m p);(try simp only[Zdj]at m p);omega)⟩)
      exact AllReadyH.nil
     exact AllReadyH.nil
    exact AllReadyH.nil
   exact AllReadyH.nil
  refine rcH (λK d=>?_) ?_
  ·go_simp
   refine d.out _ _ ?_ (λhHeld=>?_)
   ·try dsimp only
    exact ba.out _
   clear d K
   try simp only[Act.put,sA,sZ,sS]
   refine rdH [4] ?_;refine rcH (λK d=>?_) ?_
   ·refine Zbod (by rfl) _ _ (by rfl) (by rfl) (by rfl) (H1.out _ (by assumption)) N1.out ?_;intro i1 i2 i3 wI B C;have E:=Zrb C;obtain⟨O,P,Q,R,T,u0,u1,u2,u3,u4⟩:=cells5 E;have J:=Zfj (show Below W1.heap.size W1 _ by assumption) C (show Below W1.heap.size W1 _ by assumption).size
    refine d.out _ _ ?_ (λhHeld=>?_)
    ·try dsimp only
     assumption
    clear d K
    try simp only[Act.put,sA,sZ,sS]
    refine rdH [7] ?_;refine rcH (λK d=>?_) ?_
    ·refine Zbod (by rfl) _ _ (by rfl) (by rfl) (by rfl) (H2.out _ (by assumption)) N2.out ?_;intro j1 j2 j3 wO A c;have E:=Zrf c E;clear O P Q R T u0 u1 u2 u3 u4;obtain⟨O,P,Q,R,T,u0,u1,u2,u3,u4⟩:=cells5 E;have J:=Zfj (show Below W1.heap.size W1 _ by assumption) c (show Below W1.heap.size W1 _ by assumption).size
     refine d.out _ _ ?_ (λhHeld=>?_)
     ·try dsimp only
      assumption
     clear d K
     try simp only[Act.put,sA,sZ,sS]
     refine rdH [10] ?_;refine rcH (λK d=>?_) ?_
     ·refine Zbod (by rfl) _ _ (by rfl) (by rfl) (by rfl) (H3.out _ (by assumption)) N3.out ?_;intro l1 l2 l3 wF D f;have E:=Zrf f E;clear O P Q R T u0 u1 u2 u3 u4;obtain⟨O,P,Q,R,T,u0,u1,u2,u3,u4⟩:=cells5 E;have J:=Zfj (show Below W1.heap.size W1 _ by assumption) f (show Below W1.heap.size W1 _ by assumption).size
      refine d.out _ _ ?_ (λhHeld=>?_)
      ·try dsimp only
       assumption
      clear d K
      try simp only[Act.put,sA,sZ,sS]
      refine tkK 11 ?_
      try simp only[Act.put,sA,sZ,sS]
      refine rdH [13] ?_;refine rcH (λK d=>?_) ?_
      ·go_simp
       refine d.out _ _ ?_ (λhHeld=>?_)
       ·try dsimp only
        refine Zfn (by assumption) ?_ _ _ _ _ _;exact Nat.le_refl _
       clear d K
       try simp only[Act.put,sA,sZ,sS]
       refine wpAnyH_done (by kernel_rfl) ?_ _;have s1:=C.size;have s2:=c.size;have s3:=f.size
       (try simp only[Zlx]at s1 s2 s3);(try simp only[Zdj]at s1 s2 s3)
       have H:Below wO.heap.size wO wF:=by first|exact Zrd f|exact Zre f
       have X:Below wI.heap.size wI wO:=by first|exact Zrd c|exact Zre c
       have W:=Zfo X H
       try clear O P Q R T u0 u1 u2 u3 u4
       go_wp2_with fail
       go_meet;refine⟨_,rfl,by omega,by assumption,?_⟩;exact Zks E (Zbqn B W (by intro b s I;(try simp only[Zlx]);(try simp only[Zdj]);omega)) (Zbqn A H (by intro b s I;(try simp only[Zlx]);(try simp only[Zdj]);omega)) (Zbqn D (Below.refl _ _) (by intro b s I;(try simp only[Zlx]);(try simp only[Zdj]);omega)) (λb=>⟨λG=>⟨λF=>(by have m:=(B.1.1.2 b G).1;have p:¬b<_:=(A.1.1.2 b F).2;(try simp only[Zlx]at m p);(try simp only[Zdj]at m p);omega),λF=>(by have m:=(B.1.1.2 b G).1;have p:¬b<_:=(D.1.1.2 b F).2;(try simp only[Zlx]at m p);(try simp only[Zdj]at m p);omega)⟩,λG F=>(by have m:=(A.1.1.2 b G).1;have p:¬b<_:=(D.1.1.2 b F).2;(try simp only[Zlx]at m p);(try simp only[Zdj]at m p);omega)⟩)
      exact AllReadyH.nil
     exact AllReadyH.nil
    exact AllReadyH.nil
   exact AllReadyH.nil
  exact AllReadyH.nil
 case rest=>
  obtain⟨g,rfl,aM,aw,aI⟩:=hcut;obtain⟨vi,vo,vf,E,al,am,ak,aD⟩:=aI;obtain⟨i1,i2,i3,ag⟩:=Zbig al.1.1;subst ag;obtain⟨j1,j2,j3,ag⟩:=Zbig am.1.1;subst ag;obtain⟨l1,l2,l3,ag⟩:=Zbig ak.1.1;subst ag;obtain⟨WC,au⟩:∃V,wc=V:=⟨_,rfl⟩;rw[au]at aw E al am ak⊢;clear au;have aY:=hid aD;clear aD;have aN:g<WC.heap.size:=by
   rcases Nat.lt_or_ge g WC.heap.size with h|h
   ·exact h
   ·rw[Array.getElem?_eq_none h]at E;cases E
  have H0:Hid (CopyL W1 WC g x (.slice i1 i2 i3) (.slice j1 j2 j3) (.slice l1 l2 l3) (.slice none 0 0) [] [] WC):=by
   show CopyL _ _ _ _ _ _ _ _ _ _ _;exact⟨aw,E,StrsW.mono al λb l e=>by omega,StrsW.mono am λb l e=>by omega,StrsW.mono ak λb l e=>by omega,Nat.le_refl _,⟨rfl,.inl ⟨rfl,rfl⟩⟩,AllA.nil _⟩
  have aa:=hid aN;have a7:=hid aM;have aA:=hid (show M.length=x.steps.length from an.1);clear aw E al am ak aN aM an bh bi bj bk;obtain⟨I0,be,ah,ai,bf⟩:=Zsv Zsx;go_wp2
  go_loopw [4] (λi wr=>∃(k:Nat) (rs:List (List Value)) (av:Option Addr) (cv:Nat),k<=x.steps.length/\i = .int .i64 (k:Int)/\CopyL W1 WC g x (.slice i1 i2 i3) (.slice j1 j2 j3) (.slice l1 l2 l3) (.slice av k cv) rs (x.steps.take k) wr)
   (λi _=>x.steps.length-(intOf i).toNat)
  case atStart=>exact⟨0,[],none,0,Nat.zero_le _,rfl,H0.out⟩
  case round=>
   obtain⟨k,rs,av,cv,hk,rfl,z⟩:=hrel;have bx:=hid z;have aj:=a5.out _ z.below;have bw:=a6.out.few;have aO:∀w',Below W1.heap.size W1 w'->w'.cell? ⟨w.heap.size,4,none⟩=some (.slice a4 M.length c4):=a5.out
   by_cases bo:k<x.steps.length
   ·obtain⟨y,hy⟩:∃y,x.steps[k]? =some y:=⟨x.steps[k],List.getElem?_eq_getElem bo⟩
    obtain⟨sb,so,sc,b1,t1,b2,t2,bu,b3,ah,ai,aJ⟩:=Zbot H4.out hy;have az:=a6.out.steps y (List.mem_of_getElem? hy);have K1:Hid (∀w',Below W1.heap.size W1 w'->IsStrs w' (.slice b1 y.args.length t1) y.args):=by show ∀w',_;exact λw' l=>ah.below (L.out.trans (l.mono L.out.size))
    have K2:Hid (∀w',Below W1.heap.size W1 w'->IsStrs w' (.slice b2 y.lits.length t2) y.lits):=by show ∀w',_;exact λw' l=>ai.below (L.out.trans (l.mono L.out.size))
    have M1:=hid az.args.1;have M2:=hid az.lits.1;have HY:=hid hy;have bb:Hid (∀w',Below W1.heap.size W1 w'->Below w.heap.size w w'):=by show ∀w',_;exact λw' l=>L.out.trans (l.mono L.out.size)
    have v:=aJ _ (bb.out _ z.below);obtain⟨z0,z1,z2,z3,z4⟩:=v;injection bu with bq bt br
    subst bq br;clear bt;have bm:(k:Int)<(M.length:Int):=by rw[aA.out];omega
    have b0:(0:Int)<=(k:Int):=by omega
    clear ah ai aJ az hy aO;have ar:Hid (∀o,Below W1.heap.size W1 (wr.alloc o).drew):=by show ∀o,_;exact λo=>(z.below.alloc z.below.size o).drew
    have bz:Hid (∀o,Below W1.heap.size W1 (wr.alloc o)):=by show ∀o,_;exact λo=>z.below.alloc z.below.size o
    have bv:Hid (∀w' i u,Below W1.heap.size W1 w'->Below W1.heap.size W1 (w'.setCell ⟨wr.heap.size,i,none⟩ u)):=by show ∀w' i u,_;exact λw' i u h=>h.setCell z.below.size _
    go_wp2_with fail
    go_region_law
     (first
      | (refine Zbod (by rfl) _ _ (by rfl) (by rfl) (by rfl) (K1.out _ (ar.out _)) M1.out ?_;intro p1 p2 p3 wI B C;(first|(have E:=Zrb C;obtain⟨O,P,Q,R,T,f0,f1,f2,f3,f4⟩:=cells5 E)|(have E:=Zqz C;obtain⟨O,P,Q,R,T,f0,f1,f2,f3,f4⟩:=cells5 E));have J:=Zfj (ar.out _) C (ar.out _).size)
      | (refine Zbod (by rfl) _ _ (by rfl) (by rfl) (by rfl) (K2.out _ (by assumption)) M2.out ?_;intro m p q3 wO A c;(have a0:=Zrf c E;obtain⟨x0,x1,x2,x3,x4,e0,e1,e2,e3,e4⟩:=cells5 a0);have bg:=Zfj (show Below W1.heap.size W1 _ by assumption) c (show Below W1.heap.size W1 _ by assumption).size)
      | fail)
    all_goals
     obtain⟨W7,ad⟩:∃V,(wO.setCell ⟨wr.heap.size,2,none⟩ (.slice p1 p2 p3)).setCell ⟨wr.heap.size,3,none⟩ (.slice m p q3)=V:=⟨_,rfl⟩;rw[ad];have ay:W7.heap[wr.heap.size]? =some (.cells #[.string y.out,.int .i64 y.op,.slice p1 p2 p3,.slice m p q3,.int .i64 y.n] 58):=by
      rw[<-ad];exact heap_set 3 _ (heap_set 2 _ a0)
     have s1:=C.size;have s2:=c.size;simp only[Zlx,Zdj]at s1;have aF:Below wr.heap.size wr wI:=Zfj ((Below.refl _ _).alloc (Nat.le_refl _) _).drew C (by simp only[Zlx,Zdj];omega);have aH:Below wr.heap.size wr wO:=Zfj aF c (by omega);have aE:Below wr.heap.size wr W7:=by
      rw[<-ad];exact(aH.setCell (Nat.le_refl _) _).setCell (Nat.le_refl _) _
     have aP:StrsA (λb=>b<wr.heap.size) W7 (.slice p1 p2 p3) y.args:=by
      rw[<-ad];have G:StrsA (λb=>b<wr.heap.size+1) wO (.slice p1 p2 p3) y.args:=RowA.keep (RowA.mono B.1.1 λb _ l=>by simp only[Zlx,Zdj];exact l) (Zpv (Zrd c));exact RowA.mono (RowA.keep G ((Zpy (Av:=λb=>b<wr.heap.size+1) (a:=⟨wr.heap.size,2,none⟩) (Nat.lt_succ_self _) _).trans (Zpy (a:=⟨wr.heap.size,3,none⟩) (Nat.lt_succ_self _) _))) λb _ l=>by omega
     have aQ:StrsA (λb=>b<wr.heap.size) W7 (.slice m p q3) y.lits:=by
      rw[<-ad];have ao:wr.heap.size<wI.heap.size:=by omega
      exact RowA.mono (RowA.keep A.1.1 ((Zpy (Av:=λb=>b<wI.heap.size) (a:=⟨wr.heap.size,2,none⟩) ao _).trans (Zpy (a:=⟨wr.heap.size,3,none⟩) ao _))) λb _ l=>by omega
     have a8:=hid (z.step aa.out aE);have aW:=hid (Zbnj (vv:= .slice av k cv) aP aQ z.size (λb l=>(z.own.lt b l).2));have ab:=hid (a8.out.step aa.out ((Below.refl _ _).alloc (Nat.le_refl _) (.cells #[.string y.out,.int .i64 y.op,.slice p1 p2 p3,.slice m p q3,.int .i64 y.n] 58)));have aX:=hid (aW.out.keep (Zpu _ _ (.cells #[.string y.out,.int .i64 y.op,.slice p1 p2 p3,.slice m p q3,.int .i64 y.n] 58)));have aR:rs.length=k:=by rw[z.all.1,List.length_take];omega
     clear O P Q R T f0 f1 f2 f3 f4 x0 x1 x2 x3 x4 e0 e1 e2 e3 e4 z0 z1 z2 z3 z4 E a0 B A C c J bg s1 s2 aF aH aE aP aQ ad aj z;obtain⟨O,P,Q,R,T,f0,f1,f2,f3,f4⟩:=cells5 ay;obtain⟨d0,d1,d2,d3,d4,g0,g1,g2,g3,g4⟩:=cells5 a8.out.record
     go_wp2_with (at_builtin;refine Zbue _ rfl _ _ 48 rfl WC.heap.size 58 I0 (.agg #[.string ByteArray.empty,.int .i64 0,.slice none 0 0,.slice none 0 0,.int .i64 0]) 5 80 underlying48 be ah ai bf rfl (by decide) _ _ _ rfl (by have h:=ab.out.own;rw[aR]at h;exact h) ⟨W7.heap.size,0,none⟩ 1 1 [.string y.out,.int .i64 y.op,.slice p1 p2 p3,.slice m p q3,.int .i64 y.n] rfl rfl ?c1 ?c2 (by decide) ?c3 ?c4 ?c5 ?_)
     case c1=>
      intro j u U
      match j,U with
      | 0,U=>simp at U;subst U;simp[Addr.add]
      | 1,U=>simp at U;subst U;simp[Addr.add]
      | 2,U=>simp at U;subst U;simp[Addr.add]
      | 3,U=>simp at U;subst U;simp[Addr.add]
      | 4,U=>simp at U;subst U;simp[Addr.add]
     case c2=>intro u hu;simp at hu;rcases hu with rfl|rfl|rfl|rfl|rfl<;>rfl
     case c3=>unfold maxLen;omega
     case c4=>omega
     case c5=>exact ab.out.size
     intro v' w8 Z Y ap;obtain⟨aB,cB,rfl,_⟩:=Zbea Z;have aT:x.steps.take k ++ [y]=x.steps.take (k+1):=by rw[List.take_add_one,HY.out];rfl
     have HN:=hid (ab.out.grow a7.out aa.out Y (by simpa using ap) aX.out (by rw[aR];exact Z));rw[aT]at HN;have bl:w8.heap[g]? =some (.cells #[.string x.name,.slice i1 i2 i3,.slice j1 j2 j3,.slice l1 l2 l3,.slice av k cv] 50):=
      (Y.block g (Nat.lt_of_lt_of_le aa.out ab.out.size) (λe=>by have:=(ab.out.own.lt g e.symm).1;have:=aa.out;omega)).trans ab.out.record
     clear O P Q R T f0 f1 f2 f3 f4 d0 d1 d2 d3 d4 g0 g1 g2 g3 g4 Z Y ap aT;obtain⟨d0,d1,d2,d3,d4,g0,g1,g2,g3,g4⟩:=cells5 bl;go_wp2;go_roundw
     case rel=>exact⟨k+1,_,aB,cB,by omega,by go_num,HN.out⟩
     case measure=>simp[intOf];omega
   ·obtain rfl:k=x.steps.length:=by omega
    have bm:¬(x.steps.length:Int)<(M.length:Int):=by rw[aA.out];omega
    have ae:=z;rw[List.take_length]at ae;have HE:=hid ae;have af:wr.heap[w.heap.size+1]? =some (.cells #[.string ⟨#[]⟩,.slice none 0 0,.slice none 0 0,.slice none 0 0,.slice none 0 0] 50):=(z.below.block _ (by have:=aC.out;omega)).trans bd.out;have a9:=hid af;obtain⟨d0,d1,d2,d3,d4,g0,g1,g2,g3,g4⟩:=cells5 z.record;obtain⟨e0,e1,e2,e3,e4,f0,f1,f2,f3,f4⟩:=cells5 af;clear z ae aO af;go_wp2;refine bodyPost_ret (Zbhl rfl _ _ (w.heap.size+1) _ _ _ _ rfl (heap_set _ _ (heap_set _ _ (heap_set _ _ (heap_set _ _ (heap_set _ _ a9.out))))) underlying50 rfl (by kernel_rfl)) rfl ?_;have hE:=HE.out;have hS:=aC.out;have au:W1.heap.size<=WC.heap.size:=by have:=aa.out;have:=a7.out;omega
    have ax:∀u0 u1 u2 u3 u4,Fr (λb=>b<W1.heap.size\/b=g\/WC.heap.size<=b) wr _:=λu0 u1 u2 u3 u4=>Zpz (Av:=λb=>b<W1.heap.size\/b=g\/WC.heap.size<=b) (w:=wr) (g:=w.heap.size+1) (.inl (by omega)) u0 u1 u2 u3 u4
    have aL:∀u0 u1 u2 u3 u4,Fr (λb=>b<W1.heap.size) wr _:=λu0 u1 u2 u3 u4=>Zpz (Av:=λb=>b<W1.heap.size) (w:=wr) (g:=w.heap.size+1) (by omega) u0 u1 u2 u3 u4
    have bn:∀b,(Value.slice i1 i2 i3).ownBlock=some b\/(Value.slice j1 j2 j3).ownBlock=some b\/(Value.slice l1 l2 l3).ownBlock=some b->b<WC.heap.size:=by
     intro b l
     rcases l with l|l|l
     ·have q:¬(b<W1.heap.size\/b=g\/WC.heap.size<=b):=(hE.ins.1.1.2 b l).2
      omega
     ·have q:¬(b<W1.heap.size\/b=g\/WC.heap.size<=b):=(hE.outs.1.1.2 b l).2
      omega
     ·have q:¬(b<W1.heap.size\/b=g\/WC.heap.size<=b):=(hE.after.1.1.2 b l).2
      omega
    have aL:∀u0 u1 u2 u3 u4,Fr (AvOf WC.heap.size (.slice av x.steps.length cv)) wr _:=λu0 u1 u2 u3 u4=>Zpz (Av:=AvOf WC.heap.size (.slice av x.steps.length cv)) (w:=wr) (g:=w.heap.size+1) (.inl (by omega)) u0 u1 u2 u3 u4
    have aK:∀u0 u1 u2 u3 u4,Fr (λb=>b<W1.heap.size) wr _:=λu0 u1 u2 u3 u4=>Zpz (Av:=λb=>b<W1.heap.size) (w:=wr) (g:=w.heap.size+1) (by omega) u0 u1 u2 u3 u4
    exact⟨⟨_,_,_,_,rs,WC.heap.size,rfl,StrsW.mono (StrsW.keep hE.ins (ax _ _ _ _ _)) λb _ l=> .inl (by omega),StrsW.mono (StrsW.keep hE.outs (ax _ _ _ _ _)) λb _ l=> .inl (by omega),StrsW.mono (StrsW.keep hE.after (ax _ _ _ _ _)) λb _ l=> .inl (by omega),aY.out,by omega,Nat.le_trans hE.size (aK _ _ _ _ _).size,bn,Zckk hE.own λb e=>(aK _ _ _ _ _).block b (hE.own.lt b e).2 (by have:=(hE.own.lt b e).1;show ¬b<W1.heap.size;omega),hE.all.imp λr x h=>h.keep (aL _ _ _ _ _)⟩,
     Zfn (L.out.trans (hE.below.mono L.out.size)) (by omega) _ _ _ _ _⟩
theorem Zkq (x:RuleS) (vi vo vf vs:Value) (w:World) (h:RuleI w [.string x.name,vi,vo,vf,vs] x) (a:SmallR x 1048576):
  Calls prog 53 #[.agg #[.string x.name,vi,vo,vf,vs]] w λe w'=>RuleF w w' x e/\Below w.heap.size w w':=
 (Zckf x vi vo vf vs w h a).mono λ_ _ h=>⟨h.1.f,h.2⟩
theorem Zkp (x:RuleS) (vi vo vf vs:Value) (w:World) (h:RuleI w [.string x.name,vi,vo,vf,vs] x) (a:SmallR x 1048576):
  Calls prog 53 #[.agg #[.string x.name,vi,vo,vf,vs]] w λe w'=>RuleO w w' x e/\Below w.heap.size w w':=
 (Zkq x vi vo vf vs w h a).mono λ_ _ h=>⟨h.1.o,h.2⟩
theorem AllA.take {α:Type} {P:List Value->α->Prop} {a:List (List Value)} {xs:List α} (h:AllA P a xs) (m:Nat):AllA P (a.take m) (xs.take m):=
 ⟨by rw[List.length_take,List.length_take,h.1],λj r x b hx=>by
  rw[List.getElem?_take]at b hx;split at b
  ·rename_i c;rw[if_pos c]at hx;exact h.2 j r x b hx
  ·cases b⟩
theorem AllA.drop {α:Type} {P:List Value->α->Prop} {a:List (List Value)} {xs:List α} (h:AllA P a xs) (m:Nat):AllA P (a.drop m) (xs.drop m):=
 ⟨by rw[List.length_drop,List.length_drop,h.1],λj r x b hx=>by
  rw[List.getElem?_drop]at b hx;exact h.2 _ r x b hx⟩
theorem Zbxy {b:Array Oper} {o:Oper} {a:Act} {w:World} {K:Act->World->Prop} {Q:Exit->Act->World->Prop} {E:Prop} (c:o.guard=none) (s x:Operand) (t:TypeId)
  (i:o.op = .call { callee:= .builtin .append,args:=#[s,x],argTypes:=#[t,t] }) {e f d:Value} {g:World} (k:a.eval s=e) (hx:a.eval x=f)
  (j:(Builtin.append_ #[t,t] o.type #[e,f]).run prog w = .ok d g) (h:K (a.put o.dst d) g):
  if Region.wanted o (yielded b a.tmps)=true then Oper.wp prog o a w K Q else E:=by
 have l:Region.wanted o (yielded b a.tmps)=true:=by simp[Region.wanted,c]
 rw[if_pos l];unfold Oper.wp execOp;simp only[i,resolve,invoke,builtin,Sem.run_bind,Sem.run_pure,Result.andThen_ok,List.map_toArray,List.map_cons,List.map_nil,k,hx,j];exact h
open Go.Maps
def ShortE (e:ByteArray->ValT):Prop:=∀k,(e k).2.size<=100000000
theorem ShortE.set {e:ByteArray->ValT} (h:ShortE e) (k:ByteArray) {v:ValT} (a:v.2.size<=100000000):ShortE (setE e k v):=λb=>by
 unfold setE;split
 ·exact a
 ·exact h b
theorem ShortE.by:∀(ks:List ByteArray) (vs:List ValT) (e:ByteArray->ValT),ShortE e->(∀v∈vs,v.2.size<=100000000)->ShortE (byE ks vs e)
 | [],_,e,h,_=>by rw[byE];exact h;intros;simp_all
 | _::_,[],e,h,_=>by rw[byE];exact h;intros;simp_all
 | k::ks,v::vs,e,h,hv=>by rw[byE];exact ShortE.by ks vs _ (h.set k (hv v (by simp))) λu a=>hv u (by simp[a])
abbrev Zbiz (r:RuleS) (a1 a2 a3 a4:Option Addr) (c1 c2 c3 c4:Nat):Array Value:=#[.string r.name,.slice a1 r.ins.length c1,.slice a2 r.outs.length c2,.slice a3 r.after.length c3,.slice a4 r.steps.length c4]
