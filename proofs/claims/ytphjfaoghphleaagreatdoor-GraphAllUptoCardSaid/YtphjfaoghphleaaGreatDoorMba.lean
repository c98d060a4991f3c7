import Derived.Test.YtphjfaoghphleaaGreatDoorMaz
set_option maxRecDepth 100000
set_option maxHeartbeats 8000000
namespace Go.Proofs.YtphjfaoghphleaaGreatDoor
open Go.Lib (hid)
open Go.Proofs.Tryz Go.RowKit Go.Shelf
theorem Zdhj {P:Program} {e:Func} {p u:Tmp} {ty:TypeId} (h:e.results = #[.cell p ty,.tmp u]) (a:Array Value) (w:World) (g:Nat) (t:TypeId) (b:Array Value) (f:Nat×Nat) (d:TypeDesc)
  (k:a.getD p undef = .pointer (some ⟨g,0,none⟩)) (j:w.heap[g]? =some (.cells b t f))
  (l:P.underlying ty=some d) (i:(match d with | .struct _ | .array _ _=>true|_=>false)=true) (hi:(P.info? ty).map (·.size)=some b.size):
  (results e a).run P w = .ok (.tuple #[.agg b,a.getD u undef]) w:=by
 have c:a[p]?.getD undef = .pointer (some ⟨g,0,none⟩):=by simpa using k
 simp[results,h,c,asAddr,run_loadVar_row w g t ty b f d j l i hi]
theorem Zdas (p:Nat) (A M R:SKV) (k:ByteArray) (w:World) (h:GrM w p A M R) (r:RuleS) (B C D E:Option Addr) (K F L G O H Q I:Nat) (hg:getA A k zRul = .agg #[.string r.name,.slice B K F,.slice C L G,.slice D O H,.slice E Q I])
  (h1:IsStrs w (.slice B K F) r.ins) (h2:IsStrs w (.slice C L G) r.outs) (h3:IsStrs w (.slice D O H) r.after) (J:StepsI w (.slice E Q I) r.steps)
  (Z:r.ins.length<=1000000) (aa:r.outs.length<=1000000) (ab:r.after.length<=1000000) (ac:r.steps.length<=1000000) (v:∀x∈r.steps,x.args.length<=1000000/\x.lits.length<=1000000):
  Calls prog 21 #[.pointer (some { block:=p,off:=0 }),.string k] w λe w'=>(∃vi vo vf vs,e = .returned (.tuple #[.agg #[.string r.name,vi,vo,vf,vs],.bool (hasA A k)])/\StrsA (λb=>b<w.heap.size) w' vi r.ins/\StrsA (λb=>b<w.heap.size) w' vo r.outs/\StrsA (λb=>b<w.heap.size) w' vf r.after/\StepsA (λb=>b<w.heap.size) w' vs r.steps)/\Below w.heap.size w w':=by
 obtain⟨mr,mm,md,g1,W,_,_⟩:=h.ex;obtain⟨W0,c⟩:∃V,V=w.alloc (.cells #[.string ⟨#[]⟩,.slice none 0 0,.slice none 0 0,.slice none 0 0,.slice none 0 0] 50):=⟨_,rfl⟩;obtain⟨W1,i⟩:∃V,V=W0.alloc (.cells #[.string r.name,.slice B K F,.slice C L G,.slice D O H,.slice E Q I] 50):=⟨_,rfl⟩;have d:Below w.heap.size w W0:=by rw[c];exact(Below.refl _ _).alloc (Nat.le_refl _) _
 have ad:W0.heap.size=w.heap.size+1:=by rw[c];simp
 have a:Below w.heap.size w W1:=by rw[i];exact d.alloc d.size _
 have f:Below W0.heap.size W0 W1:=by rw[i];exact(Below.refl _ _).alloc (Nat.le_refl _) _
 have t:W0.heap[w.heap.size]? =some (.cells #[.string ⟨#[]⟩,.slice none 0 0,.slice none 0 0,.slice none 0 0,.slice none 0 0] 50):=by rw[c];exact alloc_at w _
 have u:=(f.block w.heap.size (by omega)).trans t;have Y:=(W.below d W.lt).get_ok (P:=prog) underlying86 underlying9 (Zdkb W0) k;rw[hg]at Y;have hc:W0.cell? { block:=p,off:=0 } =some (.map (some mr)):=by
  have:=(d.block p h.lt).trans g1;simp[World.cell?,this]
 have S:=hid (Zcxx r B C D E K F L G O H Q I W1 (h1.below a) (h2.below a) (h3.below a) ⟨J.choose,J.choose_spec.1.below (by exact⟨a.os,a.tape,a.output,a.size,a.block⟩),J.choose_spec.2.imp λq x hq=>by obtain⟨va,vl,e,y,z⟩:=hq;exact⟨va,vl,e,y.below a,z.below a⟩⟩ Z aa ab ac v);have T:=hid u;have s:=hid a;have m:Hid (w.heap.size<W1.heap.size):=hid (Nat.lt_of_lt_of_le (by omega) f.size);have hq:=λw=>Zcym (b:=p) w
 rw[c]at Y hc;clear h h1 h2 h3 J v hg g1 W d a f t u
 go_enter func21,ntmps21
 go_wp2_with fail
 rw[<-c,<-i];clear c i Y hc;refine S.out.mono ?_;rintro e V ⟨⟨vi,vo,vf,vs,rfl,y,z,s3,s4⟩,X⟩;obtain⟨_,_,_,rfl⟩:=Zbig y;obtain⟨_,_,_,rfl⟩:=Zbig z;obtain⟨_,_,_,rfl⟩:=Zbig s3;obtain⟨_,_,rfl,_⟩:=Zboi s4;have n:=(X.block w.heap.size m.out).trans T.out;have U:=hid n;obtain⟨⟨z0,z1,z2,z3,z4⟩,o⟩:=Zdhi n;have ae:=o 0;have af:=o 1;have ag:=o 2;have ah:=o 3;have ai:=o 4;have S1:=hid y;have S2:=hid z;have S3:=hid s3;have S4:=hid s4;have HB:=hid (s.out.trans (X.mono s.out.size));clear o n y z s3 s4 X;go_wp2;refine bodyPost_ret (Zdhj rfl _ _ w.heap.size _ _ _ _ rfl (Zdbi U.out _ _ _ _ _) underlying50 rfl (by kernel_rfl)) rfl ?_;have j:=Zdad (Av:=λb=>b<W1.heap.size) (w:=V) (g:=w.heap.size) m.out;have l:∀(b:Nat),b<w.heap.size->b<W1.heap.size:=λb h=>by have:=m.out;omega
 refine⟨⟨_,_,_,_,rfl,RowA.mono (RowA.keep S1.out (j _ _ _ _ _)) (λb _=>l b),RowA.mono (RowA.keep S2.out (j _ _ _ _ _)) (λb _=>l b),RowA.mono (RowA.keep S3.out (j _ _ _ _ _)) (λb _=>l b),(S4.out.keep (j _ _ _ _ _)).mono (λb _=>l b)⟩,?_⟩;exact HB.out.trans ((Zdad (Av:=λb=>w.heap.size<=b) (w:=V) (g:=w.heap.size) (Nat.le_refl _) _ _ _ _ _).below HB.out.size (λk hk=>by omega))
structure LawL (W5:World) (B:Nat) (x:RuleS) (vi vo vf vs:Value) (ys:List StepS) (wr:World):Prop where
 below:Below B W5 wr
 ins:StrsA (λb=>b<B) wr vi (cutQ x).ins
 outs:StrsA (λb=>b<B) wr vo (cutQ x).outs
 after:StrsA (λb=>b<B) wr vf (cutQ x).after
 steps:StepsA (λb=>b<B) wr vs ys
 canw:OpenV wr vs
theorem Zwx (x:RuleS) (vi vo vf vs:Value) (w:World) (h:RuleI w [.string x.name,vi,vo,vf,vs] x) (F:SmallR x 1048576):
  Calls prog 47 #[.agg #[.string x.name,vi,vo,vf,vs]] w λe w'=>Zbu w w' (cutR x) e/\Below w.heap.size w w':=by
 obtain⟨_,_,_,_,q,h1,h2,h3,h4⟩:=h
 cases q
 obtain⟨a1,c1,rfl,bl,ay,_⟩:=id h1;obtain⟨a2,c2,rfl,bm,az,_⟩:=id h2;obtain⟨a3,c3,rfl,bn,a0,_⟩:=id h3;obtain⟨c,ad,ab⟩:=id h4;obtain⟨a4,c4,rfl,bo,a5,_⟩:=id ad;obtain⟨ob,bb⟩:∃o:Obj,o = .cells #[.string x.name,.slice a1 x.ins.length c1,.slice a2 x.outs.length c2,.slice a3 x.after.length c3,.slice a4 c.length c4] 50:=⟨_,rfl⟩;obtain⟨W1,C⟩:∃W1,(w.alloc ob).alloc (.cells #[.string ⟨#[]⟩,.slice none 0 0,.slice none 0 0,.slice none 0 0,.slice none 0 0] 50)=W1:=⟨_,rfl⟩;have r:Below w.heap.size w W1:=by rw[<-C];exact((Below.refl _ _).alloc (Nat.le_refl _) _).alloc (by simp) _
 have a7:W1.heap.size=w.heap.size+2:=by rw[<-C];simp
 have aA:W1.heap[w.heap.size]? =some ob:=by rw[<-C,Below.heap_alloc _ _ _ (by simp)];exact alloc_at w ob
 have aB:W1.heap[w.heap.size+1]? =some (.cells #[.string ⟨#[]⟩,.slice none 0 0,.slice none 0 0,.slice none 0 0,.slice none 0 0] 50):=by
  rw[<-C];have:=alloc_at (w.alloc ob) (.cells #[.string ⟨#[]⟩,.slice none 0 0,.slice none 0 0,.slice none 0 0,.slice none 0 0] 50);simpa using this
 subst bb;have d:∀w',Below W1.heap.size W1 w'->_:=λw' (f:Below W1.heap.size W1 w')=>cells5 ((f.block w.heap.size (by omega)).trans aA)
 have aU:=λw' f=>(d w' f).1
 have aV:=λw' f=>(d w' f).2.1
 have aW:=λw' f=>(d w' f).2.2.1
 have aX:=λw' f=>(d w' f).2.2.2.1
 have X:=λw' f=>(d w' f).2.2.2.2.1
 have aE:=hid X;have aJ:Hid (Below W1.heap.size W1 W1.drew):=by show Below _ _ _;exact(Below.refl _ _).drew
 have HU:Hid (∀w' o,Below W1.heap.size W1 w'->Below W1.heap.size W1 (w'.alloc o)):=by show ∀w' o,_;exact λw' o h=>h.alloc h.size o
 have aK:Hid (∀o,Below W1.heap.size W1 (W1.alloc o).drew):=by show ∀o,_;exact λo=>((Below.refl _ _).alloc (Nat.le_refl _) o).drew
 have p:=hid r;have H1:Hid (∀w',Below W1.heap.size W1 w'->IsStrs w' (.slice a1 x.ins.length c1) x.ins):=by show ∀w',_;exact λw' f=>h1.below (r.trans (f.mono r.size))
 have H2:Hid (∀w',Below W1.heap.size W1 w'->IsStrs w' (.slice a2 x.outs.length c2) x.outs):=by show ∀w',_;exact λw' f=>h2.below (r.trans (f.mono r.size))
 have H3:Hid (∀w',Below W1.heap.size W1 w'->IsStrs w' (.slice a3 x.after.length c3) x.after):=by show ∀w',_;exact λw' f=>h3.below (r.trans (f.mono r.size))
 have H4:=hid h4;have aN:=hid aB;have aL:=hid C;have N1:=hid F.ins.1;have N2:=hid F.outs.1;have N3:=hid F.after.1;have ap:=hid F;have av:=hid a7;clear d h1 h2 h3 h4 r a7 aA aB X F ad C;have e1:=take_len x.ins.length 10 10 rfl;have e2:=take_len x.outs.length 6 6 rfl;have e3:=take_len x.after.length 10 10 rfl;have e4:=take_len c.length 14 14 rfl;have k1:(0:Int)<=min (x.ins.length:Int) 10:=by omega
 have k2:(0:Int)<=min (x.outs.length:Int) 6:=by omega
 have k3:(0:Int)<=min (x.after.length:Int) 10:=by omega
 have k4:(0:Int)<=min (c.length:Int) 14:=by omega
 have m1:min (x.ins.length:Int) 10<=(c1:Int):=by omega
 have m2:min (x.outs.length:Int) 6<=(c2:Int):=by omega
 have m3:min (x.after.length:Int) 10<=(c3:Int):=by omega
 have m4:min (c.length:Int) 14<=(c4:Int):=by omega
 have X:=aE.out;unfold maxLen at ay az a0 a5
 go_enter func47,ntmps47
 go_upto_region 1 with fail
 rw[aL.out];refine wp_region_held_drew (S:=λw'=>Below W1.heap.size W1 w') (by kernel_rfl) ?_ (λhHeld=>?_)
 ·exact aJ.out
 refine tkK 0 ?_;refine tkK 1 ?_;refine tkK 2 ?_;refine tkK 3 ?_;refine tkK 4 ?_;refine tkK 5 ?_;refine tkK 6 ?_;refine tkK 7 ?_;refine tkK 8 ?_;refine tkK 9 ?_;refine tkK 10 ?_;refine tkK 11 ?_;refine tkK 12 ?_;refine tkK 13 ?_;refine tkK 14 ?_;refine tkK 15 ?_;refine tkK 16 ?_;refine tkK 17 ?_;refine tkK 18 ?_;refine tkK 19 ?_;refine tkK 20 ?_;refine tkK 21 ?_;refine tkK 22 ?_;refine tkK 23 ?_;refine tkK 24 ?_;refine tkK 25 ?_;refine tkK 26 ?_;refine tkK 27 ?_;refine tkK 28 ?_;refine tkK 29 ?_;refine tkK 30 ?_
 try simp only[Act.put,sA,sZ,sS]
 refine rdH [31] ?_;refine rcH (λK M=>?_) ?_
 ·go_simp
  refine M.out _ _ ?_ (λhHeld=>?_)
  ·try dsimp only
   first|exact HU.out _ _ (by assumption)
  clear M K
  try simp only[Act.put,sA,sZ,sS]
  refine rdH [32] ?_;refine rcH (λK M=>?_) ?_
  ·go_simp
   refine M.out _ _ ?_ (λhHeld=>?_)
   ·try dsimp only
    exact aK.out _
   clear M K
   try simp only[Act.put,sA,sZ,sS]
   refine wpAnyH_done (by kernel_rfl) ?_ _;have Z:((W1.alloc (.cells #[.string x.name,.slice a1 (min 10 x.ins.length) c1,.slice a2 (min 6 x.outs.length) c2,.slice a3 (min 10 x.after.length) c3,.slice a4 (min 14 c.length) c4] 50)).drew).heap[W1.heap.size]? =some (.cells #[.string x.name,.slice a1 (min 10 x.ins.length) c1,.slice a2 (min 6 x.outs.length) c2,.slice a3 (min 10 x.after.length) c3,.slice a4 (min 14 c.length) c4] 50):=alloc_at W1 _;obtain⟨n,af⟩:∃V,(W1.alloc (.cells #[.string x.name,.slice a1 (min 10 x.ins.length) c1,.slice a2 (min 6 x.outs.length) c2,.slice a3 (min 10 x.after.length) c3,.slice a4 (min 14 c.length) c4] 50)).drew=V:=⟨_,rfl⟩;rw[af]at Z hHeld⊢;have a8:W1.heap.size<n.heap.size:=by rw[<-af];simp only[Zlx,Zdj];omega
   have ae:=hid hHeld;have aO:=hid Z;have B:=hid a8;obtain⟨y0,y1,y2,y3,y4,G,H,I,J,L⟩:=cells5 Z;have bd:c.length=x.steps.length:=ab.1;have ax:RuleI n [.string (cutQ x).name,.slice a1 (min 10 x.ins.length) c1,.slice a2 (min 6 x.outs.length) c2,.slice a3 (min 10 x.after.length) c3,.slice a4 (min 14 c.length) c4] (cutQ x):=by
    refine⟨_,_,_,_,rfl,Zuf (H1.out _ hHeld) 10,Zuf (H2.out _ hHeld) 6,Zuf (H3.out _ hHeld) 10,?_⟩;exact Zbow (StepsI.below H4.out (p.out.trans (hHeld.mono p.out.size))) 14
   have hQ:SmallR (cutQ x) 1048576:=by
    have F:=ap.out;have tk:∀ {l:List ByteArray} (m:Nat),SmallL l 1048576->SmallL (l.take m) 1048576:=λm h=>⟨by rw[List.length_take];have:=h.1;omega,λz hz=>h.2 z (List.mem_of_mem_take hz)⟩
    exact⟨F.name,tk 10 F.ins,tk 6 F.outs,tk 10 F.after,by show(x.steps.take 14).length<=_;rw[List.length_take];have:=F.few;omega,λy hy=>F.steps y (List.mem_of_mem_take hy)⟩
   have aw:=Zkp (cutQ x) _ _ _ _ n ax hQ;have aC:Hid (Calls prog 53 #[.agg #[.string x.name,.slice a1 (min 10 x.ins.length) c1,.slice a2 (min 6 x.outs.length) c2,.slice a3 (min 10 x.after.length) c3,.slice a4 (min 14 c.length) c4]] n λe w'=>RuleO n w' (cutQ x) e/\Below n.heap.size n w'):=aw;clear aw ax hQ hHeld af Z a8 aU aV aW aX X e1 e2 e3 e4 k1 k2 k3 k4 m1 m2 m3 m4 ab bd
   go_wp2_with fail
   refine aC.out.mono ?_;rintro e w4 ⟨aT,O⟩;obtain⟨vi,vo,vf,vs,he,⟨ak,_⟩,⟨al,_⟩,⟨aj,_⟩,W,ai⟩:=aT;obtain⟨i1,i2,i3,q⟩:=Zbig ak;subst q;obtain⟨j1,j2,j3,q⟩:=Zbig al;subst q;obtain⟨l1,l2,l3,q⟩:=Zbig aj;subst q;obtain⟨s1,s3,q,bf,be⟩:=Zboi W;subst q;obtain⟨ys,A⟩:∃ys,(cutQ x).steps=ys:=⟨_,rfl⟩;rw[A]at W bf ai;have aY:e = .returned (.agg #[.string x.name,.slice i1 i2 i3,.slice j1 j2 j3,.slice l1 l2 l3,.slice s1 ys.length s3]):=by rw[he,A];rfl
   clear he;subst aY;have aP:=hid A;have an:=(O.block _ B.out).trans aO.out;have hz5:=Zrs an (.string x.name) (.slice i1 i2 i3) (.slice j1 j2 j3) (.slice l1 l2 l3) (.slice s1 ys.length s3);obtain⟨x0,x1,x2,x3,x4,v0,v1,v2,v3,v4⟩:=cells5 an;obtain⟨W5,D⟩:∃V,((((w4.setCell ⟨W1.heap.size,0,none⟩ (.string x.name)).setCell ⟨W1.heap.size,1,none⟩ (.slice i1 i2 i3)).setCell ⟨W1.heap.size,2,none⟩ (.slice j1 j2 j3)).setCell ⟨W1.heap.size,3,none⟩ (.slice l1 l2 l3)).setCell ⟨W1.heap.size,4,none⟩ (.slice s1 ys.length s3)=V:=⟨_,rfl⟩;rw[D]at hz5;have j:Fr (λb=>b<n.heap.size) w4 W5:=by
    rw[<-D];exact Zpz (Av:=λb=>b<n.heap.size) (w:=w4) B.out (.string x.name) (.slice i1 i2 i3) (.slice j1 j2 j3) (.slice l1 l2 l3) (.slice s1 ys.length s3)
   have ac:=(p.out.trans (ae.out.mono p.out.size)).trans (O.mono (p.out.trans (ae.out.mono p.out.size)).size);have hb5:Below w.heap.size w W5:=by
    rw[<-D];exact Zfn ac p.out.size _ _ _ _ _
   have R:W5.heap[w.heap.size+1]? =some (.cells #[.string ⟨#[]⟩,.slice none 0 0,.slice none 0 0,.slice none 0 0,.slice none 0 0] 50):=by
    have h1:=av.out;have h2:=((O.block _ (by have:=B.out;omega)).trans (ae.out.block _ (by omega))).trans aN.out;rw[<-D];refine Eq.trans ?_ h2;have P:w.heap.size+1≠W1.heap.size:=by omega
    exact((((Below.heap_setCell _ _ _ _ P).trans (Below.heap_setCell _ _ _ _ P)).trans (Below.heap_setCell _ _ _ _ P)).trans (Below.heap_setCell _ _ _ _ P)).trans (Below.heap_setCell _ _ _ _ P)
   have aM:=hid D;have h0:LawL W5 n.heap.size x (.slice i1 i2 i3) (.slice j1 j2 j3) (.slice l1 l2 l3) (.slice s1 ys.length s3) ys W5:=
    ⟨Below.refl _ _,RowA.keep ak j,RowA.keep al j,RowA.keep aj j,StepsA.keep W j,ai.keep (Zbog W) j⟩
   have H0:=hid h0;have ao:Hid (W1.heap.size<n.heap.size/\w.heap.size+2=W1.heap.size):=by show _/\_;exact⟨B.out,by have:=av.out;omega⟩
   have aS:=hid hz5;have aI:=hid R;have aD:=hid hb5;have aa:=hid (show n.heap.size<=W5.heap.size from Nat.le_trans O.size j.size);have bu:ys.length<=1048576:=by rw[<-A];show(x.steps.take 14).length<=_;rw[List.length_take];have:=ap.out.few;omega
   have bp:=p.out.size;unfold maxLen at be;clear D O ak al aj W ai an hz5 j hb5 h0 A ac R y0 y1 y2 y3 y4 G H I J L
   go_wp2_with fail
   rw[aM.out];clear x0 x1 x2 x3 x4 v0 v1 v2 v3 v4;have T:∀wr,Below n.heap.size W5 wr->_:=λwr f=>cells5 ((f.block W1.heap.size B.out).trans aS.out)
   have au:=hid T;obtain⟨y0,y1,y2,y3,y4,G,H,I,J,L⟩:=T _ (Below.refl _ _);clear T
   go_wp2_with fail
   go_loopw [41] (λi wr=>∃k:Nat,k<=ys.length/\i = .int .i64 (k:Int)/\LawL W5 n.heap.size x (.slice i1 i2 i3) (.slice j1 j2 j3) (.slice l1 l2 l3) (.slice s1 ys.length s3) (mixS k ys) wr) (λi _=>ys.length-(intOf i).toNat)
   case atStart=>exact⟨0,Nat.zero_le _,rfl,H0.out⟩
   case round=>
    clear y0 y1 y2 y3 y4 G H I J L;obtain⟨k,hk,rfl,u⟩:=hrel;have HL:=hid u;obtain⟨y0,y1,y2,y3,y4,G,H,I,J,L⟩:=au.out _ u.below
    by_cases ba:k<ys.length
    ·obtain⟨y,hy⟩:∃y,ys[k]? =some y:=⟨ys[k],List.getElem?_eq_getElem ba⟩
     have ag:=u.canw;obtain⟨t,o,p1,c5,q1,d1,hs,bc,ah,br,g1,g2,g3,g4,g5,g6,z2,z3⟩:=Zbof u.steps (Zzf hy);have HY:=hid hy;have aQ:=hid z2;have aR:=hid z3;have aF:=hid ah;have a6:=Zbok (by rw[hs]at u;exact u.steps) (Zzf hy) z2 z3 8 3;have aH:=hid a6;have aq:Hid (t≠W1.heap.size):=by show _≠_;have:=B.out;intro e;exact ah (by omega)
     subst hs;have bg:=ag _ rfl (o+k*5+2);have bh:=ag _ rfl (o+k*5+3);clear ag;have aZ:(k:Int)<(ys.length:Int):=by omega
     have bt:(0:Int)<=(k:Int):=by omega
     have e1:=take_len y.args.length 8 8 rfl;have e2:=take_len y.lits.length 3 3 rfl;have k1:(0:Int)<=min (y.args.length:Int) 8:=by omega
     have k2:(0:Int)<=min (y.lits.length:Int) 3:=by omega
     have m1:min (y.args.length:Int) 8<=(c5:Int):=by omega
     have m2:min (y.lits.length:Int) 3<=(d1:Int):=by omega
     have bj:(wr.drew).cell? ⟨t,o+k*5+2,none⟩=some (.slice p1 y.args.length c5):=z2;have bk:(wr.drew).cell? ⟨t,o+k*5+3,none⟩=some (.slice q1 y.lits.length d1):=z3;have bi:(wr.drew).cell? ⟨W1.heap.size,4,none⟩=some (.slice (some ⟨t,o,none⟩) ys.length s3):=y4;unfold maxLen at g2 g4 g6;clear u hy a6 ah bc
     go_wp2_with fail
     refine Zbuk (S:=λb w'=>(b=false->w'=wr.drew)/\w'.cell? ⟨W1.heap.size,4,none⟩=some (.slice (some ⟨t,o,none⟩) ys.length s3)) (st:=38) (by kernel_rfl) ?_ (λhHeld=>?_)
     ·exact⟨λ_=>rfl,y4⟩
     refine tkS 0 ?_;refine tkS 1 ?_;refine tkS 2 ?_;refine tkZ 3 ?_;refine tkZ 4 ?_;refine tkZ 5 ?_;refine tkS 6 ?_;refine tkS 7 ?_;refine tkS 8 ?_;refine tkS 9 ?_;refine tkS 10 ?_;refine tkS 11 ?_;refine tkS 12 ?_;refine tkS 13 ?_;refine tkS 14 ?_;refine tkS 15 ?_;refine tkS 16 ?_;refine tkS 17 ?_;refine tkS 18 ?_;refine tkS 19 ?_;refine tkS 20 ?_;refine tkS 21 ?_;refine tkS 22 ?_;refine tkS 23 ?_;refine tkS 24 ?_;refine tkS 25 ?_;refine tkS 26 ?_;refine tkS 27 ?_;refine tkS 28 ?_;refine tkS 29 ?_;refine tkS 30 ?_;refine tkS 31 ?_;refine tkS 32 ?_;refine tkZ 33 ?_;refine tkZ 34 ?_;refine tkZ 35 ?_;refine tkS 36 ?_;refine tkS 37 ?_
     try simp only[Act.put,sA,sZ,sS]
     refine rdS [38] ?_;refine rcS true (λK M=>?_) ?_
     ·go_simp
      refine M.out _ _ ?_ (λhHeld=>?_)
      ·try dsimp only
       exact⟨λe=>(by cases e),by rw[Zid,World.cell?_setCell_far _ _ _ _ aq.out];exact y4⟩
      clear M K
      try simp only[Act.put,sA,sZ,sS]
      refine tkZ 39 ?_;refine tkZ 40 ?_
      try simp only[Act.put,sA,sZ,sS]
      refine rdS [41] ?_;refine rcS true (λK M=>?_) ?_
      ·go_simp
       refine M.out _ _ ?_ (λhHeld=>?_)
       ·try dsimp only
        exact⟨λe=>(by cases e),by rw[Zid,World.cell?_setCell_far _ _ _ _ aq.out];exact hHeld.2⟩
       clear M K
       try simp only[Act.put,sA,sZ,sS]
       refine Zbtu (by kernel_rfl) ?_ _;have am:=HL.out.below;obtain⟨W7,E⟩:∃V,((wr.setCell ⟨t,o+k*5+2,none⟩ (.slice p1 (min 8 y.args.length) c5)).setCell ⟨t,o+k*5+3,none⟩ (.slice q1 (min 3 y.lits.length) d1)).drew=V:=⟨_,rfl⟩;have j:Fr (λb=>b=t) wr W7:=by
        rw[<-E];exact((Zpy (Av:=λb=>b=t) (a:=⟨t,o+k*5+2,none⟩) rfl _).trans (Zpy (Av:=λb=>b=t) (a:=⟨t,o+k*5+3,none⟩) rfl _)).trans (Zpw _ _)
       have h7:LawL W5 n.heap.size x (.slice i1 i2 i3) (.slice j1 j2 j3) (.slice l1 l2 l3) (.slice (some ⟨t,o,none⟩) ys.length s3) (mixS (k+1) ys) W7:=by
        have U:∀ {v:Value} {xs:List ByteArray},StrsA (λb=>b<n.heap.size) wr v xs->StrsA (λb=>b<n.heap.size) W7 v xs:=λh=>by
         rw[<-E];refine RowA.keep (w:=(wr.setCell ⟨t,o+k*5+2,none⟩ (.slice p1 (min 8 y.args.length) c5)).setCell ⟨t,o+k*5+3,none⟩ (.slice q1 (min 3 y.lits.length) d1)) ?_ (Zpw _ _);exact Zbqg (Zbqg h aQ.out (by intro s e;cases e) _) (by rw[World.cell?_setCell_other _ _ _ _ (by simp)];exact aR.out) (by intro s e;cases e) _
        refine⟨am.trans (j.below (Nat.le_trans aa.out am.size) λb f e=>by subst e;exact aF.out f),U HL.out.ins,U HL.out.outs,U HL.out.after,?_,λb e i=>?_⟩
        ·have:=aH.out
         rw[<-Zzg HY.out,<-E];exact StepsA.keep this (Zpw _ _)
        ·rw[<-E]
         have h1:=HL.out.canw b e i;rw[Zqb,World.frozen?_setCell,World.frozen?_setCell];exact h1
       have H7:=hid h7;rw[E];clear am E j h7 hHeld bg bh y0 y1 y2 y3 y4 G H I J L z2 z3 bj bk bi e1 e2 k1 k2 m1 m2;go_wp2;go_roundw
       case rel=>exact⟨k+1,by omega,by go_num,H7.out⟩
       case measure=>simp[intOf];omega
      exact AllReadyS.nil
     exact AllReadyS.nil
    ·obtain rfl:k=ys.length:=by omega
     have aZ:¬(ys.length:Int)<(ys.length:Int):=by omega
     have Q:=(u.below.block _ (by have:=ao.out;omega)).trans aI.out;have ar:=hid Q;obtain⟨d0,d1,d2,d3,d4,e0,e1,e2,e3,e4⟩:=cells5 Q;clear u Q;go_wp2;refine bodyPost_ret (Zbhl rfl _ _ (w.heap.size+1) _ _ _ _ rfl (Zrs ar.out _ _ _ _ _) underlying50 rfl (by kernel_rfl)) rfl ?_;have u:=HL.out;have hS:=ao.out;have bq:=aa.out;have Y:∀u0 u1 u2 u3 u4,Fr (λb=>b<n.heap.size) wr _:=λu0 u1 u2 u3 u4=>Zpz (Av:=λb=>b<n.heap.size) (w:=wr) (g:=w.heap.size+1) (by omega) u0 u1 u2 u3 u4
     have a9:=u.steps;rw[Zze _ (Nat.le_refl _)]at a9;have A:(cutR x).steps=ys.map cutS:=by rw[<-aP.out];rfl
     refine⟨⟨_,_,_,_,rfl,RowA.mono (RowA.keep u.ins (Y _ _ _ _ _)) λb _ f=>by omega,RowA.mono (RowA.keep u.outs (Y _ _ _ _ _)) λb _ f=>by omega,RowA.mono (RowA.keep u.after (Y _ _ _ _ _)) λb _ f=>by omega,?_⟩,
      Zfn (aD.out.trans (u.below.mono (by omega))) (by omega) _ _ _ _ _⟩
     rw[A];exact(a9.keep (Y _ _ _ _ _)).mono λb _ f=>by omega
  exact AllReadyH.nil
 exact AllReadyH.nil
theorem Zbir {w w':World} {x:RuleS} {e:Ending} (h:Zbu w w' x e):∃a l g c m i d n j f s k,e = .returned (.agg #[.string x.name,.slice a l g,.slice c m i,.slice d n j,.slice f s k])/\
  RuleA (λb=>b<w.heap.size) w' [.string x.name,.slice a l g,.slice c m i,.slice d n j,.slice f s k] x:=by
 obtain⟨A,B,z,C,rfl,o,p,q,r⟩:=h;obtain⟨a,l,g,t⟩:=Zbig o;obtain⟨c,m,i,u⟩:=Zbig p;obtain⟨d,n,j,v⟩:=Zbig q;obtain⟨f,k,y,_,_⟩:=Zboi r;subst t u v y;exact⟨a,l,g,c,m,i,d,n,j,f,_,k,rfl,⟨_,_,_,_,rfl,o,p,q,r⟩⟩
def Zbvw (k:Nat) (xs:List RuleS):List RuleS:=(xs.take k).map cutR
theorem Zbvz {xs:List RuleS} {k:Nat} {x:RuleS} (h:xs[k]? =some x):Zbvw (k+1) xs=Zbvw k xs ++ [cutR x]:=by
 unfold Zbvw;rw[List.take_add_one,h,List.map_append];rfl
theorem Zbvy (k:Nat) (xs:List RuleS):(Zbvw k xs).length=min k xs.length:=by unfold Zbvw;rw[List.length_map,List.length_take]
theorem Zbvx {k m:Nat} {xs:List RuleS} (h:xs.length<=k) (a:xs.length<=m):Zbvw k xs=Zbvw m xs:=by
 unfold Zbvw;rw[List.take_of_length_le h,List.take_of_length_le a]
theorem Zbwl (v:Value) (xs:List RuleS) (w:World) (h:RulesI w v xs) (hs:∀x∈xs,SmallR x 1048576):
  Calls prog 6 #[v] w (Zbz w (Zbvw 42 xs)):=by
 obtain⟨sa,sc,V,ad,U⟩:=Zbjn h;subst V;have F:Hid (∀(k:Nat) x,xs[k]? =some x->_):=hid (λk x hx=>Zbjm h (k:=k) (x:=x) hx);have P:=hid hs;unfold maxLen at U;have I:Hid (OwnRules w.heap.size w (.slice none 0 0) []):=Zbxk _ _;clear h hs
 go_enter func6,ntmps6
 go_wp2
 go_loopw [3,4] (λvv i wr=>∃k:Nat,k<=xs.length/\k<=42/\i = .int .i64 k/\OwnRules w.heap.size wr vv (Zbvw k xs)/\Below w.heap.size w wr)
  (λ_ i _=>xs.length-(intOf i).toNat)
 case atStart=>exact⟨0,Nat.zero_le _,Nat.zero_le _,rfl,I.out,Below.refl _ _⟩
 case round=>
  obtain⟨k,hk,Z,rfl,r,t⟩:=hrel;have D:=t.size;have u:=hid r;have d:=hid t;clear r t
  by_cases T:k<xs.length
  ·by_cases ab:k<42
   ·obtain⟨x,hx⟩:∃x,xs[k]? =some x:=⟨xs[k],List.getElem?_eq_getElem T⟩
    obtain⟨g,o,aa,a1,c1,a2,c2,a3,c3,a4,c4,V,hg,X,Y⟩:=F.out k x hx;have B:(k:Int)<(xs.length:Int):=by omega
    have S:(k:Int)<42:=by omega
    have ac:(0:Int)<=(k:Int):=by omega
    have A:=P.out x (List.mem_of_getElem? hx);have E:=Zbvz hx;obtain⟨d0,d1,d2,d3,d4⟩:=Y _ d.out;have Q:=hid E
    cases V
    have W:=Zwx x _ _ _ _ wr (X.below d.out) A;have CA:=hid W;clear Y hx E X A W
    go_wp2_with fail
    refine CA.out.mono ?_;rintro e w2 ⟨l,n⟩;obtain⟨b1,m1,e1,b2,m2,e2,b3,m3,e3,b4,m4,e4,rfl,C⟩:=Zbir l;have y:=u.out.below n;have p:=λb hb=>(u.out.lt b hb).2
    have s:=RuleA.mono (Av':=AvOf w.heap.size _) C λb _ e=>by
     rcases e with e|e
     ·show b<wr.heap.size;omega
     ·exact p b e
    have J:=hid y;have M:=hid s;have G:=hid (d.out.trans (n.mono D));have R:Hid ((Zbvw k xs).length<=1000000000):=by show _<=_;rw[Zbvy];omega
    have O:=hid (Nat.le_trans D n.size);clear C n y p s d0 d1 d2 d3 d4 l
    go_wp2_with (at_builtin;refine Zbuh (by rfl) _ _ (by rfl) w.heap.size _ (Zbvw k xs) (cutR x) b1 b2 b3 b4 m1 e1 m2 e2 m3 e3 m4 e4 (by rfl) J.out O.out R.out M.out _ (by rfl) (by simp) ?_)
    intro v' w6 j z _ _;have L:Hid (OwnRules w.heap.size w6 v' (Zbvw (k+1) xs)):=by show OwnRules _ _ _ _;rw[Q.out];exact j
    have H:=hid (G.out.trans z);clear j z;go_wp2;go_roundw
    case rel=>exact⟨k+1,by omega,by omega,by go_num,L.out,H.out⟩
    case measure=>simp[intOf];omega
   ·obtain rfl:k=42:=by omega
    have B:(42:Int)<(xs.length:Int):=by omega
    have S:((42:Nat):Int)<(xs.length:Int):=by omega
    obtain⟨a,c,q⟩:=u.out.len;subst q;go_wp2;go_ret;exact⟨_,_,_,rfl,u.out,d.out⟩
  ·have f:Zbvw k xs=Zbvw 42 xs:=Zbvx (by omega) (by omega)
   have B:¬(k:Int)<(xs.length:Int):=by omega
   have m:=u.out;rw[f]at m;obtain⟨a,c,q⟩:=m.len;subst q;have K:=hid m;clear f m;go_wp2;go_ret;exact⟨_,_,_,rfl,K.out,d.out⟩
theorem Zdbq {w:World} {a:Option Addr} {n c:Nat} {xs:List ByteArray} (h:IsStrs w (.slice a n c) xs) {k:Nat} {x:ByteArray} (hx:xs[k]? =some x):
  ∃b g,a=some ⟨b,g,none⟩/\b<w.heap.size/\∀w',Below w.heap.size w w'->w'.cell? ⟨b,g+k,none⟩=some (.string x):=by
 obtain⟨l,m,e,_,_,d⟩:=h
 cases e
 obtain⟨b,o,e,f,i⟩:=d (by rintro rfl;simp at hx);exact⟨b,o,e,f,λw' j=>(j.cell (p:=⟨b,o+k,none⟩) f).trans (i k x hx)⟩
def nilV:Value:= .slice none 0 0
def Zdej (n:ByteArray) (M:SKV) (x:ByteArray):SKV:=putA M x (lv (true,n))
def Zdel (M:SKV) (r:RuleS):SKV:=r.outs.foldl (Zdej r.name) M
def mkM (rs:List RuleS):SKV:=rs.foldl Zdel []
abbrev RdL:=List (ByteArray×ByteArray)
def Zdgq (r:RuleS):RdL:=r.ins.map λx=>(x,r.name)
def Zdgj (rs:List RuleS):RdL:=rs.flatMap Zdgq
def rdOf (qs:RdL) (k:ByteArray):List Lb:=(qs.filter λq=>decide (q.1=k)).map λq=>(true,q.2)
theorem Zdgn (qs:RdL) (x n k:ByteArray):rdOf (qs ++ [(x,n)]) k=rdOf qs k++(if x=k then [(true,n)]else []):=by
 grind [rdOf]
theorem Zdgo (qs:RdL) (k:ByteArray):(rdOf qs k).length<=qs.length:=by
 unfold rdOf;rw[List.length_map];exact List.length_filter_le _ _
def AvR (B C:Nat) (R:SKV):Nat->Prop:=λb=>(B<=b/\b<C)\/∃k,(getA R k nilV).ownBlock=some b
structure RIs (w:World) (C:Nat) (R:SKV) (qs:RdL):Prop where
 row:∀k,OwnL C w (getA R k nilV) (rdOf qs k)
 key:∀k,hasA R k=true↔∃q∈qs,q.1=k
 one:∀k k' b,(getA R k nilV).ownBlock=some b->(getA R k' nilV).ownBlock=some b->k=k'
 sl:SliVs R
def AIs (Av:Nat->Prop) (w:World) (A:SKV) (rs:List RuleS):Prop:=A.length=rs.length/\∀(j:Nat) e r,A[j]? =some e->rs[j]? =some r->e.1=r.name/\∃vi vo vf vs,e.2 = .agg #[.string r.name,vi,vo,vf,vs]/\RuleA Av w [.string r.name,vi,vo,vf,vs] r
structure Stp (B C:Nat) (R R':SKV) (w w':World):Prop where
 fr:Fr (AvR B C R) w w'
 av:∀b,b<w.heap.size->AvR B C R' b->AvR B C R b
theorem Stp.refl (B C:Nat) (R:SKV) (w:World):Stp B C R R w w:=⟨Fr.refl _ _,λ_ _ h=>h⟩
theorem Stp.trans {B C:Nat} {R d e:SKV} {w w1 w2:World} (h:Stp B C R d w w1) (k:Stp B C d e w1 w2):Stp B C R e w w2:=
 ⟨⟨k.fr.os.trans h.fr.os,k.fr.tape.trans h.fr.tape,k.fr.output.trans h.fr.output,Nat.le_trans h.fr.size k.fr.size,λi c g=>(k.fr.block i (Nat.lt_of_lt_of_le c h.fr.size) λa=>g (h.av i c a)).trans (h.fr.block i c g)⟩,
  λb f a=>h.av b f (k.av b (Nat.lt_of_lt_of_le f h.fr.size) a)⟩
theorem Stp.below {B C:Nat} {R:SKV} {w w':World} (h:Below w.heap.size w w'):Stp B C R R w w':=⟨Zpv h,λ_ _ h=>h⟩
theorem RuleA.stp {B C:Nat} {R c:SKV} {w w':World} {row:List Value} {r:RuleS} (h:RuleA (AvR B C R) w row r) (d:Stp B C R c w w'):RuleA (AvR B C c) w' row r:=
 ((h.mono (Av':=λb=>AvR B C R b\/AvR B C c b) λb e a=>a.elim id (d.av b e)).keep (d.fr.mono λ_ _ a=> .inl a)).mono λ_ _ a=> .inr a
theorem StrsA.stp {B C:Nat} {R c:SKV} {w w':World} {v:Value} {xs:List ByteArray} (h:StrsA (AvR B C R) w v xs) (d:Stp B C R c w w'):StrsA (AvR B C c) w' v xs:=
 ((RowA.mono h (Av':=λb=>AvR B C R b\/AvR B C c b) λb e a=>a.elim id (d.av b e)).keep (d.fr.mono λ_ _ a=> .inl a)).mono λ_ _ a=> .inr a
theorem AIs.stp {B C:Nat} {R a:SKV} {w w':World} {A:SKV} {rs:List RuleS} (h:AIs (AvR B C R) w A rs) (i:Stp B C R a w w'):AIs (AvR B C a) w' A rs:=
 ⟨h.1,λj e r f g=>by
  obtain⟨b,l,m,k,n,c,d⟩:=h.2 j e r f g;exact⟨b,l,m,k,n,c,d.stp i⟩⟩
theorem Stp.under {B C:Nat} {R c:SKV} {w w':World} (h:Stp B C R c w w') (d:B<=w.heap.size) (f:∀k b,(getA R k nilV).ownBlock=some b->B<=b):Below B w w':=
 h.fr.below d λk g e=>e.elim (λa=>by omega) (λ⟨x,a⟩=>by have:=f x k a;omega)
theorem AIs.keys {Av:Nat->Prop} {w:World} {A:SKV} {rs:List RuleS} (h:AIs Av w A rs):A.map (·.1)=rs.map (·.name):=by
 apply List.ext_getElem?;intro j;rw[List.getElem?_map,List.getElem?_map]
 rcases Nat.lt_or_ge j A.length with a|a
 ·have b:j<rs.length:=by rw[<-h.1];exact a
  rw[List.getElem?_eq_getElem a,List.getElem?_eq_getElem b];simp[(h.2 j _ _ (List.getElem?_eq_getElem a) (List.getElem?_eq_getElem b)).1]
 ·have b:rs.length<=j:=by rw[<-h.1];exact a
  grind
theorem Zdgd {k:ByteArray} {v:Value}:∀ {L:SKV},hasA L k=false->putA L k v=L ++ [(k,v)]
 | [],_=>rfl
 | e::L,h=>by
  unfold hasA at h;unfold putA
  by_cases a:e.1=k
  ·simp[a]at h
  ·rw[if_neg a]at h
   rw[if_neg a,Zdgd h];rfl
theorem AIs.add {Av:Nat->Prop} {w:World} {A:SKV} {rs:List RuleS} (h:AIs Av w A rs) {r:RuleS} {d f c vs:Value} (g:RuleA Av w [.string r.name,d,f,c,vs] r):AIs Av w (A ++ [(r.name,.agg #[.string r.name,d,f,c,vs])]) (rs ++ [r]):=by
 refine⟨by rw[List.length_append,List.length_append,h.1];rfl,λj e x a hx=>?_⟩
 rcases Nat.lt_or_ge j A.length with b|b
 ·rw[List.getElem?_append_left b]at a
  rw[List.getElem?_append_left (by rw[<-h.1];exact b)]at hx;exact h.2 j e x a hx
 ·rw[List.getElem?_append_right b]at a
  rw[List.getElem?_append_right (by rw[<-h.1];exact b),<-h.1]at hx
  match hd:j-A.length,a,hx with
  | 0,a,hx=>
   grind
  | n+1,a,_=>grind
theorem Zdgf {P:Value->Prop} {L:SKV} (h:∀e∈L,P e.2) {k:ByteArray} {v:Value} (c:P v):∀e∈putA L k v,P e.2:=by
 induction L with
 | nil=>intro e b;simp[putA]at b;subst b;exact c
 | cons a L d=>
  intro e b;unfold putA at b
  grind
theorem SliVs.put {L:SKV} (h:SliVs L) (k:ByteArray) (a:Option Addr) (n c:Nat):SliVs (putA L k (.slice a n c)):=Zdgf (P:=λv=>∃a n c,v = .slice a n c) h ⟨a,n,c,rfl⟩
theorem LabVs.put {L:SKV} (h:LabVs L) (k:ByteArray) (l:Lb):LabVs (putA L k (lv l)):=Zdgf (P:=λv=>∃p s,v = .agg #[.bool p,.string s]) h ⟨l.1,l.2,rfl⟩
theorem Zdcc (n:ByteArray):∀(xs:List ByteArray) (M:SKV),LabVs M->LabVs (xs.foldl (Zdej n) M)
 | [],_,h=>h
 | x::xs,_,h=>Zdcc n xs _ (h.put x _)
theorem Zdcd:∀(rs:List RuleS) (M:SKV),LabVs M->LabVs (rs.foldl Zdel M)
 | [],_,h=>h
 | r::rs,M,h=>Zdcd rs _ (Zdcc r.name r.outs M h)
theorem Zdce (rs:List RuleS):LabVs (mkM rs):=Zdcd rs [] (by intro e a;cases a)
theorem AIs.rulVs {Av:Nat->Prop} {w:World} {A:SKV} {rs:List RuleS} (h:AIs Av w A rs):RulVs A:=by
 intro e n;obtain⟨j,d,b⟩:=List.mem_iff_getElem.1 n;have o:j<rs.length:=by rw[<-h.1];exact d
 obtain⟨_,F,G,E,H,z,g⟩:=h.2 j e _ (by rw[List.getElem?_eq_getElem d,b]) (List.getElem?_eq_getElem o);obtain⟨_,_,_,_,D,i,k,l,m⟩:=g;obtain⟨q,u,rfl⟩:=Zue i.isStrs;obtain⟨r,v,rfl⟩:=Zue k.isStrs;obtain⟨s,x,rfl⟩:=Zue l.isStrs;obtain⟨f,a,c⟩:=m;obtain⟨t,y,rfl,_⟩:=a.1
 grind
structure GrS (w:World) (B C p mr mm md:Nat) (A M R:SKV) (rs:List RuleS) (qs:RdL):Prop where
 blk:w.heap[p]? =some (.cells #[.map (some mr),.map (some mm),.map (some md)] 90)
 qa:MpS w mr A
 qm:MpS w mm M
 qr:MpS w md R
 lo:B<=mr/\B<=mm/\B<=md/\B<=p
 hi:mr<C/\mm<C/\md<C/\p<C
 ne:mr≠mm/\mr≠md/\mm≠md/\p≠mr/\p≠mm/\p≠md
 ai:AIs (AvR B C R) w A rs
 ri:RIs w C R qs
 lm:LabVs M
 sz:C<=w.heap.size
section
variable {w w':World} {B C p mr mm md:Nat} {A M R:SKV} {rs:List RuleS} {qs:RdL}
theorem RIs.grown (h:RIs w C R qs) {row:Option Nat} (c:w.grownBy w' row) (d:∀b,row=some b->b<C):RIs w' C R qs:=
 ⟨λk=>World.ownsRow.kept (h.row k) c (by
  cases e:(getA R k nilV).ownBlock with
  | none=>exact .inl rfl
  | some b=>
   have:=(World.ownsRow.lt (h.row k) b e).1;exact .inr λa=>by have:=d b a.symm;omega),h.key,h.one,h.sl⟩
theorem GrS.graph (h:GrS w B C p mr mm md A M R rs qs):GrM w p A M R:=⟨⟨mr,mm,md,h.blk,h.qa,h.qm,h.qr⟩,h.ai.rulVs,h.lm,h.ri.sl⟩
theorem GrS.below (h:GrS w B C p mr mm md A M R rs qs) (a:Below w.heap.size w w'):GrS w' B C p mr mm md A M R rs qs:=
 ⟨(a.block p h.graph.lt).trans h.blk,h.qa.below a h.qa.lt,h.qm.below a h.qm.lt,h.qr.below a h.qr.lt,h.lo,h.hi,h.ne,h.ai.stp (Stp.below a),
  h.ri.grown (row:=none) ⟨a.os,a.tape,a.output,a.size,λk b _=>a.block k b⟩ (λ_ e=>by cases e),h.lm,Nat.le_trans h.sz a.size⟩
theorem Zdih (w:World) (m:Nat) (o:Obj) {b:Nat} (a:b≠m):({ w with heap:=w.heap.setIfInBounds m o }:World).heap[b]? =w.heap[b]?:=by
 grind
theorem Zdij (w:World) (m:Nat) (o:Obj):w.grownBy { w with heap:=w.heap.setIfInBounds m o } (some m):=
 ⟨rfl,rfl,rfl,by simp,λk _ a=>Zdih w m o (λe=>a (by rw[e]))⟩
theorem Zdji (R:SKV) (w:World) {m:Nat} (o:Obj) (a:B<=m/\m<C):Stp B C R R w { w with heap:=w.heap.setIfInBounds m o }:=
 ⟨Zpx (Zdij w m o) (λk e=>by cases e;exact .inl a),λ_ _ h=>h⟩
theorem GrS.putRule (h:GrS w B C p mr mm md A M R rs qs) {r:RuleS} {c d a vs:Value} (k:RuleA (AvR B C R) w [.string r.name,c,d,a,vs] r) (l:r.name∉rs.map (·.name)) {o:Obj}
  (f:MpS { w with heap:=w.heap.setIfInBounds mr o } mr (putA A r.name (.agg #[.string r.name,c,d,a,vs]))):
  GrS { w with heap:=w.heap.setIfInBounds mr o } B C p mr mm md (A ++ [(r.name,.agg #[.string r.name,c,d,a,vs])]) M R (rs ++ [r]) qs:=by
 have g:Stp B C R R w { w with heap:=w.heap.setIfInBounds mr o }:=Zdji R w o ⟨h.lo.1,h.hi.1⟩;have i:hasA A r.name=false:=by
  rw[Bool.eq_false_iff];intro j;rw[Zdax,h.ai.keys]at j
  grind
 rw[Zdgd i]at f;exact⟨(Zdih _ _ _ h.ne.2.2.2.1).trans h.blk,f,h.qm.heap (Zdih _ _ _ h.ne.1.symm),h.qr.heap (Zdih _ _ _ h.ne.2.1.symm),h.lo,h.hi,h.ne,(h.ai.stp g).add (k.stp g),
  h.ri.grown (Zdij w mr o) (λb e=>by cases e;exact h.hi.1),h.lm,by simpa using h.sz⟩
theorem GrS.putMaker (h:GrS w B C p mr mm md A M R rs qs) (x n:ByteArray) {o:Obj} (a:MpS { w with heap:=w.heap.setIfInBounds mm o } mm (putA M x (lv (true,n)))):
  GrS { w with heap:=w.heap.setIfInBounds mm o } B C p mr mm md A (Zdej n M x) R rs qs:=by
 have c:Stp B C R R w { w with heap:=w.heap.setIfInBounds mm o }:=Zdji R w o ⟨h.lo.2.1,h.hi.2.1⟩;exact⟨(Zdih _ _ _ h.ne.2.2.2.2.1).trans h.blk,h.qa.heap (Zdih _ _ _ h.ne.1),a,h.qr.heap (Zdih _ _ _ h.ne.2.2.1.symm),h.lo,h.hi,h.ne,h.ai.stp c,
  h.ri.grown (Zdij w mm o) (λb e=>by cases e;exact h.hi.2.1),h.lm.put x _,by simpa using h.sz⟩
theorem GrS.putReader (h:GrS w B C p mr mm md A M R rs qs) (x n:ByteArray) {v':Value} (y:OwnL C w' v' (rdOf qs x ++ [(true,n)])) (r:w.grownBy w' (getA R x nilV).ownBlock)
  (d:∀b,v'.ownBlock=some b->(getA R x nilV).ownBlock=some b\/w.heap.size<=b) {o:Obj} (I:MpS { w' with heap:=w'.heap.setIfInBounds md o } md (putA R x v')):
  GrS { w' with heap:=w'.heap.setIfInBounds md o } B C p mr mm md A M (putA R x v') rs (qs ++ [(x,n)])/\Stp B C R (putA R x v') w { w' with heap:=w'.heap.setIfInBounds md o }:=by
 have l:∀b,(getA R x nilV).ownBlock=some b->C<=b:=λb e=>(World.ownsRow.lt (h.ri.row x) b e).1
 have s:∀b,b<w.heap.size->AvR B C (putA R x v') b->AvR B C R b:=by
  rintro b v (a|⟨k,a⟩)
  ·exact .inl a
  ·by_cases g:k=x
   ·subst g
    rw[Zdak]at a
    rcases d b a with f|f
    ·exact .inr ⟨_,f⟩
    ·omega
   ·rw[Zdaj g]at a
    exact .inr ⟨_,a⟩
 have z:Stp B C R (putA R x v') w { w' with heap:=w'.heap.setIfInBounds md o }:=by
  refine⟨(Zpx r λk e=> .inr ⟨x,e⟩).trans (Zpx (Zdij w' md o) (λk e=>by cases e;exact .inl ⟨h.lo.2.2.1,h.hi.2.2.1⟩)),s⟩
 have c:∀b,b<C->b≠md->({ w' with heap:=w'.heap.setIfInBounds md o }:World).heap[b]? =w.heap[b]?:=λb v t=>
  (Zdih _ _ _ t).trans (r.block b (Nat.lt_of_lt_of_le v h.sz) (λe=>by have:=l b e.symm;omega))
 obtain⟨E,F,u,_⟩:=Zdfu y;refine⟨⟨(c _ h.hi.2.2.2 h.ne.2.2.2.2.2).trans h.blk,h.qa.heap (c _ h.hi.1 h.ne.2.1),h.qm.heap (c _ h.hi.2.1 h.ne.2.2.1),I,h.lo,h.hi,h.ne,h.ai.stp z,⟨λk=>?_,λk=>?_,λk D b a f=>?_,?_⟩,h.lm,?_⟩,z⟩
 ·have m:=Zdij w' md o
  rw[Zdgn]
  by_cases g:x=k
  ·subst g
   rw[Zdak,if_pos rfl];exact Zdfr y m h.hi.2.2.1
  ·rw[Zdaj (Ne.symm g),if_neg g,List.append_nil]
   refine Zdfr (World.ownsRow.kept (h.ri.row k) r ?_) m h.hi.2.2.1
   cases e:(getA R k nilV).ownBlock with
   | none=>grind
   | some b=>
    exact .inr λG=>g (h.ri.one x k b G.symm e)
 ·rw[Zday,Bool.or_eq_true,decide_eq_true_iff,h.ri.key]
  constructor
  ·rintro(a|⟨q,a,f⟩)
   ·simp_all
   ·grind
  ·grind
 ·have H:∀k b,(getA R k nilV).ownBlock=some b->b<w.heap.size:=λk b e=>(World.ownsRow.lt (h.ri.row k) b e).2
  by_cases g:k=x
  ·by_cases i:D=x
   ·grind
   ·subst g
    rw[Zdak]at a;rw[Zdaj i]at f
    rcases d b a with j|j
    ·exact h.ri.one _ _ b j f
    ·grind
  ·rw[Zdaj g]at a
   by_cases i:D=x
   ·subst i
    rw[Zdak]at f
    rcases d b f with j|j
    ·exact h.ri.one _ _ b a j
    ·grind
   ·rw[Zdaj i]at f
    exact h.ri.one _ _ b a f
 ·rw[u]
  exact h.ri.sl.put x E _ F
 ·have:=Nat.le_trans h.sz r.size
  grind
