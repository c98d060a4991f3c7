import Derived.Test.YtphjfaoghphleaaGreatDoorMbh
set_option maxRecDepth 100000
set_option maxHeartbeats 16000000
namespace Go.Proofs.YtphjfaoghphleaaGreatDoor
namespace lawGraphAll
open Go.Lib (hid)
open Go.Proofs.Tryz Go.RowKit Go.Shelf
theorem Zdkk (w:World):(binOp .eql 30 (.pointer none) (.pointer none)).run prog w = .ok (.bool true) w:=by
 have a:∀d,(Op.equalIn (d+1) 30 (.pointer none) (.pointer none)).run prog w = .ok true w:=by
  intro d;simp[Op.equalIn,run_underlying underlying30,Sem.run_bind]
 have:=a 9999;simp[binOp,Op.equal,Op.maxDepth,this]
structure GaS (w0 w5:World) (p g B:Nat) (va:Value) (rs:List RuleS) (W:World):Prop where
 gx:GrX W B p rs
 rf:RgF w5 g rs W
 ri:RulesI W va rs
 b:Below w0.heap.size w0 W
theorem GaS.below {w0 d W W':World} {p g B:Nat} {c:Value} {rs:List RuleS} (h:GaS w0 d p g B c rs W) (a:Below W.heap.size W W'):GaS w0 d p g B c rs W':=
 ⟨h.gx.below a,h.rf.below a,h.ri.below a,h.b.trans (a.mono h.b.size)⟩
theorem law (v:Value) (xs:List RuleS) (x:Lb) (w:World) (h:RulesI w v xs) (hu:xs.length<=1048576/\∀y∈xs,SmallR y 1048576) (hG:GXM w):
  Calls prog 3 #[v,lv x] w λe w'=>e = .returned (.bool true)/\Below w.heap.size w w':=by
 have mixed:prog.follows .mixedOrders=true:=by kernel_rfl
 obtain⟨W0,aT⟩:∃V,V=w.alloc (.cells #[.bool x.1,.string x.2] 24):=⟨_,rfl⟩;have J:Below w.heap.size w W0:=by rw[aT];exact(Below.refl _ _).alloc (Nat.le_refl _) _
 have aq:BoxL W0 w.heap.size x:=by rw[aT];exact alloc_at w _
 have cz:GXM W0->True:=λ_=>trivial
 have bC:=hid (Exe.beg12 (w:=W0) (hG.gx.below (by
                    have:=hG.gx.size;have:Exe.gq<5:=by decide
                    omega) J))
 have HM:=hid ((show MayW w from hG.max).below J);have I:=hid (h.below J);have bj:=hid hu.2;have B:=hid aq;have f:=hid J;have hq:=Zdkk;have cj:=λ(p:Nat) (w:World)=>Zcym (b:=p) w
 obtain⟨sa,sc,hv,df,dg⟩:=Zbjn h;subst hv;have hcut:∀x∈Zbvw 42 xs,SmallR x 1048576/\ShortR x:=by
  intro x hx;obtain⟨y,hy,rfl⟩:=List.mem_map.1 hx;exact⟨Zbma (hu.2 y (List.mem_of_mem_take hy)),Zbkv y⟩
 have ak:=hid hcut;clear h hu hG J aq cz hcut;unfold lv
 go_enter func3,ntmps3
 go_wp2_with fail
 rw[<-aT];clear aT;refine bC.out.mono ?_;rintro e w0 ⟨rfl,J⟩;replace I:=hid (I.out.below J);replace HM:=hid (HM.out.below J);replace B:=hid (B.out.below J (Nat.le_refl _));replace f:=hid (f.out.trans (J.mono f.out.size));clear J bC
 go_wp2_with fail
 refine(Zbwl _ xs w0 I.out bj.out).mono ?_;rintro e w1 ⟨ra,rn,rc,rfl,Z,E⟩;obtain⟨_,_,q⟩:=Z.len
 cases q
 obtain⟨raw,am⟩:∃raw,Zbvw 42 xs=raw:=⟨_,rfl⟩;have b4:raw.length<=42:=by rw[<-am,Zbvy];exact Nat.min_le_left _ _
 have ad:=hid (show ∀y∈raw,SmallR y 1048576/\ShortR y from by rw[<-am];exact ak.out);rw[am]at Z⊢;have a6:=hid Z.rulesA.rulesI;replace I:=hid (I.out.below E);replace HM:=hid (HM.out.below E);replace B:=hid (B.out.below E (Nat.le_refl _));replace f:=hid (f.out.trans (E.mono f.out.size));clear Z E am
 go_wp2_with fail
 refine(Zccs _ raw w1 a6.out (by omega) ad.out).mono ?_;rintro e w2 ⟨⟨c,s,rfl,ba⟩,o⟩;have HZ:=hid (Zdki ba);replace a6:=hid (a6.out.below o);replace I:=hid (I.out.below o);replace HM:=hid (HM.out.below o);replace B:=hid (B.out.below o (Nat.le_refl _));replace f:=hid (f.out.trans (o.mono f.out.size));clear ba o
 go_wp2_with fail
 refine(Zdap _ raw w2 a6.out (λr hr=>(ad.out r hr).1) (by omega) (λr hr y hy=>by have:=(ad.out r hr).2.each y hy;omega) HM.out).mono ?_;rintro e w3 ⟨R,n⟩;replace I:=hid (I.out.below n);replace HM:=hid (HM.out.below n);replace B:=hid (B.out.below n (Nat.le_refl _));replace f:=hid (f.out.trans (n.mono f.out.size));have HF:=hid (Zczm _ xs w3 I.out bj.out ak.out);clear a6 n;obtain⟨u,t,rfl,bZ,cx,ht⟩:∃(u:Value) (t:Bool),e = .returned u/\(∀w:World,(binOp .eql 30 u (.pointer none)).run prog w = .ok (.bool t) w)/\(∀(a b:Operand) (w:World),(eqGuard .eql 30 a b u (.pointer none)).run prog w = .ok () w)/\(t=true↔c≠0):=by
  rcases R with⟨hz,p0,rfl,_⟩|⟨hz,rfl⟩
  ·exact⟨_,false,rfl,λw=>Zcym (b:=p0) w,λa b w=>by simp[eqGuard],by simp[HZ.out.2 hz]⟩
  ·exact⟨_,true,rfl,Zdkk,λa b w=>by simp[eqGuard],by simp;exact λhc=>hz (HZ.out.1 hc)⟩
 have cw:(c != 0)=t:=by
  rw[Bool.eq_iff_iff,ht,bne_iff_ne]
 clear hq cj R ht HZ
 go_wp2_with fail
 refine HF.out.mono ?_;rintro e w4 ⟨C,⟨fa,fn,fc,rfl,Z,aV⟩,Y⟩;obtain⟨_,_,q⟩:=Z.len
 cases q
 have cC:C.length<=14:=Y.few;have HT:=hid Y.tog;have az:=hid Y.code;have aP:=hid (λ(y:RuleS) (hy:y∈C)=>ak.out y (Y.mem y hy));have bi:=hid Z.rulesA;replace HM:=hid (HM.out.below aV);replace B:=hid (B.out.below aV (Nat.le_refl _));replace f:=hid (f.out.trans (aV.mono f.out.size));clear Y Z aV HF I bj ak ad bZ cx cw
 go_wp2_with fail
 refine(Zdap _ C w4 bi.out.rulesI (λr hr=>(aP.out r hr).1) (by omega) (λr hr y hy=>by have:=(aP.out r hr).2.each y hy;omega) HM.out).mono ?_;rintro e w5 ⟨R,hb5⟩
 rcases R with⟨_,p,rfl,ca⟩|⟨c6,_⟩
 rotate_left
 ·exact absurd az.out c6
 have a4:=hid (RulesA.keep bi.out (Zpv (Av:=λb=>b<w3.heap.size) hb5));replace B:=hid (B.out.below hb5 (Nat.le_refl _));replace f:=hid (f.out.trans (hb5.mono f.out.size));have bM:=hid ca;clear hb5 ca bi HM az
 go_wp2_with fail
 refine(Zdlh _ C w5 a4.out.rulesI (λr hr=>(aP.out r hr).1) HT.out).mono ?_;rintro e w6 ⟨g,rfl,aW⟩;have aD:=aW.under;have a5:=hid (RulesA.keep a4.out (Zpv (Av:=λb=>b<w3.heap.size) aD));have HS:=hid (show GaS w w5 p g w4.heap.size (.slice fa C.length fc) C w6 from⟨bM.out.below aD,aW,a5.out.rulesI,f.out.trans (aD.mono f.out.size)⟩);replace B:=hid (B.out.below aD (Nat.le_refl _));obtain⟨vr,aL,cL,bv,b3⟩:=aW.read;obtain⟨L,hL⟩:∃L,allG C=L:=⟨_,rfl⟩;rw[hL]at b3 bv;have bc:=hid bv;clear bv;have de:L.length<=1000:=by
  rw[<-hL];have h1:(allG C).length<=(C.flatMap labR).length:=Zdig _;have h2:(C.flatMap labR).length<=C.length*13:=Zdbz (λr hr=>⟨(Zckm (HT.out.each r hr)).1,(Zckm (HT.out.each r hr)).2.1⟩);omega
 have ap:=hid b3;have HL:=hid hL;have cj:=λw=>Zcym (b:=p) w
 obtain⟨V0,aR⟩:∃V,V=w6.drew:=⟨_,rfl⟩;have bt:Below w6.heap.size w6 V0:=by rw[aR];exact(Below.refl _ _).drew
 have bW:=HS.out.below bt;have cA:=Zdah _ p C V0 bW.gx HT.out;have bV:setL (C.flatMap labR)=L:=hL;rw[bV]at cA;have ax:=hid cA;have A:=hid bt;clear aW aD b3 hL bV bt bW cA a4 bM
 go_wp2_with fail
 refine wp_region_held_drew (S:=λV=>Below V0.heap.size V0 V) (by kernel_rfl) ?_ (λhHeld=>?_)
 ·rw[<-aR];exact Below.refl _ _
 rw[<-aR]at hHeld⊢;clear aR;refine tkK 0 ?_;refine tkK 1 ?_;refine tkK 2 ?_;refine tkK 3 ?_;refine tkK 5 ?_;refine tkK 6 ?_;refine tkK 7 ?_
 try simp only[Act.put,sA,sZ,sS]
 refine tkH 8 (v:=?_) ?_ ?_;rotate_left
 ·intro w d;obtain⟨_,⟨_,c1,_⟩,_⟩:=ap.out _ (A.out.trans (d.mono A.out.size));go_simp;try with_reducible rfl
 try simp only[Act.put,sA,sZ,sS]
 refine rdH [4] ?_;refine rcH (λK j=>?_) ?_
 ·go_simp;refine ax.out.mono ?_;rintro e w7 ⟨v7,rfl,ch,ah⟩;dsimp only
  refine j.out _ _ ?_ (λhHeld=>?_)
  ·try dsimp only
   exact ah
  clear j K
  try simp only[Act.put,sA,sZ,sS]
  obtain⟨a7,c7,q,_,_,cl,_⟩:=Zdfu ch;subst q;obtain⟨_,_,_,cm,_⟩:=ap.out _ (A.out.trans (ah.mono A.out.size));have bD:=hid (rbEq L L a7 aL c7 cL w7 cl cm (by omega));have ac:=hid ah;clear ch cl cm ah;refine rdH [9] ?_;refine rcH (λK j=>?_) ?_
  ·go_simp;refine bD.out.mono ?_;rintro e w8 ⟨rfl,cv⟩;dsimp only
   refine j.out _ _ ?_ (λhHeld=>?_)
   ·try dsimp only
    exact ac.out.trans (cv.mono ac.out.size)
   clear j K
   try simp only[Act.put,sA,sZ,sS]
   refine tkK 10 ?_;refine tkK 11 ?_
   try simp only[Act.put,sA,sZ,sS]
   refine wpAnyH_done (by kernel_rfl) ?_ _;have an:=hid (A.out.trans (hHeld.mono A.out.size));clear ax bD ac;obtain⟨V1,aS⟩:∃V,V=w8.drew:=⟨_,rfl⟩;have al:Below w6.heap.size w6 V1:=by rw[aS];exact an.out.drew
   obtain⟨_,_,_,O,_⟩:=ap.out _ al;have bA:=hid (B.out.below al (Nat.le_refl _));have m:=hid al;have aO:=hid O;clear al O;obtain⟨fw,bx⟩:∃fw,L.take 20=fw:=⟨_,rfl⟩;have cQ:fw.length<=20:=by rw[<-bx,List.length_take];omega
   obtain⟨ls,b2⟩:∃ls,fw ++ [x]=ls:=⟨_,rfl⟩;have cJ:ls.length<=21:=by rw[<-b2,List.length_append];simp only[List.length_cons,List.length_nil];omega
   have bd:=hid bx;clear bx;have be:=hid b2;clear b2
   go_upto_region 12 with fail
   go_cut [60,61,62] (λcG cH cI wx=>cH = .int .i64 (ls.length:Int)/\cI = .int .i64 0/\OwnL w6.heap.size wx cG ls/\Below w6.heap.size w6 wx)
   case first=>
    go_wp2_with fail
    refine wp_region_held_drew (S:=λV=>Below V1.heap.size V1 V) (by kernel_rfl) ?_ (λhHeld=>?_)
    ·rw[<-aS];exact Below.refl _ _
    rw[<-aS]at hHeld⊢;clear aS;refine tkK 0 ?_;refine tkK 1 ?_;refine tkK 2 ?_
    try simp only[Act.put,sA,sZ,sS]
    refine tkH 3 (v:=?_) ?_ ?_;rotate_left
    ·intro w d;obtain⟨_,⟨_,c1,_⟩,_⟩:=ap.out _ (m.out.trans (d.mono m.out.size));go_simp;try with_reducible rfl
    try simp only[Act.put,sA,sZ,sS]
    refine tkH 5 (v:=?_) ?_ ?_;rotate_left
    ·intro w d;obtain⟨x0,x1⟩:=(bA.out.below d (Nat.le_refl _)).cells;go_simp;try with_reducible rfl
    try simp only[Act.put,sA,sZ,sS]
    refine tkK 9 ?_
    try simp only[Act.put,sA,sZ,sS]
    have aE:=Zdkt L aL cL V1 aO.out bc.out;rw[bd.out]at aE;have bJ:=hid aE;clear aE;obtain⟨Z1,aU⟩:∃V,V1.alloc (.cells #[.bool x.1,.string x.2] 24)=V:=⟨_,rfl⟩;refine rdH [4,6] ?_;refine rcH (λK j=>?_) ?_
    ·go_simp;refine bJ.out.mono ?_;rintro e wf ⟨vf,rfl,ai,X⟩;dsimp only
     refine j.out _ _ ?_ (λhHeld=>?_)
     ·try dsimp only
      exact X
     clear j K
     try simp only[Act.put,sA,sZ,sS]
     obtain⟨W3x,br⟩:∃V,wf.alloc (.cells #[.bool x.1,.string x.2] 24)=V:=⟨_,rfl⟩;obtain⟨af,cf,q,_⟩:=Zdfu ai;subst q;have n:Below wf.heap.size wf W3x:=by rw[<-br];exact(Below.refl _ _).alloc (Nat.le_refl _) _
     have a0:=hid (Zdfq ai n);have bl:=hid (show W3x.heap[wf.heap.size]? =some (.cells #[.bool x.1,.string x.2] 24) by rw[<-br];exact alloc_at wf _);have U:=hid (X.trans (n.mono X.size));clear ai n;refine rdH [6] ?_;refine rcH (λK j=>?_) ?_
     ·go_simp;try rw[br]
      refine j.out _ _ ?_ (λhHeld=>?_)
      ·try dsimp only
       exact U.out
      clear j K
      try simp only[Act.put,sA,sZ,sS]
      have aN:W3x.heap[wf.heap.size]? =some (.cells #[.bool x.1,.string x.2] 24):=bl.out;obtain⟨v9,W9,aJ,Q,aF,_⟩:=Zdib (ty:=35) (ys:=[x]) a0.out (Zdhq aN) (by simp only[List.length_cons,List.length_nil];omega) U.out.size;rw[be.out]at Q;have l:=U.out.grown aF U.out.size (λk e=>(World.ownsRow.lt a0.out k e).1);have bh:=hid aJ;have bf:=hid (Zbdt Q m.out.size);have P:=hid (m.out.trans (l.mono m.out.size));have au:=hid l;obtain⟨a9,c9,q9,_⟩:=Zdfu Q;subst q9;clear aN aJ Q aF l;refine rdH [7] ?_;refine rcH (λK j=>?_) ?_
      ·refine Zbxy rfl _ _ _ rfl rfl rfl bh.out ?_
       refine j.out _ _ ?_ (λhHeld=>?_)
       ·try dsimp only
        exact au.out
       clear j K
       try simp only[Act.put,sA,sZ,sS]
       refine tkK 8 ?_
       try simp only[Act.put,sA,sZ,sS]
       refine wpAnyH_done (by kernel_rfl) ?_ _
       go_wp2_with fail
       go_meet;exact⟨rfl,rfl,bf.out,P.out⟩
      exact AllReadyH.nil
     exact AllReadyH.nil
    refine rcH (λK j=>?_) ?_
    ·go_simp;try rw[aU]
     refine j.out _ _ ?_ (λhHeld=>?_)
     ·try dsimp only
      rw[<-aU];exact(Below.refl _ _).alloc (Nat.le_refl _) _
     clear j K
     try simp only[Act.put,sA,sZ,sS]
     obtain⟨cP,cu⟩:∃V,Z1=V:=⟨_,rfl⟩;subst cu;have cq:Z1.heap[V1.heap.size]? =some (.cells #[.bool x.1,.string x.2] 24):=by rw[<-aU];exact alloc_at V1 _
     have F:Below V1.heap.size V1 Z1:=by rw[<-aU];exact(Below.refl _ _).alloc (Nat.le_refl _) _
     obtain⟨_,_,_,co,_⟩:=ap.out _ (m.out.trans (F.mono m.out.size));have bw:=Zdkt L aL cL Z1 co bc.out;rw[bd.out]at bw;have cs:=hid bw;clear bw;have bU:=hid cq;have aw:=hid F;clear cq F co;refine rdH [4] ?_;refine rcH (λK j=>?_) ?_
     ·go_simp;refine cs.out.mono ?_;rintro e wf ⟨vf,rfl,ai,X⟩;dsimp only
      refine j.out _ _ ?_ (λhHeld=>?_)
      ·try dsimp only
       exact aw.out.trans (X.mono aw.out.size)
      clear j K
      try simp only[Act.put,sA,sZ,sS]
      obtain⟨af,cf,q,_⟩:=Zdfu ai;subst q;have a0:=hid (Zbdt ai aw.out.size);have bl:=hid ((X.block _ (Array.getElem?_eq_some_iff.1 bU.out).1).trans bU.out);have U:=hid (aw.out.trans (X.mono aw.out.size));clear ai X;have aN:wf.heap[V1.heap.size]? =some (.cells #[.bool x.1,.string x.2] 24):=bl.out;obtain⟨v9,W9,aJ,Q,aF,_⟩:=Zdib (ty:=35) (ys:=[x]) a0.out (Zdhq aN) (by simp only[List.length_cons,List.length_nil];omega) U.out.size;rw[be.out]at Q;have l:=U.out.grown aF U.out.size (λk e=>(World.ownsRow.lt a0.out k e).1);have bh:=hid aJ;have bf:=hid (Zbdt Q m.out.size);have P:=hid (m.out.trans (l.mono m.out.size));have au:=hid l;obtain⟨a9,c9,q9,_⟩:=Zdfu Q;subst q9;clear aN aJ Q aF l;refine rdH [7] ?_;refine rcH (λK j=>?_) ?_
      ·refine Zbxy rfl _ _ _ rfl rfl rfl bh.out ?_
       refine j.out _ _ ?_ (λhHeld=>?_)
       ·try dsimp only
        exact au.out
       clear j K
       try simp only[Act.put,sA,sZ,sS]
       refine tkK 8 ?_
       try simp only[Act.put,sA,sZ,sS]
       refine wpAnyH_done (by kernel_rfl) ?_ _
       go_wp2_with fail
       go_meet;exact⟨rfl,rfl,bf.out,P.out⟩
      exact AllReadyH.nil
     exact AllReadyH.nil
    exact AllReadyH.nil
   case rest=>
    obtain⟨rfl,rfl,ho,aq⟩:=hcut;obtain⟨la,lc,q,_,_,b4,_⟩:=Zdfu ho;subst q;have aA:=hid (HS.out.below aq);have ct:=hid b4;have a8:=hid (RulesA.keep a5.out (Zpv (Av:=λb=>b<w3.heap.size) aq)).rulesI;clear ho b4 aq a5 HS ap bc HL A be bd
    go_wp2_with fail
    go_loopw [62] (λiv wr=>∃k:Nat,k<=ls.length/\iv = .int .i64 (k:Int)/\Below wc.heap.size wc wr) (λiv _=>ls.length-(intOf iv).toNat)
    case atStart=>exact⟨0,Nat.zero_le _,rfl,Below.refl _ _⟩
    case round=>
     obtain⟨k,hk,rfl,bX⟩:=hrel;have av:=hid bX;clear bX
     by_cases c5:k<ls.length
     ·obtain⟨a,hx⟩:∃a,ls[k]? =some a:=⟨ls[k],List.getElem?_eq_getElem c5⟩
      have c0:(k:Int)<(ls.length:Int):=by omega
      have cT:(0:Int)<=(k:Int):=by omega
      obtain⟨ab,ao,rfl,dh,b9⟩:=ct.out.below av.out (Nat.le_refl _) k a hx;obtain⟨W7,aB⟩:∃V,V=(wr.alloc (.cells #[.bool a.1,.string a.2] 24)).drew:=⟨_,rfl⟩;have ah:Below wr.heap.size wr W7:=by rw[aB];exact((Below.refl _ _).alloc (Nat.le_refl _) _).drew
      have bb:BoxL W7 wr.heap.size a:=by rw[aB];exact alloc_at wr _
      have bp:=av.out.trans (ah.mono av.out.size);have ae:=aA.out.below bp;have cK:=λV (W:Below W7.heap.size W7 V)=>Zdam _ p C V a (ae.below W).gx HT.out
      have cR:=λV (W:Below W7.heap.size W7 V)=>Zdmb _ g C a V (ae.below W).rf HT.out
      have cN:=λV (W:Below W7.heap.size W7 V)=>Zdao _ p C V a (ae.below W).gx HT.out
      have cX:=λV (W:Below W7.heap.size W7 V)=>Zdmc _ g C a false V (ae.below W).rf HT.out
      have cU:=λV (W:Below W7.heap.size W7 V)=>Zdau _ p C V a (ae.below W).gx HT.out
      have cY:=λV (W:Below W7.heap.size W7 V)=>Zdmc _ g C a true V (ae.below W).rf HT.out
      unfold lv at cK cR cN cX cU cY;simp only[Zdlw,if_true,Bool.false_eq_true,if_false]at cX cY;have c8:=Zdet HT.out a;have cD:=Zdju HT.out a;obtain⟨kd,cb⟩:∃kd,Zdbt C a=kd:=⟨_,rfl⟩;obtain⟨ns,cg⟩:∃ns,Zdes C a=ns:=⟨_,rfl⟩;obtain⟨us,cp⟩:∃us,Zdjt C a=us:=⟨_,rfl⟩;rw[cb]at cK cR;rw[cg]at cN cX c8;rw[cp]at cU cY cD;have bE:=hid cK;have ad:=hid cR;have bH:=hid cN;have bK:=hid cX;have bI:=hid cU;have bL:=hid cY;have G:=hid bb;have ac:=hid bp;have dd:(kd != kd)=false:=by simp
      clear hx ah bb bp ae cK cR cN cX cU cY cb cg cp av
      go_wp2_with fail
      refine wp_region_held_drew (S:=λV=>Below W7.heap.size W7 V) (by kernel_rfl) ?_ (λhHeld=>?_)
      ·rw[<-aB];exact Below.refl _ _
      rw[<-aB]at hHeld⊢;clear aB;refine tkK 0 ?_;refine tkK 3 ?_
      try simp only[Act.put,sA,sZ,sS]
      refine tkH 1 (v:=?_) ?_ ?_;rotate_left
      ·intro w d;obtain⟨q0,q1⟩:=(G.out.below d (Nat.le_refl _)).cells;go_simp;try with_reducible rfl
      try simp only[Act.put,sA,sZ,sS]
      refine tkH 4 (v:=?_) ?_ ?_;rotate_left
      ·intro w d;obtain⟨q0,q1⟩:=(G.out.below d (Nat.le_refl _)).cells;go_simp;try with_reducible rfl
      try simp only[Act.put,sA,sZ,sS]
      refine rdH [2] ?_;refine rcH (λK j=>?_) ?_
      ·go_simp;refine(bE.out _ (Below.refl _ _)).mono ?_;rintro e y1 ⟨rfl,E⟩;dsimp only
       refine j.out _ _ ?_ (λhHeld=>?_)
       ·try dsimp only
        exact E
       clear j K
       try simp only[Act.put,sA,sZ,sS]
       have f:=hid hHeld;refine rdH [5] ?_;refine rcH (λK j=>?_) ?_
       ·go_simp;refine(ad.out _ f.out).mono ?_;rintro e y2 ⟨rfl,o⟩;dsimp only
        refine j.out _ _ ?_ (λhHeld=>?_)
        ·try dsimp only
         exact f.out.trans (o.mono f.out.size)
        clear j K
        try simp only[Act.put,sA,sZ,sS]
        refine tkK 6 ?_;refine tkK 7 ?_;refine tkK 8 ?_
        try simp only[Act.put,sA,sZ,sS]
        refine tkH 9 (v:=?_) ?_ ?_;rotate_left
        ·intro w d;obtain⟨q0,q1⟩:=(G.out.below d (Nat.le_refl _)).cells;go_simp;try with_reducible rfl
        try simp only[Act.put,sA,sZ,sS]
        refine tkK 11 ?_
        try simp only[Act.put,sA,sZ,sS]
        refine tkH 12 (v:=?_) ?_ ?_;rotate_left
        ·intro w d;obtain⟨q0,q1⟩:=(G.out.below d (Nat.le_refl _)).cells;go_simp;try with_reducible rfl
        try simp only[Act.put,sA,sZ,sS]
        have f:=hid hHeld;refine rdH [10] ?_;refine rcH (λK j=>?_) ?_
        ·go_simp;refine(bH.out _ f.out).mono ?_;rintro e z1 ⟨v1,rfl,aH,E⟩;dsimp only
         refine j.out _ _ ?_ (λhHeld=>?_)
         ·try dsimp only
          exact f.out.trans (E.mono f.out.size)
         clear j K
         try simp only[Act.put,sA,sZ,sS]
         obtain⟨a1,d1,q,_,_,O,_⟩:=Zdfu aH;subst q;have m:=hid hHeld;clear aH E;refine rdH [13] ?_;refine rcH (λK j=>?_) ?_
         ·go_simp;refine(bK.out _ m.out).mono ?_;rintro e z2 ⟨v2,rfl,aI,o⟩;dsimp only
          refine j.out _ _ ?_ (λhHeld=>?_)
          ·try dsimp only
           exact m.out.trans (o.mono m.out.size)
          clear j K
          try simp only[Act.put,sA,sZ,sS]
          obtain⟨a2,d2,q,_,_,aa,_⟩:=Zdfu aI;subst q;have HE:=hid (rbEq ns ns a1 a2 d1 d2 _ (O.below o (Nat.le_refl _)) aa (by omega));have ar:=hid hHeld;clear aI O aa o m;refine rdH [14] ?_;refine rcH (λK j=>?_) ?_
          ·go_simp;refine HE.out.mono ?_;rintro e z3 ⟨rfl,n⟩;dsimp only
           refine j.out _ _ ?_ (λhHeld=>?_)
           ·try dsimp only
            exact ar.out.trans (n.mono ar.out.size)
           clear j K
           try simp only[Act.put,sA,sZ,sS]
           refine tkK 15 ?_;refine tkK 16 ?_;refine tkK 17 ?_;refine tkK 18 ?_
           try simp only[Act.put,sA,sZ,sS]
           refine tkH 19 (v:=?_) ?_ ?_;rotate_left
           ·intro w d;obtain⟨q0,q1⟩:=(G.out.below d (Nat.le_refl _)).cells;go_simp;try with_reducible rfl
           try simp only[Act.put,sA,sZ,sS]
           refine tkK 21 ?_
           try simp only[Act.put,sA,sZ,sS]
           refine tkH 22 (v:=?_) ?_ ?_;rotate_left
           ·intro w d;obtain⟨q0,q1⟩:=(G.out.below d (Nat.le_refl _)).cells;go_simp;try with_reducible rfl
           try simp only[Act.put,sA,sZ,sS]
           have f:=hid hHeld;refine rdH [20] ?_;refine rcH (λK j=>?_) ?_
           ·go_simp;refine(bI.out _ f.out).mono ?_;rintro e z1 ⟨v1,rfl,aH,E⟩;dsimp only
            refine j.out _ _ ?_ (λhHeld=>?_)
            ·try dsimp only
             exact f.out.trans (E.mono f.out.size)
            clear j K
            try simp only[Act.put,sA,sZ,sS]
            obtain⟨a1,d1,q,_,_,O,_⟩:=Zdfu aH;subst q;have m:=hid hHeld;clear aH E;refine rdH [23] ?_;refine rcH (λK j=>?_) ?_
            ·go_simp;refine(bL.out _ m.out).mono ?_;rintro e z2 ⟨v2,rfl,aI,o⟩;dsimp only
             refine j.out _ _ ?_ (λhHeld=>?_)
             ·try dsimp only
              exact m.out.trans (o.mono m.out.size)
             clear j K
             try simp only[Act.put,sA,sZ,sS]
             obtain⟨a2,d2,q,_,_,aa,_⟩:=Zdfu aI;subst q;have HE:=hid (rbEq us us a1 a2 d1 d2 _ (O.below o (Nat.le_refl _)) aa (by omega));have ar:=hid hHeld;clear aI O aa o m;refine rdH [24] ?_;refine rcH (λK j=>?_) ?_
             ·go_simp;refine HE.out.mono ?_;rintro e z3 ⟨rfl,n⟩;dsimp only
              refine j.out _ _ ?_ (λhHeld=>?_)
              ·try dsimp only
               exact ar.out.trans (n.mono ar.out.size)
              clear j K
              try simp only[Act.put,sA,sZ,sS]
              refine tkK 25 ?_;refine tkK 26 ?_
              try simp only[Act.put,sA,sZ,sS]
              refine wpAnyH_done (by kernel_rfl) ?_ _;have an:=hid (ac.out.trans (hHeld.mono ac.out.size));have bk:=hid (G.out.below hHeld (Nat.le_refl _));have cM:=Zdan _ p C z3 a.2 (aA.out.below an.out).gx HT.out;obtain⟨mn,cO,mk,cc,cd,ce,hM⟩:=Zdlt HT.out a.2;obtain⟨z,th,ix,O,aa,ck,hR⟩:=Zdmd HT.out a.2;rw[cc,cd]at cM;have bN:=hid ce;have aO:=hid O;have bP:=hid aa;have bQ:=hid ck;have bG:=hid cM;have HM:=hid hM;have HR:=hid hR;obtain⟨d0,d1⟩:=bk.out.cells;clear cM bE ad bH bK bI bL G ac hHeld cc cd ce O aa ck hM hR
              go_wp2_with fail
              refine bG.out.mono ?_;rintro e y3 ⟨rfl,n⟩;have P:=hid (an.out.trans (n.mono an.out.size));have aQ:=hid (bk.out.below n (Nat.le_refl _));have bn:=Zccx _ C a.2 y3 (a8.out.below P.out);rw[bN.out]at bn;have aX:=hid bn;replace d0:=aQ.out.cells.1;replace d1:=aQ.out.cells.2;clear n bG an bk bn
              go_wp2_with fail
              refine aX.out.mono ?_;rintro e y4 ⟨rfl,rfl⟩;have bo:=Zdat _ p C _ a.2 (aA.out.below P.out).gx HT.out (λr hr y hy=>by have:=(aP.out r hr).2.each y hy;omega);rw[aO.out,bP.out]at bo;have aY:=hid bo;clear bo aX
              go_wp2_with fail
              refine aY.out.mono ?_;rintro e y5 ⟨⟨vi,vo,vf,vs,rfl,hi,ho,hf,b6⟩,hb5⟩;have cn:=RuleA.ruleI ⟨vi,vo,vf,vs,rfl,hi,ho,hf,b6⟩;obtain⟨i1,i3,q⟩:=Zue hi.isStrs;obtain⟨o1,o3,q2⟩:=Zue ho.isStrs;obtain⟨f1,f3,q3⟩:=Zue hf.isStrs;obtain⟨s1,s3,q4,_⟩:=Zboi b6;subst q q2 q3 q4;obtain⟨W9,aC⟩:∃V,V=y5.alloc (.cells #[.string z.name,.slice i1 z.ins.length i3,.slice o1 z.outs.length o3,.slice f1 z.after.length f3,.slice s1 z.steps.length s3] 50):=⟨_,rfl⟩;have l:Below y5.heap.size y5 W9:=by rw[aC];exact(Below.refl _ _).alloc (Nat.le_refl _) _
              have ci:W9.heap[y5.heap.size]? =some (.cells #[.string z.name,.slice i1 z.ins.length i3,.slice o1 z.outs.length o3,.slice f1 z.after.length f3,.slice s1 z.steps.length s3] 50):=by rw[aC];exact alloc_at y5 _
              have bq:=hb5.trans (l.mono hb5.size);have aj:=hid (P.out.trans (bq.mono P.out.size));have aZ:=hid (aQ.out.below bq (Nat.le_refl _));have bR:=hid (cn.below l);have bg:=hid ci;have bm:=Zccu _ C a.2 W9 (a8.out.below aj.out);rw[bQ.out]at bm;have ax:=hid bm;clear d0 d1;obtain⟨d0,d1⟩:=aZ.out.cells;clear hi ho hf b6 hb5 aY cn l ci bq bm P aQ;rw[aC]at d0 d1
              go_wp2_with fail
              clear d0 d1;rw[<-aC];clear aC;refine ax.out.mono ?_;rintro e y6 ⟨rfl,rfl⟩;obtain⟨V9,D⟩:∃V,V=y6.drew:=⟨_,rfl⟩;have l:Below y6.heap.size y6 V9:=by rw[D];exact(Below.refl _ _).drew
              have bO:=hid (λV (W:Below V9.heap.size V9 V)=>(((l.trans (W.mono l.size)).block _ (Array.getElem?_eq_some_iff.1 bg.out).1).trans bg.out));have bS:=hid (λV (W:Below V9.heap.size V9 V)=>bR.out.below (l.trans (W.mono l.size)));have A:=hid (λV (W:Below V9.heap.size V9 V)=>aj.out.trans ((l.trans (W.mono l.size)).mono aj.out.size));clear l bg bR aj aZ ax
              go_wp2_with fail
              clear bN aO bP bQ
              rcases HM.out with⟨rfl,cy⟩|⟨k1,x1,b9,rfl,rfl,rfl⟩
              ·have cS:=cy
               rcases HR.out with⟨rfl,cB⟩|⟨T,x2,aK,rfl,rfl,rfl⟩
               ·clear HR
                refine wp_region_held_drew (S:=λV=>Below V9.heap.size V9 V) (by kernel_rfl) ?_ (λhHeld=>?_)
                ·rw[<-D];exact Below.refl _ _
                rw[<-D]at hHeld⊢;clear D;refine tkK 0 ?_;refine tkK 1 ?_
                try simp only[Act.put,sA,sZ,sS]
                refine tkH 2 (v:= .bool false) ?_ ?_
                ·intro w d;first|(go_simp;done)|(go_simp;simp;done)|(go_simp;simp;omega)
                try simp only[Act.put,sA,sZ,sS]
                refine tkH 3 (v:= .bool false) ?_ ?_
                ·intro w d;first|(go_simp;done)|(go_simp;simp;done)|(go_simp;simp;omega)
                try simp only[Act.put,sA,sZ,sS]
                refine tkK 4 ?_;refine tkK 5 ?_;refine tkK 6 ?_
                try simp only[Act.put,sA,sZ,sS]
                refine tuH 7 ?_
                try simp only[Act.put,sA,sZ,sS]
                refine tuH 8 ?_
                try simp only[Act.put,sA,sZ,sS]
                refine tuH 9 ?_
                try simp only[Act.put,sA,sZ,sS]
                refine tuH 10 ?_
                try simp only[Act.put,sA,sZ,sS]
                refine tuH 11 ?_
                try simp only[Act.put,sA,sZ,sS]
                refine tuH 12 ?_
                try simp only[Act.put,sA,sZ,sS]
                refine tuH 13 ?_
                try simp only[Act.put,sA,sZ,sS]
                refine tkK 14 ?_;refine tkK 15 ?_;refine tkK 16 ?_;refine tkK 17 ?_;refine tkK 18 ?_
                try simp only[Act.put,sA,sZ,sS]
                refine tkH 19 (v:= .bool false) ?_ ?_
                ·intro w d;first|(go_simp;done)|(go_simp;simp;done)|(go_simp;simp;omega)
                try simp only[Act.put,sA,sZ,sS]
                refine tkH 20 (v:= .bool false) ?_ ?_
                ·intro w d;first|(go_simp;done)|(go_simp;simp;done)|(go_simp;simp;omega)
                try simp only[Act.put,sA,sZ,sS]
                refine tkK 21 ?_;refine tkK 22 ?_;refine tkK 23 ?_;refine tkK 24 ?_
                try simp only[Act.put,sA,sZ,sS]
                refine tuH 25 ?_
                try simp only[Act.put,sA,sZ,sS]
                refine tuH 26 ?_
                try simp only[Act.put,sA,sZ,sS]
                refine tuH 27 ?_
                try simp only[Act.put,sA,sZ,sS]
                refine tuH 28 ?_
                try simp only[Act.put,sA,sZ,sS]
                refine tuH 29 ?_
                try simp only[Act.put,sA,sZ,sS]
                refine tuH 30 ?_
                try simp only[Act.put,sA,sZ,sS]
                refine tuH 31 ?_
                try simp only[Act.put,sA,sZ,sS]
                refine tuH 32 ?_
                try simp only[Act.put,sA,sZ,sS]
                refine tuH 33 ?_
                try simp only[Act.put,sA,sZ,sS]
                refine tkK 34 ?_;refine tkK 35 ?_
                try simp only[Act.put,sA,sZ,sS]
                refine wpAnyH_done (by kernel_rfl) ?_ _;have HE:=hid (A.out _ hHeld);go_wp2;go_roundw
                case rel=>exact⟨k+1,by omega,by go_num,HE.out⟩
                case measure=>simp only[intOf];omega
               ·obtain⟨g2,cr,q,_,bz,b0,b1,bu,M⟩:=Zdme (a8.out.below (A.out V9 (Below.refl _ _))) aK
                subst q;have a3:=hid (M (fc-T) (by omega) (by omega));have c2:(T:Int)<(C.length:Int):=by omega
                have c3:(T:Int)≥0:=by omega
                have c4:(0:Int)<=(T:Int):=by omega
                unfold maxLen at b1;have b8:IntKind.i64.wrap ((T:Int)+1)=((T+1:Nat):Int):=(IntWalk.i64_in _ (by omega)).trans (by omega);obtain⟨cE,b5,_,b7,_⟩:=info_parts Zsp;clear aK bu M HR;refine wp_region_held_drew (S:=λV=>Below V9.heap.size V9 V) (by kernel_rfl) ?_ (λhHeld=>?_)
                ·rw[<-D];exact Below.refl _ _
                rw[<-D]at hHeld⊢;clear D;refine tkK 0 ?_;refine tkK 1 ?_
                try simp only[Act.put,sA,sZ,sS]
                refine tkH 2 (v:= .bool false) ?_ ?_
                ·intro w d;first|(go_simp;done)|(go_simp;simp;done)|(go_simp;simp;omega)
                try simp only[Act.put,sA,sZ,sS]
                refine tkH 3 (v:= .bool false) ?_ ?_
                ·intro w d;first|(go_simp;done)|(go_simp;simp;done)|(go_simp;simp;omega)
                try simp only[Act.put,sA,sZ,sS]
                refine tkK 4 ?_;refine tkK 5 ?_;refine tkK 6 ?_
                try simp only[Act.put,sA,sZ,sS]
                refine tuH 7 ?_
                try simp only[Act.put,sA,sZ,sS]
                refine tuH 8 ?_
                try simp only[Act.put,sA,sZ,sS]
                refine tuH 9 ?_
                try simp only[Act.put,sA,sZ,sS]
                refine tuH 10 ?_
                try simp only[Act.put,sA,sZ,sS]
                refine tuH 11 ?_
                try simp only[Act.put,sA,sZ,sS]
                refine tuH 12 ?_
                try simp only[Act.put,sA,sZ,sS]
                refine tuH 13 ?_
                try simp only[Act.put,sA,sZ,sS]
                refine tkK 14 ?_;refine tkK 15 ?_;refine tkK 16 ?_;refine tkK 17 ?_;refine tkK 18 ?_
                try simp only[Act.put,sA,sZ,sS]
                refine tkH 19 (v:= .bool true) ?_ ?_
                ·intro w d;first|(go_simp;done)|(go_simp;simp;done)|(go_simp;simp;omega)
                try simp only[Act.put,sA,sZ,sS]
                refine tkH 20 (v:= .bool false) ?_ ?_
                ·intro w d;first|(go_simp;done)|(go_simp;simp;done)|(go_simp;simp;omega)
                try simp only[Act.put,sA,sZ,sS]
                refine tkK 21 ?_;refine tkK 22 ?_;refine tkK 23 ?_;refine tkK 24 ?_
                try simp only[Act.put,sA,sZ,sS]
                refine tkH 25 (v:=?_) ?_ ?_;rotate_left
                ·intro w d;obtain⟨e0,e1,e2,e3,e4,_⟩:=cells5 (bO.out _ d);go_simp;try with_reducible rfl
                try simp only[Act.put,sA,sZ,sS]
                refine tkK 27 ?_;refine tkK 28 ?_;refine tkK 29 ?_
                try simp only[Act.put,sA,sZ,sS]
                refine wpAnyH_take (i:=30) (oi:=_) (v:= .int .i64 ((T+1:Nat):Int)) (by simp only[List.getElem?_toArray];rfl) (by kernel_rfl) (by kernel_rfl) (by kernel_rfl) (by exact λ_ _ _ h=>h) (Or.inl ⟨by rfl,?_⟩) (by assumption) ?_
                ·intro w d;go_simp;try rw[b8]
                try simp only[Act.put,sA,sZ,sS]
                refine tkH 31 (v:= .slice (some ⟨g2,cr+T*5,none⟩) 1 (fc-T)) ?_ ?_
                ·intro w d;exact Zdmj (by rfl) underlying22 b5 b7 (by rfl) (by rfl) (by rfl) bz b0
                try simp only[Act.put,sA,sZ,sS]
                obtain⟨Z9,ag⟩:∃V,V9.alloc (.cells #[.string z.name,.slice i1 z.ins.length i3,.slice o1 z.outs.length o3,.slice f1 z.after.length f3,.slice s1 z.steps.length s3] 50)=V:=⟨_,rfl⟩;have aM:Z9.heap[V9.heap.size]? =some (.cells #[.string z.name,.slice i1 z.ins.length i3,.slice o1 z.outs.length o3,.slice f1 z.after.length f3,.slice s1 z.steps.length s3] 50):=by rw[<-ag];exact alloc_at V9 _
                have F:Below V9.heap.size V9 Z9:=by rw[<-ag];exact(Below.refl _ _).alloc (Nat.le_refl _) _
                have cEq:=Zdmf _ _ [z] Z9 (Zbjv (bS.out _ F) aM) (a3.out.below F);have ay:=hid cEq;have H:=hid F;clear aM F cEq;refine rdH [26] ?_;refine rcH (λK j=>?_) ?_
                ·go_simp;try rw[ag]
                 refine j.out _ _ ?_ (λhHeld=>?_)
                 ·try dsimp only
                  exact H.out
                 clear j K
                 try simp only[Act.put,sA,sZ,sS]
                 refine rdH [32] ?_;refine rcH (λK j=>?_) ?_
                 ·go_simp;refine ay.out.mono ?_;rintro e z9 ⟨rfl,l⟩;dsimp only
                  refine j.out _ _ ?_ (λhHeld=>?_)
                  ·try dsimp only
                   exact H.out.trans (l.mono H.out.size)
                  clear j K
                  try simp only[Act.put,sA,sZ,sS]
                  refine tkK 33 ?_;refine tkK 34 ?_;refine tkK 35 ?_
                  try simp only[Act.put,sA,sZ,sS]
                  refine wpAnyH_done (by kernel_rfl) ?_ _;have HE:=hid (A.out _ hHeld);go_wp2;go_roundw
                  case rel=>exact⟨k+1,by omega,by go_num,HE.out⟩
                  case measure=>simp only[intOf];omega
                 exact AllReadyH.nil
                exact AllReadyH.nil
              ·obtain⟨g1,cF,q,_,cV,cW,cZ,bY,M⟩:=Zdme (a8.out.below (A.out V9 (Below.refl _ _))) b9
               subst q;have bB:=hid bY;have da:(k1:Int)<(C.length:Int):=by omega
               have db:(k1:Int)≥0:=by omega
               have dc:(0:Int)<=(k1:Int):=by omega
               clear b9 bY M
               rcases HR.out with⟨rfl,cB⟩|⟨T,x2,aK,rfl,rfl,rfl⟩
               ·clear HR
                refine wp_region_held_drew (S:=λV=>Below V9.heap.size V9 V) (by kernel_rfl) ?_ (λhHeld=>?_)
                ·rw[<-D];exact Below.refl _ _
                rw[<-D]at hHeld⊢;clear D;refine tkK 0 ?_;refine tkK 1 ?_
                try simp only[Act.put,sA,sZ,sS]
                refine tkH 2 (v:= .bool true) ?_ ?_
                ·intro w d;first|(go_simp;done)|(go_simp;simp;done)|(go_simp;simp;omega)
                try simp only[Act.put,sA,sZ,sS]
                refine tkH 3 (v:= .bool false) ?_ ?_
                ·intro w d;first|(go_simp;done)|(go_simp;simp;done)|(go_simp;simp;omega)
                try simp only[Act.put,sA,sZ,sS]
                refine tkK 4 ?_;refine tkK 5 ?_;refine tkK 6 ?_;refine tkK 7 ?_;refine tkK 8 ?_;refine tkK 9 ?_;refine tkK 10 ?_;refine tkK 11 ?_
                try simp only[Act.put,sA,sZ,sS]
                refine tkH 12 (v:=?_) ?_ ?_;rotate_left
                ·intro w d;have c1:=bB.out _ d;go_simp;try with_reducible rfl
                try simp only[Act.put,sA,sZ,sS]
                refine tkH 13 (v:= .bool false) ?_ ?_
                ·intro w d;first|(go_simp;done)|(go_simp;simp;done)|(go_simp;simp;omega)
                try simp only[Act.put,sA,sZ,sS]
                refine tkK 14 ?_;refine tkK 15 ?_;refine tkK 16 ?_;refine tkK 17 ?_;refine tkK 18 ?_
                try simp only[Act.put,sA,sZ,sS]
                refine tkH 19 (v:= .bool false) ?_ ?_
                ·intro w d;first|(go_simp;done)|(go_simp;simp;done)|(go_simp;simp;omega)
                try simp only[Act.put,sA,sZ,sS]
                refine tkH 20 (v:= .bool false) ?_ ?_
                ·intro w d;first|(go_simp;done)|(go_simp;simp;done)|(go_simp;simp;omega)
                try simp only[Act.put,sA,sZ,sS]
                refine tkK 21 ?_;refine tkK 22 ?_;refine tkK 23 ?_;refine tkK 24 ?_
                try simp only[Act.put,sA,sZ,sS]
                refine tuH 25 ?_
                try simp only[Act.put,sA,sZ,sS]
                refine tuH 26 ?_
                try simp only[Act.put,sA,sZ,sS]
                refine tuH 27 ?_
                try simp only[Act.put,sA,sZ,sS]
                refine tuH 28 ?_
                try simp only[Act.put,sA,sZ,sS]
                refine tuH 29 ?_
                try simp only[Act.put,sA,sZ,sS]
                refine tuH 30 ?_
                try simp only[Act.put,sA,sZ,sS]
                refine tuH 31 ?_
                try simp only[Act.put,sA,sZ,sS]
                refine tuH 32 ?_
                try simp only[Act.put,sA,sZ,sS]
                refine tuH 33 ?_
                try simp only[Act.put,sA,sZ,sS]
                refine tkK 34 ?_;refine tkK 35 ?_
                try simp only[Act.put,sA,sZ,sS]
                refine wpAnyH_done (by kernel_rfl) ?_ _;have HE:=hid (A.out _ hHeld);go_wp2;go_roundw
                case rel=>exact⟨k+1,by omega,by go_num,HE.out⟩
                case measure=>simp only[intOf];omega
               ·obtain⟨g2,cr,q,_,bz,b0,b1,bu,M⟩:=Zdme (a8.out.below (A.out V9 (Below.refl _ _))) aK
                cases q
                have a3:=hid (M (fc-T) (by omega) (by omega));have c2:(T:Int)<(C.length:Int):=by omega
                have c3:(T:Int)≥0:=by omega
                have c4:(0:Int)<=(T:Int):=by omega
                unfold maxLen at b1;have b8:IntKind.i64.wrap ((T:Int)+1)=((T+1:Nat):Int):=(IntWalk.i64_in _ (by omega)).trans (by omega);obtain⟨cE,b5,_,b7,_⟩:=info_parts Zsp;clear aK bu M HR;refine wp_region_held_drew (S:=λV=>Below V9.heap.size V9 V) (by kernel_rfl) ?_ (λhHeld=>?_)
                ·rw[<-D];exact Below.refl _ _
                rw[<-D]at hHeld⊢;clear D;refine tkK 0 ?_;refine tkK 1 ?_
                try simp only[Act.put,sA,sZ,sS]
                refine tkH 2 (v:= .bool true) ?_ ?_
                ·intro w d;first|(go_simp;done)|(go_simp;simp;done)|(go_simp;simp;omega)
                try simp only[Act.put,sA,sZ,sS]
                refine tkH 3 (v:= .bool false) ?_ ?_
                ·intro w d;first|(go_simp;done)|(go_simp;simp;done)|(go_simp;simp;omega)
                try simp only[Act.put,sA,sZ,sS]
                refine tkK 4 ?_;refine tkK 5 ?_;refine tkK 6 ?_;refine tkK 7 ?_;refine tkK 8 ?_;refine tkK 9 ?_;refine tkK 10 ?_;refine tkK 11 ?_
                try simp only[Act.put,sA,sZ,sS]
                refine tkH 12 (v:=?_) ?_ ?_;rotate_left
                ·intro w d;have c1:=bB.out _ d;go_simp;try with_reducible rfl
                try simp only[Act.put,sA,sZ,sS]
                refine tkH 13 (v:= .bool false) ?_ ?_
                ·intro w d;first|(go_simp;done)|(go_simp;simp;done)|(go_simp;simp;omega)
                try simp only[Act.put,sA,sZ,sS]
                refine tkK 14 ?_;refine tkK 15 ?_;refine tkK 16 ?_;refine tkK 17 ?_;refine tkK 18 ?_
                try simp only[Act.put,sA,sZ,sS]
                refine tkH 19 (v:= .bool true) ?_ ?_
                ·intro w d;first|(go_simp;done)|(go_simp;simp;done)|(go_simp;simp;omega)
                try simp only[Act.put,sA,sZ,sS]
                refine tkH 20 (v:= .bool false) ?_ ?_
                ·intro w d;first|(go_simp;done)|(go_simp;simp;done)|(go_simp;simp;omega)
                try simp only[Act.put,sA,sZ,sS]
                refine tkK 21 ?_;refine tkK 22 ?_;refine tkK 23 ?_;refine tkK 24 ?_
                try simp only[Act.put,sA,sZ,sS]
                refine tkH 25 (v:=?_) ?_ ?_;rotate_left
                ·intro w d;obtain⟨e0,e1,e2,e3,e4,_⟩:=cells5 (bO.out _ d);go_simp;try with_reducible rfl
                try simp only[Act.put,sA,sZ,sS]
                refine tkK 27 ?_;refine tkK 28 ?_;refine tkK 29 ?_
                try simp only[Act.put,sA,sZ,sS]
                refine wpAnyH_take (i:=30) (oi:=_) (v:= .int .i64 ((T+1:Nat):Int)) (by simp only[List.getElem?_toArray];rfl) (by kernel_rfl) (by kernel_rfl) (by kernel_rfl) (by exact λ_ _ _ h=>h) (Or.inl ⟨by rfl,?_⟩) (by assumption) ?_
                ·intro w d;go_simp;try rw[b8]
                try simp only[Act.put,sA,sZ,sS]
                refine tkH 31 (v:= .slice (some ⟨g1,cF+T*5,none⟩) 1 (fc-T)) ?_ ?_
                ·intro w d;exact Zdmj (by rfl) underlying22 b5 b7 (by rfl) (by rfl) (by rfl) bz b0
                try simp only[Act.put,sA,sZ,sS]
                obtain⟨Z9,ag⟩:∃V,V9.alloc (.cells #[.string z.name,.slice i1 z.ins.length i3,.slice o1 z.outs.length o3,.slice f1 z.after.length f3,.slice s1 z.steps.length s3] 50)=V:=⟨_,rfl⟩;have aM:Z9.heap[V9.heap.size]? =some (.cells #[.string z.name,.slice i1 z.ins.length i3,.slice o1 z.outs.length o3,.slice f1 z.after.length f3,.slice s1 z.steps.length s3] 50):=by rw[<-ag];exact alloc_at V9 _
                have F:Below V9.heap.size V9 Z9:=by rw[<-ag];exact(Below.refl _ _).alloc (Nat.le_refl _) _
                have cEq:=Zdmf _ _ [z] Z9 (Zbjv (bS.out _ F) aM) (a3.out.below F);have ay:=hid cEq;have H:=hid F;clear aM F cEq;refine rdH [26] ?_;refine rcH (λK j=>?_) ?_
                ·go_simp;try rw[ag]
                 refine j.out _ _ ?_ (λhHeld=>?_)
                 ·try dsimp only
                  exact H.out
                 clear j K
                 try simp only[Act.put,sA,sZ,sS]
                 refine rdH [32] ?_;refine rcH (λK j=>?_) ?_
                 ·go_simp;refine ay.out.mono ?_;rintro e z9 ⟨rfl,l⟩;dsimp only
                  refine j.out _ _ ?_ (λhHeld=>?_)
                  ·try dsimp only
                   exact H.out.trans (l.mono H.out.size)
                  clear j K
                  try simp only[Act.put,sA,sZ,sS]
                  refine tkK 33 ?_;refine tkK 34 ?_;refine tkK 35 ?_
                  try simp only[Act.put,sA,sZ,sS]
                  refine wpAnyH_done (by kernel_rfl) ?_ _;have HE:=hid (A.out _ hHeld);go_wp2;go_roundw
                  case rel=>exact⟨k+1,by omega,by go_num,HE.out⟩
                  case measure=>simp only[intOf];omega
                 exact AllReadyH.nil
                exact AllReadyH.nil
             exact AllReadyH.nil
            exact AllReadyH.nil
           exact AllReadyH.nil
          exact AllReadyH.nil
         exact AllReadyH.nil
        exact AllReadyH.nil
       exact AllReadyH.nil
      exact AllReadyH.nil
     ·obtain rfl:k=ls.length:=by omega
      have c0:¬(ls.length:Int)<(ls.length:Int):=by omega
      have HE:=hid (aA.out.b.trans (av.out.mono aA.out.b.size));go_wp2;go_ret;exact⟨rfl,HE.out⟩
  exact AllReadyH.nil
 exact AllReadyH.nil
