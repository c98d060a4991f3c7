import Derived.Test.YtphjfaoghphleaaGreatDoorMbe
import Derived.Deep.Strs
set_option maxRecDepth 100000
set_option maxHeartbeats 16000000
namespace Go.Proofs.YtphjfaoghphleaaGreatDoor
open Go.Lib (hid)
open Go.Proofs.Tryz Go.RowKit Go.Shelf
theorem Zcyc:Zbvn []=0:=by
 have a:OkTog []:=⟨by simp,by simp,by simp,by simp,by simp,by simp⟩;rw[Zbvr a,if_pos];unfold Zbng;simp[Zot,fcL]
structure FinP (ys out:List RuleS):Prop where
 code:Zbvn out=0
 few:out.length<=14
 mem:∀y∈out,y∈ys
theorem FinP.tog {ys out:List RuleS} (h:FinP ys out):OkTog out:=(Zbvs.1 h.code).1
theorem Zdar {a b c:World} (h:a.grownBy b none) (k:b.grownBy c none):a.grownBy c none:=
 ⟨k.os.trans h.os,k.tape.trans h.tape,k.output.trans h.output,Nat.le_trans h.size k.size,λi d e=>(k.block i (Nat.lt_of_lt_of_le d h.size) e).trans (h.block i d e)⟩
theorem Zdaq {a b:World} (h:a.grownBy b none):Below a.heap.size a b:=⟨h.os,h.tape,h.output,h.size,λk c=>h.block k c (by simp)⟩
theorem Zcxf {a b c:World} {row:Option Nat} (h:a.grownBy b none) (k:b.grownBy c row) (f:∀x,row=some x->a.heap.size<=x):a.grownBy c none:=
 ⟨k.os.trans h.os,k.tape.trans h.tape,k.output.trans h.output,Nat.le_trans h.size k.size,λi d _=>(k.block i (Nat.lt_of_lt_of_le d h.size) (λe=>by have:=f i e.symm;omega)).trans (h.block i d (by simp))⟩
theorem Zdhx {Av:Nat->Prop} {w:World} {v:Value} {xs:List RuleS} (h:RulesA Av w v xs) {k:Nat} {x:RuleS} (hx:xs[k]? =some x):
  ∃g o cap n t r y s z l m,v = .slice (some ⟨g,o,none⟩) xs.length cap/\g<w.heap.size/\RuleA Av w [.string x.name,.slice n x.ins.length t,.slice r x.outs.length y,.slice s x.after.length z,.slice l x.steps.length m] x/\∀w',Below w.heap.size w w'->
   w'.cell? ⟨g,o+k*5,none⟩=some (.string x.name)/\w'.cell? ⟨g,o+k*5+1,none⟩=some (.slice n x.ins.length t)/\w'.cell? ⟨g,o+k*5+2,none⟩=some (.slice r x.outs.length y)/\w'.cell? ⟨g,o+k*5+3,none⟩=some (.slice s x.after.length z)/\w'.cell? ⟨g,o+k*5+4,none⟩=some (.slice l x.steps.length m):=by
 obtain⟨j,⟨⟨a,c,rfl,_,_,A⟩,_⟩,f⟩:=h;have D:k<j.length:=by rw[f.1];exact(List.getElem?_eq_some_iff.1 hx).1
 have B:=f.2 k _ x (List.getElem?_eq_getElem D) hx;obtain⟨b,o,rfl,F,J⟩:=A (by rintro rfl;simp at D);obtain⟨U,V,T,S,e,G,A,H,I⟩:=id B;obtain⟨n,t,M⟩:=Zue G.isStrs;obtain⟨r,y,O⟩:=Zue A.isStrs;obtain⟨s,z,P⟩:=Zue H.isStrs;obtain⟨l,m,Q⟩:∃a c,S = .slice a x.steps.length c:=by
  obtain⟨R,E,C⟩:=I;obtain⟨l,m,q,_⟩:=E.1;exact⟨l,m,by rw[q,C.1]⟩
 subst M O P Q;rw[e]at B;refine⟨b,o,c,n,t,r,y,s,z,l,m,by rw[f.1],F,B,λw' L=>?_⟩;have d:∀(i:Nat) u,j[k][i]? =some u->w'.cell? ⟨b,o+k*5+i,none⟩=some u:=λi u K=>(L.cell (p:=⟨b,o+k*5+i,none⟩) F).trans (J k _ (List.getElem?_eq_getElem D) i u K)
 rw[e]at d;exact⟨d 0 _ rfl,d 1 _ rfl,d 2 _ rfl,d 3 _ rfl,d 4 _ rfl⟩
theorem Zdhy {Av:Nat->Prop} {w:World} {g:Nat} {x:RuleS} {u1 u2 u3 u4:Value} (d:w.heap[g]? =some (.cells #[.string x.name,u1,u2,u3,u4] 50)) (k:RuleA Av w [.string x.name,u1,u2,u3,u4] x) (h:¬Av g):
  RulesA Av w (.slice (some ⟨g,0,none⟩) 1 1) [x]:=by
 refine⟨[[.string x.name,u1,u2,u3,u4]],⟨⟨some ⟨g,0,none⟩,1,rfl,by simp,by unfold maxLen;omega,λ_=>⟨g,0,rfl,(Array.getElem?_eq_some_iff.1 d).1,λj r c i u a=>?_⟩⟩,λb e=>?_⟩,⟨rfl,λj r y c f=>?_⟩⟩
 ·match j,c with
  | 0,c=>
   simp only[List.getElem?_cons_zero,Option.some.injEq]at c;subst c
   match i,a with
   | 0,a=>simp at a;subst a;simp[World.cell?,d]
   | 1,a=>simp at a;subst a;simp[World.cell?,d]
   | 2,a=>simp at a;subst a;simp[World.cell?,d]
   | 3,a=>simp at a;subst a;simp[World.cell?,d]
   | 4,a=>simp at a;subst a;simp[World.cell?,d]
   | n+5,a=>simp at a
  | n+1,c=>simp at c
 ·cases e
  exact⟨(Array.getElem?_eq_some_iff.1 d).1,h⟩
 ·match j,c,f with
  | 0,c,f=>
   simp only[List.getElem?_cons_zero,Option.some.injEq]at c f;subst c;subst f;exact k
  | n+1,c,_=>simp at c
theorem Zdhz {V g W:World} {out:List RuleS} {x:RuleS} {a:List (List Value)} {i n:Value} {c:List (List Value)} (f:AllA (RuleA (λb=>V.heap.size<=b) V) a out) (j:V.grownBy g none)
  (l:g.ownsRow V.heap.size 50 5 i a.length a.flatten) (d:AllA (RuleA (λb=>i.ownBlock=some b) g) c [x]) (k:g.grownBy W i.ownBlock) (m:W.ownsRow V.heap.size 50 5 n (out.length + [x].length) (a.flatten++c.flatten)):RulesI W n (out ++ [x]):=by
 have o:AllA (RuleA (λb=>i.ownBlock=some b) V) a out:=f.imp λr y h=>h.mono λb _ e=>(World.ownsRow.lt l b e).1
 exact(Zbxt o d j k m (λb e=>e)).rulesI
theorem Zczm (v:Value) (xs:List RuleS) (w:World) (h:RulesI w v xs) (hs:∀x∈xs,SmallR x 1048576) (aZ:∀x∈Zbvw 42 xs,SmallR x 1048576/\ShortR x):
  Calls prog 9 #[v] w λe w'=>∃rs,Zbz w rs e w'/\FinP (Zbvw 42 xs) rs:=by
 have mixed:prog.follows .mixedOrders=true:=by kernel_rfl
 have HC:=hid (Zbwl v xs w h hs);obtain⟨ys,bc⟩:∃ys,Zbvw 42 xs=ys:=⟨_,rfl⟩;rw[bc]at HC aZ⊢;have b8:ys.length<=42:=by rw[<-bc,Zbvy];exact Nat.min_le_left _ _
 have be:=hid aZ;obtain⟨sa,sc,hv,b6,b7⟩:=Zbjn h;subst hv;clear h hs aZ bc
 go_enter func9,ntmps9
 go_wp2_with fail
 refine HC.out.mono ?_;rintro e w1 ⟨ra,rn,rc,rfl,aw,aT⟩;obtain⟨_,_,q⟩:=aw.len
 cases q
 have hA:RulesA (λb=>b<w.heap.size\/w1.heap.size<=b) w1 (.slice ra ys.length rc) ys:=aw.rulesA.mono λb hb ha=>by
  rcases ha with ha|ha
  ·exact ha
  ·omega
 have bo:Hid (∀(k:Nat) x,ys[k]? =some x->_):=hid (λk x hx=>Zdhx hA (k:=k) (x:=x) hx);have bn:=hid aT;have ax:=aT.size;have bp:=hid (Zbxk w.heap.size w1);clear HC aw hA aT
 go_wp2_with fail
 go_loopw [3,11] (λov iv wr=>∃(k:Nat) (out:List RuleS),k<=ys.length/\iv = .int .i64 (k:Int)/\OwnRules w.heap.size wr ov out/\FinP ys out/\(∀b,ov.ownBlock=some b->w1.heap.size<=b)/\Below w1.heap.size w1 wr) (λ_ iv _=>ys.length-(intOf iv).toNat)
 case atStart=>exact⟨0,[],Nat.zero_le _,rfl,bp.out,⟨Zcyc,by simp,by simp⟩,λb e=>(by cases e),Below.refl _ _⟩
 case round=>
  obtain⟨k,out,hk,rfl,ar,aE,bk,bj⟩:=hrel;have C:=hid aE;have HO:=hid ar;have z:=hid bk;have HB:=hid bj;obtain⟨oa,oc,q⟩:=ar.len;subst q;clear ar bk bj aE
  by_cases bv:k<ys.length
  ·obtain⟨x,hx⟩:∃x,ys[k]? =some x:=⟨ys[k],List.getElem?_eq_getElem bv⟩
   have bu:(k:Int)<(ys.length:Int):=by omega
   have bz:(0:Int)<=(k:Int):=by omega
   obtain⟨gr,ro,bx,R,X,T,Y,U,Z,W,c4,hv,bt,hR,hc⟩:=bo.out k x hx;obtain⟨d0,d1,d2,d3,d4⟩:=hc _ HB.out
   cases hv
   have b5:out.length<=14:=C.out.few;have bb:=List.mem_of_getElem? hx;have aF:∀y∈out ++ [x],SmallR y 1048576/\ShortR y:=λy B=>by
    rcases List.mem_append.1 B with B|B
    ·exact be.out y (C.out.mem y B)
    ·simp at B
     subst B;exact be.out _ bb
   obtain⟨V1,am⟩:∃V,V=(wr.alloc (.cells #[.string x.name,.slice R x.ins.length X,.slice T x.outs.length Y,.slice U x.after.length Z,.slice W x.steps.length c4] 50)).drew:=⟨_,rfl⟩;have aC:Below wr.heap.size wr V1:=by rw[am];exact((Below.refl _ _).alloc (Nat.le_refl _) _).drew
   have A:V1.heap[wr.heap.size]? =some (.cells #[.string x.name,.slice R x.ins.length X,.slice T x.outs.length Y,.slice U x.after.length Z,.slice W x.steps.length c4] 50):=by rw[am];exact alloc_at wr _
   have aS:RuleA (λb=>b<w.heap.size\/w1.heap.size<=b) V1 [.string x.name,.slice R x.ins.length X,.slice T x.outs.length Y,.slice U x.after.length Z,.slice W x.steps.length c4] x:=
    (hR.keep (Zpv HB.out)).keep (Zpv aC)
   have bw:=HB.out.size;have bh:RuleA (λb=>V1.heap.size<=b) V1 [.string x.name,.slice R x.ins.length X,.slice T x.outs.length Y,.slice U x.after.length Z,.slice W x.steps.length c4] x:=aS.mono λb hb ha=>by omega
   have aR:=HO.out.below aC;have bg:RulesA (λb=>V1.heap.size<=b) V1 (.slice oa out.length oc) out:=aR.rulesA.mono λb hb ha=>by omega
   have G:=hid A;have a8:=hid aS;have aA:=hid bh;have a7:=hid aR;have a6:=hid bg;have bf:=hid bb;have Q:=hid aF;have F:=hid aC;clear hc hR aC A aS bh aR bg aF hx bb bt
   go_wp2_with fail
   refine wp_region_held_drew (S:=λV=>Below V1.heap.size V1 V) (by kernel_rfl) ?_ (λhHeld=>?_)
   ·rw[<-am];exact Below.refl _ _
   rw[<-am]at hHeld⊢;clear am;refine tkK 0 ?_
   try simp only[Act.put,sA,sZ,sS]
   refine tkH 2 (v:=?_) ?_ ?_;rotate_left
   ·intro w br;have A:=(br.block _ (Array.getElem?_eq_some_iff.1 G.out).1).trans G.out;obtain⟨⟨b0,b1,b2,b3,b4⟩,_⟩:=Zdhi A;go_simp;try with_reducible rfl
   try simp only[Act.put,sA,sZ,sS]
   obtain⟨bm,v1,A1,ac,j,E,ab,a⟩:=Zbxu (ty:=22) (v0:= .slice none 0 0) (World.ownsRow_nil V1 V1.heap.size 50 5) a6.out (Nat.le_refl _) (by omega);rw[List.nil_append,Nat.zero_add]at j;have a9:=hid ac;obtain⟨Z1,aa⟩:∃V,V=V1.alloc (.cells #[.string x.name,.slice R x.ins.length X,.slice T x.outs.length Y,.slice U x.after.length Z,.slice W x.steps.length c4] 50):=⟨_,rfl⟩;refine rdH [1,3] ?_;refine rcH (λK m=>?_) ?_
   ·clear aa;refine Zbxy rfl _ _ _ rfl rfl rfl a9.out ?_
    refine m.out _ _ ?_ (λhHeld=>?_)
    ·try dsimp only
     exact Zdaq E
    clear m K
    try simp only[Act.put,sA,sZ,sS]
    obtain⟨A2,aB⟩:∃V,V=A1.alloc (.cells #[.string x.name,.slice R x.ins.length X,.slice T x.outs.length Y,.slice U x.after.length Z,.slice W x.steps.length c4] 50):=⟨_,rfl⟩;have J:A1.grownBy A2 none:=by rw[aB];exact⟨rfl,rfl,rfl,by simp,λk hk _=>Below.heap_alloc _ _ _ hk⟩
    have ad:A2.heap[A1.heap.size]? =some (.cells #[.string x.name,.slice R x.ins.length X,.slice T x.outs.length Y,.slice U x.after.length Z,.slice W x.steps.length c4] 50):=by rw[aB];exact alloc_at A1 _
    obtain⟨gx,aW⟩:∃g,A1.heap.size=g:=⟨_,rfl⟩;rw[aW]at ad;have f:V1.grownBy A2 none:=Zdar E J;have ao:=f;have ay:=Nat.le_refl V1.heap.size;have ap:¬v1.ownBlock=some gx:=λe=>by have:=(World.ownsRow.lt j gx e).2;omega
    replace j:=World.ownsRow.kept j J (by cases v1.ownBlock<;>simp);have O:=hid ao;have ah:=hid ay;have D:=hid j;have ag:=hid ab;have af:=hid f;have aQ:=hid ad;have aL:=hid ap;have M:=hid a;clear j ab a E J ad ap ac f ao ay;refine rdH [3] ?_;refine rcH (λK m=>?_) ?_
    ·go_simp;rw[<-aB];try rw[aW];clear aB aW
     refine m.out _ _ ?_ (λhHeld=>?_)
     ·try dsimp only
      exact Zdaq O.out
     clear m K
     try simp only[Act.put,sA,sZ,sS]
     have L:RulesA (λb=>v1.ownBlock=some b) A2 (.slice (some ⟨gx,0,none⟩) 1 1) [x]:=Zdhy aQ.out (((aA.out.mono (Av':=λb=>V1.heap.size<=b) λb _ h=>h).keep (Zpx O.out (λk e=>by cases e))).mono λb _ e=>Nat.le_trans ah.out (World.ownsRow.lt D.out b e).1) aL.out;obtain⟨bd,v2,A3,au,aq,f,aX,o⟩:=Zbxu (ty:=22) D.out L (af.out.size) (by have:=ag.out;simp only[List.length_cons,List.length_nil];omega);have ak:RulesI A3 v2 (out ++ [x]):=Zdhz M.out af.out (by rw[ag.out];exact D.out) o f aq;have H:Below V1.heap.size V1 A3:=Zfj (Below.refl _ _) (Zcxf O.out f (λb e=>Nat.le_trans ah.out (World.ownsRow.lt D.out b e).1)) (Nat.le_refl _);have p:=Zccs v2 (out ++ [x]) A3 ak (by rw[List.length_append];simp only[List.length_cons,List.length_nil];omega) Q.out;have CC:=hid p;have l:=hid H;have aN:=hid au;clear L au aq f aX o ak H p;refine rdH [4] ?_;refine rcH (λK m=>?_) ?_
     ·refine Zbxy rfl _ _ _ rfl rfl rfl aN.out ?_
      refine m.out _ _ ?_ (λhHeld=>?_)
      ·try dsimp only
       exact l.out
      clear m K
      try simp only[Act.put,sA,sZ,sS]
      refine rdH [5] ?_;refine rcH (λK m=>?_) ?_
      ·go_simp;refine CC.out.mono ?_;rintro e W4 ⟨⟨c,s,rfl,n⟩,aU⟩;dsimp only
       refine m.out _ _ ?_ (λhHeld=>?_)
       ·try dsimp only
        exact l.out.trans (aU.mono l.out.size)
       clear m K
       try simp only[Act.put,sA,sZ,sS]
       refine tkK 6 ?_;refine tkK 7 ?_;refine tkK 8 ?_;refine tkK 9 ?_;refine tkK 10 ?_
       try simp only[Act.put,sA,sZ,sS]
       refine wpAnyH_done (by kernel_rfl) ?_ _;have i:=hHeld;have A:=(i.block _ (Array.getElem?_eq_some_iff.1 G.out).1).trans G.out;have aj:=a7.out.below i;have al:=a8.out.keep (Zpv i);have az:=F.out.size;have a0:=i.size;have an:Below w1.heap.size w1 W4:=HB.out.trans ((F.out.trans (i.mono F.out.size)).mono HB.out.size);have ae:=hid A;have P:=hid aj;have aP:=hid al;have d:=hid an;clear A aj al az a0 an i G a7 a8 aA a6 Q F HO
       by_cases h0:c=0
       ·subst h0
        have aI:=hid (Zdke n);clear n
        by_cases bq:out.length<14
        ·have ai:(out.length:Int)<14:=by omega
         obtain⟨⟨b0,b1,b2,b3,b4⟩,_⟩:=Zdhi ae.out;have av:RuleA (AvOf w.heap.size (.slice oa out.length oc)) W4 [.string x.name,.slice R x.ins.length X,.slice T x.outs.length Y,.slice U x.after.length Z,.slice W x.steps.length c4] x:=aP.out.mono λb _ e=>by
          rcases e with e|e
          ·exact .inl e
          ·exact .inr (z.out b e)
         have aO:=hid av;have ba:w.heap.size<=W4.heap.size:=Nat.le_trans ax d.out.size;clear av
         go_wp2_with (at_builtin;refine Zbuh (by rfl) _ _ (by rfl) w.heap.size _ out x R T U W _ X _ Y _ Z _ c4 (by rfl) P.out ba (by omega) aO.out _ (by rfl) (by simp) ?_)
         intro v' w6 u aV I t;have aM:=hid u;have aJ:=hid (show FinP ys (out ++ [x])from⟨aI.out,by rw[List.length_append];simp;omega,λy B=>by
          rcases List.mem_append.1 B with B|B
          ·exact C.out.mem y B
          ·simp at B;subst B;exact bf.out⟩)
         have aH:=hid (d.out.trans ((I.below d.out.size λb hb e=>by have:=z.out b e;omega)));have aK:=hid (show ∀b,v'.ownBlock=some b->w1.heap.size<=b from λb e=>by
          rcases t b e with h|h
          ·exact z.out b h
          ·have:=d.out.size;omega)
         clear u aV I t;go_wp2;go_roundw
         case rel=>exact⟨k+1,_,by omega,by go_num,aM.out,aJ.out,aK.out,aH.out⟩
         case measure=>simp only[intOf];omega
        ·have ai:¬(out.length:Int)<14:=by omega
         go_wp2;go_roundw
         case rel=>exact⟨k+1,out,by omega,by go_num,P.out,C.out,z.out,d.out⟩
         case measure=>simp only[intOf];omega
       ·clear n
        go_wp2;go_roundw
        case rel=>exact⟨k+1,out,by omega,by go_num,P.out,C.out,z.out,d.out⟩
        case measure=>simp only[intOf];omega
      exact AllReadyH.nil
     exact AllReadyH.nil
    exact AllReadyH.nil
   refine rcH (λK m=>?_) ?_
   ·go_simp;rw[<-aa]
    refine m.out _ _ ?_ (λhHeld=>?_)
    ·try dsimp only
     rw[aa];exact(Below.refl _ _).alloc (Nat.le_refl _) _
    clear m K
    try simp only[Act.put,sA,sZ,sS]
    have J:V1.grownBy Z1 none:=by rw[aa];exact⟨rfl,rfl,rfl,by simp,λk hk _=>Below.heap_alloc _ _ _ hk⟩
    have aY:V1.heap.size<=Z1.heap.size:=J.size;have a5:Z1.heap[V1.heap.size]? =some (.cells #[.string x.name,.slice R x.ins.length X,.slice T x.outs.length Y,.slice U x.after.length Z,.slice W x.steps.length c4] 50):=by rw[aa];exact alloc_at V1 _
    have aD:RulesA (λb=>V1.heap.size<=b) Z1 (.slice oa out.length oc) out:=a6.out.keep (Zpx J (λk e=>by cases e));clear aa ac j E ab a a9;obtain⟨bm,v1,A2,ac,j,E,ab,a⟩:=Zbxu (ty:=22) (v0:= .slice none 0 0) (World.ownsRow_nil Z1 Z1.heap.size 50 5) aD (Nat.le_refl _) (by omega);rw[List.nil_append,Nat.zero_add]at j;have bl:=(Array.getElem?_eq_some_iff.1 a5).1;have ap:¬v1.ownBlock=some V1.heap.size:=λe=>by have:=(World.ownsRow.lt j _ e).1;omega
    have ad:A2.heap[V1.heap.size]? =some (.cells #[.string x.name,.slice R x.ins.length X,.slice T x.outs.length Y,.slice U x.after.length Z,.slice W x.steps.length c4] 50):=(E.block _ bl (by simp[Value.ownBlock])).trans a5;have ao:V1.grownBy A2 none:=Zdar J E;have f:=E;have ay:=aY;replace a:=a.imp λr y h=>RuleA.mono (Av':=λb=>Z1.heap.size<=b) h λb _ e=>Nat.le_trans aY e
    have O:=hid ao;have ah:=hid ay;have D:=hid j;have ag:=hid ab;have af:=hid f;have aQ:=hid ad;have aL:=hid ap;have M:=hid a;have a9:=hid ac;clear j ab a E J aY a5 ad ap f aD bl ac ao ay;refine rdH [1] ?_;refine rcH (λK m=>?_) ?_
    ·refine Zbxy rfl _ _ _ rfl rfl rfl a9.out ?_
     refine m.out _ _ ?_ (λhHeld=>?_)
     ·try dsimp only
      exact Zdaq O.out
     clear m K
     try simp only[Act.put,sA,sZ,sS]
     have L:RulesA (λb=>v1.ownBlock=some b) A2 (.slice (some ⟨V1.heap.size,0,none⟩) 1 1) [x]:=Zdhy aQ.out (((aA.out.mono (Av':=λb=>V1.heap.size<=b) λb _ h=>h).keep (Zpx O.out (λk e=>by cases e))).mono λb _ e=>Nat.le_trans ah.out (World.ownsRow.lt D.out b e).1) aL.out;obtain⟨bd,v2,A3,au,aq,f,aX,o⟩:=Zbxu (ty:=22) D.out L (af.out.size) (by have:=ag.out;simp only[List.length_cons,List.length_nil];omega);have ak:RulesI A3 v2 (out ++ [x]):=Zdhz M.out af.out (by rw[ag.out];exact D.out) o f aq;have H:Below V1.heap.size V1 A3:=Zfj (Below.refl _ _) (Zcxf O.out f (λb e=>Nat.le_trans ah.out (World.ownsRow.lt D.out b e).1)) (Nat.le_refl _);have p:=Zccs v2 (out ++ [x]) A3 ak (by rw[List.length_append];simp only[List.length_cons,List.length_nil];omega) Q.out;have CC:=hid p;have l:=hid H;have aN:=hid au;clear L au aq f aX o ak H p;refine rdH [4] ?_;refine rcH (λK m=>?_) ?_
     ·refine Zbxy rfl _ _ _ rfl rfl rfl aN.out ?_
      refine m.out _ _ ?_ (λhHeld=>?_)
      ·try dsimp only
       exact l.out
      clear m K
      try simp only[Act.put,sA,sZ,sS]
      refine rdH [5] ?_;refine rcH (λK m=>?_) ?_
      ·go_simp;refine CC.out.mono ?_;rintro e W4 ⟨⟨c,s,rfl,n⟩,aU⟩;dsimp only
       refine m.out _ _ ?_ (λhHeld=>?_)
       ·try dsimp only
        exact l.out.trans (aU.mono l.out.size)
       clear m K
       try simp only[Act.put,sA,sZ,sS]
       refine tkK 6 ?_;refine tkK 7 ?_;refine tkK 8 ?_;refine tkK 9 ?_;refine tkK 10 ?_
       try simp only[Act.put,sA,sZ,sS]
       refine wpAnyH_done (by kernel_rfl) ?_ _;have i:=hHeld;have A:=(i.block _ (Array.getElem?_eq_some_iff.1 G.out).1).trans G.out;have aj:=a7.out.below i;have al:=a8.out.keep (Zpv i);have az:=F.out.size;have a0:=i.size;have an:Below w1.heap.size w1 W4:=HB.out.trans ((F.out.trans (i.mono F.out.size)).mono HB.out.size);have ae:=hid A;have P:=hid aj;have aP:=hid al;have d:=hid an;clear A aj al az a0 an i G a7 a8 aA a6 Q F HO
       by_cases h0:c=0
       ·subst h0
        have aI:=hid (Zdke n);clear n
        by_cases bq:out.length<14
        ·have ai:(out.length:Int)<14:=by omega
         obtain⟨⟨b0,b1,b2,b3,b4⟩,_⟩:=Zdhi ae.out;have av:RuleA (AvOf w.heap.size (.slice oa out.length oc)) W4 [.string x.name,.slice R x.ins.length X,.slice T x.outs.length Y,.slice U x.after.length Z,.slice W x.steps.length c4] x:=aP.out.mono λb _ e=>by
          rcases e with e|e
          ·exact .inl e
          ·exact .inr (z.out b e)
         have aO:=hid av;have ba:w.heap.size<=W4.heap.size:=Nat.le_trans ax d.out.size;clear av
         go_wp2_with (at_builtin;refine Zbuh (by rfl) _ _ (by rfl) w.heap.size _ out x R T U W _ X _ Y _ Z _ c4 (by rfl) P.out ba (by omega) aO.out _ (by rfl) (by simp) ?_)
         intro v' w6 u aV I t;have aM:=hid u;have aJ:=hid (show FinP ys (out ++ [x])from⟨aI.out,by rw[List.length_append];simp;omega,λy B=>by
          rcases List.mem_append.1 B with B|B
          ·exact C.out.mem y B
          ·simp at B;subst B;exact bf.out⟩)
         have aH:=hid (d.out.trans ((I.below d.out.size λb hb e=>by have:=z.out b e;omega)));have aK:=hid (show ∀b,v'.ownBlock=some b->w1.heap.size<=b from λb e=>by
          rcases t b e with h|h
          ·exact z.out b h
          ·have:=d.out.size;omega)
         clear u aV I t;go_wp2;go_roundw
         case rel=>exact⟨k+1,_,by omega,by go_num,aM.out,aJ.out,aK.out,aH.out⟩
         case measure=>simp only[intOf];omega
        ·have ai:¬(out.length:Int)<14:=by omega
         go_wp2;go_roundw
         case rel=>exact⟨k+1,out,by omega,by go_num,P.out,C.out,z.out,d.out⟩
         case measure=>simp only[intOf];omega
       ·clear n
        go_wp2;go_roundw
        case rel=>exact⟨k+1,out,by omega,by go_num,P.out,C.out,z.out,d.out⟩
        case measure=>simp only[intOf];omega
      exact AllReadyH.nil
     exact AllReadyH.nil
    exact AllReadyH.nil
   exact AllReadyH.nil
  ·obtain rfl:k=ys.length:=by omega
   have bu:¬(ys.length:Int)<(ys.length:Int):=by omega
   have bi:Below w.heap.size w wr:=bn.out.trans (HB.out.mono ax);have d:=hid bi;clear bi;go_wp2;go_ret;exact⟨out,⟨_,_,_,rfl,HO.out,d.out⟩,C.out⟩
theorem Zbkv (x:RuleS):ShortR (cutR x):=
 ⟨by show(x.ins.take 10).length<=10;rw[List.length_take];omega,by show(x.outs.take 6).length<=6;rw[List.length_take];omega,by show(x.after.take 10).length<=10;rw[List.length_take];omega,
  by show((x.steps.take 14).map cutS).length<=14;rw[List.length_map,List.length_take];omega,λy a=>by
   obtain⟨z,b,rfl⟩:=List.mem_map.1 (show y∈(x.steps.take 14).map cutS from a);exact⟨by show(z.args.take 8).length<=8;rw[List.length_take];omega,by show(z.lits.take 3).length<=3;rw[List.length_take];omega⟩⟩
theorem Zbma {x:RuleS} {m:Nat} (h:SmallR x m):SmallR (cutR x) m:=by
 have a:∀ {l:List ByteArray} (k:Nat),SmallL l m->SmallL (l.take k) m:=λk h=>⟨by rw[List.length_take];have:=h.1;omega,λz b=>h.2 z (List.mem_of_mem_take b)⟩
 exact⟨h.name,a 10 h.ins,a 6 h.outs,a 10 h.after,by show((x.steps.take 14).map cutS).length<=m;rw[List.length_map,List.length_take];have:=h.few;omega,λy c=>by
  obtain⟨z,b,rfl⟩:=List.mem_map.1 (show y∈(x.steps.take 14).map cutS from c);have:=h.steps z (List.mem_of_mem_take b);exact⟨this.out,a 8 this.args,a 3 this.lits,this.op,this.n⟩⟩
theorem Zgo {H:Type} {d:DataW H} {l:List (DataW H)} (h:d∈l):Rows.uptoBulk d<=Rows.uptoBulkAll l:=by
 induction l with
 | nil=>cases h
 | cons x r a=>
  simp only[Rows.uptoBulkAll]
  cases List.mem_cons.1 h with
  | inl e=>subst e;omega
  | inr e=>have:=a e;omega
theorem Zgp {H:Type} (a b:List (DataW H)):Rows.uptoBulkAll a+1<=Rows.uptoBulk (.slice a b):=by
 simp only[Rows.uptoBulk];omega
open Go.ChangeShapes Go.WideShapes Go.ChangeAt Go.Deep
theorem Zgn {H:Type} (d:DataW H):1<=Rows.uptoBulk d:=by
 cases d with
 | lit l=>cases l<;>simp[Rows.uptoBulk]
 | _=>simp[Rows.uptoBulk]
theorem Zgm {H:Type}:∀l:List (DataW H),l.length<=Rows.uptoBulkAll l
 | []=>by simp[Rows.uptoBulkAll]
 | d::l=>by
  have a:=Zgn d;have b:=Zgm l;simp only[List.length_cons,Rows.uptoBulkAll];omega
section
variable {H:Type} {enc:TypeId×Value->H} {W:World} {base:Nat} {sp:Nat->Bool} {held:Bool}
theorem Zbcw {t e:TypeId} {k E:Nat} {cs:List Value} {x:DataW H×List MemPlace} {α:Type} [Inhabited α] (L:List Value->α->Prop) (z:α->Nat->Prop) (ht:prog.underlying t=some (.slice e)) (hk:prog.cellsOf e=k) (G:0<k)
  (C:∀n cs' y,cs'.length=k->DataW.trod enc prog W base sp held n e cs'=some y->∃a:α,L cs' a/\z a (Rows.uptoBulk y.1)) (I:∀a m m',z a m->m<=m'->z a m')
  (h:DataW.trod enc prog W base sp held E t cs=some x):∃v g xs,cs = [v]/\IsRow W v k g/\AllA L g xs/\xs.length<=Rows.uptoBulk x.1/\∀a∈xs,z a (Rows.uptoBulk x.1):=by
 rcases open_slice ht h with⟨s,_⟩|⟨J,len,A,m,nn,D,Pl,s,hb,hl,hm,U,hx,d⟩
 ·exact⟨.slice none 0 0,[],[],s,⟨none,0,rfl,by simp,by simp[maxLen],λh=>absurd rfl h⟩,AllA.nil _,by simp,by simp⟩
 ·rw[hk]at d
  have ab:len<=m:=by rw[U];split<;>omega
  have B:∀i,i<len->∃p:List Value×α,p.1.length=k/\(∀j,j<k->W.cell? (J.add (i*k+j))=p.1[j]?)/\L p.1 p.2/\z p.2 (Rows.uptoBulk (D i)):=by
   intro i F;obtain⟨cs',h1,h2⟩:=d i (by omega);obtain⟨_,f,q⟩:=World.cells?_some h1;obtain⟨a,M,hq⟩:=C _ _ _ f h2;refine⟨(cs',a),f,λj w=>?_,M,hq⟩;have:=q j w;rw[add_add]at this;exact this
  obtain⟨X,K⟩:=choose_lt B;have aa:Rows.uptoBulkAll ((List.range len).map D)+1<=Rows.uptoBulk x.1:=by rw[hx];exact Zgp _ _
  have O:=Zgm ((List.range len).map D);simp only[List.length_map,List.length_range]at O;refine⟨.slice (some J) len A,(List.range len).map λi=>(X i).1,(List.range len).map λi=>(X i).2,s,⟨some J,A,by simp,by simpa using hl,hm,λV=>?_⟩,⟨by simp,λj r y c Y=>?_⟩,by simp only[List.length_map,List.length_range];omega,λa M=>?_⟩
  ·have hn:0<len:=by
    rcases Nat.eq_zero_or_pos len with l|l
    ·subst l;simp at V
    ·exact l
   obtain⟨b,o,Z⟩:=J;obtain⟨S,P,_⟩:=K 0 hn;have l:=P 0 G;rw[List.getElem?_eq_getElem (by rw[S];exact G)]at l;have hs:Z=none:=by simpa[Addr.add]using World.cell?_spot l
   subst hs;refine⟨b,o,rfl,?_,λj r c i u hu=>?_⟩
   ·simpa[Addr.add]using Zie l
   ·have w:j<len:=by have:=(List.getElem?_eq_some_iff.1 c).1;simpa using this
    rw[List.getElem?_map,List.getElem?_range w]at c;simp at c;subst c;obtain⟨T,Q,_⟩:=K j w;have F:i<k:=by rw[<-T];exact(List.getElem?_eq_some_iff.1 hu).1
    have:=Q i F;rw[hu,Addr.add_lit,<-Nat.add_assoc]at this;exact this
  ·have w:j<len:=by have:=(List.getElem?_eq_some_iff.1 c).1;simpa using this
   rw[List.getElem?_map,List.getElem?_range w]at c Y;simp at c Y;subst c Y;exact(K j w).2.2.1
  ·obtain⟨i,F,rfl⟩:=List.mem_map.1 M
   have R:=List.mem_range.1 F;refine I _ _ _ (K i R).2.2.2 ?_;have:=Zgo (show D i∈(List.range len).map D from List.mem_map.2 ⟨i,F,rfl⟩);omega
theorem Zbqr {w:World} {v:Value} {xs:List ByteArray} (h:IsRow w v 1 (Zbpk xs)):IsStrs w v xs:=by
 obtain⟨a,c,g,f,i,j⟩:=h;rw[Zbpo]at f g;refine⟨a,c,g,f,i,λd=>?_⟩;obtain⟨b,o,e,l,m⟩:=j (by intro e;apply d;cases xs with
  | nil=>rfl
  | cons x xs=>simp[Zbpk]at e)
 refine⟨b,o,e,l,λk x hx=>?_⟩;have:=m k [.string x] (by unfold Zbpk;rw[List.getElem?_map,hx];rfl) 0 (.string x) rfl;simpa using this
instance:Inhabited StepS:=⟨⟨ByteArray.empty,0,[],[],0⟩⟩
instance:Inhabited RuleS:=⟨⟨ByteArray.empty,[],[],[],[]⟩⟩
theorem Zbdb {f:Nat} {p:List Value} {x:DataW H×List MemPlace} (h:DataW.trod enc prog W base sp held f 47 p=some x):∃v xs,p = [v]/\IsStrs W v xs/\SmallL xs (Rows.uptoBulk x.1):=by
 obtain⟨v,b,xs,l,i,a,g,o⟩:=Zbcw (α:=ByteArray) (λe y=>e = [.string y]) (λy m=>y.size<=m) underlying47 (k:=1) (by kernel_rfl) (by decide)
  (λn e y _ w=>by
   obtain⟨s,q,r,_⟩:=DataW.trod_string underlying9 w;refine⟨s,q,?_⟩;rw[r];simp only[Rows.uptoBulk];rw[Lib.size_eq];omega) (λ_ _ _ t u=>Nat.le_trans t u) h
 have d:b=Zbpk xs:=by
  apply List.ext_getElem?;intro j;unfold Zbpk;rw[List.getElem?_map]
  rcases Nat.lt_or_ge j xs.length with c|c
  ·have:=a.2 j (b[j]'(by rw[a.1];exact c)) xs[j] (List.getElem?_eq_getElem _) (List.getElem?_eq_getElem c)
   rw[List.getElem?_eq_getElem (by rw[a.1];exact c),List.getElem?_eq_getElem c,this];rfl
  ·rw[List.getElem?_eq_none (by rw[a.1];exact c),List.getElem?_eq_none c];rfl
 subst d;exact⟨v,xs,l,Zbqr i,g,o⟩
theorem Ztk {n:Int} (h:(Lit.int .i64 n).wf=true):Zba n:=by
 have c:=of_decide_eq_true (by simpa[Lit.wf]using h:decide (IntKind.i64.min<=n/\n<=IntKind.i64.max)=true);have a:IntKind.i64.min = -9223372036854775808:=by decide
 have b:IntKind.i64.max=9223372036854775807:=by decide
 unfold Zba;omega
theorem Zbcz {a:Nat} {c:List Value} {x:DataW H×List MemPlace} (v:c.length=5) (h:DataW.trod enc prog W base sp held a 58 c=some x):∃y:StepS,Zcc W c y/\SmallS y (Rows.uptoBulk x.1):=by
 obtain⟨J,n,_,hx,_,d,b⟩:=DataW.trod_struct underlying58 h;have r:prog.cellsOf 9=1:=by kernel_rfl
 have s:prog.cellsOf 3=1:=by kernel_rfl
 have t:prog.cellsOf 47=1:=by kernel_rfl
 match J,d,c,v with
 | [y0,y1,y2,y3,y4],_,[v0,v1,v2,v3,v4],_=>
  have l:=b 0 _ rfl;have m:=b 1 _ rfl;have o:=b 2 _ rfl;have p:=b 3 _ rfl;have q:=b 4 _ rfl;simp[r,s,t]at l m o p q;obtain⟨e,f,u,_⟩:=DataW.trod_string underlying9 l;obtain⟨E,g,K,G⟩:=DataW.trod_int underlying3 m;obtain⟨u2,A,i,w,C⟩:=Zbdb o;obtain⟨u3,B,j,z,D⟩:=Zbdb p;obtain⟨F,k,L,I⟩:=DataW.trod_int underlying3 q;simp at f g i j k;subst f g i j k;have M:Rows.uptoBulk x.1=Rows.uptoBulk y0.1+(Rows.uptoBulk y1.1+(Rows.uptoBulk y2.1+(Rows.uptoBulk y3.1+(Rows.uptoBulk y4.1+0))))+1:=by rw[hx];rfl
  have O:e.size<=Rows.uptoBulk y0.1:=by rw[u];simp only[Rows.uptoBulk];rw[Lib.size_eq];omega
  exact⟨⟨e,E,A,B,F⟩,⟨_,_,rfl,w,z⟩,⟨by show e.size<=_;omega,C.mono (by omega),D.mono (by omega),Ztk G,Ztk I⟩⟩
theorem Zbda {a:Nat} {i:List Value} {x:DataW H×List MemPlace} (h:DataW.trod enc prog W base sp held a 48 i=some x):∃v xs,i = [v]/\StepsI W v xs/\xs.length<=Rows.uptoBulk x.1/\∀y∈xs,SmallS y (Rows.uptoBulk x.1):=by
 obtain⟨v,e,xs,f,d,b,c,g⟩:=Zbcw (α:=StepS) (Zcc W) SmallS underlying48 (k:=5) (by kernel_rfl) (by decide) (λn j y o p=>Zbcz o p) (λ_ _ _ l m=>l.mono m) h;exact⟨v,xs,f,⟨e,d,b⟩,c,g⟩
theorem Zbcx {a:Nat} {c:List Value} {x:DataW H×List MemPlace} (w:c.length=5) (h:DataW.trod enc prog W base sp held a 50 c=some x):∃y:RuleS,RuleI W c y/\SmallR y (Rows.uptoBulk x.1):=by
 obtain⟨M,n,_,hx,_,d,b⟩:=DataW.trod_struct underlying50 h;have s:prog.cellsOf 9=1:=by kernel_rfl
 have t:prog.cellsOf 48=1:=by kernel_rfl
 have u:prog.cellsOf 47=1:=by kernel_rfl
 match M,d,c,w with
 | [y0,y1,y2,y3,y4],_,[v0,v1,v2,v3,v4],_=>
  have l:=b 0 _ rfl;have m:=b 1 _ rfl;have o:=b 2 _ rfl;have p:=b 3 _ rfl;have q:=b 4 _ rfl;simp[s,t,u]at l m o p q;obtain⟨e,f,v,_⟩:=DataW.trod_string underlying9 l;obtain⟨u1,F,g,A,J⟩:=Zbdb m;obtain⟨u2,G,i,B,K⟩:=Zbdb o;obtain⟨u3,I,j,C,L⟩:=Zbdb p;obtain⟨u4,r,k,D,Q,E⟩:=Zbda q;simp at f g i j k;subst f g i j k;have O:Rows.uptoBulk x.1=Rows.uptoBulk y0.1+(Rows.uptoBulk y1.1+(Rows.uptoBulk y2.1+(Rows.uptoBulk y3.1+(Rows.uptoBulk y4.1+0))))+1:=by rw[hx];rfl
  have P:e.size<=Rows.uptoBulk y0.1:=by rw[v];simp only[Rows.uptoBulk];rw[Lib.size_eq];omega
  exact⟨⟨e,F,G,I,r⟩,⟨_,_,_,_,rfl,A,B,C,D⟩,⟨by show e.size<=_;omega,J.mono (by omega),K.mono (by omega),L.mono (by omega),by show r.length<=_;omega,λy z=>(E y z).mono (by omega)⟩⟩
end
theorem Zbxh {H:Type} {enc:TypeId×Value->H} {W:World} {base:Nat} {r:Reach} {o:Nat} {sp:Nat->Bool} {held:Bool} {v:Value} {d:DataW H} {ps:List MemPlace}
  (i:Value.okWide prog W r o 22 v) (h:DataW.Trod enc prog W base sp held 22 v d ps):
  ∃xs:List RuleS,RulesI W v xs/\xs.length<=Rows.uptoBulk d/\∀y∈xs,SmallR y (Rows.uptoBulk d):=by
 obtain⟨a,n,c,rfl⟩:=okWide_slice underlying22 i;obtain⟨m,t⟩:=h;obtain⟨x,j,xs,e,g,b,f,l⟩:=Zbcw (α:=RuleS) (RuleI W) SmallR underlying22 (k:=5) (by kernel_rfl) (by decide) (λn p y u w=>Zbcx u w) (λ_ _ _ q s=>q.mono s) t;simp[Value.cells]at e;subst e;exact⟨xs,⟨j,g,b⟩,f,l⟩
theorem Zdkm {rs:List RuleS} {n:ByteArray} (h:∃r∈rs,r.name=n):∃(k:Nat) (r:RuleS),Zoi (rs.map (·.name)) n=(k:Int)/\rs[k]? =some r/\r.name=n:=by
 rcases Zom (rs.map (·.name)) n with⟨_,a⟩|⟨k,c,a,_⟩
 ·obtain⟨r,b,e⟩:=h
  obtain⟨k,d⟩:=List.getElem?_of_mem b;exact absurd (by rw[List.getElem?_map,d,<-e];rfl) (a k)
 ·rw[List.getElem?_map]at a
  obtain⟨r,b,e⟩:=Option.map_eq_some_iff.1 a;exact⟨k,r,c,b,e⟩
theorem Zbwd {xs:List ByteArray} {s:ByteArray}:0<=Zoi xs s↔s∈xs:=by
 rcases Zom xs s with⟨b,a⟩|⟨k,b,a,_⟩
 ·rw[b]
  refine⟨λh=>absurd h (by omega),λh=>?_⟩;obtain⟨k,c⟩:=List.getElem?_of_mem h;exact absurd c (a k)
 ·exact⟨λ_=>List.mem_of_getElem? a,λ_=>by omega⟩
def Zdkh (rs:List RuleS) (a b:Lb) (e:Ending):Prop:=∃t:Bool,e = .returned (.bool t)/\(t=true↔b∈Zdes rs a)
theorem Zdlg (v:Value) (rs:List RuleS) (a b:Lb) (w:World) (h:RulesI w v rs) (Y:OkTog rs) (ha:a.1=true->∃r∈rs,r.name=a.2):
  Calls prog 55 #[v,lv a,lv b] w λe w'=>Zdkh rs a b e/\Below w.heap.size w w':=by
 have mixed:prog.follows .mixedOrders=true:=by kernel_rfl
 obtain⟨W0,f⟩:∃V,V=(w.alloc (.cells #[.bool a.1,.string a.2] 24)).alloc (.cells #[.bool b.1,.string b.2] 24):=⟨_,rfl⟩;have p:Below w.heap.size w W0:=by rw[f];exact((Below.refl _ _).alloc (Nat.le_refl _) _).alloc (by simp) _
 have R:BoxL W0 w.heap.size a:=by
  rw[f];show _=_;rw[Below.heap_alloc _ _ _ (by simp)];exact alloc_at w _
 have T:BoxL W0 (w.heap.size+1) b:=by
  have:=alloc_at (w.alloc (.cells #[.bool a.1,.string a.2] 24)) (.cells #[.bool b.1,.string b.2] 24);rw[World.size_alloc]at this;rw[f];exact this
 have HX:=hid R;have HZ:=hid T;have i:=hid p;have J:=hid (h.below p);have B:=hid (Zdeu Y (a:=a) (b:=b));have HA:=hid ha;have Q:=hid Y;obtain⟨x0,x1⟩:=R.cells;obtain⟨z0,z1⟩:=T.cells;obtain⟨sa,sc,I,_,_⟩:=Zbjn h;subst I;clear h Y ha p R T;obtain⟨a1,y⟩:=a;obtain⟨b1,D⟩:=b;unfold lv
 dsimp only at *
 cases a1<;>cases b1
 ·go_enter func55,ntmps55
  go_wp2_with fail
  rw[<-f];clear f;go_wp2;go_ret;exact⟨⟨false,rfl,by rw[B.out];simp⟩,i.out⟩
 rotate_left;rotate_left
 ·go_enter func55,ntmps55
  go_wp2_with fail
  rw[<-f];clear f;go_wp2;go_ret;exact⟨⟨false,rfl,by rw[B.out];simp⟩,i.out⟩
 ·have cM:=Zccx _ rs y W0 J.out
  have A:=hid cM;have u:=Zcfq rs y;obtain⟨mk,H⟩:∃mk,Zcfo rs y=mk:=⟨_,rfl⟩;rw[H]at A u;obtain⟨V0,c⟩:∃V,V=W0.drew:=⟨_,rfl⟩;have g:Below W0.heap.size W0 V0:=by rw[c];exact(Below.refl _ _).drew
  have m:=hid (HZ.out.below g (Nat.le_refl _));have n:=hid g;have P:=hid u;clear cM u H g
  go_enter func55,ntmps55
  go_wp2_with fail
  rw[<-f];clear f
  go_wp2_with fail
  refine A.out.mono ?_;rintro e w1 ⟨rfl,rfl⟩
  go_wp2_with fail
  rcases P.out with⟨rfl,ac⟩|⟨k,r,rfl,j,Z,_⟩
  ·refine wp_region_held_drew (S:=λV=>Below V0.heap.size V0 V) (by kernel_rfl) ?_ (λhHeld=>?_)
   ·rw[<-c];exact Below.refl _ _
   rw[<-c]at hHeld⊢;clear c;refine tkK 0 ?_;refine tkK 1 ?_;refine tkK 2 ?_
   try simp only[Act.put,sA,sZ,sS]
   refine tuH 3 ?_
   try simp only[Act.put,sA,sZ,sS]
   refine tuH 4 ?_
   try simp only[Act.put,sA,sZ,sS]
   refine tuH 5 ?_
   try simp only[Act.put,sA,sZ,sS]
   refine tuH 6 ?_
   try simp only[Act.put,sA,sZ,sS]
   refine tuH 7 ?_
   try simp only[Act.put,sA,sZ,sS]
   refine tuH 8 ?_
   try simp only[Act.put,sA,sZ,sS]
   refine tuH 9 ?_
   try simp only[Act.put,sA,sZ,sS]
   refine tuH 10 ?_
   try simp only[Act.put,sA,sZ,sS]
   refine tkK 11 ?_;refine tkK 12 ?_
   try simp only[Act.put,sA,sZ,sS]
   refine wpAnyH_done (by kernel_rfl) ?_ _;go_wp2;go_ret;refine⟨⟨false,rfl,?_⟩,i.out.trans (n.out.mono i.out.size)⟩;rw[B.out];simp only[Bool.false_eq_true,false_and,true_and,false_or,false_iff];rintro⟨x,hx,_,E⟩;exact ac x hx E
  ·obtain⟨gr,ro,W,i1,c1,i2,c2,i3,c3,i4,c4,I,_,L,G⟩:=Zbjm J.out j
   cases I
   have s:=(List.getElem?_eq_some_iff.1 j).1;have ab:(k:Int)<(rs.length:Int):=by omega
   have aa:(0:Int)<=(k:Int):=by omega
   have M:=hid G;obtain⟨t,ht⟩:∃t,(r.name.toList==D.toList)=t:=⟨_,rfl⟩;have l:Hid (t=true↔((true,D):Lb)∈Zdes rs (false,y)):=by
    show _↔_;rw[B.out,<-ht];constructor
    ·intro X
     exact .inr ⟨by simp,by simp,r,List.mem_of_getElem? j,Zgx X,Z⟩
    ·rintro(⟨o,_⟩|⟨_,_,x,hx,o,E⟩)
     ·cases o
     ·have:=Q.out.one hx (List.mem_of_getElem? j) E Z
      subst this;rw[o];simp
   clear j L G s Z;refine wp_region_held_drew (S:=λV=>Below V0.heap.size V0 V) (by kernel_rfl) ?_ (λhHeld=>?_)
   ·rw[<-c];exact Below.refl _ _
   rw[<-c]at hHeld⊢;clear c;refine tkK 0 ?_;refine tkK 1 ?_;refine tkK 2 ?_;refine tkK 3 ?_;refine tkK 4 ?_;refine tkK 5 ?_;refine tkK 6 ?_
   try simp only[Act.put,sA,sZ,sS]
   refine tkH 7 (v:=?_) ?_ ?_;rotate_left
   ·intro w d;obtain⟨d0,_,_⟩:=M.out _ (n.out.trans (d.mono n.out.size));go_simp;try with_reducible rfl
   try simp only[Act.put,sA,sZ,sS]
   refine tkK 8 ?_
   try simp only[Act.put,sA,sZ,sS]
   refine tkH 9 (v:=?_) ?_ ?_;rotate_left
   ·intro w d;obtain⟨q2,q3⟩:=(m.out.below d (Nat.le_refl _)).cells;go_simp;try with_reducible rfl
   try simp only[Act.put,sA,sZ,sS]
   refine tkK 10 ?_;refine tkK 11 ?_;refine tkK 12 ?_
   try simp only[Act.put,sA,sZ,sS]
   refine wpAnyH_done (by kernel_rfl) ?_ _;go_wp2;go_ret;exact⟨⟨t,rfl,l.out⟩,i.out.trans (n.out.mono i.out.size)⟩
 ·go_enter func55,ntmps55
  obtain⟨k,r,hk,j,hn⟩:=Zdkm (HA.out rfl);obtain⟨gr,ro,W,i1,c1,i2,c2,i3,c3,i4,c4,I,_,L,G⟩:=Zbjm J.out j
  cases I
  obtain⟨_,_,_,_,e4,hi,_⟩:=id L;simp only[List.cons.injEq,and_true,true_and]at e4;obtain⟨rfl,_⟩:=e4;have s:=(List.getElem?_eq_some_iff.1 j).1;have ab:(k:Int)<(rs.length:Int):=by omega
  have aa:(0:Int)<=(k:Int):=by omega
  obtain⟨V0,c⟩:∃V,V=W0.drew:=⟨_,rfl⟩;have g:Below W0.heap.size W0 V0:=by rw[c];exact(Below.refl _ _).drew
  have U:=Zccu _ rs y V0 (J.out.below g);rw[hk]at U;have O:=hid U;have cF:=Zhe _ r.ins D V0 (hi.below g);have z:=hid cF;obtain⟨fi,q⟩:∃fi,Zoi r.ins D=fi:=⟨_,rfl⟩;rw[q]at z;have M:=hid G;have C:=hid (HX.out.below g (Nat.le_refl _));have m:=hid (HZ.out.below g (Nat.le_refl _));have n:=hid g;have l:Hid (decide (fi≥0)=true↔((false,D):Lb)∈Zdes rs (true,y)):=by
   show _↔_;rw[B.out,decide_eq_true_iff,<-q];constructor
   ·intro X
    exact .inl ⟨by simp,by simp,r,List.mem_of_getElem? j,hn,Zbwd.1 X⟩
   ·rintro(⟨_,_,x,hx,o,E⟩|⟨o,_⟩)
    ·have:x=r:=by
      have e1:=Zdhu Q.out.nodup hx;have e2:=Zdhu Q.out.nodup (List.mem_of_getElem? j);rw[o]at e1;rw[hn,e1]at e2;exact Option.some.inj e2
     subst this;exact Zbwd.2 E
    ·cases o
  clear hk j hn L hi G g U cF q s
  go_wp2_with fail
  rw[<-f];clear f
  go_wp2_with fail
  refine wp_region_held_drew (S:=λV=>Below V0.heap.size V0 V) (by kernel_rfl) ?_ (λhHeld=>?_)
  ·rw[<-c];exact Below.refl _ _
  rw[<-c]at hHeld⊢;clear c;refine tkK 0 ?_;refine tkK 1 ?_;refine tkK 2 ?_
  try simp only[Act.put,sA,sZ,sS]
  refine tkH 3 (v:=?_) ?_ ?_;rotate_left
  ·intro w d;obtain⟨q0,q1⟩:=(C.out.below d (Nat.le_refl _)).cells;obtain⟨q2,q3⟩:=(m.out.below d (Nat.le_refl _)).cells;go_simp;try with_reducible rfl
  try simp only[Act.put,sA,sZ,sS]
  refine tkK 8 ?_
  try simp only[Act.put,sA,sZ,sS]
  refine tkH 9 (v:=?_) ?_ ?_;rotate_left
  ·intro w d;obtain⟨q0,q1⟩:=(C.out.below d (Nat.le_refl _)).cells;obtain⟨q2,q3⟩:=(m.out.below d (Nat.le_refl _)).cells;go_simp;try with_reducible rfl
  try simp only[Act.put,sA,sZ,sS]
  refine rdH [4] ?_;refine rcH (λK F=>?_) ?_
  ·go_simp;refine O.out.mono ?_;rintro e w1 ⟨rfl,rfl⟩;dsimp only
   refine F.out _ _ ?_ (λhHeld=>?_)
   ·try dsimp only
    exact Below.refl _ _
   clear F K
   try simp only[Act.put,sA,sZ,sS]
   refine tkK 5 ?_;refine tkK 6 ?_
   try simp only[Act.put,sA,sZ,sS]
   refine tkH 7 (v:=?_) ?_ ?_;rotate_left
   ·intro w d;obtain⟨_,d1,_⟩:=M.out _ (n.out.trans (d.mono n.out.size));go_simp;try with_reducible rfl
   try simp only[Act.put,sA,sZ,sS]
   refine rdH [10] ?_;refine rcH (λK F=>?_) ?_
   ·go_simp;refine z.out.mono ?_;rintro e w2 ⟨rfl,rfl⟩;dsimp only
    refine F.out _ _ ?_ (λhHeld=>?_)
    ·try dsimp only
     exact Below.refl _ _
    clear F K
    try simp only[Act.put,sA,sZ,sS]
    refine tkK 11 ?_;refine tkK 12 ?_
    try simp only[Act.put,sA,sZ,sS]
    refine wpAnyH_done (by kernel_rfl) ?_ _;go_wp2;go_ret;exact⟨⟨_,rfl,l.out⟩,i.out.trans (n.out.mono i.out.size)⟩
   exact AllReadyH.nil
  exact AllReadyH.nil
theorem Zdlb {w:World} {j k r s p q:Nat} {a c:TypeId} {h i:Value} {t u:List Value} (l:w.ownsRow j a r h p t) (m:w.ownsRow k c s i q u) (n:a≠c) {b:Nat} (d:h.ownBlock=some b):i.ownBlock≠some b:=by
 intro e
 rcases l.2 with⟨rfl,_⟩|⟨y,_,v,rfl,_,o,_⟩
 ·cases d
 rcases m.2 with⟨rfl,_⟩|⟨z,_,x,rfl,_,f,_⟩
 ·cases e
 cases d
 cases e
 rw[o]at f
 cases f
 exact n rfl
theorem Zdlc {w:World} {ty:TypeId} {B gx:Nat} {v:Value} {xs:List RuleS} {y:RuleS} {u1 u2 u3 u4:Value} (e:OwnRules B w v xs) (r:B<=w.heap.size) (C:xs.length<=1000000) (h:w.heap[gx]? =some (.cells #[.string y.name,u1,u2,u3,u4] 50))
  (f:RuleA (AvOf B v) w [.string y.name,u1,u2,u3,u4] y):
  ∃v' w',(Builtin.append_ #[22,22] ty #[v,.slice (some ⟨gx,0,none⟩) 1 1]).run prog w = .ok v' w'/\OwnRules B w' v' (xs ++ [y])/\w.grownBy w' v.ownBlock/\(∀b,v'.ownBlock=some b->v.ownBlock=some b\/w.heap.size<=b):=by
 obtain⟨x,s,i,k,l⟩:=Zsv Zsw;obtain⟨c,q,m⟩:=e;have A:=m.1;have d:=Zbxo f;obtain⟨v',w',t,z,o,p⟩:=Zbkb (P:=prog) w B 22 ty 50 x (.agg #[.string ByteArray.empty,.slice none 0 0,.slice none 0 0,.slice none 0 0,.slice none 0 0]) 5 112 underlying22 s i k l rfl (by decide) v c.length c.flatten q
  ⟨gx,0,none⟩ 1 1 [.string y.name,u1,u2,u3,u4] rfl (λj u a=>by
   match j,a with
   | 0,a=>simp at a;subst a;simp[Addr.add,World.cell?,h]
   | 1,a=>simp at a;subst a;simp[Addr.add,World.cell?,h]
   | 2,a=>simp at a;subst a;simp[Addr.add,World.cell?,h]
   | 3,a=>simp at a;subst a;simp[Addr.add,World.cell?,h]
   | 4,a=>simp at a;subst a;simp[Addr.add,World.cell?,h]
   | n+5,a=>simp at a) d (by unfold maxLen;omega) (by omega) r
 refine⟨v',w',t,⟨c ++ [[.string y.name,u1,u2,u3,u4]],?_,?_⟩,o,p⟩
 ·rw[List.length_append,List.flatten_append]
  simpa using z
 ·exact Zqx (B:=B) (v':=v') (m.snoc f) o p
structure RgS (w0:World) (B g:Nat) (w:World) (vr vl vn:Value) (xs:List RuleS) (L:List Lb):Prop where
 blk:w.heap[g]? =some (.cells #[vr,vl,vn] 39)
 rul:OwnRules B w vr xs
 lab:OwnL B w vl L
 gB:w0.heap.size<=g/\g<B
 sz:B<=w.heap.size
 b:Below w0.heap.size w0 w
section
variable {w0 w w':World} {B g:Nat} {vr vl vn:Value} {xs:List RuleS} {L:List Lb}
theorem RgS.cells (h:RgS w0 B g w vr vl vn xs L):(w.cell? { block:=g,off:=0 } =some vr/\w.cell? { block:=g,off:=1 } =some vl/\w.cell? { block:=g,off:=2 } =some vn)/\∀p,w.frozen? { block:=g,off:=p } =false:=by
 have a:=h.blk;exact⟨⟨by simp[World.cell?,a],by simp[World.cell?,a],by simp[World.cell?,a]⟩,λp=>by simp[World.frozen?,a]⟩
theorem RgS.below (h:RgS w0 B g w vr vl vn xs L) (a:Below w.heap.size w w'):RgS w0 B g w' vr vl vn xs L:=
 ⟨(a.block g (Nat.lt_of_lt_of_le h.gB.2 h.sz)).trans h.blk,h.rul.below a,Zdfq h.lab a,h.gB,Nat.le_trans h.sz a.size,h.b.trans (a.mono h.b.size)⟩
theorem Zdkp {w:World} {g i:Nat} {t:TypeId} {z0 a b:Value} (c:w.heap[g]? =some (.cells #[z0,a,b] t)) (u:Value):
  (w.setCell ⟨g,i,none⟩ u).heap[g]? =some (.cells (#[z0,a,b].setIfInBounds i u) t):=by
 unfold World.setCell;show(w.heap.modify g _)[g]? =_;rw[Array.getElem?_modify,if_pos rfl,c];rfl
theorem Zdlk (w:World) (g i:Nat) (u:Value):w.grownBy (w.setCell ⟨g,i,none⟩ u) (some g):=
 ⟨rfl,rfl,rfl,by simp[World.setCell],λk _ a=>Below.heap_setCell _ _ _ _ (λe=>a (by rw[e]))⟩
theorem RgS.setL (h:RgS w0 B g w vr vl vn xs L) {v':Value} {L':List Lb} (d:OwnL B w v' L'):RgS w0 B g (w.setCell ⟨g,1,none⟩ v') vr v' vn xs L':=by
 have a:=Zdlk w g 1 v';refine⟨Zdkp h.blk v',h.rul.fr (Av:=λb=>b=g) (Zpx a λk e=>(Option.some.inj e).symm) (λb c=> .inl (by rw[c];exact h.gB.2)) (λb c e=>?_),Zdfr d a h.gB.2,h.gB,Nat.le_trans h.sz a.size,h.b.grown a h.b.size (λk e=>by cases e;exact h.gB.1)⟩;have:=(h.rul.lt b c).1;have f:=h.gB.2;omega
theorem RgS.setR (h:RgS w0 B g w vr vl vn xs L) {v':Value} {y:RuleS} (i:w.grownBy w' vr.ownBlock) (n:OwnRules B w' v' (xs ++ [y])):RgS w0 B g (w'.setCell ⟨g,0,none⟩ v') v' vl vn (xs ++ [y]) L:=by
 have a:∀b,vr.ownBlock=some b->B<=b:=λb e=>(h.rul.lt b e).1
 obtain⟨o,m,_⟩:=h.rul;have d:w'.heap[g]? =some (.cells #[vr,vl,vn] 39):=(i.block g (Nat.lt_of_lt_of_le h.gB.2 h.sz) (λe=>by have:=a g e.symm;have:=h.gB.2;omega)).trans h.blk;have f:OwnL B w' vl L:=World.ownsRow.kept h.lab i (by
  cases e:vl.ownBlock with
  | none=>exact .inl rfl
  | some b=>exact .inr λp=>Zdlb h.lab m (by decide) e p.symm)
 have j:=Zdlk w' g 0 v';have c:=h.b.grown i h.b.size (λk e=>by have r:=a k e;have q:=h.gB;omega);refine⟨Zdkp d v',n.fr (Av:=λb=>b=g) (Zpx j λk e=>(Option.some.inj e).symm) (λb l=> .inl (by rw[l];exact h.gB.2)) (λb l e=>?_),Zdfr f j h.gB.2,h.gB,Nat.le_trans h.sz (Nat.le_trans i.size j.size),c.grown j c.size (λk e=>by cases e;exact h.gB.1)⟩;have:=(n.lt b l).1;have q:=h.gB.2;omega
