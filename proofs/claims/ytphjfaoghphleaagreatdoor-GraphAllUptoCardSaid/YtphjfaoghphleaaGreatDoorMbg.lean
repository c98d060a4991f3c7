import Derived.Test.YtphjfaoghphleaaGreatDoorMbf
set_option maxRecDepth 100000
set_option maxHeartbeats 16000000
namespace Go.Proofs.YtphjfaoghphleaaGreatDoor
open Go.Lib (hid)
open Go.Proofs.Tryz Go.RowKit Go.Shelf
theorem Zdkq:(prog.info? 93).map (λi=>(i.zero,i.size,i.bytes))=some (some (.slice none 0 0),1,24):=by kernel_rfl
def NdT (w:World) (B n i:Nat) (vn:Value) (M:Nat->Nat->Bool):Prop:=∃bs:Nat->Nat,w.ownsRow B 93 1 vn i ((List.range i).map λj=>Value.slice (some ⟨bs j,0,none⟩) n n)/\
 (∀j<i,B<=bs j/\RowX w (bs j) n (M j))/\∀j<i,∀j'<j,bs j'≠bs j
section
variable {w w':World} {B n i g:Nat} {vn:Value} {M:Nat->Nat->Bool}
theorem NdT.zero (w:World) (B n:Nat) (M:Nat->Nat->Bool):NdT w B n 0 (.slice none 0 0) M:=⟨λ_=>0,World.ownsRow_nil _ _ _ _,λj a=>by omega,λj a=>by omega⟩
theorem NdT.fr (h:NdT w B n i vn M) {row:Option Nat} (f:w.grownBy w' row) (m:∀b,row=some b->b<B):NdT w' B n i vn M:=by
 obtain⟨k,d,a,l⟩:=h;refine⟨k,World.ownsRow.kept d f ?_,λj c=>⟨(a j c).1,(a j c).2.keep (f.block _ (a j c).2.lt (λe=>by have:=m _ e.symm;have:=(a j c).1;omega))⟩,l⟩
 cases e:vn.ownBlock with
 | none=>grind
 | some b=>
  have:=(World.ownsRow.lt d b e).1
  grind
theorem NdT.below (h:NdT w B n i vn M) (a:Below w.heap.size w w'):NdT w' B n i vn M:=h.fr (row:=none) ⟨a.os,a.tape,a.output,a.size,λk b _=>a.block k b⟩ (λ_ e=>by cases e)
theorem NdT.shape (h:NdT w B n i vn M):∃a c,vn = .slice a i c:=by
 obtain⟨b,d,_⟩:=h
 grind [Zbea]
theorem NdT.congr (h:NdT w B n i vn M) {M':Nat->Nat->Bool} (e:∀j<i,∀k<n,M j k=M' j k):NdT w B n i vn M':=by
 obtain⟨c,d,b,f⟩:=h;exact⟨c,d,λj a=>⟨(b j a).1,(b j a).2.congr (e j a)⟩,f⟩
theorem NdT.push {w1:World} (h:NdT w1 B n i vn M) {ty:TypeId} {b gx:Nat} {f:Nat->Bool} (a:Below w1.heap.size w1 w) (D:B<=w1.heap.size) (hi:i<=1000000) (L:w1.heap.size<=b) (S:w.heap[gx]? =some (.cells #[.slice (some ⟨b,0,none⟩) n n] 93)) (R:RowX w b n f):
  ∃v' w',(Builtin.append_ #[37,37] ty #[vn,.slice (some ⟨gx,0,none⟩) 1 1]).run prog w = .ok v' w'/\NdT w' B n (i+1) v' (λj=>if j=i then f else M j)/\w.grownBy w' vn.ownBlock:=by
 obtain⟨T,v,y,z,A⟩:=info_parts Zdkq;have p:∀l:Nat->Nat,(∀j<i,B<=l j/\RowX w1 (l j) n (M j))->∀j<i,l j≠b:=λl s j d=>by have:=(s j d).2.lt;omega
 have J:=h.below a;obtain⟨l,t,m,K⟩:=h;have C:=World.ownsRow.kept (row:=none) t ⟨a.os,a.tape,a.output,a.size,λk Q _=>a.block k Q⟩ (by cases vn.ownBlock<;>simp);have s:∀j<i,B<=l j/\RowX w (l j) n (M j):=λj d=>⟨(m j d).1,(m j d).2.keep (a.block _ (m j d).2.lt)⟩
 have q:=p l m;clear J p;obtain⟨v',w',r,U,H,_⟩:=Zbkb (P:=prog) w B 37 ty 93 T (.slice none 0 0) 1 24 underlying37 v y z A rfl (by decide) vn i _ C
  ⟨gx,0,none⟩ 1 1 [.slice (some ⟨b,0,none⟩) n n] rfl (λj u d=>by
   match j,d with
   | 0,d=>simp at d;subst d;simp[Addr.add,World.cell?,S]
   | k+1,d=>simp at d) (λu E=>by simp at E;subst E;rfl) (by unfold maxLen;omega) (by omega) (Nat.le_trans D a.size)
 have o:∀ {c:Nat} {f:Nat->Bool},RowX w c n f->RowX w' c n f:=fun {c f} hx=>hx.keep (H.block c hx.lt (λe=>by
  obtain⟨I,O,_⟩:=hx
  rcases C.2 with⟨rfl,_⟩|⟨X,_,V,rfl,_,G,_⟩
  ·cases e
  ·cases e
   rw[O]at G
   cases G))
 refine⟨v',w',r,⟨λj=>if j=i then b else l j,?_,λj d=>?_,λj d F x=>?_⟩,H⟩
 ·have e:(List.range (i+1)).map (λj=>Value.slice (some ⟨if j=i then b else l j,0,none⟩) n n)=((List.range i).map λj=>Value.slice (some ⟨l j,0,none⟩) n n) ++ [.slice (some ⟨b,0,none⟩) n n]:=by
   rw[List.range_succ,List.map_append]
   congr 1
   ·refine List.map_congr_left λj d=>?_
    have:=List.mem_range.1 d;rw[if_neg (by omega)]
   ·simp
  rw[e];exact U
 ·by_cases e:j=i
  ·subst e
   simp only[if_true];exact⟨Nat.le_trans D L,o R⟩
  ·simp only[if_neg e]
   exact⟨(s j (by omega)).1,o (s j (by omega)).2⟩
 ·by_cases e:j=i
  ·subst e
   simp only[if_true];rw[if_neg (by omega)];exact q F (by omega)
  ·simp only[if_neg e]
   rw[if_neg (by omega)];exact K j (by omega) F x
theorem NdT.cell (h:NdT w B n i vn M) {j:Nat} (y:j<i):∃f c b,vn = .slice (some ⟨f,0,none⟩) i c/\B<=f/\f<w.heap.size/\B<=b/\w.cell? ⟨f,j,none⟩=some (.slice (some ⟨b,0,none⟩) n n)/\RowX w b n (M j)/\
  ∀k x,NdT (w.setCell ⟨b,k,none⟩ (.bool x)) B n i vn (upd M j k x):=by
 obtain⟨a,u,o,A⟩:=h
 rcases id u.2 with⟨_,I⟩|⟨f,p,l,rfl,r,s,F,D,E,G⟩
 ·omega
 have v:l.toList[j]? =some (.slice (some ⟨a j,0,none⟩) n n):=by
  have e:(l.toList.take (i*1))[j]? =some (.slice (some ⟨a j,0,none⟩) n n):=by
   grind
  grind
 have d:=(o j y).2;refine⟨f,p,a j,rfl,r,(Array.getElem?_eq_some_iff.1 s).1,(o j y).1,?_,d,λk x=>⟨a,?_,λq z=>⟨(o q z).1,?_⟩,A⟩⟩
 ·grind [World.cell?]
 ·refine World.ownsRow.kept u (Zdlk w (a j) k (.bool x)) (.inr λe=>?_)
  cases e
  obtain⟨H,C,_⟩:=d
  grind
 ·by_cases e:q=j
  ·subst e
   refine(d.set (k:=k) x).congr λm _=>?_
   grind [upd]
  ·have t:a q≠a j:=by
    grind
   refine((o q z).2.keep (Below.heap_setCell _ _ _ _ (by simpa using t))).congr λm _=>?_
   grind [upd]
end
def ndM (rs:List RuleS) (L:List Lb) (j k:Nat):Bool:=match L[j]?,L[k]? with
 | some a,some b=>decide (0<=Zczd (Zdes rs a) b)
 | _,_=>false
theorem Zdky {rs:List RuleS} {L:List Lb} {j k:Nat} {a b:Lb} (c:L[j]? =some a) (d:L[k]? =some b):ndM rs L j k=true↔b∈Zdes rs a:=by
 grind [Zczf,ndM]
def mixM (rs:List RuleS) (L:List Lb) (i k:Nat):Nat->Nat->Bool:=λa b=>if a=i then(if b<k then ndM rs L a b else false)else ndM rs L a b
structure RgP (WP:World) (g n:Nat) (vr vl:Value) (i:Nat) (M:Nat->Nat->Bool) (W:World):Prop where
 fr:Fr (λb=>b=g\/WP.heap.size<=b) WP W
 tab:∃vn,W.heap[g]? =some (.cells #[vr,vl,vn] 39)/\NdT W WP.heap.size n i vn M
section
variable {WP W W':World} {g n i:Nat} {vr vl:Value} {M:Nat->Nat->Bool}
theorem RgP.below (h:RgP WP g n vr vl i M W) (a:Below W.heap.size W W'):RgP WP g n vr vl i M W':=by
 obtain⟨vn,b,c⟩:=h.tab;exact⟨h.fr.trans (Zpv a),vn,(a.block g (Array.getElem?_eq_some_iff.1 b).1).trans b,c.below a⟩
theorem RgP.rules {rs:List RuleS} (h:RgP WP g n vr vl i M W) (a:RulesA (λb=>b=g\/WP.heap.size<=b) WP vr rs):RulesI W vr rs:=(a.keep h.fr).rulesI
theorem RgP.labs {L:List Lb} {a:Option Addr} (h:RgP WP g n vr vl i M W) (m:RowL WP a L) (l:∀b,a=some b->g<b.block/\b.block<WP.heap.size):RowL W a L:=λk x hx=>by
 obtain⟨b,o,e,f,j⟩:=m k x hx;have c:=l _ e;have d:=h.fr.block b c.2 (λh=>by
  rcases h with h|h
  ·have:=c.1;simp only at this;omega
  ·have:=c.2;simp only at this;omega)
 exact⟨b,o,e,(World.cell?_of_block (a:=⟨b,o+k*2,none⟩) d).trans f,(World.cell?_of_block (a:=⟨b,o+k*2+1,none⟩) d).trans j⟩
theorem RgP.old {w:World} (h:RgP WP g n vr vl i M W) (a:Below w.heap.size w WP) (b:w.heap.size<=g):Below w.heap.size w W:=
 a.trans (h.fr.below a.size λk c e=>by have:=a.size;omega)
theorem RgP.cells (h:RgP WP g n vr vl i M W):∃vn,(W.cell? { block:=g,off:=0 } =some vr/\W.cell? { block:=g,off:=1 } =some vl/\W.cell? { block:=g,off:=2 } =some vn)/\(∀p,W.frozen? { block:=g,off:=p } =false)/\W.heap[g]? =some (.cells #[vr,vl,vn] 39)/\NdT W WP.heap.size n i vn M:=by
 obtain⟨vn,b,a⟩:=h.tab
 grind [World.cell?,World.frozen?]
theorem RgP.c1 (h:RgP WP g n vr vl i M W):W.cell? { block:=g,off:=1 } =some vl:=by
 obtain⟨_,⟨_,q,_⟩,_⟩:=h.cells;exact q
theorem RgP.congr (h:RgP WP g n vr vl i M W) {M':Nat->Nat->Bool} (e:∀j<i,∀k<n,M j k=M' j k):RgP WP g n vr vl i M' W:=by
 obtain⟨vn,a,b⟩:=h.tab;exact⟨h.fr,vn,a,b.congr e⟩
theorem RgP.push (h:RgP WP g n vr vl i M W) (c:g<WP.heap.size) {vn v':Value} {M':Nat->Nat->Bool} (l:W.heap[g]? =some (.cells #[vr,vl,vn] 39)) (f:W.grownBy W' vn.ownBlock) (j:∀b,vn.ownBlock=some b->WP.heap.size<=b) (m:NdT W' WP.heap.size n (i+1) v' M'):
  RgP WP g n vr vl (i+1) M' (W'.setCell ⟨g,2,none⟩ v'):=by
 have d:W'.heap[g]? =some (.cells #[vr,vl,vn] 39):=(f.block g (Array.getElem?_eq_some_iff.1 l).1 (λe=>by have:=j g e.symm;omega)).trans l;exact⟨(h.fr.trans (Zpx f λk e=> .inr (j k e))).trans (Zpy (a:=⟨g,2,none⟩) (.inl rfl) v'),v',Zdkp d v',m.fr (Zdlk W' g 2 v') (λb e=>by cases e;exact c)⟩
theorem RgP.put (h:RgP WP g n vr vl i M W) {j:Nat} (u:j<i) (D:g<WP.heap.size):∃vn d c b,vn=Value.slice (some ⟨d,0,none⟩) i c/\W.cell? { block:=g,off:=2 } =some vn/\W.cell? ⟨d,j,none⟩=some (.slice (some ⟨b,0,none⟩) n n)/\(∀k,k<n->W.cell? ⟨b,k,none⟩=some (.bool (M j k))/\W.frozen? ⟨b,k,none⟩=false)/\d<W.heap.size/\b<W.heap.size/\
  ∀V,Below W.heap.size W V->∀k x,RgP WP g n vr vl i (upd M j k x) (V.setCell ⟨b,k,none⟩ (.bool x)):=by
 obtain⟨vn,⟨_,_,F⟩,_,y,v⟩:=h.cells;obtain⟨d,c,b,rfl,J,q,C,r,s,K⟩:=v.cell u;refine⟨_,d,c,b,rfl,F,r,λk E=>s.cell E,q,s.lt,λV f k x=>?_⟩;have t:=h.below f;obtain⟨p,o,_⟩:=t.tab;have I:p = .slice (some ⟨d,0,none⟩) i c:=by
  have L:=(f.block g (Array.getElem?_eq_some_iff.1 y).1).trans y
  grind
 have m:=v.below f;have l:g≠b:=by omega
 refine⟨t.fr.trans (Zpy (a:=⟨b,k,none⟩) (.inr C) _),_,(Below.heap_setCell _ _ _ _ (by simpa using l)).trans o,?_⟩;obtain⟨z,H,G,e,_,_,_,O,_,P⟩:=m.cell u;have A:V.cell? ⟨d,j,none⟩=some (.slice (some ⟨b,0,none⟩) n n):=(f.cell q).trans r
 grind
end
theorem Zdli {W w':World} {x:RuleS} {e:Ending} (h:RuleW W w' x e):∃d g c vs,e = .returned (.agg #[.string x.name,d,g,c,vs])/\RuleA (λb=>b<W.heap.size) w' [.string x.name,d,g,c,vs] x:=by
 obtain⟨i,r,m,j,s,n,k,t,p,l,u,q,rfl,a⟩:=Zbir h.f.o.e;exact⟨_,_,_,_,rfl,a⟩
theorem Zdlj (xs:List Lb) (x:Lb):setL (xs ++ [x])=insL x (setL xs):=by
 unfold setL;rw[List.foldl_append];rfl
theorem Zdks {rs:List RuleS} {i:Nat} {r:RuleS} (h:rs[i]? =some r):(rs.take (i+1)).flatMap labR=(rs.take i).flatMap labR ++ [(true,r.name)]++Zcyo (r.ins++r.outs):=by
 rw[List.take_add_one,h,List.flatMap_append];simp[labR,Zcyo]
def RgF (w:World) (g:Nat) (rs:List RuleS) (W:World):Prop:=∃WP vr aL cL,g<WP.heap.size/\RgP WP g (allG rs).length vr (.slice aL (allG rs).length cL) (allG rs).length (ndM rs (allG rs)) W/\
 RulesA (λb=>b=g\/WP.heap.size<=b) WP vr rs/\RowL WP aL (allG rs)/\(∀b,aL=some b->g<b.block/\b.block<WP.heap.size)/\Below w.heap.size w WP/\w.heap.size<=g/\(allG rs).length<=cL
theorem Zdlh (v:Value) (rs:List RuleS) (w:World) (h:RulesI w v rs) (hs:∀r∈rs,SmallR r 1048576) (hT:OkTog rs):
  Calls prog 10 #[v] w λe w'=>∃g,e = .returned (.pointer (some { block:=g,off:=0 }))/\RgF w g rs w':=by
 have mixed:prog.follows .mixedOrders=true:=by kernel_rfl
 obtain⟨sa,sc,hv,c5,c6⟩:=Zbjn h;subst hv;have bd:=hid h;have ce:=hid hs;have HT:=hid hT;have cp:=hT.few;have aK:∀r∈rs,r.ins.length<=8/\r.outs.length<=4:=λr hr=>⟨(Zckm (hT.each r hr)).1,(Zckm (hT.each r hr)).2.1⟩
 have cf:=hid aK;have bB:∀k,((rs.take k).flatMap labR).length<=520:=λk=>by
  have A:=Zdbz (rs:=rs.take k) (λr hr=>aK r (List.mem_of_mem_take hr));have h2:(rs.take k).length<=40:=by rw[List.length_take];omega
  omega
 have aY:=hid bB;obtain⟨W1,T⟩:∃V,V=w.alloc (.cells #[.slice none 0 0,.slice none 0 0,.slice none 0 0] 39):=⟨_,rfl⟩;have E:Below w.heap.size w W1:=by rw[T];exact(Below.refl _ _).alloc (Nat.le_refl _) _
 have bp:RgS w (w.heap.size+1) w.heap.size W1 (.slice none 0 0) (.slice none 0 0) (.slice none 0 0) [] []:=
  ⟨by rw[T];exact alloc_at w _,Zbxk _ _,Zdfs _ _,⟨Nat.le_refl _,Nat.lt_succ_self _⟩,by rw[T];simp,E⟩
 have ca:=hid bp;clear h hs hT aK bB E bp
 go_enter func10,ntmps10
 go_wp2_with fail
 rw[<-T];clear T
 go_loopw [4] (λiv wr=>∃(i:Nat) (vr vl:Value),i<=rs.length/\iv = .int .i64 (i:Int)/\RgS w (w.heap.size+1) w.heap.size wr vr vl (.slice none 0 0) (rs.take i) (setL ((rs.take i).flatMap labR))) (λiv _=>rs.length-(intOf iv).toNat)
 case atStart=>exact⟨0,_,_,Nat.zero_le _,rfl,ca.out⟩
 case round=>
  obtain⟨i,vr,vl,hi,rfl,hS⟩:=hrel;have G:=hid hS;clear hS
  by_cases aE:i<rs.length
  ·obtain⟨x,hx⟩:∃x,rs[i]? =some x:=⟨rs[i],List.getElem?_eq_getElem aE⟩
   have aB:(i:Int)<(rs.length:Int):=by omega
   have ch:(0:Int)<=(i:Int):=by omega
   obtain⟨gr,ro,cv,i1,c1,i2,c2,i3,c3,i4,c4,hv,_,hR,hc⟩:=Zbjm bd.out hx
   cases hv
   obtain⟨V0,af⟩:∃V,V=wr.drew:=⟨_,rfl⟩;have B:Below wr.heap.size wr V0:=by rw[af];exact(Below.refl _ _).drew
   have bw:=G.out.below B;have cC:=Zckf x _ _ _ _ V0 (hR.below (G.out.b.trans (B.mono G.out.b.size))) (ce.out x (List.mem_of_getElem? hx));have aU:=hid cC;have s:=hid bw;have HC:=hid hc;have HX:=hid hx;have HR:=hid hR;have HZ:=hid (cf.out x (List.mem_of_getElem? hx));have aX:=hid (aY.out i);obtain⟨⟨k0,k1,k2⟩,kf⟩:=G.out.cells;clear hR hc hx B bw cC
   go_wp2_with fail
   refine Zbuk (S:=λb V=>b=false->Below V0.heap.size V0 V) (st:=11) (by kernel_rfl) ?_ (λhHeld=>?_)
   ·rw[<-af];exact λ_=>Below.refl _ _
   rw[<-af]at hHeld⊢;clear af k0 k1 k2 kf;refine zS 0 (v:=?_) ?_ ?_;rotate_left
   ·intro w d;go_simp;try with_reducible rfl
   try simp only[Act.put,sA,sZ,sS]
   refine tT 1 ?_;refine tT 2 ?_;refine tT 3 ?_
   try simp only[Act.put,sA,sZ,sS]
   refine tS 4 (v:=?_) ?_ ?_;rotate_left
   ·intro w d;have o:=d;obtain⟨⟨q0,q1,q2⟩,_⟩:=(s.out.below (o rfl)).cells;obtain⟨d0,d1,d2,d3,d4⟩:=HC.out _ (s.out.b.trans ((o rfl).mono s.out.b.size));go_simp;try with_reducible rfl
   try simp only[Act.put,sA,sZ,sS]
   refine tT 5 ?_;refine tT 6 ?_;refine tT 7 ?_
   try simp only[Act.put,sA,sZ,sS]
   refine tS 8 (v:=?_) ?_ ?_;rotate_left
   ·intro w d;have o:=d;obtain⟨⟨q0,q1,q2⟩,_⟩:=(s.out.below (o rfl)).cells;obtain⟨d0,d1,d2,d3,d4⟩:=HC.out _ (s.out.b.trans ((o rfl).mono s.out.b.size));go_simp;try with_reducible rfl
   try simp only[Act.put,sA,sZ,sS]
   refine rdS [9] ?_;refine rcS false (λK l=>?_) ?_
   ·go_simp;refine aU.out.mono ?_;rintro e W3 ⟨hE,X⟩;obtain⟨vi,vo,vf,vs,rfl,bK⟩:=Zdli hE;dsimp only
    refine l.out _ _ ?_ (λhHeld=>?_)
    ·try dsimp only
     exact λ_=>X
    clear l K
    try simp only[Act.put,sA,sZ,sS]
    obtain⟨W4,U⟩:∃V,V=W3.alloc (.cells #[.string x.name,vi,vo,vf,vs] 50):=⟨_,rfl⟩;have a7:Below V0.heap.size V0 W4:=by rw[U];exact X.alloc X.size _
    have aO:W4.heap[W3.heap.size]? =some (.cells #[.string x.name,vi,vo,vf,vs] 50):=by rw[U];exact alloc_at W3 _
    have aJ:RuleA (λb=>b<V0.heap.size) W4 [.string x.name,vi,vo,vf,vs] x:=RuleA.keep bK (by rw[U];exact Zpu _ _ _);have bR:=hid a7;have cu:=hid aO;have ct:=hid aJ;have cr:=hid X;have u:=s.out.below a7;obtain⟨v5,W5,bE,Z,al,cl⟩:=Zdlc (ty:=22) u.rul u.sz (by rw[List.length_take];omega) aO (aJ.mono λb hb e=>by
     rcases e with e|e
     ·exact Nat.lt_of_lt_of_le e s.out.sz
     ·exact(s.out.rul.lt b e).2)
    rw[<-Zdjr HX.out]at Z;obtain⟨M,n5,O,q5⟩:∃a n c,v5 = .slice a n c:=by
     obtain⟨a,c,q⟩:=Z.len;exact⟨a,_,c,q⟩
    subst q5;have br:RgS w (w.heap.size+1) w.heap.size (W5.setCell ⟨w.heap.size,0,none⟩ (.slice M n5 O)) (.slice M n5 O) vl (.slice none 0 0) (rs.take (i+1)) (setL ((rs.take i).flatMap labR)):=by
     rw[Zdjr HX.out]at Z⊢;exact u.setR al Z
    have b7:∀p,W5.frozen? ⟨w.heap.size,p,none⟩=false:=λp=>by
     have hk:W5.heap[w.heap.size]? =some (.cells #[vr,vl,.slice none 0 0] 39):=(al.block w.heap.size (Nat.lt_of_lt_of_le (Nat.lt_succ_self _) u.sz) (λe=>by have:=(u.rul.lt _ e.symm).1;omega)).trans u.blk;simp[World.frozen?,hk]
    have b5:(W5.cell? ⟨w.heap.size,0,none⟩).isSome=true:=by
     have hk:W5.heap[w.heap.size]? =some (.cells #[vr,vl,.slice none 0 0] 39):=(al.block w.heap.size (Nat.lt_of_lt_of_le (Nat.lt_succ_self _) u.sz) (λe=>by have:=(u.rul.lt _ e.symm).1;omega)).trans u.blk;simp[World.cell?,hk]
    have bh:=hid br;have aV:=hid b7;have aT:=hid b5;have bb:=hid bE;clear a7 aO aJ u bE Z al cl br b7 b5 X bK;refine rdS [10] ?_;refine rcS false (λK l=>?_) ?_
    ·go_simp;rw[<-U];clear U
     refine l.out _ _ ?_ (λhHeld=>?_)
     ·try dsimp only
      exact λ_=>bR.out
     clear l K
     try simp only[Act.put,sA,sZ,sS]
     refine rdS [11] ?_;refine rcS true (λK l=>?_) ?_
     ·refine Zbxy rfl _ _ _ rfl rfl rfl bb.out ?_
      refine l.out _ _ ?_ (λhHeld=>?_)
      ·try dsimp only
       exact λh=>absurd h (by simp)
      clear l K
      try simp only[Act.put,sA,sZ,sS]
      refine zS 12 (v:=?_) ?_ ?_;rotate_left
      ·intro w d;go_simp;try with_reducible rfl
      try simp only[Act.put,sA,sZ,sS]
      refine zS 13 (v:=?_) ?_ ?_;rotate_left
      ·intro w d;go_simp;try with_reducible rfl
      try simp only[Act.put,sA,sZ,sS]
      have kf:=aV.out 0;obtain⟨uu,ku⟩:=Option.isSome_iff_exists.1 aT.out;refine rdS [14] ?_;refine rcS true (λK l=>?_) ?_
      ·go_simp
       refine l.out _ _ ?_ (λhHeld=>?_)
       ·try dsimp only
        exact λh=>absurd h (by simp)
       clear l K
       try simp only[Act.put,sA,sZ,sS]
       refine Zbtu (by kernel_rfl) ?_ _;obtain⟨VA,ag⟩:∃V,V=(W5.setCell ⟨w.heap.size,0,none⟩ (.slice M n5 O)).drew:=⟨_,rfl⟩;have bx:Below (W5.setCell ⟨w.heap.size,0,none⟩ (.slice M n5 O)).heap.size (W5.setCell ⟨w.heap.size,0,none⟩ (.slice M n5 O)) VA:=by rw[ag];exact(Below.refl _ _).drew
       have ae:=bh.out.below bx;have cA:=Zdle (setL ((rs.take i).flatMap labR)) (true,x.name) vl (w.heap.size+1) VA ae.lab ae.sz (by have A:=Zdig ((rs.take i).flatMap labR);have:=aX.out;omega);unfold lv at cA;rw[<-Zdlj]at cA;have R:=hid cA;have y:=hid ae;clear bx ae cA bh aV aT bb aU s ku
       go_wp2_with fail
       refine Zbuk (S:=λb V=>b=false->Below VA.heap.size VA V) (st:=14) (by kernel_rfl) ?_ (λhHeld=>?_)
       ·rw[<-ag];exact λ_=>Below.refl _ _
       rw[<-ag]at hHeld⊢;clear ag;refine tT 0 ?_;refine tT 1 ?_;refine tT 2 ?_;refine tT 3 ?_
       try simp only[Act.put,sA,sZ,sS]
       refine tS 4 (v:=?_) ?_ ?_;rotate_left
       ·intro w d;have o:=d;obtain⟨⟨q0,q1,q2⟩,_⟩:=(y.out.below (o rfl)).cells;obtain⟨d0,d1,d2,d3,d4⟩:=HC.out _ (y.out.b.trans ((o rfl).mono y.out.b.size));go_simp;try with_reducible rfl
       try simp only[Act.put,sA,sZ,sS]
       refine tT 5 ?_;refine tT 6 ?_;refine tT 7 ?_;refine tT 8 ?_
       try simp only[Act.put,sA,sZ,sS]
       refine tS 9 (v:=?_) ?_ ?_;rotate_left
       ·intro w d;have o:=d;obtain⟨⟨q0,q1,q2⟩,_⟩:=(y.out.below (o rfl)).cells;obtain⟨d0,d1,d2,d3,d4⟩:=HC.out _ (y.out.b.trans ((o rfl).mono y.out.b.size));go_simp;try with_reducible rfl
       try simp only[Act.put,sA,sZ,sS]
       refine tT 10 ?_
       try simp only[Act.put,sA,sZ,sS]
       refine rdS [11] ?_;refine rcS false (λK l=>?_) ?_
       ·go_simp;refine R.out.mono ?_;rintro e W6 ⟨v6,rfl,aF,Y⟩;dsimp only
        refine l.out _ _ ?_ (λhHeld=>?_)
        ·try dsimp only
         exact λ_=>Y
        clear l K
        try simp only[Act.put,sA,sZ,sS]
        obtain⟨ar,n6,au,q6⟩:∃a n c,v6 = .slice a n c:=by
         obtain⟨a,c,q,_⟩:=Zdfu aF;exact⟨a,_,c,q⟩
        subst q6;have bt:=(y.out.below Y).setL aF;have cg:=(y.out.below Y).cells;have bi:=hid bt;obtain⟨⟨_,cm,_⟩,aP⟩:=cg;have aP:=aP 1;have bS:=hid Y;clear bt aF Y;refine tT 12 ?_;refine tT 13 ?_
        try simp only[Act.put,sA,sZ,sS]
        refine rdS [14] ?_;refine rcS true (λK l=>?_) ?_
        ·go_simp
         refine l.out _ _ ?_ (λhHeld=>?_)
         ·try dsimp only
          exact λh=>absurd h (by simp)
         clear l K
         try simp only[Act.put,sA,sZ,sS]
         refine Zbtu (by kernel_rfl) ?_ _;obtain⟨VB,ah⟩:∃V,V=(W6.setCell ⟨w.heap.size,1,none⟩ (.slice ar n6 au)).drew:=⟨_,rfl⟩;have bz:Below (W6.setCell ⟨w.heap.size,1,none⟩ (.slice ar n6 au)).heap.size (W6.setCell ⟨w.heap.size,1,none⟩ (.slice ar n6 au)) VB:=by rw[ah];exact(Below.refl _ _).drew
         have a3:=bi.out.below bz;have D:=hid a3;obtain⟨_,_,_,_,e4,bk,bl,_,_⟩:=HR.out.below a3.b;simp only[List.cons.injEq,and_true,true_and]at e4;obtain⟨rfl,rfl,_,_⟩:=e4;obtain⟨vp,WB,bI,ap,J⟩:=Zbka (ty:=47) (Zbdk VB.heap.size VB) (Zud bk) (by have:=HZ.out;simp only[List.length_nil];omega) (Nat.le_refl _);rw[List.nil_append]at ap;have I:Below VB.heap.size VB WB:=⟨J.os,J.tape,J.output,J.size,λk hk=>J.block k hk (by simp[Value.ownBlock])⟩;obtain⟨vq,WC,bJ,aI,b9⟩:=Zbka (ty:=47) ap (Zud (bl.below I)) (by have:=HZ.out;omega) I.size;obtain⟨nm,ao⟩:∃nm,x.ins++x.outs=nm:=⟨_,rfl⟩;have c0:nm.length<=12:=by rw[<-ao,List.length_append];have:=HZ.out;omega
         rw[ao]at aI;have bY:=hid ao;clear ao;have b1:Below VB.heap.size VB WC:=I.grown b9 I.size (λk e=>(World.ownsRow.lt ap k e).1);have bf:=hid bI;have bg:=hid bJ;have Q:=hid I;have ay:=hid b1;have a0:=hid aI;clear bz a3 bk bl bI ap J I bJ aI b9 b1 bi bS cm aP y R
         go_wp2_with fail
         refine wp_region_held_drew (S:=λV=>Below VB.heap.size VB V) (by kernel_rfl) ?_ (λhHeld=>?_)
         ·rw[<-ah];exact Below.refl _ _
         rw[<-ah]at hHeld⊢;clear ah;refine tkK 0 ?_;refine tkK 1 ?_;refine tkK 2 ?_;refine tkK 3 ?_
         try simp only[Act.put,sA,sZ,sS]
         refine tkH 4 (v:=?_) ?_ ?_;rotate_left
         ·intro w d;obtain⟨d0,d1,d2,d3,d4⟩:=HC.out _ (D.out.b.trans (d.mono D.out.b.size));go_simp;try with_reducible rfl
         try simp only[Act.put,sA,sZ,sS]
         refine tkK 6 ?_;refine tkK 7 ?_;refine tkK 8 ?_;refine tkK 9 ?_
         try simp only[Act.put,sA,sZ,sS]
         refine tkH 10 (v:=?_) ?_ ?_;rotate_left
         ·intro w d;obtain⟨d0,d1,d2,d3,d4⟩:=HC.out _ (D.out.b.trans (d.mono D.out.b.size));go_simp;try with_reducible rfl
         try simp only[Act.put,sA,sZ,sS]
         refine tkK 13 ?_
         try simp only[Act.put,sA,sZ,sS]
         refine rdH [5] ?_;refine rcH (λK l=>?_) ?_
         ·refine Zbxy rfl _ _ _ rfl rfl rfl bf.out ?_
          refine l.out _ _ ?_ (λhHeld=>?_)
          ·try dsimp only
           exact Q.out
          clear l K
          try simp only[Act.put,sA,sZ,sS]
          refine rdH [11] ?_;refine rcH (λK l=>?_) ?_
          ·refine Zbxy rfl _ _ _ rfl rfl rfl bg.out ?_
           refine l.out _ _ ?_ (λhHeld=>?_)
           ·try dsimp only
            exact ay.out
           clear l K
           try simp only[Act.put,sA,sZ,sS]
           obtain⟨qa,qc,qe,_⟩:=Zbea a0.out;subst qe;refine tkK 12 ?_
           try simp only[Act.put,sA,sZ,sS]
           refine wpAnyH_done (by kernel_rfl) ?_ _;have bj:=hid (show w.heap.size+1<=VB.heap.size from D.out.sz);have bv:=D.out.below ay.out;have cd:=hid bv;have cs:=hid (a0.out.strsA.isStrs);clear bv D Q ay bf bg
           go_wp2_with fail
           go_loopw [58] (λjv wr=>∃(j:Nat) (av:Value),j<=nm.length/\jv = .int .i64 (j:Int)/\RgS w (w.heap.size+1) w.heap.size wr (.slice M n5 O) av (.slice none 0 0) (rs.take (i+1)) (setL ((rs.take i).flatMap labR ++ [(true,x.name)]++Zcyo (nm.take j)))/\OwnStrs VB.heap.size wr (.slice qa nm.length qc) nm) (λjv _=>nm.length-(intOf jv).toNat)
           case atStart=>exact⟨0,.slice ar n6 au,Nat.zero_le _,rfl,by rw[List.take_zero];simpa[Zcyo]using cd.out,a0.out⟩
           case round=>
            obtain⟨j,av,hj,rfl,bq,bC⟩:=hrel;have C:=hid bq;have az:=hid bC;clear bq bC
            by_cases cj:j<nm.length
            ·obtain⟨f,hf⟩:∃f,nm[j]? =some f:=⟨nm[j],List.getElem?_eq_getElem cj⟩
             have ci:(j:Int)<(nm.length:Int):=by omega
             have cy:(0:Int)<=(j:Int):=by omega
             obtain⟨b,oo,rfl,co,b4⟩:=Zdbq az.out.strsA.isStrs hf;have cw:=b4 wr (Below.refl _ _);obtain⟨⟨k0,k1,k2⟩,_⟩:=C.out.cells;have cA:=Zdle (setL ((rs.take i).flatMap labR ++ [(true,x.name)]++Zcyo (nm.take j))) (false,f) av (w.heap.size+1) wr C.out.lab C.out.sz (by
              have A:=Zdig ((rs.take i).flatMap labR ++ [(true,x.name)]++Zcyo (nm.take j));rw[List.length_append,List.length_append,Zcyp,List.length_take]at A;have:=aX.out;simp only[List.length_cons,List.length_nil]at A;omega)
             unfold lv at cA;rw[<-Zdlj,List.append_assoc,<-Zcyr hf]at cA;have R:=hid cA;clear b4 cA hf
             go_wp2_with fail
             refine R.out.mono ?_;rintro e W7 ⟨v7,rfl,aH,ak⟩;obtain⟨bP,n7,bQ,q7⟩:∃a n c,v7 = .slice a n c:=by
              obtain⟨a,c,q,_⟩:=Zdfu aH;exact⟨a,_,c,q⟩
             subst q7;have bu:=(C.out.below ak).setL aH;have c7:=bj.out;have bD:OwnStrs VB.heap.size (W7.setCell ⟨w.heap.size,1,none⟩ (.slice bP n7 bQ)) (.slice (some ⟨b,oo,none⟩) nm.length qc) nm:=World.ownsRow.kept (az.out.below ak) (Zdlk W7 w.heap.size 1 (.slice bP n7 bQ)) (.inr λe=>by
              have A:=(World.ownsRow.lt az.out _ e).1;omega)
             have cc:=hid bu;have bW:=hid bD;obtain⟨⟨_,c8,_⟩,bO⟩:=(C.out.below ak).cells;have bO:=bO 1;clear bu bD aH ak R;go_wp2;go_roundw
             case rel=>exact⟨j+1,_,by omega,by go_num,cc.out,bW.out⟩
             case measure=>simp only[intOf];omega
            ·obtain rfl:j=nm.length:=by omega
             have ci:¬(nm.length:Int)<(nm.length:Int):=by omega
             rw[List.take_length,<-bY.out,<-Zdks HX.out]at C;go_wp2;go_roundw
             case rel=>exact⟨i+1,_,av,by omega,by go_num,C.out⟩
             case measure=>simp only[intOf];omega
          exact AllReadyH.nil
         exact AllReadyH.nil
        exact AllReadyS.nil
       exact AllReadyS.nil
      exact AllReadyS.nil
     exact AllReadyS.nil
    exact AllReadyS.nil
   exact AllReadyS.nil
  ·obtain rfl:i=rs.length:=by omega
   have aB:¬(rs.length:Int)<(rs.length:Int):=by omega
   rw[List.take_length]at G;obtain⟨WP,rfl⟩:∃V,V=wr:=⟨_,rfl⟩;obtain⟨L,hL⟩:∃L,setL (rs.flatMap labR)=L:=⟨_,rfl⟩;have bm:allG rs=L:=hL;rw[hL]at G;obtain⟨aL,cL,q,b6,_,bH,a6⟩:=Zdfu G.out.lab;have bU:=hid b6;clear b6;subst q;have aA:w.heap.size<WP.heap.size:=G.out.sz;have hn:L.length<=1000:=by
    rw[<-hL];have A:=Zdig (rs.flatMap labR);have h2:=aY.out rs.length;rw[List.take_length]at h2;omega
   have hA:RulesA (λb=>b=w.heap.size\/WP.heap.size<=b) WP vr rs:=G.out.rul.rulesA.mono λb hb e=>by
    rcases e with e|e
    ·show b<w.heap.size+1;omega
    ·omega
   have HA:=hid hA;have be:=hid bH;have aQ:=hid (show ∀b,aL=some b->w.heap.size<b.block/\b.block<WP.heap.size from λb e=>⟨by have:=(a6 b e).1;omega,(a6 b e).2⟩);have aZ:=hid (show RgP WP w.heap.size L.length vr (.slice aL L.length cL) 0 (ndM rs L) WP from⟨Fr.refl _ _,_,G.out.blk,NdT.zero _ _ _ _⟩);have Q:=hid G.out.b;have ac:=hid bm;have cq:=Zcfl L.length hn;obtain⟨⟨k0,k1,k2⟩,kf⟩:=G.out.cells;clear bH a6 hA G hL bm
   go_wp2_with fail
   clear k0 k1 k2 kf
   go_loopw [7] (λiv wr=>∃i:Nat,i<=L.length/\iv = .int .i64 (i:Int)/\RgP WP w.heap.size L.length vr (.slice aL L.length cL) i (ndM rs L) wr) (λiv _=>L.length-(intOf iv).toNat)
   case atStart=>exact⟨0,Nat.zero_le _,rfl,aZ.out⟩
   case round=>
    obtain⟨i,hi,rfl,hP⟩:=hrel;have HP:=hid hP;clear hP aZ;obtain⟨vn,⟨k0,k1,k2⟩,kf,hz,ht⟩:=HP.out.cells
    by_cases aE:i<L.length
    ·have aB:(i:Int)<(L.length:Int):=by omega
     obtain⟨an,cn,qn⟩:=ht.shape;subst qn;obtain⟨VP,ai⟩:∃V,V=wr.drew:=⟨_,rfl⟩;have B:Below wr.heap.size wr VP:=by rw[ai];exact(Below.refl _ _).drew
     obtain⟨X1,a4⟩:∃V,VP.alloc (.cells (madeCells #[.bool false] L.length) 4)=V:=⟨_,rfl⟩;obtain⟨X2,a5⟩:∃V,X1.alloc (.cells #[.slice (some ⟨VP.heap.size,0,none⟩) L.length L.length] 93)=V:=⟨_,rfl⟩;have E:Below VP.heap.size VP X1:=by rw[<-a4];exact(Below.refl _ _).alloc (Nat.le_refl _) _
     have W:Below X1.heap.size X1 X2:=by rw[<-a5];exact(Below.refl _ _).alloc (Nat.le_refl _) _
     have z:Below VP.heap.size VP X2:=E.trans (W.mono E.size);have aw:RowX X2 VP.heap.size L.length (λ_=>false):=by
      have A:RowX X1 VP.heap.size L.length (λ_=>false):=by rw[<-a4];exact Zcgy
      exact A.keep (W.block _ A.lt)
     have bN:X2.heap[X1.heap.size]? =some (.cells #[.slice (some ⟨VP.heap.size,0,none⟩) L.length L.length] 93):=by rw[<-a5];exact alloc_at X1 _
     have ad:=HP.out.below B;have ab:=(B.block _ (Array.getElem?_eq_some_iff.1 hz).1).trans hz;have bL:=ht.below B;obtain⟨v9,X3,bG,aM,a8⟩:=bL.push (ty:=37) (gx:=X1.heap.size) z ad.fr.size (by omega) (Nat.le_refl _) bN aw;obtain⟨a9,c9,q9⟩:=aM.shape;subst q9;have aa:∀b,(Value.slice an i cn).ownBlock=some b->WP.heap.size<=b:=λb e=>by
      obtain⟨bs,A,_⟩:=ht;exact(World.ownsRow.lt A b e).1
     have bn:=ad.below z;have aq:=(z.block _ (Array.getElem?_eq_some_iff.1 ab).1).trans ab;have bo:=bn.push aA aq a8 aa aM;have aN:X3.heap[w.heap.size]? =_:=(a8.block w.heap.size (Array.getElem?_eq_some_iff.1 aq).1 (λe=>by have:=aa _ e.symm;omega)).trans aq;have a1:=hid ad;have ba:=hid (bo.congr (M':=mixM rs L i 0) (λj _ k _=>by unfold mixM;by_cases e:j=i<;>simp[e]));have a2:=hid (show ∀V,Below VP.heap.size VP V->V.cell? ⟨w.heap.size,2,none⟩=some (.slice an i cn)from λV P=>by
      have A:=(P.block _ (Array.getElem?_eq_some_iff.1 ab).1).trans ab;simp[World.cell?,A])
     have aR:=hid E;have aS:=hid z;have bc:=hid bG;have aW:=hid (show(X3.cell? ⟨w.heap.size,2,none⟩=some (.slice an i cn))/\∀p,X3.frozen? ⟨w.heap.size,p,none⟩=false from⟨by simp[World.cell?,aN],λp=>by simp[World.frozen?,aN]⟩);clear B E W z aw bN ad ab bL bG aM a8 aa bn aq bo aN hz ht
     go_wp2_with fail
     refine Zbuk (S:=λb V=>b=false->Below VP.heap.size VP V) (st:=12) (by kernel_rfl) ?_ (λhHeld=>?_)
     ·rw[<-ai];exact λ_=>Below.refl _ _
     rw[<-ai]at hHeld⊢;clear ai k0 k1 k2 kf;refine zS 0 (v:=?_) ?_ ?_;rotate_left
     ·intro w d;go_simp;try with_reducible rfl
     try simp only[Act.put,sA,sZ,sS]
     refine tT 1 ?_;refine tT 2 ?_;refine tT 3 ?_
     try simp only[Act.put,sA,sZ,sS]
     refine tS 4 (v:=?_) ?_ ?_;rotate_left
     ·intro w d;have o:=d;have q1:=(a1.out.below (o rfl)).c1;have e2:=a2.out _ (o rfl);go_simp;try with_reducible rfl
     try simp only[Act.put,sA,sZ,sS]
     refine tT 5 ?_;refine tT 6 ?_;refine tT 7 ?_
     try simp only[Act.put,sA,sZ,sS]
     refine tS 8 (v:=?_) ?_ ?_;rotate_left
     ·intro w d;have o:=d;have q1:=(a1.out.below (o rfl)).c1;have e2:=a2.out _ (o rfl);go_simp;try with_reducible rfl
     try simp only[Act.put,sA,sZ,sS]
     refine tT 9 ?_
     try simp only[Act.put,sA,sZ,sS]
     refine rdS [10] ?_;refine rcS false (λK l=>?_) ?_
     ·go_simp;try rw[a4]
      refine l.out _ _ ?_ (λhHeld=>?_)
      ·try dsimp only
       exact λ_=>aR.out
      clear l K
      try simp only[Act.put,sA,sZ,sS]
      refine rdS [11] ?_;refine rcS false (λK l=>?_) ?_
      ·go_simp;try rw[a5]
       refine l.out _ _ ?_ (λhHeld=>?_)
       ·try dsimp only
        exact λ_=>aS.out
       clear l K
       try simp only[Act.put,sA,sZ,sS]
       refine rdS [12] ?_;refine rcS true (λK l=>?_) ?_
       ·refine Zbxy rfl _ _ _ rfl rfl rfl bc.out ?_
        refine l.out _ _ ?_ (λhHeld=>?_)
        ·try dsimp only
         exact λh=>absurd h (by simp)
        clear l K
        try simp only[Act.put,sA,sZ,sS]
        refine zS 13 (v:=?_) ?_ ?_;rotate_left
        ·intro w d;go_simp;try with_reducible rfl
        try simp only[Act.put,sA,sZ,sS]
        refine zS 14 (v:=?_) ?_ ?_;rotate_left
        ·intro w d;go_simp;try with_reducible rfl
        try simp only[Act.put,sA,sZ,sS]
        obtain⟨ku,kf⟩:=aW.out;have kf:=kf 2;refine rdS [15] ?_;refine rcS true (λK l=>?_) ?_
        ·go_simp
         refine l.out _ _ ?_ (λhHeld=>?_)
         ·try dsimp only
          exact λh=>absurd h (by simp)
         clear l K
         try simp only[Act.put,sA,sZ,sS]
         refine Zbtu (by kernel_rfl) ?_ _;have q1:=ba.out.c1;clear a1 a2 aR aS bc ku kf aW hHeld
         go_wp2_with fail
         clear q1
         go_loopw [8] (λkv wr=>∃k:Nat,k<=L.length/\kv = .int .i64 (k:Int)/\RgP WP w.heap.size L.length vr (.slice aL L.length cL) (i+1) (mixM rs L i k) wr) (λkv _=>L.length-(intOf kv).toNat)
         case atStart=>exact⟨0,Nat.zero_le _,rfl,ba.out⟩
         case round=>
          obtain⟨k,hk,rfl,hQ⟩:=hrel;have HQ:=hid hQ;have q1:=hQ.c1;clear hQ
          by_cases aC:k<L.length
          ·obtain⟨la,am⟩:∃x,L[i]? =some x:=⟨L[i],List.getElem?_eq_getElem aE⟩
           obtain⟨lb,aD⟩:∃x,L[k]? =some x:=⟨L[k],List.getElem?_eq_getElem aC⟩;have ck:(k:Int)<(L.length:Int):=by omega
           have cz:(0:Int)<=(k:Int):=by omega
           have ch:(0:Int)<=(i:Int):=by omega
           have cx:(i:Int)<(i:Int)+1:=by omega
           obtain⟨VQ,aj⟩:∃V,V=wr.drew:=⟨_,rfl⟩;have b0:Below wr.heap.size wr VQ:=by rw[aj];exact(Below.refl _ _).drew
           have H:=HQ.out.below b0;obtain⟨cE,gn,c2,b2,rfl,p2,p3,p4,b8,z,ax⟩:=H.put (j:=i) (Nat.lt_succ_self i) aA;have F:=H.labs be.out aQ.out;obtain⟨lg,lo,rfl,x0,x1⟩:=F i la am;obtain⟨cB,cD,q,y0,y1⟩:=F k lb aD
           cases q
           have bA:=(H.cells).elim λ_ h=>(Array.getElem?_eq_some_iff.1 h.2.2.1).1
           have HF:=hid (show ∀V,Below VQ.heap.size VQ V->(V.cell? { block:=w.heap.size,off:=2 } =some (.slice (some ⟨gn,0,none⟩) (i+1) c2)/\V.cell? { block:=w.heap.size,off:=1 } =some (.slice (some ⟨lg,lo,none⟩) L.length cL))/\V.cell? ⟨gn,i,none⟩=some (.slice (some ⟨b2,0,none⟩) L.length L.length)/\(V.cell? ⟨lg,lo+i*2,none⟩=some (.bool la.1)/\V.cell? ⟨lg,lo+i*2+1,none⟩=some (.string la.2))/\V.cell? ⟨lg,lo+k*2,none⟩=some (.bool lb.1)/\V.cell? ⟨lg,lo+k*2+1,none⟩=some (.string lb.2)from λV P=>⟨⟨(P.cell bA).trans p2,(H.below P).c1⟩,(P.cell b8).trans p3,⟨(P.cell (World.block_lt_of_cell? _ _ x0)).trans x0,(P.cell (World.block_lt_of_cell? _ _ x1)).trans x1⟩,(P.cell (World.block_lt_of_cell? _ _ y0)).trans y0,(P.cell (World.block_lt_of_cell? _ _ y1)).trans y1⟩);have cb:=hid ax;have bZ:=hid (show ∀V,Below VQ.heap.size VQ V->(∃t,V.cell? ⟨b2,k,none⟩=some (.bool t))/\V.frozen? ⟨b2,k,none⟩=false from λV P=>⟨⟨_,(P.cell z).trans (p4 k aC).1⟩,(World.frozen?_of_block (a:=⟨b2,k,none⟩) (P.block b2 z)).trans (p4 k aC).2⟩);have b3:=H.old Q.out (Nat.le_refl _);have cN:=Zdlg _ rs la lb VQ (bd.out.below b3) HT.out (λA=>by
            have h2:=List.mem_of_getElem? am;rw[<-ac.out]at h2;obtain⟨r,hr,⟨_,h4⟩|⟨h3,_⟩⟩:=Zcwx.1 h2
            ·exact⟨r,hr,h4.symm⟩
            ·rw[A]at h3;cases h3)
           unfold lv at cN;have bV:=hid cN;have bX:=hid (show ∀t:Bool,(t=true↔lb∈Zdes rs la)->t=ndM rs L i k from λt ht=>Bool.eq_iff_iff.2 (ht.trans (Zdky am aD).symm));clear b0 H p2 p3 p4 b8 z ax F x0 x1 y0 y1 bA b3 cN am aD HQ
           go_wp2_with fail
           refine Zbuk (S:=λb V=>b=false->Below VQ.heap.size VQ V) (st:=25) (by kernel_rfl) ?_ (λhHeld=>?_)
           ·rw[<-aj];exact λ_=>Below.refl _ _
           rw[<-aj]at hHeld⊢;clear aj;refine tT 0 ?_;refine tT 1 ?_;refine tT 2 ?_
           try simp only[Act.put,sA,sZ,sS]
           refine tS 3 (v:=?_) ?_ ?_;rotate_left
           ·intro w d;have o:=d;obtain⟨⟨e0,e1⟩,e2,⟨e3,e4⟩,e5,e6⟩:=HF.out _ (o rfl);go_simp;try with_reducible rfl
           try simp only[Act.put,sA,sZ,sS]
           refine tT 4 ?_;refine tT 5 ?_
           try simp only[Act.put,sA,sZ,sS]
           refine tS 6 (v:=?_) ?_ ?_;rotate_left
           ·intro w d;have o:=d;obtain⟨⟨e0,e1⟩,e2,⟨e3,e4⟩,e5,e6⟩:=HF.out _ (o rfl);go_simp;try with_reducible rfl
           try simp only[Act.put,sA,sZ,sS]
           refine tT 7 ?_;refine tT 8 ?_;refine tT 9 ?_;refine tT 10 ?_;refine tT 11 ?_
           try simp only[Act.put,sA,sZ,sS]
           refine tS 12 (v:=?_) ?_ ?_;rotate_left
           ·intro w d;have o:=d;obtain⟨⟨e0,e1⟩,e2,⟨e3,e4⟩,e5,e6⟩:=HF.out _ (o rfl);go_simp;try with_reducible rfl
           try simp only[Act.put,sA,sZ,sS]
           refine tT 13 ?_;refine tT 14 ?_
           try simp only[Act.put,sA,sZ,sS]
           refine tS 15 (v:=?_) ?_ ?_;rotate_left
           ·intro w d;have o:=d;obtain⟨⟨e0,e1⟩,e2,⟨e3,e4⟩,e5,e6⟩:=HF.out _ (o rfl);go_simp;try with_reducible rfl
           try simp only[Act.put,sA,sZ,sS]
           refine tT 16 ?_;refine tT 17 ?_;refine tT 18 ?_
           try simp only[Act.put,sA,sZ,sS]
           refine tS 19 (v:=?_) ?_ ?_;rotate_left
           ·intro w d;have o:=d;obtain⟨⟨e0,e1⟩,e2,⟨e3,e4⟩,e5,e6⟩:=HF.out _ (o rfl);go_simp;try with_reducible rfl
           try simp only[Act.put,sA,sZ,sS]
           refine tT 20 ?_;refine tT 21 ?_
           try simp only[Act.put,sA,sZ,sS]
           refine tS 22 (v:=?_) ?_ ?_;rotate_left
           ·intro w d;have o:=d;obtain⟨⟨e0,e1⟩,e2,⟨e3,e4⟩,e5,e6⟩:=HF.out _ (o rfl);go_simp;try with_reducible rfl
           try simp only[Act.put,sA,sZ,sS]
           refine rdS [23] ?_;refine rcS false (λK l=>?_) ?_
           ·go_simp;refine bV.out.mono ?_;rintro e V5 ⟨⟨t,rfl,ht⟩,hb5⟩;dsimp only
            refine l.out _ _ ?_ (λhHeld=>?_)
            ·try dsimp only
             exact λ_=>hb5
            clear l K
            try simp only[Act.put,sA,sZ,sS]
            have bM:=bX.out t ht;obtain⟨⟨t0,ku⟩,kf⟩:=bZ.out _ hb5;have HE:=hid ((cb.out V5 hb5 k t).congr (M':=mixM rs L i (k+1)) (λj hj m hm=>by
             unfold upd mixM
             by_cases e:j=i
             ·subst e
              by_cases e2:m=k
              ·subst e2
               simp[bM]
              ·have A:(m<k+1)=(m<k):=by rw[eq_iff_iff];omega
               simp[e2,A]
             ·simp[e]))
            clear ht bM hb5;refine tT 24 ?_
            try simp only[Act.put,sA,sZ,sS]
            refine rdS [25] ?_;refine rcS true (λK l=>?_) ?_
            ·go_simp
             refine l.out _ _ ?_ (λhHeld=>?_)
             ·try dsimp only
              exact λh=>absurd h (by simp)
             clear l K
             try simp only[Act.put,sA,sZ,sS]
             refine Zbtu (by kernel_rfl) ?_ _;go_wp2;go_roundw
             case rel=>exact⟨k+1,by omega,by go_num,HE.out⟩
             case measure=>simp only[intOf];omega
            exact AllReadyS.nil
           exact AllReadyS.nil
          ·obtain rfl:k=L.length:=by omega
           have ck:¬(L.length:Int)<(L.length:Int):=by omega
           have HE:=hid (HQ.out.congr (M':=ndM rs L) (λj hj m hm=>by unfold mixM;by_cases e:j=i<;>simp[e,hm]));go_wp2;go_roundw
           case rel=>exact⟨i+1,by omega,by go_num,HE.out⟩
           case measure=>simp only[intOf];omega
        exact AllReadyS.nil
       exact AllReadyS.nil
      exact AllReadyS.nil
     exact AllReadyS.nil
    ·obtain rfl:i=L.length:=by omega
     have aB:¬(L.length:Int)<(L.length:Int):=by omega
     have HE:=hid (show RgF w w.heap.size rs wr from⟨WP,vr,aL,cL,aA,by rw[ac.out];exact HP.out,HA.out,by rw[ac.out];exact be.out,aQ.out,Q.out,Nat.le_refl _,by rw[ac.out];exact bU.out⟩);go_wp2;go_ret;exact⟨_,rfl,HE.out⟩
