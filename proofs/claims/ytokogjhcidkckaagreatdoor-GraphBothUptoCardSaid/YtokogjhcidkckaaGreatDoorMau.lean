import Derived.Deep.RegionHeld3
import Derived.Test.YtokogjhcidkckaaGreatDoorMap
namespace Go.Proofs.YtokogjhcidkckaaGreatDoor
open Go.Lib (hid)
open Go.Proofs.Tryz
open Go.RowKit Go.Shelf
theorem Zqz {w w':World} {o:Obj} (hg:(w.alloc o).grownBy w' none):w'.heap[w.heap.size]? =some o:=(hg.block _ (by simp) (by simp)).trans (alloc_at w o)
theorem Zrb {w w':World} {o:Obj} (hg:(w.alloc o).drew.grownBy w' none):w'.heap[w.heap.size]? =some o:=(hg.block w.heap.size (by show _<(w.alloc o).heap.size;simp) (by simp)).trans (alloc_at w o)
theorem Zrf {w w':World} {g:Nat} {o:Obj} (hg:w.grownBy w' none) (hz:w.heap[g]? =some o):w'.heap[g]? =some o:=by
 refine(hg.block _ ?_ (by simp)).trans hz
 rcases Nat.lt_or_ge g w.heap.size with h|h
 ·exact h
 ·rw[Array.getElem?_eq_none h]at hz;cases hz
theorem Zfn {B g:Nat} {w0 w:World} (h:Below B w0 w) (hg:B<=g) (u0 u1 u2 u3 u4:Value):Below B w0 (((((w.setCell ⟨g,0,none⟩ u0).setCell ⟨g,1,none⟩ u1).setCell ⟨g,2,none⟩ u2).setCell ⟨g,3,none⟩ u3).setCell ⟨g,4,none⟩ u4):=
 ((((h.setCell hg _).setCell hg _).setCell hg _).setCell hg _).setCell hg _
theorem Zlx (w:World):w.drew.heap.size=w.heap.size:=rfl
theorem Zdj (w:World) (o:Obj):(w.alloc o).heap.size=w.heap.size+1:=by simp
theorem Zrs {w:World} {g:Nat} {t:TypeId} {z0 z1 z2 z3 z4:Value} (hz:w.heap[g]? =some (.cells #[z0,z1,z2,z3,z4] t)) (u0 u1 u2 u3 u4:Value):
  (((((w.setCell ⟨g,0,none⟩ u0).setCell ⟨g,1,none⟩ u1).setCell ⟨g,2,none⟩ u2).setCell ⟨g,3,none⟩ u3).setCell ⟨g,4,none⟩ u4).heap[g]? =some (.cells #[u0,u1,u2,u3,u4] t):=
 heap_set 4 u4 (heap_set 3 u3 (heap_set 2 u2 (heap_set 1 u1 (heap_set 0 u0 hz))))
theorem Zpz {Av:Nat->Prop} {w:World} {g:Nat} (hg:Av g) (u0 u1 u2 u3 u4:Value):Fr Av w (((((w.setCell ⟨g,0,none⟩ u0).setCell ⟨g,1,none⟩ u1).setCell ⟨g,2,none⟩ u2).setCell ⟨g,3,none⟩ u3).setCell ⟨g,4,none⟩ u4):=
 ((((Zpy (a:=⟨g,0,none⟩) hg u0).trans (Zpy (a:=⟨g,1,none⟩) hg u1)).trans (Zpy (a:=⟨g,2,none⟩) hg u2)).trans (Zpy (a:=⟨g,3,none⟩) hg u3)).trans (Zpy (a:=⟨g,4,none⟩) hg u4)
theorem Zbqn {w w':World} {B B0 g:Nat} {v:Value} {xs:List ByteArray} (h:StrsW (λb=>b<B0) w v xs) (hb:Below w.heap.size w w') (hB:∀b,b<w.heap.size->(b<B∨b=g)->b<B0):StrsW (λb=>b<B∨b=g) w' v xs:=
 StrsW.keep (StrsW.mono h hB) (Zpv hb)
theorem Zrd {w w':World} (hg:w.grownBy w' none):Below w.heap.size w w':=Zfj (Below.refl _ _) hg (Nat.le_refl _)
theorem Zre {w w':World} {o:Obj} (hg:(w.alloc o).grownBy w' none):Below w.heap.size w w':=Zfj ((Below.refl _ _).alloc (Nat.le_refl _) _) hg (by simp)
theorem Zfo {w w1 w2:World} (h:Below w.heap.size w w1) (h2:Below w1.heap.size w1 w2):Below w.heap.size w w2:=h.trans (h2.mono h.size)
def Ap3 (u v x:Value):Prop:=∀b,(u.ownBlock=some b->v.ownBlock≠some b/\x.ownBlock≠some b)/\(v.ownBlock=some b->x.ownBlock≠some b)
def Zal (B:Nat) (x:RuleS) (g:Nat) (W:World):Prop:=∃vi vo vf,W.heap[g]? =some (.cells #[.string x.name,vi,vo,vf,.slice none 0 0] 50)/\StrsW (λb=>b<B∨b=g) W vi x.ins/\StrsW (λb=>b<B∨b=g) W vo x.outs/\StrsW (λb=>b<B∨b=g) W vf x.after/\Ap3 vi vo vf
theorem Zks {B g:Nat} {x:RuleS} {w:World} {t0 t1 t2 t3 t4 vi vo vf:Value} (hz:w.heap[g]? =some (.cells #[t0,t1,t2,t3,t4] 50)) (h1:StrsW (λb=>b<B∨b=g) w vi x.ins) (h2:StrsW (λb=>b<B∨b=g) w vo x.outs) (h3:StrsW (λb=>b<B∨b=g) w vf x.after) (h4:Ap3 vi vo vf):
  Zal B x g (((((w.setCell ⟨g,0,none⟩ (.string x.name)).setCell ⟨g,1,none⟩ vi).setCell ⟨g,2,none⟩ vo).setCell ⟨g,3,none⟩ vf).setCell ⟨g,4,none⟩ (.slice none 0 0)):=
 ⟨vi,vo,vf,Zrs hz _ _ _ _ _,StrsW.keep h1 (Zpz (.inr rfl) _ _ _ _ _),StrsW.keep h2 (Zpz (.inr rfl) _ _ _ _ _),StrsW.keep h3 (Zpz (.inr rfl) _ _ _ _ _),h4⟩
theorem Zkr {B:Nat} {x:RuleS} {w:World} {vi vo vf:Value} (h1:StrsW (λb=>b<B∨b=w.heap.size) w vi x.ins) (h2:StrsW (λb=>b<B∨b=w.heap.size) w vo x.outs) (h3:StrsW (λb=>b<B∨b=w.heap.size) w vf x.after) (h4:Ap3 vi vo vf):
  Zal B x w.heap.size (w.alloc (.cells #[.string x.name,vi,vo,vf,.slice none 0 0] 50)):=
 ⟨vi,vo,vf,alloc_at _ _,StrsW.keep h1 (Zpu _ _ _),StrsW.keep h2 (Zpu _ _ _),StrsW.keep h3 (Zpu _ _ _),h4⟩
structure CopyL (W1 WC:World) (g:Nat) (x:RuleS) (vi vo vf vv:Value) (rs:List (List Value)) (ys:List StepS) (wr:World):Prop where
 below:Below W1.heap.size W1 wr
 record:wr.heap[g]? =some (.cells #[.string x.name,vi,vo,vf,vv] 50)
 ins:StrsW (λb=>b<W1.heap.size∨b=g∨WC.heap.size<=b) wr vi x.ins
 outs:StrsW (λb=>b<W1.heap.size∨b=g∨WC.heap.size<=b) wr vo x.outs
 after:StrsW (λb=>b<W1.heap.size∨b=g∨WC.heap.size<=b) wr vf x.after
 size:WC.heap.size<=wr.heap.size
 own:wr.ownsRow WC.heap.size 60 5 vv rs.length rs.flatten
 all:AllA (StepA (AvOf WC.heap.size vv) wr) rs ys
section
variable {W1 WC:World} {g:Nat} {x:RuleS} {vi vo vf vv:Value} {rs:List (List Value)} {ys:List StepS} {wr w':World}
theorem CopyL.step (h:CopyL W1 WC g x vi vo vf vv rs ys wr) (hg:g<WC.heap.size) (hb:Below wr.heap.size wr w'):CopyL W1 WC g x vi vo vf vv rs ys w':=
 ⟨h.below.trans (hb.mono h.below.size),(hb.block g (Nat.lt_of_lt_of_le hg h.size)).trans h.record,StrsW.keep h.ins (Zpv hb),StrsW.keep h.outs (Zpv hb),StrsW.keep h.after (Zpv hb),Nat.le_trans h.size hb.size,
  World.ownsRow.kept (row:=none) h.own ⟨hb.os,hb.tape,hb.output,hb.size,λk hk _=>hb.block k hk⟩ (by cases Value.ownBlock _<;>simp),h.all.imp λr x h=>h.keep (Zpv hb)⟩
theorem CopyL.grow (h:CopyL W1 WC g x vi vo vf vv rs ys wr) (hg0:W1.heap.size<=g) (hg:g<WC.heap.size) {r:List Value} {y:StepS} {a n c:_} (hgr:wr.grownBy w' vv.ownBlock) (hnew:∀b,(Value.slice a n c).ownBlock=some b->vv.ownBlock=some b∨wr.heap.size<=b)
  (hr:StepA (AvOf WC.heap.size vv) wr r y) (ho:w'.ownsRow WC.heap.size 60 5 (.slice a n c) (rs.length+1) (rs.flatten++r)):
  CopyL W1 WC g x vi vo vf (.slice a n c) (rs ++ [r]) (ys ++ [y]) (w'.setCell ⟨g,4,none⟩ (.slice a n c)):=by
 have hown:∀k,vv.ownBlock=some k->WC.heap.size<=k:=λk hk=>(h.own.lt k hk).1
 have hW1:W1.heap.size<=WC.heap.size:=by omega
 have hfr:Fr (λb=>b<W1.heap.size∨b=g∨WC.heap.size<=b) wr w':=Zpx hgr λk hk=> .inr (.inr (hown k hk))
 have hfs:Fr (λb=>b<W1.heap.size∨b=g∨WC.heap.size<=b) w' (w'.setCell ⟨g,4,none⟩ (.slice a n c)):=Zpy (a:=⟨g,4,none⟩) (.inr (.inl rfl)) _;have hsg:Fr (λb=>b=g) w' (w'.setCell ⟨g,4,none⟩ (.slice a n c)):=Zpy (Av:=λb=>b=g) (a:=⟨g,4,none⟩) rfl _;have hrec:w'.heap[g]? =some (.cells #[.string x.name,vi,vo,vf,vv] 50):=(hgr.block g (Nat.lt_of_lt_of_le hg h.size) (λe=>by have:=hown g e.symm;omega)).trans h.record;have hall:=(Zqy (h.all.snoc hr) hgr hnew).imp λr' y' (h':StepA (AvOf WC.heap.size (.slice a n c)) w' r' y')=>h'.keep (hsg.mono λb _ e=> .inl (by subst e;exact hg))
 refine⟨(h.below.grown hgr h.below.size λk hk=>by have:=hown k hk;omega).setCell hg0 _,heap_set 4 _ hrec,StrsW.keep (StrsW.keep h.ins hfr) hfs,StrsW.keep (StrsW.keep h.outs hfr) hfs,StrsW.keep (StrsW.keep h.after hfr) hfs,Nat.le_trans h.size (by simpa[World.setCell]using hgr.size),?_,hall⟩;have h1:=ownsRow_setCell_below (a:=⟨g,4,none⟩) ho hg (.slice a n c);rw[List.length_append,List.flatten_append];simpa using h1
end
theorem Zbot {w:World} {v:Value} {xs:List StepS} (h:StepsI w v xs) {k:Nat} {y:StepS} (hy:xs[k]? =some y):
  ∃b o cap a1 c1 a2 c2,v = .slice (some ⟨b,o,none⟩) xs.length cap/\b<w.heap.size/\IsStrs w (.slice a1 y.args.length c1) y.args/\IsStrs w (.slice a2 y.lits.length c2) y.lits/\
   ∀w',Below w.heap.size w w'->w'.cell? ⟨b,o+k*5,none⟩=some (.string y.out)/\w'.cell? ⟨b,o+k*5+1,none⟩=some (.int .i64 y.op)/\w'.cell? ⟨b,o+k*5+2,none⟩=some (.slice a1 y.args.length c1)/\w'.cell? ⟨b,o+k*5+3,none⟩=some (.slice a2 y.lits.length c2)/\w'.cell? ⟨b,o+k*5+4,none⟩=some (.int .i64 y.n):=by
 obtain⟨rows,⟨a,c,rfl,_,_,h2⟩,hall⟩:=h;have hk:k<rows.length:=by rw[hall.1];exact(List.getElem?_eq_some_iff.1 hy).1
 obtain⟨va,vl,e,ha,hl⟩:=hall.2 k _ y (List.getElem?_eq_getElem hk) hy;obtain⟨b,o,rfl,hb,hc⟩:=h2 (by rintro rfl;simp at hk);obtain⟨a1,c1,rfl,q1⟩:=id ha;obtain⟨a2,c2,rfl,q2⟩:=id hl;refine⟨b,o,c,a1,c1,a2,c2,by rw[hall.1],hb,ha,hl,λw' hw=>?_⟩;have key:∀(i:Nat) u,rows[k][i]? =some u->w'.cell? ⟨b,o+k*5+i,none⟩=some u:=λi u hu=>(hw.cell (p:=⟨b,o+k*5+i,none⟩) hb).trans (hc k _ (List.getElem?_eq_getElem hk) i u hu)
 rw[e]at key;exact⟨key 0 _ rfl,key 1 _ rfl,key 2 _ rfl,key 3 _ rfl,key 4 _ rfl⟩
theorem Zbnj {wr w':World} {B:Nat} {vv:Value} {y:StepS} {va vl:Value} (h1:StrsA (λb=>b<wr.heap.size) w' va y.args) (h2:StrsA (λb=>b<wr.heap.size) w' vl y.lits) (hB:B<=wr.heap.size) (ho:∀b,vv.ownBlock=some b->b<wr.heap.size):
  StepA (AvOf B vv) w' [.string y.out,.int .i64 y.op,va,vl,.int .i64 y.n] y:=
 StepA.mono (Av:=λb=>b<wr.heap.size) ⟨va,vl,rfl,h1,h2⟩ λb _ e=>by
  rcases e with e|e
  ·omega
  ·exact ho b e
def RuleO (w w':World) (x:RuleS) (e:Ending):Prop:=
 ∃vi vo vf vs,e = .returned (.agg #[.string x.name,vi,vo,vf,vs])/\StrsO (λb=>b<w.heap.size) w' vi x.ins/\StrsO (λb=>b<w.heap.size) w' vo x.outs/\StrsO (λb=>b<w.heap.size) w' vf x.after/\StepsA (λb=>b<w.heap.size) w' vs x.steps/\OpenV w' vs
def RuleF (w w':World) (x:RuleS) (e:Ending):Prop:=
 ∃vi vo vf vs,e = .returned (.agg #[.string x.name,vi,vo,vf,vs])/\StrsO (λb=>b<w.heap.size) w' vi x.ins/\StrsO (λb=>b<w.heap.size) w' vo x.outs/\StrsO (λb=>b<w.heap.size) w' vf x.after/\StepsA (λb=>b<w.heap.size) w' vs x.steps/\OpenV w' vs/\Ap3 vi vo vf/\
  ∃B0,(∀b,vi.ownBlock=some b∨vf.ownBlock=some b->b<B0)/\StepsA (λb=>b<B0) w' vs x.steps
theorem RuleF.o {w w':World} {x:RuleS} {e:Ending} (h:RuleF w w' x e):RuleO w w' x e:=by
 obtain⟨vi,vo,vf,vs,h0,h1,h2,h3,h4,h5,_⟩:=h;exact⟨vi,vo,vf,vs,h0,h1,h2,h3,h4,h5⟩
theorem RuleO.e {w w':World} {x:RuleS} {e:Ending} (h:RuleO w w' x e):Zbu w w' x e:=by
 obtain⟨vi,vo,vf,vs,h0,h1,h2,h3,h4,_⟩:=h;exact⟨vi,vo,vf,vs,h0,h1.1,h2.1,h3.1,h4⟩
def RuleW (w w':World) (x:RuleS) (e:Ending):Prop:=
 ∃vi vo vf vs rs B0,e = .returned (.agg #[.string x.name,vi,vo,vf,vs])/\StrsW (λb=>b<w.heap.size) w' vi x.ins/\StrsW (λb=>b<w.heap.size) w' vo x.outs/\StrsW (λb=>b<w.heap.size) w' vf x.after/\Ap3 vi vo vf/\
  w.heap.size<=B0/\B0<=w'.heap.size/\(∀b,vi.ownBlock=some b∨vo.ownBlock=some b∨vf.ownBlock=some b->b<B0)/\w'.ownsRow B0 60 5 vs rs.length rs.flatten/\AllA (StepA (AvOf B0 vs) w') rs x.steps
theorem RuleW.f {w w':World} {x:RuleS} {e:Ending} (h:RuleW w w' x e):RuleF w w' x e:=by
 obtain⟨vi,vo,vf,vs,rs,B0,h0,h1,h2,h3,h4,h5,_,h6,h7,h8⟩:=h;have h9:StepsA (λb=>b<B0) w' vs x.steps:=⟨rs,Zbif h7 (h8.len λr x h=>h.len),h8.imp λr x h=>h.mono λb _ hb=> .inl hb⟩;exact⟨vi,vo,vf,vs,h0,h1.1,h2.1,h3.1,h9.mono λb _ hb=>by omega,Zbcv h7,h4,B0,λb hb=>h6 b (hb.elim .inl λh=> .inr (.inr h)),h9⟩
set_option maxHeartbeats 20000000 in
set_option maxRecDepth 100000 in
theorem Zckf (x:RuleS) (vi vo vf vs:Value) (w:World) (h:RuleI w [.string x.name,vi,vo,vf,vs] x) (hf:SmallR x 1048576):
  Calls prog 55 #[.agg #[.string x.name,vi,vo,vf,vs]] w λe w'=>RuleW w w' x e/\Below w.heap.size w w':=by
 obtain⟨_,_,_,_,q,h1,h2,h3,h4⟩:=h
 cases q
 obtain⟨a1,c1,rfl,_⟩:=id h1;obtain⟨a2,c2,rfl,_⟩:=id h2;obtain⟨a3,c3,rfl,_⟩:=id h3;obtain⟨rows,hrow,hall⟩:=id h4;obtain⟨a4,c4,rfl,_⟩:=id hrow;obtain⟨ob,hob⟩:∃o:Obj,o = .cells #[.string x.name,.slice a1 x.ins.length c1,.slice a2 x.outs.length c2,.slice a3 x.after.length c3,.slice a4 rows.length c4] 50:=⟨_,rfl⟩;obtain⟨W1,hW1⟩:∃W1,(w.alloc ob).alloc (.cells #[.string ⟨#[]⟩,.slice none 0 0,.slice none 0 0,.slice none 0 0,.slice none 0 0] 50)=W1:=⟨_,rfl⟩;have hb1:Below w.heap.size w W1:=by rw[<-hW1];exact((Below.refl _ _).alloc (Nat.le_refl _) _).alloc (by simp) _
 have hs1:W1.heap.size=w.heap.size+2:=by rw[<-hW1];simp
 have hx1:W1.heap[w.heap.size]? =some ob:=by rw[<-hW1,Below.heap_alloc _ _ _ (by simp)];exact alloc_at w ob
 have hx2:W1.heap[w.heap.size+1]? =some (.cells #[.string ⟨#[]⟩,.slice none 0 0,.slice none 0 0,.slice none 0 0,.slice none 0 0] 50):=by
  rw[<-hW1];have:=alloc_at (w.alloc ob) (.cells #[.string ⟨#[]⟩,.slice none 0 0,.slice none 0 0,.slice none 0 0,.slice none 0 0] 50);simpa using this
 subst hob;have hcell:∀w',Below W1.heap.size W1 w'->_:=λw' (hb:Below W1.heap.size W1 w')=>cells5 ((hb.block w.heap.size (by omega)).trans hx1)
 have hc0:=λw' hb=>(hcell w' hb).1
 have hc1:=λw' hb=>(hcell w' hb).2.1
 have hc2:=λw' hb=>(hcell w' hb).2.2.1
 have hc3:=λw' hb=>(hcell w' hb).2.2.2.1
 have hc4:=λw' hb=>(hcell w' hb).2.2.2.2.1
 have HC4:=hid hc4;have HS0:Hid (Below W1.heap.size W1 W1.drew):=by show Below _ _ _;exact(Below.refl _ _).drew
 have HU:Hid (∀w' o,Below W1.heap.size W1 w'->Below W1.heap.size W1 (w'.alloc o)):=by show ∀w' o,_;exact λw' o h=>h.alloc h.size o
 have HUD:Hid (∀o,Below W1.heap.size W1 (W1.alloc o).drew):=by show ∀o,_;exact λo=>((Below.refl _ _).alloc (Nat.le_refl _) o).drew
 have HB1:=hid hb1;have H1:Hid (∀w',Below W1.heap.size W1 w'->IsStrs w' (.slice a1 x.ins.length c1) x.ins):=by show ∀w',_;exact λw' hb=>h1.below (hb1.trans (hb.mono hb1.size))
 have H2:Hid (∀w',Below W1.heap.size W1 w'->IsStrs w' (.slice a2 x.outs.length c2) x.outs):=by show ∀w',_;exact λw' hb=>h2.below (hb1.trans (hb.mono hb1.size))
 have H3:Hid (∀w',Below W1.heap.size W1 w'->IsStrs w' (.slice a3 x.after.length c3) x.after):=by show ∀w',_;exact λw' hb=>h3.below (hb1.trans (hb.mono hb1.size))
 have H4:=hid h4;have HX2:=hid hx2;have HW1:=hid hW1;have N1:=hid hf.ins.1;have N2:=hid hf.outs.1;have N3:=hid hf.after.1;have HFS:=hid hf;have HS1:=hid hs1;clear hcell h1 h2 h3 h4 hb1 hs1 hx1 hx2 hc4 hf hrow hW1
 go_enter func55,ntmps55
 go_upto_region 1 with fail
 rw[HW1.out]
 go_cut [3] (λt wx=>∃g,t = .pointer (some ⟨g,0,none⟩)/\W1.heap.size<=g/\Below W1.heap.size W1 wx/\Zal W1.heap.size x g wx)
 case first=>
  refine wp_region_held_drew (S:=λw'=>Below W1.heap.size W1 w') (by kernel_rfl) ?_ (λhHeld=>?_)
  ·exact HS0.out
  refine tkK 0 ?_;refine tkK 1 ?_;refine tkK 2 ?_;refine tkK 3 ?_;refine tkK 5 ?_;refine tkK 6 ?_;refine tkK 8 ?_;refine tkK 9 ?_
  try simp only[Act.put,sA,sZ,sS]
  refine rdH [4,12] ?_;refine rcH (λK hK=>?_) ?_
  ·refine Zbod (by rfl) _ _ (by rfl) (by rfl) (by rfl) (H1.out _ (by assumption)) N1.out ?_;intro i1 i2 i3 wI hsI hgI;skip;have hSn:=Zfj (show Below W1.heap.size W1 _ by assumption) hgI (show Below W1.heap.size W1 _ by assumption).size
   refine hK.out _ _ ?_ (λhHeld=>?_)
   ·try dsimp only
    assumption
   clear hK K
   try simp only[Act.put,sA,sZ,sS]
   refine rdH [7,12] ?_;refine rcH (λK hK=>?_) ?_
   ·refine Zbod (by rfl) _ _ (by rfl) (by rfl) (by rfl) (H2.out _ (by assumption)) N2.out ?_;intro j1 j2 j3 wO hsO hgO;skip;have hSn:=Zfj (show Below W1.heap.size W1 _ by assumption) hgO (show Below W1.heap.size W1 _ by assumption).size
    refine hK.out _ _ ?_ (λhHeld=>?_)
    ·try dsimp only
     assumption
    clear hK K
    try simp only[Act.put,sA,sZ,sS]
    refine rdH [10,12] ?_;refine rcH (λK hK=>?_) ?_
    ·refine Zbod (by rfl) _ _ (by rfl) (by rfl) (by rfl) (H3.out _ (by assumption)) N3.out ?_;intro l1 l2 l3 wF hsF hgF;skip;have hSn:=Zfj (show Below W1.heap.size W1 _ by assumption) hgF (show Below W1.heap.size W1 _ by assumption).size
     refine hK.out _ _ ?_ (λhHeld=>?_)
     ·try dsimp only
      assumption
     clear hK K
     try simp only[Act.put,sA,sZ,sS]
     refine tkK 11 ?_
     try simp only[Act.put,sA,sZ,sS]
     refine rdH [12] ?_;refine rcH (λK hK=>?_) ?_
     ·go_simp
      refine hK.out _ _ ?_ (λhHeld=>?_)
      ·try dsimp only
       exact HU.out _ _ (by assumption)
      clear hK K
      try simp only[Act.put,sA,sZ,sS]
      refine rdH [13] ?_;refine rcH (λK hK=>?_) ?_
      ·go_simp
       refine hK.out _ _ ?_ (λhHeld=>?_)
       ·try dsimp only
        exact HU.out _ _ (by assumption)
       clear hK K
       try simp only[Act.put,sA,sZ,sS]
       refine wpAnyH_done (by kernel_rfl) ?_ _;have s1:=hgI.size;have s2:=hgO.size;have s3:=hgF.size
       (try simp only[Zlx]at s1 s2 s3);(try simp only[Zdj]at s1 s2 s3)
       have hOF:Below wO.heap.size wO wF:=by first|exact Zrd hgF|exact Zre hgF
       have hIO:Below wI.heap.size wI wO:=by first|exact Zrd hgO|exact Zre hgO
       have hIF:=Zfo hIO hOF
       try clear y0 y1 y2 y3 y4 u0 u1 u2 u3 u4
       go_wp2_with fail
       go_meet;refine⟨_,rfl,by omega,by assumption,?_⟩;exact Zkr (Zbqn hsI hIF (by intro b hb1 hb2;(try simp only[Zlx]);(try simp only[Zdj]);omega)) (Zbqn hsO hOF (by intro b hb1 hb2;(try simp only[Zlx]);(try simp only[Zdj]);omega)) (Zbqn hsF (Below.refl _ _) (by intro b hb1 hb2;(try simp only[Zlx]);(try simp only[Zdj]);omega)) (λb=>⟨λh1=>⟨λh2=>(by have q1:=(hsI.1.1.2 b h1).1;have q2:¬b<_:=(hsO.1.1.2 b h2).2;(try simp only[Zlx]at q1 q2);(try simp only[Zdj]at q1 q2);omega),λh2=>(by have q1:=(hsI.1.1.2 b h1).1;have q2:¬b<_:=(hsF.1.1.2 b h2).2;(try simp only[Zlx]at q1 q2);(try simp only[Zdj]at q1 q2);omega)⟩,λh1 h2=>(by have q1:=(hsO.1.1.2 b h1).1;have q2:¬b<_:=(hsF.1.1.2 b h2).2;(try simp only[Zlx]at q1 q2);(try simp only[Zdj]at q1 q2);omega)⟩)
      exact AllReadyH.nil
     exact AllReadyH.nil
    refine rcH (λK hK=>?_) ?_
    ·go_simp
     refine hK.out _ _ ?_ (λhHeld=>?_)
     ·try dsimp only
      exact HU.out _ _ (by assumption)
     clear hK K
     try simp only[Act.put,sA,sZ,sS]
     refine rdH [10] ?_;refine rcH (λK hK=>?_) ?_
     ·refine Zbod (by rfl) _ _ (by rfl) (by rfl) (by rfl) (H3.out _ (by assumption)) N3.out ?_;intro l1 l2 l3 wF hsF hgF;have hz:=Zqz hgF;obtain⟨y0,y1,y2,y3,y4,u0,u1,u2,u3,u4⟩:=cells5 hz;have hSn:=Zfj (show Below W1.heap.size W1 _ by assumption) hgF (show Below W1.heap.size W1 _ by assumption).size
      refine hK.out _ _ ?_ (λhHeld=>?_)
      ·try dsimp only
       assumption
      clear hK K
      try simp only[Act.put,sA,sZ,sS]
      refine tkK 11 ?_
      try simp only[Act.put,sA,sZ,sS]
      refine rdH [13] ?_;refine rcH (λK hK=>?_) ?_
      ·go_simp
       refine hK.out _ _ ?_ (λhHeld=>?_)
       ·try dsimp only
        refine Zfn (by assumption) ?_ _ _ _ _ _;exact Below.size (by assumption)
       clear hK K
       try simp only[Act.put,sA,sZ,sS]
       refine wpAnyH_done (by kernel_rfl) ?_ _;have s1:=hgI.size;have s2:=hgO.size;have s3:=hgF.size
       (try simp only[Zlx]at s1 s2 s3);(try simp only[Zdj]at s1 s2 s3)
       have hOF:Below wO.heap.size wO wF:=by first|exact Zrd hgF|exact Zre hgF
       have hIO:Below wI.heap.size wI wO:=by first|exact Zrd hgO|exact Zre hgO
       have hIF:=Zfo hIO hOF
       try clear y0 y1 y2 y3 y4 u0 u1 u2 u3 u4
       go_wp2_with fail
       go_meet;refine⟨_,rfl,by omega,by assumption,?_⟩;exact Zks hz (Zbqn hsI hIF (by intro b hb1 hb2;(try simp only[Zlx]);(try simp only[Zdj]);omega)) (Zbqn hsO hOF (by intro b hb1 hb2;(try simp only[Zlx]);(try simp only[Zdj]);omega)) (Zbqn hsF (Below.refl _ _) (by intro b hb1 hb2;(try simp only[Zlx]);(try simp only[Zdj]);omega)) (λb=>⟨λh1=>⟨λh2=>(by have q1:=(hsI.1.1.2 b h1).1;have q2:¬b<_:=(hsO.1.1.2 b h2).2;(try simp only[Zlx]at q1 q2);(try simp only[Zdj]at q1 q2);omega),λh2=>(by have q1:=(hsI.1.1.2 b h1).1;have q2:¬b<_:=(hsF.1.1.2 b h2).2;(try simp only[Zlx]at q1 q2);(try simp only[Zdj]at q1 q2);omega)⟩,λh1 h2=>(by have q1:=(hsO.1.1.2 b h1).1;have q2:¬b<_:=(hsF.1.1.2 b h2).2;(try simp only[Zlx]at q1 q2);(try simp only[Zdj]at q1 q2);omega)⟩)
      exact AllReadyH.nil
     exact AllReadyH.nil
    exact AllReadyH.nil
   refine rcH (λK hK=>?_) ?_
   ·go_simp
    refine hK.out _ _ ?_ (λhHeld=>?_)
    ·try dsimp only
     exact HU.out _ _ (by assumption)
    clear hK K
    try simp only[Act.put,sA,sZ,sS]
    refine rdH [7] ?_;refine rcH (λK hK=>?_) ?_
    ·refine Zbod (by rfl) _ _ (by rfl) (by rfl) (by rfl) (H2.out _ (by assumption)) N2.out ?_;intro j1 j2 j3 wO hsO hgO;have hz:=Zqz hgO;obtain⟨y0,y1,y2,y3,y4,u0,u1,u2,u3,u4⟩:=cells5 hz;have hSn:=Zfj (show Below W1.heap.size W1 _ by assumption) hgO (show Below W1.heap.size W1 _ by assumption).size
     refine hK.out _ _ ?_ (λhHeld=>?_)
     ·try dsimp only
      assumption
     clear hK K
     try simp only[Act.put,sA,sZ,sS]
     refine rdH [10] ?_;refine rcH (λK hK=>?_) ?_
     ·refine Zbod (by rfl) _ _ (by rfl) (by rfl) (by rfl) (H3.out _ (by assumption)) N3.out ?_;intro l1 l2 l3 wF hsF hgF;have hz:=Zrf hgF hz;clear y0 y1 y2 y3 y4 u0 u1 u2 u3 u4;obtain⟨y0,y1,y2,y3,y4,u0,u1,u2,u3,u4⟩:=cells5 hz;have hSn:=Zfj (show Below W1.heap.size W1 _ by assumption) hgF (show Below W1.heap.size W1 _ by assumption).size
      refine hK.out _ _ ?_ (λhHeld=>?_)
      ·try dsimp only
       assumption
      clear hK K
      try simp only[Act.put,sA,sZ,sS]
      refine tkK 11 ?_
      try simp only[Act.put,sA,sZ,sS]
      refine rdH [13] ?_;refine rcH (λK hK=>?_) ?_
      ·go_simp
       refine hK.out _ _ ?_ (λhHeld=>?_)
       ·try dsimp only
        refine Zfn (by assumption) ?_ _ _ _ _ _;exact Below.size (by assumption)
       clear hK K
       try simp only[Act.put,sA,sZ,sS]
       refine wpAnyH_done (by kernel_rfl) ?_ _;have s1:=hgI.size;have s2:=hgO.size;have s3:=hgF.size
       (try simp only[Zlx]at s1 s2 s3);(try simp only[Zdj]at s1 s2 s3)
       have hOF:Below wO.heap.size wO wF:=by first|exact Zrd hgF|exact Zre hgF
       have hIO:Below wI.heap.size wI wO:=by first|exact Zrd hgO|exact Zre hgO
       have hIF:=Zfo hIO hOF
       try clear y0 y1 y2 y3 y4 u0 u1 u2 u3 u4
       go_wp2_with fail
       go_meet;refine⟨_,rfl,by omega,by assumption,?_⟩;exact Zks hz (Zbqn hsI hIF (by intro b hb1 hb2;(try simp only[Zlx]);(try simp only[Zdj]);omega)) (Zbqn hsO hOF (by intro b hb1 hb2;(try simp only[Zlx]);(try simp only[Zdj]);omega)) (Zbqn hsF (Below.refl _ _) (by intro b hb1 hb2;(try simp only[Zlx]);(try simp only[Zdj]);omega)) (λb=>⟨λh1=>⟨λh2=>(by have q1:=(hsI.1.1.2 b h1).1;have q2:¬b<_:=(hsO.1.1.2 b h2).2;(try simp only[Zlx]at q1 q2);(try simp only[Zdj]at q1 q2);omega),λh2=>(by have q1:=(hsI.1.1.2 b h1).1;have q2:¬b<_:=(hsF.1.1.2 b h2).2;(try simp only[Zlx]at q1 q2);(try simp only[Zdj]at q1 q2);omega)⟩,λh1 h2=>(by have q1:=(hsO.1.1.2 b h1).1;have q2:¬b<_:=(hsF.1.1.2 b h2).2;(try simp only[Zlx]at q1 q2);(try simp only[Zdj]at q1 q2);omega)⟩)
      exact AllReadyH.nil
     exact AllReadyH.nil
    exact AllReadyH.nil
   exact AllReadyH.nil
  refine rcH (λK hK=>?_) ?_
  ·go_simp
   refine hK.out _ _ ?_ (λhHeld=>?_)
   ·try dsimp only
    exact HUD.out _
   clear hK K
   try simp only[Act.put,sA,sZ,sS]
   refine rdH [4] ?_;refine rcH (λK hK=>?_) ?_
   ·refine Zbod (by rfl) _ _ (by rfl) (by rfl) (by rfl) (H1.out _ (by assumption)) N1.out ?_;intro i1 i2 i3 wI hsI hgI;have hz:=Zrb hgI;obtain⟨y0,y1,y2,y3,y4,u0,u1,u2,u3,u4⟩:=cells5 hz;have hSn:=Zfj (show Below W1.heap.size W1 _ by assumption) hgI (show Below W1.heap.size W1 _ by assumption).size
    refine hK.out _ _ ?_ (λhHeld=>?_)
    ·try dsimp only
     assumption
    clear hK K
    try simp only[Act.put,sA,sZ,sS]
    refine rdH [7] ?_;refine rcH (λK hK=>?_) ?_
    ·refine Zbod (by rfl) _ _ (by rfl) (by rfl) (by rfl) (H2.out _ (by assumption)) N2.out ?_;intro j1 j2 j3 wO hsO hgO;have hz:=Zrf hgO hz;clear y0 y1 y2 y3 y4 u0 u1 u2 u3 u4;obtain⟨y0,y1,y2,y3,y4,u0,u1,u2,u3,u4⟩:=cells5 hz;have hSn:=Zfj (show Below W1.heap.size W1 _ by assumption) hgO (show Below W1.heap.size W1 _ by assumption).size
     refine hK.out _ _ ?_ (λhHeld=>?_)
     ·try dsimp only
      assumption
     clear hK K
     try simp only[Act.put,sA,sZ,sS]
     refine rdH [10] ?_;refine rcH (λK hK=>?_) ?_
     ·refine Zbod (by rfl) _ _ (by rfl) (by rfl) (by rfl) (H3.out _ (by assumption)) N3.out ?_;intro l1 l2 l3 wF hsF hgF;have hz:=Zrf hgF hz;clear y0 y1 y2 y3 y4 u0 u1 u2 u3 u4;obtain⟨y0,y1,y2,y3,y4,u0,u1,u2,u3,u4⟩:=cells5 hz;have hSn:=Zfj (show Below W1.heap.size W1 _ by assumption) hgF (show Below W1.heap.size W1 _ by assumption).size
      refine hK.out _ _ ?_ (λhHeld=>?_)
      ·try dsimp only
       assumption
      clear hK K
      try simp only[Act.put,sA,sZ,sS]
      refine tkK 11 ?_
      try simp only[Act.put,sA,sZ,sS]
      refine rdH [13] ?_;refine rcH (λK hK=>?_) ?_
      ·go_simp
       refine hK.out _ _ ?_ (λhHeld=>?_)
       ·try dsimp only
        refine Zfn (by assumption) ?_ _ _ _ _ _;exact Nat.le_refl _
       clear hK K
       try simp only[Act.put,sA,sZ,sS]
       refine wpAnyH_done (by kernel_rfl) ?_ _;have s1:=hgI.size;have s2:=hgO.size;have s3:=hgF.size
       (try simp only[Zlx]at s1 s2 s3);(try simp only[Zdj]at s1 s2 s3)
       have hOF:Below wO.heap.size wO wF:=by first|exact Zrd hgF|exact Zre hgF
       have hIO:Below wI.heap.size wI wO:=by first|exact Zrd hgO|exact Zre hgO
       have hIF:=Zfo hIO hOF
       try clear y0 y1 y2 y3 y4 u0 u1 u2 u3 u4
       go_wp2_with fail
       go_meet;refine⟨_,rfl,by omega,by assumption,?_⟩;exact Zks hz (Zbqn hsI hIF (by intro b hb1 hb2;(try simp only[Zlx]);(try simp only[Zdj]);omega)) (Zbqn hsO hOF (by intro b hb1 hb2;(try simp only[Zlx]);(try simp only[Zdj]);omega)) (Zbqn hsF (Below.refl _ _) (by intro b hb1 hb2;(try simp only[Zlx]);(try simp only[Zdj]);omega)) (λb=>⟨λh1=>⟨λh2=>(by have q1:=(hsI.1.1.2 b h1).1;have q2:¬b<_:=(hsO.1.1.2 b h2).2;(try simp only[Zlx]at q1 q2);(try simp only[Zdj]at q1 q2);omega),λh2=>(by have q1:=(hsI.1.1.2 b h1).1;have q2:¬b<_:=(hsF.1.1.2 b h2).2;(try simp only[Zlx]at q1 q2);(try simp only[Zdj]at q1 q2);omega)⟩,λh1 h2=>(by have q1:=(hsO.1.1.2 b h1).1;have q2:¬b<_:=(hsF.1.1.2 b h2).2;(try simp only[Zlx]at q1 q2);(try simp only[Zdj]at q1 q2);omega)⟩)
      exact AllReadyH.nil
     exact AllReadyH.nil
    exact AllReadyH.nil
   exact AllReadyH.nil
  exact AllReadyH.nil
 case rest=>
  obtain⟨g,rfl,hgl,hbw,hcop⟩:=hcut;obtain⟨vi,vo,vf,hz,hvi,hvo,hvf,hap⟩:=hcop;obtain⟨i1,i2,i3,hvs⟩:=Zbig hvi.1.1;subst hvs;obtain⟨j1,j2,j3,hvs⟩:=Zbig hvo.1.1;subst hvs;obtain⟨l1,l2,l3,hvs⟩:=Zbig hvf.1.1;subst hvs;obtain⟨WC,hWC⟩:∃V,wc=V:=⟨_,rfl⟩;rw[hWC]at hbw hz hvi hvo hvf⊢;clear hWC;have HAP:=hid hap;clear hap;have hgs:g<WC.heap.size:=by
   rcases Nat.lt_or_ge g WC.heap.size with h|h
   ·exact h
   ·rw[Array.getElem?_eq_none h]at hz;cases hz
  have H0:Hid (CopyL W1 WC g x (.slice i1 i2 i3) (.slice j1 j2 j3) (.slice l1 l2 l3) (.slice none 0 0) [] [] WC):=by
   show CopyL _ _ _ _ _ _ _ _ _ _ _;exact⟨hbw,hz,StrsW.mono hvi λb hb e=>by omega,StrsW.mono hvo λb hb e=>by omega,StrsW.mono hvf λb hb e=>by omega,Nat.le_refl _,⟨rfl,.inl ⟨rfl,rfl⟩⟩,AllA.nil _⟩
  have HGS:=hid hgs;have HGL:=hid hgl;have HRL:=hid (show rows.length=x.steps.length from hall.1);clear hbw hz hvi hvo hvf hgs hgl hall hc0 hc1 hc2 hc3;obtain⟨I0,hI0,hI1,hI2,hI3⟩:=Zsv Zsx;go_wp2
  go_loopw [4] (λi wr=>∃(k:Nat) (rs:List (List Value)) (av:Option Addr) (cv:Nat),k<=x.steps.length/\i = .int .i64 (k:Int)/\CopyL W1 WC g x (.slice i1 i2 i3) (.slice j1 j2 j3) (.slice l1 l2 l3) (.slice av k cv) rs (x.steps.take k) wr)
   (λi _=>x.steps.length-(intOf i).toNat)
  case atStart=>exact⟨0,[],none,0,Nat.zero_le _,rfl,H0.out⟩
  case round=>
   obtain⟨k,rs,av,cv,hk,rfl,hcl⟩:=hrel;have HCL:=hid hcl;have hc4:=HC4.out _ hcl.below;have hfew:=HFS.out.few;have hm4:∀w',Below W1.heap.size W1 w'->w'.cell? ⟨w.heap.size,4,none⟩=some (.slice a4 rows.length c4):=HC4.out
   by_cases hlt:k<x.steps.length
   ·obtain⟨y,hy⟩:∃y,x.steps[k]? =some y:=⟨x.steps[k],List.getElem?_eq_getElem hlt⟩
    obtain⟨sb,so,sc,b1,t1,b2,t2,hsv,hsb,hI1,hI2,hcs⟩:=Zbot H4.out hy;have hsm:=HFS.out.steps y (List.mem_of_getElem? hy);have K1:Hid (∀w',Below W1.heap.size W1 w'->IsStrs w' (.slice b1 y.args.length t1) y.args):=by show ∀w',_;exact λw' hb=>hI1.below (HB1.out.trans (hb.mono HB1.out.size))
    have K2:Hid (∀w',Below W1.heap.size W1 w'->IsStrs w' (.slice b2 y.lits.length t2) y.lits):=by show ∀w',_;exact λw' hb=>hI2.below (HB1.out.trans (hb.mono HB1.out.size))
    have M1:=hid hsm.args.1;have M2:=hid hsm.lits.1;have HY:=hid hy;have HUP:Hid (∀w',Below W1.heap.size W1 w'->Below w.heap.size w w'):=by show ∀w',_;exact λw' hb=>HB1.out.trans (hb.mono HB1.out.size)
    have hcell:=hcs _ (HUP.out _ hcl.below);obtain⟨z0,z1,z2,z3,z4⟩:=hcell;injection hsv with hsa hsl hsc
    subst hsa hsc;clear hsl;have hi1:(k:Int)<(rows.length:Int):=by rw[HRL.out];omega
    have hi0:(0:Int)<=(k:Int):=by omega
    clear hI1 hI2 hcs hsm hy hm4;have HSD:Hid (∀o,Below W1.heap.size W1 (wr.alloc o).drew):=by show ∀o,_;exact λo=>(hcl.below.alloc hcl.below.size o).drew
    have HSA:Hid (∀o,Below W1.heap.size W1 (wr.alloc o)):=by show ∀o,_;exact λo=>hcl.below.alloc hcl.below.size o
    have HSET:Hid (∀w' i u,Below W1.heap.size W1 w'->Below W1.heap.size W1 (w'.setCell ⟨wr.heap.size,i,none⟩ u)):=by show ∀w' i u,_;exact λw' i u h=>h.setCell hcl.below.size _
    go_wp2_with fail
    go_region_law
     (first
      | (refine Zbod (by rfl) _ _ (by rfl) (by rfl) (by rfl) (K1.out _ (HSD.out _)) M1.out ?_;intro p1 p2 p3 wI hsI hgI;(first|(have hz:=Zrb hgI;obtain⟨y0,y1,y2,y3,y4,f0,f1,f2,f3,f4⟩:=cells5 hz)|(have hz:=Zqz hgI;obtain⟨y0,y1,y2,y3,y4,f0,f1,f2,f3,f4⟩:=cells5 hz));have hSn:=Zfj (HSD.out _) hgI (HSD.out _).size)
      | (refine Zbod (by rfl) _ _ (by rfl) (by rfl) (by rfl) (K2.out _ (by assumption)) M2.out ?_;intro q1 q2 q3 wO hsO hgO;(have hz2:=Zrf hgO hz;obtain⟨x0,x1,x2,x3,x4,e0,e1,e2,e3,e4⟩:=cells5 hz2);have hSm:=Zfj (show Below W1.heap.size W1 _ by assumption) hgO (show Below W1.heap.size W1 _ by assumption).size)
      | fail)
    all_goals
     obtain⟨W7,hW7⟩:∃V,(wO.setCell ⟨wr.heap.size,2,none⟩ (.slice p1 p2 p3)).setCell ⟨wr.heap.size,3,none⟩ (.slice q1 q2 q3)=V:=⟨_,rfl⟩;rw[hW7];have hrec7:W7.heap[wr.heap.size]? =some (.cells #[.string y.out,.int .i64 y.op,.slice p1 p2 p3,.slice q1 q2 q3,.int .i64 y.n] 60):=by
      rw[<-hW7];exact heap_set 3 _ (heap_set 2 _ hz2)
     have s1:=hgI.size;have s2:=hgO.size;simp only[Zlx,Zdj]at s1;have hbI:Below wr.heap.size wr wI:=Zfj ((Below.refl _ _).alloc (Nat.le_refl _) _).drew hgI (by simp only[Zlx,Zdj];omega);have hbO:Below wr.heap.size wr wO:=Zfj hbI hgO (by omega);have hb7:Below wr.heap.size wr W7:=by
      rw[<-hW7];exact(hbO.setCell (Nat.le_refl _) _).setCell (Nat.le_refl _) _
     have hp7:StrsA (λb=>b<wr.heap.size) W7 (.slice p1 p2 p3) y.args:=by
      rw[<-hW7];have h1:StrsA (λb=>b<wr.heap.size+1) wO (.slice p1 p2 p3) y.args:=RowA.keep (RowA.mono hsI.1.1 λb _ hb=>by simp only[Zlx,Zdj];exact hb) (Zpv (Zrd hgO));exact RowA.mono (RowA.keep h1 ((Zpy (Av:=λb=>b<wr.heap.size+1) (a:=⟨wr.heap.size,2,none⟩) (Nat.lt_succ_self _) _).trans (Zpy (a:=⟨wr.heap.size,3,none⟩) (Nat.lt_succ_self _) _))) λb _ hb=>by omega
     have hq7:StrsA (λb=>b<wr.heap.size) W7 (.slice q1 q2 q3) y.lits:=by
      rw[<-hW7];have hlt7:wr.heap.size<wI.heap.size:=by omega
      exact RowA.mono (RowA.keep hsO.1.1 ((Zpy (Av:=λb=>b<wI.heap.size) (a:=⟨wr.heap.size,2,none⟩) hlt7 _).trans (Zpy (a:=⟨wr.heap.size,3,none⟩) hlt7 _))) λb _ hb=>by omega
     have HL7:=hid (hcl.step HGS.out hb7);have HA7:=hid (Zbnj (vv:= .slice av k cv) hp7 hq7 hcl.size (λb hb=>(hcl.own.lt b hb).2));have HLA:=hid (HL7.out.step HGS.out ((Below.refl _ _).alloc (Nat.le_refl _) (.cells #[.string y.out,.int .i64 y.op,.slice p1 p2 p3,.slice q1 q2 q3,.int .i64 y.n] 60)));have HAA:=hid (HA7.out.keep (Zpu _ _ (.cells #[.string y.out,.int .i64 y.op,.slice p1 p2 p3,.slice q1 q2 q3,.int .i64 y.n] 60)));have hrs:rs.length=k:=by rw[hcl.all.1,List.length_take];omega
     clear y0 y1 y2 y3 y4 f0 f1 f2 f3 f4 x0 x1 x2 x3 x4 e0 e1 e2 e3 e4 z0 z1 z2 z3 z4 hz hz2 hsI hsO hgI hgO hSn hSm s1 s2 hbI hbO hb7 hp7 hq7 hW7 hc4 hcl;obtain⟨y0,y1,y2,y3,y4,f0,f1,f2,f3,f4⟩:=cells5 hrec7;obtain⟨d0,d1,d2,d3,d4,g0,g1,g2,g3,g4⟩:=cells5 HL7.out.record
     go_wp2_with (at_builtin;refine Zbue _ rfl _ _ 48 rfl WC.heap.size 60 I0 (.agg #[.string ByteArray.empty,.int .i64 0,.slice none 0 0,.slice none 0 0,.int .i64 0]) 5 80 underlying48 hI0 hI1 hI2 hI3 rfl (by decide) _ _ _ rfl (by have h:=HLA.out.own;rw[hrs]at h;exact h) ⟨W7.heap.size,0,none⟩ 1 1 [.string y.out,.int .i64 y.op,.slice p1 p2 p3,.slice q1 q2 q3,.int .i64 y.n] rfl rfl ?c1 ?c2 (by decide) ?c3 ?c4 ?c5 ?_)
     case c1=>
      intro j u hj
      match j,hj with
      | 0,hj=>simp at hj;subst hj;simp[Addr.add]
      | 1,hj=>simp at hj;subst hj;simp[Addr.add]
      | 2,hj=>simp at hj;subst hj;simp[Addr.add]
      | 3,hj=>simp at hj;subst hj;simp[Addr.add]
      | 4,hj=>simp at hj;subst hj;simp[Addr.add]
     case c2=>intro u hu;simp at hu;rcases hu with rfl|rfl|rfl|rfl|rfl<;>rfl
     case c3=>unfold maxLen;omega
     case c4=>omega
     case c5=>exact HLA.out.size
     intro v' w8 hown' hgrow hnew;obtain⟨aB,cB,rfl,_⟩:=Zbea hown';have htk:x.steps.take k ++ [y]=x.steps.take (k+1):=by rw[List.take_add_one,HY.out];rfl
     have HN:=hid (HLA.out.grow HGL.out HGS.out hgrow (by simpa using hnew) HAA.out (by rw[hrs];exact hown'));rw[htk]at HN;have hg8:w8.heap[g]? =some (.cells #[.string x.name,.slice i1 i2 i3,.slice j1 j2 j3,.slice l1 l2 l3,.slice av k cv] 50):=
      (hgrow.block g (Nat.lt_of_lt_of_le HGS.out HLA.out.size) (λe=>by have:=(HLA.out.own.lt g e.symm).1;have:=HGS.out;omega)).trans HLA.out.record
     clear y0 y1 y2 y3 y4 f0 f1 f2 f3 f4 d0 d1 d2 d3 d4 g0 g1 g2 g3 g4 hown' hgrow hnew htk;obtain⟨d0,d1,d2,d3,d4,g0,g1,g2,g3,g4⟩:=cells5 hg8;go_wp2;go_roundw
     case rel=>exact⟨k+1,_,aB,cB,by omega,by go_num,HN.out⟩
     case measure=>simp[intOf];omega
   ·obtain rfl:k=x.steps.length:=by omega
    have hi1:¬(x.steps.length:Int)<(rows.length:Int):=by rw[HRL.out];omega
    have hcl2:=hcl;rw[List.take_length]at hcl2;have HE:=hid hcl2;have hout:wr.heap[w.heap.size+1]? =some (.cells #[.string ⟨#[]⟩,.slice none 0 0,.slice none 0 0,.slice none 0 0,.slice none 0 0] 50):=(hcl.below.block _ (by have:=HS1.out;omega)).trans HX2.out;have HOUT:=hid hout;obtain⟨d0,d1,d2,d3,d4,g0,g1,g2,g3,g4⟩:=cells5 hcl.record;obtain⟨e0,e1,e2,e3,e4,f0,f1,f2,f3,f4⟩:=cells5 hout;clear hcl hcl2 hm4 hout;go_wp2;refine bodyPost_ret (Zbhl rfl _ _ (w.heap.size+1) _ _ _ _ rfl (heap_set _ _ (heap_set _ _ (heap_set _ _ (heap_set _ _ (heap_set _ _ HOUT.out))))) underlying50 rfl (by kernel_rfl)) rfl ?_;have hE:=HE.out;have hS:=HS1.out;have hWC:W1.heap.size<=WC.heap.size:=by have:=HGS.out;have:=HGL.out;omega
    have hfr:∀u0 u1 u2 u3 u4,Fr (λb=>b<W1.heap.size∨b=g∨WC.heap.size<=b) wr _:=λu0 u1 u2 u3 u4=>Zpz (Av:=λb=>b<W1.heap.size∨b=g∨WC.heap.size<=b) (w:=wr) (g:=w.heap.size+1) (.inl (by omega)) u0 u1 u2 u3 u4
    have hfs:∀u0 u1 u2 u3 u4,Fr (λb=>b<W1.heap.size) wr _:=λu0 u1 u2 u3 u4=>Zpz (Av:=λb=>b<W1.heap.size) (w:=wr) (g:=w.heap.size+1) (by omega) u0 u1 u2 u3 u4
    have hlo:∀b,(Value.slice i1 i2 i3).ownBlock=some b∨(Value.slice j1 j2 j3).ownBlock=some b∨(Value.slice l1 l2 l3).ownBlock=some b->b<WC.heap.size:=by
     intro b hb
     rcases hb with hb|hb|hb
     ·have q:¬(b<W1.heap.size∨b=g∨WC.heap.size<=b):=(hE.ins.1.1.2 b hb).2
      omega
     ·have q:¬(b<W1.heap.size∨b=g∨WC.heap.size<=b):=(hE.outs.1.1.2 b hb).2
      omega
     ·have q:¬(b<W1.heap.size∨b=g∨WC.heap.size<=b):=(hE.after.1.1.2 b hb).2
      omega
    have hfs:∀u0 u1 u2 u3 u4,Fr (AvOf WC.heap.size (.slice av x.steps.length cv)) wr _:=λu0 u1 u2 u3 u4=>Zpz (Av:=AvOf WC.heap.size (.slice av x.steps.length cv)) (w:=wr) (g:=w.heap.size+1) (.inl (by omega)) u0 u1 u2 u3 u4
    have hfo:∀u0 u1 u2 u3 u4,Fr (λb=>b<W1.heap.size) wr _:=λu0 u1 u2 u3 u4=>Zpz (Av:=λb=>b<W1.heap.size) (w:=wr) (g:=w.heap.size+1) (by omega) u0 u1 u2 u3 u4
    exact⟨⟨_,_,_,_,rs,WC.heap.size,rfl,StrsW.mono (StrsW.keep hE.ins (hfr _ _ _ _ _)) λb _ hb=> .inl (by omega),StrsW.mono (StrsW.keep hE.outs (hfr _ _ _ _ _)) λb _ hb=> .inl (by omega),StrsW.mono (StrsW.keep hE.after (hfr _ _ _ _ _)) λb _ hb=> .inl (by omega),HAP.out,by omega,Nat.le_trans hE.size (hfo _ _ _ _ _).size,hlo,Zckk hE.own λb e=>(hfo _ _ _ _ _).block b (hE.own.lt b e).2 (by have:=(hE.own.lt b e).1;show ¬b<W1.heap.size;omega),hE.all.imp λr x h=>h.keep (hfs _ _ _ _ _)⟩,
     Zfn (HB1.out.trans (hE.below.mono HB1.out.size)) (by omega) _ _ _ _ _⟩
theorem Zkq (x:RuleS) (vi vo vf vs:Value) (w:World) (h:RuleI w [.string x.name,vi,vo,vf,vs] x) (hf:SmallR x 1048576):
  Calls prog 55 #[.agg #[.string x.name,vi,vo,vf,vs]] w λe w'=>RuleF w w' x e/\Below w.heap.size w w':=
 (Zckf x vi vo vf vs w h hf).mono λ_ _ h=>⟨h.1.f,h.2⟩
theorem Zkp (x:RuleS) (vi vo vf vs:Value) (w:World) (h:RuleI w [.string x.name,vi,vo,vf,vs] x) (hf:SmallR x 1048576):
  Calls prog 55 #[.agg #[.string x.name,vi,vo,vf,vs]] w λe w'=>RuleO w w' x e/\Below w.heap.size w w':=
 (Zkq x vi vo vf vs w h hf).mono λ_ _ h=>⟨h.1.o,h.2⟩
end Go.Proofs.YtokogjhcidkckaaGreatDoor
namespace Go.Proofs.YtokogjhcidkckaaGreatDoor
open Go.Lib (hid)
open Go.Proofs.Tryz
open Go.RowKit Go.Shelf
theorem AllA.take {α:Type} {P:List Value->α->Prop} {rows:List (List Value)} {xs:List α} (h:AllA P rows xs) (m:Nat):AllA P (rows.take m) (xs.take m):=
 ⟨by rw[List.length_take,List.length_take,h.1],λj r x hr hx=>by
  rw[List.getElem?_take]at hr hx;split at hr
  ·rename_i hj;rw[if_pos hj]at hx;exact h.2 j r x hr hx
  ·cases hr⟩
theorem AllA.drop {α:Type} {P:List Value->α->Prop} {rows:List (List Value)} {xs:List α} (h:AllA P rows xs) (m:Nat):AllA P (rows.drop m) (xs.drop m):=
 ⟨by rw[List.length_drop,List.length_drop,h.1],λj r x hr hx=>by
  rw[List.getElem?_drop]at hr hx;exact h.2 _ r x hr hx⟩
theorem Zbxy {ops:Array Oper} {o:Oper} {a:Act} {w:World} {K:Act->World->Prop} {Q:Exit->Act->World->Prop} {E:Prop} (hgd:o.guard=none) (s x:Operand) (t:TypeId)
  (ho:o.op = .call { callee:= .builtin .append,args:=#[s,x],argTypes:=#[t,t] }) {v0 vx v':Value} {w':World} (hs:a.eval s=v0) (hx:a.eval x=vx)
  (hr:(Builtin.append_ #[t,t] o.type #[v0,vx]).run prog w = .ok v' w') (h:K (a.put o.dst v') w'):
  if Region.wanted o (yielded ops a.tmps)=true then Oper.wp prog o a w K Q else E:=by
 have hw:Region.wanted o (yielded ops a.tmps)=true:=by simp[Region.wanted,hgd]
 rw[if_pos hw];unfold Oper.wp execOp;simp only[ho,resolve,invoke,builtin,Sem.run_bind,Sem.run_pure,Result.andThen_ok,List.map_toArray,List.map_cons,List.map_nil,hs,hx,hr];exact h
open Go.Maps
def ShortE (e:ByteArray->ValT):Prop:=∀k,(e k).2.size<=100000000
theorem ShortE.set {e:ByteArray->ValT} (h:ShortE e) (k:ByteArray) {v:ValT} (hv:v.2.size<=100000000):ShortE (setE e k v):=λk'=>by
 unfold setE;split
 ·exact hv
 ·exact h k'
theorem ShortE.by:∀(ks:List ByteArray) (vs:List ValT) (e:ByteArray->ValT),ShortE e->(∀v∈vs,v.2.size<=100000000)->ShortE (byE ks vs e)
 | [],_,e,h,_=>by rw[byE];exact h;intros;simp_all
 | _::_,[],e,h,_=>by rw[byE];exact h;intros;simp_all
 | k::ks,v::vs,e,h,hv=>by rw[byE];exact ShortE.by ks vs _ (h.set k (hv v (by simp))) λu hu=>hv u (by simp[hu])
set_option maxHeartbeats 8000000
set_option maxRecDepth 100000
abbrev Zbiz (r:RuleS) (a1 a2 a3 a4:Option Addr) (c1 c2 c3 c4:Nat):Array Value:=#[.string r.name,.slice a1 r.ins.length c1,.slice a2 r.outs.length c2,.slice a3 r.after.length c3,.slice a4 r.steps.length c4]
end Go.Proofs.YtokogjhcidkckaaGreatDoor
