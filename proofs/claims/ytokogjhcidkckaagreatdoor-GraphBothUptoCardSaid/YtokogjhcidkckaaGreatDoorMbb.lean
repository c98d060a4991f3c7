import Derived.Test.YtokogjhcidkckaaGreatDoorMba
import Derived.Deep.CutBlock
import Derived.Deep.DeepCutAuto
import Derived.Test.YtokogjhcidkckaaGreatDoorMat
namespace Go.Proofs.YtokogjhcidkckaaGreatDoor
open Go.Lib (hid)
open Go.Proofs.Tryz
open Go.RowKit Go.Shelf
theorem Zclk {w:World} {g o n c:Nat} {rows:List (List Value)} (h:IsRow w (.slice (some ⟨g,o,none⟩) n c) 5 rows) (hk:∀r∈rows,r.length=5) {i j:Nat} {r:List Value} (hi:rows[i]? =some r) (hj:j<5) (u:Value):
  IsRow (w.setCell ⟨g,o+i*5+j,none⟩ u) (.slice (some ⟨g,o,none⟩) n c) 5 (rows.set i (r.set j u)):=by
 obtain⟨a',c',q,h1,h2,h3⟩:=h;injection q with q1 q2 q3
 subst q1 q3;have hil:i<rows.length:=(List.getElem?_eq_some_iff.1 hi).1;obtain⟨b,o',e,hb,hc⟩:=h3 (by rintro rfl;simp at hil);injection e with e
 injection e with e1 e2
 subst e1 e2;have hrl:r.length=5:=hk r (List.mem_of_getElem? hi);refine⟨_,c,by rw[List.length_set,q2],by rw[List.length_set];exact h1,h2,λ_=>⟨g,o,rfl,by simp[World.setCell];exact hb,λj' r' hr' i' u' hu'=>?_⟩⟩
 by_cases e1:j'=i
 ·subst e1
  rw[List.getElem?_set_self hil]at hr';injection hr' with hr'
  subst hr'
  by_cases e2:i'=j
  ·subst e2
   rw[List.getElem?_set_self (by omega)]at hu';injection hu' with hu'
   subst hu';have:=hc j' r hi i' (r[i']'(by omega)) (List.getElem?_eq_getElem _);exact World.cell?_setCell_same _ _ _ this
  ·rw[List.getElem?_set_ne (Ne.symm e2)]at hu'
   rw[World.cell?_setCell_other _ _ _ _ (by intro e;injection e with _ e;omega)];exact hc j' r hi i' u' hu'
 ·rw[List.getElem?_set_ne (Ne.symm e1)]at hr'
  have hi':i'<5:=by
   have:=hk r' (List.mem_of_getElem? hr');have:=(List.getElem?_eq_some_iff.1 hu').1;omega
  rw[World.cell?_setCell_other _ _ _ _ (by intro e;injection e with _ e;omega)];exact hc j' r' hr' i' u' hu'
def OutQ (g o tc:Nat) (V:World) (ws:List RuleS):Prop:=(∃rows,IsRow V (.slice (some ⟨g,o,none⟩) ws.length tc) 5 rows/\AllA (RuleA (λb=>b=g) V) rows ws)/\∀p,V.frozen? ⟨g,p,none⟩=false
theorem OutQ.rulesI {g o tc:Nat} {V:World} {ws:List RuleS} (h:OutQ g o tc V ws):RulesI V (.slice (some ⟨g,o,none⟩) ws.length tc) ws:=by
 obtain⟨⟨rows,h1,h2⟩,_⟩:=h;exact⟨rows,h1,h2.imp λ_ _ k=>k.ruleI⟩
theorem OutQ.lt {g o tc:Nat} {V:World} {ws:List RuleS} (h:OutQ g o tc V ws) (hn:0<ws.length):g<V.heap.size:=by
 obtain⟨⟨rows,⟨a',c',q,h1,h2,h3⟩,hall⟩,_⟩:=h;have hl:=hall.1;obtain⟨b,o',e,hb,_⟩:=h3 (by rintro rfl;simp at hl;omega);injection q with q1 q2 q3
 rw[<-q1]at e;injection e with e
 injection e with e1 e2
 rw[e1];exact hb
theorem Zckv {V V':World} {g:Nat} (h:V'.heap[g]? =V.heap[g]?) (p:Nat):V'.frozen? ⟨g,p,none⟩=V.frozen? ⟨g,p,none⟩:=by
 simp[World.frozen?,h]
theorem OutQ.below {g o tc:Nat} {V V':World} {ws:List RuleS} (h:OutQ g o tc V ws) (hn:0<ws.length) (hb:Below V.heap.size V V'):OutQ g o tc V' ws:=by
 have hg:=h.lt hn;obtain⟨⟨rows,h1,h2⟩,h3⟩:=h;exact⟨⟨rows,h1.below hb,h2.imp λ_ _ k=>k.keep (Zpv hb)⟩,λp=>(Zckv (hb.block g hg) p).trans (h3 p)⟩
theorem OutQ.at {g o tc:Nat} {V:World} {ws:List RuleS} (h:OutQ g o tc V ws) {i:Nat} {x:RuleS} (hx:ws[i]? =some x):∃p1 n1 m1 p2 n2 m2 p3 n3 m3 p4 n4 m4,RuleI V [.string x.name,.slice p1 n1 m1,.slice p2 n2 m2,.slice p3 n3 m3,.slice p4 n4 m4] x/\
  ∀V':World,V'.heap[g]? =V.heap[g]? ->V'.cell? ⟨g,o+i*5,none⟩=some (.string x.name)/\V'.cell? ⟨g,o+i*5+1,none⟩=some (.slice p1 n1 m1)/\V'.cell? ⟨g,o+i*5+2,none⟩=some (.slice p2 n2 m2)/\V'.cell? ⟨g,o+i*5+3,none⟩=some (.slice p3 n3 m3)/\V'.cell? ⟨g,o+i*5+4,none⟩=some (.slice p4 n4 m4)/\∀p,V'.frozen? ⟨g,p,none⟩=false:=by
 obtain⟨⟨rows,⟨a',c',q,h1,h2,h3⟩,hall⟩,hfz⟩:=h;injection q with q1 q2 q3
 have hi:=(List.getElem?_eq_some_iff.1 hx).1;have hl:=hall.1;obtain⟨b,o',e,hb,hc⟩:=h3 (by rintro rfl;simp at hl;omega);rw[<-q1]at e;injection e with e
 injection e with e1 e2
 subst e1 e2;obtain⟨r,hr⟩:∃r,rows[i]? =some r:=⟨rows[i]'(by omega),List.getElem?_eq_getElem _⟩;have hR:=hall.2 i r x hr hx;have hRI:=hR.ruleI;obtain⟨vi,vo,vf,vs,rfl,k1,k2,k3,k4⟩:=hRI;obtain⟨p1,m1,e1⟩:=Zue k1;obtain⟨p2,m2,e2⟩:=Zue k2;obtain⟨p3,m3,e3⟩:=Zue k3;obtain⟨p4,m4,e4⟩:=Zbov k4;subst e1 e2 e3 e4;refine⟨p1,_,m1,p2,_,m2,p3,_,m3,p4,_,m4,⟨_,_,_,_,rfl,k1,k2,k3,k4⟩,λV' hV=>?_⟩;have cc:∀p,V'.cell? ⟨g,p,none⟩=V.cell? ⟨g,p,none⟩:=λp=>by simp[World.cell?,hV]
 have h0:=hc i _ hr 0 _ rfl;have h1:=hc i _ hr 1 _ rfl;have h2:=hc i _ hr 2 _ rfl;have h3:=hc i _ hr 3 _ rfl;have h4:=hc i _ hr 4 _ rfl;exact⟨(cc _).trans h0,(cc _).trans h1,(cc _).trans h2,(cc _).trans h3,(cc _).trans h4,λp=>(Zckv hV p).trans (hfz p)⟩
def putR (V:World) (g o i:Nat) (u0 u1 u2 u3 u4:Value):World:=((((V.setCell ⟨g,o+i*5,none⟩ u0).setCell ⟨g,o+i*5+1,none⟩ u1).setCell ⟨g,o+i*5+2,none⟩ u2).setCell ⟨g,o+i*5+3,none⟩ u3).setCell ⟨g,o+i*5+4,none⟩ u4
theorem Zcle (V:World) (g o i:Nat) (u0 u1 u2 u3 u4:Value):Fr (λb=>b=g) V (putR V g o i u0 u1 u2 u3 u4):=by
 unfold putR;exact(Zpy (Av:=λb=>b=g) (a:=⟨g,_,none⟩) rfl _).trans ((Zpy (Av:=λb=>b=g) (a:=⟨g,_,none⟩) rfl _).trans ((Zpy (Av:=λb=>b=g) (a:=⟨g,_,none⟩) rfl _).trans ((Zpy (Av:=λb=>b=g) (a:=⟨g,_,none⟩) rfl _).trans (Zpy (Av:=λb=>b=g) (a:=⟨g,_,none⟩) rfl _))))
def CpW (N:Nat) (V1:World) (x:RuleS) (vi vo vf vs:Value):Prop:=∃rs B0,StrsW (λb=>b<N) V1 vi x.ins/\StrsW (λb=>b<N) V1 vo x.outs/\StrsW (λb=>b<N) V1 vf x.after/\Ap3 vi vo vf/\N<=B0/\(∀b,vi.ownBlock=some b∨vo.ownBlock=some b∨vf.ownBlock=some b->b<B0)/\V1.ownsRow B0 60 5 vs rs.length rs.flatten/\AllA (StepA (AvOf B0 vs) V1) rs x.steps
theorem CpW.ins {N g o i:Nat} {V1:World} {x:RuleS} {vi vo vf vs u0 u1 u2 u3 u4:Value} (h:CpW N V1 x vi vo vf vs) (hg:g<N):StrsO (λb=>b<N) (putR V1 g o i u0 u1 u2 u3 u4) vi x.ins:=by
 obtain⟨_,_,h1,_⟩:=h;exact h1.1.keep ((Zcle _ _ _ _ _ _ _ _ _).mono λb _ e=>by show b<N;omega)
theorem CpW.outs {N g o i:Nat} {V1 V3:World} {x:RuleS} {vi vo vf vs u0 u1 u2 u3 u4:Value} (h:CpW N V1 x vi vo vf vs) (hg:g<N) (hf:Fr (λk=>vi.ownBlock=some k) (putR V1 g o i u0 u1 u2 u3 u4) V3):StrsO (λb=>b<N) V3 vo x.outs:=by
 obtain⟨_,_,h1,h2,_,hap,_⟩:=h;have k1:StrsO (λb=>b<N∨vi.ownBlock=some b) V1 vo x.outs:=⟨⟨h2.1.1.1,λb e=>⟨(h2.1.1.2 b e).1,λh'=>h'.elim (h2.1.1.2 b e).2 λe'=>((hap b).1 e').1 e⟩⟩,h2.1.2⟩;exact(k1.keep (((Zcle _ _ _ _ _ _ _ _ _).mono λb _ e=> .inl (by omega)).trans (hf.mono λb _ e=> .inr e))).mono λb _ e=> .inl e
structure ClS (w:World) (nm:ByteArray) (u1 u2 u3 u4:Value) (W:World):Prop where
 bx:W.heap[w.heap.size]? =some (.cells #[.string nm,u1,u2,u3,u4] 50)
 rs:W.heap[w.heap.size+1]? =some (.cells #[.string ⟨#[]⟩,.slice none 0 0,.slice none 0 0,.slice none 0 0,.slice none 0 0] 50)
 b:Below w.heap.size w W
section
variable {w W V:World} {nm:ByteArray} {u1 u2 u3 u4:Value}
theorem ClS.size (h:ClS w nm u1 u2 u3 u4 W):w.heap.size+2<=W.heap.size:=(Array.getElem?_eq_some_iff.1 h.rs).1
theorem ClS.call (h:ClS w nm u1 u2 u3 u4 W) (hb:Below W.heap.size W V):ClS w nm u1 u2 u3 u4 V:=by
 have:=h.size;exact⟨(hb.block _ (by omega)).trans h.bx,(hb.block _ (by omega)).trans h.rs,h.b.trans (hb.mono h.b.size)⟩
theorem ClS.fr (h:ClS w nm u1 u2 u3 u4 W) (hf:Fr (λb=>w.heap.size+2<=b) W V):ClS w nm u1 u2 u3 u4 V:=by
 have:=h.size;exact⟨(hf.block _ (by omega) (by omega)).trans h.bx,(hf.block _ (by omega) (by omega)).trans h.rs,h.b.trans (hf.below (by omega) λk hk=>by omega)⟩
theorem ClS.cells (h:ClS w nm u1 u2 u3 u4 W):(W.cell? { block:=w.heap.size,off:=0 } =some (.string nm)/\W.cell? { block:=w.heap.size,off:=1 } =some u1/\W.cell? { block:=w.heap.size,off:=2 } =some u2/\W.cell? { block:=w.heap.size,off:=3 } =some u3/\W.cell? { block:=w.heap.size,off:=4 } =some u4)/\(∀p,W.frozen? { block:=w.heap.size,off:=p } =false):=by
 have h1:=h.bx;exact⟨⟨by simp[World.cell?,h1],by simp[World.cell?,h1],by simp[World.cell?,h1],by simp[World.cell?,h1],by simp[World.cell?,h1]⟩,λp=>by simp[World.frozen?,h1]⟩
theorem ClS.set1 (h:ClS w nm u1 u2 u3 u4 W) (u:Value):ClS w nm u u2 u3 u4 (W.setCell { block:=w.heap.size,off:=1 } u):=
 ⟨by have:=heap_set 1 u h.bx;simpa using this,(Below.heap_setCell _ _ _ _ (by simp)).trans h.rs,h.b.setCell (p:=⟨w.heap.size,1,none⟩) (Nat.le_refl _) _⟩
theorem ClS.set2 (h:ClS w nm u1 u2 u3 u4 W) (u:Value):ClS w nm u1 u u3 u4 (W.setCell { block:=w.heap.size,off:=2 } u):=
 ⟨by have:=heap_set 2 u h.bx;simpa using this,(Below.heap_setCell _ _ _ _ (by simp)).trans h.rs,h.b.setCell (p:=⟨w.heap.size,2,none⟩) (Nat.le_refl _) _⟩
theorem ClS.set3 (h:ClS w nm u1 u2 u3 u4 W) (u:Value):ClS w nm u1 u2 u u4 (W.setCell { block:=w.heap.size,off:=3 } u):=
 ⟨by have:=heap_set 3 u h.bx;simpa using this,(Below.heap_setCell _ _ _ _ (by simp)).trans h.rs,h.b.setCell (p:=⟨w.heap.size,3,none⟩) (Nat.le_refl _) _⟩
theorem ClS.set4 (h:ClS w nm u1 u2 u3 u4 W) (u:Value):ClS w nm u1 u2 u3 u (W.setCell { block:=w.heap.size,off:=4 } u):=
 ⟨by have:=heap_set 4 u h.bx;simpa using this,(Below.heap_setCell _ _ _ _ (by simp)).trans h.rs,h.b.setCell (p:=⟨w.heap.size,4,none⟩) (Nat.le_refl _) _⟩
end
abbrev Old (w:World):Nat->Prop:=λb=>b<w.heap.size+2
theorem Zdac {w W:World} {i:Nat} (u:Value):Fr (Old w) W (W.setCell { block:=w.heap.size,off:=i } u):=Zpy (a:=⟨w.heap.size,i,none⟩) (show w.heap.size<w.heap.size+2 by omega) u
abbrev Av1 (w:World) (g:Nat):Nat->Prop:=λb=>b<w.heap.size+2∨b=g
def ClR (w:World) (g:Nat) (r:RuleS) (rows:List (List Value)) (d4 k:Nat) (R:List (List Value)) (wr:World):Prop:=
 IsRow wr (.slice (some ⟨g,0,none⟩) r.steps.length d4) 5 R/\(∀q∈R,q.length=5)/\R.length=r.steps.length/\∀(j:Nat) q x,R[j]? =some q->r.steps[j]? =some x->(j<k->StepA (Av1 w g) wr q x)/\(k<=j->rows[j]? =some q)
theorem Zdho {w:World} {g n c k:Nat} {R:List (List Value)} {a b c' d e:Value} (h:IsRow w (.slice (some ⟨g,0,none⟩) n c) 5 R) (hk:R[k]? =some [a,b,c',d,e]):
  w.cell? { block:=g,off:=k*5 } =some a/\w.cell? { block:=g,off:=k*5+1 } =some b/\w.cell? { block:=g,off:=k*5+2 } =some c'/\w.cell? { block:=g,off:=k*5+3 } =some d/\w.cell? { block:=g,off:=k*5+4 } =some e:=by
 obtain⟨a',c2,q,_,_,h3⟩:=h;injection q with q1 q2 q3
 subst q1;obtain⟨g',o',e',_,hc⟩:=h3 (by rintro rfl;simp at hk)
 cases e'
 have key:∀(i:Nat) u,[a,b,c',d,e][i]? =some u->w.cell? ⟨g,0+k*5+i,none⟩=some u:=λi u hu=>hc k _ hk i u hu
 have r0:=key 0 a rfl;have r1:=key 1 b rfl;have r2:=key 2 c' rfl;have r3:=key 3 d rfl;have r4:=key 4 e rfl;simp only[Nat.zero_add,Nat.add_zero]at r0 r1 r2 r3 r4;exact⟨r0,r1,r2,r3,r4⟩
theorem Zdfv {w:World} {B n size:Nat} {T:TypeId} {a:Option Addr} {c:Nat} {xs:List Value} (h:w.ownsRow B T size (.slice a n c) n xs):∀g,Value.ownBlock (.slice a n c)=some g->∀p,w.frozen? ⟨g,p,none⟩=false:=by
 intro g hg p
 rcases h.2 with⟨e,_⟩|⟨g',cap,cur,e,_,h2,_⟩
 ·rw[e]at hg;cases hg
 ·rw[e]at hg
  cases hg
  simp[World.frozen?,h2]
theorem Zdhi {W:World} {g:Nat} {t:TypeId} {z0 z1 z2 z3 z4:Value} (h1:W.heap[g]? =some (.cells #[z0,z1,z2,z3,z4] t)):(W.cell? { block:=g,off:=0 } =some z0/\W.cell? { block:=g,off:=1 } =some z1/\W.cell? { block:=g,off:=2 } =some z2/\W.cell? { block:=g,off:=3 } =some z3/\W.cell? { block:=g,off:=4 } =some z4)/\(∀p,W.frozen? { block:=g,off:=p } =false):=
 ⟨⟨by simp[World.cell?,h1],by simp[World.cell?,h1],by simp[World.cell?,h1],by simp[World.cell?,h1],by simp[World.cell?,h1]⟩,λp=>by simp[World.frozen?,h1]⟩
theorem Zdbi {w:World} {g:Nat} {t:TypeId} {z0 z1 z2 z3 z4:Value} (hz:w.heap[g]? =some (.cells #[z0,z1,z2,z3,z4] t)) (u0 u1 u2 u3 u4:Value):
  (((((w.setCell ⟨g,0,none⟩ u0).setCell ⟨g,1,none⟩ u1).setCell ⟨g,2,none⟩ u2).setCell ⟨g,3,none⟩ u3).setCell ⟨g,4,none⟩ u4).heap[g]? =some (.cells #[u0,u1,u2,u3,u4] t):=
 heap_set 4 u4 (heap_set 3 u3 (heap_set 2 u2 (heap_set 1 u1 (heap_set 0 u0 hz))))
theorem Zdad {Av:Nat->Prop} {w:World} {g:Nat} (hg:Av g) (u0 u1 u2 u3 u4:Value):Fr Av w (((((w.setCell ⟨g,0,none⟩ u0).setCell ⟨g,1,none⟩ u1).setCell ⟨g,2,none⟩ u2).setCell ⟨g,3,none⟩ u3).setCell ⟨g,4,none⟩ u4):=
 ((((Zpy (a:=⟨g,0,none⟩) hg u0).trans (Zpy (a:=⟨g,1,none⟩) hg u1)).trans (Zpy (a:=⟨g,2,none⟩) hg u2)).trans (Zpy (a:=⟨g,3,none⟩) hg u3)).trans (Zpy (a:=⟨g,4,none⟩) hg u4)
set_option maxHeartbeats 8000000
set_option maxRecDepth 100000
theorem Zcxx (r:RuleS) (a1 a2 a3 a4:Option Addr) (n1 c1 n2 c2 n3 c3 n4 c4:Nat) (w:World) (h1:IsStrs w (.slice a1 n1 c1) r.ins) (h2:IsStrs w (.slice a2 n2 c2) r.outs) (h3:IsStrs w (.slice a3 n3 c3) r.after) (h4:StepsI w (.slice a4 n4 c4) r.steps)
  (hn1:r.ins.length<=1000000) (hn2:r.outs.length<=1000000) (hn3:r.after.length<=1000000) (hn4:r.steps.length<=1000000) (hst:∀x∈r.steps,x.args.length<=1000000/\x.lits.length<=1000000):
  Calls prog 54 #[.agg #[.string r.name,.slice a1 n1 c1,.slice a2 n2 c2,.slice a3 n3 c3,.slice a4 n4 c4]] w λe w'=>Zbu w w' r e/\Below w.heap.size w w':=by
 have H1:=hid h1;have H2:=hid h2;have H3:=hid h3;have H4:=hid h4;have HST:=hid hst;obtain⟨W0,hW0⟩:∃V,V=(w.alloc (.cells #[.string r.name,.slice a1 n1 c1,.slice a2 n2 c2,.slice a3 n3 c3,.slice a4 n4 c4] 50)).alloc (.cells #[.string ⟨#[]⟩,.slice none 0 0,.slice none 0 0,.slice none 0 0,.slice none 0 0] 50):=⟨_,rfl⟩;have c0:ClS w r.name (.slice a1 n1 c1) (.slice a2 n2 c2) (.slice a3 n3 c3) (.slice a4 n4 c4) W0:=by
  refine⟨?_,?_,?_⟩
  ·rw[hW0]
   show((w.alloc _).heap.push _)[_]? =_;rw[Array.getElem?_push_lt (by simp)];exact Array.getElem?_eq_some_iff.1 (alloc_at w _) |>.2▸rfl
  ·rw[hW0]
   have:=alloc_at (w.alloc (.cells #[.string r.name,.slice a1 n1 c1,.slice a2 n2 c2,.slice a3 n3 c3,.slice a4 n4 c4] 50)) (.cells #[.string ⟨#[]⟩,.slice none 0 0,.slice none 0 0,.slice none 0 0,.slice none 0 0] 50);rw[World.size_alloc]at this;exact this
  ·rw[hW0];exact((Below.refl _ _).alloc (Nat.le_refl _) _).alloc (by simp) _
 have C:=hid c0;clear h1 h2 h3 h4 hst c0
 go_enter func54,ntmps54
 go_wp2_with fail
 rw[<-hW0];clear hW0;have HZ0:=hid C.out.size;refine(Zjh _ r.ins W0 (H1.out.below C.out.b) (by omega)).mono ?_;intro e V1 hp;obtain⟨b1,m1,d1,rfl,hA,hb⟩:=Zjj hp;clear hp;obtain⟨⟨k0,k1,k2,k3,k4⟩,kf⟩:=(C.out.call hb).cells;have kf1:=kf 1;obtain⟨W1,hW1⟩:∃V,V=V1.setCell { block:=w.heap.size,off:=1 } (.slice b1 m1 d1):=⟨_,rfl⟩;have hfr:Fr (Old w) V1 W1:=by rw[hW1];exact Zdac _
 have hC:ClS w r.name (.slice b1 m1 d1) (.slice a2 n2 c2) (.slice a3 n3 c3) (.slice a4 n4 c4) W1:=by rw[hW1];exact(C.out.call hb).set1 _
 have A1:Hid (StrsA (Old w) W1 (.slice b1 m1 d1) r.ins):=hid (RowA.keep (RowA.mono hA (λb _ (h:b<w.heap.size+2)=>Nat.lt_of_lt_of_le h C.out.size)) hfr);replace C:=hid hC;clear hA hb hfr hC
 go_wp2_with fail
 rw[<-hW1];clear hW1 k0 k1 k2 k3 k4 kf kf1;refine(Zjh _ r.outs W1 (H2.out.below C.out.b) (by omega)).mono ?_;intro e V2 hp;obtain⟨b2,m2,d2,rfl,hA,hb⟩:=Zjj hp;clear hp;obtain⟨⟨k0,k1,k2,k3,k4⟩,kf⟩:=(C.out.call hb).cells;have kf1:=kf 2;obtain⟨W2,hW2⟩:∃V,V=V2.setCell { block:=w.heap.size,off:=2 } (.slice b2 m2 d2):=⟨_,rfl⟩;have hfr:Fr (Old w) V2 W2:=by rw[hW2];exact Zdac _
 have hC:ClS w r.name (.slice b1 m1 d1) (.slice b2 m2 d2) (.slice a3 n3 c3) (.slice a4 n4 c4) W2:=by rw[hW2];exact(C.out.call hb).set2 _
 replace A1:=hid (RowA.keep (RowA.keep A1.out (Zpv hb)) hfr);have A2:Hid (StrsA (Old w) W2 (.slice b2 m2 d2) r.outs):=hid (RowA.keep (RowA.mono hA (λb _ (h:b<w.heap.size+2)=>Nat.lt_of_lt_of_le h C.out.size)) hfr);replace C:=hid hC;clear hA hb hfr hC
 go_wp2_with fail
 rw[<-hW2];clear hW2 k0 k1 k2 k3 k4 kf kf1;refine(Zjh _ r.after W2 (H3.out.below C.out.b) (by omega)).mono ?_;intro e V3 hp;obtain⟨b3,m3,d3,rfl,hA,hb⟩:=Zjj hp;clear hp;obtain⟨⟨k0,k1,k2,k3,k4⟩,kf⟩:=(C.out.call hb).cells;have kf1:=kf 3;obtain⟨W3,hW3⟩:∃V,V=V3.setCell { block:=w.heap.size,off:=3 } (.slice b3 m3 d3):=⟨_,rfl⟩;have hfr:Fr (Old w) V3 W3:=by rw[hW3];exact Zdac _
 have hC:ClS w r.name (.slice b1 m1 d1) (.slice b2 m2 d2) (.slice b3 m3 d3) (.slice a4 n4 c4) W3:=by rw[hW3];exact(C.out.call hb).set3 _
 replace A1:=hid (RowA.keep (RowA.keep A1.out (Zpv hb)) hfr);replace A2:=hid (RowA.keep (RowA.keep A2.out (Zpv hb)) hfr);have A3:Hid (StrsA (Old w) W3 (.slice b3 m3 d3) r.after):=hid (RowA.keep (RowA.mono hA (λb _ (h:b<w.heap.size+2)=>Nat.lt_of_lt_of_le h C.out.size)) hfr);replace C:=hid hC;clear hA hb hfr hC
 go_wp2_with fail
 rw[<-hW3];clear hW3 k0 k1 k2 k3 k4 kf kf1;have HS3:=hid C.out.size;have HA1:Hid (∀b,Value.ownBlock (.slice b1 m1 d1)=some b->b<W3.heap.size):=hid λb e=>(A1.out.2 b e).1
 have HA2:Hid (∀b,Value.ownBlock (.slice b2 m2 d2)=some b->b<W3.heap.size):=hid λb e=>(A2.out.2 b e).1
 have HA3:Hid (∀b,Value.ownBlock (.slice b3 m3 d3)=some b->b<W3.heap.size):=hid λb e=>(A3.out.2 b e).1
 obtain⟨rows,hrow,hall⟩:=H4.out;have hr5:∀q∈rows,q.length=5:=hall.len λq x h=>by obtain⟨_,_,rfl,_⟩:=h;rfl
 have hone:∀q∈rows,∀u∈q,u.oneCell'=true:=by
  intro q hq u hu;obtain⟨j,hj⟩:=List.getElem?_of_mem hq;have hlt:j<r.steps.length:=by rw[<-hall.1];exact(List.getElem?_eq_some_iff.1 hj).1
  obtain⟨va,vl,rfl,ha,hl⟩:=hall.2 j q _ hj (List.getElem?_eq_getElem hlt);obtain⟨_,_,rfl,_⟩:=ha;obtain⟨_,_,rfl,_⟩:=hl;simp only[List.mem_cons,List.not_mem_nil,or_false]at hu
  rcases hu with rfl|rfl|rfl|rfl|rfl<;>rfl
 have hlen:=hall.1;refine(Zcxy _ rows W3 (hrow.below C.out.b) hr5 hone (by omega)).mono ?_;rintro e V4 ⟨v4,rfl,ho,hb⟩;obtain⟨b4,d4,rfl,hgb,hd1,hd2⟩:=Zbea ho;obtain⟨⟨k0,k1,k2,k3,k4⟩,kf⟩:=(C.out.call hb).cells;have kf1:=kf 4;obtain⟨W4,hW4⟩:∃V,V=V4.setCell { block:=w.heap.size,off:=4 } (.slice b4 rows.length d4):=⟨_,rfl⟩;have hfr:Fr (Old w) V4 W4:=by rw[hW4];exact Zdac _
 have hC:ClS w r.name (.slice b1 m1 d1) (.slice b2 m2 d2) (.slice b3 m3 d3) (.slice b4 rows.length d4) W4:=by rw[hW4];exact(C.out.call hb).set4 _
 replace A1:=hid (RowA.keep (RowA.keep A1.out (Zpv hb)) hfr);replace A2:=hid (RowA.keep (RowA.keep A2.out (Zpv hb)) hfr);replace A3:=hid (RowA.keep (RowA.keep A3.out (Zpv hb)) hfr);have h3s:=C.out.size;have O4:=hid (World.ownsRow.kept (row:=some w.heap.size) ho ⟨hfr.os,hfr.tape,hfr.output,hfr.size,λk hk hne=>by rw[hW4];exact Below.heap_setCell _ _ _ _ (by simpa using hne)⟩ (by
  cases e:Value.ownBlock (.slice b4 rows.length d4)with
  | none=>exact .inl rfl
  | some b=>right;intro e2;cases e2;have:=(World.ownsRow.lt ho _ e).1;omega))
 replace C:=hid hC;have HR:=hid (And.intro hall hr5);clear ho hb hfr hC hrow hall hr5 hone;have hI4:=Zbij O4.out HR.out.2;have hFZ:=Zdfv O4.out;have hlt4:∀b,Value.ownBlock (.slice b4 rows.length d4)=some b->W3.heap.size<=b/\b<W4.heap.size:=λb e=>World.ownsRow.lt O4.out b e
 rw[hlen]at hW4 C hgb hd1 hI4 hFZ hlt4⊢;have HI4:=hid hI4;have HFZ:=hid hFZ;have HLT:=hid hlt4;have HGB:=hid hgb;have HLEN:=hid hlen;clear hI4 hFZ hlt4 hgb hlen O4
 go_upto_block 0 with fail
 rw[<-hW4];clear hW4 k0 k1 k2 k3 k4 kf kf1
 go_cut [] (λwx=>ClS w r.name (.slice b1 m1 d1) (.slice b2 m2 d2) (.slice b3 m3 d3) (.slice b4 r.steps.length d4) wx/\StrsA (Old w) wx (.slice b1 m1 d1) r.ins/\StrsA (Old w) wx (.slice b2 m2 d2) r.outs/\StrsA (Old w) wx (.slice b3 m3 d3) r.after/\StepsA (Old w) wx (.slice b4 r.steps.length d4) r.steps)
 case first=>
  go_wp2_with fail
  rcases Nat.eq_zero_or_pos r.steps.length with h0|h0
  ·have hi:¬(0:Int)<(r.steps.length:Int):=by omega
   have hst:StepsA (Old w) W4 (.slice b4 r.steps.length d4) r.steps:=by
    have e0:r.steps = []:=List.eq_nil_of_length_eq_zero h0;refine⟨[],⟨⟨b4,d4,by rw[h0];rfl,by simp,hd2,λh=>absurd rfl h⟩,λb e=>?_⟩,⟨by rw[e0];rfl,λj q x h=>by simp at h⟩⟩;have h1:=HLT.out b e;exact⟨h1.2,λ(h:b<w.heap.size+2)=>by have:=HS3.out;omega⟩
   have HST0:=hid hst;clear hst h0
   go_loopw [24] (λiv wr=>iv = .int .i64 0/\wr=W4) (λ_ _=>0)
   case atStart=>exact⟨rfl,rfl⟩
   case round=>
    obtain⟨rfl,rfl⟩:=hrel
    go_wp2_with fail
    go_meet;exact⟨C.out,A1.out,A2.out,A3.out,HST0.out⟩
  ·obtain⟨g,hg⟩:=HGB.out (by omega)
   subst hg;obtain⟨hg1,hg2⟩:=HLT.out g rfl;have hgs:w.heap.size+2<=g:=Nat.le_trans HS3.out hg1;have hav:∀ {v:Value} {xs:List ByteArray},StrsA (Old w) W4 v xs->(∀b,v.ownBlock=some b->b<W3.heap.size)->StrsA (Av1 w g) W4 v xs:=λh hb=>⟨h.1,λb e=>⟨(h.2 b e).1,λh2=>h2.elim (h.2 b e).2 (λe2=>by have:=hb b e;omega)⟩⟩
   have B1:=hid (hav A1.out HA1.out);have B2:=hid (hav A2.out HA2.out);have B3:=hid (hav A3.out HA3.out);have HG:=hid (And.intro hg1 (And.intro hg2 hgs));clear hav hg1 hg2 hgs A1 A2 A3 HGB
   go_loopw [24] (λiv wr=>∃k:Nat,k<=r.steps.length/\iv = .int .i64 (k:Int)/\ClS w r.name (.slice b1 m1 d1) (.slice b2 m2 d2) (.slice b3 m3 d3) (.slice (some ⟨g,0,none⟩) r.steps.length d4) wr/\StrsA (Av1 w g) wr (.slice b1 m1 d1) r.ins/\StrsA (Av1 w g) wr (.slice b2 m2 d2) r.outs/\StrsA (Av1 w g) wr (.slice b3 m3 d3) r.after/\(∀p,wr.frozen? ⟨g,p,none⟩=false)/\g<wr.heap.size/\∃R,ClR w g r rows d4 k R wr) (λiv _=>r.steps.length-(intOf iv).toNat)
   case atStart=>
    exact⟨0,Nat.zero_le _,rfl,C.out,B1.out,B2.out,B3.out,λp=>HFZ.out g rfl p,HG.out.2.1,rows,HI4.out,HR.out.2,HLEN.out,λj q x hq hx=>⟨λh=>absurd h (by omega),λ_=>hq⟩⟩
   case round=>
    obtain⟨k,hk,rfl,hC,hB1,hB2,hB3,hfz,hgl,R,hR⟩:=hrel;replace C:=hid hC;replace B1:=hid hB1;replace B2:=hid hB2;replace B3:=hid hB3;have HFZ2:=hid hfz;have HGL:=hid hgl;have HRR:=hid hR;clear hC hB1 hB2 hB3 hfz hgl hR
    by_cases hlt:k<r.steps.length
    ·obtain⟨x,hx⟩:∃x,r.steps[k]? =some x:=⟨r.steps[k],List.getElem?_eq_getElem hlt⟩
     have hi:(k:Int)<(r.steps.length:Int):=by omega
     have hk0:(0:Int)<=(k:Int):=by omega
     obtain⟨q,hq⟩:∃q,R[k]? =some q:=⟨R[k]'(by have:=HRR.out.2.2.1;omega),List.getElem?_eq_getElem _⟩;have hqk:=(HRR.out.2.2.2 k q x hq hx).2 (Nat.le_refl _);obtain⟨va,vl,rfl,ha,hl⟩:=HR.out.1.2 k q x hqk hx;obtain⟨pa,ca,ea,_⟩:=id ha;obtain⟨pl,cl,el,_⟩:=id hl;subst ea;subst el;have hfx:=HST.out x (List.mem_of_getElem? hx);obtain⟨s0,s1,s2,s3,s4⟩:=Zdho HRR.out.1 hq;have HA:=hid ha;have HL:=hid hl;have HQ:=hid hq;have HXX:=hid hx;clear ha hl hq hqk hx;obtain⟨Wa,hWa⟩:∃V,V=wr.alloc (.cells #[.string x.out,.int .i64 x.op,.slice pa x.args.length ca,.slice pl x.lits.length cl,.int .i64 x.n] 60):=⟨_,rfl⟩;have hba:Below wr.heap.size wr Wa:=by rw[hWa];exact(Below.refl _ _).alloc (Nat.le_refl _) _
     have hsa:Wa.heap[wr.heap.size]? =some (.cells #[.string x.out,.int .i64 x.op,.slice pa x.args.length ca,.slice pl x.lits.length cl,.int .i64 x.n] 60):=by rw[hWa];exact alloc_at wr _
     have HBA:=hid hba;have C8:Hid (∀V,Fr (λb=>b=g) Wa V->ClS w r.name (.slice b1 m1 d1) (.slice b2 m2 d2) (.slice b3 m3 d3) (.slice (some ⟨g,0,none⟩) r.steps.length d4) V):=hid λV hV=>(C.out.call HBA.out).fr (hV.mono λb _ e=>by rw[e];exact HG.out.2.2)
     have S8:Hid (∀V,Fr (λb=>b=g) Wa V->V.heap[wr.heap.size]? =some (.cells #[.string x.out,.int .i64 x.op,.slice pa x.args.length ca,.slice pl x.lits.length cl,.int .i64 x.n] 60)):=hid λV hV=>(hV.block _ (Array.getElem?_eq_some_iff.1 hsa).1 (by have:=HGL.out;omega)).trans hsa
     have F8:Hid (∀V,Fr (λb=>b=g) Wa V->Fr (Av1 w g) wr V):=hid λV hV=>(Zpv HBA.out).trans (hV.mono λb _ e=> .inr e)
     have W8:=hid (show g<Wa.heap.size from Nat.lt_of_lt_of_le HGL.out HBA.out.size);clear hba hsa
     go_wp2_with fail
     rw[<-hWa];clear hWa s0 s1 s2 s3 s4;refine wp_region_held_drew (S:=λV=>Fr (λb=>b=g) Wa V) (by kernel_rfl) ?_ (λhHeld=>?_)
     ·exact Zpv (below_drewN (Below.refl _ _) _)
     refine tkK 0 ?_
     try simp only[Act.put,sA,sZ,sS]
     refine tkH 1 (v:=?_) ?_ ?_;rotate_left
     ·intro w hSw;obtain⟨⟨k0,k1,k2,k3,k4⟩,_⟩:=(C8.out _ hSw).cells;go_simp;try with_reducible rfl
     try simp only[Act.put,sA,sZ,sS]
     refine tkK 2 ?_;refine tkK 3 ?_
     try simp only[Act.put,sA,sZ,sS]
     refine tkH 4 (v:=?_) ?_ ?_;rotate_left
     ·intro w hSw;obtain⟨⟨t0,t1,t2,t3,t4⟩,_⟩:=Zdhi (S8.out _ hSw);go_simp;try with_reducible rfl
     try simp only[Act.put,sA,sZ,sS]
     refine rdH [5] ?_;refine rcH (λK hK=>?_) ?_
     ·go_simp;refine(Zjh _ x.args _ (HA.out.below (C8.out _ hHeld).b) (by omega)).mono ?_;intro e' Va hp;obtain⟨pb,nb,cb,rfl,hAa,hb⟩:=Zjj hp;clear hp;dsimp only
      refine hK.out _ _ ?_ (λhHeld=>?_)
      ·try dsimp only
       exact hHeld.trans (Zpv hb)
      clear hK K
      try simp only[Act.put,sA,sZ,sS]
      refine tkK 6 ?_;refine tkK 7 ?_
      try simp only[Act.put,sA,sZ,sS]
      refine rdH [8] ?_;refine rcH (λK hK=>?_) ?_
      ·have hIV:=((HRR.out.1.below HBA.out.drew)).below hb;obtain⟨s0,s1,s2,s3,s4⟩:=Zdho hIV (HQ.out);have hf0:Va.frozen? { block:=g,off:=k*5+2 } =false:=(Zckv (hb.block g (W8.out)) _).trans ((λp=>(Zckv (HBA.out.drew.block g HGL.out) p).trans (HFZ2.out p)) _);clear hIV;go_simp
       refine hK.out _ _ ?_ (λhHeld=>?_)
       ·try dsimp only
        exact hHeld.trans (Zpy (Av:=λb=>b=g) (a:=⟨g,k*5+2,none⟩) rfl _)
       clear hK K
       try simp only[Act.put,sA,sZ,sS]
       refine wpAnyH_done (by kernel_rfl) ?_ _;obtain⟨Wb,hWb⟩:∃V,V=Va.setCell { block:=g,off:=k*5+2 } (.slice pb nb cb):=⟨_,rfl⟩;have hIV:=(HRR.out.1.below HBA.out.drew).below hb;have hIb:IsRow Wb (.slice (some ⟨g,0,none⟩) r.steps.length d4) 5 (R.set k [.string x.out,.int .i64 x.op,.slice pb nb cb,.slice pl x.lits.length cl,.int .i64 x.n]):=by
        rw[hWb];have:=Zclk (o:=0) hIV HRR.out.2.1 HQ.out (show 2<5 by omega) (.slice pb nb cb);simpa using this
       have hfz2:∀p,Wb.frozen? ⟨g,p,none⟩=false:=by
        rw[hWb];intro p;rw[World.frozen?_setCell];exact(Zckv (hb.block g W8.out) p).trans ((Zckv (HBA.out.drew.block g HGL.out) p).trans (HFZ2.out p))
       have hAb:StrsA (Av1 w g) Wb (.slice pb nb cb) x.args:=by
        rw[hWb];exact RowA.keep (RowA.mono hAa (λb _ h2=>by have h6:=W8.out;have h7:=HG.out.2.2;show b<Wa.heap.size;rcases(show b<w.heap.size+2∨b=g from h2)with h2|h2<;>omega)) (Zpy (a:=⟨g,k*5+2,none⟩) (.inr rfl) _)
       rw[<-hWb];rw[<-hWb]at hHeld;have hkR:k<R.length:=(List.getElem?_eq_some_iff.1 HQ.out).1;have HQ2:Hid ((R.set k [.string x.out,.int .i64 x.op,.slice pb nb cb,.slice pl x.lits.length cl,.int .i64 x.n])[k]? =some [.string x.out,.int .i64 x.op,.slice pb nb cb,.slice pl x.lits.length cl,.int .i64 x.n]):=hid (List.getElem?_set_self hkR);have HL5:Hid (∀q∈R.set k [.string x.out,.int .i64 x.op,.slice pb nb cb,.slice pl x.lits.length cl,.int .i64 x.n],q.length=5):=hid λq hq=>by
        rcases List.mem_or_eq_of_mem_set hq with h|h
        ·exact HRR.out.2.1 q h
        ·rw[h];rfl
       have HIB:=hid hIb;have HFZB:=hid hfz2;have HAB:=hid hAb;have HHB:=hid hHeld;have WB8:=hid (show g<Wb.heap.size from Nat.lt_of_lt_of_le W8.out hHeld.size);clear hWb hIV hIb hfz2 hAb hHeld hb hAa hkR
       go_wp2_with fail
       refine wp_region_held_drew (S:=λV=>Fr (λb=>b=g) Wa V) (by kernel_rfl) ?_ (λhHeld=>?_)
       ·exact HHB.out.trans (Zpv (below_drewN (Below.refl _ _) _))
       refine tkK 0 ?_
       try simp only[Act.put,sA,sZ,sS]
       refine tkH 1 (v:=?_) ?_ ?_;rotate_left
       ·intro w hSw;obtain⟨⟨k0,k1,k2,k3,k4⟩,_⟩:=(C8.out _ hSw).cells;go_simp;try with_reducible rfl
       try simp only[Act.put,sA,sZ,sS]
       refine tkK 2 ?_;refine tkK 3 ?_
       try simp only[Act.put,sA,sZ,sS]
       refine tkH 4 (v:=?_) ?_ ?_;rotate_left
       ·intro w hSw;obtain⟨⟨t0,t1,t2,t3,t4⟩,_⟩:=Zdhi (S8.out _ hSw);go_simp;try with_reducible rfl
       try simp only[Act.put,sA,sZ,sS]
       refine rdH [5] ?_;refine rcH (λK hK=>?_) ?_
       ·go_simp;refine(Zjh _ x.lits _ (HL.out.below (C8.out _ hHeld).b) (by omega)).mono ?_;intro e' Vb hp;obtain⟨pc,nc,cc,rfl,hLa,hb⟩:=Zjj hp;clear hp;dsimp only
        refine hK.out _ _ ?_ (λhHeld=>?_)
        ·try dsimp only
         exact hHeld.trans (Zpv hb)
        clear hK K
        try simp only[Act.put,sA,sZ,sS]
        refine tkK 6 ?_;refine tkK 7 ?_
        try simp only[Act.put,sA,sZ,sS]
        refine rdH [8] ?_;refine rcH (λK hK=>?_) ?_
        ·have hIV:=((HIB.out.below (Below.refl Wb.heap.size Wb).drew)).below hb;obtain⟨s0,s1,s2,s3,s4⟩:=Zdho hIV (HQ2.out);have hf0:Vb.frozen? { block:=g,off:=k*5+3 } =false:=(Zckv (hb.block g (WB8.out)) _).trans ((λp=>HFZB.out p) _);clear hIV;go_simp
         refine hK.out _ _ ?_ (λhHeld=>?_)
         ·try dsimp only
          exact hHeld.trans (Zpy (Av:=λb=>b=g) (a:=⟨g,k*5+3,none⟩) rfl _)
         clear hK K
         try simp only[Act.put,sA,sZ,sS]
         refine wpAnyH_done (by kernel_rfl) ?_ _;obtain⟨Wc,hWc⟩:∃V,V=Vb.setCell { block:=g,off:=k*5+3 } (.slice pc nc cc):=⟨_,rfl⟩;have hIV:=(HIB.out.below (Below.refl Wb.heap.size Wb).drew).below hb;have hIc:IsRow Wc (.slice (some ⟨g,0,none⟩) r.steps.length d4) 5 ((R.set k [.string x.out,.int .i64 x.op,.slice pb nb cb,.slice pl x.lits.length cl,.int .i64 x.n]).set k [.string x.out,.int .i64 x.op,.slice pb nb cb,.slice pc nc cc,.int .i64 x.n]):=by
          rw[hWc];have:=Zclk (o:=0) hIV HL5.out HQ2.out (show 3<5 by omega) (.slice pc nc cc);simpa using this
         have hfz3:∀p,Wc.frozen? ⟨g,p,none⟩=false:=by
          rw[hWc];intro p;rw[World.frozen?_setCell];exact(Zckv (hb.block g WB8.out) p).trans (HFZB.out p)
         have hfb:Fr (Av1 w g) Vb Wc:=by rw[hWc];exact Zpy (a:=⟨g,k*5+3,none⟩) (.inr rfl) _
         have hLc:StrsA (Av1 w g) Wc (.slice pc nc cc) x.lits:=RowA.keep (RowA.mono hLa (λb _ h2=>by have h6:=WB8.out;have h7:=HG.out.2.2;show b<Wb.heap.size;rcases(show b<w.heap.size+2∨b=g from h2)with h2|h2<;>omega)) hfb;have hAc:StrsA (Av1 w g) Wc (.slice pb nb cb) x.args:=RowA.keep (RowA.keep (RowA.keep HAB.out (Zpw _ Wb)) (Zpv hb)) hfb;rw[<-hWc];rw[<-hWc]at hHeld;have hF:=F8.out _ hHeld;have hCc:=C8.out _ hHeld;have hgc:g<Wc.heap.size:=Nat.lt_of_lt_of_le W8.out hHeld.size;have HREL:Hid (∃R',ClR w g r rows d4 (k+1) R' Wc):=by
          show ∃R',_;refine⟨_,hIc,?_,?_,?_⟩
          ·intro q hq
           rcases List.mem_or_eq_of_mem_set hq with h|h
           ·exact HL5.out q h
           ·rw[h];rfl
          ·rw[List.length_set,List.length_set];exact HRR.out.2.2.1
          ·intro j q y hq hy
           have hkR:k<R.length:=(List.getElem?_eq_some_iff.1 HQ.out).1
           by_cases e:j=k
           ·subst e
            rw[List.getElem?_set_self (by rw[List.length_set];exact hkR)]at hq
            cases hq
            have hxy:x=y:=by have:=HXX.out.symm.trans hy;cases this;rfl
            subst hxy;exact⟨λ_=>⟨_,_,rfl,hAc,hLc⟩,λh=>absurd h (by omega)⟩
           ·rw[List.getElem?_set_ne (Ne.symm e),List.getElem?_set_ne (Ne.symm e)]at hq
            have:=HRR.out.2.2.2 j q y hq hy;exact⟨λh=>(this.1 (by omega)).keep hF,λh=>this.2 (by omega)⟩
         have D1:=hid (RowA.keep B1.out hF);have D2:=hid (RowA.keep B2.out hF);have D3:=hid (RowA.keep B3.out hF);have HCC:=hid hCc;have HF3:=hid hfz3;have HGC:=hid hgc;clear hWc hIV hIc hfz3 hfb hLc hAc hF hCc hgc hHeld hb hLa;go_wp2;go_roundw
         case rel=>exact⟨k+1,by omega,by go_num,HCC.out,D1.out,D2.out,D3.out,HF3.out,HGC.out,HREL.out⟩
         case measure=>simp only[intOf];omega
        exact AllReadyH.nil
       exact AllReadyH.nil
      exact AllReadyH.nil
     exact AllReadyH.nil
    ·obtain rfl:k=r.steps.length:=by omega
     have hi:¬(r.steps.length:Int)<(r.steps.length:Int):=by omega
     have hold:∀ {v:Value} {xs:List ByteArray},StrsA (Av1 w g) wr v xs->StrsA (Old w) wr v xs:=λh=>RowA.mono h λb _ h2=> .inl h2
     have hst:StepsA (Old w) wr (.slice (some ⟨g,0,none⟩) r.steps.length d4) r.steps:=by
      obtain⟨h1,h2,h3,h4⟩:=HRR.out;refine⟨R,⟨h1,λb e=>by cases e;exact⟨HGL.out,λ(h:g<w.heap.size+2)=>by have:=HG.out;omega⟩⟩,h3,λj q x hq hx=>?_⟩;have hj:=(List.getElem?_eq_some_iff.1 hx).1;obtain⟨va,vl,rfl,s1,s2⟩:=(h4 j q x hq hx).1 hj;exact⟨va,vl,rfl,hold s1,hold s2⟩
     have HST1:=hid hst;clear hst hold
     go_wp2_with fail
     go_meet;exact⟨C.out,RowA.mono B1.out λb _ h2=> .inl h2,RowA.mono B2.out λb _ h2=> .inl h2,RowA.mono B3.out λb _ h2=> .inl h2,HST1.out⟩
 case rest=>
  obtain⟨hC,hA1,hA2,hA3,hA4⟩:=hcut;obtain⟨W5,hW5⟩:∃V,wc=V:=⟨_,rfl⟩;rw[hW5]at hC hA1 hA2 hA3 hA4⊢;obtain⟨⟨k0,k1,k2,k3,k4⟩,_⟩:=hC.cells;have CC:=hid hC;have Q1:=hid hA1;have Q2:=hid hA2;have Q3:=hid hA3;have Q4:=hid hA4;have hrs:=hC.rs;have HRS:=hid hrs;clear hW5 hC hA1 hA2 hA3 hA4;obtain⟨⟨z0,z1,z2,z3,z4⟩,zf⟩:=Zdhi hrs;have zf0:=zf 0;have zf1:=zf 1;have zf2:=zf 2;have zf3:=zf 3;have zf4:=zf 4;clear zf hrs;go_wp2;refine bodyPost_ret (Zbhl rfl _ _ (w.heap.size+1) _ _ _ _ rfl (Zdbi HRS.out _ _ _ _ _) underlying50 rfl (by kernel_rfl)) rfl ?_;have hf5:=Zdad (Av:=Old w) (w:=W5) (g:=w.heap.size+1) (by show w.heap.size+1<w.heap.size+2;omega);have hmo:∀(b:Nat),b<w.heap.size->Old w b:=λb h=>by show b<w.heap.size+2;omega
  refine⟨⟨_,_,_,_,rfl,RowA.mono (RowA.keep Q1.out (hf5 _ _ _ _ _)) (λb _=>hmo b),RowA.mono (RowA.keep Q2.out (hf5 _ _ _ _ _)) (λb _=>hmo b),RowA.mono (RowA.keep Q3.out (hf5 _ _ _ _ _)) (λb _=>hmo b),(Q4.out.keep (hf5 _ _ _ _ _)).mono (λb _=>hmo b)⟩,?_⟩;exact CC.out.b.trans ((Zdad (Av:=λb=>w.heap.size<=b) (w:=W5) (g:=w.heap.size+1) (by omega) _ _ _ _ _).below CC.out.b.size (λk hk=>by omega))
end Go.Proofs.YtokogjhcidkckaaGreatDoor
namespace Go.Proofs.YtokogjhcidkckaaGreatDoor
open Go.Lib (hid)
open Go.Proofs.Tryz
open Go.RowKit Go.Shelf
theorem Zdhj {P:Program} {fn:Func} {p u:Tmp} {ty:TypeId} (h:fn.results = #[.cell p ty,.tmp u]) (tmps:Array Value) (w:World) (g:Nat) (t:TypeId) (cs:Array Value) (fr:Nat×Nat) (d:TypeDesc)
  (hp:tmps.getD p undef = .pointer (some ⟨g,0,none⟩)) (hg:w.heap[g]? =some (.cells cs t fr))
  (hu:P.underlying ty=some d) (hd:(match d with | .struct _ | .array _ _=>true|_=>false)=true) (hi:(P.info? ty).map (·.size)=some cs.size):
  (results fn tmps).run P w = .ok (.tuple #[.agg cs,tmps.getD u undef]) w:=by
 have hp':tmps[p]?.getD undef = .pointer (some ⟨g,0,none⟩):=by simpa using hp
 simp[results,h,hp',asAddr,run_loadVar_row w g t ty cs fr d hg hu hd hi]
set_option maxHeartbeats 8000000
set_option maxRecDepth 100000
theorem Zdas (p:Nat) (A M R:SKV) (k:ByteArray) (w:World) (h:GrM w p A M R) (r:RuleS) (a1 a2 a3 a4:Option Addr) (n1 c1 n2 c2 n3 c3 n4 c4:Nat) (hg:getA A k zRul = .agg #[.string r.name,.slice a1 n1 c1,.slice a2 n2 c2,.slice a3 n3 c3,.slice a4 n4 c4])
  (h1:IsStrs w (.slice a1 n1 c1) r.ins) (h2:IsStrs w (.slice a2 n2 c2) r.outs) (h3:IsStrs w (.slice a3 n3 c3) r.after) (h4:StepsI w (.slice a4 n4 c4) r.steps)
  (hn1:r.ins.length<=1000000) (hn2:r.outs.length<=1000000) (hn3:r.after.length<=1000000) (hn4:r.steps.length<=1000000) (hst:∀x∈r.steps,x.args.length<=1000000/\x.lits.length<=1000000):
  Calls prog 22 #[.pointer (some { block:=p,off:=0 }),.string k] w λe w'=>(∃vi vo vf vs,e = .returned (.tuple #[.agg #[.string r.name,vi,vo,vf,vs],.bool (hasA A k)])/\StrsA (λb=>b<w.heap.size) w' vi r.ins/\StrsA (λb=>b<w.heap.size) w' vo r.outs/\StrsA (λb=>b<w.heap.size) w' vf r.after/\StepsA (λb=>b<w.heap.size) w' vs r.steps)/\Below w.heap.size w w':=by
 obtain⟨mr,mm,md,g1,g2,_,_⟩:=h.ex;obtain⟨W0,hW0⟩:∃V,V=w.alloc (.cells #[.string ⟨#[]⟩,.slice none 0 0,.slice none 0 0,.slice none 0 0,.slice none 0 0] 50):=⟨_,rfl⟩;obtain⟨W1,hW1⟩:∃V,V=W0.alloc (.cells #[.string r.name,.slice a1 n1 c1,.slice a2 n2 c2,.slice a3 n3 c3,.slice a4 n4 c4] 50):=⟨_,rfl⟩;have hb0:Below w.heap.size w W0:=by rw[hW0];exact(Below.refl _ _).alloc (Nat.le_refl _) _
 have hs0:W0.heap.size=w.heap.size+1:=by rw[hW0];simp
 have hb1:Below w.heap.size w W1:=by rw[hW1];exact hb0.alloc hb0.size _
 have hb01:Below W0.heap.size W0 W1:=by rw[hW1];exact(Below.refl _ _).alloc (Nat.le_refl _) _
 have hr0:W0.heap[w.heap.size]? =some (.cells #[.string ⟨#[]⟩,.slice none 0 0,.slice none 0 0,.slice none 0 0,.slice none 0 0] 50):=by rw[hW0];exact alloc_at w _
 have hr1:=(hb01.block w.heap.size (by omega)).trans hr0;have hl:=(g2.below hb0 g2.lt).get_ok (P:=prog) underlying87 underlying9 (Zdkb W0) k;rw[hg]at hl;have hc:W0.cell? { block:=p,off:=0 } =some (.map (some mr)):=by
  have:=(hb0.block p h.lt).trans g1;simp[World.cell?,this]
 have HCR:=hid (Zcxx r a1 a2 a3 a4 n1 c1 n2 c2 n3 c3 n4 c4 W1 (h1.below hb1) (h2.below hb1) (h3.below hb1) ⟨h4.choose,h4.choose_spec.1.below (by exact⟨hb1.os,hb1.tape,hb1.output,hb1.size,hb1.block⟩),h4.choose_spec.2.imp λq x hq=>by obtain⟨va,vl,e,s1,s2⟩:=hq;exact⟨va,vl,e,s1.below hb1,s2.below hb1⟩⟩ hn1 hn2 hn3 hn4 hst);have HR1:=hid hr1;have HB1:=hid hb1;have HS1:Hid (w.heap.size<W1.heap.size):=hid (Nat.lt_of_lt_of_le (by omega) hb01.size);have hq:=λw=>Zcym (b:=p) w
 rw[hW0]at hl hc;clear h h1 h2 h3 h4 hst hg g1 g2 hb0 hb1 hb01 hr0 hr1
 go_enter func22,ntmps22
 go_wp2_with fail
 rw[<-hW0,<-hW1];clear hW0 hW1 hl hc;refine HCR.out.mono ?_;rintro e V ⟨⟨vi,vo,vf,vs,rfl,s1,s2,s3,s4⟩,hb⟩;obtain⟨_,_,_,rfl⟩:=Zbig s1;obtain⟨_,_,_,rfl⟩:=Zbig s2;obtain⟨_,_,_,rfl⟩:=Zbig s3;obtain⟨_,_,rfl,_⟩:=Zboi s4;have hrv:=(hb.block w.heap.size HS1.out).trans HR1.out;have HRV:=hid hrv;obtain⟨⟨z0,z1,z2,z3,z4⟩,zf⟩:=Zdhi hrv;have zf0:=zf 0;have zf1:=zf 1;have zf2:=zf 2;have zf3:=zf 3;have zf4:=zf 4;have S1:=hid s1;have S2:=hid s2;have S3:=hid s3;have S4:=hid s4;have HB:=hid (HB1.out.trans (hb.mono HB1.out.size));clear zf hrv s1 s2 s3 s4 hb;go_wp2;refine bodyPost_ret (Zdhj rfl _ _ w.heap.size _ _ _ _ rfl (Zdbi HRV.out _ _ _ _ _) underlying50 rfl (by kernel_rfl)) rfl ?_;have hf5:=Zdad (Av:=λb=>b<W1.heap.size) (w:=V) (g:=w.heap.size) HS1.out;have hmo:∀(b:Nat),b<w.heap.size->b<W1.heap.size:=λb h=>by have:=HS1.out;omega
 refine⟨⟨_,_,_,_,rfl,RowA.mono (RowA.keep S1.out (hf5 _ _ _ _ _)) (λb _=>hmo b),RowA.mono (RowA.keep S2.out (hf5 _ _ _ _ _)) (λb _=>hmo b),RowA.mono (RowA.keep S3.out (hf5 _ _ _ _ _)) (λb _=>hmo b),(S4.out.keep (hf5 _ _ _ _ _)).mono (λb _=>hmo b)⟩,?_⟩;exact HB.out.trans ((Zdad (Av:=λb=>w.heap.size<=b) (w:=V) (g:=w.heap.size) (Nat.le_refl _) _ _ _ _ _).below HB.out.size (λk hk=>by omega))
section
variable {P:Program} {ops:Array Oper} {Q:Exit->Act->World->Prop} {md:Region.Mode} {S:Bool->World->Prop} {st:Nat}
theorem tkS (i:Nat) {oi:Oper} {v:Value} {fuel:Nat} {listed:Array Bool} {a:Act} {w:World}
  (h:wpAnyS P md ops Q S st fuel (listed.setIfInBounds i true) (a.put oi.dst v) w)
  (hi:ops[i]? =some oi:=by simp only[List.getElem?_toArray,List.getElem?_cons_succ,List.getElem?_cons_zero];rfl)
  (y:∀w,S false w->(execOp a.eval oi).run P w = .ok (.value v) w:=by intro w hSw;obtain⟨hw1,_⟩:=hSw;obtain rfl:=hw1 rfl;clear hw1;go_simp;try with_reducible rfl)
  (hs:Region.noSelect ops=true:=by kernel_rfl) (hcl:Zjk md ops listed=true:=by kernel_rfl) (hwt:Zbsp md ops i 20 st=true:=by kernel_rfl) (hne:(i==st)=false:=by kernel_rfl) (hf:Region.free md ops listed i=true:=by kernel_rfl) (hr:(Region.ready md ops listed).contains i=true:=by kernel_rfl)
  (hQ:∀c a w,Q (.panic c) (a.put oi.dst v) w->Q (.panic c) a w:=by exact λ_ _ _ h=>h) (hL:listed.getD st false=false:=by kernel_rfl) (hw:Region.wanted oi (yielded ops a.tmps)=true:=by rfl) (hS:S false w:=by assumption):wpAnyS P md ops Q S st (fuel+1) listed a w:=
 Zbty hi hs hcl hwt hne hf hr hQ hL (Or.inl ⟨hw,y⟩) hS h
theorem tkZ (i:Nat) {oi:Oper} {v:Value} {fuel:Nat} {listed:Array Bool} {a:Act} {w:World} {b:Bool}
  (h:wpAnyS P md ops Q S st fuel (listed.setIfInBounds i true) (a.put oi.dst v) w)
  (hi:ops[i]? =some oi:=by simp only[List.getElem?_toArray,List.getElem?_cons_succ,List.getElem?_cons_zero];rfl)
  (y:∀w,(∃b,S b w)->(execOp a.eval oi).run P w = .ok (.value v) w:=by intro w hSw;obtain⟨_,_,hw2⟩:=hSw;go_simp;try with_reducible rfl)
  (hs:Region.noSelect ops=true:=by kernel_rfl) (hne:(i==st)=false:=by kernel_rfl) (hf:Region.free md ops listed i=true:=by kernel_rfl) (hr:(Region.ready md ops listed).contains i=true:=by kernel_rfl)
  (hQ:∀c a w,Q (.panic c) (a.put oi.dst v) w->Q (.panic c) a w:=by exact λ_ _ _ h=>h) (hb:listed.getD st false=b:=by kernel_rfl) (hw:Region.wanted oi (yielded ops a.tmps)=true:=by rfl) (hS:S b w:=by assumption):wpAnyS P md ops Q S st (fuel+1) listed a w:=
 Zbtz hi hs hne hf hr hQ hb (Or.inl ⟨hw,y⟩) hS h
end
end Go.Proofs.YtokogjhcidkckaaGreatDoor
