import Derived.Test.YtcpjfpdecklkgaaGreatDoorMai
import Derived.ArgAppend
namespace Go.Proofs.YtcpjfpdecklkgaaGreatDoor
open Go.Lib (hid)
open Go.Proofs.Tryz
open Go.RowKit
theorem cells5 {w:World} {b:Nat} {x0 x1 x2 x3 x4:Value} {T:TypeId} (h:w.heap[b]? =some (.cells #[x0,x1,x2,x3,x4] T)):
  w.cell? ⟨b,0,none⟩=some x0/\w.cell? ⟨b,1,none⟩=some x1/\w.cell? ⟨b,2,none⟩=some x2/\w.cell? ⟨b,3,none⟩=some x3/\w.cell? ⟨b,4,none⟩=some x4/\
  w.frozen? ⟨b,0,none⟩=false/\w.frozen? ⟨b,1,none⟩=false/\w.frozen? ⟨b,2,none⟩=false/\w.frozen? ⟨b,3,none⟩=false/\w.frozen? ⟨b,4,none⟩=false:=by
 simp[World.cell?,World.frozen?,h]
theorem After.set {w w1:World} {p:Nat} {v:Value} {ws:List Zcj} {s0 s:PS} (h0:PSt w p v ws s0) (h:After w w1 p v ws s) {a:Addr} (ha:w.heap.size<=a.block) (u:Value):After w (w1.setCell a u) p v ws s:=by
 refine⟨h.1.fr (Av:=λb=>b=a.block) (Zpy (a:=a) (Av:=λb=>b=a.block) rfl u) (λe=>?_) (λb hb e=>?_),?_⟩
 ·have:=h0.p_lt;omega
 ·have:=(h0.row.2 b hb).1;omega
 ·refine⟨h.2.os,h.2.tape,h.2.output,by simp[World.setCell];exact h.2.size,λk hk hn=>?_⟩
  rw[Below.heap_setCell _ _ _ _ (by omega)];exact h.2.block k hk hn
structure SM (T:TypeId) (z:Array Value) (w wr:World) (p:Nat) (v:Value) (ws:List Zcj) (s:PS) (cs:Array Value):Prop where
 af:After w wr p v ws s
 r0:wr.heap[w.heap.size]? =some (.cells z T)
 r1:wr.heap[w.heap.size+1]? =some (.cells cs T)
 big:w.heap.size+2<=wr.heap.size
theorem SM.begin {T:TypeId} {w:World} {p:Nat} {v:Value} {ws:List Zcj} {s:PS} (h:PSt w p v ws s) (z cs:Array Value):SM T z w ((w.alloc (.cells z T)).alloc (.cells cs T)) p v ws s cs:=by
 refine⟨((After.refl h).alloc _).alloc _,?_,?_,by simp⟩
 ·rw[Below.heap_alloc _ _ _ (by simp)];exact alloc_at w _
 ·have:=alloc_at (w.alloc (.cells z T)) (.cells cs T)
  simpa using this
theorem SM.step {T:TypeId} {z:Array Value} {w wr w':World} {p:Nat} {v:Value} {ws:List Zcj} {s0 s s':PS} {cs:Array Value} (h0:PSt w p v ws s0) (h:SM T z w wr p v ws s cs) (ha:After wr w' p v ws s'):SM T z w w' p v ws s' cs:=by
 have hp:=h0.p_lt;have hb:=h.big;exact⟨h.af.trans ha,(ha.2.block _ (by omega) (by omega)).trans h.r0,(ha.2.block _ (by omega) (by omega)).trans h.r1,Nat.le_trans hb ha.2.size⟩
theorem SM.alloc {T:TypeId} {z:Array Value} {w wr:World} {p:Nat} {v:Value} {ws:List Zcj} {s0 s:PS} {cs:Array Value} (h0:PSt w p v ws s0) (h:SM T z w wr p v ws s cs) (o:Obj):SM T z w (wr.alloc o) p v ws s cs:=
 h.step h0 ((After.refl h.af.1).alloc o)
theorem SM.set {T:TypeId} {z:Array Value} {w wr:World} {p:Nat} {v:Value} {ws:List Zcj} {s0 s:PS} {cs:Array Value} (h0:PSt w p v ws s0) (h:SM T z w wr p v ws s cs) (i:Nat) (u:Value):SM T z w (wr.setCell ⟨w.heap.size+1,i,none⟩ u) p v ws s (cs.setIfInBounds i u):=by
 refine⟨h.af.set h0 (by simp) u,?_,heap_set i u h.r1,by simp[World.setCell];exact h.big⟩;rw[Below.heap_setCell _ _ _ _ (by simp)];exact h.r0
theorem SM.rs {T:TypeId} {z:Array Value} {w wr:World} {p:Nat} {v:Value} {ws:List Zcj} {s0 s:PS} {cs:Array Value} (h:SM T z w wr p v ws s cs) (h0:RS w p v ws s0):RS wr p v ws s:=h0.after h.af
theorem Zwi {w wr w':World} {p:Nat} {v:Value} {ws:List Zcj} {s0 s':PS} (h0:PSt w p v ws s0) (ha:After wr w' p v ws s'):Fr (λb=>b<w.heap.size+2) wr w':=ha.2.mono λk _ e=>by have:=h0.p_lt;omega
theorem Zbqb {w wr w':World} {va:Value} {xs:List ByteArray} (h:StrsA (λb=>b<w.heap.size+2) wr va xs) (hf:Fr (λb=>b<w.heap.size+2) wr w'):StrsA (λb=>b<w.heap.size+2) w' va xs:=RowA.keep h hf
theorem Zbqa {w wr:World} {B:Nat} {va:Value} {xs:List ByteArray} (h:StrsA (λb=>b<B) wr va xs) (hB:w.heap.size+2<=B):StrsA (λb=>b<w.heap.size+2) wr va xs:=RowA.mono h λb _ hb=>by omega
theorem Zbqe {w wr:World} {va:Value} {xs:List ByteArray} (h:StrsA (λb=>b<w.heap.size+2) wr va xs):StrsA (λb=>b<w.heap.size) wr va xs:=RowA.mono h λb _ hb=>by omega
theorem Zbqc {t:TypeId} (wr:World) (cs:Array Value) (n:Nat) (xs:List ByteArray) (hx:xs.map Value.string=cs.toList) (hn:xs.length=n) (hm:n<=maxLen):StrsA (λb=>b<wr.heap.size) (wr.alloc (.cells cs t)) (.slice (some ⟨wr.heap.size,0,none⟩) n n) xs:=by
 subst hn;have hcs:cs.size=xs.length*1:=by rw[<-Array.length_toList,<-hx];simp
 have:=World.ownsRow_lit (base:=wr.heap.size) (e:=t) (size:=1) wr cs xs.length (Nat.le_refl _) hm hcs;rw[<-hx]at this;exact Zbqf this
theorem Zbig {Av:Nat->Prop} {w:World} {va:Value} {k:Nat} {rows:List (List Value)} (h:RowA Av w va k rows):∃a n c,va = .slice a n c:=by
 obtain⟨⟨a,c,rfl,_⟩,_⟩:=h;exact⟨a,_,c,rfl⟩
theorem Zbqd (Av:Nat->Prop) (w:World):StrsA Av w (.slice none 0 0) []:=Zbie Av w 1
def Zcb (w w':World) (x:StepS) (e:Ending):Prop:=
 ∃va vl,e = .returned (.agg #[.string x.out,.int .i64 x.op,va,vl,.int .i64 x.n])/\StrsA (λb=>b<w.heap.size) w' va x.args/\StrsA (λb=>b<w.heap.size) w' vl x.lits
def Zbut:Array Value:=#[.string ⟨#[]⟩,.int .i64 0,.slice none 0 0,.slice none 0 0,.int .i64 0]
set_option maxHeartbeats 4000000 in
set_option maxRecDepth 100000 in
theorem Zbeq (p:Nat) (v:Value) (ws:List Zcj) (s:PS) (w:World) (h:RS w p v ws s):
  Calls prog 269 #[.pointer (some ⟨p,0,none⟩)] w λe w'=>Zcb w w' (Zbns ws s).1 e/\After w w' p v ws (Zbns ws s).2:=by
 have H:=hid h;have hpl:=h.st.p_lt;obtain⟨R,hR⟩:∃R,Zbns ws s=R:=⟨_,rfl⟩;rw[hR];have CN:Hid (∀s w',RS w' p v ws s->Calls prog 233 #[.pointer (some ⟨p,0,none⟩)] w' λe w''=>e = .returned (.string (Zzr ws s).1)/\After w' w'' p v ws (Zzr ws s).2):=λs w' hr=>Zbek p v ws s w' hr
 have CT:Hid (∀s w',RS w' p v ws s->Calls prog 286 #[.pointer (some ⟨p,0,none⟩)] w' λe w''=>e = .returned (.string (Zbrk ws s).1)/\After w' w'' p v ws (Zbrk ws s).2):=λs w' hr=>Zbes p v ws s w' hr
 have CU:Hid (∀s w',RS w' p v ws s->Calls prog 287 #[.pointer (some ⟨p,0,none⟩)] w' λe w''=>e = .returned (.int .i64 (Zbbz ws s).1)/\After w' w'' p v ws (Zbbz ws s).2):=λs w' hr=>Zbem p v ws s w' hr
 have CO:Hid (∀s w',RS w' p v ws s->Calls prog 284 #[.pointer (some ⟨p,0,none⟩)] w' λe w''=>e = .returned (.int .i64 (opP ws s).1)/\After w' w'' p v ws (opP ws s).2):=λs w' hr=>Zben p v ws s w' hr
 have CM:Hid (∀key s w',RS w' p v ws s->Calls prog 234 #[.pointer (some ⟨p,0,none⟩),.string key] w' λe w''=>e = .returned (.tuple #[])/\After w' w'' p v ws (Zyk ws key s)):=λkey s w' hr=>Zbej p v ws s key w' hr
 have CL:Hid (∀s w',RS w' p v ws s->Calls prog 285 #[.pointer (some ⟨p,0,none⟩)] w' λe w''=>∃vv,e = .returned vv/\StrsA (λb=>b<w'.heap.size) w'' vv (Zbae ws s).1/\After w' w'' p v ws (Zbae ws s).2):=λs w' hr=>Zbel p v ws s w' hr
 have h0:=SM.begin (T:=34) h.st Zbut Zbut;unfold Zbut at h0;have H0:=hid h0;have c1:=CN.out _ _ (h0.rs h);obtain⟨x1,hx1⟩:∃x,Zzr ws s=x:=⟨_,rfl⟩;simp only[hx1]at c1;obtain⟨nm,s1⟩:=x1;obtain⟨s2,hs2⟩:∃x,Zyk ws cEq s1=x:=⟨_,rfl⟩;obtain⟨x3,hx3⟩:∃x,opP ws s2=x:=⟨_,rfl⟩;obtain⟨op,s3⟩:=x3;have hres:R=(⟨nm,op,(Zbqx ws op s3).1.1,(Zbqx ws op s3).1.2.1,(Zbqx ws op s3).1.2.2⟩,Zyk ws Zhl (Zbqx ws op s3).2):=by
  rw[<-hR];unfold Zbns;simp only[hx1,hs2,hx3]
 have HRES:=hid hres;have HS2:=hid hs2;have HX3:=hid hx3;clear hres hR hs2 hx3 hx1 h0 h
 go_enter func269,ntmps269
 go_wp2_with fail
 refine c1.mono ?_;rintro e w1 ⟨rfl,ha1⟩;have h1:=H0.out.step H.out.st ha1;obtain⟨d0,d1,d2,d3,d4,g0,g1,g2,g3,g4⟩:=cells5 h1.r1;have h2:=h1.set H.out.st 0 (.string nm);have H2:=hid h2;have c2:=CM.out cEq _ _ (h2.rs H.out);rw[HS2.out]at c2;clear ha1 h1 h2 c1
 go_wp2_with fail
 refine c2.mono ?_;rintro e w2 ⟨rfl,ha2⟩;have h3:=H2.out.step H.out.st ha2;have H3:=hid h3;have c3:=CO.out _ _ (h3.rs H.out);rw[HX3.out]at c3;clear ha2 h3 c2 d0 d1 d2 d3 d4 g0 g1 g2 g3 g4
 go_wp2_with fail
 refine c3.mono ?_;rintro e w3 ⟨rfl,ha3⟩;have h4:=H3.out.step H.out.st ha3;obtain⟨d0,d1,d2,d3,d4,g0,g1,g2,g3,g4⟩:=cells5 h4.r1;have h5:SM 34 #[.string ⟨#[]⟩,.int .i64 0,.slice none 0 0,.slice none 0 0,.int .i64 0] w _ p v ws s3 #[.string nm,.int .i64 op,.slice none 0 0,.slice none 0 0,.int .i64 0]:=h4.set H.out.st 1 (.int .i64 op);have H5:=hid h5;clear ha3 h4 h5 c3
 by_cases h5:op=5
 ·subst h5
  have htl:Zbqx ws 5 s3=(((Zbae ws s3).1,[],0),(Zbae ws s3).2):=by simp[Zbqx]
  have cL:=CL.out _ _ (H5.out.rs H.out);obtain⟨y,hy⟩:∃y,Zbae ws s3=y:=⟨_,rfl⟩;simp only[hy]at cL htl;obtain⟨ls,s4⟩:=y;have HTL:=hid htl;clear htl hy
  go_wp2_with fail
  refine cL.mono ?_;rintro e w4 ⟨va,rfl,hva,ha4⟩;obtain⟨va1,va2,va3,hvs⟩:=Zbig hva;subst hvs;have h6:=H5.out.step H.out.st ha4;have hva2:=Zbqa (w:=w) hva H5.out.big;clear d0 d1 d2 d3 d4 g0 g1 g2 g3 g4;obtain⟨d0,d1,d2,d3,d4,g0,g1,g2,g3,g4⟩:=cells5 h6.r1;have h7:SM 34 #[.string ⟨#[]⟩,.int .i64 0,.slice none 0 0,.slice none 0 0,.int .i64 0] w _ p v ws s4 #[.string nm,.int .i64 5,.slice va1 va2 va3,.slice none 0 0,.int .i64 0]:=h6.set H.out.st 2 (.slice va1 va2 va3);have HVA:=hid (Zbqb hva2 (Zpy (a:=⟨w.heap.size+1,2,none⟩) (by simp) (.slice va1 va2 va3)));have H7:=hid h7;clear h6 h7 ha4 cL hva hva2;have cE:=CM.out Zhl _ _ (H7.out.rs H.out)
  go_wp2_with fail
  refine cE.mono ?_;rintro e wE ⟨rfl,haE⟩;have hE:=H7.out.step H.out.st haE;have kE:=Zwi H.out.st haE
  try clear d0 d1 d2 d3 d4 g0 g1 g2 g3 g4
  obtain⟨d0,d1,d2,d3,d4,g0,g1,g2,g3,g4⟩:=cells5 hE.r1;obtain⟨e0,e1,e2,e3,e4,i0,i1,i2,i3,i4⟩:=cells5 hE.r0;have HE:=hid hE;have HKE:=hid kE;clear hE haE kE cE;go_wp2;refine bodyPost_ret (Zbhl rfl _ _ w.heap.size _ _ _ _ rfl (heap_set _ _ (heap_set _ _ (heap_set _ _ (heap_set _ _ (heap_set _ _ HE.out.r0))))) underlying34 rfl (by kernel_rfl)) rfl ?_;have kF:∀(u0 u1 u2 u3 u4:Value),Fr (λb=>b<w.heap.size+2) wE (((((wE.setCell ⟨w.heap.size,0,none⟩ u0).setCell ⟨w.heap.size,1,none⟩ u1).setCell ⟨w.heap.size,2,none⟩ u2).setCell ⟨w.heap.size,3,none⟩ u3).setCell ⟨w.heap.size,4,none⟩ u4):=λ_ _ _ _ _=>((((Zpy (by simp) _).trans (Zpy (by simp) _)).trans (Zpy (by simp) _)).trans (Zpy (by simp) _)).trans (Zpy (by simp) _)
  rw[HRES.out,HTL.out];exact⟨⟨_,_,rfl,Zbqe (Zbqb (Zbqb HVA.out HKE.out) (kF _ _ _ _ _)),Zbqe (Zbqb (Zbqb (Zbqd _ _) HKE.out) (kF _ _ _ _ _))⟩,((((HE.out.af.set H.out.st (Nat.le_refl _) _).set H.out.st (Nat.le_refl _) _).set H.out.st (Nat.le_refl _) _).set H.out.st (Nat.le_refl _) _).set H.out.st (Nat.le_refl _) _⟩
 ·have n5:¬op=5:=h5
  clear h5
  by_cases h6:op=6
  ·subst h6
   have htl:Zbqx ws 6 s3=(([],[(Zbrk ws s3).1],0),(Zbrk ws s3).2):=by simp[Zbqx]
   have HTL0:=hid htl;clear htl;have q1:=CT.out _ _ (H5.out.rs H.out);have hq1:=HTL0.out;obtain⟨y,hy⟩:∃y,Zbrk ws s3=y:=⟨_,rfl⟩;simp only[hy]at q1 hq1;obtain⟨t1,z1⟩:=y;simp only at q1 hq1;clear HTL0 hy;have HTL0:=hid hq1;clear hq1
   go_wp2_with fail
   refine q1.mono ?_;rintro e v1 ⟨rfl,ha1⟩;have m1:=H5.out.step H.out.st ha1;have M1:=hid m1;clear m1 ha1 q1;have al:=M1.out.alloc H.out.st (.cells #[.string t1] 9);have sl:=Zbqa (w:=w) (Zbqc (t:=9) v1 #[.string t1] 1 [t1] rfl rfl (by unfold maxLen;omega)) M1.out.big;have SL3:=hid (Zbqb sl (Zpy (a:=⟨w.heap.size+1,3,none⟩) (by simp) (.slice (some ⟨v1.heap.size,0,none⟩) 1 1)))
   try clear d0 d1 d2 d3 d4 g0 g1 g2 g3 g4
   obtain⟨d0,d1,d2,d3,d4,g0,g1,g2,g3,g4⟩:=cells5 al.r1;have m2:SM 34 #[.string ⟨#[]⟩,.int .i64 0,.slice none 0 0,.slice none 0 0,.int .i64 0] w _ p v ws z1 #[.string nm,.int .i64 6,.slice none 0 0,.slice (some ⟨v1.heap.size,0,none⟩) 1 1,.int .i64 0]:=al.set H.out.st 3 (.slice (some ⟨v1.heap.size,0,none⟩) 1 1);have M2:=hid m2;clear al sl m2;have HTL:=hid HTL0.out;clear HTL0;have cE:=CM.out Zhl _ _ (M2.out.rs H.out)
   go_wp2_with fail
   refine cE.mono ?_;rintro e wE ⟨rfl,haE⟩;have hE:=M2.out.step H.out.st haE;have kE:=Zwi H.out.st haE
   try clear d0 d1 d2 d3 d4 g0 g1 g2 g3 g4
   obtain⟨d0,d1,d2,d3,d4,g0,g1,g2,g3,g4⟩:=cells5 hE.r1;obtain⟨e0,e1,e2,e3,e4,i0,i1,i2,i3,i4⟩:=cells5 hE.r0;have HE:=hid hE;have HKE:=hid kE;clear hE haE kE cE;go_wp2;refine bodyPost_ret (Zbhl rfl _ _ w.heap.size _ _ _ _ rfl (heap_set _ _ (heap_set _ _ (heap_set _ _ (heap_set _ _ (heap_set _ _ HE.out.r0))))) underlying34 rfl (by kernel_rfl)) rfl ?_;have kF:∀(u0 u1 u2 u3 u4:Value),Fr (λb=>b<w.heap.size+2) wE (((((wE.setCell ⟨w.heap.size,0,none⟩ u0).setCell ⟨w.heap.size,1,none⟩ u1).setCell ⟨w.heap.size,2,none⟩ u2).setCell ⟨w.heap.size,3,none⟩ u3).setCell ⟨w.heap.size,4,none⟩ u4):=λ_ _ _ _ _=>((((Zpy (by simp) _).trans (Zpy (by simp) _)).trans (Zpy (by simp) _)).trans (Zpy (by simp) _)).trans (Zpy (by simp) _)
   rw[HRES.out,HTL.out];exact⟨⟨_,_,rfl,Zbqe (Zbqb (Zbqb (Zbqd _ _) HKE.out) (kF _ _ _ _ _)),Zbqe (Zbqb (Zbqb SL3.out HKE.out) (kF _ _ _ _ _))⟩,((((HE.out.af.set H.out.st (Nat.le_refl _) _).set H.out.st (Nat.le_refl _) _).set H.out.st (Nat.le_refl _) _).set H.out.st (Nat.le_refl _) _).set H.out.st (Nat.le_refl _) _⟩
  ·have n6:¬op=6:=h6
   clear h6
   by_cases h7:op=7
   ·subst h7
    have htl:Zbqx ws 7 s3=(([(Zzr ws (Zbrk ws s3).2).1],[(Zbrk ws s3).1],0),(Zzr ws (Zbrk ws s3).2).2):=by simp[Zbqx]
    have HTL0:=hid htl;clear htl;have q1:=CT.out _ _ (H5.out.rs H.out);have hq1:=HTL0.out;obtain⟨y,hy⟩:∃y,Zbrk ws s3=y:=⟨_,rfl⟩;simp only[hy]at q1 hq1;obtain⟨t1,z1⟩:=y;simp only at q1 hq1;clear HTL0 hy;have HTL0:=hid hq1;clear hq1
    go_wp2_with fail
    refine q1.mono ?_;rintro e v1 ⟨rfl,ha1⟩;have m1:=H5.out.step H.out.st ha1;have M1:=hid m1;clear m1 ha1 q1;have al:=M1.out.alloc H.out.st (.cells #[.string t1] 9);have sl:=Zbqa (w:=w) (Zbqc (t:=9) v1 #[.string t1] 1 [t1] rfl rfl (by unfold maxLen;omega)) M1.out.big;have SL3:=hid (Zbqb sl (Zpy (a:=⟨w.heap.size+1,3,none⟩) (by simp) (.slice (some ⟨v1.heap.size,0,none⟩) 1 1)))
    try clear d0 d1 d2 d3 d4 g0 g1 g2 g3 g4
    obtain⟨d0,d1,d2,d3,d4,g0,g1,g2,g3,g4⟩:=cells5 al.r1;have m2:SM 34 #[.string ⟨#[]⟩,.int .i64 0,.slice none 0 0,.slice none 0 0,.int .i64 0] w _ p v ws z1 #[.string nm,.int .i64 7,.slice none 0 0,.slice (some ⟨v1.heap.size,0,none⟩) 1 1,.int .i64 0]:=al.set H.out.st 3 (.slice (some ⟨v1.heap.size,0,none⟩) 1 1);have M2:=hid m2;clear al sl m2;have q3:=CN.out _ _ (M2.out.rs H.out);have hq3:=HTL0.out;obtain⟨y,hy⟩:∃y,Zzr ws z1=y:=⟨_,rfl⟩;simp only[hy]at q3 hq3;obtain⟨t3,z3⟩:=y;simp only at q3 hq3;clear HTL0 hy;have HTL0:=hid hq3;clear hq3
    go_wp2_with fail
    refine q3.mono ?_;rintro e v3 ⟨rfl,ha3⟩;have m3:=M2.out.step H.out.st ha3;have M3:=hid m3;have SL3n3:=hid (Zbqb SL3.out (Zwi H.out.st ha3));clear m3 ha3 q3;have al:=M3.out.alloc H.out.st (.cells #[.string t3] 9);have sl:=Zbqa (w:=w) (Zbqc (t:=9) v3 #[.string t3] 1 [t3] rfl rfl (by unfold maxLen;omega)) M3.out.big;have SL2:=hid (Zbqb sl (Zpy (a:=⟨w.heap.size+1,2,none⟩) (by simp) (.slice (some ⟨v3.heap.size,0,none⟩) 1 1)));have SL3n3m:=hid (Zbqb (Zbqb SL3n3.out (Zpu _ _ (.cells #[.string t3] 9))) (Zpy (a:=⟨w.heap.size+1,2,none⟩) (by simp) (.slice (some ⟨v3.heap.size,0,none⟩) 1 1)))
    try clear d0 d1 d2 d3 d4 g0 g1 g2 g3 g4
    obtain⟨d0,d1,d2,d3,d4,g0,g1,g2,g3,g4⟩:=cells5 al.r1;have m4:SM 34 #[.string ⟨#[]⟩,.int .i64 0,.slice none 0 0,.slice none 0 0,.int .i64 0] w _ p v ws z3 #[.string nm,.int .i64 7,.slice (some ⟨v3.heap.size,0,none⟩) 1 1,.slice (some ⟨v1.heap.size,0,none⟩) 1 1,.int .i64 0]:=al.set H.out.st 2 (.slice (some ⟨v3.heap.size,0,none⟩) 1 1);have M4:=hid m4;clear al sl m4;have HTL:=hid HTL0.out;clear HTL0;have cE:=CM.out Zhl _ _ (M4.out.rs H.out)
    go_wp2_with fail
    refine cE.mono ?_;rintro e wE ⟨rfl,haE⟩;have hE:=M4.out.step H.out.st haE;have kE:=Zwi H.out.st haE
    try clear d0 d1 d2 d3 d4 g0 g1 g2 g3 g4
    obtain⟨d0,d1,d2,d3,d4,g0,g1,g2,g3,g4⟩:=cells5 hE.r1;obtain⟨e0,e1,e2,e3,e4,i0,i1,i2,i3,i4⟩:=cells5 hE.r0;have HE:=hid hE;have HKE:=hid kE;clear hE haE kE cE;go_wp2;refine bodyPost_ret (Zbhl rfl _ _ w.heap.size _ _ _ _ rfl (heap_set _ _ (heap_set _ _ (heap_set _ _ (heap_set _ _ (heap_set _ _ HE.out.r0))))) underlying34 rfl (by kernel_rfl)) rfl ?_;have kF:∀(u0 u1 u2 u3 u4:Value),Fr (λb=>b<w.heap.size+2) wE (((((wE.setCell ⟨w.heap.size,0,none⟩ u0).setCell ⟨w.heap.size,1,none⟩ u1).setCell ⟨w.heap.size,2,none⟩ u2).setCell ⟨w.heap.size,3,none⟩ u3).setCell ⟨w.heap.size,4,none⟩ u4):=λ_ _ _ _ _=>((((Zpy (by simp) _).trans (Zpy (by simp) _)).trans (Zpy (by simp) _)).trans (Zpy (by simp) _)).trans (Zpy (by simp) _)
    rw[HRES.out,HTL.out];exact⟨⟨_,_,rfl,Zbqe (Zbqb (Zbqb SL2.out HKE.out) (kF _ _ _ _ _)),Zbqe (Zbqb (Zbqb SL3n3m.out HKE.out) (kF _ _ _ _ _))⟩,((((HE.out.af.set H.out.st (Nat.le_refl _) _).set H.out.st (Nat.le_refl _) _).set H.out.st (Nat.le_refl _) _).set H.out.st (Nat.le_refl _) _).set H.out.st (Nat.le_refl _) _⟩
   ·have n7:¬op=7:=h7
    clear h7
    by_cases h8:op=8
    ·subst h8
     have htl:Zbqx ws 8 s3=(([(Zzr ws (Zbrk ws (Zbrk ws s3).2).2).1],[(Zbrk ws s3).1,(Zbrk ws (Zbrk ws s3).2).1],0),(Zzr ws (Zbrk ws (Zbrk ws s3).2).2).2):=by simp[Zbqx]
     have HTL0:=hid htl;clear htl;have q1:=CT.out _ _ (H5.out.rs H.out);have hq1:=HTL0.out;obtain⟨y,hy⟩:∃y,Zbrk ws s3=y:=⟨_,rfl⟩;simp only[hy]at q1 hq1;obtain⟨t1,z1⟩:=y;simp only at q1 hq1;clear HTL0 hy;have HTL0:=hid hq1;clear hq1
     go_wp2_with fail
     refine q1.mono ?_;rintro e v1 ⟨rfl,ha1⟩;have m1:=H5.out.step H.out.st ha1;have M1:=hid m1;clear m1 ha1 q1;have q2:=CT.out _ _ (M1.out.rs H.out);have hq2:=HTL0.out;obtain⟨y,hy⟩:∃y,Zbrk ws z1=y:=⟨_,rfl⟩;simp only[hy]at q2 hq2;obtain⟨t2,z2⟩:=y;simp only at q2 hq2;clear HTL0 hy;have HTL0:=hid hq2;clear hq2
     go_wp2_with fail
     refine q2.mono ?_;rintro e v2 ⟨rfl,ha2⟩;have m2:=M1.out.step H.out.st ha2;have M2:=hid m2;clear m2 ha2 q2;have al:=M2.out.alloc H.out.st (.cells #[.string t1,.string t2] 9);have sl:=Zbqa (w:=w) (Zbqc (t:=9) v2 #[.string t1,.string t2] 2 [t1,t2] rfl rfl (by unfold maxLen;omega)) M2.out.big;have SL3:=hid (Zbqb sl (Zpy (a:=⟨w.heap.size+1,3,none⟩) (by simp) (.slice (some ⟨v2.heap.size,0,none⟩) 2 2)))
     try clear d0 d1 d2 d3 d4 g0 g1 g2 g3 g4
     obtain⟨d0,d1,d2,d3,d4,g0,g1,g2,g3,g4⟩:=cells5 al.r1;have m3:SM 34 #[.string ⟨#[]⟩,.int .i64 0,.slice none 0 0,.slice none 0 0,.int .i64 0] w _ p v ws z2 #[.string nm,.int .i64 8,.slice none 0 0,.slice (some ⟨v2.heap.size,0,none⟩) 2 2,.int .i64 0]:=al.set H.out.st 3 (.slice (some ⟨v2.heap.size,0,none⟩) 2 2);have M3:=hid m3;clear al sl m3;have q4:=CN.out _ _ (M3.out.rs H.out);have hq4:=HTL0.out;obtain⟨y,hy⟩:∃y,Zzr ws z2=y:=⟨_,rfl⟩;simp only[hy]at q4 hq4;obtain⟨t4,z4⟩:=y;simp only at q4 hq4;clear HTL0 hy;have HTL0:=hid hq4;clear hq4
     go_wp2_with fail
     refine q4.mono ?_;rintro e v4 ⟨rfl,ha4⟩;have m4:=M3.out.step H.out.st ha4;have M4:=hid m4;have SL3n4:=hid (Zbqb SL3.out (Zwi H.out.st ha4));clear m4 ha4 q4;have al:=M4.out.alloc H.out.st (.cells #[.string t4] 9);have sl:=Zbqa (w:=w) (Zbqc (t:=9) v4 #[.string t4] 1 [t4] rfl rfl (by unfold maxLen;omega)) M4.out.big;have SL2:=hid (Zbqb sl (Zpy (a:=⟨w.heap.size+1,2,none⟩) (by simp) (.slice (some ⟨v4.heap.size,0,none⟩) 1 1)));have SL3n4m:=hid (Zbqb (Zbqb SL3n4.out (Zpu _ _ (.cells #[.string t4] 9))) (Zpy (a:=⟨w.heap.size+1,2,none⟩) (by simp) (.slice (some ⟨v4.heap.size,0,none⟩) 1 1)))
     try clear d0 d1 d2 d3 d4 g0 g1 g2 g3 g4
     obtain⟨d0,d1,d2,d3,d4,g0,g1,g2,g3,g4⟩:=cells5 al.r1;have m5:SM 34 #[.string ⟨#[]⟩,.int .i64 0,.slice none 0 0,.slice none 0 0,.int .i64 0] w _ p v ws z4 #[.string nm,.int .i64 8,.slice (some ⟨v4.heap.size,0,none⟩) 1 1,.slice (some ⟨v2.heap.size,0,none⟩) 2 2,.int .i64 0]:=al.set H.out.st 2 (.slice (some ⟨v4.heap.size,0,none⟩) 1 1);have M5:=hid m5;clear al sl m5;have HTL:=hid HTL0.out;clear HTL0;have cE:=CM.out Zhl _ _ (M5.out.rs H.out)
     go_wp2_with fail
     refine cE.mono ?_;rintro e wE ⟨rfl,haE⟩;have hE:=M5.out.step H.out.st haE;have kE:=Zwi H.out.st haE
     try clear d0 d1 d2 d3 d4 g0 g1 g2 g3 g4
     obtain⟨d0,d1,d2,d3,d4,g0,g1,g2,g3,g4⟩:=cells5 hE.r1;obtain⟨e0,e1,e2,e3,e4,i0,i1,i2,i3,i4⟩:=cells5 hE.r0;have HE:=hid hE;have HKE:=hid kE;clear hE haE kE cE;go_wp2;refine bodyPost_ret (Zbhl rfl _ _ w.heap.size _ _ _ _ rfl (heap_set _ _ (heap_set _ _ (heap_set _ _ (heap_set _ _ (heap_set _ _ HE.out.r0))))) underlying34 rfl (by kernel_rfl)) rfl ?_;have kF:∀(u0 u1 u2 u3 u4:Value),Fr (λb=>b<w.heap.size+2) wE (((((wE.setCell ⟨w.heap.size,0,none⟩ u0).setCell ⟨w.heap.size,1,none⟩ u1).setCell ⟨w.heap.size,2,none⟩ u2).setCell ⟨w.heap.size,3,none⟩ u3).setCell ⟨w.heap.size,4,none⟩ u4):=λ_ _ _ _ _=>((((Zpy (by simp) _).trans (Zpy (by simp) _)).trans (Zpy (by simp) _)).trans (Zpy (by simp) _)).trans (Zpy (by simp) _)
     rw[HRES.out,HTL.out];exact⟨⟨_,_,rfl,Zbqe (Zbqb (Zbqb SL2.out HKE.out) (kF _ _ _ _ _)),Zbqe (Zbqb (Zbqb SL3n4m.out HKE.out) (kF _ _ _ _ _))⟩,((((HE.out.af.set H.out.st (Nat.le_refl _) _).set H.out.st (Nat.le_refl _) _).set H.out.st (Nat.le_refl _) _).set H.out.st (Nat.le_refl _) _).set H.out.st (Nat.le_refl _) _⟩
    ·have n8:¬op=8:=h8
     clear h8
     by_cases h9:op=9
     ·subst h9
      have htl:Zbqx ws 9 s3=(([(Zzr ws (Zbbz ws s3).2).1],[],(Zbbz ws s3).1),(Zzr ws (Zbbz ws s3).2).2):=by simp[Zbqx]
      have HTL0:=hid htl;clear htl;have q1:=CU.out _ _ (H5.out.rs H.out);have hq1:=HTL0.out;obtain⟨y,hy⟩:∃y,Zbbz ws s3=y:=⟨_,rfl⟩;simp only[hy]at q1 hq1;obtain⟨t1,z1⟩:=y;simp only at q1 hq1;clear HTL0 hy;have HTL0:=hid hq1;clear hq1
      go_wp2_with fail
      refine q1.mono ?_;rintro e v1 ⟨rfl,ha1⟩;have al:=H5.out.step H.out.st ha1
      try clear d0 d1 d2 d3 d4 g0 g1 g2 g3 g4
      obtain⟨d0,d1,d2,d3,d4,g0,g1,g2,g3,g4⟩:=cells5 al.r1;have m2:SM 34 #[.string ⟨#[]⟩,.int .i64 0,.slice none 0 0,.slice none 0 0,.int .i64 0] w _ p v ws z1 #[.string nm,.int .i64 9,.slice none 0 0,.slice none 0 0,.int .i64 t1]:=al.set H.out.st 4 (.int .i64 t1);have M2:=hid m2;clear al m2 ha1 q1;have q3:=CN.out _ _ (M2.out.rs H.out);have hq3:=HTL0.out;obtain⟨y,hy⟩:∃y,Zzr ws z1=y:=⟨_,rfl⟩;simp only[hy]at q3 hq3;obtain⟨t3,z3⟩:=y;simp only at q3 hq3;clear HTL0 hy;have HTL0:=hid hq3;clear hq3
      go_wp2_with fail
      refine q3.mono ?_;rintro e v3 ⟨rfl,ha3⟩;have m3:=M2.out.step H.out.st ha3;have M3:=hid m3;clear m3 ha3 q3;have al:=M3.out.alloc H.out.st (.cells #[.string t3] 9);have sl:=Zbqa (w:=w) (Zbqc (t:=9) v3 #[.string t3] 1 [t3] rfl rfl (by unfold maxLen;omega)) M3.out.big;have SL2:=hid (Zbqb sl (Zpy (a:=⟨w.heap.size+1,2,none⟩) (by simp) (.slice (some ⟨v3.heap.size,0,none⟩) 1 1)))
      try clear d0 d1 d2 d3 d4 g0 g1 g2 g3 g4
      obtain⟨d0,d1,d2,d3,d4,g0,g1,g2,g3,g4⟩:=cells5 al.r1;have m4:SM 34 #[.string ⟨#[]⟩,.int .i64 0,.slice none 0 0,.slice none 0 0,.int .i64 0] w _ p v ws z3 #[.string nm,.int .i64 9,.slice (some ⟨v3.heap.size,0,none⟩) 1 1,.slice none 0 0,.int .i64 t1]:=al.set H.out.st 2 (.slice (some ⟨v3.heap.size,0,none⟩) 1 1);have M4:=hid m4;clear al sl m4;have HTL:=hid HTL0.out;clear HTL0;have cE:=CM.out Zhl _ _ (M4.out.rs H.out)
      go_wp2_with fail
      refine cE.mono ?_;rintro e wE ⟨rfl,haE⟩;have hE:=M4.out.step H.out.st haE;have kE:=Zwi H.out.st haE
      try clear d0 d1 d2 d3 d4 g0 g1 g2 g3 g4
      obtain⟨d0,d1,d2,d3,d4,g0,g1,g2,g3,g4⟩:=cells5 hE.r1;obtain⟨e0,e1,e2,e3,e4,i0,i1,i2,i3,i4⟩:=cells5 hE.r0;have HE:=hid hE;have HKE:=hid kE;clear hE haE kE cE;go_wp2;refine bodyPost_ret (Zbhl rfl _ _ w.heap.size _ _ _ _ rfl (heap_set _ _ (heap_set _ _ (heap_set _ _ (heap_set _ _ (heap_set _ _ HE.out.r0))))) underlying34 rfl (by kernel_rfl)) rfl ?_;have kF:∀(u0 u1 u2 u3 u4:Value),Fr (λb=>b<w.heap.size+2) wE (((((wE.setCell ⟨w.heap.size,0,none⟩ u0).setCell ⟨w.heap.size,1,none⟩ u1).setCell ⟨w.heap.size,2,none⟩ u2).setCell ⟨w.heap.size,3,none⟩ u3).setCell ⟨w.heap.size,4,none⟩ u4):=λ_ _ _ _ _=>((((Zpy (by simp) _).trans (Zpy (by simp) _)).trans (Zpy (by simp) _)).trans (Zpy (by simp) _)).trans (Zpy (by simp) _)
      rw[HRES.out,HTL.out];exact⟨⟨_,_,rfl,Zbqe (Zbqb (Zbqb SL2.out HKE.out) (kF _ _ _ _ _)),Zbqe (Zbqb (Zbqb (Zbqd _ _) HKE.out) (kF _ _ _ _ _))⟩,((((HE.out.af.set H.out.st (Nat.le_refl _) _).set H.out.st (Nat.le_refl _) _).set H.out.st (Nat.le_refl _) _).set H.out.st (Nat.le_refl _) _).set H.out.st (Nat.le_refl _) _⟩
     ·have n9:¬op=9:=h9
      clear h9;have htl:Zbqx ws op s3=(([(Zzr ws s3).1],[],0),(Zzr ws s3).2):=by simp[Zbqx,n5,n6,n7,n8,n9]
      have HTL0:=hid htl;clear htl;have q1:=CN.out _ _ (H5.out.rs H.out);have hq1:=HTL0.out;obtain⟨y,hy⟩:∃y,Zzr ws s3=y:=⟨_,rfl⟩;simp only[hy]at q1 hq1;obtain⟨t1,z1⟩:=y;simp only at q1 hq1;clear HTL0 hy;have HTL0:=hid hq1;clear hq1
      go_wp2_with fail
      refine q1.mono ?_;rintro e v1 ⟨rfl,ha1⟩;have m1:=H5.out.step H.out.st ha1;have M1:=hid m1;clear m1 ha1 q1;have al:=M1.out.alloc H.out.st (.cells #[.string t1] 9);have sl:=Zbqa (w:=w) (Zbqc (t:=9) v1 #[.string t1] 1 [t1] rfl rfl (by unfold maxLen;omega)) M1.out.big;have SL2:=hid (Zbqb sl (Zpy (a:=⟨w.heap.size+1,2,none⟩) (by simp) (.slice (some ⟨v1.heap.size,0,none⟩) 1 1)))
      try clear d0 d1 d2 d3 d4 g0 g1 g2 g3 g4
      obtain⟨d0,d1,d2,d3,d4,g0,g1,g2,g3,g4⟩:=cells5 al.r1;have m2:SM 34 #[.string ⟨#[]⟩,.int .i64 0,.slice none 0 0,.slice none 0 0,.int .i64 0] w _ p v ws z1 #[.string nm,.int .i64 op,.slice (some ⟨v1.heap.size,0,none⟩) 1 1,.slice none 0 0,.int .i64 0]:=al.set H.out.st 2 (.slice (some ⟨v1.heap.size,0,none⟩) 1 1);have M2:=hid m2;clear al sl m2;have HTL:=hid HTL0.out;clear HTL0;have cE:=CM.out Zhl _ _ (M2.out.rs H.out)
      go_wp2_with fail
      refine cE.mono ?_;rintro e wE ⟨rfl,haE⟩;have hE:=M2.out.step H.out.st haE;have kE:=Zwi H.out.st haE
      try clear d0 d1 d2 d3 d4 g0 g1 g2 g3 g4
      obtain⟨d0,d1,d2,d3,d4,g0,g1,g2,g3,g4⟩:=cells5 hE.r1;obtain⟨e0,e1,e2,e3,e4,i0,i1,i2,i3,i4⟩:=cells5 hE.r0;have HE:=hid hE;have HKE:=hid kE;clear hE haE kE cE;go_wp2;refine bodyPost_ret (Zbhl rfl _ _ w.heap.size _ _ _ _ rfl (heap_set _ _ (heap_set _ _ (heap_set _ _ (heap_set _ _ (heap_set _ _ HE.out.r0))))) underlying34 rfl (by kernel_rfl)) rfl ?_;have kF:∀(u0 u1 u2 u3 u4:Value),Fr (λb=>b<w.heap.size+2) wE (((((wE.setCell ⟨w.heap.size,0,none⟩ u0).setCell ⟨w.heap.size,1,none⟩ u1).setCell ⟨w.heap.size,2,none⟩ u2).setCell ⟨w.heap.size,3,none⟩ u3).setCell ⟨w.heap.size,4,none⟩ u4):=λ_ _ _ _ _=>((((Zpy (by simp) _).trans (Zpy (by simp) _)).trans (Zpy (by simp) _)).trans (Zpy (by simp) _)).trans (Zpy (by simp) _)
      rw[HRES.out,HTL.out];exact⟨⟨_,_,rfl,Zbqe (Zbqb (Zbqb SL2.out HKE.out) (kF _ _ _ _ _)),Zbqe (Zbqb (Zbqb (Zbqd _ _) HKE.out) (kF _ _ _ _ _))⟩,((((HE.out.af.set H.out.st (Nat.le_refl _) _).set H.out.st (Nat.le_refl _) _).set H.out.st (Nat.le_refl _) _).set H.out.st (Nat.le_refl _) _).set H.out.st (Nat.le_refl _) _⟩
theorem Zbdt {w:World} {B B' e size:Nat} {v:Value} {n:Nat} {xs:List Value} (h:w.ownsRow B e size v n xs) (hB:B'<=B):w.ownsRow B' e size v n xs:=by
 obtain⟨h1,h2|⟨g,cap,cur,hv,hg,hr⟩⟩:=h
 ·exact⟨h1,.inl h2⟩
 ·exact⟨h1,.inr ⟨g,cap,cur,hv,Nat.le_trans hB hg,hr⟩⟩
theorem Zbue {P:Program} (w:World) {ops:Array Oper} {rest:List Oper} {o:Oper} {a:Act} {Q:Exit->Act->World->Prop}
  (hg:o.guard=none) (s x:Operand) (t:TypeId) (hop:o.op=Op.call { callee:=Callee.builtin Builtin.append,args:=#[s,x],argTypes:=#[t,t] })
  (base:Nat) (e:TypeId) (i:TypeInfo) (z:Value) (size bytes:Nat) (h1:P.underlying t=some (.slice e)) (h2:P.info? e=some i) (h3:i.zero=some z) (h4:i.size=size) (h5:i.bytes=bytes) (h6:z.cells.size=size) (h7:0<size)
  (v:Value) (n:Nat) (xs:List Value) (hs:a.eval s=v) (hown:w.ownsRow base e size v n xs)
  (ad:Addr) (m c:Nat) (news:List Value) (hx:a.eval x = .slice (some ad) m c) (hn:news.length=m*size) (hc:∀j u,news[j]? =some u->w.cell? (ad.add j)=some u) (h1c:∀u∈news,u.oneCell'=true)
  (hm:0<m) (b1:n+m<=maxLen) (b2:(n+m)*bytes<=140737488355328) (hbase:base<=w.heap.size)
  (hK:∀v' w',w'.ownsRow base e size v' (n+m) (xs++news)->w.grownBy w' v.ownBlock->(∀b,v'.ownBlock=some b->v.ownBlock=some b∨w.heap.size<=b)->wpList P ops Q rest (a.put o.dst v') w'):
  wpList P ops Q (o::rest) a w:=by
 obtain⟨hl,⟨rfl,h0⟩|⟨g,cap,cur,rfl,hgB,hgc,hnc,hcm,hcs,htk⟩⟩:=id hown
 ·subst h0
  refine wpList_append_grows w hg s x t hop e i z size bytes h1 h2 h3 h4 h5 h6 h7 none 0 0 xs hs (λ_=>⟨rfl,rfl⟩) hl (λb hb=>by cases hb) ad m c news hx hn hc h1c (by omega) b1 b2 ?_;intro v' w' ho hgr;exact hK v' w' (Zbdt ho hbase) hgr λb hb=> .inr (ho.lt b hb).1
 ·by_cases hfit:n+m<=cap
  ·refine wpList_append_fits w hg s x t hop base e i size h1 h2 h4 g n cap xs hs hown ad m c news hx hn hc h1c hfit ?_
   intro w' ho hgr;exact hK _ w' ho hgr λb hb=> .inl hb
  ·refine wpList_append_grows w hg s x t hop e i z size bytes h1 h2 h3 h4 h5 h6 h7 (some ⟨g,0,none⟩) n cap xs hs (λh=>by cases h) hl (λb hb=>by cases hb;exact hown.cells rfl) ad m c news hx hn hc h1c (by omega) b1 b2 ?_
   intro v' w' ho hgr;exact hK v' w' (Zbdt ho hbase) ⟨hgr.os,hgr.tape,hgr.output,hgr.size,λk hk _=>hgr.block k hk (by simp)⟩ λb hb=> .inr (ho.lt b hb).1
def AllA {α:Type} (P:List Value->α->Prop) (rows:List (List Value)) (xs:List α):Prop:=rows.length=xs.length/\∀(j:Nat) r x,rows[j]? =some r->xs[j]? =some x->P r x
theorem AllA.nil {α:Type} (P:List Value->α->Prop):AllA P [] []:=⟨rfl,λj r x h=>by simp at h⟩
theorem AllA.snoc {α:Type} {P:List Value->α->Prop} {rows:List (List Value)} {xs:List α} (h:AllA P rows xs) {r:List Value} {x:α} (hp:P r x):AllA P (rows ++ [r]) (xs ++ [x]):=by
 refine⟨by simp[h.1],λj r' x' hr hx=>?_⟩
 rcases Nat.lt_trichotomy j rows.length with hj|hj|hj
 ·rw[List.getElem?_append_left hj]at hr
  rw[List.getElem?_append_left (by rw[<-h.1];exact hj)]at hx;exact h.2 j r' x' hr hx
 ·subst hj
  rw[List.getElem?_append_right (Nat.le_refl _)]at hr;rw[List.getElem?_append_right (by rw[h.1];exact Nat.le_refl _)]at hx;simp[h.1]at hr hx;subst hr hx;exact hp
 ·rw[List.getElem?_eq_none (by simp;omega)]at hr;cases hr
theorem AllA.imp {α:Type} {P Q:List Value->α->Prop} {rows:List (List Value)} {xs:List α} (h:AllA P rows xs) (hi:∀r x,P r x->Q r x):AllA Q rows xs:=⟨h.1,λj r x hr hx=>hi r x (h.2 j r x hr hx)⟩
theorem AllA.len {α:Type} {P:List Value->α->Prop} {rows:List (List Value)} {xs:List α} (h:AllA P rows xs) {n:Nat} (hn:∀r x,P r x->r.length=n):∀r∈rows,r.length=n:=by
 intro r hr;obtain⟨j,hj⟩:=List.getElem?_of_mem hr;have hlt:j<xs.length:=by rw[<-h.1];exact(List.getElem?_eq_some_iff.1 hj).1
 exact hn r _ (h.2 j r _ hj (List.getElem?_eq_getElem hlt))
def StepA (Av:Nat->Prop) (w:World) (r:List Value) (x:StepS):Prop:=∃va vl,r = [.string x.out,.int .i64 x.op,va,vl,.int .i64 x.n]/\StrsA Av w va x.args/\StrsA Av w vl x.lits
theorem StepA.len {Av:Nat->Prop} {w:World} {r:List Value} {x:StepS} (h:StepA Av w r x):r.length=5:=by obtain⟨va,vl,rfl,_⟩:=h;rfl
theorem StepA.keep {Av:Nat->Prop} {w w':World} {r:List Value} {x:StepS} (h:StepA Av w r x) (hf:Fr Av w w'):StepA Av w' r x:=by
 obtain⟨va,vl,rfl,h1,h2⟩:=h;exact⟨va,vl,rfl,RowA.keep h1 hf,RowA.keep h2 hf⟩
theorem StepA.mono {Av Av':Nat->Prop} {w:World} {r:List Value} {x:StepS} (h:StepA Av w r x) (hm:∀b,b<w.heap.size->Av' b->Av b):StepA Av' w r x:=by
 obtain⟨va,vl,rfl,h1,h2⟩:=h;exact⟨va,vl,rfl,RowA.mono h1 hm,RowA.mono h2 hm⟩
def StepsA (Av:Nat->Prop) (w:World) (v:Value) (xs:List StepS):Prop:=∃rows,RowA Av w v 5 rows/\AllA (StepA Av w) rows xs
theorem StepsA.keep {Av:Nat->Prop} {w w':World} {v:Value} {xs:List StepS} (h:StepsA Av w v xs) (hf:Fr Av w w'):StepsA Av w' v xs:=by
 obtain⟨rows,h1,h2⟩:=h;exact⟨rows,h1.keep hf,h2.imp λr x h=>h.keep hf⟩
theorem StepsA.mono {Av Av':Nat->Prop} {w:World} {v:Value} {xs:List StepS} (h:StepsA Av w v xs) (hm:∀b,b<w.heap.size->Av' b->Av b):StepsA Av' w v xs:=by
 obtain⟨rows,h1,h2⟩:=h;exact⟨rows,h1.mono hm,h2.imp λr x h=>h.mono hm⟩
def AvOf (B:Nat) (v:Value) (b:Nat):Prop:=b<B∨v.ownBlock=some b
theorem Zsx:(prog.info? 34).map (λi=>(i.zero,i.size,i.bytes))=some (some (.agg #[.string ByteArray.empty,.int .i64 0,.slice none 0 0,.slice none 0 0,.int .i64 0]),5,80):=by kernel_rfl
end Go.Proofs.YtcpjfpdecklkgaaGreatDoor
