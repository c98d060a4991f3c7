import Derived.Test.YtokogjhcidkckaaGreatDoorMav
namespace Go.Proofs.YtokogjhcidkckaaGreatDoor
open Go.Lib (hid)
open Go.Proofs.Tryz
open Go.RowKit Go.Shelf Go.Maps
def Zbck (l:List ByteArray):Bool:=decide ((addS [] l).length=l.length)
def Zbac (r:RuleS):Bool:=Zbck r.ins&&Zbck r.outs&&Zbck r.after && !inS (addS [] r.after) r.name&&Zpm r.outs (addS [] r.ins) [] r.steps
structure NamF (w:World) (n:Nat) (o:Obj) (S:List ByteArray) (W:World):Prop where
 box:W.heap[n]? =some o
 set:SetIs W (n+3) S
 size:n+4<=W.heap.size
 below:Below n w W
theorem NamF.alloc {w:World} {n:Nat} {o:Obj} {S:List ByteArray} {W:World} (h:NamF w n o S W) (o':Obj):NamF w n o S (W.alloc o'):=
 ⟨(Below.heap_alloc _ _ _ (by have:=h.size;omega)).trans h.box,h.set.heap (Below.heap_alloc _ _ _ (by have:=h.size;omega)),by rw[World.size_alloc];have:=h.size;omega,h.below.alloc (by have:=h.size;omega) _⟩
theorem NamF.later {w:World} {n:Nat} {o:Obj} {S:List ByteArray} {W W':World} (h:NamF w n o S W) (hb:Below W.heap.size W W'):NamF w n o S W':=
 have hz:=h.size
 ⟨(hb.block _ (by omega)).trans h.box,h.set.heap (hb.block _ (by omega)),by have:=hb.size;omega,h.below.trans (hb.mono (by omega))⟩
theorem NamF.grown {w:World} {n:Nat} {o:Obj} {S:List ByteArray} {W W':World} {b:Nat} (h:NamF w n o S W) (hg:W.grownBy W' (some b)) (hb:n<b) (hb3:b≠n+3):NamF w n o S W':=
 have hz:=h.size
 ⟨(hg.block _ (by omega) (λe=>by have:=Option.some.inj e;omega)).trans h.box,h.set.heap (hg.block _ (by omega) (λe=>by have:=Option.some.inj e;omega)),by have:=hg.size;omega,h.below.grown hg (by omega) (λj e=>by cases e;omega)⟩
set_option maxHeartbeats 4000000
set_option maxRecDepth 100000
theorem Zbad (r:RuleS) (a1 a2 a3 a4:Option Addr) (c1 c2 c3 c4:Nat) (w:World) (hr:RuleI w [.string r.name,.slice a1 r.ins.length c1,.slice a2 r.outs.length c2,.slice a3 r.after.length c3,.slice a4 r.steps.length c4] r) (hs:SmallR r 1048576):
  Calls prog 147 #[.agg (Zbiz r a1 a2 a3 a4 c1 c2 c3 c4)] w λe w'=>e = .returned (.bool (Zbac r))/\Below w.heap.size w w':=by
 have hri:=hr;obtain⟨vi,vo,vf,vst,qe,h1,h2,h3,h4⟩:=hr;simp only[List.cons.injEq,and_true,true_and]at qe;obtain⟨rfl,rfl,rfl,rfl⟩:=qe;obtain⟨n,hn⟩:∃n,w.heap.size=n:=⟨_,rfl⟩;have mixed:prog.follows .mixedOrders=true:=by kernel_rfl
 have hmm:=@run_makeMap prog;have hil:=hs.ins.1;have hol:=hs.outs.1;have hal:=hs.after.1;have hnm:=hs.name;have hsf:=λW (h:Below w.heap.size w W)=>Zbos r a1 a2 a3 a4 c1 c2 c3 c4 W (hri.below h) hs
 have hmi:=Zblx hs.ins;have hmo:=Zblx hs.outs;have hma:=Zblx hs.after;unfold Zbac;rw[hn]at hsf⊢;obtain⟨name,insN,outsN,after,steps⟩:=r;simp only[Zbiz]at h1 h2 h3 hil hol hal hnm hsf hmi hmo hma⊢;obtain⟨o,ho⟩:∃o:Obj,.cells #[.string name,.slice a1 insN.length c1,.slice a2 outsN.length c2,.slice a3 after.length c3,.slice a4 steps.length c4] 50=o:=⟨_,rfl⟩;obtain⟨W4,hW4⟩:∃W,((((w.alloc (.cells #[.string name,.slice a1 insN.length c1,.slice a2 outsN.length c2,.slice a3 after.length c3,.slice a4 steps.length c4] 50)).alloc (.map #[] 0)).alloc (.map #[] 0)).alloc (.map #[] 0))=W:=⟨_,rfl⟩;have hs4:W4.heap.size=n+4:=by rw[<-hW4];simp[hn]
 have hb4:Below n w W4:=by rw[<-hW4,<-hn];exact((((Below.refl _ _).alloc (Nat.le_refl _) _).alloc (by simp) _).alloc (by simp;omega) _).alloc (by simp;omega) _
 have hx4:W4.heap[n]? =some o:=by
  rw[<-hW4,Below.heap_alloc _ _ _ (by simp[hn];omega),Below.heap_alloc _ _ _ (by simp[hn];omega),Below.heap_alloc _ _ _ (by simp[hn]),<-hn,<-ho];exact alloc_at w _
 have hA4:SetIs W4 (n+1) []:=by
  have:=Zbkr (w.alloc (.cells #[.string name,.slice a1 insN.length c1,.slice a2 outsN.length c2,.slice a3 after.length c3,.slice a4 steps.length c4] 50));rw[World.size_alloc,hn]at this;rw[<-hW4];exact this.heap ((Below.heap_alloc _ _ _ (by simp[hn])).trans (Below.heap_alloc _ _ _ (by simp[hn])))
 have hB4:SetIs W4 (n+2) []:=by
  have:=Zbkr ((w.alloc (.cells #[.string name,.slice a1 insN.length c1,.slice a2 outsN.length c2,.slice a3 after.length c3,.slice a4 steps.length c4] 50)).alloc (.map #[] 0));rw[World.size_alloc,World.size_alloc,hn]at this;rw[<-hW4];exact this.heap (Below.heap_alloc _ _ _ (by simp[hn]))
 have hC4:SetIs W4 (n+3) []:=by
  have:=Zbkr (((w.alloc (.cells #[.string name,.slice a1 insN.length c1,.slice a2 outsN.length c2,.slice a3 after.length c3,.slice a4 steps.length c4] 50)).alloc (.map #[] 0)).alloc (.map #[] 0));rw[World.size_alloc,World.size_alloc,World.size_alloc,hn]at this;rw[<-hW4];exact this
 have hf4:NamF w n o [] W4:=⟨hx4,hC4,by omega,hb4⟩;have hne:∀(a:Option Addr) (l:List ByteArray) (c m:Nat),IsStrs w (.slice a l.length c) l->n<m->∀g o' c',l≠[]->Value.slice a l.length c = .slice (some ⟨g,o',none⟩) l.length c'->g≠m:=by
  intro a l c m h hm g o' c' hl e;obtain⟨g',o2,e',hg',_⟩:=Ztz h hl;have e2:=e'.symm.trans (Value.slice.inj e).1
  cases e2
  omega
 have q1:Calls prog 170 #[.map (some (n+1)),.slice a1 insN.length c1] W4 λe w'=>e = .returned (.bool (Zbck insN))/\NamF w n o [] w'/\SetIs w' (n+2) []:=
  (Zha (n+1) [] _ insN W4 hA4 (h1.below (by rw[hn];exact hb4)) (hne _ _ _ _ h1 (by omega)) (by simp;omega) hmi).mono λe w' q=>⟨by rw[q.1,List.length_nil,Nat.zero_add];rfl,hf4.grown q.2.2.1 (by omega) (by omega),hB4.heap (q.2.2.1.block _ (by omega) (λe=>by have:=Option.some.inj e;omega))⟩
 have q2:∀W,NamF w n o [] W->SetIs W (n+2) []->Calls prog 170 #[.map (some (n+2)),.slice a2 outsN.length c2] W λe w'=>e = .returned (.bool (Zbck outsN))/\NamF w n o [] w':=λW hW hS=>
  (Zha (n+2) [] _ outsN W hS (h2.below (by rw[hn];exact hW.below)) (hne _ _ _ _ h2 (by omega)) (by simp;omega) hmo).mono λe w' q=>⟨by rw[q.1,List.length_nil,Nat.zero_add];rfl,hW.grown q.2.2.1 (by omega) (by omega)⟩
 have q3:∀W,NamF w n o [] W->Calls prog 170 #[.map (some (n+3)),.slice a3 after.length c3] W λe w'=>e = .returned (.bool (Zbck after))/\NamF w n o (addS [] after) w':=λW hW=>
  (Zha (n+3) [] _ after W hW.set (h3.below (by rw[hn];exact hW.below)) (hne _ _ _ _ h3 (by omega)) (by simp;omega) hma).mono λe w' q=>⟨by rw[q.1,List.length_nil,Nat.zero_add];rfl,
   ⟨(q.2.2.1.block _ (by have:=hW.size;omega) (λe=>by have:=Option.some.inj e;omega)).trans hW.box,q.2.1,by have:=q.2.2.1.size;have:=hW.size;omega,hW.below.grown q.2.2.1 (by have:=hW.size;omega) (λj e=>by cases e;omega)⟩⟩
 have q4:∀W g,NamF w n o (addS [] after) W->W.heap[g]? =some (.cells #[.string name] 9)->Calls prog 172 #[.map (some (n+3)),.slice (some ⟨g,0,none⟩) 1 1] W λe w'=>e = .returned (.bool (inS (addS [] after) name))/\NamF w n o (addS [] after) w':=λW g hW hg=>
  (Zhh (n+3) (addS [] after) _ [name] W hW.set (Zub hg) (by intro z hz;simp at hz;subst hz;unfold maxLen;omega)).mono λe w' q=>⟨by rw[q.1];simp,hW.later q.2⟩
 have q5:∀W,NamF w n o (addS [] after) W->Calls prog 213 #[.agg #[.string name,.slice a1 insN.length c1,.slice a2 outsN.length c2,.slice a3 after.length c3,.slice a4 steps.length c4]] W λe w'=>e = .returned (.bool (Zpm outsN (addS [] insN) [] steps))/\NamF w n o (addS [] after) w':=λW hW=>(hsf W hW.below).mono λe w' q=>⟨q.1,hW.later q.2⟩
 obtain⟨b1,g1⟩:∃b,Zbck insN=b:=⟨_,rfl⟩;obtain⟨b2,g2⟩:∃b,Zbck outsN=b:=⟨_,rfl⟩;obtain⟨b3,g3⟩:∃b,Zbck after=b:=⟨_,rfl⟩;obtain⟨b4,g4⟩:∃b,inS (addS [] after) name=b:=⟨_,rfl⟩;obtain⟨b5,g5⟩:∃b,Zpm outsN (addS [] insN) [] steps=b:=⟨_,rfl⟩;rw[g1]at q1;rw[g2]at q2;rw[g3]at q3;rw[g4]at q4;rw[g5]at q5;rw[g1,g2,g3,g4,g5];have Q1:=hid q1;have Q2:=hid q2;have Q3:=hid q3;have Q4:=hid q4;have Q5:=hid q5;have HD:Hid (∀W S,NamF w n o S W->W.heap[n]? =some (.cells #[.string name,.slice a1 insN.length c1,.slice a2 outsN.length c2,.slice a3 after.length c3,.slice a4 steps.length c4] 50)):=hid λW S h=>h.box.trans (by rw[<-ho])
 have HF4:=hid hf4;have HW4:=hid hW4;clear q1 q2 q3 q4 q5 hf4 hW4 g1 g2 g3 g4 g5 hsf h1 h2 h3 h4 hri hs hne hA4 hB4 hC4 hx4 hb4 hs4 hmi hmo hma ho
 go_enter func147,ntmps147
 go_wp2_with fail
 rw[HW4.out];obtain⟨d0,d1,d2,d3,d4,_⟩:=cells5 (HD.out _ _ HF4.out)
 cases b1
 ·skip
  go_wp2_with (first
   | (go_at_call 170;(with_reducible refine Q1.out.mono ?_);rintro e w5 ⟨rfl,hnf,hs2⟩;have S5:=hid hs2;clear hs2;have N5:=hid hnf;clear hnf;obtain⟨d0,d1,d2,d3,d4,_⟩:=cells5 (HD.out _ _ N5.out)))
  go_ret;exact⟨by first|rfl|simp,N5.out.below⟩
 cases b2
 ·skip
  go_wp2_with (first
   | (go_at_call 170;(with_reducible refine Q1.out.mono ?_);rintro e w5 ⟨rfl,hnf,hs2⟩;have S5:=hid hs2;clear hs2;have N5:=hid hnf;clear hnf;obtain⟨d0,d1,d2,d3,d4,_⟩:=cells5 (HD.out _ _ N5.out))
   | (go_at_call 170;(with_reducible refine(Q2.out _ N5.out S5.out).mono ?_);rintro e w6 ⟨rfl,hnf⟩;have N6:=hid hnf;clear hnf;obtain⟨d0,d1,d2,d3,d4,_⟩:=cells5 (HD.out _ _ N6.out)))
  go_ret;exact⟨by first|rfl|simp,N6.out.below⟩
 cases b3
 ·skip
  go_wp2_with (first
   | (go_at_call 170;(with_reducible refine Q1.out.mono ?_);rintro e w5 ⟨rfl,hnf,hs2⟩;have S5:=hid hs2;clear hs2;have N5:=hid hnf;clear hnf;obtain⟨d0,d1,d2,d3,d4,_⟩:=cells5 (HD.out _ _ N5.out))
   | (go_at_call 170;(with_reducible refine(Q2.out _ N5.out S5.out).mono ?_);rintro e w6 ⟨rfl,hnf⟩;have N6:=hid hnf;clear hnf;obtain⟨d0,d1,d2,d3,d4,_⟩:=cells5 (HD.out _ _ N6.out))
   | (go_at_call 170;(with_reducible refine(Q3.out _ N6.out).mono ?_);rintro e w7 ⟨rfl,hnf⟩;have N7:=hid hnf;clear hnf;obtain⟨d0,d1,d2,d3,d4,_⟩:=cells5 (HD.out _ _ N7.out)))
  go_ret;exact⟨by first|rfl|simp,N7.out.below⟩
 cases b4
 rotate_left
 ·skip
  go_wp2_with (first
   | (go_at_call 170;(with_reducible refine Q1.out.mono ?_);rintro e w5 ⟨rfl,hnf,hs2⟩;have S5:=hid hs2;clear hs2;have N5:=hid hnf;clear hnf;obtain⟨d0,d1,d2,d3,d4,_⟩:=cells5 (HD.out _ _ N5.out))
   | (go_at_call 170;(with_reducible refine(Q2.out _ N5.out S5.out).mono ?_);rintro e w6 ⟨rfl,hnf⟩;have N6:=hid hnf;clear hnf;obtain⟨d0,d1,d2,d3,d4,_⟩:=cells5 (HD.out _ _ N6.out))
   | (go_at_call 170;(with_reducible refine(Q3.out _ N6.out).mono ?_);rintro e w7 ⟨rfl,hnf⟩;have N7:=hid hnf;clear hnf;obtain⟨d0,d1,d2,d3,d4,_⟩:=cells5 (HD.out _ _ N7.out))
   | (go_at_call 172;(with_reducible refine(Q4.out _ _ (N7.out.alloc _) (alloc_at w7 _)).mono ?_);rintro e w8 ⟨rfl,hnf⟩;have N8:=hid hnf;clear hnf;obtain⟨d0,d1,d2,d3,d4,_⟩:=cells5 (HD.out _ _ N8.out)))
  go_ret;exact⟨by first|rfl|simp,N8.out.below⟩
 go_wp2_with (first
  | (go_at_call 170;(with_reducible refine Q1.out.mono ?_);rintro e w5 ⟨rfl,hnf,hs2⟩;have S5:=hid hs2;clear hs2;have N5:=hid hnf;clear hnf;obtain⟨d0,d1,d2,d3,d4,_⟩:=cells5 (HD.out _ _ N5.out))
  | (go_at_call 170;(with_reducible refine(Q2.out _ N5.out S5.out).mono ?_);rintro e w6 ⟨rfl,hnf⟩;have N6:=hid hnf;clear hnf;obtain⟨d0,d1,d2,d3,d4,_⟩:=cells5 (HD.out _ _ N6.out))
  | (go_at_call 170;(with_reducible refine(Q3.out _ N6.out).mono ?_);rintro e w7 ⟨rfl,hnf⟩;have N7:=hid hnf;clear hnf;obtain⟨d0,d1,d2,d3,d4,_⟩:=cells5 (HD.out _ _ N7.out))
  | (go_at_call 172;(with_reducible refine(Q4.out _ _ (N7.out.alloc _) (alloc_at w7 _)).mono ?_);rintro e w8 ⟨rfl,hnf⟩;have N8:=hid hnf;clear hnf;obtain⟨d0,d1,d2,d3,d4,_⟩:=cells5 (HD.out _ _ N8.out))
  | (go_at_call 213;(with_reducible refine(Q5.out _ N8.out).mono ?_);rintro e w9 ⟨rfl,hnf⟩;have N9:=hid hnf;clear hnf;obtain⟨d0,d1,d2,d3,d4,_⟩:=cells5 (HD.out _ _ N9.out)))
 go_ret;exact⟨by first|rfl|simp,N9.out.below⟩
def Zbip (r:RuleS):Int:=if Zpo r=false then 1 else if Zbkx r=false then 4 else if Zbac r=false then 2 else 0
theorem Zir (r:RuleS) (a1 a2 a3 a4:Option Addr) (c1 c2 c3 c4:Nat) (w:World) (hr:RuleI w [.string r.name,.slice a1 r.ins.length c1,.slice a2 r.outs.length c2,.slice a3 r.after.length c3,.slice a4 r.steps.length c4] r) (hs:SmallR r 1048576) (hm:MayW w):
  Calls prog 107 #[.agg (Zbiz r a1 a2 a3 a4 c1 c2 c3 c4)] w λe w'=>e = .returned (.int .i64 (Zbip r))/\Below w.heap.size w w':=by
 have q1:=λW (h:Below w.heap.size w W)=>Zpp r a1 a2 a3 a4 c1 c2 c3 c4 W (hr.below h) hs (hm.below h)
 have q2:=λW=>Zbky r a1 a2 a3 a4 c1 c2 c3 c4 W hs
 have q3:=λW (h:Below w.heap.size w W)=>Zbad r a1 a2 a3 a4 c1 c2 c3 c4 W (hr.below h) hs
 unfold Zbip;obtain⟨b1,g1⟩:∃b,Zpo r=b:=⟨_,rfl⟩;obtain⟨b2,g2⟩:∃b,Zbkx r=b:=⟨_,rfl⟩;obtain⟨b3,g3⟩:∃b,Zbac r=b:=⟨_,rfl⟩;rw[g1]at q1;rw[g2]at q2;rw[g3]at q3;rw[g1,g2,g3];obtain⟨name,insN,outsN,after,steps⟩:=r;simp only[Zbiz]at q1 q2 q3⊢;have Q1:=hid q1;have Q2:=hid q2;have Q3:=hid q3;obtain⟨W1,hW1⟩:∃W,w.alloc (.cells #[.string name,.slice a1 insN.length c1,.slice a2 outsN.length c2,.slice a3 after.length c3,.slice a4 steps.length c4] 50)=W:=⟨_,rfl⟩;have hb1:Below w.heap.size w W1:=by rw[<-hW1];exact(Below.refl _ _).alloc (Nat.le_refl _) _
 have hc:∀W,Below W1.heap.size W1 W->W.heap[w.heap.size]? =some (.cells #[.string name,.slice a1 insN.length c1,.slice a2 outsN.length c2,.slice a3 after.length c3,.slice a4 steps.length c4] 50):=λW h=>(h.block _ (by rw[<-hW1];simp)).trans (by rw[<-hW1];exact alloc_at w _)
 have HB1:=hid hb1;have HC:=hid hc;have HW1:=hid hW1;clear q1 q2 q3 g1 g2 g3 hr hs hm hb1 hc hW1
 go_enter func107,ntmps107
 go_wp2_with fail
 rw[HW1.out];obtain⟨d0,d1,d2,d3,d4,_⟩:=cells5 (HC.out _ (Below.refl _ _))
 cases b1
 ·skip
  go_wp2_with (first
   | (go_at_call 145;(with_reducible refine(Q1.out _ HB1.out).mono ?_);rintro e w2 ⟨rfl,hb2⟩;have HB2:=hid ((Below.refl W1.heap.size W1).trans (hb2.mono (Below.refl W1.heap.size W1).size));clear hb2;obtain⟨d0,d1,d2,d3,d4,_⟩:=cells5 (HC.out _ HB2.out)))
  go_ret;exact⟨by first|rfl|simp,HB1.out.trans (HB2.out.mono HB1.out.size)⟩
 cases b2
 ·skip
  go_wp2_with (first
   | (go_at_call 145;(with_reducible refine(Q1.out _ HB1.out).mono ?_);rintro e w2 ⟨rfl,hb2⟩;have HB2:=hid ((Below.refl W1.heap.size W1).trans (hb2.mono (Below.refl W1.heap.size W1).size));clear hb2;obtain⟨d0,d1,d2,d3,d4,_⟩:=cells5 (HC.out _ HB2.out))
   | (go_at_call 146;(with_reducible refine(Q2.out _).mono ?_);rintro e w3 ⟨rfl,hb3⟩;have HB3:=hid (HB2.out.trans (hb3.mono HB2.out.size));clear hb3;obtain⟨d0,d1,d2,d3,d4,_⟩:=cells5 (HC.out _ HB3.out)))
  go_ret;exact⟨by first|rfl|simp,HB1.out.trans (HB3.out.mono HB1.out.size)⟩
 cases b3
 ·skip
  go_wp2_with (first
   | (go_at_call 145;(with_reducible refine(Q1.out _ HB1.out).mono ?_);rintro e w2 ⟨rfl,hb2⟩;have HB2:=hid ((Below.refl W1.heap.size W1).trans (hb2.mono (Below.refl W1.heap.size W1).size));clear hb2;obtain⟨d0,d1,d2,d3,d4,_⟩:=cells5 (HC.out _ HB2.out))
   | (go_at_call 146;(with_reducible refine(Q2.out _).mono ?_);rintro e w3 ⟨rfl,hb3⟩;have HB3:=hid (HB2.out.trans (hb3.mono HB2.out.size));clear hb3;obtain⟨d0,d1,d2,d3,d4,_⟩:=cells5 (HC.out _ HB3.out))
   | (go_at_call 147;(with_reducible refine(Q3.out _ (HB1.out.trans (HB3.out.mono HB1.out.size))).mono ?_);rintro e w4 ⟨rfl,hb4⟩;have HB4:=hid (HB3.out.trans (hb4.mono HB3.out.size));clear hb4;obtain⟨d0,d1,d2,d3,d4,_⟩:=cells5 (HC.out _ HB4.out)))
  go_ret;exact⟨by first|rfl|simp,HB1.out.trans (HB4.out.mono HB1.out.size)⟩
 go_wp2_with (first
  | (go_at_call 145;(with_reducible refine(Q1.out _ HB1.out).mono ?_);rintro e w2 ⟨rfl,hb2⟩;have HB2:=hid ((Below.refl W1.heap.size W1).trans (hb2.mono (Below.refl W1.heap.size W1).size));clear hb2;obtain⟨d0,d1,d2,d3,d4,_⟩:=cells5 (HC.out _ HB2.out))
  | (go_at_call 146;(with_reducible refine(Q2.out _).mono ?_);rintro e w3 ⟨rfl,hb3⟩;have HB3:=hid (HB2.out.trans (hb3.mono HB2.out.size));clear hb3;obtain⟨d0,d1,d2,d3,d4,_⟩:=cells5 (HC.out _ HB3.out))
  | (go_at_call 147;(with_reducible refine(Q3.out _ (HB1.out.trans (HB3.out.mono HB1.out.size))).mono ?_);rintro e w4 ⟨rfl,hb4⟩;have HB4:=hid (HB3.out.trans (hb4.mono HB3.out.size));clear hb4;obtain⟨d0,d1,d2,d3,d4,_⟩:=cells5 (HC.out _ HB4.out)))
 go_ret;exact⟨by first|rfl|simp,HB1.out.trans (HB4.out.mono HB1.out.size)⟩
def nmS (rs:List RuleS):List ByteArray:=rs.foldl (λL r=>addS L [r.name]) []
def foS (rs:List RuleS):List ByteArray:=rs.foldl (λL r=>addS L r.outs) []
def takB (R F:List ByteArray) (r:RuleS):Bool:=inS R r.name || !decide ((addS F r.outs).length=F.length+r.outs.length)
structure Tk (n:Nat) (R F:List ByteArray) (W:World):Prop where
 s0:SetIs W n R
 s1:SetIs W (n+1) F
 b2:Boxed W (n+2) 216 (.map (some n))
 b3:Boxed W (n+3) 216 (.map (some (n+1)))
 size:n+4<=W.heap.size
set_option maxHeartbeats 4000000
set_option maxRecDepth 100000
theorem Zbrh (r:RuleS) (a1 a2 a3 a4:Option Addr) (c1 c2 c3 c4:Nat) (n:Nat) (R F:List ByteArray) (w:World) (ho:IsStrs w (.slice a2 r.outs.length c2) r.outs) (hob:∀g o c,r.outs≠[]->Value.slice a2 r.outs.length c2 = .slice (some ⟨g,o,none⟩) r.outs.length c->g≠n+1/\g≠n) (hs:SmallR r 1048576) (hT:Tk n R F w) (hR:R.length<=1048576) (hF:F.length<=1048576*1048576):
  Calls prog 169 #[.agg (Zbiz r a1 a2 a3 a4 c1 c2 c3 c4),.pointer (some ⟨n+2,0,none⟩),.pointer (some ⟨n+3,0,none⟩)] w λe w'=>e = .returned (.bool (takB R F r))/\Below n w w'/\(∀k,k<w.heap.size->k≠n->k≠n+1->w'.heap[k]? =w.heap[k]?)/\(takB R F r=false->Tk n (addS R [r.name]) (addS F r.outs) w'):=by
 obtain⟨s0,s1,x2,x3,hz⟩:=hT;have hnm:=hs.name;have hol:=hs.outs.1;have hmo:=Zblx hs.outs;unfold takB;obtain⟨name,insN,outsN,after,steps⟩:=r;simp only[Zbiz]at ho hob hnm hol hmo⊢;obtain⟨o,hoe⟩:∃o:Obj,.cells #[.string name,.slice a1 insN.length c1,.slice a2 outsN.length c2,.slice a3 after.length c3,.slice a4 steps.length c4] 50=o:=⟨_,rfl⟩;obtain⟨W2,hW2⟩:∃W,(w.alloc o).alloc (.cells #[.string name] 9)=W:=⟨_,rfl⟩;have hs2:W2.heap.size=w.heap.size+2:=by rw[<-hW2];simp
 have hb2:Below w.heap.size w W2:=by rw[<-hW2];exact((Below.refl _ _).alloc (Nat.le_refl _) _).alloc (by simp) _
 have hc2:W2.heap[w.heap.size]? =some o:=by rw[<-hW2,Below.heap_alloc _ _ _ (by simp)];exact alloc_at w _
 have hg2:W2.heap[w.heap.size+1]? =some (.cells #[.string name] 9):=by
  have:=alloc_at (w.alloc o) (.cells #[.string name] 9);rw[World.size_alloc]at this;rw[<-hW2];exact this
 have q1:Calls prog 170 #[.map (some n),.slice (some ⟨w.heap.size+1,0,none⟩) 1 1] W2 λe w'=>e = .returned (.bool (!inS R name))/\SetIs w' n (addS R [name])/\W2.grownBy w' (some n)/\w'.heap.size=W2.heap.size:=
  (Zha n R _ [name] W2 (s0.below hb2 s0.lt) (Zub hg2) (λg' o' c' _ e=>by cases (Value.slice.inj e).1;omega) (by simp;omega) (by intro z hz;simp at hz;subst hz;unfold maxLen;omega)).mono λe w' q=>⟨by rw[q.1,List.length_singleton,Zcr],q.2⟩
 have q2:∀w3,W2.grownBy w3 (some n)->Calls prog 170 #[.map (some (n+1)),.slice a2 outsN.length c2] w3 (Zae w3 (n+1) F outsN):=λw3 hg=>by
  have hk:∀k,k<w.heap.size->k≠n->w3.heap[k]? =w.heap[k]?:=λk hk hne=>(hg.block k (by omega) (λe=>hne (Option.some.inj e))).trans (hb2.block k hk)
  refine Zha (n+1) F _ outsN w3 (s1.heap (hk _ (by omega) (by omega))) ?_ (λg o c hne e=>(hob g o c hne e).1) (by omega) hmo;obtain⟨oa,oc,e,l1,l2,l3⟩:=ho;refine⟨oa,oc,e,l1,l2,λhne=>?_⟩;obtain⟨b,of,rfl,hbl,hcc⟩:=l3 hne;exact⟨b,of,rfl,by have:=hg.size;omega,λj x hx=>(World.cell?_of_block (a:=⟨b,of+j,none⟩) (hk b hbl (hob b of oc hne e).2)).trans (hcc j x hx)⟩
 obtain⟨bR,hbR⟩:∃b,inS R name=b:=⟨_,rfl⟩;obtain⟨bF,hbF⟩:∃b,decide ((addS F outsN).length=F.length+outsN.length)=b:=⟨_,rfl⟩;unfold Zae at q2;rw[hbR]at q1;rw[hbF]at q2;rw[hbR,hbF];have e2:=(show Boxed (w.alloc (.cells #[.string name,.slice a1 insN.length c1,.slice a2 outsN.length c2,.slice a3 after.length c3,.slice a4 steps.length c4] 50)) (n+2) _ _ from(Below.heap_alloc _ _ _ (by omega)).trans x2).cell;have Q1:=hid q1;have Q2:=hid q2;have HW2:=hid hW2;have HB2:=hid hb2;have HC2:=hid hc2;have HS2:=hid hs2;have HZ:=hid hz;have X2:=hid x2;have X3:=hid x3;have HOE:=hid hoe;have S1:=hid s1;clear q1 q2 hW2 hb2 hc2 hs2 hg2 s0 x2 x3 ho hob hs hmo hbR hbF hoe s1
 go_enter func169,ntmps169
 cases bR
 rotate_left
 ·go_wp2_with (go_at_call 170;rw[HOE.out,HW2.out];(with_reducible refine Q1.out.mono ?_);rintro e w3 ⟨rfl,hset3,hg3,hz3⟩;have HG3:=hid hg3;clear hset3 hg3 hz3)
  go_ret;have hs2:=HS2.out;exact⟨by first|rfl|simp,(HB2.out.mono (by omega)).grown HG3.out (by omega) (λj e=>by cases e;omega),λk hk h0 h1=>(HG3.out.block k (by omega) (λe=>h0 (Option.some.inj e))).trans (HB2.out.block k hk),λh=>by simp at h⟩
 ·go_wp2_with (first
   | (go_at_call 170;rw[HOE.out,HW2.out];(with_reducible refine Q1.out.mono ?_);rintro e w3 ⟨rfl,hset3,hg3,hz3⟩;have HG3:=hid hg3;have HT3:=hid hset3;have e3':=(show Boxed w3 (n+3) _ _ from(hg3.block _ (by rw[HS2.out];omega) (λe=>by have:=Option.some.inj e;omega)).trans ((HB2.out.block _ (by omega)).trans X3.out)).cell;obtain⟨d0,d1,d2,d3,d4,_⟩:=cells5 ((hg3.block _ (by rw[HS2.out];omega) (λe=>by have:=Option.some.inj e;omega)).trans (HC2.out.trans (by rw[<-HOE.out])));clear hset3 hg3 hz3)
   | (go_at_call 170;(with_reducible refine(Q2.out _ HG3.out).mono ?_);rintro e w4 ⟨rfl,hset4,hg4,hz4⟩;have HG4:=hid hg4;have HT4:=hid hset4;clear hset4 hg4 hz4))
  go_ret;have hs2:=HS2.out;have hs3:=HG3.out.size;have hs4:=HG4.out.size;have hk:∀k,k<w.heap.size->k≠n->k≠n+1->w4.heap[k]? =w.heap[k]?:=λk hk h0 h1=>(HG4.out.block k (by omega) (λe=>h1 (Option.some.inj e))).trans ((HG3.out.block k (by omega) (λe=>h0 (Option.some.inj e))).trans (HB2.out.block k hk))
  exact⟨by first|rfl|simp,((HB2.out.mono (by omega)).grown HG3.out (by omega) (λj e=>by cases e;omega)).grown HG4.out (by omega) (λj e=>by cases e;omega),hk,λh=>⟨HT3.out.heap (HG4.out.block _ (by omega) (λe=>by have:=Option.some.inj e;omega)),HT4.out,(hk _ (by omega) (by omega) (by omega)).trans X2.out,(hk _ (by omega) (by omega) (by omega)).trans X3.out,by omega⟩⟩
theorem IdxPost.shape {n:Nat} {p:Nat->Bool} {J:Nat->World->Prop} {e:Ending} {w':World} (h:IdxPost n p J e w'):∃i:Int,e = .returned (.int .i64 i)/\IdxPost n p J (.returned (.int .i64 i)) w':=by
 obtain⟨k,h1,h2,⟨h3,rfl,h4⟩|⟨h3,h4,rfl,h5⟩⟩:=id h
 ·exact⟨_,rfl,h⟩
 ·exact⟨_,rfl,h⟩
theorem IdxPost.imp {n:Nat} {p:Nat->Bool} {J J':Nat->World->Prop} {e:Ending} {w':World} (h:IdxPost n p J e w') (hJ:∀k W,J k W->J' k W):IdxPost n p J' e w':=by
 obtain⟨k,h1,h2,⟨h3,h4,h5⟩|⟨h3,h4,h5,h6⟩⟩:=h
 ·exact⟨k,h1,h2,.inl ⟨h3,h4,hJ _ _ h5⟩⟩
 ·exact⟨k,h1,h2,.inr ⟨h3,h4,h5,hJ _ _ h6⟩⟩
theorem idxR (fid:Nat) (caps:Array Value) (eg:∀args w,(callFunc fid args).run prog w = .ok (.enter fid args) w) (w0:World) (v:Value) (rs:List RuleS) (hv:RulesI w0 v rs) (p:Nat->Bool) (J:Nat->World->Prop) (w:World) (hJ:∀k W,J k W->Below w0.heap.size w0 W)
  (hf:∀(k:Nat) r,rs[k]? =some r->∀(a1 a2 a3 a4:Option Addr) (c1 c2 c3 c4:Nat) W,RuleI w0 [.string r.name,.slice a1 r.ins.length c1,.slice a2 r.outs.length c2,.slice a3 r.after.length c3,.slice a4 r.steps.length c4] r->(∀j,j<k->p j=false)->J k W->Calls prog fid (#[.agg (Zbiz r a1 a2 a3 a4 c1 c2 c3 c4)]++caps) W λe W'=>e = .returned (.bool (p k))/\J (k+1) W') (h0:J 0 w):
  Calls prog 168 #[v,.func (.func fid) #[] caps] w (IdxPost rs.length p J):=by
 obtain⟨rows,hrow,hall⟩:=hv;obtain⟨a,c,rfl,h1,h2,h3⟩:=id hrow;have hq:∀(k:Nat) x,rs[k]? =some x->∃r,rows[k]? =some r/\RuleI w0 r x:=by
  intro k x hx;have hk:k<rows.length:=by rw[hall.1];exact(List.getElem?_eq_some_iff.1 hx).1
  exact⟨rows[k],List.getElem?_eq_getElem hk,hall.2 k _ x (List.getElem?_eq_getElem hk) hx⟩
 have hx:∀(k:Nat),k<rows.length->∃x,rs[k]? =some x:=λk hk=>⟨rs[k]'(by rw[<-hall.1];exact hk),List.getElem?_eq_getElem _⟩
 rw[<-hall.1];refine Zsg fid caps eg a rows.length c (Nat.le_trans h1 h2) (λk=>(rows.getD k []).getD 0 undef) (λk=>(rows.getD k []).getD 1 undef) (λk=>(rows.getD k []).getD 2 undef) (λk=>(rows.getD k []).getD 3 undef) (λk=>(rows.getD k []).getD 4 undef) p J w (λk W hk hW=>?_) (λk W hk hno hW=>?_) h0
 ·obtain⟨x,hkx⟩:=hx k hk
  obtain⟨r,hr,vi,vo,vf,vs,e5,_⟩:=hq k x hkx;obtain⟨b,o,rfl,hb,hc⟩:=h3 (by rintro rfl;simp at hk);refine⟨b,o,rfl,?_⟩;have hgd:rows.getD k []=r:=by rw[List.getD_eq_getElem?_getD,hr];rfl
  have hcc:∀(i:Nat) u,r[i]? =some u->W.cell? ⟨b,o+k*5+i,none⟩=some u:=λi u hu=>((hJ k W hW).cell (p:=⟨b,_,none⟩) hb).trans (hc k r hr i u hu)
  simp only[hgd];subst e5;exact⟨hcc 0 _ rfl,hcc 1 _ rfl,hcc 2 _ rfl,hcc 3 _ rfl,hcc 4 _ rfl⟩
 ·obtain⟨x,hkx⟩:=hx k hk
  obtain⟨r,hr,hri⟩:=hq k x hkx;obtain⟨vi,vo,vf,vs,e5,g1,g2,g3,g4⟩:=id hri;obtain⟨b1,m1,rfl⟩:=Zue g1;obtain⟨b2,m2,rfl⟩:=Zue g2;obtain⟨b3,m3,rfl⟩:=Zue g3;obtain⟨b4,m4,rfl⟩:=Zbov g4;have hgd:rows.getD k []=r:=by rw[List.getD_eq_getElem?_getD,hr];rfl
  simp only[hgd];subst e5;exact hf k x hkx b1 b2 b3 b4 m1 m2 m3 m4 W hri hno hW
theorem Zbis {w:World} {r:RuleS} {a1 a2 a3 a4:Option Addr} {c1 c2 c3 c4:Nat} (hr:RuleI w [.string r.name,.slice a1 r.ins.length c1,.slice a2 r.outs.length c2,.slice a3 r.after.length c3,.slice a4 r.steps.length c4] r):IsStrs w (.slice a3 r.after.length c3) r.after:=by
 obtain⟨vi,vo,vf,vs,q,h1,h2,h3,h4⟩:=hr;simp only[List.cons.injEq,and_true,true_and]at q;obtain⟨rfl,rfl,rfl,rfl⟩:=q;exact h3
theorem Zbba:∀(rs:List RuleS),(nmS rs).length<=rs.length:=by
 have h:∀(rs:List RuleS) (L:List ByteArray),(rs.foldl (λL r=>addS L [r.name]) L).length<=L.length+rs.length:=by
  intro rs
  induction rs with
  | nil=>intro L;simp
  | cons r rs ih=>intro L;rw[List.foldl_cons,List.length_cons];have:=ih (addS L [r.name]);have:=Zco [r.name] L;simp at this;omega
 intro rs;have:=h rs [];simpa[nmS]using this
theorem Zpj:∀(rs:List RuleS),(∀r∈rs,r.outs.length<=1048576)->(foS rs).length<=rs.length*1048576:=by
 have h:∀(rs:List RuleS) (L:List ByteArray),(∀r∈rs,r.outs.length<=1048576)->(rs.foldl (λL r=>addS L r.outs) L).length<=L.length+rs.length*1048576:=by
  intro rs
  induction rs with
  | nil=>intro L _;simp
  | cons r rs ih=>intro L hs;rw[List.foldl_cons,List.length_cons,Nat.succ_mul];have:=ih (addS L r.outs) (λx hx=>hs x (List.mem_cons_of_mem _ hx));have:=Zco r.outs L;have:=hs r List.mem_cons_self;omega
 intro rs hs;have:=h rs [] hs;simpa[foS]using this
theorem Zbbc {rs:List RuleS} {k:Nat} {r:RuleS} (h:rs[k]? =some r):nmS (rs.take (k+1))=addS (nmS (rs.take k)) [r.name]:=by
 unfold nmS;rw[List.take_add_one,h,List.foldl_append];rfl
theorem Zpl {rs:List RuleS} {k:Nat} {r:RuleS} (h:rs[k]? =some r):foS (rs.take (k+1))=addS (foS (rs.take k)) r.outs:=by
 unfold foS;rw[List.take_add_one,h,List.foldl_append];rfl
def takP (rs:List RuleS) (k:Nat):Bool:=(rs[k]?.map (takB (nmS (rs.take k)) (foS (rs.take k)))).getD false
def astP (rs:List RuleS) (k:Nat):Bool:=(rs[k]?.map λr=> !r.after.all (inS (nmS rs))).getD false
theorem Zbri (v:Value) (rs:List RuleS) (w:World) (hv:RulesI w v rs) (hs:∀r∈rs,SmallR r 1048576) (hn:rs.length<=1048576):
  Calls prog 121 #[v] w (IdxPost rs.length (takP rs) (λ_ W=>Below w.heap.size w W)):=by
 obtain⟨n,hnn⟩:∃n,w.heap.size=n:=⟨_,rfl⟩;have mixed:prog.follows .mixedOrders=true:=by kernel_rfl
 have hmm:=@run_makeMap prog;have hmf:∀(fn:Fn) (first cap:Array Value) (w:World),(Instr.makeFunc fn first cap).run prog w = .ok (.func fn first cap) w:=λ_ _ _ _=>rfl
 have cI:∀W,Tk n [] [] W->Below n w W->Calls prog 168 #[v,.func (.func 169) #[] #[.pointer (some ⟨n+2,0,none⟩),.pointer (some ⟨n+3,0,none⟩)]] W (IdxPost rs.length (takP rs) (λk W'=>Below n w W'/\((∀j,j<k->takP rs j=false)->Tk n (nmS (rs.take k)) (foS (rs.take k)) W'))):=λW hT hb=>
  idxR 169 _ (enters_of func169 (by kernel_rfl) rfl) w v rs hv (takP rs) _ W (λk W' h=>by rw[hnn];exact h.1) (λk r hr a1 a2 a3 a4 c1 c2 c3 c4 W' hri hno hJ=>by
   have hT':=hJ.2 hno;have hkl:k<rs.length:=(List.getElem?_eq_some_iff.1 hr).1;have hsr:=hs r (List.mem_of_getElem? hr);have hl1:=Zbba (rs.take k);have hl2:=Zpj (rs.take k) (λx hx=>(hs x (List.mem_of_mem_take hx)).outs.1);rw[List.length_take]at hl1 hl2;have ho0:=Zbiv hri;have hpe:takP rs k=takB (nmS (rs.take k)) (foS (rs.take k)) r:=by unfold takP;rw[hr];rfl
   refine(Zbrh r a1 a2 a3 a4 c1 c2 c3 c4 n _ _ W' (ho0.below (by rw[hnn];exact hJ.1)) (λg o c hne e=>by
    obtain⟨g',o',e',hg',_⟩:=Ztz ho0 hne;have e2:=e'.symm.trans (Value.slice.inj e).1
    cases e2
    omega) hsr hT' (by omega) (Nat.le_trans hl2 (Nat.mul_le_mul_right _ (by omega)))).mono ?_
   rintro e W2 ⟨rfl,hb2,_,hk2⟩;refine⟨by rw[hpe],hJ.1.trans hb2,λhno2=>?_⟩;rw[Zbbc hr,Zpl hr];exact hk2 (by rw[<-hpe];exact hno2 k (Nat.lt_succ_self k))) ⟨hb,λ_=>hT⟩
 have CI:=hid cI;rw[hnn];have HNN:=hid hnn;clear cI hv hs
 go_enter func121,ntmps121
 have hb:Below n w ((((w.alloc (.map #[] 0)).alloc (.map #[] 0)).alloc (.cells #[.map (some n)] 216)).alloc (.cells #[.map (some (n+1))] 216)):=by
  rw[<-hnn];exact((((Below.refl _ _).alloc (Nat.le_refl _) _).alloc (by simp) _).alloc (by simp<;>omega) _).alloc (by simp<;>omega) _
 have hT:Tk n [] [] ((((w.alloc (.map #[] 0)).alloc (.map #[] 0)).alloc (.cells #[.map (some n)] 216)).alloc (.cells #[.map (some (n+1))] 216)):=by
  refine⟨?_,?_,?_,?_,by simp[hnn]⟩
  ·have:=Zbkr w
   rw[hnn]at this;exact this.heap ((Below.heap_alloc _ _ _ (by simp[hnn]<;>omega)).trans ((Below.heap_alloc _ _ _ (by simp[hnn]<;>omega)).trans (Below.heap_alloc _ _ _ (by simp[hnn]))))
  ·have:=Zbkr (w.alloc (.map #[] 0))
   rw[World.size_alloc,hnn]at this;exact this.heap ((Below.heap_alloc _ _ _ (by simp[hnn]<;>omega)).trans (Below.heap_alloc _ _ _ (by simp[hnn])))
  ·have:=Boxed.new ((w.alloc (.map #[] 0)).alloc (.map #[] 0)) 216 (.map (some n))
   rw[World.size_alloc,World.size_alloc,hnn]at this;exact(Below.heap_alloc _ _ _ (by simp[hnn])).trans this
  ·have:=Boxed.new (((w.alloc (.map #[] 0)).alloc (.map #[] 0)).alloc (.cells #[.map (some n)] 216)) 216 (.map (some (n+1)))
   rw[World.size_alloc,World.size_alloc,World.size_alloc,hnn]at this;exact this
 have C1:=hid (CI.out _ hT hb);clear hT hb hn
 go_wp2_with (go_at_call 168;(with_reducible refine C1.out.mono ?_);rintro e w2 hi;obtain⟨i,rfl,hi2⟩:=hi.shape;have HI:=hid hi2;clear hi hi2)
 go_ret;exact HI.out.imp λ_ _ h=>h.1
theorem Zdt (r:RuleS) (a1 a2 a3 a4:Option Addr) (c1 c2 c3 c4:Nat) (n:Nat) (L:List ByteArray) (w:World) (ho:IsStrs w (.slice a3 r.after.length c3) r.after) (hs:SmallR r 1048576) (hS:SetIs w n L) (hB:Boxed w (n+1) 216 (.map (some n))):
  Calls prog 171 #[.agg (Zbiz r a1 a2 a3 a4 c1 c2 c3 c4),.pointer (some ⟨n+1,0,none⟩)] w λe w'=>e = .returned (.bool (!r.after.all (inS L)))/\Below w.heap.size w w':=by
 have hma:=Zblx hs.after;obtain⟨name,insN,outsN,after,steps⟩:=r;simp only[Zbiz]at ho hma⊢;have hlb:=hB.lt;obtain⟨W1,hW1⟩:∃W,w.alloc (.cells #[.string name,.slice a1 insN.length c1,.slice a2 outsN.length c2,.slice a3 after.length c3,.slice a4 steps.length c4] 50)=W:=⟨_,rfl⟩;have hb1:Below w.heap.size w W1:=by rw[<-hW1];exact(Below.refl _ _).alloc (Nat.le_refl _) _
 have eb:=(show Boxed (w.alloc (.cells #[.string name,.slice a1 insN.length c1,.slice a2 outsN.length c2,.slice a3 after.length c3,.slice a4 steps.length c4] 50)) (n+1) _ _ from(Below.heap_alloc _ _ _ hlb).trans hB).cell;have cH:=Zhh n L _ after W1 (hS.below hb1 hS.lt) (ho.below hb1) hma;obtain⟨b,hb⟩:∃b,after.all (inS L)=b:=⟨_,rfl⟩;rw[hb]at cH⊢;have CH:=hid cH;have HB1:=hid hb1;have HW1:=hid hW1;clear cH hb1 hW1 ho hs hS hB hb hma
 go_enter func171,ntmps171
 go_wp2_with (go_at_call 172;rw[HW1.out];(with_reducible refine CH.out.mono ?_);rintro e w2 ⟨rfl,hb2⟩)
 go_ret;exact⟨rfl,HB1.out.trans (hb2.mono HB1.out.size)⟩
theorem Zdu (v:Value) (rs:List RuleS) (w:World) (hv:RulesI w v rs) (hs:∀r∈rs,SmallR r 1048576) (hn:rs.length<=1048576):
  Calls prog 122 #[v] w (IdxPost rs.length (astP rs) (λ_ W=>Below w.heap.size w W)):=by
 obtain⟨n,hnn⟩:∃n,w.heap.size=n:=⟨_,rfl⟩;have mixed:prog.follows .mixedOrders=true:=by kernel_rfl
 have hmm:=@run_makeMap prog;have hmf:∀(fn:Fn) (first cap:Array Value) (w:World),(Instr.makeFunc fn first cap).run prog w = .ok (.func fn first cap) w:=λ_ _ _ _=>rfl
 have cI:∀W,SetIs W n (nmS rs)->Boxed W (n+1) 216 (.map (some n))->Below n w W->Calls prog 168 #[v,.func (.func 171) #[] #[.pointer (some ⟨n+1,0,none⟩)]] W (IdxPost rs.length (astP rs) (λ_ W'=>Below n w W'/\SetIs W' n (nmS rs)/\Boxed W' (n+1) 216 (.map (some n)))):=λW hS hB hb=>
  idxR 171 _ (enters_of func171 (by kernel_rfl) rfl) w v rs hv (astP rs) _ W (λk W' h=>by rw[hnn];exact h.1) (λk r hr a1 a2 a3 a4 c1 c2 c3 c4 W' hri hno hJ=>by
   obtain⟨hb',hS',hB'⟩:=hJ;have hpe:astP rs k = !r.after.all (inS (nmS rs)):=by unfold astP;rw[hr];rfl
   refine(Zdt r a1 a2 a3 a4 c1 c2 c3 c4 n _ W' ((Zbis hri).below (by rw[hnn];exact hb')) (hs r (List.mem_of_getElem? hr)) hS' hB').mono ?_;rintro e W2 ⟨rfl,hb2⟩;exact⟨by rw[hpe],hb'.trans (hb2.mono (by have:=hb'.size;omega)),hS'.below hb2 hS'.lt,(hb2.block _ hB'.lt).trans hB'⟩) ⟨hb,hS,hB⟩
 have CI:=hid cI;obtain⟨va,vc,rfl,hvl,hvm⟩:=Zbjn hv;rw[hnn];have HNN:=hid hnn;have HV:=hid hv;have HS:=hid hs;unfold maxLen at hvm;clear cI hv hs
 go_enter func122,ntmps122
 have hb2:Below n w ((w.alloc (.map #[] 0)).alloc (.cells #[.map (some n)] 216)):=by
  rw[<-hnn];exact((Below.refl _ _).alloc (Nat.le_refl _) _).alloc (by simp) _
 have hS2:SetIs ((w.alloc (.map #[] 0)).alloc (.cells #[.map (some n)] 216)) n []:=by
  have:=Zbkr w;rw[hnn]at this;exact this.heap (Below.heap_alloc _ _ _ (by simp[hnn]))
 have hB2:Boxed ((w.alloc (.map #[] 0)).alloc (.cells #[.map (some n)] 216)) (n+1) 216 (.map (some n)):=by
  have:=Boxed.new (w.alloc (.map #[] 0)) 216 (.map (some n));rw[World.size_alloc,hnn]at this;exact this
 have HB2:=hid hb2;have HS2:=hid hS2;have HBX2:=hid hB2;clear hb2 hS2 hB2;go_wp2
 go_loopw [5,9,10,11,12,13,14,15,16,17,18] (λ_ iv _ _ _ _ _ _ _ _ _ wr=>∃k,k<=rs.length/\iv = .int .i64 (k:Int)/\SetIs wr n (nmS (rs.take k))/\Boxed wr (n+1) 216 (.map (some n))/\Below n w wr/\n+2<=wr.heap.size) (λ_ iv _ _ _ _ _ _ _ _ _ _=>rs.length-(intOf iv).toNat)
 case atStart=>exact⟨0,Nat.zero_le _,rfl,HS2.out,HBX2.out,HB2.out,by simp[HNN.out]⟩
 case round=>
  obtain⟨k,hk,rfl,hS,hB,hb,hz⟩:=hrel
  by_cases hlt:k<rs.length
  ·obtain⟨y,hy⟩:∃y,rs[k]? =some y:=⟨rs[k],List.getElem?_eq_getElem hlt⟩
   have hbw:Below w.heap.size w wr:=by rw[HNN.out];exact hb
   obtain⟨g,o,cap,a1,c1,a2,c2,a3,c3,a4,c4,e,hg,hri,hyc⟩:=Zbjm HV.out hy;obtain⟨e1,_,e3⟩:=Value.slice.inj e;subst e1 e3;obtain⟨e0,e1,e2,e3,e4⟩:=hyc wr hbw;have hi1:(k:Int)<(rs.length:Int):=by omega
   have hi0:(0:Int)<=(k:Int):=by omega
   have hnm:=(HS.out y (List.mem_of_getElem? hy)).name;have hl1:=Zbba (rs.take k);rw[List.length_take]at hl1;obtain⟨W1,hW1⟩:∃W,wr.alloc (.cells #[.string y.name,.slice a1 y.ins.length c1,.slice a2 y.outs.length c2,.slice a3 y.after.length c3,.slice a4 y.steps.length c4] 50)=W:=⟨_,rfl⟩;have hb1:Below wr.heap.size wr W1:=by rw[<-hW1];exact(Below.refl _ _).alloc (Nat.le_refl _) _
   have hs1:W1.heap.size=wr.heap.size+1:=by rw[<-hW1];simp
   have eb:=(show Boxed (wr.alloc (.cells #[.string y.name,.slice a1 y.ins.length c1,.slice a2 y.outs.length c2,.slice a3 y.after.length c3,.slice a4 y.steps.length c4] 50)) (n+1) _ _ from(Below.heap_alloc _ _ _ (by omega)).trans hB).cell;have hS1:SetIs (W1.alloc (.cells #[.string y.name] 9)) n (nmS (rs.take k)):=hS.heap ((Below.heap_alloc _ _ _ (by omega)).trans (hb1.block _ (by omega)));have cA:=Zha n _ _ [y.name] (W1.alloc (.cells #[.string y.name] 9)) hS1 (Zub (alloc_at W1 _)) (λg' o' c' _ e=>by cases (Value.slice.inj e).1;omega) (by simp;omega) (by intro z hz;simp at hz;subst hz;unfold maxLen;omega);have hbx:Below n w (W1.alloc (.cells #[.string y.name] 9)):=hb.trans ((hb1.alloc hb1.size _).mono (by omega));have hnx:=Zbbc hy;have hBk:=λW' (h:(W1.alloc (.cells #[.string y.name] 9)).grownBy W' (some n))=>show Boxed W' (n+1) _ _ from(h.block _ (by rw[World.size_alloc];omega) (λe=>by have:=Option.some.inj e;omega)).trans ((Below.heap_alloc _ _ _ (by omega)).trans ((hb1.block _ (by omega)).trans hB))
   unfold Zae at cA;rw[<-hnx,hs1]at cA;have CA:=hid cA;have HBX:=hid hbx;have HW1:=hid hW1;have HBK:=hid hBk;have HZ1:Hid (n+3<=W1.heap.size):=hid (by omega);clear cA hbx hW1 hBk hnx hS1 hb1 hs1 hS hB hb hz hy hyc hri hbw hg hnm hl1
   go_wp2_with (go_at_call 170;rw[HW1.out];(with_reducible refine CA.out.mono ?_);rintro e w3 ⟨rfl,hset3,hg3,hz3⟩;have HS3:=hid hset3;have HG3:=hid hg3;have HZ3:=hid hz3;clear hset3 hg3 hz3)
   go_roundw
   case rel=>
    have hz1:=HZ1.out;exact⟨k+1,by omega,by go_num,HS3.out,HBK.out _ HG3.out,HBX.out.grown HG3.out (by rw[World.size_alloc];omega) (λj e=>by cases e;omega),by rw[HZ3.out,World.size_alloc];omega⟩
   case measure=>simp[intOf];omega
  ·have hi1:¬(k:Int)<(rs.length:Int):=by omega
   have hS':SetIs wr n (nmS rs):=by rw[List.take_of_length_le (by omega)]at hS;exact hS
   have C1:=hid (CI.out wr hS' hB hb);clear hS hB hb hz hS'
   go_wp2_with (go_at_call 168;(with_reducible refine C1.out.mono ?_);rintro e w2 hi;obtain⟨i,rfl,hi2⟩:=hi.shape;have HI:=hid hi2;clear hi hi2)
   go_ret;exact HI.out.imp λ_ _ h=>h.1
def nmAt (rs:List RuleS) (k:Nat):ByteArray:=(rs[k]?.map (·.name)).getD ⟨#[]⟩
def Zet (rs:List RuleS):Int×ByteArray:=
 match rs.find? (λr=> !decide (Zbip r=0))with
 | some r=>(Zbip r,r.name)
 | none=>if 40<rs.length then(4,⟨#[]⟩)else
  match (List.range rs.length).find? (takP rs)with
  | some k=>(2,nmAt rs k)
  | none=>match (List.range rs.length).find? (astP rs)with
   | some k=>(2,nmAt rs k)
   | none=>(0,⟨#[]⟩)
theorem IdxPost.find {n:Nat} {p:Nat->Bool} {J:World->Prop} {e:Ending} {w':World} (h:IdxPost n p (λ_=>J) e w'):J w'/\(((List.range n).find? p=none/\e = .returned (.int .i64 (-1)))∨∃k,(List.range n).find? p=some k/\k<n/\e = .returned (.int .i64 (k:Int))):=by
 obtain⟨k,h1,h2,⟨h3,h4,h5⟩|⟨h3,h4,h5,h6⟩⟩:=h
 ·refine⟨h5,.inl ⟨?_,h4⟩⟩
  rw[List.find?_eq_none];intro x hx;rw[h2 x (by rw[h3];exact List.mem_range.1 hx)]
  decide
 ·refine⟨h6,.inr ⟨k,?_,h3,h5⟩⟩
  rw[List.find?_range_eq_some];refine⟨h4,List.mem_range.2 h3,λj hj=>?_⟩;rw[h2 j hj];rfl
theorem Zbjt {rs:List RuleS} {k:Nat} {r:RuleS} (h:∀(j:Nat) x,j<k->rs[j]? =some x->Zbip x=0) (hr:rs[k]? =some r) (hne:¬Zbip r=0):rs.find? (λr=> !decide (Zbip r=0))=some r:=by
 obtain⟨hk,e⟩:=List.getElem?_eq_some_iff.1 hr;rw[List.find?_eq_some_iff_getElem];refine⟨by simp[hne],k,hk,e,λj hj=>?_⟩;have:=h j _ hj (List.getElem?_eq_getElem (by omega));simp[this]
theorem Zbju {rs:List RuleS} (h:∀(j:Nat) x,j<rs.length->rs[j]? =some x->Zbip x=0):rs.find? (λr=> !decide (Zbip r=0))=none:=by
 rw[List.find?_eq_none];intro x hx;obtain⟨j,hj,e⟩:=List.getElem_of_mem hx;have:=h j x hj (by rw[List.getElem?_eq_getElem hj,e]);simp[this]
set_option maxHeartbeats 4000000
set_option maxRecDepth 100000
theorem Zeu (v:Value) (rs:List RuleS) (w:World) (hv:RulesI w v rs) (hs:∀r∈rs,SmallR r 1048576) (hn:rs.length<=1048576) (hm:MayW w):
  Calls prog 87 #[v] w λe w'=>e = .returned (.tuple #[.int .i64 (Zet rs).1,.string (Zet rs).2])/\Below w.heap.size w w':=by
 have mixed:prog.follows .mixedOrders=true:=by kernel_rfl
 have cT:=λW (h:Below w.heap.size w W)=>Zbri v rs W (hv.below h) hs hn
 have cS:=λW (h:Below w.heap.size w W)=>Zdu v rs W (hv.below h) hs hn
 obtain⟨va,vc,rfl,hvl,hvm⟩:=Zbjn hv;obtain⟨AN,hAN⟩:∃AN,Zet rs=AN:=⟨_,rfl⟩;rw[hAN];unfold Zet at hAN;have HV:=hid hv;have HS:=hid hs;have HM:=hid hm;have CT:=hid cT;have CS:=hid cS;have HAN:=hid hAN;have HR:Hid (Below w.heap.size w w):=hid (Below.refl _ _);unfold maxLen at hvm;clear hv hs hm cT cS hAN
 go_enter func87,ntmps87
 go_wp2
 go_loopw [2,3,5,6,11,12,13,14,15,16,17,18,19,20,21,22] (λ_ _ _ _ iv _ _ _ _ _ _ _ _ _ _ _ wr=>∃k:Nat,k<=rs.length/\iv = .int .i64 (k:Int)/\(∀(j:Nat) x,j<k->rs[j]? =some x->Zbip x=0)/\Below w.heap.size w wr) (λ_ _ _ _ iv _ _ _ _ _ _ _ _ _ _ _ _=>rs.length-(intOf iv).toNat)
 case atStart=>exact⟨0,Nat.zero_le _,rfl,λj x hj=>absurd hj (Nat.not_lt_zero _),HR.out⟩
 case round=>
  obtain⟨k,hk,rfl,hno,hb⟩:=hrel;have HNO:=hid hno;have HB:=hid hb
  by_cases hlt:k<rs.length
  ·obtain⟨y,hy⟩:∃y,rs[k]? =some y:=⟨rs[k],List.getElem?_eq_getElem hlt⟩
   obtain⟨g,o,cap,a1,c1,a2,c2,a3,c3,a4,c4,e,hg,hri,hyc⟩:=Zbjm HV.out hy;obtain⟨e1,_,e3⟩:=Value.slice.inj e;subst e1 e3;obtain⟨e0,e1,e2,e3,e4⟩:=hyc wr hb;have hi1:(k:Int)<(rs.length:Int):=by omega
   have hi0:(0:Int)<=(k:Int):=by omega
   have HY:=hid hy;obtain⟨W1,hW1⟩:∃W,wr.alloc (.cells #[.string y.name,.slice a1 y.ins.length c1,.slice a2 y.outs.length c2,.slice a3 y.after.length c3,.slice a4 y.steps.length c4] 50)=W:=⟨_,rfl⟩;have hb1:Below wr.heap.size wr W1:=by rw[<-hW1];exact(Below.refl _ _).alloc (Nat.le_refl _) _
   have hb1':Below w.heap.size w W1:=hb.trans (hb1.mono hb.size);have cR:=Zir y a1 a2 a3 a4 c1 c2 c3 c4 W1 (hri.below hb1') (HS.out y (List.mem_of_getElem? hy)) (HM.out.below hb1');have hbx:∀W,Below W1.heap.size W1 W->W.heap[wr.heap.size]? =some (.cells #[.string y.name,.slice a1 y.ins.length c1,.slice a2 y.outs.length c2,.slice a3 y.after.length c3,.slice a4 y.steps.length c4] 50):=λW h=>(h.block _ (by rw[<-hW1];simp)).trans (by rw[<-hW1];exact alloc_at wr _)
   have CR:=hid cR;have HB1:=hid hb1';have HW1:=hid hW1;have HBX:=hid hbx;unfold Zbiz at CR;clear hno hb hy hyc hri hg hW1 hb1 hb1' cR hbx
   by_cases hz:Zbip y=0
   ·have HZ:=hid hz
    rw[hz]at CR;clear hz
    go_wp2_with (go_at_call 107;rw[HW1.out];(with_reducible refine CR.out.mono ?_);rintro e w2 ⟨rfl,hb2⟩;have HB2:=hid (HB1.out.trans (hb2.mono HB1.out.size));clear hb2)
    go_roundw
    case rel=>
     refine⟨k+1,by omega,by go_num,λj x hj hx=>?_,HB2.out⟩
     by_cases e:j=k
     ·subst e
      have:=HY.out;rw[hx]at this;obtain rfl:=Option.some.inj this;exact HZ.out
     ·exact HNO.out j x (by omega) hx
    case measure=>simp[intOf];omega
   ·have HZ:=hid hz
    obtain⟨c,hc⟩:∃c,Zbip y=c:=⟨_,rfl⟩;have HCC:=hid hc;rw[hc]at CR hz;clear hc
    go_wp2_with (go_at_call 107;rw[HW1.out];(with_reducible refine CR.out.mono ?_);rintro e w2 ⟨rfl,hb2⟩;have HB2:=hid (HB1.out.trans (hb2.mono HB1.out.size));obtain⟨d0,d1,d2,d3,d4,_⟩:=cells5 (HBX.out _ hb2);clear hb2)
    have HF:=hid (Zbjt HNO.out HY.out HZ.out)
    go_region
    go_wp2
    go_ret2
    have han:=HAN.out;rw[HF.out]at han;subst han;exact⟨by rw[<-HCC.out];rfl,HB2.out.drew⟩
  ·have hi1:¬(k:Int)<(rs.length:Int):=by omega
   obtain rfl:k=rs.length:=by omega
   have han:=HAN.out;rw[Zbju hno]at han;clear hno hb;have hl40:rs.length<=1048576:=hn
   by_cases h40:40<rs.length
   ·rw[if_pos h40]at han
    subst han;have h40i:(40:Int)<(rs.length:Int):=by omega
    go_wp2
    go_ret2
    exact⟨rfl,HB.out⟩
   ·rw[if_neg h40]at han
    have HAN2:=hid han;have h40i:¬(40:Int)<(rs.length:Int):=by omega
    clear han
    go_wp2_with fail
    refine(CT.out _ HB.out).mono ?_;intro e w2 hi;obtain⟨hb2,hcase⟩:=hi.find;have HB2:=hid (HB.out.trans (hb2.mono HB.out.size));clear hi hb2
    rcases hcase with⟨hfd,rfl⟩|⟨k1,hfd,hk1,rfl⟩
    rotate_left
    ·skip
     have han:=HAN2.out;rw[hfd]at han;subst han;obtain⟨y,hy⟩:∃y,rs[k1]? =some y:=⟨rs[k1],List.getElem?_eq_getElem hk1⟩;obtain⟨g,o,cap,a1,c1,a2,c2,a3,c3,a4,c4,e,hg,hri,hyc⟩:=Zbjm HV.out hy;obtain⟨e1,_,e3⟩:=Value.slice.inj e;subst e1 e3;have HNM:=hid (show nmAt rs k1=y.name by unfold nmAt;rw[hy];rfl);obtain⟨e0,e1,e2,e3,e4⟩:=hyc w2 HB2.out;have hi1':(k1:Int)<(rs.length:Int):=by omega
     have hi0':(0:Int)<=(k1:Int):=by omega
     clear hfd hy hri hyc hg
     go_wp2_with fail
     go_region
     go_wp2
     go_ret2
     exact⟨by rw[HNM.out];rfl,HB2.out.drew⟩
    ·have han:=HAN2.out
     rw[hfd]at han;have HAN2:=hid han;clear hfd han
     go_wp2_with fail
     refine(CS.out _ HB2.out).mono ?_;intro e w3 hi;obtain⟨hb3,hcase⟩:=hi.find;have HB3:=hid (HB2.out.trans (hb3.mono HB2.out.size));clear hi hb3
     rcases hcase with⟨hfd,rfl⟩|⟨k1,hfd,hk1,rfl⟩
     rotate_left
     ·skip
      have han:=HAN2.out;rw[hfd]at han;subst han;obtain⟨y,hy⟩:∃y,rs[k1]? =some y:=⟨rs[k1],List.getElem?_eq_getElem hk1⟩;obtain⟨g,o,cap,a1,c1,a2,c2,a3,c3,a4,c4,e,hg,hri,hyc⟩:=Zbjm HV.out hy;obtain⟨e1,_,e3⟩:=Value.slice.inj e;subst e1 e3;have HNM:=hid (show nmAt rs k1=y.name by unfold nmAt;rw[hy];rfl);obtain⟨e0,e1,e2,e3,e4⟩:=hyc w3 HB3.out;have hi1':(k1:Int)<(rs.length:Int):=by omega
      have hi0':(0:Int)<=(k1:Int):=by omega
      clear hfd hy hri hyc hg
      go_wp2_with fail
      go_region
      go_wp2
      go_ret2
      exact⟨by rw[HNM.out];rfl,HB3.out.drew⟩
     ·have han:=HAN2.out
      rw[hfd]at han;subst han;clear hfd;go_wp2
      go_ret2
      exact⟨rfl,HB3.out⟩
def Zar (v:Value) (w:World) (cy:List ByteArray):Prop:=∀W,Below w.heap.size w W->Calls prog 88 #[v] W λe w'=>∃u,e = .returned u/\IsStrs w' u cy/\Below W.heap.size W w'
def allB (rs:List RuleS) (cy:List ByteArray):Int×ByteArray:=if (Zet rs).1=0 then(match cy with | []=>(0,⟨#[]⟩)|x::_=>(3,x))else Zet rs
set_option maxHeartbeats 4000000
set_option maxRecDepth 100000
theorem Ziq (v:Value) (rs:List RuleS) (cy:List ByteArray) (w:World) (hv:RulesI w v rs) (hs:∀r∈rs,SmallR r 1048576) (hn:rs.length<=1048576) (hm:MayW w) (hF:(Zet rs).1=0->Zar v w cy) (hcn:cy.length<=1048576):
  Calls prog 52 #[v] w λe w'=>e = .returned (.tuple #[.int .i64 (allB rs cy).1,.string (allB rs cy).2])/\Below w.heap.size w w':=by
 have mixed:prog.follows .mixedOrders=true:=by kernel_rfl
 have CB:=hid (Zeu v rs w hv hs hn hm);have hF':∀c x,Zet rs=(c,x)->c=0->Zar v w cy:=λc x h1 h2=>hF (by rw[h1];exact h2)
 unfold allB;obtain⟨⟨c,x⟩,hb⟩:∃p,Zet rs=p:=⟨_,rfl⟩;have HF:=hid (hF' c x hb);rw[hb]at CB⊢;simp only at CB⊢;clear hv hs hm hF hF' hb
 by_cases hc:c=0
 ·subst hc
  rw[if_pos rfl]
  go_enter func52,ntmps52
  go_wp2_with fail
  refine CB.out.mono ?_;rintro e w2 ⟨rfl,hb2⟩;have HB2:=hid hb2;clear hb2
  go_wp2_with fail
  refine(HF.out (by trivial) _ HB2.out).mono ?_;rintro e w3 ⟨u,rfl,hu,hb3⟩;obtain⟨ua,uc,rfl,hul,hum,huc⟩:=Zua hu;have HB3:=hid (HB2.out.trans (hb3.mono HB2.out.size));unfold maxLen at hum;clear hu hb3
  cases cy with
  | nil=>
   simp only[List.length_nil]at hul⊢;clear huc;go_wp2
   go_ret2
   exact⟨rfl,HB3.out⟩
  | cons z r=>
   obtain⟨b,o,ea,hc0⟩:=huc 0 z rfl;subst ea;have c0:=hc0 w3 (Below.refl _ _);simp only[Nat.add_zero]at c0;have hpos:(0:Int)<((z::r).length:Int):=by simp<;>omega
   obtain⟨m,hmm⟩:∃m,(z::r).length=m:=⟨_,rfl⟩;rw[hmm]at hpos hul⊢;have hml:m<=1048576:=by rw[<-hmm];exact hcn
   clear huc hc0 hmm hcn
   go_wp2_with fail
   go_region
   go_wp2
   go_ret2
   exact⟨rfl,HB3.out.drew⟩
 ·rw[if_neg hc]
  go_enter func52,ntmps52
  go_wp2_with (go_at_call 87;(with_reducible refine CB.out.mono ?_);rintro e w2 ⟨rfl,hb2⟩;have HB2:=hid hb2;clear hb2)
  go_ret2
  exact⟨rfl,HB2.out⟩
end Go.Proofs.YtokogjhcidkckaaGreatDoor
