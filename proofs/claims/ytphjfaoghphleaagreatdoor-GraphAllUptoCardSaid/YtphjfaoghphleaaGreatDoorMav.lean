import Derived.Test.YtphjfaoghphleaaGreatDoorMau
set_option maxRecDepth 100000
set_option maxHeartbeats 4000000
namespace Go.Proofs.YtphjfaoghphleaaGreatDoor
open Go.Lib (hid)
open Go.Proofs.Tryz Go.RowKit Go.Shelf Go.Maps
def Zbck (l:List ByteArray):Bool:=decide ((addS [] l).length=l.length)
def Zbac (r:RuleS):Bool:=Zbck r.ins&&Zbck r.outs&&Zbck r.after && !inS (addS [] r.after) r.name&&Zpm r.outs (addS [] r.ins) [] r.steps
structure NamF (w:World) (n:Nat) (o:Obj) (S:List ByteArray) (W:World):Prop where
 box:W.heap[n]? =some o
 set:SetIs W (n+3) S
 size:n+4<=W.heap.size
 below:Below n w W
theorem NamF.alloc {w:World} {n:Nat} {o:Obj} {S:List ByteArray} {W:World} (h:NamF w n o S W) (o':Obj):NamF w n o S (W.alloc o'):=
 ⟨(Below.heap_alloc _ _ _ (by have:=h.size;omega)).trans h.box,h.set.heap (Below.heap_alloc _ _ _ (by have:=h.size;omega)),by rw[World.size_alloc];have:=h.size;omega,h.below.alloc (by have:=h.size;omega) _⟩
theorem NamF.later {w:World} {n:Nat} {o:Obj} {S:List ByteArray} {W W':World} (h:NamF w n o S W) (a:Below W.heap.size W W'):NamF w n o S W':=
 have b:=h.size
 ⟨(a.block _ (by omega)).trans h.box,h.set.heap (a.block _ (by omega)),by have:=a.size;omega,h.below.trans (a.mono (by omega))⟩
theorem NamF.grown {w:World} {n:Nat} {o:Obj} {S:List ByteArray} {W W':World} {b:Nat} (h:NamF w n o S W) (a:W.grownBy W' (some b)) (d:n<b) (c:b≠n+3):NamF w n o S W':=
 have f:=h.size
 ⟨(a.block _ (by omega) (λe=>by have:=Option.some.inj e;omega)).trans h.box,h.set.heap (a.block _ (by omega) (λe=>by have:=Option.some.inj e;omega)),by have:=a.size;omega,h.below.grown a (by omega) (λj e=>by cases e;omega)⟩
theorem Zbad (r:RuleS) (G H I M:Option Addr) (J K L O:Nat) (w:World) (hr:RuleI w [.string r.name,.slice G r.ins.length J,.slice H r.outs.length K,.slice I r.after.length L,.slice M r.steps.length O] r) (Q:SmallR r 1048576):
  Calls prog 146 #[.agg (Zbiz r G H I M J K L O)] w λe w'=>e = .returned (.bool (Zbac r))/\Below w.heap.size w w':=by
 have ae:=hr;obtain⟨vi,vo,vf,ap,qe,h1,h2,h3,h4⟩:=hr;simp only[List.cons.injEq,and_true,true_and]at qe;obtain⟨rfl,rfl,rfl,rfl⟩:=qe;obtain⟨n,x⟩:∃n,w.heap.size=n:=⟨_,rfl⟩;have mixed:prog.follows .mixedOrders=true:=by kernel_rfl
 have ao:=@run_makeMap prog;have aj:=Q.ins.1;have al:=Q.outs.1;have ai:=Q.after.1;have ak:=Q.name;have R:=λW (h:Below w.heap.size w W)=>Zbos r G H I M J K L O W (ae.below h) Q
 have Z:=Zblx Q.ins;have aa:=Zblx Q.outs;have Y:=Zblx Q.after;unfold Zbac;rw[x]at R⊢;obtain⟨p,insN,i,f,k⟩:=r;simp only[Zbiz]at h1 h2 h3 aj al ai ak R Z aa Y⊢;obtain⟨o,ho⟩:∃o:Obj,.cells #[.string p,.slice G insN.length J,.slice H i.length K,.slice I f.length L,.slice M k.length O] 50=o:=⟨_,rfl⟩;obtain⟨W4,t⟩:∃W,((((w.alloc (.cells #[.string p,.slice G insN.length J,.slice H i.length K,.slice I f.length L,.slice M k.length O] 50)).alloc (.map #[] 0)).alloc (.map #[] 0)).alloc (.map #[] 0))=W:=⟨_,rfl⟩;have am:W4.heap.size=n+4:=by rw[<-t];simp[x]
 have V:Below n w W4:=by rw[<-t,<-x];exact((((Below.refl _ _).alloc (Nat.le_refl _) _).alloc (by simp) _).alloc (by simp;omega) _).alloc (by simp;omega) _
 have af:W4.heap[n]? =some o:=by
  rw[<-t,Below.heap_alloc _ _ _ (by simp[x];omega),Below.heap_alloc _ _ _ (by simp[x];omega),Below.heap_alloc _ _ _ (by simp[x]),<-x,<-ho];exact alloc_at w _
 have ab:SetIs W4 (n+1) []:=by
  have:=Zbkr (w.alloc (.cells #[.string p,.slice G insN.length J,.slice H i.length K,.slice I f.length L,.slice M k.length O] 50));rw[World.size_alloc,x]at this;rw[<-t];exact this.heap ((Below.heap_alloc _ _ _ (by simp[x])).trans (Below.heap_alloc _ _ _ (by simp[x])))
 have ac:SetIs W4 (n+2) []:=by
  have:=Zbkr ((w.alloc (.cells #[.string p,.slice G insN.length J,.slice H i.length K,.slice I f.length L,.slice M k.length O] 50)).alloc (.map #[] 0));rw[World.size_alloc,World.size_alloc,x]at this;rw[<-t];exact this.heap (Below.heap_alloc _ _ _ (by simp[x]))
 have ad:SetIs W4 (n+3) []:=by
  have:=Zbkr (((w.alloc (.cells #[.string p,.slice G insN.length J,.slice H i.length K,.slice I f.length L,.slice M k.length O] 50)).alloc (.map #[] 0)).alloc (.map #[] 0));rw[World.size_alloc,World.size_alloc,World.size_alloc,x]at this;rw[<-t];exact this
 have X:NamF w n o [] W4:=⟨af,ad,by omega,V⟩;have P:∀(a:Option Addr) (l:List ByteArray) (c m:Nat),IsStrs w (.slice a l.length c) l->n<m->∀g o' c',l≠[]->Value.slice a l.length c = .slice (some ⟨g,o',none⟩) l.length c'->g≠m:=by
  intro a l c m h hm g o' c' hl e;obtain⟨g',o2,e',an,_⟩:=Ztz h hl;have e2:=e'.symm.trans (Value.slice.inj e).1
  cases e2
  omega
 have q1:Calls prog 169 #[.map (some (n+1)),.slice G insN.length J] W4 λe w'=>e = .returned (.bool (Zbck insN))/\NamF w n o [] w'/\SetIs w' (n+2) []:=
  (Zha (n+1) [] _ insN W4 ab (h1.below (by rw[x];exact V)) (P _ _ _ _ h1 (by omega)) (by simp;omega) Z).mono λe w' q=>⟨by rw[q.1,List.length_nil,Nat.zero_add];rfl,X.grown q.2.2.1 (by omega) (by omega),ac.heap (q.2.2.1.block _ (by omega) (λe=>by have:=Option.some.inj e;omega))⟩
 have q2:∀W,NamF w n o [] W->SetIs W (n+2) []->Calls prog 169 #[.map (some (n+2)),.slice H i.length K] W λe w'=>e = .returned (.bool (Zbck i))/\NamF w n o [] w':=λW v hS=>
  (Zha (n+2) [] _ i W hS (h2.below (by rw[x];exact v.below)) (P _ _ _ _ h2 (by omega)) (by simp;omega) aa).mono λe w' q=>⟨by rw[q.1,List.length_nil,Nat.zero_add];rfl,v.grown q.2.2.1 (by omega) (by omega)⟩
 have q3:∀W,NamF w n o [] W->Calls prog 169 #[.map (some (n+3)),.slice I f.length L] W λe w'=>e = .returned (.bool (Zbck f))/\NamF w n o (addS [] f) w':=λW v=>
  (Zha (n+3) [] _ f W v.set (h3.below (by rw[x];exact v.below)) (P _ _ _ _ h3 (by omega)) (by simp;omega) Y).mono λe w' q=>⟨by rw[q.1,List.length_nil,Nat.zero_add];rfl,
   ⟨(q.2.2.1.block _ (by have:=v.size;omega) (λe=>by have:=Option.some.inj e;omega)).trans v.box,q.2.1,by have:=q.2.2.1.size;have:=v.size;omega,v.below.grown q.2.2.1 (by have:=v.size;omega) (λj e=>by cases e;omega)⟩⟩
 have q4:∀W g,NamF w n o (addS [] f) W->W.heap[g]? =some (.cells #[.string p] 9)->Calls prog 171 #[.map (some (n+3)),.slice (some ⟨g,0,none⟩) 1 1] W λe w'=>e = .returned (.bool (inS (addS [] f) p))/\NamF w n o (addS [] f) w':=λW g v hg=>
  (Zhh (n+3) (addS [] f) _ [p] W v.set (Zub hg) (by intro z hz;simp at hz;subst hz;unfold maxLen;omega)).mono λe w' q=>⟨by rw[q.1];simp,v.later q.2⟩
 have q5:∀W,NamF w n o (addS [] f) W->Calls prog 212 #[.agg #[.string p,.slice G insN.length J,.slice H i.length K,.slice I f.length L,.slice M k.length O]] W λe w'=>e = .returned (.bool (Zpm i (addS [] insN) [] k))/\NamF w n o (addS [] f) w':=λW v=>(R W v.below).mono λe w' q=>⟨q.1,v.later q.2⟩
 obtain⟨b1,g1⟩:∃b,Zbck insN=b:=⟨_,rfl⟩;obtain⟨b2,g2⟩:∃b,Zbck i=b:=⟨_,rfl⟩;obtain⟨b3,g3⟩:∃b,Zbck f=b:=⟨_,rfl⟩;obtain⟨b4,g4⟩:∃b,inS (addS [] f) p=b:=⟨_,rfl⟩;obtain⟨b5,g5⟩:∃b,Zpm i (addS [] insN) [] k=b:=⟨_,rfl⟩;rw[g1]at q1;rw[g2]at q2;rw[g3]at q3;rw[g4]at q4;rw[g5]at q5;rw[g1,g2,g3,g4,g5];have Q1:=hid q1;have Q2:=hid q2;have Q3:=hid q3;have Q4:=hid q4;have Q5:=hid q5;have u:Hid (∀W S,NamF w n o S W->W.heap[n]? =some (.cells #[.string p,.slice G insN.length J,.slice H i.length K,.slice I f.length L,.slice M k.length O] 50)):=hid λW S h=>h.box.trans (by rw[<-ho])
 have ag:=hid X;have ah:=hid t;clear q1 q2 q3 q4 q5 X t g1 g2 g3 g4 g5 R h1 h2 h3 h4 ae Q P ab ac ad af V am Z aa Y ho
 go_enter func146,ntmps146
 go_wp2_with fail
 rw[ah.out];obtain⟨y,A,B,C,D,_⟩:=cells5 (u.out _ _ ag.out)
 cases b1
 ·skip
  go_wp2_with (first
   | (go_at_call 169;(with_reducible refine Q1.out.mono ?_);rintro e w5 ⟨rfl,d,s⟩;have U:=hid s;clear s;have E:=hid d;clear d;obtain⟨y,A,B,C,D,_⟩:=cells5 (u.out _ _ E.out)))
  go_ret;exact⟨by first|rfl|simp,E.out.below⟩
 cases b2
 ·skip
  go_wp2_with (first
   | (go_at_call 169;(with_reducible refine Q1.out.mono ?_);rintro e w5 ⟨rfl,d,s⟩;have U:=hid s;clear s;have E:=hid d;clear d;obtain⟨y,A,B,C,D,_⟩:=cells5 (u.out _ _ E.out))
   | (go_at_call 169;(with_reducible refine(Q2.out _ E.out U.out).mono ?_);rintro e w6 ⟨rfl,d⟩;have F:=hid d;clear d;obtain⟨y,A,B,C,D,_⟩:=cells5 (u.out _ _ F.out)))
  go_ret;exact⟨by first|rfl|simp,F.out.below⟩
 cases b3
 ·skip
  go_wp2_with (first
   | (go_at_call 169;(with_reducible refine Q1.out.mono ?_);rintro e w5 ⟨rfl,d,s⟩;have U:=hid s;clear s;have E:=hid d;clear d;obtain⟨y,A,B,C,D,_⟩:=cells5 (u.out _ _ E.out))
   | (go_at_call 169;(with_reducible refine(Q2.out _ E.out U.out).mono ?_);rintro e w6 ⟨rfl,d⟩;have F:=hid d;clear d;obtain⟨y,A,B,C,D,_⟩:=cells5 (u.out _ _ F.out))
   | (go_at_call 169;(with_reducible refine(Q3.out _ F.out).mono ?_);rintro e w7 ⟨rfl,d⟩;have T:=hid d;clear d;obtain⟨y,A,B,C,D,_⟩:=cells5 (u.out _ _ T.out)))
  go_ret;exact⟨by first|rfl|simp,T.out.below⟩
 cases b4
 rotate_left
 ·skip
  go_wp2_with (first
   | (go_at_call 169;(with_reducible refine Q1.out.mono ?_);rintro e w5 ⟨rfl,d,s⟩;have U:=hid s;clear s;have E:=hid d;clear d;obtain⟨y,A,B,C,D,_⟩:=cells5 (u.out _ _ E.out))
   | (go_at_call 169;(with_reducible refine(Q2.out _ E.out U.out).mono ?_);rintro e w6 ⟨rfl,d⟩;have F:=hid d;clear d;obtain⟨y,A,B,C,D,_⟩:=cells5 (u.out _ _ F.out))
   | (go_at_call 169;(with_reducible refine(Q3.out _ F.out).mono ?_);rintro e w7 ⟨rfl,d⟩;have T:=hid d;clear d;obtain⟨y,A,B,C,D,_⟩:=cells5 (u.out _ _ T.out))
   | (go_at_call 171;(with_reducible refine(Q4.out _ _ (T.out.alloc _) (alloc_at w7 _)).mono ?_);rintro e w8 ⟨rfl,d⟩;have N8:=hid d;clear d;obtain⟨y,A,B,C,D,_⟩:=cells5 (u.out _ _ N8.out)))
  go_ret;exact⟨by first|rfl|simp,N8.out.below⟩
 go_wp2_with (first
  | (go_at_call 169;(with_reducible refine Q1.out.mono ?_);rintro e w5 ⟨rfl,d,s⟩;have U:=hid s;clear s;have E:=hid d;clear d;obtain⟨y,A,B,C,D,_⟩:=cells5 (u.out _ _ E.out))
  | (go_at_call 169;(with_reducible refine(Q2.out _ E.out U.out).mono ?_);rintro e w6 ⟨rfl,d⟩;have F:=hid d;clear d;obtain⟨y,A,B,C,D,_⟩:=cells5 (u.out _ _ F.out))
  | (go_at_call 169;(with_reducible refine(Q3.out _ F.out).mono ?_);rintro e w7 ⟨rfl,d⟩;have T:=hid d;clear d;obtain⟨y,A,B,C,D,_⟩:=cells5 (u.out _ _ T.out))
  | (go_at_call 171;(with_reducible refine(Q4.out _ _ (T.out.alloc _) (alloc_at w7 _)).mono ?_);rintro e w8 ⟨rfl,d⟩;have N8:=hid d;clear d;obtain⟨y,A,B,C,D,_⟩:=cells5 (u.out _ _ N8.out))
  | (go_at_call 212;(with_reducible refine(Q5.out _ N8.out).mono ?_);rintro e w9 ⟨rfl,d⟩;have N9:=hid d;clear d;obtain⟨y,A,B,C,D,_⟩:=cells5 (u.out _ _ N9.out)))
 go_ret;exact⟨by first|rfl|simp,N9.out.below⟩
def Zbip (r:RuleS):Int:=if Zpo r=false then 1 else if Zbkx r=false then 4 else if Zbac r=false then 2 else 0
theorem Zir (r:RuleS) (x y z A:Option Addr) (B C D E:Nat) (w:World) (R:RuleI w [.string r.name,.slice x r.ins.length B,.slice y r.outs.length C,.slice z r.after.length D,.slice A r.steps.length E] r) (H:SmallR r 1048576) (V:MayW w):
  Calls prog 106 #[.agg (Zbiz r x y z A B C D E)] w λe w'=>e = .returned (.int .i64 (Zbip r))/\Below w.heap.size w w':=by
 have I:=λW (h:Below w.heap.size w W)=>Zpp r x y z A B C D E W (R.below h) H (V.below h)
 have J:=λW=>Zbky r x y z A B C D E W H
 have K:=λW (h:Below w.heap.size w W)=>Zbad r x y z A B C D E W (R.below h) H
 unfold Zbip;obtain⟨Y,O⟩:∃b,Zpo r=b:=⟨_,rfl⟩;obtain⟨Z,P⟩:∃b,Zbkx r=b:=⟨_,rfl⟩;obtain⟨b3,Q⟩:∃b,Zbac r=b:=⟨_,rfl⟩;rw[O]at I;rw[P]at J;rw[Q]at K;rw[O,P,Q];obtain⟨v,insN,m,j,n⟩:=r;simp only[Zbiz]at I J K⊢;have G:=hid I;have M:=hid J;have T:=hid K;obtain⟨W1,k⟩:∃W,w.alloc (.cells #[.string v,.slice x insN.length B,.slice y m.length C,.slice z j.length D,.slice A n.length E] 50)=W:=⟨_,rfl⟩;have F:Below w.heap.size w W1:=by rw[<-k];exact(Below.refl _ _).alloc (Nat.le_refl _) _
 have U:∀W,Below W1.heap.size W1 W->W.heap[w.heap.size]? =some (.cells #[.string v,.slice x insN.length B,.slice y m.length C,.slice z j.length D,.slice A n.length E] 50):=λW h=>(h.block _ (by rw[<-k];simp)).trans (by rw[<-k];exact alloc_at w _)
 have a:=hid F;have o:=hid U;have L:=hid k;clear I J K O P Q R H V F U k
 go_enter func106,ntmps106
 go_wp2_with fail
 rw[L.out];obtain⟨p,q,s,t,u,_⟩:=cells5 (o.out _ (Below.refl _ _))
 cases Y
 ·skip
  go_wp2_with (first
   | (go_at_call 144;(with_reducible refine(G.out _ a.out).mono ?_);rintro e S ⟨rfl,f⟩;have c:=hid ((Below.refl W1.heap.size W1).trans (f.mono (Below.refl W1.heap.size W1).size));clear f;obtain⟨p,q,s,t,u,_⟩:=cells5 (o.out _ c.out)))
  go_ret;exact⟨by first|rfl|simp,a.out.trans (c.out.mono a.out.size)⟩
 cases Z
 ·skip
  go_wp2_with (first
   | (go_at_call 144;(with_reducible refine(G.out _ a.out).mono ?_);rintro e S ⟨rfl,f⟩;have c:=hid ((Below.refl W1.heap.size W1).trans (f.mono (Below.refl W1.heap.size W1).size));clear f;obtain⟨p,q,s,t,u,_⟩:=cells5 (o.out _ c.out))
   | (go_at_call 145;(with_reducible refine(M.out _).mono ?_);rintro e X ⟨rfl,g⟩;have d:=hid (c.out.trans (g.mono c.out.size));clear g;obtain⟨p,q,s,t,u,_⟩:=cells5 (o.out _ d.out)))
  go_ret;exact⟨by first|rfl|simp,a.out.trans (d.out.mono a.out.size)⟩
 cases b3
 ·skip
  go_wp2_with (first
   | (go_at_call 144;(with_reducible refine(G.out _ a.out).mono ?_);rintro e S ⟨rfl,f⟩;have c:=hid ((Below.refl W1.heap.size W1).trans (f.mono (Below.refl W1.heap.size W1).size));clear f;obtain⟨p,q,s,t,u,_⟩:=cells5 (o.out _ c.out))
   | (go_at_call 145;(with_reducible refine(M.out _).mono ?_);rintro e X ⟨rfl,g⟩;have d:=hid (c.out.trans (g.mono c.out.size));clear g;obtain⟨p,q,s,t,u,_⟩:=cells5 (o.out _ d.out))
   | (go_at_call 146;(with_reducible refine(T.out _ (a.out.trans (d.out.mono a.out.size))).mono ?_);rintro e w4 ⟨rfl,l⟩;have i:=hid (d.out.trans (l.mono d.out.size));clear l;obtain⟨p,q,s,t,u,_⟩:=cells5 (o.out _ i.out)))
  go_ret;exact⟨by first|rfl|simp,a.out.trans (i.out.mono a.out.size)⟩
 go_wp2_with (first
  | (go_at_call 144;(with_reducible refine(G.out _ a.out).mono ?_);rintro e S ⟨rfl,f⟩;have c:=hid ((Below.refl W1.heap.size W1).trans (f.mono (Below.refl W1.heap.size W1).size));clear f;obtain⟨p,q,s,t,u,_⟩:=cells5 (o.out _ c.out))
  | (go_at_call 145;(with_reducible refine(M.out _).mono ?_);rintro e X ⟨rfl,g⟩;have d:=hid (c.out.trans (g.mono c.out.size));clear g;obtain⟨p,q,s,t,u,_⟩:=cells5 (o.out _ d.out))
  | (go_at_call 146;(with_reducible refine(T.out _ (a.out.trans (d.out.mono a.out.size))).mono ?_);rintro e w4 ⟨rfl,l⟩;have i:=hid (d.out.trans (l.mono d.out.size));clear l;obtain⟨p,q,s,t,u,_⟩:=cells5 (o.out _ i.out)))
 go_ret;exact⟨by first|rfl|simp,a.out.trans (i.out.mono a.out.size)⟩
def nmS (rs:List RuleS):List ByteArray:=rs.foldl (λL r=>addS L [r.name]) []
def foS (rs:List RuleS):List ByteArray:=rs.foldl (λL r=>addS L r.outs) []
def takB (R F:List ByteArray) (r:RuleS):Bool:=inS R r.name || !decide ((addS F r.outs).length=F.length+r.outs.length)
structure Tk (n:Nat) (R F:List ByteArray) (W:World):Prop where
 s0:SetIs W n R
 s1:SetIs W (n+1) F
 b2:Boxed W (n+2) 216 (.map (some n))
 b3:Boxed W (n+3) 216 (.map (some (n+1)))
 size:n+4<=W.heap.size
theorem Zbrh (r:RuleS) (a1 O a3 a4:Option Addr) (c1 P c3 c4:Nat) (n:Nat) (R F:List ByteArray) (w:World) (ho:IsStrs w (.slice O r.outs.length P) r.outs) (E:∀g o c,r.outs≠[]->Value.slice O r.outs.length P = .slice (some ⟨g,o,none⟩) r.outs.length c->g≠n+1/\g≠n) (X:SmallR r 1048576) (hT:Tk n R F w) (hR:R.length<=1048576) (hF:F.length<=1048576*1048576):
  Calls prog 168 #[.agg (Zbiz r a1 O a3 a4 c1 P c3 c4),.pointer (some ⟨n+2,0,none⟩),.pointer (some ⟨n+3,0,none⟩)] w λe w'=>e = .returned (.bool (takB R F r))/\Below n w w'/\(∀k,k<w.heap.size->k≠n->k≠n+1->w'.heap[k]? =w.heap[k]?)/\(takB R F r=false->Tk n (addS R [r.name]) (addS F r.outs) w'):=by
 obtain⟨s0,s1,x2,x3,Y⟩:=hT;have af:=X.name;have ag:=X.outs.1;have L:=Zblx X.outs;unfold takB;obtain⟨f,insN,d,v,A⟩:=r;simp only[Zbiz]at ho E af ag L⊢;obtain⟨o,V⟩:∃o:Obj,.cells #[.string f,.slice a1 insN.length c1,.slice O d.length P,.slice a3 v.length c3,.slice a4 A.length c4] 50=o:=⟨_,rfl⟩;obtain⟨W2,p⟩:∃W,(w.alloc o).alloc (.cells #[.string f] 9)=W:=⟨_,rfl⟩;have G:W2.heap.size=w.heap.size+2:=by rw[<-p];simp
 have D:Below w.heap.size w W2:=by rw[<-p];exact((Below.refl _ _).alloc (Nat.le_refl _) _).alloc (by simp) _
 have S:W2.heap[w.heap.size]? =some o:=by rw[<-p,Below.heap_alloc _ _ _ (by simp)];exact alloc_at w _
 have T:W2.heap[w.heap.size+1]? =some (.cells #[.string f] 9):=by
  have:=alloc_at (w.alloc o) (.cells #[.string f] 9);rw[World.size_alloc]at this;rw[<-p];exact this
 have q1:Calls prog 169 #[.map (some n),.slice (some ⟨w.heap.size+1,0,none⟩) 1 1] W2 λe w'=>e = .returned (.bool (!inS R f))/\SetIs w' n (addS R [f])/\W2.grownBy w' (some n)/\w'.heap.size=W2.heap.size:=
  (Zha n R _ [f] W2 (s0.below D s0.lt) (Zub T) (λg' o' c' _ e=>by cases (Value.slice.inj e).1;omega) (by simp;omega) (by intro z Y;simp at Y;subst Y;unfold maxLen;omega)).mono λe w' q=>⟨by rw[q.1,List.length_singleton,Zcr],q.2⟩
 have Z:∀H,W2.grownBy H (some n)->Calls prog 169 #[.map (some (n+1)),.slice O d.length P] H (Zae H (n+1) F d):=λH hg=>by
  have t:∀k,k<w.heap.size->k≠n->H.heap[k]? =w.heap[k]?:=λk t s=>(hg.block k (by omega) (λe=>s (Option.some.inj e))).trans (D.block k t)
  refine Zha (n+1) F _ d H (s1.heap (t _ (by omega) (by omega))) ?_ (λg o c s e=>(E g o c s e).1) (by omega) L;obtain⟨oa,oc,e,l1,l2,l3⟩:=ho;refine⟨oa,oc,e,l1,l2,λs=>?_⟩;obtain⟨b,of,rfl,ad,ae⟩:=l3 s;exact⟨b,of,rfl,by have:=hg.size;omega,λj x hx=>(World.cell?_of_block (a:=⟨b,of+j,none⟩) (t b ad (E b of oc s e).2)).trans (ae j x hx)⟩
 obtain⟨bR,K⟩:∃b,inS R f=b:=⟨_,rfl⟩;obtain⟨bF,J⟩:∃b,decide ((addS F d).length=F.length+d.length)=b:=⟨_,rfl⟩;unfold Zae at Z;rw[K]at q1;rw[J]at Z;rw[K,J];have e2:=(show Boxed (w.alloc (.cells #[.string f,.slice a1 insN.length c1,.slice O d.length P,.slice a3 v.length c3,.slice a4 A.length c4] 50)) (n+2) _ _ from(Below.heap_alloc _ _ _ (by omega)).trans x2).cell;have Q1:=hid q1;have Q2:=hid Z;have Q:=hid p;have u:=hid D;have aa:=hid S;have C:=hid G;have HZ:=hid Y;have X2:=hid x2;have X3:=hid x3;have I:=hid V;have S1:=hid s1;clear q1 Z p D S G T s0 x2 x3 ho E X L K J V s1
 go_enter func168,ntmps168
 cases bR
 rotate_left
 ·go_wp2_with (go_at_call 169;rw[I.out,Q.out];(with_reducible refine Q1.out.mono ?_);rintro e H ⟨rfl,i,m,M⟩;have l:=hid m;clear i m M)
  go_ret;have G:=C.out;exact⟨by first|rfl|simp,(u.out.mono (by omega)).grown l.out (by omega) (λj e=>by cases e;omega),λk t h0 h1=>(l.out.block k (by omega) (λe=>h0 (Option.some.inj e))).trans (u.out.block k t),λh=>by simp at h⟩
 ·go_wp2_with (first
   | (go_at_call 169;rw[I.out,Q.out];(with_reducible refine Q1.out.mono ?_);rintro e H ⟨rfl,i,m,M⟩;have l:=hid m;have ab:=hid i;have ai:=(show Boxed H (n+3) _ _ from(m.block _ (by rw[C.out];omega) (λe=>by have:=Option.some.inj e;omega)).trans ((u.out.block _ (by omega)).trans X3.out)).cell;obtain⟨d0,d1,d2,d3,d4,_⟩:=cells5 ((m.block _ (by rw[C.out];omega) (λe=>by have:=Option.some.inj e;omega)).trans (aa.out.trans (by rw[<-I.out])));clear i m M)
   | (go_at_call 169;(with_reducible refine(Q2.out _ l.out).mono ?_);rintro e w4 ⟨rfl,y,U,ah⟩;have B:=hid U;have ac:=hid y;clear y U ah))
  go_ret;have G:=C.out;have aj:=l.out.size;have ak:=B.out.size;have t:∀k,k<w.heap.size->k≠n->k≠n+1->w4.heap[k]? =w.heap[k]?:=λk t h0 h1=>(B.out.block k (by omega) (λe=>h1 (Option.some.inj e))).trans ((l.out.block k (by omega) (λe=>h0 (Option.some.inj e))).trans (u.out.block k t))
  exact⟨by first|rfl|simp,((u.out.mono (by omega)).grown l.out (by omega) (λj e=>by cases e;omega)).grown B.out (by omega) (λj e=>by cases e;omega),t,λh=>⟨ab.out.heap (B.out.block _ (by omega) (λe=>by have:=Option.some.inj e;omega)),ac.out,(t _ (by omega) (by omega) (by omega)).trans X2.out,(t _ (by omega) (by omega) (by omega)).trans X3.out,by omega⟩⟩
theorem IdxPost.shape {n:Nat} {p:Nat->Bool} {J:Nat->World->Prop} {e:Ending} {w':World} (h:IdxPost n p J e w'):∃i:Int,e = .returned (.int .i64 i)/\IdxPost n p J (.returned (.int .i64 i)) w':=by
 obtain⟨k,c,d,⟨a,rfl,b⟩|⟨a,b,rfl,f⟩⟩:=id h
 all_goals (grind)
theorem IdxPost.imp {n:Nat} {p:Nat->Bool} {J d:Nat->World->Prop} {e:Ending} {w':World} (h:IdxPost n p J e w') (i:∀k W,J k W->d k W):IdxPost n p d e w':=by
 obtain⟨k,f,g,⟨a,b,c⟩|⟨a,b,c,j⟩⟩:=h
 ·exact⟨k,f,g,.inl ⟨a,b,i _ _ c⟩⟩
 ·exact⟨k,f,g,.inr ⟨a,b,c,i _ _ j⟩⟩
theorem idxR (h:Nat) (g:Array Value) (L:∀m w,(callFunc h m).run prog w = .ok (.enter h m) w) (w0:World) (v:Value) (rs:List RuleS) (X:RulesI w0 v rs) (p:Nat->Bool) (J:Nat->World->Prop) (w:World) (Q:∀k W,J k W->Below w0.heap.size w0 W)
  (hf:∀(k:Nat) r,rs[k]? =some r->∀(t y z A:Option Addr) (B C D E:Nat) W,RuleI w0 [.string r.name,.slice t r.ins.length B,.slice y r.outs.length C,.slice z r.after.length D,.slice A r.steps.length E] r->(∀j,j<k->p j=false)->J k W->Calls prog h (#[.agg (Zbiz r t y z A B C D E)]++g) W λe I=>e = .returned (.bool (p k))/\J (k+1) I) (h0:J 0 w):
  Calls prog 167 #[v,.func (.func h) #[] g] w (IdxPost rs.length p J):=by
 obtain⟨d,q,f⟩:=X;obtain⟨a,c,rfl,M,O,P⟩:=id q;have G:∀(k:Nat) x,rs[k]? =some x->∃r,d[k]? =some r/\RuleI w0 r x:=by
  intro k x hx;have l:k<d.length:=by rw[f.1];exact(List.getElem?_eq_some_iff.1 hx).1
  exact⟨d[k],List.getElem?_eq_getElem l,f.2 k _ x (List.getElem?_eq_getElem l) hx⟩
 have hx:∀(k:Nat),k<d.length->∃x,rs[k]? =some x:=λk l=>⟨rs[k]'(by rw[<-f.1];exact l),List.getElem?_eq_getElem _⟩
 rw[<-f.1];refine Zsg h g L a d.length c (Nat.le_trans M O) (λk=>(d.getD k []).getD 0 undef) (λk=>(d.getD k []).getD 1 undef) (λk=>(d.getD k []).getD 2 undef) (λk=>(d.getD k []).getD 3 undef) (λk=>(d.getD k []).getD 4 undef) p J w (λk W l F=>?_) (λk W l U F=>?_) h0
 ·obtain⟨x,n⟩:=hx k l
  obtain⟨r,H,Z,vo,Y,vs,K,_⟩:=G k x n;obtain⟨b,o,rfl,R,S⟩:=P (by rintro rfl;simp at l);have T:∀(i:Nat) u,r[i]? =some u->W.cell? ⟨b,o+k*5+i,none⟩=some u:=λi u V=>((Q k W F).cell (p:=⟨b,_,none⟩) R).trans (S k r H i u V)
  grind
 ·obtain⟨x,n⟩:=hx k l
  obtain⟨r,H,s⟩:=G k x n;obtain⟨Z,vo,Y,vs,K,g1,g2,g3,g4⟩:=id s
  grind [Zue,Zbov]
theorem Zbis {w:World} {r:RuleS} {c d a e:Option Addr} {f g b h:Nat} (i:RuleI w [.string r.name,.slice c r.ins.length f,.slice d r.outs.length g,.slice a r.after.length b,.slice e r.steps.length h] r):IsStrs w (.slice a r.after.length b) r.after:=by
 obtain⟨o,p,n,s,q,j,k,l,m⟩:=i
 grind
theorem Zbba:∀(rs:List RuleS),(nmS rs).length<=rs.length:=by
 have h:∀(rs:List RuleS) (L:List ByteArray),(rs.foldl (λL r=>addS L [r.name]) L).length<=L.length+rs.length:=by
  intro rs
  induction rs with
  | nil=>grind
  | cons r rs a=>grind [Zco]
 intro rs;have:=h rs [];simpa[nmS]using this
theorem Zpj:∀(rs:List RuleS),(∀r∈rs,r.outs.length<=1048576)->(foS rs).length<=rs.length*1048576:=by
 have h:∀(rs:List RuleS) (L:List ByteArray),(∀r∈rs,r.outs.length<=1048576)->(rs.foldl (λL r=>addS L r.outs) L).length<=L.length+rs.length*1048576:=by
  intro rs
  induction rs with
  | nil=>grind
  | cons r rs b=>grind [Zco]
 intro rs a;have:=h rs [] a;simpa[foS]using this
theorem Zbbc {rs:List RuleS} {k:Nat} {r:RuleS} (h:rs[k]? =some r):nmS (rs.take (k+1))=addS (nmS (rs.take k)) [r.name]:=by
 unfold nmS;rw[List.take_add_one,h,List.foldl_append];rfl
theorem Zpl {rs:List RuleS} {k:Nat} {r:RuleS} (h:rs[k]? =some r):foS (rs.take (k+1))=addS (foS (rs.take k)) r.outs:=by
 unfold foS;rw[List.take_add_one,h,List.foldl_append];rfl
def takP (rs:List RuleS) (k:Nat):Bool:=(rs[k]?.map (takB (nmS (rs.take k)) (foS (rs.take k)))).getD false
def astP (rs:List RuleS) (k:Nat):Bool:=(rs[k]?.map λr=> !r.after.all (inS (nmS rs))).getD false
theorem Zbri (v:Value) (rs:List RuleS) (w:World) (L:RulesI w v rs) (G:∀r∈rs,SmallR r 1048576) (hn:rs.length<=1048576):
  Calls prog 120 #[v] w (IdxPost rs.length (takP rs) (λ_ W=>Below w.heap.size w W)):=by
 obtain⟨n,a⟩:∃n,w.heap.size=n:=⟨_,rfl⟩;have mixed:prog.follows .mixedOrders=true:=by kernel_rfl
 have ad:=@run_makeMap prog;have ac:∀(J:Fn) (first d:Array Value) (w:World),(Instr.makeFunc J first d).run prog w = .ok (.func J first d) w:=λ_ _ _ _=>rfl
 have I:∀W,Tk n [] [] W->Below n w W->Calls prog 167 #[v,.func (.func 168) #[] #[.pointer (some ⟨n+2,0,none⟩),.pointer (some ⟨n+3,0,none⟩)]] W (IdxPost rs.length (takP rs) (λk b=>Below n w b/\((∀j,j<k->takP rs j=false)->Tk n (nmS (rs.take k)) (foS (rs.take k)) b))):=λW t u=>
  idxR 168 _ (enters_of func168 (by kernel_rfl) rfl) w v rs L (takP rs) _ W (λk b h=>by rw[a];exact h.1) (λk r s R S T U V X Y Z b F E y=>by
   have z:=y.2 E;have ab:k<rs.length:=(List.getElem?_eq_some_iff.1 s).1;have H:=G r (List.mem_of_getElem? s);have C:=Zbba (rs.take k);have l:=Zpj (rs.take k) (λx hx=>(G x (List.mem_of_mem_take hx)).outs.1);rw[List.length_take]at C l;have p:=Zbiv F;have q:takP rs k=takB (nmS (rs.take k)) (foS (rs.take k)) r:=by unfold takP;rw[s];rfl
   refine(Zbrh r R S T U V X Y Z n _ _ b (p.below (by rw[a];exact y.1)) (λg o c D e=>by
    obtain⟨g',o',e',aa,_⟩:=Ztz p D;have e2:=e'.symm.trans (Value.slice.inj e).1
    cases e2
    omega) H z (by omega) (Nat.le_trans l (Nat.mul_le_mul_right _ (by omega)))).mono ?_
   rintro e W2 ⟨rfl,A,_,B⟩;refine⟨by rw[q],y.1.trans A,λm=>?_⟩;rw[Zbbc s,Zpl s];exact B (by rw[<-q];exact m k (Nat.lt_succ_self k))) ⟨u,λ_=>t⟩
 have O:=hid I;rw[a];have Q:=hid a;clear I L G
 go_enter func120,ntmps120
 have u:Below n w ((((w.alloc (.map #[] 0)).alloc (.map #[] 0)).alloc (.cells #[.map (some n)] 216)).alloc (.cells #[.map (some (n+1))] 216)):=by
  rw[<-a];exact((((Below.refl _ _).alloc (Nat.le_refl _) _).alloc (by simp) _).alloc (by simp<;>omega) _).alloc (by simp<;>omega) _
 have t:Tk n [] [] ((((w.alloc (.map #[] 0)).alloc (.map #[] 0)).alloc (.cells #[.map (some n)] 216)).alloc (.cells #[.map (some (n+1))] 216)):=by
  refine⟨?_,?_,?_,?_,by simp[a]⟩
  ·have:=Zbkr w
   rw[a]at this;exact this.heap ((Below.heap_alloc _ _ _ (by simp[a]<;>omega)).trans ((Below.heap_alloc _ _ _ (by simp[a]<;>omega)).trans (Below.heap_alloc _ _ _ (by simp[a]))))
  ·have:=Zbkr (w.alloc (.map #[] 0))
   rw[World.size_alloc,a]at this;exact this.heap ((Below.heap_alloc _ _ _ (by simp[a]<;>omega)).trans (Below.heap_alloc _ _ _ (by simp[a])))
  ·have:=Boxed.new ((w.alloc (.map #[] 0)).alloc (.map #[] 0)) 216 (.map (some n))
   rw[World.size_alloc,World.size_alloc,a]at this;exact(Below.heap_alloc _ _ _ (by simp[a])).trans this
  ·have:=Boxed.new (((w.alloc (.map #[] 0)).alloc (.map #[] 0)).alloc (.cells #[.map (some n)] 216)) 216 (.map (some (n+1)))
   rw[World.size_alloc,World.size_alloc,World.size_alloc,a]at this;exact this
 have M:=hid (O.out _ t u);clear t u hn
 go_wp2_with (go_at_call 167;(with_reducible refine M.out.mono ?_);rintro e w2 K;obtain⟨i,rfl,f⟩:=K.shape;have P:=hid f;clear K f)
 go_ret;exact P.out.imp λ_ _ h=>h.1
theorem Zdt (r:RuleS) (o p k q:Option Addr) (s t l u:Nat) (n:Nat) (L:List ByteArray) (w:World) (B:IsStrs w (.slice k r.after.length l) r.after) (D:SmallR r 1048576) (y:SetIs w n L) (x:Boxed w (n+1) 216 (.map (some n))):
  Calls prog 170 #[.agg (Zbiz r o p k q s t l u),.pointer (some ⟨n+1,0,none⟩)] w λe w'=>e = .returned (.bool (!r.after.all (inS L)))/\Below w.heap.size w w':=by
 have i:=Zblx D.after;obtain⟨g,insN,c,a,d⟩:=r;simp only[Zbiz]at B i⊢;have A:=x.lt;obtain⟨W1,h⟩:∃W,w.alloc (.cells #[.string g,.slice o insN.length s,.slice p c.length t,.slice k a.length l,.slice q d.length u] 50)=W:=⟨_,rfl⟩;have f:Below w.heap.size w W1:=by rw[<-h];exact(Below.refl _ _).alloc (Nat.le_refl _) _
 have F:=(show Boxed (w.alloc (.cells #[.string g,.slice o insN.length s,.slice p c.length t,.slice k a.length l,.slice q d.length u] 50)) (n+1) _ _ from(Below.heap_alloc _ _ _ A).trans x).cell;have v:=Zhh n L _ a W1 (y.below f y.lt) (B.below f) i;obtain⟨b,C⟩:∃b,a.all (inS L)=b:=⟨_,rfl⟩;rw[C]at v⊢;have E:=hid v;have j:=hid f;have m:=hid h;clear v f h B D y x C i
 go_enter func170,ntmps170
 go_wp2_with (go_at_call 171;rw[m.out];(with_reducible refine E.out.mono ?_);rintro e G ⟨rfl,z⟩)
 go_ret;exact⟨rfl,j.out.trans (z.mono j.out.size)⟩
theorem Zdu (v:Value) (rs:List RuleS) (w:World) (hv:RulesI w v rs) (hs:∀r∈rs,SmallR r 1048576) (hn:rs.length<=1048576):
  Calls prog 121 #[v] w (IdxPost rs.length (astP rs) (λ_ W=>Below w.heap.size w W)):=by
 obtain⟨n,a⟩:∃n,w.heap.size=n:=⟨_,rfl⟩;have mixed:prog.follows .mixedOrders=true:=by kernel_rfl
 have ap:=@run_makeMap prog;have ao:∀(fn:Fn) (first p:Array Value) (w:World),(Instr.makeFunc fn first p).run prog w = .ok (.func fn first p) w:=λ_ _ _ _=>rfl
 have cI:∀W,SetIs W n (nmS rs)->Boxed W (n+1) 216 (.map (some n))->Below n w W->Calls prog 167 #[v,.func (.func 170) #[] #[.pointer (some ⟨n+1,0,none⟩)]] W (IdxPost rs.length (astP rs) (λ_ l=>Below n w l/\SetIs l n (nmS rs)/\Boxed l (n+1) 216 (.map (some n)))):=λW t q u=>
  idxR 170 _ (enters_of func170 (by kernel_rfl) rfl) w v rs hv (astP rs) _ W (λk l h=>by rw[a];exact h.1) (λk r hr T U V X Y Z c3 c4 l A aq hJ=>by
   obtain⟨x,b,s⟩:=hJ;have al:astP rs k = !r.after.all (inS (nmS rs)):=by unfold astP;rw[hr];rfl
   refine(Zdt r T U V X Y Z c3 c4 n _ l ((Zbis A).below (by rw[a];exact x)) (hs r (List.mem_of_getElem? hr)) b s).mono ?_;rintro e W2 ⟨rfl,c⟩;exact⟨by rw[al],x.trans (c.mono (by have:=x.size;omega)),b.below c b.lt,(c.block _ s.lt).trans s⟩) ⟨u,t,q⟩
 have CI:=hid cI;obtain⟨va,vc,rfl,ar,am⟩:=Zbjn hv;rw[a];have D:=hid a;have HV:=hid hv;have HS:=hid hs;unfold maxLen at am;clear cI hv hs
 go_enter func121,ntmps121
 have c:Below n w ((w.alloc (.map #[] 0)).alloc (.cells #[.map (some n)] 216)):=by
  rw[<-a];exact((Below.refl _ _).alloc (Nat.le_refl _) _).alloc (by simp) _
 have H:SetIs ((w.alloc (.map #[] 0)).alloc (.cells #[.map (some n)] 216)) n []:=by
  have:=Zbkr w;rw[a]at this;exact this.heap (Below.heap_alloc _ _ _ (by simp[a]))
 have E:Boxed ((w.alloc (.map #[] 0)).alloc (.cells #[.map (some n)] 216)) (n+1) 216 (.map (some n)):=by
  have:=Boxed.new (w.alloc (.map #[] 0)) 216 (.map (some n));rw[World.size_alloc,a]at this;exact this
 have aa:=hid c;have ad:=hid H;have B:=hid E;clear c H E;go_wp2
 go_loopw [5,9,10,11,12,13,14,15,16,17,18] (λ_ iv _ _ _ _ _ _ _ _ _ wr=>∃k,k<=rs.length/\iv = .int .i64 (k:Int)/\SetIs wr n (nmS (rs.take k))/\Boxed wr (n+1) 216 (.map (some n))/\Below n w wr/\n+2<=wr.heap.size) (λ_ iv _ _ _ _ _ _ _ _ _ _=>rs.length-(intOf iv).toNat)
 case atStart=>exact⟨0,Nat.zero_le _,rfl,ad.out,B.out,aa.out,by simp[D.out]⟩
 case round=>
  obtain⟨k,hk,rfl,t,q,u,R⟩:=hrel
  by_cases aj:k<rs.length
  ·obtain⟨y,hy⟩:∃y,rs[k]? =some y:=⟨rs[k],List.getElem?_eq_getElem aj⟩
   have I:Below w.heap.size w wr:=by rw[D.out];exact u
   obtain⟨g,o,p,T,Y,U,Z,V,c3,X,c4,e,hg,A,Q⟩:=Zbjm HV.out hy;obtain⟨e1,_,e3⟩:=Value.slice.inj e;subst e1 e3;obtain⟨e0,e1,e2,e3,e4⟩:=Q wr I;have ai:(k:Int)<(rs.length:Int):=by omega
   have an:(0:Int)<=(k:Int):=by omega
   have ak:=(HS.out y (List.mem_of_getElem? hy)).name;have M:=Zbba (rs.take k);rw[List.length_take]at M;obtain⟨W1,m⟩:∃W,wr.alloc (.cells #[.string y.name,.slice T y.ins.length Y,.slice U y.outs.length Z,.slice V y.after.length c3,.slice X y.steps.length c4] 50)=W:=⟨_,rfl⟩;have d:Below wr.heap.size wr W1:=by rw[<-m];exact(Below.refl _ _).alloc (Nat.le_refl _) _
   have P:W1.heap.size=wr.heap.size+1:=by rw[<-m];simp
   have eb:=(show Boxed (wr.alloc (.cells #[.string y.name,.slice T y.ins.length Y,.slice U y.outs.length Z,.slice V y.after.length c3,.slice X y.steps.length c4] 50)) (n+1) _ _ from(Below.heap_alloc _ _ _ (by omega)).trans q).cell;have G:SetIs (W1.alloc (.cells #[.string y.name] 9)) n (nmS (rs.take k)):=t.heap ((Below.heap_alloc _ _ _ (by omega)).trans (d.block _ (by omega)));have cA:=Zha n _ _ [y.name] (W1.alloc (.cells #[.string y.name] 9)) G (Zub (alloc_at W1 _)) (λg' o' c' _ e=>by cases (Value.slice.inj e).1;omega) (by simp;omega) (by intro z R;simp at R;subst R;unfold maxLen;omega);have J:Below n w (W1.alloc (.cells #[.string y.name] 9)):=u.trans ((d.alloc d.size _).mono (by omega));have O:=Zbbc hy;have F:=λl (h:(W1.alloc (.cells #[.string y.name] 9)).grownBy l (some n))=>show Boxed l (n+1) _ _ from(h.block _ (by rw[World.size_alloc];omega) (λe=>by have:=Option.some.inj e;omega)).trans ((Below.heap_alloc _ _ _ (by omega)).trans ((d.block _ (by omega)).trans q))
   unfold Zae at cA;rw[<-O,P]at cA;have CA:=hid cA;have ac:=hid J;have af:=hid m;have ab:=hid F;have ag:Hid (n+3<=W1.heap.size):=hid (by omega);clear cA J m F O G d P t q u R hy Q A I hg ak M
   go_wp2_with (go_at_call 169;rw[af.out];(with_reducible refine CA.out.mono ?_);rintro e w3 ⟨rfl,f,K,S⟩;have ae:=hid f;have C:=hid K;have ah:=hid S;clear f K S)
   go_roundw
   case rel=>
    have au:=ag.out;exact⟨k+1,by omega,by go_num,ae.out,ab.out _ C.out,ac.out.grown C.out (by rw[World.size_alloc];omega) (λj e=>by cases e;omega),by rw[ah.out,World.size_alloc];omega⟩
   case measure=>simp[intOf];omega
  ·have ai:¬(k:Int)<(rs.length:Int):=by omega
   have b:SetIs wr n (nmS rs):=by rw[List.take_of_length_le (by omega)]at t;exact t
   have C1:=hid (CI.out wr b q u);clear t q u R b
   go_wp2_with (go_at_call 167;(with_reducible refine C1.out.mono ?_);rintro e w2 hi;obtain⟨i,rfl,L⟩:=hi.shape;have HI:=hid L;clear hi L)
   go_ret;exact HI.out.imp λ_ _ h=>h.1
def nmAt (rs:List RuleS) (k:Nat):ByteArray:=(rs[k]?.map (·.name)).getD ⟨#[]⟩
def Zet (rs:List RuleS):Int×ByteArray:=
 match rs.find? (λr=> !decide (Zbip r=0))with
 | some r=>(Zbip r,r.name)
 | none=>if 40<rs.length then(4,⟨#[]⟩)else
  match (List.range rs.length).find? (takP rs)with
  | some k=>(2,nmAt rs k)
  | none=>match (List.range rs.length).find? (astP rs)with
   | some k=>(2,nmAt rs k)
   | none=>(0,⟨#[]⟩)
theorem IdxPost.find {n:Nat} {p:Nat->Bool} {J:World->Prop} {e:Ending} {w':World} (h:IdxPost n p (λ_=>J) e w'):J w'/\(((List.range n).find? p=none/\e = .returned (.int .i64 (-1)))\/∃k,(List.range n).find? p=some k/\k<n/\e = .returned (.int .i64 (k:Int))):=by
 obtain⟨k,i,d,⟨a,b,c⟩|⟨a,b,c,f⟩⟩:=h
 ·refine⟨c,.inl ⟨?_,b⟩⟩
  rw[List.find?_eq_none];intro x hx;rw[d x (by rw[a];exact List.mem_range.1 hx)]
  decide
 ·refine⟨f,.inr ⟨k,?_,a,c⟩⟩
  rw[List.find?_range_eq_some];refine⟨b,List.mem_range.2 a,λj g=>?_⟩;rw[d j g];rfl
theorem Zbjt {rs:List RuleS} {k:Nat} {r:RuleS} (h:∀(j:Nat) x,j<k->rs[j]? =some x->Zbip x=0) (d:rs[k]? =some r) (a:¬Zbip r=0):rs.find? (λr=> !decide (Zbip r=0))=some r:=by
 obtain⟨c,e⟩:=List.getElem?_eq_some_iff.1 d;rw[List.find?_eq_some_iff_getElem];refine⟨by simp[a],k,c,e,λj b=>?_⟩;have:=h j _ b (List.getElem?_eq_getElem (by omega));simp[this]
theorem Zbju {rs:List RuleS} (h:∀(j:Nat) x,j<rs.length->rs[j]? =some x->Zbip x=0):rs.find? (λr=> !decide (Zbip r=0))=none:=by
 rw[List.find?_eq_none];intro x hx;obtain⟨j,a,e⟩:=List.getElem_of_mem hx;have:=h j x a (by rw[List.getElem?_eq_getElem a,e]);simp[this]
theorem Zeu (v:Value) (rs:List RuleS) (w:World) (hv:RulesI w v rs) (hs:∀r∈rs,SmallR r 1048576) (hn:rs.length<=1048576) (hm:MayW w):
  Calls prog 86 #[v] w λe w'=>e = .returned (.tuple #[.int .i64 (Zet rs).1,.string (Zet rs).2])/\Below w.heap.size w w':=by
 have mixed:prog.follows .mixedOrders=true:=by kernel_rfl
 have cT:=λW (h:Below w.heap.size w W)=>Zbri v rs W (hv.below h) hs hn
 have cS:=λW (h:Below w.heap.size w W)=>Zdu v rs W (hv.below h) hs hn
 obtain⟨va,vc,rfl,ak,ah⟩:=Zbjn hv;obtain⟨AN,z⟩:∃AN,Zet rs=AN:=⟨_,rfl⟩;rw[z];unfold Zet at z;have HV:=hid hv;have HS:=hid hs;have HM:=hid hm;have CT:=hid cT;have CS:=hid cS;have I:=hid z;have HR:Hid (Below w.heap.size w w):=hid (Below.refl _ _);unfold maxLen at ah;clear hv hs hm cT cS z
 go_enter func86,ntmps86
 go_wp2
 go_loopw [2,3,5,6,11,12,13,14,15,16,17,18,19,20,21,22] (λ_ _ _ _ iv _ _ _ _ _ _ _ _ _ _ _ wr=>∃k:Nat,k<=rs.length/\iv = .int .i64 (k:Int)/\(∀(j:Nat) x,j<k->rs[j]? =some x->Zbip x=0)/\Below w.heap.size w wr) (λ_ _ _ _ iv _ _ _ _ _ _ _ _ _ _ _ _=>rs.length-(intOf iv).toNat)
 case atStart=>exact⟨0,Nat.zero_le _,rfl,λj x hj=>absurd hj (Nat.not_lt_zero _),HR.out⟩
 case round=>
  obtain⟨k,hk,rfl,A,G⟩:=hrel;have J:=hid A;have HB:=hid G
  by_cases ag:k<rs.length
  ·obtain⟨y,q⟩:∃y,rs[k]? =some y:=⟨rs[k],List.getElem?_eq_getElem ag⟩
   obtain⟨g,o,U,L,Q,M,R,O,S,P,T,e,hg,p,l⟩:=Zbjm HV.out q;obtain⟨B,_,C⟩:=Value.slice.inj e;subst B C;obtain⟨e0,B,e2,C,e4⟩:=l wr G;have af:(k:Int)<(rs.length:Int):=by omega
   have aj:(0:Int)<=(k:Int):=by omega
   have HY:=hid q;obtain⟨W1,s⟩:∃W,wr.alloc (.cells #[.string y.name,.slice L y.ins.length Q,.slice M y.outs.length R,.slice O y.after.length S,.slice P y.steps.length T] 50)=W:=⟨_,rfl⟩;have Y:Below wr.heap.size wr W1:=by rw[<-s];exact(Below.refl _ _).alloc (Nat.le_refl _) _
   have n:Below w.heap.size w W1:=G.trans (Y.mono G.size);have cR:=Zir y L M O P Q R S T W1 (p.below n) (HS.out y (List.mem_of_getElem? q)) (HM.out.below n);have aa:∀W,Below W1.heap.size W1 W->W.heap[wr.heap.size]? =some (.cells #[.string y.name,.slice L y.ins.length Q,.slice M y.outs.length R,.slice O y.after.length S,.slice P y.steps.length T] 50):=λW h=>(h.block _ (by rw[<-s];simp)).trans (by rw[<-s];exact alloc_at wr _)
   have H:=hid cR;have u:=hid n;have K:=hid s;have ad:=hid aa;unfold Zbiz at H;clear A G q l p hg s Y n cR aa
   by_cases hz:Zbip y=0
   ·have HZ:=hid hz
    rw[hz]at H;clear hz
    go_wp2_with (go_at_call 106;rw[K.out];(with_reducible refine H.out.mono ?_);rintro e w2 ⟨rfl,f⟩;have d:=hid (u.out.trans (f.mono u.out.size));clear f)
    go_roundw
    case rel=>
     refine⟨k+1,by omega,by go_num,λj x hj hx=>?_,d.out⟩
     by_cases e:j=k
     ·subst e
      have:=HY.out;rw[hx]at this;obtain rfl:=Option.some.inj this;exact HZ.out
     ·exact J.out j x (by omega) hx
    case measure=>simp[intOf];omega
   ·have HZ:=hid hz
    obtain⟨c,hc⟩:∃c,Zbip y=c:=⟨_,rfl⟩;have ae:=hid hc;rw[hc]at H hz;clear hc
    go_wp2_with (go_at_call 106;rw[K.out];(with_reducible refine H.out.mono ?_);rintro e w2 ⟨rfl,f⟩;have d:=hid (u.out.trans (f.mono u.out.size));obtain⟨d0,d1,d2,d3,d4,_⟩:=cells5 (ad.out _ f);clear f)
    have HF:=hid (Zbjt J.out HY.out HZ.out)
    go_region
    go_wp2
    go_ret2
    have a:=I.out;rw[HF.out]at a;subst a;exact⟨by rw[<-ae.out];rfl,d.out.drew⟩
  ·have af:¬(k:Int)<(rs.length:Int):=by omega
   obtain rfl:k=rs.length:=by omega
   have a:=I.out;rw[Zbju A]at a;clear A G;have ai:rs.length<=1048576:=hn
   by_cases V:40<rs.length
   ·rw[if_pos V]at a
    subst a;have X:(40:Int)<(rs.length:Int):=by omega
    go_wp2
    go_ret2
    exact⟨rfl,HB.out⟩
   ·rw[if_neg V]at a
    have i:=hid a;have X:¬(40:Int)<(rs.length:Int):=by omega
    clear a
    go_wp2_with fail
    refine(CT.out _ HB.out).mono ?_;intro e w2 hi;obtain⟨f,m⟩:=hi.find;have d:=hid (HB.out.trans (f.mono HB.out.size));clear hi f
    rcases m with⟨b,rfl⟩|⟨t,b,F,rfl⟩
    rotate_left
    ·skip
     have a:=i.out;rw[b]at a;subst a;obtain⟨y,q⟩:∃y,rs[t]? =some y:=⟨rs[t],List.getElem?_eq_getElem F⟩;obtain⟨g,o,U,L,Q,M,R,O,S,P,T,e,hg,p,l⟩:=Zbjm HV.out q;obtain⟨B,_,C⟩:=Value.slice.inj e;subst B C;have E:=hid (show nmAt rs t=y.name by unfold nmAt;rw[q];rfl);obtain⟨e0,B,e2,C,e4⟩:=l w2 d.out;have ac:(t:Int)<(rs.length:Int):=by omega
     have ab:(0:Int)<=(t:Int):=by omega
     clear b q p l hg
     go_wp2_with fail
     go_region
     go_wp2
     go_ret2
     exact⟨by rw[E.out];rfl,d.out.drew⟩
    ·have a:=i.out
     rw[b]at a;have i:=hid a;clear b a
     go_wp2_with fail
     refine(CS.out _ d.out).mono ?_;intro e w3 hi;obtain⟨Z,m⟩:=hi.find;have D:=hid (d.out.trans (Z.mono d.out.size));clear hi Z
     rcases m with⟨b,rfl⟩|⟨t,b,F,rfl⟩
     rotate_left
     ·skip
      have a:=i.out;rw[b]at a;subst a;obtain⟨y,q⟩:∃y,rs[t]? =some y:=⟨rs[t],List.getElem?_eq_getElem F⟩;obtain⟨g,o,U,L,Q,M,R,O,S,P,T,e,hg,p,l⟩:=Zbjm HV.out q;obtain⟨B,_,C⟩:=Value.slice.inj e;subst B C;have E:=hid (show nmAt rs t=y.name by unfold nmAt;rw[q];rfl);obtain⟨e0,B,e2,C,e4⟩:=l w3 D.out;have ac:(t:Int)<(rs.length:Int):=by omega
      have ab:(0:Int)<=(t:Int):=by omega
      clear b q p l hg
      go_wp2_with fail
      go_region
      go_wp2
      go_ret2
      exact⟨by rw[E.out];rfl,D.out.drew⟩
     ·have a:=i.out
      rw[b]at a;subst a;clear b;go_wp2
      go_ret2
      exact⟨rfl,D.out⟩
def Zar (v:Value) (w:World) (cy:List ByteArray):Prop:=∀W,Below w.heap.size w W->Calls prog 87 #[v] W λe w'=>∃u,e = .returned u/\IsStrs w' u cy/\Below W.heap.size W w'
def allB (rs:List RuleS) (cy:List ByteArray):Int×ByteArray:=if (Zet rs).1=0 then(match cy with | []=>(0,⟨#[]⟩)|x::_=>(3,x))else Zet rs
theorem Ziq (v:Value) (rs:List RuleS) (cy:List ByteArray) (w:World) (F:RulesI w v rs) (D:∀r∈rs,SmallR r 1048576) (M:rs.length<=1048576) (C:MayW w) (A:(Zet rs).1=0->Zar v w cy) (l:cy.length<=1048576):
  Calls prog 50 #[v] w λe w'=>e = .returned (.tuple #[.int .i64 (allB rs cy).1,.string (allB rs cy).2])/\Below w.heap.size w w':=by
 have mixed:prog.follows .mixedOrders=true:=by kernel_rfl
 have s:=hid (Zeu v rs w F D M C);have i:∀c x,Zet rs=(c,x)->c=0->Zar v w cy:=λc x J K=>A (by rw[J];exact K)
 unfold allB;obtain⟨⟨c,x⟩,t⟩:∃p,Zet rs=p:=⟨_,rfl⟩;have G:=hid (i c x t);rw[t]at s⊢;simp only at s⊢;clear F D C A i t
 by_cases B:c=0
 ·subst B
  rw[if_pos rfl]
  go_enter func50,ntmps50
  go_wp2_with fail
  refine s.out.mono ?_;rintro e O ⟨rfl,d⟩;have a:=hid d;clear d
  go_wp2_with fail
  refine(G.out (by trivial) _ a.out).mono ?_;rintro e P ⟨u,rfl,E,j⟩;obtain⟨Q,R,rfl,q,y,g⟩:=Zua E;have h:=hid (a.out.trans (j.mono a.out.size));unfold maxLen at y;clear E j
  cases cy with
  | nil=>
   simp only[List.length_nil]at q⊢;clear g;go_wp2
   go_ret2
   exact⟨rfl,h.out⟩
  | cons z r=>
   obtain⟨b,o,I,k⟩:=g 0 z rfl;subst I;have H:=k P (Below.refl _ _);simp only[Nat.add_zero]at H;have n:(0:Int)<((z::r).length:Int):=by simp<;>omega
   obtain⟨m,f⟩:∃m,(z::r).length=m:=⟨_,rfl⟩;rw[f]at n q⊢;have L:m<=1048576:=by rw[<-f];exact l
   clear g k f l
   go_wp2_with fail
   go_region
   go_wp2
   go_ret2
   exact⟨rfl,h.out.drew⟩
 ·rw[if_neg B]
  go_enter func50,ntmps50
  go_wp2_with (go_at_call 86;(with_reducible refine s.out.mono ?_);rintro e O ⟨rfl,d⟩;have a:=hid d;clear d)
  go_ret2
  exact⟨rfl,a.out⟩
section
attribute [local go_sem] Oper.semAt_some
theorem Zbsn (n:Nat) (hn:1<=n) (m:Nat) (a:Option Addr) (c:Nat) (b:List (List Value)) (w:World) (hb:Boxed w m 22 (.slice a b.length c)) (q:IsRow w (.slice a b.length c) 5 b) (h5:∀r∈b,∃s p1 n1 k1 p2 n2 k2 p3 n3 k3 p4 n4 k4,r = [.string s,.slice p1 n1 k1,.slice p2 n2 k2,.slice p3 n3 k3,.slice p4 n4 k4]) (D:Option Addr) (F:b≠[]->D=a):
  Zbw Fence.wide n prog 174 #[.pointer (some ⟨m,0,none⟩)] (λx:List Value=>#[.agg x.toArray]) (λA B=>Below A.heap.size A B) (Zbe m D) b w:=by
 obtain⟨a',c',e,aj,aa,f⟩:=q
 cases e
 intro l J W R y hY Z;have z:Boxed W m 22 (.slice a b.length c):=(R.block m hb.lt).trans hb;have hC:∀(k:Nat) r,b[k]? =some r->∃g o,a=some ⟨g,o,none⟩/\g<W.heap.size/\∀w':World,w'.heap[g]? =W.heap[g]? ->∀(i:Nat) u,r[i]? =some u->w'.cell? ⟨g,o+k*5+i,none⟩=some u:=by
  intro k r L;obtain⟨g,o,e,hg,hc⟩:=f (by rintro rfl;simp at L);exact⟨g,o,e,Nat.lt_of_lt_of_le hg R.size,λw' hw i u hu=>(World.cell?_of_block (a:=⟨g,o+k*5+i,none⟩) (hw.trans (R.block g hg))).trans (hc k r L i u hu)⟩
 have HC:=hid hC;have H5:=hid h5;have af:=z.lt;clear hb R f hC h5;unfold maxLen at aa;show CallsIn Fence.wide n prog 174 #[.func (.yield l) #[] #[],.pointer (some ⟨m,0,none⟩)] W _;refine callsIn_of_wp func174 rfl trivial ?_ rfl;simp only[ntmps174,List.size_toArray,List.length_cons,List.length_nil,Nat.reduceAdd,Nat.reduceSub,Array.replicate_succ,Array.replicate_zero,List.push_toArray,List.append_toArray,List.nil_append,List.cons_append];have ah:=z.cell
 gi_wp2
 gi_loopw [4,7,8,9,10,11,12,13,14,15] (λ_ iv _ _ _ _ _ _ _ _ wr=>∃k:Nat,k<=b.length/\iv = .int .i64 (k:Int)/\wr.heap[m]? =W.heap[m]? /\(∀g,(D.map Addr.block)=some g->wr.heap[g]? =W.heap[g]?)/\J (b.take k) wr) (λ_ iv _ _ _ _ _ _ _ _ _=>b.length-(intOf iv).toNat)
 case atStart=>exact⟨0,Nat.zero_le _,rfl,rfl,λ_ _=>rfl,by simpa using Z⟩
 case round=>
  obtain⟨k,hk,rfl,t,p,j⟩:=hrel
  by_cases ad:k<b.length
  ·obtain⟨r,q⟩:∃r,b[k]? =some r:=⟨b[k],List.getElem?_eq_getElem ad⟩
   obtain⟨g,o,ha,H,G⟩:=HC.out k r q;obtain⟨s,p1,n1,k1,p2,n2,k2,p3,n3,k3,p4,n4,k4,M⟩:=H5.out r (List.mem_of_getElem? q);have C:=p g (by rw[F (by rintro rfl;simp at q),ha];rfl);have d:=G wr C;rw[M]at d;have e0:=d 0 _ rfl;have e1:=d 1 _ rfl;have e2:=d 2 _ rfl;have e3:=d 3 _ rfl;have e4:=d 4 _ rfl;simp only[Nat.add_zero]at e0;have O:m<wr.heap.size:=by have:=t.trans z;exact(Array.getElem?_eq_some_iff.1 this).1
   have v:b=b.take k++r::b.drop (k+1):=by
    have:=(List.take_append_drop k b).symm;rw[Zma q]at this;exact this
   have P:b.take (k+1)=b.take k ++ [r]:=by rw[List.take_add_one,q];rfl
   obtain⟨fn,ag,Q,ae,hy,hR⟩:=hY (b.take k) r (b.drop (k+1)) (wr.alloc (.cells r.toArray 50)) v (y _ _ _ j ((Below.refl _ _).alloc (Nat.le_refl _) _));have S:Hid (∀g,(D.map Addr.block)=some g->(wr.alloc (.cells r.toArray 50)).heap[g]? =W.heap[g]?):=hid λg' h=>by
    have e:=p g' h;have ab:g'<wr.heap.size:=by
     have h1:D=some ⟨g,o,none⟩:=by rw[F (by rintro rfl;simp at q),ha]
     rw[h1]at h;obtain rfl:g=g':=by simpa using h
     have h2:wr.heap[g]? =some W.heap[g]:=by rw[C];exact Array.getElem?_eq_getElem H
     exact(Array.getElem?_eq_some_iff.1 h2).1
    exact(Below.heap_alloc _ _ _ ab).trans e
   have X:Hid ((wr.alloc (.cells r.toArray 50)).heap[m]? =W.heap[m]?):=hid ((Below.heap_alloc _ _ _ O).trans t);have Y:=hid P;subst M;have ai:(0:Int)<=(k:Int):=by omega
   have ac:(k:Int)<(b.length:Int):=by omega
   subst ha
   try dsimp only at hy
   clear v P hY Z j d q G p t C H O y
   gi_wp2
   refine hR.mono ?_;rintro e W3 ⟨rfl,E,I,K⟩;have T:=hid E;have U:=hid I;have V:=hid K;clear E I K
   gi_wp2
   go_roundw
   case rel=>exact⟨k+1,by omega,by go_num,U.out.trans X.out,λg' h=>(V.out g' h).trans (S.out g' h),by rw[Y.out];exact T.out⟩
   case measure=>simp[intOf];omega
  ·have ac:¬(k:Int)<(b.length:Int):=by omega
   rw[List.take_of_length_le (by omega)]at j;have HJ:=hid j;clear hY Z j p t y
   gi_wp2
   go_end0
   exact⟨⟨_,rfl⟩,HJ.out⟩
