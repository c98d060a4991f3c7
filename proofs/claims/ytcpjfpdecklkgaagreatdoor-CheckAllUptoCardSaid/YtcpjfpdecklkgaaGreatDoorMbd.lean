import Derived.Test.YtcpjfpdecklkgaaGreatDoorMbc
namespace Go.Proofs.YtcpjfpdecklkgaaGreatDoor
open Go.Lib (hid)
open Go.Proofs.Tryz
open Go.RowKit Go.Shelf Go.Maps
def Zpm (outs:List ByteArray):List ByteArray->List ByteArray->List StepS->Bool
 | _,M,[]=>outs.all (inS M)
 | T,M,s::r=>if s.args.all (inS T)=true/\inS T s.out=false then Zpm outs (addS T [s.out]) (addS M [s.out]) r else false
theorem Zcr (T:List ByteArray) (k:ByteArray):decide ((addS T [k]).length=T.length+1) = !inS T k:=by
 show decide ((insS T k).length=T.length+1) = !inS T k;unfold insS
 cases h:inS T k
 ·simp
 ·simp
set_option maxHeartbeats 4000000
set_option maxRecDepth 100000
theorem Zbos (r:RuleS) (a1 a2 a3 a4:Option Addr) (c1 c2 c3 c4:Nat) (w:World) (hr:RuleI w [.string r.name,.slice a1 r.ins.length c1,.slice a2 r.outs.length c2,.slice a3 r.after.length c3,.slice a4 r.steps.length c4] r) (hs:SmallR r 1048576):
  Calls prog 92 #[.agg (Zbiz r a1 a2 a3 a4 c1 c2 c3 c4)] w λe w'=>e = .returned (.bool (Zpm r.outs (addS [] r.ins) [] r.steps))/\Below w.heap.size w w':=by
 obtain⟨vi,vo,vf,vst,qe,h1,h2,h3,h4⟩:=hr;simp only[List.cons.injEq,and_true,true_and]at qe;obtain⟨rfl,rfl,rfl,rfl⟩:=qe;have hfew:=hs.few;have hil:=hs.ins.1;obtain⟨n,hn⟩:∃n,w.heap.size=n:=⟨_,rfl⟩;have mixed:prog.follows .mixedOrders=true:=by kernel_rfl
 have hmm:=@run_makeMap prog;obtain⟨R,hR⟩:∃R,Zpm r.outs (addS [] r.ins) [] r.steps=R:=⟨_,rfl⟩;rw[hR,hn];obtain⟨name,insN,outsN,after,steps⟩:=r;simp only[Zbiz]at hR hfew hil h1 h2 h4 hs⊢;have HN:=hid hn;have HR:=hid hR;have H1:=hid h1;have H2:=hid h2;have H4:=hid h4;have HS:=hid hs;clear hR h1 h2 h3 h4 hs
 go_enter func92,ntmps92
 obtain⟨W3,hW3⟩:∃W,((w.alloc (.cells #[.string name,.slice a1 insN.length c1,.slice a2 outsN.length c2,.slice a3 after.length c3,.slice a4 steps.length c4] 37)).alloc (.map #[] 0)).alloc (.map #[] 0)=W:=⟨_,rfl⟩;have hs3:W3.heap.size=n+3:=by rw[<-hW3];simp[hn]
 have hb3:Below n w W3:=by rw[<-hW3,<-hn];exact(((Below.refl _ _).alloc (Nat.le_refl _) _).alloc (by simp) _).alloc (by simp;omega) _
 have hx3:W3.heap[n]? =some (.cells #[.string name,.slice a1 insN.length c1,.slice a2 outsN.length c2,.slice a3 after.length c3,.slice a4 steps.length c4] 37):=by
  rw[<-hW3,Below.heap_alloc _ _ _ (by simp[hn];omega),Below.heap_alloc _ _ _ (by simp[hn]),<-hn];exact alloc_at w _
 have hT3:SetIs W3 (n+1) []:=by
  have:=Zbkr (w.alloc (.cells #[.string name,.slice a1 insN.length c1,.slice a2 outsN.length c2,.slice a3 after.length c3,.slice a4 steps.length c4] 37));rw[World.size_alloc,hn]at this;rw[<-hW3];exact this.heap (Below.heap_alloc _ _ _ (by simp[hn]))
 have hM3:SetIs W3 (n+2) []:=by
  have:=Zbkr ((w.alloc (.cells #[.string name,.slice a1 insN.length c1,.slice a2 outsN.length c2,.slice a3 after.length c3,.slice a4 steps.length c4] 37)).alloc (.map #[] 0));rw[World.size_alloc,World.size_alloc,hn]at this;rw[<-hW3];exact this
 have CA:=hid (Zha (n+1) [] (.slice a1 insN.length c1) insN W3 hT3 (H1.out.below (by rw[hn];exact hb3)) (λg o c hne e=>by
  obtain⟨g',o',e',hg',_⟩:=Ztz H1.out hne;have e2:=e'.symm.trans (Value.slice.inj e).1
  cases e2
  omega) (by simp;omega) (Zblx HS.out.ins))
 have HW3:=hid hW3;have HS3:=hid hs3;have HB3:=hid hb3;have HX3:=hid hx3;have HM3:=hid hM3;clear hW3 hs3 hb3 hx3 hT3 hM3
 go_wp2_with fail
 rw[HW3.out]
 (with_reducible refine CA.out.mono ?_)
 rintro e W4 ⟨rfl,hT4,hg4,hz4⟩;have hs3:=HS3.out;have hx4:W4.heap[n]? =some (.cells #[.string name,.slice a1 insN.length c1,.slice a2 outsN.length c2,.slice a3 after.length c3,.slice a4 steps.length c4] 37):=(hg4.block n (by omega) (λe=>by cases e)).trans HX3.out;obtain⟨d0,d1,d2,d3,d4,_⟩:=cells5 hx4;have HT4:=hid hT4;have HX4:=hid hx4;have HM4:Hid (SetIs W4 (n+2) []):=hid (HM3.out.heap (hg4.block _ (by omega) (λe=>by cases e)));have HZ4:Hid (n+3<=W4.heap.size):=hid (by omega);have HB4:Hid (Below n w W4):=hid (HB3.out.grown hg4 (by omega) (λj e=>by cases e;omega));clear hT4 hx4 hg4 hz4 hs3;go_wp2
 go_loopw [2,6,16,17,18,19,20,21,22,23,24,25,26,27,28,29,30,31,32,33,34,35,36,37,38] (λ_ _ iv _ _ _ _ _ _ _ _ _ _ _ _ _ _ _ _ _ _ _ _ _ _ wr=>∃k T M,k<=steps.length/\iv = .int .i64 (k:Int)/\SetIs wr (n+1) T/\SetIs wr (n+2) M/\T.length<=insN.length+k/\M.length<=k/\Zpm outsN T M (steps.drop k)=R/\wr.heap[n]? =some (.cells #[.string name,.slice a1 insN.length c1,.slice a2 outsN.length c2,.slice a3 after.length c3,.slice a4 steps.length c4] 37)/\n+3<=wr.heap.size/\Below n w wr) (λ_ _ iv _ _ _ _ _ _ _ _ _ _ _ _ _ _ _ _ _ _ _ _ _ _ _=>steps.length-(intOf iv).toNat)
 case atStart=>exact⟨0,_,[],Nat.zero_le _,rfl,HT4.out,HM4.out,by have:=Zco insN [];simpa using this,Nat.le_refl _,HR.out,HX4.out,HZ4.out,HB4.out⟩
 case round=>
  obtain⟨k,T,M,hk,rfl,hT,hM,hTl,hMl,hf,hx,hz,hb⟩:=hrel;have HT:=hid hT;have HM:=hid hM;have HX:=hid hx;have HZ:=hid hz;have HB:=hid hb
  by_cases hlt:k<steps.length
  ·obtain⟨y,hy⟩:∃y,steps[k]? =some y:=⟨steps[k],List.getElem?_eq_getElem hlt⟩
   obtain⟨b,o,cap,va,vl,e,hya,hyl,hyc⟩:=Zbou H4.out hy;obtain⟨b1,m1,rfl⟩:=Zue hya;obtain⟨b2,m2,rfl⟩:=Zue hyl;injection e with e1 _ e3
   subst e1 e3;have hsy:=HS.out.steps y (List.mem_of_getElem? hy);have hdr:steps.drop k=y::steps.drop (k+1):=by
    rw[List.drop_eq_getElem_cons hlt];congr 1;rw[List.getElem?_eq_getElem hlt]at hy;exact Option.some.inj hy
   rw[hdr,Zpm]at hf;have hbn:Below w.heap.size w wr:=by rw[HN.out];exact hb
   obtain⟨e0,e1,e2,e3,e4⟩:=hyc wr hbn;have hi1:(k:Int)<(steps.length:Int):=by omega
   have hi0:(0:Int)<=(k:Int):=by omega
   have cH:∀W,Below wr.heap.size wr W->Calls prog 91 #[.map (some (n+1)),.slice b1 y.args.length m1] W λe w'=>e = .returned (.bool (y.args.all (inS T)))/\Below W.heap.size W w':=λW hW=>(Zhh (n+1) T _ y.args W (hT.below hW (by omega)) (hya.below (hbn.trans (hW.mono (by rw[HN.out];omega)))) (Zblx hsy.args))
   have hyo:∀z∈[y.out],z.size<=maxLen:=by intro z hz;simp at hz;subst hz;have:=hsy.out;unfold maxLen;omega
   have cT:∀W g,Below wr.heap.size wr W->W.heap[g]? =some (.cells #[.string y.out] 9)->wr.heap.size<=g->Calls prog 90 #[.map (some (n+1)),.slice (some ⟨g,0,none⟩) 1 1] W λe w'=>e = .returned (.bool (!inS T y.out))/\SetIs w' (n+1) (addS T [y.out])/\W.grownBy w' (some (n+1))/\w'.heap.size=W.heap.size:=λW g hW hg hgl=>(Zha (n+1) T _ [y.out] W (hT.below hW (by omega)) (Zub hg) (λg' o' c' _ e=>by cases (Value.slice.inj e).1;omega) (by simp;omega) hyo).mono λe w' q=>⟨by rw[q.1,List.length_singleton,Zcr],q.2⟩
   have cM:∀W g,SetIs W (n+2) M->W.heap[g]? =some (.cells #[.string y.out] 9)->wr.heap.size<=g->Calls prog 90 #[.map (some (n+2)),.slice (some ⟨g,0,none⟩) 1 1] W (Zae W (n+2) M [y.out]):=λW g hW hg hgl=>Zha (n+2) M _ [y.out] W hW (Zub hg) (λg' o' c' _ e=>by cases (Value.slice.inj e).1;omega) (by simp;omega) hyo
   obtain⟨bA,hbA⟩:∃b,y.args.all (inS T)=b:=⟨_,rfl⟩;obtain⟨bT,hbT⟩:∃b,inS T y.out=b:=⟨_,rfl⟩;rw[hbA]at cH hf;rw[hbT]at cT hf;have CH:=hid cH;have CT:=hid cT;have CM:=hid cM;obtain⟨W1,hW1⟩:∃W,wr.alloc (.cells #[.string y.out,.int .i64 y.op,.slice b1 y.args.length m1,.slice b2 y.lits.length m2,.int .i64 y.n] 34)=W:=⟨_,rfl⟩;have hs1:W1.heap.size=wr.heap.size+1:=by rw[<-hW1];simp
   have hb1:Below wr.heap.size wr W1:=by rw[<-hW1];exact(Below.refl _ _).alloc (Nat.le_refl _) _
   have hx1:W1.heap[wr.heap.size]? =some (.cells #[.string y.out,.int .i64 y.op,.slice b1 y.args.length m1,.slice b2 y.lits.length m2,.int .i64 y.n] 34):=by rw[<-hW1];exact alloc_at wr _
   obtain⟨f0,f1,f2,f3,f4,_⟩:=cells5 hx1;have HB1:=hid hb1;have HW1:=hid hW1;have HF:=hid hf;have HX1:=hid hx1;have HS1:=hid hs1;have H1A:Hid (T.length<=insN.length+k/\M.length<=k):=hid ⟨hTl,hMl⟩;have hfX:=HF.out;clear hT hM hTl hMl hf hx hz hb hy hya hyl hyc hsy hdr hbn cH cT cM hyo hbA hbT hb1 hW1 hx1 hs1
   cases bA
   ·rw[if_neg (λh=>by cases h.1)]at hfX
    subst hfX
    go_wp2_with (go_at_call 91;rw[HW1.out];(with_reducible refine(CH.out _ HB1.out).mono ?_);rintro e w2 ⟨rfl,hb2⟩;have HB2:=hid (HB1.out.trans (hb2.mono HB1.out.size));clear hb2)
    go_ret;exact⟨rfl,HB.out.trans (HB2.out.mono (by have:=HZ.out;omega))⟩
   cases bT
   ·rw[if_pos ⟨rfl,rfl⟩]at hfX
    have HFX:=hid hfX;clear hfX
    go_wp2_with (first
     | (go_at_call 91;rw[HW1.out];(with_reducible refine(CH.out _ HB1.out).mono ?_);rintro e w2 ⟨rfl,hb2⟩;have HX2:=hid ((hb2.block _ (Array.getElem?_eq_some_iff.1 HX1.out).1).trans HX1.out);obtain⟨f0,f1,f2,f3,f4,_⟩:=cells5 HX2.out;have HB2:=hid (HB1.out.trans (hb2.mono HB1.out.size));clear hb2)
     | (go_at_call 90;(with_reducible refine(CT.out _ _ (HB2.out.alloc HB2.out.size _) (alloc_at w2 _) HB2.out.size).mono ?_);rintro e w3 ⟨rfl,hT3,hg3,hz3⟩;have HX3':=hid (show w3.heap[wr.heap.size]? =_ from(hg3.block _ (by rw[World.size_alloc];have:=(Array.getElem?_eq_some_iff.1 HX2.out).1;omega) (λe=>by have:=Option.some.inj e;have:=HZ.out;omega)).trans ((Below.heap_alloc _ _ _ (Array.getElem?_eq_some_iff.1 HX2.out).1).trans HX2.out));obtain⟨f0,f1,f2,f3,f4,_⟩:=cells5 HX3'.out;have HT3:=hid hT3;have HG3:=hid hg3;have HM3':=hid (show SetIs w3 (n+2) M from HM.out.heap ((hg3.block _ (by rw[World.size_alloc];have:=HZ.out;have:=HB2.out.size;omega) (λe=>by have:=Option.some.inj e;omega)).trans ((Below.heap_alloc _ _ _ (by have:=HZ.out;have:=HB2.out.size;omega)).trans (HB2.out.block _ (by have:=HZ.out;omega)))));have HZ3:=hid (show wr.heap.size<=w3.heap.size by rw[hz3,World.size_alloc];have:=HB2.out.size;omega);clear hT3 hg3 hz3)
     | (go_at_call 90;(with_reducible refine(CM.out _ _ (HM3'.out.heap (Below.heap_alloc _ _ _ (by have:=HZ.out;have:=HZ3.out;omega))) (alloc_at w3 _) HZ3.out).mono ?_);rintro e w4 ⟨rfl,hM4,hg4,hz4⟩;have HM4':=hid hM4;have HG4:=hid hg4;have HZ4':=hid hz4;clear hM4 hg4 hz4))
    have hz:=HZ.out;have hz2:=HB2.out.size;have hz3:=HZ3.out;have hb2:Below n w (w2.alloc (.cells #[.string y.out] 9)):=HB.out.trans ((HB2.out.alloc HB2.out.size _).mono (by omega));have hb3:Below n w w3:=hb2.grown HG3.out (by rw[World.size_alloc];omega) (λj e=>by cases e;omega);have hb4:Below n w w4:=(hb3.alloc (by omega) (.cells #[.string y.out] 9)).grown HG4.out (by rw[World.size_alloc];omega) (λj e=>by cases e;omega);have hT4:SetIs w4 (n+1) (addS T [y.out]):=HT3.out.heap ((HG4.out.block _ (by rw[World.size_alloc];omega) (λe=>by have:=Option.some.inj e;omega)).trans (Below.heap_alloc _ _ _ (by omega)));have hx4:w4.heap[n]? =wr.heap[n]?:=(HG4.out.block _ (by rw[World.size_alloc];omega) (λe=>by have:=Option.some.inj e;omega)).trans ((Below.heap_alloc _ _ _ (by omega)).trans ((HG3.out.block _ (by rw[World.size_alloc];omega) (λe=>by have:=Option.some.inj e;omega)).trans ((Below.heap_alloc _ _ _ (by omega)).trans (HB2.out.block _ (by omega)))));have hz4:n+3<=w4.heap.size:=by rw[HZ4'.out,World.size_alloc];omega
    have HALL:=hid (show SetIs w4 (n+1) (addS T [y.out])/\w4.heap[n]? =wr.heap[n]? /\n+3<=w4.heap.size/\Below n w w4 from⟨hT4,hx4,hz4,hb4⟩);clear hz hz2 hz3 hb2 hb3 hb4 hT4 hx4 hz4;go_roundw
    case rel=>
     obtain⟨r1,r2,r3,r4⟩:=HALL.out;obtain⟨l1,l2⟩:=H1A.out;exact⟨k+1,_,_,by omega,by go_num,r1,HM4'.out,by have:=Zco [y.out] T;simp at this;omega,by have:=Zco [y.out] M;simp at this;omega,HFX.out,r2.trans HX.out,r3,r4⟩
    case measure=>simp[intOf];omega
   ·rw[if_neg (λh=>by cases h.2)]at hfX
    subst hfX
    go_wp2_with (first
     | (go_at_call 91;rw[HW1.out];(with_reducible refine(CH.out _ HB1.out).mono ?_);rintro e w2 ⟨rfl,hb2⟩;have HX2:=hid ((hb2.block _ (Array.getElem?_eq_some_iff.1 HX1.out).1).trans HX1.out);obtain⟨f0,f1,f2,f3,f4,_⟩:=cells5 HX2.out;have HB2:=hid (HB1.out.trans (hb2.mono HB1.out.size));clear hb2)
     | (go_at_call 90;(with_reducible refine(CT.out _ _ (HB2.out.alloc HB2.out.size _) (alloc_at w2 _) HB2.out.size).mono ?_);rintro e w3 ⟨rfl,hT3,hg3,hz3⟩;have HG3:=hid hg3;clear hT3 hg3 hz3))
    go_ret;exact⟨rfl,(HB.out.trans ((HB2.out.alloc HB2.out.size _).mono (by have:=HZ.out;omega))).grown HG3.out (by rw[World.size_alloc];have:=HZ.out;have:=HB2.out.size;omega) (λj e=>by cases e;omega)⟩
  ·have hi1:¬(k:Int)<(steps.length:Int):=by omega
   obtain rfl:k=steps.length:=by omega
   rw[List.drop_length,Zpm]at hf;obtain⟨q0,q1,q2,q3,q4,_⟩:=cells5 hx;have CH:=hid (Zhh (n+2) M _ outsN wr hM (H2.out.below (by rw[HN.out];exact hb)) (Zblx HS.out.outs));rw[hf]at CH;clear hT hM hTl hMl hf hx hz hb
   go_wp2_with (go_at_call 91;(with_reducible refine CH.out.mono ?_);rintro e w2 ⟨rfl,hb2⟩)
   go_ret;exact⟨rfl,HB.out.trans (hb2.mono (by have:=HZ.out;omega))⟩
def Zbck (l:List ByteArray):Bool:=decide ((addS [] l).length=l.length)
def Zbac (r:RuleS):Bool:=Zbck r.ins&&Zbck r.outs&&Zbck r.after && !inS (addS [] r.after) r.name&&Zpm r.outs (addS [] r.ins) [] r.steps
structure NamF (w:World) (n:Nat) (o:Obj) (S:List ByteArray) (W:World):Prop where
 box:W.heap[n]? =some o
 set:SetIs W (n+3) S
 size:n+4<=W.heap.size
 below:Below n w W
theorem NamF.alloc {w:World} {n:Nat} {o:Obj} {S:List ByteArray} {W:World} (h:NamF w n o S W) (o':Obj):NamF w n o S (W.alloc o'):=
 ⟨(Below.heap_alloc _ _ _ (by have:=h.size;omega)).trans h.box,h.set.heap (Below.heap_alloc _ _ _ (by have:=h.size;omega)),by rw[World.size_alloc];have:=h.size;omega,h.below.alloc (by have:=h.size;omega) _⟩
theorem NamF.later {w:World} {n:Nat} {o:Obj} {S:List ByteArray} {W W':World} (h:NamF w n o S W) (hb:Below W.heap.size W W'):NamF w n o S W':=
 have hz:=h.size
 ⟨(hb.block _ (by omega)).trans h.box,h.set.heap (hb.block _ (by omega)),by have:=hb.size;omega,h.below.trans (hb.mono (by omega))⟩
theorem NamF.grown {w:World} {n:Nat} {o:Obj} {S:List ByteArray} {W W':World} {b:Nat} (h:NamF w n o S W) (hg:W.grownBy W' (some b)) (hb:n<b) (hb3:b≠n+3):NamF w n o S W':=
 have hz:=h.size
 ⟨(hg.block _ (by omega) (λe=>by have:=Option.some.inj e;omega)).trans h.box,h.set.heap (hg.block _ (by omega) (λe=>by have:=Option.some.inj e;omega)),by have:=hg.size;omega,h.below.grown hg (by omega) (λj e=>by cases e;omega)⟩
set_option maxHeartbeats 4000000
set_option maxRecDepth 100000
theorem Zbad (r:RuleS) (a1 a2 a3 a4:Option Addr) (c1 c2 c3 c4:Nat) (w:World) (hr:RuleI w [.string r.name,.slice a1 r.ins.length c1,.slice a2 r.outs.length c2,.slice a3 r.after.length c3,.slice a4 r.steps.length c4] r) (hs:SmallR r 1048576):
  Calls prog 46 #[.agg (Zbiz r a1 a2 a3 a4 c1 c2 c3 c4)] w λe w'=>e = .returned (.bool (Zbac r))/\Below w.heap.size w w':=by
 have hri:=hr;obtain⟨vi,vo,vf,vst,qe,h1,h2,h3,h4⟩:=hr;simp only[List.cons.injEq,and_true,true_and]at qe;obtain⟨rfl,rfl,rfl,rfl⟩:=qe;obtain⟨n,hn⟩:∃n,w.heap.size=n:=⟨_,rfl⟩;have mixed:prog.follows .mixedOrders=true:=by kernel_rfl
 have hmm:=@run_makeMap prog;have hil:=hs.ins.1;have hol:=hs.outs.1;have hal:=hs.after.1;have hnm:=hs.name;have hsf:=λW (h:Below w.heap.size w W)=>Zbos r a1 a2 a3 a4 c1 c2 c3 c4 W (hri.below h) hs
 have hmi:=Zblx hs.ins;have hmo:=Zblx hs.outs;have hma:=Zblx hs.after;unfold Zbac;rw[hn]at hsf⊢;obtain⟨name,insN,outsN,after,steps⟩:=r;simp only[Zbiz]at h1 h2 h3 hil hol hal hnm hsf hmi hmo hma⊢;obtain⟨o,ho⟩:∃o:Obj,.cells #[.string name,.slice a1 insN.length c1,.slice a2 outsN.length c2,.slice a3 after.length c3,.slice a4 steps.length c4] 37=o:=⟨_,rfl⟩;obtain⟨W4,hW4⟩:∃W,((((w.alloc (.cells #[.string name,.slice a1 insN.length c1,.slice a2 outsN.length c2,.slice a3 after.length c3,.slice a4 steps.length c4] 37)).alloc (.map #[] 0)).alloc (.map #[] 0)).alloc (.map #[] 0))=W:=⟨_,rfl⟩;have hs4:W4.heap.size=n+4:=by rw[<-hW4];simp[hn]
 have hb4:Below n w W4:=by rw[<-hW4,<-hn];exact((((Below.refl _ _).alloc (Nat.le_refl _) _).alloc (by simp) _).alloc (by simp;omega) _).alloc (by simp;omega) _
 have hx4:W4.heap[n]? =some o:=by
  rw[<-hW4,Below.heap_alloc _ _ _ (by simp[hn];omega),Below.heap_alloc _ _ _ (by simp[hn];omega),Below.heap_alloc _ _ _ (by simp[hn]),<-hn,<-ho];exact alloc_at w _
 have hA4:SetIs W4 (n+1) []:=by
  have:=Zbkr (w.alloc (.cells #[.string name,.slice a1 insN.length c1,.slice a2 outsN.length c2,.slice a3 after.length c3,.slice a4 steps.length c4] 37));rw[World.size_alloc,hn]at this;rw[<-hW4];exact this.heap ((Below.heap_alloc _ _ _ (by simp[hn])).trans (Below.heap_alloc _ _ _ (by simp[hn])))
 have hB4:SetIs W4 (n+2) []:=by
  have:=Zbkr ((w.alloc (.cells #[.string name,.slice a1 insN.length c1,.slice a2 outsN.length c2,.slice a3 after.length c3,.slice a4 steps.length c4] 37)).alloc (.map #[] 0));rw[World.size_alloc,World.size_alloc,hn]at this;rw[<-hW4];exact this.heap (Below.heap_alloc _ _ _ (by simp[hn]))
 have hC4:SetIs W4 (n+3) []:=by
  have:=Zbkr (((w.alloc (.cells #[.string name,.slice a1 insN.length c1,.slice a2 outsN.length c2,.slice a3 after.length c3,.slice a4 steps.length c4] 37)).alloc (.map #[] 0)).alloc (.map #[] 0));rw[World.size_alloc,World.size_alloc,World.size_alloc,hn]at this;rw[<-hW4];exact this
 have hf4:NamF w n o [] W4:=⟨hx4,hC4,by omega,hb4⟩;have hne:∀(a:Option Addr) (l:List ByteArray) (c m:Nat),IsStrs w (.slice a l.length c) l->n<m->∀g o' c',l≠[]->Value.slice a l.length c = .slice (some ⟨g,o',none⟩) l.length c'->g≠m:=by
  intro a l c m h hm g o' c' hl e;obtain⟨g',o2,e',hg',_⟩:=Ztz h hl;have e2:=e'.symm.trans (Value.slice.inj e).1
  cases e2
  omega
 have q1:Calls prog 90 #[.map (some (n+1)),.slice a1 insN.length c1] W4 λe w'=>e = .returned (.bool (Zbck insN))/\NamF w n o [] w'/\SetIs w' (n+2) []:=
  (Zha (n+1) [] _ insN W4 hA4 (h1.below (by rw[hn];exact hb4)) (hne _ _ _ _ h1 (by omega)) (by simp;omega) hmi).mono λe w' q=>⟨by rw[q.1,List.length_nil,Nat.zero_add];rfl,hf4.grown q.2.2.1 (by omega) (by omega),hB4.heap (q.2.2.1.block _ (by omega) (λe=>by have:=Option.some.inj e;omega))⟩
 have q2:∀W,NamF w n o [] W->SetIs W (n+2) []->Calls prog 90 #[.map (some (n+2)),.slice a2 outsN.length c2] W λe w'=>e = .returned (.bool (Zbck outsN))/\NamF w n o [] w':=λW hW hS=>
  (Zha (n+2) [] _ outsN W hS (h2.below (by rw[hn];exact hW.below)) (hne _ _ _ _ h2 (by omega)) (by simp;omega) hmo).mono λe w' q=>⟨by rw[q.1,List.length_nil,Nat.zero_add];rfl,hW.grown q.2.2.1 (by omega) (by omega)⟩
 have q3:∀W,NamF w n o [] W->Calls prog 90 #[.map (some (n+3)),.slice a3 after.length c3] W λe w'=>e = .returned (.bool (Zbck after))/\NamF w n o (addS [] after) w':=λW hW=>
  (Zha (n+3) [] _ after W hW.set (h3.below (by rw[hn];exact hW.below)) (hne _ _ _ _ h3 (by omega)) (by simp;omega) hma).mono λe w' q=>⟨by rw[q.1,List.length_nil,Nat.zero_add];rfl,
   ⟨(q.2.2.1.block _ (by have:=hW.size;omega) (λe=>by have:=Option.some.inj e;omega)).trans hW.box,q.2.1,by have:=q.2.2.1.size;have:=hW.size;omega,hW.below.grown q.2.2.1 (by have:=hW.size;omega) (λj e=>by cases e;omega)⟩⟩
 have q4:∀W g,NamF w n o (addS [] after) W->W.heap[g]? =some (.cells #[.string name] 9)->Calls prog 91 #[.map (some (n+3)),.slice (some ⟨g,0,none⟩) 1 1] W λe w'=>e = .returned (.bool (inS (addS [] after) name))/\NamF w n o (addS [] after) w':=λW g hW hg=>
  (Zhh (n+3) (addS [] after) _ [name] W hW.set (Zub hg) (by intro z hz;simp at hz;subst hz;unfold maxLen;omega)).mono λe w' q=>⟨by rw[q.1];simp,hW.later q.2⟩
 have q5:∀W,NamF w n o (addS [] after) W->Calls prog 92 #[.agg #[.string name,.slice a1 insN.length c1,.slice a2 outsN.length c2,.slice a3 after.length c3,.slice a4 steps.length c4]] W λe w'=>e = .returned (.bool (Zpm outsN (addS [] insN) [] steps))/\NamF w n o (addS [] after) w':=λW hW=>(hsf W hW.below).mono λe w' q=>⟨q.1,hW.later q.2⟩
 obtain⟨b1,g1⟩:∃b,Zbck insN=b:=⟨_,rfl⟩;obtain⟨b2,g2⟩:∃b,Zbck outsN=b:=⟨_,rfl⟩;obtain⟨b3,g3⟩:∃b,Zbck after=b:=⟨_,rfl⟩;obtain⟨b4,g4⟩:∃b,inS (addS [] after) name=b:=⟨_,rfl⟩;obtain⟨b5,g5⟩:∃b,Zpm outsN (addS [] insN) [] steps=b:=⟨_,rfl⟩;rw[g1]at q1;rw[g2]at q2;rw[g3]at q3;rw[g4]at q4;rw[g5]at q5;rw[g1,g2,g3,g4,g5];have Q1:=hid q1;have Q2:=hid q2;have Q3:=hid q3;have Q4:=hid q4;have Q5:=hid q5;have HD:Hid (∀W S,NamF w n o S W->W.heap[n]? =some (.cells #[.string name,.slice a1 insN.length c1,.slice a2 outsN.length c2,.slice a3 after.length c3,.slice a4 steps.length c4] 37)):=hid λW S h=>h.box.trans (by rw[<-ho])
 have HF4:=hid hf4;have HW4:=hid hW4;clear q1 q2 q3 q4 q5 hf4 hW4 g1 g2 g3 g4 g5 hsf h1 h2 h3 h4 hri hs hne hA4 hB4 hC4 hx4 hb4 hs4 hmi hmo hma ho
 go_enter func46,ntmps46
 go_wp2_with fail
 rw[HW4.out];obtain⟨d0,d1,d2,d3,d4,_⟩:=cells5 (HD.out _ _ HF4.out)
 cases b1
 ·skip
  go_wp2_with (first
   | (go_at_call 90;(with_reducible refine Q1.out.mono ?_);rintro e w5 ⟨rfl,hnf,hs2⟩;have S5:=hid hs2;clear hs2;have N5:=hid hnf;clear hnf;obtain⟨d0,d1,d2,d3,d4,_⟩:=cells5 (HD.out _ _ N5.out)))
  go_ret;exact⟨by first|rfl|simp,N5.out.below⟩
 cases b2
 ·skip
  go_wp2_with (first
   | (go_at_call 90;(with_reducible refine Q1.out.mono ?_);rintro e w5 ⟨rfl,hnf,hs2⟩;have S5:=hid hs2;clear hs2;have N5:=hid hnf;clear hnf;obtain⟨d0,d1,d2,d3,d4,_⟩:=cells5 (HD.out _ _ N5.out))
   | (go_at_call 90;(with_reducible refine(Q2.out _ N5.out S5.out).mono ?_);rintro e w6 ⟨rfl,hnf⟩;have N6:=hid hnf;clear hnf;obtain⟨d0,d1,d2,d3,d4,_⟩:=cells5 (HD.out _ _ N6.out)))
  go_ret;exact⟨by first|rfl|simp,N6.out.below⟩
 cases b3
 ·skip
  go_wp2_with (first
   | (go_at_call 90;(with_reducible refine Q1.out.mono ?_);rintro e w5 ⟨rfl,hnf,hs2⟩;have S5:=hid hs2;clear hs2;have N5:=hid hnf;clear hnf;obtain⟨d0,d1,d2,d3,d4,_⟩:=cells5 (HD.out _ _ N5.out))
   | (go_at_call 90;(with_reducible refine(Q2.out _ N5.out S5.out).mono ?_);rintro e w6 ⟨rfl,hnf⟩;have N6:=hid hnf;clear hnf;obtain⟨d0,d1,d2,d3,d4,_⟩:=cells5 (HD.out _ _ N6.out))
   | (go_at_call 90;(with_reducible refine(Q3.out _ N6.out).mono ?_);rintro e w7 ⟨rfl,hnf⟩;have N7:=hid hnf;clear hnf;obtain⟨d0,d1,d2,d3,d4,_⟩:=cells5 (HD.out _ _ N7.out)))
  go_ret;exact⟨by first|rfl|simp,N7.out.below⟩
 cases b4
 rotate_left
 ·skip
  go_wp2_with (first
   | (go_at_call 90;(with_reducible refine Q1.out.mono ?_);rintro e w5 ⟨rfl,hnf,hs2⟩;have S5:=hid hs2;clear hs2;have N5:=hid hnf;clear hnf;obtain⟨d0,d1,d2,d3,d4,_⟩:=cells5 (HD.out _ _ N5.out))
   | (go_at_call 90;(with_reducible refine(Q2.out _ N5.out S5.out).mono ?_);rintro e w6 ⟨rfl,hnf⟩;have N6:=hid hnf;clear hnf;obtain⟨d0,d1,d2,d3,d4,_⟩:=cells5 (HD.out _ _ N6.out))
   | (go_at_call 90;(with_reducible refine(Q3.out _ N6.out).mono ?_);rintro e w7 ⟨rfl,hnf⟩;have N7:=hid hnf;clear hnf;obtain⟨d0,d1,d2,d3,d4,_⟩:=cells5 (HD.out _ _ N7.out))
   | (go_at_call 91;(with_reducible refine(Q4.out _ _ (N7.out.alloc _) (alloc_at w7 _)).mono ?_);rintro e w8 ⟨rfl,hnf⟩;have N8:=hid hnf;clear hnf;obtain⟨d0,d1,d2,d3,d4,_⟩:=cells5 (HD.out _ _ N8.out)))
  go_ret;exact⟨by first|rfl|simp,N8.out.below⟩
 go_wp2_with (first
  | (go_at_call 90;(with_reducible refine Q1.out.mono ?_);rintro e w5 ⟨rfl,hnf,hs2⟩;have S5:=hid hs2;clear hs2;have N5:=hid hnf;clear hnf;obtain⟨d0,d1,d2,d3,d4,_⟩:=cells5 (HD.out _ _ N5.out))
  | (go_at_call 90;(with_reducible refine(Q2.out _ N5.out S5.out).mono ?_);rintro e w6 ⟨rfl,hnf⟩;have N6:=hid hnf;clear hnf;obtain⟨d0,d1,d2,d3,d4,_⟩:=cells5 (HD.out _ _ N6.out))
  | (go_at_call 90;(with_reducible refine(Q3.out _ N6.out).mono ?_);rintro e w7 ⟨rfl,hnf⟩;have N7:=hid hnf;clear hnf;obtain⟨d0,d1,d2,d3,d4,_⟩:=cells5 (HD.out _ _ N7.out))
  | (go_at_call 91;(with_reducible refine(Q4.out _ _ (N7.out.alloc _) (alloc_at w7 _)).mono ?_);rintro e w8 ⟨rfl,hnf⟩;have N8:=hid hnf;clear hnf;obtain⟨d0,d1,d2,d3,d4,_⟩:=cells5 (HD.out _ _ N8.out))
  | (go_at_call 92;(with_reducible refine(Q5.out _ N8.out).mono ?_);rintro e w9 ⟨rfl,hnf⟩;have N9:=hid hnf;clear hnf;obtain⟨d0,d1,d2,d3,d4,_⟩:=cells5 (HD.out _ _ N9.out)))
 go_ret;exact⟨by first|rfl|simp,N9.out.below⟩
def Zbip (r:RuleS):Int:=if Zpo r=false then 1 else if Zbkx r=false then 4 else if Zbac r=false then 2 else 0
theorem Zir (r:RuleS) (a1 a2 a3 a4:Option Addr) (c1 c2 c3 c4:Nat) (w:World) (hr:RuleI w [.string r.name,.slice a1 r.ins.length c1,.slice a2 r.outs.length c2,.slice a3 r.after.length c3,.slice a4 r.steps.length c4] r) (hs:SmallR r 1048576) (hm:MayW w):
  Calls prog 25 #[.agg (Zbiz r a1 a2 a3 a4 c1 c2 c3 c4)] w λe w'=>e = .returned (.int .i64 (Zbip r))/\Below w.heap.size w w':=by
 have q1:=λW (h:Below w.heap.size w W)=>Zpp r a1 a2 a3 a4 c1 c2 c3 c4 W (hr.below h) hs (hm.below h)
 have q2:=λW=>Zbky r a1 a2 a3 a4 c1 c2 c3 c4 W hs
 have q3:=λW (h:Below w.heap.size w W)=>Zbad r a1 a2 a3 a4 c1 c2 c3 c4 W (hr.below h) hs
 unfold Zbip;obtain⟨b1,g1⟩:∃b,Zpo r=b:=⟨_,rfl⟩;obtain⟨b2,g2⟩:∃b,Zbkx r=b:=⟨_,rfl⟩;obtain⟨b3,g3⟩:∃b,Zbac r=b:=⟨_,rfl⟩;rw[g1]at q1;rw[g2]at q2;rw[g3]at q3;rw[g1,g2,g3];obtain⟨name,insN,outsN,after,steps⟩:=r;simp only[Zbiz]at q1 q2 q3⊢;have Q1:=hid q1;have Q2:=hid q2;have Q3:=hid q3;obtain⟨W1,hW1⟩:∃W,w.alloc (.cells #[.string name,.slice a1 insN.length c1,.slice a2 outsN.length c2,.slice a3 after.length c3,.slice a4 steps.length c4] 37)=W:=⟨_,rfl⟩;have hb1:Below w.heap.size w W1:=by rw[<-hW1];exact(Below.refl _ _).alloc (Nat.le_refl _) _
 have hc:∀W,Below W1.heap.size W1 W->W.heap[w.heap.size]? =some (.cells #[.string name,.slice a1 insN.length c1,.slice a2 outsN.length c2,.slice a3 after.length c3,.slice a4 steps.length c4] 37):=λW h=>(h.block _ (by rw[<-hW1];simp)).trans (by rw[<-hW1];exact alloc_at w _)
 have HB1:=hid hb1;have HC:=hid hc;have HW1:=hid hW1;clear q1 q2 q3 g1 g2 g3 hr hs hm hb1 hc hW1
 go_enter func25,ntmps25
 go_wp2_with fail
 rw[HW1.out];obtain⟨d0,d1,d2,d3,d4,_⟩:=cells5 (HC.out _ (Below.refl _ _))
 cases b1
 ·skip
  go_wp2_with (first
   | (go_at_call 44;(with_reducible refine(Q1.out _ HB1.out).mono ?_);rintro e w2 ⟨rfl,hb2⟩;have HB2:=hid ((Below.refl W1.heap.size W1).trans (hb2.mono (Below.refl W1.heap.size W1).size));clear hb2;obtain⟨d0,d1,d2,d3,d4,_⟩:=cells5 (HC.out _ HB2.out)))
  go_ret;exact⟨by first|rfl|simp,HB1.out.trans (HB2.out.mono HB1.out.size)⟩
 cases b2
 ·skip
  go_wp2_with (first
   | (go_at_call 44;(with_reducible refine(Q1.out _ HB1.out).mono ?_);rintro e w2 ⟨rfl,hb2⟩;have HB2:=hid ((Below.refl W1.heap.size W1).trans (hb2.mono (Below.refl W1.heap.size W1).size));clear hb2;obtain⟨d0,d1,d2,d3,d4,_⟩:=cells5 (HC.out _ HB2.out))
   | (go_at_call 45;(with_reducible refine(Q2.out _).mono ?_);rintro e w3 ⟨rfl,hb3⟩;have HB3:=hid (HB2.out.trans (hb3.mono HB2.out.size));clear hb3;obtain⟨d0,d1,d2,d3,d4,_⟩:=cells5 (HC.out _ HB3.out)))
  go_ret;exact⟨by first|rfl|simp,HB1.out.trans (HB3.out.mono HB1.out.size)⟩
 cases b3
 ·skip
  go_wp2_with (first
   | (go_at_call 44;(with_reducible refine(Q1.out _ HB1.out).mono ?_);rintro e w2 ⟨rfl,hb2⟩;have HB2:=hid ((Below.refl W1.heap.size W1).trans (hb2.mono (Below.refl W1.heap.size W1).size));clear hb2;obtain⟨d0,d1,d2,d3,d4,_⟩:=cells5 (HC.out _ HB2.out))
   | (go_at_call 45;(with_reducible refine(Q2.out _).mono ?_);rintro e w3 ⟨rfl,hb3⟩;have HB3:=hid (HB2.out.trans (hb3.mono HB2.out.size));clear hb3;obtain⟨d0,d1,d2,d3,d4,_⟩:=cells5 (HC.out _ HB3.out))
   | (go_at_call 46;(with_reducible refine(Q3.out _ (HB1.out.trans (HB3.out.mono HB1.out.size))).mono ?_);rintro e w4 ⟨rfl,hb4⟩;have HB4:=hid (HB3.out.trans (hb4.mono HB3.out.size));clear hb4;obtain⟨d0,d1,d2,d3,d4,_⟩:=cells5 (HC.out _ HB4.out)))
  go_ret;exact⟨by first|rfl|simp,HB1.out.trans (HB4.out.mono HB1.out.size)⟩
 go_wp2_with (first
  | (go_at_call 44;(with_reducible refine(Q1.out _ HB1.out).mono ?_);rintro e w2 ⟨rfl,hb2⟩;have HB2:=hid ((Below.refl W1.heap.size W1).trans (hb2.mono (Below.refl W1.heap.size W1).size));clear hb2;obtain⟨d0,d1,d2,d3,d4,_⟩:=cells5 (HC.out _ HB2.out))
  | (go_at_call 45;(with_reducible refine(Q2.out _).mono ?_);rintro e w3 ⟨rfl,hb3⟩;have HB3:=hid (HB2.out.trans (hb3.mono HB2.out.size));clear hb3;obtain⟨d0,d1,d2,d3,d4,_⟩:=cells5 (HC.out _ HB3.out))
  | (go_at_call 46;(with_reducible refine(Q3.out _ (HB1.out.trans (HB3.out.mono HB1.out.size))).mono ?_);rintro e w4 ⟨rfl,hb4⟩;have HB4:=hid (HB3.out.trans (hb4.mono HB3.out.size));clear hb4;obtain⟨d0,d1,d2,d3,d4,_⟩:=cells5 (HC.out _ HB4.out)))
 go_ret;exact⟨by first|rfl|simp,HB1.out.trans (HB4.out.mono HB1.out.size)⟩
end Go.Proofs.YtcpjfpdecklkgaaGreatDoor
