import Derived.Test.YtcpjfpdecklkgaaGreatDoorMaz
namespace Go.Proofs.YtcpjfpdecklkgaaGreatDoor
open Go.Lib (hid)
open Go.Proofs.Tryz
open Go.RowKit Go.Shelf Go.Maps
def okN (x:ByteArray):Bool:=Zbcf x.data.toList
def Zbnm (x:StepS):Bool:=mayB x&&okN x.out&&x.args.all okN
def Zpo (r:RuleS):Bool:=okN r.name&&r.ins.all okN&&decide (0<r.outs.length)&&r.outs.all okN&&r.after.all okN&&r.steps.all Zbnm
def Zbkx (r:RuleS):Bool:=decide (r.ins.length<=8)&&decide (r.outs.length<=4)&&decide (r.after.length<=8)&&decide (r.steps.length<=12)
def MayW (w:World):Prop:=∃m,w.cell? ⟨1,0,none⟩=some (.int .i64 m)
theorem Zic {w:World} {b k:Nat} {v:Value} (h:w.cell? ⟨b,k,none⟩=some v):b<w.heap.size:=by
 cases hb:w.heap[b]? with
 | none=>simp[World.cell?,hb]at h
 | some o=>exact(Array.getElem?_eq_some_iff.1 hb).1
theorem Zblx {ks:List ByteArray} (h:SmallL ks 1048576):∀k∈ks,k.size<=maxLen:=λk hk=>by have:=h.2 k hk;unfold maxLen;omega
theorem MayW.below {w w':World} (h:MayW w) (hb:Below w.heap.size w w'):MayW w':=by
 obtain⟨m,h⟩:=h;exact⟨m,(hb.cell (p:=⟨_,0,none⟩) (Zic h)).trans h⟩
set_option maxHeartbeats 4000000
set_option maxRecDepth 100000
theorem Zyx (s:ByteArray) (w:World) (hs:s.size<=maxLen) (hm:MayW w):Calls prog 68 #[.string s] w λe w'=>e = .returned (.bool (okN s))/\Below w.heap.size w w':=by
 obtain⟨m,h⟩:=hm;exact Zzb s m w hs h
theorem Zyr (s:ByteArray) (w:World) (hs:s.size<=maxLen) (hm:MayW w):Calls prog 143 #[.string s] w λe w'=>e = .returned (.bool (!okN s))/\Below w.heap.size w w':=by
 have C:=hid (Zyx s w hs hm);clear hs hm
 go_enter func143,ntmps143
 go_wp2_with (go_at_call 68;refine C.out.mono ?_;rintro e w2 ⟨rfl,hb2⟩)
 go_ret;exact⟨rfl,hb2⟩
theorem Zys (v:Value) (xs:List ByteArray) (w:World) (hv:IsStrs w v xs) (hs:∀x∈xs,x.size<=maxLen) (hm:MayW w):Calls prog 86 #[v] w λe w'=>e = .returned (.bool (xs.all okN))/\Below w.heap.size w w':=by
 have cC:=Zki 143 #[] (enters_of func143 (by kernel_rfl) rfl) v xs (λx=> !okN x) w.heap.size w (Nat.le_refl _) (λW hW=>hv.below hW) (λx hx W hW=>Zyr x W (hs x hx) (hm.below hW));have e:(!xs.any λx=> !okN x)=xs.all okN:=by rw[<-List.not_all_eq_any_not];simp
 obtain⟨r,hr⟩:∃r,(xs.any λx=> !okN x)=r:=⟨_,rfl⟩;rw[hr]at cC e;rw[<-e];have CC:=hid cC;clear hv hs hm cC e hr
 go_enter func86,ntmps86
 go_wp2_with (go_at_call 93;refine CC.out.mono ?_;rintro e w2 ⟨rfl,hb2⟩)
 go_ret;exact⟨rfl,hb2⟩
theorem Zbnn (x:StepS) (a1 a2:Option Addr) (c1 c2:Nat) (w:World) (ha:IsStrs w (.slice a1 x.args.length c1) x.args) (hl:IsStrs w (.slice a2 x.lits.length c2) x.lits) (hs:SmallS x 1048576) (hm:MayW w):
  Calls prog 89 #[.agg #[.string x.out,.int .i64 x.op,.slice a1 x.args.length c1,.slice a2 x.lits.length c2,.int .i64 x.n]] w λe w'=>e = .returned (.bool (Zbnm x))/\Below w.heap.size w w':=by
 obtain⟨W1,hW1⟩:∃W1,w.alloc (.cells #[.string x.out,.int .i64 x.op,.slice a1 x.args.length c1,.slice a2 x.lits.length c2,.int .i64 x.n] 34)=W1:=⟨_,rfl⟩;have hb:Below w.heap.size w W1:=by rw[<-hW1];exact(Below.refl _ _).alloc (Nat.le_refl _) _
 have hc:W1.heap[w.heap.size]? =some (.cells #[.string x.out,.int .i64 x.op,.slice a1 x.args.length c1,.slice a2 x.lits.length c2,.int .i64 x.n] 34):=by rw[<-hW1];exact alloc_at w _
 have hs1:W1.heap.size=w.heap.size+1:=by rw[<-hW1];simp
 have hD:∀W,Below W1.heap.size W1 W->W.heap[w.heap.size]? =some (.cells #[.string x.out,.int .i64 x.op,.slice a1 x.args.length c1,.slice a2 x.lits.length c2,.int .i64 x.n] 34):=λW h=>(h.block _ (by omega)).trans hc
 have q0:∀W,Below W1.heap.size W1 W->Calls prog 26 #[.agg #[.string x.out,.int .i64 x.op,.slice a1 x.args.length c1,.slice a2 x.lits.length c2,.int .i64 x.n]] W λe w'=>e = .returned (.bool (mayB x))/\Below W1.heap.size W1 w':=λW h=>(Zbnr x a1 a2 c1 c2 W (ha.below (hb.trans (h.mono hb.size))) (hl.below (hb.trans (h.mono hb.size)))).mono λe w' r=>⟨r.1,h.trans (r.2.mono h.size)⟩
 have q1:∀W,Below W1.heap.size W1 W->Calls prog 68 #[.string x.out] W λe w'=>e = .returned (.bool (okN x.out))/\Below W1.heap.size W1 w':=λW h=>(Zyx x.out W (by have:=hs.out;unfold maxLen;omega) (hm.below (hb.trans (h.mono hb.size)))).mono λe w' r=>⟨r.1,h.trans (r.2.mono h.size)⟩
 have q2:∀W,Below W1.heap.size W1 W->Calls prog 86 #[.slice a1 x.args.length c1] W λe w'=>e = .returned (.bool (x.args.all okN))/\Below W1.heap.size W1 w':=λW h=>(Zys _ x.args W (ha.below (hb.trans (h.mono hb.size))) (Zblx hs.args) (hm.below (hb.trans (h.mono hb.size)))).mono λe w' r=>⟨r.1,h.trans (r.2.mono h.size)⟩
 unfold Zbnm;obtain⟨b0,h0⟩:∃b,mayB x=b:=⟨_,rfl⟩;obtain⟨b1,h1⟩:∃b,okN x.out=b:=⟨_,rfl⟩;obtain⟨b2,h2⟩:∃b,x.args.all okN=b:=⟨_,rfl⟩;rw[h0]at q0;rw[h1]at q1;rw[h2]at q2;rw[h0,h1,h2];obtain⟨out,op,args,lits,n⟩:=x;simp only at q0 q1 q2 hD hb hW1⊢;have Q0:=hid q0;have Q1:=hid q1;have Q2:=hid q2;have HB:=hid hb;have HD:=hid hD;have HW:=hid hW1;clear q0 q1 q2 hb hD hW1 h0 h1 h2 ha hl hs hm hc hs1
 go_enter func89,ntmps89
 go_wp2_with fail
 rw[HW.out];have R1:Hid (Below W1.heap.size W1 W1):=hid (Below.refl _ _);obtain⟨d0,d1,d2,d3,d4,_⟩:=cells5 (HD.out W1 R1.out)
 cases b0
 ·go_wp2_with (first
   | (go_at_call 26;(with_reducible refine(Q0.out _ R1.out).mono ?_);rintro e w2 ⟨rfl,hb2⟩;have HB2:=hid hb2;obtain⟨d0,d1,d2,d3,d4,_⟩:=cells5 <| HD.out _ HB2.out;clear hb2))
  go_ret;exact⟨rfl,HB.out.trans (HB2.out.mono HB.out.size)⟩
 cases b1
 ·go_wp2_with (first
   | (go_at_call 26;(with_reducible refine(Q0.out _ R1.out).mono ?_);rintro e w2 ⟨rfl,hb2⟩;have HB2:=hid hb2;obtain⟨d0,d1,d2,d3,d4,_⟩:=cells5 <| HD.out _ HB2.out;clear hb2)
   | (go_at_call 68;(with_reducible refine(Q1.out _ HB2.out).mono ?_);rintro e w3 ⟨rfl,hb3⟩;have HB3:=hid hb3;obtain⟨d0,d1,d2,d3,d4,_⟩:=cells5 <| HD.out _ HB3.out;clear hb3))
  go_ret;exact⟨rfl,HB.out.trans (HB3.out.mono HB.out.size)⟩
 cases b2
 ·go_wp2_with (first
   | (go_at_call 26;(with_reducible refine(Q0.out _ R1.out).mono ?_);rintro e w2 ⟨rfl,hb2⟩;have HB2:=hid hb2;obtain⟨d0,d1,d2,d3,d4,_⟩:=cells5 <| HD.out _ HB2.out;clear hb2)
   | (go_at_call 68;(with_reducible refine(Q1.out _ HB2.out).mono ?_);rintro e w3 ⟨rfl,hb3⟩;have HB3:=hid hb3;obtain⟨d0,d1,d2,d3,d4,_⟩:=cells5 <| HD.out _ HB3.out;clear hb3)
   | (go_at_call 86;(with_reducible refine(Q2.out _ HB3.out).mono ?_);rintro e w4 ⟨rfl,hb4⟩;have HB4:=hid hb4;obtain⟨d0,d1,d2,d3,d4,_⟩:=cells5 <| HD.out _ HB4.out;clear hb4))
  go_ret;exact⟨rfl,HB.out.trans (HB4.out.mono HB.out.size)⟩
 go_wp2_with (first
  | (go_at_call 26;(with_reducible refine(Q0.out _ R1.out).mono ?_);rintro e w2 ⟨rfl,hb2⟩;have HB2:=hid hb2;obtain⟨d0,d1,d2,d3,d4,_⟩:=cells5 <| HD.out _ HB2.out;clear hb2)
  | (go_at_call 68;(with_reducible refine(Q1.out _ HB2.out).mono ?_);rintro e w3 ⟨rfl,hb3⟩;have HB3:=hid hb3;obtain⟨d0,d1,d2,d3,d4,_⟩:=cells5 <| HD.out _ HB3.out;clear hb3)
  | (go_at_call 86;(with_reducible refine(Q2.out _ HB3.out).mono ?_);rintro e w4 ⟨rfl,hb4⟩;have HB4:=hid hb4;obtain⟨d0,d1,d2,d3,d4,_⟩:=cells5 <| HD.out _ HB4.out;clear hb4))
 go_ret;exact⟨rfl,HB.out.trans (HB4.out.mono HB.out.size)⟩
theorem Zbnl (x:StepS) (a1 a2:Option Addr) (c1 c2:Nat) (w:World) (ha:IsStrs w (.slice a1 x.args.length c1) x.args) (hl:IsStrs w (.slice a2 x.lits.length c2) x.lits) (hs:SmallS x 1048576) (hm:MayW w):
  Calls prog 88 #[.agg #[.string x.out,.int .i64 x.op,.slice a1 x.args.length c1,.slice a2 x.lits.length c2,.int .i64 x.n]] w λe w'=>e = .returned (.bool (!Zbnm x))/\Below w.heap.size w w':=by
 obtain⟨W1,hW1⟩:∃W1,w.alloc (.cells #[.string x.out,.int .i64 x.op,.slice a1 x.args.length c1,.slice a2 x.lits.length c2,.int .i64 x.n] 34)=W1:=⟨_,rfl⟩;have hb:Below w.heap.size w W1:=by rw[<-hW1];exact(Below.refl _ _).alloc (Nat.le_refl _) _
 have hc:W1.heap[w.heap.size]? =some (.cells #[.string x.out,.int .i64 x.op,.slice a1 x.args.length c1,.slice a2 x.lits.length c2,.int .i64 x.n] 34):=by rw[<-hW1];exact alloc_at w _
 obtain⟨d0,d1,d2,d3,d4,_⟩:=cells5 hc;have C:=hid (Zbnn x a1 a2 c1 c2 W1 (ha.below hb) (hl.below hb) hs (hm.below hb));obtain⟨b0,h0⟩:∃b,Zbnm x=b:=⟨_,rfl⟩;rw[h0]at C⊢;obtain⟨out,op,args,lits,n⟩:=x;simp only at C d0 d1 d2 d3 d4 hW1⊢;have HB:=hid hb;have HW:=hid hW1;clear hb hW1 hc ha hl hs hm h0
 go_enter func88,ntmps88
 go_wp2_with (go_at_call 89;rw[HW.out];(with_reducible refine C.out.mono ?_);rintro e w2 ⟨rfl,hb2⟩)
 go_ret;exact⟨rfl,HB.out.trans (hb2.mono HB.out.size)⟩
theorem Zdn (xs:List StepS) (q:StepS->Bool) (p:Nat->Bool) (h:∀(k:Nat) x,xs[k]? =some x->p k=q x):(List.range xs.length).any p=xs.any q:=by
 rw[Bool.eq_iff_iff,List.any_eq_true,List.any_eq_true];constructor
 ·rintro⟨k,hk,hp⟩
  have hk:=List.mem_range.1 hk;exact⟨xs[k],List.getElem_mem hk,by rw[<-h k _ (List.getElem?_eq_getElem hk)];exact hp⟩
 ·rintro⟨x,hx,hp⟩
  obtain⟨k,hk,e⟩:=List.getElem_of_mem hx;exact⟨k,List.mem_range.2 hk,by rw[h k x (by rw[List.getElem?_eq_getElem hk,e])];exact hp⟩
theorem Zkh (fid:Nat) (caps:Array Value) (eg:∀args w,(callFunc fid args).run prog w = .ok (.enter fid args) w) (v:Value) (xs:List StepS) (q:StepS->Bool) (w:World) (hv:StepsI w v xs)
  (hf:∀x∈xs,∀(a1 a2:Option Addr) (c1 c2:Nat) W,Below w.heap.size w W->IsStrs W (.slice a1 x.args.length c1) x.args->IsStrs W (.slice a2 x.lits.length c2) x.lits->Calls prog fid (#[.agg #[.string x.out,.int .i64 x.op,.slice a1 x.args.length c1,.slice a2 x.lits.length c2,.int .i64 x.n]]++caps) W λe W'=>e = .returned (.bool (q x))/\Below W.heap.size W W'):
  Calls prog 87 #[v,.func (.func fid) #[] caps] w λe w'=>e = .returned (.bool (xs.any q))/\Below w.heap.size w w':=by
 obtain⟨rows,hrow,hall⟩:=hv;obtain⟨a,c,rfl,h1,h2,h3⟩:=id hrow;have hq:∀(k:Nat) x,xs[k]? =some x->∃r,rows[k]? =some r/\Zcc w r x:=by
  intro k x hx;have hk:k<rows.length:=by rw[hall.1];exact(List.getElem?_eq_some_iff.1 hx).1
  exact⟨rows[k],List.getElem?_eq_getElem hk,hall.2 k _ x (List.getElem?_eq_getElem hk) hx⟩
 have hx:∀(k:Nat),k<rows.length->∃x,xs[k]? =some x:=λk hk=>⟨xs[k]'(by rw[<-hall.1];exact hk),List.getElem?_eq_getElem _⟩
 refine(Zkj fid caps eg a rows.length c (Nat.le_trans h1 h2) (λk=>(rows.getD k []).getD 0 undef) (λk=>(rows.getD k []).getD 1 undef) (λk=>(rows.getD k []).getD 2 undef) (λk=>(rows.getD k []).getD 3 undef) (λk=>(rows.getD k []).getD 4 undef) (λk=>(xs[k]?.map q).getD false) (λ_ W=>Below w.heap.size w W) w (λk W hk hW=>?_) (λk W hk _ hW=>?_) (Below.refl _ _)).mono ?_
 ·obtain⟨x,hkx⟩:=hx k hk
  obtain⟨r,hr,va,vl,e5,_,_⟩:=hq k x hkx;obtain⟨b,o,rfl,hb,hc⟩:=h3 (by rintro rfl;simp at hk);refine⟨b,o,rfl,?_⟩;have hgd:rows.getD k []=r:=by rw[List.getD_eq_getElem?_getD,hr];rfl
  have hcc:∀(i:Nat) u,r[i]? =some u->W.cell? ⟨b,o+k*5+i,none⟩=some u:=λi u hu=>(hW.cell (p:=⟨b,_,none⟩) hb).trans (hc k r hr i u hu)
  simp only[hgd];subst e5;exact⟨hcc 0 _ rfl,hcc 1 _ rfl,hcc 2 _ rfl,hcc 3 _ rfl,hcc 4 _ rfl⟩
 ·obtain⟨x,hkx⟩:=hx k hk
  obtain⟨r,hr,va,vl,e5,hA,hL⟩:=hq k x hkx;obtain⟨b1,m1,rfl⟩:=Zue hA;obtain⟨b2,m2,rfl⟩:=Zue hL;have hgd:rows.getD k []=r:=by rw[List.getD_eq_getElem?_getD,hr];rfl
  simp only[hgd];subst e5;refine(hf x (List.mem_of_getElem? hkx) b1 b2 m1 m2 W hW (hA.below hW) (hL.below hW)).mono ?_;rintro e W' ⟨rfl,hb⟩;exact⟨by rw[hkx];rfl,hW.trans (hb.mono hW.size)⟩
 ·intro e w' h
  obtain⟨rfl,k,_,hb⟩:=h.any;exact⟨by rw[hall.1,Zdn xs q _ (λk x hkx=>by rw[hkx];rfl)],hb⟩
theorem Zpp (r:RuleS) (a1 a2 a3 a4:Option Addr) (c1 c2 c3 c4:Nat) (w:World) (hr:RuleI w [.string r.name,.slice a1 r.ins.length c1,.slice a2 r.outs.length c2,.slice a3 r.after.length c3,.slice a4 r.steps.length c4] r) (hs:SmallR r 1048576) (hm:MayW w):
  Calls prog 44 #[.agg (Zbiz r a1 a2 a3 a4 c1 c2 c3 c4)] w λe w'=>e = .returned (.bool (Zpo r))/\Below w.heap.size w w':=by
 obtain⟨vi,vo,vf,vst,qe,h1,h2,h3,h4⟩:=hr;simp only[List.cons.injEq,and_true,true_and]at qe;obtain⟨rfl,rfl,rfl,rfl⟩:=qe;obtain⟨W1,hW1⟩:∃W1,w.alloc (.cells (Zbiz r a1 a2 a3 a4 c1 c2 c3 c4) 37)=W1:=⟨_,rfl⟩;have hb:Below w.heap.size w W1:=by rw[<-hW1];exact(Below.refl _ _).alloc (Nat.le_refl _) _
 have hc:W1.heap[w.heap.size]? =some (.cells (Zbiz r a1 a2 a3 a4 c1 c2 c3 c4) 37):=by rw[<-hW1];exact alloc_at w _
 have hs1:W1.heap.size=w.heap.size+1:=by rw[<-hW1];simp
 have hD:∀W,Below W1.heap.size W1 W->W.heap[w.heap.size]? =some (.cells (Zbiz r a1 a2 a3 a4 c1 c2 c3 c4) 37):=λW h=>(h.block _ (by omega)).trans hc
 have q0:∀W,Below W1.heap.size W1 W->Calls prog 68 #[.string r.name] W λe w'=>e = .returned (.bool (okN r.name))/\Below W1.heap.size W1 w':=λW h=>(Zyx r.name W (by have:=hs.name;unfold maxLen;omega) (hm.below (hb.trans (h.mono hb.size)))).mono λe w' r=>⟨r.1,h.trans (r.2.mono h.size)⟩
 have q1:∀W,Below W1.heap.size W1 W->Calls prog 86 #[.slice a1 r.ins.length c1] W λe w'=>e = .returned (.bool (r.ins.all okN))/\Below W1.heap.size W1 w':=λW h=>(Zys _ r.ins W (h1.below (hb.trans (h.mono hb.size))) (Zblx hs.ins) (hm.below (hb.trans (h.mono hb.size)))).mono λe w' r=>⟨r.1,h.trans (r.2.mono h.size)⟩
 have q3:∀W,Below W1.heap.size W1 W->Calls prog 86 #[.slice a2 r.outs.length c2] W λe w'=>e = .returned (.bool (r.outs.all okN))/\Below W1.heap.size W1 w':=λW h=>(Zys _ r.outs W (h2.below (hb.trans (h.mono hb.size))) (Zblx hs.outs) (hm.below (hb.trans (h.mono hb.size)))).mono λe w' r=>⟨r.1,h.trans (r.2.mono h.size)⟩
 have q4:∀W,Below W1.heap.size W1 W->Calls prog 86 #[.slice a3 r.after.length c3] W λe w'=>e = .returned (.bool (r.after.all okN))/\Below W1.heap.size W1 w':=λW h=>(Zys _ r.after W (h3.below (hb.trans (h.mono hb.size))) (Zblx hs.after) (hm.below (hb.trans (h.mono hb.size)))).mono λe w' r=>⟨r.1,h.trans (r.2.mono h.size)⟩
 have q5:∀W,Below W1.heap.size W1 W->Calls prog 87 #[.slice a4 r.steps.length c4,.func (.func 88) #[] #[]] W λe w'=>e = .returned (.bool (r.steps.any λx=> !Zbnm x))/\Below W1.heap.size W1 w':=λW h=>(Zkh 88 #[] (enters_of func88 (by kernel_rfl) rfl) _ r.steps (λx=> !Zbnm x) W (h4.below (hb.trans (h.mono hb.size))) (λx hx a1 a2 c1 c2 W2 hW2 hA hL=>Zbnl x a1 a2 c1 c2 W2 hA hL (hs.steps x hx) ((hm.below (hb.trans (h.mono hb.size))).below hW2))).mono λe w' r=>⟨r.1,h.trans (r.2.mono h.size)⟩
 have e5:(!r.steps.any λx=> !Zbnm x)=r.steps.all Zbnm:=by rw[<-List.not_all_eq_any_not];simp
 have houts:r.outs.length<=1048576:=hs.outs.1;unfold Zpo;rw[<-e5];obtain⟨b0,h0⟩:∃b,okN r.name=b:=⟨_,rfl⟩;obtain⟨b1,g1⟩:∃b,r.ins.all okN=b:=⟨_,rfl⟩;obtain⟨b2,g2⟩:∃b,decide (0<r.outs.length)=b:=⟨_,rfl⟩;obtain⟨b3,g3⟩:∃b,r.outs.all okN=b:=⟨_,rfl⟩;obtain⟨b4,g4⟩:∃b,r.after.all okN=b:=⟨_,rfl⟩;obtain⟨b5,g5⟩:∃b,(r.steps.any λx=> !Zbnm x)=b:=⟨_,rfl⟩;rw[h0]at q0;rw[g1]at q1;rw[g3]at q3;rw[g4]at q4;rw[g5]at q5;rw[h0,g1,g2,g3,g4,g5];obtain⟨name,insN,outsN,after,steps⟩:=r;simp only[Zbiz]at q0 q1 q3 q4 q5 hD hb hW1 houts g2⊢;have Q0:=hid q0;have Q1:=hid q1;have Q3:=hid q3;have Q4:=hid q4;have Q5:=hid q5;have HB:=hid hb;have HD:=hid hD;have HW:=hid hW1;clear q0 q1 q3 q4 q5 hb hD hW1 h0 g1 g3 g4 g5 h1 h2 h3 h4 hs hm hc hs1 e5;have hmf:∀(fn:Fn) (first cap:Array Value) (w:World),(Instr.makeFunc fn first cap).run prog w = .ok (.func fn first cap) w:=λ_ _ _ _=>rfl
 go_enter func44,ntmps44
 go_wp2_with fail
 rw[HW.out];have R1:Hid (Below W1.heap.size W1 W1):=hid (Below.refl _ _);obtain⟨d0,d1,d2,d3,d4,_⟩:=cells5 (HD.out W1 R1.out)
 cases b0
 ·go_wp2_with (first
   | (go_at_call 68;(with_reducible refine(Q0.out _ R1.out).mono ?_);rintro e w2 ⟨rfl,hb2⟩;have HB2:=hid hb2;obtain⟨d0,d1,d2,d3,d4,_⟩:=cells5 <| HD.out _ HB2.out;clear hb2))
  go_ret;exact⟨rfl,HB.out.trans (HB2.out.mono HB.out.size)⟩
 cases b1
 ·go_wp2_with (first
   | (go_at_call 68;(with_reducible refine(Q0.out _ R1.out).mono ?_);rintro e w2 ⟨rfl,hb2⟩;have HB2:=hid hb2;obtain⟨d0,d1,d2,d3,d4,_⟩:=cells5 <| HD.out _ HB2.out;clear hb2)
   | (go_at_call 86;(with_reducible refine(Q1.out _ HB2.out).mono ?_);rintro e w3 ⟨rfl,hb3⟩;have HB3:=hid hb3;obtain⟨d0,d1,d2,d3,d4,_⟩:=cells5 <| HD.out _ HB3.out;clear hb3))
  go_ret;exact⟨rfl,HB.out.trans (HB3.out.mono HB.out.size)⟩
 cases b2
 ·have hzi:¬(0:Int)<(outsN.length:Int):=by have:=of_decide_eq_false g2;omega
  go_wp2_with (first
   | (go_at_call 68;(with_reducible refine(Q0.out _ R1.out).mono ?_);rintro e w2 ⟨rfl,hb2⟩;have HB2:=hid hb2;obtain⟨d0,d1,d2,d3,d4,_⟩:=cells5 <| HD.out _ HB2.out;clear hb2)
   | (go_at_call 86;(with_reducible refine(Q1.out _ HB2.out).mono ?_);rintro e w3 ⟨rfl,hb3⟩;have HB3:=hid hb3;obtain⟨d0,d1,d2,d3,d4,_⟩:=cells5 <| HD.out _ HB3.out;clear hb3))
  go_ret;exact⟨rfl,HB.out.trans (HB3.out.mono HB.out.size)⟩
 have hzi:(0:Int)<(outsN.length:Int):=by have:=of_decide_eq_true g2;omega
 cases b3
 ·go_wp2_with (first
   | (go_at_call 68;(with_reducible refine(Q0.out _ R1.out).mono ?_);rintro e w2 ⟨rfl,hb2⟩;have HB2:=hid hb2;obtain⟨d0,d1,d2,d3,d4,_⟩:=cells5 <| HD.out _ HB2.out;clear hb2)
   | (go_at_call 86;(with_reducible refine(Q1.out _ HB2.out).mono ?_);rintro e w3 ⟨rfl,hb3⟩;have HB3:=hid hb3;obtain⟨d0,d1,d2,d3,d4,_⟩:=cells5 <| HD.out _ HB3.out;clear hb3)
   | (go_at_call 86;(with_reducible refine(Q3.out _ HB3.out).mono ?_);rintro e w5 ⟨rfl,hb5⟩;have HB5:=hid hb5;obtain⟨d0,d1,d2,d3,d4,_⟩:=cells5 <| HD.out _ HB5.out;clear hb5))
  go_ret;exact⟨rfl,HB.out.trans (HB5.out.mono HB.out.size)⟩
 cases b4
 ·go_wp2_with (first
   | (go_at_call 68;(with_reducible refine(Q0.out _ R1.out).mono ?_);rintro e w2 ⟨rfl,hb2⟩;have HB2:=hid hb2;obtain⟨d0,d1,d2,d3,d4,_⟩:=cells5 <| HD.out _ HB2.out;clear hb2)
   | (go_at_call 86;(with_reducible refine(Q1.out _ HB2.out).mono ?_);rintro e w3 ⟨rfl,hb3⟩;have HB3:=hid hb3;obtain⟨d0,d1,d2,d3,d4,_⟩:=cells5 <| HD.out _ HB3.out;clear hb3)
   | (go_at_call 86;(with_reducible refine(Q3.out _ HB3.out).mono ?_);rintro e w5 ⟨rfl,hb5⟩;have HB5:=hid hb5;obtain⟨d0,d1,d2,d3,d4,_⟩:=cells5 <| HD.out _ HB5.out;clear hb5)
   | (go_at_call 86;(with_reducible refine(Q4.out _ HB5.out).mono ?_);rintro e w6 ⟨rfl,hb6⟩;have HB6:=hid hb6;obtain⟨d0,d1,d2,d3,d4,_⟩:=cells5 <| HD.out _ HB6.out;clear hb6))
  go_ret;exact⟨rfl,HB.out.trans (HB6.out.mono HB.out.size)⟩
 cases b5
 ·go_wp2_with (first
   | (go_at_call 68;(with_reducible refine(Q0.out _ R1.out).mono ?_);rintro e w2 ⟨rfl,hb2⟩;have HB2:=hid hb2;obtain⟨d0,d1,d2,d3,d4,_⟩:=cells5 <| HD.out _ HB2.out;clear hb2)
   | (go_at_call 86;(with_reducible refine(Q1.out _ HB2.out).mono ?_);rintro e w3 ⟨rfl,hb3⟩;have HB3:=hid hb3;obtain⟨d0,d1,d2,d3,d4,_⟩:=cells5 <| HD.out _ HB3.out;clear hb3)
   | (go_at_call 86;(with_reducible refine(Q3.out _ HB3.out).mono ?_);rintro e w5 ⟨rfl,hb5⟩;have HB5:=hid hb5;obtain⟨d0,d1,d2,d3,d4,_⟩:=cells5 <| HD.out _ HB5.out;clear hb5)
   | (go_at_call 86;(with_reducible refine(Q4.out _ HB5.out).mono ?_);rintro e w6 ⟨rfl,hb6⟩;have HB6:=hid hb6;obtain⟨d0,d1,d2,d3,d4,_⟩:=cells5 <| HD.out _ HB6.out;clear hb6)
   | (go_at_call 87;(with_reducible refine(Q5.out _ HB6.out).mono ?_);rintro e w7 ⟨rfl,hb7⟩;have HB7:=hid hb7;obtain⟨d0,d1,d2,d3,d4,_⟩:=cells5 <| HD.out _ HB7.out;clear hb7))
  go_ret;exact⟨rfl,HB.out.trans (HB7.out.mono HB.out.size)⟩
 go_wp2_with (first
  | (go_at_call 68;(with_reducible refine(Q0.out _ R1.out).mono ?_);rintro e w2 ⟨rfl,hb2⟩;have HB2:=hid hb2;obtain⟨d0,d1,d2,d3,d4,_⟩:=cells5 <| HD.out _ HB2.out;clear hb2)
  | (go_at_call 86;(with_reducible refine(Q1.out _ HB2.out).mono ?_);rintro e w3 ⟨rfl,hb3⟩;have HB3:=hid hb3;obtain⟨d0,d1,d2,d3,d4,_⟩:=cells5 <| HD.out _ HB3.out;clear hb3)
  | (go_at_call 86;(with_reducible refine(Q3.out _ HB3.out).mono ?_);rintro e w5 ⟨rfl,hb5⟩;have HB5:=hid hb5;obtain⟨d0,d1,d2,d3,d4,_⟩:=cells5 <| HD.out _ HB5.out;clear hb5)
  | (go_at_call 86;(with_reducible refine(Q4.out _ HB5.out).mono ?_);rintro e w6 ⟨rfl,hb6⟩;have HB6:=hid hb6;obtain⟨d0,d1,d2,d3,d4,_⟩:=cells5 <| HD.out _ HB6.out;clear hb6)
  | (go_at_call 87;(with_reducible refine(Q5.out _ HB6.out).mono ?_);rintro e w7 ⟨rfl,hb7⟩;have HB7:=hid hb7;obtain⟨d0,d1,d2,d3,d4,_⟩:=cells5 <| HD.out _ HB7.out;clear hb7))
 go_ret;exact⟨rfl,HB.out.trans (HB7.out.mono HB.out.size)⟩
theorem Zbky (r:RuleS) (a1 a2 a3 a4:Option Addr) (c1 c2 c3 c4:Nat) (w:World) (hs:SmallR r 1048576):
  Calls prog 45 #[.agg (Zbiz r a1 a2 a3 a4 c1 c2 c3 c4)] w λe w'=>e = .returned (.bool (Zbkx r))/\Below w.heap.size w w':=by
 have hl1:=hs.ins.1;have hl2:=hs.outs.1;have hl3:=hs.after.1;have hl4:=hs.few;unfold Zbkx;obtain⟨b1,g1⟩:∃b,decide (r.ins.length<=8)=b:=⟨_,rfl⟩;obtain⟨b2,g2⟩:∃b,decide (r.outs.length<=4)=b:=⟨_,rfl⟩;obtain⟨b3,g3⟩:∃b,decide (r.after.length<=8)=b:=⟨_,rfl⟩;obtain⟨b4,g4⟩:∃b,decide (r.steps.length<=12)=b:=⟨_,rfl⟩;rw[g1,g2,g3,g4];obtain⟨name,insN,outsN,after,steps⟩:=r;simp only[Zbiz]at g1 g2 g3 g4 hl1 hl2 hl3 hl4⊢;clear hs
 cases b1
 ·have h1:¬(insN.length:Int)<=8:=by have:=of_decide_eq_false g1;omega
  go_enter func45,ntmps45
  go_wp2;go_ret;exact⟨rfl,(Below.refl _ _).alloc (Nat.le_refl _) _⟩
 have h1:(insN.length:Int)<=8:=by have:=of_decide_eq_true g1;omega
 cases b2
 ·have h2:¬(outsN.length:Int)<=4:=by have:=of_decide_eq_false g2;omega
  go_enter func45,ntmps45
  go_wp2;go_ret;exact⟨rfl,(Below.refl _ _).alloc (Nat.le_refl _) _⟩
 have h2:(outsN.length:Int)<=4:=by have:=of_decide_eq_true g2;omega
 cases b3
 ·have h3:¬(after.length:Int)<=8:=by have:=of_decide_eq_false g3;omega
  go_enter func45,ntmps45
  go_wp2;go_ret;exact⟨rfl,(Below.refl _ _).alloc (Nat.le_refl _) _⟩
 have h3:(after.length:Int)<=8:=by have:=of_decide_eq_true g3;omega
 have h4:decide ((steps.length:Int)<=12)=b4:=by rw[<-g4,Bool.eq_iff_iff,decide_eq_true_eq,decide_eq_true_eq];omega
 have H4:=hid h4;clear h4 g4
 go_enter func45,ntmps45
 go_wp2;go_ret;exact⟨congrArg (λb=>Ending.returned (.bool b)) H4.out,(Below.refl _ _).alloc (Nat.le_refl _) _⟩
def bwD (rows:List (List Value)):Nat->List (Nat×List Value)
 | 0=>[]
 | k+1=>(k,rows.getD k [])::bwD rows k
def Zbe (sb:Nat) (a:Option Addr) (A B:World):Prop:=B.heap[sb]? =A.heap[sb]? /\∀g,(a.map Addr.block)=some g->B.heap[g]? =A.heap[g]?
theorem Zwh {b:Nat} {a:Option Addr} {w:World} (h:b<w.heap.size) (ha:∀g,(a.map Addr.block)=some g->g<w.heap.size) (W:World) (l:Nat) (o o':Obj) (hl:w.heap.size<=l) (_:W.heap[l]? =some o) (_:o.isCells=false) (_:o.isWalk=false):Zbe b a W (W.putObj l o'):=
 ⟨World.putObj_heap_other (by omega),λg hg=>World.putObj_heap_other (by have:=ha g hg;omega)⟩
section
attribute [local go_sem] Oper.semAt_some
set_option maxRecDepth 100000
set_option maxHeartbeats 4000000
theorem Zes (n:Nat) (hn:1<=n) (sb:Nat) (a:Option Addr) (c:Nat) (rows:List (List Value)) (w:World) (hb:Boxed w sb 35 (.slice a rows.length c)) (hr:IsRow w (.slice a rows.length c) 5 rows) (h5:∀r∈rows,∃v0 v1 v2 v3 v4,r = [v0,v1,v2,v3,v4]) (a0:Option Addr) (ha0:rows≠[]->a0=a):
  Zbw Fence.wide n prog 140 #[.pointer (some ⟨sb,0,none⟩)] (λx:Nat×List Value=>#[.int .i64 (x.1:Int),.agg x.2.toArray]) (λA B=>A=B) (Zbe sb a0) (bwD rows rows.length) w:=by
 obtain⟨a',c',e,hlc,hcm,hcells⟩:=hr
 cases e
 intro l J W hW _ hY h0;have hbW:Boxed W sb 35 (.slice a rows.length c):=(hW.block sb hb.lt).trans hb;have hC:∀(k:Nat) r,rows[k]? =some r->∃g o,a=some ⟨g,o,none⟩/\∀w':World,w'.heap[g]? =W.heap[g]? ->∀(i:Nat) u,r[i]? =some u->w'.cell? ⟨g,o+k*5+i,none⟩=some u:=by
  intro k r hkr;obtain⟨g,o,e,hg,hc⟩:=hcells (by rintro rfl;simp at hkr);exact⟨g,o,e,λw' hw i u hu=>(World.cell?_of_block (a:=⟨g,o+k*5+i,none⟩) (hw.trans (hW.block g hg))).trans (hc k r hkr i u hu)⟩
 have HC:=hid hC;have H5:=hid h5;clear hb hW hcells hC h5;unfold maxLen at hcm;show CallsIn Fence.wide n prog 140 #[.func (.yield l) #[] #[],.pointer (some ⟨sb,0,none⟩)] W _;refine callsIn_of_wp func140 rfl trivial ?_ rfl;simp only[ntmps140,List.size_toArray,List.length_cons,List.length_nil,Nat.reduceAdd,Nat.reduceSub,Array.replicate_succ,Array.replicate_zero,List.push_toArray,List.append_toArray,List.nil_append,List.cons_append];have hcW:=hbW.cell;have hi9:(0:Int)<=(rows.length:Int):=by omega
 gi_wp2
 gi_loopw [3] (λiv wr=>∃(k:Nat) (pre:List (Nat×List Value)),k<=rows.length/\iv = .int .i64 ((k:Int)-1)/\bwD rows rows.length=pre++bwD rows k/\wr.heap[sb]? =W.heap[sb]? /\(∀g,(a0.map Addr.block)=some g->wr.heap[g]? =W.heap[g]?)/\J pre wr) (λiv _=>(intOf iv+1).toNat)
 case atStart=>exact⟨rows.length,[],Nat.le_refl _,rfl,rfl,rfl,λ_ _=>rfl,h0⟩
 case round=>
  obtain⟨k,pre,hk,rfl,hx,hsb,hga,hJs⟩:=hrel;have hc:wr.cell? ⟨sb,0,none⟩=some (.slice a rows.length c):=(World.cell?_of_block (a:=⟨sb,0,none⟩) hsb).trans hcW
  cases k with
  | zero=>
   have hx':bwD rows rows.length=pre:=by rw[hx];simp[bwD]
   have HX:=hid hx';have HJ:=hid hJs;clear hx hx' hY h0 hJs hga hsb
   gi_wp2
   go_end0
   exact⟨⟨_,rfl⟩,by rw[HX.out];exact HJ.out⟩
  | succ k=>
   obtain⟨r,hr⟩:∃r,rows[k]? =some r:=⟨rows[k],List.getElem?_eq_getElem (by omega)⟩;have hgd:rows.getD k []=r:=by rw[List.getD_eq_getElem?_getD,hr];rfl
   obtain⟨g,o,ha,hcr⟩:=HC.out k r hr;obtain⟨v0,v1,v2,v3,v4,hr5⟩:=H5.out r (List.mem_of_getElem? hr);have hcc:=hcr wr (hga g (by rw[ha0 (by rintro rfl;simp at hr),ha];rfl));rw[hr5]at hcc;have e0:=hcc 0 _ rfl;have e1:=hcc 1 _ rfl;have e2:=hcc 2 _ rfl;have e3:=hcc 3 _ rfl;have e4:=hcc 4 _ rfl;simp only[Nat.add_zero]at e0;obtain⟨fn,tmps,assign,body,hy,hR⟩:=hY pre (k,r) (bwD rows k) wr (by rw[hx,bwD,hgd]) hJs;have HX:=hid (show bwD rows rows.length=(pre ++ [(k,r)])++bwD rows k by rw[hx,bwD,hgd];simp);have HGA:=hid hga;have HSB:=hid hsb;subst hr5;have hkk:((k+1:Nat):Int)-1=(k:Int):=by omega
   have hi0:(0:Int)<=(k:Int):=by omega
   have hi1:(k:Int)<(rows.length:Int):=by omega
   have HA:=hid ha;rw[ha]at hc;rw[hkk]
   dsimp only at hy
   clear hx hY h0 hJs hcc hr hgd hcr hga hsb ha hkk
   gi_wp2
   refine hR.mono ?_;rintro e W3 ⟨rfl,hJ3,hk3,hk4⟩;have HK:=hid (show(intOf (.int .i64 ((k:Int)-1))+1).toNat<(intOf (.int .i64 (k:Int))+1).toNat by simp[intOf])
   gi_wp2
   go_roundw
   case rel=>exact⟨k,pre ++ [(k,_)],by omega,rfl,HX.out,hk3.trans HSB.out,λg' hg'=>(hk4 g' hg').trans (HGA.out g' hg'),hJ3⟩
   case measure=>simp[intOf]
end
end Go.Proofs.YtcpjfpdecklkgaaGreatDoor
namespace Go.Proofs.YtcpjfpdecklkgaaGreatDoor
open Go.Lib (hid)
open Go.Proofs.Tryz
open Go.Lib
def Zbak (outs:List ByteArray):List StepS->List Bool×List ByteArray
 | []=>([],outs)
 | s::r=>if 0<=Zoi (Zbak outs r).2 s.out then(true::(Zbak outs r).1,(Zbak outs r).2++s.args)else(false::(Zbak outs r).1,(Zbak outs r).2)
theorem Zbal (outs:List ByteArray):∀l:List StepS,(Zbak outs l).1.length=l.length
 | []=>rfl
 | s::r=>by unfold Zbak;split<;>simp[Zbal outs r]
def whL (b:Bool):Nat->List Bool->List Nat
 | _,[]=>[]
 | k,m::r=>if m=b then k::whL b (k+1) r else whL b (k+1) r
theorem Zbsr (b:Bool):∀(l:List Bool) (k:Nat) (m:Bool),whL b k (l ++ [m])=whL b k l++if m=b then [k+l.length]else []
 | [],k,m=>by simp[whL]
 | x::l,k,m=>by
  rw[List.cons_append,whL,whL,Zbsr b l (k+1) m];split<;>simp[Nat.add_assoc,Nat.add_comm 1]
theorem Zbsu (b:Bool):∀(l:List Bool) (k j:Nat),j∈whL b k l↔k<=j/\l[j-k]? =some b
 | [],k,j=>by simp[whL]
 | x::l,k,j=>by
  rw[whL];have ih:=Zbsu b l (k+1) j
  by_cases hj:j=k
  ·subst hj
   have hno:j∉whL b (j+1) l:=λh=>by have:=(ih.1 h).1;omega
   split
   ·rename_i e;simp[e]
   ·rename_i e;simp[e,hno]
  ·have hsub:k+1<=j->(x::l)[j-k]? =l[j-(k+1)]?:=λh=>by
    obtain⟨d,rfl⟩:∃d,j=k+1+d:=⟨j-(k+1),by omega⟩;rw[show k+1+d-k=d+1 by omega,show k+1+d-(k+1)=d by omega];simp
   have e2:(k+1<=j/\l[j-(k+1)]? =some b)↔(k<=j/\(x::l)[j-k]? =some b):=by
    constructor
    ·rintro⟨h1,h2⟩;exact⟨by omega,by rw[hsub h1];exact h2⟩
    ·rintro⟨h1,h2⟩;have h3:k+1<=j:=by omega
     exact⟨h3,by rw[<-hsub h3];exact h2⟩
   split
   ·rw[List.mem_cons,ih,e2];simp[hj]
   ·rw[ih,e2]
theorem Zbst (b:Bool) (l:List Bool):∀j∈whL b 0 l,j<l.length:=λj hj=>(List.getElem?_eq_some_iff.1 ((Zbsu b l 0 j).1 hj).2).1
theorem Zbss (b:Bool):∀(l:List Bool) (k:Nat),(whL b k l).length<=l.length
 | [],_=>Nat.le_refl _
 | x::l,k=>by rw[whL];have:=Zbss b l (k+1);split<;>simp<;>omega
def Zdr:List StepS->List Bool->List ByteArray
 | s::r,m::ms=>if m=true then s.args++Zdr r ms else Zdr r ms
 | _,_=>[]
def Zbgw (r:RuleS) (outs:List ByteArray):List ByteArray:=srtB (r.ins.filter λa=>decide (0<=Zoi (Zdr r.steps (Zbak outs r.steps).1) a))
end Go.Proofs.YtcpjfpdecklkgaaGreatDoor
namespace Go.Proofs.YtcpjfpdecklkgaaGreatDoor
open Go.Lib (hid)
open Go.Proofs.Tryz
open Go.RowKit Go.Shelf Go.Maps
def BoolR (w:World) (g:Nat) (ms:List Bool):Prop:=w.heap[g]? =some (.cells (ms.map Value.bool).toArray 4 (0,0))
theorem BoolR.cell {w:World} {g:Nat} {ms:List Bool} (h:BoolR w g ms) {k:Nat} {m:Bool} (hk:ms[k]? =some m):w.cell? ⟨g,k,none⟩=some (.bool m)/\w.frozen? ⟨g,k,none⟩=false:=by
 have h:w.heap[g]? =some (.cells (ms.map Value.bool).toArray 4 (0,0)):=h;refine⟨?_,by simp[World.frozen?,h]⟩;simp only[World.cell?,h,Option.isSome_none,Bool.false_eq_true,if_false];rw[List.getElem?_toArray,List.getElem?_map,hk];rfl
theorem BoolR.set {w:World} {g:Nat} {ms:List Bool} (h:BoolR w g ms) (k:Nat) (b:Bool):BoolR (w.setCell ⟨g,k,none⟩ (.bool b)) g (ms.set k b):=by
 have:=heap_set k (Value.bool b) (show w.heap[g]? =some (.cells (ms.map Value.bool).toArray 4 (0,0))from h);unfold BoolR;rw[this,List.setIfInBounds_toArray,List.map_set]
theorem Zgc (w:World) (n:Nat):BoolR (w.alloc (.cells (madeCells #[.bool false] n) 4)) w.heap.size (List.replicate n false):=by
 unfold BoolR;rw[alloc_at]
 congr 2
 apply Array.ext';unfold madeCells;rw[Array.toList_map];apply List.ext_getElem?;intro i;rw[List.getElem?_map,Array.toList_range,List.map_replicate,List.getElem?_replicate]
 by_cases hi:i<n
 ·rw[List.getElem?_range hi,if_pos hi];simp[Nat.mod_one]
 ·rw[List.getElem?_eq_none (by simp;omega),if_neg hi];rfl
theorem Zsm:(prog.info? 4).map (λi=>(i.zero,i.size,i.bytes))=some (some (.bool false),1,1):=by kernel_rfl
theorem Zyd (n:Nat) (hn:n<=1000000000) (w:World):(Instr.makeSlice 40 (.int .i64 (n:Int)) (.int .i64 (n:Int))).run prog w = .ok (.slice (some ⟨w.heap.size,0,none⟩) n n) (w.alloc (.cells (madeCells #[.bool false] n) 4)):=by
 obtain⟨i0,hi,hz,hs,hb⟩:=info_parts Zsm;have:=run_make (P:=prog) w 40 4 i0 (.bool false) underlying40 hi hz .i64 .i64 n n (by omega) (Int.le_refl _) (by rw[hb];omega) (by omega);rw[hs,show(Value.bool false).cells = #[.bool false]from rfl]at this;simpa using this
theorem Zbam (outs:List ByteArray) (s:StepS) (r:List StepS) (L:List ByteArray) (hL:∀a,a∈L↔a∈(Zbak outs r).2):
  Zbak outs (s::r)=if inS L s.out=true then(true::(Zbak outs r).1,(Zbak outs r).2++s.args)else(false::(Zbak outs r).1,(Zbak outs r).2):=by
 have e:(0<=Zoi (Zbak outs r).2 s.out)↔inS L s.out=true:=by rw[Zoj,Zsj,hL]
 rw[Zbak]
 by_cases h:inS L s.out=true
 ·rw[if_pos (e.2 h),if_pos h]
 ·rw[if_neg (λh'=>h (e.1 h')),if_neg h]
theorem Zma {α:Type} {l:List α} {k:Nat} {x:α} (h:l[k]? =some x):l.drop k=x::l.drop (k+1):=by
 obtain⟨hl,e⟩:=List.getElem?_eq_some_iff.1 h;rw[<-e];exact List.drop_eq_getElem_cons hl
structure NdI (w:World) (n N:Nat) (outs:List ByteArray) (steps:List StepS) (pre:List (Nat×List Value)) (W:World):Prop where
 set:∃L,SetIs W (n+1) L/\(∀a,a∈L↔a∈(Zbak outs (steps.drop (N-pre.length))).2)/\L.length<=1048576+pre.length*1048576
 marks:BoolR W (n+3) (List.replicate (N-pre.length) false++(Zbak outs (steps.drop (N-pre.length))).1)
 b2:Boxed W (n+2) 123 (.map (some (n+1)))
 b4:Boxed W (n+4) 40 (.slice (some ⟨n+3,0,none⟩) N N)
 below:Below n w W
 size:n+6<=W.heap.size
 few:pre.length<=N
theorem NdI.keep {w:World} {n N:Nat} {outs:List ByteArray} {steps:List StepS} {pre:List (Nat×List Value)} {W W':World} (h:NdI w n N outs steps pre W) (hos:W'.os=W.os) (ht:W'.tape=W.tape) (ho:W'.output=W.output) (hs:W.heap.size<=W'.heap.size) (hb:∀k,k<n+6->W'.heap[k]? =W.heap[k]?):NdI w n N outs steps pre W':=by
 obtain⟨⟨L,h1,h2,h3⟩,h4,h5,h6,h7,h8,h9⟩:=h;exact⟨⟨L,h1.heap (hb _ (by omega)),h2,h3⟩,(hb _ (by omega)).trans h4,(hb _ (by omega)).trans h5,(hb _ (by omega)).trans h6,⟨hos.trans h7.os,ht.trans h7.tape,ho.trans h7.output,Nat.le_trans h7.size hs,λk hk=>(hb k (by omega)).trans (h7.block k hk)⟩,by omega,h9⟩
theorem Zbai (w:World) (n N B:Nat) (outs:List ByteArray) (steps:List StepS) (hB:n+6<=B):OwnFrom B (NdI w n N outs steps):=λs W W' row h hg hr=>by
 have hz:=h.size;refine h.keep hg.os hg.tape hg.output hg.size λk hk=>hg.block k (by omega) λe=>?_
 have:=(hr k e.symm).1;omega
theorem Zgr (rows:List (List Value)):∀(N:Nat) (pre:List (Nat×List Value)) (x:Nat×List Value) (post:List (Nat×List Value)),bwD rows N=pre++x::post->pre.length<N/\x=(N-1-pre.length,rows.getD (N-1-pre.length) [])
 | 0,pre,x,post,h=>by have:=congrArg List.length h;simp[bwD]at this
 | N+1,[],x,post,h=>by
  rw[bwD]at h;have:=(List.cons.inj h).1;exact⟨Nat.succ_pos _,by rw[<-this];simp⟩
 | N+1,p::pre,x,post,h=>by
  rw[bwD]at h;obtain⟨h1,h2⟩:=Zgr rows N pre x post (List.cons.inj h).2;refine⟨by simp;omega,?_⟩;rw[h2,List.length_cons,show N+1-1-(pre.length+1)=N-1-pre.length by omega]
theorem Zgq (rows:List (List Value)):∀N,(bwD rows N).length=N
 | 0=>rfl
 | N+1=>by rw[bwD,List.length_cons,Zgq rows N]
theorem Zbgy (k:Nat) (M:List Bool):List.replicate (k+1) false++M=List.replicate k false++false::M:=by
 rw[List.replicate_succ',List.append_assoc];rfl
theorem Zbgz (k:Nat) (M:List Bool):(List.replicate (k+1) false++M).set k true=List.replicate k false++true::M:=by
 rw[Zbgy,List.set_append_right _ _ (by simp),List.length_replicate,Nat.sub_self];rfl
theorem NdI.no {w:World} {n N:Nat} {outs:List ByteArray} {steps:List StepS} {pre:List (Nat×List Value)} {x:Nat×List Value} {W W':World} {k:Nat} {y:StepS} {L:List ByteArray} (hN:N=steps.length) (hk:N=k+1+pre.length) (hy:steps[k]? =some y) (h:NdI w n N outs steps pre W)
  (hL:∀a,a∈L↔a∈(Zbak outs (steps.drop (k+1))).2) (hs:SetIs W (n+1) L) (hl:L.length<=1048576+pre.length*1048576) (hno:inS L y.out=false) (hb:Below W.heap.size W W'):NdI w n N outs steps (pre ++ [x]) W':=by
 have hz:=h.size;have e1:N-(pre ++ [x]).length=k:=by simp;omega
 have e2:N-pre.length=k+1:=by omega
 have hstep:=Zbam outs y (steps.drop (k+1)) L hL;rw[hno,if_neg (by decide),<-Zma hy]at hstep;have hm:=h.marks;rw[e2]at hm;refine⟨⟨L,hs.heap (hb.block _ (by omega)),?_,?_⟩,?_,(hb.block _ (by omega)).trans h.b2,(hb.block _ (by omega)).trans h.b4,h.below.trans (hb.mono (by omega)),Nat.le_trans hz hb.size,by simp;omega⟩
 ·rw[e1,hstep];exact hL
 ·have e9:(pre ++ [x]).length=pre.length+1:=by rw[List.length_append];rfl
  rw[e9];exact Nat.le_trans hl (Nat.add_le_add_left (Nat.mul_le_mul_right _ (Nat.le_succ _)) _)
 ·rw[e1,hstep,<-Zbgy];exact(hb.block _ (by omega)).trans hm
theorem NdI.yes {w:World} {n N:Nat} {outs:List ByteArray} {steps:List StepS} {pre:List (Nat×List Value)} {x:Nat×List Value} {W W':World} {k:Nat} {y:StepS} {L:List ByteArray} (hk:N=k+1+pre.length) (hy:steps[k]? =some y) (h:NdI w n N outs steps pre W)
  (hL:∀a,a∈L↔a∈(Zbak outs (steps.drop (k+1))).2) (hs:SetIs W' (n+1) (addS L y.args)) (hl:L.length<=1048576+pre.length*1048576) (hya:y.args.length<=1048576) (hyes:inS L y.out=true)
  (hm:BoolR W' (n+3) ((List.replicate (k+1) false++(Zbak outs (steps.drop (k+1))).1).set k true)) (hos:W'.os=W.os) (ht:W'.tape=W.tape) (ho:W'.output=W.output) (hsz:W.heap.size<=W'.heap.size) (hb:∀j,j<n+6->j≠n+1->j≠n+3->W'.heap[j]? =W.heap[j]?):NdI w n N outs steps (pre ++ [x]) W':=by
 have hz:=h.size;have e1:N-(pre ++ [x]).length=k:=by simp;omega
 have hstep:=Zbam outs y (steps.drop (k+1)) L hL;rw[hyes,if_pos rfl,<-Zma hy]at hstep;refine⟨⟨_,hs,λa=>?_,?_⟩,?_,(hb _ (by omega) (by omega) (by omega)).trans h.b2,(hb _ (by omega) (by omega) (by omega)).trans h.b4,⟨hos.trans h.below.os,ht.trans h.below.tape,ho.trans h.below.output,Nat.le_trans h.below.size hsz,λj hj=>(hb j (by omega) (by omega) (by omega)).trans (h.below.block j hj)⟩,Nat.le_trans hz hsz,by simp;omega⟩
 ·rw[Zcp,e1,hstep,List.mem_append,hL]
 ·have e9:(pre ++ [x]).length=pre.length+1:=by rw[List.length_append];rfl
  rw[e9,Nat.succ_mul];have:=Zco y.args L;obtain⟨q,hq⟩:∃q,pre.length*1048576=q:=⟨_,rfl⟩;rw[hq]at hl⊢;omega
 ·rw[e1,hstep,<-Zbgz];exact hm
end Go.Proofs.YtcpjfpdecklkgaaGreatDoor
