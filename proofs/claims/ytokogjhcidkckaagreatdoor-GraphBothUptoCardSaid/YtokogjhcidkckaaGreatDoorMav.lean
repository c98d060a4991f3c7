import Derived.Test.YtokogjhcidkckaaGreatDoorMaq
import Derived.Test.YtokogjhcidkckaaGreatDoorMau
namespace Go.Proofs.YtokogjhcidkckaaGreatDoor
open Go.Lib (hid)
open Go.Proofs.Tryz
open Go.RowKit Go.Shelf Go.Maps
def okN (x:ByteArray):Bool:=Zbcf x.data.toList
def Zbnm (x:StepS):Bool:=mayB x&&okN x.out&&x.args.all okN
def Zpo (r:RuleS):Bool:=okN r.name&&r.ins.all okN&&decide (0<r.outs.length)&&r.outs.all okN&&r.after.all okN&&r.steps.all Zbnm
def Zbkx (r:RuleS):Bool:=decide (r.ins.length<=8)&&decide (r.outs.length<=4)&&decide (r.after.length<=8)&&decide (r.steps.length<=12)
def MayW (w:World):Prop:=∃m,w.cell? ⟨0,0,none⟩=some (.int .i64 m)
theorem Zic {w:World} {b k:Nat} {v:Value} (h:w.cell? ⟨b,k,none⟩=some v):b<w.heap.size:=by
 cases hb:w.heap[b]? with
 | none=>simp[World.cell?,hb]at h
 | some o=>exact(Array.getElem?_eq_some_iff.1 hb).1
theorem Zblx {ks:List ByteArray} (h:SmallL ks 1048576):∀k∈ks,k.size<=maxLen:=λk hk=>by have:=h.2 k hk;unfold maxLen;omega
theorem MayW.below {w w':World} (h:MayW w) (hb:Below w.heap.size w w'):MayW w':=by
 obtain⟨m,h⟩:=h;exact⟨m,(hb.cell (p:=⟨_,0,none⟩) (Zic h)).trans h⟩
set_option maxHeartbeats 4000000
set_option maxRecDepth 100000
theorem Zyx (s:ByteArray) (w:World) (hs:s.size<=maxLen) (hm:MayW w):Calls prog 192 #[.string s] w λe w'=>e = .returned (.bool (okN s))/\Below w.heap.size w w':=by
 obtain⟨m,h⟩:=hm;exact Zzb s m w hs h
theorem Zyr (s:ByteArray) (w:World) (hs:s.size<=maxLen) (hm:MayW w):Calls prog 264 #[.string s] w λe w'=>e = .returned (.bool (!okN s))/\Below w.heap.size w w':=by
 have C:=hid (Zyx s w hs hm);clear hs hm
 go_enter func264,ntmps264
 go_wp2_with (go_at_call 192;refine C.out.mono ?_;rintro e w2 ⟨rfl,hb2⟩)
 go_ret;exact⟨rfl,hb2⟩
theorem Zys (v:Value) (xs:List ByteArray) (w:World) (hv:IsStrs w v xs) (hs:∀x∈xs,x.size<=maxLen) (hm:MayW w):Calls prog 209 #[v] w λe w'=>e = .returned (.bool (xs.all okN))/\Below w.heap.size w w':=by
 have cC:=Zki 264 #[] (enters_of func264 (by kernel_rfl) rfl) v xs (λx=> !okN x) w.heap.size w (Nat.le_refl _) (λW hW=>hv.below hW) (λx hx W hW=>Zyr x W (hs x hx) (hm.below hW));have e:(!xs.any λx=> !okN x)=xs.all okN:=by rw[<-List.not_all_eq_any_not];simp
 obtain⟨r,hr⟩:∃r,(xs.any λx=> !okN x)=r:=⟨_,rfl⟩;rw[hr]at cC e;rw[<-e];have CC:=hid cC;clear hv hs hm cC e hr
 go_enter func209,ntmps209
 go_wp2_with (go_at_call 132;refine CC.out.mono ?_;rintro e w2 ⟨rfl,hb2⟩)
 go_ret;exact⟨rfl,hb2⟩
theorem Zbnn (x:StepS) (a1 a2:Option Addr) (c1 c2:Nat) (w:World) (ha:IsStrs w (.slice a1 x.args.length c1) x.args) (hl:IsStrs w (.slice a2 x.lits.length c2) x.lits) (hs:SmallS x 1048576) (hm:MayW w):
  Calls prog 212 #[.agg #[.string x.out,.int .i64 x.op,.slice a1 x.args.length c1,.slice a2 x.lits.length c2,.int .i64 x.n]] w λe w'=>e = .returned (.bool (Zbnm x))/\Below w.heap.size w w':=by
 obtain⟨W1,hW1⟩:∃W1,w.alloc (.cells #[.string x.out,.int .i64 x.op,.slice a1 x.args.length c1,.slice a2 x.lits.length c2,.int .i64 x.n] 60)=W1:=⟨_,rfl⟩;have hb:Below w.heap.size w W1:=by rw[<-hW1];exact(Below.refl _ _).alloc (Nat.le_refl _) _
 have hc:W1.heap[w.heap.size]? =some (.cells #[.string x.out,.int .i64 x.op,.slice a1 x.args.length c1,.slice a2 x.lits.length c2,.int .i64 x.n] 60):=by rw[<-hW1];exact alloc_at w _
 have hs1:W1.heap.size=w.heap.size+1:=by rw[<-hW1];simp
 have hD:∀W,Below W1.heap.size W1 W->W.heap[w.heap.size]? =some (.cells #[.string x.out,.int .i64 x.op,.slice a1 x.args.length c1,.slice a2 x.lits.length c2,.int .i64 x.n] 60):=λW h=>(h.block _ (by omega)).trans hc
 have q0:∀W,Below W1.heap.size W1 W->Calls prog 108 #[.agg #[.string x.out,.int .i64 x.op,.slice a1 x.args.length c1,.slice a2 x.lits.length c2,.int .i64 x.n]] W λe w'=>e = .returned (.bool (mayB x))/\Below W1.heap.size W1 w':=λW h=>(Zbnr x a1 a2 c1 c2 W (ha.below (hb.trans (h.mono hb.size))) (hl.below (hb.trans (h.mono hb.size)))).mono λe w' r=>⟨r.1,h.trans (r.2.mono h.size)⟩
 have q1:∀W,Below W1.heap.size W1 W->Calls prog 192 #[.string x.out] W λe w'=>e = .returned (.bool (okN x.out))/\Below W1.heap.size W1 w':=λW h=>(Zyx x.out W (by have:=hs.out;unfold maxLen;omega) (hm.below (hb.trans (h.mono hb.size)))).mono λe w' r=>⟨r.1,h.trans (r.2.mono h.size)⟩
 have q2:∀W,Below W1.heap.size W1 W->Calls prog 209 #[.slice a1 x.args.length c1] W λe w'=>e = .returned (.bool (x.args.all okN))/\Below W1.heap.size W1 w':=λW h=>(Zys _ x.args W (ha.below (hb.trans (h.mono hb.size))) (Zblx hs.args) (hm.below (hb.trans (h.mono hb.size)))).mono λe w' r=>⟨r.1,h.trans (r.2.mono h.size)⟩
 unfold Zbnm;obtain⟨b0,h0⟩:∃b,mayB x=b:=⟨_,rfl⟩;obtain⟨b1,h1⟩:∃b,okN x.out=b:=⟨_,rfl⟩;obtain⟨b2,h2⟩:∃b,x.args.all okN=b:=⟨_,rfl⟩;rw[h0]at q0;rw[h1]at q1;rw[h2]at q2;rw[h0,h1,h2];obtain⟨out,op,args,lits,n⟩:=x;simp only at q0 q1 q2 hD hb hW1⊢;have Q0:=hid q0;have Q1:=hid q1;have Q2:=hid q2;have HB:=hid hb;have HD:=hid hD;have HW:=hid hW1;clear q0 q1 q2 hb hD hW1 h0 h1 h2 ha hl hs hm hc hs1
 go_enter func212,ntmps212
 go_wp2_with fail
 rw[HW.out];have R1:Hid (Below W1.heap.size W1 W1):=hid (Below.refl _ _);obtain⟨d0,d1,d2,d3,d4,_⟩:=cells5 (HD.out W1 R1.out)
 cases b0
 ·go_wp2_with (first
   | (go_at_call 108;(with_reducible refine(Q0.out _ R1.out).mono ?_);rintro e w2 ⟨rfl,hb2⟩;have HB2:=hid hb2;obtain⟨d0,d1,d2,d3,d4,_⟩:=cells5 <| HD.out _ HB2.out;clear hb2))
  go_ret;exact⟨rfl,HB.out.trans (HB2.out.mono HB.out.size)⟩
 cases b1
 ·go_wp2_with (first
   | (go_at_call 108;(with_reducible refine(Q0.out _ R1.out).mono ?_);rintro e w2 ⟨rfl,hb2⟩;have HB2:=hid hb2;obtain⟨d0,d1,d2,d3,d4,_⟩:=cells5 <| HD.out _ HB2.out;clear hb2)
   | (go_at_call 192;(with_reducible refine(Q1.out _ HB2.out).mono ?_);rintro e w3 ⟨rfl,hb3⟩;have HB3:=hid hb3;obtain⟨d0,d1,d2,d3,d4,_⟩:=cells5 <| HD.out _ HB3.out;clear hb3))
  go_ret;exact⟨rfl,HB.out.trans (HB3.out.mono HB.out.size)⟩
 cases b2
 ·go_wp2_with (first
   | (go_at_call 108;(with_reducible refine(Q0.out _ R1.out).mono ?_);rintro e w2 ⟨rfl,hb2⟩;have HB2:=hid hb2;obtain⟨d0,d1,d2,d3,d4,_⟩:=cells5 <| HD.out _ HB2.out;clear hb2)
   | (go_at_call 192;(with_reducible refine(Q1.out _ HB2.out).mono ?_);rintro e w3 ⟨rfl,hb3⟩;have HB3:=hid hb3;obtain⟨d0,d1,d2,d3,d4,_⟩:=cells5 <| HD.out _ HB3.out;clear hb3)
   | (go_at_call 209;(with_reducible refine(Q2.out _ HB3.out).mono ?_);rintro e w4 ⟨rfl,hb4⟩;have HB4:=hid hb4;obtain⟨d0,d1,d2,d3,d4,_⟩:=cells5 <| HD.out _ HB4.out;clear hb4))
  go_ret;exact⟨rfl,HB.out.trans (HB4.out.mono HB.out.size)⟩
 go_wp2_with (first
  | (go_at_call 108;(with_reducible refine(Q0.out _ R1.out).mono ?_);rintro e w2 ⟨rfl,hb2⟩;have HB2:=hid hb2;obtain⟨d0,d1,d2,d3,d4,_⟩:=cells5 <| HD.out _ HB2.out;clear hb2)
  | (go_at_call 192;(with_reducible refine(Q1.out _ HB2.out).mono ?_);rintro e w3 ⟨rfl,hb3⟩;have HB3:=hid hb3;obtain⟨d0,d1,d2,d3,d4,_⟩:=cells5 <| HD.out _ HB3.out;clear hb3)
  | (go_at_call 209;(with_reducible refine(Q2.out _ HB3.out).mono ?_);rintro e w4 ⟨rfl,hb4⟩;have HB4:=hid hb4;obtain⟨d0,d1,d2,d3,d4,_⟩:=cells5 <| HD.out _ HB4.out;clear hb4))
 go_ret;exact⟨rfl,HB.out.trans (HB4.out.mono HB.out.size)⟩
theorem Zbnl (x:StepS) (a1 a2:Option Addr) (c1 c2:Nat) (w:World) (ha:IsStrs w (.slice a1 x.args.length c1) x.args) (hl:IsStrs w (.slice a2 x.lits.length c2) x.lits) (hs:SmallS x 1048576) (hm:MayW w):
  Calls prog 211 #[.agg #[.string x.out,.int .i64 x.op,.slice a1 x.args.length c1,.slice a2 x.lits.length c2,.int .i64 x.n]] w λe w'=>e = .returned (.bool (!Zbnm x))/\Below w.heap.size w w':=by
 obtain⟨W1,hW1⟩:∃W1,w.alloc (.cells #[.string x.out,.int .i64 x.op,.slice a1 x.args.length c1,.slice a2 x.lits.length c2,.int .i64 x.n] 60)=W1:=⟨_,rfl⟩;have hb:Below w.heap.size w W1:=by rw[<-hW1];exact(Below.refl _ _).alloc (Nat.le_refl _) _
 have hc:W1.heap[w.heap.size]? =some (.cells #[.string x.out,.int .i64 x.op,.slice a1 x.args.length c1,.slice a2 x.lits.length c2,.int .i64 x.n] 60):=by rw[<-hW1];exact alloc_at w _
 obtain⟨d0,d1,d2,d3,d4,_⟩:=cells5 hc;have C:=hid (Zbnn x a1 a2 c1 c2 W1 (ha.below hb) (hl.below hb) hs (hm.below hb));obtain⟨b0,h0⟩:∃b,Zbnm x=b:=⟨_,rfl⟩;rw[h0]at C⊢;obtain⟨out,op,args,lits,n⟩:=x;simp only at C d0 d1 d2 d3 d4 hW1⊢;have HB:=hid hb;have HW:=hid hW1;clear hb hW1 hc ha hl hs hm h0
 go_enter func211,ntmps211
 go_wp2_with (go_at_call 212;rw[HW.out];(with_reducible refine C.out.mono ?_);rintro e w2 ⟨rfl,hb2⟩)
 go_ret;exact⟨rfl,HB.out.trans (hb2.mono HB.out.size)⟩
theorem Zdn (xs:List StepS) (q:StepS->Bool) (p:Nat->Bool) (h:∀(k:Nat) x,xs[k]? =some x->p k=q x):(List.range xs.length).any p=xs.any q:=by
 rw[Bool.eq_iff_iff,List.any_eq_true,List.any_eq_true];constructor
 ·rintro⟨k,hk,hp⟩
  have hk:=List.mem_range.1 hk;exact⟨xs[k],List.getElem_mem hk,by rw[<-h k _ (List.getElem?_eq_getElem hk)];exact hp⟩
 ·rintro⟨x,hx,hp⟩
  obtain⟨k,hk,e⟩:=List.getElem_of_mem hx;exact⟨k,List.mem_range.2 hk,by rw[h k x (by rw[List.getElem?_eq_getElem hk,e])];exact hp⟩
theorem Zkh (fid:Nat) (caps:Array Value) (eg:∀args w,(callFunc fid args).run prog w = .ok (.enter fid args) w) (v:Value) (xs:List StepS) (q:StepS->Bool) (w:World) (hv:StepsI w v xs)
  (hf:∀x∈xs,∀(a1 a2:Option Addr) (c1 c2:Nat) W,Below w.heap.size w W->IsStrs W (.slice a1 x.args.length c1) x.args->IsStrs W (.slice a2 x.lits.length c2) x.lits->Calls prog fid (#[.agg #[.string x.out,.int .i64 x.op,.slice a1 x.args.length c1,.slice a2 x.lits.length c2,.int .i64 x.n]]++caps) W λe W'=>e = .returned (.bool (q x))/\Below W.heap.size W W'):
  Calls prog 210 #[v,.func (.func fid) #[] caps] w λe w'=>e = .returned (.bool (xs.any q))/\Below w.heap.size w w':=by
 obtain⟨rows,hrow,hall⟩:=hv;obtain⟨a,c,rfl,h1,h2,h3⟩:=id hrow;have hq:∀(k:Nat) x,xs[k]? =some x->∃r,rows[k]? =some r/\Zcc w r x:=by
  intro k x hx;have hk:k<rows.length:=by rw[hall.1];exact(List.getElem?_eq_some_iff.1 hx).1
  exact⟨rows[k],List.getElem?_eq_getElem hk,hall.2 k _ x (List.getElem?_eq_getElem hk) hx⟩
 have hx:∀(k:Nat),k<rows.length->∃x,xs[k]? =some x:=λk hk=>⟨xs[k]'(by rw[<-hall.1];exact hk),List.getElem?_eq_getElem _⟩
 refine(Zkj fid caps eg a rows.length c (Nat.le_trans h1 h2) (λk=>(rows.getD k []).getD 0 undef) (λk=>(rows.getD k []).getD 1 undef) (λk=>(rows.getD k []).getD 2 undef) (λk=>(rows.getD k []).getD 3 undef) (λk=>(rows.getD k []).getD 4 undef) (λk=>(xs[k]?.map q).getD false) (λ_ W=>Below w.heap.size w W) w (λk W hk hW=>?_) (λk W hk _ hW=>?_) (Below.refl _ _)).mono ?_
 ·obtain⟨x,hkx⟩:=hx k hk
  obtain⟨r,hr,va,vl,e5,_,_⟩:=hq k x hkx;obtain⟨b,o,rfl,hb,hc⟩:=h3 (by rintro rfl;simp at hk);refine⟨b,o,rfl,?_⟩;have hgd:rows.getD k []=r:=by rw[List.getD_eq_getElem?_getD,hr];rfl
  have hcc:∀(i:Nat) u,r[i]? =some u->W.cell? ⟨b,o+k*5+i,none⟩=some u:=λi u hu=>(hW.cell (p:=⟨b,_,none⟩) hb).trans (hc k r hr i u hu)
  simp only[hgd];subst e5;exact⟨hcc 0 _ rfl,hcc 1 _ rfl,hcc 2 _ rfl,hcc 3 _ rfl,hcc 4 _ rfl⟩
 ·obtain⟨x,hkx⟩:=hx k hk
  obtain⟨r,hr,va,vl,e5,hA,hL⟩:=hq k x hkx;obtain⟨b1,m1,rfl⟩:=Zue hA;obtain⟨b2,m2,rfl⟩:=Zue hL;have hgd:rows.getD k []=r:=by rw[List.getD_eq_getElem?_getD,hr];rfl
  simp only[hgd];subst e5;refine(hf x (List.mem_of_getElem? hkx) b1 b2 m1 m2 W hW (hA.below hW) (hL.below hW)).mono ?_;rintro e W' ⟨rfl,hb⟩;exact⟨by rw[hkx];rfl,hW.trans (hb.mono hW.size)⟩
 ·intro e w' h
  obtain⟨rfl,k,_,hb⟩:=h.any;exact⟨by rw[hall.1,Zdn xs q _ (λk x hkx=>by rw[hkx];rfl)],hb⟩
theorem Zpp (r:RuleS) (a1 a2 a3 a4:Option Addr) (c1 c2 c3 c4:Nat) (w:World) (hr:RuleI w [.string r.name,.slice a1 r.ins.length c1,.slice a2 r.outs.length c2,.slice a3 r.after.length c3,.slice a4 r.steps.length c4] r) (hs:SmallR r 1048576) (hm:MayW w):
  Calls prog 145 #[.agg (Zbiz r a1 a2 a3 a4 c1 c2 c3 c4)] w λe w'=>e = .returned (.bool (Zpo r))/\Below w.heap.size w w':=by
 obtain⟨vi,vo,vf,vst,qe,h1,h2,h3,h4⟩:=hr;simp only[List.cons.injEq,and_true,true_and]at qe;obtain⟨rfl,rfl,rfl,rfl⟩:=qe;obtain⟨W1,hW1⟩:∃W1,w.alloc (.cells (Zbiz r a1 a2 a3 a4 c1 c2 c3 c4) 50)=W1:=⟨_,rfl⟩;have hb:Below w.heap.size w W1:=by rw[<-hW1];exact(Below.refl _ _).alloc (Nat.le_refl _) _
 have hc:W1.heap[w.heap.size]? =some (.cells (Zbiz r a1 a2 a3 a4 c1 c2 c3 c4) 50):=by rw[<-hW1];exact alloc_at w _
 have hs1:W1.heap.size=w.heap.size+1:=by rw[<-hW1];simp
 have hD:∀W,Below W1.heap.size W1 W->W.heap[w.heap.size]? =some (.cells (Zbiz r a1 a2 a3 a4 c1 c2 c3 c4) 50):=λW h=>(h.block _ (by omega)).trans hc
 have q0:∀W,Below W1.heap.size W1 W->Calls prog 192 #[.string r.name] W λe w'=>e = .returned (.bool (okN r.name))/\Below W1.heap.size W1 w':=λW h=>(Zyx r.name W (by have:=hs.name;unfold maxLen;omega) (hm.below (hb.trans (h.mono hb.size)))).mono λe w' r=>⟨r.1,h.trans (r.2.mono h.size)⟩
 have q1:∀W,Below W1.heap.size W1 W->Calls prog 209 #[.slice a1 r.ins.length c1] W λe w'=>e = .returned (.bool (r.ins.all okN))/\Below W1.heap.size W1 w':=λW h=>(Zys _ r.ins W (h1.below (hb.trans (h.mono hb.size))) (Zblx hs.ins) (hm.below (hb.trans (h.mono hb.size)))).mono λe w' r=>⟨r.1,h.trans (r.2.mono h.size)⟩
 have q3:∀W,Below W1.heap.size W1 W->Calls prog 209 #[.slice a2 r.outs.length c2] W λe w'=>e = .returned (.bool (r.outs.all okN))/\Below W1.heap.size W1 w':=λW h=>(Zys _ r.outs W (h2.below (hb.trans (h.mono hb.size))) (Zblx hs.outs) (hm.below (hb.trans (h.mono hb.size)))).mono λe w' r=>⟨r.1,h.trans (r.2.mono h.size)⟩
 have q4:∀W,Below W1.heap.size W1 W->Calls prog 209 #[.slice a3 r.after.length c3] W λe w'=>e = .returned (.bool (r.after.all okN))/\Below W1.heap.size W1 w':=λW h=>(Zys _ r.after W (h3.below (hb.trans (h.mono hb.size))) (Zblx hs.after) (hm.below (hb.trans (h.mono hb.size)))).mono λe w' r=>⟨r.1,h.trans (r.2.mono h.size)⟩
 have q5:∀W,Below W1.heap.size W1 W->Calls prog 210 #[.slice a4 r.steps.length c4,.func (.func 211) #[] #[]] W λe w'=>e = .returned (.bool (r.steps.any λx=> !Zbnm x))/\Below W1.heap.size W1 w':=λW h=>(Zkh 211 #[] (enters_of func211 (by kernel_rfl) rfl) _ r.steps (λx=> !Zbnm x) W (h4.below (hb.trans (h.mono hb.size))) (λx hx a1 a2 c1 c2 W2 hW2 hA hL=>Zbnl x a1 a2 c1 c2 W2 hA hL (hs.steps x hx) ((hm.below (hb.trans (h.mono hb.size))).below hW2))).mono λe w' r=>⟨r.1,h.trans (r.2.mono h.size)⟩
 have e5:(!r.steps.any λx=> !Zbnm x)=r.steps.all Zbnm:=by rw[<-List.not_all_eq_any_not];simp
 have houts:r.outs.length<=1048576:=hs.outs.1;unfold Zpo;rw[<-e5];obtain⟨b0,h0⟩:∃b,okN r.name=b:=⟨_,rfl⟩;obtain⟨b1,g1⟩:∃b,r.ins.all okN=b:=⟨_,rfl⟩;obtain⟨b2,g2⟩:∃b,decide (0<r.outs.length)=b:=⟨_,rfl⟩;obtain⟨b3,g3⟩:∃b,r.outs.all okN=b:=⟨_,rfl⟩;obtain⟨b4,g4⟩:∃b,r.after.all okN=b:=⟨_,rfl⟩;obtain⟨b5,g5⟩:∃b,(r.steps.any λx=> !Zbnm x)=b:=⟨_,rfl⟩;rw[h0]at q0;rw[g1]at q1;rw[g3]at q3;rw[g4]at q4;rw[g5]at q5;rw[h0,g1,g2,g3,g4,g5];obtain⟨name,insN,outsN,after,steps⟩:=r;simp only[Zbiz]at q0 q1 q3 q4 q5 hD hb hW1 houts g2⊢;have Q0:=hid q0;have Q1:=hid q1;have Q3:=hid q3;have Q4:=hid q4;have Q5:=hid q5;have HB:=hid hb;have HD:=hid hD;have HW:=hid hW1;clear q0 q1 q3 q4 q5 hb hD hW1 h0 g1 g3 g4 g5 h1 h2 h3 h4 hs hm hc hs1 e5;have hmf:∀(fn:Fn) (first cap:Array Value) (w:World),(Instr.makeFunc fn first cap).run prog w = .ok (.func fn first cap) w:=λ_ _ _ _=>rfl
 go_enter func145,ntmps145
 go_wp2_with fail
 rw[HW.out];have R1:Hid (Below W1.heap.size W1 W1):=hid (Below.refl _ _);obtain⟨d0,d1,d2,d3,d4,_⟩:=cells5 (HD.out W1 R1.out)
 cases b0
 ·go_wp2_with (first
   | (go_at_call 192;(with_reducible refine(Q0.out _ R1.out).mono ?_);rintro e w2 ⟨rfl,hb2⟩;have HB2:=hid hb2;obtain⟨d0,d1,d2,d3,d4,_⟩:=cells5 <| HD.out _ HB2.out;clear hb2))
  go_ret;exact⟨rfl,HB.out.trans (HB2.out.mono HB.out.size)⟩
 cases b1
 ·go_wp2_with (first
   | (go_at_call 192;(with_reducible refine(Q0.out _ R1.out).mono ?_);rintro e w2 ⟨rfl,hb2⟩;have HB2:=hid hb2;obtain⟨d0,d1,d2,d3,d4,_⟩:=cells5 <| HD.out _ HB2.out;clear hb2)
   | (go_at_call 209;(with_reducible refine(Q1.out _ HB2.out).mono ?_);rintro e w3 ⟨rfl,hb3⟩;have HB3:=hid hb3;obtain⟨d0,d1,d2,d3,d4,_⟩:=cells5 <| HD.out _ HB3.out;clear hb3))
  go_ret;exact⟨rfl,HB.out.trans (HB3.out.mono HB.out.size)⟩
 cases b2
 ·have hzi:¬(0:Int)<(outsN.length:Int):=by have:=of_decide_eq_false g2;omega
  go_wp2_with (first
   | (go_at_call 192;(with_reducible refine(Q0.out _ R1.out).mono ?_);rintro e w2 ⟨rfl,hb2⟩;have HB2:=hid hb2;obtain⟨d0,d1,d2,d3,d4,_⟩:=cells5 <| HD.out _ HB2.out;clear hb2)
   | (go_at_call 209;(with_reducible refine(Q1.out _ HB2.out).mono ?_);rintro e w3 ⟨rfl,hb3⟩;have HB3:=hid hb3;obtain⟨d0,d1,d2,d3,d4,_⟩:=cells5 <| HD.out _ HB3.out;clear hb3))
  go_ret;exact⟨rfl,HB.out.trans (HB3.out.mono HB.out.size)⟩
 have hzi:(0:Int)<(outsN.length:Int):=by have:=of_decide_eq_true g2;omega
 cases b3
 ·go_wp2_with (first
   | (go_at_call 192;(with_reducible refine(Q0.out _ R1.out).mono ?_);rintro e w2 ⟨rfl,hb2⟩;have HB2:=hid hb2;obtain⟨d0,d1,d2,d3,d4,_⟩:=cells5 <| HD.out _ HB2.out;clear hb2)
   | (go_at_call 209;(with_reducible refine(Q1.out _ HB2.out).mono ?_);rintro e w3 ⟨rfl,hb3⟩;have HB3:=hid hb3;obtain⟨d0,d1,d2,d3,d4,_⟩:=cells5 <| HD.out _ HB3.out;clear hb3)
   | (go_at_call 209;(with_reducible refine(Q3.out _ HB3.out).mono ?_);rintro e w5 ⟨rfl,hb5⟩;have HB5:=hid hb5;obtain⟨d0,d1,d2,d3,d4,_⟩:=cells5 <| HD.out _ HB5.out;clear hb5))
  go_ret;exact⟨rfl,HB.out.trans (HB5.out.mono HB.out.size)⟩
 cases b4
 ·go_wp2_with (first
   | (go_at_call 192;(with_reducible refine(Q0.out _ R1.out).mono ?_);rintro e w2 ⟨rfl,hb2⟩;have HB2:=hid hb2;obtain⟨d0,d1,d2,d3,d4,_⟩:=cells5 <| HD.out _ HB2.out;clear hb2)
   | (go_at_call 209;(with_reducible refine(Q1.out _ HB2.out).mono ?_);rintro e w3 ⟨rfl,hb3⟩;have HB3:=hid hb3;obtain⟨d0,d1,d2,d3,d4,_⟩:=cells5 <| HD.out _ HB3.out;clear hb3)
   | (go_at_call 209;(with_reducible refine(Q3.out _ HB3.out).mono ?_);rintro e w5 ⟨rfl,hb5⟩;have HB5:=hid hb5;obtain⟨d0,d1,d2,d3,d4,_⟩:=cells5 <| HD.out _ HB5.out;clear hb5)
   | (go_at_call 209;(with_reducible refine(Q4.out _ HB5.out).mono ?_);rintro e w6 ⟨rfl,hb6⟩;have HB6:=hid hb6;obtain⟨d0,d1,d2,d3,d4,_⟩:=cells5 <| HD.out _ HB6.out;clear hb6))
  go_ret;exact⟨rfl,HB.out.trans (HB6.out.mono HB.out.size)⟩
 cases b5
 ·go_wp2_with (first
   | (go_at_call 192;(with_reducible refine(Q0.out _ R1.out).mono ?_);rintro e w2 ⟨rfl,hb2⟩;have HB2:=hid hb2;obtain⟨d0,d1,d2,d3,d4,_⟩:=cells5 <| HD.out _ HB2.out;clear hb2)
   | (go_at_call 209;(with_reducible refine(Q1.out _ HB2.out).mono ?_);rintro e w3 ⟨rfl,hb3⟩;have HB3:=hid hb3;obtain⟨d0,d1,d2,d3,d4,_⟩:=cells5 <| HD.out _ HB3.out;clear hb3)
   | (go_at_call 209;(with_reducible refine(Q3.out _ HB3.out).mono ?_);rintro e w5 ⟨rfl,hb5⟩;have HB5:=hid hb5;obtain⟨d0,d1,d2,d3,d4,_⟩:=cells5 <| HD.out _ HB5.out;clear hb5)
   | (go_at_call 209;(with_reducible refine(Q4.out _ HB5.out).mono ?_);rintro e w6 ⟨rfl,hb6⟩;have HB6:=hid hb6;obtain⟨d0,d1,d2,d3,d4,_⟩:=cells5 <| HD.out _ HB6.out;clear hb6)
   | (go_at_call 210;(with_reducible refine(Q5.out _ HB6.out).mono ?_);rintro e w7 ⟨rfl,hb7⟩;have HB7:=hid hb7;obtain⟨d0,d1,d2,d3,d4,_⟩:=cells5 <| HD.out _ HB7.out;clear hb7))
  go_ret;exact⟨rfl,HB.out.trans (HB7.out.mono HB.out.size)⟩
 go_wp2_with (first
  | (go_at_call 192;(with_reducible refine(Q0.out _ R1.out).mono ?_);rintro e w2 ⟨rfl,hb2⟩;have HB2:=hid hb2;obtain⟨d0,d1,d2,d3,d4,_⟩:=cells5 <| HD.out _ HB2.out;clear hb2)
  | (go_at_call 209;(with_reducible refine(Q1.out _ HB2.out).mono ?_);rintro e w3 ⟨rfl,hb3⟩;have HB3:=hid hb3;obtain⟨d0,d1,d2,d3,d4,_⟩:=cells5 <| HD.out _ HB3.out;clear hb3)
  | (go_at_call 209;(with_reducible refine(Q3.out _ HB3.out).mono ?_);rintro e w5 ⟨rfl,hb5⟩;have HB5:=hid hb5;obtain⟨d0,d1,d2,d3,d4,_⟩:=cells5 <| HD.out _ HB5.out;clear hb5)
  | (go_at_call 209;(with_reducible refine(Q4.out _ HB5.out).mono ?_);rintro e w6 ⟨rfl,hb6⟩;have HB6:=hid hb6;obtain⟨d0,d1,d2,d3,d4,_⟩:=cells5 <| HD.out _ HB6.out;clear hb6)
  | (go_at_call 210;(with_reducible refine(Q5.out _ HB6.out).mono ?_);rintro e w7 ⟨rfl,hb7⟩;have HB7:=hid hb7;obtain⟨d0,d1,d2,d3,d4,_⟩:=cells5 <| HD.out _ HB7.out;clear hb7))
 go_ret;exact⟨rfl,HB.out.trans (HB7.out.mono HB.out.size)⟩
theorem Zbky (r:RuleS) (a1 a2 a3 a4:Option Addr) (c1 c2 c3 c4:Nat) (w:World) (hs:SmallR r 1048576):
  Calls prog 146 #[.agg (Zbiz r a1 a2 a3 a4 c1 c2 c3 c4)] w λe w'=>e = .returned (.bool (Zbkx r))/\Below w.heap.size w w':=by
 have hl1:=hs.ins.1;have hl2:=hs.outs.1;have hl3:=hs.after.1;have hl4:=hs.few;unfold Zbkx;obtain⟨b1,g1⟩:∃b,decide (r.ins.length<=8)=b:=⟨_,rfl⟩;obtain⟨b2,g2⟩:∃b,decide (r.outs.length<=4)=b:=⟨_,rfl⟩;obtain⟨b3,g3⟩:∃b,decide (r.after.length<=8)=b:=⟨_,rfl⟩;obtain⟨b4,g4⟩:∃b,decide (r.steps.length<=12)=b:=⟨_,rfl⟩;rw[g1,g2,g3,g4];obtain⟨name,insN,outsN,after,steps⟩:=r;simp only[Zbiz]at g1 g2 g3 g4 hl1 hl2 hl3 hl4⊢;clear hs
 cases b1
 ·have h1:¬(insN.length:Int)<=8:=by have:=of_decide_eq_false g1;omega
  go_enter func146,ntmps146
  go_wp2;go_ret;exact⟨rfl,(Below.refl _ _).alloc (Nat.le_refl _) _⟩
 have h1:(insN.length:Int)<=8:=by have:=of_decide_eq_true g1;omega
 cases b2
 ·have h2:¬(outsN.length:Int)<=4:=by have:=of_decide_eq_false g2;omega
  go_enter func146,ntmps146
  go_wp2;go_ret;exact⟨rfl,(Below.refl _ _).alloc (Nat.le_refl _) _⟩
 have h2:(outsN.length:Int)<=4:=by have:=of_decide_eq_true g2;omega
 cases b3
 ·have h3:¬(after.length:Int)<=8:=by have:=of_decide_eq_false g3;omega
  go_enter func146,ntmps146
  go_wp2;go_ret;exact⟨rfl,(Below.refl _ _).alloc (Nat.le_refl _) _⟩
 have h3:(after.length:Int)<=8:=by have:=of_decide_eq_true g3;omega
 have h4:decide ((steps.length:Int)<=12)=b4:=by rw[<-g4,Bool.eq_iff_iff,decide_eq_true_eq,decide_eq_true_eq];omega
 have H4:=hid h4;clear h4 g4
 go_enter func146,ntmps146
 go_wp2;go_ret;exact⟨congrArg (λb=>Ending.returned (.bool b)) H4.out,(Below.refl _ _).alloc (Nat.le_refl _) _⟩
def Zbe (sb:Nat) (a:Option Addr) (A B:World):Prop:=B.heap[sb]? =A.heap[sb]? /\∀g,(a.map Addr.block)=some g->B.heap[g]? =A.heap[g]?
theorem Zwh {b:Nat} {a:Option Addr} {w:World} (h:b<w.heap.size) (ha:∀g,(a.map Addr.block)=some g->g<w.heap.size) (W:World) (l:Nat) (o o':Obj) (hl:w.heap.size<=l) (_:W.heap[l]? =some o) (_:o.isCells=false) (_:o.isWalk=false):Zbe b a W (W.putObj l o'):=
 ⟨World.putObj_heap_other (by omega),λg hg=>World.putObj_heap_other (by have:=ha g hg;omega)⟩
section
attribute [local go_sem] Oper.semAt_some
set_option maxRecDepth 100000
set_option maxHeartbeats 4000000
end
end Go.Proofs.YtokogjhcidkckaaGreatDoor
namespace Go.Proofs.YtokogjhcidkckaaGreatDoor
open Go.Lib (hid)
open Go.Proofs.Tryz
open Go.Lib
def Zbak (outs:List ByteArray):List StepS->List Bool×List ByteArray
 | []=>([],outs)
 | s::r=>if 0<=Zoi (Zbak outs r).2 s.out then(true::(Zbak outs r).1,(Zbak outs r).2++s.args)else(false::(Zbak outs r).1,(Zbak outs r).2)
end Go.Proofs.YtokogjhcidkckaaGreatDoor
namespace Go.Proofs.YtokogjhcidkckaaGreatDoor
open Go.Lib (hid)
open Go.Proofs.Tryz
open Go.RowKit Go.Shelf Go.Maps
def BoolR (w:World) (g:Nat) (ms:List Bool):Prop:=w.heap[g]? =some (.cells (ms.map Value.bool).toArray 4 (0,0))
theorem BoolR.cell {w:World} {g:Nat} {ms:List Bool} (h:BoolR w g ms) {k:Nat} {m:Bool} (hk:ms[k]? =some m):w.cell? ⟨g,k,none⟩=some (.bool m)/\w.frozen? ⟨g,k,none⟩=false:=by
 have h:w.heap[g]? =some (.cells (ms.map Value.bool).toArray 4 (0,0)):=h;refine⟨?_,by simp[World.frozen?,h]⟩;simp only[World.cell?,h,Option.isSome_none,Bool.false_eq_true,if_false];rw[List.getElem?_toArray,List.getElem?_map,hk];rfl
theorem BoolR.set {w:World} {g:Nat} {ms:List Bool} (h:BoolR w g ms) (k:Nat) (b:Bool):BoolR (w.setCell ⟨g,k,none⟩ (.bool b)) g (ms.set k b):=by
 have:=heap_set k (Value.bool b) (show w.heap[g]? =some (.cells (ms.map Value.bool).toArray 4 (0,0))from h);unfold BoolR;rw[this,List.setIfInBounds_toArray,List.map_set]
theorem Zgc (w:World) (n:Nat):BoolR (w.alloc (.cells (madeCells #[.bool false] n) 4)) w.heap.size (List.replicate n false):=by
 unfold BoolR;rw[alloc_at]
 congr 2
 apply Array.ext';unfold madeCells;rw[Array.toList_map];apply List.ext_getElem?;intro i;rw[List.getElem?_map,Array.toList_range,List.map_replicate,List.getElem?_replicate]
 by_cases hi:i<n
 ·rw[List.getElem?_range hi,if_pos hi];simp[Nat.mod_one]
 ·rw[List.getElem?_eq_none (by simp;omega),if_neg hi];rfl
theorem Zsm:(prog.info? 4).map (λi=>(i.zero,i.size,i.bytes))=some (some (.bool false),1,1):=by kernel_rfl
theorem Zyd (n:Nat) (hn:n<=1000000000) (w:World):(Instr.makeSlice 94 (.int .i64 (n:Int)) (.int .i64 (n:Int))).run prog w = .ok (.slice (some ⟨w.heap.size,0,none⟩) n n) (w.alloc (.cells (madeCells #[.bool false] n) 4)):=by
 obtain⟨i0,hi,hz,hs,hb⟩:=info_parts Zsm;have:=run_make (P:=prog) w 94 4 i0 (.bool false) underlying94 hi hz .i64 .i64 n n (by omega) (Int.le_refl _) (by rw[hb];omega) (by omega);rw[hs,show(Value.bool false).cells = #[.bool false]from rfl]at this;simpa using this
theorem Zbam (outs:List ByteArray) (s:StepS) (r:List StepS) (L:List ByteArray) (hL:∀a,a∈L↔a∈(Zbak outs r).2):
  Zbak outs (s::r)=if inS L s.out=true then(true::(Zbak outs r).1,(Zbak outs r).2++s.args)else(false::(Zbak outs r).1,(Zbak outs r).2):=by
 have e:(0<=Zoi (Zbak outs r).2 s.out)↔inS L s.out=true:=by rw[Zoj,Zsj,hL]
 rw[Zbak]
 by_cases h:inS L s.out=true
 ·rw[if_pos (e.2 h),if_pos h]
 ·rw[if_neg (λh'=>h (e.1 h')),if_neg h]
theorem Zma {α:Type} {l:List α} {k:Nat} {x:α} (h:l[k]? =some x):l.drop k=x::l.drop (k+1):=by
 obtain⟨hl,e⟩:=List.getElem?_eq_some_iff.1 h;rw[<-e];exact List.drop_eq_getElem_cons hl
structure NdI (w:World) (n N:Nat) (outs:List ByteArray) (steps:List StepS) (pre:List (Nat×List Value)) (W:World):Prop where
 set:∃L,SetIs W (n+1) L/\(∀a,a∈L↔a∈(Zbak outs (steps.drop (N-pre.length))).2)/\L.length<=1048576+pre.length*1048576
 marks:BoolR W (n+3) (List.replicate (N-pre.length) false++(Zbak outs (steps.drop (N-pre.length))).1)
 b2:Boxed W (n+2) 251 (.map (some (n+1)))
 b4:Boxed W (n+4) 94 (.slice (some ⟨n+3,0,none⟩) N N)
 below:Below n w W
 size:n+6<=W.heap.size
 few:pre.length<=N
theorem NdI.keep {w:World} {n N:Nat} {outs:List ByteArray} {steps:List StepS} {pre:List (Nat×List Value)} {W W':World} (h:NdI w n N outs steps pre W) (hos:W'.os=W.os) (ht:W'.tape=W.tape) (ho:W'.output=W.output) (hs:W.heap.size<=W'.heap.size) (hb:∀k,k<n+6->W'.heap[k]? =W.heap[k]?):NdI w n N outs steps pre W':=by
 obtain⟨⟨L,h1,h2,h3⟩,h4,h5,h6,h7,h8,h9⟩:=h;exact⟨⟨L,h1.heap (hb _ (by omega)),h2,h3⟩,(hb _ (by omega)).trans h4,(hb _ (by omega)).trans h5,(hb _ (by omega)).trans h6,⟨hos.trans h7.os,ht.trans h7.tape,ho.trans h7.output,Nat.le_trans h7.size hs,λk hk=>(hb k (by omega)).trans (h7.block k hk)⟩,by omega,h9⟩
theorem Zbgy (k:Nat) (M:List Bool):List.replicate (k+1) false++M=List.replicate k false++false::M:=by
 rw[List.replicate_succ',List.append_assoc];rfl
theorem NdI.no {w:World} {n N:Nat} {outs:List ByteArray} {steps:List StepS} {pre:List (Nat×List Value)} {x:Nat×List Value} {W W':World} {k:Nat} {y:StepS} {L:List ByteArray} (hN:N=steps.length) (hk:N=k+1+pre.length) (hy:steps[k]? =some y) (h:NdI w n N outs steps pre W)
  (hL:∀a,a∈L↔a∈(Zbak outs (steps.drop (k+1))).2) (hs:SetIs W (n+1) L) (hl:L.length<=1048576+pre.length*1048576) (hno:inS L y.out=false) (hb:Below W.heap.size W W'):NdI w n N outs steps (pre ++ [x]) W':=by
 have hz:=h.size;have e1:N-(pre ++ [x]).length=k:=by simp;omega
 have e2:N-pre.length=k+1:=by omega
 have hstep:=Zbam outs y (steps.drop (k+1)) L hL;rw[hno,if_neg (by decide),<-Zma hy]at hstep;have hm:=h.marks;rw[e2]at hm;refine⟨⟨L,hs.heap (hb.block _ (by omega)),?_,?_⟩,?_,(hb.block _ (by omega)).trans h.b2,(hb.block _ (by omega)).trans h.b4,h.below.trans (hb.mono (by omega)),Nat.le_trans hz hb.size,by simp;omega⟩
 ·rw[e1,hstep];exact hL
 ·have e9:(pre ++ [x]).length=pre.length+1:=by rw[List.length_append];rfl
  rw[e9];exact Nat.le_trans hl (Nat.add_le_add_left (Nat.mul_le_mul_right _ (Nat.le_succ _)) _)
 ·rw[e1,hstep,<-Zbgy];exact(hb.block _ (by omega)).trans hm
def IsInts (w:World) (v:Value) (xs:List Nat):Prop:=∃a c,v = .slice a xs.length c/\xs.length<=c/\c<=maxLen/\(xs≠[]->∃b o,a=some ⟨b,o,none⟩/\b<w.heap.size/\∀(j:Nat) x,xs[j]? =some x->w.cell? ⟨b,o+j,none⟩=some (.int .i64 (x:Int)))
theorem IsInts.below {w w':World} {v:Value} {xs:List Nat} (h:IsInts w v xs) (hb:Below w.heap.size w w'):IsInts w' v xs:=by
 obtain⟨a,c,rfl,h1,h2,h3⟩:=h;refine⟨a,c,rfl,h1,h2,λhne=>?_⟩;obtain⟨b,o,rfl,hl,hc⟩:=h3 hne;exact⟨b,o,rfl,Nat.lt_of_lt_of_le hl hb.size,λj x hx=>(hb.cell (p:=⟨b,o+j,none⟩) hl).trans (hc j x hx)⟩
def intV (n:Nat):Value:= .int .i64 (n:Int)
theorem Zbdp {B:Nat} {w:World} {v:Value} {xs:List Nat} (h:w.ownsRow B 3 1 v xs.length (xs.map intV)):IsInts w v xs:=by
 obtain⟨_,⟨rfl,h0⟩|⟨g,cap,cur,rfl,_,hg,h1,h2,_,h4⟩⟩:=h
 ·obtain rfl:xs = []:=List.eq_nil_of_length_eq_zero h0
  exact⟨none,0,rfl,Nat.le_refl _,by decide,λh=>absurd rfl h⟩
 ·refine⟨_,cap,rfl,h1,h2,λ_=>⟨g,0,rfl,(Array.getElem?_eq_some_iff.1 hg).1,λj x hx=>?_⟩⟩
  have hj:=(List.getElem?_eq_some_iff.1 hx).1;have e:(cur.toList.take (xs.length*1))[j]? =(xs.map intV)[j]?:=by rw[h4]
  rw[Nat.mul_one,List.getElem?_take_of_lt hj,List.getElem?_map,hx]at e;simp only[World.cell?,hg,Nat.zero_add,Option.isSome_none,Bool.false_eq_true,if_false];rw[<-Array.getElem?_toList,e];rfl
theorem Zsn:(prog.info? 3).map (λi=>(i.zero,i.size,i.bytes))=some (some (.int .i64 0),1,8):=by kernel_rfl
set_option maxHeartbeats 4000000
set_option maxRecDepth 100000
set_option maxHeartbeats 4000000
set_option maxRecDepth 100000
theorem Zub {w:World} {b:Nat} {s:ByteArray} {t:TypeId} (h:w.heap[b]? =some (.cells #[.string s] t)):IsStrs w (.slice (some ⟨b,0,none⟩) 1 1) [s]:=by
 refine⟨_,1,rfl,Nat.le_refl _,by decide,λ_=>⟨b,0,rfl,(Array.getElem?_eq_some_iff.1 h).1,λj x hx=>?_⟩⟩
 match j,hx with
 | 0,hx=>
  obtain rfl:s=x:=by simpa using hx
  simp[World.cell?,h]
theorem Zbiv {w:World} {r:RuleS} {a1 a2 a3 a4:Option Addr} {c1 c2 c3 c4:Nat} (hr:RuleI w [.string r.name,.slice a1 r.ins.length c1,.slice a2 r.outs.length c2,.slice a3 r.after.length c3,.slice a4 r.steps.length c4] r):IsStrs w (.slice a2 r.outs.length c2) r.outs:=by
 obtain⟨vi,vo,vf,vs,q,h1,h2,h3,h4⟩:=hr;simp only[List.cons.injEq,and_true,true_and]at q;obtain⟨rfl,rfl,rfl,rfl⟩:=q;exact h2
def Zpm (outs:List ByteArray):List ByteArray->List ByteArray->List StepS->Bool
 | _,M,[]=>outs.all (inS M)
 | T,M,s::r=>if s.args.all (inS T)=true/\inS T s.out=false then Zpm outs (addS T [s.out]) (addS M [s.out]) r else false
theorem Zcr (T:List ByteArray) (k:ByteArray):decide ((addS T [k]).length=T.length+1) = !inS T k:=by
 show decide ((insS T k).length=T.length+1) = !inS T k;unfold insS
 cases h:inS T k
 ·simp
 ·simp
set_option maxHeartbeats 4000000
set_option maxRecDepth 100000
theorem Zbos (r:RuleS) (a1 a2 a3 a4:Option Addr) (c1 c2 c3 c4:Nat) (w:World) (hr:RuleI w [.string r.name,.slice a1 r.ins.length c1,.slice a2 r.outs.length c2,.slice a3 r.after.length c3,.slice a4 r.steps.length c4] r) (hs:SmallR r 1048576):
  Calls prog 213 #[.agg (Zbiz r a1 a2 a3 a4 c1 c2 c3 c4)] w λe w'=>e = .returned (.bool (Zpm r.outs (addS [] r.ins) [] r.steps))/\Below w.heap.size w w':=by
 obtain⟨vi,vo,vf,vst,qe,h1,h2,h3,h4⟩:=hr;simp only[List.cons.injEq,and_true,true_and]at qe;obtain⟨rfl,rfl,rfl,rfl⟩:=qe;have hfew:=hs.few;have hil:=hs.ins.1;obtain⟨n,hn⟩:∃n,w.heap.size=n:=⟨_,rfl⟩;have mixed:prog.follows .mixedOrders=true:=by kernel_rfl
 have hmm:=@run_makeMap prog;obtain⟨R,hR⟩:∃R,Zpm r.outs (addS [] r.ins) [] r.steps=R:=⟨_,rfl⟩;rw[hR,hn];obtain⟨name,insN,outsN,after,steps⟩:=r;simp only[Zbiz]at hR hfew hil h1 h2 h4 hs⊢;have HN:=hid hn;have HR:=hid hR;have H1:=hid h1;have H2:=hid h2;have H4:=hid h4;have HS:=hid hs;clear hR h1 h2 h3 h4 hs
 go_enter func213,ntmps213
 obtain⟨W3,hW3⟩:∃W,((w.alloc (.cells #[.string name,.slice a1 insN.length c1,.slice a2 outsN.length c2,.slice a3 after.length c3,.slice a4 steps.length c4] 50)).alloc (.map #[] 0)).alloc (.map #[] 0)=W:=⟨_,rfl⟩;have hs3:W3.heap.size=n+3:=by rw[<-hW3];simp[hn]
 have hb3:Below n w W3:=by rw[<-hW3,<-hn];exact(((Below.refl _ _).alloc (Nat.le_refl _) _).alloc (by simp) _).alloc (by simp;omega) _
 have hx3:W3.heap[n]? =some (.cells #[.string name,.slice a1 insN.length c1,.slice a2 outsN.length c2,.slice a3 after.length c3,.slice a4 steps.length c4] 50):=by
  rw[<-hW3,Below.heap_alloc _ _ _ (by simp[hn];omega),Below.heap_alloc _ _ _ (by simp[hn]),<-hn];exact alloc_at w _
 have hT3:SetIs W3 (n+1) []:=by
  have:=Zbkr (w.alloc (.cells #[.string name,.slice a1 insN.length c1,.slice a2 outsN.length c2,.slice a3 after.length c3,.slice a4 steps.length c4] 50));rw[World.size_alloc,hn]at this;rw[<-hW3];exact this.heap (Below.heap_alloc _ _ _ (by simp[hn]))
 have hM3:SetIs W3 (n+2) []:=by
  have:=Zbkr ((w.alloc (.cells #[.string name,.slice a1 insN.length c1,.slice a2 outsN.length c2,.slice a3 after.length c3,.slice a4 steps.length c4] 50)).alloc (.map #[] 0));rw[World.size_alloc,World.size_alloc,hn]at this;rw[<-hW3];exact this
 have CA:=hid (Zha (n+1) [] (.slice a1 insN.length c1) insN W3 hT3 (H1.out.below (by rw[hn];exact hb3)) (λg o c hne e=>by
  obtain⟨g',o',e',hg',_⟩:=Ztz H1.out hne;have e2:=e'.symm.trans (Value.slice.inj e).1
  cases e2
  omega) (by simp;omega) (Zblx HS.out.ins))
 have HW3:=hid hW3;have HS3:=hid hs3;have HB3:=hid hb3;have HX3:=hid hx3;have HM3:=hid hM3;clear hW3 hs3 hb3 hx3 hT3 hM3
 go_wp2_with fail
 rw[HW3.out]
 (with_reducible refine CA.out.mono ?_)
 rintro e W4 ⟨rfl,hT4,hg4,hz4⟩;have hs3:=HS3.out;have hx4:W4.heap[n]? =some (.cells #[.string name,.slice a1 insN.length c1,.slice a2 outsN.length c2,.slice a3 after.length c3,.slice a4 steps.length c4] 50):=(hg4.block n (by omega) (λe=>by cases e)).trans HX3.out;obtain⟨d0,d1,d2,d3,d4,_⟩:=cells5 hx4;have HT4:=hid hT4;have HX4:=hid hx4;have HM4:Hid (SetIs W4 (n+2) []):=hid (HM3.out.heap (hg4.block _ (by omega) (λe=>by cases e)));have HZ4:Hid (n+3<=W4.heap.size):=hid (by omega);have HB4:Hid (Below n w W4):=hid (HB3.out.grown hg4 (by omega) (λj e=>by cases e;omega));clear hT4 hx4 hg4 hz4 hs3;go_wp2
 go_loopw [2,6,16,17,18,19,20,21,22,23,24,25,26,27,28,29,30,31,32,33,34,35,36,37,38] (λ_ _ iv _ _ _ _ _ _ _ _ _ _ _ _ _ _ _ _ _ _ _ _ _ _ wr=>∃k T M,k<=steps.length/\iv = .int .i64 (k:Int)/\SetIs wr (n+1) T/\SetIs wr (n+2) M/\T.length<=insN.length+k/\M.length<=k/\Zpm outsN T M (steps.drop k)=R/\wr.heap[n]? =some (.cells #[.string name,.slice a1 insN.length c1,.slice a2 outsN.length c2,.slice a3 after.length c3,.slice a4 steps.length c4] 50)/\n+3<=wr.heap.size/\Below n w wr) (λ_ _ iv _ _ _ _ _ _ _ _ _ _ _ _ _ _ _ _ _ _ _ _ _ _ _=>steps.length-(intOf iv).toNat)
 case atStart=>exact⟨0,_,[],Nat.zero_le _,rfl,HT4.out,HM4.out,by have:=Zco insN [];simpa using this,Nat.le_refl _,HR.out,HX4.out,HZ4.out,HB4.out⟩
 case round=>
  obtain⟨k,T,M,hk,rfl,hT,hM,hTl,hMl,hf,hx,hz,hb⟩:=hrel;have HT:=hid hT;have HM:=hid hM;have HX:=hid hx;have HZ:=hid hz;have HB:=hid hb
  by_cases hlt:k<steps.length
  ·obtain⟨y,hy⟩:∃y,steps[k]? =some y:=⟨steps[k],List.getElem?_eq_getElem hlt⟩
   obtain⟨b,o,cap,va,vl,e,hya,hyl,hyc⟩:=Zbou H4.out hy;obtain⟨b1,m1,rfl⟩:=Zue hya;obtain⟨b2,m2,rfl⟩:=Zue hyl;injection e with e1 _ e3
   subst e1 e3;have hsy:=HS.out.steps y (List.mem_of_getElem? hy);have hdr:steps.drop k=y::steps.drop (k+1):=by
    rw[List.drop_eq_getElem_cons hlt];congr 1;rw[List.getElem?_eq_getElem hlt]at hy;exact Option.some.inj hy
   rw[hdr,Zpm]at hf;have hbn:Below w.heap.size w wr:=by rw[HN.out];exact hb
   obtain⟨e0,e1,e2,e3,e4⟩:=hyc wr hbn;have hi1:(k:Int)<(steps.length:Int):=by omega
   have hi0:(0:Int)<=(k:Int):=by omega
   have cH:∀W,Below wr.heap.size wr W->Calls prog 172 #[.map (some (n+1)),.slice b1 y.args.length m1] W λe w'=>e = .returned (.bool (y.args.all (inS T)))/\Below W.heap.size W w':=λW hW=>(Zhh (n+1) T _ y.args W (hT.below hW (by omega)) (hya.below (hbn.trans (hW.mono (by rw[HN.out];omega)))) (Zblx hsy.args))
   have hyo:∀z∈[y.out],z.size<=maxLen:=by intro z hz;simp at hz;subst hz;have:=hsy.out;unfold maxLen;omega
   have cT:∀W g,Below wr.heap.size wr W->W.heap[g]? =some (.cells #[.string y.out] 9)->wr.heap.size<=g->Calls prog 170 #[.map (some (n+1)),.slice (some ⟨g,0,none⟩) 1 1] W λe w'=>e = .returned (.bool (!inS T y.out))/\SetIs w' (n+1) (addS T [y.out])/\W.grownBy w' (some (n+1))/\w'.heap.size=W.heap.size:=λW g hW hg hgl=>(Zha (n+1) T _ [y.out] W (hT.below hW (by omega)) (Zub hg) (λg' o' c' _ e=>by cases (Value.slice.inj e).1;omega) (by simp;omega) hyo).mono λe w' q=>⟨by rw[q.1,List.length_singleton,Zcr],q.2⟩
   have cM:∀W g,SetIs W (n+2) M->W.heap[g]? =some (.cells #[.string y.out] 9)->wr.heap.size<=g->Calls prog 170 #[.map (some (n+2)),.slice (some ⟨g,0,none⟩) 1 1] W (Zae W (n+2) M [y.out]):=λW g hW hg hgl=>Zha (n+2) M _ [y.out] W hW (Zub hg) (λg' o' c' _ e=>by cases (Value.slice.inj e).1;omega) (by simp;omega) hyo
   obtain⟨bA,hbA⟩:∃b,y.args.all (inS T)=b:=⟨_,rfl⟩;obtain⟨bT,hbT⟩:∃b,inS T y.out=b:=⟨_,rfl⟩;rw[hbA]at cH hf;rw[hbT]at cT hf;have CH:=hid cH;have CT:=hid cT;have CM:=hid cM;obtain⟨W1,hW1⟩:∃W,wr.alloc (.cells #[.string y.out,.int .i64 y.op,.slice b1 y.args.length m1,.slice b2 y.lits.length m2,.int .i64 y.n] 60)=W:=⟨_,rfl⟩;have hs1:W1.heap.size=wr.heap.size+1:=by rw[<-hW1];simp
   have hb1:Below wr.heap.size wr W1:=by rw[<-hW1];exact(Below.refl _ _).alloc (Nat.le_refl _) _
   have hx1:W1.heap[wr.heap.size]? =some (.cells #[.string y.out,.int .i64 y.op,.slice b1 y.args.length m1,.slice b2 y.lits.length m2,.int .i64 y.n] 60):=by rw[<-hW1];exact alloc_at wr _
   obtain⟨f0,f1,f2,f3,f4,_⟩:=cells5 hx1;have HB1:=hid hb1;have HW1:=hid hW1;have HF:=hid hf;have HX1:=hid hx1;have HS1:=hid hs1;have H1A:Hid (T.length<=insN.length+k/\M.length<=k):=hid ⟨hTl,hMl⟩;have hfX:=HF.out;clear hT hM hTl hMl hf hx hz hb hy hya hyl hyc hsy hdr hbn cH cT cM hyo hbA hbT hb1 hW1 hx1 hs1
   cases bA
   ·rw[if_neg (λh=>by cases h.1)]at hfX
    subst hfX
    go_wp2_with (go_at_call 172;rw[HW1.out];(with_reducible refine(CH.out _ HB1.out).mono ?_);rintro e w2 ⟨rfl,hb2⟩;have HB2:=hid (HB1.out.trans (hb2.mono HB1.out.size));clear hb2)
    go_ret;exact⟨rfl,HB.out.trans (HB2.out.mono (by have:=HZ.out;omega))⟩
   cases bT
   ·rw[if_pos ⟨rfl,rfl⟩]at hfX
    have HFX:=hid hfX;clear hfX
    go_wp2_with (first
     | (go_at_call 172;rw[HW1.out];(with_reducible refine(CH.out _ HB1.out).mono ?_);rintro e w2 ⟨rfl,hb2⟩;have HX2:=hid ((hb2.block _ (Array.getElem?_eq_some_iff.1 HX1.out).1).trans HX1.out);obtain⟨f0,f1,f2,f3,f4,_⟩:=cells5 HX2.out;have HB2:=hid (HB1.out.trans (hb2.mono HB1.out.size));clear hb2)
     | (go_at_call 170;(with_reducible refine(CT.out _ _ (HB2.out.alloc HB2.out.size _) (alloc_at w2 _) HB2.out.size).mono ?_);rintro e w3 ⟨rfl,hT3,hg3,hz3⟩;have HX3':=hid (show w3.heap[wr.heap.size]? =_ from(hg3.block _ (by rw[World.size_alloc];have:=(Array.getElem?_eq_some_iff.1 HX2.out).1;omega) (λe=>by have:=Option.some.inj e;have:=HZ.out;omega)).trans ((Below.heap_alloc _ _ _ (Array.getElem?_eq_some_iff.1 HX2.out).1).trans HX2.out));obtain⟨f0,f1,f2,f3,f4,_⟩:=cells5 HX3'.out;have HT3:=hid hT3;have HG3:=hid hg3;have HM3':=hid (show SetIs w3 (n+2) M from HM.out.heap ((hg3.block _ (by rw[World.size_alloc];have:=HZ.out;have:=HB2.out.size;omega) (λe=>by have:=Option.some.inj e;omega)).trans ((Below.heap_alloc _ _ _ (by have:=HZ.out;have:=HB2.out.size;omega)).trans (HB2.out.block _ (by have:=HZ.out;omega)))));have HZ3:=hid (show wr.heap.size<=w3.heap.size by rw[hz3,World.size_alloc];have:=HB2.out.size;omega);clear hT3 hg3 hz3)
     | (go_at_call 170;(with_reducible refine(CM.out _ _ (HM3'.out.heap (Below.heap_alloc _ _ _ (by have:=HZ.out;have:=HZ3.out;omega))) (alloc_at w3 _) HZ3.out).mono ?_);rintro e w4 ⟨rfl,hM4,hg4,hz4⟩;have HM4':=hid hM4;have HG4:=hid hg4;have HZ4':=hid hz4;clear hM4 hg4 hz4))
    have hz:=HZ.out;have hz2:=HB2.out.size;have hz3:=HZ3.out;have hb2:Below n w (w2.alloc (.cells #[.string y.out] 9)):=HB.out.trans ((HB2.out.alloc HB2.out.size _).mono (by omega));have hb3:Below n w w3:=hb2.grown HG3.out (by rw[World.size_alloc];omega) (λj e=>by cases e;omega);have hb4:Below n w w4:=(hb3.alloc (by omega) (.cells #[.string y.out] 9)).grown HG4.out (by rw[World.size_alloc];omega) (λj e=>by cases e;omega);have hT4:SetIs w4 (n+1) (addS T [y.out]):=HT3.out.heap ((HG4.out.block _ (by rw[World.size_alloc];omega) (λe=>by have:=Option.some.inj e;omega)).trans (Below.heap_alloc _ _ _ (by omega)));have hx4:w4.heap[n]? =wr.heap[n]?:=(HG4.out.block _ (by rw[World.size_alloc];omega) (λe=>by have:=Option.some.inj e;omega)).trans ((Below.heap_alloc _ _ _ (by omega)).trans ((HG3.out.block _ (by rw[World.size_alloc];omega) (λe=>by have:=Option.some.inj e;omega)).trans ((Below.heap_alloc _ _ _ (by omega)).trans (HB2.out.block _ (by omega)))));have hz4:n+3<=w4.heap.size:=by rw[HZ4'.out,World.size_alloc];omega
    have HALL:=hid (show SetIs w4 (n+1) (addS T [y.out])/\w4.heap[n]? =wr.heap[n]? /\n+3<=w4.heap.size/\Below n w w4 from⟨hT4,hx4,hz4,hb4⟩);clear hz hz2 hz3 hb2 hb3 hb4 hT4 hx4 hz4;go_roundw
    case rel=>
     obtain⟨r1,r2,r3,r4⟩:=HALL.out;obtain⟨l1,l2⟩:=H1A.out;exact⟨k+1,_,_,by omega,by go_num,r1,HM4'.out,by have:=Zco [y.out] T;simp at this;omega,by have:=Zco [y.out] M;simp at this;omega,HFX.out,r2.trans HX.out,r3,r4⟩
    case measure=>simp[intOf];omega
   ·rw[if_neg (λh=>by cases h.2)]at hfX
    subst hfX
    go_wp2_with (first
     | (go_at_call 172;rw[HW1.out];(with_reducible refine(CH.out _ HB1.out).mono ?_);rintro e w2 ⟨rfl,hb2⟩;have HX2:=hid ((hb2.block _ (Array.getElem?_eq_some_iff.1 HX1.out).1).trans HX1.out);obtain⟨f0,f1,f2,f3,f4,_⟩:=cells5 HX2.out;have HB2:=hid (HB1.out.trans (hb2.mono HB1.out.size));clear hb2)
     | (go_at_call 170;(with_reducible refine(CT.out _ _ (HB2.out.alloc HB2.out.size _) (alloc_at w2 _) HB2.out.size).mono ?_);rintro e w3 ⟨rfl,hT3,hg3,hz3⟩;have HG3:=hid hg3;clear hT3 hg3 hz3))
    go_ret;exact⟨rfl,(HB.out.trans ((HB2.out.alloc HB2.out.size _).mono (by have:=HZ.out;omega))).grown HG3.out (by rw[World.size_alloc];have:=HZ.out;have:=HB2.out.size;omega) (λj e=>by cases e;omega)⟩
  ·have hi1:¬(k:Int)<(steps.length:Int):=by omega
   obtain rfl:k=steps.length:=by omega
   rw[List.drop_length,Zpm]at hf;obtain⟨q0,q1,q2,q3,q4,_⟩:=cells5 hx;have CH:=hid (Zhh (n+2) M _ outsN wr hM (H2.out.below (by rw[HN.out];exact hb)) (Zblx HS.out.outs));rw[hf]at CH;clear hT hM hTl hMl hf hx hz hb
   go_wp2_with (go_at_call 172;(with_reducible refine CH.out.mono ?_);rintro e w2 ⟨rfl,hb2⟩)
   go_ret;exact⟨rfl,HB.out.trans (hb2.mono (by have:=HZ.out;omega))⟩
end Go.Proofs.YtokogjhcidkckaaGreatDoor
