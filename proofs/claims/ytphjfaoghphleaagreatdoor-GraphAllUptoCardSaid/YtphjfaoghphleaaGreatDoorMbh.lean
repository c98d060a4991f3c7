import Derived.Test.YtphjfaoghphleaaGreatDoorMbg
set_option maxRecDepth 100000
set_option maxHeartbeats 16000000
namespace Go.Proofs.YtphjfaoghphleaaGreatDoor
open Go.Lib (hid)
open Go.Proofs.Tryz Go.RowKit Go.Shelf
theorem RgF.below {w W W':World} {g:Nat} {rs:List RuleS} (h:RgF w g rs W) (i:Below W.heap.size W W'):RgF w g rs W':=by
 obtain⟨a,j,b,c,d,e,f⟩:=h;exact⟨a,j,b,c,d,e.below i,f⟩
theorem RgF.under {w W:World} {g:Nat} {rs:List RuleS} (h:RgF w g rs W):Below w.heap.size w W:=by
 obtain⟨d,i,e,f,_,a,_,_,_,b,c,_⟩:=h;exact a.old b c
theorem RgF.read {w W:World} {g:Nat} {rs:List RuleS} (h:RgF w g rs W):∃d a b,(allG rs).length<=b/\∀V,Below W.heap.size W V->∃c,(V.cell? { block:=g,off:=0 } =some d/\V.cell? { block:=g,off:=1 } =some (.slice a (allG rs).length b)/\V.cell? { block:=g,off:=2 } =some c)/\
  RulesI V d rs/\RowL V a (allG rs)/\∃B,NdT V B (allG rs).length (allG rs).length c (ndM rs (allG rs)):=by
 obtain⟨p,d,a,b,q,f,i,j,k,_,_,l⟩:=h;refine⟨d,a,b,l,λV m=>?_⟩;have e:=f.below m;obtain⟨c,n,_,_,o⟩:=e.cells;exact⟨c,n,e.rules i,e.labs j k,_,o⟩
theorem Zdlr {rs:List RuleS} (i:OkTog rs) (a:Lb):Zdbt rs a=if 0<=Zczd (allG rs) a then(if a.1 then 1 else if (Zddu rs a.2).isSome then 2 else 3)else 0:=by
 obtain⟨q,n⟩:=a
 by_cases h:(q,n)∈allG rs
 ·rw[if_pos (Zczf.2 h)]
  obtain⟨r,b,h⟩:=Zcwx.1 h
  rcases h with⟨c,e⟩|⟨c,e⟩
  ·dsimp only at c e
   subst c;subst e;unfold Zdbt;simp[Zdhu i.nodup b]
  ·dsimp only at c e
   subst c
   cases d:Zddu rs n with
   | some m=>unfold Zdbt;simp[d]
   | none=>
    have k:n∈r.ins:=e.resolve_right (Zddv d r b);have f:rs.any (λr=>inB n r.ins)=true:=List.any_eq_true.2 ⟨r,b,Zdbl.2 k⟩;unfold Zdbt;simp[d,f]
 ·rw[if_neg (λg=>h (Zczf.1 g))]
  cases q with
  | true=>
   have b:Zdhs rs n=none:=by
    cases b:Zdhs rs n with
    | none=>rfl
    | some r=>exact absurd (Zcwx.2 ⟨r,(Zdhv b).1,.inl ⟨rfl,(Zdhv b).2.symm⟩⟩) h
   unfold Zdbt;simp[b]
  | false=>
   have d:Zddu rs n=none:=by
    cases d:Zddu rs n with
    | none=>rfl
    | some m=>
     obtain⟨r,b,j,_⟩:=Zddx d;exact absurd (Zcwx.2 ⟨r,b,.inr ⟨rfl,.inr j⟩⟩) h
   have f:rs.any (λr=>inB n r.ins)=false:=by
    rw[Bool.eq_false_iff];intro g;obtain⟨r,b,c⟩:=List.any_eq_true.1 g;exact h (Zcwx.2 ⟨r,b,.inr ⟨rfl,.inl (Zdbl.1 c)⟩⟩)
   unfold Zdbt;simp[d,f]
theorem Zdls {rs:List RuleS} (d:OkTog rs) (f:ByteArray):0<=Zcfo rs f↔(Zddu rs f).isSome=true:=by
 rcases Zcfq rs f with⟨b,a⟩|⟨k,x,b,a,c,_⟩
 ·rw[b]
  refine⟨λh=>absurd h (by omega),λh=>?_⟩;obtain⟨m,g⟩:=Option.isSome_iff_exists.1 h;obtain⟨r,i,e,_⟩:=Zddx g;exact absurd e (a r i)
 ·rw[Zddw d (List.mem_of_getElem? a) c]
  exact⟨λ_=>rfl,λ_=>by omega⟩
theorem Zdmb (w:World) (g:Nat) (rs:List RuleS) (a:Lb) (W:World) (h:RgF w g rs W) (x:OkTog rs):
  Calls prog 15 #[.pointer (some { block:=g,off:=0 }),lv a] W λe w'=>e = .returned (.int .i64 (Zdbt rs a))/\Below W.heap.size W w':=by
 have mixed:prog.follows .mixedOrders=true:=by kernel_rfl
 obtain⟨vr,aL,cL,_,o⟩:=h.read;obtain⟨L,M⟩:∃L,allG rs=L:=⟨_,rfl⟩;rw[M]at o;have X:L.length<=1000:=by
  rw[<-M];have h1:(allG rs).length<=(rs.flatMap labR).length:=Zdig _;have h2:(rs.flatMap labR).length<=rs.length*13:=Zdbz (λr hr=>⟨(Zckm (x.each r hr)).1,(Zckm (x.each r hr)).2.1⟩);have:=x.few;omega
 obtain⟨W0,n⟩:∃V,V=W.alloc (.cells #[.bool a.1,.string a.2] 24):=⟨_,rfl⟩;have p:Below W.heap.size W W0:=by rw[n];exact(Below.refl _ _).alloc (Nat.le_refl _) _
 have F:BoxL W0 W.heap.size a:=by rw[n];exact alloc_at W _
 obtain⟨V0,l⟩:∃V,V=W0.drew:=⟨_,rfl⟩;have s:Below W0.heap.size W0 V0:=by rw[l];exact(Below.refl _ _).drew
 have i:=p.trans (s.mono p.size);have f:=hid (F.below s (Nat.le_refl _));have J:=hid (show ∀V,Below V0.heap.size V0 V->V.cell? { block:=g,off:=0 } =some vr/\V.cell? { block:=g,off:=1 } =some (.slice aL L.length cL)from λV hV=>by
  obtain⟨vn,⟨C,D,_⟩,_⟩:=o V (i.trans (hV.mono i.size));exact⟨C,D⟩)
 obtain⟨vn,_,H,I,_⟩:=o V0 i;have T:=Zdgi L a aL cL V0 I (by omega);unfold lv at T⊢;have y:=hid T;obtain⟨fd,t⟩:∃fd,Zczd L a=fd:=⟨_,rfl⟩;rw[t]at y;have c:=Zdlr x a;rw[M,t]at c;obtain⟨kd,G⟩:∃kd,Zdbt rs a=kd:=⟨_,rfl⟩;rw[G]at c⊢;have Z:=hid c;have d:=hid i;have R:=hid H;have Q:=hid (Zdls x a.2);clear h x o M p F s i H I T t c G X
 go_enter func15,ntmps15
 go_wp2_with fail
 rw[<-n];clear n;refine wp_region_held_drew (S:=λV=>Below V0.heap.size V0 V) (by kernel_rfl) ?_ (λhHeld=>?_)
 ·rw[<-l];exact Below.refl _ _
 rw[<-l]at hHeld⊢;clear l;refine tkK 0 ?_;refine tkK 1 ?_;refine tkK 2 ?_
 try simp only[Act.put,sA,sZ,sS]
 refine tkH 3 (v:=?_) ?_ ?_;rotate_left
 ·intro w b;obtain⟨C,D⟩:=J.out _ b;obtain⟨O,P⟩:=(f.out.below b (Nat.le_refl _)).cells;go_simp;try with_reducible rfl
 try simp only[Act.put,sA,sZ,sS]
 refine tkH 4 (v:=?_) ?_ ?_;rotate_left
 ·intro w b;obtain⟨C,D⟩:=J.out _ b;obtain⟨O,P⟩:=(f.out.below b (Nat.le_refl _)).cells;go_simp;try with_reducible rfl
 try simp only[Act.put,sA,sZ,sS]
 refine rdH [5] ?_;refine rcH (λK E=>?_) ?_
 ·go_simp;refine y.out.mono ?_;rintro e w2 ⟨rfl,U⟩;dsimp only
  refine E.out _ _ ?_ (λhHeld=>?_)
  ·try dsimp only
   exact U
  clear E K
  try simp only[Act.put,sA,sZ,sS]
  refine tkK 6 ?_;refine tkK 7 ?_
  try simp only[Act.put,sA,sZ,sS]
  refine wpAnyH_done (by kernel_rfl) ?_ _;have k:=hid hHeld;obtain⟨O,P⟩:=(f.out.below hHeld (Nat.le_refl _)).cells
  by_cases hf:fd<0
  ·have c:=Z.out
   rw[if_neg (by omega)]at c;subst c;go_wp2;go_ret;exact⟨rfl,d.out.trans (k.out.mono d.out.size)⟩
  ·have c:=Z.out
   rw[if_pos (by omega)]at c;obtain⟨q,Y⟩:=a
   dsimp only at *
   cases q with
   | true=>
    simp only[if_true]at c;subst c;go_wp2;go_ret;exact⟨rfl,d.out.trans (k.out.mono d.out.size)⟩
   | false=>
    simp only[Bool.false_eq_true,if_false]at c;obtain⟨V5,m⟩:∃V,V=w2.drew:=⟨_,rfl⟩;have hb5:Below V0.heap.size V0 V5:=by rw[m];exact k.out.trans (Below.mono (Below.drew (Below.refl _ _)) k.out.size)
    have cM:=Zccx vr rs Y V5 (R.out.below hb5);have z:=hid cM;obtain⟨mk,u⟩:∃mk,Zcfo rs Y=mk:=⟨_,rfl⟩;rw[u]at z;have B:=hid (show 0<=mk↔(Zddu rs Y).isSome=true by rw[<-u];exact Q.out);have j:=hid hb5;have A:=hid c;clear cM u hb5 c
    go_wp2_with fail
    refine wp_region_held_drew (S:=λV=>Below V0.heap.size V0 V) (by kernel_rfl) ?_ (λhHeld=>?_)
    ·rw[<-m];exact j.out
    rw[<-m]at hHeld⊢;clear m;refine tkK 0 ?_;refine tkK 1 ?_;refine tkK 2 ?_
    try simp only[Act.put,sA,sZ,sS]
    refine tkH 3 (v:=?_) ?_ ?_;rotate_left
    ·intro w b;obtain⟨C,D⟩:=J.out _ b;obtain⟨O,P⟩:=(f.out.below b (Nat.le_refl _)).cells;go_simp;try with_reducible rfl
    try simp only[Act.put,sA,sZ,sS]
    refine tkK 4 ?_
    try simp only[Act.put,sA,sZ,sS]
    refine tkH 5 (v:=?_) ?_ ?_;rotate_left
    ·intro w b;obtain⟨C,D⟩:=J.out _ b;obtain⟨O,P⟩:=(f.out.below b (Nat.le_refl _)).cells;go_simp;try with_reducible rfl
    try simp only[Act.put,sA,sZ,sS]
    refine rdH [6] ?_;refine rcH (λK E=>?_) ?_
    ·go_simp;refine z.out.mono ?_;rintro e w7 ⟨rfl,rfl⟩;dsimp only
     refine E.out _ _ ?_ (λhHeld=>?_)
     ·try dsimp only
      exact j.out
     clear E K
     try simp only[Act.put,sA,sZ,sS]
     refine tkK 7 ?_;refine tkK 8 ?_
     try simp only[Act.put,sA,sZ,sS]
     refine wpAnyH_done (by kernel_rfl) ?_ _
     by_cases h0:mk≥0
     ·have c:=A.out
      rw[if_pos (B.out.1 h0)]at c;subst c;go_wp2;go_ret;exact⟨rfl,d.out.trans (j.out.mono d.out.size)⟩
     ·have c:=A.out
      rw[if_neg (λhc=>h0 (B.out.2 hc))]at c;subst c;go_wp2;go_ret;exact⟨rfl,d.out.trans (j.out.mono d.out.size)⟩
    exact AllReadyH.nil
 exact AllReadyH.nil
theorem Zdlq {l:List Lb} {x:Lb} {k:Nat} (h:Zczd l x=(k:Int)):l[k]? =some x:=by
 unfold Zczd at h
 cases e:(l.findIdx? λy=>decide (y=x))with
 | none=>rw[e]at h;simp only at h;omega
 | some i=>
  rw[e]at h;rw[List.findIdx?_eq_some_iff_getElem]at e;obtain⟨b,a,_⟩:=e;simp only[decide_eq_true_eq]at a;have:i=k:=by simp only at h;omega
  subst this;rw[List.getElem?_eq_getElem b,a]
def Zdlv (rs:List RuleS) (a:Lb) (back:Bool) (b:Lb):Bool:=if back then decide (0<=Zczd (Zdes rs b) a)else decide (0<=Zczd (Zdes rs a) b)
def Zdlw (rs:List RuleS) (a:Lb) (back:Bool):List Lb:=if back then Zdjt rs a else Zdes rs a
theorem Zdlz (rs:List RuleS) (a:Lb):Rising (Zdes rs a):=by
 unfold Zdes;split
 ·cases Zdhs rs a.2 with
  | none=>exact List.Pairwise.nil
  | some r=>exact Zdhm _
 ·cases Zddu rs a.2 with
  | none=>exact List.Pairwise.nil
  | some m=>exact List.pairwise_singleton _ _
theorem Zdma (rs:List RuleS) (a:Lb):Rising (Zdjt rs a):=by
 unfold Zdjt;split
 ·cases Zdhs rs a.2 with
  | none=>exact List.Pairwise.nil
  | some r=>exact Zdhm _
 ·exact Zdhm _
theorem Zdlu {rs:List RuleS} (i:OkTog rs) {a b:Lb} (h:b∈Zdes rs a):a∈allG rs/\b∈allG rs:=by
 obtain⟨q,n⟩:=a;obtain⟨k,j⟩:=b
 rcases(Zdeu i).1 h with⟨d,e,r,c,f,g⟩|⟨d,e,r,c,f,g⟩
 ·exact⟨Zcwx.2 ⟨r,c,.inl ⟨d,f.symm⟩⟩,Zcwx.2 ⟨r,c,.inr ⟨e,.inl g⟩⟩⟩
 ·exact⟨Zcwx.2 ⟨r,c,.inr ⟨d,.inr g⟩⟩,Zcwx.2 ⟨r,c,.inl ⟨e,f.symm⟩⟩⟩
theorem Zdlx {rs:List RuleS} (b:OkTog rs) (a:Lb) (back:Bool):(allG rs).filter (Zdlv rs a back)=Zdlw rs a back:=by
 unfold Zdlw
 cases back with
 | true=>
  refine Zdhk ((Zdhm _).filter _) (Zdma rs a) λx=>?_
  rw[List.mem_filter];unfold Zdlv;simp only[if_true,decide_eq_true_iff];rw[Zczf,Zdjv b];exact⟨λh=>h.2,λh=>⟨(Zdlu b h).1,h⟩⟩
 | false=>
  refine Zdhk ((Zdhm _).filter _) (Zdlz rs a) λx=>?_
  rw[List.mem_filter];unfold Zdlv;simp only[Bool.false_eq_true,if_false,decide_eq_true_iff];rw[Zczf];exact⟨λh=>h.2,λh=>⟨(Zdlu b h).2,h⟩⟩
theorem Zdly {rs:List RuleS} (c:OkTog rs) {a:Lb} (h:a∉allG rs) (b:Bool):Zdlw rs a b = []:=by
 unfold Zdlw
 cases b with
 | true=>exact List.eq_nil_iff_forall_not_mem.2 λx hx=>h (Zdlu c ((Zdjv c).1 hx)).2
 | false=>exact List.eq_nil_iff_forall_not_mem.2 λx hx=>h (Zdlu c hx).1
theorem Zdlp {α:Type} {L:List α} {p:α->Bool} {i:Nat} {x:α} (h:L[i]? =some x):(L.take (i+1)).filter p=(L.take i).filter p++(if p x then [x]else []):=by
 rw[List.take_add_one,h,List.filter_append]
 congr 1
 simp only[Option.toList_some,List.filter_cons,List.filter_nil]
theorem Zdmc (w:World) (g:Nat) (rs:List RuleS) (a:Lb) (d:Bool) (W:World) (h:RgF w g rs W) (hT:OkTog rs):
  Calls prog 17 #[.pointer (some { block:=g,off:=0 }),lv a,.bool d] W λe w'=>∃v',e = .returned v'/\OwnL W.heap.size w' v' (Zdlw rs a d)/\Below W.heap.size W w':=by
 have mixed:prog.follows .mixedOrders=true:=by kernel_rfl
 obtain⟨vr,aL,cL,_,E⟩:=h.read;obtain⟨L,hL⟩:∃L,allG rs=L:=⟨_,rfl⟩;rw[hL]at E;have az:L.length<=1000:=by
  rw[<-hL];have h1:(allG rs).length<=(rs.flatMap labR).length:=Zdig _;have h2:(rs.flatMap labR).length<=rs.length*13:=Zdbz (λr hr=>⟨(Zckm (hT.each r hr)).1,(Zckm (hT.each r hr)).2.1⟩);have:=hT.few;omega
 obtain⟨W0,G⟩:∃V,V=W.alloc (.cells #[.bool a.1,.string a.2] 24):=⟨_,rfl⟩;have Z:Below W.heap.size W W0:=by rw[G];exact(Below.refl _ _).alloc (Nat.le_refl _) _
 have ah:BoxL W0 W.heap.size a:=by rw[G];exact alloc_at W _
 obtain⟨V0,F⟩:∃V,V=W0.drew:=⟨_,rfl⟩;have f:Below W0.heap.size W0 V0:=by rw[F];exact(Below.refl _ _).drew
 have u:=Z.trans (f.mono Z.size);have Y:=hid (ah.below f (Nat.le_refl _));have ap:=hid E;have HQ:=hid (show ∀V,Below V0.heap.size V0 V->V.cell? { block:=g,off:=1 } =some (.slice aL L.length cL)from λV hV=>by
  obtain⟨vn,⟨_,c1,_⟩,_⟩:=E V (u.trans (hV.mono u.size));exact c1)
 obtain⟨vn,_,_,s,_⟩:=E V0 u;have cF:=Zdgi L a aL cL V0 s (by omega);unfold lv at cF⊢;have af:=hid cF;obtain⟨fd,H⟩:∃fd,Zczd L a=fd:=⟨_,rfl⟩;rw[H]at af;have ak:fd<0->Zdlw rs a d = []:=λh0=>Zdly hT (by rw[hL,<-Zczf,H];omega) d
 have O:0<=fd->∃k:Nat,fd=(k:Int)/\k<L.length/\L[k]? =some a:=λh0=>by
  obtain⟨k,hk⟩:=Int.eq_ofNat_of_zero_le h0;have:=Zdlq (H.trans hk);exact⟨k,hk,(List.getElem?_eq_some_iff.1 this).1,this⟩
 have ad:=Zdlx hT a d;rw[hL]at ad;have an:=hid ak;have ag:=hid O;have am:=hid ad;have ae:=hid u;clear h hT E hL Z ah f u s cF H ak O ad
 go_enter func17,ntmps17
 go_wp2_with fail
 rw[<-G];clear G;refine wp_region_held_drew (S:=λV=>Below V0.heap.size V0 V) (by kernel_rfl) ?_ (λhHeld=>?_)
 ·rw[<-F];exact Below.refl _ _
 rw[<-F]at hHeld⊢;clear F;refine tkK 0 ?_;refine tkK 1 ?_;refine tkK 2 ?_
 try simp only[Act.put,sA,sZ,sS]
 refine tkH 3 (v:=?_) ?_ ?_;rotate_left
 ·intro w y;have c1:=HQ.out _ y;obtain⟨x0,x1⟩:=(Y.out.below y (Nat.le_refl _)).cells;go_simp;try with_reducible rfl
 try simp only[Act.put,sA,sZ,sS]
 refine tkH 4 (v:=?_) ?_ ?_;rotate_left
 ·intro w y;have c1:=HQ.out _ y;obtain⟨x0,x1⟩:=(Y.out.below y (Nat.le_refl _)).cells;go_simp;try with_reducible rfl
 try simp only[Act.put,sA,sZ,sS]
 refine rdH [5] ?_;refine rcH (λK hK=>?_) ?_
 ·go_simp;refine af.out.mono ?_;rintro e w2 ⟨rfl,aq⟩;dsimp only
  refine hK.out _ _ ?_ (λhHeld=>?_)
  ·try dsimp only
   exact aq
  clear hK K
  try simp only[Act.put,sA,sZ,sS]
  refine tkK 6 ?_
  try simp only[Act.put,sA,sZ,sS]
  refine wpAnyH_done (by kernel_rfl) ?_ _;have R:=hid (ae.out.trans (hHeld.mono ae.out.size));have c1:=HQ.out _ hHeld;clear Y
  rcases Int.lt_or_le fd 0 with hf|hf
  ·have aw:¬fd≥0:=by omega
   have HE:=hid (show OwnL W.heap.size w2 (.slice none 0 0) (Zdlw rs a d)from by rw[an.out hf];exact Zdfs _ _)
   go_wp2_with fail
   go_loopw [8,9] (λov iv wr=>ov = .slice none 0 0/\iv = .int .i64 0/\wr=w2) (λ_ _ _=>0)
   case atStart=>exact⟨rfl,rfl,rfl⟩
   case round=>
    obtain⟨rfl,rfl,rfl⟩:=hrel
    rcases Nat.eq_zero_or_pos L.length with h0|h0
    ·have hi:¬(0:Int)<(L.length:Int):=by omega
     go_wp2;go_ret;exact⟨_,rfl,HE.out,R.out⟩
    ·have hi:(0:Int)<(L.length:Int):=by omega
     go_wp2;go_ret;exact⟨_,rfl,HE.out,R.out⟩
  ·obtain⟨k,rfl,aj,ai⟩:=ag.out hf
   have al:=hid ai;have ao:=hid (Zdfs W.heap.size w2);clear ai
   go_wp2_with fail
   clear c1
   go_loopw [8,9] (λov iv wr=>∃i:Nat,i<=L.length/\iv = .int .i64 (i:Int)/\OwnL W.heap.size wr ov ((L.take i).filter (Zdlv rs a d))/\Below W.heap.size W wr) (λ_ iv _=>L.length-(intOf iv).toNat)
   case atStart=>exact⟨0,Nat.zero_le _,rfl,ao.out,R.out⟩
   case round=>
    obtain⟨i,hi,rfl,M,aa⟩:=hrel;have J:=hid M;have P:=hid aa;obtain⟨vn,⟨_,c1,c2⟩,_,s,B,I⟩:=ap.out wr aa;clear M aa;have ay:(k:Int)≥0:=by omega
    have av:(k:Int)<(L.length:Int):=by omega
    have au:(0:Int)<=(k:Int):=by omega
    by_cases ac:i<L.length
    ·obtain⟨x,hx⟩:∃x,L[i]? =some x:=⟨L[i],List.getElem?_eq_getElem ac⟩
     have ar:(i:Int)<(L.length:Int):=by omega
     have ax:(0:Int)<=(i:Int):=by omega
     obtain⟨lb,lo,rfl,x0,x1⟩:=s i x hx;have q:=hid (Zdlp (p:=Zdlv rs a d) hx);have l:Zdlv rs a d x=if d then ndM rs L i k else ndM rs L k i:=by
      unfold Zdlv ndM;rw[hx,al.out]
     cases d
     ·obtain⟨gn,c,b,rfl,_,ab,_,n1,o,_⟩:=I.cell (j:=k) aj
      have n2:=(o.cell (k:=i) ac).1;simp only[Bool.false_eq_true,if_false]at l;rw[<-l]at n2;obtain⟨t,ht⟩:∃t,Zdlv rs a false x=t:=⟨_,rfl⟩;rw[ht]at n2 q;clear I o l s hx ab ht
      cases t
      ·have T:=hid (show OwnL W.heap.size wr u8 ((L.take (i+1)).filter (Zdlv rs a false))from by rw[q.out];simpa using J.out)
       go_wp2;go_roundw
       case rel=>exact⟨i+1,by omega,by go_num,T.out,P.out⟩
       case measure=>simp only[intOf];omega
      ·obtain⟨V1,m⟩:∃V,V=wr.alloc (.cells #[.bool x.1,.string x.2] 24):=⟨_,rfl⟩
       have n:Below wr.heap.size wr V1:=by rw[m];exact(Below.refl _ _).alloc (Nat.le_refl _) _
       have f:=P.out.alloc P.out.size (.cells #[.bool x.1,.string x.2] 24);rw[<-m]at f;have hz:V1.heap[wr.heap.size]? =some (.cells #[.bool x.1,.string x.2] 24):=by rw[m];exact alloc_at wr _
       obtain⟨v4,V4,D,C,A,_⟩:=Zdib (ty:=35) (ys:=[x]) (Zdfq J.out n) (Zdhq hz) (by have:=List.length_filter_le (Zdlv rs a false) (L.take i);rw[List.length_take]at this;simp only[List.length_cons,List.length_nil];omega) f.size;have z:=f.grown A f.size (λb e=>(World.ownsRow.lt J.out b e).1);have U:=hid (show OwnL W.heap.size V4 v4 ((L.take (i+1)).filter (Zdlv rs a false))from by rw[q.out];simpa using C);have Q:=hid z;have X:=hid D;clear C z A hz f n D
       go_wp2_with (at_builtin;rw[<-m];refine Zdjx (by rfl) _ _ _ rfl rfl rfl X.out ?_)
       go_wp2;go_roundw
       case rel=>exact⟨i+1,by omega,by go_num,U.out,Q.out⟩
       case measure=>simp only[intOf];omega
     ·obtain⟨gn,c,b,rfl,_,ab,_,n1,o,_⟩:=I.cell (j:=i) ac
      have n2:=(o.cell (k:=k) aj).1;simp only[if_true]at l;rw[<-l]at n2;obtain⟨t,ht⟩:∃t,Zdlv rs a true x=t:=⟨_,rfl⟩;rw[ht]at n2 q;clear I o l s hx ab ht
      cases t
      ·have T:=hid (show OwnL W.heap.size wr u8 ((L.take (i+1)).filter (Zdlv rs a true))from by rw[q.out];simpa using J.out)
       go_wp2;go_roundw
       case rel=>exact⟨i+1,by omega,by go_num,T.out,P.out⟩
       case measure=>simp only[intOf];omega
      ·obtain⟨V1,m⟩:∃V,V=wr.alloc (.cells #[.bool x.1,.string x.2] 24):=⟨_,rfl⟩
       have n:Below wr.heap.size wr V1:=by rw[m];exact(Below.refl _ _).alloc (Nat.le_refl _) _
       have f:=P.out.alloc P.out.size (.cells #[.bool x.1,.string x.2] 24);rw[<-m]at f;have hz:V1.heap[wr.heap.size]? =some (.cells #[.bool x.1,.string x.2] 24):=by rw[m];exact alloc_at wr _
       obtain⟨v4,V4,D,C,A,_⟩:=Zdib (ty:=35) (ys:=[x]) (Zdfq J.out n) (Zdhq hz) (by have:=List.length_filter_le (Zdlv rs a true) (L.take i);rw[List.length_take]at this;simp only[List.length_cons,List.length_nil];omega) f.size;have z:=f.grown A f.size (λb e=>(World.ownsRow.lt J.out b e).1);have U:=hid (show OwnL W.heap.size V4 v4 ((L.take (i+1)).filter (Zdlv rs a true))from by rw[q.out];simpa using C);have Q:=hid z;have X:=hid D;clear C z A hz f n D
       go_wp2_with (at_builtin;rw[<-m];refine Zdjx (by rfl) _ _ _ rfl rfl rfl X.out ?_)
       go_wp2;go_roundw
       case rel=>exact⟨i+1,by omega,by go_num,U.out,Q.out⟩
       case measure=>simp only[intOf];omega
    ·obtain rfl:i=L.length:=by omega
     have ar:¬(L.length:Int)<(L.length:Int):=by omega
     rw[List.take_length,am.out]at J;go_wp2;go_ret;exact⟨_,rfl,J.out,P.out⟩
 exact AllReadyH.nil
theorem RowL.take {w:World} {a:Option Addr} {xs:List Lb} (h:RowL w a xs) (n:Nat):RowL w a (xs.take n):=λi x hx=>by
 rw[List.getElem?_take]at hx;split at hx
 ·exact h i x hx
 ·cases hx
theorem Zdku {w:World} {b o:Nat} {xs:List Lb} (h:RowL w (some { block:=b,off:=o }) xs):∀j u,(lcs xs)[j]? =some u->w.cell? (({ block:=b,off:=o }:Addr).add j)=some u:=by
 intro j u a;have p:j<xs.length*2:=by rw[<-Zdcs];exact(List.getElem?_eq_some_iff.1 a).1
 have l:j/2<xs.length:=by omega
 obtain⟨x,hx⟩:∃x,xs[j/2]? =some x:=⟨_,List.getElem?_eq_getElem l⟩;obtain⟨n,q,d,f,g⟩:=h _ _ hx;injection Option.some.inj d with i k
 subst i k;have c:=Zdcr hx;rw[Addr.add_lit]
 rcases Nat.mod_two_eq_zero_or_one j with m|m
 ·have e:j=j/2*2:=by omega
  rw[e,c.1]at a
  cases a
  rw[show o+j=o+j/2*2 by omega];exact f
 ·have e:j=j/2*2+1:=by omega
  rw[e,c.2]at a
  cases a
  rw[show o+j=o+j/2*2+1 by omega];exact g
theorem Zdkv (xs:List Lb):∀u∈lcs xs,u.oneCell'=true:=by
 intro u a;unfold lcs at a;obtain⟨l,b,a⟩:=List.mem_flatten.1 a;obtain⟨x,_,rfl⟩:=List.mem_map.1 b;exact Zdcm x u a
theorem Zdkt (xs:List Lb) (a:Option Addr) (c:Nat) (w:World) (i:RowL w a xs) (H:xs.length<=c):
  Calls prog 13 #[.slice a xs.length c] w λe w'=>∃v,e = .returned v/\w'.ownsRow w.heap.size 24 2 v (xs.take 20).length (lcs (xs.take 20))/\Below w.heap.size w w':=by
 obtain⟨G,E,l,m,n⟩:=info_parts Zdbm;have F:(min (xs.length:Int) 20).toNat=min 20 xs.length:=by omega
 cases a with
 | none=>
  have D:xs = []:=by
   cases xs with
   | nil=>rfl
   | cons x xs=>obtain⟨b,o,f,_⟩:=i 0 x rfl;cases f
  subst D
  go_enter func13,ntmps13
  go_wp2_with fail
  go_ret;exact⟨_,rfl,World.ownsRow_nil _ _ _ _,Below.refl _ _⟩
 | some p=>
  have r:(lcs (xs.take 20)).length=min 20 xs.length*2:=by rw[Zdcs,List.length_take]
  have d:∀j u,(lcs (xs.take 20))[j]? =some u->w.cell? (p.add j)=some u:=by
   intro j u s
   cases xs with
   | nil=>simp[lcs]at s
   | cons x xs=>
    obtain⟨b,o,f,_⟩:=i 0 x rfl;obtain rfl:=Option.some.inj f;exact Zdku (i.take 20) j u s
  have g:0+min 20 xs.length<=maxLen:=by have:maxLen=9223372036854775807:=rfl;omega
  have h:(0+min 20 xs.length)*24<=140737488355328:=by omega
  have B:=hid r;have C:=hid d;have z:=hid g;have A:=hid h;clear r d g h
  go_enter func13,ntmps13
  go_wp2_with (at_builtin;refine wpList_append_own _ rfl _ _ 35 rfl w.heap.size 24 G (.agg #[.bool false,.string ⟨#[]⟩]) 2 24 underlying35 E l m n rfl (by decide) _ 0 [] rfl (World.ownsRow_nil _ _ _ _) p (min 20 xs.length) c (lcs (xs.take 20)) rfl B.out C.out (Zdkv _) z.out A.out (Nat.le_refl _) ?_)
  intro I w' f q _;have t:=hid f;have y:=hid q;clear f q;go_wp2;go_ret;refine⟨_,rfl,?_,Below.grown (Below.refl _ _) y.out (Nat.le_refl _) (λk e=>by cases e)⟩;rw[List.length_take];exact t.out
theorem Zbwb (y z:Value) (xs:List ByteArray) (w:World) (A:IsStrs w y xs) (B:IsStrs w z xs):
  Calls prog 65 #[y,z] w λe w'=>e = .returned (.bool true)/\Below w.heap.size w w':=by
 obtain⟨I,K,rfl,_,E,c⟩:=A;obtain⟨J,L,rfl,_,F,d⟩:=B;have r:xs.length<=maxLen:=by omega
 unfold maxLen at r;have j:=hid c;have l:=hid d;clear c d
 go_enter func65,ntmps65
 go_wp2
 go_loopw [5] (λi wr=>∃k:Nat,k<=xs.length/\i = .int .i64 k/\Below w.heap.size w wr)
  (λi _=>xs.length-(intOf i).toNat)
 case atStart=>exact⟨0,Nat.zero_le _,rfl,Below.refl _ _⟩
 case round=>
  obtain⟨k,P,rfl,h⟩:=hrel;have b:=hid h;clear h
  by_cases a:k<xs.length
  ·obtain⟨x,hx⟩:∃x,xs[k]? =some x:=⟨xs[k],List.getElem?_eq_getElem a⟩
   obtain⟨s,u,G,m,f⟩:=j.out (by rintro e;rw[e]at a;simp at a);obtain⟨t,v,H,o,g⟩:=l.out (by rintro e;rw[e]at a;simp at a);subst G H;have M:wr.cell? ⟨s,u+k,none⟩=some (.string x):=(b.out.cell (p:=⟨s,u+k,none⟩) m).trans (f k x hx);have O:wr.cell? ⟨t,v+k,none⟩=some (.string x):=(b.out.cell (p:=⟨t,v+k,none⟩) o).trans (g k x hx);have q:(k:Int)<(xs.length:Int):=by omega
   have D:(0:Int)<=(k:Int):=by omega
   have C:Hid (∀n,Below w.heap.size w (wr.drewN n)):=by show ∀n,_;exact λn=>below_drewN b.out n
   clear f g hx
   go_wp2_with fail
   go_quiet (fail)
   all_goals go_wp2
   all_goals go_roundw
   case rel=>exact⟨k+1,by omega,by go_num,C.out _⟩
   case measure=>simp[intOf];omega
  ·have q:¬(k:Int)<(xs.length:Int):=by omega
   go_wp2;go_ret;exact⟨rfl,b.out⟩
theorem Zdmg (x:StepS) (k l m p:Option Addr) (u q v r y s z t:Nat) (w:World) (K:IsStrs w (.slice k u q) x.args) (L:IsStrs w (.slice l v r) x.lits) (M:IsStrs w (.slice m y s) x.args) (O:IsStrs w (.slice p z t) x.lits):
  Calls prog 66 #[.agg #[.string x.out,.int .i64 x.op,.slice k u q,.slice l v r,.int .i64 x.n],.agg #[.string x.out,.int .i64 x.op,.slice m y s,.slice p z t,.int .i64 x.n]] w λe w'=>e = .returned (.bool true)/\Below w.heap.size w w':=by
 have I:=λw' (d:Below w.heap.size w w')=>Zbwb (.slice k u q) (.slice m y s) x.args w' (K.below d) (M.below d)
 have J:=λw' (d:Below w.heap.size w w')=>Zbwb (.slice l v r) (.slice p z t) x.lits w' (L.below d) (O.below d)
 obtain⟨o1,G⟩:∃o:Obj,o = .cells #[.string x.out,.int .i64 x.op,.slice k u q,.slice l v r,.int .i64 x.n] 58:=⟨_,rfl⟩;obtain⟨o2,H⟩:∃o:Obj,o = .cells #[.string x.out,.int .i64 x.op,.slice m y s,.slice p z t,.int .i64 x.n] 58:=⟨_,rfl⟩;have c:Below w.heap.size w ((w.alloc o1).alloc o2):=((Below.refl _ _).alloc (Nat.le_refl _) _).alloc (by simp) _;have g:((w.alloc o1).alloc o2).heap.size=w.heap.size+2:=by simp
 have i:((w.alloc o1).alloc o2).heap[w.heap.size]? =some o1:=by rw[Below.heap_alloc _ _ _ (by simp)];exact alloc_at w o1
 have j:((w.alloc o1).alloc o2).heap[w.heap.size+1]? =some o2:=by
  have:=alloc_at (w.alloc o1) o2;simpa using this
 have E:Hid (∀W,Below (w.heap.size+2) ((w.alloc o1).alloc o2) W->W.heap[w.heap.size]? =some o1):=by show ∀W,_;exact λW h=>(h.block _ (by omega)).trans i
 have F:Hid (∀W,Below (w.heap.size+2) ((w.alloc o1).alloc o2) W->W.heap[w.heap.size+1]? =some o2):=by show ∀W,_;exact λW h=>(h.block _ (by omega)).trans j
 have D:Hid (∀W,Below (w.heap.size+2) ((w.alloc o1).alloc o2) W->Below w.heap.size w W):=by show ∀W,_;exact λW h=>c.trans (h.mono (by omega))
 have C:=hid g;have A:=hid c;have P:=hid I;have Q:=hid J;clear I J c K L M O i j g;subst G H
 go_enter func66,ntmps66
 go_wp2_with fail
 refine(P.out _ A.out).mono ?_;rintro e w2 ⟨rfl,a⟩;rw[C.out]at a;obtain⟨R,S,T,U,V,_⟩:=cells5 (E.out _ a);obtain⟨X,Y,Z,e3,e4,_⟩:=cells5 (F.out _ a);have b:=hid (D.out _ a);clear a
 go_wp2_with fail
 refine(Q.out _ b.out).mono ?_;rintro e w3 ⟨rfl,f⟩;have B:=hid (b.out.trans (f.mono b.out.size));clear f;go_wp2;go_ret;exact⟨rfl,B.out⟩
theorem Zdmh {w W:World} {o1 o2:Obj} (h:((w.alloc o1).alloc o2).drew=W):W.heap[w.heap.size]? =some o1/\W.heap[w.heap.size+1]? =some o2:=by
 subst h;have a:((w.alloc o1).alloc o2).heap[w.heap.size]? =some o1:=by rw[Below.heap_alloc _ _ _ (by simp)];exact alloc_at w o1
 have b:((w.alloc o1).alloc o2).heap[w.heap.size+1]? =some o2:=by
  have:=alloc_at (w.alloc o1) o2;simpa using this
 exact⟨a,b⟩
theorem Zdmi {w W:World} {o1 a:Obj} (h:((w.alloc o1).alloc a).drew=W):W.heap.size=w.heap.size+2:=by
 subst h;show((w.alloc o1).alloc a).heap.size=_;simp
theorem Zdmf (v1 v2:Value) (xs:List RuleS) (w:World) (h1:RulesI w v1 xs) (h2:RulesI w v2 xs):
  Calls prog 23 #[v1,v2] w λe w'=>e = .returned (.bool true)/\Below w.heap.size w w':=by
 obtain⟨a1,c1,q1,_,aJ⟩:=Zbjn h1;obtain⟨a2,c2,q2,_,aK⟩:=Zbjn h2;subst q1 q2;have a9:xs.length<=maxLen:=by omega
 unfold maxLen at a9;have H1:=hid h1;have H2:=hid h2;clear h1 h2
 go_enter func23,ntmps23
 go_wp2
 go_loopw [5] (λi wr=>∃k:Nat,k<=xs.length/\i = .int .i64 k/\Below w.heap.size w wr)
  (λi _=>xs.length-(intOf i).toNat)
 case atStart=>exact⟨0,Nat.zero_le _,rfl,Below.refl _ _⟩
 case round=>
  obtain⟨k,hk,rfl,ai⟩:=hrel;have aj:=ai.size;have u:=hid ai;clear ai
  by_cases aA:k<xs.length
  ·obtain⟨x,hx⟩:∃x,xs[k]? =some x:=⟨xs[k],List.getElem?_eq_getElem aA⟩
   obtain⟨I,o1,p1,a1,c1,a2,c2,a3,c3,a4,c4,q1,aF,a5,b⟩:=Zbjm H1.out hx;obtain⟨J,o2,p2,g1,r1,g2,r2,g3,r3,g4,r4,q2,r,a6,c⟩:=Zbjm H2.out hx
   cases q1
   cases q2
   obtain⟨_,_,_,_,aD,i1,i2,i3,i4⟩:=a5;obtain⟨_,_,_,_,aE,j1,j2,j3,j4⟩:=a6
   cases aD
   cases aE
   have ar:x.steps.length<=maxLen:=by
    obtain⟨_,⟨_,_,_,aL,aM,_⟩,ao⟩:=id j4;have:=ao.1;omega
   unfold maxLen at ar;have K1:=hid (λw' (f:Below w.heap.size w w')=>Zbwb (.slice a1 x.ins.length c1) (.slice g1 x.ins.length r1) x.ins w' (i1.below f) (j1.below f));have K2:=hid (λw' (f:Below w.heap.size w w')=>Zbwb (.slice a2 x.outs.length c2) (.slice g2 x.outs.length r2) x.outs w' (i2.below f) (j2.below f));have K3:=hid (λw' (f:Below w.heap.size w w')=>Zbwb (.slice a3 x.after.length c3) (.slice g3 x.after.length r3) x.after w' (i3.below f) (j3.below f));have I4:=hid i4;have J4:=hid j4;clear i1 i2 i3 i4 j1 j2 j3 j4 hx;have Y:∀w',Below w.heap.size w w'->w'.cell? ⟨I,o1+k*5,none⟩=some (.string x.name):=λw' h=>(b w' h).1
   have Z:∀w',Below w.heap.size w w'->w'.cell? ⟨I,o1+k*5+1,none⟩=some (.slice a1 x.ins.length c1):=λw' h=>(b w' h).2.1
   have aa:∀w',Below w.heap.size w w'->w'.cell? ⟨I,o1+k*5+2,none⟩=some (.slice a2 x.outs.length c2):=λw' h=>(b w' h).2.2.1
   have ab:∀w',Below w.heap.size w w'->w'.cell? ⟨I,o1+k*5+3,none⟩=some (.slice a3 x.after.length c3):=λw' h=>(b w' h).2.2.2.1
   have ac:∀w',Below w.heap.size w w'->w'.cell? ⟨I,o1+k*5+4,none⟩=some (.slice a4 x.steps.length c4):=λw' h=>(b w' h).2.2.2.2
   have ad:∀w',Below w.heap.size w w'->w'.cell? ⟨J,o2+k*5,none⟩=some (.string x.name):=λw' h=>(c w' h).1
   have ae:∀w',Below w.heap.size w w'->w'.cell? ⟨J,o2+k*5+1,none⟩=some (.slice g1 x.ins.length r1):=λw' h=>(c w' h).2.1
   have af:∀w',Below w.heap.size w w'->w'.cell? ⟨J,o2+k*5+2,none⟩=some (.slice g2 x.outs.length r2):=λw' h=>(c w' h).2.2.1
   have ag:∀w',Below w.heap.size w w'->w'.cell? ⟨J,o2+k*5+3,none⟩=some (.slice g3 x.after.length r3):=λw' h=>(c w' h).2.2.2.1
   have ah:∀w',Below w.heap.size w w'->w'.cell? ⟨J,o2+k*5+4,none⟩=some (.slice g4 x.steps.length r4):=λw' h=>(c w' h).2.2.2.2
   have a7:(k:Int)<(xs.length:Int):=by omega
   have aH:(0:Int)<=(k:Int):=by omega
   have ax:Hid (Below w.heap.size w wr.drew):=by show Below _ _ _;exact u.out.drew
   have av:Hid (∀o,Below w.heap.size w (wr.alloc o).drew):=by show ∀o,_;exact λo=>(u.out.alloc aj o).drew
   have t:Hid (∀o o',Below w.heap.size w ((wr.alloc o).alloc o').drew):=by show ∀o o',_;exact λo o'=>((u.out.alloc aj o).alloc (u.out.alloc aj o).size o').drew
   clear b c
   go_wp2_with fail
   go_region_held3 (λw'=>Below w.heap.size w w') (first|assumption|exact ax.out|exact av.out _|exact t.out _ _) (fail)
   all_goals
    first
     | (obtain⟨W,H⟩:∃W,((wr.alloc (.cells #[.string x.name,.slice a1 x.ins.length c1,.slice a2 x.outs.length c2,.slice a3 x.after.length c3,.slice a4 x.steps.length c4] 50)).alloc (.cells #[.string x.name,.slice g1 x.ins.length r1,.slice g2 x.outs.length r2,.slice g3 x.after.length r3,.slice g4 x.steps.length r4] 50)).drew=W:=⟨_,rfl⟩
       rw[H];have Q:Below w.heap.size w W:=by rw[<-H];exact t.out _ _
       obtain⟨F,G⟩:=Zdmh H;have l:=Zdmi H;obtain⟨p,q,hp,hq⟩:∃p q,wr.heap.size=p/\wr.heap.size+1=q:=⟨_,_,rfl,rfl⟩;rw[hp]at F l;rw[hq]at G;have R:p<W.heap.size/\q<W.heap.size:=by omega
       rw[hq,hp])
     | (obtain⟨W,H⟩:∃W,((wr.alloc (.cells #[.string x.name,.slice g1 x.ins.length r1,.slice g2 x.outs.length r2,.slice g3 x.after.length r3,.slice g4 x.steps.length r4] 50)).alloc (.cells #[.string x.name,.slice a1 x.ins.length c1,.slice a2 x.outs.length c2,.slice a3 x.after.length c3,.slice a4 x.steps.length c4] 50)).drew=W:=⟨_,rfl⟩
       rw[H];have Q:Below w.heap.size w W:=by rw[<-H];exact t.out _ _
       obtain⟨G,F⟩:=Zdmh H;have l:=Zdmi H;obtain⟨p,q,hp,hq⟩:∃p q,wr.heap.size+1=p/\wr.heap.size=q:=⟨_,_,rfl,rfl⟩;rw[hq]at G l;rw[hp]at F;have R:p<W.heap.size/\q<W.heap.size:=by omega
       rw[hp,hq])
    have m:Hid (∀d,Below W.heap.size W d->d.heap[p]? =some (.cells #[.string x.name,.slice a1 x.ins.length c1,.slice a2 x.outs.length c2,.slice a3 x.after.length c3,.slice a4 x.steps.length c4] 50)):=by show ∀d,_;exact λd h=>(h.block _ R.1).trans F
    have v:Hid (∀d,Below W.heap.size W d->d.heap[q]? =some (.cells #[.string x.name,.slice g1 x.ins.length r1,.slice g2 x.outs.length r2,.slice g3 x.after.length r3,.slice g4 x.steps.length r4] 50)):=by show ∀d,_;exact λd h=>(h.block _ R.2).trans G
    have a:Hid (∀d,Below W.heap.size W d->Below w.heap.size w d):=by show ∀d,_;exact λd h=>Q.trans (h.mono Q.size)
    clear F G Q l hp hq R H Y Z aa ab ac ad ae af ag ah;obtain⟨K,L,M,O,P,_⟩:=cells5 (m.out _ (Below.refl _ _));obtain⟨S,T,U,V,X,_⟩:=cells5 (v.out _ (Below.refl _ _))
    go_wp2_with fail
    refine(K1.out _ (a.out _ (Below.refl _ _))).mono ?_;rintro e w2 ⟨rfl,r⟩;clear K L M O P S T U V X;obtain⟨K,L,M,O,P,_⟩:=cells5 (m.out _ r);obtain⟨S,T,U,V,X,_⟩:=cells5 (v.out _ r);have al:=hid r;have l:=r.size;clear r
    go_wp2_with fail
    refine(K2.out _ (a.out _ al.out)).mono ?_;rintro e w3 ⟨rfl,g⟩;replace g:=al.out.trans (g.mono l);clear K L M O P S T U V X l;obtain⟨K,L,M,O,P,_⟩:=cells5 (m.out _ g);obtain⟨S,T,U,V,X,_⟩:=cells5 (v.out _ g);have am:=hid g;have aq:=g.size;clear g
    go_wp2_with fail
    refine(K3.out _ (a.out _ am.out)).mono ?_;rintro e w4 ⟨rfl,s⟩;replace s:=am.out.trans (s.mono aq);clear K L M O P S T U V X aq;obtain⟨K,L,M,O,P,_⟩:=cells5 (m.out _ s);obtain⟨S,T,U,V,X,_⟩:=cells5 (v.out _ s);have a0:=hid s;clear s;go_wp2;clear K L M O P S T U V X;have ak:Hid (∀d,Below W.heap.size W d->Below w.heap.size w d):=a
    go_loopw [8] (λi wq=>∃j:Nat,j<=x.steps.length/\i = .int .i64 j/\Below W.heap.size W wq)
     (λi _=>x.steps.length-(intOf i).toNat)
    case atStart=>exact⟨0,Nat.zero_le _,rfl,a0.out⟩
    case round=>
     obtain⟨j,hj,rfl,E⟩:=hrel;obtain⟨K,L,M,O,P,_⟩:=cells5 (m.out _ E);have aw:=hid E
     by_cases ap:j<x.steps.length
     ·obtain⟨y,hy⟩:∃y,x.steps[j]? =some y:=⟨x.steps[j],List.getElem?_eq_getElem ap⟩
      obtain⟨y1,z1,u1,aN,aP,q1,A,C,b⟩:=Zbou I4.out hy;obtain⟨I,t1,rfl⟩:=Zue A;obtain⟨J,t2,rfl⟩:=Zue C;obtain⟨y2,z2,u2,aO,aQ,q2,B,D,c⟩:=Zbou J4.out hy;obtain⟨b3,t3,rfl⟩:=Zue B;obtain⟨b4,t4,rfl⟩:=Zue D
      cases q1
      cases q2
      have aB:∀w',Below W.heap.size W w'->w'.cell? ⟨p,4,none⟩=some (.slice (some ⟨y1,z1,none⟩) x.steps.length c4):=λw' h=>by obtain⟨_,_,_,_,z,_⟩:=cells5 (m.out _ h);exact z
      have aC:∀w',Below W.heap.size W w'->w'.cell? ⟨q,4,none⟩=some (.slice (some ⟨y2,z2,none⟩) x.steps.length r4):=λw' h=>by obtain⟨_,_,_,_,z,_⟩:=cells5 (v.out _ h);exact z
      have Y:∀w',Below W.heap.size W w'->w'.cell? ⟨y1,z1+j*5,none⟩=some (.string y.out):=λw' h=>(b w' (a.out _ h)).1
      have Z:∀w',Below W.heap.size W w'->w'.cell? ⟨y1,z1+j*5+1,none⟩=some (.int .i64 y.op):=λw' h=>(b w' (a.out _ h)).2.1
      have aa:∀w',Below W.heap.size W w'->w'.cell? ⟨y1,z1+j*5+2,none⟩=some (.slice I y.args.length t1):=λw' h=>(b w' (a.out _ h)).2.2.1
      have ab:∀w',Below W.heap.size W w'->w'.cell? ⟨y1,z1+j*5+3,none⟩=some (.slice J y.lits.length t2):=λw' h=>(b w' (a.out _ h)).2.2.2.1
      have ac:∀w',Below W.heap.size W w'->w'.cell? ⟨y1,z1+j*5+4,none⟩=some (.int .i64 y.n):=λw' h=>(b w' (a.out _ h)).2.2.2.2
      have ad:∀w',Below W.heap.size W w'->w'.cell? ⟨y2,z2+j*5,none⟩=some (.string y.out):=λw' h=>(c w' (a.out _ h)).1
      have ae:∀w',Below W.heap.size W w'->w'.cell? ⟨y2,z2+j*5+1,none⟩=some (.int .i64 y.op):=λw' h=>(c w' (a.out _ h)).2.1
      have af:∀w',Below W.heap.size W w'->w'.cell? ⟨y2,z2+j*5+2,none⟩=some (.slice b3 y.args.length t3):=λw' h=>(c w' (a.out _ h)).2.2.1
      have ag:∀w',Below W.heap.size W w'->w'.cell? ⟨y2,z2+j*5+3,none⟩=some (.slice b4 y.lits.length t4):=λw' h=>(c w' (a.out _ h)).2.2.2.1
      have ah:∀w',Below W.heap.size W w'->w'.cell? ⟨y2,z2+j*5+4,none⟩=some (.int .i64 y.n):=λw' h=>(c w' (a.out _ h)).2.2.2.2
      have HC:Hid (∀w',Below W.heap.size W w'->Calls prog 66 #[.agg #[.string y.out,.int .i64 y.op,.slice I y.args.length t1,.slice J y.lits.length t2,.int .i64 y.n],.agg #[.string y.out,.int .i64 y.op,.slice b3 y.args.length t3,.slice b4 y.lits.length t4,.int .i64 y.n]] w' λe au=>e = .returned (.bool true)/\Below W.heap.size W au):=by
        show ∀w',_;intro w' f;refine(Zdmg y I J b3 b4 _ t1 _ t2 _ t3 _ t4 w' (A.below (a.out _ f)) (C.below (a.out _ f)) (B.below (a.out _ f)) (D.below (a.out _ f))).mono ?_;rintro e au ⟨h1,h2⟩;exact⟨h1,f.trans (h2.mono f.size)⟩
      have az:Hid (Below W.heap.size W wr.drew):=by show Below _ _ _;exact E.drew
      have a8:(j:Int)<(x.steps.length:Int):=by omega
      have aI:(0:Int)<=(j:Int):=by omega
      clear b c hy A C B D E
      go_wp2_with fail
      go_region_held3 (λw'=>Below W.heap.size W w') (first|assumption|exact az.out)
        (first
         | (go_at_call 66;refine(HC.out _ (by assumption)).mono ?_;rintro e w5 ⟨rfl,an⟩)
         | fail)
      have ay:=hid an;clear aB aC Y Z aa ab ac ad ae af ag ah an K L M O P;go_wp2;go_roundw
      case rel=>exact⟨j+1,by omega,by go_num,ay.out⟩
      case measure=>simp[intOf];omega
     ·have a8:¬(j:Int)<(x.steps.length:Int):=by omega
      clear E;go_wp2;go_roundw
      case rel=>exact⟨k+1,by omega,by go_num,ak.out _ aw.out⟩
      case measure=>simp[intOf];omega
  ·have a7:¬(k:Int)<(xs.length:Int):=by omega
   go_wp2;go_ret;exact⟨rfl,u.out⟩
theorem Zdmj {ρ:Operand->Value} {o:Oper} {t e:TypeId} {x l h:Operand} {g off n c k:Nat} {i:TypeInfo} {a:Nat} {w:World} (m:o.op = .slice t x (some l) (some h) none) (p:prog.underlying t=some (.slice e)) (hi:prog.info? e=some i) (b:i.size=a)
  (hx:ρ x = .slice (some ⟨g,off,none⟩) n c) (j:ρ l = .int .i64 (k:Int)) (f:ρ h = .int .i64 ((k+1:Nat):Int)) (q:k<n) (r:n<=c):(execOp ρ o).run prog w = .ok (.value (.slice (some ⟨g,off+k*a,none⟩) 1 (c-k))) w:=by
 subst b;have d:c≠k:=by omega
 unfold execOp;simp only[m,hx,j,f,Option.map_some,Option.map_none];simp[Instr.sliceAt,Instr.slice,run_underlying p,sizeOf,typeInfo,hi,Instr.sliceBounds,go_sem,d];intro h;exact absurd (h (by omega)) (by omega)
theorem Zbjv {w:World} {g:Nat} {x:RuleS} {r:List Value} {t:TypeId} (h:RuleI w r x) (b:w.heap[g]? =some (.cells r.toArray t)):RulesI w (.slice (some ⟨g,0,none⟩) 1 1) [x]:=by
 refine⟨[r],Zty (Array.getElem?_eq_some_iff.1 b).1 λi u c=>?_,rfl,λk d e a hx=>?_⟩
 ·simp[World.cell?,b,c]
 ·match k,a,hx with
  | 0,a,hx=>
   cases a
   cases hx
   exact h
theorem Zdme {w:World} {a:Option Addr} {n c k:Nat} {x:RuleS} {xs:List RuleS} (h:RulesI w (.slice a n c) xs) (hx:xs[k]? =some x):
  ∃g o,a=some ⟨g,o,none⟩/\n=xs.length/\k<n/\n<=c/\c<=maxLen/\(∀W,Below w.heap.size w W->W.cell? ⟨g,o+k*5,none⟩=some (.string x.name))/\∀c',1<=c'->c'<=maxLen->RulesI w (.slice (some ⟨g,o+k*5,none⟩) 1 c') [x]:=by
 obtain⟨f,⟨F,c',q,z,A,B⟩,d⟩:=h
 cases q
 have m:k<f.length:=by rw[d.1];exact(List.getElem?_eq_some_iff.1 hx).1
 have p:=d.2 k _ x (List.getElem?_eq_getElem m) hx;obtain⟨g,o,rfl,s,r⟩:=B (by rintro rfl;simp at m);have t:=List.getElem?_eq_getElem m;refine⟨g,o,rfl,d.1,m,z,A,λW C=>?_,λc' v y=>⟨[f[k]],⟨_,c',rfl,v,y,λ_=>⟨g,o+k*5,rfl,s,λj E b i u D=>?_⟩⟩,rfl,λj E K b l=>?_⟩⟩
 ·obtain⟨H,I,G,J,e,_⟩:=p
  exact(C.cell s).trans (r k _ t 0 (.string x.name) (by rw[e];rfl))
 ·match j,b with
  | 0,b=>
   cases b
   have:=r k _ t i u D;simpa using this
 ·match j,b,l with
  | 0,b,l=>
   cases b
   cases l
   exact p
theorem Zdlt {rs:List RuleS} (e:OkTog rs) (f:ByteArray):∃(n:ByteArray) (b:Bool) (m:Int),(Zddu rs f).getD ⟨#[]⟩=n/\(Zddu rs f).isSome=b/\Zcfo rs f=m/\((b=false/\¬m≥0)\/∃(k:Nat) (x:RuleS),rs[k]? =some x/\m=(k:Int)/\b=true/\n=x.name):=by
 refine⟨_,_,_,rfl,rfl,rfl,?_⟩
 rcases Zcfq rs f with⟨c,a⟩|⟨k,x,c,a,d,_⟩
 ·refine .inl ⟨?_,by omega⟩
  cases h:Zddu rs f with
  | none=>rfl
  | some m=>
   obtain⟨r,i,g,_⟩:=Zddx h;exact absurd g (a r i)
 ·rw[Zddw e (List.mem_of_getElem? a) d]
  exact .inr ⟨k,x,a,c,rfl,rfl⟩
theorem Zdmd {rs:List RuleS} (d:OkTog rs) (n:ByteArray):∃(r:RuleS) (b:Bool) (m:Int),(Zdhs rs n).getD Zdkc=r/\(Zdhs rs n).isSome=b/\Zoi (rs.map (·.name)) n=m/\((b=false/\¬m≥0)\/∃(k:Nat) (x:RuleS),rs[k]? =some x/\m=(k:Int)/\b=true/\r=x):=by
 refine⟨_,_,_,rfl,rfl,rfl,?_⟩
 rcases Zom (rs.map (·.name)) n with⟨c,a⟩|⟨k,c,a,_⟩
 ·refine .inl ⟨?_,by omega⟩
  cases h:Zdhs rs n with
  | none=>rfl
  | some r=>
   obtain⟨i,f,e⟩:=List.mem_iff_getElem.1 (Zdhv h).1;exact absurd (by rw[List.getElem?_map,List.getElem?_eq_getElem f,e,<-(Zdhv h).2];rfl) (a i)
 ·rw[List.getElem?_map,Option.map_eq_some_iff]at a
  obtain⟨x,a,rfl⟩:=a;rw[Zdhu d.nodup (List.mem_of_getElem? a)];exact .inr ⟨k,x,a,c,rfl,rfl⟩
theorem Zdkn {C:Nat->Nat->Bool} {nm:Nat->ByteArray}:∀ {n:Nat},0<=Zced C nm n->∃i<n,C i i=true
 | 0,h=>by unfold Zced at h;omega
 | n+1,h=>by
  unfold Zced at h;split at h
  ·rename_i a
   exact⟨n,Nat.lt_succ_self n,a.1⟩
  ·obtain⟨i,hi,b⟩:=Zdkn h
   exact⟨i,by omega,b⟩
theorem Zdkz {xs:List RuleS} (e:OkTog xs) {a b:Nat} (d:b<xs.length) (h:RchM (Zcfw xs) xs.length a b):Rch (Zban xs) a b:=by
 have one:∀ {a b:Nat},b<xs.length->Zcfw xs a b=true->b∈Zban xs a:=fun {a b} d c=>(Zbao e).2 ((Zcfx e d).1 c)
 induction h with
 | one c=>exact .one (one d c)
 | more c f _ g=>exact Rch.trans (.one (one f c)) (g d)
theorem Zdki {xs:List RuleS} {c:Int} {s:ByteArray} (h:AllC xs c s):c=0↔Zbvn xs=0:=by
 constructor
 ·rintro rfl
  exact Zdke h
 ·intro u
  obtain⟨f,l⟩:=Zbvs.1 u
  rcases h with⟨i,x,hx,_,b,g,_⟩|⟨_,b,_⟩|⟨_,_,i,x,hx,_,b,_⟩|⟨_,_,_,i,x,hx,_,b,_⟩|⟨_,_,_,_,⟨r,b⟩,_⟩|⟨_,_,_,_,_,b,_⟩
  ·have p:=Zbiq x
   rw[f.each x (List.mem_of_getElem? hx)]at p;exact b.one p
  ·have:=f.few
   omega
  ·exfalso
   rcases b with b|⟨o,t,b⟩
   ·obtain⟨j,m,d⟩:=(Zcea (xs:=xs.map (·.name)) (by rw[List.getElem?_map,hx];rfl)).1 b
    rw[List.getElem?_map]at d;obtain⟨y,d,e⟩:=Option.map_eq_some_iff.1 d;exact f.names j i y x d hx m e
   ·obtain⟨j,m,y,d,n⟩:=(Zcfu hx t).1 b
    exact f.files j i y x d hx m o n t
  ·exfalso
   obtain⟨a,v,b⟩:=b;obtain⟨y,d,rfl⟩:=f.after x (List.mem_of_getElem? hx) a v
   rcases Zom (xs.map (·.name)) y.name with⟨_,g⟩|⟨k,g,_⟩
   ·obtain⟨k,A⟩:=List.getElem?_of_mem d
    exact g k (by rw[List.getElem?_map,A];rfl)
   ·omega
  ·exfalso
   have z:0<=Zced (fwK (Zcfw xs) xs.length) (nmK xs) xs.length:=by
    refine Classical.byContradiction λB=>?_
    rw[Zcdk rfl (by omega)]at b
    cases b
   obtain⟨i,q,w⟩:=Zdkn z;exact l i q (Zdkz f q (Zcet.1 w))
  ·exact b
