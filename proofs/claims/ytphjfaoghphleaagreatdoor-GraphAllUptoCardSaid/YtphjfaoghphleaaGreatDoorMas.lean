import Derived.Test.YtphjfaoghphleaaGreatDoorMar
set_option maxRecDepth 100000
set_option maxHeartbeats 8000000
namespace Go.Proofs.YtphjfaoghphleaaGreatDoor
open Go.Lib (hid)
open Go.Proofs.Tryz Go.RowKit Go.Shelf
structure GrM (w:World) (p:Nat) (A M R:SKV):Prop where
 ex:∃mr mm md,w.heap[p]? =some (.cells #[.map (some mr),.map (some mm),.map (some md)] 90)/\MpS w mr A/\MpS w mm M/\MpS w md R
 ra:RulVs A
 lm:LabVs M
 sr:SliVs R
theorem GrM.lt {w:World} {p:Nat} {A M R:SKV} (h:GrM w p A M R):p<w.heap.size:=by
 obtain⟨_,_,_,a,_⟩:=h.ex;exact(Array.getElem?_eq_some_iff.1 a).1
theorem GrM.below {w w':World} {p B:Nat} {A M R:SKV} (h:GrM w p A M R) (b:Below B w w') (a:w.heap.size<=B):GrM w' p A M R:=by
 obtain⟨j,i,g,f,c,d,e⟩:=h.ex;exact⟨⟨j,i,g,(b.block p (Nat.lt_of_lt_of_le h.lt a)).trans f,c.below b (Nat.lt_of_lt_of_le c.lt a),d.below b (Nat.lt_of_lt_of_le d.lt a),e.below b (Nat.lt_of_lt_of_le e.lt a)⟩,h.ra,h.lm,h.sr⟩
theorem Zcym {b:Nat} (w:World):(binOp .eql 30 (.pointer (some { block:=b,off:=0 })) (.pointer none)).run prog w = .ok (.bool false) w:=by
 have a:∀d,(Op.equalIn (d+1) 30 (.pointer (some { block:=b,off:=0 })) (.pointer none)).run prog w = .ok false w:=by
  intro d;simp[Op.equalIn,run_underlying underlying30,Sem.run_bind]
 have:=a 9999;simp[binOp,Op.equal,Op.maxDepth,this]
theorem Zddy (p:Nat) (A M R:SKV) (k:ByteArray) (w:World) (h:GrM w p A M R) {q:Bool} {s:ByteArray} (c:getA M k zLab = .agg #[.bool q,.string s]):
  Calls prog 19 #[.pointer (some { block:=p,off:=0 }),.string k] w λe w'=>e = .returned (.tuple #[.string s,.bool (hasA M k)])/\Below w.heap.size w w':=by
 obtain⟨j,f,i,a,_,b,_⟩:=h.ex;have d:=b.get_ok (P:=prog) underlying87 underlying9 (Zdjz w) k;rw[c]at d;have g:w.cell? { block:=p,off:=1 } =some (.map (some f)):=by simp[World.cell?,a]
 clear h a b c
 go_enter func19,ntmps19
 go_wp2
 go_ret2
 exact⟨rfl,(Below.refl _ _).alloc (Nat.le_refl _) _⟩
def Zdbs (A M R:SKV) (l:Lb):Int:=if l.1 then(if hasA A l.2 then 1 else 0)else if hasA M l.2 then 2 else if hasA R l.2 then 3 else 0
theorem Zdbu (p:Nat) (A M R:SKV) (l:Lb) (w:World) (h:GrM w p A M R):
  Calls prog 14 #[.pointer (some { block:=p,off:=0 }),lv l] w λe w'=>e = .returned (.int .i64 (Zdbs A M R l))/\Below w.heap.size w w':=by
 have mixed:prog.follows .mixedOrders=true:=by kernel_rfl
 obtain⟨z,y,x,U,G,H,I⟩:=h.ex;obtain⟨W0,m⟩:∃V,V=w.alloc (.cells #[.bool l.1,.string l.2] 24):=⟨_,rfl⟩;have o:Below w.heap.size w W0:=by rw[m];exact(Below.refl _ _).alloc (Nat.le_refl _) _
 have Q:BoxL W0 w.heap.size l:=by rw[m];exact alloc_at w _
 have c:Hid (∀V,Below W0.heap.size W0 V->Below w.heap.size w V/\V.cell? { block:=p,off:=0 } =some (.map (some z))/\V.cell? { block:=p,off:=1 } =some (.map (some y))/\V.cell? { block:=p,off:=2 } =some (.map (some x))/\V.cell? { block:=w.heap.size,off:=0 } =some (.bool l.1)/\V.cell? { block:=w.heap.size,off:=1 } =some (.string l.2)/\MpS V z A/\MpS V y M/\MpS V x R):=by
  show ∀V,_;intro V n;have u:=o.trans (n.mono o.size);have P:=(u.block p h.lt).trans U;obtain⟨d,f⟩:=(Q.below n (Nat.le_refl _)).cells;exact⟨u,by simp[World.cell?,P],by simp[World.cell?,P],by simp[World.cell?,P],d,f,G.below u G.lt,H.below u H.lt,I.below u I.lt⟩
 have r:Hid (∀V,Below W0.heap.size W0 V->Calls prog 59 #[.map (some z),.string l.2] V λe w'=>e = .returned (.bool (hasA A l.2))/\Below V.heap.size V w'):=hid λV n=>Zdbd z A l.2 V (c.out V n).2.2.2.2.2.2.1 h.ra
 have s:Hid (∀V,Below W0.heap.size W0 V->Calls prog 60 #[.map (some y),.string l.2] V λe w'=>e = .returned (.bool (hasA M l.2))/\Below V.heap.size V w'):=hid λV n=>Zdbc y M l.2 V (c.out V n).2.2.2.2.2.2.2.1 h.lm
 have t:Hid (∀V,Below W0.heap.size W0 V->Calls prog 61 #[.map (some x),.string l.2] V λe w'=>e = .returned (.bool (hasA R l.2))/\Below V.heap.size V w'):=hid λV n=>Zdbe x R l.2 V (c.out V n).2.2.2.2.2.2.2.2 h.sr
 have q:=hid (Below.refl W0.heap.size W0);have k:∃B C t3:Bool,hasA A l.2=B/\hasA M l.2=C/\hasA R l.2=t3:=⟨_,_,_,rfl,rfl,rfl⟩;obtain⟨B,C,t3,D,E,F⟩:=k;rw[D]at r;rw[E]at s;rw[F]at t;have W:Zdbs A M R l=if l.1 then(if B then 1 else 0)else if C then 2 else if t3 then 3 else 0:=by unfold Zdbs;rw[D,E,F]
 rw[W];have hq:=λw=>Zcym (b:=p) w
 unfold lv;obtain⟨X,ls⟩:=l;simp only at *;clear h U G H I o Q D E F W
 cases X
 ·go_enter func14,ntmps14
  go_wp2_with fail
  rw[<-m];clear m;refine wp_region_held_drew (S:=λV=>Below W0.heap.size W0 V) (by kernel_rfl) ?_ (λhHeld=>?_)
  ·exact below_drewN q.out _
  refine tkH 0 (v:=?_) ?_ ?_;rotate_left
  ·intro w a;obtain⟨_,d,f,g,i,j,_⟩:=c.out _ a;go_simp;try with_reducible rfl
  try simp only[Act.put,sA,sZ,sS]
  refine tkH 1 (v:=?_) ?_ ?_;rotate_left
  ·intro w a;obtain⟨_,d,f,g,i,j,_⟩:=c.out _ a;go_simp;try with_reducible rfl
  try simp only[Act.put,sA,sZ,sS]
  refine tkK 2 ?_
  try simp only[Act.put,sA,sZ,sS]
  refine tuH 3 ?_
  try simp only[Act.put,sA,sZ,sS]
  refine tuH 4 ?_
  try simp only[Act.put,sA,sZ,sS]
  refine tuH 5 ?_
  try simp only[Act.put,sA,sZ,sS]
  refine tuH 6 ?_
  try simp only[Act.put,sA,sZ,sS]
  refine tuH 7 ?_
  try simp only[Act.put,sA,sZ,sS]
  refine tuH 8 ?_
  try simp only[Act.put,sA,sZ,sS]
  refine rdH [9] ?_;refine rcH (λK k=>?_) ?_
  ·rw[if_neg];rotate_left;exact Bool.eq_false_iff.1 (by rfl)
   refine k.out _ _ ?_ (λhHeld=>?_)
   ·try dsimp only
    assumption
   clear k K
   try simp only[Act.put,sA,sZ,sS]
   refine tkK 10 ?_;refine tkK 11 ?_
   try simp only[Act.put,sA,sZ,sS]
   refine wpAnyH_done (by kernel_rfl) ?_ _
   go_wp2_with fail
   refine wp_region_held_drew (S:=λV=>Below W0.heap.size W0 V) (by kernel_rfl) ?_ (λhHeld=>?_)
   ·exact below_drewN hHeld _
   refine tkH 0 (v:=?_) ?_ ?_;rotate_left
   ·intro w a;obtain⟨_,d,f,g,i,j,_⟩:=c.out _ a;go_simp;try with_reducible rfl
   try simp only[Act.put,sA,sZ,sS]
   refine tkH 1 (v:=?_) ?_ ?_;rotate_left
   ·intro w a;obtain⟨_,d,f,g,i,j,_⟩:=c.out _ a;go_simp;try with_reducible rfl
   try simp only[Act.put,sA,sZ,sS]
   refine tkK 2 ?_;refine tkK 3 ?_
   try simp only[Act.put,sA,sZ,sS]
   refine tkH 4 (v:=?_) ?_ ?_;rotate_left
   ·intro w a;obtain⟨_,d,f,g,i,j,_⟩:=c.out _ a;go_simp;try with_reducible rfl
   try simp only[Act.put,sA,sZ,sS]
   refine tkH 5 (v:=?_) ?_ ?_;rotate_left
   ·intro w a;obtain⟨_,d,f,g,i,j,_⟩:=c.out _ a;go_simp;try with_reducible rfl
   try simp only[Act.put,sA,sZ,sS]
   refine tkH 6 (v:=?_) ?_ ?_;rotate_left
   ·intro w a;obtain⟨_,d,f,g,i,j,_⟩:=c.out _ a;go_simp;try with_reducible rfl
   try simp only[Act.put,sA,sZ,sS]
   refine tkH 7 (v:=?_) ?_ ?_;rotate_left
   ·intro w a;obtain⟨_,d,f,g,i,j,_⟩:=c.out _ a;go_simp;try with_reducible rfl
   try simp only[Act.put,sA,sZ,sS]
   refine tkH 8 (v:=?_) ?_ ?_;rotate_left
   ·intro w a;obtain⟨_,d,f,g,i,j,_⟩:=c.out _ a;go_simp;try with_reducible rfl
   try simp only[Act.put,sA,sZ,sS]
   refine tkH 9 (v:=?_) ?_ ?_;rotate_left
   ·intro w a;obtain⟨_,d,f,g,i,j,_⟩:=c.out _ a;go_simp;try with_reducible rfl
   try simp only[Act.put,sA,sZ,sS]
   refine rdH [10] ?_;refine rcH (λK k=>?_) ?_
   ·go_simp;refine(s.out _ hHeld).mono ?_;rintro T Z ⟨rfl,L⟩;dsimp only
    refine k.out _ _ ?_ (λhHeld=>?_)
    ·try dsimp only
     exact hHeld.trans (L.mono hHeld.size)
    clear k K
    try simp only[Act.put,sA,sZ,sS]
    refine tkK 11 ?_;refine tkK 12 ?_
    try simp only[Act.put,sA,sZ,sS]
    refine wpAnyH_done (by kernel_rfl) ?_ _
    cases C
    ·go_wp2_with fail
     refine wp_region_held_drew (S:=λV=>Below W0.heap.size W0 V) (by kernel_rfl) ?_ (λhHeld=>?_)
     ·exact below_drewN hHeld _
     refine tkH 0 (v:=?_) ?_ ?_;rotate_left
     ·intro w a;obtain⟨_,d,f,g,i,j,_⟩:=c.out _ a;go_simp;try with_reducible rfl
     try simp only[Act.put,sA,sZ,sS]
     refine tkH 1 (v:=?_) ?_ ?_;rotate_left
     ·intro w a;obtain⟨_,d,f,g,i,j,_⟩:=c.out _ a;go_simp;try with_reducible rfl
     try simp only[Act.put,sA,sZ,sS]
     refine tkK 2 ?_;refine tkK 3 ?_
     try simp only[Act.put,sA,sZ,sS]
     refine tkH 4 (v:=?_) ?_ ?_;rotate_left
     ·intro w a;obtain⟨_,d,f,g,i,j,_⟩:=c.out _ a;go_simp;try with_reducible rfl
     try simp only[Act.put,sA,sZ,sS]
     refine tkH 5 (v:=?_) ?_ ?_;rotate_left
     ·intro w a;obtain⟨_,d,f,g,i,j,_⟩:=c.out _ a;go_simp;try with_reducible rfl
     try simp only[Act.put,sA,sZ,sS]
     refine tkH 6 (v:=?_) ?_ ?_;rotate_left
     ·intro w a;obtain⟨_,d,f,g,i,j,_⟩:=c.out _ a;go_simp;try with_reducible rfl
     try simp only[Act.put,sA,sZ,sS]
     refine tkH 7 (v:=?_) ?_ ?_;rotate_left
     ·intro w a;obtain⟨_,d,f,g,i,j,_⟩:=c.out _ a;go_simp;try with_reducible rfl
     try simp only[Act.put,sA,sZ,sS]
     refine tkH 8 (v:=?_) ?_ ?_;rotate_left
     ·intro w a;obtain⟨_,d,f,g,i,j,_⟩:=c.out _ a;go_simp;try with_reducible rfl
     try simp only[Act.put,sA,sZ,sS]
     refine tkH 9 (v:=?_) ?_ ?_;rotate_left
     ·intro w a;obtain⟨_,d,f,g,i,j,_⟩:=c.out _ a;go_simp;try with_reducible rfl
     try simp only[Act.put,sA,sZ,sS]
     refine rdH [10] ?_;refine rcH (λK k=>?_) ?_
     ·go_simp;refine(t.out _ hHeld).mono ?_;rintro T Y ⟨rfl,J⟩;dsimp only
      refine k.out _ _ ?_ (λhHeld=>?_)
      ·try dsimp only
       exact hHeld.trans (J.mono hHeld.size)
      clear k K
      try simp only[Act.put,sA,sZ,sS]
      refine tkK 11 ?_;refine tkK 12 ?_
      try simp only[Act.put,sA,sZ,sS]
      refine wpAnyH_done (by kernel_rfl) ?_ _
      cases t3
      ·go_wp2
       go_ret;exact⟨rfl,(c.out _ hHeld).1⟩
      ·go_wp2
       go_ret;exact⟨rfl,(c.out _ hHeld).1⟩
     exact AllReadyH.nil
    ·go_wp2
     go_ret;exact⟨rfl,(c.out _ hHeld).1⟩
   exact AllReadyH.nil
  exact AllReadyH.nil
 ·go_enter func14,ntmps14
  go_wp2_with fail
  rw[<-m];clear m;refine wp_region_held_drew (S:=λV=>Below W0.heap.size W0 V) (by kernel_rfl) ?_ (λhHeld=>?_)
  ·exact below_drewN q.out _
  refine tkH 0 (v:=?_) ?_ ?_;rotate_left
  ·intro w a;obtain⟨_,d,f,g,i,j,_⟩:=c.out _ a;go_simp;try with_reducible rfl
  try simp only[Act.put,sA,sZ,sS]
  refine tkH 1 (v:=?_) ?_ ?_;rotate_left
  ·intro w a;obtain⟨_,d,f,g,i,j,_⟩:=c.out _ a;go_simp;try with_reducible rfl
  try simp only[Act.put,sA,sZ,sS]
  refine tkK 2 ?_
  try simp only[Act.put,sA,sZ,sS]
  refine tkH 3 (v:=?_) ?_ ?_;rotate_left
  ·intro w a;obtain⟨_,d,f,g,i,j,_⟩:=c.out _ a;go_simp;try with_reducible rfl
  try simp only[Act.put,sA,sZ,sS]
  refine tkH 4 (v:=?_) ?_ ?_;rotate_left
  ·intro w a;obtain⟨_,d,f,g,i,j,_⟩:=c.out _ a;go_simp;try with_reducible rfl
  try simp only[Act.put,sA,sZ,sS]
  refine tkH 5 (v:=?_) ?_ ?_;rotate_left
  ·intro w a;obtain⟨_,d,f,g,i,j,_⟩:=c.out _ a;go_simp;try with_reducible rfl
  try simp only[Act.put,sA,sZ,sS]
  refine tkH 6 (v:=?_) ?_ ?_;rotate_left
  ·intro w a;obtain⟨_,d,f,g,i,j,_⟩:=c.out _ a;go_simp;try with_reducible rfl
  try simp only[Act.put,sA,sZ,sS]
  refine tkH 7 (v:=?_) ?_ ?_;rotate_left
  ·intro w a;obtain⟨_,d,f,g,i,j,_⟩:=c.out _ a;go_simp;try with_reducible rfl
  try simp only[Act.put,sA,sZ,sS]
  refine tkH 8 (v:=?_) ?_ ?_;rotate_left
  ·intro w a;obtain⟨_,d,f,g,i,j,_⟩:=c.out _ a;go_simp;try with_reducible rfl
  try simp only[Act.put,sA,sZ,sS]
  refine rdH [9] ?_;refine rcH (λK k=>?_) ?_
  ·go_simp;refine(r.out _ hHeld).mono ?_;rintro T V6 ⟨rfl,O⟩;dsimp only
   refine k.out _ _ ?_ (λhHeld=>?_)
   ·try dsimp only
    exact hHeld.trans (O.mono hHeld.size)
   clear k K
   try simp only[Act.put,sA,sZ,sS]
   refine tkK 10 ?_;refine tkK 11 ?_
   try simp only[Act.put,sA,sZ,sS]
   refine wpAnyH_done (by kernel_rfl) ?_ _
   cases B
   ·go_wp2_with fail
    refine wp_region_held_drew (S:=λV=>Below W0.heap.size W0 V) (by kernel_rfl) ?_ (λhHeld=>?_)
    ·exact below_drewN hHeld _
    refine tkH 0 (v:=?_) ?_ ?_;rotate_left
    ·intro w a;obtain⟨_,d,f,g,i,j,_⟩:=c.out _ a;go_simp;try with_reducible rfl
    try simp only[Act.put,sA,sZ,sS]
    refine tkH 1 (v:=?_) ?_ ?_;rotate_left
    ·intro w a;obtain⟨_,d,f,g,i,j,_⟩:=c.out _ a;go_simp;try with_reducible rfl
    try simp only[Act.put,sA,sZ,sS]
    refine tkK 2 ?_;refine tkK 3 ?_
    try simp only[Act.put,sA,sZ,sS]
    refine tuH 4 ?_
    try simp only[Act.put,sA,sZ,sS]
    refine tuH 5 ?_
    try simp only[Act.put,sA,sZ,sS]
    refine tuH 6 ?_
    try simp only[Act.put,sA,sZ,sS]
    refine tuH 7 ?_
    try simp only[Act.put,sA,sZ,sS]
    refine tuH 8 ?_
    try simp only[Act.put,sA,sZ,sS]
    refine tuH 9 ?_
    try simp only[Act.put,sA,sZ,sS]
    refine rdH [10] ?_;refine rcH (λK k=>?_) ?_
    ·rw[if_neg];rotate_left;exact Bool.eq_false_iff.1 (by rfl)
     refine k.out _ _ ?_ (λhHeld=>?_)
     ·try dsimp only
      assumption
     clear k K
     try simp only[Act.put,sA,sZ,sS]
     refine tkK 11 ?_;refine tkK 12 ?_
     try simp only[Act.put,sA,sZ,sS]
     refine wpAnyH_done (by kernel_rfl) ?_ _
     go_wp2_with fail
     refine wp_region_held_drew (S:=λV=>Below W0.heap.size W0 V) (by kernel_rfl) ?_ (λhHeld=>?_)
     ·exact below_drewN hHeld _
     refine tkH 0 (v:=?_) ?_ ?_;rotate_left
     ·intro w a;obtain⟨_,d,f,g,i,j,_⟩:=c.out _ a;go_simp;try with_reducible rfl
     try simp only[Act.put,sA,sZ,sS]
     refine tkH 1 (v:=?_) ?_ ?_;rotate_left
     ·intro w a;obtain⟨_,d,f,g,i,j,_⟩:=c.out _ a;go_simp;try with_reducible rfl
     try simp only[Act.put,sA,sZ,sS]
     refine tkK 2 ?_;refine tkK 3 ?_
     try simp only[Act.put,sA,sZ,sS]
     refine tuH 4 ?_
     try simp only[Act.put,sA,sZ,sS]
     refine tuH 5 ?_
     try simp only[Act.put,sA,sZ,sS]
     refine tuH 6 ?_
     try simp only[Act.put,sA,sZ,sS]
     refine tuH 7 ?_
     try simp only[Act.put,sA,sZ,sS]
     refine tuH 8 ?_
     try simp only[Act.put,sA,sZ,sS]
     refine tuH 9 ?_
     try simp only[Act.put,sA,sZ,sS]
     refine rdH [10] ?_;refine rcH (λK k=>?_) ?_
     ·rw[if_neg];rotate_left;exact Bool.eq_false_iff.1 (by rfl)
      refine k.out _ _ ?_ (λhHeld=>?_)
      ·try dsimp only
       assumption
      clear k K
      try simp only[Act.put,sA,sZ,sS]
      refine tkK 11 ?_;refine tkK 12 ?_
      try simp only[Act.put,sA,sZ,sS]
      refine wpAnyH_done (by kernel_rfl) ?_ _;go_wp2;go_ret;exact⟨rfl,(c.out _ hHeld).1⟩
     exact AllReadyH.nil
    exact AllReadyH.nil
   ·go_wp2
    go_ret;exact⟨rfl,(c.out _ hHeld).1⟩
  exact AllReadyH.nil
theorem Zczo (a b c d e:Value) (w:World):Sem.run prog (Instr.field 50 (.agg #[a,b,c,d,e]) 1) w = .ok b w:=by
 unfold Instr.field;simp[go_sem,part,asAgg]
theorem Zczp (a b c d e:Value) (w:World):Sem.run prog (Instr.field 50 (.agg #[a,b,c,d,e]) 2) w = .ok c w:=by
 unfold Instr.field;simp[go_sem,part,asAgg]
theorem Zdft {w:World} {g:Nat} {x:Lb} (h:w.heap[g]? =some (.cells #[.bool x.1,.string x.2] 24)) {B:Nat} (a:B<=g):OwnL B w (.slice (some ⟨g,0,none⟩) 1 1) [x]:=
 ⟨rfl,.inr ⟨g,1,_,rfl,a,h,Nat.le_refl _,by unfold maxLen;omega,rfl,rfl⟩⟩
structure GrW (w W0:World) (p mr mm md:Nat) (A M R:SKV) (l:Lb) (V:World):Prop where
 b:Below w.heap.size w V
 c0:V.cell? { block:=p,off:=0 } =some (.map (some mr))
 c1:V.cell? { block:=p,off:=1 } =some (.map (some mm))
 c2:V.cell? { block:=p,off:=2 } =some (.map (some md))
 x0:V.cell? { block:=w.heap.size,off:=0 } =some (.bool l.1)
 x1:V.cell? { block:=w.heap.size,off:=1 } =some (.string l.2)
 a:MpS V mr A
 m:MpS V mm M
 r:MpS V md R
theorem GrM.later {w W0:World} {p:Nat} {A M R:SKV} {l:Lb} (h:GrM w p A M R) (a:W0=w.alloc (.cells #[.bool l.1,.string l.2] 24)):∃g f e,∀V,Below W0.heap.size W0 V->GrW w W0 p g f e A M R l V:=by
 obtain⟨g,f,e,r,i,j,k⟩:=h.ex;refine⟨g,f,e,λV m=>?_⟩;have c:Below w.heap.size w W0:=by rw[a];exact(Below.refl _ _).alloc (Nat.le_refl _) _
 have n:BoxL W0 w.heap.size l:=by rw[a];exact alloc_at w _
 have b:=c.trans (m.mono c.size);have d:=(b.block p h.lt).trans r;obtain⟨o,q⟩:=(n.below m (Nat.le_refl _)).cells;exact⟨b,by simp[World.cell?,d],by simp[World.cell?,d],by simp[World.cell?,d],o,q,i.below b i.lt,j.below b j.lt,k.below b k.lt⟩
theorem Zdev (p:Nat) (A M R:SKV) (k:ByteArray) (w:World) (h:GrM w p A M R) {s:ByteArray} {m H I J:Option Addr} {t g O n Q o T q:Nat} (L:getA A k zRul = .agg #[.string s,.slice m t g,.slice H O n,.slice I Q o,.slice J T q]) {xs:List ByteArray} (hi:IsStrs w (.slice m t g) xs) (hn:xs.length<=1000):
  Calls prog 16 #[.pointer (some { block:=p,off:=0 }),lv (true,k)] w λe w'=>∃U,e = .returned U/\OwnL w.heap.size w' U (setL (Zcyo xs))/\Below w.heap.size w w':=by
 have mixed:prog.follows .mixedOrders=true:=by kernel_rfl
 obtain⟨d,f⟩:∃V,V=w.alloc (.cells #[.bool true,.string k] 24):=⟨_,rfl⟩;have j:w.heap.size<=d.heap.size:=by rw[f];simp
 obtain⟨mr,mm,md,r⟩:=h.later (l:=(true,k)) f;have y:=hid r;have x:Hid (∀V,Below d.heap.size d V->(Instr.lookup 86 (.map (some mr)) (.string k) false).run prog V = .ok (.agg #[.string s,.slice m t g,.slice H O n,.slice I Q o,.slice J T q]) V):=by
  show ∀V,_;intro V B;have:=(r V B).a.get (P:=prog) underlying86 underlying9 (Zdkb V) k;rw[L]at this;exact this
 have W:Hid (∀V,Below d.heap.size d V->IsStrs V (.slice m t g) xs):=hid λV B=>hi.below (r V B).b
 have z:=hid j;have u:=hid (Below.refl d.heap.size d);have hq:=λw=>Zcym (b:=p) w
 have hf:=Zczo;unfold lv;clear h r L hi j
 go_enter func16,ntmps16
 go_wp2_with fail
 rw[<-f];clear f;refine wp_region_held_drew (S:=λV=>Below d.heap.size d V) (by kernel_rfl) ?_ (λhHeld=>?_)
 ·exact below_drewN u.out _
 refine tkK 0 ?_;refine tkK 1 ?_;refine tkK 2 ?_
 try simp only[Act.put,sA,sZ,sS]
 refine tkH 3 (v:=?_) ?_ ?_;rotate_left
 ·intro w c;obtain⟨_,c0,g,n,o,q,_,_,_⟩:=y.out _ c;go_simp;try with_reducible rfl
 try simp only[Act.put,sA,sZ,sS]
 refine tkK 4 ?_
 try simp only[Act.put,sA,sZ,sS]
 refine tkH 5 (v:=?_) ?_ ?_;rotate_left
 ·intro w c;obtain⟨_,c0,g,n,o,q,_,_,_⟩:=y.out _ c;go_simp;try with_reducible rfl
 try simp only[Act.put,sA,sZ,sS]
 refine tkH 6 (v:=?_) ?_ ?_;rotate_left
 ·intro w c;have aa:=x.out _ c;go_simp;try with_reducible rfl
 try simp only[Act.put,sA,sZ,sS]
 refine tkK 7 ?_
 try simp only[Act.put,sA,sZ,sS]
 refine rdH [8] ?_;refine rcH (λK i=>?_) ?_
 ·go_simp;refine(Zcyn _ xs _ (W.out _ hHeld) (by omega)).mono ?_;rintro e' Y ⟨v1,rfl,E,C⟩;obtain⟨Z,d1,rfl,_,_,G,_⟩:=Zdfu E;dsimp only
  refine i.out _ _ ?_ (λhHeld=>?_)
  ·try dsimp only
   exact hHeld.trans (C.mono hHeld.size)
  clear i K
  try simp only[Act.put,sA,sZ,sS]
  refine rdH [9] ?_;refine rcH (λK i=>?_) ?_
  ·go_simp;refine(Zcxd (Zcyo xs) Z d1 Y G (by rw[Zcyp];exact hn)).mono ?_;rintro e' V2 ⟨v2,rfl,F,D⟩;have X:=hid (Zbdt F (Nat.le_trans z.out hHeld.size));dsimp only
   refine i.out _ _ ?_ (λhHeld=>?_)
   ·try dsimp only
    exact hHeld.trans (D.mono hHeld.size)
   clear i K
   try simp only[Act.put,sA,sZ,sS]
   refine tkK 10 ?_
   try simp only[Act.put,sA,sZ,sS]
   refine wpAnyH_done (by kernel_rfl) ?_ _
   go_wp2_with fail
   go_ret;exact⟨_,rfl,X.out,(y.out _ hHeld).b⟩
  exact AllReadyH.nil
 exact AllReadyH.nil
theorem Zdjw (p:Nat) (A M R:SKV) (k:ByteArray) (w:World) (h:GrM w p A M R) {s:ByteArray} {H m I J:Option Addr} {O n t g Q o T q:Nat} (L:getA A k zRul = .agg #[.string s,.slice H O n,.slice m t g,.slice I Q o,.slice J T q]) {xs:List ByteArray} (hi:IsStrs w (.slice m t g) xs) (hn:xs.length<=1000):
  Calls prog 18 #[.pointer (some { block:=p,off:=0 }),lv (true,k)] w λe w'=>∃U,e = .returned U/\OwnL w.heap.size w' U (setL (Zcyo xs))/\Below w.heap.size w w':=by
 have mixed:prog.follows .mixedOrders=true:=by kernel_rfl
 obtain⟨d,f⟩:∃V,V=w.alloc (.cells #[.bool true,.string k] 24):=⟨_,rfl⟩;have j:w.heap.size<=d.heap.size:=by rw[f];simp
 obtain⟨mr,mm,md,r⟩:=h.later (l:=(true,k)) f;have y:=hid r;have x:Hid (∀V,Below d.heap.size d V->(Instr.lookup 86 (.map (some mr)) (.string k) false).run prog V = .ok (.agg #[.string s,.slice H O n,.slice m t g,.slice I Q o,.slice J T q]) V):=by
  show ∀V,_;intro V B;have:=(r V B).a.get (P:=prog) underlying86 underlying9 (Zdkb V) k;rw[L]at this;exact this
 have W:Hid (∀V,Below d.heap.size d V->IsStrs V (.slice m t g) xs):=hid λV B=>hi.below (r V B).b
 have z:=hid j;have u:=hid (Below.refl d.heap.size d);have hq:=λw=>Zcym (b:=p) w
 have hf:=Zczp;unfold lv;clear h r L hi j
 go_enter func18,ntmps18
 go_wp2_with fail
 rw[<-f];clear f;refine wp_region_held_drew (S:=λV=>Below d.heap.size d V) (by kernel_rfl) ?_ (λhHeld=>?_)
 ·exact below_drewN u.out _
 refine tkK 0 ?_;refine tkK 1 ?_;refine tkK 2 ?_
 try simp only[Act.put,sA,sZ,sS]
 refine tkH 3 (v:=?_) ?_ ?_;rotate_left
 ·intro w c;obtain⟨_,c0,n,g,o,q,_,_,_⟩:=y.out _ c;go_simp;try with_reducible rfl
 try simp only[Act.put,sA,sZ,sS]
 refine tkK 4 ?_
 try simp only[Act.put,sA,sZ,sS]
 refine tkH 5 (v:=?_) ?_ ?_;rotate_left
 ·intro w c;obtain⟨_,c0,n,g,o,q,_,_,_⟩:=y.out _ c;go_simp;try with_reducible rfl
 try simp only[Act.put,sA,sZ,sS]
 refine tkH 6 (v:=?_) ?_ ?_;rotate_left
 ·intro w c;have aa:=x.out _ c;go_simp;try with_reducible rfl
 try simp only[Act.put,sA,sZ,sS]
 refine tkK 7 ?_
 try simp only[Act.put,sA,sZ,sS]
 refine rdH [8] ?_;refine rcH (λK i=>?_) ?_
 ·go_simp;refine(Zcyn _ xs _ (W.out _ hHeld) (by omega)).mono ?_;rintro e' Y ⟨v1,rfl,E,C⟩;obtain⟨Z,d1,rfl,_,_,G,_⟩:=Zdfu E;dsimp only
  refine i.out _ _ ?_ (λhHeld=>?_)
  ·try dsimp only
   exact hHeld.trans (C.mono hHeld.size)
  clear i K
  try simp only[Act.put,sA,sZ,sS]
  refine rdH [9] ?_;refine rcH (λK i=>?_) ?_
  ·go_simp;refine(Zcxd (Zcyo xs) Z d1 Y G (by rw[Zcyp];exact hn)).mono ?_;rintro e' V2 ⟨v2,rfl,F,D⟩;have X:=hid (Zbdt F (Nat.le_trans z.out hHeld.size));dsimp only
   refine i.out _ _ ?_ (λhHeld=>?_)
   ·try dsimp only
    exact hHeld.trans (D.mono hHeld.size)
   clear i K
   try simp only[Act.put,sA,sZ,sS]
   refine tkK 10 ?_
   try simp only[Act.put,sA,sZ,sS]
   refine wpAnyH_done (by kernel_rfl) ?_ _
   go_wp2_with fail
   go_ret;exact⟨_,rfl,X.out,(y.out _ hHeld).b⟩
  exact AllReadyH.nil
 exact AllReadyH.nil
theorem Zdjs (p:Nat) (A M R:SKV) (k:ByteArray) (w:World) (h:GrM w p A M R) {g:Option Addr} {s:Nat} {f:List Lb} (z:getA R k (.slice none 0 0) = .slice g f.length s) (hi:RowL w g f) (L:f.length<=1000):
  Calls prog 18 #[.pointer (some { block:=p,off:=0 }),lv (false,k)] w λe w'=>∃B,e = .returned B/\OwnL w.heap.size w' B (setL f)/\Below w.heap.size w w':=by
 have mixed:prog.follows .mixedOrders=true:=by kernel_rfl
 obtain⟨c,d⟩:∃V,V=w.alloc (.cells #[.bool false,.string k] 24):=⟨_,rfl⟩;have i:w.heap.size<=c.heap.size:=by rw[d];simp
 obtain⟨X,W,O,j⟩:=h.later (l:=(false,k)) d;have o:=hid j;have n:Hid (∀V,Below c.heap.size c V->(Instr.lookup 88 (.map (some O)) (.string k) false).run prog V = .ok (.slice g f.length s) V):=by
  show ∀V,_;intro V t;have:=(j V t).r.get (P:=prog) underlying88 underlying9 (Zdka V) k;rw[z]at this;exact this
 have C:Hid (∀V,Below c.heap.size c V->RowL V g f):=hid λV t=>hi.below (j V t).b (Nat.le_refl _)
 have q:=hid i;have m:=hid (Below.refl c.heap.size c);have U:=λw=>Zcym (b:=p) w
 unfold lv;clear h j z hi i
 go_enter func18,ntmps18
 go_wp2_with fail
 rw[<-d];clear d;refine wp_region_held_drew (S:=λV=>Below c.heap.size c V) (by kernel_rfl) ?_ (λhHeld=>?_)
 ·exact below_drewN m.out _
 refine tkK 0 ?_;refine tkK 1 ?_;refine tkK 2 ?_
 try simp only[Act.put,sA,sZ,sS]
 refine tkH 3 (v:=?_) ?_ ?_;rotate_left
 ·intro w a;obtain⟨_,E,F,G,H,I,_,_,_⟩:=o.out _ a;go_simp;try with_reducible rfl
 try simp only[Act.put,sA,sZ,sS]
 refine tkK 4 ?_
 try simp only[Act.put,sA,sZ,sS]
 refine tkH 5 (v:=?_) ?_ ?_;rotate_left
 ·intro w a;obtain⟨_,E,F,G,H,I,_,_,_⟩:=o.out _ a;go_simp;try with_reducible rfl
 try simp only[Act.put,sA,sZ,sS]
 refine tkH 6 (v:=?_) ?_ ?_;rotate_left
 ·intro w a;have J:=n.out _ a;go_simp;try with_reducible rfl
 try simp only[Act.put,sA,sZ,sS]
 refine rdH [7] ?_;refine rcH (λK y=>?_) ?_
 ·go_simp;refine(Zcxd f g s _ (C.out _ hHeld) L).mono ?_;rintro T Q ⟨Y,rfl,x,u⟩;have D:=hid (Zbdt x (Nat.le_trans q.out hHeld.size));dsimp only
  refine y.out _ _ ?_ (λhHeld=>?_)
  ·try dsimp only
   exact hHeld.trans (u.mono hHeld.size)
  clear y K
  try simp only[Act.put,sA,sZ,sS]
  refine tkK 8 ?_
  try simp only[Act.put,sA,sZ,sS]
  refine wpAnyH_done (by kernel_rfl) ?_ _
  go_wp2_with fail
  go_ret;exact⟨_,rfl,D.out,(o.out _ hHeld).b⟩
 exact AllReadyH.nil
theorem Zder (p:Nat) (A M R:SKV) (k:ByteArray) (w:World) (h:GrM w p A M R) {q:Bool} {s:ByteArray} (y:getA M k zLab = .agg #[.bool q,.string s]):
  Calls prog 16 #[.pointer (some { block:=p,off:=0 }),lv (false,k)] w λe w'=>∃B,e = .returned B/\OwnL w.heap.size w' B (if hasA M k then [(q,s)]else [])/\Below w.heap.size w w':=by
 have mixed:prog.follows .mixedOrders=true:=by kernel_rfl
 obtain⟨d,c⟩:∃V,V=w.alloc (.cells #[.bool false,.string k] 24):=⟨_,rfl⟩;have j:w.heap.size<=d.heap.size:=by rw[c];simp
 obtain⟨T,L,Q,r⟩:=h.later (l:=(false,k)) c;have n:=hid r;have g:Hid (∀V,Below d.heap.size d V->(Instr.lookup 87 (.map (some L)) (.string k) true).run prog V = .ok (.tuple #[.agg #[.bool q,.string s],.bool (hasA M k)]) V):=by
  show ∀V,_;intro V I;have:=(r V I).m.get_ok (P:=prog) underlying87 underlying9 (Zdjz V) k;rw[y]at this;exact this
 have o:=hid j;have f:=hid (Below.refl d.heap.size d);have O:=λw=>Zcym (b:=p) w
 obtain⟨t,z⟩:∃t,hasA M k=t:=⟨_,rfl⟩;rw[z]at g⊢;unfold lv;clear h r y j z
 go_enter func16,ntmps16
 go_wp2_with fail
 rw[<-c];clear c;refine wp_region_held_drew (S:=λV=>Below d.heap.size d V) (by kernel_rfl) ?_ (λhHeld=>?_)
 ·exact below_drewN f.out _
 refine tkK 0 ?_;refine tkK 1 ?_;refine tkK 2 ?_
 try simp only[Act.put,sA,sZ,sS]
 refine tkH 3 (v:=?_) ?_ ?_;rotate_left
 ·intro w a;obtain⟨_,C,D,E,F,G,_,_,_⟩:=n.out _ a;go_simp;try with_reducible rfl
 try simp only[Act.put,sA,sZ,sS]
 refine tkK 4 ?_
 try simp only[Act.put,sA,sZ,sS]
 refine tkH 5 (v:=?_) ?_ ?_;rotate_left
 ·intro w a;obtain⟨_,C,D,E,F,G,_,_,_⟩:=n.out _ a;go_simp;try with_reducible rfl
 try simp only[Act.put,sA,sZ,sS]
 refine tkH 6 (v:=?_) ?_ ?_;rotate_left
 ·intro w a;have J:=g.out _ a;go_simp;try with_reducible rfl
 try simp only[Act.put,sA,sZ,sS]
 refine tkK 7 ?_;refine tkK 8 ?_;refine tkK 9 ?_
 try simp only[Act.put,sA,sZ,sS]
 refine rdH [10] ?_;refine rcH (λK i=>?_) ?_
 ·go_simp
  refine i.out _ _ ?_ (λhHeld=>?_)
  ·try dsimp only
   exact hHeld.alloc hHeld.size _
  clear i K
  try simp only[Act.put,sA,sZ,sS]
  refine rdH [11] ?_;refine rcH (λK i=>?_) ?_
  ·go_simp
   refine i.out _ _ ?_ (λhHeld=>?_)
   ·try dsimp only
    exact(f.out.alloc (Nat.le_refl _) _).drew
   clear i K
   try simp only[Act.put,sA,sZ,sS]
   refine tkK 12 ?_
   try simp only[Act.put,sA,sZ,sS]
   refine wpAnyH_done (by kernel_rfl) ?_ _
   cases t
   ·go_wp2
    go_ret;exact⟨_,rfl,Zdfs _ _,(n.out _ hHeld).b⟩
   ·go_wp2
    go_ret;refine⟨_,rfl,Zdft (x:=(q,s)) ?_ (by have:=o.out;omega),?_⟩
    ·have u:=alloc_at (d.alloc (.cells #[.bool q,.string s] 24)) (.cells #[.bool q,.string s] 24)
     rw[World.size_alloc]at u;exact u
    ·have H:=(f.out.alloc (Nat.le_refl _) (.cells #[.bool q,.string s] 24)).alloc (by simp) (.cells #[.bool q,.string s] 24)
     exact(n.out _ H.drew).b
  exact AllReadyH.nil
 exact AllReadyH.nil
theorem Zph (k:Nat):∀(a:List (List Value)),(∀r∈a,r.length=k)->a.flatten.length=a.length*k
 | [],_=>by simp
 | r::a,h=>by
  rw[List.flatten_cons,List.length_append,Zph k a (λr b=>h r (by simp[b])),h r (by simp),List.length_cons,Nat.succ_mul];omega
theorem Zcxy (v:Value) (d:List (List Value)) (w:World) (h:IsRow w v 5 d) (F:∀r∈d,r.length=5) (R:∀r∈d,∀u∈r,u.oneCell'=true) (X:d.length<=1000000):
  Calls prog 89 #[v] w λe w'=>∃v',e = .returned v'/\w'.ownsRow w.heap.size 58 5 v' d.length d.flatten/\Below w.heap.size w w':=by
 obtain⟨a,c,rfl,W,M,y⟩:=id h;obtain⟨U,O,B,C,D⟩:=Zsv Zsx
 cases a with
 | none=>
  have A:d = []:=by
   rcases d with _|⟨f,V⟩
   ·rfl
   ·obtain⟨b,o,z,_⟩:=y (by simp)
    cases z
  subst A;have S:∀w,(Go.binOp .eql 48 (.slice none 0 c) (.slice none 0 0)).run prog w = .ok (.bool true) w:=λw=>Lib.run_eql_slice_nil w 48 58 none 0 c 0 0 underlying48
  go_enter func89,ntmps89
  go_wp2;go_ret;exact⟨_,rfl,World.ownsRow_nil _ _ _ _,Below.refl _ _⟩
 | some L=>
  obtain⟨t,x,n⟩:=L;have S:∀w,(Go.binOp .eql 48 (.slice (some ⟨t,x,n⟩) d.length c) (.slice none 0 0)).run prog w = .ok (.bool false) w:=λw=>Lib.run_eql_slice_nil w 48 58 _ _ _ _ _ underlying48
  have q:=Zph 5 d F;have g:∀j u,d.flatten[j]? =some u->w.cell? ((⟨t,x,n⟩:Addr).add j)=some u:=by
   intro j u p;obtain⟨b,o,z,_,_⟩:=y (by rintro rfl;simp at p)
   cases z
   exact Zbii h F (by decide) j u p
  have l:∀u∈d.flatten,u.oneCell'=true:=by
   intro u p;obtain⟨r,T,p⟩:=List.mem_flatten.1 p;exact R r T u p
  have H:=hid g;have J:=hid l;have I:=hid q;clear g y l q h
  go_enter func89,ntmps89
  go_wp2_with (at_builtin;refine wpList_append_own _ rfl _ _ 48 rfl w.heap.size 58 U _ 5 80 underlying48 O B C D rfl (by decide) _ _ _ rfl (World.ownsRow_made w #[] 0 (Nat.le_refl _) (Nat.zero_le _) (by simp)) ⟨t,x,n⟩ d.length c d.flatten rfl ?qc1 ?qc2 ?qc3 ?qc4 ?qc5 ?qc6 ?_)
  case qc1=>exact I.out
  case qc2=>
   intro j u P;exact Lib.cell?_alloc_some _ (H.out j u P)
  case qc3=>exact J.out
  case qc4=>unfold maxLen;omega
  case qc5=>omega
  case qc6=>simp
  intro v' w1 m i s;have K:=hid m;have E:Below w.heap.size w w1:=((Below.refl _ w).alloc (Nat.le_refl _) _).grown i (by simp) (by intro k Q;simp[Value.ownBlock]at Q;omega);have G:=hid E;clear m i s E;go_wp2;go_ret;refine⟨_,rfl,?_,G.out⟩;have:=K.out;simpa using this
