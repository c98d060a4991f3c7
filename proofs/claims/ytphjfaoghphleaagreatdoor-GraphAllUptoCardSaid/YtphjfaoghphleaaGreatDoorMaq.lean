import Derived.Test.YtphjfaoghphleaaGreatDoorMap
set_option maxRecDepth 100000
set_option maxHeartbeats 8000000
namespace Go.Proofs.YtphjfaoghphleaaGreatDoor
section
open Go.Lib (hid)
open Go.Proofs.Tryz Go.RowKit Go.Shelf
def Zcws (ls:List Lb) (xs:List Lb):List Lb:=xs.foldl (λl x=>addL x l) ls
theorem Zcwv {a xs:List Lb} {k:Nat} {x:Lb} (h:xs[k]? =some x):Zcws a (xs.take (k+1))=addL x (Zcws a (xs.take k)):=by
 unfold Zcws;rw[List.take_add_one,h,List.foldl_append];rfl
theorem Zcwr (x:Lb) (l:List Lb):l.length<=(addL x l).length/\(addL x l).length<=l.length+1:=by
 unfold addL;split<;>simp
theorem Zcwu (a xs:List Lb):a.length<=(Zcws a xs).length/\(Zcws a xs).length<=a.length+xs.length:=by
 unfold Zcws
 induction xs generalizing a with
 | nil=>simp
 | cons x xs b=>
  have c:=b (addL x a);have d:=Zcwr x a;simp only[List.foldl_cons,List.length_cons];omega
def RowL (w:World) (a:Option Addr) (xs:List Lb):Prop:=∀i x,xs[i]? =some x->∃b o,a=some { block:=b,off:=o }/\w.cell? { block:=b,off:=o+i*2 } =some (.bool x.1)/\w.cell? { block:=b,off:=o+i*2+1 } =some (.string x.2)
structure KeepBut (p m:Nat) (w w':World):Prop where
 os:w'.os=w.os
 tape:w'.tape=w.tape
 output:w'.output=w.output
 size:w.heap.size<=w'.heap.size
 block:∀k,k<w.heap.size->k≠p->k≠m->w'.heap[k]? =w.heap[k]?
variable {p m:Nat} {w w' w'':World}
theorem KeepBut.refl (p m:Nat) (w:World):KeepBut p m w w:=⟨rfl,rfl,rfl,Nat.le_refl _,λ_ _ _ _=>rfl⟩
theorem KeepBut.trans (h:KeepBut p m w w') (k:KeepBut p m w' w''):KeepBut p m w w'':=
 ⟨k.os.trans h.os,k.tape.trans h.tape,k.output.trans h.output,Nat.le_trans h.size k.size,λi a b c=>(k.block i (Nat.lt_of_lt_of_le a h.size) b c).trans (h.block i a b c)⟩
theorem Zcxg {B:Nat} (h:Below B w w') (a:w.heap.size<=B):KeepBut p m w w':=⟨h.os,h.tape,h.output,h.size,λk b _ _=>h.block k (Nat.lt_of_lt_of_le b a)⟩
theorem Zdbr (p m:Nat) (w:World) (o:Obj):KeepBut p m w { w with heap:=w.heap.setIfInBounds m o }:=⟨rfl,rfl,rfl,by simp,λk _ _ h=>by simp[Array.getElem?_setIfInBounds_ne (Ne.symm h)]⟩
theorem KeepBut.cell (h:KeepBut p m w w') {a:Addr} {v:Value} (b:w.cell? a=some v) (c:a.block≠p) (d:a.block≠m):w'.cell? a=some v:=by
 rw[World.cell?_of_block (h.block _ (World.block_lt_of_cell? _ _ b) c d)];exact b
theorem map_some (b:Nat) (w:World):(binOp .eql 69 (.map (some b)) (.map none)).run prog w = .ok (.bool false) w:=by
 have a:∀d,(Op.equalIn (d+1) 69 (.map (some b)) (.map none)).run prog w = .ok false w:=by
  intro d;simp[Op.equalIn,run_underlying underlying69,Sem.run_bind]
 have:=a 9999;simp[binOp,Op.equal,Op.maxDepth,this]
theorem Zdcf (p d:Nat) (u xs:List Lb) (a:Option Addr) (c:Nat) (w:World) (hc:w.cell? { block:=p,off:=0 } =some (.map (some d))) (L:d≠p) (R:LM w d u) (hr:RowL w a xs) (G:xs≠[]->∀b,a=some b->b.block≠p/\b.block≠d)
  (hn:u.length+xs.length<=1000000):
  Calls prog 56 #[.pointer (some { block:=p,off:=0 }),.slice a xs.length c] w λe w'=>e = .returned (.int .i64 (((Zcws u xs).length:Int)-u.length))/\w'.cell? { block:=p,off:=0 } =some (.map (some d))/\LM w' d (Zcws u xs)/\KeepBut w.heap.size d w w':=by
 have HR:=hid hr;have U:=hid G;have HM:=hid R;have hl:∀D,(Builtin.len_ #[69] D #[.map (some d)]).run prog w = .ok (.int .i64 (u.length:Int)) w:=by
  intro D;have:=R.1.len (P:=prog) underlying69 D;rw[Zddd]at this;exact this
 have ab:=R.1.lt;have M:p<w.heap.size:=World.block_lt_of_cell? _ _ hc;have ac:=map_some d w;clear hr G R
 go_enter func56,ntmps56
 go_wp2
 go_loopw [29] (λiv wr=>∃k:Nat,k<=xs.length/\iv = .int .i64 (k:Int)/\wr.cell? { block:=p,off:=0 } =some (.map (some d))/\LM wr d (Zcws u (xs.take k))/\KeepBut w.heap.size d w wr) (λiv _=>xs.length-(intOf iv).toNat)
 case atStart=>exact⟨0,Nat.zero_le _,rfl,hc,HM.out,KeepBut.refl _ _ _⟩
 case round=>
  obtain⟨k,hk,rfl,j,J,I⟩:=hrel;have h:=hid J;have g:=hid I;clear J I hl
  by_cases B:k<xs.length
  ·obtain⟨x,hx⟩:∃x,xs[k]? =some x:=⟨xs[k],List.getElem?_eq_getElem B⟩
   obtain⟨b,o,rfl,C,O⟩:=HR.out k x hx;obtain⟨ae,H⟩:=U.out (by intro h0;rw[h0]at B;simp at B) _ rfl;have aa:b<w.heap.size:=World.block_lt_of_cell? _ _ C;have h0:=g.out.cell C (by simp;omega) H;have h1:=g.out.cell O (by simp;omega) H;clear C O;have Z:=g.out.size;have Y:p<wr.heap.size:=Nat.lt_of_lt_of_le M Z;have X:d<wr.heap.size:=h.out.1.lt;obtain⟨V0,f⟩:∃V,V=(wr.alloc (.cells #[.bool x.1,.string x.2] 24)).drew:=⟨_,rfl⟩;have s:Below wr.heap.size wr V0:=by rw[f];exact((Below.refl _ _).alloc (Nat.le_refl _) _).drew
   have i:V0.heap[wr.heap.size]? =some (.cells #[.bool x.1,.string x.2] 24):=by rw[f];exact heap_alloc_new wr _
   obtain⟨T,y,l⟩:=(h.out.below s X).put Zdby x;rw[<-Zcwv hx]at l;have n:(Instr.mapUpdate 69 (.map (some d)) (.agg #[.bool x.1,.string x.2]) (.agg #[])).run prog V0 = .ok () { V0 with heap:=V0.heap.setIfInBounds d T }:=y;have z:Hid (V0.cell? { block:=p,off:=0 } =some (.map (some d))/\V0.cell? { block:=wr.heap.size,off:=0 } =some (.bool x.1)/\V0.cell? { block:=wr.heap.size,off:=1 } =some (.string x.2)):=by
    show _/\_;exact⟨cell_below j s Y,by simp[World.cell?,i],by simp[World.cell?,i]⟩
   have r:Hid (∀q,q≠d->({ V0 with heap:=V0.heap.setIfInBounds d T }:World).heap[q]? =V0.heap[q]?):=by
    show ∀q,_;intro q hq;simp[Array.getElem?_setIfInBounds_ne (Ne.symm hq)]
   have E:Hid (KeepBut w.heap.size d w { V0 with heap:=V0.heap.setIfInBounds d T }):=g.out.trans ((Zcxg s (Nat.le_refl _)).trans (Zdbr _ d V0 T));have F:=hid l;have HP:=hid n;clear y n l i s
   go_wp2_with fail
   refine wp_region_held_drew (S:=λV=>V.cell? { block:=p,off:=0 } =some (.map (some d))/\V.cell? { block:=wr.heap.size,off:=0 } =some (.bool x.1)/\V.cell? { block:=wr.heap.size,off:=1 } =some (.string x.2)) (by kernel_rfl) ?_ (λhHeld=>?_)
   ·rw[<-f];exact z.out
   rw[<-f];rw[<-f]at hHeld;clear f;refine tkK 0 ?_;refine tkK 1 ?_;refine tkK 2 ?_;refine tkK 3 ?_
   try simp only[Act.put,sA,sZ,sS]
   refine tkH 4 (v:=?_) ?_ ?_;rotate_left
   ·intro w A;obtain⟨Q,p1,p2⟩:=A;go_simp;try with_reducible rfl
   try simp only[Act.put,sA,sZ,sS]
   refine tkH 5 (v:=?_) ?_ ?_;rotate_left
   ·intro w A;obtain⟨Q,p1,p2⟩:=A;go_simp;try with_reducible rfl
   try simp only[Act.put,sA,sZ,sS]
   refine tkK 6 ?_
   try simp only[Act.put,sA,sZ,sS]
   refine rdH [7] ?_;refine rcH (λK hK=>?_) ?_
   ·have ad:=HP.out;go_simp
    refine hK.out _ _ ?_ (λhHeld=>?_)
    ·try dsimp only
     obtain⟨Q,p1,p2⟩:=z.out;exact⟨by rw[World.cell?_of_block (r.out _ (Ne.symm L))];exact Q,by rw[World.cell?_of_block (r.out _ (by simp;omega))];exact p1,by rw[World.cell?_of_block (r.out _ (by simp;omega))];exact p2⟩
    clear hK K
    try simp only[Act.put,sA,sZ,sS]
    refine wpAnyH_done (by kernel_rfl) ?_ _;go_wp2;obtain⟨Q,_,_⟩:=z.out;exact⟨⟨k+1,by omega,by go_num,by rw[World.cell?_of_block (r.out _ (Ne.symm L))];exact Q,F.out,E.out⟩,by simp only[intOf];omega⟩
   exact AllReadyH.nil
  ·have W:k=xs.length:=by omega
   subst W;rw[List.take_length]at h;have hl:∀D,(Builtin.len_ #[69] D #[.map (some d)]).run prog wr = .ok (.int .i64 ((Zcws u xs).length:Int)) wr:=by
    intro D;have:=h.out.1.len (P:=prog) underlying69 D;rw[Zddd]at this;exact this
   obtain⟨af,ag⟩:=Zcwu u xs;go_wp2;go_ret;exact⟨rfl,j,h.out,g.out⟩
theorem map_nil (w:World):(binOp .eql 69 (.map none) (.map none)).run prog w = .ok (.bool true) w:=by
 have a:∀d,(Op.equalIn (d+1) 69 (.map none) (.map none)).run prog w = .ok true w:=by
  intro d;simp[Op.equalIn,run_underlying underlying69,Sem.run_bind]
 have:=a 9999;simp[binOp,Op.equal,Op.maxDepth,this]
theorem Zdcg (p:Nat) (xs:List Lb) (a:Option Addr) (c:Nat) (w:World) (hc:w.heap[p]? =some (.cells #[.map none] 73)) (hr:RowL w a xs) (L:xs≠[]->∀b,a=some b->b.block≠p)
  (hn:xs.length<=1000000):
  Calls prog 56 #[.pointer (some { block:=p,off:=0 }),.slice a xs.length c] w λe w'=>e = .returned (.int .i64 ((Zcws [] xs).length:Int))/\w'.cell? { block:=p,off:=0 } =some (.map (some w.heap.size))/\LM w' w.heap.size (Zcws [] xs)/\KeepBut p w.heap.size w w':=by
 have HR:=hid hr;have ab:=hid L;have n:p<w.heap.size:=(Array.getElem?_eq_some_iff.1 hc).1;have ad:w.cell? { block:=p,off:=0 } =some (.map none):=by simp[World.cell?,hc]
 have am:=map_nil w;have aq:(Instr.makeMap 69 none).run prog w = .ok (.map (some w.heap.size)) (w.alloc (.map #[] 0)):=rfl;have ai:(w.alloc (.map #[] 0)).heap[p]? =some (.cells #[.map none] 73):=by rw[Below.heap_alloc _ _ _ n];exact hc
 have ao:w.frozen? { block:=p,off:=0 } =false:=by simp[World.frozen?,hc]
 have U:w.heap.size≠p:=by omega
 obtain⟨W1,f⟩:∃W,W=(w.setCell { block:=p,off:=0 } (.map (some w.heap.size))).alloc (.map #[] 0):=⟨_,rfl⟩;have E:(w.setCell { block:=p,off:=0 } (.map (some w.heap.size))).heap.size=w.heap.size:=by simp[World.setCell]
 have X:(w.setCell { block:=p,off:=0 } (.map (some w.heap.size))).cell? { block:=p,off:=0 } =some (.map (some w.heap.size)):=World.cell?_setCell_same' _ _ _ (by rw[ad];rfl);have Y:W1.heap[w.heap.size]? =some (.map #[] 0):=by
  have J:=heap_alloc_new (w.setCell { block:=p,off:=0 } (.map (some w.heap.size))) (.map #[] 0);rw[E]at J;rw[f];exact J
 have y:W1.cell? { block:=p,off:=0 } =some (.map (some w.heap.size)):=by
  rw[f];exact cell_below X ((Below.refl _ _).alloc (Nat.le_refl _) _) (by rw[E];exact n)
 have R:KeepBut p w.heap.size w W1:=by
  rw[f];refine⟨rfl,rfl,rfl,by simp[World.setCell],λk hk J _=>?_⟩;rw[Below.heap_alloc _ _ _ (by rw[E];exact hk)];exact Below.heap_setCell _ _ _ _ (by simpa using J)
 have HM:=hid (show LM W1 w.heap.size []from⟨⟨#[],0,Y,rfl,by simp,by simp⟩,List.nodup_nil⟩);have ag:∀G,(Builtin.len_ #[69] G #[.map (some w.heap.size)]).run prog ((w.setCell { block:=p,off:=0 } (.map (some w.heap.size))).alloc (.map #[] 0)) = .ok (.int .i64 0) ((w.setCell { block:=p,off:=0 } (.map (some w.heap.size))).alloc (.map #[] 0)):=by
  intro G;have:=HM.out.1.len (P:=prog) underlying69 G;rw[<-f];exact this
 have ac:=hid f;clear f X Y;have ar:(w.alloc (.map #[] 0)).cell? { block:=p,off:=0 } =some (.map none):=by simp[World.cell?,ai]
 clear hr L
 go_enter func56,ntmps56
 go_wp2
 go_loopw [29] (λiv wr=>∃k:Nat,k<=xs.length/\iv = .int .i64 (k:Int)/\wr.cell? { block:=p,off:=0 } =some (.map (some w.heap.size))/\LM wr w.heap.size (Zcws [] (xs.take k))/\KeepBut p w.heap.size w wr) (λiv _=>xs.length-(intOf iv).toNat)
 case atStart=>rw[<-ac.out];exact⟨0,Nat.zero_le _,rfl,y,HM.out,R⟩
 case round=>
  obtain⟨k,hk,rfl,j,T,Q⟩:=hrel;have h:=hid T;have g:=hid Q;clear T Q ag
  by_cases D:k<xs.length
  ·obtain⟨x,hx⟩:∃x,xs[k]? =some x:=⟨xs[k],List.getElem?_eq_getElem D⟩
   obtain⟨b,o,rfl,F,aa⟩:=HR.out k x hx;have M:b≠p:=ab.out (by intro h0;rw[h0]at D;simp at D) _ rfl;have al:b<w.heap.size:=World.block_lt_of_cell? _ _ F;have O:b≠w.heap.size:=by omega
   have h0:=g.out.cell F M O;have J:=g.out.cell aa M O;clear F aa;have ak:=g.out.size;have aj:p<wr.heap.size:=Nat.lt_of_lt_of_le n ak;have ah:w.heap.size<wr.heap.size:=h.out.1.lt;obtain⟨V0,d⟩:∃V,V=(wr.alloc (.cells #[.bool x.1,.string x.2] 24)).drew:=⟨_,rfl⟩;have u:Below wr.heap.size wr V0:=by rw[d];exact((Below.refl _ _).alloc (Nat.le_refl _) _).drew
   have i:V0.heap[wr.heap.size]? =some (.cells #[.bool x.1,.string x.2] 24):=by rw[d];exact heap_alloc_new wr _
   obtain⟨ob,A,l⟩:=(h.out.below u ah).put Zdby x;rw[<-Zcwv hx]at l;have r:(Instr.mapUpdate 69 (.map (some w.heap.size)) (.agg #[.bool x.1,.string x.2]) (.agg #[])).run prog V0 = .ok () { V0 with heap:=V0.heap.setIfInBounds w.heap.size ob }:=A;have B:Hid (V0.cell? { block:=p,off:=0 } =some (.map (some w.heap.size))/\V0.cell? { block:=wr.heap.size,off:=0 } =some (.bool x.1)/\V0.cell? { block:=wr.heap.size,off:=1 } =some (.string x.2)):=by
    show _/\_;exact⟨cell_below j u aj,by simp[World.cell?,i],by simp[World.cell?,i]⟩
   have s:Hid (∀q,q≠w.heap.size->({ V0 with heap:=V0.heap.setIfInBounds w.heap.size ob }:World).heap[q]? =V0.heap[q]?):=by
    show ∀q,_;intro q hq;simp[Array.getElem?_setIfInBounds_ne (Ne.symm hq)]
   have H:Hid (KeepBut p w.heap.size w { V0 with heap:=V0.heap.setIfInBounds w.heap.size ob }):=g.out.trans ((Zcxg u (Nat.le_refl _)).trans (Zdbr _ w.heap.size V0 ob));have I:=hid l;have HP:=hid r;clear A r l i u
   go_wp2_with fail
   refine wp_region_held_drew (S:=λV=>V.cell? { block:=p,off:=0 } =some (.map (some w.heap.size))/\V.cell? { block:=wr.heap.size,off:=0 } =some (.bool x.1)/\V.cell? { block:=wr.heap.size,off:=1 } =some (.string x.2)) (by kernel_rfl) ?_ (λhHeld=>?_)
   ·rw[<-d];exact B.out
   rw[<-d];rw[<-d]at hHeld;clear d;refine tkK 0 ?_;refine tkK 1 ?_;refine tkK 2 ?_;refine tkK 3 ?_
   try simp only[Act.put,sA,sZ,sS]
   refine tkH 4 (v:=?_) ?_ ?_;rotate_left
   ·intro w C;obtain⟨p0,p1,p2⟩:=C;go_simp;try with_reducible rfl
   try simp only[Act.put,sA,sZ,sS]
   refine tkH 5 (v:=?_) ?_ ?_;rotate_left
   ·intro w C;obtain⟨p0,p1,p2⟩:=C;go_simp;try with_reducible rfl
   try simp only[Act.put,sA,sZ,sS]
   refine tkK 6 ?_
   try simp only[Act.put,sA,sZ,sS]
   refine rdH [7] ?_;refine rcH (λK hK=>?_) ?_
   ·have an:=HP.out;go_simp
    refine hK.out _ _ ?_ (λhHeld=>?_)
    ·try dsimp only
     obtain⟨p0,p1,p2⟩:=B.out;exact⟨by rw[World.cell?_of_block (s.out _ (Ne.symm U))];exact p0,by rw[World.cell?_of_block (s.out _ (by simp;omega))];exact p1,by rw[World.cell?_of_block (s.out _ (by simp;omega))];exact p2⟩
    clear hK K
    try simp only[Act.put,sA,sZ,sS]
    refine wpAnyH_done (by kernel_rfl) ?_ _;go_wp2;obtain⟨p0,_,_⟩:=B.out;exact⟨⟨k+1,by omega,by go_num,by rw[World.cell?_of_block (s.out _ (Ne.symm U))];exact p0,I.out,H.out⟩,by simp only[intOf];omega⟩
   exact AllReadyH.nil
  ·have af:k=xs.length:=by omega
   subst af;rw[List.take_length]at h;have hl:∀G,(Builtin.len_ #[69] G #[.map (some w.heap.size)]).run prog wr = .ok (.int .i64 ((Zcws [] xs).length:Int)) wr:=by
    intro G;have:=h.out.1.len (P:=prog) underlying69 G;rw[Zddd]at this;exact this
   obtain⟨ap,ae⟩:=Zcwu [] xs;go_wp2;go_ret;have Z:wrap64 (((Zcws [] xs).length:Nat):Int)=((Zcws [] xs).length:Int):=IntWalk.wrap64_in _ (by simp at ae;omega);refine⟨?_,j,h.out,g.out⟩;exact congrArg (λz=>Ending.returned (Value.int .i64 z)) Z
theorem Zdci (xs:List Lb) (a:Option Addr) (c:Nat) (w:World) (A:RowL w a xs) (F:xs.length<=1000000):
  Calls prog 27 #[.slice a xs.length c] w λe w'=>e = .returned (.pointer (some { block:=w.heap.size,off:=0 }))/\w'.cell? { block:=w.heap.size,off:=0 } =some (.map (some (w.heap.size+1)))/\LM w' (w.heap.size+1) (Zcws [] xs)/\Below w.heap.size w w':=by
 obtain⟨W1,f⟩:∃W,W=w.alloc (.cells #[.map none] 73):=⟨_,rfl⟩;have B:W1.heap.size=w.heap.size+1:=by rw[f];simp
 have h:Below w.heap.size w W1:=by rw[f];exact(Below.refl _ _).alloc (Nat.le_refl _) _
 have g:W1.heap[w.heap.size]? =some (.cells #[.map none] 73):=by rw[f];exact heap_alloc_new w _
 have r:RowL W1 a xs:=λi x hx=>by
  obtain⟨b,o,s,t,D⟩:=A i x hx;have j:=World.block_lt_of_cell? _ _ t;exact⟨b,o,s,cell_below t h j,cell_below D h j⟩
 have l:xs≠[]->∀b,a=some b->b.block≠w.heap.size:=λz b E=>by
  obtain⟨x,J,rfl⟩:=List.exists_cons_of_ne_nil z;obtain⟨G,o,s,t,_⟩:=A 0 x rfl;have j:=World.block_lt_of_cell? _ _ t;rw[E]at s;rw[Option.some.inj s];exact Nat.ne_of_lt j
 have C:=hid (Zdcg w.heap.size xs a c W1 g r l F);rw[B]at C;have u:=hid h;clear g r l A h
 go_enter func27,ntmps27
 go_wp2_with fail
 rw[<-f];refine C.out.mono ?_;rintro e I ⟨rfl,y,q,n⟩;have v:=hid q;have d:=hid n;clear q n f;go_wp2;go_ret;exact⟨rfl,y,v.out,u.out.trans ⟨d.out.os,d.out.tape,d.out.output,d.out.size,λk H=>d.out.block k (by omega) (by omega) (by omega)⟩⟩
end
open Go.Lib (hid)
open Go.Proofs.Tryz
theorem Zdec {x y:Lb} {l:List Lb}:y∈addL x l↔y=x\/y∈l:=by
 unfold addL
 cases h:hasL x l with
 | true=>
  have a:=Zdba.1 h;simp only[if_true];exact⟨.inr,λb=>b.elim (λe=>e▸a) id⟩
 | false=>simp[or_comm]
theorem Zded {y:Lb} {l xs:List Lb}:y∈Zcws l xs↔y∈l\/y∈xs:=by
 unfold Zcws
 induction xs generalizing l with
 | nil=>simp
 | cons x xs a=>
  rw[List.foldl_cons,a,Zdec,List.mem_cons];constructor
  ·rintro((h|h)|h)
   ·exact .inr (.inl h)
   ·exact .inl h
   ·exact .inr (.inr h)
  ·rintro(h|h|h)
   ·exact .inl (.inr h)
   ·exact .inl (.inl h)
   ·exact .inr h
theorem Zdfb {x:Lb} {l:List Lb} (h:l.Nodup):(addL x l).Nodup:=by
 unfold addL
 cases a:hasL x l with
 | true=>simpa using h
 | false=>
  have c:x∉l:=λd=>by rw[Zdba.2 d]at a;cases a
  simp only[Bool.false_eq_true,if_false];rw[List.nodup_append];exact⟨h,by simp,λy f z b=>by simp at b;subst b;exact λe=>c (e▸f)⟩
theorem Zdfc {l xs:List Lb} (h:l.Nodup):(Zcws l xs).Nodup:=by
 unfold Zcws
 induction xs generalizing l with
 | nil=>exact h
 | cons x xs a=>exact a (Zdfb h)
abbrev Rising (l:List Lb):Prop:=l.Pairwise λa b=>ltL a b=true
theorem Rising.nodup {l:List Lb} (h:Rising l):l.Nodup:=h.imp fun {a b} h1 e=>by subst e;rw[Zddp]at h1;cases h1
theorem Zdiq {x:Lb} {l:List Lb}:x∈slb l↔x∈l:=(Zdit l).mem_iff
theorem Zdhn {l:List Lb} (h:l.Nodup):Rising (slb l):=by
 have c:Slb (slb l):=Zdiu l;have d:(slb l).Nodup:=(Zdit l).nodup_iff.2 h;exact(c.and d).imp fun {a b} h3=>Zddq h3.1 h3.2
theorem Zdhk:∀ {a b:List Lb},Rising a->Rising b->(∀x,x∈a↔x∈b)->a=b
 | [],[],_,_,_=>rfl
 | [],y::ys,_,_,h=>absurd ((h y).2 (by simp)) (by simp)
 | x::xs,[],_,_,h=>absurd ((h x).1 (by simp)) (by simp)
 | x::xs,y::ys,ha,hb,h=>by
  have c:=List.pairwise_cons.1 ha;have d:=List.pairwise_cons.1 hb;have i:x=y:=by
   rcases List.mem_cons.1 ((h x).1 (by simp))with e|f
   ·exact e
   ·rcases List.mem_cons.1 ((h y).2 (by simp))with e|j
    ·exact e.symm
    ·have k:=d.1 x f
     have l:=c.1 y j;have:=Zddr k l;rw[Zddp]at this;cases this
  subst i;rw[Zdhk c.2 d.2 λz=>?_];constructor
  ·intro g
   rcases List.mem_cons.1 ((h z).1 (by simp[g]))with e|f
   ·subst e;have:=c.1 _ g;rw[Zddp]at this;cases this
   ·exact f
  ·intro g
   rcases List.mem_cons.1 ((h z).2 (by simp[g]))with e|f
   ·subst e;have:=d.1 _ g;rw[Zddp]at this;cases this
   ·exact f
def insL (x:Lb):List Lb->List Lb
 | []=>[x]
 | y::ys=>if ltL y x then y::insL x ys else if y=x then y::ys else x::y::ys
theorem Zdee {x z:Lb}:∀ {l:List Lb},z∈insL x l↔z=x\/z∈l
 | []=>by simp[insL]
 | y::ys=>by
  unfold insL;split
  ·rw[List.mem_cons,Zdee,List.mem_cons]
   constructor
   ·rintro(h|h|h)
    ·exact .inr (.inl h)
    ·exact .inl h
    ·exact .inr (.inr h)
   ·rintro(h|h|h)
    ·exact .inr (.inl h)
    ·exact .inl h
    ·exact .inr (.inr h)
  ·split
   ·rename_i a
    subst a;simp
   ·simp
theorem Zdhl {x:Lb}:∀ {l:List Lb},Rising l->Rising (insL x l)
 | [],_=>List.pairwise_singleton _ _
 | y::ys,h=>by
  have c:=List.pairwise_cons.1 h;unfold insL;split
  ·rename_i d
   refine List.pairwise_cons.2 ⟨λz a=>?_,Zdhl c.2⟩
   rcases Zdee.1 a with rfl|a
   ·exact d
   ·exact c.1 z a
  ·rename_i d
   split
   ·exact h
   ·rename_i f
    have b:ltL x y=true:=Zddq (by unfold leL;simpa using d) (λe=>f e.symm);refine List.pairwise_cons.2 ⟨λz a=>?_,h⟩
    rcases List.mem_cons.1 a with rfl|a
    ·exact b
    ·exact Zddr b (c.1 z a)
def setL (xs:List Lb):List Lb:=xs.foldl (λl x=>insL x l) []
theorem Zdif (xs:List Lb):∀l:List Lb,Rising l->Rising (xs.foldl (λl x=>insL x l) l)/\∀z,z∈xs.foldl (λl x=>insL x l) l↔z∈l\/z∈xs:=by
 induction xs with
 | nil=>exact λl h=>⟨h,λz=>by simp⟩
 | cons x xs c=>
  intro l h;obtain⟨a,b⟩:=c (insL x l) (Zdhl h);refine⟨a,λz=>?_⟩;rw[List.foldl_cons,b,Zdee,List.mem_cons];constructor
  ·rintro((h|h)|h)
   ·exact .inr (.inl h)
   ·exact .inl h
   ·exact .inr (.inr h)
  ·rintro(h|h|h)
   ·exact .inl (.inr h)
   ·exact .inl (.inl h)
   ·exact .inr h
theorem Zdhm (xs:List Lb):Rising (setL xs):=(Zdif xs [] List.Pairwise.nil).1
theorem Zdef {xs:List Lb} {z:Lb}:z∈setL xs↔z∈xs:=by
 have h:=(Zdif xs [] List.Pairwise.nil).2 z;unfold setL;rw[h];simp
theorem Zdio (xs:List Lb):slb (Zcws [] xs)=setL xs:=
 Zdhk (Zdhn (Zdfc List.nodup_nil)) (Zdhm xs) λz=>by rw[Zdiq,Zded,Zdef];simp
open Go.RowKit Go.Shelf
theorem Zdcr {xs:List Lb} {i:Nat} {x:Lb} (h:xs[i]? =some x):(lcs xs)[i*2]? =some (.bool x.1)/\(lcs xs)[i*2+1]? =some (.string x.2):=by
 induction xs generalizing i with
 | nil=>simp at h
 | cons y c b=>
  rw[Zdcq]
  cases i with
  | zero=>
   simp at h;subst h;exact⟨rfl,rfl⟩
  | succ i=>
   have a:=b (i:=i) (by simpa using h);rw[show(i+1)*2=i*2+1+1 by omega];simpa using a
theorem Zdhp {w:World} {base n:Nat} {T:TypeId} {v:Value} {xs:List Lb} (h:w.ownsRow base T 2 v n (lcs xs)):
  ∃a c,v = .slice a xs.length c/\RowL w a xs/\∀b,a=some b->base<=b.block/\b.block<w.heap.size:=by
 obtain⟨o,h⟩:=h;have p:n=xs.length:=by rw[Zdcs]at o;omega
 subst p
 rcases h with⟨rfl,j⟩|⟨g,d,l,rfl,m,e,_,_,_,k⟩
 ·refine⟨none,0,by rw[j],λi x hx=>?_,λb f=>by cases f⟩
  have:xs = []:=List.length_eq_zero_iff.1 j;subst this;simp at hx
 ·refine⟨some { block:=g,off:=0 },d,rfl,λi x hx=>⟨g,0,rfl,?_,?_⟩,λb f=>?_⟩
  ·have:=(Zdcr hx).1
   rw[<-k,List.getElem?_take]at this;split at this
   ·simpa[World.cell?,e]using this
   ·cases this
  ·have:=(Zdcr hx).2
   rw[<-k,List.getElem?_take]at this;split at this
   ·simpa[World.cell?,e]using this
   ·cases this
  ·cases f
   exact⟨m,(Array.getElem?_eq_some_iff.1 e).1⟩
theorem RowL.below {w w':World} {a:Option Addr} {xs:List Lb} {B:Nat} (h:RowL w a xs) (e:Below B w w') (j:w.heap.size<=B):RowL w' a xs:=λi x hx=>by
 obtain⟨b,o,f,d,g⟩:=h i x hx;have c:=Nat.lt_of_lt_of_le (World.block_lt_of_cell? _ _ d) j;exact⟨b,o,f,cell_below d e c,cell_below g e c⟩
def SetM (w:World) (p:Nat) (ls:List Lb):Prop:=∃b,w.cell? { block:=p,off:=0 } =some (.map (some b))/\b≠p/\LM w b ls
theorem SetM.at {w:World} {p:Nat} {ls:List Lb} (h:SetM w p ls):SetAt w p ls:=by
 obtain⟨b,a,c,d⟩:=h;exact⟨some b,a,.inr ⟨b,rfl,c,d⟩⟩
theorem SetM.lt {w:World} {p:Nat} {a:List Lb} (h:SetM w p a):p<w.heap.size:=h.at.lt
theorem SetM.below {w w':World} {p B:Nat} {ls:List Lb} (h:SetM w p ls) (e:Below B w w') (d:w.heap.size<=B):SetM w' p ls:=by
 have a:=h.lt;obtain⟨b,g,f,c⟩:=h;exact⟨b,cell_below g e (Nat.lt_of_lt_of_le a d),f,c.below e (Nat.lt_of_lt_of_le c.1.lt d)⟩
theorem Zdch (p:Nat) (a:List Lb) (w:World) (k:SetM w p a) (i:a.length<=1000000):
  Calls prog 35 #[.pointer (some { block:=p,off:=0 })] w λe w'=>∃v,e = .returned v/\w'.ownsRow w.heap.size 24 2 v (slb a).length (lcs (slb a))/\Below w.heap.size w w':=by
 obtain⟨b,f,_,h⟩:=k;refine(Zcxe { block:=p,off:=0 } b a w f h.1 i).mono ?_;rintro e w' ⟨g,c,rfl,j,d⟩;exact⟨_,rfl,by rw[(Zdit a).length_eq];exact j,d⟩
def Zddk (xs:List Lb):List (List Value):=xs.map lc
theorem Zddm (xs:List Lb):(Zddk xs).length=xs.length:=List.length_map _
theorem Zddo (xs:List Lb):∀r∈Zddk xs,r.length=2:=by
 intro r a;obtain⟨x,_,rfl⟩:=List.mem_map.1 a;rfl
theorem Zddn (xs:List Lb):∀r∈Zddk xs,∀u∈r,u.oneCell'=true:=by
 intro r a u b;obtain⟨x,_,rfl⟩:=List.mem_map.1 a;exact Zdcm x u b
theorem Zddl (xs ys:List Lb):Zddk xs++Zddk ys=Zddk (xs++ys):=(List.map_append ..).symm
theorem Zdkx (xs:List Lb) (k:Nat):(Zddk xs).take k=Zddk (xs.take k):=(List.map_take ..).symm
theorem Zdkw (xs:List Lb) (k:Nat):(Zddk xs).drop k=Zddk (xs.drop k):=(List.map_drop ..).symm
theorem RowL.isRow {w:World} {a:Option Addr} {xs:List Lb} {c:Nat} (h:RowL w a xs) (q:xs.length<=c) (s:c<=maxLen):IsRow w (.slice a xs.length c) 2 (Zddk xs):=by
 refine⟨a,c,by rw[Zddm],by rw[Zddm];exact q,s,λf=>?_⟩;obtain⟨t,l⟩:∃x,xs[0]? =some x:=by
  cases xs with
  | nil=>exact absurd rfl f
  | cons x xs=>exact⟨x,rfl⟩
 obtain⟨b,o,k,m,_⟩:=h 0 t l;refine⟨b,o,k,World.block_lt_of_cell? _ _ m,λj r g i u e=>?_⟩;unfold Zddk at g;rw[List.getElem?_map]at g;obtain⟨x,hx,rfl⟩:=Option.map_eq_some_iff.1 g;obtain⟨v,y,d,n,p⟩:=h j x hx;rw[k]at d
 cases d
 match i,e with
 | 0,e=>cases e;exact n
 | 1,e=>cases e;exact p
theorem Zcxj (x y:Lb) (w:World):(binOp .eql 24 (.agg #[.bool x.1,.string x.2]) (.agg #[.bool y.1,.string y.2])).run prog w = .ok (.bool (decide (x=y))) w:=by
 have:=Zcyl x y w;unfold lv at this;simp[binOp,this]
theorem Zdkj (x y:Lb) (w:World):(binOp .neq 24 (.agg #[.bool x.1,.string x.2]) (.agg #[.bool y.1,.string y.2])).run prog w = .ok (.bool (!decide (x=y))) w:=by
 have:=Zcyl x y w;unfold lv at this;simp[binOp,this]
theorem Zdlf (x y:Lb) (w:World):
  Calls prog 90 #[lv x,lv y] w λe w'=>e = .returned (.bool (ltL x y))/\w'=(w.alloc (.cells (lc x).toArray 24)).alloc (.cells (lc y).toArray 24):=by
 obtain⟨a,s⟩:=x;obtain⟨b,t⟩:=y;unfold lv lc ltL;have c:∀s t:ByteArray,Op.bytesLess s.toList t.toList=decide (s.data.toList<t.data.toList):=λs t=>by rw[ByteArray.toList_eq,ByteArray.toList_eq,bytesLess_eq]
 cases a<;>cases b<;>simp only[Bool.false_eq_true,Bool.true_eq_false,if_true,if_false,<-c]
 all_goals
  clear c
  go_enter func90,ntmps90
  go_wp2;go_ret;exact⟨rfl,rfl⟩
theorem rbEq (xs ys:List Lb) (a b:Option Addr) (c d:Nat) (w:World) (P:RowL w a xs) (Q:RowL w b ys) (hn:xs.length<=1000000):
  Calls prog 11 #[.slice a xs.length c,.slice b ys.length d] w λe w'=>e = .returned (.bool (decide (xs=ys)))/\Below w.heap.size w w':=by
 have K:Hid (∀W,Below w.heap.size w W->RowL W a xs):=hid λW D=>P.below D (Nat.le_refl _)
 have L:Hid (∀W,Below w.heap.size w W->RowL W b ys):=hid λW D=>Q.below D (Nat.le_refl _)
 clear P Q
 by_cases n:xs.length=ys.length
 ·have m:(xs.length:Int)=(ys.length:Int):=by omega
  have i:=hid n;clear n
  go_enter func11,ntmps11
  go_wp2
  go_loopw [5] (λJ wr=>∃k:Nat,k<=xs.length/\J = .int .i64 (k:Int)/\xs.take k=ys.take k/\Below w.heap.size w wr) (λJ _=>xs.length-(intOf J).toNat)
  case atStart=>exact⟨0,Nat.zero_le _,rfl,by simp,Below.refl _ _⟩
  case round=>
   obtain⟨k,hk,rfl,R,l⟩:=hrel;have M:=hid R;have f:=hid l;clear R l
   by_cases E:k<xs.length
   ·obtain⟨x,hx⟩:∃x,xs[k]? =some x:=⟨xs[k],List.getElem?_eq_getElem E⟩
    obtain⟨y,I⟩:∃y,ys[k]? =some y:=⟨ys[k]'(by have:=i.out;omega),List.getElem?_eq_getElem _⟩;have T:k<ys.length:=by have:=i.out;omega
    have hi:(k:Int)<(xs.length:Int):=by omega
    have aa:(k:Int)<(ys.length:Int):=by omega
    have ab:(0:Int)<=(k:Int):=by omega
    have Y:=K.out wr f.out k x hx;have Z:=L.out wr f.out k y I;obtain⟨p,o,hp,_,_⟩:=Y;obtain⟨q,u,hq,_,_⟩:=Z;subst hp;subst hq;have r:=hid hx;have s:=hid I;have F:=λw=>Zdkj x y w
    obtain⟨t,G⟩:∃t,(!decide (x=y))=t:=⟨_,rfl⟩;rw[G]at F;have O:=hid G;clear hx I G m
    go_wp2_with fail
    refine wp_region_held_drew (S:=λV=>V.cell? { block:=p,off:=o+k*2 } =some (.bool x.1)/\V.cell? { block:=p,off:=o+k*2+1 } =some (.string x.2)/\V.cell? { block:=q,off:=u+k*2 } =some (.bool y.1)/\V.cell? { block:=q,off:=u+k*2+1 } =some (.string y.2)) (by kernel_rfl) ?_ (λhHeld=>?_)
    ·obtain⟨p1,o1,U,z,A⟩:=K.out _ f.out.drew k x r.out;obtain⟨p2,o2,X,B,C⟩:=L.out _ f.out.drew k y s.out;cases U;cases X;exact⟨z,A,B,C⟩
    refine tkK 0 ?_;refine tkK 1 ?_;refine tkK 2 ?_
    try simp only[Act.put,sA,sZ,sS]
    refine tkH 3 (v:=?_) ?_ ?_;rotate_left
    ·intro w j;obtain⟨z,A,B,C⟩:=j;go_simp;try with_reducible rfl
    try simp only[Act.put,sA,sZ,sS]
    refine tkK 4 ?_;refine tkK 5 ?_;refine tkK 6 ?_
    try simp only[Act.put,sA,sZ,sS]
    refine tkH 7 (v:=?_) ?_ ?_;rotate_left
    ·intro w j;obtain⟨z,A,B,C⟩:=j;go_simp;try with_reducible rfl
    try simp only[Act.put,sA,sZ,sS]
    refine tkK 8 ?_
    try simp only[Act.put,sA,sZ,sS]
    refine wpAnyH_done (by kernel_rfl) ?_ _
    cases t
    ·have g:Hid (xs.take (k+1)=ys.take (k+1)):=by
      show _=_;have H:x=y:=by have:=O.out;simpa using this
      rw[List.take_add_one,List.take_add_one,M.out,r.out,s.out,H]
     go_wp2;go_roundw
     case rel=>exact⟨k+1,by omega,by go_num,g.out,f.out.drew⟩
     case measure=>simp only[intOf];omega
    ·have g:Hid (xs≠ys):=by
      show _≠_;rintro rfl;have h:=r.out.symm.trans s.out
      cases h
      have:=O.out;simp at this
     go_wp2;go_ret;rw[decide_eq_false g.out];exact⟨rfl,f.out.drew⟩
   ·obtain rfl:k=xs.length:=by omega
    have g:Hid (xs=ys):=by
     show _=_;have:=M.out
     rwa [List.take_length,i.out,List.take_length]at this
    go_wp2;go_ret;rw[decide_eq_true g.out];exact⟨rfl,f.out⟩
 ·have m:¬(xs.length:Int)=(ys.length:Int):=by omega
  have g:Hid (xs≠ys):=hid λe=>n (by rw[e])
  clear n
  go_enter func11,ntmps11
  go_wp2;go_ret;rw[decide_eq_false g.out];exact⟨rfl,Below.refl _ _⟩
def Zczd (l:List Lb) (x:Lb):Int:=match l.findIdx? λy=>decide (y=x)with
 | some i=>(i:Int)
 | none=> -1
theorem Zcze {l:List Lb} {x:Lb} {k:Nat} (h:∀j,j<k->l[j]? ≠some x) (c:l[k]? =some x):Zczd l x=(k:Int):=by
 have e:(l.findIdx? λy=>decide (y=x))=some k:=by
  obtain⟨a,hx⟩:=List.getElem?_eq_some_iff.1 c;rw[List.findIdx?_eq_some_iff_getElem];refine⟨a,by simp[hx],λj b=>?_⟩;have:=h j b;rw[List.getElem?_eq_getElem (by omega)]at this;simp only[decide_eq_true_eq];exact λe=>this (by rw[e])
 unfold Zczd;rw[e]
theorem Zczg {l:List Lb} {x:Lb} (h:∀j,j<l.length->l[j]? ≠some x):Zczd l x = -1:=by
 have e:(l.findIdx? λy=>decide (y=x))=none:=by
  rw[List.findIdx?_eq_none_iff];intro y b;obtain⟨j,a,rfl⟩:=List.getElem_of_mem b;have:=h j a;rw[List.getElem?_eq_getElem a]at this;simp only[decide_eq_false_iff_not];exact λe=>this (by rw[e])
 unfold Zczd;rw[e]
theorem Zczf {l:List Lb} {x:Lb}:(0<=Zczd l x)↔x∈l:=by
 unfold Zczd
 cases e:(l.findIdx? λy=>decide (y=x))with
 | none=>
  rw[List.findIdx?_eq_none_iff]at e;simp only;refine⟨λh=>absurd h (by omega),λh=>?_⟩;have:=e x h;simp at this
 | some i=>
  rw[List.findIdx?_eq_some_iff_getElem]at e;obtain⟨b,a,_⟩:=e;simp only[decide_eq_true_eq]at a;simp only;exact⟨λ_=>by rw[<-a];exact List.getElem_mem b,λ_=>by omega⟩
theorem Zdgi (xs:List Lb) (x:Lb) (a:Option Addr) (c:Nat) (w:World) (M:RowL w a xs) (Z:xs.length<=1000000):
  Calls prog 62 #[.slice a xs.length c,lv x] w λe w'=>e = .returned (.int .i64 (Zczd xs x))/\Below w.heap.size w w':=by
 have K:Hid (∀W,Below w.heap.size w W->RowL W a xs):=hid λW E=>M.below E (Nat.le_refl _)
 clear M;unfold lv
 go_enter func62,ntmps62
 go_wp2;obtain⟨W0,b⟩:∃V,V=w.alloc (.cells #[.bool x.1,.string x.2] 24):=⟨_,rfl⟩;have n:Below w.heap.size w W0:=by rw[b];exact(Below.refl _ _).alloc (Nat.le_refl _) _
 have q:W0.heap[w.heap.size]? =some (.cells #[.bool x.1,.string x.2] 24):=by rw[b];exact heap_alloc_new w _
 have u:Hid (W0.heap.size=w.heap.size+1):=by show _=_;rw[b];simp
 rw[<-b];have i:=hid n;have r:Hid (∀W,Below W0.heap.size W0 W->W.cell? { block:=w.heap.size,off:=0 } =some (.bool x.1)/\W.cell? { block:=w.heap.size,off:=1 } =some (.string x.2)):=by
  show ∀W,_;intro W E;have h:=(E.block w.heap.size (by rw[u.out];omega)).trans q;simp[World.cell?,h]
 clear b n q
 go_loopw [5] (λJ wr=>∃k:Nat,k<=xs.length/\J = .int .i64 (k:Int)/\(∀j,j<k->xs[j]? ≠some x)/\Below W0.heap.size W0 wr) (λJ _=>xs.length-(intOf J).toNat)
 case atStart=>exact⟨0,Nat.zero_le _,rfl,by intro j R;omega,Below.refl _ _⟩
 case round=>
  obtain⟨k,Y,rfl,O,g⟩:=hrel;have s:=hid O;have l:=hid g;have d:=hid (i.out.trans (g.mono i.out.size));clear O g
  by_cases F:k<xs.length
  ·obtain⟨y,I⟩:∃y,xs[k]? =some y:=⟨xs[k],List.getElem?_eq_getElem F⟩
   have X:(k:Int)<(xs.length:Int):=by omega
   have T:(0:Int)<=(k:Int):=by omega
   have Q:=K.out wr d.out k y I;obtain⟨p,o,U,_,_⟩:=Q;subst U;have z:=hid I;have G:=λw=>Zcxj y x w
   obtain⟨t,H⟩:∃t,decide (y=x)=t:=⟨_,rfl⟩;rw[H]at G;have L:=hid H;clear I H
   go_wp2_with fail
   refine wp_region_held_drew (S:=λV=>V.cell? { block:=p,off:=o+k*2 } =some (.bool y.1)/\V.cell? { block:=p,off:=o+k*2+1 } =some (.string y.2)/\V.cell? { block:=w.heap.size,off:=0 } =some (.bool x.1)/\V.cell? { block:=w.heap.size,off:=1 } =some (.string x.2)) (by kernel_rfl) ?_ (λhHeld=>?_)
   ·obtain⟨p1,o1,P,A,B⟩:=K.out _ d.out.drew k y z.out;obtain⟨C,D⟩:=r.out _ l.out.drew;cases P;exact⟨A,B,C,D⟩
   refine tkK 0 ?_;refine tkK 1 ?_;refine tkK 2 ?_
   try simp only[Act.put,sA,sZ,sS]
   refine tkH 3 (v:=?_) ?_ ?_;rotate_left
   ·intro w f;obtain⟨A,B,C,D⟩:=f;go_simp;try with_reducible rfl
   try simp only[Act.put,sA,sZ,sS]
   refine tkH 4 (v:=?_) ?_ ?_;rotate_left
   ·intro w f;obtain⟨A,B,C,D⟩:=f;go_simp;try with_reducible rfl
   try simp only[Act.put,sA,sZ,sS]
   refine tkK 5 ?_
   try simp only[Act.put,sA,sZ,sS]
   refine wpAnyH_done (by kernel_rfl) ?_ _
   cases t
   ·have m:Hid (∀j,j<k+1->xs[j]? ≠some x):=by
     show ∀j,_;intro j R
     rcases Nat.lt_or_ge j k with h|h
     ·exact s.out j h
     ·obtain rfl:j=k:=by omega
      rw[z.out];intro e
      cases e
      have:=L.out;simp at this
    go_wp2;go_roundw
    case rel=>exact⟨k+1,by omega,by go_num,m.out,l.out.drew⟩
    case measure=>simp only[intOf];omega
   ·have m:Hid (Zczd xs x=(k:Int)):=by
     show _=_;have e:y=x:=by have:=L.out;simpa using this
     exact Zcze s.out (by rw[z.out,e])
    go_wp2;go_ret;rw[m.out];exact⟨rfl,d.out.drew⟩
  ·obtain rfl:k=xs.length:=by omega
   have m:Hid (Zczd xs x = -1):=hid (Zczg s.out);go_wp2;go_ret;rw[m.out];exact⟨rfl,d.out⟩
