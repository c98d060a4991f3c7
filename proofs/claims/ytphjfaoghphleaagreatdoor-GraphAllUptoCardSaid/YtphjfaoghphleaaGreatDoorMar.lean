import Derived.Test.YtphjfaoghphleaaGreatDoorMaq
set_option maxRecDepth 100000
set_option maxHeartbeats 8000000
namespace Go.Proofs.YtphjfaoghphleaaGreatDoor
open Go.Lib (hid)
open Go.Proofs.Tryz Go.RowKit Go.Shelf
theorem Zdko {w w':World} {o:Obj} (a:(w.alloc o).drew.grownBy w' none):w'.heap[w.heap.size]? =some o:=(a.block w.heap.size (by show _<(w.alloc o).heap.size;simp) (by simp)).trans (alloc_at w o)
abbrev OwnL (B:Nat) (w:World) (v:Value) (xs:List Lb):Prop:=w.ownsRow B 24 2 v xs.length (lcs xs)
theorem Zdfs (B:Nat) (w:World):OwnL B w (.slice none 0 0) []:=World.ownsRow_nil _ _ _ _
theorem Zdfq {B:Nat} {w w':World} {v:Value} {xs:List Lb} (h:OwnL B w v xs) (a:Below w.heap.size w w'):OwnL B w' v xs:=World.ownsRow.kept (row:=none) h ⟨a.os,a.tape,a.output,a.size,λk b _=>a.block k b⟩ (by cases Value.ownBlock _<;>simp)
theorem Zdfu {B:Nat} {w:World} {v:Value} {xs:List Lb} (h:OwnL B w v xs):∃a c,v = .slice a xs.length c/\xs.length<=c/\c<=maxLen/\RowL w a xs/\∀b,a=some b->B<=b.block/\b.block<w.heap.size:=by
 obtain⟨a,c,rfl,g,f⟩:=Zdhp h;obtain⟨i,j,q,_,d,e⟩:=Zbea h
 cases q
 exact⟨a,c,rfl,d,e,g,f⟩
theorem Zdhq {w:World} {g:Nat} {x:Lb} {t:TypeId} (h:w.heap[g]? =some (.cells #[.bool x.1,.string x.2] t)):IsRow w (.slice (some ⟨g,0,none⟩) 1 1) 2 (Zddk [x]):=by
 refine Zty (Array.getElem?_eq_some_iff.1 h).1 λi u a=>?_
 match i,a with
 | 0,a=>cases a;simp[World.cell?,h]
 | 1,a=>cases a;simp[World.cell?,h]
theorem Zdll {w:World} {n:Array Oper} {o:Oper} {a:Act} {K:Act->World->Prop} {Q:Exit->Act->World->Prop} {E:Prop} (j:o.guard=none) (s x:Operand) (C:o.op = .call { callee:= .builtin .append,args:=#[s,x],argTypes:=#[35,35] })
  (B:Nat) (v p:Value) (d e:List Lb) (D:a.eval s=v) (hx:a.eval x=p) (f:OwnL B w v d) (z:IsRow w p 2 (Zddk e)) (r:d.length+e.length<=1000000000) (y:B<=w.heap.size)
  (h:∀g i,OwnL B i g (d++e)->w.grownBy i v.ownBlock->(∀b,g.ownBlock=some b->v.ownBlock=some b\/w.heap.size<=b)->K (a.put o.dst g) i):
  if Region.wanted o (yielded n a.tmps)=true then Oper.wp prog o a w K Q else E:=by
 obtain⟨F,A,k,l,m⟩:=info_parts Zdbm;have c:w.ownsRow B 24 2 v (Zddk d).length (Zddk d).flatten:=by rw[Zddm];exact f
 refine Zboc j s x 35 C 24 F (.agg #[.bool false,.string ⟨#[]⟩]) 2 24 underlying35 A k l m rfl (by decide) B v p (Zddk d) (Zddk e) D hx c z (Zddo e) (Zddn e) (by rw[Zddm,Zddm];exact r) (by decide) y ?_;intro g i q t u;rw[Zddl,Zddm]at q;exact h g i q t u
def posL (x:Lb) (l:List Lb):Nat:=(l.takeWhile λy=>ltL y x).length
theorem Zdld (x:Lb) (l:List Lb):posL x l<=l.length:=Zdlm _ l
theorem Zdkr (x:Lb):∀l:List Lb,insL x l=if l[posL x l]? =some x then l else l.take (posL x l) ++ [x]++l.drop (posL x l)
 | []=>by simp[insL,posL]
 | y::ys=>by
  have b:=Zdkr x ys;unfold insL
  cases h:ltL y x with
  | true=>
   have a:posL x (y::ys)=posL x ys+1:=by unfold posL;rw[List.takeWhile_cons,if_pos h];rfl
   rw[if_pos rfl,b,a,List.getElem?_cons_succ];split
   ·rfl
   ·rw[List.take_succ_cons,List.drop_succ_cons];rfl
  | false=>
   have a:posL x (y::ys)=0:=by unfold posL;rw[List.takeWhile_cons,if_neg (by rw[h];decide)];rfl
   rw[if_neg (by decide),a,List.getElem?_cons_zero]
   by_cases e:y=x
   ·rw[if_pos e,if_pos (by rw[e])]
   ·rw[if_neg e,if_neg (by simpa using e)];rfl
theorem Zdle (l:List Lb) (x:Lb) (v:Value) (B:Nat) (w:World) (L:OwnL B w v l) (hB:B<=w.heap.size) (hn:l.length<=1000):
  Calls prog 54 #[v,lv x] w λe w'=>∃v',e = .returned v'/\OwnL B w' v' (insL x l)/\Below w.heap.size w w':=by
 obtain⟨a,c,rfl,hc,ar,hr,_⟩:=Zdfu L;obtain⟨i0,a5,_,a6,_⟩:=info_parts Zdbm;have ax:=hid L;have HA:Hid (∀W,Below w.heap.size w W->RowL W a l):=hid λW hW=>hr.below hW (Nat.le_refl _)
 have aj:=hid (hr.isRow hc ar);have ag:=hid hB;clear hr L hB;obtain⟨p,hp⟩:∃p,posL x l=p:=⟨_,rfl⟩;have av:p<=l.length:=by rw[<-hp];exact Zdld x l
 have HP:=hid hp;have ai:=hid (Zdkr x l);have au:p<=c:=by omega
 have D:=hid av;have ay:=hid au;unfold maxLen at ar;unfold lv;clear hp
 go_enter func54,ntmps54
 go_upto_block 0 with fail
 obtain⟨W0,G⟩:∃V,V=w.alloc (.cells #[.bool x.1,.string x.2] 24):=⟨_,rfl⟩;have ao:Below w.heap.size w W0:=by rw[G];exact(Below.refl _ _).alloc (Nat.le_refl _) _
 have aq:W0.heap[w.heap.size]? =some (.cells #[.bool x.1,.string x.2] 24):=by rw[G];exact heap_alloc_new w _
 have a1:Hid (W0.heap.size=w.heap.size+1):=by show _=_;rw[G];simp
 rw[<-G];have af:=hid ao;have T:Hid (∀W,Below W0.heap.size W0 W->W.cell? { block:=w.heap.size,off:=0 } =some (.bool x.1)/\W.cell? { block:=w.heap.size,off:=1 } =some (.string x.2)):=by
  show ∀W,_;intro W hW;have h:=(hW.block w.heap.size (by rw[a1.out];omega)).trans aq;simp[World.cell?,h]
 have HF:Hid (∀W,Below W0.heap.size W0 W->Below w.heap.size w W):=hid λW hW=>af.out.trans (hW.mono af.out.size)
 clear G ao aq av au
 go_cut [5] (λt wx=>t = .int .i64 (p:Int)/\Below W0.heap.size W0 wx)
 case first=>
  go_wp2_with fail
  go_loopw [5] (λt wq=>∃j:Nat,j<=p/\t = .int .i64 (j:Int)/\Below W0.heap.size W0 wq) (λt _=>l.length-(intOf t).toNat)
  case atStart=>exact⟨0,Nat.zero_le _,rfl,Below.refl _ _⟩
  case round=>
   obtain⟨j,hj,rfl,ap⟩:=hrel;have R:=hid ap;clear ap;have a8:(0:Int)<=(j:Int):=by omega
   by_cases q:j<l.length
   ·obtain⟨y,Q⟩:∃y,l[j]? =some y:=⟨l[j],List.getElem?_eq_getElem q⟩
    have ad:(j:Int)<(l.length:Int):=by omega
    have hd:decide (j<l.length)=true:=by simpa using q
    obtain⟨b,o,ae,_,_⟩:=HA.out wr (HF.out _ R.out) j y Q;subst ae;have HY:=hid Q;obtain⟨t,ht⟩:∃t,ltL y x=t:=⟨_,rfl⟩;have P:=hid ht;clear Q ht
    go_wp2_with fail
    refine wp_region_held_drew (S:=λV=>Below W0.heap.size W0 V) (by kernel_rfl) ?_ (λhHeld=>?_)
    ·exact R.out.drew
    refine tkK 0 ?_;refine tkK 1 ?_;refine tkK 2 ?_;refine tkK 3 ?_;refine tkK 4 ?_;refine tkK 5 ?_;refine tkK 6 ?_;refine tkK 7 ?_
    try simp only[Act.put,sA,sZ,sS]
    refine tkH 8 (v:=?_) ?_ ?_;rotate_left
    ·intro w i;obtain⟨p1,o1,e1,c0,c1⟩:=HA.out _ (HF.out _ i) j y HY.out;cases e1;go_simp;try with_reducible rfl
    try simp only[Act.put,sA,sZ,sS]
    refine tkH 9 (v:=?_) ?_ ?_;rotate_left
    ·intro w i;obtain⟨c2,c3⟩:=T.out _ i;go_simp;try with_reducible rfl
    try simp only[Act.put,sA,sZ,sS]
    refine rdH [10] ?_;refine rcH (λK g=>?_) ?_
    ·go_simp;have CL:=Zdlf y x;unfold lv at CL;refine(CL _).mono ?_;clear CL;rintro e' V1 ⟨rfl,al⟩;rw[P.out];have a3:Below W0.heap.size W0 V1:=al.symm▸((hHeld.alloc hHeld.size _).alloc (hHeld.alloc hHeld.size _).size _);clear al;dsimp only
     refine g.out _ _ ?_ (λhHeld=>?_)
     ·try dsimp only
      exact a3
     clear g K
     try simp only[Act.put,sA,sZ,sS]
     refine tkK 11 ?_
     try simp only[Act.put,sA,sZ,sS]
     refine wpAnyH_done (by kernel_rfl) ?_ _
     cases t
     ·have U:Hid (j=p):=by
       show j=p;have:=Zdlo (λy=>ltL y x) l j y (by show j<=posL x l;rw[HP.out];exact hj) HY.out P.out;rw[<-HP.out];exact this.symm
      go_wp2_with fail
      go_meet;exact⟨by rw[U.out],hHeld⟩
     ·have U:Hid (j+1<=p):=by
       show j+1<=p;have:=Zdln (λy=>ltL y x) l j y (by show j<=posL x l;rw[HP.out];exact hj) HY.out P.out;rw[<-HP.out];exact this
      go_wp2;go_roundw
      case rel=>exact⟨j+1,U.out,by go_num,hHeld⟩
      case measure=>simp only[intOf];omega
    exact AllReadyH.nil
   ·have hd:decide (j<l.length)=false:=by simpa using q
    have ad:¬(j:Int)<(l.length:Int):=by omega
    have U:Hid (j=p):=by show j=p;have:=D.out;omega
    go_wp2_with fail
    refine wp_region_held_drew (S:=λV=>Below W0.heap.size W0 V) (by kernel_rfl) ?_ (λhHeld=>?_)
    ·exact R.out.drew
    refine tkK 0 ?_;refine tkK 1 ?_;refine tkK 2 ?_;refine tkK 3 ?_;refine tkK 4 ?_
    try simp only[Act.put,sA,sZ,sS]
    refine tuH 5 ?_
    try simp only[Act.put,sA,sZ,sS]
    refine tuH 6 ?_
    try simp only[Act.put,sA,sZ,sS]
    refine tuH 7 ?_
    try simp only[Act.put,sA,sZ,sS]
    refine tuH 8 ?_
    try simp only[Act.put,sA,sZ,sS]
    refine tuH 9 ?_
    try simp only[Act.put,sA,sZ,sS]
    refine rdH [10] ?_;refine rcH (λK g=>?_) ?_
    ·rw[if_neg];rotate_left;exact Bool.eq_false_iff.1 (by rfl)
     refine g.out _ _ ?_ (λhHeld=>?_)
     ·try dsimp only
      assumption
     clear g K
     try simp only[Act.put,sA,sZ,sS]
     refine tkK 11 ?_
     try simp only[Act.put,sA,sZ,sS]
     refine wpAnyH_done (by kernel_rfl) ?_ _
     go_wp2_with fail
     go_meet;exact⟨by rw[U.out],hHeld⟩
    exact AllReadyH.nil
 case rest=>
  obtain⟨rfl,n⟩:=hcut;obtain⟨WX,am⟩:∃V,wc=V:=⟨_,rfl⟩;rw[am]at n⊢;clear am;have z:=hid n;have a9:(0:Int)<=(p:Int):=by omega
  obtain⟨t,ht⟩:∃t,decide (l[p]? =some x)=t:=⟨_,rfl⟩;have P:=hid ht;clear n ht
  go_upto_region 4 with fail
  go_cut [31] (λu wx=>u = .bool t/\Below W0.heap.size W0 wx)
  case first=>
   by_cases q:p<l.length
   ·obtain⟨y,Q⟩:∃y,l[p]? =some y:=⟨l[p],List.getElem?_eq_getElem q⟩
    have ad:(p:Int)<(l.length:Int):=by omega
    have hd:decide (p<l.length)=true:=by simpa using q
    obtain⟨b,o,ae,_,_⟩:=HA.out WX (HF.out _ z.out) p y Q;subst ae;have a4:=λw=>Zcxj y x w
    have he:decide (y=x)=t:=by
     have:=P.out;rw[Q]at this;rw[<-this];simp
    rw[he]at a4;have HY:=hid Q;clear Q he
    go_wp2_with fail
    refine wp_region_held_drew (S:=λV=>Below W0.heap.size W0 V) (by kernel_rfl) ?_ (λhHeld=>?_)
    ·exact z.out.drew
    refine tkK 0 ?_;refine tkK 1 ?_;refine tkK 2 ?_;refine tkK 3 ?_;refine tkK 4 ?_;refine tkK 5 ?_;refine tkK 6 ?_;refine tkK 7 ?_
    try simp only[Act.put,sA,sZ,sS]
    refine tkH 8 (v:=?_) ?_ ?_;rotate_left
    ·intro w i;obtain⟨p1,o1,e1,c0,c1⟩:=HA.out _ (HF.out _ i) p y HY.out;cases e1;go_simp;try with_reducible rfl
    try simp only[Act.put,sA,sZ,sS]
    refine tkH 9 (v:=?_) ?_ ?_;rotate_left
    ·intro w i;obtain⟨c2,c3⟩:=T.out _ i;go_simp;try with_reducible rfl
    try simp only[Act.put,sA,sZ,sS]
    refine tkK 10 ?_;refine tkK 11 ?_
    try simp only[Act.put,sA,sZ,sS]
    refine wpAnyH_done (by kernel_rfl) ?_ _
    go_wp2_with fail
    go_meet;exact⟨rfl,hHeld⟩
   ·have hd:decide (p<l.length)=false:=by simpa using q
    have ad:¬(p:Int)<(l.length:Int):=by omega
    have U:Hid (false=t):=by
     show _=_;rw[<-P.out,List.getElem?_eq_none (by omega)];simp
    go_wp2_with fail
    refine wp_region_held_drew (S:=λV=>Below W0.heap.size W0 V) (by kernel_rfl) ?_ (λhHeld=>?_)
    ·exact z.out.drew
    refine tkK 0 ?_;refine tkK 1 ?_;refine tkK 2 ?_;refine tkK 3 ?_;refine tkK 4 ?_
    try simp only[Act.put,sA,sZ,sS]
    refine tuH 5 ?_
    try simp only[Act.put,sA,sZ,sS]
    refine tuH 6 ?_
    try simp only[Act.put,sA,sZ,sS]
    refine tuH 7 ?_
    try simp only[Act.put,sA,sZ,sS]
    refine tuH 8 ?_
    try simp only[Act.put,sA,sZ,sS]
    refine tuH 9 ?_
    try simp only[Act.put,sA,sZ,sS]
    refine tuH 10 ?_
    try simp only[Act.put,sA,sZ,sS]
    refine tkK 11 ?_
    try simp only[Act.put,sA,sZ,sS]
    refine wpAnyH_done (by kernel_rfl) ?_ _
    go_wp2_with fail
    go_meet;exact⟨by rw[U.out],hHeld⟩
  case rest=>
   obtain⟨rfl,n⟩:=hcut;obtain⟨d,an⟩:∃V,wc=V:=⟨_,rfl⟩;rw[an]at n⊢;clear an;have ah:=hid n;have f:=hid (HF.out _ n);clear n
   cases t
   ·have r:Hid (insL x l=l.take p ++ [x]++l.drop p):=by
     show _=_;have h:=ai.out;rw[HP.out,if_neg (of_decide_eq_false P.out)]at h;exact h
    have ak:Hid (∀w',Below d.heap.size d w'->IsRow w' (.slice a p c) 2 (Zddk (l.take p))):=by
     show ∀w',_;intro w' hw;have:=(aj.out.below (f.out.trans (hw.mono f.out.size))).take (m:=p) D.out
     rwa [Zdkx]at this
    have HD:Hid (∀w',Below d.heap.size d w'->IsRow w' (Zly 2 p a l.length c) 2 (Zddk (l.drop p))):=by
     show ∀w',_;intro w' hw;have:=(aj.out.below (f.out.trans (hw.mono f.out.size))).drop (m:=p) D.out
     rwa [Zdkw]at this
    have a2:Hid (∀w',Below d.heap.size d w'->w'.cell? { block:=w.heap.size,off:=0 } =some (.bool x.1)/\w'.cell? { block:=w.heap.size,off:=1 } =some (.string x.2)):=by
     show ∀w',_;exact λw' hw=>T.out _ (ah.out.trans (hw.mono ah.out.size))
    have az:Hid (Below d.heap.size d d.drew):=by show Below _ _ _;exact(Below.refl _ _).drew
    have HU:Hid (∀w' o,Below d.heap.size d w'->Below d.heap.size d (w'.alloc o)):=by show ∀w' o,_;exact λw' o h=>h.alloc h.size o
    have a0:Hid (∀o,Below d.heap.size d (d.alloc o).drew):=by show ∀o,_;exact λo=>((Below.refl _ _).alloc (Nat.le_refl _) o).drew
    have s:Hid ((l.take p).length<=1000/\(l.drop p).length<=1000):=by show _/\_;rw[List.length_take,List.length_drop];omega
    have aA:(p:Int)<=(c:Int):=by have:=ay.out;omega
    have a7:(p:Int)<=(l.length:Int):=by have:=D.out;omega
    go_wp2_with fail
    refine wp_region_held_drew (S:=λw'=>Below d.heap.size d w') (by kernel_rfl) ?_ (λhHeld=>?_)
    ·exact az.out
    refine tkK 0 ?_;refine tkK 1 ?_;refine tkK 2 ?_
    try simp only[Act.put,sA,sZ,sS]
    refine tkH 4 (v:=?_) ?_ ?_;rotate_left
    ·intro w i;obtain⟨c2,c3⟩:=a2.out _ i;go_simp;try with_reducible rfl
    try simp only[Act.put,sA,sZ,sS]
    refine tkK 7 ?_;refine tkK 8 ?_
    try simp only[Act.put,sA,sZ,sS]
    refine tkH 9 (v:=?_) ?_ ?_;rotate_left
    ·intro w i;refine(Zdkl (by rfl) underlying35 a5 a6 (by rfl) (by rfl) D.out).trans ?_;rfl
    try simp only[Act.put,sA,sZ,sS]
    refine rdH [3,5] ?_;refine rcH (λK g=>?_) ?_
    ·refine Zdll (by rfl) _ _ (by rfl) d.heap.size _ _ [] (l.take p) (by rfl) (by rfl) (Zdfs _ _) (ak.out _ (by assumption)) (by have:=s.out.1;simp only[List.length_nil];omega) (Below.size (by assumption)) ?_;intro v1 w1 H M _;have Z:=Zfj (show Below d.heap.size d _ by assumption) M (Below.size (by assumption));have A:=hid H;clear H
     refine g.out _ _ ?_ (λhHeld=>?_)
     ·try dsimp only
      assumption
     clear g K
     try simp only[Act.put,sA,sZ,sS]
     refine rdH [5] ?_;refine rcH (λK g=>?_) ?_
     ·go_simp
      refine g.out _ _ ?_ (λhHeld=>?_)
      ·try dsimp only
       exact HU.out _ _ (by assumption)
      clear g K
      try simp only[Act.put,sA,sZ,sS]
      refine rdH [6] ?_;refine rcH (λK g=>?_) ?_
      ·refine Zdll (by rfl) _ _ (by rfl) d.heap.size _ _ (([]:List Lb)++l.take p) [x] (by rfl) (by rfl) (Zdfq A.out ((Below.refl _ _).alloc (Nat.le_refl _) _)) (Zdhq (alloc_at w1 _)) (by have:=s.out.1;simp only[List.length_append,List.length_nil,List.length_cons];omega) (Below.size (by assumption)) ?_;intro v2 w2 I ab _;have aa:=Zfl (show Below d.heap.size d _ by assumption) ab (Below.size (by assumption)) (λk O=>(World.ownsRow.lt A.out k O).1);have C:=hid I;clear I
       refine g.out _ _ ?_ (λhHeld=>?_)
       ·try dsimp only
        assumption
       clear g K
       try simp only[Act.put,sA,sZ,sS]
       refine rdH [10] ?_;refine rcH (λK g=>?_) ?_
       ·refine Zdll (by rfl) _ _ (by rfl) d.heap.size _ _ (([]:List Lb)++l.take p ++ [x]) (l.drop p) (by rfl) (by rfl) C.out (HD.out _ (by assumption)) (by have:=s.out;simp only[List.length_append,List.length_nil,List.length_cons];omega) (Below.size (by assumption)) ?_;intro v3 w3 J ac _;have F:=Zfl (show Below d.heap.size d _ by assumption) ac (Below.size (by assumption)) (λk O=>(World.ownsRow.lt C.out k O).1);have Y:=hid J;clear J
        refine g.out _ _ ?_ (λhHeld=>?_)
        ·try dsimp only
         assumption
        clear g K
        try simp only[Act.put,sA,sZ,sS]
        refine tkK 11 ?_
        try simp only[Act.put,sA,sZ,sS]
        refine wpAnyH_done (by kernel_rfl) ?_ _;have E:Hid (OwnL B w3 v3 (insL x l)):=by
         show OwnL _ _ _ _;rw[r.out];have h3:=Y.out;rw[List.nil_append]at h3;exact Zbdt h3 (Nat.le_trans ag.out f.out.size)
        have X:=hid (f.out.trans (F.mono f.out.size));clear Z aa F hHeld;go_wp2;go_ret;exact⟨_,rfl,E.out,X.out⟩
       exact AllReadyH.nil
      exact AllReadyH.nil
     exact AllReadyH.nil
    refine rcH (λK g=>?_) ?_
    ·go_simp
     refine g.out _ _ ?_ (λhHeld=>?_)
     ·try dsimp only
      exact a0.out _
     clear g K
     try simp only[Act.put,sA,sZ,sS]
     refine rdH [3] ?_;refine rcH (λK g=>?_) ?_
     ·refine Zdll (by rfl) _ _ (by rfl) d.heap.size _ _ [] (l.take p) (by rfl) (by rfl) (Zdfs _ _) (ak.out _ (by assumption)) (by have:=s.out.1;simp only[List.length_nil];omega) (Below.size (by assumption)) ?_;intro v1 w1 H M _;have Z:=Zfj (show Below d.heap.size d _ by assumption) M (Below.size (by assumption));have A:=hid H;clear H;have aw:=hid (Zdko M)
      refine g.out _ _ ?_ (λhHeld=>?_)
      ·try dsimp only
       assumption
      clear g K
      try simp only[Act.put,sA,sZ,sS]
      refine rdH [6] ?_;refine rcH (λK g=>?_) ?_
      ·refine Zdll (by rfl) _ _ (by rfl) d.heap.size _ _ (([]:List Lb)++l.take p) [x] (by rfl) (by rfl) A.out (Zdhq aw.out) (by have:=s.out.1;simp only[List.length_append,List.length_nil,List.length_cons];omega) (Below.size (by assumption)) ?_;intro v2 w2 I ab _;have aa:=Zfl (show Below d.heap.size d _ by assumption) ab (Below.size (by assumption)) (λk O=>(World.ownsRow.lt A.out k O).1);have C:=hid I;clear I
       refine g.out _ _ ?_ (λhHeld=>?_)
       ·try dsimp only
        assumption
       clear g K
       try simp only[Act.put,sA,sZ,sS]
       refine rdH [10] ?_;refine rcH (λK g=>?_) ?_
       ·refine Zdll (by rfl) _ _ (by rfl) d.heap.size _ _ (([]:List Lb)++l.take p ++ [x]) (l.drop p) (by rfl) (by rfl) C.out (HD.out _ (by assumption)) (by have:=s.out;simp only[List.length_append,List.length_nil,List.length_cons];omega) (Below.size (by assumption)) ?_;intro v3 w3 J ac _;have F:=Zfl (show Below d.heap.size d _ by assumption) ac (Below.size (by assumption)) (λk O=>(World.ownsRow.lt C.out k O).1);have Y:=hid J;clear J
        refine g.out _ _ ?_ (λhHeld=>?_)
        ·try dsimp only
         assumption
        clear g K
        try simp only[Act.put,sA,sZ,sS]
        refine tkK 11 ?_
        try simp only[Act.put,sA,sZ,sS]
        refine wpAnyH_done (by kernel_rfl) ?_ _;have E:Hid (OwnL B w3 v3 (insL x l)):=by
         show OwnL _ _ _ _;rw[r.out];have h3:=Y.out;rw[List.nil_append]at h3;exact Zbdt h3 (Nat.le_trans ag.out f.out.size)
        have X:=hid (f.out.trans (F.mono f.out.size));clear Z aa F hHeld;go_wp2;go_ret;exact⟨_,rfl,E.out,X.out⟩
       exact AllReadyH.nil
      exact AllReadyH.nil
     exact AllReadyH.nil
    exact AllReadyH.nil
   ·have r:Hid (insL x l=l):=by
     show _=_;have h:=ai.out;rw[HP.out,if_pos (of_decide_eq_true P.out)]at h;exact h
    have E:Hid (OwnL B d (.slice a l.length c) (insL x l)):=by
     show OwnL _ _ _ _;rw[r.out];exact World.ownsRow.kept (row:=none) ax.out ⟨f.out.os,f.out.tape,f.out.output,f.out.size,λk O _=>f.out.block k O⟩ (by cases Value.ownBlock _<;>simp)
    go_wp2;go_ret;exact⟨_,rfl,E.out,f.out⟩
def BoxL (w:World) (g:Nat) (x:Lb):Prop:=w.heap[g]? =some (.cells #[.bool x.1,.string x.2] 24)
theorem BoxL.lt {w:World} {g:Nat} {x:Lb} (h:BoxL w g x):g<w.heap.size:=(Array.getElem?_eq_some_iff.1 h).1
theorem BoxL.below {w w':World} {g B:Nat} {x:Lb} (h:BoxL w g x) (b:Below B w w') (a:w.heap.size<=B):BoxL w' g x:=(b.block g (Nat.lt_of_lt_of_le h.lt a)).trans h
theorem BoxL.cells {w:World} {g:Nat} {x:Lb} (h:BoxL w g x):w.cell? { block:=g,off:=0 } =some (.bool x.1)/\w.cell? { block:=g,off:=1 } =some (.string x.2):=by
 unfold BoxL at h;simp[World.cell?,h]
def SetN (w:World) (p:Nat) (ls:List Lb):Prop:=w.cell? { block:=p,off:=0 } =some (.map (some (p+1)))/\LM w (p+1) ls
theorem SetN.set {w:World} {p:Nat} {ls:List Lb} (h:SetN w p ls):SetM w p ls:=⟨p+1,h.1,by omega,h.2⟩
theorem SetN.lt {w:World} {p:Nat} {a:List Lb} (h:SetN w p a):p+1<w.heap.size:=h.2.1.lt
theorem SetN.below {w w':World} {p B:Nat} {ls:List Lb} (h:SetN w p ls) (a:Below B w w') (b:w.heap.size<=B):SetN w' p ls:=by
 have:=h.lt;exact⟨cell_below h.1 a (by omega),h.2.below a (by omega)⟩
section
variable {w w':World} {m:Nat}
theorem KeepBut.grown {q:Nat} (h:KeepBut q m w w') (c:w.heap.size<=q):w.grownBy w' (some m):=⟨h.os,h.tape,h.output,h.size,λk b a=>h.block k b (by omega) (λe=>a (by rw[e]))⟩
theorem BoxL.grown {g:Nat} {x:Lb} (h:BoxL w g x) (b:w.grownBy w' (some m)) (a:g≠m):BoxL w' g x:=(b.block g h.lt (by simpa using a)).trans h
theorem SetN.grown {p:Nat} {ls:List Lb} (h:SetN w p ls) (a:w.grownBy w' (some m)) (b:p≠m) (c:p+1≠m):SetN w' p ls:=by
 have d:=h.lt;refine⟨?_,h.2.1.heap (a.block _ d (by simpa using c)),h.2.2⟩;rw[World.cell?_of_block (a.block p (by omega) (by simpa using b))];exact h.1
theorem RowL.grown {a:Option Addr} {xs:List Lb} (h:RowL w a xs) (k:w.grownBy w' (some m)) (j:∀b,a=some b->b.block≠m):RowL w' a xs:=λi x hx=>by
 obtain⟨b,o,d,e,g⟩:=h i x hx;have c:=World.block_lt_of_cell? _ _ e;have f:=k.block b c (by simpa using j _ d);exact⟨b,o,d,by rw[World.cell?_of_block f];exact e,by rw[World.cell?_of_block f];exact g⟩
theorem Zdfr {B:Nat} {v:Value} {xs:List Lb} (h:OwnL B w v xs) (c:w.grownBy w' (some m)) (d:m<B):OwnL B w' v xs:=World.ownsRow.kept h c (by
 cases e:v.ownBlock with
 | none=>exact .inl rfl
 | some b=>
  have:=(World.ownsRow.lt h b e).1;right;intro a
  cases a
  omega)
end
theorem Zdib {w:World} {ty:TypeId} {B:Nat} {v i:Value} {xs ys:List Lb} (c:OwnL B w v xs) (o:IsRow w i 2 (Zddk ys)) (j:xs.length+ys.length<=1000000000) (n:B<=w.heap.size):
  ∃v' w',(Builtin.append_ #[35,35] ty #[v,i]).run prog w = .ok v' w'/\OwnL B w' v' (xs++ys)/\w.grownBy w' v.ownBlock/\(∀b,v'.ownBlock=some b->v.ownBlock=some b\/w.heap.size<=b):=by
 obtain⟨r,p,e,f,g⟩:=info_parts Zdbm;have a:w.ownsRow B 24 2 v (Zddk xs).length (Zddk xs).flatten:=by rw[Zddm];exact c
 have d:((Zddk xs).length+(Zddk ys).length)*24<=140737488355328:=by rw[Zddm,Zddm];exact Nat.le_trans (Nat.mul_le_mul_right _ j) (by decide)
 obtain⟨v',w',q,h,k,l⟩:=Zbke (P:=prog) 35 ty 24 r (.agg #[.bool false,.string ⟨#[]⟩]) 2 24 underlying35 p e f g rfl (by decide) a o (Zddo ys) (Zddn ys) (by rw[Zddm,Zddm];unfold maxLen;omega) d n;rw[Zddl,Zddm]at h;exact⟨v',w',q,h,k,l⟩
theorem Zdjx {P:Program} {w:World} {c:Array Oper} {b:List Oper} {o:Oper} {a:Act} {Q:Exit->Act->World->Prop} (i:Region.wanted o (yielded c a.tmps)=true) (s x:Operand) (t:TypeId)
  (j:o.op = .call { callee:= .builtin .append,args:=#[s,x],argTypes:=#[t,t] }) {e f d:Value} {w':World} (l:a.eval s=e) (hx:a.eval x=f)
  (k:(Builtin.append_ #[t,t] o.type #[e,f]).run P w = .ok d w') (h:wpList P c Q b (a.put o.dst d) w'):wpList P c Q (o::b) a w:=by
 refine wpList_step λK g=>?_
 rw[if_pos i];unfold Oper.wp execOp;simp only[j,resolve,invoke,builtin,Sem.run_bind,Sem.run_pure,Result.andThen_ok,List.map_toArray,List.map_cons,List.map_nil,l,hx,k];exact g _ _ h
def Zcyo (xs:List ByteArray):List Lb:=xs.map λx=>(false,x)
theorem Zcyp (xs:List ByteArray):(Zcyo xs).length=xs.length:=List.length_map _
theorem Zcyr {xs:List ByteArray} {k:Nat} {x:ByteArray} (h:xs[k]? =some x):Zcyo (xs.take (k+1))=Zcyo (xs.take k) ++ [(false,x)]:=by
 unfold Zcyo;rw[List.take_add_one,h,List.map_append];rfl
theorem Zdhw (s:ByteArray) (w:World):Calls prog 57 #[.string s] w λe w'=>e = .returned (.agg #[.bool true,.string s])/\Below w.heap.size w w':=by
 go_enter func57,ntmps57
 go_wp2;refine bodyPost_ret (Zbhl rfl _ _ w.heap.size _ _ _ _ rfl (alloc_at w _) underlying24 rfl (by kernel_rfl)) rfl ?_;exact⟨rfl,(Below.refl _ _).alloc (Nat.le_refl _) _⟩
theorem Zcyn (v:Value) (xs:List ByteArray) (w:World) (h:IsStrs w v xs) (S:xs.length<=1000000):
  Calls prog 58 #[v] w λe w'=>∃v',e = .returned v'/\OwnL w.heap.size w' v' (Zcyo xs)/\Below w.heap.size w w':=by
 obtain⟨a,c,rfl,_,_,d⟩:=h;have L:Hid (∀(k:Nat) x,xs[k]? =some x->∃b o,a=some ⟨b,o,none⟩/\∀w',Below w.heap.size w w'->w'.cell? ⟨b,o+k,none⟩=some (.string x)):=by
  show ∀(k:Nat) x,_;intro k x hx;obtain⟨b,o,e,M,z⟩:=d (by rintro rfl;simp at hx);exact⟨b,o,e,λw' U=>(U.cell (p:=⟨b,o+k,none⟩) M).trans (z k x hx)⟩
 have I:=Zddt xs.length S w;obtain⟨A,r⟩:∃A,A=Obj.cells (madeCells #[.bool false,.string ⟨#[]⟩] (xs.length*2)) 24:=⟨_,rfl⟩;rw[<-r]at I;have f:OwnL w.heap.size (w.alloc A) (.slice (some ⟨w.heap.size,0,none⟩) 0 xs.length) []:=by
  refine⟨rfl,.inr ⟨w.heap.size,xs.length,madeCells #[.bool false,.string ⟨#[]⟩] (xs.length*2),rfl,Nat.le_refl _,by rw[r];exact(MapKept.heap_alloc w _).1,Nat.zero_le _,by unfold maxLen;omega,by simp[madeCells],by simp[lcs]⟩⟩
 have E:=hid f;have B:=hid ((Below.refl w.heap.size w).alloc (Nat.le_refl _) A);clear d f r
 go_enter func58,ntmps58
 go_wp2
 go_loopw [3,11] (λW J wr=>∃k:Nat,k<=xs.length/\J = .int .i64 (k:Int)/\OwnL w.heap.size wr W (Zcyo (xs.take k))/\Below w.heap.size w wr) (λ_ J _=>xs.length-(intOf J).toNat)
 case atStart=>exact⟨0,Nat.zero_le _,rfl,E.out,B.out⟩
 case round=>
  obtain⟨k,Y,rfl,n,t⟩:=hrel;have i:=hid n;have g:=hid t;clear n t
  by_cases H:k<xs.length
  ·obtain⟨x,hx⟩:∃x,xs[k]? =some x:=⟨xs[k],List.getElem?_eq_getElem H⟩
   have P:(k:Int)<(xs.length:Int):=by omega
   have Q:(0:Int)<=(k:Int):=by omega
   obtain⟨b,o,T,z⟩:=L.out k x hx;subst T;have O:=z wr g.out;have D:=hid (Zcyr hx);have R:(Zcyo (xs.take k)).length<=xs.length:=by rw[Zcyp,List.length_take];omega
   obtain⟨V1,j⟩:∃V,V=wr.alloc (.cells #[.bool false,.string x] 24):=⟨_,rfl⟩;have m:Below wr.heap.size wr V1:=by rw[j];exact(Below.refl _ _).alloc (Nat.le_refl _) _
   have l:Below w.heap.size w V1:=by rw[j];exact g.out.alloc g.out.size _
   have K:V1.heap[wr.heap.size]? =some (.cells #[.bool ((false,x):Lb).1,.string ((false,x):Lb).2] 24):=by rw[j];exact alloc_at wr _
   obtain⟨Z,X,y,q,u,_⟩:=Zdib (ty:=35) (ys:=[(false,x)]) (Zdfq i.out m) (Zdhq K) (by simp only[List.length_cons,List.length_nil];omega) l.size;have s:=l.grown u l.size (λb e=>(World.ownsRow.lt i.out b e).1);rw[<-D.out]at q;have F:=hid q;have C:=hid s;have G:=hid y;clear q s u K l m y z hx
   go_wp2_with (at_builtin;rw[<-j];refine Zdjx (by rfl) _ _ _ rfl rfl rfl G.out ?_)
   go_wp2;go_roundw
   case rel=>exact⟨k+1,by omega,by go_num,F.out,C.out⟩
   case measure=>simp only[intOf];omega
  ·obtain rfl:k=xs.length:=by omega
   have P:¬(xs.length:Int)<(xs.length:Int):=by omega
   rw[List.take_length]at i;go_wp2;go_ret;exact⟨_,rfl,i.out,g.out⟩
theorem Zcxd (b:List Lb) (a:Option Addr) (c:Nat) (w:World) (o:RowL w a b) (t:b.length<=1000):
  Calls prog 63 #[.slice a b.length c] w λe w'=>∃v',e = .returned v'/\OwnL w.heap.size w' v' (setL b)/\Below w.heap.size w w':=by
 have p:=hid (Zdci b a c w o (by omega));have j:=(Zcwu [] b).2;simp only[List.length_nil,Nat.zero_add]at j;have q:=hid j;clear o j
 go_enter func63,ntmps63
 go_wp2_with fail
 refine p.out.mono ?_;rintro e s ⟨rfl,l,m,k⟩;have f:=Zdch w.heap.size (Zcws [] b) s ⟨w.heap.size+1,l,by omega,m⟩ (by have:=q.out;omega);rw[Zdio]at f;have i:=hid f;have g:=hid k;clear f l m k
 go_wp2_with fail
 refine i.out.mono ?_;rintro e u ⟨v,rfl,n,d⟩;have r:=hid (Zbdt n g.out.size);have h:=hid (g.out.trans (d.mono g.out.size));clear n d;go_wp2;go_ret;exact⟨_,rfl,r.out,h.out⟩
abbrev SKV:=List (ByteArray×Value)
def skv (L:SKV):List KV:=L.map λe=>(.string e.1,e.2)
theorem Zdil (L:SKV):(skv L).length=L.length:=List.length_map _
def MpS (w:World) (b:Nat) (L:SKV):Prop:=RM w b (skv L)/\(L.map (·.1)).Nodup
theorem MpS.lt {w:World} {b:Nat} {L:SKV} (h:MpS w b L):b<w.heap.size:=h.1.lt
theorem MpS.heap {w w':World} {b:Nat} {L:SKV} (h:MpS w b L) (a:w'.heap[b]? =w.heap[b]?):MpS w' b L:=⟨h.1.heap a,h.2⟩
theorem MpS.below {w w':World} {b B:Nat} {L:SKV} (h:MpS w b L) (c:Below B w w') (a:b<B):MpS w' b L:=⟨h.1.below c a,h.2⟩
theorem MpS.made (w:World):MpS (w.alloc (.map #[] 0)) w.heap.size []:=⟨⟨#[],0,(MapKept.heap_alloc w _).1,rfl,by simp,by simp⟩,by simp⟩
def hasA:SKV->ByteArray->Bool
 | [],_=>false
 | e::L,k=>if e.1=k then true else hasA L k
def getA:SKV->ByteArray->Value->Value
 | [],_,z=>z
 | e::L,k,z=>if e.1=k then e.2 else getA L k z
def putA:SKV->ByteArray->Value->SKV
 | [],k,v=>[(k,v)]
 | e::L,k,v=>if e.1=k then(k,v)::L else e::putA L k v
theorem Zdax {k:ByteArray}:∀ {L:SKV},hasA L k=true↔k∈L.map (·.1)
 | []=>by simp[hasA]
 | e::L=>by
  unfold hasA;rw[List.map_cons,List.mem_cons,<-Zdax (L:=L)]
  by_cases h:e.1=k
  ·simp[h]
  ·simp[h,Ne.symm h]
theorem Zdgc {k:ByteArray} {v:Value}:∀ {L:SKV},(putA L k v).map (·.1)=if hasA L k then L.map (·.1)else L.map (·.1) ++ [k]
 | []=>rfl
 | e::L=>by
  unfold putA hasA
  by_cases h:e.1=k
  ·simp[h]
  ·have a:=Zdgc (k:=k) (v:=v) (L:=L)
   rw[if_neg h,if_neg h,List.map_cons,a];split<;>simp
theorem Zdge {k:ByteArray} {v:Value} {L:SKV} (h:(L.map (·.1)).Nodup):((putA L k v).map (·.1)).Nodup:=by
 grind [Zdgc,Zdax]
theorem Zdak {k:ByteArray} {v z:Value}:∀ {L:SKV},getA (putA L k v) k z=v
 | []=>by simp[putA,getA]
 | e::L=>by
  unfold putA;split
  ·simp[getA]
  ·rename_i h
   unfold getA;rw[if_neg h];exact Zdak
theorem Zdaj {k a:ByteArray} {v z:Value} (h:a≠k):∀ {L:SKV},getA (putA L k v) a z=getA L a z
 | []=>by simp[putA,getA,Ne.symm h]
 | e::L=>by
  unfold putA;split
  ·rename_i c
   simp[getA,c,Ne.symm h]
  ·unfold getA
   rw[Zdaj h]
theorem Zday {k a:ByteArray} {v:Value} {L:SKV}:hasA (putA L k v) a=(decide (k=a)||hasA L a):=by
 have c:=Zdgc (k:=k) (v:=v) (L:=L)
 grind [Zdax]
theorem Zcxi (a b:ByteArray):(a==b)=decide (a=b):=by
 cases h:(a==b)with
 | true=>grind [MapKept.bytes_beq]
 | false=>grind [MapKept.bytes_beq]
theorem Zczh (x:ByteArray):∀(c:List MapEntry) (L:SKV) (i:Nat),c.map kvE=skv L->
  (hasA L x=false/\Instr.findNow .string (.string x) c i=some none/\(∀v,putA L x v=L ++ [(x,v)])/\∀z,getA L x z=z)\/
  ∃j u e,L[j]? =some (x,u)/\c[j]? =some e/\e.key = .string x/\hasA L x=true/\Instr.findNow .string (.string x) c i=some (some (i+j,u))/\(∀v,putA L x v=L.set j (x,v))/\∀z,getA L x z=u
 | [],L,i,h=>by
  have:L = []:=by cases L with
   | nil=>rfl
   | cons _ _=>simp[skv]at h
  subst this;exact .inl ⟨rfl,rfl,λ_=>rfl,λ_=>rfl⟩
 | e::c,L,i,h=>by
  cases L with
  | nil=>simp[skv]at h
  | cons a L=>
   simp only[skv,List.map_cons,List.cons.injEq]at h;obtain⟨n,s⟩:=h;have f:e.key = .string a.1:=congrArg Prod.fst n;have y:e.val=a.2:=congrArg Prod.snd n
   by_cases hx:a.1=x
   ·subst hx
    refine .inr ⟨0,a.2,e,rfl,rfl,f,by simp[hasA],?_,λv=>by simp[putA],λz=>by simp[getA]⟩;simp only[Instr.findNow,f,Instr.sameNow];rw[Zcxi,decide_eq_true rfl];simp[y]
   ·have d:(x==a.1)=false:=by rw[Zcxi];exact decide_eq_false λe=>hx e.symm
    rcases Zczh x c L (i+1) s with⟨g,k,l,m⟩|⟨j,u,o,g,k,l,m,p,q,r⟩
    ·refine .inl ⟨by simp[hasA,hx,g],?_,λv=>by simp[putA,hx,l],λz=>by simp[getA,hx,m]⟩
     simp only[Instr.findNow,f,Instr.sameNow,d];exact k
    ·refine .inr ⟨j+1,u,o,by simpa using g,by simpa using k,l,by simp[hasA,hx,m],?_,λv=>by simp[putA,hx,q],λz=>by simp[getA,hx,r]⟩
     simp only[Instr.findNow,f,Instr.sameNow,d];rw[p]
     congr 3
     omega
section
variable {P:Program} {w:World} {b:Nat} {L:SKV} {t kt e:TypeId}
theorem Zdic (x:ByteArray):Instr.sameBits 10000 (.string x) (.string x)=true:=by
 grind [Instr.sameBits,MapKept.bytes_beq]
theorem Zcxw (c:P.underlying kt=some .string) (x:ByteArray) (a:Bool) (w:World):(Instr.checkKey a 10000 kt (.string x)).run P w = .ok () w:=by
 have:(10000:Nat)=9999+1:=rfl;rw[this];generalize 9999=D;simp[Instr.checkKey,run_underlying c]
theorem MpS.get_ok (h:MpS w b L) (f:P.underlying t=some (.map kt e)) (a:P.underlying kt=some .string) {z:Value} (o:(zeroValue e).run P w = .ok z w) (x:ByteArray):
  (Instr.lookup t (.map (some b)) (.string x) true).run P w = .ok (.tuple #[getA L x z,.bool (hasA L x)]) w:=by
 obtain⟨⟨g,p,d,n,_⟩,_⟩:=h
 rcases Zczh x g.toList L 0 n with⟨i,k,_,c⟩|⟨j,u,_,_,_,_,c,l,_,m⟩
 ·rw[i,c]
  simp[Instr.lookup,run_underlying f,MapKept.run_getObj_map d,Zcxw a,Instr.findKey,run_underlying a,k,o]
 ·rw[c,m]
  simp[Instr.lookup,run_underlying f,MapKept.run_getObj_map d,Zcxw a,Instr.findKey,run_underlying a,l]
theorem MpS.get (h:MpS w b L) (f:P.underlying t=some (.map kt e)) (a:P.underlying kt=some .string) {z:Value} (n:(zeroValue e).run P w = .ok z w) (x:ByteArray):
  (Instr.lookup t (.map (some b)) (.string x) false).run P w = .ok (getA L x z) w:=by
 obtain⟨⟨g,o,d,m,_⟩,_⟩:=h
 rcases Zczh x g.toList L 0 m with⟨p,i,_,c⟩|⟨j,u,_,_,_,_,c,k,_,l⟩
 ·rw[c]
  simp[Instr.lookup,run_underlying f,MapKept.run_getObj_map d,Zcxw a,Instr.findKey,run_underlying a,i,n]
 ·rw[l]
  simp[Instr.lookup,run_underlying f,MapKept.run_getObj_map d,Zcxw a,Instr.findKey,run_underlying a,k]
theorem MpS.put (h:MpS w b L) (B:P.underlying t=some (.map kt e)) (f:P.underlying kt=some .string) (x:ByteArray) (v:Value):
  ∃o,(Instr.mapUpdate t (.map (some b)) (.string x) v).run P w = .ok () { w with heap:=w.heap.setIfInBounds b o }/\MpS { w with heap:=w.heap.setIfInBounds b o } b (putA L x v):=by
 have i:=h.lt;obtain⟨⟨a,d,n,c,F,D⟩,m⟩:=h
 rcases Zczh x a.toList L 0 c with⟨y,z,p,_⟩|⟨j,u,en,y,z,p,G,A,C,_⟩
 ·refine⟨.map (a.push ⟨.string x,v,d⟩) (d+1),?_,?_,Zdge m⟩
  ·simp[Instr.mapUpdate,run_underlying B,MapKept.run_getObj_map n,Zcxw f,Instr.findKey,run_underlying f,z,setObj,Sem.run,n]
  ·rw[p]
   refine⟨a.push ⟨.string x,v,d⟩,d+1,by simp[i],?_,?_,?_⟩
   ·simp[c,kvE,skv]
   all_goals (grind)
 ·have g:a[j]? =some en:=by grind
  refine⟨.map (a.modify j λe=>{ e with key:= .string x,val:=v }) d,?_,?_,Zdge m⟩
  ·rw[Nat.zero_add]at A
   simp[Instr.mapUpdate,run_underlying B,MapKept.run_getObj_map n,Zcxw f,Instr.findKey,run_underlying f,A,setObj,Sem.run,g,Instr.keyThatStays,p,n,Zdic]
  ·rw[C]
   have q:(a.modify j λe=>{ e with key:= .string x,val:=v }).toList.map (·.born)=a.toList.map (·.born):=by
    apply List.ext_getElem?
    grind
   refine⟨a.modify j λe=>{ e with key:= .string x,val:=v },d,by simp[i],?_,by rw[q];exact F,?_⟩
   ·apply List.ext_getElem?
    intro k;have s:=congrArg (λl=>l[k]?) c;simp only[List.getElem?_map,skv]at s⊢;rw[Array.getElem?_toList,Array.getElem?_modify,List.getElem?_set]
    by_cases f:j=k
    ·subst f
     have r:=(List.getElem?_eq_some_iff.1 y).1;rw[if_pos rfl,if_pos rfl,if_pos r,g];rfl
    ·grind
   ·intro e E
    have H:e.born∈(a.modify j λe=>{ e with key:= .string x,val:=v }).toList.map (·.born):=List.mem_map.2 ⟨e,E,rfl⟩
    grind
end
def zRul:Value:= .agg #[.string ⟨#[]⟩,.slice none 0 0,.slice none 0 0,.slice none 0 0,.slice none 0 0]
def zLab:Value:= .agg #[.bool false,.string ⟨#[]⟩]
theorem Zdkb:∀w,(zeroValue 50).run prog w = .ok zRul w:=zeroValue50
theorem Zdjz:∀w,(zeroValue 24).run prog w = .ok zLab w:=zeroValue24
theorem Zdka:∀w,(zeroValue 35).run prog w = .ok (.slice none 0 0) w:=zeroValue35
def RulVs (L:SKV):Prop:=∀e∈L,∃s a1 n1 c1 a2 n2 c2 a3 n3 c3 a4 n4 c4,e.2 = .agg #[.string s,.slice a1 n1 c1,.slice a2 n2 c2,.slice a3 n3 c3,.slice a4 n4 c4]
def LabVs (L:SKV):Prop:=∀e∈L,∃p s,e.2 = .agg #[.bool p,.string s]
def SliVs (L:SKV):Prop:=∀e∈L,∃a n c,e.2 = .slice a n c
theorem Zdai {L:SKV} {k:ByteArray} {z:Value}:getA L k z=z/\hasA L k=false\/∃e∈L,e.1=k/\getA L k z=e.2/\hasA L k=true:=by
 induction L with
 | nil=>exact .inl ⟨rfl,rfl⟩
 | cons e L d=>
  unfold getA hasA
  by_cases h:e.1=k
  ·exact .inr ⟨e,by simp,h,by rw[if_pos h],by rw[if_pos h]⟩
  ·rw[if_neg h,if_neg h]
   rcases d with a|⟨b,a,c⟩
   ·exact .inl a
   ·exact .inr ⟨b,by simp[a],c⟩
theorem RulVs.get {L:SKV} (h:RulVs L) (k:ByteArray):∃s b n g c o i d p j f q l,getA L k zRul = .agg #[.string s,.slice b n g,.slice c o i,.slice d p j,.slice f q l]:=by
 rcases Zdai (L:=L) (k:=k) (z:=zRul)with⟨a,_⟩|⟨e,a,_,m,_⟩
 ·exact⟨_,_,_,_,_,_,_,_,_,_,_,_,_,a⟩
 ·rw[m];exact h e a
theorem LabVs.get {L:SKV} (h:LabVs L) (k:ByteArray):∃p s,getA L k zLab = .agg #[.bool p,.string s]:=by
 rcases Zdai (L:=L) (k:=k) (z:=zLab)with⟨a,_⟩|⟨e,a,_,b,_⟩
 ·exact⟨_,_,a⟩
 ·rw[b];exact h e a
theorem SliVs.get {L:SKV} (h:SliVs L) (k:ByteArray):∃a n c,getA L k (.slice none 0 0) = .slice a n c:=by
 rcases Zdai (L:=L) (k:=k) (z:= .slice none 0 0)with⟨b,_⟩|⟨e,b,_,d,_⟩
 ·exact⟨_,_,_,b⟩
 ·rw[d];exact h e b
theorem Zdbd (b:Nat) (L:SKV) (k:ByteArray) (w:World) (h:MpS w b L) (d:RulVs L):
  Calls prog 59 #[.map (some b),.string k] w λe w'=>e = .returned (.bool (hasA L k))/\Below w.heap.size w w':=by
 have c:=h.get_ok (P:=prog) underlying86 underlying9 (Zdkb w) k;obtain⟨s,f,p,l,g,q,m,i,r,n,j,t,o,a⟩:=d.get k;rw[a]at c;clear a h
 go_enter func59,ntmps59
 go_wp2;go_ret;exact⟨rfl,(Below.refl _ _).alloc (Nat.le_refl _) _⟩
theorem Zdbc (b:Nat) (L:SKV) (k:ByteArray) (w:World) (h:MpS w b L) (d:LabVs L):
  Calls prog 60 #[.map (some b),.string k] w λe w'=>e = .returned (.bool (hasA L k))/\Below w.heap.size w w':=by
 have c:=h.get_ok (P:=prog) underlying87 underlying9 (Zdjz w) k;obtain⟨p,s,a⟩:=d.get k;rw[a]at c;clear a h
 go_enter func60,ntmps60
 go_wp2;go_ret;exact⟨rfl,(Below.refl _ _).alloc (Nat.le_refl _) _⟩
theorem Zdbe (b:Nat) (L:SKV) (k:ByteArray) (w:World) (h:MpS w b L) (g:SliVs L):
  Calls prog 61 #[.map (some b),.string k] w λe w'=>e = .returned (.bool (hasA L k))/\Below w.heap.size w w':=by
 have f:=h.get_ok (P:=prog) underlying88 underlying9 (Zdka w) k;obtain⟨a,n,c,d⟩:=g.get k;rw[d]at f;clear d h
 go_enter func61,ntmps61
 go_wp2;go_ret;exact⟨rfl,Below.refl _ _⟩
