import Derived.Deep.RegionHeld3
import Derived.Deep.CutBlock
import Derived.Deep.DeepCutAuto
import Derived.Test.YthkehhphnbckaaaGreatDoorMbj
namespace Go.Proofs.YthkehhphnbckaaaGreatDoor.lawStepLaws
open Go.Lib (hid)
open Go.RowKit Go.Shelf
theorem Zbzb (a b:Value) (w:World):Sem.run Tryz.prog (Instr.field 25 (.agg #[a,b]) 0) w = .ok a w:=by
 unfold Instr.field;simp[go_sem,part,asAgg]
theorem Zbzc (a b:Value) (w:World):Sem.run Tryz.prog (Instr.field 25 (.agg #[a,b]) 1) w = .ok b w:=by
 unfold Instr.field;simp[go_sem,part,asAgg]
theorem Zbys (b:ByteArray):Zbyq b=decB (Zxi b).length++⟨#[10]⟩:=by
 have h:(Zxi b).length=(Zxl b.data.toList).length:=by unfold Zxi;rw[List.length_map]
 rw[h];apply Zgy;rw[ByteArray.data_append,Array.toList_append,Zbyv];unfold Zbyq;show Lib.itoa _ ++ [10]=numS _ ++ [10];unfold numS;rw[Int.max_eq_left (by omega)]
theorem Zcan (b:ByteArray):(Zcak b).size<=b.size+1:=Zcal b
theorem Zcad (b s:ByteArray):(Zcaa b s).size<=b.size+1:=Zcab b s
theorem Zcax (b:ByteArray) (n:Nat):(Zcaw b n).size<=b.size:=by
 show(b.data.toList.take n).length<=b.size;rw[List.length_take,<-Lib.size_eq];omega
theorem Zcba {n:Nat} {a W:World} (h:Below n a W):∃V,W=V/\Below n a V:=⟨_,rfl,h⟩
theorem Zbzr {n:Nat} {a W:World} {o:Obj} (_:Below n a (W.alloc o)):(W.alloc o).heap[W.heap.size]? =some o:=alloc_at W o
theorem Zbzs {n:Nat} {a W:World} {o:Obj} (_:Below n a (W.alloc o).drew):(W.alloc o).drew.heap[W.heap.size]? =some o:=alloc_at W o
theorem Zbyl {n k:Nat} {a W:World} {o o':Obj} (_:Below n a (W.alloc o')) (h:W.heap[k]? =some o):(W.alloc o').heap[k]? =some o:=(Below.heap_alloc _ _ _ (Zfy h)).trans h
theorem Zcai {W:World} {g:Nat} {p q x y:Value} {T:TypeId} (h:W.heap[g]? =some (.cells #[p,q] T)):((W.setCell ⟨g,0,none⟩ x).setCell ⟨g,1,none⟩ y).heap[g]? =some (.cells #[x,y] T):=heap_set _ _ (heap_set _ _ h)
theorem Zbyk {a W:World} {g:Nat} (h:Below a.heap.size a W) (hg:a.heap.size<=g) (x y:Value):Below a.heap.size a ((W.setCell ⟨g,0,none⟩ x).setCell ⟨g,1,none⟩ y):=(h.setCell (p:=⟨g,0,none⟩) hg x).setCell (p:=⟨g,1,none⟩) hg y
abbrev bxV (t:ByteArray):Obj:= .cells #[.bool true,.string t] 25
theorem Zbym {V V':World} {k:Nat} {o:Obj} (h:V.heap[k]? =some o) (hb:Below V.heap.size V V'):V'.heap[k]? =some o:=(hb.block k (Array.getElem?_eq_some_iff.1 h).1).trans h
theorem Zbyn {V:World} {g k:Nat} {i:Nat} {o:Obj} {v:Value} (h:V.heap[k]? =some o) (hne:k≠g):(V.setCell ⟨g,i,none⟩ v).heap[k]? =some o:=(Below.heap_setCell _ _ _ _ hne).trans h
set_option maxHeartbeats 16000000
set_option maxRecDepth 100000
theorem law (b0 s0:ByteArray) (n0 m0:Int) (w:World) (hb0:b0.size<=maxLen) (hs0:s0.size<=maxLen) (hG:GP w.heap.size w):
  Calls Tryz.prog 3 #[.string b0,.string s0,.int .i64 n0,.int .i64 m0] w λe w'=>e = .returned (.bool true)/\Below w.heap.size w w':=by
 have mixed:Tryz.prog.follows .mixedOrders=true:=by kernel_rfl
 have sha:=λw=>Zcaj b0 300 w hb0 (by decide) (by decide)
 have shb:=λw=>Zcaj s0 20 w hs0 (by decide) (by decide)
 obtain⟨b,hb⟩:∃t:ByteArray,t=b0.extract 0 (min b0.size (Int.toNat 300)):=⟨_,rfl⟩;obtain⟨s,hs⟩:∃t:ByteArray,t=s0.extract 0 (min s0.size (Int.toNat 20)):=⟨_,rfl⟩;rw[<-hb]at sha;rw[<-hs]at shb;have hbl:b.size<=300:=by rw[hb];simp;omega
 have hsl:s.size<=20:=by rw[hs];simp;omega
 obtain⟨n,hn,hn4⟩:∃n:Nat,n0.tmod 400 % 400=(n:Int)/\n<400:=⟨(n0.tmod 400 % 400).toNat,by omega,by omega⟩;obtain⟨m,hm,hm4⟩:∃m:Nat,m0.tmod 400 % 400=(m:Int)/\m<400:=⟨(m0.tmod 400 % 400).toNat,by omega,by omega⟩;have SA:=hid sha;have SB:=hid shb;have HCB:=hid (Zfc w hG);have HDO:Hid (∀(V:World) (op k:Int) (t:ByteArray) (a:Option Addr) (c:Nat) (lits:List ByteArray) (r:ByteArray),Below w.heap.size w V->IsStrs V (.slice a lits.length c) lits->t.size<=2000->Zbzy op k lits (true,t)=(true,r)->Calls Tryz.prog 12 #[.int .i64 op,.agg #[.bool true,.string t],.int .i64 k,.slice a lits.length c] V λe w'=>e = .returned (.agg #[.bool true,.string r])/\Below V.heap.size V w'):=by
  show ∀(V:World) (op k:Int) (t:ByteArray) (a:Option Addr) (c:Nat) (lits:List ByteArray) (r:ByteArray),_;intro V op k t a c lits r hV hl ht hr;have:=Zbyy op k true t a c lits V hl (by omega) ((hG.below hV).glob);rw[hr]at this;exact this
 have HLN:Hid (∀V:World,Calls Tryz.prog 14 #[.string b] V λe w'=>∃a c,e = .returned (.slice a (Zxi b).length c)/\Below V.heap.size V w'):=by
  show ∀V:World,_;intro V;refine(Zcah b V (by omega)).mono ?_;rintro e w' ⟨v,rfl,ho,hb⟩;obtain⟨a,c,rfl⟩:=Zue (StrsA.isStrs (Zbqf ho));exact⟨a,c,rfl,hb⟩
 have hll:(Zxi b).length<=1000:=by
  have h:(Zxi b).length=(Zxl b.data.toList).length:=by unfold Zxi;rw[List.length_map]
  rw[h];have:=Zxs b.data.toList;rw[<-Lib.size_eq]at this;omega
 have HNB:Hid (∀V:World,Calls Tryz.prog 13 #[.int .i64 ((Zxi b).length:Int)] V λe w'=>e = .returned (.string (decB (Zxi b).length))/\Below V.heap.size V w'):=by
  show ∀V:World,_;exact λV=>Zbzu _ (by omega) V
 obtain⟨X,hX⟩:∃X,Zcak b=X:=⟨_,rfl⟩;obtain⟨Y,hY⟩:∃Y,Zcaa b s=Y:=⟨_,rfl⟩;have hXl:X.size<=301:=by rw[<-hX];have:=Zcan b;omega
 have hYl:Y.size<=301:=by rw[<-hY];have:=Zcad b s;omega
 have d1:Zbzy 3 0 [] (true,b)=(true,X):=by rw[<-hX];exact Zcao b (by omega)
 have d2:Zbzy 7 0 [s] (true,b)=(true,Y):=by rw[<-hY];exact Zcae b s (by omega) (by omega)
 have d3:Zbzy 3 0 [] (true,X)=(true,X):=by rw[Zcao X (by omega),<-hX,Zcaq]
 have d4:Zbzy 7 0 [s] (true,Y)=(true,Y):=by rw[Zcae Y s (by omega) (by omega),<-hY,Zcaf]
 obtain⟨Z,hZ⟩:∃Z,Zcak Y=Z:=⟨_,rfl⟩;have d5:Zbzy 3 0 [] (true,Y)=(true,Z):=by rw[<-hZ];exact Zcao Y (by omega)
 have d6:Zbzy 7 0 [s] (true,X)=(true,Z):=by rw[Zcae X s (by omega) (by omega),<-hZ,<-hY,<-hX,Zcap]
 obtain⟨C,hC⟩:∃C,Zbyq b=C:=⟨_,rfl⟩;have d7:Zbzy 4 0 [] (true,X)=(true,C):=by rw[Zbyr X (by omega),<-hX,Zbyt,hC]
 have d8:Zbzy 4 0 [] (true,b)=(true,C):=by rw[Zbyr b (by omega),hC]
 have d9:Zbzy 1 0 [] (true,b)=(true,b):=Zbyp b (by omega);have dn:(Zbzy 2 0 [] (true,b)).1 = !b.data.toList.isEmpty:=Zbzq b (by omega);obtain⟨E,hE⟩:∃E,(!b.toList.isEmpty)=E:=⟨_,rfl⟩;rw[<-ByteArray.toList_eq,hE]at dn;have HTE:=hid hE;have CN:Hid (∀(V:World),Below w.heap.size w V->Calls Tryz.prog 12 #[.int .i64 2,.agg #[.bool true,.string b],.int .i64 0,.slice none 0 0] V λe w'=>e = .returned (.agg #[.bool E,.string (Zbzy 2 0 [] (true,b)).2])/\Below V.heap.size V w'):=by
  show ∀(V:World),_;intro V hV;have:=Zbyy 2 0 true b none 0 [] V (Zbqk _) (by omega) ((hG.below hV).glob);rw[show Zbzy 2 0 [] (true,b)=(E,(Zbzy 2 0 [] (true,b)).2)from Prod.ext dn rfl]at this;exact this
 obtain⟨P,hP⟩:∃P,Zcaw b n=P:=⟨_,rfl⟩;obtain⟨Q,hQ⟩:∃Q,Zcaw b (min n m)=Q:=⟨_,rfl⟩;have hPl:P.size<=300:=by rw[<-hP];have:=Zcax b n;omega
 have da:Zbzy 9 (n:Int) [] (true,b)=(true,P):=by rw[Zcag b (by omega) n (by omega),hP]
 have db:Zbzy 9 (m:Int) [] (true,P)=(true,Q):=by rw[Zcag P (by omega) m (by omega),<-hP,Zcay,hQ]
 have dc:Zbzy 9 (min (n:Int) (m:Int)) [] (true,b)=(true,Q):=by rw[show min (n:Int) (m:Int)=((min n m:Nat):Int) by omega,Zcag b (by omega) (min n m) (by omega),hQ]
 obtain⟨DL,hDL⟩:∃D,decB (Zxi b).length=D:=⟨_,rfl⟩;have hCN:C=DL++⟨#[10]⟩:=by rw[<-hC,Zbys,hDL]
 have hCs:C.size<=1000:=by
  rw[<-hC];unfold Zbyq;show(Lib.itoa ((Zxl b.data.toList).length:Int) ++ [10]).length<=1000;have h1:=Zxs b.data.toList;rw[<-Lib.size_eq]at h1;have h2:=Lib.itoa_length_le ((Zxl b.data.toList).length:Int) (by omega) (by omega);rw[List.length_append];show _+1<=1000;omega
 clear hC;subst hCN;have hDs:DL.size+1<=1000:=by rw[ByteArray.size_append]at hCs;exact hCs
 have HDS:=hid hDs;rw[hDL]at HNB;obtain⟨LL,hLL⟩:∃k,(Zxi b).length=k:=⟨_,rfl⟩;rw[hLL]at HNB HLN hll;have D1:=hid d1;have D2:=hid d2;have D3:=hid d3;have D4:=hid d4;have D5:=hid d5;have D6:=hid d6;have D7:=hid d7;have D8:=hid d8;have D9:=hid d9;have DA:=hid da;have DB:=hid db;have DC:=hid dc;have HLL:=hid hll;clear sha shb hb hs hG hb0 hs0 hE hX hY hZ hCs hDs hDL hLL hP hQ d1 d2 d3 d4 d5 d6 d7 d8 d9 dn da db dc hll;have w1n:=Int.tmod_lt_of_pos n0 (show(0:Int)<400 by omega);have w2n:=Int.lt_tmod_of_pos n0 (show(0:Int)<400 by omega);have w1m:=Int.tmod_lt_of_pos m0 (show(0:Int)<400 by omega);have w2m:=Int.lt_tmod_of_pos m0 (show(0:Int)<400 by omega)
 go_enter Tryz.func3,Tryz.ntmps3
 go_wp2_with fail
 refine HCB.out.mono ?_;rintro e w1 ⟨rfl,hb1⟩;have HB1:=hid hb1;clear hb1
 go_wp2_with fail
 refine(SA.out _).mono ?_;rintro e _ ⟨rfl,rfl⟩
 go_wp2_with fail
 refine(SB.out _).mono ?_;rintro e _ ⟨rfl,rfl⟩
 go_upto_region 7 with fail
 rw[show(n0.tmod 400+400) % 400=(n:Int) by omega,show(m0.tmod 400+400) % 400=(m:Int) by omega];clear hn hm w1n w2n w1m w2m;obtain⟨w2,hw2⟩:∃V,w1.alloc (bxV b)=V:=⟨_,rfl⟩;have hbx:w2.heap[w1.heap.size]? =some (bxV b):=by rw[<-hw2];exact alloc_at w1 _
 obtain⟨B0,hB0⟩:∃k,w1.heap.size=k:=⟨_,rfl⟩;rw[hB0]at hbx;have hb2:Below w.heap.size w w2:=by rw[<-hw2];exact HB1.out.alloc HB1.out.size _
 have HUP:Hid (∀V,Below w2.heap.size w2 V->Below w.heap.size w V):=by show ∀V,_;exact λV hV=>hb2.trans (hV.mono hb2.size)
 have HBX:Hid (∀V,Below w2.heap.size w2 V->V.cell? ⟨B0,0,none⟩=some (.bool true)/\V.cell? ⟨B0,1,none⟩=some (.string b)):=by
  show ∀V,_;intro V hV;obtain⟨z0,z1,_,_⟩:=Zih (Zbym hbx hV);exact⟨z0,z1⟩
 rw[hw2,hB0];clear hw2 hB0 hb2 hbx
 go_cut [11,12] (λp q wx=>∃g h:Nat,p = .pointer (some ⟨g,0,none⟩)/\q = .pointer (some ⟨h,0,none⟩)/\wx.heap[g]? =some (bxV X)/\wx.heap[h]? =some (bxV Y)/\Below w2.heap.size w2 wx)
 case first=>
  refine wp_region_held_drew (S:=λV=>Below w2.heap.size w2 V) (by kernel_rfl) ?_ (λhHeld=>?_)
  ·exact below_drewN (Below.refl _ _) 1
  refine tkH 0 (v:=?_) ?_ ?_;rotate_left
  ·intro w hSw;obtain⟨z0,z1⟩:=HBX.out _ hSw;go_simp;try with_reducible rfl
  try simp only[Act.put,List.setIfInBounds_toArray,List.set_cons_zero,List.set_cons_succ]
  refine tkH 2 (v:=?_) ?_ ?_;rotate_left
  ·intro w hSw;obtain⟨z0,z1⟩:=HBX.out _ hSw;go_simp;try with_reducible rfl
  try simp only[Act.put,List.setIfInBounds_toArray,List.set_cons_zero,List.set_cons_succ]
  refine tkH 3 (v:=?_) ?_ ?_;rotate_left
  ·intro w hSw;go_simp;try with_reducible rfl
  try simp only[Act.put,List.setIfInBounds_toArray,List.set_cons_zero,List.set_cons_succ]
  refine wpAnyH_ready (rs:=[1,4,6,7]) (by kernel_rfl) (by simp) ?_;refine AllReadyH.cons (o:=_) (by simp only[List.getElem?_toArray,List.getElem?_cons_succ,List.getElem?_cons_zero];rfl) (λK hK=>?_) ?_
  ·go_simp;refine(HDO.out _ 3 0 b none 0 [] X (HUP.out _ hHeld) (Zbqk _) (by omega) D1.out).mono ?_;rintro e w3 ⟨rfl,hbc⟩;have hBc:=hHeld.trans (hbc.mono hHeld.size);clear hbc;dsimp only
   refine hK.out _ _ ?_ (λhHeld=>?_)
   ·try dsimp only
    exact hBc
   clear hK K
   try simp only[Act.put,List.setIfInBounds_toArray,List.set_cons_zero,List.set_cons_succ]
   clear hBc;refine wpAnyH_ready (rs:=[4,6,7]) (by kernel_rfl) (by simp) ?_;refine AllReadyH.cons (o:=_) (by simp only[List.getElem?_toArray,List.getElem?_cons_succ,List.getElem?_cons_zero];rfl) (λK hK=>?_) ?_
   ·have hg4:=hHeld.size;(try simp only[drew_size]at hg4);(try simp only[World.size_alloc]at hg4);go_simp
    refine hK.out _ _ ?_ (λhHeld=>?_)
    ·try dsimp only
     exact hHeld.alloc hHeld.size _
    clear hK K
    try simp only[Act.put,List.setIfInBounds_toArray,List.set_cons_zero,List.set_cons_succ]
    have hx4:=Zbzr hHeld
    (try simp only[drew_size]at hx4);(try simp only[World.size_alloc]at hx4)
    obtain⟨V4,e4,hHeld⟩:=Zcba hHeld;rw[e4]at hx4⊢;clear e4;refine wpAnyH_ready (rs:=[5,6,7]) (by kernel_rfl) (by simp) ?_;refine AllReadyH.cons (o:=_) (by simp only[List.getElem?_toArray,List.getElem?_cons_succ,List.getElem?_cons_zero];rfl) (λK hK=>?_) ?_
    ·go_simp;refine(HDO.out _ 7 0 b _ 1 [s] Y (HUP.out _ hHeld) (Zbqj (xs:=[s]) hx4 (by show 1<=maxLen;decide)) (by omega) D2.out).mono ?_;rintro e w5 ⟨rfl,hbc⟩;replace hx4:=Zbym hx4 hbc;have hBc:=hHeld.trans (hbc.mono hHeld.size);clear hbc;dsimp only
     refine hK.out _ _ ?_ (λhHeld=>?_)
     ·try dsimp only
      exact hBc
     clear hK K
     try simp only[Act.put,List.setIfInBounds_toArray,List.set_cons_zero,List.set_cons_succ]
     clear hBc;refine wpAnyH_ready (rs:=[6,7]) (by kernel_rfl) (by simp) ?_;refine AllReadyH.cons (o:=_) (by simp only[List.getElem?_toArray,List.getElem?_cons_succ,List.getElem?_cons_zero];rfl) (λK hK=>?_) ?_
     ·have hg6:=hHeld.size;(try simp only[drew_size]at hg6);(try simp only[World.size_alloc]at hg6);go_simp
      refine hK.out _ _ ?_ (λhHeld=>?_)
      ·try dsimp only
       exact hHeld.alloc hHeld.size _
      clear hK K
      try simp only[Act.put,List.setIfInBounds_toArray,List.set_cons_zero,List.set_cons_succ]
      have hx6:=Zbzr hHeld;replace hx4:=Zbyl hHeld hx4
      (try simp only[drew_size]at hx6);(try simp only[World.size_alloc]at hx6)
      obtain⟨V6,e6,hHeld⟩:=Zcba hHeld;rw[e6]at hx4 hx6⊢;clear e6;refine wpAnyH_ready (rs:=[7]) (by kernel_rfl) (by simp) ?_;refine AllReadyH.cons (o:=_) (by simp only[List.getElem?_toArray,List.getElem?_cons_succ,List.getElem?_cons_zero];rfl) (λK hK=>?_) ?_
      ·have hg7:=hHeld.size;(try simp only[drew_size]at hg7);(try simp only[World.size_alloc]at hg7);have hne:=Nat.ne_of_lt (Zfy hx6);(try simp only[drew_size]at hne);(try simp only[World.size_alloc]at hne);go_simp
       refine hK.out _ _ ?_ (λhHeld=>?_)
       ·try dsimp only
        exact hHeld.alloc hHeld.size _
       clear hK K
       try simp only[Act.put,List.setIfInBounds_toArray,List.set_cons_zero,List.set_cons_succ]
       have hx7:=Zbzr hHeld;replace hx4:=Zbyl hHeld hx4;replace hx6:=Zbyl hHeld hx6
       (try simp only[drew_size]at hx7);(try simp only[World.size_alloc]at hx7)
       obtain⟨V7,e7,hHeld⟩:=Zcba hHeld;rw[e7]at hx4 hx6 hx7⊢;clear e7;refine wpAnyH_ready (rs:=[8]) (by kernel_rfl) (by simp) ?_;refine AllReadyH.cons (o:=_) (by simp only[List.getElem?_toArray,List.getElem?_cons_succ,List.getElem?_cons_zero];rfl) (λK hK=>?_) ?_
       ·obtain⟨z0,z1,z2,z3⟩:=Zih hx6;go_simp
        refine hK.out _ _ ?_ (λhHeld=>?_)
        ·try dsimp only
         exact Zbyk hHeld hg6 _ _
        clear hK K
        try simp only[Act.put,List.setIfInBounds_toArray,List.set_cons_zero,List.set_cons_succ]
        replace hx6:=Zcai (x:= .bool true) (y:= .string X) hx6;replace hx7:=Zbyn (i:=1) (v:= .string X) (Zbyn (i:=0) (v:= .bool true) hx7 (Ne.symm hne)) (Ne.symm hne);refine wpAnyH_ready (rs:=[9]) (by kernel_rfl) (by simp) ?_;refine AllReadyH.cons (o:=_) (by simp only[List.getElem?_toArray,List.getElem?_cons_succ,List.getElem?_cons_zero];rfl) (λK hK=>?_) ?_
        ·obtain⟨z0,z1,z2,z3⟩:=Zih hx7;go_simp
         refine hK.out _ _ ?_ (λhHeld=>?_)
         ·try dsimp only
          exact Zbyk hHeld hg7 _ _
         clear hK K
         try simp only[Act.put,List.setIfInBounds_toArray,List.set_cons_zero,List.set_cons_succ]
         replace hx7:=Zcai (x:= .bool true) (y:= .string Y) hx7;replace hx6:=Zbyn (i:=1) (v:= .string Y) (Zbyn (i:=0) (v:= .bool true) hx6 hne) hne;refine wpAnyH_done (by kernel_rfl) ?_ _
         go_wp2_with fail
         go_meet;exact⟨_,_,rfl,rfl,hx6,hx7,hHeld⟩
        exact AllReadyH.nil
       exact AllReadyH.nil
      exact AllReadyH.nil
     refine AllReadyH.cons (o:=_) (by simp only[List.getElem?_toArray,List.getElem?_cons_succ,List.getElem?_cons_zero];rfl) (λK hK=>?_) ?_
     ·have hg7:=hHeld.size;(try simp only[drew_size]at hg7);(try simp only[World.size_alloc]at hg7);go_simp
      refine hK.out _ _ ?_ (λhHeld=>?_)
      ·try dsimp only
       exact hHeld.alloc hHeld.size _
      clear hK K
      try simp only[Act.put,List.setIfInBounds_toArray,List.set_cons_zero,List.set_cons_succ]
      have hx7:=Zbzr hHeld;replace hx4:=Zbyl hHeld hx4
      (try simp only[drew_size]at hx7);(try simp only[World.size_alloc]at hx7)
      obtain⟨V7,e7,hHeld⟩:=Zcba hHeld;rw[e7]at hx4 hx7⊢;clear e7;refine wpAnyH_ready (rs:=[6]) (by kernel_rfl) (by simp) ?_;refine AllReadyH.cons (o:=_) (by simp only[List.getElem?_toArray,List.getElem?_cons_succ,List.getElem?_cons_zero];rfl) (λK hK=>?_) ?_
      ·have hg6:=hHeld.size;(try simp only[drew_size]at hg6);(try simp only[World.size_alloc]at hg6);have hne:=Nat.ne_of_lt (Zfy hx7);(try simp only[drew_size]at hne);(try simp only[World.size_alloc]at hne);go_simp
       refine hK.out _ _ ?_ (λhHeld=>?_)
       ·try dsimp only
        exact hHeld.alloc hHeld.size _
       clear hK K
       try simp only[Act.put,List.setIfInBounds_toArray,List.set_cons_zero,List.set_cons_succ]
       have hx6:=Zbzr hHeld;replace hx4:=Zbyl hHeld hx4;replace hx7:=Zbyl hHeld hx7
       (try simp only[drew_size]at hx6);(try simp only[World.size_alloc]at hx6)
       obtain⟨V6,e6,hHeld⟩:=Zcba hHeld;rw[e6]at hx4 hx7 hx6⊢;clear e6;refine wpAnyH_ready (rs:=[8]) (by kernel_rfl) (by simp) ?_;refine AllReadyH.cons (o:=_) (by simp only[List.getElem?_toArray,List.getElem?_cons_succ,List.getElem?_cons_zero];rfl) (λK hK=>?_) ?_
       ·obtain⟨z0,z1,z2,z3⟩:=Zih hx6;go_simp
        refine hK.out _ _ ?_ (λhHeld=>?_)
        ·try dsimp only
         exact Zbyk hHeld hg6 _ _
        clear hK K
        try simp only[Act.put,List.setIfInBounds_toArray,List.set_cons_zero,List.set_cons_succ]
        replace hx6:=Zcai (x:= .bool true) (y:= .string X) hx6;replace hx7:=Zbyn (i:=1) (v:= .string X) (Zbyn (i:=0) (v:= .bool true) hx7 hne) hne;refine wpAnyH_ready (rs:=[9]) (by kernel_rfl) (by simp) ?_;refine AllReadyH.cons (o:=_) (by simp only[List.getElem?_toArray,List.getElem?_cons_succ,List.getElem?_cons_zero];rfl) (λK hK=>?_) ?_
        ·obtain⟨z0,z1,z2,z3⟩:=Zih hx7;go_simp
         refine hK.out _ _ ?_ (λhHeld=>?_)
         ·try dsimp only
          exact Zbyk hHeld hg7 _ _
         clear hK K
         try simp only[Act.put,List.setIfInBounds_toArray,List.set_cons_zero,List.set_cons_succ]
         replace hx7:=Zcai (x:= .bool true) (y:= .string Y) hx7;replace hx6:=Zbyn (i:=1) (v:= .string Y) (Zbyn (i:=0) (v:= .bool true) hx6 (Ne.symm hne)) (Ne.symm hne);refine wpAnyH_done (by kernel_rfl) ?_ _
         go_wp2_with fail
         go_meet;exact⟨_,_,rfl,rfl,hx6,hx7,hHeld⟩
        exact AllReadyH.nil
       exact AllReadyH.nil
      exact AllReadyH.nil
     exact AllReadyH.nil
    refine AllReadyH.cons (o:=_) (by simp only[List.getElem?_toArray,List.getElem?_cons_succ,List.getElem?_cons_zero];rfl) (λK hK=>?_) ?_
    ·have hg6:=hHeld.size;(try simp only[drew_size]at hg6);(try simp only[World.size_alloc]at hg6);go_simp
     refine hK.out _ _ ?_ (λhHeld=>?_)
     ·try dsimp only
      exact hHeld.alloc hHeld.size _
     clear hK K
     try simp only[Act.put,List.setIfInBounds_toArray,List.set_cons_zero,List.set_cons_succ]
     have hx6:=Zbzr hHeld;replace hx4:=Zbyl hHeld hx4
     (try simp only[drew_size]at hx6);(try simp only[World.size_alloc]at hx6)
     obtain⟨V6,e6,hHeld⟩:=Zcba hHeld;rw[e6]at hx4 hx6⊢;clear e6;refine wpAnyH_ready (rs:=[5,7]) (by kernel_rfl) (by simp) ?_;refine AllReadyH.cons (o:=_) (by simp only[List.getElem?_toArray,List.getElem?_cons_succ,List.getElem?_cons_zero];rfl) (λK hK=>?_) ?_
     ·go_simp;refine(HDO.out _ 7 0 b _ 1 [s] Y (HUP.out _ hHeld) (Zbqj (xs:=[s]) hx4 (by show 1<=maxLen;decide)) (by omega) D2.out).mono ?_;rintro e w5 ⟨rfl,hbc⟩;replace hx4:=Zbym hx4 hbc;replace hx6:=Zbym hx6 hbc;have hBc:=hHeld.trans (hbc.mono hHeld.size);clear hbc;dsimp only
      refine hK.out _ _ ?_ (λhHeld=>?_)
      ·try dsimp only
       exact hBc
      clear hK K
      try simp only[Act.put,List.setIfInBounds_toArray,List.set_cons_zero,List.set_cons_succ]
      clear hBc;refine wpAnyH_ready (rs:=[7]) (by kernel_rfl) (by simp) ?_;refine AllReadyH.cons (o:=_) (by simp only[List.getElem?_toArray,List.getElem?_cons_succ,List.getElem?_cons_zero];rfl) (λK hK=>?_) ?_
      ·have hg7:=hHeld.size;(try simp only[drew_size]at hg7);(try simp only[World.size_alloc]at hg7);have hne:=Nat.ne_of_lt (Zfy hx6);(try simp only[drew_size]at hne);(try simp only[World.size_alloc]at hne);go_simp
       refine hK.out _ _ ?_ (λhHeld=>?_)
       ·try dsimp only
        exact hHeld.alloc hHeld.size _
       clear hK K
       try simp only[Act.put,List.setIfInBounds_toArray,List.set_cons_zero,List.set_cons_succ]
       have hx7:=Zbzr hHeld;replace hx4:=Zbyl hHeld hx4;replace hx6:=Zbyl hHeld hx6
       (try simp only[drew_size]at hx7);(try simp only[World.size_alloc]at hx7)
       obtain⟨V7,e7,hHeld⟩:=Zcba hHeld;rw[e7]at hx4 hx6 hx7⊢;clear e7;refine wpAnyH_ready (rs:=[8]) (by kernel_rfl) (by simp) ?_;refine AllReadyH.cons (o:=_) (by simp only[List.getElem?_toArray,List.getElem?_cons_succ,List.getElem?_cons_zero];rfl) (λK hK=>?_) ?_
       ·obtain⟨z0,z1,z2,z3⟩:=Zih hx6;go_simp
        refine hK.out _ _ ?_ (λhHeld=>?_)
        ·try dsimp only
         exact Zbyk hHeld hg6 _ _
        clear hK K
        try simp only[Act.put,List.setIfInBounds_toArray,List.set_cons_zero,List.set_cons_succ]
        replace hx6:=Zcai (x:= .bool true) (y:= .string X) hx6;replace hx7:=Zbyn (i:=1) (v:= .string X) (Zbyn (i:=0) (v:= .bool true) hx7 (Ne.symm hne)) (Ne.symm hne);refine wpAnyH_ready (rs:=[9]) (by kernel_rfl) (by simp) ?_;refine AllReadyH.cons (o:=_) (by simp only[List.getElem?_toArray,List.getElem?_cons_succ,List.getElem?_cons_zero];rfl) (λK hK=>?_) ?_
        ·obtain⟨z0,z1,z2,z3⟩:=Zih hx7;go_simp
         refine hK.out _ _ ?_ (λhHeld=>?_)
         ·try dsimp only
          exact Zbyk hHeld hg7 _ _
         clear hK K
         try simp only[Act.put,List.setIfInBounds_toArray,List.set_cons_zero,List.set_cons_succ]
         replace hx7:=Zcai (x:= .bool true) (y:= .string Y) hx7;replace hx6:=Zbyn (i:=1) (v:= .string Y) (Zbyn (i:=0) (v:= .bool true) hx6 hne) hne;refine wpAnyH_done (by kernel_rfl) ?_ _
         go_wp2_with fail
         go_meet;exact⟨_,_,rfl,rfl,hx6,hx7,hHeld⟩
        exact AllReadyH.nil
       exact AllReadyH.nil
      exact AllReadyH.nil
     refine AllReadyH.cons (o:=_) (by simp only[List.getElem?_toArray,List.getElem?_cons_succ,List.getElem?_cons_zero];rfl) (λK hK=>?_) ?_
     ·have hg7:=hHeld.size;(try simp only[drew_size]at hg7);(try simp only[World.size_alloc]at hg7);have hne:=Nat.ne_of_lt (Zfy hx6);(try simp only[drew_size]at hne);(try simp only[World.size_alloc]at hne);go_simp
      refine hK.out _ _ ?_ (λhHeld=>?_)
      ·try dsimp only
       exact hHeld.alloc hHeld.size _
      clear hK K
      try simp only[Act.put,List.setIfInBounds_toArray,List.set_cons_zero,List.set_cons_succ]
      have hx7:=Zbzr hHeld;replace hx4:=Zbyl hHeld hx4;replace hx6:=Zbyl hHeld hx6
      (try simp only[drew_size]at hx7);(try simp only[World.size_alloc]at hx7)
      obtain⟨V7,e7,hHeld⟩:=Zcba hHeld;rw[e7]at hx4 hx6 hx7⊢;clear e7;refine wpAnyH_ready (rs:=[5]) (by kernel_rfl) (by simp) ?_;refine AllReadyH.cons (o:=_) (by simp only[List.getElem?_toArray,List.getElem?_cons_succ,List.getElem?_cons_zero];rfl) (λK hK=>?_) ?_
      ·go_simp;refine(HDO.out _ 7 0 b _ 1 [s] Y (HUP.out _ hHeld) (Zbqj (xs:=[s]) hx4 (by show 1<=maxLen;decide)) (by omega) D2.out).mono ?_;rintro e w5 ⟨rfl,hbc⟩;replace hx4:=Zbym hx4 hbc;replace hx6:=Zbym hx6 hbc;replace hx7:=Zbym hx7 hbc;have hBc:=hHeld.trans (hbc.mono hHeld.size);clear hbc;dsimp only
       refine hK.out _ _ ?_ (λhHeld=>?_)
       ·try dsimp only
        exact hBc
       clear hK K
       try simp only[Act.put,List.setIfInBounds_toArray,List.set_cons_zero,List.set_cons_succ]
       clear hBc;refine wpAnyH_ready (rs:=[8]) (by kernel_rfl) (by simp) ?_;refine AllReadyH.cons (o:=_) (by simp only[List.getElem?_toArray,List.getElem?_cons_succ,List.getElem?_cons_zero];rfl) (λK hK=>?_) ?_
       ·obtain⟨z0,z1,z2,z3⟩:=Zih hx6;go_simp
        refine hK.out _ _ ?_ (λhHeld=>?_)
        ·try dsimp only
         exact Zbyk hHeld hg6 _ _
        clear hK K
        try simp only[Act.put,List.setIfInBounds_toArray,List.set_cons_zero,List.set_cons_succ]
        replace hx6:=Zcai (x:= .bool true) (y:= .string X) hx6;replace hx7:=Zbyn (i:=1) (v:= .string X) (Zbyn (i:=0) (v:= .bool true) hx7 (Ne.symm hne)) (Ne.symm hne);refine wpAnyH_ready (rs:=[9]) (by kernel_rfl) (by simp) ?_;refine AllReadyH.cons (o:=_) (by simp only[List.getElem?_toArray,List.getElem?_cons_succ,List.getElem?_cons_zero];rfl) (λK hK=>?_) ?_
        ·obtain⟨z0,z1,z2,z3⟩:=Zih hx7;go_simp
         refine hK.out _ _ ?_ (λhHeld=>?_)
         ·try dsimp only
          exact Zbyk hHeld hg7 _ _
         clear hK K
         try simp only[Act.put,List.setIfInBounds_toArray,List.set_cons_zero,List.set_cons_succ]
         replace hx7:=Zcai (x:= .bool true) (y:= .string Y) hx7;replace hx6:=Zbyn (i:=1) (v:= .string Y) (Zbyn (i:=0) (v:= .bool true) hx6 hne) hne;refine wpAnyH_done (by kernel_rfl) ?_ _
         go_wp2_with fail
         go_meet;exact⟨_,_,rfl,rfl,hx6,hx7,hHeld⟩
        exact AllReadyH.nil
       exact AllReadyH.nil
      exact AllReadyH.nil
     exact AllReadyH.nil
    refine AllReadyH.cons (o:=_) (by simp only[List.getElem?_toArray,List.getElem?_cons_succ,List.getElem?_cons_zero];rfl) (λK hK=>?_) ?_
    ·have hg7:=hHeld.size;(try simp only[drew_size]at hg7);(try simp only[World.size_alloc]at hg7);go_simp
     refine hK.out _ _ ?_ (λhHeld=>?_)
     ·try dsimp only
      exact hHeld.alloc hHeld.size _
     clear hK K
     try simp only[Act.put,List.setIfInBounds_toArray,List.set_cons_zero,List.set_cons_succ]
     have hx7:=Zbzr hHeld;replace hx4:=Zbyl hHeld hx4
     (try simp only[drew_size]at hx7);(try simp only[World.size_alloc]at hx7)
     obtain⟨V7,e7,hHeld⟩:=Zcba hHeld;rw[e7]at hx4 hx7⊢;clear e7;refine wpAnyH_ready (rs:=[5,6]) (by kernel_rfl) (by simp) ?_;refine AllReadyH.cons (o:=_) (by simp only[List.getElem?_toArray,List.getElem?_cons_succ,List.getElem?_cons_zero];rfl) (λK hK=>?_) ?_
     ·go_simp;refine(HDO.out _ 7 0 b _ 1 [s] Y (HUP.out _ hHeld) (Zbqj (xs:=[s]) hx4 (by show 1<=maxLen;decide)) (by omega) D2.out).mono ?_;rintro e w5 ⟨rfl,hbc⟩;replace hx4:=Zbym hx4 hbc;replace hx7:=Zbym hx7 hbc;have hBc:=hHeld.trans (hbc.mono hHeld.size);clear hbc;dsimp only
      refine hK.out _ _ ?_ (λhHeld=>?_)
      ·try dsimp only
       exact hBc
      clear hK K
      try simp only[Act.put,List.setIfInBounds_toArray,List.set_cons_zero,List.set_cons_succ]
      clear hBc;refine wpAnyH_ready (rs:=[6]) (by kernel_rfl) (by simp) ?_;refine AllReadyH.cons (o:=_) (by simp only[List.getElem?_toArray,List.getElem?_cons_succ,List.getElem?_cons_zero];rfl) (λK hK=>?_) ?_
      ·have hg6:=hHeld.size;(try simp only[drew_size]at hg6);(try simp only[World.size_alloc]at hg6);have hne:=Nat.ne_of_lt (Zfy hx7);(try simp only[drew_size]at hne);(try simp only[World.size_alloc]at hne);go_simp
       refine hK.out _ _ ?_ (λhHeld=>?_)
       ·try dsimp only
        exact hHeld.alloc hHeld.size _
       clear hK K
       try simp only[Act.put,List.setIfInBounds_toArray,List.set_cons_zero,List.set_cons_succ]
       have hx6:=Zbzr hHeld;replace hx4:=Zbyl hHeld hx4;replace hx7:=Zbyl hHeld hx7
       (try simp only[drew_size]at hx6);(try simp only[World.size_alloc]at hx6)
       obtain⟨V6,e6,hHeld⟩:=Zcba hHeld;rw[e6]at hx4 hx7 hx6⊢;clear e6;refine wpAnyH_ready (rs:=[8]) (by kernel_rfl) (by simp) ?_;refine AllReadyH.cons (o:=_) (by simp only[List.getElem?_toArray,List.getElem?_cons_succ,List.getElem?_cons_zero];rfl) (λK hK=>?_) ?_
       ·obtain⟨z0,z1,z2,z3⟩:=Zih hx6;go_simp
        refine hK.out _ _ ?_ (λhHeld=>?_)
        ·try dsimp only
         exact Zbyk hHeld hg6 _ _
        clear hK K
        try simp only[Act.put,List.setIfInBounds_toArray,List.set_cons_zero,List.set_cons_succ]
        replace hx6:=Zcai (x:= .bool true) (y:= .string X) hx6;replace hx7:=Zbyn (i:=1) (v:= .string X) (Zbyn (i:=0) (v:= .bool true) hx7 hne) hne;refine wpAnyH_ready (rs:=[9]) (by kernel_rfl) (by simp) ?_;refine AllReadyH.cons (o:=_) (by simp only[List.getElem?_toArray,List.getElem?_cons_succ,List.getElem?_cons_zero];rfl) (λK hK=>?_) ?_
        ·obtain⟨z0,z1,z2,z3⟩:=Zih hx7;go_simp
         refine hK.out _ _ ?_ (λhHeld=>?_)
         ·try dsimp only
          exact Zbyk hHeld hg7 _ _
         clear hK K
         try simp only[Act.put,List.setIfInBounds_toArray,List.set_cons_zero,List.set_cons_succ]
         replace hx7:=Zcai (x:= .bool true) (y:= .string Y) hx7;replace hx6:=Zbyn (i:=1) (v:= .string Y) (Zbyn (i:=0) (v:= .bool true) hx6 (Ne.symm hne)) (Ne.symm hne);refine wpAnyH_done (by kernel_rfl) ?_ _
         go_wp2_with fail
         go_meet;exact⟨_,_,rfl,rfl,hx6,hx7,hHeld⟩
        exact AllReadyH.nil
       exact AllReadyH.nil
      exact AllReadyH.nil
     refine AllReadyH.cons (o:=_) (by simp only[List.getElem?_toArray,List.getElem?_cons_succ,List.getElem?_cons_zero];rfl) (λK hK=>?_) ?_
     ·have hg6:=hHeld.size;(try simp only[drew_size]at hg6);(try simp only[World.size_alloc]at hg6);have hne:=Nat.ne_of_lt (Zfy hx7);(try simp only[drew_size]at hne);(try simp only[World.size_alloc]at hne);go_simp
      refine hK.out _ _ ?_ (λhHeld=>?_)
      ·try dsimp only
       exact hHeld.alloc hHeld.size _
      clear hK K
      try simp only[Act.put,List.setIfInBounds_toArray,List.set_cons_zero,List.set_cons_succ]
      have hx6:=Zbzr hHeld;replace hx4:=Zbyl hHeld hx4;replace hx7:=Zbyl hHeld hx7
      (try simp only[drew_size]at hx6);(try simp only[World.size_alloc]at hx6)
      obtain⟨V6,e6,hHeld⟩:=Zcba hHeld;rw[e6]at hx4 hx7 hx6⊢;clear e6;refine wpAnyH_ready (rs:=[5]) (by kernel_rfl) (by simp) ?_;refine AllReadyH.cons (o:=_) (by simp only[List.getElem?_toArray,List.getElem?_cons_succ,List.getElem?_cons_zero];rfl) (λK hK=>?_) ?_
      ·go_simp;refine(HDO.out _ 7 0 b _ 1 [s] Y (HUP.out _ hHeld) (Zbqj (xs:=[s]) hx4 (by show 1<=maxLen;decide)) (by omega) D2.out).mono ?_;rintro e w5 ⟨rfl,hbc⟩;replace hx4:=Zbym hx4 hbc;replace hx6:=Zbym hx6 hbc;replace hx7:=Zbym hx7 hbc;have hBc:=hHeld.trans (hbc.mono hHeld.size);clear hbc;dsimp only
       refine hK.out _ _ ?_ (λhHeld=>?_)
       ·try dsimp only
        exact hBc
       clear hK K
       try simp only[Act.put,List.setIfInBounds_toArray,List.set_cons_zero,List.set_cons_succ]
       clear hBc;refine wpAnyH_ready (rs:=[8]) (by kernel_rfl) (by simp) ?_;refine AllReadyH.cons (o:=_) (by simp only[List.getElem?_toArray,List.getElem?_cons_succ,List.getElem?_cons_zero];rfl) (λK hK=>?_) ?_
       ·obtain⟨z0,z1,z2,z3⟩:=Zih hx6;go_simp
        refine hK.out _ _ ?_ (λhHeld=>?_)
        ·try dsimp only
         exact Zbyk hHeld hg6 _ _
        clear hK K
        try simp only[Act.put,List.setIfInBounds_toArray,List.set_cons_zero,List.set_cons_succ]
        replace hx6:=Zcai (x:= .bool true) (y:= .string X) hx6;replace hx7:=Zbyn (i:=1) (v:= .string X) (Zbyn (i:=0) (v:= .bool true) hx7 hne) hne;refine wpAnyH_ready (rs:=[9]) (by kernel_rfl) (by simp) ?_;refine AllReadyH.cons (o:=_) (by simp only[List.getElem?_toArray,List.getElem?_cons_succ,List.getElem?_cons_zero];rfl) (λK hK=>?_) ?_
        ·obtain⟨z0,z1,z2,z3⟩:=Zih hx7;go_simp
         refine hK.out _ _ ?_ (λhHeld=>?_)
         ·try dsimp only
          exact Zbyk hHeld hg7 _ _
         clear hK K
         try simp only[Act.put,List.setIfInBounds_toArray,List.set_cons_zero,List.set_cons_succ]
         replace hx7:=Zcai (x:= .bool true) (y:= .string Y) hx7;replace hx6:=Zbyn (i:=1) (v:= .string Y) (Zbyn (i:=0) (v:= .bool true) hx6 (Ne.symm hne)) (Ne.symm hne);refine wpAnyH_done (by kernel_rfl) ?_ _
         go_wp2_with fail
         go_meet;exact⟨_,_,rfl,rfl,hx6,hx7,hHeld⟩
        exact AllReadyH.nil
       exact AllReadyH.nil
      exact AllReadyH.nil
     exact AllReadyH.nil
    exact AllReadyH.nil
   refine AllReadyH.cons (o:=_) (by simp only[List.getElem?_toArray,List.getElem?_cons_succ,List.getElem?_cons_zero];rfl) (λK hK=>?_) ?_
   ·have hg6:=hHeld.size;(try simp only[drew_size]at hg6);(try simp only[World.size_alloc]at hg6);go_simp
    refine hK.out _ _ ?_ (λhHeld=>?_)
    ·try dsimp only
     exact hHeld.alloc hHeld.size _
    clear hK K
    try simp only[Act.put,List.setIfInBounds_toArray,List.set_cons_zero,List.set_cons_succ]
    have hx6:=Zbzr hHeld
    (try simp only[drew_size]at hx6);(try simp only[World.size_alloc]at hx6)
    obtain⟨V6,e6,hHeld⟩:=Zcba hHeld;rw[e6]at hx6⊢;clear e6;refine wpAnyH_ready (rs:=[4,7]) (by kernel_rfl) (by simp) ?_;refine AllReadyH.cons (o:=_) (by simp only[List.getElem?_toArray,List.getElem?_cons_succ,List.getElem?_cons_zero];rfl) (λK hK=>?_) ?_
    ·have hg4:=hHeld.size;(try simp only[drew_size]at hg4);(try simp only[World.size_alloc]at hg4);go_simp
     refine hK.out _ _ ?_ (λhHeld=>?_)
     ·try dsimp only
      exact hHeld.alloc hHeld.size _
     clear hK K
     try simp only[Act.put,List.setIfInBounds_toArray,List.set_cons_zero,List.set_cons_succ]
     have hx4:=Zbzr hHeld;replace hx6:=Zbyl hHeld hx6
     (try simp only[drew_size]at hx4);(try simp only[World.size_alloc]at hx4)
     obtain⟨V4,e4,hHeld⟩:=Zcba hHeld;rw[e4]at hx6 hx4⊢;clear e4;refine wpAnyH_ready (rs:=[5,7]) (by kernel_rfl) (by simp) ?_;refine AllReadyH.cons (o:=_) (by simp only[List.getElem?_toArray,List.getElem?_cons_succ,List.getElem?_cons_zero];rfl) (λK hK=>?_) ?_
     ·go_simp;refine(HDO.out _ 7 0 b _ 1 [s] Y (HUP.out _ hHeld) (Zbqj (xs:=[s]) hx4 (by show 1<=maxLen;decide)) (by omega) D2.out).mono ?_;rintro e w5 ⟨rfl,hbc⟩;replace hx4:=Zbym hx4 hbc;replace hx6:=Zbym hx6 hbc;have hBc:=hHeld.trans (hbc.mono hHeld.size);clear hbc;dsimp only
      refine hK.out _ _ ?_ (λhHeld=>?_)
      ·try dsimp only
       exact hBc
      clear hK K
      try simp only[Act.put,List.setIfInBounds_toArray,List.set_cons_zero,List.set_cons_succ]
      clear hBc;refine wpAnyH_ready (rs:=[7]) (by kernel_rfl) (by simp) ?_;refine AllReadyH.cons (o:=_) (by simp only[List.getElem?_toArray,List.getElem?_cons_succ,List.getElem?_cons_zero];rfl) (λK hK=>?_) ?_
      ·have hg7:=hHeld.size;(try simp only[drew_size]at hg7);(try simp only[World.size_alloc]at hg7);have hne:=Nat.ne_of_lt (Zfy hx6);(try simp only[drew_size]at hne);(try simp only[World.size_alloc]at hne);go_simp
       refine hK.out _ _ ?_ (λhHeld=>?_)
       ·try dsimp only
        exact hHeld.alloc hHeld.size _
       clear hK K
       try simp only[Act.put,List.setIfInBounds_toArray,List.set_cons_zero,List.set_cons_succ]
       have hx7:=Zbzr hHeld;replace hx4:=Zbyl hHeld hx4;replace hx6:=Zbyl hHeld hx6
       (try simp only[drew_size]at hx7);(try simp only[World.size_alloc]at hx7)
       obtain⟨V7,e7,hHeld⟩:=Zcba hHeld;rw[e7]at hx4 hx6 hx7⊢;clear e7;refine wpAnyH_ready (rs:=[8]) (by kernel_rfl) (by simp) ?_;refine AllReadyH.cons (o:=_) (by simp only[List.getElem?_toArray,List.getElem?_cons_succ,List.getElem?_cons_zero];rfl) (λK hK=>?_) ?_
       ·obtain⟨z0,z1,z2,z3⟩:=Zih hx6;go_simp
        refine hK.out _ _ ?_ (λhHeld=>?_)
        ·try dsimp only
         exact Zbyk hHeld hg6 _ _
        clear hK K
        try simp only[Act.put,List.setIfInBounds_toArray,List.set_cons_zero,List.set_cons_succ]
        replace hx6:=Zcai (x:= .bool true) (y:= .string X) hx6;replace hx7:=Zbyn (i:=1) (v:= .string X) (Zbyn (i:=0) (v:= .bool true) hx7 (Ne.symm hne)) (Ne.symm hne);refine wpAnyH_ready (rs:=[9]) (by kernel_rfl) (by simp) ?_;refine AllReadyH.cons (o:=_) (by simp only[List.getElem?_toArray,List.getElem?_cons_succ,List.getElem?_cons_zero];rfl) (λK hK=>?_) ?_
        ·obtain⟨z0,z1,z2,z3⟩:=Zih hx7;go_simp
         refine hK.out _ _ ?_ (λhHeld=>?_)
         ·try dsimp only
          exact Zbyk hHeld hg7 _ _
         clear hK K
         try simp only[Act.put,List.setIfInBounds_toArray,List.set_cons_zero,List.set_cons_succ]
         replace hx7:=Zcai (x:= .bool true) (y:= .string Y) hx7;replace hx6:=Zbyn (i:=1) (v:= .string Y) (Zbyn (i:=0) (v:= .bool true) hx6 hne) hne;refine wpAnyH_done (by kernel_rfl) ?_ _
         go_wp2_with fail
         go_meet;exact⟨_,_,rfl,rfl,hx6,hx7,hHeld⟩
        exact AllReadyH.nil
       exact AllReadyH.nil
      exact AllReadyH.nil
     refine AllReadyH.cons (o:=_) (by simp only[List.getElem?_toArray,List.getElem?_cons_succ,List.getElem?_cons_zero];rfl) (λK hK=>?_) ?_
     ·have hg7:=hHeld.size;(try simp only[drew_size]at hg7);(try simp only[World.size_alloc]at hg7);have hne:=Nat.ne_of_lt (Zfy hx6);(try simp only[drew_size]at hne);(try simp only[World.size_alloc]at hne);go_simp
      refine hK.out _ _ ?_ (λhHeld=>?_)
      ·try dsimp only
       exact hHeld.alloc hHeld.size _
      clear hK K
      try simp only[Act.put,List.setIfInBounds_toArray,List.set_cons_zero,List.set_cons_succ]
      have hx7:=Zbzr hHeld;replace hx4:=Zbyl hHeld hx4;replace hx6:=Zbyl hHeld hx6
      (try simp only[drew_size]at hx7);(try simp only[World.size_alloc]at hx7)
      obtain⟨V7,e7,hHeld⟩:=Zcba hHeld;rw[e7]at hx4 hx6 hx7⊢;clear e7;refine wpAnyH_ready (rs:=[5]) (by kernel_rfl) (by simp) ?_;refine AllReadyH.cons (o:=_) (by simp only[List.getElem?_toArray,List.getElem?_cons_succ,List.getElem?_cons_zero];rfl) (λK hK=>?_) ?_
      ·go_simp;refine(HDO.out _ 7 0 b _ 1 [s] Y (HUP.out _ hHeld) (Zbqj (xs:=[s]) hx4 (by show 1<=maxLen;decide)) (by omega) D2.out).mono ?_;rintro e w5 ⟨rfl,hbc⟩;replace hx4:=Zbym hx4 hbc;replace hx6:=Zbym hx6 hbc;replace hx7:=Zbym hx7 hbc;have hBc:=hHeld.trans (hbc.mono hHeld.size);clear hbc;dsimp only
       refine hK.out _ _ ?_ (λhHeld=>?_)
       ·try dsimp only
        exact hBc
       clear hK K
       try simp only[Act.put,List.setIfInBounds_toArray,List.set_cons_zero,List.set_cons_succ]
       clear hBc;refine wpAnyH_ready (rs:=[8]) (by kernel_rfl) (by simp) ?_;refine AllReadyH.cons (o:=_) (by simp only[List.getElem?_toArray,List.getElem?_cons_succ,List.getElem?_cons_zero];rfl) (λK hK=>?_) ?_
       ·obtain⟨z0,z1,z2,z3⟩:=Zih hx6;go_simp
        refine hK.out _ _ ?_ (λhHeld=>?_)
        ·try dsimp only
         exact Zbyk hHeld hg6 _ _
        clear hK K
        try simp only[Act.put,List.setIfInBounds_toArray,List.set_cons_zero,List.set_cons_succ]
        replace hx6:=Zcai (x:= .bool true) (y:= .string X) hx6;replace hx7:=Zbyn (i:=1) (v:= .string X) (Zbyn (i:=0) (v:= .bool true) hx7 (Ne.symm hne)) (Ne.symm hne);refine wpAnyH_ready (rs:=[9]) (by kernel_rfl) (by simp) ?_;refine AllReadyH.cons (o:=_) (by simp only[List.getElem?_toArray,List.getElem?_cons_succ,List.getElem?_cons_zero];rfl) (λK hK=>?_) ?_
        ·obtain⟨z0,z1,z2,z3⟩:=Zih hx7;go_simp
         refine hK.out _ _ ?_ (λhHeld=>?_)
         ·try dsimp only
          exact Zbyk hHeld hg7 _ _
         clear hK K
         try simp only[Act.put,List.setIfInBounds_toArray,List.set_cons_zero,List.set_cons_succ]
         replace hx7:=Zcai (x:= .bool true) (y:= .string Y) hx7;replace hx6:=Zbyn (i:=1) (v:= .string Y) (Zbyn (i:=0) (v:= .bool true) hx6 hne) hne;refine wpAnyH_done (by kernel_rfl) ?_ _
         go_wp2_with fail
         go_meet;exact⟨_,_,rfl,rfl,hx6,hx7,hHeld⟩
        exact AllReadyH.nil
       exact AllReadyH.nil
      exact AllReadyH.nil
     exact AllReadyH.nil
    refine AllReadyH.cons (o:=_) (by simp only[List.getElem?_toArray,List.getElem?_cons_succ,List.getElem?_cons_zero];rfl) (λK hK=>?_) ?_
    ·have hg7:=hHeld.size;(try simp only[drew_size]at hg7);(try simp only[World.size_alloc]at hg7);have hne:=Nat.ne_of_lt (Zfy hx6);(try simp only[drew_size]at hne);(try simp only[World.size_alloc]at hne);go_simp
     refine hK.out _ _ ?_ (λhHeld=>?_)
     ·try dsimp only
      exact hHeld.alloc hHeld.size _
     clear hK K
     try simp only[Act.put,List.setIfInBounds_toArray,List.set_cons_zero,List.set_cons_succ]
     have hx7:=Zbzr hHeld;replace hx6:=Zbyl hHeld hx6
     (try simp only[drew_size]at hx7);(try simp only[World.size_alloc]at hx7)
     obtain⟨V7,e7,hHeld⟩:=Zcba hHeld;rw[e7]at hx6 hx7⊢;clear e7;refine wpAnyH_ready (rs:=[4]) (by kernel_rfl) (by simp) ?_;refine AllReadyH.cons (o:=_) (by simp only[List.getElem?_toArray,List.getElem?_cons_succ,List.getElem?_cons_zero];rfl) (λK hK=>?_) ?_
     ·have hg4:=hHeld.size;(try simp only[drew_size]at hg4);(try simp only[World.size_alloc]at hg4);go_simp
      refine hK.out _ _ ?_ (λhHeld=>?_)
      ·try dsimp only
       exact hHeld.alloc hHeld.size _
      clear hK K
      try simp only[Act.put,List.setIfInBounds_toArray,List.set_cons_zero,List.set_cons_succ]
      have hx4:=Zbzr hHeld;replace hx6:=Zbyl hHeld hx6;replace hx7:=Zbyl hHeld hx7
      (try simp only[drew_size]at hx4);(try simp only[World.size_alloc]at hx4)
      obtain⟨V4,e4,hHeld⟩:=Zcba hHeld;rw[e4]at hx6 hx7 hx4⊢;clear e4;refine wpAnyH_ready (rs:=[5]) (by kernel_rfl) (by simp) ?_;refine AllReadyH.cons (o:=_) (by simp only[List.getElem?_toArray,List.getElem?_cons_succ,List.getElem?_cons_zero];rfl) (λK hK=>?_) ?_
      ·go_simp;refine(HDO.out _ 7 0 b _ 1 [s] Y (HUP.out _ hHeld) (Zbqj (xs:=[s]) hx4 (by show 1<=maxLen;decide)) (by omega) D2.out).mono ?_;rintro e w5 ⟨rfl,hbc⟩;replace hx4:=Zbym hx4 hbc;replace hx6:=Zbym hx6 hbc;replace hx7:=Zbym hx7 hbc;have hBc:=hHeld.trans (hbc.mono hHeld.size);clear hbc;dsimp only
       refine hK.out _ _ ?_ (λhHeld=>?_)
       ·try dsimp only
        exact hBc
       clear hK K
       try simp only[Act.put,List.setIfInBounds_toArray,List.set_cons_zero,List.set_cons_succ]
       clear hBc;refine wpAnyH_ready (rs:=[8]) (by kernel_rfl) (by simp) ?_;refine AllReadyH.cons (o:=_) (by simp only[List.getElem?_toArray,List.getElem?_cons_succ,List.getElem?_cons_zero];rfl) (λK hK=>?_) ?_
       ·obtain⟨z0,z1,z2,z3⟩:=Zih hx6;go_simp
        refine hK.out _ _ ?_ (λhHeld=>?_)
        ·try dsimp only
         exact Zbyk hHeld hg6 _ _
        clear hK K
        try simp only[Act.put,List.setIfInBounds_toArray,List.set_cons_zero,List.set_cons_succ]
        replace hx6:=Zcai (x:= .bool true) (y:= .string X) hx6;replace hx7:=Zbyn (i:=1) (v:= .string X) (Zbyn (i:=0) (v:= .bool true) hx7 (Ne.symm hne)) (Ne.symm hne);refine wpAnyH_ready (rs:=[9]) (by kernel_rfl) (by simp) ?_;refine AllReadyH.cons (o:=_) (by simp only[List.getElem?_toArray,List.getElem?_cons_succ,List.getElem?_cons_zero];rfl) (λK hK=>?_) ?_
        ·obtain⟨z0,z1,z2,z3⟩:=Zih hx7;go_simp
         refine hK.out _ _ ?_ (λhHeld=>?_)
         ·try dsimp only
          exact Zbyk hHeld hg7 _ _
         clear hK K
         try simp only[Act.put,List.setIfInBounds_toArray,List.set_cons_zero,List.set_cons_succ]
         replace hx7:=Zcai (x:= .bool true) (y:= .string Y) hx7;replace hx6:=Zbyn (i:=1) (v:= .string Y) (Zbyn (i:=0) (v:= .bool true) hx6 hne) hne;refine wpAnyH_done (by kernel_rfl) ?_ _
         go_wp2_with fail
         go_meet;exact⟨_,_,rfl,rfl,hx6,hx7,hHeld⟩
        exact AllReadyH.nil
       exact AllReadyH.nil
      exact AllReadyH.nil
     exact AllReadyH.nil
    exact AllReadyH.nil
   refine AllReadyH.cons (o:=_) (by simp only[List.getElem?_toArray,List.getElem?_cons_succ,List.getElem?_cons_zero];rfl) (λK hK=>?_) ?_
   ·have hg7:=hHeld.size;(try simp only[drew_size]at hg7);(try simp only[World.size_alloc]at hg7);go_simp
    refine hK.out _ _ ?_ (λhHeld=>?_)
    ·try dsimp only
     exact hHeld.alloc hHeld.size _
    clear hK K
    try simp only[Act.put,List.setIfInBounds_toArray,List.set_cons_zero,List.set_cons_succ]
    have hx7:=Zbzr hHeld
    (try simp only[drew_size]at hx7);(try simp only[World.size_alloc]at hx7)
    obtain⟨V7,e7,hHeld⟩:=Zcba hHeld;rw[e7]at hx7⊢;clear e7;refine wpAnyH_ready (rs:=[4,6]) (by kernel_rfl) (by simp) ?_;refine AllReadyH.cons (o:=_) (by simp only[List.getElem?_toArray,List.getElem?_cons_succ,List.getElem?_cons_zero];rfl) (λK hK=>?_) ?_
    ·have hg4:=hHeld.size;(try simp only[drew_size]at hg4);(try simp only[World.size_alloc]at hg4);go_simp
     refine hK.out _ _ ?_ (λhHeld=>?_)
     ·try dsimp only
      exact hHeld.alloc hHeld.size _
     clear hK K
     try simp only[Act.put,List.setIfInBounds_toArray,List.set_cons_zero,List.set_cons_succ]
     have hx4:=Zbzr hHeld;replace hx7:=Zbyl hHeld hx7
     (try simp only[drew_size]at hx4);(try simp only[World.size_alloc]at hx4)
     obtain⟨V4,e4,hHeld⟩:=Zcba hHeld;rw[e4]at hx7 hx4⊢;clear e4;refine wpAnyH_ready (rs:=[5,6]) (by kernel_rfl) (by simp) ?_;refine AllReadyH.cons (o:=_) (by simp only[List.getElem?_toArray,List.getElem?_cons_succ,List.getElem?_cons_zero];rfl) (λK hK=>?_) ?_
     ·go_simp;refine(HDO.out _ 7 0 b _ 1 [s] Y (HUP.out _ hHeld) (Zbqj (xs:=[s]) hx4 (by show 1<=maxLen;decide)) (by omega) D2.out).mono ?_;rintro e w5 ⟨rfl,hbc⟩;replace hx4:=Zbym hx4 hbc;replace hx7:=Zbym hx7 hbc;have hBc:=hHeld.trans (hbc.mono hHeld.size);clear hbc;dsimp only
      refine hK.out _ _ ?_ (λhHeld=>?_)
      ·try dsimp only
       exact hBc
      clear hK K
      try simp only[Act.put,List.setIfInBounds_toArray,List.set_cons_zero,List.set_cons_succ]
      clear hBc;refine wpAnyH_ready (rs:=[6]) (by kernel_rfl) (by simp) ?_;refine AllReadyH.cons (o:=_) (by simp only[List.getElem?_toArray,List.getElem?_cons_succ,List.getElem?_cons_zero];rfl) (λK hK=>?_) ?_
      ·have hg6:=hHeld.size;(try simp only[drew_size]at hg6);(try simp only[World.size_alloc]at hg6);have hne:=Nat.ne_of_lt (Zfy hx7);(try simp only[drew_size]at hne);(try simp only[World.size_alloc]at hne);go_simp
       refine hK.out _ _ ?_ (λhHeld=>?_)
       ·try dsimp only
        exact hHeld.alloc hHeld.size _
       clear hK K
       try simp only[Act.put,List.setIfInBounds_toArray,List.set_cons_zero,List.set_cons_succ]
       have hx6:=Zbzr hHeld;replace hx4:=Zbyl hHeld hx4;replace hx7:=Zbyl hHeld hx7
       (try simp only[drew_size]at hx6);(try simp only[World.size_alloc]at hx6)
       obtain⟨V6,e6,hHeld⟩:=Zcba hHeld;rw[e6]at hx4 hx7 hx6⊢;clear e6;refine wpAnyH_ready (rs:=[8]) (by kernel_rfl) (by simp) ?_;refine AllReadyH.cons (o:=_) (by simp only[List.getElem?_toArray,List.getElem?_cons_succ,List.getElem?_cons_zero];rfl) (λK hK=>?_) ?_
       ·obtain⟨z0,z1,z2,z3⟩:=Zih hx6;go_simp
        refine hK.out _ _ ?_ (λhHeld=>?_)
        ·try dsimp only
         exact Zbyk hHeld hg6 _ _
        clear hK K
        try simp only[Act.put,List.setIfInBounds_toArray,List.set_cons_zero,List.set_cons_succ]
        replace hx6:=Zcai (x:= .bool true) (y:= .string X) hx6;replace hx7:=Zbyn (i:=1) (v:= .string X) (Zbyn (i:=0) (v:= .bool true) hx7 hne) hne;refine wpAnyH_ready (rs:=[9]) (by kernel_rfl) (by simp) ?_;refine AllReadyH.cons (o:=_) (by simp only[List.getElem?_toArray,List.getElem?_cons_succ,List.getElem?_cons_zero];rfl) (λK hK=>?_) ?_
        ·obtain⟨z0,z1,z2,z3⟩:=Zih hx7;go_simp
         refine hK.out _ _ ?_ (λhHeld=>?_)
         ·try dsimp only
          exact Zbyk hHeld hg7 _ _
         clear hK K
         try simp only[Act.put,List.setIfInBounds_toArray,List.set_cons_zero,List.set_cons_succ]
         replace hx7:=Zcai (x:= .bool true) (y:= .string Y) hx7;replace hx6:=Zbyn (i:=1) (v:= .string Y) (Zbyn (i:=0) (v:= .bool true) hx6 (Ne.symm hne)) (Ne.symm hne);refine wpAnyH_done (by kernel_rfl) ?_ _
         go_wp2_with fail
         go_meet;exact⟨_,_,rfl,rfl,hx6,hx7,hHeld⟩
        exact AllReadyH.nil
       exact AllReadyH.nil
      exact AllReadyH.nil
     refine AllReadyH.cons (o:=_) (by simp only[List.getElem?_toArray,List.getElem?_cons_succ,List.getElem?_cons_zero];rfl) (λK hK=>?_) ?_
     ·have hg6:=hHeld.size;(try simp only[drew_size]at hg6);(try simp only[World.size_alloc]at hg6);have hne:=Nat.ne_of_lt (Zfy hx7);(try simp only[drew_size]at hne);(try simp only[World.size_alloc]at hne);go_simp
      refine hK.out _ _ ?_ (λhHeld=>?_)
      ·try dsimp only
       exact hHeld.alloc hHeld.size _
      clear hK K
      try simp only[Act.put,List.setIfInBounds_toArray,List.set_cons_zero,List.set_cons_succ]
      have hx6:=Zbzr hHeld;replace hx4:=Zbyl hHeld hx4;replace hx7:=Zbyl hHeld hx7
      (try simp only[drew_size]at hx6);(try simp only[World.size_alloc]at hx6)
      obtain⟨V6,e6,hHeld⟩:=Zcba hHeld;rw[e6]at hx4 hx7 hx6⊢;clear e6;refine wpAnyH_ready (rs:=[5]) (by kernel_rfl) (by simp) ?_;refine AllReadyH.cons (o:=_) (by simp only[List.getElem?_toArray,List.getElem?_cons_succ,List.getElem?_cons_zero];rfl) (λK hK=>?_) ?_
      ·go_simp;refine(HDO.out _ 7 0 b _ 1 [s] Y (HUP.out _ hHeld) (Zbqj (xs:=[s]) hx4 (by show 1<=maxLen;decide)) (by omega) D2.out).mono ?_;rintro e w5 ⟨rfl,hbc⟩;replace hx4:=Zbym hx4 hbc;replace hx6:=Zbym hx6 hbc;replace hx7:=Zbym hx7 hbc;have hBc:=hHeld.trans (hbc.mono hHeld.size);clear hbc;dsimp only
       refine hK.out _ _ ?_ (λhHeld=>?_)
       ·try dsimp only
        exact hBc
       clear hK K
       try simp only[Act.put,List.setIfInBounds_toArray,List.set_cons_zero,List.set_cons_succ]
       clear hBc;refine wpAnyH_ready (rs:=[8]) (by kernel_rfl) (by simp) ?_;refine AllReadyH.cons (o:=_) (by simp only[List.getElem?_toArray,List.getElem?_cons_succ,List.getElem?_cons_zero];rfl) (λK hK=>?_) ?_
       ·obtain⟨z0,z1,z2,z3⟩:=Zih hx6;go_simp
        refine hK.out _ _ ?_ (λhHeld=>?_)
        ·try dsimp only
         exact Zbyk hHeld hg6 _ _
        clear hK K
        try simp only[Act.put,List.setIfInBounds_toArray,List.set_cons_zero,List.set_cons_succ]
        replace hx6:=Zcai (x:= .bool true) (y:= .string X) hx6;replace hx7:=Zbyn (i:=1) (v:= .string X) (Zbyn (i:=0) (v:= .bool true) hx7 hne) hne;refine wpAnyH_ready (rs:=[9]) (by kernel_rfl) (by simp) ?_;refine AllReadyH.cons (o:=_) (by simp only[List.getElem?_toArray,List.getElem?_cons_succ,List.getElem?_cons_zero];rfl) (λK hK=>?_) ?_
        ·obtain⟨z0,z1,z2,z3⟩:=Zih hx7;go_simp
         refine hK.out _ _ ?_ (λhHeld=>?_)
         ·try dsimp only
          exact Zbyk hHeld hg7 _ _
         clear hK K
         try simp only[Act.put,List.setIfInBounds_toArray,List.set_cons_zero,List.set_cons_succ]
         replace hx7:=Zcai (x:= .bool true) (y:= .string Y) hx7;replace hx6:=Zbyn (i:=1) (v:= .string Y) (Zbyn (i:=0) (v:= .bool true) hx6 (Ne.symm hne)) (Ne.symm hne);refine wpAnyH_done (by kernel_rfl) ?_ _
         go_wp2_with fail
         go_meet;exact⟨_,_,rfl,rfl,hx6,hx7,hHeld⟩
        exact AllReadyH.nil
       exact AllReadyH.nil
      exact AllReadyH.nil
     exact AllReadyH.nil
    refine AllReadyH.cons (o:=_) (by simp only[List.getElem?_toArray,List.getElem?_cons_succ,List.getElem?_cons_zero];rfl) (λK hK=>?_) ?_
    ·have hg6:=hHeld.size;(try simp only[drew_size]at hg6);(try simp only[World.size_alloc]at hg6);have hne:=Nat.ne_of_lt (Zfy hx7);(try simp only[drew_size]at hne);(try simp only[World.size_alloc]at hne);go_simp
     refine hK.out _ _ ?_ (λhHeld=>?_)
     ·try dsimp only
      exact hHeld.alloc hHeld.size _
     clear hK K
     try simp only[Act.put,List.setIfInBounds_toArray,List.set_cons_zero,List.set_cons_succ]
     have hx6:=Zbzr hHeld;replace hx7:=Zbyl hHeld hx7
     (try simp only[drew_size]at hx6);(try simp only[World.size_alloc]at hx6)
     obtain⟨V6,e6,hHeld⟩:=Zcba hHeld;rw[e6]at hx7 hx6⊢;clear e6;refine wpAnyH_ready (rs:=[4]) (by kernel_rfl) (by simp) ?_;refine AllReadyH.cons (o:=_) (by simp only[List.getElem?_toArray,List.getElem?_cons_succ,List.getElem?_cons_zero];rfl) (λK hK=>?_) ?_
     ·have hg4:=hHeld.size;(try simp only[drew_size]at hg4);(try simp only[World.size_alloc]at hg4);go_simp
      refine hK.out _ _ ?_ (λhHeld=>?_)
      ·try dsimp only
       exact hHeld.alloc hHeld.size _
      clear hK K
      try simp only[Act.put,List.setIfInBounds_toArray,List.set_cons_zero,List.set_cons_succ]
      have hx4:=Zbzr hHeld;replace hx6:=Zbyl hHeld hx6;replace hx7:=Zbyl hHeld hx7
      (try simp only[drew_size]at hx4);(try simp only[World.size_alloc]at hx4)
      obtain⟨V4,e4,hHeld⟩:=Zcba hHeld;rw[e4]at hx6 hx7 hx4⊢;clear e4;refine wpAnyH_ready (rs:=[5]) (by kernel_rfl) (by simp) ?_;refine AllReadyH.cons (o:=_) (by simp only[List.getElem?_toArray,List.getElem?_cons_succ,List.getElem?_cons_zero];rfl) (λK hK=>?_) ?_
      ·go_simp;refine(HDO.out _ 7 0 b _ 1 [s] Y (HUP.out _ hHeld) (Zbqj (xs:=[s]) hx4 (by show 1<=maxLen;decide)) (by omega) D2.out).mono ?_;rintro e w5 ⟨rfl,hbc⟩;replace hx4:=Zbym hx4 hbc;replace hx6:=Zbym hx6 hbc;replace hx7:=Zbym hx7 hbc;have hBc:=hHeld.trans (hbc.mono hHeld.size);clear hbc;dsimp only
       refine hK.out _ _ ?_ (λhHeld=>?_)
       ·try dsimp only
        exact hBc
       clear hK K
       try simp only[Act.put,List.setIfInBounds_toArray,List.set_cons_zero,List.set_cons_succ]
       clear hBc;refine wpAnyH_ready (rs:=[8]) (by kernel_rfl) (by simp) ?_;refine AllReadyH.cons (o:=_) (by simp only[List.getElem?_toArray,List.getElem?_cons_succ,List.getElem?_cons_zero];rfl) (λK hK=>?_) ?_
       ·obtain⟨z0,z1,z2,z3⟩:=Zih hx6;go_simp
        refine hK.out _ _ ?_ (λhHeld=>?_)
        ·try dsimp only
         exact Zbyk hHeld hg6 _ _
        clear hK K
        try simp only[Act.put,List.setIfInBounds_toArray,List.set_cons_zero,List.set_cons_succ]
        replace hx6:=Zcai (x:= .bool true) (y:= .string X) hx6;replace hx7:=Zbyn (i:=1) (v:= .string X) (Zbyn (i:=0) (v:= .bool true) hx7 hne) hne;refine wpAnyH_ready (rs:=[9]) (by kernel_rfl) (by simp) ?_;refine AllReadyH.cons (o:=_) (by simp only[List.getElem?_toArray,List.getElem?_cons_succ,List.getElem?_cons_zero];rfl) (λK hK=>?_) ?_
        ·obtain⟨z0,z1,z2,z3⟩:=Zih hx7;go_simp
         refine hK.out _ _ ?_ (λhHeld=>?_)
         ·try dsimp only
          exact Zbyk hHeld hg7 _ _
         clear hK K
         try simp only[Act.put,List.setIfInBounds_toArray,List.set_cons_zero,List.set_cons_succ]
         replace hx7:=Zcai (x:= .bool true) (y:= .string Y) hx7;replace hx6:=Zbyn (i:=1) (v:= .string Y) (Zbyn (i:=0) (v:= .bool true) hx6 (Ne.symm hne)) (Ne.symm hne);refine wpAnyH_done (by kernel_rfl) ?_ _
         go_wp2_with fail
         go_meet;exact⟨_,_,rfl,rfl,hx6,hx7,hHeld⟩
        exact AllReadyH.nil
       exact AllReadyH.nil
      exact AllReadyH.nil
     exact AllReadyH.nil
    exact AllReadyH.nil
   exact AllReadyH.nil
  refine AllReadyH.cons (o:=_) (by simp only[List.getElem?_toArray,List.getElem?_cons_succ,List.getElem?_cons_zero];rfl) (λK hK=>?_) ?_
  ·have hg4:=hHeld.size;(try simp only[drew_size]at hg4);(try simp only[World.size_alloc]at hg4);go_simp
   refine hK.out _ _ ?_ (λhHeld=>?_)
   ·try dsimp only
    exact hHeld.alloc hHeld.size _
   clear hK K
   try simp only[Act.put,List.setIfInBounds_toArray,List.set_cons_zero,List.set_cons_succ]
   have hx4:=Zbzs hHeld
   (try simp only[drew_size]at hx4);(try simp only[World.size_alloc]at hx4)
   obtain⟨V4,e4,hHeld⟩:=Zcba hHeld;rw[e4]at hx4⊢;clear e4;refine wpAnyH_ready (rs:=[1,6,7]) (by kernel_rfl) (by simp) ?_;refine AllReadyH.cons (o:=_) (by simp only[List.getElem?_toArray,List.getElem?_cons_succ,List.getElem?_cons_zero];rfl) (λK hK=>?_) ?_
   ·go_simp;refine(HDO.out _ 3 0 b none 0 [] X (HUP.out _ hHeld) (Zbqk _) (by omega) D1.out).mono ?_;rintro e w3 ⟨rfl,hbc⟩;replace hx4:=Zbym hx4 hbc;have hBc:=hHeld.trans (hbc.mono hHeld.size);clear hbc;dsimp only
    refine hK.out _ _ ?_ (λhHeld=>?_)
    ·try dsimp only
     exact hBc
    clear hK K
    try simp only[Act.put,List.setIfInBounds_toArray,List.set_cons_zero,List.set_cons_succ]
    clear hBc;refine wpAnyH_ready (rs:=[5,6,7]) (by kernel_rfl) (by simp) ?_;refine AllReadyH.cons (o:=_) (by simp only[List.getElem?_toArray,List.getElem?_cons_succ,List.getElem?_cons_zero];rfl) (λK hK=>?_) ?_
    ·go_simp;refine(HDO.out _ 7 0 b _ 1 [s] Y (HUP.out _ hHeld) (Zbqj (xs:=[s]) hx4 (by show 1<=maxLen;decide)) (by omega) D2.out).mono ?_;rintro e w5 ⟨rfl,hbc⟩;replace hx4:=Zbym hx4 hbc;have hBc:=hHeld.trans (hbc.mono hHeld.size);clear hbc;dsimp only
     refine hK.out _ _ ?_ (λhHeld=>?_)
     ·try dsimp only
      exact hBc
     clear hK K
     try simp only[Act.put,List.setIfInBounds_toArray,List.set_cons_zero,List.set_cons_succ]
     clear hBc;refine wpAnyH_ready (rs:=[6,7]) (by kernel_rfl) (by simp) ?_;refine AllReadyH.cons (o:=_) (by simp only[List.getElem?_toArray,List.getElem?_cons_succ,List.getElem?_cons_zero];rfl) (λK hK=>?_) ?_
     ·have hg6:=hHeld.size;(try simp only[drew_size]at hg6);(try simp only[World.size_alloc]at hg6);go_simp
      refine hK.out _ _ ?_ (λhHeld=>?_)
      ·try dsimp only
       exact hHeld.alloc hHeld.size _
      clear hK K
      try simp only[Act.put,List.setIfInBounds_toArray,List.set_cons_zero,List.set_cons_succ]
      have hx6:=Zbzr hHeld;replace hx4:=Zbyl hHeld hx4
      (try simp only[drew_size]at hx6);(try simp only[World.size_alloc]at hx6)
      obtain⟨V6,e6,hHeld⟩:=Zcba hHeld;rw[e6]at hx4 hx6⊢;clear e6;refine wpAnyH_ready (rs:=[7]) (by kernel_rfl) (by simp) ?_;refine AllReadyH.cons (o:=_) (by simp only[List.getElem?_toArray,List.getElem?_cons_succ,List.getElem?_cons_zero];rfl) (λK hK=>?_) ?_
      ·have hg7:=hHeld.size;(try simp only[drew_size]at hg7);(try simp only[World.size_alloc]at hg7);have hne:=Nat.ne_of_lt (Zfy hx6);(try simp only[drew_size]at hne);(try simp only[World.size_alloc]at hne);go_simp
       refine hK.out _ _ ?_ (λhHeld=>?_)
       ·try dsimp only
        exact hHeld.alloc hHeld.size _
       clear hK K
       try simp only[Act.put,List.setIfInBounds_toArray,List.set_cons_zero,List.set_cons_succ]
       have hx7:=Zbzr hHeld;replace hx4:=Zbyl hHeld hx4;replace hx6:=Zbyl hHeld hx6
       (try simp only[drew_size]at hx7);(try simp only[World.size_alloc]at hx7)
       obtain⟨V7,e7,hHeld⟩:=Zcba hHeld;rw[e7]at hx4 hx6 hx7⊢;clear e7;refine wpAnyH_ready (rs:=[8]) (by kernel_rfl) (by simp) ?_;refine AllReadyH.cons (o:=_) (by simp only[List.getElem?_toArray,List.getElem?_cons_succ,List.getElem?_cons_zero];rfl) (λK hK=>?_) ?_
       ·obtain⟨z0,z1,z2,z3⟩:=Zih hx6;go_simp
        refine hK.out _ _ ?_ (λhHeld=>?_)
        ·try dsimp only
         exact Zbyk hHeld hg6 _ _
        clear hK K
        try simp only[Act.put,List.setIfInBounds_toArray,List.set_cons_zero,List.set_cons_succ]
        replace hx6:=Zcai (x:= .bool true) (y:= .string X) hx6;replace hx7:=Zbyn (i:=1) (v:= .string X) (Zbyn (i:=0) (v:= .bool true) hx7 (Ne.symm hne)) (Ne.symm hne);refine wpAnyH_ready (rs:=[9]) (by kernel_rfl) (by simp) ?_;refine AllReadyH.cons (o:=_) (by simp only[List.getElem?_toArray,List.getElem?_cons_succ,List.getElem?_cons_zero];rfl) (λK hK=>?_) ?_
        ·obtain⟨z0,z1,z2,z3⟩:=Zih hx7;go_simp
         refine hK.out _ _ ?_ (λhHeld=>?_)
         ·try dsimp only
          exact Zbyk hHeld hg7 _ _
         clear hK K
         try simp only[Act.put,List.setIfInBounds_toArray,List.set_cons_zero,List.set_cons_succ]
         replace hx7:=Zcai (x:= .bool true) (y:= .string Y) hx7;replace hx6:=Zbyn (i:=1) (v:= .string Y) (Zbyn (i:=0) (v:= .bool true) hx6 hne) hne;refine wpAnyH_done (by kernel_rfl) ?_ _
         go_wp2_with fail
         go_meet;exact⟨_,_,rfl,rfl,hx6,hx7,hHeld⟩
        exact AllReadyH.nil
       exact AllReadyH.nil
      exact AllReadyH.nil
     refine AllReadyH.cons (o:=_) (by simp only[List.getElem?_toArray,List.getElem?_cons_succ,List.getElem?_cons_zero];rfl) (λK hK=>?_) ?_
     ·have hg7:=hHeld.size;(try simp only[drew_size]at hg7);(try simp only[World.size_alloc]at hg7);go_simp
      refine hK.out _ _ ?_ (λhHeld=>?_)
      ·try dsimp only
       exact hHeld.alloc hHeld.size _
      clear hK K
      try simp only[Act.put,List.setIfInBounds_toArray,List.set_cons_zero,List.set_cons_succ]
      have hx7:=Zbzr hHeld;replace hx4:=Zbyl hHeld hx4
      (try simp only[drew_size]at hx7);(try simp only[World.size_alloc]at hx7)
      obtain⟨V7,e7,hHeld⟩:=Zcba hHeld;rw[e7]at hx4 hx7⊢;clear e7;refine wpAnyH_ready (rs:=[6]) (by kernel_rfl) (by simp) ?_;refine AllReadyH.cons (o:=_) (by simp only[List.getElem?_toArray,List.getElem?_cons_succ,List.getElem?_cons_zero];rfl) (λK hK=>?_) ?_
      ·have hg6:=hHeld.size;(try simp only[drew_size]at hg6);(try simp only[World.size_alloc]at hg6);have hne:=Nat.ne_of_lt (Zfy hx7);(try simp only[drew_size]at hne);(try simp only[World.size_alloc]at hne);go_simp
       refine hK.out _ _ ?_ (λhHeld=>?_)
       ·try dsimp only
        exact hHeld.alloc hHeld.size _
       clear hK K
       try simp only[Act.put,List.setIfInBounds_toArray,List.set_cons_zero,List.set_cons_succ]
       have hx6:=Zbzr hHeld;replace hx4:=Zbyl hHeld hx4;replace hx7:=Zbyl hHeld hx7
       (try simp only[drew_size]at hx6);(try simp only[World.size_alloc]at hx6)
       obtain⟨V6,e6,hHeld⟩:=Zcba hHeld;rw[e6]at hx4 hx7 hx6⊢;clear e6;refine wpAnyH_ready (rs:=[8]) (by kernel_rfl) (by simp) ?_;refine AllReadyH.cons (o:=_) (by simp only[List.getElem?_toArray,List.getElem?_cons_succ,List.getElem?_cons_zero];rfl) (λK hK=>?_) ?_
       ·obtain⟨z0,z1,z2,z3⟩:=Zih hx6;go_simp
        refine hK.out _ _ ?_ (λhHeld=>?_)
        ·try dsimp only
         exact Zbyk hHeld hg6 _ _
        clear hK K
        try simp only[Act.put,List.setIfInBounds_toArray,List.set_cons_zero,List.set_cons_succ]
        replace hx6:=Zcai (x:= .bool true) (y:= .string X) hx6;replace hx7:=Zbyn (i:=1) (v:= .string X) (Zbyn (i:=0) (v:= .bool true) hx7 hne) hne;refine wpAnyH_ready (rs:=[9]) (by kernel_rfl) (by simp) ?_;refine AllReadyH.cons (o:=_) (by simp only[List.getElem?_toArray,List.getElem?_cons_succ,List.getElem?_cons_zero];rfl) (λK hK=>?_) ?_
        ·obtain⟨z0,z1,z2,z3⟩:=Zih hx7;go_simp
         refine hK.out _ _ ?_ (λhHeld=>?_)
         ·try dsimp only
          exact Zbyk hHeld hg7 _ _
         clear hK K
         try simp only[Act.put,List.setIfInBounds_toArray,List.set_cons_zero,List.set_cons_succ]
         replace hx7:=Zcai (x:= .bool true) (y:= .string Y) hx7;replace hx6:=Zbyn (i:=1) (v:= .string Y) (Zbyn (i:=0) (v:= .bool true) hx6 (Ne.symm hne)) (Ne.symm hne);refine wpAnyH_done (by kernel_rfl) ?_ _
         go_wp2_with fail
         go_meet;exact⟨_,_,rfl,rfl,hx6,hx7,hHeld⟩
        exact AllReadyH.nil
       exact AllReadyH.nil
      exact AllReadyH.nil
     exact AllReadyH.nil
    refine AllReadyH.cons (o:=_) (by simp only[List.getElem?_toArray,List.getElem?_cons_succ,List.getElem?_cons_zero];rfl) (λK hK=>?_) ?_
    ·have hg6:=hHeld.size;(try simp only[drew_size]at hg6);(try simp only[World.size_alloc]at hg6);go_simp
     refine hK.out _ _ ?_ (λhHeld=>?_)
     ·try dsimp only
      exact hHeld.alloc hHeld.size _
     clear hK K
     try simp only[Act.put,List.setIfInBounds_toArray,List.set_cons_zero,List.set_cons_succ]
     have hx6:=Zbzr hHeld;replace hx4:=Zbyl hHeld hx4
     (try simp only[drew_size]at hx6);(try simp only[World.size_alloc]at hx6)
     obtain⟨V6,e6,hHeld⟩:=Zcba hHeld;rw[e6]at hx4 hx6⊢;clear e6;refine wpAnyH_ready (rs:=[5,7]) (by kernel_rfl) (by simp) ?_;refine AllReadyH.cons (o:=_) (by simp only[List.getElem?_toArray,List.getElem?_cons_succ,List.getElem?_cons_zero];rfl) (λK hK=>?_) ?_
     ·go_simp;refine(HDO.out _ 7 0 b _ 1 [s] Y (HUP.out _ hHeld) (Zbqj (xs:=[s]) hx4 (by show 1<=maxLen;decide)) (by omega) D2.out).mono ?_;rintro e w5 ⟨rfl,hbc⟩;replace hx4:=Zbym hx4 hbc;replace hx6:=Zbym hx6 hbc;have hBc:=hHeld.trans (hbc.mono hHeld.size);clear hbc;dsimp only
      refine hK.out _ _ ?_ (λhHeld=>?_)
      ·try dsimp only
       exact hBc
      clear hK K
      try simp only[Act.put,List.setIfInBounds_toArray,List.set_cons_zero,List.set_cons_succ]
      clear hBc;refine wpAnyH_ready (rs:=[7]) (by kernel_rfl) (by simp) ?_;refine AllReadyH.cons (o:=_) (by simp only[List.getElem?_toArray,List.getElem?_cons_succ,List.getElem?_cons_zero];rfl) (λK hK=>?_) ?_
      ·have hg7:=hHeld.size;(try simp only[drew_size]at hg7);(try simp only[World.size_alloc]at hg7);have hne:=Nat.ne_of_lt (Zfy hx6);(try simp only[drew_size]at hne);(try simp only[World.size_alloc]at hne);go_simp
       refine hK.out _ _ ?_ (λhHeld=>?_)
       ·try dsimp only
        exact hHeld.alloc hHeld.size _
       clear hK K
       try simp only[Act.put,List.setIfInBounds_toArray,List.set_cons_zero,List.set_cons_succ]
       have hx7:=Zbzr hHeld;replace hx4:=Zbyl hHeld hx4;replace hx6:=Zbyl hHeld hx6
       (try simp only[drew_size]at hx7);(try simp only[World.size_alloc]at hx7)
       obtain⟨V7,e7,hHeld⟩:=Zcba hHeld;rw[e7]at hx4 hx6 hx7⊢;clear e7;refine wpAnyH_ready (rs:=[8]) (by kernel_rfl) (by simp) ?_;refine AllReadyH.cons (o:=_) (by simp only[List.getElem?_toArray,List.getElem?_cons_succ,List.getElem?_cons_zero];rfl) (λK hK=>?_) ?_
       ·obtain⟨z0,z1,z2,z3⟩:=Zih hx6;go_simp
        refine hK.out _ _ ?_ (λhHeld=>?_)
        ·try dsimp only
         exact Zbyk hHeld hg6 _ _
        clear hK K
        try simp only[Act.put,List.setIfInBounds_toArray,List.set_cons_zero,List.set_cons_succ]
        replace hx6:=Zcai (x:= .bool true) (y:= .string X) hx6;replace hx7:=Zbyn (i:=1) (v:= .string X) (Zbyn (i:=0) (v:= .bool true) hx7 (Ne.symm hne)) (Ne.symm hne);refine wpAnyH_ready (rs:=[9]) (by kernel_rfl) (by simp) ?_;refine AllReadyH.cons (o:=_) (by simp only[List.getElem?_toArray,List.getElem?_cons_succ,List.getElem?_cons_zero];rfl) (λK hK=>?_) ?_
        ·obtain⟨z0,z1,z2,z3⟩:=Zih hx7;go_simp
         refine hK.out _ _ ?_ (λhHeld=>?_)
         ·try dsimp only
          exact Zbyk hHeld hg7 _ _
         clear hK K
         try simp only[Act.put,List.setIfInBounds_toArray,List.set_cons_zero,List.set_cons_succ]
         replace hx7:=Zcai (x:= .bool true) (y:= .string Y) hx7;replace hx6:=Zbyn (i:=1) (v:= .string Y) (Zbyn (i:=0) (v:= .bool true) hx6 hne) hne;refine wpAnyH_done (by kernel_rfl) ?_ _
         go_wp2_with fail
         go_meet;exact⟨_,_,rfl,rfl,hx6,hx7,hHeld⟩
        exact AllReadyH.nil
       exact AllReadyH.nil
      exact AllReadyH.nil
     refine AllReadyH.cons (o:=_) (by simp only[List.getElem?_toArray,List.getElem?_cons_succ,List.getElem?_cons_zero];rfl) (λK hK=>?_) ?_
     ·have hg7:=hHeld.size;(try simp only[drew_size]at hg7);(try simp only[World.size_alloc]at hg7);have hne:=Nat.ne_of_lt (Zfy hx6);(try simp only[drew_size]at hne);(try simp only[World.size_alloc]at hne);go_simp
      refine hK.out _ _ ?_ (λhHeld=>?_)
      ·try dsimp only
       exact hHeld.alloc hHeld.size _
      clear hK K
      try simp only[Act.put,List.setIfInBounds_toArray,List.set_cons_zero,List.set_cons_succ]
      have hx7:=Zbzr hHeld;replace hx4:=Zbyl hHeld hx4;replace hx6:=Zbyl hHeld hx6
      (try simp only[drew_size]at hx7);(try simp only[World.size_alloc]at hx7)
      obtain⟨V7,e7,hHeld⟩:=Zcba hHeld;rw[e7]at hx4 hx6 hx7⊢;clear e7;refine wpAnyH_ready (rs:=[5]) (by kernel_rfl) (by simp) ?_;refine AllReadyH.cons (o:=_) (by simp only[List.getElem?_toArray,List.getElem?_cons_succ,List.getElem?_cons_zero];rfl) (λK hK=>?_) ?_
      ·go_simp;refine(HDO.out _ 7 0 b _ 1 [s] Y (HUP.out _ hHeld) (Zbqj (xs:=[s]) hx4 (by show 1<=maxLen;decide)) (by omega) D2.out).mono ?_;rintro e w5 ⟨rfl,hbc⟩;replace hx4:=Zbym hx4 hbc;replace hx6:=Zbym hx6 hbc;replace hx7:=Zbym hx7 hbc;have hBc:=hHeld.trans (hbc.mono hHeld.size);clear hbc;dsimp only
       refine hK.out _ _ ?_ (λhHeld=>?_)
       ·try dsimp only
        exact hBc
       clear hK K
       try simp only[Act.put,List.setIfInBounds_toArray,List.set_cons_zero,List.set_cons_succ]
       clear hBc;refine wpAnyH_ready (rs:=[8]) (by kernel_rfl) (by simp) ?_;refine AllReadyH.cons (o:=_) (by simp only[List.getElem?_toArray,List.getElem?_cons_succ,List.getElem?_cons_zero];rfl) (λK hK=>?_) ?_
       ·obtain⟨z0,z1,z2,z3⟩:=Zih hx6;go_simp
        refine hK.out _ _ ?_ (λhHeld=>?_)
        ·try dsimp only
         exact Zbyk hHeld hg6 _ _
        clear hK K
        try simp only[Act.put,List.setIfInBounds_toArray,List.set_cons_zero,List.set_cons_succ]
        replace hx6:=Zcai (x:= .bool true) (y:= .string X) hx6;replace hx7:=Zbyn (i:=1) (v:= .string X) (Zbyn (i:=0) (v:= .bool true) hx7 (Ne.symm hne)) (Ne.symm hne);refine wpAnyH_ready (rs:=[9]) (by kernel_rfl) (by simp) ?_;refine AllReadyH.cons (o:=_) (by simp only[List.getElem?_toArray,List.getElem?_cons_succ,List.getElem?_cons_zero];rfl) (λK hK=>?_) ?_
        ·obtain⟨z0,z1,z2,z3⟩:=Zih hx7;go_simp
         refine hK.out _ _ ?_ (λhHeld=>?_)
         ·try dsimp only
          exact Zbyk hHeld hg7 _ _
         clear hK K
         try simp only[Act.put,List.setIfInBounds_toArray,List.set_cons_zero,List.set_cons_succ]
         replace hx7:=Zcai (x:= .bool true) (y:= .string Y) hx7;replace hx6:=Zbyn (i:=1) (v:= .string Y) (Zbyn (i:=0) (v:= .bool true) hx6 hne) hne;refine wpAnyH_done (by kernel_rfl) ?_ _
         go_wp2_with fail
         go_meet;exact⟨_,_,rfl,rfl,hx6,hx7,hHeld⟩
        exact AllReadyH.nil
       exact AllReadyH.nil
      exact AllReadyH.nil
     exact AllReadyH.nil
    refine AllReadyH.cons (o:=_) (by simp only[List.getElem?_toArray,List.getElem?_cons_succ,List.getElem?_cons_zero];rfl) (λK hK=>?_) ?_
    ·have hg7:=hHeld.size;(try simp only[drew_size]at hg7);(try simp only[World.size_alloc]at hg7);go_simp
     refine hK.out _ _ ?_ (λhHeld=>?_)
     ·try dsimp only
      exact hHeld.alloc hHeld.size _
     clear hK K
     try simp only[Act.put,List.setIfInBounds_toArray,List.set_cons_zero,List.set_cons_succ]
     have hx7:=Zbzr hHeld;replace hx4:=Zbyl hHeld hx4
     (try simp only[drew_size]at hx7);(try simp only[World.size_alloc]at hx7)
     obtain⟨V7,e7,hHeld⟩:=Zcba hHeld;rw[e7]at hx4 hx7⊢;clear e7;refine wpAnyH_ready (rs:=[5,6]) (by kernel_rfl) (by simp) ?_;refine AllReadyH.cons (o:=_) (by simp only[List.getElem?_toArray,List.getElem?_cons_succ,List.getElem?_cons_zero];rfl) (λK hK=>?_) ?_
     ·go_simp;refine(HDO.out _ 7 0 b _ 1 [s] Y (HUP.out _ hHeld) (Zbqj (xs:=[s]) hx4 (by show 1<=maxLen;decide)) (by omega) D2.out).mono ?_;rintro e w5 ⟨rfl,hbc⟩;replace hx4:=Zbym hx4 hbc;replace hx7:=Zbym hx7 hbc;have hBc:=hHeld.trans (hbc.mono hHeld.size);clear hbc;dsimp only
      refine hK.out _ _ ?_ (λhHeld=>?_)
      ·try dsimp only
       exact hBc
      clear hK K
      try simp only[Act.put,List.setIfInBounds_toArray,List.set_cons_zero,List.set_cons_succ]
      clear hBc;refine wpAnyH_ready (rs:=[6]) (by kernel_rfl) (by simp) ?_;refine AllReadyH.cons (o:=_) (by simp only[List.getElem?_toArray,List.getElem?_cons_succ,List.getElem?_cons_zero];rfl) (λK hK=>?_) ?_
      ·have hg6:=hHeld.size;(try simp only[drew_size]at hg6);(try simp only[World.size_alloc]at hg6);have hne:=Nat.ne_of_lt (Zfy hx7);(try simp only[drew_size]at hne);(try simp only[World.size_alloc]at hne);go_simp
       refine hK.out _ _ ?_ (λhHeld=>?_)
       ·try dsimp only
        exact hHeld.alloc hHeld.size _
       clear hK K
       try simp only[Act.put,List.setIfInBounds_toArray,List.set_cons_zero,List.set_cons_succ]
       have hx6:=Zbzr hHeld;replace hx4:=Zbyl hHeld hx4;replace hx7:=Zbyl hHeld hx7
       (try simp only[drew_size]at hx6);(try simp only[World.size_alloc]at hx6)
       obtain⟨V6,e6,hHeld⟩:=Zcba hHeld;rw[e6]at hx4 hx7 hx6⊢;clear e6;refine wpAnyH_ready (rs:=[8]) (by kernel_rfl) (by simp) ?_;refine AllReadyH.cons (o:=_) (by simp only[List.getElem?_toArray,List.getElem?_cons_succ,List.getElem?_cons_zero];rfl) (λK hK=>?_) ?_
       ·obtain⟨z0,z1,z2,z3⟩:=Zih hx6;go_simp
        refine hK.out _ _ ?_ (λhHeld=>?_)
        ·try dsimp only
         exact Zbyk hHeld hg6 _ _
        clear hK K
        try simp only[Act.put,List.setIfInBounds_toArray,List.set_cons_zero,List.set_cons_succ]
        replace hx6:=Zcai (x:= .bool true) (y:= .string X) hx6;replace hx7:=Zbyn (i:=1) (v:= .string X) (Zbyn (i:=0) (v:= .bool true) hx7 hne) hne;refine wpAnyH_ready (rs:=[9]) (by kernel_rfl) (by simp) ?_;refine AllReadyH.cons (o:=_) (by simp only[List.getElem?_toArray,List.getElem?_cons_succ,List.getElem?_cons_zero];rfl) (λK hK=>?_) ?_
        ·obtain⟨z0,z1,z2,z3⟩:=Zih hx7;go_simp
         refine hK.out _ _ ?_ (λhHeld=>?_)
         ·try dsimp only
          exact Zbyk hHeld hg7 _ _
         clear hK K
         try simp only[Act.put,List.setIfInBounds_toArray,List.set_cons_zero,List.set_cons_succ]
         replace hx7:=Zcai (x:= .bool true) (y:= .string Y) hx7;replace hx6:=Zbyn (i:=1) (v:= .string Y) (Zbyn (i:=0) (v:= .bool true) hx6 (Ne.symm hne)) (Ne.symm hne);refine wpAnyH_done (by kernel_rfl) ?_ _
         go_wp2_with fail
         go_meet;exact⟨_,_,rfl,rfl,hx6,hx7,hHeld⟩
        exact AllReadyH.nil
       exact AllReadyH.nil
      exact AllReadyH.nil
     refine AllReadyH.cons (o:=_) (by simp only[List.getElem?_toArray,List.getElem?_cons_succ,List.getElem?_cons_zero];rfl) (λK hK=>?_) ?_
     ·have hg6:=hHeld.size;(try simp only[drew_size]at hg6);(try simp only[World.size_alloc]at hg6);have hne:=Nat.ne_of_lt (Zfy hx7);(try simp only[drew_size]at hne);(try simp only[World.size_alloc]at hne);go_simp
      refine hK.out _ _ ?_ (λhHeld=>?_)
      ·try dsimp only
       exact hHeld.alloc hHeld.size _
      clear hK K
      try simp only[Act.put,List.setIfInBounds_toArray,List.set_cons_zero,List.set_cons_succ]
      have hx6:=Zbzr hHeld;replace hx4:=Zbyl hHeld hx4;replace hx7:=Zbyl hHeld hx7
      (try simp only[drew_size]at hx6);(try simp only[World.size_alloc]at hx6)
      obtain⟨V6,e6,hHeld⟩:=Zcba hHeld;rw[e6]at hx4 hx7 hx6⊢;clear e6;refine wpAnyH_ready (rs:=[5]) (by kernel_rfl) (by simp) ?_;refine AllReadyH.cons (o:=_) (by simp only[List.getElem?_toArray,List.getElem?_cons_succ,List.getElem?_cons_zero];rfl) (λK hK=>?_) ?_
      ·go_simp;refine(HDO.out _ 7 0 b _ 1 [s] Y (HUP.out _ hHeld) (Zbqj (xs:=[s]) hx4 (by show 1<=maxLen;decide)) (by omega) D2.out).mono ?_;rintro e w5 ⟨rfl,hbc⟩;replace hx4:=Zbym hx4 hbc;replace hx6:=Zbym hx6 hbc;replace hx7:=Zbym hx7 hbc;have hBc:=hHeld.trans (hbc.mono hHeld.size);clear hbc;dsimp only
       refine hK.out _ _ ?_ (λhHeld=>?_)
       ·try dsimp only
        exact hBc
       clear hK K
       try simp only[Act.put,List.setIfInBounds_toArray,List.set_cons_zero,List.set_cons_succ]
       clear hBc;refine wpAnyH_ready (rs:=[8]) (by kernel_rfl) (by simp) ?_;refine AllReadyH.cons (o:=_) (by simp only[List.getElem?_toArray,List.getElem?_cons_succ,List.getElem?_cons_zero];rfl) (λK hK=>?_) ?_
       ·obtain⟨z0,z1,z2,z3⟩:=Zih hx6;go_simp
        refine hK.out _ _ ?_ (λhHeld=>?_)
        ·try dsimp only
         exact Zbyk hHeld hg6 _ _
        clear hK K
        try simp only[Act.put,List.setIfInBounds_toArray,List.set_cons_zero,List.set_cons_succ]
        replace hx6:=Zcai (x:= .bool true) (y:= .string X) hx6;replace hx7:=Zbyn (i:=1) (v:= .string X) (Zbyn (i:=0) (v:= .bool true) hx7 hne) hne;refine wpAnyH_ready (rs:=[9]) (by kernel_rfl) (by simp) ?_;refine AllReadyH.cons (o:=_) (by simp only[List.getElem?_toArray,List.getElem?_cons_succ,List.getElem?_cons_zero];rfl) (λK hK=>?_) ?_
        ·obtain⟨z0,z1,z2,z3⟩:=Zih hx7;go_simp
         refine hK.out _ _ ?_ (λhHeld=>?_)
         ·try dsimp only
          exact Zbyk hHeld hg7 _ _
         clear hK K
         try simp only[Act.put,List.setIfInBounds_toArray,List.set_cons_zero,List.set_cons_succ]
         replace hx7:=Zcai (x:= .bool true) (y:= .string Y) hx7;replace hx6:=Zbyn (i:=1) (v:= .string Y) (Zbyn (i:=0) (v:= .bool true) hx6 (Ne.symm hne)) (Ne.symm hne);refine wpAnyH_done (by kernel_rfl) ?_ _
         go_wp2_with fail
         go_meet;exact⟨_,_,rfl,rfl,hx6,hx7,hHeld⟩
        exact AllReadyH.nil
       exact AllReadyH.nil
      exact AllReadyH.nil
     exact AllReadyH.nil
    exact AllReadyH.nil
   refine AllReadyH.cons (o:=_) (by simp only[List.getElem?_toArray,List.getElem?_cons_succ,List.getElem?_cons_zero];rfl) (λK hK=>?_) ?_
   ·have hg6:=hHeld.size;(try simp only[drew_size]at hg6);(try simp only[World.size_alloc]at hg6);go_simp
    refine hK.out _ _ ?_ (λhHeld=>?_)
    ·try dsimp only
     exact hHeld.alloc hHeld.size _
    clear hK K
    try simp only[Act.put,List.setIfInBounds_toArray,List.set_cons_zero,List.set_cons_succ]
    have hx6:=Zbzr hHeld;replace hx4:=Zbyl hHeld hx4
    (try simp only[drew_size]at hx6);(try simp only[World.size_alloc]at hx6)
    obtain⟨V6,e6,hHeld⟩:=Zcba hHeld;rw[e6]at hx4 hx6⊢;clear e6;refine wpAnyH_ready (rs:=[1,7]) (by kernel_rfl) (by simp) ?_;refine AllReadyH.cons (o:=_) (by simp only[List.getElem?_toArray,List.getElem?_cons_succ,List.getElem?_cons_zero];rfl) (λK hK=>?_) ?_
    ·go_simp;refine(HDO.out _ 3 0 b none 0 [] X (HUP.out _ hHeld) (Zbqk _) (by omega) D1.out).mono ?_;rintro e w3 ⟨rfl,hbc⟩;replace hx4:=Zbym hx4 hbc;replace hx6:=Zbym hx6 hbc;have hBc:=hHeld.trans (hbc.mono hHeld.size);clear hbc;dsimp only
     refine hK.out _ _ ?_ (λhHeld=>?_)
     ·try dsimp only
      exact hBc
     clear hK K
     try simp only[Act.put,List.setIfInBounds_toArray,List.set_cons_zero,List.set_cons_succ]
     clear hBc;refine wpAnyH_ready (rs:=[5,7]) (by kernel_rfl) (by simp) ?_;refine AllReadyH.cons (o:=_) (by simp only[List.getElem?_toArray,List.getElem?_cons_succ,List.getElem?_cons_zero];rfl) (λK hK=>?_) ?_
     ·go_simp;refine(HDO.out _ 7 0 b _ 1 [s] Y (HUP.out _ hHeld) (Zbqj (xs:=[s]) hx4 (by show 1<=maxLen;decide)) (by omega) D2.out).mono ?_;rintro e w5 ⟨rfl,hbc⟩;replace hx4:=Zbym hx4 hbc;replace hx6:=Zbym hx6 hbc;have hBc:=hHeld.trans (hbc.mono hHeld.size);clear hbc;dsimp only
      refine hK.out _ _ ?_ (λhHeld=>?_)
      ·try dsimp only
       exact hBc
      clear hK K
      try simp only[Act.put,List.setIfInBounds_toArray,List.set_cons_zero,List.set_cons_succ]
      clear hBc;refine wpAnyH_ready (rs:=[7]) (by kernel_rfl) (by simp) ?_;refine AllReadyH.cons (o:=_) (by simp only[List.getElem?_toArray,List.getElem?_cons_succ,List.getElem?_cons_zero];rfl) (λK hK=>?_) ?_
      ·have hg7:=hHeld.size;(try simp only[drew_size]at hg7);(try simp only[World.size_alloc]at hg7);have hne:=Nat.ne_of_lt (Zfy hx6);(try simp only[drew_size]at hne);(try simp only[World.size_alloc]at hne);go_simp
       refine hK.out _ _ ?_ (λhHeld=>?_)
       ·try dsimp only
        exact hHeld.alloc hHeld.size _
       clear hK K
       try simp only[Act.put,List.setIfInBounds_toArray,List.set_cons_zero,List.set_cons_succ]
       have hx7:=Zbzr hHeld;replace hx4:=Zbyl hHeld hx4;replace hx6:=Zbyl hHeld hx6
       (try simp only[drew_size]at hx7);(try simp only[World.size_alloc]at hx7)
       obtain⟨V7,e7,hHeld⟩:=Zcba hHeld;rw[e7]at hx4 hx6 hx7⊢;clear e7;refine wpAnyH_ready (rs:=[8]) (by kernel_rfl) (by simp) ?_;refine AllReadyH.cons (o:=_) (by simp only[List.getElem?_toArray,List.getElem?_cons_succ,List.getElem?_cons_zero];rfl) (λK hK=>?_) ?_
       ·obtain⟨z0,z1,z2,z3⟩:=Zih hx6;go_simp
        refine hK.out _ _ ?_ (λhHeld=>?_)
        ·try dsimp only
         exact Zbyk hHeld hg6 _ _
        clear hK K
        try simp only[Act.put,List.setIfInBounds_toArray,List.set_cons_zero,List.set_cons_succ]
        replace hx6:=Zcai (x:= .bool true) (y:= .string X) hx6;replace hx7:=Zbyn (i:=1) (v:= .string X) (Zbyn (i:=0) (v:= .bool true) hx7 (Ne.symm hne)) (Ne.symm hne);refine wpAnyH_ready (rs:=[9]) (by kernel_rfl) (by simp) ?_;refine AllReadyH.cons (o:=_) (by simp only[List.getElem?_toArray,List.getElem?_cons_succ,List.getElem?_cons_zero];rfl) (λK hK=>?_) ?_
        ·obtain⟨z0,z1,z2,z3⟩:=Zih hx7;go_simp
         refine hK.out _ _ ?_ (λhHeld=>?_)
         ·try dsimp only
          exact Zbyk hHeld hg7 _ _
         clear hK K
         try simp only[Act.put,List.setIfInBounds_toArray,List.set_cons_zero,List.set_cons_succ]
         replace hx7:=Zcai (x:= .bool true) (y:= .string Y) hx7;replace hx6:=Zbyn (i:=1) (v:= .string Y) (Zbyn (i:=0) (v:= .bool true) hx6 hne) hne;refine wpAnyH_done (by kernel_rfl) ?_ _
         go_wp2_with fail
         go_meet;exact⟨_,_,rfl,rfl,hx6,hx7,hHeld⟩
        exact AllReadyH.nil
       exact AllReadyH.nil
      exact AllReadyH.nil
     refine AllReadyH.cons (o:=_) (by simp only[List.getElem?_toArray,List.getElem?_cons_succ,List.getElem?_cons_zero];rfl) (λK hK=>?_) ?_
     ·have hg7:=hHeld.size;(try simp only[drew_size]at hg7);(try simp only[World.size_alloc]at hg7);have hne:=Nat.ne_of_lt (Zfy hx6);(try simp only[drew_size]at hne);(try simp only[World.size_alloc]at hne);go_simp
      refine hK.out _ _ ?_ (λhHeld=>?_)
      ·try dsimp only
       exact hHeld.alloc hHeld.size _
      clear hK K
      try simp only[Act.put,List.setIfInBounds_toArray,List.set_cons_zero,List.set_cons_succ]
      have hx7:=Zbzr hHeld;replace hx4:=Zbyl hHeld hx4;replace hx6:=Zbyl hHeld hx6
      (try simp only[drew_size]at hx7);(try simp only[World.size_alloc]at hx7)
      obtain⟨V7,e7,hHeld⟩:=Zcba hHeld;rw[e7]at hx4 hx6 hx7⊢;clear e7;refine wpAnyH_ready (rs:=[5]) (by kernel_rfl) (by simp) ?_;refine AllReadyH.cons (o:=_) (by simp only[List.getElem?_toArray,List.getElem?_cons_succ,List.getElem?_cons_zero];rfl) (λK hK=>?_) ?_
      ·go_simp;refine(HDO.out _ 7 0 b _ 1 [s] Y (HUP.out _ hHeld) (Zbqj (xs:=[s]) hx4 (by show 1<=maxLen;decide)) (by omega) D2.out).mono ?_;rintro e w5 ⟨rfl,hbc⟩;replace hx4:=Zbym hx4 hbc;replace hx6:=Zbym hx6 hbc;replace hx7:=Zbym hx7 hbc;have hBc:=hHeld.trans (hbc.mono hHeld.size);clear hbc;dsimp only
       refine hK.out _ _ ?_ (λhHeld=>?_)
       ·try dsimp only
        exact hBc
       clear hK K
       try simp only[Act.put,List.setIfInBounds_toArray,List.set_cons_zero,List.set_cons_succ]
       clear hBc;refine wpAnyH_ready (rs:=[8]) (by kernel_rfl) (by simp) ?_;refine AllReadyH.cons (o:=_) (by simp only[List.getElem?_toArray,List.getElem?_cons_succ,List.getElem?_cons_zero];rfl) (λK hK=>?_) ?_
       ·obtain⟨z0,z1,z2,z3⟩:=Zih hx6;go_simp
        refine hK.out _ _ ?_ (λhHeld=>?_)
        ·try dsimp only
         exact Zbyk hHeld hg6 _ _
        clear hK K
        try simp only[Act.put,List.setIfInBounds_toArray,List.set_cons_zero,List.set_cons_succ]
        replace hx6:=Zcai (x:= .bool true) (y:= .string X) hx6;replace hx7:=Zbyn (i:=1) (v:= .string X) (Zbyn (i:=0) (v:= .bool true) hx7 (Ne.symm hne)) (Ne.symm hne);refine wpAnyH_ready (rs:=[9]) (by kernel_rfl) (by simp) ?_;refine AllReadyH.cons (o:=_) (by simp only[List.getElem?_toArray,List.getElem?_cons_succ,List.getElem?_cons_zero];rfl) (λK hK=>?_) ?_
        ·obtain⟨z0,z1,z2,z3⟩:=Zih hx7;go_simp
         refine hK.out _ _ ?_ (λhHeld=>?_)
         ·try dsimp only
          exact Zbyk hHeld hg7 _ _
         clear hK K
         try simp only[Act.put,List.setIfInBounds_toArray,List.set_cons_zero,List.set_cons_succ]
         replace hx7:=Zcai (x:= .bool true) (y:= .string Y) hx7;replace hx6:=Zbyn (i:=1) (v:= .string Y) (Zbyn (i:=0) (v:= .bool true) hx6 hne) hne;refine wpAnyH_done (by kernel_rfl) ?_ _
         go_wp2_with fail
         go_meet;exact⟨_,_,rfl,rfl,hx6,hx7,hHeld⟩
        exact AllReadyH.nil
       exact AllReadyH.nil
      exact AllReadyH.nil
     exact AllReadyH.nil
    refine AllReadyH.cons (o:=_) (by simp only[List.getElem?_toArray,List.getElem?_cons_succ,List.getElem?_cons_zero];rfl) (λK hK=>?_) ?_
    ·have hg7:=hHeld.size;(try simp only[drew_size]at hg7);(try simp only[World.size_alloc]at hg7);have hne:=Nat.ne_of_lt (Zfy hx6);(try simp only[drew_size]at hne);(try simp only[World.size_alloc]at hne);go_simp
     refine hK.out _ _ ?_ (λhHeld=>?_)
     ·try dsimp only
      exact hHeld.alloc hHeld.size _
     clear hK K
     try simp only[Act.put,List.setIfInBounds_toArray,List.set_cons_zero,List.set_cons_succ]
     have hx7:=Zbzr hHeld;replace hx4:=Zbyl hHeld hx4;replace hx6:=Zbyl hHeld hx6
     (try simp only[drew_size]at hx7);(try simp only[World.size_alloc]at hx7)
     obtain⟨V7,e7,hHeld⟩:=Zcba hHeld;rw[e7]at hx4 hx6 hx7⊢;clear e7;refine wpAnyH_ready (rs:=[1]) (by kernel_rfl) (by simp) ?_;refine AllReadyH.cons (o:=_) (by simp only[List.getElem?_toArray,List.getElem?_cons_succ,List.getElem?_cons_zero];rfl) (λK hK=>?_) ?_
     ·go_simp;refine(HDO.out _ 3 0 b none 0 [] X (HUP.out _ hHeld) (Zbqk _) (by omega) D1.out).mono ?_;rintro e w3 ⟨rfl,hbc⟩;replace hx4:=Zbym hx4 hbc;replace hx6:=Zbym hx6 hbc;replace hx7:=Zbym hx7 hbc;have hBc:=hHeld.trans (hbc.mono hHeld.size);clear hbc;dsimp only
      refine hK.out _ _ ?_ (λhHeld=>?_)
      ·try dsimp only
       exact hBc
      clear hK K
      try simp only[Act.put,List.setIfInBounds_toArray,List.set_cons_zero,List.set_cons_succ]
      clear hBc;refine wpAnyH_ready (rs:=[5]) (by kernel_rfl) (by simp) ?_;refine AllReadyH.cons (o:=_) (by simp only[List.getElem?_toArray,List.getElem?_cons_succ,List.getElem?_cons_zero];rfl) (λK hK=>?_) ?_
      ·go_simp;refine(HDO.out _ 7 0 b _ 1 [s] Y (HUP.out _ hHeld) (Zbqj (xs:=[s]) hx4 (by show 1<=maxLen;decide)) (by omega) D2.out).mono ?_;rintro e w5 ⟨rfl,hbc⟩;replace hx4:=Zbym hx4 hbc;replace hx6:=Zbym hx6 hbc;replace hx7:=Zbym hx7 hbc;have hBc:=hHeld.trans (hbc.mono hHeld.size);clear hbc;dsimp only
       refine hK.out _ _ ?_ (λhHeld=>?_)
       ·try dsimp only
        exact hBc
       clear hK K
       try simp only[Act.put,List.setIfInBounds_toArray,List.set_cons_zero,List.set_cons_succ]
       clear hBc;refine wpAnyH_ready (rs:=[8]) (by kernel_rfl) (by simp) ?_;refine AllReadyH.cons (o:=_) (by simp only[List.getElem?_toArray,List.getElem?_cons_succ,List.getElem?_cons_zero];rfl) (λK hK=>?_) ?_
       ·obtain⟨z0,z1,z2,z3⟩:=Zih hx6;go_simp
        refine hK.out _ _ ?_ (λhHeld=>?_)
        ·try dsimp only
         exact Zbyk hHeld hg6 _ _
        clear hK K
        try simp only[Act.put,List.setIfInBounds_toArray,List.set_cons_zero,List.set_cons_succ]
        replace hx6:=Zcai (x:= .bool true) (y:= .string X) hx6;replace hx7:=Zbyn (i:=1) (v:= .string X) (Zbyn (i:=0) (v:= .bool true) hx7 (Ne.symm hne)) (Ne.symm hne);refine wpAnyH_ready (rs:=[9]) (by kernel_rfl) (by simp) ?_;refine AllReadyH.cons (o:=_) (by simp only[List.getElem?_toArray,List.getElem?_cons_succ,List.getElem?_cons_zero];rfl) (λK hK=>?_) ?_
        ·obtain⟨z0,z1,z2,z3⟩:=Zih hx7;go_simp
         refine hK.out _ _ ?_ (λhHeld=>?_)
         ·try dsimp only
          exact Zbyk hHeld hg7 _ _
         clear hK K
         try simp only[Act.put,List.setIfInBounds_toArray,List.set_cons_zero,List.set_cons_succ]
         replace hx7:=Zcai (x:= .bool true) (y:= .string Y) hx7;replace hx6:=Zbyn (i:=1) (v:= .string Y) (Zbyn (i:=0) (v:= .bool true) hx6 hne) hne;refine wpAnyH_done (by kernel_rfl) ?_ _
         go_wp2_with fail
         go_meet;exact⟨_,_,rfl,rfl,hx6,hx7,hHeld⟩
        exact AllReadyH.nil
       exact AllReadyH.nil
      exact AllReadyH.nil
     exact AllReadyH.nil
    exact AllReadyH.nil
   refine AllReadyH.cons (o:=_) (by simp only[List.getElem?_toArray,List.getElem?_cons_succ,List.getElem?_cons_zero];rfl) (λK hK=>?_) ?_
   ·have hg7:=hHeld.size;(try simp only[drew_size]at hg7);(try simp only[World.size_alloc]at hg7);go_simp
    refine hK.out _ _ ?_ (λhHeld=>?_)
    ·try dsimp only
     exact hHeld.alloc hHeld.size _
    clear hK K
    try simp only[Act.put,List.setIfInBounds_toArray,List.set_cons_zero,List.set_cons_succ]
    have hx7:=Zbzr hHeld;replace hx4:=Zbyl hHeld hx4
    (try simp only[drew_size]at hx7);(try simp only[World.size_alloc]at hx7)
    obtain⟨V7,e7,hHeld⟩:=Zcba hHeld;rw[e7]at hx4 hx7⊢;clear e7;refine wpAnyH_ready (rs:=[1,6]) (by kernel_rfl) (by simp) ?_;refine AllReadyH.cons (o:=_) (by simp only[List.getElem?_toArray,List.getElem?_cons_succ,List.getElem?_cons_zero];rfl) (λK hK=>?_) ?_
    ·go_simp;refine(HDO.out _ 3 0 b none 0 [] X (HUP.out _ hHeld) (Zbqk _) (by omega) D1.out).mono ?_;rintro e w3 ⟨rfl,hbc⟩;replace hx4:=Zbym hx4 hbc;replace hx7:=Zbym hx7 hbc;have hBc:=hHeld.trans (hbc.mono hHeld.size);clear hbc;dsimp only
     refine hK.out _ _ ?_ (λhHeld=>?_)
     ·try dsimp only
      exact hBc
     clear hK K
     try simp only[Act.put,List.setIfInBounds_toArray,List.set_cons_zero,List.set_cons_succ]
     clear hBc;refine wpAnyH_ready (rs:=[5,6]) (by kernel_rfl) (by simp) ?_;refine AllReadyH.cons (o:=_) (by simp only[List.getElem?_toArray,List.getElem?_cons_succ,List.getElem?_cons_zero];rfl) (λK hK=>?_) ?_
     ·go_simp;refine(HDO.out _ 7 0 b _ 1 [s] Y (HUP.out _ hHeld) (Zbqj (xs:=[s]) hx4 (by show 1<=maxLen;decide)) (by omega) D2.out).mono ?_;rintro e w5 ⟨rfl,hbc⟩;replace hx4:=Zbym hx4 hbc;replace hx7:=Zbym hx7 hbc;have hBc:=hHeld.trans (hbc.mono hHeld.size);clear hbc;dsimp only
      refine hK.out _ _ ?_ (λhHeld=>?_)
      ·try dsimp only
       exact hBc
      clear hK K
      try simp only[Act.put,List.setIfInBounds_toArray,List.set_cons_zero,List.set_cons_succ]
      clear hBc;refine wpAnyH_ready (rs:=[6]) (by kernel_rfl) (by simp) ?_;refine AllReadyH.cons (o:=_) (by simp only[List.getElem?_toArray,List.getElem?_cons_succ,List.getElem?_cons_zero];rfl) (λK hK=>?_) ?_
      ·have hg6:=hHeld.size;(try simp only[drew_size]at hg6);(try simp only[World.size_alloc]at hg6);have hne:=Nat.ne_of_lt (Zfy hx7);(try simp only[drew_size]at hne);(try simp only[World.size_alloc]at hne);go_simp
       refine hK.out _ _ ?_ (λhHeld=>?_)
       ·try dsimp only
        exact hHeld.alloc hHeld.size _
       clear hK K
       try simp only[Act.put,List.setIfInBounds_toArray,List.set_cons_zero,List.set_cons_succ]
       have hx6:=Zbzr hHeld;replace hx4:=Zbyl hHeld hx4;replace hx7:=Zbyl hHeld hx7
       (try simp only[drew_size]at hx6);(try simp only[World.size_alloc]at hx6)
       obtain⟨V6,e6,hHeld⟩:=Zcba hHeld;rw[e6]at hx4 hx7 hx6⊢;clear e6;refine wpAnyH_ready (rs:=[8]) (by kernel_rfl) (by simp) ?_;refine AllReadyH.cons (o:=_) (by simp only[List.getElem?_toArray,List.getElem?_cons_succ,List.getElem?_cons_zero];rfl) (λK hK=>?_) ?_
       ·obtain⟨z0,z1,z2,z3⟩:=Zih hx6;go_simp
        refine hK.out _ _ ?_ (λhHeld=>?_)
        ·try dsimp only
         exact Zbyk hHeld hg6 _ _
        clear hK K
        try simp only[Act.put,List.setIfInBounds_toArray,List.set_cons_zero,List.set_cons_succ]
        replace hx6:=Zcai (x:= .bool true) (y:= .string X) hx6;replace hx7:=Zbyn (i:=1) (v:= .string X) (Zbyn (i:=0) (v:= .bool true) hx7 hne) hne;refine wpAnyH_ready (rs:=[9]) (by kernel_rfl) (by simp) ?_;refine AllReadyH.cons (o:=_) (by simp only[List.getElem?_toArray,List.getElem?_cons_succ,List.getElem?_cons_zero];rfl) (λK hK=>?_) ?_
        ·obtain⟨z0,z1,z2,z3⟩:=Zih hx7;go_simp
         refine hK.out _ _ ?_ (λhHeld=>?_)
         ·try dsimp only
          exact Zbyk hHeld hg7 _ _
         clear hK K
         try simp only[Act.put,List.setIfInBounds_toArray,List.set_cons_zero,List.set_cons_succ]
         replace hx7:=Zcai (x:= .bool true) (y:= .string Y) hx7;replace hx6:=Zbyn (i:=1) (v:= .string Y) (Zbyn (i:=0) (v:= .bool true) hx6 (Ne.symm hne)) (Ne.symm hne);refine wpAnyH_done (by kernel_rfl) ?_ _
         go_wp2_with fail
         go_meet;exact⟨_,_,rfl,rfl,hx6,hx7,hHeld⟩
        exact AllReadyH.nil
       exact AllReadyH.nil
      exact AllReadyH.nil
     refine AllReadyH.cons (o:=_) (by simp only[List.getElem?_toArray,List.getElem?_cons_succ,List.getElem?_cons_zero];rfl) (λK hK=>?_) ?_
     ·have hg6:=hHeld.size;(try simp only[drew_size]at hg6);(try simp only[World.size_alloc]at hg6);have hne:=Nat.ne_of_lt (Zfy hx7);(try simp only[drew_size]at hne);(try simp only[World.size_alloc]at hne);go_simp
      refine hK.out _ _ ?_ (λhHeld=>?_)
      ·try dsimp only
       exact hHeld.alloc hHeld.size _
      clear hK K
      try simp only[Act.put,List.setIfInBounds_toArray,List.set_cons_zero,List.set_cons_succ]
      have hx6:=Zbzr hHeld;replace hx4:=Zbyl hHeld hx4;replace hx7:=Zbyl hHeld hx7
      (try simp only[drew_size]at hx6);(try simp only[World.size_alloc]at hx6)
      obtain⟨V6,e6,hHeld⟩:=Zcba hHeld;rw[e6]at hx4 hx7 hx6⊢;clear e6;refine wpAnyH_ready (rs:=[5]) (by kernel_rfl) (by simp) ?_;refine AllReadyH.cons (o:=_) (by simp only[List.getElem?_toArray,List.getElem?_cons_succ,List.getElem?_cons_zero];rfl) (λK hK=>?_) ?_
      ·go_simp;refine(HDO.out _ 7 0 b _ 1 [s] Y (HUP.out _ hHeld) (Zbqj (xs:=[s]) hx4 (by show 1<=maxLen;decide)) (by omega) D2.out).mono ?_;rintro e w5 ⟨rfl,hbc⟩;replace hx4:=Zbym hx4 hbc;replace hx6:=Zbym hx6 hbc;replace hx7:=Zbym hx7 hbc;have hBc:=hHeld.trans (hbc.mono hHeld.size);clear hbc;dsimp only
       refine hK.out _ _ ?_ (λhHeld=>?_)
       ·try dsimp only
        exact hBc
       clear hK K
       try simp only[Act.put,List.setIfInBounds_toArray,List.set_cons_zero,List.set_cons_succ]
       clear hBc;refine wpAnyH_ready (rs:=[8]) (by kernel_rfl) (by simp) ?_;refine AllReadyH.cons (o:=_) (by simp only[List.getElem?_toArray,List.getElem?_cons_succ,List.getElem?_cons_zero];rfl) (λK hK=>?_) ?_
       ·obtain⟨z0,z1,z2,z3⟩:=Zih hx6;go_simp
        refine hK.out _ _ ?_ (λhHeld=>?_)
        ·try dsimp only
         exact Zbyk hHeld hg6 _ _
        clear hK K
        try simp only[Act.put,List.setIfInBounds_toArray,List.set_cons_zero,List.set_cons_succ]
        replace hx6:=Zcai (x:= .bool true) (y:= .string X) hx6;replace hx7:=Zbyn (i:=1) (v:= .string X) (Zbyn (i:=0) (v:= .bool true) hx7 hne) hne;refine wpAnyH_ready (rs:=[9]) (by kernel_rfl) (by simp) ?_;refine AllReadyH.cons (o:=_) (by simp only[List.getElem?_toArray,List.getElem?_cons_succ,List.getElem?_cons_zero];rfl) (λK hK=>?_) ?_
        ·obtain⟨z0,z1,z2,z3⟩:=Zih hx7;go_simp
         refine hK.out _ _ ?_ (λhHeld=>?_)
         ·try dsimp only
          exact Zbyk hHeld hg7 _ _
         clear hK K
         try simp only[Act.put,List.setIfInBounds_toArray,List.set_cons_zero,List.set_cons_succ]
         replace hx7:=Zcai (x:= .bool true) (y:= .string Y) hx7;replace hx6:=Zbyn (i:=1) (v:= .string Y) (Zbyn (i:=0) (v:= .bool true) hx6 (Ne.symm hne)) (Ne.symm hne);refine wpAnyH_done (by kernel_rfl) ?_ _
         go_wp2_with fail
         go_meet;exact⟨_,_,rfl,rfl,hx6,hx7,hHeld⟩
        exact AllReadyH.nil
       exact AllReadyH.nil
      exact AllReadyH.nil
     exact AllReadyH.nil
    refine AllReadyH.cons (o:=_) (by simp only[List.getElem?_toArray,List.getElem?_cons_succ,List.getElem?_cons_zero];rfl) (λK hK=>?_) ?_
    ·have hg6:=hHeld.size;(try simp only[drew_size]at hg6);(try simp only[World.size_alloc]at hg6);have hne:=Nat.ne_of_lt (Zfy hx7);(try simp only[drew_size]at hne);(try simp only[World.size_alloc]at hne);go_simp
     refine hK.out _ _ ?_ (λhHeld=>?_)
     ·try dsimp only
      exact hHeld.alloc hHeld.size _
     clear hK K
     try simp only[Act.put,List.setIfInBounds_toArray,List.set_cons_zero,List.set_cons_succ]
     have hx6:=Zbzr hHeld;replace hx4:=Zbyl hHeld hx4;replace hx7:=Zbyl hHeld hx7
     (try simp only[drew_size]at hx6);(try simp only[World.size_alloc]at hx6)
     obtain⟨V6,e6,hHeld⟩:=Zcba hHeld;rw[e6]at hx4 hx7 hx6⊢;clear e6;refine wpAnyH_ready (rs:=[1]) (by kernel_rfl) (by simp) ?_;refine AllReadyH.cons (o:=_) (by simp only[List.getElem?_toArray,List.getElem?_cons_succ,List.getElem?_cons_zero];rfl) (λK hK=>?_) ?_
     ·go_simp;refine(HDO.out _ 3 0 b none 0 [] X (HUP.out _ hHeld) (Zbqk _) (by omega) D1.out).mono ?_;rintro e w3 ⟨rfl,hbc⟩;replace hx4:=Zbym hx4 hbc;replace hx6:=Zbym hx6 hbc;replace hx7:=Zbym hx7 hbc;have hBc:=hHeld.trans (hbc.mono hHeld.size);clear hbc;dsimp only
      refine hK.out _ _ ?_ (λhHeld=>?_)
      ·try dsimp only
       exact hBc
      clear hK K
      try simp only[Act.put,List.setIfInBounds_toArray,List.set_cons_zero,List.set_cons_succ]
      clear hBc;refine wpAnyH_ready (rs:=[5]) (by kernel_rfl) (by simp) ?_;refine AllReadyH.cons (o:=_) (by simp only[List.getElem?_toArray,List.getElem?_cons_succ,List.getElem?_cons_zero];rfl) (λK hK=>?_) ?_
      ·go_simp;refine(HDO.out _ 7 0 b _ 1 [s] Y (HUP.out _ hHeld) (Zbqj (xs:=[s]) hx4 (by show 1<=maxLen;decide)) (by omega) D2.out).mono ?_;rintro e w5 ⟨rfl,hbc⟩;replace hx4:=Zbym hx4 hbc;replace hx6:=Zbym hx6 hbc;replace hx7:=Zbym hx7 hbc;have hBc:=hHeld.trans (hbc.mono hHeld.size);clear hbc;dsimp only
       refine hK.out _ _ ?_ (λhHeld=>?_)
       ·try dsimp only
        exact hBc
       clear hK K
       try simp only[Act.put,List.setIfInBounds_toArray,List.set_cons_zero,List.set_cons_succ]
       clear hBc;refine wpAnyH_ready (rs:=[8]) (by kernel_rfl) (by simp) ?_;refine AllReadyH.cons (o:=_) (by simp only[List.getElem?_toArray,List.getElem?_cons_succ,List.getElem?_cons_zero];rfl) (λK hK=>?_) ?_
       ·obtain⟨z0,z1,z2,z3⟩:=Zih hx6;go_simp
        refine hK.out _ _ ?_ (λhHeld=>?_)
        ·try dsimp only
         exact Zbyk hHeld hg6 _ _
        clear hK K
        try simp only[Act.put,List.setIfInBounds_toArray,List.set_cons_zero,List.set_cons_succ]
        replace hx6:=Zcai (x:= .bool true) (y:= .string X) hx6;replace hx7:=Zbyn (i:=1) (v:= .string X) (Zbyn (i:=0) (v:= .bool true) hx7 hne) hne;refine wpAnyH_ready (rs:=[9]) (by kernel_rfl) (by simp) ?_;refine AllReadyH.cons (o:=_) (by simp only[List.getElem?_toArray,List.getElem?_cons_succ,List.getElem?_cons_zero];rfl) (λK hK=>?_) ?_
        ·obtain⟨z0,z1,z2,z3⟩:=Zih hx7;go_simp
         refine hK.out _ _ ?_ (λhHeld=>?_)
         ·try dsimp only
          exact Zbyk hHeld hg7 _ _
         clear hK K
         try simp only[Act.put,List.setIfInBounds_toArray,List.set_cons_zero,List.set_cons_succ]
         replace hx7:=Zcai (x:= .bool true) (y:= .string Y) hx7;replace hx6:=Zbyn (i:=1) (v:= .string Y) (Zbyn (i:=0) (v:= .bool true) hx6 (Ne.symm hne)) (Ne.symm hne);refine wpAnyH_done (by kernel_rfl) ?_ _
         go_wp2_with fail
         go_meet;exact⟨_,_,rfl,rfl,hx6,hx7,hHeld⟩
        exact AllReadyH.nil
       exact AllReadyH.nil
      exact AllReadyH.nil
     exact AllReadyH.nil
    exact AllReadyH.nil
   exact AllReadyH.nil
  refine AllReadyH.cons (o:=_) (by simp only[List.getElem?_toArray,List.getElem?_cons_succ,List.getElem?_cons_zero];rfl) (λK hK=>?_) ?_
  ·have hg6:=hHeld.size;(try simp only[drew_size]at hg6);(try simp only[World.size_alloc]at hg6);go_simp
   refine hK.out _ _ ?_ (λhHeld=>?_)
   ·try dsimp only
    exact hHeld.alloc hHeld.size _
   clear hK K
   try simp only[Act.put,List.setIfInBounds_toArray,List.set_cons_zero,List.set_cons_succ]
   have hx6:=Zbzs hHeld
   (try simp only[drew_size]at hx6);(try simp only[World.size_alloc]at hx6)
   obtain⟨V6,e6,hHeld⟩:=Zcba hHeld;rw[e6]at hx6⊢;clear e6;refine wpAnyH_ready (rs:=[1,4,7]) (by kernel_rfl) (by simp) ?_;refine AllReadyH.cons (o:=_) (by simp only[List.getElem?_toArray,List.getElem?_cons_succ,List.getElem?_cons_zero];rfl) (λK hK=>?_) ?_
   ·go_simp;refine(HDO.out _ 3 0 b none 0 [] X (HUP.out _ hHeld) (Zbqk _) (by omega) D1.out).mono ?_;rintro e w3 ⟨rfl,hbc⟩;replace hx6:=Zbym hx6 hbc;have hBc:=hHeld.trans (hbc.mono hHeld.size);clear hbc;dsimp only
    refine hK.out _ _ ?_ (λhHeld=>?_)
    ·try dsimp only
     exact hBc
    clear hK K
    try simp only[Act.put,List.setIfInBounds_toArray,List.set_cons_zero,List.set_cons_succ]
    clear hBc;refine wpAnyH_ready (rs:=[4,7]) (by kernel_rfl) (by simp) ?_;refine AllReadyH.cons (o:=_) (by simp only[List.getElem?_toArray,List.getElem?_cons_succ,List.getElem?_cons_zero];rfl) (λK hK=>?_) ?_
    ·have hg4:=hHeld.size;(try simp only[drew_size]at hg4);(try simp only[World.size_alloc]at hg4);go_simp
     refine hK.out _ _ ?_ (λhHeld=>?_)
     ·try dsimp only
      exact hHeld.alloc hHeld.size _
     clear hK K
     try simp only[Act.put,List.setIfInBounds_toArray,List.set_cons_zero,List.set_cons_succ]
     have hx4:=Zbzr hHeld;replace hx6:=Zbyl hHeld hx6
     (try simp only[drew_size]at hx4);(try simp only[World.size_alloc]at hx4)
     obtain⟨V4,e4,hHeld⟩:=Zcba hHeld;rw[e4]at hx6 hx4⊢;clear e4;refine wpAnyH_ready (rs:=[5,7]) (by kernel_rfl) (by simp) ?_;refine AllReadyH.cons (o:=_) (by simp only[List.getElem?_toArray,List.getElem?_cons_succ,List.getElem?_cons_zero];rfl) (λK hK=>?_) ?_
     ·go_simp;refine(HDO.out _ 7 0 b _ 1 [s] Y (HUP.out _ hHeld) (Zbqj (xs:=[s]) hx4 (by show 1<=maxLen;decide)) (by omega) D2.out).mono ?_;rintro e w5 ⟨rfl,hbc⟩;replace hx4:=Zbym hx4 hbc;replace hx6:=Zbym hx6 hbc;have hBc:=hHeld.trans (hbc.mono hHeld.size);clear hbc;dsimp only
      refine hK.out _ _ ?_ (λhHeld=>?_)
      ·try dsimp only
       exact hBc
      clear hK K
      try simp only[Act.put,List.setIfInBounds_toArray,List.set_cons_zero,List.set_cons_succ]
      clear hBc;refine wpAnyH_ready (rs:=[7]) (by kernel_rfl) (by simp) ?_;refine AllReadyH.cons (o:=_) (by simp only[List.getElem?_toArray,List.getElem?_cons_succ,List.getElem?_cons_zero];rfl) (λK hK=>?_) ?_
      ·have hg7:=hHeld.size;(try simp only[drew_size]at hg7);(try simp only[World.size_alloc]at hg7);have hne:=Nat.ne_of_lt (Zfy hx6);(try simp only[drew_size]at hne);(try simp only[World.size_alloc]at hne);go_simp
       refine hK.out _ _ ?_ (λhHeld=>?_)
       ·try dsimp only
        exact hHeld.alloc hHeld.size _
       clear hK K
       try simp only[Act.put,List.setIfInBounds_toArray,List.set_cons_zero,List.set_cons_succ]
       have hx7:=Zbzr hHeld;replace hx4:=Zbyl hHeld hx4;replace hx6:=Zbyl hHeld hx6
       (try simp only[drew_size]at hx7);(try simp only[World.size_alloc]at hx7)
       obtain⟨V7,e7,hHeld⟩:=Zcba hHeld;rw[e7]at hx4 hx6 hx7⊢;clear e7;refine wpAnyH_ready (rs:=[8]) (by kernel_rfl) (by simp) ?_;refine AllReadyH.cons (o:=_) (by simp only[List.getElem?_toArray,List.getElem?_cons_succ,List.getElem?_cons_zero];rfl) (λK hK=>?_) ?_
       ·obtain⟨z0,z1,z2,z3⟩:=Zih hx6;go_simp
        refine hK.out _ _ ?_ (λhHeld=>?_)
        ·try dsimp only
         exact Zbyk hHeld hg6 _ _
        clear hK K
        try simp only[Act.put,List.setIfInBounds_toArray,List.set_cons_zero,List.set_cons_succ]
        replace hx6:=Zcai (x:= .bool true) (y:= .string X) hx6;replace hx7:=Zbyn (i:=1) (v:= .string X) (Zbyn (i:=0) (v:= .bool true) hx7 (Ne.symm hne)) (Ne.symm hne);refine wpAnyH_ready (rs:=[9]) (by kernel_rfl) (by simp) ?_;refine AllReadyH.cons (o:=_) (by simp only[List.getElem?_toArray,List.getElem?_cons_succ,List.getElem?_cons_zero];rfl) (λK hK=>?_) ?_
        ·obtain⟨z0,z1,z2,z3⟩:=Zih hx7;go_simp
         refine hK.out _ _ ?_ (λhHeld=>?_)
         ·try dsimp only
          exact Zbyk hHeld hg7 _ _
         clear hK K
         try simp only[Act.put,List.setIfInBounds_toArray,List.set_cons_zero,List.set_cons_succ]
         replace hx7:=Zcai (x:= .bool true) (y:= .string Y) hx7;replace hx6:=Zbyn (i:=1) (v:= .string Y) (Zbyn (i:=0) (v:= .bool true) hx6 hne) hne;refine wpAnyH_done (by kernel_rfl) ?_ _
         go_wp2_with fail
         go_meet;exact⟨_,_,rfl,rfl,hx6,hx7,hHeld⟩
        exact AllReadyH.nil
       exact AllReadyH.nil
      exact AllReadyH.nil
     refine AllReadyH.cons (o:=_) (by simp only[List.getElem?_toArray,List.getElem?_cons_succ,List.getElem?_cons_zero];rfl) (λK hK=>?_) ?_
     ·have hg7:=hHeld.size;(try simp only[drew_size]at hg7);(try simp only[World.size_alloc]at hg7);have hne:=Nat.ne_of_lt (Zfy hx6);(try simp only[drew_size]at hne);(try simp only[World.size_alloc]at hne);go_simp
      refine hK.out _ _ ?_ (λhHeld=>?_)
      ·try dsimp only
       exact hHeld.alloc hHeld.size _
      clear hK K
      try simp only[Act.put,List.setIfInBounds_toArray,List.set_cons_zero,List.set_cons_succ]
      have hx7:=Zbzr hHeld;replace hx4:=Zbyl hHeld hx4;replace hx6:=Zbyl hHeld hx6
      (try simp only[drew_size]at hx7);(try simp only[World.size_alloc]at hx7)
      obtain⟨V7,e7,hHeld⟩:=Zcba hHeld;rw[e7]at hx4 hx6 hx7⊢;clear e7;refine wpAnyH_ready (rs:=[5]) (by kernel_rfl) (by simp) ?_;refine AllReadyH.cons (o:=_) (by simp only[List.getElem?_toArray,List.getElem?_cons_succ,List.getElem?_cons_zero];rfl) (λK hK=>?_) ?_
      ·go_simp;refine(HDO.out _ 7 0 b _ 1 [s] Y (HUP.out _ hHeld) (Zbqj (xs:=[s]) hx4 (by show 1<=maxLen;decide)) (by omega) D2.out).mono ?_;rintro e w5 ⟨rfl,hbc⟩;replace hx4:=Zbym hx4 hbc;replace hx6:=Zbym hx6 hbc;replace hx7:=Zbym hx7 hbc;have hBc:=hHeld.trans (hbc.mono hHeld.size);clear hbc;dsimp only
       refine hK.out _ _ ?_ (λhHeld=>?_)
       ·try dsimp only
        exact hBc
       clear hK K
       try simp only[Act.put,List.setIfInBounds_toArray,List.set_cons_zero,List.set_cons_succ]
       clear hBc;refine wpAnyH_ready (rs:=[8]) (by kernel_rfl) (by simp) ?_;refine AllReadyH.cons (o:=_) (by simp only[List.getElem?_toArray,List.getElem?_cons_succ,List.getElem?_cons_zero];rfl) (λK hK=>?_) ?_
       ·obtain⟨z0,z1,z2,z3⟩:=Zih hx6;go_simp
        refine hK.out _ _ ?_ (λhHeld=>?_)
        ·try dsimp only
         exact Zbyk hHeld hg6 _ _
        clear hK K
        try simp only[Act.put,List.setIfInBounds_toArray,List.set_cons_zero,List.set_cons_succ]
        replace hx6:=Zcai (x:= .bool true) (y:= .string X) hx6;replace hx7:=Zbyn (i:=1) (v:= .string X) (Zbyn (i:=0) (v:= .bool true) hx7 (Ne.symm hne)) (Ne.symm hne);refine wpAnyH_ready (rs:=[9]) (by kernel_rfl) (by simp) ?_;refine AllReadyH.cons (o:=_) (by simp only[List.getElem?_toArray,List.getElem?_cons_succ,List.getElem?_cons_zero];rfl) (λK hK=>?_) ?_
        ·obtain⟨z0,z1,z2,z3⟩:=Zih hx7;go_simp
         refine hK.out _ _ ?_ (λhHeld=>?_)
         ·try dsimp only
          exact Zbyk hHeld hg7 _ _
         clear hK K
         try simp only[Act.put,List.setIfInBounds_toArray,List.set_cons_zero,List.set_cons_succ]
         replace hx7:=Zcai (x:= .bool true) (y:= .string Y) hx7;replace hx6:=Zbyn (i:=1) (v:= .string Y) (Zbyn (i:=0) (v:= .bool true) hx6 hne) hne;refine wpAnyH_done (by kernel_rfl) ?_ _
         go_wp2_with fail
         go_meet;exact⟨_,_,rfl,rfl,hx6,hx7,hHeld⟩
        exact AllReadyH.nil
       exact AllReadyH.nil
      exact AllReadyH.nil
     exact AllReadyH.nil
    refine AllReadyH.cons (o:=_) (by simp only[List.getElem?_toArray,List.getElem?_cons_succ,List.getElem?_cons_zero];rfl) (λK hK=>?_) ?_
    ·have hg7:=hHeld.size;(try simp only[drew_size]at hg7);(try simp only[World.size_alloc]at hg7);have hne:=Nat.ne_of_lt (Zfy hx6);(try simp only[drew_size]at hne);(try simp only[World.size_alloc]at hne);go_simp
     refine hK.out _ _ ?_ (λhHeld=>?_)
     ·try dsimp only
      exact hHeld.alloc hHeld.size _
     clear hK K
     try simp only[Act.put,List.setIfInBounds_toArray,List.set_cons_zero,List.set_cons_succ]
     have hx7:=Zbzr hHeld;replace hx6:=Zbyl hHeld hx6
     (try simp only[drew_size]at hx7);(try simp only[World.size_alloc]at hx7)
     obtain⟨V7,e7,hHeld⟩:=Zcba hHeld;rw[e7]at hx6 hx7⊢;clear e7;refine wpAnyH_ready (rs:=[4]) (by kernel_rfl) (by simp) ?_;refine AllReadyH.cons (o:=_) (by simp only[List.getElem?_toArray,List.getElem?_cons_succ,List.getElem?_cons_zero];rfl) (λK hK=>?_) ?_
     ·have hg4:=hHeld.size;(try simp only[drew_size]at hg4);(try simp only[World.size_alloc]at hg4);go_simp
      refine hK.out _ _ ?_ (λhHeld=>?_)
      ·try dsimp only
       exact hHeld.alloc hHeld.size _
      clear hK K
      try simp only[Act.put,List.setIfInBounds_toArray,List.set_cons_zero,List.set_cons_succ]
      have hx4:=Zbzr hHeld;replace hx6:=Zbyl hHeld hx6;replace hx7:=Zbyl hHeld hx7
      (try simp only[drew_size]at hx4);(try simp only[World.size_alloc]at hx4)
      obtain⟨V4,e4,hHeld⟩:=Zcba hHeld;rw[e4]at hx6 hx7 hx4⊢;clear e4;refine wpAnyH_ready (rs:=[5]) (by kernel_rfl) (by simp) ?_;refine AllReadyH.cons (o:=_) (by simp only[List.getElem?_toArray,List.getElem?_cons_succ,List.getElem?_cons_zero];rfl) (λK hK=>?_) ?_
      ·go_simp;refine(HDO.out _ 7 0 b _ 1 [s] Y (HUP.out _ hHeld) (Zbqj (xs:=[s]) hx4 (by show 1<=maxLen;decide)) (by omega) D2.out).mono ?_;rintro e w5 ⟨rfl,hbc⟩;replace hx4:=Zbym hx4 hbc;replace hx6:=Zbym hx6 hbc;replace hx7:=Zbym hx7 hbc;have hBc:=hHeld.trans (hbc.mono hHeld.size);clear hbc;dsimp only
       refine hK.out _ _ ?_ (λhHeld=>?_)
       ·try dsimp only
        exact hBc
       clear hK K
       try simp only[Act.put,List.setIfInBounds_toArray,List.set_cons_zero,List.set_cons_succ]
       clear hBc;refine wpAnyH_ready (rs:=[8]) (by kernel_rfl) (by simp) ?_;refine AllReadyH.cons (o:=_) (by simp only[List.getElem?_toArray,List.getElem?_cons_succ,List.getElem?_cons_zero];rfl) (λK hK=>?_) ?_
       ·obtain⟨z0,z1,z2,z3⟩:=Zih hx6;go_simp
        refine hK.out _ _ ?_ (λhHeld=>?_)
        ·try dsimp only
         exact Zbyk hHeld hg6 _ _
        clear hK K
        try simp only[Act.put,List.setIfInBounds_toArray,List.set_cons_zero,List.set_cons_succ]
        replace hx6:=Zcai (x:= .bool true) (y:= .string X) hx6;replace hx7:=Zbyn (i:=1) (v:= .string X) (Zbyn (i:=0) (v:= .bool true) hx7 (Ne.symm hne)) (Ne.symm hne);refine wpAnyH_ready (rs:=[9]) (by kernel_rfl) (by simp) ?_;refine AllReadyH.cons (o:=_) (by simp only[List.getElem?_toArray,List.getElem?_cons_succ,List.getElem?_cons_zero];rfl) (λK hK=>?_) ?_
        ·obtain⟨z0,z1,z2,z3⟩:=Zih hx7;go_simp
         refine hK.out _ _ ?_ (λhHeld=>?_)
         ·try dsimp only
          exact Zbyk hHeld hg7 _ _
         clear hK K
         try simp only[Act.put,List.setIfInBounds_toArray,List.set_cons_zero,List.set_cons_succ]
         replace hx7:=Zcai (x:= .bool true) (y:= .string Y) hx7;replace hx6:=Zbyn (i:=1) (v:= .string Y) (Zbyn (i:=0) (v:= .bool true) hx6 hne) hne;refine wpAnyH_done (by kernel_rfl) ?_ _
         go_wp2_with fail
         go_meet;exact⟨_,_,rfl,rfl,hx6,hx7,hHeld⟩
        exact AllReadyH.nil
       exact AllReadyH.nil
      exact AllReadyH.nil
     exact AllReadyH.nil
    exact AllReadyH.nil
   refine AllReadyH.cons (o:=_) (by simp only[List.getElem?_toArray,List.getElem?_cons_succ,List.getElem?_cons_zero];rfl) (λK hK=>?_) ?_
   ·have hg4:=hHeld.size;(try simp only[drew_size]at hg4);(try simp only[World.size_alloc]at hg4);go_simp
    refine hK.out _ _ ?_ (λhHeld=>?_)
    ·try dsimp only
     exact hHeld.alloc hHeld.size _
    clear hK K
    try simp only[Act.put,List.setIfInBounds_toArray,List.set_cons_zero,List.set_cons_succ]
    have hx4:=Zbzr hHeld;replace hx6:=Zbyl hHeld hx6
    (try simp only[drew_size]at hx4);(try simp only[World.size_alloc]at hx4)
    obtain⟨V4,e4,hHeld⟩:=Zcba hHeld;rw[e4]at hx6 hx4⊢;clear e4;refine wpAnyH_ready (rs:=[1,7]) (by kernel_rfl) (by simp) ?_;refine AllReadyH.cons (o:=_) (by simp only[List.getElem?_toArray,List.getElem?_cons_succ,List.getElem?_cons_zero];rfl) (λK hK=>?_) ?_
    ·go_simp;refine(HDO.out _ 3 0 b none 0 [] X (HUP.out _ hHeld) (Zbqk _) (by omega) D1.out).mono ?_;rintro e w3 ⟨rfl,hbc⟩;replace hx4:=Zbym hx4 hbc;replace hx6:=Zbym hx6 hbc;have hBc:=hHeld.trans (hbc.mono hHeld.size);clear hbc;dsimp only
     refine hK.out _ _ ?_ (λhHeld=>?_)
     ·try dsimp only
      exact hBc
     clear hK K
     try simp only[Act.put,List.setIfInBounds_toArray,List.set_cons_zero,List.set_cons_succ]
     clear hBc;refine wpAnyH_ready (rs:=[5,7]) (by kernel_rfl) (by simp) ?_;refine AllReadyH.cons (o:=_) (by simp only[List.getElem?_toArray,List.getElem?_cons_succ,List.getElem?_cons_zero];rfl) (λK hK=>?_) ?_
     ·go_simp;refine(HDO.out _ 7 0 b _ 1 [s] Y (HUP.out _ hHeld) (Zbqj (xs:=[s]) hx4 (by show 1<=maxLen;decide)) (by omega) D2.out).mono ?_;rintro e w5 ⟨rfl,hbc⟩;replace hx4:=Zbym hx4 hbc;replace hx6:=Zbym hx6 hbc;have hBc:=hHeld.trans (hbc.mono hHeld.size);clear hbc;dsimp only
      refine hK.out _ _ ?_ (λhHeld=>?_)
      ·try dsimp only
       exact hBc
      clear hK K
      try simp only[Act.put,List.setIfInBounds_toArray,List.set_cons_zero,List.set_cons_succ]
      clear hBc;refine wpAnyH_ready (rs:=[7]) (by kernel_rfl) (by simp) ?_;refine AllReadyH.cons (o:=_) (by simp only[List.getElem?_toArray,List.getElem?_cons_succ,List.getElem?_cons_zero];rfl) (λK hK=>?_) ?_
      ·have hg7:=hHeld.size;(try simp only[drew_size]at hg7);(try simp only[World.size_alloc]at hg7);have hne:=Nat.ne_of_lt (Zfy hx6);(try simp only[drew_size]at hne);(try simp only[World.size_alloc]at hne);go_simp
       refine hK.out _ _ ?_ (λhHeld=>?_)
       ·try dsimp only
        exact hHeld.alloc hHeld.size _
       clear hK K
       try simp only[Act.put,List.setIfInBounds_toArray,List.set_cons_zero,List.set_cons_succ]
       have hx7:=Zbzr hHeld;replace hx4:=Zbyl hHeld hx4;replace hx6:=Zbyl hHeld hx6
       (try simp only[drew_size]at hx7);(try simp only[World.size_alloc]at hx7)
       obtain⟨V7,e7,hHeld⟩:=Zcba hHeld;rw[e7]at hx4 hx6 hx7⊢;clear e7;refine wpAnyH_ready (rs:=[8]) (by kernel_rfl) (by simp) ?_;refine AllReadyH.cons (o:=_) (by simp only[List.getElem?_toArray,List.getElem?_cons_succ,List.getElem?_cons_zero];rfl) (λK hK=>?_) ?_
       ·obtain⟨z0,z1,z2,z3⟩:=Zih hx6;go_simp
        refine hK.out _ _ ?_ (λhHeld=>?_)
        ·try dsimp only
         exact Zbyk hHeld hg6 _ _
        clear hK K
        try simp only[Act.put,List.setIfInBounds_toArray,List.set_cons_zero,List.set_cons_succ]
        replace hx6:=Zcai (x:= .bool true) (y:= .string X) hx6;replace hx7:=Zbyn (i:=1) (v:= .string X) (Zbyn (i:=0) (v:= .bool true) hx7 (Ne.symm hne)) (Ne.symm hne);refine wpAnyH_ready (rs:=[9]) (by kernel_rfl) (by simp) ?_;refine AllReadyH.cons (o:=_) (by simp only[List.getElem?_toArray,List.getElem?_cons_succ,List.getElem?_cons_zero];rfl) (λK hK=>?_) ?_
        ·obtain⟨z0,z1,z2,z3⟩:=Zih hx7;go_simp
         refine hK.out _ _ ?_ (λhHeld=>?_)
         ·try dsimp only
          exact Zbyk hHeld hg7 _ _
         clear hK K
         try simp only[Act.put,List.setIfInBounds_toArray,List.set_cons_zero,List.set_cons_succ]
         replace hx7:=Zcai (x:= .bool true) (y:= .string Y) hx7;replace hx6:=Zbyn (i:=1) (v:= .string Y) (Zbyn (i:=0) (v:= .bool true) hx6 hne) hne;refine wpAnyH_done (by kernel_rfl) ?_ _
         go_wp2_with fail
         go_meet;exact⟨_,_,rfl,rfl,hx6,hx7,hHeld⟩
        exact AllReadyH.nil
       exact AllReadyH.nil
      exact AllReadyH.nil
     refine AllReadyH.cons (o:=_) (by simp only[List.getElem?_toArray,List.getElem?_cons_succ,List.getElem?_cons_zero];rfl) (λK hK=>?_) ?_
     ·have hg7:=hHeld.size;(try simp only[drew_size]at hg7);(try simp only[World.size_alloc]at hg7);have hne:=Nat.ne_of_lt (Zfy hx6);(try simp only[drew_size]at hne);(try simp only[World.size_alloc]at hne);go_simp
      refine hK.out _ _ ?_ (λhHeld=>?_)
      ·try dsimp only
       exact hHeld.alloc hHeld.size _
      clear hK K
      try simp only[Act.put,List.setIfInBounds_toArray,List.set_cons_zero,List.set_cons_succ]
      have hx7:=Zbzr hHeld;replace hx4:=Zbyl hHeld hx4;replace hx6:=Zbyl hHeld hx6
      (try simp only[drew_size]at hx7);(try simp only[World.size_alloc]at hx7)
      obtain⟨V7,e7,hHeld⟩:=Zcba hHeld;rw[e7]at hx4 hx6 hx7⊢;clear e7;refine wpAnyH_ready (rs:=[5]) (by kernel_rfl) (by simp) ?_;refine AllReadyH.cons (o:=_) (by simp only[List.getElem?_toArray,List.getElem?_cons_succ,List.getElem?_cons_zero];rfl) (λK hK=>?_) ?_
      ·go_simp;refine(HDO.out _ 7 0 b _ 1 [s] Y (HUP.out _ hHeld) (Zbqj (xs:=[s]) hx4 (by show 1<=maxLen;decide)) (by omega) D2.out).mono ?_;rintro e w5 ⟨rfl,hbc⟩;replace hx4:=Zbym hx4 hbc;replace hx6:=Zbym hx6 hbc;replace hx7:=Zbym hx7 hbc;have hBc:=hHeld.trans (hbc.mono hHeld.size);clear hbc;dsimp only
       refine hK.out _ _ ?_ (λhHeld=>?_)
       ·try dsimp only
        exact hBc
       clear hK K
       try simp only[Act.put,List.setIfInBounds_toArray,List.set_cons_zero,List.set_cons_succ]
       clear hBc;refine wpAnyH_ready (rs:=[8]) (by kernel_rfl) (by simp) ?_;refine AllReadyH.cons (o:=_) (by simp only[List.getElem?_toArray,List.getElem?_cons_succ,List.getElem?_cons_zero];rfl) (λK hK=>?_) ?_
       ·obtain⟨z0,z1,z2,z3⟩:=Zih hx6;go_simp
        refine hK.out _ _ ?_ (λhHeld=>?_)
        ·try dsimp only
         exact Zbyk hHeld hg6 _ _
        clear hK K
        try simp only[Act.put,List.setIfInBounds_toArray,List.set_cons_zero,List.set_cons_succ]
        replace hx6:=Zcai (x:= .bool true) (y:= .string X) hx6;replace hx7:=Zbyn (i:=1) (v:= .string X) (Zbyn (i:=0) (v:= .bool true) hx7 (Ne.symm hne)) (Ne.symm hne);refine wpAnyH_ready (rs:=[9]) (by kernel_rfl) (by simp) ?_;refine AllReadyH.cons (o:=_) (by simp only[List.getElem?_toArray,List.getElem?_cons_succ,List.getElem?_cons_zero];rfl) (λK hK=>?_) ?_
        ·obtain⟨z0,z1,z2,z3⟩:=Zih hx7;go_simp
         refine hK.out _ _ ?_ (λhHeld=>?_)
         ·try dsimp only
          exact Zbyk hHeld hg7 _ _
         clear hK K
         try simp only[Act.put,List.setIfInBounds_toArray,List.set_cons_zero,List.set_cons_succ]
         replace hx7:=Zcai (x:= .bool true) (y:= .string Y) hx7;replace hx6:=Zbyn (i:=1) (v:= .string Y) (Zbyn (i:=0) (v:= .bool true) hx6 hne) hne;refine wpAnyH_done (by kernel_rfl) ?_ _
         go_wp2_with fail
         go_meet;exact⟨_,_,rfl,rfl,hx6,hx7,hHeld⟩
        exact AllReadyH.nil
       exact AllReadyH.nil
      exact AllReadyH.nil
     exact AllReadyH.nil
    refine AllReadyH.cons (o:=_) (by simp only[List.getElem?_toArray,List.getElem?_cons_succ,List.getElem?_cons_zero];rfl) (λK hK=>?_) ?_
    ·have hg7:=hHeld.size;(try simp only[drew_size]at hg7);(try simp only[World.size_alloc]at hg7);have hne:=Nat.ne_of_lt (Zfy hx6);(try simp only[drew_size]at hne);(try simp only[World.size_alloc]at hne);go_simp
     refine hK.out _ _ ?_ (λhHeld=>?_)
     ·try dsimp only
      exact hHeld.alloc hHeld.size _
     clear hK K
     try simp only[Act.put,List.setIfInBounds_toArray,List.set_cons_zero,List.set_cons_succ]
     have hx7:=Zbzr hHeld;replace hx4:=Zbyl hHeld hx4;replace hx6:=Zbyl hHeld hx6
     (try simp only[drew_size]at hx7);(try simp only[World.size_alloc]at hx7)
     obtain⟨V7,e7,hHeld⟩:=Zcba hHeld;rw[e7]at hx4 hx6 hx7⊢;clear e7;refine wpAnyH_ready (rs:=[1]) (by kernel_rfl) (by simp) ?_;refine AllReadyH.cons (o:=_) (by simp only[List.getElem?_toArray,List.getElem?_cons_succ,List.getElem?_cons_zero];rfl) (λK hK=>?_) ?_
     ·go_simp;refine(HDO.out _ 3 0 b none 0 [] X (HUP.out _ hHeld) (Zbqk _) (by omega) D1.out).mono ?_;rintro e w3 ⟨rfl,hbc⟩;replace hx4:=Zbym hx4 hbc;replace hx6:=Zbym hx6 hbc;replace hx7:=Zbym hx7 hbc;have hBc:=hHeld.trans (hbc.mono hHeld.size);clear hbc;dsimp only
      refine hK.out _ _ ?_ (λhHeld=>?_)
      ·try dsimp only
       exact hBc
      clear hK K
      try simp only[Act.put,List.setIfInBounds_toArray,List.set_cons_zero,List.set_cons_succ]
      clear hBc;refine wpAnyH_ready (rs:=[5]) (by kernel_rfl) (by simp) ?_;refine AllReadyH.cons (o:=_) (by simp only[List.getElem?_toArray,List.getElem?_cons_succ,List.getElem?_cons_zero];rfl) (λK hK=>?_) ?_
      ·go_simp;refine(HDO.out _ 7 0 b _ 1 [s] Y (HUP.out _ hHeld) (Zbqj (xs:=[s]) hx4 (by show 1<=maxLen;decide)) (by omega) D2.out).mono ?_;rintro e w5 ⟨rfl,hbc⟩;replace hx4:=Zbym hx4 hbc;replace hx6:=Zbym hx6 hbc;replace hx7:=Zbym hx7 hbc;have hBc:=hHeld.trans (hbc.mono hHeld.size);clear hbc;dsimp only
       refine hK.out _ _ ?_ (λhHeld=>?_)
       ·try dsimp only
        exact hBc
       clear hK K
       try simp only[Act.put,List.setIfInBounds_toArray,List.set_cons_zero,List.set_cons_succ]
       clear hBc;refine wpAnyH_ready (rs:=[8]) (by kernel_rfl) (by simp) ?_;refine AllReadyH.cons (o:=_) (by simp only[List.getElem?_toArray,List.getElem?_cons_succ,List.getElem?_cons_zero];rfl) (λK hK=>?_) ?_
       ·obtain⟨z0,z1,z2,z3⟩:=Zih hx6;go_simp
        refine hK.out _ _ ?_ (λhHeld=>?_)
        ·try dsimp only
         exact Zbyk hHeld hg6 _ _
        clear hK K
        try simp only[Act.put,List.setIfInBounds_toArray,List.set_cons_zero,List.set_cons_succ]
        replace hx6:=Zcai (x:= .bool true) (y:= .string X) hx6;replace hx7:=Zbyn (i:=1) (v:= .string X) (Zbyn (i:=0) (v:= .bool true) hx7 (Ne.symm hne)) (Ne.symm hne);refine wpAnyH_ready (rs:=[9]) (by kernel_rfl) (by simp) ?_;refine AllReadyH.cons (o:=_) (by simp only[List.getElem?_toArray,List.getElem?_cons_succ,List.getElem?_cons_zero];rfl) (λK hK=>?_) ?_
        ·obtain⟨z0,z1,z2,z3⟩:=Zih hx7;go_simp
         refine hK.out _ _ ?_ (λhHeld=>?_)
         ·try dsimp only
          exact Zbyk hHeld hg7 _ _
         clear hK K
         try simp only[Act.put,List.setIfInBounds_toArray,List.set_cons_zero,List.set_cons_succ]
         replace hx7:=Zcai (x:= .bool true) (y:= .string Y) hx7;replace hx6:=Zbyn (i:=1) (v:= .string Y) (Zbyn (i:=0) (v:= .bool true) hx6 hne) hne;refine wpAnyH_done (by kernel_rfl) ?_ _
         go_wp2_with fail
         go_meet;exact⟨_,_,rfl,rfl,hx6,hx7,hHeld⟩
        exact AllReadyH.nil
       exact AllReadyH.nil
      exact AllReadyH.nil
     exact AllReadyH.nil
    exact AllReadyH.nil
   refine AllReadyH.cons (o:=_) (by simp only[List.getElem?_toArray,List.getElem?_cons_succ,List.getElem?_cons_zero];rfl) (λK hK=>?_) ?_
   ·have hg7:=hHeld.size;(try simp only[drew_size]at hg7);(try simp only[World.size_alloc]at hg7);have hne:=Nat.ne_of_lt (Zfy hx6);(try simp only[drew_size]at hne);(try simp only[World.size_alloc]at hne);go_simp
    refine hK.out _ _ ?_ (λhHeld=>?_)
    ·try dsimp only
     exact hHeld.alloc hHeld.size _
    clear hK K
    try simp only[Act.put,List.setIfInBounds_toArray,List.set_cons_zero,List.set_cons_succ]
    have hx7:=Zbzr hHeld;replace hx6:=Zbyl hHeld hx6
    (try simp only[drew_size]at hx7);(try simp only[World.size_alloc]at hx7)
    obtain⟨V7,e7,hHeld⟩:=Zcba hHeld;rw[e7]at hx6 hx7⊢;clear e7;refine wpAnyH_ready (rs:=[1,4]) (by kernel_rfl) (by simp) ?_;refine AllReadyH.cons (o:=_) (by simp only[List.getElem?_toArray,List.getElem?_cons_succ,List.getElem?_cons_zero];rfl) (λK hK=>?_) ?_
    ·go_simp;refine(HDO.out _ 3 0 b none 0 [] X (HUP.out _ hHeld) (Zbqk _) (by omega) D1.out).mono ?_;rintro e w3 ⟨rfl,hbc⟩;replace hx6:=Zbym hx6 hbc;replace hx7:=Zbym hx7 hbc;have hBc:=hHeld.trans (hbc.mono hHeld.size);clear hbc;dsimp only
     refine hK.out _ _ ?_ (λhHeld=>?_)
     ·try dsimp only
      exact hBc
     clear hK K
     try simp only[Act.put,List.setIfInBounds_toArray,List.set_cons_zero,List.set_cons_succ]
     clear hBc;refine wpAnyH_ready (rs:=[4]) (by kernel_rfl) (by simp) ?_;refine AllReadyH.cons (o:=_) (by simp only[List.getElem?_toArray,List.getElem?_cons_succ,List.getElem?_cons_zero];rfl) (λK hK=>?_) ?_
     ·have hg4:=hHeld.size;(try simp only[drew_size]at hg4);(try simp only[World.size_alloc]at hg4);go_simp
      refine hK.out _ _ ?_ (λhHeld=>?_)
      ·try dsimp only
       exact hHeld.alloc hHeld.size _
      clear hK K
      try simp only[Act.put,List.setIfInBounds_toArray,List.set_cons_zero,List.set_cons_succ]
      have hx4:=Zbzr hHeld;replace hx6:=Zbyl hHeld hx6;replace hx7:=Zbyl hHeld hx7
      (try simp only[drew_size]at hx4);(try simp only[World.size_alloc]at hx4)
      obtain⟨V4,e4,hHeld⟩:=Zcba hHeld;rw[e4]at hx6 hx7 hx4⊢;clear e4;refine wpAnyH_ready (rs:=[5]) (by kernel_rfl) (by simp) ?_;refine AllReadyH.cons (o:=_) (by simp only[List.getElem?_toArray,List.getElem?_cons_succ,List.getElem?_cons_zero];rfl) (λK hK=>?_) ?_
      ·go_simp;refine(HDO.out _ 7 0 b _ 1 [s] Y (HUP.out _ hHeld) (Zbqj (xs:=[s]) hx4 (by show 1<=maxLen;decide)) (by omega) D2.out).mono ?_;rintro e w5 ⟨rfl,hbc⟩;replace hx4:=Zbym hx4 hbc;replace hx6:=Zbym hx6 hbc;replace hx7:=Zbym hx7 hbc;have hBc:=hHeld.trans (hbc.mono hHeld.size);clear hbc;dsimp only
       refine hK.out _ _ ?_ (λhHeld=>?_)
       ·try dsimp only
        exact hBc
       clear hK K
       try simp only[Act.put,List.setIfInBounds_toArray,List.set_cons_zero,List.set_cons_succ]
       clear hBc;refine wpAnyH_ready (rs:=[8]) (by kernel_rfl) (by simp) ?_;refine AllReadyH.cons (o:=_) (by simp only[List.getElem?_toArray,List.getElem?_cons_succ,List.getElem?_cons_zero];rfl) (λK hK=>?_) ?_
       ·obtain⟨z0,z1,z2,z3⟩:=Zih hx6;go_simp
        refine hK.out _ _ ?_ (λhHeld=>?_)
        ·try dsimp only
         exact Zbyk hHeld hg6 _ _
        clear hK K
        try simp only[Act.put,List.setIfInBounds_toArray,List.set_cons_zero,List.set_cons_succ]
        replace hx6:=Zcai (x:= .bool true) (y:= .string X) hx6;replace hx7:=Zbyn (i:=1) (v:= .string X) (Zbyn (i:=0) (v:= .bool true) hx7 (Ne.symm hne)) (Ne.symm hne);refine wpAnyH_ready (rs:=[9]) (by kernel_rfl) (by simp) ?_;refine AllReadyH.cons (o:=_) (by simp only[List.getElem?_toArray,List.getElem?_cons_succ,List.getElem?_cons_zero];rfl) (λK hK=>?_) ?_
        ·obtain⟨z0,z1,z2,z3⟩:=Zih hx7;go_simp
         refine hK.out _ _ ?_ (λhHeld=>?_)
         ·try dsimp only
          exact Zbyk hHeld hg7 _ _
         clear hK K
         try simp only[Act.put,List.setIfInBounds_toArray,List.set_cons_zero,List.set_cons_succ]
         replace hx7:=Zcai (x:= .bool true) (y:= .string Y) hx7;replace hx6:=Zbyn (i:=1) (v:= .string Y) (Zbyn (i:=0) (v:= .bool true) hx6 hne) hne;refine wpAnyH_done (by kernel_rfl) ?_ _
         go_wp2_with fail
         go_meet;exact⟨_,_,rfl,rfl,hx6,hx7,hHeld⟩
        exact AllReadyH.nil
       exact AllReadyH.nil
      exact AllReadyH.nil
     exact AllReadyH.nil
    refine AllReadyH.cons (o:=_) (by simp only[List.getElem?_toArray,List.getElem?_cons_succ,List.getElem?_cons_zero];rfl) (λK hK=>?_) ?_
    ·have hg4:=hHeld.size;(try simp only[drew_size]at hg4);(try simp only[World.size_alloc]at hg4);go_simp
     refine hK.out _ _ ?_ (λhHeld=>?_)
     ·try dsimp only
      exact hHeld.alloc hHeld.size _
     clear hK K
     try simp only[Act.put,List.setIfInBounds_toArray,List.set_cons_zero,List.set_cons_succ]
     have hx4:=Zbzr hHeld;replace hx6:=Zbyl hHeld hx6;replace hx7:=Zbyl hHeld hx7
     (try simp only[drew_size]at hx4);(try simp only[World.size_alloc]at hx4)
     obtain⟨V4,e4,hHeld⟩:=Zcba hHeld;rw[e4]at hx6 hx7 hx4⊢;clear e4;refine wpAnyH_ready (rs:=[1]) (by kernel_rfl) (by simp) ?_;refine AllReadyH.cons (o:=_) (by simp only[List.getElem?_toArray,List.getElem?_cons_succ,List.getElem?_cons_zero];rfl) (λK hK=>?_) ?_
     ·go_simp;refine(HDO.out _ 3 0 b none 0 [] X (HUP.out _ hHeld) (Zbqk _) (by omega) D1.out).mono ?_;rintro e w3 ⟨rfl,hbc⟩;replace hx4:=Zbym hx4 hbc;replace hx6:=Zbym hx6 hbc;replace hx7:=Zbym hx7 hbc;have hBc:=hHeld.trans (hbc.mono hHeld.size);clear hbc;dsimp only
      refine hK.out _ _ ?_ (λhHeld=>?_)
      ·try dsimp only
       exact hBc
      clear hK K
      try simp only[Act.put,List.setIfInBounds_toArray,List.set_cons_zero,List.set_cons_succ]
      clear hBc;refine wpAnyH_ready (rs:=[5]) (by kernel_rfl) (by simp) ?_;refine AllReadyH.cons (o:=_) (by simp only[List.getElem?_toArray,List.getElem?_cons_succ,List.getElem?_cons_zero];rfl) (λK hK=>?_) ?_
      ·go_simp;refine(HDO.out _ 7 0 b _ 1 [s] Y (HUP.out _ hHeld) (Zbqj (xs:=[s]) hx4 (by show 1<=maxLen;decide)) (by omega) D2.out).mono ?_;rintro e w5 ⟨rfl,hbc⟩;replace hx4:=Zbym hx4 hbc;replace hx6:=Zbym hx6 hbc;replace hx7:=Zbym hx7 hbc;have hBc:=hHeld.trans (hbc.mono hHeld.size);clear hbc;dsimp only
       refine hK.out _ _ ?_ (λhHeld=>?_)
       ·try dsimp only
        exact hBc
       clear hK K
       try simp only[Act.put,List.setIfInBounds_toArray,List.set_cons_zero,List.set_cons_succ]
       clear hBc;refine wpAnyH_ready (rs:=[8]) (by kernel_rfl) (by simp) ?_;refine AllReadyH.cons (o:=_) (by simp only[List.getElem?_toArray,List.getElem?_cons_succ,List.getElem?_cons_zero];rfl) (λK hK=>?_) ?_
       ·obtain⟨z0,z1,z2,z3⟩:=Zih hx6;go_simp
        refine hK.out _ _ ?_ (λhHeld=>?_)
        ·try dsimp only
         exact Zbyk hHeld hg6 _ _
        clear hK K
        try simp only[Act.put,List.setIfInBounds_toArray,List.set_cons_zero,List.set_cons_succ]
        replace hx6:=Zcai (x:= .bool true) (y:= .string X) hx6;replace hx7:=Zbyn (i:=1) (v:= .string X) (Zbyn (i:=0) (v:= .bool true) hx7 (Ne.symm hne)) (Ne.symm hne);refine wpAnyH_ready (rs:=[9]) (by kernel_rfl) (by simp) ?_;refine AllReadyH.cons (o:=_) (by simp only[List.getElem?_toArray,List.getElem?_cons_succ,List.getElem?_cons_zero];rfl) (λK hK=>?_) ?_
        ·obtain⟨z0,z1,z2,z3⟩:=Zih hx7;go_simp
         refine hK.out _ _ ?_ (λhHeld=>?_)
         ·try dsimp only
          exact Zbyk hHeld hg7 _ _
         clear hK K
         try simp only[Act.put,List.setIfInBounds_toArray,List.set_cons_zero,List.set_cons_succ]
         replace hx7:=Zcai (x:= .bool true) (y:= .string Y) hx7;replace hx6:=Zbyn (i:=1) (v:= .string Y) (Zbyn (i:=0) (v:= .bool true) hx6 hne) hne;refine wpAnyH_done (by kernel_rfl) ?_ _
         go_wp2_with fail
         go_meet;exact⟨_,_,rfl,rfl,hx6,hx7,hHeld⟩
        exact AllReadyH.nil
       exact AllReadyH.nil
      exact AllReadyH.nil
     exact AllReadyH.nil
    exact AllReadyH.nil
   exact AllReadyH.nil
  refine AllReadyH.cons (o:=_) (by simp only[List.getElem?_toArray,List.getElem?_cons_succ,List.getElem?_cons_zero];rfl) (λK hK=>?_) ?_
  ·have hg7:=hHeld.size;(try simp only[drew_size]at hg7);(try simp only[World.size_alloc]at hg7);go_simp
   refine hK.out _ _ ?_ (λhHeld=>?_)
   ·try dsimp only
    exact hHeld.alloc hHeld.size _
   clear hK K
   try simp only[Act.put,List.setIfInBounds_toArray,List.set_cons_zero,List.set_cons_succ]
   have hx7:=Zbzs hHeld
   (try simp only[drew_size]at hx7);(try simp only[World.size_alloc]at hx7)
   obtain⟨V7,e7,hHeld⟩:=Zcba hHeld;rw[e7]at hx7⊢;clear e7;refine wpAnyH_ready (rs:=[1,4,6]) (by kernel_rfl) (by simp) ?_;refine AllReadyH.cons (o:=_) (by simp only[List.getElem?_toArray,List.getElem?_cons_succ,List.getElem?_cons_zero];rfl) (λK hK=>?_) ?_
   ·go_simp;refine(HDO.out _ 3 0 b none 0 [] X (HUP.out _ hHeld) (Zbqk _) (by omega) D1.out).mono ?_;rintro e w3 ⟨rfl,hbc⟩;replace hx7:=Zbym hx7 hbc;have hBc:=hHeld.trans (hbc.mono hHeld.size);clear hbc;dsimp only
    refine hK.out _ _ ?_ (λhHeld=>?_)
    ·try dsimp only
     exact hBc
    clear hK K
    try simp only[Act.put,List.setIfInBounds_toArray,List.set_cons_zero,List.set_cons_succ]
    clear hBc;refine wpAnyH_ready (rs:=[4,6]) (by kernel_rfl) (by simp) ?_;refine AllReadyH.cons (o:=_) (by simp only[List.getElem?_toArray,List.getElem?_cons_succ,List.getElem?_cons_zero];rfl) (λK hK=>?_) ?_
    ·have hg4:=hHeld.size;(try simp only[drew_size]at hg4);(try simp only[World.size_alloc]at hg4);go_simp
     refine hK.out _ _ ?_ (λhHeld=>?_)
     ·try dsimp only
      exact hHeld.alloc hHeld.size _
     clear hK K
     try simp only[Act.put,List.setIfInBounds_toArray,List.set_cons_zero,List.set_cons_succ]
     have hx4:=Zbzr hHeld;replace hx7:=Zbyl hHeld hx7
     (try simp only[drew_size]at hx4);(try simp only[World.size_alloc]at hx4)
     obtain⟨V4,e4,hHeld⟩:=Zcba hHeld;rw[e4]at hx7 hx4⊢;clear e4;refine wpAnyH_ready (rs:=[5,6]) (by kernel_rfl) (by simp) ?_;refine AllReadyH.cons (o:=_) (by simp only[List.getElem?_toArray,List.getElem?_cons_succ,List.getElem?_cons_zero];rfl) (λK hK=>?_) ?_
     ·go_simp;refine(HDO.out _ 7 0 b _ 1 [s] Y (HUP.out _ hHeld) (Zbqj (xs:=[s]) hx4 (by show 1<=maxLen;decide)) (by omega) D2.out).mono ?_;rintro e w5 ⟨rfl,hbc⟩;replace hx4:=Zbym hx4 hbc;replace hx7:=Zbym hx7 hbc;have hBc:=hHeld.trans (hbc.mono hHeld.size);clear hbc;dsimp only
      refine hK.out _ _ ?_ (λhHeld=>?_)
      ·try dsimp only
       exact hBc
      clear hK K
      try simp only[Act.put,List.setIfInBounds_toArray,List.set_cons_zero,List.set_cons_succ]
      clear hBc;refine wpAnyH_ready (rs:=[6]) (by kernel_rfl) (by simp) ?_;refine AllReadyH.cons (o:=_) (by simp only[List.getElem?_toArray,List.getElem?_cons_succ,List.getElem?_cons_zero];rfl) (λK hK=>?_) ?_
      ·have hg6:=hHeld.size;(try simp only[drew_size]at hg6);(try simp only[World.size_alloc]at hg6);have hne:=Nat.ne_of_lt (Zfy hx7);(try simp only[drew_size]at hne);(try simp only[World.size_alloc]at hne);go_simp
       refine hK.out _ _ ?_ (λhHeld=>?_)
       ·try dsimp only
        exact hHeld.alloc hHeld.size _
       clear hK K
       try simp only[Act.put,List.setIfInBounds_toArray,List.set_cons_zero,List.set_cons_succ]
       have hx6:=Zbzr hHeld;replace hx4:=Zbyl hHeld hx4;replace hx7:=Zbyl hHeld hx7
       (try simp only[drew_size]at hx6);(try simp only[World.size_alloc]at hx6)
       obtain⟨V6,e6,hHeld⟩:=Zcba hHeld;rw[e6]at hx4 hx7 hx6⊢;clear e6;refine wpAnyH_ready (rs:=[8]) (by kernel_rfl) (by simp) ?_;refine AllReadyH.cons (o:=_) (by simp only[List.getElem?_toArray,List.getElem?_cons_succ,List.getElem?_cons_zero];rfl) (λK hK=>?_) ?_
       ·obtain⟨z0,z1,z2,z3⟩:=Zih hx6;go_simp
        refine hK.out _ _ ?_ (λhHeld=>?_)
        ·try dsimp only
         exact Zbyk hHeld hg6 _ _
        clear hK K
        try simp only[Act.put,List.setIfInBounds_toArray,List.set_cons_zero,List.set_cons_succ]
        replace hx6:=Zcai (x:= .bool true) (y:= .string X) hx6;replace hx7:=Zbyn (i:=1) (v:= .string X) (Zbyn (i:=0) (v:= .bool true) hx7 hne) hne;refine wpAnyH_ready (rs:=[9]) (by kernel_rfl) (by simp) ?_;refine AllReadyH.cons (o:=_) (by simp only[List.getElem?_toArray,List.getElem?_cons_succ,List.getElem?_cons_zero];rfl) (λK hK=>?_) ?_
        ·obtain⟨z0,z1,z2,z3⟩:=Zih hx7;go_simp
         refine hK.out _ _ ?_ (λhHeld=>?_)
         ·try dsimp only
          exact Zbyk hHeld hg7 _ _
         clear hK K
         try simp only[Act.put,List.setIfInBounds_toArray,List.set_cons_zero,List.set_cons_succ]
         replace hx7:=Zcai (x:= .bool true) (y:= .string Y) hx7;replace hx6:=Zbyn (i:=1) (v:= .string Y) (Zbyn (i:=0) (v:= .bool true) hx6 (Ne.symm hne)) (Ne.symm hne);refine wpAnyH_done (by kernel_rfl) ?_ _
         go_wp2_with fail
         go_meet;exact⟨_,_,rfl,rfl,hx6,hx7,hHeld⟩
        exact AllReadyH.nil
       exact AllReadyH.nil
      exact AllReadyH.nil
     refine AllReadyH.cons (o:=_) (by simp only[List.getElem?_toArray,List.getElem?_cons_succ,List.getElem?_cons_zero];rfl) (λK hK=>?_) ?_
     ·have hg6:=hHeld.size;(try simp only[drew_size]at hg6);(try simp only[World.size_alloc]at hg6);have hne:=Nat.ne_of_lt (Zfy hx7);(try simp only[drew_size]at hne);(try simp only[World.size_alloc]at hne);go_simp
      refine hK.out _ _ ?_ (λhHeld=>?_)
      ·try dsimp only
       exact hHeld.alloc hHeld.size _
      clear hK K
      try simp only[Act.put,List.setIfInBounds_toArray,List.set_cons_zero,List.set_cons_succ]
      have hx6:=Zbzr hHeld;replace hx4:=Zbyl hHeld hx4;replace hx7:=Zbyl hHeld hx7
      (try simp only[drew_size]at hx6);(try simp only[World.size_alloc]at hx6)
      obtain⟨V6,e6,hHeld⟩:=Zcba hHeld;rw[e6]at hx4 hx7 hx6⊢;clear e6;refine wpAnyH_ready (rs:=[5]) (by kernel_rfl) (by simp) ?_;refine AllReadyH.cons (o:=_) (by simp only[List.getElem?_toArray,List.getElem?_cons_succ,List.getElem?_cons_zero];rfl) (λK hK=>?_) ?_
      ·go_simp;refine(HDO.out _ 7 0 b _ 1 [s] Y (HUP.out _ hHeld) (Zbqj (xs:=[s]) hx4 (by show 1<=maxLen;decide)) (by omega) D2.out).mono ?_;rintro e w5 ⟨rfl,hbc⟩;replace hx4:=Zbym hx4 hbc;replace hx6:=Zbym hx6 hbc;replace hx7:=Zbym hx7 hbc;have hBc:=hHeld.trans (hbc.mono hHeld.size);clear hbc;dsimp only
       refine hK.out _ _ ?_ (λhHeld=>?_)
       ·try dsimp only
        exact hBc
       clear hK K
       try simp only[Act.put,List.setIfInBounds_toArray,List.set_cons_zero,List.set_cons_succ]
       clear hBc;refine wpAnyH_ready (rs:=[8]) (by kernel_rfl) (by simp) ?_;refine AllReadyH.cons (o:=_) (by simp only[List.getElem?_toArray,List.getElem?_cons_succ,List.getElem?_cons_zero];rfl) (λK hK=>?_) ?_
       ·obtain⟨z0,z1,z2,z3⟩:=Zih hx6;go_simp
        refine hK.out _ _ ?_ (λhHeld=>?_)
        ·try dsimp only
         exact Zbyk hHeld hg6 _ _
        clear hK K
        try simp only[Act.put,List.setIfInBounds_toArray,List.set_cons_zero,List.set_cons_succ]
        replace hx6:=Zcai (x:= .bool true) (y:= .string X) hx6;replace hx7:=Zbyn (i:=1) (v:= .string X) (Zbyn (i:=0) (v:= .bool true) hx7 hne) hne;refine wpAnyH_ready (rs:=[9]) (by kernel_rfl) (by simp) ?_;refine AllReadyH.cons (o:=_) (by simp only[List.getElem?_toArray,List.getElem?_cons_succ,List.getElem?_cons_zero];rfl) (λK hK=>?_) ?_
        ·obtain⟨z0,z1,z2,z3⟩:=Zih hx7;go_simp
         refine hK.out _ _ ?_ (λhHeld=>?_)
         ·try dsimp only
          exact Zbyk hHeld hg7 _ _
         clear hK K
         try simp only[Act.put,List.setIfInBounds_toArray,List.set_cons_zero,List.set_cons_succ]
         replace hx7:=Zcai (x:= .bool true) (y:= .string Y) hx7;replace hx6:=Zbyn (i:=1) (v:= .string Y) (Zbyn (i:=0) (v:= .bool true) hx6 (Ne.symm hne)) (Ne.symm hne);refine wpAnyH_done (by kernel_rfl) ?_ _
         go_wp2_with fail
         go_meet;exact⟨_,_,rfl,rfl,hx6,hx7,hHeld⟩
        exact AllReadyH.nil
       exact AllReadyH.nil
      exact AllReadyH.nil
     exact AllReadyH.nil
    refine AllReadyH.cons (o:=_) (by simp only[List.getElem?_toArray,List.getElem?_cons_succ,List.getElem?_cons_zero];rfl) (λK hK=>?_) ?_
    ·have hg6:=hHeld.size;(try simp only[drew_size]at hg6);(try simp only[World.size_alloc]at hg6);have hne:=Nat.ne_of_lt (Zfy hx7);(try simp only[drew_size]at hne);(try simp only[World.size_alloc]at hne);go_simp
     refine hK.out _ _ ?_ (λhHeld=>?_)
     ·try dsimp only
      exact hHeld.alloc hHeld.size _
     clear hK K
     try simp only[Act.put,List.setIfInBounds_toArray,List.set_cons_zero,List.set_cons_succ]
     have hx6:=Zbzr hHeld;replace hx7:=Zbyl hHeld hx7
     (try simp only[drew_size]at hx6);(try simp only[World.size_alloc]at hx6)
     obtain⟨V6,e6,hHeld⟩:=Zcba hHeld;rw[e6]at hx7 hx6⊢;clear e6;refine wpAnyH_ready (rs:=[4]) (by kernel_rfl) (by simp) ?_;refine AllReadyH.cons (o:=_) (by simp only[List.getElem?_toArray,List.getElem?_cons_succ,List.getElem?_cons_zero];rfl) (λK hK=>?_) ?_
     ·have hg4:=hHeld.size;(try simp only[drew_size]at hg4);(try simp only[World.size_alloc]at hg4);go_simp
      refine hK.out _ _ ?_ (λhHeld=>?_)
      ·try dsimp only
       exact hHeld.alloc hHeld.size _
      clear hK K
      try simp only[Act.put,List.setIfInBounds_toArray,List.set_cons_zero,List.set_cons_succ]
      have hx4:=Zbzr hHeld;replace hx6:=Zbyl hHeld hx6;replace hx7:=Zbyl hHeld hx7
      (try simp only[drew_size]at hx4);(try simp only[World.size_alloc]at hx4)
      obtain⟨V4,e4,hHeld⟩:=Zcba hHeld;rw[e4]at hx6 hx7 hx4⊢;clear e4;refine wpAnyH_ready (rs:=[5]) (by kernel_rfl) (by simp) ?_;refine AllReadyH.cons (o:=_) (by simp only[List.getElem?_toArray,List.getElem?_cons_succ,List.getElem?_cons_zero];rfl) (λK hK=>?_) ?_
      ·go_simp;refine(HDO.out _ 7 0 b _ 1 [s] Y (HUP.out _ hHeld) (Zbqj (xs:=[s]) hx4 (by show 1<=maxLen;decide)) (by omega) D2.out).mono ?_;rintro e w5 ⟨rfl,hbc⟩;replace hx4:=Zbym hx4 hbc;replace hx6:=Zbym hx6 hbc;replace hx7:=Zbym hx7 hbc;have hBc:=hHeld.trans (hbc.mono hHeld.size);clear hbc;dsimp only
       refine hK.out _ _ ?_ (λhHeld=>?_)
       ·try dsimp only
        exact hBc
       clear hK K
       try simp only[Act.put,List.setIfInBounds_toArray,List.set_cons_zero,List.set_cons_succ]
       clear hBc;refine wpAnyH_ready (rs:=[8]) (by kernel_rfl) (by simp) ?_;refine AllReadyH.cons (o:=_) (by simp only[List.getElem?_toArray,List.getElem?_cons_succ,List.getElem?_cons_zero];rfl) (λK hK=>?_) ?_
       ·obtain⟨z0,z1,z2,z3⟩:=Zih hx6;go_simp
        refine hK.out _ _ ?_ (λhHeld=>?_)
        ·try dsimp only
         exact Zbyk hHeld hg6 _ _
        clear hK K
        try simp only[Act.put,List.setIfInBounds_toArray,List.set_cons_zero,List.set_cons_succ]
        replace hx6:=Zcai (x:= .bool true) (y:= .string X) hx6;replace hx7:=Zbyn (i:=1) (v:= .string X) (Zbyn (i:=0) (v:= .bool true) hx7 hne) hne;refine wpAnyH_ready (rs:=[9]) (by kernel_rfl) (by simp) ?_;refine AllReadyH.cons (o:=_) (by simp only[List.getElem?_toArray,List.getElem?_cons_succ,List.getElem?_cons_zero];rfl) (λK hK=>?_) ?_
        ·obtain⟨z0,z1,z2,z3⟩:=Zih hx7;go_simp
         refine hK.out _ _ ?_ (λhHeld=>?_)
         ·try dsimp only
          exact Zbyk hHeld hg7 _ _
         clear hK K
         try simp only[Act.put,List.setIfInBounds_toArray,List.set_cons_zero,List.set_cons_succ]
         replace hx7:=Zcai (x:= .bool true) (y:= .string Y) hx7;replace hx6:=Zbyn (i:=1) (v:= .string Y) (Zbyn (i:=0) (v:= .bool true) hx6 (Ne.symm hne)) (Ne.symm hne);refine wpAnyH_done (by kernel_rfl) ?_ _
         go_wp2_with fail
         go_meet;exact⟨_,_,rfl,rfl,hx6,hx7,hHeld⟩
        exact AllReadyH.nil
       exact AllReadyH.nil
      exact AllReadyH.nil
     exact AllReadyH.nil
    exact AllReadyH.nil
   refine AllReadyH.cons (o:=_) (by simp only[List.getElem?_toArray,List.getElem?_cons_succ,List.getElem?_cons_zero];rfl) (λK hK=>?_) ?_
   ·have hg4:=hHeld.size;(try simp only[drew_size]at hg4);(try simp only[World.size_alloc]at hg4);go_simp
    refine hK.out _ _ ?_ (λhHeld=>?_)
    ·try dsimp only
     exact hHeld.alloc hHeld.size _
    clear hK K
    try simp only[Act.put,List.setIfInBounds_toArray,List.set_cons_zero,List.set_cons_succ]
    have hx4:=Zbzr hHeld;replace hx7:=Zbyl hHeld hx7
    (try simp only[drew_size]at hx4);(try simp only[World.size_alloc]at hx4)
    obtain⟨V4,e4,hHeld⟩:=Zcba hHeld;rw[e4]at hx7 hx4⊢;clear e4;refine wpAnyH_ready (rs:=[1,6]) (by kernel_rfl) (by simp) ?_;refine AllReadyH.cons (o:=_) (by simp only[List.getElem?_toArray,List.getElem?_cons_succ,List.getElem?_cons_zero];rfl) (λK hK=>?_) ?_
    ·go_simp;refine(HDO.out _ 3 0 b none 0 [] X (HUP.out _ hHeld) (Zbqk _) (by omega) D1.out).mono ?_;rintro e w3 ⟨rfl,hbc⟩;replace hx4:=Zbym hx4 hbc;replace hx7:=Zbym hx7 hbc;have hBc:=hHeld.trans (hbc.mono hHeld.size);clear hbc;dsimp only
     refine hK.out _ _ ?_ (λhHeld=>?_)
     ·try dsimp only
      exact hBc
     clear hK K
     try simp only[Act.put,List.setIfInBounds_toArray,List.set_cons_zero,List.set_cons_succ]
     clear hBc;refine wpAnyH_ready (rs:=[5,6]) (by kernel_rfl) (by simp) ?_;refine AllReadyH.cons (o:=_) (by simp only[List.getElem?_toArray,List.getElem?_cons_succ,List.getElem?_cons_zero];rfl) (λK hK=>?_) ?_
     ·go_simp;refine(HDO.out _ 7 0 b _ 1 [s] Y (HUP.out _ hHeld) (Zbqj (xs:=[s]) hx4 (by show 1<=maxLen;decide)) (by omega) D2.out).mono ?_;rintro e w5 ⟨rfl,hbc⟩;replace hx4:=Zbym hx4 hbc;replace hx7:=Zbym hx7 hbc;have hBc:=hHeld.trans (hbc.mono hHeld.size);clear hbc;dsimp only
      refine hK.out _ _ ?_ (λhHeld=>?_)
      ·try dsimp only
       exact hBc
      clear hK K
      try simp only[Act.put,List.setIfInBounds_toArray,List.set_cons_zero,List.set_cons_succ]
      clear hBc;refine wpAnyH_ready (rs:=[6]) (by kernel_rfl) (by simp) ?_;refine AllReadyH.cons (o:=_) (by simp only[List.getElem?_toArray,List.getElem?_cons_succ,List.getElem?_cons_zero];rfl) (λK hK=>?_) ?_
      ·have hg6:=hHeld.size;(try simp only[drew_size]at hg6);(try simp only[World.size_alloc]at hg6);have hne:=Nat.ne_of_lt (Zfy hx7);(try simp only[drew_size]at hne);(try simp only[World.size_alloc]at hne);go_simp
       refine hK.out _ _ ?_ (λhHeld=>?_)
       ·try dsimp only
        exact hHeld.alloc hHeld.size _
       clear hK K
       try simp only[Act.put,List.setIfInBounds_toArray,List.set_cons_zero,List.set_cons_succ]
       have hx6:=Zbzr hHeld;replace hx4:=Zbyl hHeld hx4;replace hx7:=Zbyl hHeld hx7
       (try simp only[drew_size]at hx6);(try simp only[World.size_alloc]at hx6)
       obtain⟨V6,e6,hHeld⟩:=Zcba hHeld;rw[e6]at hx4 hx7 hx6⊢;clear e6;refine wpAnyH_ready (rs:=[8]) (by kernel_rfl) (by simp) ?_;refine AllReadyH.cons (o:=_) (by simp only[List.getElem?_toArray,List.getElem?_cons_succ,List.getElem?_cons_zero];rfl) (λK hK=>?_) ?_
       ·obtain⟨z0,z1,z2,z3⟩:=Zih hx6;go_simp
        refine hK.out _ _ ?_ (λhHeld=>?_)
        ·try dsimp only
         exact Zbyk hHeld hg6 _ _
        clear hK K
        try simp only[Act.put,List.setIfInBounds_toArray,List.set_cons_zero,List.set_cons_succ]
        replace hx6:=Zcai (x:= .bool true) (y:= .string X) hx6;replace hx7:=Zbyn (i:=1) (v:= .string X) (Zbyn (i:=0) (v:= .bool true) hx7 hne) hne;refine wpAnyH_ready (rs:=[9]) (by kernel_rfl) (by simp) ?_;refine AllReadyH.cons (o:=_) (by simp only[List.getElem?_toArray,List.getElem?_cons_succ,List.getElem?_cons_zero];rfl) (λK hK=>?_) ?_
        ·obtain⟨z0,z1,z2,z3⟩:=Zih hx7;go_simp
         refine hK.out _ _ ?_ (λhHeld=>?_)
         ·try dsimp only
          exact Zbyk hHeld hg7 _ _
         clear hK K
         try simp only[Act.put,List.setIfInBounds_toArray,List.set_cons_zero,List.set_cons_succ]
         replace hx7:=Zcai (x:= .bool true) (y:= .string Y) hx7;replace hx6:=Zbyn (i:=1) (v:= .string Y) (Zbyn (i:=0) (v:= .bool true) hx6 (Ne.symm hne)) (Ne.symm hne);refine wpAnyH_done (by kernel_rfl) ?_ _
         go_wp2_with fail
         go_meet;exact⟨_,_,rfl,rfl,hx6,hx7,hHeld⟩
        exact AllReadyH.nil
       exact AllReadyH.nil
      exact AllReadyH.nil
     refine AllReadyH.cons (o:=_) (by simp only[List.getElem?_toArray,List.getElem?_cons_succ,List.getElem?_cons_zero];rfl) (λK hK=>?_) ?_
     ·have hg6:=hHeld.size;(try simp only[drew_size]at hg6);(try simp only[World.size_alloc]at hg6);have hne:=Nat.ne_of_lt (Zfy hx7);(try simp only[drew_size]at hne);(try simp only[World.size_alloc]at hne);go_simp
      refine hK.out _ _ ?_ (λhHeld=>?_)
      ·try dsimp only
       exact hHeld.alloc hHeld.size _
      clear hK K
      try simp only[Act.put,List.setIfInBounds_toArray,List.set_cons_zero,List.set_cons_succ]
      have hx6:=Zbzr hHeld;replace hx4:=Zbyl hHeld hx4;replace hx7:=Zbyl hHeld hx7
      (try simp only[drew_size]at hx6);(try simp only[World.size_alloc]at hx6)
      obtain⟨V6,e6,hHeld⟩:=Zcba hHeld;rw[e6]at hx4 hx7 hx6⊢;clear e6;refine wpAnyH_ready (rs:=[5]) (by kernel_rfl) (by simp) ?_;refine AllReadyH.cons (o:=_) (by simp only[List.getElem?_toArray,List.getElem?_cons_succ,List.getElem?_cons_zero];rfl) (λK hK=>?_) ?_
      ·go_simp;refine(HDO.out _ 7 0 b _ 1 [s] Y (HUP.out _ hHeld) (Zbqj (xs:=[s]) hx4 (by show 1<=maxLen;decide)) (by omega) D2.out).mono ?_;rintro e w5 ⟨rfl,hbc⟩;replace hx4:=Zbym hx4 hbc;replace hx6:=Zbym hx6 hbc;replace hx7:=Zbym hx7 hbc;have hBc:=hHeld.trans (hbc.mono hHeld.size);clear hbc;dsimp only
       refine hK.out _ _ ?_ (λhHeld=>?_)
       ·try dsimp only
        exact hBc
       clear hK K
       try simp only[Act.put,List.setIfInBounds_toArray,List.set_cons_zero,List.set_cons_succ]
       clear hBc;refine wpAnyH_ready (rs:=[8]) (by kernel_rfl) (by simp) ?_;refine AllReadyH.cons (o:=_) (by simp only[List.getElem?_toArray,List.getElem?_cons_succ,List.getElem?_cons_zero];rfl) (λK hK=>?_) ?_
       ·obtain⟨z0,z1,z2,z3⟩:=Zih hx6;go_simp
        refine hK.out _ _ ?_ (λhHeld=>?_)
        ·try dsimp only
         exact Zbyk hHeld hg6 _ _
        clear hK K
        try simp only[Act.put,List.setIfInBounds_toArray,List.set_cons_zero,List.set_cons_succ]
        replace hx6:=Zcai (x:= .bool true) (y:= .string X) hx6;replace hx7:=Zbyn (i:=1) (v:= .string X) (Zbyn (i:=0) (v:= .bool true) hx7 hne) hne;refine wpAnyH_ready (rs:=[9]) (by kernel_rfl) (by simp) ?_;refine AllReadyH.cons (o:=_) (by simp only[List.getElem?_toArray,List.getElem?_cons_succ,List.getElem?_cons_zero];rfl) (λK hK=>?_) ?_
        ·obtain⟨z0,z1,z2,z3⟩:=Zih hx7;go_simp
         refine hK.out _ _ ?_ (λhHeld=>?_)
         ·try dsimp only
          exact Zbyk hHeld hg7 _ _
         clear hK K
         try simp only[Act.put,List.setIfInBounds_toArray,List.set_cons_zero,List.set_cons_succ]
         replace hx7:=Zcai (x:= .bool true) (y:= .string Y) hx7;replace hx6:=Zbyn (i:=1) (v:= .string Y) (Zbyn (i:=0) (v:= .bool true) hx6 (Ne.symm hne)) (Ne.symm hne);refine wpAnyH_done (by kernel_rfl) ?_ _
         go_wp2_with fail
         go_meet;exact⟨_,_,rfl,rfl,hx6,hx7,hHeld⟩
        exact AllReadyH.nil
       exact AllReadyH.nil
      exact AllReadyH.nil
     exact AllReadyH.nil
    refine AllReadyH.cons (o:=_) (by simp only[List.getElem?_toArray,List.getElem?_cons_succ,List.getElem?_cons_zero];rfl) (λK hK=>?_) ?_
    ·have hg6:=hHeld.size;(try simp only[drew_size]at hg6);(try simp only[World.size_alloc]at hg6);have hne:=Nat.ne_of_lt (Zfy hx7);(try simp only[drew_size]at hne);(try simp only[World.size_alloc]at hne);go_simp
     refine hK.out _ _ ?_ (λhHeld=>?_)
     ·try dsimp only
      exact hHeld.alloc hHeld.size _
     clear hK K
     try simp only[Act.put,List.setIfInBounds_toArray,List.set_cons_zero,List.set_cons_succ]
     have hx6:=Zbzr hHeld;replace hx4:=Zbyl hHeld hx4;replace hx7:=Zbyl hHeld hx7
     (try simp only[drew_size]at hx6);(try simp only[World.size_alloc]at hx6)
     obtain⟨V6,e6,hHeld⟩:=Zcba hHeld;rw[e6]at hx4 hx7 hx6⊢;clear e6;refine wpAnyH_ready (rs:=[1]) (by kernel_rfl) (by simp) ?_;refine AllReadyH.cons (o:=_) (by simp only[List.getElem?_toArray,List.getElem?_cons_succ,List.getElem?_cons_zero];rfl) (λK hK=>?_) ?_
     ·go_simp;refine(HDO.out _ 3 0 b none 0 [] X (HUP.out _ hHeld) (Zbqk _) (by omega) D1.out).mono ?_;rintro e w3 ⟨rfl,hbc⟩;replace hx4:=Zbym hx4 hbc;replace hx6:=Zbym hx6 hbc;replace hx7:=Zbym hx7 hbc;have hBc:=hHeld.trans (hbc.mono hHeld.size);clear hbc;dsimp only
      refine hK.out _ _ ?_ (λhHeld=>?_)
      ·try dsimp only
       exact hBc
      clear hK K
      try simp only[Act.put,List.setIfInBounds_toArray,List.set_cons_zero,List.set_cons_succ]
      clear hBc;refine wpAnyH_ready (rs:=[5]) (by kernel_rfl) (by simp) ?_;refine AllReadyH.cons (o:=_) (by simp only[List.getElem?_toArray,List.getElem?_cons_succ,List.getElem?_cons_zero];rfl) (λK hK=>?_) ?_
      ·go_simp;refine(HDO.out _ 7 0 b _ 1 [s] Y (HUP.out _ hHeld) (Zbqj (xs:=[s]) hx4 (by show 1<=maxLen;decide)) (by omega) D2.out).mono ?_;rintro e w5 ⟨rfl,hbc⟩;replace hx4:=Zbym hx4 hbc;replace hx6:=Zbym hx6 hbc;replace hx7:=Zbym hx7 hbc;have hBc:=hHeld.trans (hbc.mono hHeld.size);clear hbc;dsimp only
       refine hK.out _ _ ?_ (λhHeld=>?_)
       ·try dsimp only
        exact hBc
       clear hK K
       try simp only[Act.put,List.setIfInBounds_toArray,List.set_cons_zero,List.set_cons_succ]
       clear hBc;refine wpAnyH_ready (rs:=[8]) (by kernel_rfl) (by simp) ?_;refine AllReadyH.cons (o:=_) (by simp only[List.getElem?_toArray,List.getElem?_cons_succ,List.getElem?_cons_zero];rfl) (λK hK=>?_) ?_
       ·obtain⟨z0,z1,z2,z3⟩:=Zih hx6;go_simp
        refine hK.out _ _ ?_ (λhHeld=>?_)
        ·try dsimp only
         exact Zbyk hHeld hg6 _ _
        clear hK K
        try simp only[Act.put,List.setIfInBounds_toArray,List.set_cons_zero,List.set_cons_succ]
        replace hx6:=Zcai (x:= .bool true) (y:= .string X) hx6;replace hx7:=Zbyn (i:=1) (v:= .string X) (Zbyn (i:=0) (v:= .bool true) hx7 hne) hne;refine wpAnyH_ready (rs:=[9]) (by kernel_rfl) (by simp) ?_;refine AllReadyH.cons (o:=_) (by simp only[List.getElem?_toArray,List.getElem?_cons_succ,List.getElem?_cons_zero];rfl) (λK hK=>?_) ?_
        ·obtain⟨z0,z1,z2,z3⟩:=Zih hx7;go_simp
         refine hK.out _ _ ?_ (λhHeld=>?_)
         ·try dsimp only
          exact Zbyk hHeld hg7 _ _
         clear hK K
         try simp only[Act.put,List.setIfInBounds_toArray,List.set_cons_zero,List.set_cons_succ]
         replace hx7:=Zcai (x:= .bool true) (y:= .string Y) hx7;replace hx6:=Zbyn (i:=1) (v:= .string Y) (Zbyn (i:=0) (v:= .bool true) hx6 (Ne.symm hne)) (Ne.symm hne);refine wpAnyH_done (by kernel_rfl) ?_ _
         go_wp2_with fail
         go_meet;exact⟨_,_,rfl,rfl,hx6,hx7,hHeld⟩
        exact AllReadyH.nil
       exact AllReadyH.nil
      exact AllReadyH.nil
     exact AllReadyH.nil
    exact AllReadyH.nil
   refine AllReadyH.cons (o:=_) (by simp only[List.getElem?_toArray,List.getElem?_cons_succ,List.getElem?_cons_zero];rfl) (λK hK=>?_) ?_
   ·have hg6:=hHeld.size;(try simp only[drew_size]at hg6);(try simp only[World.size_alloc]at hg6);have hne:=Nat.ne_of_lt (Zfy hx7);(try simp only[drew_size]at hne);(try simp only[World.size_alloc]at hne);go_simp
    refine hK.out _ _ ?_ (λhHeld=>?_)
    ·try dsimp only
     exact hHeld.alloc hHeld.size _
    clear hK K
    try simp only[Act.put,List.setIfInBounds_toArray,List.set_cons_zero,List.set_cons_succ]
    have hx6:=Zbzr hHeld;replace hx7:=Zbyl hHeld hx7
    (try simp only[drew_size]at hx6);(try simp only[World.size_alloc]at hx6)
    obtain⟨V6,e6,hHeld⟩:=Zcba hHeld;rw[e6]at hx7 hx6⊢;clear e6;refine wpAnyH_ready (rs:=[1,4]) (by kernel_rfl) (by simp) ?_;refine AllReadyH.cons (o:=_) (by simp only[List.getElem?_toArray,List.getElem?_cons_succ,List.getElem?_cons_zero];rfl) (λK hK=>?_) ?_
    ·go_simp;refine(HDO.out _ 3 0 b none 0 [] X (HUP.out _ hHeld) (Zbqk _) (by omega) D1.out).mono ?_;rintro e w3 ⟨rfl,hbc⟩;replace hx6:=Zbym hx6 hbc;replace hx7:=Zbym hx7 hbc;have hBc:=hHeld.trans (hbc.mono hHeld.size);clear hbc;dsimp only
     refine hK.out _ _ ?_ (λhHeld=>?_)
     ·try dsimp only
      exact hBc
     clear hK K
     try simp only[Act.put,List.setIfInBounds_toArray,List.set_cons_zero,List.set_cons_succ]
     clear hBc;refine wpAnyH_ready (rs:=[4]) (by kernel_rfl) (by simp) ?_;refine AllReadyH.cons (o:=_) (by simp only[List.getElem?_toArray,List.getElem?_cons_succ,List.getElem?_cons_zero];rfl) (λK hK=>?_) ?_
     ·have hg4:=hHeld.size;(try simp only[drew_size]at hg4);(try simp only[World.size_alloc]at hg4);go_simp
      refine hK.out _ _ ?_ (λhHeld=>?_)
      ·try dsimp only
       exact hHeld.alloc hHeld.size _
      clear hK K
      try simp only[Act.put,List.setIfInBounds_toArray,List.set_cons_zero,List.set_cons_succ]
      have hx4:=Zbzr hHeld;replace hx6:=Zbyl hHeld hx6;replace hx7:=Zbyl hHeld hx7
      (try simp only[drew_size]at hx4);(try simp only[World.size_alloc]at hx4)
      obtain⟨V4,e4,hHeld⟩:=Zcba hHeld;rw[e4]at hx6 hx7 hx4⊢;clear e4;refine wpAnyH_ready (rs:=[5]) (by kernel_rfl) (by simp) ?_;refine AllReadyH.cons (o:=_) (by simp only[List.getElem?_toArray,List.getElem?_cons_succ,List.getElem?_cons_zero];rfl) (λK hK=>?_) ?_
      ·go_simp;refine(HDO.out _ 7 0 b _ 1 [s] Y (HUP.out _ hHeld) (Zbqj (xs:=[s]) hx4 (by show 1<=maxLen;decide)) (by omega) D2.out).mono ?_;rintro e w5 ⟨rfl,hbc⟩;replace hx4:=Zbym hx4 hbc;replace hx6:=Zbym hx6 hbc;replace hx7:=Zbym hx7 hbc;have hBc:=hHeld.trans (hbc.mono hHeld.size);clear hbc;dsimp only
       refine hK.out _ _ ?_ (λhHeld=>?_)
       ·try dsimp only
        exact hBc
       clear hK K
       try simp only[Act.put,List.setIfInBounds_toArray,List.set_cons_zero,List.set_cons_succ]
       clear hBc;refine wpAnyH_ready (rs:=[8]) (by kernel_rfl) (by simp) ?_;refine AllReadyH.cons (o:=_) (by simp only[List.getElem?_toArray,List.getElem?_cons_succ,List.getElem?_cons_zero];rfl) (λK hK=>?_) ?_
       ·obtain⟨z0,z1,z2,z3⟩:=Zih hx6;go_simp
        refine hK.out _ _ ?_ (λhHeld=>?_)
        ·try dsimp only
         exact Zbyk hHeld hg6 _ _
        clear hK K
        try simp only[Act.put,List.setIfInBounds_toArray,List.set_cons_zero,List.set_cons_succ]
        replace hx6:=Zcai (x:= .bool true) (y:= .string X) hx6;replace hx7:=Zbyn (i:=1) (v:= .string X) (Zbyn (i:=0) (v:= .bool true) hx7 hne) hne;refine wpAnyH_ready (rs:=[9]) (by kernel_rfl) (by simp) ?_;refine AllReadyH.cons (o:=_) (by simp only[List.getElem?_toArray,List.getElem?_cons_succ,List.getElem?_cons_zero];rfl) (λK hK=>?_) ?_
        ·obtain⟨z0,z1,z2,z3⟩:=Zih hx7;go_simp
         refine hK.out _ _ ?_ (λhHeld=>?_)
         ·try dsimp only
          exact Zbyk hHeld hg7 _ _
         clear hK K
         try simp only[Act.put,List.setIfInBounds_toArray,List.set_cons_zero,List.set_cons_succ]
         replace hx7:=Zcai (x:= .bool true) (y:= .string Y) hx7;replace hx6:=Zbyn (i:=1) (v:= .string Y) (Zbyn (i:=0) (v:= .bool true) hx6 (Ne.symm hne)) (Ne.symm hne);refine wpAnyH_done (by kernel_rfl) ?_ _
         go_wp2_with fail
         go_meet;exact⟨_,_,rfl,rfl,hx6,hx7,hHeld⟩
        exact AllReadyH.nil
       exact AllReadyH.nil
      exact AllReadyH.nil
     exact AllReadyH.nil
    refine AllReadyH.cons (o:=_) (by simp only[List.getElem?_toArray,List.getElem?_cons_succ,List.getElem?_cons_zero];rfl) (λK hK=>?_) ?_
    ·have hg4:=hHeld.size;(try simp only[drew_size]at hg4);(try simp only[World.size_alloc]at hg4);go_simp
     refine hK.out _ _ ?_ (λhHeld=>?_)
     ·try dsimp only
      exact hHeld.alloc hHeld.size _
     clear hK K
     try simp only[Act.put,List.setIfInBounds_toArray,List.set_cons_zero,List.set_cons_succ]
     have hx4:=Zbzr hHeld;replace hx6:=Zbyl hHeld hx6;replace hx7:=Zbyl hHeld hx7
     (try simp only[drew_size]at hx4);(try simp only[World.size_alloc]at hx4)
     obtain⟨V4,e4,hHeld⟩:=Zcba hHeld;rw[e4]at hx6 hx7 hx4⊢;clear e4;refine wpAnyH_ready (rs:=[1]) (by kernel_rfl) (by simp) ?_;refine AllReadyH.cons (o:=_) (by simp only[List.getElem?_toArray,List.getElem?_cons_succ,List.getElem?_cons_zero];rfl) (λK hK=>?_) ?_
     ·go_simp;refine(HDO.out _ 3 0 b none 0 [] X (HUP.out _ hHeld) (Zbqk _) (by omega) D1.out).mono ?_;rintro e w3 ⟨rfl,hbc⟩;replace hx4:=Zbym hx4 hbc;replace hx6:=Zbym hx6 hbc;replace hx7:=Zbym hx7 hbc;have hBc:=hHeld.trans (hbc.mono hHeld.size);clear hbc;dsimp only
      refine hK.out _ _ ?_ (λhHeld=>?_)
      ·try dsimp only
       exact hBc
      clear hK K
      try simp only[Act.put,List.setIfInBounds_toArray,List.set_cons_zero,List.set_cons_succ]
      clear hBc;refine wpAnyH_ready (rs:=[5]) (by kernel_rfl) (by simp) ?_;refine AllReadyH.cons (o:=_) (by simp only[List.getElem?_toArray,List.getElem?_cons_succ,List.getElem?_cons_zero];rfl) (λK hK=>?_) ?_
      ·go_simp;refine(HDO.out _ 7 0 b _ 1 [s] Y (HUP.out _ hHeld) (Zbqj (xs:=[s]) hx4 (by show 1<=maxLen;decide)) (by omega) D2.out).mono ?_;rintro e w5 ⟨rfl,hbc⟩;replace hx4:=Zbym hx4 hbc;replace hx6:=Zbym hx6 hbc;replace hx7:=Zbym hx7 hbc;have hBc:=hHeld.trans (hbc.mono hHeld.size);clear hbc;dsimp only
       refine hK.out _ _ ?_ (λhHeld=>?_)
       ·try dsimp only
        exact hBc
       clear hK K
       try simp only[Act.put,List.setIfInBounds_toArray,List.set_cons_zero,List.set_cons_succ]
       clear hBc;refine wpAnyH_ready (rs:=[8]) (by kernel_rfl) (by simp) ?_;refine AllReadyH.cons (o:=_) (by simp only[List.getElem?_toArray,List.getElem?_cons_succ,List.getElem?_cons_zero];rfl) (λK hK=>?_) ?_
       ·obtain⟨z0,z1,z2,z3⟩:=Zih hx6;go_simp
        refine hK.out _ _ ?_ (λhHeld=>?_)
        ·try dsimp only
         exact Zbyk hHeld hg6 _ _
        clear hK K
        try simp only[Act.put,List.setIfInBounds_toArray,List.set_cons_zero,List.set_cons_succ]
        replace hx6:=Zcai (x:= .bool true) (y:= .string X) hx6;replace hx7:=Zbyn (i:=1) (v:= .string X) (Zbyn (i:=0) (v:= .bool true) hx7 hne) hne;refine wpAnyH_ready (rs:=[9]) (by kernel_rfl) (by simp) ?_;refine AllReadyH.cons (o:=_) (by simp only[List.getElem?_toArray,List.getElem?_cons_succ,List.getElem?_cons_zero];rfl) (λK hK=>?_) ?_
        ·obtain⟨z0,z1,z2,z3⟩:=Zih hx7;go_simp
         refine hK.out _ _ ?_ (λhHeld=>?_)
         ·try dsimp only
          exact Zbyk hHeld hg7 _ _
         clear hK K
         try simp only[Act.put,List.setIfInBounds_toArray,List.set_cons_zero,List.set_cons_succ]
         replace hx7:=Zcai (x:= .bool true) (y:= .string Y) hx7;replace hx6:=Zbyn (i:=1) (v:= .string Y) (Zbyn (i:=0) (v:= .bool true) hx6 (Ne.symm hne)) (Ne.symm hne);refine wpAnyH_done (by kernel_rfl) ?_ _
         go_wp2_with fail
         go_meet;exact⟨_,_,rfl,rfl,hx6,hx7,hHeld⟩
        exact AllReadyH.nil
       exact AllReadyH.nil
      exact AllReadyH.nil
     exact AllReadyH.nil
    exact AllReadyH.nil
   exact AllReadyH.nil
  exact AllReadyH.nil
 case rest=>
  obtain⟨g,h,rfl,rfl,hxg,hxh,hbw⟩:=hcut;obtain⟨WC,rfl⟩:∃V,V=wc:=⟨_,rfl⟩;have HX:Hid (∀V,Below WC.heap.size WC V->(V.cell? ⟨g,0,none⟩=some (.bool true)/\V.cell? ⟨g,1,none⟩=some (.string X))/\(V.cell? ⟨h,0,none⟩=some (.bool true)/\V.cell? ⟨h,1,none⟩=some (.string Y))/\V.cell? ⟨B0,0,none⟩=some (.bool true)/\V.cell? ⟨B0,1,none⟩=some (.string b)):=by
   show ∀V,_;intro V hV;obtain⟨p0,p1,_,_⟩:=Zih (Zbym hxg hV);obtain⟨q0,q1,_,_⟩:=Zih (Zbym hxh hV);exact⟨⟨p0,p1⟩,⟨q0,q1⟩,HBX.out V (hbw.trans (hV.mono hbw.size))⟩
  have HUP2:Hid (∀V,Below WC.heap.size WC V->Below w.heap.size w V):=by show ∀V,_;exact λV hV=>HUP.out V (hbw.trans (hV.mono hbw.size))
  clear hxg hxh hbw HUP HBX;have hHB:Below WC.heap.size WC WC:=Below.refl _ _
  go_upto_region 8 with fail
  go_cut [56] (λt wx=>t = .bool false/\Below WC.heap.size WC wx)
  case first=>
   refine wp_region_held_drew (S:=λV=>Below WC.heap.size WC V) (by kernel_rfl) ?_ (λhHeld=>?_)
   ·exact below_drewN hHB 1
   refine tkH 0 (v:=?_) ?_ ?_;rotate_left
   ·intro w hSw;obtain⟨⟨p0,p1⟩,⟨q0,q1⟩,z0,z1⟩:=HX.out _ hSw;go_simp;try with_reducible rfl
   try simp only[Act.put,List.setIfInBounds_toArray,List.set_cons_zero,List.set_cons_succ]
   refine tkH 2 (v:=?_) ?_ ?_;rotate_left
   ·intro w hSw;obtain⟨⟨p0,p1⟩,⟨q0,q1⟩,z0,z1⟩:=HX.out _ hSw;go_simp;try with_reducible rfl
   try simp only[Act.put,List.setIfInBounds_toArray,List.set_cons_zero,List.set_cons_succ]
   refine wpAnyH_ready (rs:=[1]) (by kernel_rfl) (by simp) ?_;refine AllReadyH.cons (o:=_) (by simp only[List.getElem?_toArray,List.getElem?_cons_succ,List.getElem?_cons_zero];rfl) (λK hK=>?_) ?_
   ·go_simp;refine(HDO.out _ 3 0 X none 0 [] X (HUP2.out _ hHeld) (Zbqk _) (by omega) D3.out).mono ?_;rintro e w4 ⟨rfl,hbc⟩;have hBc:=hHeld.trans (hbc.mono hHeld.size);clear hbc;dsimp only
    refine hK.out _ _ ?_ (λhHeld=>?_)
    ·try dsimp only
     exact hBc
    clear hK K
    try simp only[Act.put,List.setIfInBounds_toArray,List.set_cons_zero,List.set_cons_succ]
    clear hBc;refine tkH 3 (v:=?_) ?_ ?_;rotate_left
    ·intro w hSw;go_simp;try with_reducible rfl
    try simp only[Act.put,List.setIfInBounds_toArray,List.set_cons_zero,List.set_cons_succ]
    refine tkH 4 (v:=?_) ?_ ?_;rotate_left
    ·intro w hSw;go_simp;try with_reducible rfl
    try simp only[Act.put,List.setIfInBounds_toArray,List.set_cons_zero,List.set_cons_succ]
    refine tkH 5 (v:=?_) ?_ ?_;rotate_left
    ·intro w hSw;obtain⟨⟨p0,p1⟩,⟨q0,q1⟩,z0,z1⟩:=HX.out _ hSw;go_simp;try with_reducible rfl
    try simp only[Act.put,List.setIfInBounds_toArray,List.set_cons_zero,List.set_cons_succ]
    refine tkH 6 (v:=?_) ?_ ?_;rotate_left
    ·intro w hSw;go_simp;try with_reducible rfl
    try simp only[Act.put,List.setIfInBounds_toArray,List.set_cons_zero,List.set_cons_succ]
    refine tkH 9 (v:=?_) ?_ ?_;rotate_left
    ·intro w hSw;obtain⟨⟨p0,p1⟩,⟨q0,q1⟩,z0,z1⟩:=HX.out _ hSw;go_simp;try with_reducible rfl
    try simp only[Act.put,List.setIfInBounds_toArray,List.set_cons_zero,List.set_cons_succ]
    refine wpAnyH_ready (rs:=[7]) (by kernel_rfl) (by simp) ?_;refine AllReadyH.cons (o:=_) (by simp only[List.getElem?_toArray,List.getElem?_cons_succ,List.getElem?_cons_zero];rfl) (λK hK=>?_) ?_
    ·go_simp
     refine hK.out _ _ ?_ (λhHeld=>?_)
     ·try dsimp only
      exact hHeld.alloc hHeld.size _
     clear hK K
     try simp only[Act.put,List.setIfInBounds_toArray,List.set_cons_zero,List.set_cons_succ]
     have hx:=Zbzr hHeld;refine wpAnyH_ready (rs:=[8]) (by kernel_rfl) (by simp) ?_;refine AllReadyH.cons (o:=_) (by simp only[List.getElem?_toArray,List.getElem?_cons_succ,List.getElem?_cons_zero];rfl) (λK hK=>?_) ?_
     ·go_simp;refine(HDO.out _ 7 0 Y _ 1 [s] Y (HUP2.out _ hHeld) (Zbqj (xs:=[s]) hx (by show 1<=maxLen;decide)) (by omega) D4.out).mono ?_;rintro e w5 ⟨rfl,hbc⟩;have hBc:=hHeld.trans (hbc.mono hHeld.size);clear hbc;dsimp only
      refine hK.out _ _ ?_ (λhHeld=>?_)
      ·try dsimp only
       exact hBc
      clear hK K
      try simp only[Act.put,List.setIfInBounds_toArray,List.set_cons_zero,List.set_cons_succ]
      clear hBc hx;refine tkH 10 (v:=?_) ?_ ?_;rotate_left
      ·intro w hSw;go_simp;try with_reducible rfl
      try simp only[Act.put,List.setIfInBounds_toArray,List.set_cons_zero,List.set_cons_succ]
      refine tkH 11 (v:=?_) ?_ ?_;rotate_left
      ·intro w hSw;go_simp;try with_reducible rfl
      try simp only[Act.put,List.setIfInBounds_toArray,List.set_cons_zero,List.set_cons_succ]
      refine tkH 12 (v:=?_) ?_ ?_;rotate_left
      ·intro w hSw;go_simp;try with_reducible rfl
      try simp only[Act.put,List.setIfInBounds_toArray,List.set_cons_zero,List.set_cons_succ]
      refine tkH 13 (v:=?_) ?_ ?_;rotate_left
      ·intro w hSw;obtain⟨⟨p0,p1⟩,⟨q0,q1⟩,z0,z1⟩:=HX.out _ hSw;go_simp;try with_reducible rfl
      try simp only[Act.put,List.setIfInBounds_toArray,List.set_cons_zero,List.set_cons_succ]
      refine tkH 15 (v:=?_) ?_ ?_;rotate_left
      ·intro w hSw;obtain⟨⟨p0,p1⟩,⟨q0,q1⟩,z0,z1⟩:=HX.out _ hSw;go_simp;try with_reducible rfl
      try simp only[Act.put,List.setIfInBounds_toArray,List.set_cons_zero,List.set_cons_succ]
      refine tkH 16 (v:=?_) ?_ ?_;rotate_left
      ·intro w hSw;go_simp;try with_reducible rfl
      try simp only[Act.put,List.setIfInBounds_toArray,List.set_cons_zero,List.set_cons_succ]
      refine wpAnyH_ready (rs:=[14,17]) (by kernel_rfl) (by simp) ?_;refine AllReadyH.cons (o:=_) (by simp only[List.getElem?_toArray,List.getElem?_cons_succ,List.getElem?_cons_zero];rfl) (λK hK=>?_) ?_
      ·go_simp;refine(HDO.out _ 3 0 Y none 0 [] Z (HUP2.out _ hHeld) (Zbqk _) (by omega) D5.out).mono ?_;rintro e w6 ⟨rfl,hbc⟩;have hBc:=hHeld.trans (hbc.mono hHeld.size);clear hbc;dsimp only
       refine hK.out _ _ ?_ (λhHeld=>?_)
       ·try dsimp only
        exact hBc
       clear hK K
       try simp only[Act.put,List.setIfInBounds_toArray,List.set_cons_zero,List.set_cons_succ]
       clear hBc;refine wpAnyH_ready (rs:=[17]) (by kernel_rfl) (by simp) ?_;refine AllReadyH.cons (o:=_) (by simp only[List.getElem?_toArray,List.getElem?_cons_succ,List.getElem?_cons_zero];rfl) (λK hK=>?_) ?_
       ·go_simp
        refine hK.out _ _ ?_ (λhHeld=>?_)
        ·try dsimp only
         exact hHeld.alloc hHeld.size _
        clear hK K
        try simp only[Act.put,List.setIfInBounds_toArray,List.set_cons_zero,List.set_cons_succ]
        have hx:=Zbzr hHeld;refine wpAnyH_ready (rs:=[18]) (by kernel_rfl) (by simp) ?_;refine AllReadyH.cons (o:=_) (by simp only[List.getElem?_toArray,List.getElem?_cons_succ,List.getElem?_cons_zero];rfl) (λK hK=>?_) ?_
        ·go_simp;refine(HDO.out _ 7 0 X _ 1 [s] Z (HUP2.out _ hHeld) (Zbqj (xs:=[s]) hx (by show 1<=maxLen;decide)) (by omega) D6.out).mono ?_;rintro e w7 ⟨rfl,hbc⟩;have hBc:=hHeld.trans (hbc.mono hHeld.size);clear hbc;dsimp only
         refine hK.out _ _ ?_ (λhHeld=>?_)
         ·try dsimp only
          exact hBc
         clear hK K
         try simp only[Act.put,List.setIfInBounds_toArray,List.set_cons_zero,List.set_cons_succ]
         refine tkH 19 (v:=?_) ?_ ?_;rotate_left
         ·intro w hSw;go_simp;try with_reducible rfl
         try simp only[Act.put,List.setIfInBounds_toArray,List.set_cons_zero,List.set_cons_succ]
         refine tkH 20 (v:=?_) ?_ ?_;rotate_left
         ·intro w hSw;go_simp;try with_reducible rfl
         try simp only[Act.put,List.setIfInBounds_toArray,List.set_cons_zero,List.set_cons_succ]
         refine wpAnyH_done (by kernel_rfl) ?_ _
         go_wp2_with fail
         go_meet;exact⟨rfl,hBc⟩
        exact AllReadyH.nil
       exact AllReadyH.nil
      refine AllReadyH.cons (o:=_) (by simp only[List.getElem?_toArray,List.getElem?_cons_succ,List.getElem?_cons_zero];rfl) (λK hK=>?_) ?_
      ·go_simp
       refine hK.out _ _ ?_ (λhHeld=>?_)
       ·try dsimp only
        exact hHeld.alloc hHeld.size _
       clear hK K
       try simp only[Act.put,List.setIfInBounds_toArray,List.set_cons_zero,List.set_cons_succ]
       have hx:=Zbzr hHeld;refine wpAnyH_ready (rs:=[14]) (by kernel_rfl) (by simp) ?_;refine AllReadyH.cons (o:=_) (by simp only[List.getElem?_toArray,List.getElem?_cons_succ,List.getElem?_cons_zero];rfl) (λK hK=>?_) ?_
       ·have hx':=hx;go_simp;refine(HDO.out _ 3 0 Y none 0 [] Z (HUP2.out _ hHeld) (Zbqk _) (by omega) D5.out).mono ?_;rintro e w6 ⟨rfl,hbc⟩;replace hx:=Zbym hx' hbc;have hBc:=hHeld.trans (hbc.mono hHeld.size);clear hbc;dsimp only
        refine hK.out _ _ ?_ (λhHeld=>?_)
        ·try dsimp only
         exact hBc
        clear hK K
        try simp only[Act.put,List.setIfInBounds_toArray,List.set_cons_zero,List.set_cons_succ]
        clear hBc hx';refine wpAnyH_ready (rs:=[18]) (by kernel_rfl) (by simp) ?_;refine AllReadyH.cons (o:=_) (by simp only[List.getElem?_toArray,List.getElem?_cons_succ,List.getElem?_cons_zero];rfl) (λK hK=>?_) ?_
        ·go_simp;refine(HDO.out _ 7 0 X _ 1 [s] Z (HUP2.out _ hHeld) (Zbqj (xs:=[s]) hx (by show 1<=maxLen;decide)) (by omega) D6.out).mono ?_;rintro e w7 ⟨rfl,hbc⟩;have hBc:=hHeld.trans (hbc.mono hHeld.size);clear hbc;dsimp only
         refine hK.out _ _ ?_ (λhHeld=>?_)
         ·try dsimp only
          exact hBc
         clear hK K
         try simp only[Act.put,List.setIfInBounds_toArray,List.set_cons_zero,List.set_cons_succ]
         refine tkH 19 (v:=?_) ?_ ?_;rotate_left
         ·intro w hSw;go_simp;try with_reducible rfl
         try simp only[Act.put,List.setIfInBounds_toArray,List.set_cons_zero,List.set_cons_succ]
         refine tkH 20 (v:=?_) ?_ ?_;rotate_left
         ·intro w hSw;go_simp;try with_reducible rfl
         try simp only[Act.put,List.setIfInBounds_toArray,List.set_cons_zero,List.set_cons_succ]
         refine wpAnyH_done (by kernel_rfl) ?_ _
         go_wp2_with fail
         go_meet;exact⟨rfl,hBc⟩
        exact AllReadyH.nil
       exact AllReadyH.nil
      exact AllReadyH.nil
     exact AllReadyH.nil
    exact AllReadyH.nil
   exact AllReadyH.nil
  case rest=>
   obtain⟨rfl,hHB⟩:=hcut
   go_upto_region 10 with fail
   go_cut [75] (λt wx=>t = .bool false/\Below WC.heap.size WC wx)
   case first=>
    refine wp_region_held_drew (S:=λV=>Below WC.heap.size WC V) (by kernel_rfl) ?_ (λhHeld=>?_)
    ·exact below_drewN hHB 1
    refine tkH 0 (v:=?_) ?_ ?_;rotate_left
    ·intro w hSw;obtain⟨⟨p0,p1⟩,⟨q0,q1⟩,z0,z1⟩:=HX.out _ hSw;go_simp;try with_reducible rfl
    try simp only[Act.put,List.setIfInBounds_toArray,List.set_cons_zero,List.set_cons_succ]
    refine tkH 2 (v:=?_) ?_ ?_;rotate_left
    ·intro w hSw;obtain⟨⟨p0,p1⟩,⟨q0,q1⟩,z0,z1⟩:=HX.out _ hSw;go_simp;try with_reducible rfl
    try simp only[Act.put,List.setIfInBounds_toArray,List.set_cons_zero,List.set_cons_succ]
    refine wpAnyH_ready (rs:=[1]) (by kernel_rfl) (by simp) ?_;refine AllReadyH.cons (o:=_) (by simp only[List.getElem?_toArray,List.getElem?_cons_succ,List.getElem?_cons_zero];rfl) (λK hK=>?_) ?_
    ·go_simp;refine(HDO.out _ 4 0 X none 0 [] (DL++⟨#[10]⟩) (HUP2.out _ hHeld) (Zbqk _) (by omega) D7.out).mono ?_;rintro e w4 ⟨rfl,hbc⟩;have hBc:=hHeld.trans (hbc.mono hHeld.size);clear hbc;dsimp only
     refine hK.out _ _ ?_ (λhHeld=>?_)
     ·try dsimp only
      exact hBc
     clear hK K
     try simp only[Act.put,List.setIfInBounds_toArray,List.set_cons_zero,List.set_cons_succ]
     clear hBc;refine wpAnyH_ready (rs:=[3]) (by kernel_rfl) (by simp) ?_;refine AllReadyH.cons (o:=_) (by simp only[List.getElem?_toArray,List.getElem?_cons_succ,List.getElem?_cons_zero];rfl) (λK hK=>?_) ?_
     ·go_simp;refine(HDO.out _ 4 0 b none 0 [] (DL++⟨#[10]⟩) (HUP2.out _ hHeld) (Zbqk _) (by omega) D8.out).mono ?_;rintro e w5 ⟨rfl,hbc⟩;have hBc:=hHeld.trans (hbc.mono hHeld.size);clear hbc;dsimp only
      refine hK.out _ _ ?_ (λhHeld=>?_)
      ·try dsimp only
       exact hBc
      clear hK K
      try simp only[Act.put,List.setIfInBounds_toArray,List.set_cons_zero,List.set_cons_succ]
      clear hBc;refine tkH 4 (v:=?_) ?_ ?_;rotate_left
      ·intro w hSw;go_simp;try with_reducible rfl
      try simp only[Act.put,List.setIfInBounds_toArray,List.set_cons_zero,List.set_cons_succ]
      refine tkH 5 (v:=?_) ?_ ?_;rotate_left
      ·intro w hSw;go_simp;try with_reducible rfl
      try simp only[Act.put,List.setIfInBounds_toArray,List.set_cons_zero,List.set_cons_succ]
      refine tkH 6 (v:=?_) ?_ ?_;rotate_left
      ·intro w hSw;obtain⟨⟨p0,p1⟩,⟨q0,q1⟩,z0,z1⟩:=HX.out _ hSw;go_simp;try with_reducible rfl
      try simp only[Act.put,List.setIfInBounds_toArray,List.set_cons_zero,List.set_cons_succ]
      refine tkH 8 (v:=?_) ?_ ?_;rotate_left
      ·intro w hSw;obtain⟨⟨p0,p1⟩,⟨q0,q1⟩,z0,z1⟩:=HX.out _ hSw;go_simp;try with_reducible rfl
      try simp only[Act.put,List.setIfInBounds_toArray,List.set_cons_zero,List.set_cons_succ]
      refine wpAnyH_ready (rs:=[7]) (by kernel_rfl) (by simp) ?_;refine AllReadyH.cons (o:=_) (by simp only[List.getElem?_toArray,List.getElem?_cons_succ,List.getElem?_cons_zero];rfl) (λK hK=>?_) ?_
      ·go_simp;refine(HDO.out _ 1 0 b none 0 [] b (HUP2.out _ hHeld) (Zbqk _) (by omega) D9.out).mono ?_;rintro e w6 ⟨rfl,hbc⟩;have hBc:=hHeld.trans (hbc.mono hHeld.size);clear hbc;dsimp only
       refine hK.out _ _ ?_ (λhHeld=>?_)
       ·try dsimp only
        exact hBc
       clear hK K
       try simp only[Act.put,List.setIfInBounds_toArray,List.set_cons_zero,List.set_cons_succ]
       clear hBc;refine tkH 9 (v:=?_) ?_ ?_;rotate_left
       ·intro w hSw;go_simp;try with_reducible rfl
       try simp only[Act.put,List.setIfInBounds_toArray,List.set_cons_zero,List.set_cons_succ]
       refine tkH 10 (v:=?_) ?_ ?_;rotate_left
       ·intro w hSw;go_simp;try with_reducible rfl
       try simp only[Act.put,List.setIfInBounds_toArray,List.set_cons_zero,List.set_cons_succ]
       refine tkH 11 (v:=?_) ?_ ?_;rotate_left
       ·intro w hSw;go_simp;try with_reducible rfl
       try simp only[Act.put,List.setIfInBounds_toArray,List.set_cons_zero,List.set_cons_succ]
       refine tkH 12 (v:=?_) ?_ ?_;rotate_left
       ·intro w hSw;obtain⟨⟨p0,p1⟩,⟨q0,q1⟩,z0,z1⟩:=HX.out _ hSw;go_simp;try with_reducible rfl
       try simp only[Act.put,List.setIfInBounds_toArray,List.set_cons_zero,List.set_cons_succ]
       refine tkH 15 (v:=?_) ?_ ?_;rotate_left
       ·intro w hSw;go_simp;try with_reducible rfl
       try simp only[Act.put,List.setIfInBounds_toArray,List.set_cons_zero,List.set_cons_succ]
       refine tkH 16 (v:=?_) ?_ ?_;rotate_left
       ·intro w hSw;go_simp;(try rw[HTE.out]);try with_reducible rfl
       try simp only[Act.put,List.setIfInBounds_toArray,List.set_cons_zero,List.set_cons_succ]
       refine wpAnyH_ready (rs:=[13]) (by kernel_rfl) (by simp) ?_;refine AllReadyH.cons (o:=_) (by simp only[List.getElem?_toArray,List.getElem?_cons_succ,List.getElem?_cons_zero];rfl) (λK hK=>?_) ?_
       ·go_simp;refine(CN.out _ (HUP2.out _ hHeld)).mono ?_;rintro e w7 ⟨rfl,hbc⟩;have hBc:=hHeld.trans (hbc.mono hHeld.size);clear hbc;dsimp only
        refine hK.out _ _ ?_ (λhHeld=>?_)
        ·try dsimp only
         exact hBc
        clear hK K
        try simp only[Act.put,List.setIfInBounds_toArray,List.set_cons_zero,List.set_cons_succ]
        refine tkH 14 (v:=?_) ?_ ?_;rotate_left
        ·intro w hSw;go_simp;(try rw[Zbzb]);(try go_simp);try with_reducible rfl
        try simp only[Act.put,List.setIfInBounds_toArray,List.set_cons_zero,List.set_cons_succ]
        refine tkH 17 (v:=?_) ?_ ?_;rotate_left
        ·intro w hSw;go_simp;try with_reducible rfl
        try simp only[Act.put,List.setIfInBounds_toArray,List.set_cons_zero,List.set_cons_succ]
        refine tkH 18 (v:=?_) ?_ ?_;rotate_left
        ·intro w hSw;go_simp;try with_reducible rfl
        try simp only[Act.put,List.setIfInBounds_toArray,List.set_cons_zero,List.set_cons_succ]
        refine wpAnyH_done (by kernel_rfl) ?_ _
        go_wp2_with fail
        go_meet;exact⟨rfl,hBc⟩
       exact AllReadyH.nil
      exact AllReadyH.nil
     exact AllReadyH.nil
    exact AllReadyH.nil
   case rest=>
    obtain⟨rfl,hHB⟩:=hcut
    go_upto_region 12 with fail
    refine wp_region_held_drew (S:=λV=>Below WC.heap.size WC V) (by kernel_rfl) ?_ (λhHeld=>?_)
    ·exact below_drewN hHB 1
    refine tkH 0 (v:=?_) ?_ ?_;rotate_left
    ·intro w hSw;obtain⟨⟨p0,p1⟩,⟨q0,q1⟩,z0,z1⟩:=HX.out _ hSw;go_simp;try with_reducible rfl
    try simp only[Act.put,List.setIfInBounds_toArray,List.set_cons_zero,List.set_cons_succ]
    refine tkH 1 (v:=?_) ?_ ?_;rotate_left
    ·intro w hSw;go_simp;try with_reducible rfl
    try simp only[Act.put,List.setIfInBounds_toArray,List.set_cons_zero,List.set_cons_succ]
    refine tkH 3 (v:=?_) ?_ ?_;rotate_left
    ·intro w hSw;go_simp;try with_reducible rfl
    try simp only[Act.put,List.setIfInBounds_toArray,List.set_cons_zero,List.set_cons_succ]
    refine tkH 5 (v:=?_) ?_ ?_;rotate_left
    ·intro w hSw;obtain⟨⟨p0,p1⟩,⟨q0,q1⟩,z0,z1⟩:=HX.out _ hSw;go_simp;try with_reducible rfl
    try simp only[Act.put,List.setIfInBounds_toArray,List.set_cons_zero,List.set_cons_succ]
    refine tkH 6 (v:=?_) ?_ ?_;rotate_left
    ·intro w hSw;go_simp;try with_reducible rfl
    try simp only[Act.put,List.setIfInBounds_toArray,List.set_cons_zero,List.set_cons_succ]
    refine tkH 7 (v:=?_) ?_ ?_;rotate_left
    ·intro w hSw;go_simp;try with_reducible rfl
    try simp only[Act.put,List.setIfInBounds_toArray,List.set_cons_zero,List.set_cons_succ]
    refine tkH 8 (v:=?_) ?_ ?_;rotate_left
    ·intro w hSw;go_simp;try with_reducible rfl
    try simp only[Act.put,List.setIfInBounds_toArray,List.set_cons_zero,List.set_cons_succ]
    refine wpAnyH_ready (rs:=[2]) (by kernel_rfl) (by simp) ?_;refine AllReadyH.cons (o:=_) (by simp only[List.getElem?_toArray,List.getElem?_cons_succ,List.getElem?_cons_zero];rfl) (λK hK=>?_) ?_
    ·go_simp;refine(HDO.out _ 9 (n:Int) b none 0 [] P (HUP2.out _ hHeld) (Zbqk _) (by omega) DA.out).mono ?_;rintro e w4 ⟨rfl,hbc⟩;have hBc:=hHeld.trans (hbc.mono hHeld.size);clear hbc;dsimp only
     refine hK.out _ _ ?_ (λhHeld=>?_)
     ·try dsimp only
      exact hBc
     clear hK K
     try simp only[Act.put,List.setIfInBounds_toArray,List.set_cons_zero,List.set_cons_succ]
     clear hBc;refine wpAnyH_ready (rs:=[4]) (by kernel_rfl) (by simp) ?_;refine AllReadyH.cons (o:=_) (by simp only[List.getElem?_toArray,List.getElem?_cons_succ,List.getElem?_cons_zero];rfl) (λK hK=>?_) ?_
     ·go_simp;refine(HDO.out _ 9 (m:Int) P none 0 [] Q (HUP2.out _ hHeld) (Zbqk _) (by omega) DB.out).mono ?_;rintro e w5 ⟨rfl,hbc⟩;have hBc:=hHeld.trans (hbc.mono hHeld.size);clear hbc;dsimp only
      refine hK.out _ _ ?_ (λhHeld=>?_)
      ·try dsimp only
       exact hBc
      clear hK K
      try simp only[Act.put,List.setIfInBounds_toArray,List.set_cons_zero,List.set_cons_succ]
      clear hBc;refine wpAnyH_ready (rs:=[9]) (by kernel_rfl) (by simp) ?_;refine AllReadyH.cons (o:=_) (by simp only[List.getElem?_toArray,List.getElem?_cons_succ,List.getElem?_cons_zero];rfl) (λK hK=>?_) ?_
      ·go_simp;refine(HDO.out _ 9 (min (n:Int) (m:Int)) b none 0 [] Q (HUP2.out _ hHeld) (Zbqk _) (by omega) DC.out).mono ?_;rintro e w6 ⟨rfl,hbc⟩;have hBc:=hHeld.trans (hbc.mono hHeld.size);clear hbc;dsimp only
       refine hK.out _ _ ?_ (λhHeld=>?_)
       ·try dsimp only
        exact hBc
       clear hK K
       try simp only[Act.put,List.setIfInBounds_toArray,List.set_cons_zero,List.set_cons_succ]
       clear hBc;refine tkH 10 (v:=?_) ?_ ?_;rotate_left
       ·intro w hSw;go_simp;try with_reducible rfl
       try simp only[Act.put,List.setIfInBounds_toArray,List.set_cons_zero,List.set_cons_succ]
       refine tkH 11 (v:=?_) ?_ ?_;rotate_left
       ·intro w hSw;go_simp;try with_reducible rfl
       try simp only[Act.put,List.setIfInBounds_toArray,List.set_cons_zero,List.set_cons_succ]
       refine tkH 12 (v:=?_) ?_ ?_;rotate_left
       ·intro w hSw;obtain⟨⟨p0,p1⟩,⟨q0,q1⟩,z0,z1⟩:=HX.out _ hSw;go_simp;try with_reducible rfl
       try simp only[Act.put,List.setIfInBounds_toArray,List.set_cons_zero,List.set_cons_succ]
       refine tkH 15 (v:=?_) ?_ ?_;rotate_left
       ·intro w hSw;go_simp;try with_reducible rfl
       try simp only[Act.put,List.setIfInBounds_toArray,List.set_cons_zero,List.set_cons_succ]
       refine wpAnyH_ready (rs:=[13]) (by kernel_rfl) (by simp) ?_;refine AllReadyH.cons (o:=_) (by simp only[List.getElem?_toArray,List.getElem?_cons_succ,List.getElem?_cons_zero];rfl) (λK hK=>?_) ?_
       ·go_simp;refine(HDO.out _ 4 0 b none 0 [] (DL++⟨#[10]⟩) (HUP2.out _ hHeld) (Zbqk _) (by omega) D8.out).mono ?_;rintro e w7 ⟨rfl,hbc⟩;have hBc:=hHeld.trans (hbc.mono hHeld.size);clear hbc;dsimp only
        refine hK.out _ _ ?_ (λhHeld=>?_)
        ·try dsimp only
         exact hBc
        clear hK K
        try simp only[Act.put,List.setIfInBounds_toArray,List.set_cons_zero,List.set_cons_succ]
        clear hBc;refine tkH 14 (v:=?_) ?_ ?_;rotate_left
        ·intro w hSw;go_simp;(try rw[Zbzc]);(try go_simp);try with_reducible rfl
        try simp only[Act.put,List.setIfInBounds_toArray,List.set_cons_zero,List.set_cons_succ]
        refine wpAnyH_ready (rs:=[16]) (by kernel_rfl) (by simp) ?_;refine AllReadyH.cons (o:=_) (by simp only[List.getElem?_toArray,List.getElem?_cons_succ,List.getElem?_cons_zero];rfl) (λK hK=>?_) ?_
        ·go_simp;refine(HLN.out _).mono ?_;rintro e w8 ⟨la,lc,rfl,hbc⟩;have hBc:=hHeld.trans (hbc.mono hHeld.size);clear hbc;dsimp only
         refine hK.out _ _ ?_ (λhHeld=>?_)
         ·try dsimp only
          exact hBc
         clear hK K
         try simp only[Act.put,List.setIfInBounds_toArray,List.set_cons_zero,List.set_cons_succ]
         clear hBc;refine tkH 17 (v:=?_) ?_ ?_;rotate_left
         ·intro w hSw;go_simp;try with_reducible rfl
         try simp only[Act.put,List.setIfInBounds_toArray,List.set_cons_zero,List.set_cons_succ]
         refine wpAnyH_ready (rs:=[18]) (by kernel_rfl) (by simp) ?_;refine AllReadyH.cons (o:=_) (by simp only[List.getElem?_toArray,List.getElem?_cons_succ,List.getElem?_cons_zero];rfl) (λK hK=>?_) ?_
         ·go_simp;refine(HNB.out _).mono ?_;rintro e w9 ⟨rfl,hbc⟩;have hBc:=hHeld.trans (hbc.mono hHeld.size);clear hbc;dsimp only
          refine hK.out _ _ ?_ (λhHeld=>?_)
          ·try dsimp only
           exact hBc
          clear hK K
          try simp only[Act.put,List.setIfInBounds_toArray,List.set_cons_zero,List.set_cons_succ]
          clear hBc;refine tkH 19 (v:=?_) ?_ ?_;rotate_left
          ·intro w hSw;go_simp;first|with_reducible rfl|(rw[if_neg (by have:=HDS.out;omega)])
          try simp only[Act.put,List.setIfInBounds_toArray,List.set_cons_zero,List.set_cons_succ]
          refine tkH 20 (v:=?_) ?_ ?_;rotate_left
          ·intro w hSw;go_simp;try with_reducible rfl
          try simp only[Act.put,List.setIfInBounds_toArray,List.set_cons_zero,List.set_cons_succ]
          refine tkH 21 (v:=?_) ?_ ?_;rotate_left
          ·intro w hSw;go_simp;try with_reducible rfl
          try simp only[Act.put,List.setIfInBounds_toArray,List.set_cons_zero,List.set_cons_succ]
          refine wpAnyH_ready (rs:=[22]) (by kernel_rfl) (by simp) ?_;refine AllReadyH.cons (o:=_) (by simp only[List.getElem?_toArray,List.getElem?_cons_succ,List.getElem?_cons_zero];rfl) (λK hK=>?_) ?_
          ·have hBc:=hHeld;go_simp
           refine hK.out _ _ ?_ (λhHeld=>?_)
           ·try dsimp only
            exact hBc
           clear hK K
           try simp only[Act.put,List.setIfInBounds_toArray,List.set_cons_zero,List.set_cons_succ]
           refine wpAnyH_done (by kernel_rfl) ?_ _;go_wp2;go_ret;exact⟨rfl,HUP2.out _ hHeld⟩
          exact AllReadyH.nil
         exact AllReadyH.nil
        exact AllReadyH.nil
       exact AllReadyH.nil
      exact AllReadyH.nil
     exact AllReadyH.nil
    exact AllReadyH.nil
end Go.Proofs.YthkehhphnbckaaaGreatDoor.lawStepLaws
