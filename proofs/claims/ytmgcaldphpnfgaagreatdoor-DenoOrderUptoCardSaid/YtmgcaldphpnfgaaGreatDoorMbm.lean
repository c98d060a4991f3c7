import Derived.Test.YtmgcaldphpnfgaaGreatDoorMbl
import Derived.Lib.ItoaLen
namespace Go.Proofs.YtmgcaldphpnfgaaGreatDoor
open Go.Lib (hid)
open Go.RowKit
set_option maxHeartbeats 40000000 in
set_option maxRecDepth 100000 in
theorem Zchv (B b:Nat) (r:Option Nat) (fs:List F2) (x y:ByteArray) (w:World) (h:IsRT w B b r fs) (hx:x.size<=maxLen) (hy:y.size<=2000) (hok:Zbcf x.data.toList=true) (hq:hasF fs x=false) (hl:fs.length<60)
  (g c:Nat) (hbh:w.heap[b]? =some (.cells #[.slice (some ⟨g,0,none⟩) fs.length c] 96 (0,0))) (hc:fs.length<=c) (hcm:c<=maxLen) (hgl:g<w.heap.size)
   (hcells:∀(j:Nat) u,(Znm fs)[j]? =some u->w.cell? ⟨g,j,none⟩=some u) (hcp:¬c=Zbff fs x):
  Calls Tryz.prog 65 #[.pointer (some ⟨b,0,none⟩),.string x,.string y] w (Zchk w B b r 0 (fs.take (Zbff fs x)++(x,y)::fs.drop (Zbff fs x))):=by
 have cA:=Zchm B b r fs x w h;obtain⟨i0,hi,hz0,hz1,hz2⟩:=info_parts Zsu;have cM:=λw=>Zyw x w hx
 rw[hok]at cM;rw[hq]at cA;have hBb:=h.1;have hblt:=h.rlt.2.2;have hso:=Zbmo h.2.1 y hq;have hple:=Zbfi fs x;have hle:(fs.take (Zbff fs x)++(x,y)::fs.drop (Zbff fs x)).length<=60:=by simp only[List.length_append,List.length_cons,List.length_take,List.length_drop];omega
 obtain⟨p,hp⟩:∃p,Zbff fs x=p:=⟨_,rfl⟩;rw[hp]at cA hso hple hle hcp⊢;have HSO:=hid hso;have HBH:=hid hbh;have HCE:=hid hcells;have CM:=hid cM;unfold maxLen at hcm;clear h hq hok hp hso hbh hcells cM
 go_enter Tryz.func65,Tryz.ntmps65
 go_wp2_with fail
 refine cA.mono ?_;rintro e w1 ⟨rfl,hb1⟩;have HX1:=hid hb1;clear hb1 cA
 go_wp2_with fail
 refine(CM.out _).mono ?_;rintro e w2 ⟨rfl,hb2'⟩;have hb2:=chain HX1.out hb2';clear hb2';have HX2:=hid hb2;have HI:Hid (InsAt w2 b g c fs):=by
  show InsAt _ _ _ _ _;have hlt2:b<w2.heap.size:=Nat.lt_of_lt_of_le hblt hb2.size;have hgl2:g<w2.heap.size:=Nat.lt_of_lt_of_le hgl hb2.size;refine⟨λw' hw=>?_,λw' hw j u hu=>?_⟩
  ·rw[hw.cell (p:=⟨b,0,none⟩) hlt2,hb2.cell (p:=⟨b,0,none⟩) hblt]
   simp[World.cell?,HBH.out]
  ·rw[hw.cell (p:=⟨g,j,none⟩) hgl2,hb2.cell (p:=⟨g,j,none⟩) hgl]
   exact HCE.out j u hu
 have HFZ:Hid (∀w',Below w2.heap.size w2 w'->w'.frozen? ⟨b,0,none⟩=false):=by
  show ∀w',_;intro w' hw;have:=(hw.block b (Nat.lt_of_lt_of_le hblt hb2.size)).trans ((hb2.block b hblt).trans HBH.out);simp[World.frozen?,this]
 have hl1:(fs.take p).length=p:=by rw[List.length_take];omega
 have hl2:(fs.drop p).length=fs.length-p:=List.length_drop;have HL1:=hid hl1;have HL2:=hid hl2;have HLA:=hid (show(Znm (fs.take p)).length=p*2 by rw[Znr,hl1]);have HLB:=hid (show(Znm (fs.drop p)).length=(fs.length-p)*2 by rw[Znr,hl2]);have HB0:=hid (show 0+p<=maxLen by unfold maxLen;omega);have HB00:=hid (show(0+p)*32<=140737488355328 by omega);have HB1:=hid (show p+1<=maxLen by unfold maxLen;omega);have HB11:=hid (show(p+1)*32<=140737488355328 by omega);have HB2:=hid (show p+1+(fs.length-p)<=maxLen by unfold maxLen;omega);have HB22:=hid (show(p+1+(fs.length-p))*32<=140737488355328 by omega);have HB3:=hid (show p+1+0<=maxLen by unfold maxLen;omega);have HB33:=hid (show(p+1+0)*32<=140737488355328 by omega);have HBW:=hid (show B<=w.heap.size by omega);have HONE:=hid (show ∀u∈[Value.string x,Value.string y],u.oneCell'=true by intro u hu;simp at hu;rcases hu with rfl|rfl<;>rfl);have HPN:Hid (∀w',World.grownBy (w2.alloc (.cells #[.string x,.string y] 80)).drew w' none->w'.heap[w2.heap.size]? =some (.cells #[.string x,.string y] 80 (0,0))):=by
  show ∀w',_;intro w' hg;refine(hg.block w2.heap.size (by show _<(w2.alloc _).heap.size;simp) (by simp)).trans ?_;exact heap_alloc_new w2 _
 have HAD:Hid (Below w2.heap.size w2 (w2.alloc (.cells #[.string x,.string y] 80)).drew):=by show Below _ _ _;exact((Below.refl _ _).alloc (Nat.le_refl _) _).drew
 have hk0:(0:Int)<=(p:Int):=by omega
 have hk1:(p:Int)<=(fs.length:Int):=by omega
 have hk2:(p:Int)<=(c:Int):=by omega
 have hk3:(fs.length:Int)<=(c:Int):=by omega
 have hb20:=hb2.size;have hcw:=HI.out.cell w2 (Below.refl _ _);have hfw:=HFZ.out w2 (Below.refl _ _);have hcwA:=λo=>HI.out.cell _ (Zcir (o:=o) (Below.refl w2.heap.size w2))
 clear hb2 hl1 hl2;have hy0:¬(2000:Int)<(y.size:Int):=by omega
 have hl0:¬(60:Int)<=(fs.length:Int):=by omega
 go_wp2_with fail
 go_region_law (first
  | (refine Zcin (by rfl) _ _ _ (by rfl) w2.heap.size 80 i0 _ 2 32 Tryz.underlying50 hi hz0 hz1 hz2 rfl (by decide) (.slice none 0 0) 0 [] (by rfl) (World.ownsRow_nil _ _ _ _) ⟨g,0,none⟩ p c (Znm (fs.take p)) (by rfl) HLA.out (HI.out.take p _ (Below.refl _ _).drew) (Znt _) HB0.out HB00.out (Nat.le_refl _) ?_;intro vA w' hA0 hgA;have hA:=row_zero hA0;have hSn:=Zchr (Below.refl _ _).drew hgA (by intro k hk;cases hk);have hcw2:=HI.out.cell _ hSn;have hcw2':=λo=>HI.out.cell _ (Zcir (o:=o) hSn);have hfw2:=HFZ.out _ hSn;clear hA0 hgA)
  | (refine Zcin (by rfl) _ _ _ (by rfl) w2.heap.size 80 i0 _ 2 32 Tryz.underlying50 hi hz0 hz1 hz2 rfl (by decide) (.slice none 0 0) 0 [] (by rfl) (World.ownsRow_nil _ _ _ _) ⟨g,0,none⟩ p c (Znm (fs.take p)) (by rfl) HLA.out (HI.out.take p _ HAD.out) (Znt _) HB0.out HB00.out HAD.out.size ?_;intro vA w' hA0 hgA;have hA:=row_zero hA0;have hSn:=Zchr HAD.out hgA (by intro k hk;cases hk);have hpend:=HPN.out _ hgA;have hcw2:=HI.out.cell _ hSn;have hcw2':=λo=>HI.out.cell _ (Zcir (o:=o) hSn);have hfw2:=HFZ.out _ hSn;clear hA0 hgA)
  | (refine Zcin (by rfl) _ _ _ (by rfl) w2.heap.size 80 i0 _ 2 32 Tryz.underlying50 hi hz0 hz1 hz2 rfl (by decide) vA p (Znm (fs.take p)) (by rfl) hA ⟨w2.heap.size,0,none⟩ 1 1 [.string x,.string y] (by rfl) rfl (World.news_of_block (cs:=#[.string x,.string y]) hpend) HONE.out HB1.out HB11.out hSn.size ?_;intro vB w3 hB hgB;have hSm:=Zchr hSn hgB (λk hk=>(World.ownsRow.lt hA k hk).1);have hcw3:=HI.out.cell _ hSm;have hfw3:=HFZ.out _ hSm;clear hgB)
  | (refine Zcin (by rfl) _ _ _ (by rfl) w2.heap.size 80 i0 _ 2 32 Tryz.underlying50 hi hz0 hz1 hz2 rfl (by decide) vA p (Znm (fs.take p)) (by rfl) (World.ownsRow.alloc hA _) ⟨w'.heap.size,0,none⟩ 1 1 [.string x,.string y] (by rfl) rfl (World.news_of_block (cs:=#[.string x,.string y]) (heap_alloc_new w' _)) HONE.out HB1.out HB11.out (Zcir hSn).size ?_;intro vB w3 hB hgB;have hSm:=Zchr (Zcir hSn) hgB (λk hk=>(World.ownsRow.lt hA k hk).1);have hcw3:=HI.out.cell _ hSm;have hfw3:=HFZ.out _ hSm;clear hgB)
  | (refine Zcin (by rfl) _ _ _ (by rfl) w2.heap.size 80 i0 _ 2 32 Tryz.underlying50 hi hz0 hz1 hz2 rfl (by decide) vB (p+1) (Znm (fs.take p) ++ [.string x,.string y]) (by rfl) hB ⟨g,p*2,none⟩ (fs.length-p) (c-p) (Znm (fs.drop p)) (by rfl) HLB.out (HI.out.drop p _ hSm) (Znt _) HB2.out HB22.out hSm.size ?_;intro vC w4 hC0 hgC;obtain⟨aC,cC,rfl,_⟩:=Zbea hC0;have hC:=Zcij hC0 HL1.out HL2.out;have hSl:=Zchr hSm hgC (λk hk=>(World.ownsRow.lt hB k hk).1);have hcw4:=HI.out.cell _ hSl;have hfw4:=HFZ.out _ hSl;clear hC0 hgC))
 all_goals (have HP:=hid (Zcil (B:=B) (r:=r) HX2.out hBb HBW.out HSO.out hle hblt HBH.out hSl hC);clear hcw hfw hcwA hcw2 hcw2' hfw2 hcw3 hfw3 hcw4 hfw4 hB hC hSm hSn hSl hA;go_wp2;go_ret;exact HP.out)
set_option maxHeartbeats 40000000 in
set_option maxRecDepth 100000 in
theorem Zchu (B b:Nat) (r:Option Nat) (fs:List F2) (x y:ByteArray) (w:World) (h:IsRT w B b r fs) (hx:x.size<=maxLen) (hy:y.size<=2000) (hok:Zbcf x.data.toList=true) (hq:hasF fs x=false) (hl:fs.length<60)
  (g c:Nat) (hbh:w.heap[b]? =some (.cells #[.slice (some ⟨g,0,none⟩) fs.length c] 96 (0,0))) (hc:fs.length<=c) (hcm:c<=maxLen) (hgl:g<w.heap.size)
   (hcells:∀(j:Nat) u,(Znm fs)[j]? =some u->w.cell? ⟨g,j,none⟩=some u) (hcp:c=Zbff fs x):
  Calls Tryz.prog 65 #[.pointer (some ⟨b,0,none⟩),.string x,.string y] w (Zchk w B b r 0 (fs.take (Zbff fs x)++(x,y)::fs.drop (Zbff fs x))):=by
 have cA:=Zchm B b r fs x w h;obtain⟨i0,hi,hz0,hz1,hz2⟩:=info_parts Zsu;have cM:=λw=>Zyw x w hx
 rw[hok]at cM;rw[hq]at cA;have hBb:=h.1;have hblt:=h.rlt.2.2;have hso:=Zbmo h.2.1 y hq;have hple:=Zbfi fs x;have hle:(fs.take (Zbff fs x)++(x,y)::fs.drop (Zbff fs x)).length<=60:=by simp only[List.length_append,List.length_cons,List.length_take,List.length_drop];omega
 obtain⟨p,hp⟩:∃p,Zbff fs x=p:=⟨_,rfl⟩;rw[hp]at cA hso hple hle hcp⊢;have HSO:=hid hso;have HBH:=hid hbh;have HCE:=hid hcells;have CM:=hid cM;unfold maxLen at hcm;clear h hq hok hp hso hbh hcells cM
 go_enter Tryz.func65,Tryz.ntmps65
 go_wp2_with fail
 refine cA.mono ?_;rintro e w1 ⟨rfl,hb1⟩;have HX1:=hid hb1;clear hb1 cA
 go_wp2_with fail
 refine(CM.out _).mono ?_;rintro e w2 ⟨rfl,hb2'⟩;have hb2:=chain HX1.out hb2';clear hb2';have HX2:=hid hb2;have HI:Hid (InsAt w2 b g c fs):=by
  show InsAt _ _ _ _ _;have hlt2:b<w2.heap.size:=Nat.lt_of_lt_of_le hblt hb2.size;have hgl2:g<w2.heap.size:=Nat.lt_of_lt_of_le hgl hb2.size;refine⟨λw' hw=>?_,λw' hw j u hu=>?_⟩
  ·rw[hw.cell (p:=⟨b,0,none⟩) hlt2,hb2.cell (p:=⟨b,0,none⟩) hblt]
   simp[World.cell?,HBH.out]
  ·rw[hw.cell (p:=⟨g,j,none⟩) hgl2,hb2.cell (p:=⟨g,j,none⟩) hgl]
   exact HCE.out j u hu
 have HFZ:Hid (∀w',Below w2.heap.size w2 w'->w'.frozen? ⟨b,0,none⟩=false):=by
  show ∀w',_;intro w' hw;have:=(hw.block b (Nat.lt_of_lt_of_le hblt hb2.size)).trans ((hb2.block b hblt).trans HBH.out);simp[World.frozen?,this]
 have hl1:(fs.take p).length=p:=by rw[List.length_take];omega
 have hl2:(fs.drop p).length=fs.length-p:=List.length_drop;have HL1:=hid hl1;have HL2:=hid hl2;have HLA:=hid (show(Znm (fs.take p)).length=p*2 by rw[Znr,hl1]);have HLB:=hid (show(Znm (fs.drop p)).length=(fs.length-p)*2 by rw[Znr,hl2]);have HB0:=hid (show 0+p<=maxLen by unfold maxLen;omega);have HB00:=hid (show(0+p)*32<=140737488355328 by omega);have HB1:=hid (show p+1<=maxLen by unfold maxLen;omega);have HB11:=hid (show(p+1)*32<=140737488355328 by omega);have HB2:=hid (show p+1+(fs.length-p)<=maxLen by unfold maxLen;omega);have HB22:=hid (show(p+1+(fs.length-p))*32<=140737488355328 by omega);have HB3:=hid (show p+1+0<=maxLen by unfold maxLen;omega);have HB33:=hid (show(p+1+0)*32<=140737488355328 by omega);have HBW:=hid (show B<=w.heap.size by omega);have HONE:=hid (show ∀u∈[Value.string x,Value.string y],u.oneCell'=true by intro u hu;simp at hu;rcases hu with rfl|rfl<;>rfl);have HPN:Hid (∀w',World.grownBy (w2.alloc (.cells #[.string x,.string y] 80)).drew w' none->w'.heap[w2.heap.size]? =some (.cells #[.string x,.string y] 80 (0,0))):=by
  show ∀w',_;intro w' hg;refine(hg.block w2.heap.size (by show _<(w2.alloc _).heap.size;simp) (by simp)).trans ?_;exact heap_alloc_new w2 _
 have HAD:Hid (Below w2.heap.size w2 (w2.alloc (.cells #[.string x,.string y] 80)).drew):=by show Below _ _ _;exact((Below.refl _ _).alloc (Nat.le_refl _) _).drew
 have hk0:(0:Int)<=(p:Int):=by omega
 have hk1:(p:Int)<=(fs.length:Int):=by omega
 have hk2:(p:Int)<=(c:Int):=by omega
 have hk3:(fs.length:Int)<=(c:Int):=by omega
 have hb20:=hb2.size;have hcw:=HI.out.cell w2 (Below.refl _ _);have hfw:=HFZ.out w2 (Below.refl _ _);have hcwA:=λo=>HI.out.cell _ (Zcir (o:=o) (Below.refl w2.heap.size w2))
 clear hb2 hl1 hl2;have hy0:¬(2000:Int)<(y.size:Int):=by omega
 have hl0:¬(60:Int)<=(fs.length:Int):=by omega
 have hpc:p=c:=hcp.symm;subst hpc;clear hcp;have HD:=hid (show fs.drop p = []from List.drop_eq_nil_of_le (by omega));have hq1:(p:Int)<=(p:Int):=by omega
 go_wp2_with fail
 go_region_law (first
  | (refine Zcin (by rfl) _ _ _ (by rfl) w2.heap.size 80 i0 _ 2 32 Tryz.underlying50 hi hz0 hz1 hz2 rfl (by decide) (.slice none 0 0) 0 [] (by rfl) (World.ownsRow_nil _ _ _ _) ⟨g,0,none⟩ p p (Znm (fs.take p)) (by rfl) HLA.out (HI.out.take p _ (Below.refl _ _).drew) (Znt _) HB0.out HB00.out (Nat.le_refl _) ?_;intro vA w' hA0 hgA;have hA:=row_zero hA0;have hSn:=Zchr (Below.refl _ _).drew hgA (by intro k hk;cases hk);have hcw2:=HI.out.cell _ hSn;have hcw2':=λo=>HI.out.cell _ (Zcir (o:=o) hSn);have hfw2:=HFZ.out _ hSn;clear hA0 hgA)
  | (refine Zcin (by rfl) _ _ _ (by rfl) w2.heap.size 80 i0 _ 2 32 Tryz.underlying50 hi hz0 hz1 hz2 rfl (by decide) (.slice none 0 0) 0 [] (by rfl) (World.ownsRow_nil _ _ _ _) ⟨g,0,none⟩ p p (Znm (fs.take p)) (by rfl) HLA.out (HI.out.take p _ HAD.out) (Znt _) HB0.out HB00.out HAD.out.size ?_;intro vA w' hA0 hgA;have hA:=row_zero hA0;have hSn:=Zchr HAD.out hgA (by intro k hk;cases hk);have hpend:=HPN.out _ hgA;have hcw2:=HI.out.cell _ hSn;have hcw2':=λo=>HI.out.cell _ (Zcir (o:=o) hSn);have hfw2:=HFZ.out _ hSn;clear hA0 hgA)
  | (refine Zcin (by rfl) _ _ _ (by rfl) w2.heap.size 80 i0 _ 2 32 Tryz.underlying50 hi hz0 hz1 hz2 rfl (by decide) vA p (Znm (fs.take p)) (by rfl) hA ⟨w2.heap.size,0,none⟩ 1 1 [.string x,.string y] (by rfl) rfl (World.news_of_block (cs:=#[.string x,.string y]) hpend) HONE.out HB1.out HB11.out hSn.size ?_;intro vB w3 hB hgB;have hSm:=Zchr hSn hgB (λk hk=>(World.ownsRow.lt hA k hk).1);have hcw3:=HI.out.cell _ hSm;have hfw3:=HFZ.out _ hSm;clear hgB)
  | (refine Zcin (by rfl) _ _ _ (by rfl) w2.heap.size 80 i0 _ 2 32 Tryz.underlying50 hi hz0 hz1 hz2 rfl (by decide) vA p (Znm (fs.take p)) (by rfl) (World.ownsRow.alloc hA _) ⟨w'.heap.size,0,none⟩ 1 1 [.string x,.string y] (by rfl) rfl (World.news_of_block (cs:=#[.string x,.string y]) (heap_alloc_new w' _)) HONE.out HB1.out HB11.out (Zcir hSn).size ?_;intro vB w3 hB hgB;have hSm:=Zchr (Zcir hSn) hgB (λk hk=>(World.ownsRow.lt hA k hk).1);have hcw3:=HI.out.cell _ hSm;have hfw3:=HFZ.out _ hSm;clear hgB)
  | (refine Zcin (by rfl) _ _ _ (by rfl) w2.heap.size 80 i0 _ 2 32 Tryz.underlying50 hi hz0 hz1 hz2 rfl (by decide) vB (p+1) (Znm (fs.take p) ++ [.string x,.string y]) (by rfl) hB ⟨g,0,none⟩ 0 0 (Znm []) (by rfl) rfl (λj u hu=>by simp[Znm]at hu) (Znt _) HB3.out HB33.out hSm.size ?_;intro vC w4 hC0 hgC;obtain⟨aC,cC,rfl,_⟩:=Zbea hC0;have hC:=Zcij (C:=[]) hC0 HL1.out rfl;rw[<-HD.out]at hC;have hSl:=Zchr hSm hgC (λk hk=>(World.ownsRow.lt hB k hk).1);have hcw4:=HI.out.cell _ hSl;have hfw4:=HFZ.out _ hSl;clear hC0 hgC))
 all_goals (have HP:=hid (Zcil (B:=B) (r:=r) HX2.out hBb HBW.out HSO.out hle hblt HBH.out hSl hC);clear hcw hfw hcwA hcw2 hcw2' hfw2 hcw3 hfw3 hcw4 hfw4 hB hC hSm hSn hSl hA;go_wp2;go_ret;exact HP.out)
set_option maxHeartbeats 40000000 in
set_option maxRecDepth 100000 in
theorem Zchw (B b:Nat) (r:Option Nat) (fs:List F2) (x y:ByteArray) (w:World) (h:IsRT w B b r fs) (hx:x.size<=maxLen) (hy:y.size<=2000) (hok:Zbcf x.data.toList=true) (hq:hasF fs x=false) (hl:fs.length<60)
  (hbh:w.heap[b]? =some (.cells #[.slice none 0 0] 96 (0,0))) (hnil:fs = []):
  Calls Tryz.prog 65 #[.pointer (some ⟨b,0,none⟩),.string x,.string y] w (Zchk w B b r 0 (fs.take (Zbff fs x)++(x,y)::fs.drop (Zbff fs x))):=by
 have cA:=Zchm B b r fs x w h;obtain⟨i0,hi,hz0,hz1,hz2⟩:=info_parts Zsu;have cM:=λw=>Zyw x w hx
 rw[hok]at cM;rw[hq]at cA;have hBb:=h.1;have hblt:=h.rlt.2.2;have hso:=Zbmo h.2.1 y hq;have hple:=Zbfi fs x;have hle:(fs.take (Zbff fs x)++(x,y)::fs.drop (Zbff fs x)).length<=60:=by simp only[List.length_append,List.length_cons,List.length_take,List.length_drop];omega
 obtain⟨p,hp⟩:∃p,Zbff fs x=p:=⟨_,rfl⟩;rw[hp]at cA hso hple hle⊢;subst hnil;have hp0:p=0:=by simpa using hple
 subst hp0;have HSO:=hid hso;have HBH:=hid hbh;have CM:=hid cM;clear h hq hok hp hso hbh cM
 go_enter Tryz.func65,Tryz.ntmps65
 go_wp2_with fail
 refine cA.mono ?_;rintro e w1 ⟨rfl,hb1⟩;have HX1:=hid hb1;clear hb1 cA
 go_wp2_with fail
 refine(CM.out _).mono ?_;rintro e w2 ⟨rfl,hb2'⟩;have hb2:=chain HX1.out hb2';clear hb2';have HX2:=hid hb2;have HIC:Hid (∀w',Below w2.heap.size w2 w'->w'.cell? ⟨b,0,none⟩=some (.slice none 0 0)):=by
  show ∀w',_;intro w' hw;rw[hw.cell (p:=⟨b,0,none⟩) (Nat.lt_of_lt_of_le hblt hb2.size),hb2.cell (p:=⟨b,0,none⟩) hblt];simp[World.cell?,HBH.out]
 have HFZ:Hid (∀w',Below w2.heap.size w2 w'->w'.frozen? ⟨b,0,none⟩=false):=by
  show ∀w',_;intro w' hw;have:=(hw.block b (Nat.lt_of_lt_of_le hblt hb2.size)).trans ((hb2.block b hblt).trans HBH.out);simp[World.frozen?,this]
 have HBW:=hid (show B<=w.heap.size by omega);have HONE:=hid (show ∀u∈[Value.string x,Value.string y],u.oneCell'=true by intro u hu;simp at hu;rcases hu with rfl|rfl<;>rfl);have HAD:Hid (Below w2.heap.size w2 (w2.alloc (.cells #[.string x,.string y] 80)).drew):=by show Below _ _ _;exact((Below.refl _ _).alloc (Nat.le_refl _) _).drew
 have hb20:=hb2.size;have hcw:=HIC.out w2 (Below.refl _ _);have hfw:=HFZ.out w2 (Below.refl _ _);have hcwA:=λo=>HIC.out _ (Zcir (o:=o) (Below.refl w2.heap.size w2))
 clear hb2;have hy0:¬(2000:Int)<(y.size:Int):=by omega
 go_wp2_with fail
 go_region_law (first
  | (refine Zcin (by rfl) _ _ _ (by rfl) w2.heap.size 80 i0 _ 2 32 Tryz.underlying50 hi hz0 hz1 hz2 rfl (by decide) (.slice none 0 0) 0 [] (by rfl) (World.ownsRow_nil _ _ _ _) ⟨w2.heap.size,0,none⟩ 1 1 [.string x,.string y] (by rfl) rfl (World.news_of_block (cs:=#[.string x,.string y]) (heap_alloc_new w2 _)) HONE.out (by decide) (by decide) HAD.out.size ?_;intro vB w3 hB hgB;obtain⟨aB,cB,rfl,hne,_⟩:=Zbea hB;obtain⟨gB,rfl⟩:=hne (by decide);clear hne;have hC:=(show RowAt w3 w2.heap.size (.slice (some ⟨gB,0,none⟩) 1 cB) [(x,y)]from hB);have hSm:=Zchr HAD.out hgB (by intro k hk;cases hk);have hcw3:=HIC.out _ hSm;have hfw3:=HFZ.out _ hSm;clear hgB)
  | fail)
 all_goals (have HP:=hid (Zcil (B:=B) (r:=r) (fs:=[(x,y)]) HX2.out hBb HBW.out HSO.out hle hblt HBH.out hSm hC);clear hcw hfw hcwA hcw3 hfw3 hB hC hSm;go_wp2;go_ret;exact HP.out)
set_option maxHeartbeats 4000000 in
set_option maxRecDepth 100000 in
theorem Zciu (B b:Nat) (r:Option Nat) (fs:List F2) (x y:ByteArray) (w:World) (h:IsRT w B b r fs) (hx:x.size<=maxLen) (hy:y.size<=maxLen):
  Calls Tryz.prog 65 #[.pointer (some ⟨b,0,none⟩),.string x,.string y] w (Zchk w B b r (Zbum fs x y).1 (Zbum fs x y).2):=by
 have cA:=Zchm B b r fs x w h;have cM:=λw=>Zyw x w hx
 have hHB:B<=w.heap.size:=by have:=h.1;have:=h.rlt.2.2;omega
 have H:=hid h
 cases hok:Zbcf x.data.toList with
 | false=>
  have hr:Zbum fs x y=(1,fs):=by unfold Zbum;rw[if_pos hok]
  rw[hr];simp only[hok]at cM;have CM:=hid cM;have CA:=hid cA;unfold maxLen at hx hy;obtain⟨q,hq⟩:∃q,hasF fs x=q:=⟨_,rfl⟩;rw[hq]at CA;clear hok hr h cM cA hq
  go_enter Tryz.func65,Tryz.ntmps65
  go_wp2_with fail
  refine CA.out.mono ?_;rintro e w1 ⟨rfl,hb1⟩;have HX1:=hid hb1;clear hb1
  go_wp2_with fail
  refine(CM.out _).mono ?_;rintro e w2 ⟨rfl,hb2⟩;have HX2:=hid (chain HX1.out hb2);clear hb2;go_wp2;go_ret;exact⟨r,rfl,H.out.below HX2.out,Frame2.of_below HX2.out b r,.inl rfl⟩
 | true=>
  have hokt:=hok;simp only[hok]at cM;have CM:=hid cM
  by_cases hbig:2000<y.size
  ·have hr:Zbum fs x y=(4,fs):=by unfold Zbum;rw[if_neg (by rw[hok];decide),if_pos hbig]
   rw[hr];have CA:=hid cA;obtain⟨q,hq⟩:∃q,hasF fs x=q:=⟨_,rfl⟩;rw[hq]at CA;unfold maxLen at hx hy;clear hok hokt hr h cM cA hq
   go_enter Tryz.func65,Tryz.ntmps65
   go_wp2_with fail
   refine CA.out.mono ?_;rintro e w1 ⟨rfl,hb1⟩;have HX1:=hid hb1;clear hb1
   go_wp2_with fail
   refine(CM.out _).mono ?_;rintro e w2 ⟨rfl,hb2⟩;have HX2:=hid (chain HX1.out hb2);clear hb2;go_wp2;go_ret;exact⟨r,rfl,H.out.below HX2.out,Frame2.of_below HX2.out b r,.inl rfl⟩
  ·cases hq:hasF fs x with
   | true=>
    obtain⟨f,hf,hfx⟩:=Zrl h.2.1 hq;have hr:Zbum fs x y=(0,fs.set (Zbff fs x) (x,y)):=by unfold Zbum;rw[if_neg (by rw[hok];decide),if_neg hbig,if_pos hq]
    rw[hr];rw[hq]at cA;have hset:=Zbms h.2.1 hf y;rw[hfx]at hset;obtain⟨p,hp⟩:∃p,Zbff fs x=p:=⟨_,rfl⟩;rw[hp]at cA hf hset⊢;have hpl:=(List.getElem?_eq_some_iff.1 hf).1;have h60:=h.2.2.1;have hBb:=h.1
    rcases h.row with⟨hnil,_,_⟩|⟨g,c,hrg,hbh,hrow,hc,hcm,hBg,hgl,hcells,cur,hgh,hgc⟩
    ·rw[hnil]at hf;simp at hf
    ·subst hrg
     have hgb:g≠b:=by
      rintro rfl;rw[hbh]at hgh;simp at hgh
     have hblt:=block_lt hbh;have CA:=hid cA;have HBH:=hid hbh;have HGH:=hid hgh;have HROW:=hid hrow;have HF:=hid hf;have HSET:=hid hset;have HFX:=hid hfx;unfold maxLen at hcm hx hy;clear hok hokt hr h cM cA hq hp hf hfx hset hbh hgh hrow hcells
     go_enter Tryz.func65,Tryz.ntmps65
     go_wp2_with fail
     refine CA.out.mono ?_;rintro e w1 ⟨rfl,hb1⟩;have HX1:=hid hb1;clear hb1
     go_wp2_with fail
     refine(CM.out _).mono ?_;rintro e w2 ⟨rfl,hb2⟩;have HX2:=hid (chain HX1.out hb2);clear hb2;have hbc:w2.cell? ⟨b,0,none⟩=some (.slice (some ⟨g,0,none⟩) fs.length c):=(HX2.out.cell (p:=⟨b,0,none⟩) hblt).trans (by have:=HBH.out;simp[World.cell?,this]);have hg2:=(HX2.out.block g hgl).trans HGH.out;obtain⟨v0,hv0⟩:∃v,w2.cell? ⟨g,p*2+1,none⟩=some v:=⟨cur[p*2+1]'(by omega),by simp[World.cell?,hg2]⟩;have hfz:w2.frozen? ⟨g,p*2+1,none⟩=false:=by simp[World.frozen?,hg2]
     have hk0:(0:Int)<=(p:Int):=by omega
     have hk1:(p:Int)<(fs.length:Int):=by omega
     clear hg2
     go_wp2_with fail
     go_ret;have hown2:RowAt w2 B (.slice (some ⟨g,0,none⟩) fs.length c) fs:=HROW.out.below HX2.out;have hs2:=Zbdz y HF.out hown2;have hl:(fs.set p (x,y)).length=fs.length:=List.length_set;refine⟨some g,rfl,⟨hBb,HSET.out,by rw[hl];exact h60,.slice (some ⟨g,0,none⟩) fs.length c,?_,?_,rfl⟩,(Frame2.of_below HX2.out b (some g)).trans (Zqa w2 b g _ _) (.inl rfl),.inl rfl⟩
     ·rw[Below.heap_setCell w2 _ _ b (λe=>hgb e.symm),HX2.out.block b hblt];exact HBH.out
     ·have e:(x,y)=(f.1,y):=by rw[HFX.out]
      rw[e];exact hs2
   | false=>
    by_cases hfull:60<=fs.length
    ·have hr:Zbum fs x y=(4,fs):=by unfold Zbum;rw[if_neg (by rw[hok];decide),if_neg hbig,if_neg (by rw[hq];decide),if_pos hfull]
     rw[hr];rw[hq]at cA;obtain⟨a,c,hb,hown,hc,hcm⟩:=h.ptr;have hblt:=block_lt hb;have CA:=hid cA;have HBH:=hid hb;unfold maxLen at hcm hx hy;clear hok hokt hr h cM cA hq hb hown
     go_enter Tryz.func65,Tryz.ntmps65
     go_wp2_with fail
     refine CA.out.mono ?_;rintro e w1 ⟨rfl,hb1⟩;have HX1:=hid hb1;clear hb1
     go_wp2_with fail
     refine(CM.out _).mono ?_;rintro e w2 ⟨rfl,hb2⟩;have HX2:=hid (chain HX1.out hb2);clear hb2;have hbc:w2.cell? ⟨b,0,none⟩=some (.slice a fs.length c):=(HX2.out.cell (p:=⟨b,0,none⟩) hblt).trans (by have:=HBH.out;simp[World.cell?,this]);go_wp2;go_ret;exact⟨r,rfl,H.out.below HX2.out,Frame2.of_below HX2.out b r,.inl rfl⟩
    ·have hr:Zbum fs x y=(0,fs.take (Zbff fs x)++(x,y)::fs.drop (Zbff fs x)):=by unfold Zbum;rw[if_neg (by rw[hok];decide),if_neg hbig,if_neg (by rw[hq];decide),if_neg hfull]
     rw[hr]
     rcases h.row with⟨hnil,_,hbh⟩|⟨g,c,hrg,hbh,hrow,hc,hcm,hBg,hgl,hcells,_⟩
     ·exact Zchw B b r fs x y w h hx (by omega) hokt hq (by omega) hbh hnil
     ·by_cases hcp:c=Zbff fs x
      ·exact Zchu B b r fs x y w h hx (by omega) hokt hq (by omega) g c hbh hc hcm hgl hcells hcp
      ·exact Zchv B b r fs x y w h hx (by omega) hokt hq (by omega) g c hbh hc hcm hgl hcells hcp
def Zchl (fs:List F2) (w:World) (e:Ending) (w':World):Prop:=∃b r q,e = .returned (.tuple #[.pointer (some ⟨b,0,none⟩),.pointer (some ⟨q,0,none⟩)])/\IsTree w' w.heap.size b r (newF (fs.take 30))/\Below w.heap.size w w'
set_option maxHeartbeats 8000000 in
set_option maxRecDepth 100000 in
theorem Zcip (v:Value) (fs:List F2) (w:World) (hF:IsFiles w v fs) (hsz:∀f∈fs,f.1.size<=maxLen/\f.2.size<=maxLen) (hG:Glob w):
  Calls Tryz.prog 27 #[v] w (Zchl fs w):=by
 have mixed:Tryz.prog.follows .mixedOrders=true:=by kernel_rfl
 obtain⟨ad,c,rfl,h1,h1m,h2⟩:=hF;unfold Zchl;have hgs:IsFiles w (.slice ad (min 30 fs.length) c) (fs.take 30):=by
  refine⟨ad,c,by rw[List.length_take],by rw[List.length_take];omega,h1m,λhne=>?_⟩;obtain⟨b0,o0,ha0,hb0,hc0⟩:=h2 (by rintro rfl;simp at hne);refine⟨b0,o0,ha0,hb0,λj x hx=>hc0 j x ?_⟩;rw[List.getElem?_take]at hx;split at hx
  ·exact hx
  ·cases hx
 have hgsz:∀f∈fs.take 30,f.1.size<=maxLen/\f.2.size<=maxLen:=λf hf=>hsz f (List.mem_of_mem_take hf)
 obtain⟨gs,hgse⟩:∃gs,fs.take 30=gs:=⟨_,rfl⟩;have hgl:gs.length=min 30 fs.length:=by rw[<-hgse,List.length_take]
 rw[hgse]at hgs hgsz⊢;rw[<-hgl]at hgs;have hcut:(min (fs.length:Int) 30).toNat=gs.length:=by omega
 have HG:=hid hG;have HGS:=hid hgs;have HSZ:=hid hgsz;have HGL:=hid hgl;have hc0:(0:Int)<=min (fs.length:Int) 30:=by omega
 have hc1:min (fs.length:Int) 30<=(c:Int):=by omega
 unfold maxLen at h1m;have hu0:IsRT (w.alloc (.cells #[.slice none 0 0] 96)) w.heap.size w.heap.size none (newF (gs.take 0)):=
  ⟨Nat.le_refl _,List.Pairwise.nil,by simp[newF],.slice none 0 0,heap_alloc_new w _,World.ownsRow_nil _ _ _ _,rfl⟩
 have HU0:=hid hu0;clear hG h2 hsz hgs hgsz hgse hgl hu0
 go_enter Tryz.func27,Tryz.ntmps27
 go_upto_region 3 with fail
 try rw[hcut]
 have hgm:gs.length<=30:=by omega
 clear hcut hc0 hc1 h1;go_wp2
 go_loopw [15] (λi wr=>∃(k:Nat) (rw':Option Nat),k<=gs.length/\i = .int .i64 k/\IsRT wr w.heap.size w.heap.size rw' (newF (gs.take k))/\Below w.heap.size w wr)
  (λi _=>gs.length-(intOf i).toNat)
 case atStart=>exact⟨0,none,Nat.zero_le _,rfl,HU0.out,(Below.refl _ _).alloc (Nat.le_refl _) _⟩
 case round=>
  obtain⟨k,rw',hk,rfl,hu,hnx⟩:=hrel;have HU:=hid hu;have HNX:=hid hnx;clear hu hnx HU0
  by_cases hlt:k<gs.length
  ·obtain⟨f,hf⟩:∃f,gs[k]? =some f:=⟨gs[k],List.getElem?_eq_getElem hlt⟩
   obtain⟨a',c',hv,_,_,hcs⟩:=HGS.out
   cases hv
   obtain⟨gb,go,rfl,hgb,hgc⟩:=hcs (by rintro rfl;simp at hlt);obtain⟨hf0,hf1⟩:=hgc k f hf;have hc0:∀w',Below w.heap.size w w'->w'.cell? ⟨gb,go+k*2,none⟩=some (.string f.1):=λw' hw=>(hw.cell (p:=⟨gb,go+k*2,none⟩) hgb).trans hf0
   have hc1:∀w',Below w.heap.size w w'->w'.cell? ⟨gb,go+k*2+1,none⟩=some (.string f.2):=λw' hw=>(hw.cell (p:=⟨gb,go+k*2+1,none⟩) hgb).trans hf1
   have HN:=hid (Zbav gs k f hf);have hfz:=HSZ.out f (List.mem_of_getElem? hf);have hk0:(0:Int)<=(k:Int):=by omega
   have hk1:(k:Int)<(gs.length:Int):=by omega
   have HS0:=hid (show Below w.heap.size w wr.drew from HNX.out.drew);have HUD:=hid (HU.out.below (Below.refl wr.heap.size wr).drew);have cW:=Zciu w.heap.size w.heap.size rw' (newF (gs.take k)) f.1 f.2 wr.drew HUD.out hfz.1 hfz.2;have hul:=HU.out.rlt;have HUL:=hid hul;clear hcs hgc hf hf0 hf1 hfz hul
   go_wp2_with fail
   go_region_held3 (λw'=>Below w.heap.size w w') (first|assumption|exact HS0.out)
    (first
     | (go_at_call 65;refine cW.mono ?_;rintro e w3 ⟨r3,rfl,hu3,hf3,hr3⟩;have hSn:=HS0.out.trans (hf3.below HS0.out.size (Nat.le_refl _) (λg hg=>(HUL.out.1 g hg).1));clear hf3 hr3)
     | fail)
   have HU3:=hid hu3;have HX3:=hid hSn;clear hu3 hSn hc0 hc1 cW;go_wp2;go_roundw
   case rel=>exact⟨k+1,r3,by omega,by go_num,by rw[HN.out];exact HU3.out,HX3.out⟩
   case measure=>simp[intOf];omega
  ·have hk1:¬(k:Int)<(gs.length:Int):=by omega
   have CN:=hid (Zbaw (.slice ad gs.length c) gs wr (HGS.out.below HNX.out) (HG.out.below HNX.out) HSZ.out);clear hlt
   go_wp2_with fail
   refine CN.out.mono ?_;rintro e w2 ⟨bt,rt,rfl,hT2,hb2⟩;have HT2:=hid hT2;have HB2:=hid hb2;clear hT2 hb2;go_wp2
   go_ret2
   exact⟨bt,rt,w.heap.size,rfl,HT2.out.low HNX.out.size,HNX.out.trans (HB2.out.mono HNX.out.size)⟩
open Go.Lib
def FOk (fs:List F2):Prop:=∀f∈fs,f.1.size<=40/\f.2.size<=2000
theorem Zchy {x:ByteArray} (h:Zbcf x.data.toList=true):x.size<=40:=by
 unfold Zbcf at h;simp only[Bool.and_eq_true,decide_eq_true_eq]at h;rw[Lib.size_eq];exact h.1.1
theorem FOk.write {fs:List F2} (h:FOk fs) (x b:ByteArray):FOk (Zbum fs x b).2:=by
 unfold Zbum;split
 ·exact h
 ·rename_i h1
  have hx:=Zchy (x:=x) (by simpa using h1);split
  ·exact h
  ·split
   ·intro f hf
    rcases List.mem_or_eq_of_mem_set hf with hf|rfl
    ·exact h f hf
    ·exact⟨hx,by show b.size<=2000;omega⟩
   ·split
    ·exact h
    ·intro f hf
     rcases List.mem_append.1 hf with hf|hf
     ·exact h f (List.mem_of_mem_take hf)
     ·rcases List.mem_cons.1 hf with rfl|hf
      ·exact⟨hx,by show b.size<=2000;omega⟩
      ·exact h f (List.mem_of_mem_drop hf)
theorem FOk.fold:∀(xs t:List F2) (_:FOk t),FOk (xs.foldl (λu f=>(Zbum u f.1 f.2).2) t)
 | [],_,h=>h
 | x::xs,_,h=>FOk.fold xs _ (h.write x.1 x.2)
theorem FOk.new (xs:List F2):FOk (newF xs):=FOk.fold xs [] (λf hf=>by simp at hf)
end Go.Proofs.YtmgcaldphpnfgaaGreatDoor
namespace Go.Proofs.YtmgcaldphpnfgaaGreatDoor
open Go.Lib (hid)
theorem Zbcl {l:List ByteArray}:Zbck l=true↔l.Nodup:=by
 unfold Zbck;rw[decide_eq_true_eq];constructor
 ·intro h;exact(Zcn (L:=[]) (by simpa using h)).1
 ·intro h
  have:∀(l L:List ByteArray),l.Nodup->(∀k∈l,k∉L)->(addS L l).length=L.length+l.length:=by
   intro l
   induction l with
   | nil=>intro L _ _;simp[addS]
   | cons k ks ih=>
    intro L h1 h2;have hk:insS L k=L ++ [k]:=by unfold insS;rw[if_neg (λh=>h2 k (by simp) (Zsj.1 h))]
    have e:addS L (k::ks)=addS (insS L k) ks:=rfl;obtain⟨n1,n2⟩:=List.nodup_cons.1 h1;rw[e,hk,ih _ n2]
    ·simp;omega
    ·intro a ha hm
     rcases List.mem_append.1 hm with hm|hm
     ·exact h2 a (by simp[ha]) hm
     ·obtain rfl:a=k:=by simpa using hm
      exact n1 ha
  simpa using this l [] h (by simp)
theorem Zbrq {l:List ByteArray}:Zch l↔¬l.Nodup:=by
 constructor
 ·rintro⟨i,j,hj,hi,e⟩ hn
  have h1:j<l.length:=by omega
  rw[List.getElem?_eq_getElem h1,List.getElem?_eq_getElem hi]at e;exact List.pairwise_iff_getElem.1 hn j i h1 hi hj (Option.some.inj e)
 ·intro h
  refine Classical.byContradiction λhx=>h ?_
  refine List.pairwise_iff_getElem.2 λj i h1 hi hj e=>hx ⟨i,j,hj,hi,?_⟩
  rw[List.getElem?_eq_getElem h1,List.getElem?_eq_getElem hi,e]
theorem Zpn (outs:List ByteArray):∀(l:List StepS) (T M:List ByteArray),Zpm outs T M l=true↔
  (∀(k:Nat) y,l[k]? =some y->(∀a∈y.args,a∈T∨a∈(l.take k).map StepS.out)/\y.out∉T/\y.out∉(l.take k).map StepS.out)/\∀a∈outs,a∈M∨a∈l.map StepS.out
 | [],T,M=>by
  unfold Zpm;simp only[List.all_eq_true,Zsj,List.getElem?_nil,reduceCtorEq,false_implies,implies_true,true_and,List.map_nil,List.not_mem_nil,or_false]
 | s::r,T,M=>by
  have hT:∀a,a∈addS T [s.out]↔a∈T∨a=s.out:=λa=>by rw[Zcp];simp
  have hM:∀a,a∈addS M [s.out]↔a∈M∨a=s.out:=λa=>by rw[Zcp];simp
  unfold Zpm
  by_cases h:s.args.all (inS T)=true/\inS T s.out=false
  ·rw[if_pos h,Zpn outs r]
   obtain⟨h1,h2⟩:=h;simp only[List.all_eq_true,Zsj]at h1;have h2':s.out∉T:=λhm=>by rw[Zsj.2 hm]at h2;cases h2
   constructor
   ·rintro⟨a1,a2⟩
    refine⟨λk y hy=>?_,λa ha=>?_⟩
    ·cases k with
     | zero=>
          obtain rfl:s=y:=by simpa using hy
          exact⟨λa ha=> .inl (h1 a ha),h2',by simp⟩
     | succ k=>
      obtain⟨b1,b2,b3⟩:=a1 k y (by simpa using hy);refine⟨λa ha=>?_,λhm=>b2 ((hT _).2 (.inl hm)),?_⟩
      ·rcases b1 a ha with h|h
       ·rcases(hT a).1 h with h|h
        ·exact .inl h
        ·right;rw[List.take_succ_cons,List.map_cons];simp[h]
       ·right;rw[List.take_succ_cons,List.map_cons];exact List.mem_cons_of_mem _ h
      ·rw[List.take_succ_cons,List.map_cons]
       intro hm
       rcases List.mem_cons.1 hm with h|h
       ·exact b2 ((hT _).2 (.inr h))
       ·exact b3 h
    ·rcases a2 a ha with h|h
     ·rcases(hM a).1 h with h|h
      ·exact .inl h
      ·right;simp[h]
     ·right;rw[List.map_cons];exact List.mem_cons_of_mem _ h
   ·rintro⟨a1,a2⟩
    refine⟨λk y hy=>?_,λa ha=>?_⟩
    ·obtain⟨b1,b2,b3⟩:=a1 (k+1) y (by simpa using hy)
     rw[List.take_succ_cons,List.map_cons]at b1 b3;refine⟨λa ha=>?_,λhm=>?_,λhm=>b3 (List.mem_cons_of_mem _ hm)⟩
     ·rcases b1 a ha with h|h
      ·exact .inl ((hT a).2 (.inl h))
      ·rcases List.mem_cons.1 h with h|h
       ·exact .inl ((hT a).2 (.inr h))
       ·exact .inr h
     ·rcases(hT _).1 hm with h|h
      ·exact b2 h
      ·exact b3 (by rw[h];simp)
    ·rcases a2 a ha with h|h
     ·exact .inl ((hM a).2 (.inl h))
     ·rw[List.map_cons]at h
      rcases List.mem_cons.1 h with h|h
      ·exact .inl ((hM a).2 (.inr h))
      ·exact .inr h
  ·rw[if_neg h]
   refine⟨λh=>absurd h (by decide),λ⟨a1,_⟩=>absurd ?_ h⟩;obtain⟨b1,b2,_⟩:=a1 0 s rfl;refine⟨?_,?_⟩
   ·simp only[List.all_eq_true,Zsj]
    intro a ha
    rcases b1 a ha with h|h
    ·exact h
    ·simp at h
   ·cases hi:inS T s.out with
    | false=>rfl
    | true=>exact absurd (Zsj.1 hi) b2
theorem Zbaf (x:RuleS):Zbac x=true↔Zbj x:=by
 have hA:∀(l:List ByteArray) a,a∈addS [] l↔a∈l:=λl a=>by rw[Zcp];simp
 unfold Zbac Zbj Zcd Zbdi;simp only[Bool.and_eq_true,Zbcl,Zbrq,Classical.not_not,Zok,Zpn,Bool.not_eq_true',Zoj,List.take_length];have hI:inS (addS [] x.after) x.name=false↔x.name∉x.after:=by
  cases h:inS (addS [] x.after) x.name with
  | true=>exact⟨λh=>(by cases h),λh'=>absurd ((hA _ _).1 (Zsj.1 h)) h'⟩
  | false=>exact⟨λ_ hm=>(by rw[Zsj.2 ((hA _ _).2 hm)]at h;cases h),λ_=>rfl⟩
 rw[hI];constructor
 ·rintro⟨⟨⟨⟨h1,h2⟩,h3⟩,h4⟩,h5,h6⟩
  refine⟨h1,h2,h3,h4,λk y hy=>?_,λa ha=>?_⟩
  ·obtain⟨b1,b2,b3⟩:=h5 k y hy
   refine⟨λhm=>b2 ((hA _ _).2 hm),b3,λa ha=>?_⟩;rintro⟨c1,c2⟩
   rcases b1 a ha with h|h
   ·exact c1 ((hA _ _).1 h)
   ·exact c2 h
  ·have hm:a∈x.steps.map StepS.out:=by
    rcases h6 a ha with h|h
    ·simp at h
    ·exact h
   refine⟨λhi=>?_,hm⟩;obtain⟨s,hs,rfl⟩:=List.mem_map.1 hm;obtain⟨k,hk⟩:=List.getElem?_of_mem hs;exact(h5 k s hk).2.1 ((hA _ _).2 hi)
 ·rintro⟨h1,h2,h3,h4,h5,h6⟩
  refine⟨⟨⟨⟨h1,h2⟩,h3⟩,h4⟩,λk y hy=>?_,λa ha=> .inr (h6 a ha).2⟩;obtain⟨b1,b2,b3⟩:=h5 k y hy;refine⟨λa ha=>?_,λhm=>b1 ((hA _ _).1 hm),b2⟩
  by_cases hi:a∈x.ins
  ·exact .inl ((hA _ _).2 hi)
  ·exact .inr (Classical.byContradiction λhk=>b3 a ha ⟨hi,hk⟩)
end Go.Proofs.YtmgcaldphpnfgaaGreatDoor
