import Derived.Shelf.Strings.Search3
import Derived.Shelf.Strings.Replace
import Derived.Test.YtcpjfpdecklkgaaGreatDoorMaw
import Derived.StillTailTactics
namespace Go.Proofs.YtcpjfpdecklkgaaGreatDoor
open Go.Lib (hid)
open Go.Proofs.Tryz
open Go.RowKit Go.Shelf Go.Sort
theorem Zxj (s:ByteArray):(Zxi s).map (·.data.toList)=Zxl s.data.toList:=by
 unfold Zxi;rw[List.map_map];exact(List.map_congr_left λx _=>by simp).trans (List.map_id _)
theorem Zuq {l m:List (List UInt8)} (h:l.Perm m):(Zul l).length=(Zul m).length:=by
 rw[Zuo,Zuo,h.length_eq,(h.map List.length).sum_nat]
theorem Zbnd (l:List (List UInt8)):(srtL l).Perm l:=List.mergeSort_perm _ _
theorem Zuk (s:ByteArray):(Zul (Zxl s.data.toList)).length<=s.size+1:=by
 rw[Zuo];have:=Zxt s.data.toList;show _<=s.data.size+1
 rwa [<-Array.length_toList]
theorem Zbqw (p:List UInt8->Bool) (l:List (List UInt8)):(Zul (l.filter p)).length<=(Zul l).length:=by
 induction l with
 | nil=>simp
 | cons x l ih=>
  rw[Zun]
  by_cases h:p x=true
  ·rw[List.filter_cons_of_pos h,Zun];simp;omega
  ·rw[List.filter_cons_of_neg h];simp;omega
set_option maxHeartbeats 4000000
set_option maxRecDepth 100000
theorem Zbnv (s:ByteArray) (w:World) (hs:s.size<=900000000):
  Calls prog 157 #[.string s] w λe w'=>e = .returned (.string ⟨(Zul (srtL (Zxl s.data.toList))).toArray⟩)/\Below w.heap.size w w':=by
 have cL:=Zbnp s w (by omega);have hn:(Zxi s).length<=8796093022208:=by have:=Zxk s;omega
 have hj:(Zul ((srtB (Zxi s)).map (·.data.toList))).length<=1000000000:=by
  rw[Zbna,Zxj,Zuq (Zbnd _)];have:=Zuk s;omega
 have hres:Zul ((srtB (Zxi s)).map (·.data.toList))=Zul (srtL (Zxl s.data.toList)):=by rw[Zbna,Zxj]
 have cE:=λv w' (h:IsStrs w' v (srtB (Zxi s)))=>Zmr v _ w' h hj
 rw[hres]at cE;obtain⟨R,hR⟩:∃R:ByteArray,(⟨(Zul (srtL (Zxl s.data.toList))).toArray⟩:ByteArray)=R:=⟨_,rfl⟩;rw[hR]at cE⊢;have CE:=hid cE;have HN:=hid hn;clear hj hres cE hR hn
 go_enter func157,ntmps157
 go_wp2_with fail
 refine cL.mono ?_;rintro e w2 ⟨v,rfl,hown,hnil,hb⟩;clear cL;have HB:=hid hb;clear hb
 by_cases hv:v = .slice none 0 0
 ·subst hv
  have he:=hnil.1 rfl;have HS:=hid (show IsStrs w2 (.slice none 0 0) (srtB (Zxi s)) by rw[he,show srtB ([]:List ByteArray) = [] by simp[srtB,srtL]];exact⟨none,0,rfl,Nat.le_refl _,by decide,λh=>absurd rfl h⟩);clear he hnil hown
  go_wp2_with fail
  refine(Zbmj _ _ _).mono ?_;rintro e w3 ⟨rfl,rfl⟩
  go_wp2_with fail
  refine(CE.out _ _ HS.out).mono ?_;rintro e w4 ⟨rfl,hb4⟩;go_wp2;go_ret;exact⟨rfl,HB.out.trans (hb4.mono HB.out.size)⟩
 ·obtain⟨g,c,rfl⟩:∃g c,v = .slice (some ⟨g,0,none⟩) (Zxi s).length c:=by
   rcases hown.2 with⟨h,_⟩|⟨g,c,cur,h,_⟩
   ·exact absurd h hv
   ·exact⟨g,c,h⟩
  have cS:=Zbmi (w.heap.size+2) g c (Zxi s) w2 hown HN.out;have hg:=(hown.lt g rfl).1;have HG:=hid hg;obtain⟨k,hk⟩:∃k,(Zxi s).length=k:=⟨_,rfl⟩;have hk2:(srtB (Zxi s)).length=k:=by rw[Zbnb,hk]
  obtain⟨xs,hxs⟩:∃xs,srtB (Zxi s)=xs:=⟨_,rfl⟩;rw[hk]at cS hv⊢;have CS:=hid cS;clear cS hown hnil hv hg
  go_wp2_with fail
  refine CS.out.mono ?_;rintro e w3 ⟨rfl,hown3,hgr⟩;have hb3:Below w.heap.size w w3:=HB.out.grown hgr HB.out.size (λj e=>by cases e;have:=HG.out;omega);have HB3:=hid hb3;have HS:=hid (show IsStrs w3 (.slice (some ⟨g,0,none⟩) k c) (srtB (Zxi s)) by
   refine Zbdr (B:=w.heap.size+2) ?_;unfold OwnStrs at hown3;exact hown3)
  clear hown3 hgr hb3
  go_wp2_with fail
  refine(CE.out _ _ HS.out).mono ?_;rintro e w4 ⟨rfl,hb4⟩;go_wp2;go_ret;exact⟨rfl,HB3.out.trans (hb4.mono HB3.out.size)⟩
theorem Zif {w:World} {b:Nat} {v:Value} {t:TypeId} (h:w.heap[b]? =some (.cells #[v] t)):w.cell? ⟨b,0,none⟩=some v:=by simp[World.cell?,h]
abbrev T1:={x:ByteArray // x.size<=1000000000}
instance:Inhabited T1:=⟨⟨⟨#[]⟩,by decide⟩⟩
def encT (x:T1):Value:= .string x.1
theorem Zbkq (x:ByteArray) (hx:x.size<=1000000000) (lit:ByteArray) (b:Nat) (m:Int) (w:World) (hc:w.cell? ⟨b,0,none⟩=some (.string lit)) (hm:w.cell? ⟨1,0,none⟩=some (.int .i64 m)):
  Calls prog 225 #[.string x,.pointer (some ⟨b,0,none⟩)] w λe w'=>e = .returned (.bool (!Lib.contains x.data.toList lit.data.toList))/\w'=w:=by
 have cC:=Any.strings_Contains lLays_n144 x lit m w (by omega) hm;obtain⟨r,hr⟩:∃r,Lib.contains x.data.toList lit.data.toList=r:=⟨_,rfl⟩;rw[hr]at cC⊢
 go_enter func225,ntmps225
 go_wp2_with fail
 refine cC.mono ?_;rintro e w2 ⟨rfl,rfl⟩;go_wp2;go_ret;exact⟨rfl,rfl⟩
theorem Zrq {w:World} {g k n:Nat} (d:Array T1) (hk:k≠g):(putRow encT (Sort.ahead w n) g 0 d).heap[k]? =w.heap[k]?:=by
 simp[putRow,mapBlock,Sort.ahead,Array.getElem?_modify,hk.symm]
theorem Zfm {B g n:Nat} {w:World} (d:Array T1) (hg:B<=g):Below B w (putRow encT (Sort.ahead w n) g 0 d):=
 ⟨rfl,rfl,rfl,by simp[Sort.ahead],λk hk=>Zrq d (by omega)⟩
theorem Zlq (B:Nat) (xs:List ByteArray) (v:Value) (lit:ByteArray) (b:Nat) (m:Int) (w:World) (hown:OwnStrs B w v xs) (hx:∀x∈xs,x.size<=1000000000) (hn:xs.length<=1000000000) (hb:b<B) (hgb:1<B)
  (hc:w.cell? ⟨b,0,none⟩=some (.string lit)) (hm:w.cell? ⟨1,0,none⟩=some (.int .i64 m)):
  Calls prog 224 #[v,.func (.func 225) #[] #[.pointer (some ⟨b,0,none⟩)]] w λe w'=>∃v',e = .returned v'/\IsStrs w' v' (xs.filter λx=>Lib.contains x.data.toList lit.data.toList)/\Below B w w':=by
 obtain⟨hl,⟨rfl,h0⟩|⟨g,cap,cur,rfl,hbase,hgb',h1,h2,h3,h4⟩⟩:=hown
 ·obtain rfl:xs = []:=List.eq_nil_of_length_eq_zero h0
  have cI:=AnyE.slices_IndexFunc_empty { lSf8 with } none 0 (.func (.func 225) #[] #[.pointer (some ⟨b,0,none⟩)]) w;have cI':Calls prog 146 #[.slice none 0 0,.func (.func 225) #[] #[.pointer (some ⟨b,0,none⟩)]] w λe w'=>e = .returned (.int .i64 (-1))/\w'=w:=cI
  clear cI hc hm
  go_enter func224,ntmps224
  go_wp2_with fail
  refine cI'.mono ?_;rintro e w2 ⟨rfl,rfl⟩;go_wp2;go_ret;exact⟨_,rfl,⟨none,0,rfl,Nat.le_refl _,by decide,λh=>absurd rfl h⟩,Below.refl _ _⟩
 ·obtain⟨ts,hts⟩:∃ts:List T1,ts.map (·.1)=xs:=⟨xs.attach.map λx=>⟨x.1,hx x.1 x.2⟩,by rw[List.map_map];exact(List.map_congr_left λx _=>rfl).trans xs.attach_map_subtype_val⟩
  have htl:ts.length=xs.length:=by rw[<-hts,List.length_map]
  have henc:ts.map encT=xs.map Value.string:=by rw[<-hts,List.map_map];rfl
  have hH:∀q,Holds encT (Sort.ahead w q) g 0 ts.toArray:=by
   intro q j hj;have hj':j<ts.length:=by simpa using hj
   refine⟨?_,by simp[World.frozen?,Sort.ahead,hgb']⟩;have e:(cur.toList.take xs.length)[j]? =(ts.map encT)[j]?:=by rw[henc,<-h4,Nat.mul_one]
   rw[List.getElem?_take_of_lt (by omega)]at e;simp only[World.cell?,Sort.ahead,hgb',Nat.zero_add,Option.isSome_none,Bool.false_eq_true,if_false];rw[<-Array.getElem?_toList,e];simp[hj']
  have key:=AnyE.slices_DeleteFunc Zwt encT (λ_=>rfl) (λx=> !Lib.contains x.1.data.toList lit.data.toList) 225 #[.pointer (some ⟨b,0,none⟩)] (enters_of func225 (by kernel_rfl) rfl) ⟨⟨#[]⟩,by decide⟩ zeroValue9 g 0 cap ts.toArray w
   (λW x hW=>(Zbkq x.1 x.2 lit b m W ((hW.cell (p:=⟨b,0,none⟩) (Zie hc)).trans hc) ((hW.cell (p:=⟨_,0,none⟩) (Zie hm)).trans hm)).mono λe w' ⟨h,h'⟩=>⟨h,0,h'⟩)
   (λn os dk x hdk=>by
    have e1:∀a:Addr,a.block<B->a.block<w.heap.size->(sortWorld encT w g 0 n dk os).cell? a=w.cell? a:=λa ha hal=>by
     unfold sortWorld;rw[cell?_grow _ _ _ (by simpa[Sort.ahead]using hal)];unfold World.cell?;rw[Zrq dk (by omega)]
    exact(Zbkq x.1 x.2 lit b m _ ((e1 ⟨b,0,none⟩ hb (Zie hc)).trans hc) ((e1 ⟨_,0,none⟩ hgb (Zie hm)).trans hm)).mono λe w' ⟨h,h'⟩=>⟨h,0,h'⟩)
   (hH 0) (by simp;unfold maxLen at h2;omega) (by simp;omega)
  have ed:ts.toArray.size=xs.length:=by simp[htl]
  rw[ed]at key;refine Calls.mono key ?_;rintro e w' ⟨rfl,q,rfl⟩;obtain⟨ys,hys⟩:∃ys,(ts.filter λx:T1=> !(!Lib.contains x.1.data.toList lit.data.toList))=ys:=⟨_,rfl⟩;have hyx:ys.map (·.1)=xs.filter λx=>Lib.contains x.data.toList lit.data.toList:=by
   rw[<-hys,<-hts,List.filter_map]
   congr 1
   exact List.filter_congr λx _=>by simp
  have hyl:ys.length<=ts.length:=by rw[<-hys];exact List.length_filter_le _ _
  simp only at hys⊢;rw[hys];have hsz:(ys++List.replicate (xs.length-ys.length) (⟨⟨#[]⟩,by decide⟩:T1)).toArray.size=ts.toArray.size:=by simp;omega
  refine⟨_,rfl,⟨some ⟨g,0,none⟩,cap,?_,?_,h2,λ_=>⟨g,0,rfl,?_,λj x hjx=>?_⟩⟩,Zfm _ hbase⟩
  ·rw[<-hyx,List.length_map]
  ·rw[<-hyx,List.length_map];omega
  ·have:=(Array.getElem?_eq_some_iff.1 hgb').1
   simpa[Sort.ahead]using this
  ·rw[<-hyx]at hjx
   rw[List.getElem?_map]at hjx;obtain⟨y,hy,rfl⟩:=Option.map_eq_some_iff.1 hjx;have hjl:=(List.getElem?_eq_some_iff.1 hy).1;have:=cell?_putRow encT (Sort.ahead w q) g 0 ts.toArray (ys++List.replicate (xs.length-ys.length) (⟨⟨#[]⟩,by decide⟩:T1)).toArray (hH q) hsz j (by rw[hsz];simp;omega);rw[this];have e2:(ys++List.replicate (xs.length-ys.length) (⟨⟨#[]⟩,by decide⟩:T1)).toArray[j]! =y:=by
    rw[getElem!_pos _ j (by rw[hsz];simp;omega)];have:=List.getElem_of_getElem? hy;obtain⟨h',e'⟩:=this;simp[List.getElem_append_left h',e']
   rw[e2];rfl
theorem Zbnu (s lit:ByteArray) (m:Int) (w:World) (hs:s.size<=900000000) (hgb:1<w.heap.size) (hm:w.cell? ⟨1,0,none⟩=some (.int .i64 m)):
  Calls prog 159 #[.string s,.string lit] w λe w'=>e = .returned (.string ⟨(Zul ((Zxl s.data.toList).filter λl=>Lib.contains l lit.data.toList)).toArray⟩)/\Below w.heap.size w w':=by
 have hb0:Below w.heap.size w (w.alloc (.cells #[.string lit] 9)):=(Below.refl _ _).alloc (Nat.le_refl _) _;have hbx:=alloc_at w (.cells #[.string lit] 9);obtain⟨W1,hW1⟩:∃W1,w.alloc (.cells #[.string lit] 9)=W1:=⟨_,rfl⟩;have hs1:W1.heap.size=w.heap.size+1:=by rw[<-hW1];simp
 have cL:=Zbnp s W1 (by omega);rw[hW1]at hb0 hbx;have hres:((Zxi s).filter λx=>Lib.contains x.data.toList lit.data.toList).map (·.data.toList)=(Zxl s.data.toList).filter λl=>Lib.contains l lit.data.toList:=by
  rw[<-Zxj,List.filter_map];rfl
 have hj:(Zul (((Zxi s).filter λx=>Lib.contains x.data.toList lit.data.toList).map (·.data.toList))).length<=1000000000:=by
  rw[hres];have:=Zbqw (λl=>Lib.contains l lit.data.toList) (Zxl s.data.toList);have:=Zuk s;omega
 have cE:=λv w' (h:IsStrs w' v ((Zxi s).filter λx=>Lib.contains x.data.toList lit.data.toList))=>Zmr v _ w' h hj
 rw[hres]at cE;obtain⟨R,hR⟩:∃R:ByteArray,(⟨(Zul ((Zxl s.data.toList).filter λl=>Lib.contains l lit.data.toList)).toArray⟩:ByteArray)=R:=⟨_,rfl⟩;rw[hR]at cE⊢;have hlx:∀x∈Zxi s,x.size<=1000000000:=by
  intro x hx;obtain⟨l,hl,rfl⟩:=List.mem_map.1 hx;have:=Zxq _ l hl;have e:s.data.toList.length=s.size:=by show _=s.data.size;rw[Array.length_toList]
  show l.toArray.size<=_;rw[List.size_toArray];omega
 have hln:(Zxi s).length<=1000000000:=by have:=Zxk s;omega
 have CD:Hid (∀v w',OwnStrs (W1.heap.size+2) w' v (Zxi s)->Below W1.heap.size W1 w'->Calls prog 224 #[v,.func (.func 225) #[] #[.pointer (some ⟨w.heap.size,0,none⟩)]] w' λe w''=>∃v',e = .returned v'/\IsStrs w'' v' ((Zxi s).filter λx=>Lib.contains x.data.toList lit.data.toList)/\Below (W1.heap.size+2) w' w''):=by
  show ∀v w',_;intro v w' ho hb;refine Zlq (W1.heap.size+2) (Zxi s) v lit w.heap.size m w' ho hlx hln (by omega) (by omega) ?_ ?_
  ·exact(hb.cell (p:=⟨w.heap.size,0,none⟩) (by rw[hs1];exact Nat.lt_succ_self _)).trans (Zif hbx)
  ·exact((hb0.trans (hb.mono (by omega))).cell (p:=⟨_,0,none⟩) hgb).trans hm
 have CE:=hid cE;have HB:=hid hb0;have HS1:=hid hs1;have HW:=hid hW1;clear hj hres cE hR hlx hln hb0 hbx hs1 hW1 hm hgb
 go_enter func159,ntmps159
 go_wp2_with fail
 rw[HW.out];refine cL.mono ?_;rintro e w2 ⟨v,rfl,hown,hnil,hb⟩;clear cL;have CDD:=hid (CD.out v w2 hown hb);have hb2:Below w.heap.size w w2:=HB.out.trans (hb.mono (by have:=HS1.out;omega));have HB2:=hid hb2;clear hown hnil hb hb2
 go_wp2_with fail
 refine CDD.out.mono ?_;rintro e w3 ⟨v',rfl,hst,hb3⟩;have HST:=hid hst;have HB3:=hid (HB2.out.trans (hb3.mono (by have:=HS1.out;omega)));clear hst hb3
 go_wp2_with fail
 refine(CE.out _ _ HST.out).mono ?_;rintro e w4 ⟨rfl,hb4⟩;go_wp2;go_ret;exact⟨rfl,HB3.out.trans (hb4.mono HB3.out.size)⟩
set_option maxHeartbeats 4000000
set_option maxRecDepth 100000
theorem Zbnt (s old new:ByteArray) (m:Int) (w:World) (hs:s.size<=900000000) (ho:1<=old.size) (ho2:old.size<=1000) (hn:new.size<=1000) (hgb:1<w.heap.size) (hm:w.cell? ⟨1,0,none⟩=some (.int .i64 m)):
  Calls prog 160 #[.string s,.string old,.string new] w λe w'=>e = .returned (valE (capV (Zbhc old.data.toList new.data.toList s.data.toList)))/\Below w.heap.size w w':=by
 have hne:old.data.toList≠[]:=by
  intro e;rw[Lib.size_eq,e]at ho;simp at ho
 have hb0:Below w.heap.size w (w.alloc (.cells #[.bool false,.string ⟨#[]⟩] 46)):=(Below.refl _ _).alloc (Nat.le_refl _) _;have hbx:=alloc_at w (.cells #[.bool false,.string ⟨#[]⟩] 46);obtain⟨W1,hW1⟩:∃W1,w.alloc (.cells #[.bool false,.string ⟨#[]⟩] 46)=W1:=⟨_,rfl⟩;have hs1:W1.heap.size=w.heap.size+1:=by rw[<-hW1];simp
 rw[hW1]at hb0 hbx;have hm1:W1.cell? ⟨1,0,none⟩=some (.int .i64 m):=(hb0.cell (p:=⟨_,0,none⟩) hgb).trans hm;obtain⟨C,hC⟩:∃C,Lib.countB s old=C:=⟨_,rfl⟩;have hCe:Lib.count s.data.toList old.data.toList=C:=hC;have hCs:C<=s.size:=by rw[<-hC];exact Lib.countB_le old ho s.size s (Nat.le_refl _)
 have hlen:=Zbhg old.data.toList new.data.toList s.data.toList hne;rw[hCe,<-Lib.size_eq,<-Lib.size_eq,<-Lib.size_eq]at hlen;obtain⟨L,hL⟩:∃L,Zbhc old.data.toList new.data.toList s.data.toList=L:=⟨_,rfl⟩;rw[hL]at hlen⊢;have hcn:C*new.size<=900000000*1000:=Nat.mul_le_mul (by omega) hn;have hco:C*old.size<=s.size:=by rw[<-hC];exact Lib.countB_mul_le old ho s.size s (Nat.le_refl _)
 have cC:=Any.strings_Count_any lLays_n138 s old m W1 (by omega) hm1 ho;rw[hC]at cC;have cR:=Any.strings_ReplaceAll lLays_n155 lExtra s old new m W1 (by omega) hm1 ho (by rw[hC];omega);rw[Zbhj _ _ _ hne,hL]at cR;obtain⟨T,hT⟩:∃T:ByteArray,(⟨L.toArray⟩:ByteArray)=T:=⟨_,rfl⟩;have hTL:T.data.toList=L:=by rw[<-hT]
 rw[hT]at cR;have hmul:(C:Int)*((new.size:Int)-(old.size:Int))=((C*new.size:Nat):Int)-((C*old.size:Nat):Int):=by rw[Int.mul_sub,Int.natCast_mul,Int.natCast_mul]
 obtain⟨p1,hp1⟩:∃p,C*new.size=p:=⟨_,rfl⟩;obtain⟨p2,hp2⟩:∃p,C*old.size=p:=⟨_,rfl⟩;rw[hp1,hp2]at hmul;rw[hp1]at hcn;rw[hp2]at hco;rw[hp1,hp2]at hlen;have CR:=hid cR;have HB:=hid hb0;have HX:=hid hbx;have HS1:=hid hs1;have HW:=hid hW1;have HTL:=hid hTL;have HLL:=hid hlen;have HP1:=hid hcn;have HP2:=hid hco;clear cR hb0 hs1 hW1 hT hTL hp1 hp2 hL hCe hC hm1 hm hgb hne hlen;obtain⟨d0,d1,f0,f1⟩:=Zih hbx;clear hbx
 go_enter func160,ntmps160
 go_wp2_with fail
 rw[HW.out];refine cC.mono ?_;rintro e w2 ⟨rfl,rfl⟩;clear cC
 by_cases h2000:L.length<=2000
 ·have hj:¬(2000:Int)<(s.size:Int)+((p1:Int)-(p2:Int)):=by have:=HLL.out;omega
  have HLE:=hid h2000;clear h2000
  go_wp2_with fail
  refine CR.out.mono ?_;rintro e w3 ⟨rfl,hb3⟩;have hx3:=(hb3.block w.heap.size (by have:=HS1.out;omega)).trans HX.out;have HX3:=hid hx3;have HB3:=hid (HB.out.trans (hb3.mono HB.out.size));have HL3:=hid (show w.heap.size<w3.heap.size by have:=hb3.size;have:=HS1.out;omega);have cW:=Zbsx _ [T] _ (Zbqp w3 T (Below.refl _ _)) (by simp) (by have:=HLE.out;simp[HTL.out];omega);rw[show([T].map (·.data.toList)).flatten=L by simp[HTL.out]]at cW;obtain⟨ok,t,e1,e2⟩:=Zbrz (v:=capV L);rw[e2]at cW;have CW:=hid cW;have HE:=hid e1;clear hb3 hx3 cW e1 e2 d0 d1 f0 f1
  go_wp2_with fail
  refine CW.out.mono ?_;rintro e w4 ⟨rfl,hb4⟩;have hx4:=(hb4.block w.heap.size (by have:=HL3.out;simp only[World.size_alloc];omega)).trans ((Below.heap_alloc _ _ _ HL3.out).trans HX3.out);obtain⟨d0,d1,f0,f1⟩:=Zih hx4;have HX4:=hid hx4;have HB4:=hid ((HB3.out.alloc HB3.out.size _).trans (hb4.mono (by have:=HL3.out;simp only[World.size_alloc];omega)));clear hx4 hb4;go_wp2;refine bodyPost_ret (Zbhl rfl _ _ w.heap.size _ _ _ _ rfl (heap_set _ _ (heap_set _ _ HX4.out)) underlying46 rfl (by kernel_rfl)) rfl ?_;exact⟨by rw[HE.out];rfl,(HB4.out.setCell (p:=⟨w.heap.size,0,none⟩) (Nat.le_refl _) _).setCell (p:=⟨w.heap.size,1,none⟩) (Nat.le_refl _) _⟩
 ·have hj:(2000:Int)<(s.size:Int)+((p1:Int)-(p2:Int)):=by have:=HLL.out;omega
  have hv:capV L=noV:=by unfold capV;rw[if_neg h2000]
  have HV:=hid hv;clear hv;go_wp2;refine bodyPost_ret (Zbhl rfl _ _ w.heap.size _ _ _ _ rfl (heap_set _ _ (heap_set _ _ HX.out)) underlying46 rfl (by kernel_rfl)) rfl ?_;exact⟨by rw[HV.out];rfl,(HB.out.setCell (p:=⟨w.heap.size,0,none⟩) (Nat.le_refl _) _).setCell (p:=⟨w.heap.size,1,none⟩) (Nat.le_refl _) _⟩
set_option maxHeartbeats 4000000
set_option maxRecDepth 100000
abbrev Zbny (x:StepS) (a1 a2:Option Addr) (c1 c2:Nat):Array Value:=#[.string x.out,.int .i64 x.op,.slice a1 x.args.length c1,.slice a2 x.lits.length c2,.int .i64 x.n]
def Zaf (x:StepS) (s:ByteArray) (w:World) (e:Ending) (w':World):Prop:=e = .returned (valE (outV (doT x [s.data.toList])))/\Below w.heap.size w w'
structure ChgB (w:World) (x:StepS) (a1 a2:Option Addr) (c1 c2:Nat) (W1:World):Prop where
 size:W1.heap.size=w.heap.size+1+1
 below:Below w.heap.size w W1
 cells:∀W,Below W1.heap.size W1 W->W.cell? ⟨w.heap.size,0,none⟩=some (.string x.out)/\W.cell? ⟨w.heap.size,1,none⟩=some (.int .i64 x.op)/\W.cell? ⟨w.heap.size,2,none⟩=some (.slice a1 x.args.length c1)/\W.cell? ⟨w.heap.size,3,none⟩=some (.slice a2 x.lits.length c2)/\W.cell? ⟨w.heap.size,4,none⟩=some (.int .i64 x.n)
 res:∀W,Below W1.heap.size W1 W->W.heap[w.heap.size+1]? =some (.cells #[.bool false,.string ⟨#[]⟩] 46)
theorem chgB (w:World) (x:StepS) (a1 a2:Option Addr) (c1 c2:Nat):ChgB w x a1 a2 c1 c2 ((w.alloc (.cells (Zbny x a1 a2 c1 c2) 34)).alloc (.cells #[.bool false,.string ⟨#[]⟩] 46)):=by
 have hs:((w.alloc (.cells (Zbny x a1 a2 c1 c2) 34)).alloc (.cells #[.bool false,.string ⟨#[]⟩] 46)).heap.size=w.heap.size+1+1:=by simp
 refine⟨hs,((Below.refl _ _).alloc (Nat.le_refl _) _).alloc (by simp) _,λW h=>?_,λW h=>?_⟩
 ·exact Zbnk w x a1 a2 c1 c2 (((Below.refl _ _).alloc (by simp) _).trans (h.mono (by rw[hs];omega)))
 ·have:=alloc_at (w.alloc (.cells (Zbny x a1 a2 c1 c2) 34)) (.cells #[.bool false,.string ⟨#[]⟩] 46)
  rw[World.size_alloc]at this;exact(h.block _ (by rw[hs];omega)).trans this
theorem ChgB.val {w:World} {x:StepS} {a1 a2:Option Addr} {c1 c2:Nat} {W1:World} (h:ChgB w x a1 a2 c1 c2 W1) {W:World} (hb:Below W1.heap.size W1 W):W.cell? ⟨w.heap.size+1,0,none⟩=some (.bool false)/\W.cell? ⟨w.heap.size+1,1,none⟩=some (.string ⟨#[]⟩)/\W.frozen? ⟨w.heap.size+1,0,none⟩=false/\W.frozen? ⟨w.heap.size+1,1,none⟩=false:=Zih (h.res W hb)
theorem Zbql (W:World) (t:ByteArray) (n:Nat) (hn:W.heap.size=n):IsStrs (W.alloc (.cells #[.string t] 9)) (.slice (some ⟨n,0,none⟩) 1 1) [t]:=by
 subst hn;exact Zbqp W t (Below.refl _ _)
theorem Zbqs (W:World) (t u:ByteArray):IsStrs (W.alloc (.cells #[.string t,.string u] 9)) (.slice (some ⟨W.heap.size,0,none⟩) 2 2) [t,u]:=by
 refine⟨_,2,rfl,Nat.le_refl _,by decide,λ_=>⟨W.heap.size,0,rfl,by simp,λj x hx=>?_⟩⟩;have h:=alloc_at W (.cells #[.string t,.string u] 9);obtain⟨c0,c1,_,_⟩:=Zih h
 match j with
 | 0=>
  obtain rfl:t=x:=by simpa using hx
  exact c0
 | 1=>
  obtain rfl:u=x:=by simpa using hx
  exact c1
 | j+2=>simp at hx
theorem Zbsy (W:World) (t:ByteArray) (n:Nat) (hn:W.heap.size=n) (ht:t.size<=1000000000):
  Calls prog 111 #[.slice (some ⟨n,0,none⟩) 1 1] (W.alloc (.cells #[.string t] 9)) λe w'=>e = .returned (valE (capV t.data.toList))/\Below W.heap.size W w':=by
 have:=Zbsx _ [t] _ (Zbql W t n hn) (by simp) (by simpa[<-Lib.size_eq]using ht);rw[show([t].map (·.data.toList)).flatten=t.data.toList by simp]at this;refine this.mono ?_;rintro e w' ⟨rfl,hb⟩;exact⟨rfl,((Below.refl _ _).alloc (Nat.le_refl _) _).trans (hb.mono (by simp))⟩
theorem Zit (x:StepS) (a1 a2:Option Addr) (c1 c2:Nat) (s:ByteArray) (w:World) (hop:x.op=1) (hs:s.size<=900000000):
  Calls prog 112 #[.agg (Zbny x a1 a2 c1 c2),.string s] w (Zaf x s w):=by
 have hB:=chgB w x a1 a2 c1 c2;obtain⟨R,hR⟩:∃R,outV (doT x [s.data.toList])=R:=⟨_,rfl⟩;unfold Zaf;rw[hR];unfold doT at hR;rw[if_neg (by rw[hop];decide),if_neg (by rw[hop];decide),if_neg (by rw[hop];decide),if_neg (by rw[hop];decide),if_neg (by rw[hop];decide),if_neg (by rw[hop];decide),if_neg (by rw[hop];decide),if_neg (by rw[hop];decide)]at hR;simp only[List.headD_cons,outV]at hR;obtain⟨W1,hW1⟩:∃W1,(w.alloc (.cells (Zbny x a1 a2 c1 c2) 34)).alloc (.cells #[.bool false,.string ⟨#[]⟩] 46)=W1:=⟨_,rfl⟩;obtain⟨d0,d1,d2,d3,d4⟩:=hB.cells _ (Below.refl _ _);rw[hW1]at hB;have HB:=hid hB;have HW:=hid hW1;have HR:=hid hR;have R1:Hid (Below W1.heap.size W1 W1):=hid (Below.refl _ _);obtain⟨ok,t,e1,e2⟩:=Zbrz (v:=capV s.data.toList);have cW:=Zbsy W1 s (w.heap.size+1+1) hB.size (by omega);rw[e2]at cW;have CW:=hid cW;have HE:=hid e1;clear cW e1 e2;clear hB hW1 hR;obtain⟨out,op,args,lits,n⟩:=x;simp only[Zbny]at d0 d1 d2 d3 d4 hop⊢;subst hop
 go_enter func112,ntmps112
 go_wp2_with fail
 rw[HW.out];refine CW.out.mono ?_;rintro e w2 ⟨rfl,hb2⟩;have H2:=hid hb2;clear hb2 d0 d1 d2 d3 d4;obtain⟨g0,g1,g2,g3⟩:=HB.out.val H2.out;have HX:=hid (HB.out.res _ H2.out);go_wp2;refine bodyPost_ret (Zbhl rfl _ _ (w.heap.size+1) _ _ _ _ rfl (heap_set _ _ (heap_set _ _ HX.out)) underlying46 rfl (by kernel_rfl)) rfl ?_;exact⟨by rw[<-HR.out,HE.out];rfl,((HB.out.below.trans (H2.out.mono HB.out.below.size)).setCell (p:=⟨w.heap.size+1,0,none⟩) (Nat.le_succ _) _).setCell (p:=⟨w.heap.size+1,1,none⟩) (Nat.le_succ _) _⟩
theorem Ziv (x:StepS) (a1 a2:Option Addr) (c1 c2:Nat) (s:ByteArray) (w:World) (hop:x.op=2) (hs:s.size<=900000000):
  Calls prog 112 #[.agg (Zbny x a1 a2 c1 c2),.string s] w (Zaf x s w):=by
 have hB:=chgB w x a1 a2 c1 c2;obtain⟨R,hR⟩:∃R,outV (doT x [s.data.toList])=R:=⟨_,rfl⟩;unfold Zaf;rw[hR];unfold doT at hR;rw[if_pos hop]at hR;simp only[List.headD_cons]at hR;have hR2:(if s.data.toList = []then noV else capV s.data.toList)=R:=by
  rw[<-hR];by_cases h:s.data.toList = []<;>simp[h,outV]
 obtain⟨W1,hW1⟩:∃W1,(w.alloc (.cells (Zbny x a1 a2 c1 c2) 34)).alloc (.cells #[.bool false,.string ⟨#[]⟩] 46)=W1:=⟨_,rfl⟩;obtain⟨d0,d1,d2,d3,d4⟩:=hB.cells _ (Below.refl _ _);rw[hW1]at hB;have HB:=hid hB;have HW:=hid hW1;have HR:=hid hR;have R1:Hid (Below W1.heap.size W1 W1):=hid (Below.refl _ _);have cW:=Zbas s W1 (by omega);rw[hR2]at cW;obtain⟨ok,t,e1,e2⟩:=Zbrz (v:=R);rw[e2]at cW;have CW:=hid cW;have HE:=hid e1;clear cW e1 e2 hR2;clear hB hW1 hR;obtain⟨out,op,args,lits,n⟩:=x;simp only[Zbny]at d0 d1 d2 d3 d4 hop⊢;subst hop
 go_enter func112,ntmps112
 go_wp2_with fail
 rw[HW.out];refine CW.out.mono ?_;rintro e w2 ⟨rfl,hb2⟩;have H2:=hid hb2;clear hb2 d0 d1 d2 d3 d4;obtain⟨g0,g1,g2,g3⟩:=HB.out.val H2.out;have HX:=hid (HB.out.res _ H2.out);go_wp2;refine bodyPost_ret (Zbhl rfl _ _ (w.heap.size+1) _ _ _ _ rfl (heap_set _ _ (heap_set _ _ HX.out)) underlying46 rfl (by kernel_rfl)) rfl ?_;exact⟨by rw[HE.out];rfl,((HB.out.below.trans (H2.out.mono HB.out.below.size)).setCell (p:=⟨w.heap.size+1,0,none⟩) (Nat.le_succ _) _).setCell (p:=⟨w.heap.size+1,1,none⟩) (Nat.le_succ _) _⟩
theorem Ziz (x:StepS) (a1 a2:Option Addr) (c1 c2:Nat) (s:ByteArray) (w:World) (hop:x.op=3) (hs:s.size<=900000000):
  Calls prog 112 #[.agg (Zbny x a1 a2 c1 c2),.string s] w (Zaf x s w):=by
 have hB:=chgB w x a1 a2 c1 c2;obtain⟨R,hR⟩:∃R,outV (doT x [s.data.toList])=R:=⟨_,rfl⟩;unfold Zaf;rw[hR];unfold doT at hR;rw[if_neg (by rw[hop];decide),if_pos hop]at hR;simp only[List.headD_cons,outV]at hR;obtain⟨W1,hW1⟩:∃W1,(w.alloc (.cells (Zbny x a1 a2 c1 c2) 34)).alloc (.cells #[.bool false,.string ⟨#[]⟩] 46)=W1:=⟨_,rfl⟩;obtain⟨d0,d1,d2,d3,d4⟩:=hB.cells _ (Below.refl _ _);rw[hW1]at hB;have HB:=hid hB;have HW:=hid hW1;have HR:=hid hR;have R1:Hid (Below W1.heap.size W1 W1):=hid (Below.refl _ _);have cS:=Zbnv s W1 hs;obtain⟨J,hJ⟩:∃J,Zul (srtL (Zxl s.data.toList))=J:=⟨_,rfl⟩;have hJl:J.length<=s.size+1:=by rw[<-hJ,Zuq (Zbnd _)];exact Zuk s
 obtain⟨T,hT⟩:∃T:ByteArray,(⟨J.toArray⟩:ByteArray)=T:=⟨_,rfl⟩;rw[hJ,hT]at cS;rw[hJ]at hR;have HTJ:=hid (show T.data.toList=J by rw[<-hT]);have HT:=hid (show T.size<=1000000000 by rw[<-hT];show J.toArray.size<=_;rw[List.size_toArray];omega);have CS:=hid cS;have HR:=hid hR;clear cS hJ hJl hT;clear hB hW1 hR;obtain⟨out,op,args,lits,n⟩:=x;simp only[Zbny]at d0 d1 d2 d3 d4 hop⊢;subst hop
 go_enter func112,ntmps112
 go_wp2_with fail
 rw[HW.out];refine CS.out.mono ?_;rintro e w2 ⟨rfl,hb2⟩;have H2:=hid hb2;have cW:=Zbsy w2 T w2.heap.size rfl HT.out;rw[HTJ.out,HR.out]at cW;obtain⟨ok,t,e1,e2⟩:=Zbrz (v:=R);rw[e2]at cW;have CW:=hid cW;have HE:=hid e1;clear hb2 cW e1 e2 d0 d1 d2 d3 d4
 go_wp2_with fail
 refine CW.out.mono ?_;rintro e w3 ⟨rfl,hb3⟩;have H3:=hid (H2.out.trans (hb3.mono H2.out.size));clear hb3;obtain⟨g0,g1,g2,g3⟩:=HB.out.val H3.out;have HX:=hid (HB.out.res _ H3.out);go_wp2;refine bodyPost_ret (Zbhl rfl _ _ (w.heap.size+1) _ _ _ _ rfl (heap_set _ _ (heap_set _ _ HX.out)) underlying46 rfl (by kernel_rfl)) rfl ?_;exact⟨by rw[HE.out];rfl,((HB.out.below.trans (H3.out.mono HB.out.below.size)).setCell (p:=⟨w.heap.size+1,0,none⟩) (Nat.le_succ _) _).setCell (p:=⟨w.heap.size+1,1,none⟩) (Nat.le_succ _) _⟩
theorem Ziu (x:StepS) (a1 a2:Option Addr) (c1 c2:Nat) (s:ByteArray) (w:World) (hop:x.op=4) (hs:s.size<=900000000) (hG:Glob w):
  Calls prog 112 #[.agg (Zbny x a1 a2 c1 c2),.string s] w (Zaf x s w):=by
 have hB:=chgB w x a1 a2 c1 c2;obtain⟨R,hR⟩:∃R,outV (doT x [s.data.toList])=R:=⟨_,rfl⟩;unfold Zaf;rw[hR];unfold doT at hR;rw[if_neg (by rw[hop];decide),if_neg (by rw[hop];decide),if_pos hop]at hR;simp only[List.headD_cons,outV]at hR;obtain⟨W1,hW1⟩:∃W1,(w.alloc (.cells (Zbny x a1 a2 c1 c2) 34)).alloc (.cells #[.bool false,.string ⟨#[]⟩] 46)=W1:=⟨_,rfl⟩;obtain⟨d0,d1,d2,d3,d4⟩:=hB.cells _ (Below.refl _ _);rw[hW1]at hB;have HB:=hid hB;have HW:=hid hW1;have HR:=hid hR;have R1:Hid (Below W1.heap.size W1 W1):=hid (Below.refl _ _);have CS:=hid (Zbnp s W1 (by omega));have HLN:=hid (show(Zxi s).length<=900000000 by have:=Zxk s;omega);have HLL:=hid (show(Zxi s).length=(Zxl s.data.toList).length by unfold Zxi;rw[List.length_map]);have hbw:=hB.below;have HG:Hid (∀W,Below W1.heap.size W1 W->Glob W):=by show ∀W,_;exact λW h=>hG.below (hbw.trans (h.mono hbw.size))
 have HR:=hid hR;clear hbw hG;clear hB hW1 hR;obtain⟨out,op,args,lits,n⟩:=x;simp only[Zbny]at d0 d1 d2 d3 d4 hop⊢;subst hop
 go_enter func112,ntmps112
 go_wp2_with fail
 rw[HW.out];refine CS.out.mono ?_;rintro e w2 ⟨v,rfl,hown,hnil,hb2⟩;have hv:∃a c,v = .slice a (Zxi s).length c:=by
  rcases hown.2 with⟨h,h'⟩|⟨g,c,cur,h,_⟩
  ·exact⟨none,0,by rw[h];simp only[h']⟩
  ·exact⟨_,_,h⟩
 obtain⟨a,c,rfl⟩:=hv;have H2:=hid hb2;have hln:=HLN.out;obtain⟨N,hN⟩:∃N,(Zxi s).length=N:=⟨_,rfl⟩;rw[hN]at hln⊢;have HN:=hid hN;clear hown hnil hb2 hN;have cN:=Zbca (N:Int) (by omega) (by omega) w2 (HG.out _ H2.out);have hnS:numS (N:Int)=Lib.itoa (N:Int):=by unfold numS;rw[Int.max_eq_left (by omega)]
 rw[hnS]at cN;obtain⟨D,hD⟩:∃D:ByteArray,(⟨(Lib.itoa (N:Int)).toArray⟩:ByteArray)=D:=⟨_,rfl⟩;rw[hD]at cN;have HD:=hid (show D.data.toList=Lib.itoa (N:Int) by rw[<-hD]);have HDL:=hid (show D.size<=21 by rw[<-hD];show(Lib.itoa (N:Int)).toArray.size<=_;rw[List.size_toArray];exact Lib.itoa_length_le _ (by omega) (by omega));have CN:=hid cN;clear cN hnS hD d0 d1 d2 d3 d4
 go_wp2_with fail
 refine CN.out.mono ?_;rintro e w3 ⟨rfl,hb3⟩;have H3:=hid (H2.out.trans (hb3.mono H2.out.size));have cW:=Zbsx (.slice (some ⟨w3.heap.size,0,none⟩) 2 2) [D,⟨#[10]⟩] (w3.alloc (.cells #[.string D,.string ⟨#[10]⟩] 9)) (Zbqs w3 D ⟨#[10]⟩) (by simp) (by have:=HDL.out;simp;omega);rw[show([D,⟨#[10]⟩].map (·.data.toList)).flatten=Lib.itoa ((Zxl s.data.toList).length:Int) ++ [10] by rw[<-HLL.out,HN.out];simp[HD.out],HR.out]at cW;obtain⟨ok,t,e1,e2⟩:=Zbrz (v:=R);rw[e2]at cW;have CW:=hid cW;have HE:=hid e1;clear hb3 cW e1 e2
 go_wp2_with fail
 refine CW.out.mono ?_;rintro e w4 ⟨rfl,hb4⟩;have H4:=hid (H3.out.trans ((((Below.refl _ _).alloc (Nat.le_refl _) _).trans (hb4.mono (by simp))).mono H3.out.size));clear hb4;obtain⟨g0,g1,g2,g3⟩:=HB.out.val H4.out;have HX:=hid (HB.out.res _ H4.out);go_wp2;refine bodyPost_ret (Zbhl rfl _ _ (w.heap.size+1) _ _ _ _ rfl (heap_set _ _ (heap_set _ _ HX.out)) underlying46 rfl (by kernel_rfl)) rfl ?_;exact⟨by rw[HE.out];rfl,((HB.out.below.trans (H4.out.mono HB.out.below.size)).setCell (p:=⟨w.heap.size+1,0,none⟩) (Nat.le_succ _) _).setCell (p:=⟨w.heap.size+1,1,none⟩) (Nat.le_succ _) _⟩
theorem Ziy (x:StepS) (a1 a2:Option Addr) (c1 c2:Nat) (s:ByteArray) (m:Int) (w:World) (hop:x.op=7) (hs:s.size<=900000000) (hl:IsStrs w (.slice a2 x.lits.length c2) x.lits) (hll:x.lits.length=1) (hgb:1<w.heap.size) (hm:w.cell? ⟨1,0,none⟩=some (.int .i64 m)):
  Calls prog 112 #[.agg (Zbny x a1 a2 c1 c2),.string s] w (Zaf x s w):=by
 have hB:=chgB w x a1 a2 c1 c2;obtain⟨R,hR⟩:∃R,outV (doT x [s.data.toList])=R:=⟨_,rfl⟩;unfold Zaf;rw[hR];unfold doT at hR;rw[if_neg (by rw[hop];decide),if_neg (by rw[hop];decide),if_neg (by rw[hop];decide),if_neg (by rw[hop];decide),if_neg (by rw[hop];decide),if_pos hop]at hR;simp only[List.headD_cons,outV]at hR;obtain⟨aa,cc,e,_,hcm,hlc⟩:=Zua hl
 cases e
 obtain⟨l0,hl0⟩:∃y,x.lits[0]? =some y:=⟨x.lits[0],List.getElem?_eq_getElem (by omega)⟩;obtain⟨lb,lo,hla,hlc0⟩:=hlc 0 l0 hl0;have hlt:litT x 0=l0.data.toList:=by unfold litT;rw[List.getD_eq_getElem?_getD,hl0];rfl
 rw[hlt]at hR;obtain⟨W1,hW1⟩:∃W1,(w.alloc (.cells (Zbny x a1 a2 c1 c2) 34)).alloc (.cells #[.bool false,.string ⟨#[]⟩] 46)=W1:=⟨_,rfl⟩;obtain⟨d0,d1,d2,d3,d4⟩:=hB.cells _ (Below.refl _ _);rw[hW1]at hB;have HB:=hid hB;have HW:=hid hW1;have HR:=hid hR;have R1:Hid (Below W1.heap.size W1 W1):=hid (Below.refl _ _);have q0:=hlc0 W1 hB.below;simp only[Nat.add_zero]at q0;subst hla;have cS:=Zbnu s l0 m W1 hs (by have:=hB.size;omega) ((hB.below.cell (p:=⟨_,0,none⟩) hgb).trans hm);obtain⟨J,hJ⟩:∃J,Zul ((Zxl s.data.toList).filter λl=>Lib.contains l l0.data.toList)=J:=⟨_,rfl⟩;have hJl:J.length<=s.size+1:=by
  rw[<-hJ];have:=Zbqw (λl=>Lib.contains l l0.data.toList) (Zxl s.data.toList);have:=Zuk s;omega
 obtain⟨T,hT⟩:∃T:ByteArray,(⟨J.toArray⟩:ByteArray)=T:=⟨_,rfl⟩;rw[hJ,hT]at cS;rw[hJ]at hR;have HTJ:=hid (show T.data.toList=J by rw[<-hT]);have HT:=hid (show T.size<=1000000000 by rw[<-hT];show J.toArray.size<=_;rw[List.size_toArray];omega);have CS:=hid cS;have HR:=hid hR;clear cS hJ hJl hT hlc hlc0 hlt hl hgb hm;have q1:((w.alloc (.cells (Zbny x (a1) (some ⟨lb,lo,none⟩) c1 c2) 34)).alloc (.cells #[.bool false,.string ⟨#[]⟩] 46)).cell? ⟨lb,lo,none⟩=some (.string l0):=by rw[hW1];exact q0
 have hpos:(0:Int)<(x.lits.length:Int):=by omega
 unfold maxLen at hcm;clear hl0;clear hB hW1 hR;obtain⟨out,op,args,lits,n⟩:=x;simp only[Zbny]at d0 d1 d2 d3 d4 hop hpos hcm⊢;subst hop;simp only[Zbny]at q1;clear hll
 go_enter func112,ntmps112
 go_wp2_with fail
 rw[HW.out];refine CS.out.mono ?_;rintro e w2 ⟨rfl,hb2⟩;have H2:=hid hb2;have cW:=Zbsy w2 T w2.heap.size rfl HT.out;rw[HTJ.out,HR.out]at cW;obtain⟨ok,t,e1,e2⟩:=Zbrz (v:=R);rw[e2]at cW;have CW:=hid cW;have HE:=hid e1;clear hb2 cW e1 e2 d0 d1 d2 d3 d4
 go_wp2_with fail
 refine CW.out.mono ?_;rintro e w3 ⟨rfl,hb3⟩;have H3:=hid (H2.out.trans (hb3.mono H2.out.size));clear hb3;obtain⟨g0,g1,g2,g3⟩:=HB.out.val H3.out;have HX:=hid (HB.out.res _ H3.out);go_wp2;refine bodyPost_ret (Zbhl rfl _ _ (w.heap.size+1) _ _ _ _ rfl (heap_set _ _ (heap_set _ _ HX.out)) underlying46 rfl (by kernel_rfl)) rfl ?_;exact⟨by rw[HE.out];rfl,((HB.out.below.trans (H3.out.mono HB.out.below.size)).setCell (p:=⟨w.heap.size+1,0,none⟩) (Nat.le_succ _) _).setCell (p:=⟨w.heap.size+1,1,none⟩) (Nat.le_succ _) _⟩
theorem Zix (x:StepS) (a1 a2:Option Addr) (c1 c2:Nat) (s:ByteArray) (m:Int) (w:World) (hop:x.op=8) (hs:s.size<=900000000) (hl:IsStrs w (.slice a2 x.lits.length c2) x.lits) (hll:x.lits.length=2) (hl100:∀l∈x.lits,l.size<=100) (hfo:Zox x.lits=true) (hgb:1<w.heap.size) (hm:w.cell? ⟨1,0,none⟩=some (.int .i64 m)):
  Calls prog 112 #[.agg (Zbny x a1 a2 c1 c2),.string s] w (Zaf x s w):=by
 have hB:=chgB w x a1 a2 c1 c2;obtain⟨R,hR⟩:∃R,outV (doT x [s.data.toList])=R:=⟨_,rfl⟩;unfold Zaf;rw[hR];unfold doT at hR;rw[if_neg (by rw[hop];decide),if_neg (by rw[hop];decide),if_neg (by rw[hop];decide),if_neg (by rw[hop];decide),if_neg (by rw[hop];decide),if_neg (by rw[hop];decide),if_pos hop]at hR;simp only[List.headD_cons,outV]at hR;obtain⟨aa,cc,e,_,hcm,hlc⟩:=Zua hl
 cases e
 obtain⟨l0,hl0⟩:∃y,x.lits[0]? =some y:=⟨x.lits[0],List.getElem?_eq_getElem (by omega)⟩;obtain⟨lb,lo,hla,hlc0⟩:=hlc 0 l0 hl0;obtain⟨l1,hl1⟩:∃y,x.lits[1]? =some y:=⟨x.lits[1],List.getElem?_eq_getElem (by omega)⟩;obtain⟨lb1,lo1,hla1,hlc1⟩:=hlc 1 l1 hl1;have hlt:litT x 0=l0.data.toList:=by unfold litT;rw[List.getD_eq_getElem?_getD,hl0];rfl
 have hlt1:litT x 1=l1.data.toList:=by unfold litT;rw[List.getD_eq_getElem?_getD,hl1];rfl
 rw[hlt,hlt1]at hR;have h0s:1<=l0.size:=by
  cases hx:x.lits with
  | nil=>rw[hx]at hl0;simp at hl0
  | cons y r=>
   rw[hx]at hl0 hfo;obtain rfl:y=l0:=by simpa using hl0
   unfold Zox at hfo;simp only at hfo;rw[Lib.size_eq];refine List.length_pos_iff.2 λe=>?_
   rw[ByteArray.toList_eq,e]at hfo;simp at hfo
 have h0b:=hl100 l0 (List.mem_of_getElem? hl0);have h1b:=hl100 l1 (List.mem_of_getElem? hl1);obtain⟨W1,hW1⟩:∃W1,(w.alloc (.cells (Zbny x a1 a2 c1 c2) 34)).alloc (.cells #[.bool false,.string ⟨#[]⟩] 46)=W1:=⟨_,rfl⟩;obtain⟨d0,d1,d2,d3,d4⟩:=hB.cells _ (Below.refl _ _);rw[hW1]at hB;have HB:=hid hB;have HW:=hid hW1;have HR:=hid hR;have R1:Hid (Below W1.heap.size W1 W1):=hid (Below.refl _ _);have q0:=hlc0 W1 hB.below;simp only[Nat.add_zero]at q0;have q2:=hlc1 W1 hB.below;rw[hla]at hla1
 cases hla1
 subst hla;have cS:=Zbnt s l0 l1 m W1.drew hs h0s (by omega) (by omega) (by show _<W1.heap.size;have:=hB.size;omega) ((hB.below.cell (p:=⟨_,0,none⟩) hgb).trans hm);rw[hR]at cS;obtain⟨ok,t,e1,e2⟩:=Zbrz (v:=R);rw[e2]at cS;have CS:=hid cS;have HE:=hid e1;clear cS hlc hlc0 hlc1 hlt hlt1 hl hgb hm hl1 e1 e2 hfo hl100 h0s h0b h1b;have q1:((w.alloc (.cells (Zbny x (a1) (some ⟨lb,lo,none⟩) c1 c2) 34)).alloc (.cells #[.bool false,.string ⟨#[]⟩] 46)).cell? ⟨lb,lo,none⟩=some (.string l0):=by rw[hW1];exact q0
 have q3:((w.alloc (.cells (Zbny x (a1) (some ⟨lb,lo,none⟩) c1 c2) 34)).alloc (.cells #[.bool false,.string ⟨#[]⟩] 46)).cell? ⟨lb,lo+1,none⟩=some (.string l1):=by rw[hW1];exact q2
 have hpos:(1:Int)<(x.lits.length:Int):=by omega
 unfold maxLen at hcm;have Q1:=hid q0;have Q3:=hid q2;clear hl0 q0 q2;clear hB hW1 hR;obtain⟨out,op,args,lits,n⟩:=x;simp only[Zbny]at d0 d1 d2 d3 d4 hop hpos hcm⊢;subst hop;simp only[Zbny]at q1 q3;clear hll
 go_enter func112,ntmps112
 go_wp2_with fail
 rw[HW.out];have D1:=(below_drewN (Below.refl W1.heap.size W1) 1);obtain⟨d0',d1',d2',d3',d4'⟩:=HB.out.cells W1.drew D1;have q1':W1.drew.cell? ⟨lb,lo,none⟩=some (.string l0):=Q1.out;have q3':W1.drew.cell? ⟨lb,lo+1,none⟩=some (.string l1):=Q3.out
 go_region_with (go_at_call 160;refine CS.out.mono ?_;rintro e w2 ⟨rfl,hb2⟩;have H2:=hid (D1.trans hb2);obtain⟨g0,g1,g2,g3⟩:=HB.out.val H2.out)
 all_goals have HX:=hid (HB.out.res _ H2.out)
 all_goals go_wp2
 all_goals refine bodyPost_ret (Zbhl rfl _ _ (w.heap.size+1) _ _ _ _ rfl (heap_set _ _ (heap_set _ _ HX.out)) underlying46 rfl (by kernel_rfl)) rfl ?_
 all_goals exact⟨by rw[HE.out];rfl,((HB.out.below.trans (H2.out.mono HB.out.below.size)).setCell (p:=⟨w.heap.size+1,0,none⟩) (Nat.le_succ _) _).setCell (p:=⟨w.heap.size+1,1,none⟩) (Nat.le_succ _) _⟩
theorem Ziw (x:StepS) (a1 a2:Option Addr) (c1 c2:Nat) (s:ByteArray) (w:World) (hop:x.op=9) (hs:s.size<=900000000) (hn0:0<=x.n) (hn1:x.n<=2000):
  Calls prog 112 #[.agg (Zbny x a1 a2 c1 c2),.string s] w (Zaf x s w):=by
 have hB:=chgB w x a1 a2 c1 c2;obtain⟨R,hR⟩:∃R,outV (doT x [s.data.toList])=R:=⟨_,rfl⟩;unfold Zaf;rw[hR];unfold doT at hR;rw[if_neg (by rw[hop];decide),if_neg (by rw[hop];decide),if_neg (by rw[hop];decide),if_neg (by rw[hop];decide),if_neg (by rw[hop];decide),if_neg (by rw[hop];decide),if_neg (by rw[hop];decide),if_pos hop]at hR;simp only[List.headD_cons,outV]at hR;obtain⟨W1,hW1⟩:∃W1,(w.alloc (.cells (Zbny x a1 a2 c1 c2) 34)).alloc (.cells #[.bool false,.string ⟨#[]⟩] 46)=W1:=⟨_,rfl⟩;obtain⟨d0,d1,d2,d3,d4⟩:=hB.cells _ (Below.refl _ _);rw[hW1]at hB;have HB:=hid hB;have HW:=hid hW1;have HR:=hid hR;have R1:Hid (Below W1.heap.size W1 W1):=hid (Below.refl _ _);obtain⟨k,hk⟩:∃k:Nat,min x.n (s.size:Int)=(k:Int):=⟨(min x.n (s.size:Int)).toNat,by omega⟩;have hks:k<=s.size:=by omega
 obtain⟨T,hT⟩:∃T,s.extract 0 k=T:=⟨_,rfl⟩;have hTe:T.data.toList=s.data.toList.take x.n.toNat:=by
  rw[<-hT,ByteArray.data_extract,Array.toList_extract,List.extract_eq_take_drop,List.drop_zero,Nat.sub_zero];have e:s.data.toList.length=s.size:=by rw[Array.length_toList];rfl
  by_cases h:x.n.toNat<=s.size
  ·congr 1;omega
  ·rw[List.take_of_length_le (by omega),List.take_of_length_le (by omega)]
 have hTs:T.size<=900000000:=by rw[<-hT,ByteArray.size_extract];omega
 have cW:=Zbsy W1 T (w.heap.size+1+1) hB.size (by omega);rw[hTe,hR]at cW;obtain⟨ok,t,e1,e2⟩:=Zbrz (v:=R);rw[e2]at cW;have CW:=hid cW;have HE:=hid e1;clear cW e1 e2 hTe hTs;have hmn:=hk;have hex:s.extract 0 k=T:=hT;clear hB hW1 hR;obtain⟨out,op,args,lits,n⟩:=x;simp only[Zbny]at d0 d1 d2 d3 d4 hop hex hn0 hn1 hmn⊢;subst hop
 go_enter func112,ntmps112
 go_wp2_with fail
 rw[HW.out];refine CW.out.mono ?_;rintro e w2 ⟨rfl,hb2⟩;have H2:=hid hb2;clear hb2 d0 d1 d2 d3 d4;obtain⟨g0,g1,g2,g3⟩:=HB.out.val H2.out;have HX:=hid (HB.out.res _ H2.out);go_wp2;refine bodyPost_ret (Zbhl rfl _ _ (w.heap.size+1) _ _ _ _ rfl (heap_set _ _ (heap_set _ _ HX.out)) underlying46 rfl (by kernel_rfl)) rfl ?_;exact⟨by rw[HE.out];rfl,((HB.out.below.trans (H2.out.mono HB.out.below.size)).setCell (p:=⟨w.heap.size+1,0,none⟩) (Nat.le_succ _) _).setCell (p:=⟨w.heap.size+1,1,none⟩) (Nat.le_succ _) _⟩
end Go.Proofs.YtcpjfpdecklkgaaGreatDoor
