import Derived.Laws.MakeOwn
import Derived.Test.YtmgcaldphpnfgaaGreatDoorMat
import Derived.Shelf.Strings.Search3
import Derived.Shelf.Strings.Replace
namespace Go.Proofs.YtmgcaldphpnfgaaGreatDoor
open Go.Lib (hid)
open Go.RowKit Go.Shelf
set_option maxHeartbeats 4000000
set_option maxRecDepth 100000
theorem Zbrz {v:ValT}:∃b t,v=(b,t)/\valE v = .agg #[.bool b,.string t]:=⟨v.1,v.2,rfl,rfl⟩
theorem Zbqp (w:World) (t:ByteArray) {W:World} (hb:Below (w.heap.size+1) (w.alloc (.cells #[.string t] 9)) W):IsStrs W (.slice (some ⟨w.heap.size,0,none⟩) 1 1) [t]:=by
 refine⟨_,1,rfl,Nat.le_refl _,by decide,λ_=>⟨w.heap.size,0,rfl,by have:=hb.size;simp at this;omega,λj x hx=>?_⟩⟩
 cases j with
 | zero=>
  obtain rfl:t=x:=by simpa using hx
  exact(hb.cell (p:=⟨w.heap.size,0,none⟩) (by simp)).trans (cell_one_new w (.string t) 9 0 _ rfl)
 | succ j=>simp at hx
theorem Zbas (s:ByteArray) (w:World) (hs:s.size<=1000000000):
  Calls Tryz.prog 183 #[.string s] w λe w'=>e = .returned (valE (if s.data.toList = []then noV else capV s.data.toList))/\Below w.heap.size w w':=by
 obtain⟨R,hR⟩:∃R,(if s.data.toList = []then noV else capV s.data.toList)=R:=⟨_,rfl⟩;rw[hR];have hb:Below w.heap.size w (w.alloc (.cells #[.bool false,.string ⟨#[]⟩] 28)):=(Below.refl _ _).alloc (Nat.le_refl _) _;obtain⟨W1,hW1⟩:∃W1,w.alloc (.cells #[.bool false,.string ⟨#[]⟩] 28)=W1:=⟨_,rfl⟩;have hs1:W1.heap.size=w.heap.size+1:=by rw[<-hW1];simp
 have hx:W1.heap[w.heap.size]? =some (.cells #[.bool false,.string ⟨#[]⟩] 28):=by rw[<-hW1];exact alloc_at w _
 have cW:=Zbsx (.slice (some ⟨w.heap.size+1,0,none⟩) 1 1) [s] (W1.alloc (.cells #[.string s] 9)) (by rw[<-hs1];exact Zbqp W1 s (Below.refl _ _)) (by simp) (by simpa[<-Lib.size_eq]using hs);rw[show([s].map (·.data.toList)).flatten=s.data.toList by simp]at cW;rw[hW1]at hb;have HB:=hid hb;have HX:=hid hx;have CW:=hid cW;have HR:=hid hR;have HW1:=hid hW1;have HS1:=hid hs1;clear hb hx cW hR hW1 hs1
 by_cases he:s.data.toList = []
 ·have hq:(s.toList==([]:List UInt8))=true:=by rw[ByteArray.toList_eq,he];rfl
  obtain⟨d0,d1,f0,f1⟩:=Zih HX.out
  go_enter Tryz.func183,Tryz.ntmps183
  go_wp2_with fail
  rw[HW1.out];go_wp2;refine bodyPost_ret (Zbhl rfl _ _ w.heap.size _ _ _ _ rfl HX.out Tryz.underlying28 rfl (by kernel_rfl)) rfl ?_;exact⟨by rw[<-HR.out,if_pos he];rfl,HB.out⟩
 ·have hq:(s.toList==([]:List UInt8))=false:=by rw[ByteArray.toList_eq];simpa using he
  have HR2:=hid (HR.out.symm.trans (if_neg he));obtain⟨ok,t,e1,e2⟩:=Zbrz (v:=capV s.data.toList);rw[e2]at CW;have HE:=hid e1;clear e1 e2 he
  go_enter Tryz.func183,Tryz.ntmps183
  go_wp2_with fail
  rw[HW1.out]
  go_wp2_with fail
  refine CW.out.mono ?_;rintro e w2 ⟨rfl,hb2⟩;have hx2:=(hb2.block w.heap.size (by have:=HS1.out;simp only[World.size_alloc];omega)).trans ((Below.heap_alloc _ _ _ (by have:=HS1.out;omega)).trans HX.out);obtain⟨d0,d1,f0,f1⟩:=Zih hx2;have HX2:=hid hx2;have HB2:=hid ((HB.out.alloc HB.out.size _).trans (hb2.mono (by have:=HS1.out;simp only[World.size_alloc];omega)));clear hx2 hb2;go_wp2;refine bodyPost_ret (Zbhl rfl _ _ w.heap.size _ _ _ _ rfl (heap_set _ _ (heap_set _ _ HX2.out)) Tryz.underlying28 rfl (by kernel_rfl)) rfl ?_;exact⟨by rw[HR2.out,HE.out];rfl,(HB2.out.setCell (p:=⟨w.heap.size,0,none⟩) (Nat.le_refl _) _).setCell (p:=⟨w.heap.size,1,none⟩) (Nat.le_refl _) _⟩
theorem Zsr:(Tryz.prog.info? 9).map (λi=>(i.zero,i.size,i.bytes))=some (some (.string ⟨#[]⟩),1,16):=by kernel_rfl
theorem Zyf (n:Nat) (hn:n<=1000000000) (w:World):(Instr.makeSlice 22 (.int .i64 0) (.int .i64 (n:Int))).run Tryz.prog w = .ok (.slice (some ⟨w.heap.size,0,none⟩) 0 n) (w.alloc (.cells (madeCells #[.string ⟨#[]⟩] n) 9)):=by
 obtain⟨i0,hi,hz,hs,hb⟩:=info_parts Zsr;have:=run_make (P:=Tryz.prog) w 22 9 i0 (.string ⟨#[]⟩) Tryz.underlying22 hi hz .i64 .i64 0 n (by omega) (by omega) (by rw[hb];omega) (by omega);rw[hs,show(Value.string ⟨#[]⟩).cells = #[.string ⟨#[]⟩]from rfl]at this;simpa using this
def Zbrm (vs:List ValT):List ByteArray:=vs.map (·.2)
def Zak (w:World) (vs:List ValT) (e:Ending) (w':World):Prop:=∃v,e = .returned (.tuple #[v,.bool (vs.all (·.1))])/\(vs.all (·.1)=true->IsStrs w' v (Zbrm vs))/\Below w.heap.size w w'
theorem Zbdr {B:Nat} {w:World} {v:Value} {xs:List ByteArray} (h:w.ownsRow B 9 1 v xs.length (xs.map Value.string)):IsStrs w v xs:=(Zbqf (t:=9) h).isStrs
theorem Zko (v:Value) (vs:List ValT) (w:World) (h:Zbb w v vs) (hn:vs.length<=1000000000):
  Calls Tryz.prog 85 #[v] w (Zak w vs):=by
 obtain⟨a,c,rfl,h1,h1m,h2⟩:=h;obtain⟨i0,hi,hz0,hz1,hz2⟩:=info_parts Zsr;have hcells:∀(k:Nat) x,vs[k]? =some x->∃b o,a=some ⟨b,o,none⟩/\∀w',Below w.heap.size w w'->w'.cell? ⟨b,o+k*2,none⟩=some (.bool x.1)/\w'.cell? ⟨b,o+k*2+1,none⟩=some (.string x.2):=by
  intro k x hx;obtain⟨b,o,ha,hb,hc⟩:=h2 (by rintro rfl;simp at hx);obtain⟨c1,c2⟩:=hc k x hx;exact⟨b,o,ha,λw' hw=>⟨(hw.cell (p:=⟨b,o+k*2,none⟩) hb).trans c1,(hw.cell (p:=⟨b,o+k*2+1,none⟩) hb).trans c2⟩⟩
 have HC:=hid hcells;have hmk:=Zyf vs.length hn;clear hcells h2;unfold maxLen at h1m
 go_enter Tryz.func85,Tryz.ntmps85
 go_wp2
 go_loopw [4,12] (λtv iv wr=>∃k:Nat,k<=vs.length/\iv = .int .i64 k/\(vs.take k).all (·.1)=true/\wr.ownsRow w.heap.size 9 1 tv k ((Zbrm (vs.take k)).map Value.string)/\Below w.heap.size w wr)
  (λ_ i _=>vs.length-(intOf i).toNat)
 case atStart=>exact⟨0,Nat.zero_le _,rfl,by simp,World.ownsRow_made w _ _ (Nat.le_refl _) (by unfold maxLen;omega) (by rw[size_madeCells];simp),(Below.refl _ _).alloc (Nat.le_refl _) _⟩
 case round=>
  obtain⟨k,hk,rfl,hall,hown,hnx⟩:=hrel;have HALL:=hid hall;have HOWN:=hid hown;have HNX:=hid hnx;have hsz:=hnx.size;clear hall hown hnx
  by_cases hlt:k<vs.length
  ·obtain⟨x,hx⟩:∃x,vs[k]? =some x:=⟨vs[k],List.getElem?_eq_getElem hlt⟩
   obtain⟨b,o,ha,hc⟩:=HC.out k x hx;obtain⟨c1,c2⟩:=hc _ HNX.out;subst ha;obtain⟨ok,s⟩:=x;simp only at c1 c2;have HX:=hid hx;have hi1:(k:Int)<(vs.length:Int):=by omega
   have hi0:(0:Int)<=(k:Int):=by omega
   clear hc hx
   cases ok
   ·go_wp2
    go_ret2
    have hno:vs.all (·.1)=false:=by
     rw[List.all_eq_false];exact⟨(false,s),List.mem_of_getElem? HX.out,by simp⟩
    refine⟨_,by rw[hno];rfl,?_,HNX.out.alloc hsz _⟩;rw[hno];exact λe=>by cases e
   ·have hl:k+1<=maxLen:=by unfold maxLen;omega
    have hbx:=alloc_at wr (.cells #[.bool true,.string s] 28)
    go_wp2_with (at_builtin;refine wpList_append_own _ rfl _ _ 22 rfl w.heap.size 9 i0 _ 1 16 Tryz.underlying22 hi hz0 hz1 hz2 rfl (by decide) _ _ _ rfl ((HOWN.out.alloc _).alloc _) ⟨wr.heap.size+1,0,none⟩ 1 1 [.string s] rfl rfl ?qc2 ?qc3 hl ?qc5 ?qc6 ?_)
    case qc2=>
     have:=cell_one_new (wr.alloc (.cells #[.bool true,.string s] 28)) (.string s) 9;rw[World.size_alloc]at this;exact this
    case qc3=>intro u hu;simp at hu;subst hu;rfl
    case qc5=>omega
    case qc6=>simp;omega
    intro v' w1 hown' hgrow hnil;have hown1:=HOWN.out;have hbb:Below w.heap.size w w1:=((HNX.out.alloc hsz _).alloc (by simp;omega) _).grown hgrow (by simp;omega) (λj e=>(hown1.lt j e).1);have e:Zbrm (vs.take (k+1))=Zbrm (vs.take k) ++ [s]:=by rw[List.take_add_one,HX.out];simp[Zbrm]
    have HO:=hid (show w1.ownsRow w.heap.size 9 1 v' (k+1) ((Zbrm (vs.take (k+1))).map Value.string) by rw[e,List.map_append];exact hown');have HBB:=hid hbb;have HA2:Hid ((vs.take (k+1)).all (·.1)=true):=by
     show(vs.take (k+1)).all (·.1)=true;rw[List.take_add_one,HX.out,List.all_append,HALL.out];rfl
    clear hown' hgrow hnil hbb e hown1;go_wp2;go_roundw
    case rel=>exact⟨k+1,by omega,by go_num,HA2.out,HO.out,HBB.out⟩
    case measure=>simp[intOf];omega
  ·have hi1:¬(k:Int)<(vs.length:Int):=by omega
   have hfull:vs.take k=vs:=List.take_of_length_le (by omega);have HA2:=hid (show vs.all (·.1)=true by rw[<-hfull];exact HALL.out);have HO:=hid (show IsStrs wr u4 (Zbrm vs)from Zbdr (B:=w.heap.size) (by
    have:=HOWN.out;rw[hfull]at this;have hkl:k=(Zbrm vs).length:=by unfold Zbrm;rw[List.length_map];omega
    rw[<-hkl];exact this))
   go_wp2
   go_ret2
   exact⟨_,by rw[HA2.out];rfl,λ_=>HO.out,HNX.out⟩
open Go.Sort
theorem Zxj (s:ByteArray):(Zxi s).map (·.data.toList)=Zxl s.data.toList:=by
 unfold Zxi;rw[List.map_map];exact(List.map_congr_left λx _=>by simp).trans (List.map_id _)
theorem Zuq {l m:List (List UInt8)} (h:l.Perm m):(Zul l).length=(Zul m).length:=by
 rw[Zuo,Zuo,h.length_eq,(h.map List.length).sum_nat]
theorem Zbnd (l:List (List UInt8)):(srtL l).Perm l:=List.mergeSort_perm _ _
theorem Zuk (s:ByteArray):(Zul (Zxl s.data.toList)).length<=s.size+1:=by
 rw[Zuo];have:=Zxt s.data.toList;show _<=s.data.size+1
 rwa [<-Array.length_toList]
theorem Zbqw (p:List UInt8->Bool) (l:List (List UInt8)):(Zul (l.filter p)).length<=(Zul l).length:=by
 induction l with
 | nil=>simp
 | cons x l ih=>
  rw[Zun]
  by_cases h:p x=true
  ·rw[List.filter_cons_of_pos h,Zun];simp;omega
  ·rw[List.filter_cons_of_neg h];simp;omega
set_option maxHeartbeats 4000000
set_option maxRecDepth 100000
theorem Zbnv (s:ByteArray) (w:World) (hs:s.size<=900000000):
  Calls Tryz.prog 184 #[.string s] w λe w'=>e = .returned (.string ⟨(Zul (srtL (Zxl s.data.toList))).toArray⟩)/\Below w.heap.size w w':=by
 have cL:=Zbnp s w (by omega);have hn:(Zxi s).length<=8796093022208:=by have:=Zxk s;omega
 have hj:(Zul ((srtB (Zxi s)).map (·.data.toList))).length<=1000000000:=by
  rw[Zbna,Zxj,Zuq (Zbnd _)];have:=Zuk s;omega
 have hres:Zul ((srtB (Zxi s)).map (·.data.toList))=Zul (srtL (Zxl s.data.toList)):=by rw[Zbna,Zxj]
 have cE:=λv w' (h:IsStrs w' v (srtB (Zxi s)))=>Zmr v _ w' h hj
 rw[hres]at cE;obtain⟨R,hR⟩:∃R:ByteArray,(⟨(Zul (srtL (Zxl s.data.toList))).toArray⟩:ByteArray)=R:=⟨_,rfl⟩;rw[hR]at cE⊢;have CE:=hid cE;have HN:=hid hn;clear hj hres cE hR hn
 go_enter Tryz.func184,Tryz.ntmps184
 go_wp2_with fail
 refine cL.mono ?_;rintro e w2 ⟨v,rfl,hown,hnil,hb⟩;clear cL;have HB:=hid hb;clear hb
 by_cases hv:v = .slice none 0 0
 ·subst hv
  have he:=hnil.1 rfl;have HS:=hid (show IsStrs w2 (.slice none 0 0) (srtB (Zxi s)) by rw[he,show srtB ([]:List ByteArray) = [] by simp[srtB,srtL]];exact⟨none,0,rfl,Nat.le_refl _,by decide,λh=>absurd rfl h⟩);clear he hnil hown
  go_wp2_with fail
  refine(Zbmj _ _ _).mono ?_;rintro e w3 ⟨rfl,rfl⟩
  go_wp2_with fail
  refine(CE.out _ _ HS.out).mono ?_;rintro e w4 ⟨rfl,hb4⟩;go_wp2;go_ret;exact⟨rfl,HB.out.trans (hb4.mono HB.out.size)⟩
 ·obtain⟨g,c,rfl⟩:∃g c,v = .slice (some ⟨g,0,none⟩) (Zxi s).length c:=by
   rcases hown.2 with⟨h,_⟩|⟨g,c,cur,h,_⟩
   ·exact absurd h hv
   ·exact⟨g,c,h⟩
  have cS:=Zbmi (w.heap.size+2) g c (Zxi s) w2 hown HN.out;have hg:=(hown.lt g rfl).1;have HG:=hid hg;obtain⟨k,hk⟩:∃k,(Zxi s).length=k:=⟨_,rfl⟩;have hk2:(srtB (Zxi s)).length=k:=by rw[Zbnb,hk]
  obtain⟨xs,hxs⟩:∃xs,srtB (Zxi s)=xs:=⟨_,rfl⟩;rw[hk]at cS hv⊢;have CS:=hid cS;clear cS hown hnil hv hg
  go_wp2_with fail
  refine CS.out.mono ?_;rintro e w3 ⟨rfl,hown3,hgr⟩;have hb3:Below w.heap.size w w3:=HB.out.grown hgr HB.out.size (λj e=>by cases e;have:=HG.out;omega);have HB3:=hid hb3;have HS:=hid (show IsStrs w3 (.slice (some ⟨g,0,none⟩) k c) (srtB (Zxi s)) by
   refine Zbdr (B:=w.heap.size+2) ?_;unfold OwnStrs at hown3;exact hown3)
  clear hown3 hgr hb3
  go_wp2_with fail
  refine(CE.out _ _ HS.out).mono ?_;rintro e w4 ⟨rfl,hb4⟩;go_wp2;go_ret;exact⟨rfl,HB3.out.trans (hb4.mono HB3.out.size)⟩
theorem Zif {w:World} {b:Nat} {v:Value} {t:TypeId} (h:w.heap[b]? =some (.cells #[v] t)):w.cell? ⟨b,0,none⟩=some v:=by simp[World.cell?,h]
abbrev T1:={x:ByteArray // x.size<=1000000000}
instance:Inhabited T1:=⟨⟨⟨#[]⟩,by decide⟩⟩
def encT (x:T1):Value:= .string x.1
theorem Zbkq (x:ByteArray) (hx:x.size<=1000000000) (lit:ByteArray) (b:Nat) (m:Int) (w:World) (hc:w.cell? ⟨b,0,none⟩=some (.string lit)) (hm:w.cell? ⟨1,0,none⟩=some (.int .i64 m)):
  Calls Tryz.prog 235 #[.string x,.pointer (some ⟨b,0,none⟩)] w λe w'=>e = .returned (.bool (!Lib.contains x.data.toList lit.data.toList))/\w'=w:=by
 have cC:=Any.strings_Contains lLays_n144 x lit m w (by omega) hm;obtain⟨r,hr⟩:∃r,Lib.contains x.data.toList lit.data.toList=r:=⟨_,rfl⟩;rw[hr]at cC⊢
 go_enter Tryz.func235,Tryz.ntmps235
 go_wp2_with fail
 refine cC.mono ?_;rintro e w2 ⟨rfl,rfl⟩;go_wp2;go_ret;exact⟨rfl,rfl⟩
theorem Zrq {w:World} {g k n:Nat} (d:Array T1) (hk:k≠g):(putRow encT (Sort.ahead w n) g 0 d).heap[k]? =w.heap[k]?:=by
 simp[putRow,mapBlock,Sort.ahead,Array.getElem?_modify,hk.symm]
theorem Zfm {B g n:Nat} {w:World} (d:Array T1) (hg:B<=g):Below B w (putRow encT (Sort.ahead w n) g 0 d):=
 ⟨rfl,rfl,rfl,by simp[Sort.ahead],λk hk=>Zrq d (by omega)⟩
theorem Zlq (B:Nat) (xs:List ByteArray) (v:Value) (lit:ByteArray) (b:Nat) (m:Int) (w:World) (hown:OwnStrs B w v xs) (hx:∀x∈xs,x.size<=1000000000) (hn:xs.length<=1000000000) (hb:b<B) (hgb:1<B)
  (hc:w.cell? ⟨b,0,none⟩=some (.string lit)) (hm:w.cell? ⟨1,0,none⟩=some (.int .i64 m)):
  Calls Tryz.prog 234 #[v,.func (.func 235) #[] #[.pointer (some ⟨b,0,none⟩)]] w λe w'=>∃v',e = .returned v'/\IsStrs w' v' (xs.filter λx=>Lib.contains x.data.toList lit.data.toList)/\Below B w w':=by
 obtain⟨hl,⟨rfl,h0⟩|⟨g,cap,cur,rfl,hbase,hgb',h1,h2,h3,h4⟩⟩:=hown
 ·obtain rfl:xs = []:=List.eq_nil_of_length_eq_zero h0
  have cI:=AnyE.slices_IndexFunc_empty { lSf8 with } none 0 (.func (.func 235) #[] #[.pointer (some ⟨b,0,none⟩)]) w;have cI':Calls Tryz.prog 180 #[.slice none 0 0,.func (.func 235) #[] #[.pointer (some ⟨b,0,none⟩)]] w λe w'=>e = .returned (.int .i64 (-1))/\w'=w:=cI
  clear cI hc hm
  go_enter Tryz.func234,Tryz.ntmps234
  go_wp2_with fail
  refine cI'.mono ?_;rintro e w2 ⟨rfl,rfl⟩;go_wp2;go_ret;exact⟨_,rfl,⟨none,0,rfl,Nat.le_refl _,by decide,λh=>absurd rfl h⟩,Below.refl _ _⟩
 ·obtain⟨ts,hts⟩:∃ts:List T1,ts.map (·.1)=xs:=⟨xs.attach.map λx=>⟨x.1,hx x.1 x.2⟩,by rw[List.map_map];exact(List.map_congr_left λx _=>rfl).trans xs.attach_map_subtype_val⟩
  have htl:ts.length=xs.length:=by rw[<-hts,List.length_map]
  have henc:ts.map encT=xs.map Value.string:=by rw[<-hts,List.map_map];rfl
  have hH:∀q,Holds encT (Sort.ahead w q) g 0 ts.toArray:=by
   intro q j hj;have hj':j<ts.length:=by simpa using hj
   refine⟨?_,by simp[World.frozen?,Sort.ahead,hgb']⟩;have e:(cur.toList.take xs.length)[j]? =(ts.map encT)[j]?:=by rw[henc,<-h4,Nat.mul_one]
   rw[List.getElem?_take_of_lt (by omega)]at e;simp only[World.cell?,Sort.ahead,hgb',Nat.zero_add,Option.isSome_none,Bool.false_eq_true,if_false];rw[<-Array.getElem?_toList,e];simp[hj']
  have key:=AnyE.slices_DeleteFunc Zwt encT (λ_=>rfl) (λx=> !Lib.contains x.1.data.toList lit.data.toList) 235 #[.pointer (some ⟨b,0,none⟩)] (enters_of Tryz.func235 (by kernel_rfl) rfl) ⟨⟨#[]⟩,by decide⟩ Tryz.zeroValue9 g 0 cap ts.toArray w
   (λW x hW=>(Zbkq x.1 x.2 lit b m W ((hW.cell (p:=⟨b,0,none⟩) (Zie hc)).trans hc) ((hW.cell (p:=⟨_,0,none⟩) (Zie hm)).trans hm)).mono λe w' ⟨h,h'⟩=>⟨h,0,h'⟩)
   (λn os dk x hdk=>by
    have e1:∀a:Addr,a.block<B->a.block<w.heap.size->(sortWorld encT w g 0 n dk os).cell? a=w.cell? a:=λa ha hal=>by
     unfold sortWorld;rw[cell?_grow _ _ _ (by simpa[Sort.ahead]using hal)];unfold World.cell?;rw[Zrq dk (by omega)]
    exact(Zbkq x.1 x.2 lit b m _ ((e1 ⟨b,0,none⟩ hb (Zie hc)).trans hc) ((e1 ⟨_,0,none⟩ hgb (Zie hm)).trans hm)).mono λe w' ⟨h,h'⟩=>⟨h,0,h'⟩)
   (hH 0) (by simp;unfold maxLen at h2;omega) (by simp;omega)
  have ed:ts.toArray.size=xs.length:=by simp[htl]
  rw[ed]at key;refine Calls.mono key ?_;rintro e w' ⟨rfl,q,rfl⟩;obtain⟨ys,hys⟩:∃ys,(ts.filter λx:T1=> !(!Lib.contains x.1.data.toList lit.data.toList))=ys:=⟨_,rfl⟩;have hyx:ys.map (·.1)=xs.filter λx=>Lib.contains x.data.toList lit.data.toList:=by
   rw[<-hys,<-hts,List.filter_map]
   congr 1
   exact List.filter_congr λx _=>by simp
  have hyl:ys.length<=ts.length:=by rw[<-hys];exact List.length_filter_le _ _
  simp only at hys⊢;rw[hys];have hsz:(ys++List.replicate (xs.length-ys.length) (⟨⟨#[]⟩,by decide⟩:T1)).toArray.size=ts.toArray.size:=by simp;omega
  refine⟨_,rfl,⟨some ⟨g,0,none⟩,cap,?_,?_,h2,λ_=>⟨g,0,rfl,?_,λj x hjx=>?_⟩⟩,Zfm _ hbase⟩
  ·rw[<-hyx,List.length_map]
  ·rw[<-hyx,List.length_map];omega
  ·have:=(Array.getElem?_eq_some_iff.1 hgb').1
   simpa[Sort.ahead]using this
  ·rw[<-hyx]at hjx
   rw[List.getElem?_map]at hjx;obtain⟨y,hy,rfl⟩:=Option.map_eq_some_iff.1 hjx;have hjl:=(List.getElem?_eq_some_iff.1 hy).1;have:=cell?_putRow encT (Sort.ahead w q) g 0 ts.toArray (ys++List.replicate (xs.length-ys.length) (⟨⟨#[]⟩,by decide⟩:T1)).toArray (hH q) hsz j (by rw[hsz];simp;omega);rw[this];have e2:(ys++List.replicate (xs.length-ys.length) (⟨⟨#[]⟩,by decide⟩:T1)).toArray[j]! =y:=by
    rw[getElem!_pos _ j (by rw[hsz];simp;omega)];have:=List.getElem_of_getElem? hy;obtain⟨h',e'⟩:=this;simp[List.getElem_append_left h',e']
   rw[e2];rfl
theorem Zbnu (s lit:ByteArray) (m:Int) (w:World) (hs:s.size<=900000000) (hgb:1<w.heap.size) (hm:w.cell? ⟨1,0,none⟩=some (.int .i64 m)):
  Calls Tryz.prog 185 #[.string s,.string lit] w λe w'=>e = .returned (.string ⟨(Zul ((Zxl s.data.toList).filter λl=>Lib.contains l lit.data.toList)).toArray⟩)/\Below w.heap.size w w':=by
 have hb0:Below w.heap.size w (w.alloc (.cells #[.string lit] 9)):=(Below.refl _ _).alloc (Nat.le_refl _) _;have hbx:=alloc_at w (.cells #[.string lit] 9);obtain⟨W1,hW1⟩:∃W1,w.alloc (.cells #[.string lit] 9)=W1:=⟨_,rfl⟩;have hs1:W1.heap.size=w.heap.size+1:=by rw[<-hW1];simp
 have cL:=Zbnp s W1 (by omega);rw[hW1]at hb0 hbx;have hres:((Zxi s).filter λx=>Lib.contains x.data.toList lit.data.toList).map (·.data.toList)=(Zxl s.data.toList).filter λl=>Lib.contains l lit.data.toList:=by
  rw[<-Zxj,List.filter_map];rfl
 have hj:(Zul (((Zxi s).filter λx=>Lib.contains x.data.toList lit.data.toList).map (·.data.toList))).length<=1000000000:=by
  rw[hres];have:=Zbqw (λl=>Lib.contains l lit.data.toList) (Zxl s.data.toList);have:=Zuk s;omega
 have cE:=λv w' (h:IsStrs w' v ((Zxi s).filter λx=>Lib.contains x.data.toList lit.data.toList))=>Zmr v _ w' h hj
 rw[hres]at cE;obtain⟨R,hR⟩:∃R:ByteArray,(⟨(Zul ((Zxl s.data.toList).filter λl=>Lib.contains l lit.data.toList)).toArray⟩:ByteArray)=R:=⟨_,rfl⟩;rw[hR]at cE⊢;have hlx:∀x∈Zxi s,x.size<=1000000000:=by
  intro x hx;obtain⟨l,hl,rfl⟩:=List.mem_map.1 hx;have:=Zxq _ l hl;have e:s.data.toList.length=s.size:=by show _=s.data.size;rw[Array.length_toList]
  show l.toArray.size<=_;rw[List.size_toArray];omega
 have hln:(Zxi s).length<=1000000000:=by have:=Zxk s;omega
 have CD:Hid (∀v w',OwnStrs (W1.heap.size+2) w' v (Zxi s)->Below W1.heap.size W1 w'->Calls Tryz.prog 234 #[v,.func (.func 235) #[] #[.pointer (some ⟨w.heap.size,0,none⟩)]] w' λe w''=>∃v',e = .returned v'/\IsStrs w'' v' ((Zxi s).filter λx=>Lib.contains x.data.toList lit.data.toList)/\Below (W1.heap.size+2) w' w''):=by
  show ∀v w',_;intro v w' ho hb;refine Zlq (W1.heap.size+2) (Zxi s) v lit w.heap.size m w' ho hlx hln (by omega) (by omega) ?_ ?_
  ·exact(hb.cell (p:=⟨w.heap.size,0,none⟩) (by rw[hs1];exact Nat.lt_succ_self _)).trans (Zif hbx)
  ·exact((hb0.trans (hb.mono (by omega))).cell (p:=⟨_,0,none⟩) hgb).trans hm
 have CE:=hid cE;have HB:=hid hb0;have HS1:=hid hs1;have HW:=hid hW1;clear hj hres cE hR hlx hln hb0 hbx hs1 hW1 hm hgb
 go_enter Tryz.func185,Tryz.ntmps185
 go_wp2_with fail
 rw[HW.out];refine cL.mono ?_;rintro e w2 ⟨v,rfl,hown,hnil,hb⟩;clear cL;have CDD:=hid (CD.out v w2 hown hb);have hb2:Below w.heap.size w w2:=HB.out.trans (hb.mono (by have:=HS1.out;omega));have HB2:=hid hb2;clear hown hnil hb hb2
 go_wp2_with fail
 refine CDD.out.mono ?_;rintro e w3 ⟨v',rfl,hst,hb3⟩;have HST:=hid hst;have HB3:=hid (HB2.out.trans (hb3.mono (by have:=HS1.out;omega)));clear hst hb3
 go_wp2_with fail
 refine(CE.out _ _ HST.out).mono ?_;rintro e w4 ⟨rfl,hb4⟩;go_wp2;go_ret;exact⟨rfl,HB3.out.trans (hb4.mono HB3.out.size)⟩
set_option maxHeartbeats 4000000
set_option maxRecDepth 100000
theorem Zbnt (s old new:ByteArray) (m:Int) (w:World) (hs:s.size<=900000000) (ho:1<=old.size) (ho2:old.size<=1000) (hn:new.size<=1000) (hgb:1<w.heap.size) (hm:w.cell? ⟨1,0,none⟩=some (.int .i64 m)):
  Calls Tryz.prog 186 #[.string s,.string old,.string new] w λe w'=>e = .returned (valE (capV (Zbhc old.data.toList new.data.toList s.data.toList)))/\Below w.heap.size w w':=by
 have hne:old.data.toList≠[]:=by
  intro e;rw[Lib.size_eq,e]at ho;simp at ho
 have hb0:Below w.heap.size w (w.alloc (.cells #[.bool false,.string ⟨#[]⟩] 28)):=(Below.refl _ _).alloc (Nat.le_refl _) _;have hbx:=alloc_at w (.cells #[.bool false,.string ⟨#[]⟩] 28);obtain⟨W1,hW1⟩:∃W1,w.alloc (.cells #[.bool false,.string ⟨#[]⟩] 28)=W1:=⟨_,rfl⟩;have hs1:W1.heap.size=w.heap.size+1:=by rw[<-hW1];simp
 rw[hW1]at hb0 hbx;have hm1:W1.cell? ⟨1,0,none⟩=some (.int .i64 m):=(hb0.cell (p:=⟨_,0,none⟩) hgb).trans hm;obtain⟨C,hC⟩:∃C,Lib.countB s old=C:=⟨_,rfl⟩;have hCe:Lib.count s.data.toList old.data.toList=C:=hC;have hCs:C<=s.size:=by rw[<-hC];exact Lib.countB_le old ho s.size s (Nat.le_refl _)
 have hlen:=Zbhg old.data.toList new.data.toList s.data.toList hne;rw[hCe,<-Lib.size_eq,<-Lib.size_eq,<-Lib.size_eq]at hlen;obtain⟨L,hL⟩:∃L,Zbhc old.data.toList new.data.toList s.data.toList=L:=⟨_,rfl⟩;rw[hL]at hlen⊢;have hcn:C*new.size<=900000000*1000:=Nat.mul_le_mul (by omega) hn;have hco:C*old.size<=s.size:=by rw[<-hC];exact Lib.countB_mul_le old ho s.size s (Nat.le_refl _)
 have cC:=Any.strings_Count_any lLays_n138 s old m W1 (by omega) hm1 ho;rw[hC]at cC;have cR:=Any.strings_ReplaceAll lLays_n155 lExtra s old new m W1 (by omega) hm1 ho (by rw[hC];omega);rw[Zbhj _ _ _ hne,hL]at cR;obtain⟨T,hT⟩:∃T:ByteArray,(⟨L.toArray⟩:ByteArray)=T:=⟨_,rfl⟩;have hTL:T.data.toList=L:=by rw[<-hT]
 rw[hT]at cR;have hmul:(C:Int)*((new.size:Int)-(old.size:Int))=((C*new.size:Nat):Int)-((C*old.size:Nat):Int):=by rw[Int.mul_sub,Int.natCast_mul,Int.natCast_mul]
 obtain⟨p1,hp1⟩:∃p,C*new.size=p:=⟨_,rfl⟩;obtain⟨p2,hp2⟩:∃p,C*old.size=p:=⟨_,rfl⟩;rw[hp1,hp2]at hmul;rw[hp1]at hcn;rw[hp2]at hco;rw[hp1,hp2]at hlen;have CR:=hid cR;have HB:=hid hb0;have HX:=hid hbx;have HS1:=hid hs1;have HW:=hid hW1;have HTL:=hid hTL;have HLL:=hid hlen;have HP1:=hid hcn;have HP2:=hid hco;clear cR hb0 hs1 hW1 hT hTL hp1 hp2 hL hCe hC hm1 hm hgb hne hlen;obtain⟨d0,d1,f0,f1⟩:=Zih hbx;clear hbx
 go_enter Tryz.func186,Tryz.ntmps186
 go_wp2_with fail
 rw[HW.out];refine cC.mono ?_;rintro e w2 ⟨rfl,rfl⟩;clear cC
 by_cases h2000:L.length<=2000
 ·have hj:¬(2000:Int)<(s.size:Int)+((p1:Int)-(p2:Int)):=by have:=HLL.out;omega
  have HLE:=hid h2000;clear h2000
  go_wp2_with fail
  refine CR.out.mono ?_;rintro e w3 ⟨rfl,hb3⟩;have hx3:=(hb3.block w.heap.size (by have:=HS1.out;omega)).trans HX.out;have HX3:=hid hx3;have HB3:=hid (HB.out.trans (hb3.mono HB.out.size));have HL3:=hid (show w.heap.size<w3.heap.size by have:=hb3.size;have:=HS1.out;omega);have cW:=Zbsx _ [T] _ (Zbqp w3 T (Below.refl _ _)) (by simp) (by have:=HLE.out;simp[HTL.out];omega);rw[show([T].map (·.data.toList)).flatten=L by simp[HTL.out]]at cW;obtain⟨ok,t,e1,e2⟩:=Zbrz (v:=capV L);rw[e2]at cW;have CW:=hid cW;have HE:=hid e1;clear hb3 hx3 cW e1 e2 d0 d1 f0 f1
  go_wp2_with fail
  refine CW.out.mono ?_;rintro e w4 ⟨rfl,hb4⟩;have hx4:=(hb4.block w.heap.size (by have:=HL3.out;simp only[World.size_alloc];omega)).trans ((Below.heap_alloc _ _ _ HL3.out).trans HX3.out);obtain⟨d0,d1,f0,f1⟩:=Zih hx4;have HX4:=hid hx4;have HB4:=hid ((HB3.out.alloc HB3.out.size _).trans (hb4.mono (by have:=HL3.out;simp only[World.size_alloc];omega)));clear hx4 hb4;go_wp2;refine bodyPost_ret (Zbhl rfl _ _ w.heap.size _ _ _ _ rfl (heap_set _ _ (heap_set _ _ HX4.out)) Tryz.underlying28 rfl (by kernel_rfl)) rfl ?_;exact⟨by rw[HE.out];rfl,(HB4.out.setCell (p:=⟨w.heap.size,0,none⟩) (Nat.le_refl _) _).setCell (p:=⟨w.heap.size,1,none⟩) (Nat.le_refl _) _⟩
 ·have hj:(2000:Int)<(s.size:Int)+((p1:Int)-(p2:Int)):=by have:=HLL.out;omega
  have hv:capV L=noV:=by unfold capV;rw[if_neg h2000]
  have HV:=hid hv;clear hv;go_wp2;refine bodyPost_ret (Zbhl rfl _ _ w.heap.size _ _ _ _ rfl (heap_set _ _ (heap_set _ _ HX.out)) Tryz.underlying28 rfl (by kernel_rfl)) rfl ?_;exact⟨by rw[HV.out];rfl,(HB.out.setCell (p:=⟨w.heap.size,0,none⟩) (Nat.le_refl _) _).setCell (p:=⟨w.heap.size,1,none⟩) (Nat.le_refl _) _⟩
end Go.Proofs.YtmgcaldphpnfgaaGreatDoor
