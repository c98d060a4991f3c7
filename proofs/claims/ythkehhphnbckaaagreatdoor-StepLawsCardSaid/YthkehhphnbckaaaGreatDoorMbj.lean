import Derived.Test.YthkehhphnbckaaaGreatDoorMbi
import Derived.Lib.ItoaLen
import Derived.Deep.RegionHeld3
namespace Go.Proofs.YthkehhphnbckaaaGreatDoor
open Go.Lib (hid)
open Go.RowKit Go.Shelf
set_option maxHeartbeats 8000000
set_option maxRecDepth 100000
theorem Zbyy (op k:Int) (ok:Bool) (t:ByteArray) (a:Option Addr) (c:Nat) (lits:List ByteArray) (w:World) (hl:IsStrs w (.slice a lits.length c) lits) (ht:t.size<=100000000) (hG:Glob w):
  Calls Tryz.prog 12 #[.int .i64 op,.agg #[.bool ok,.string t],.int .i64 k,.slice a lits.length c] w λe w'=>e = .returned (valE (Zbzy op k lits (ok,t)))/\Below w.heap.size w w':=by
 obtain⟨W1,hW1⟩:∃V,(w.alloc (.cells #[.bool ok,.string t] 25)).alloc (.cells #[.bool false,.string ⟨#[]⟩] 25)=V:=⟨_,rfl⟩;have hb1:Below w.heap.size w W1:=by rw[<-hW1];exact((Below.refl _ _).alloc (Nat.le_refl _) _).alloc (by simp) _
 have hs1:W1.heap.size=w.heap.size+2:=by rw[<-hW1];simp
 have hx1:W1.heap[w.heap.size]? =some (.cells #[.bool ok,.string t] 25):=by rw[<-hW1,Below.heap_alloc _ _ _ (by simp)];exact alloc_at w _
 have hx2:W1.heap[w.heap.size+1]? =some (.cells #[.bool false,.string ⟨#[]⟩] 25):=by
  rw[<-hW1];have:=alloc_at (w.alloc (.cells #[.bool ok,.string t] 25)) (.cells #[.bool false,.string ⟨#[]⟩] 25);simpa using this
 obtain⟨W2,hW2⟩:∃V,(W1.alloc (.cells #[.string ⟨#[97]⟩] 9)).alloc (.cells #[.bool ok,.string t] 25)=V:=⟨_,rfl⟩;have hb2:Below W1.heap.size W1 W2:=by rw[<-hW2];exact((Below.refl _ _).alloc (Nat.le_refl _) _).alloc (by simp) _
 have hbw2:Below w.heap.size w W2:=hb1.trans (hb2.mono hb1.size);have h97:IsStrs W2 (.slice (some ⟨W1.heap.size,0,none⟩) 1 1) [⟨#[97]⟩]:=Zbqj (xs:=[⟨#[97]⟩]) (by rw[<-hW2,Below.heap_alloc _ _ _ (by simp)];exact alloc_at W1 _) (by show 1<=maxLen;decide);have hv:Zbb W2 (.slice (some ⟨W1.heap.size+1,0,none⟩) 1 1) [(ok,t)]:=Zbsg (xs:=[(ok,t)]) (by
  rw[<-hW2];have:=alloc_at (W1.alloc (.cells #[.string ⟨#[97]⟩] 9)) (.cells #[.bool ok,.string t] 25);simpa using this) (by show 1<=maxLen;decide)
 have cD:=Zlw (oneS op k lits) (some ⟨W1.heap.size,0,none⟩) a 1 c _ [(ok,t)] W2 h97 (hl.below hbw2) hv (by show 1<=1000000000;decide) (by intro u hu;simp only[List.mem_cons,List.not_mem_nil,or_false]at hu;subst hu;exact ht) (hG.below hbw2);unfold Zan at cD;obtain⟨k1,t1,e1⟩:∃b s,Zbzy op k lits (ok,t)=(b,s):=⟨_,_,rfl⟩;have e2:doV (oneS op k lits) [(ok,t)]=(k1,t1):=e1;rw[e2]at cD;have CD:Hid (Calls Tryz.prog 20 #[.agg #[.string ⟨#[120]⟩,.int .i64 op,.slice (some ⟨W1.heap.size,0,none⟩) 1 1,.slice a lits.length c,.int .i64 k],.slice (some ⟨W1.heap.size+1,0,none⟩) 1 1] W2 λe w'=>e = .returned (.agg #[.bool k1,.string t1])/\Below W2.heap.size W2 w'):=hid cD;have HX2:Hid (∀V,Below W2.heap.size W2 V->V.heap[w.heap.size+1]? =some (.cells #[.bool false,.string ⟨#[]⟩] 25)):=hid λV hV=>by
  have hz:=hb2.size;rw[hV.block _ (by omega),hb2.block _ (by omega)];exact hx2
 obtain⟨d0,d1,_,_⟩:=Zih (w:=W1.alloc (.cells #[.string ⟨#[97]⟩] 9)) (b:=w.heap.size) ((Below.heap_alloc _ _ _ (by omega)).trans hx1);obtain⟨la,lc,le,hlc1,hlc2,_⟩:=id hl;have HB2:=hid hbw2;have HW1:=hid hW1;have HW2:=hid hW2;have HE:=hid e1;clear hl hG hW1 hb1 hs1 hx1 hx2 hW2 hb2 hbw2 h97 hv cD e1 e2 le
 go_enter Tryz.func12,Tryz.ntmps12
 go_upto_region 1 with fail
 rw[HW1.out]
 go_wp2_with fail
 rw[HW2.out];refine CD.out.mono ?_;rintro e w3 ⟨rfl,hb3⟩;have HX3:=hid (HX2.out w3 hb3);have HB3:=hid (HB2.out.trans (hb3.mono HB2.out.size));obtain⟨z0,z1,_,_⟩:=Zih HX3.out;clear hb3 d0 d1;go_wp2;refine bodyPost_ret (Zbhl rfl _ _ (w.heap.size+1) _ _ _ _ rfl (heap_set _ _ (heap_set _ _ HX3.out)) Tryz.underlying25 rfl (by kernel_rfl)) rfl ?_;exact⟨by rw[HE.out];rfl,(HB3.out.setCell (p:=⟨w.heap.size+1,0,none⟩) (by show w.heap.size<=w.heap.size+1;omega) _).setCell (p:=⟨w.heap.size+1,1,none⟩) (by show w.heap.size<=w.heap.size+1;omega) _⟩
theorem Zbyz (s:ByteArray) (k:Nat) (hk:k<s.size):(s.extract k (k+1)).data.toList = [s[k]]:=by
 rw[ByteArray.data_extract,Array.toList_extract];show(s.data.toList.drop k).take (k+1-k)=_;rw[show k+1-k=1 by omega,List.drop_eq_getElem_cons (by rw[<-Lib.size_eq];exact hk)];rfl
theorem Zbzd:(Tryz.prog.info? 9).map (λi=>(i.zero,i.size,i.bytes))=some (some (.string ByteArray.empty),1,16):=by kernel_rfl
def RfI (L:List UInt8) (k:Nat) (ls:List ByteArray) (p:ByteArray):Prop:=ls.map (·.data.toList)++Zxf p.data.toList (L.drop k)=Zxl L/\ls.length<=k/\p.size<=k
theorem Zbzj {s:ByteArray} {ls:List ByteArray} (h:ls.map (·.data.toList)=Zxl s.data.toList):ls=Zxi s:=by
 unfold Zxi;rw[<-h,List.map_map]
 conv=>lhs;rw[<-List.map_id ls]
 rfl
set_option maxHeartbeats 8000000
set_option maxRecDepth 100000
theorem Zcah (s:ByteArray) (w:World) (hs:s.size<=1000000000):
  Calls Tryz.prog 14 #[.string s] w λe w'=>∃v,e = .returned v/\w'.ownsRow w.heap.size 9 1 v (Zxi s).length ((Zxi s).map Value.string)/\Below w.heap.size w w':=by
 obtain⟨i0,hi,hz0,hz1,hz2⟩:=info_parts Zbzd;obtain⟨L,hL⟩:∃L,s.data.toList=L:=⟨_,rfl⟩;have hsz:s.size=L.length:=by rw[<-hL];exact Lib.size_eq s
 have HL:=hid hL;have HSZ:=hid hsz;have HLB:Hid (∀ls:List ByteArray,ls.map (·.data.toList)=Zxl L->ls=Zxi s):=hid λls h=>Zbzj (by rw[hL];exact h)
 clear hL hsz
 go_enter Tryz.func14,Tryz.ntmps14
 go_wp2
 go_loopw [3,4,5,6] (λl t b i wr=>∃(k:Nat) (ls:List ByteArray) (p:ByteArray),k<=s.size/\i = .int .i64 (k:Int)/\t = .string p/\b = .bool (!p.data.toList.isEmpty)/\RfI L k ls p/\wr.ownsRow w.heap.size 9 1 l ls.length (ls.map Value.string)/\Below w.heap.size w wr) (λ_ _ _ i _=>s.size-(intOf i).toNat)
 case atStart=>exact⟨0,[],⟨#[]⟩,Nat.zero_le _,rfl,rfl,rfl,⟨rfl,Nat.le_refl _,Nat.le_refl _⟩,by simpa using World.ownsRow_nil _ _ _ _,Below.refl _ _⟩
 case round=>
  obtain⟨k,ls,p,hk,rfl,rfl,rfl,⟨hr,hlk,hpk⟩,hown,hnx⟩:=hrel;have HR:=hid hr;clear hr
  by_cases hlt:k<s.size
  ·have hget:L[k]'(by rw[<-HSZ.out];exact hlt)=s[k]:=by
    have:=HL.out;subst this;rfl
   have hdrop:L.drop k=s[k]::L.drop (k+1):=by rw[List.drop_eq_getElem_cons (by rw[<-HSZ.out];exact hlt),hget]
   by_cases h10:(s[k].toNat:Int)=10
   ·have hx:s[k]=10:=by
      have:s[k].toNat=10:=by omega
      exact UInt8.toNat_inj.1 (by rw[this];rfl)
    have HN:Hid (RfI L (k+1) (ls ++ [p]) ⟨#[]⟩):=by
     show RfI L (k+1) (ls ++ [p]) ⟨#[]⟩;have h:=HR.out;rw[hdrop,Zxf,if_pos hx]at h;exact⟨by rw[List.map_append,List.append_assoc];exact h,by simp;omega,Nat.zero_le _⟩
    clear hx hget hdrop
    go_wp2_with (at_builtin;refine wpList_append_own _ rfl _ _ 28 rfl w.heap.size 9 i0 (.string ByteArray.empty) 1 16 Tryz.underlying28 hi hz0 hz1 hz2 rfl (by decide) _ _ _ rfl (hown.alloc _) ⟨wr.heap.size,0,none⟩ 1 1 [.string p] rfl rfl ?c1 ?c2 ?c3 ?c4 ?c5 ?_)
    case c1=>
     intro j u hj
     match j,hj with
     | 0,hj=>simp at hj;subst hj;simp[Addr.add]
    case c2=>intro u hu;simp at hu;subst hu;rfl
    case c3=>unfold maxLen;omega
    case c4=>omega
    case c5=>have:=hnx.size;simp;omega
    intro v' w1 hown' hgrow _;have hnx':Below w.heap.size w w1:=(hnx.alloc hnx.size _).grown hgrow (by have:=hnx.size;simp;omega) (λg hg=>(hown.lt g hg).1);have HO:Hid (w1.ownsRow w.heap.size 9 1 v' (ls ++ [p]).length ((ls ++ [p]).map Value.string)):=hid (by rw[List.length_append,List.map_append];exact hown');clear hgrow hown hown';go_wp2;go_roundw
    case rel=>exact⟨k+1,ls ++ [p],⟨#[]⟩,by omega,by go_num,rfl,rfl,HN.out,HO.out,hnx'⟩
    case measure=>simp[intOf];omega
   ·have hx:¬s[k]=10:=λe=>h10 (by rw[e];rfl)
    have hpx:(p++s.extract k (k+1):ByteArray).data.toList=p.data.toList ++ [s[k]]:=by rw[ByteArray.data_append,Array.toList_append,Zbyz s k hlt]
    have hps:(p++s.extract k (k+1):ByteArray).size=p.size+1:=by rw[Lib.size_eq,hpx,List.length_append,<-Lib.size_eq];rfl
    have HN:Hid (RfI L (k+1) ls (p++s.extract k (k+1))):=by
     show RfI L (k+1) ls _;have h:=HR.out;rw[hdrop,Zxf,if_neg hx]at h;exact⟨by rw[hpx];exact h,by omega,by rw[hps];omega⟩
    have HB:Hid (Value.bool true = .bool (!(p++s.extract k (k+1):ByteArray).data.toList.isEmpty)):=hid (by rw[hpx];simp);have hes:(s.extract k (k+1)).size=1:=by rw[Lib.size_eq,Zbyz s k hlt];rfl
    clear hx hget hdrop hpx hps;go_wp2;go_roundw
    case rel=>exact⟨k+1,ls,_,by omega,by go_num,rfl,HB.out,HN.out,hown,hnx⟩
    case measure=>simp[intOf];omega
  ·have hdrop:L.drop k = []:=List.drop_eq_nil_of_le (by have:=HSZ.out;omega)
   have h:=HR.out;rw[hdrop,Zxf]at h
   by_cases he:p.data.toList = []
   ·have hb:(!p.data.toList.isEmpty)=false:=by rw[he];rfl
    rw[if_pos he,List.append_nil]at h;have hls:=HLB.out _ h;subst hls;rw[hb];clear h hdrop he hb;go_wp2;go_ret;exact⟨_,rfl,hown,hnx⟩
   ·have hb:(!p.data.toList.isEmpty)=true:=by rw[List.isEmpty_eq_false_iff.2 he];rfl
    rw[if_neg he]at h;have hls:=HLB.out (ls ++ [p]) (by rw[List.map_append];exact h);have HLS:=hid hls;rw[hb];clear h hdrop he hb hls
    go_wp2_with (at_builtin;refine wpList_append_own _ rfl _ _ 28 rfl w.heap.size 9 i0 (.string ByteArray.empty) 1 16 Tryz.underlying28 hi hz0 hz1 hz2 rfl (by decide) _ _ _ rfl (hown.alloc _) ⟨wr.heap.size,0,none⟩ 1 1 [.string p] rfl rfl ?c1 ?c2 ?c3 ?c4 ?c5 ?_)
    case c1=>
     intro j u hj
     match j,hj with
     | 0,hj=>simp at hj;subst hj;simp[Addr.add]
    case c2=>intro u hu;simp at hu;subst hu;rfl
    case c3=>unfold maxLen;omega
    case c4=>omega
    case c5=>have:=hnx.size;simp;omega
    intro v' w1 hown' hgrow _;have hnx':Below w.heap.size w w1:=(hnx.alloc hnx.size _).grown hgrow (by have:=hnx.size;simp;omega) (λg hg=>(hown.lt g hg).1);have HO:Hid (w1.ownsRow w.heap.size 9 1 v' (Zxi s).length ((Zxi s).map Value.string)):=hid (by rw[<-HLS.out,List.length_append,List.map_append];exact hown');clear hgrow hown hown';go_wp2;go_ret;exact⟨_,rfl,HO.out,hnx'⟩
def decB (n:Nat):ByteArray:=⟨(Lib.decDigits n).toArray⟩
theorem Zbyx {n:Nat} (h:n<10):decB n=digB n:=by
 unfold decB digB;rw[if_pos h,Lib.decDigits_one h]
theorem Zbyu {n:Nat} (h:¬n<10):decB n=decB (n/10)++decB (n % 10):=by
 apply ByteArray.ext;rw[ByteArray.data_append];apply Array.toList_inj.1;unfold decB
 conv=>lhs;rw[Lib.decDigits,dif_neg h]
 rw[Lib.decDigits_one (show n % 10<10 by omega)];simp
theorem Zbyw (n:Nat) (h:n<=9223372036854775807):(decB n).size<=22:=by
 have:=Lib.itoa_length_le (n:Int) (by omega) (by omega);unfold Lib.itoa at this;rw[if_neg (by omega)]at this;unfold decB ByteArray.size;simp only[List.size_toArray];simp only[Int.toNat_natCast]at this;omega
def Zbzt:Nat:=9223372036854775807
theorem Zcaz (n:Nat):(n:Int).tdiv 10=((n/10:Nat):Int)/\(n:Int).tmod 10=((n % 10:Nat):Int):=
 ⟨by rw[Int.tdiv_eq_ediv_of_nonneg (by omega)];omega,by rw[Int.tmod_eq_emod_of_nonneg (by omega)];omega⟩
set_option maxRecDepth 100000 in
theorem Zbzv:∀(f n:Nat),n<f->n<=Zbzt->∀(w:World),
  Calls Tryz.prog 13 #[.int .i64 n] w λe w'=>e = .returned (.string (decB n))/\Below w.heap.size w w':=by
 intro f
 induction f with
 | zero=>intro n hf;omega
 | succ f ih=>
  intro n hf hm w
  by_cases h10:n<10
  ·rw[Zbyx h10];exact Zbzw n h10 w
  ·have hd:=Zbyu h10
   have c1:=λw=>ih (n/10) (by omega) (by omega) w
   have c2:=λw=>Zbzw (n % 10) (by omega) w
   rw[<-Zbyx (show n % 10<10 by omega)]at c2;obtain⟨e1,e2⟩:=Zcaz n;have l1:(decB (n/10)).size<=22:=Zbyw _ (by unfold Zbzt at hm;omega);have l2:(decB (n % 10)).size<=22:=Zbyw _ (by omega);have hn:n<=9223372036854775807:=hm;have hp:n/10<=922337203685477580:=by omega
   have hq:n % 10<10:=by omega
   clear ih hm hf;generalize decB (n/10)=x at *;generalize decB (n % 10)=y at *;generalize n/10=p at *;generalize n % 10=q at *;rw[hd];have C1:=hid c1;have C2:=hid c2;clear c1 c2 hd
   go_enter Tryz.func13,Tryz.ntmps13
   go_wp2_with fail
   refine(C1.out w).mono ?_;rintro e w1 ⟨rfl,hb1⟩
   go_wp2_with fail
   refine(C2.out w1).mono ?_;rintro e w2 ⟨rfl,hb2⟩;replace hb2:=chain hb1 hb2;clear hb1;go_wp2;go_ret;exact⟨rfl,hb2⟩
theorem Zbzu (n:Nat) (h:n<=9223372036854775807) (w:World):
  Calls Tryz.prog 13 #[.int .i64 n] w λe w'=>e = .returned (.string (decB n))/\Below w.heap.size w w':=
 Zbzv (n+1) n (by omega) h w
theorem Zbyv (n:Nat):(decB n).data.toList=numS (n:Int):=by rw[Zbzx];rfl
end Go.Proofs.YthkehhphnbckaaaGreatDoor
