import Derived.BigRegion
import Derived.Lib.ItoaLen
import Derived.Deep.RegionHeld3
import Derived.Lib.SlBytesRow
import Derived.Lib.ItoaNum
import Derived.Lib.AtoiAllCases
import Derived.Deep.CutBlock
import Derived.Deep.DeepCutAuto
import Derived.Test.YtokogjhcidkckaaGreatDoorMam
import Derived.Laws.AppendOwn
import Derived.OwnWalk
namespace Go.Proofs.YtokogjhcidkckaaGreatDoor
open Go.Lib (hid)
open Go.Proofs.Tryz
open Go.RowKit
theorem Zbkw (c:UInt8) (w:World):
  Calls prog 167 #[.int .u8 c.toNat] w λe w'=>e = .returned (.bool (Zbce c))/\w=w':=by
 have hb:c.toNat<256:=c.toNat_lt
 go_enter func167,ntmps167
 go_wp2
 all_goals go_ret
 all_goals exact⟨Zbho (by rw[Bool.eq_iff_iff];simp[Zbce];omega),rfl⟩
theorem Zlk (d:UInt8) (t:List UInt8):cutAt d (t ++ [d])=cutAt d t ++ [[]]:=by
 rw[Zkw];rfl
theorem Zln (d c:UInt8) (h:c≠d):∀t:List UInt8,∃pre last,cutAt d t=pre ++ [last]/\cutAt d (t ++ [c])=pre ++ [last ++ [c]]
 | []=>⟨[],[],rfl,by simp[cutAt,h]⟩
 | a::r=>by
  obtain⟨pre,last,h1,h2⟩:=Zln d c h r
  by_cases ha:a=d
  ·refine⟨[]::pre,last,?_,?_⟩
   ·rw[cutAt,if_pos ha,h1];rfl
   ·rw[List.cons_append,cutAt,if_pos ha,h2];rfl
  ·cases pre with
   | nil=>
    refine⟨[],a::last,?_,?_⟩
    ·rw[cutAt,if_neg ha,h1];rfl
    ·rw[List.cons_append,cutAt,if_neg ha,h2];rfl
   | cons p ps=>
    refine⟨(a::p)::ps,last,?_,?_⟩
    ·rw[cutAt,if_neg ha,h1];rfl
    ·rw[List.cons_append,cutAt,if_neg ha,h2];rfl
theorem Zbec {w:World} {B g c:Nat} {pre:List ByteArray} {x y:ByteArray}
  (h:w.ownsRow B 9 1 (.slice (some ⟨g,0,none⟩) (pre.length+1) c) (pre.length+1) ((pre ++ [x]).map Value.string)):
  (w.setCell ⟨g,pre.length,none⟩ (.string y)).ownsRow B 9 1 (.slice (some ⟨g,0,none⟩) (pre.length+1) c) (pre.length+1) ((pre ++ [y]).map Value.string):=by
 obtain⟨hl,⟨hv,_⟩|⟨g',c',cur,hv,hgB,hg,hnc,hcm,hcs,htk⟩⟩:=h
 ·cases hv
 ·cases hv
  rw[setCell_eq_setRow w g pre.length cur _ (0,0) _ hg];refine⟨by simp,.inr ⟨g,c,cur.setIfInBounds pre.length (.string y),rfl,hgB,setRow_heap w g _ _ _ _ hg,hnc,hcm,by simpa using hcs,?_⟩⟩;rw[Array.toList_setIfInBounds,List.take_set,htk];simp
def Zbq (w:World) (ls:List (List UInt8)) (e:Ending) (w':World):Prop:=
 ∃xs:List ByteArray,∃v,e = .returned v/\IsStrs w' v xs/\xs.map (·.data.toList)=ls/\Below w.heap.size w w'
def PartsAt (L:List UInt8) (k:Nat) (xs:List ByteArray):Prop:=xs.map (·.data.toList)=cutAt 47 (L.take k)
theorem PartsAt.hit {L:List UInt8} {k:Nat} {xs:List ByteArray} (h:PartsAt L k xs) (hk:k<L.length) (hc:L[k]=47):PartsAt L (k+1) (xs ++ [(⟨#[]⟩:ByteArray)]):=by
 unfold PartsAt at h⊢;rw[List.take_succ_eq_append_getElem hk,hc,Zlk,<-h];simp
theorem PartsAt.miss {L:List UInt8} {k:Nat} {xs:List ByteArray} (h:PartsAt L k xs) (hk:k<L.length) (hc:L[k]≠47):
  ∃pre x,xs=pre ++ [x]/\∀y:ByteArray,y.data.toList=x.data.toList ++ [L[k]]->PartsAt L (k+1) (pre ++ [y]):=by
 obtain⟨p,l,h1,h2⟩:=Zln 47 L[k] hc (L.take k);unfold PartsAt at h;rw[h1]at h;have hne:xs≠[]:=by rintro rfl;simp at h
 refine⟨xs.dropLast,xs.getLast hne,(List.dropLast_concat_getLast hne).symm,λy hy=>?_⟩;rw[<-List.dropLast_concat_getLast hne,List.map_append]at h;obtain⟨h3,h4⟩:=List.append_inj' h rfl;unfold PartsAt;rw[List.take_succ_eq_append_getElem hk,h2,List.map_append,h3]
 congr 1
 simp only[List.map_cons,List.map_nil,List.cons.injEq,and_true]at h4⊢;rw[hy,h4]
set_option maxHeartbeats 4000000 in
set_option maxRecDepth 100000 in
theorem Zbew (s:ByteArray) (w:World) (hs:s.size<=1000):
  Calls prog 166 #[.string s] w (Zbq w (cutAt 47 s.data.toList)):=by
 obtain⟨i0,hi,hz0,hz1,hz2⟩:=info_parts Zsy;obtain⟨L,hL⟩:∃L,s.data.toList=L:=⟨_,rfl⟩;have hsz:s.size=L.length:=by rw[<-hL];exact Lib.size_eq s
 rw[hL];have HL:=hid hL;have HSZ:=hid hsz;have hown0:(w.alloc (.cells #[.string ⟨#[]⟩] 9)).ownsRow w.heap.size 9 1 (.slice (some ⟨w.heap.size,0,none⟩) 1 1) 1 (([⟨#[]⟩]:List ByteArray).map Value.string):=
  ⟨by simp,.inr ⟨w.heap.size,1,#[.string ⟨#[]⟩],rfl,Nat.le_refl _,heap_alloc_new w _,Nat.le_refl _,by simp[maxLen],rfl,rfl⟩⟩
 have HOWN0:=hid hown0;have HP0:Hid (PartsAt L 0 [⟨#[]⟩]):=by show PartsAt _ _ _;simp[PartsAt,cutAt]
 clear hL hsz hown0
 go_enter func166,ntmps166
 go_wp2
 go_loopw [3,4] (λv i wr=>∃(k g c:Nat) (xs:List ByteArray),k<=s.size/\i = .int .i64 k/\v = .slice (some ⟨g,0,none⟩) xs.length c/\xs.length<=k+1/\1<=xs.length/\c<=maxLen/\xs.length<=c/\
   wr.ownsRow w.heap.size 9 1 (.slice (some ⟨g,0,none⟩) xs.length c) xs.length (xs.map Value.string)/\PartsAt L k xs/\(∀x∈xs,x.size<=k)/\Below w.heap.size w wr)
  (λ_ i _=>s.size-(intOf i).toNat)
 case atStart=>exact⟨0,w.heap.size,1,[⟨#[]⟩],Nat.zero_le _,rfl,rfl,by simp,by simp,by simp[maxLen],by simp,HOWN0.out,HP0.out,(by intro x hx;simp at hx;subst hx;decide),(Below.refl _ _).alloc (Nat.le_refl _) _⟩
 case round=>
  obtain⟨k,g,c,xs,hk,rfl,rfl,hxk,hx1,hcm,hxc,hown,hat,hxz,hnx⟩:=hrel;have HOWN:=hid hown;have HAT:=hid hat;have HXZ:=hid hxz;have HNX:=hid hnx;have hs1:=hnx.size;unfold maxLen at hcm;clear hown hat hxz hnx HOWN0 HP0
  by_cases hlt:k<s.size
  ·have hlt':k<L.length:=by rw[<-HSZ.out];exact hlt
   have hget:L[k]=s[k]:=by
    have:=HL.out;subst this;rfl
   have HGET:=hid hget;clear hget
   by_cases h47:(s[k].toNat:Int)=47
   ·have hn47:s[k].toNat=47:=by omega
    have hc47:L[k]=47:=by rw[HGET.out];exact UInt8.toNat_inj.1 (by rw[hn47];rfl)
    have HN:=hid (HAT.out.hit hlt' hc47);clear hc47 hn47;have hown2:=HOWN.out
    go_wp2_with (at_builtin;refine wpList_append_own _ rfl _ _ 47 rfl w.heap.size 9 i0 (.string ByteArray.empty) 1 16 underlying47 hi hz0 hz1 hz2 rfl (by decide) _ _ _ rfl (hown2.alloc _) ⟨wr.heap.size,0,none⟩ 1 1 [.string ⟨#[]⟩] rfl rfl ?c1 ?c2 ?c3 ?c4 ?c5 ?_)
    case c1=>
     intro j u hj
     match j,hj with
     | 0,hj=>simp at hj;subst hj;simp[Addr.add]
    case c2=>intro u hu;simp at hu;subst hu;rfl
    case c3=>unfold maxLen;omega
    case c4=>omega
    case c5=>simp;omega
    intro v' w3 hown' hgrow _;have hnx':Below w.heap.size w w3:=(HNX.out.alloc hs1 _).grown hgrow (by simp;omega) (λg hg=>(hown2.lt g hg).1);obtain⟨a',c',hv,hg',hc1',hc2'⟩:=Zbea hown';obtain⟨g',rfl⟩:=hg' (by omega);subst hv;have HO:Hid (w3.ownsRow w.heap.size 9 1 (.slice (some ⟨g',0,none⟩) (xs ++ [(⟨#[]⟩:ByteArray)]).length c') (xs ++ [(⟨#[]⟩:ByteArray)]).length ((xs ++ [(⟨#[]⟩:ByteArray)]).map Value.string)):=by
     show w3.ownsRow _ _ _ _ _ _;simpa using hown'
    clear hgrow hown2 hown';go_wp2;go_roundw
    case rel=>exact⟨k+1,g',c',xs ++ [(⟨#[]⟩:ByteArray)],by omega,by go_num,by simp,by simp;omega,by simp,hc2',by simpa using hc1',HO.out,HN.out,(by
     intro x hx
     rcases List.mem_append.1 hx with h|h
     ·have:=HXZ.out x h;omega
     ·simp at h;subst h;simp[ByteArray.size]),hnx'⟩
    case measure=>simp[intOf];omega
   ·have hc47:L[k]≠47:=by rw[HGET.out];intro e;exact h47 (by rw[e];rfl)
    obtain⟨pre,x,rfl,hnext⟩:=HAT.out.miss hlt' hc47;have HNEXT:=hid hnext;have hxsz:=HXZ.out x (by simp);obtain⟨m,hm⟩:∃m,pre.length=m:=⟨_,rfl⟩;have hpl:(pre ++ [x]).length=m+1:=by simp[hm]
    have hownx:wr.ownsRow w.heap.size 9 1 (.slice (some ⟨g,0,none⟩) (pre.length+1) c) (pre.length+1) ((pre ++ [x]).map Value.string):=by simpa using HOWN.out
    have HOX:=hid hownx;have hcell:wr.cell? ⟨g,m,none⟩=some (.string x):=by
     obtain⟨_,⟨hv,_⟩|⟨g',cap,cur,hv,hgB,hgh,hnc,hcm,hcs,htk⟩⟩:=hownx
     ·cases hv
     ·cases hv
      have:(cur.toList.take ((pre.length+1)*1))[m]? =some (.string x):=by rw[htk];simp[<-hm]
      rw[List.getElem?_take]at this;split at this
      ·simp only[World.cell?,hgh];simpa using this
      ·cases this
    have hfz:wr.frozen? ⟨g,m,none⟩=false:=by
     obtain⟨_,⟨hv,_⟩|⟨g',cap,cur,hv,hgB,hgh,hnc,hcm,hcs,htk⟩⟩:=hownx
     ·cases hv
     ·cases hv;simp[World.frozen?,hgh]
    have hgB:w.heap.size<=g:=(hownx.lt g rfl).1;have HM:=hid hm;rw[hpl]at hxk hx1 hxc⊢;have hm0:(0:Int)<=(m:Int):=by omega
    have hm1:(m:Int)<((m+1:Nat):Int):=by omega
    have hk0:(0:Int)<=(k:Int):=by omega
    have hk1:(k:Int)+1<=(s.size:Int):=by omega
    have hkw:IntKind.i64.wrap ((k:Int)+1)=(k:Int)+1:=IntWalk.i64_in _ (by omega);have hcat:(Op.stringOp .add x (s.extract k (k+1))).run prog wr.drew = .ok (.string (x++s.extract k (k+1))) wr.drew:=run_string_add_sum _ _ _ (by rw[ByteArray.size_extract];omega);clear hnext hm hpl hownx hc47
    go_wp2_with fail
    go_region
    have HCELL:=hid hcell;clear hcat hkw hcell hfz;have hy:(x++s.extract k (k+1)).data.toList=x.data.toList ++ [L[k]]:=by
     rw[ByteArray.data_append,Array.toList_append,Lib.extract_eq,HL.out]
     congr 1
     rw[List.drop_eq_getElem_cons hlt',show k+1-k=1 by omega];rfl
    have hat':=HNEXT.out _ hy;have hysz:(x++s.extract k (k+1)).size<=k+1:=by rw[ByteArray.size_append,ByteArray.size_extract];omega
    obtain⟨y,hyd⟩:∃y,x++s.extract k (k+1)=y:=⟨_,rfl⟩;rw[hyd]at hat' hysz;have hown':((wr.setCell ⟨g,m,none⟩ (.string y)).drew).ownsRow w.heap.size 9 1 (.slice (some ⟨g,0,none⟩) (pre ++ [y]).length c) (pre ++ [y]).length ((pre ++ [y]).map Value.string):=by
     have h:=Zbec (y:=y) HOX.out;rw[HM.out]at h;have e:(pre ++ [y]).length=m+1:=by simp[HM.out]
     rw[e];exact h.drew
    have HO:=hid hown';have HA:=hid hat';have hnx':Below w.heap.size w (wr.setCell ⟨g,m,none⟩ (.string y)).drew:=(HNX.out.setCell hgB _).drew;have HYD:=hid hyd;have hpy:(pre ++ [y]).length=m+1:=by simp[HM.out]
    have HPY:=hid hpy;clear hy hat' hyd hown' hpy;rw[HYD.out];go_wp2;go_roundw
    case rel=>exact⟨k+1,g,c,pre ++ [y],by omega,by go_num,by rw[HPY.out],by rw[HPY.out];omega,by rw[HPY.out];omega,by unfold maxLen;omega,by rw[HPY.out];omega,HO.out,HA.out,(by
     intro z hz
     rcases List.mem_append.1 hz with h|h
     ·have:=HXZ.out z (by simp[h]);omega
     ·simp at h;subst h;exact hysz),hnx'⟩
    case measure=>simp[intOf];omega
  ·have hkk:k=s.size:=by omega
   have hfull:xs.map (·.data.toList)=cutAt 47 L:=by have:=HAT.out;unfold PartsAt at this;rw[List.take_of_length_le (by have:=HSZ.out;omega)]at this;exact this
   have HFU:=hid hfull;have HI:=hid (Zbqq HOWN.out);clear hfull hkk;go_wp2;go_ret;exact⟨xs,_,rfl,HI.out,HFU.out,HNX.out⟩
theorem Zbcg:Zbcf []=false:=by decide +kernel
set_option maxHeartbeats 4000000 in
set_option maxRecDepth 100000 in
theorem Zyw (s:ByteArray) (w:World) (hs:s.size<=maxLen):
  Calls prog 120 #[.string s] w λe w'=>e = .returned (.bool (Zbcf s.data.toList))/\Below w.heap.size w w':=by
 unfold maxLen at hs;obtain⟨r,hr⟩:∃r,r=Zbcf s.data.toList:=⟨_,rfl⟩;rw[<-hr];have HR:=hid hr;clear hr;have hsz:=hid (Lib.size_eq s)
 by_cases h1:s.size<1
 ·have hf:r=false:=by
   rw[HR.out,List.eq_nil_of_length_eq_zero (show s.data.toList.length=0 by rw[<-hsz.out];omega),Zbcg]
  subst hf
  go_enter func120,ntmps120
  go_wp2;go_ret;exact⟨rfl,Below.refl _ _⟩
 ·by_cases h40:40<s.size
  ·have hf:r=false:=by rw[HR.out,Zbcf,decide_eq_false (by rw[<-hsz.out];omega)];rfl
   subst hf
   go_enter func120,ntmps120
   go_wp2;go_ret;exact⟨rfl,Below.refl _ _⟩
  ·by_cases hcl:isCl s.data.toList=true
   ·have hf:r=false:=by rw[HR.out,Zbcf,hcl];simp
    subst hf;have hcl':s.toList = [114,117,108,101]∨s.toList = [105,110]∨s.toList = [111,117,116]∨s.toList = [97,102,116,101,114]:=by
     rw[<-Lib.toList_data]at hcl;simp[isCl]at hcl
     rcases hcl with((h|h)|h)|h
     ·exact .inl h
     ·exact .inr (.inl h)
     ·exact .inr (.inr (.inl h))
     ·exact .inr (.inr (.inr h))
    clear hcl HR
    rcases hcl' with h|h|h|h
    all_goals
     go_enter func120,ntmps120
     go_wp2;go_ret;exact⟨rfl,Below.refl _ _⟩
   ·have hn:(s.toList == [114,117,108,101])=false/\(s.toList == [105,110])=false/\(s.toList == [111,117,116])=false/\(s.toList == [97,102,116,101,114])=false:=by
     rw[<-Lib.toList_data]at hcl;simp[isCl]at hcl;obtain⟨⟨⟨a1,a2⟩,a3⟩,a4⟩:=hcl;exact⟨by simpa using a1,by simpa using a2,by simpa using a3,by simpa using a4⟩
    obtain⟨n1,n2,n3,n4⟩:=hn;have hcf:isCl s.data.toList=false:=by simpa using hcl
    have cP:=Zbew s w (by omega);have HRR:Hid (∀xs:List ByteArray,xs.map (·.data.toList)=cutAt 47 s.data.toList->r=xs.all λx=>Zbch x.data.toList):=by
     show ∀xs:List ByteArray,_;intro xs hx;rw[HR.out,Zbcf,hcf,<-hx,Zdf,decide_eq_true (by rw[<-hsz.out];omega)];rfl
    have HSM:Hid (∀xs:List ByteArray,xs.map (·.data.toList)=cutAt 47 s.data.toList->xs.length<=41/\∀(k:Nat) x,xs[k]? =some x->x.size<=40):=by
     show ∀xs:List ByteArray,_;intro xs hx;have h1:=congrArg List.length hx;rw[List.length_map]at h1;have h2:=Zkz 47 s.data.toList;rw[<-hsz.out]at h2;refine⟨by omega,λk x hk=>?_⟩;have h3:x.data.toList∈cutAt 47 s.data.toList:=by rw[<-hx];exact List.mem_map_of_mem (List.mem_of_getElem? hk)
     have h4:=Zky 47 s.data.toList _ h3;rw[<-hsz.out]at h4;rw[Lib.size_eq x];omega
    have CP:=hid cP;clear hcl hcf HR cP
    go_enter func120,ntmps120
    go_wp2_with fail
    refine CP.out.mono ?_;rintro e w1 ⟨xs,v,rfl,hI,hx,hb1⟩;obtain⟨ad,cp,rfl,hc1,hc2,hcs⟩:=hI;have HCS:=hid hcs;have hRR:=HRR.out xs hx;obtain⟨hl41,hsm⟩:=HSM.out xs hx;have HREQ:=hid hRR;have HSMX:=hid hsm;have HX1:=hid hb1;clear hcs hx hRR hsm hb1 HRR HSM n1 n2 n3 n4 CP
    go_wp2_with fail
    go_loop [4] (λi=>∃k:Nat,k<=xs.length/\i = .int .i64 k/\((xs.take k).all λx=>Zbch x.data.toList)=true) (λi=>xs.length-(intOf i).toNat)
    case atStart=>exact⟨0,by omega,rfl,by simp⟩
    case round=>
     obtain⟨k,hk,rfl,hall⟩:=hrel;have HALL:=hid hall;clear hall
     by_cases hlt:k<xs.length
     ·obtain⟨x,hx⟩:∃x,xs[k]? =some x:=⟨xs[k],List.getElem?_eq_getElem hlt⟩
      obtain⟨bb,bo,rfl,hbb,hbc⟩:=HCS.out (by rintro rfl;simp at hlt);have hcx:=hbc k x hx;have hxs:=HSMX.out k x hx;have HA:=hid (Zdg xs (λx=>Zbch x.data.toList) k x hx);have HB:=hid (Zdd xs (λx=>Zbch x.data.toList) k x hx);have hk0:(0:Int)<=(k:Int):=by omega
      have hk1:(k:Int)<(xs.length:Int):=by omega
      clear hbc hx
      by_cases hsp:x.toList = []∨x.toList = [46]∨x.toList = [46,46]
      ·have hbad:Zbch x.data.toList=false:=by
        rw[<-Lib.toList_data]
        rcases hsp with h|h|h<;>simp[Zbch,h]
       have hrf:r=false:=by rw[HREQ.out,HB.out hbad]
       subst hrf;clear hbad
       rcases hsp with h|h|h
       all_goals
        go_wp2;go_ret;exact⟨rfl,HX1.out⟩
      ·have e1:x.toList.isEmpty=false:=by rw[Bool.eq_false_iff];intro h;exact hsp (.inl (by simpa using h))
       have e2:(x.toList == [46])=false:=by rw[Bool.eq_false_iff];intro h;exact hsp (.inr (.inl (by simpa using h)))
       have e3:(x.toList == [46,46])=false:=by rw[Bool.eq_false_iff];intro h;exact hsp (.inr (.inr (by simpa using h)))
       have e0:¬x.toList = []:=λh=>hsp (.inl h)
       have HOP:=hid (Zbci (l:=x.data.toList) (by rw[<-Lib.toList_data];exact hsp));have hxl:=hid (Lib.size_eq x);clear hsp
       go_wp2_with fail
       go_loop [5] (λi=>∃j:Nat,j<=x.size/\i = .int .i64 j/\(x.data.toList.take j).all Zbce=true) (λi=>x.size-(intOf i).toNat)
       case atStart=>exact⟨0,by omega,rfl,by simp⟩
       case round=>
        obtain⟨j,hj,rfl,hja⟩:=hrel;have HJA:=hid hja;clear hja
        by_cases hjlt:j<x.size
        ·have hjlt':j<x.data.toList.length:=by rw[<-Lib.size_eq];exact hjlt
         have hsucc:=hid (Zbra x.data.toList Zbce j hjlt');have hfalse:=hid (Zde x.data.toList Zbce j hjlt');have hget:=hid (show x[j]=x.data.toList[j]from rfl);obtain⟨ok,hok⟩:∃ok,Zbce x[j]=ok:=⟨_,rfl⟩;have cS:=λw=>Zbkw x[j] w
         simp only[hok]at cS;have HOK:=hid hok;have CS:=hid cS;clear hok cS
         go_wp2_with fail
         refine(CS.out _).mono ?_;rintro e w2 ⟨rfl,rfl⟩
         cases ok
         ·have hrf:r=false:=by rw[HREQ.out,HB.out (by rw[HOP.out];exact hfalse.out (by rw[<-hget.out];exact HOK.out))]
          subst hrf;go_wp2;go_ret;exact⟨rfl,HX1.out⟩
         ·go_wp2
          go_round
          case rel=>exact⟨j+1,by omega,by go_num,by rw[hsucc.out,HJA.out,<-hget.out,HOK.out];rfl⟩
          case measure=>simp[intOf];omega
        ·have hpart:Zbch x.data.toList=true:=by
          have h:=HJA.out;rw[List.take_of_length_le (by rw[<-hxl.out];omega)]at h;rw[HOP.out,h]
         have HPART:=hid hpart;clear hpart;go_wp2
         go_round
         case rel=>exact⟨k+1,by omega,by go_num,by rw[HA.out,HALL.out,HPART.out];rfl⟩
         case measure=>simp[intOf];omega
     ·have hrt:r=true:=by rw[HREQ.out];have:=HALL.out;rw[List.take_of_length_le (by omega)]at this;exact this
      have HRT:=hid hrt;clear hrt;go_wp2;go_ret;exact⟨Zbho (by rw[HRT.out]),HX1.out⟩
open Go.Shelf
theorem Zbdx {w:World} {g B:Nat} {x:ByteArray} (h:w.heap[g]? =some (.cells #[.string x] 9)) (hB:B<=g):OwnStrs B w (.slice (some ⟨g,0,none⟩) 1 1) [x]:=
 ⟨rfl,.inr ⟨g,1,#[.string x],rfl,hB,h,Nat.le_refl _,by decide,rfl,rfl⟩⟩
theorem Zud {w:World} {v:Value} {xs:List ByteArray} (h:IsStrs w v xs):IsRow w v 1 (Zbpk xs):=by
 obtain⟨a,c,rfl,h1,h2,h3⟩:=h;refine⟨a,c,by rw[Zbpo],by rw[Zbpo];exact h1,h2,λhne=>?_⟩;obtain⟨b,o,e,hb,hc⟩:=h3 (by rintro rfl;exact hne rfl);refine⟨b,o,e,hb,λj r hr i u hu=>?_⟩;unfold Zbpk at hr;rw[List.getElem?_map]at hr;obtain⟨y,hy,rfl⟩:=Option.map_eq_some_iff.1 hr
 match i,hu with
 | 0,hu=>
  simp at hu;subst hu;have:=hc j y hy;simpa using this
theorem Zbpc {w:World} {v:Value} {xs:List StepS} (h:StepsI w v xs):∃a c,v = .slice a xs.length c/\xs.length<=c/\c<=maxLen/\∀(k:Nat) y,xs[k]? =some y->∃b o a1 c1 a2 c2,a=some ⟨b,o,none⟩/\Zcc w [.string y.out,.int .i64 y.op,.slice a1 y.args.length c1,.slice a2 y.lits.length c2,.int .i64 y.n] y/\IsStrs w (.slice a1 y.args.length c1) y.args/\∀w',Below w.heap.size w w'->
  w'.cell? ⟨b,o+k*5,none⟩=some (.string y.out)/\w'.cell? ⟨b,o+k*5+1,none⟩=some (.int .i64 y.op)/\w'.cell? ⟨b,o+k*5+2,none⟩=some (.slice a1 y.args.length c1)/\w'.cell? ⟨b,o+k*5+3,none⟩=some (.slice a2 y.lits.length c2)/\w'.cell? ⟨b,o+k*5+4,none⟩=some (.int .i64 y.n):=by
 obtain⟨rows,⟨a,c,rfl,h1,h2,h3⟩,hall⟩:=h;refine⟨a,c,by rw[hall.1],by rw[<-hall.1];exact h1,h2,λk y hy=>?_⟩;have hk:k<rows.length:=by rw[hall.1];exact(List.getElem?_eq_some_iff.1 hy).1
 have hR:=hall.2 k _ y (List.getElem?_eq_getElem hk) hy;obtain⟨b,o,rfl,hb,hc⟩:=h3 (by rintro rfl;simp at hk);obtain⟨va,vl,e,ha,hl⟩:=id hR;obtain⟨a1,c1,q1⟩:=Zue ha;obtain⟨a2,c2,q2⟩:=Zue hl;subst q1 q2;rw[e]at hR;refine⟨b,o,a1,c1,a2,c2,rfl,hR,ha,λw' hw=>?_⟩;have key:∀(i:Nat) u,rows[k][i]? =some u->w'.cell? ⟨b,o+k*5+i,none⟩=some u:=λi u hu=>(hw.cell (p:=⟨b,o+k*5+i,none⟩) hb).trans (hc k _ (List.getElem?_eq_getElem hk) i u hu)
 rw[e]at key;exact⟨key 0 _ rfl,key 1 _ rfl,key 2 _ rfl,key 3 _ rfl,key 4 _ rfl⟩
def nmsS (ys:List StepS):List ByteArray:=(ys.map λy=>y.out::y.args).flatten
def nmsR (x:RuleS) (k:Nat):List ByteArray:=[x.name]++x.ins++x.outs++x.after++nmsS (x.steps.take k)
theorem Zbbh:∀ys:List StepS,(∀y∈ys,y.args.length<=8)->(nmsS ys).length<=9*ys.length
 | [],_=>by simp[nmsS]
 | y::ys,h=>by
  have h1:=Zbbh ys λz hz=>h z (by simp[hz])
  have h2:=h y (by simp);simp only[nmsS,List.map_cons,List.flatten_cons,List.length_append,List.length_cons]at h1⊢;omega
theorem Zbbg (x:RuleS):nmsR x 0 = [x.name]++x.ins++x.outs++x.after:=by simp[nmsR,nmsS]
theorem Zbbe {x:RuleS} {k:Nat} {y:StepS} (h:x.steps[k]? =some y):nmsR x (k+1)=nmsR x k ++ [y.out]++y.args:=by
 unfold nmsR nmsS;rw[List.take_add_one,h];simp
theorem Zbbd {x:RuleS} (h:ShortR x) (k:Nat):(nmsR x k).length<=200:=by
 have h1:=Zbbh (x.steps.take k) λy hy=>(h.each y (List.mem_of_mem_take hy)).1
 have h2:=h.ins;have h3:=h.outs;have h4:=h.after;have h5:=h.steps;rw[List.length_take]at h1;unfold nmsR;simp only[List.length_append,List.length_cons,List.length_nil];omega
theorem Zbbf {x:RuleS} (h:SmallR x 1048576) (k:Nat):∀y∈nmsR x k,y.size<=1048576:=by
 intro y hy;unfold nmsR nmsS at hy;simp only[List.mem_append,List.mem_cons,List.not_mem_nil,or_false,List.mem_flatten,List.mem_map]at hy
 rcases hy with(((rfl|hy)|hy)|hy)|⟨l,⟨z,hz,rfl⟩,hy⟩
 ·exact h.name
 ·exact h.ins.2 y hy
 ·exact h.outs.2 y hy
 ·exact h.after.2 y hy
 ·have hz:=h.steps z (List.mem_of_mem_take hz)
  rcases List.mem_cons.1 hy with rfl|hy
  ·exact hz.out
  ·exact hz.args.2 y hy
theorem Zih {w:World} {b:Nat} {x y:Value} {T:TypeId} (h:w.heap[b]? =some (.cells #[x,y] T)):
  w.cell? ⟨b,0,none⟩=some x/\w.cell? ⟨b,1,none⟩=some y/\w.frozen? ⟨b,0,none⟩=false/\w.frozen? ⟨b,1,none⟩=false:=by
 simp[World.cell?,World.frozen?,h]
theorem GP.up {p p':Nat} {w:World} (h:GP p w) (hp:p<=p'):GP p' w:=⟨h.glob,h.ops,Nat.lt_of_lt_of_le h.l1 hp,Nat.lt_of_lt_of_le h.l2 hp,Nat.lt_of_lt_of_le h.l3 hp,Nat.lt_of_lt_of_le h.l4 hp,Nat.lt_of_lt_of_le h.l5 hp,h.gx⟩
theorem flat5 {rows:List (List Value)} (h:∀r∈rows,r.length=5):rows.flatten.length=rows.length*5:=by
 induction rows with
 | nil=>rfl
 | cons r rs ih=>
  rw[List.flatten_cons,List.length_append,ih λr' hr=>h r' (List.mem_cons_of_mem _ hr),h r (List.mem_cons_self ..),List.length_cons];omega
theorem Zbxo {Av:Nat->Prop} {w:World} {r:List Value} {x:RuleS} (h:RuleA Av w r x):∀u∈r,u.oneCell'=true:=by
 obtain⟨vi,vo,vf,vs,rfl,h1,h2,h3,h4⟩:=h;obtain⟨a1,n1,c1,q1⟩:=Zbig h1;obtain⟨a2,n2,c2,q2⟩:=Zbig h2;obtain⟨a3,n3,c3,q3⟩:=Zbig h3;obtain⟨a4,n4,c4,q4⟩:=Zbol h4;subst q1 q2 q3 q4;intro u hu;simp only[List.mem_cons,List.not_mem_nil,or_false]at hu
 rcases hu with rfl|rfl|rfl|rfl|rfl<;>rfl
theorem Zczn {rows:List (List Value)} (h:∀r∈rows,r.length=5) {j:Nat} {u:Value} (hj:rows.flatten[j]? =some u):∃r,rows[j/5]? =some r/\r[j % 5]? =some u:=by
 induction rows generalizing j with
 | nil=>simp at hj
 | cons r rs ih=>
  have hr:=h r (List.mem_cons_self ..);rw[List.flatten_cons]at hj
  rcases Nat.lt_or_ge j 5 with hlt|hge
  ·rw[List.getElem?_append_left (by omega)]at hj
   exact⟨r,by rw[Nat.div_eq_of_lt hlt];rfl,by rw[Nat.mod_eq_of_lt hlt];exact hj⟩
  ·rw[List.getElem?_append_right (by omega),hr]at hj
   obtain⟨r',h1,h2⟩:=ih (λr' hr'=>h r' (List.mem_cons_of_mem _ hr')) hj;refine⟨r',?_,?_⟩
   ·rw[show j/5=(j-5)/5+1 by omega,List.getElem?_cons_succ];exact h1
   ·rw[show j % 5=(j-5) % 5 by omega];exact h2
theorem Zbxu {w:World} {ty:TypeId} {Av:Nat->Prop} {B:Nat} {v0 v:Value} {n:Nat} {xs:List Value} {ys:List RuleS} (hown:w.ownsRow B 50 5 v0 n xs) (h:RulesA Av w v ys) (hB:B<=w.heap.size) (hn:n+ys.length<=1000000):
  ∃rows v' w',(Builtin.append_ #[22,22] ty #[v0,v]).run prog w = .ok v' w'/\w'.ownsRow B 50 5 v' (n+ys.length) (xs++rows.flatten)/\w.grownBy w' v0.ownBlock/\rows.length=ys.length/\AllA (RuleA Av w) rows ys:=by
 obtain⟨i0,hi,hz0,hz1,hz2⟩:=Zsv Zsw;obtain⟨rows,hrow,hall⟩:=h;obtain⟨⟨a,c,rfl,hlc,hcm,hcell⟩,_⟩:=hrow;have h5:=hall.len λr x h=>h.len
 have hlen:=hall.1
 by_cases he:rows = []
 ·subst he
  have hys:ys = []:=by simpa using hlen.symm
  subst hys
  cases a with
  | none=>
   refine⟨[],v0,w,?_,by simpa using hown,?_,rfl,hall⟩
   ·rcases hown.2 with⟨rfl,rfl⟩|⟨g,cap,cur,rfl,_,_,hnc,_⟩
    ·simp[Builtin.append_,run_underlying underlying22,sizeOf,typeInfo,hi,Builtin.lenOf,Builtin.firstCells]
    ·simp[Builtin.append_,run_underlying underlying22,sizeOf,typeInfo,hi,Builtin.lenOf,Builtin.firstCells,hnc,storeCells]
   ·exact⟨rfl,rfl,rfl,Nat.le_refl _,λ_ _ _=>rfl⟩
  | some ad=>
   obtain⟨v',w',hr,h2,h3,_⟩:=run_append_own (P:=prog) w B 22 ty 50 i0 (.agg #[.string ByteArray.empty,.slice none 0 0,.slice none 0 0,.slice none 0 0,.slice none 0 0]) 5 112 underlying22 hi hz0 hz1 hz2 rfl (by decide) v0 n xs hown ad 0 c [] rfl (by simp) (by simp) (by unfold maxLen;omega) (by omega) hB;exact⟨[],v',w',hr,by simpa using h2,h3,rfl,hall⟩
 ·obtain⟨b,o,rfl,hb,hc⟩:=hcell he
  have hnews:∀(j:Nat) u,rows.flatten[j]? =some u->w.cell? ((⟨b,o,none⟩:Addr).add j)=some u:=by
   intro j u hj;have:=Zczn h5 hj;obtain⟨r,hr,hu⟩:=this;have h0:=hc (j/5) r hr (j % 5) u hu;simp only[Addr.add];split
   ·rename_i hj0
    rw[hj0]at h0;simpa using h0
   ·rw[show o+j=o+j/5*5+j % 5 by omega]
    exact h0
  have hone:∀u∈rows.flatten,u.oneCell'=true:=by
   intro u hu;obtain⟨r,hr,hu⟩:=List.mem_flatten.1 hu;obtain⟨j,hj⟩:=List.getElem?_of_mem hr;have hlt:j<ys.length:=by rw[<-hlen];exact(List.getElem?_eq_some_iff.1 hj).1
   exact Zbxo (hall.2 j r _ hj (List.getElem?_eq_getElem hlt)) u hu
  obtain⟨v',w',hr,h2,h3,_⟩:=run_append_own (P:=prog) w B 22 ty 50 i0 (.agg #[.string ByteArray.empty,.slice none 0 0,.slice none 0 0,.slice none 0 0,.slice none 0 0]) 5 112 underlying22 hi hz0 hz1 hz2 rfl (by decide) v0 n xs hown ⟨b,o,none⟩ rows.length c rows.flatten (flat5 h5) hnews hone (by unfold maxLen;omega) (by omega) hB;exact⟨rows,v',w',hr,by rw[hlen]at h2;exact h2,h3,hlen,hall⟩
theorem Zbud {P:Program} {w:World} {ops:Array Oper} {rest:List Oper} {o:Oper} {a:Act} {Q:Exit->Act->World->Prop} (hg:Region.wanted o (yielded ops a.tmps)=true) (s x:Operand) (t:TypeId)
  (ho:o.op = .call { callee:= .builtin .append,args:=#[s,x],argTypes:=#[t,t] }) {v0 vx v':Value} {w':World} (hs:a.eval s=v0) (hx:a.eval x=vx)
  (hr:(Builtin.append_ #[t,t] o.type #[v0,vx]).run P w = .ok v' w') (h:wpList P ops Q rest (a.put o.dst v') w'):wpList P ops Q (o::rest) a w:=by
 refine wpList_step λK hK=>?_
 rw[if_pos hg];unfold Oper.wp execOp;simp only[ho,resolve,invoke,builtin,Sem.run_bind,Sem.run_pure,Result.andThen_ok,List.map_toArray,List.map_cons,List.map_nil,hs,hx,hr];exact hK _ _ h
theorem Zbxt {w w1 w2:World} {v1 v2:Value} {xs ys:List RuleS} {r1 r2:List (List Value)} {Av:Nat->Prop} (hall1:AllA (RuleA Av w) r1 xs) (hall2:AllA (RuleA Av w1) r2 ys) (hg1:w.grownBy w1 none)
  (hg2:w1.grownBy w2 v1.ownBlock) (ho2:w2.ownsRow w.heap.size 50 5 v2 (xs.length+ys.length) (r1.flatten++r2.flatten)) (hAv:∀b,v1.ownBlock=some b->Av b):
  RulesA (λ_=>False) w2 v2 (xs++ys):=by
 have f1:Fr Av w w1:=Zpx hg1 λk e=>by cases e
 have f2:Fr Av w1 w2:=Zpx hg2 λk e=>hAv k e
 have hb1:AllA (RuleA (λ_=>False) w2) r1 xs:=hall1.imp λr x h=>((h.keep (f1.trans f2)).mono λ_ _ e=>e.elim)
 have hb2:AllA (RuleA (λ_=>False) w2) r2 ys:=hall2.imp λr x h=>((h.keep f2).mono λ_ _ e=>e.elim)
 have hb:AllA (RuleA (λ_=>False) w2) (r1++r2) (xs++ys):=by
  refine⟨by simp[hb1.1,hb2.1],λj r x hr hx=>?_⟩
  rcases Nat.lt_or_ge j r1.length with h|h
  ·rw[List.getElem?_append_left h]at hr
   rw[List.getElem?_append_left (by rw[<-hb1.1];exact h)]at hx;exact hb1.2 j r x hr hx
  ·rw[List.getElem?_append_right h]at hr
   rw[List.getElem?_append_right (by rw[<-hb1.1];exact h),<-hb1.1]at hx;exact hb2.2 _ r x hr hx
 refine⟨r1++r2,?_,hb⟩;have hl:(r1++r2).length=xs.length+ys.length:=by rw[List.length_append,hb1.1,hb2.1]
 have hrow:RowA (λb=>b<w.heap.size) w2 v2 5 (r1++r2):=by
  refine Zbif (t:=50) ?_ (hb.len λr x h=>h.len);rw[hl,List.flatten_append];exact ho2
 exact hrow.mono λ_ _ e=>e.elim
theorem Zbka {w:World} {ty:TypeId} {B:Nat} {v v2:Value} {xs ys:List ByteArray} (hown:OwnStrs B w v xs) (hI:IsRow w v2 1 (Zbpk ys)) (b1:xs.length+ys.length<=1000000000) (hB:B<=w.heap.size):
  ∃v' w',(Builtin.append_ #[47,47] ty #[v,v2]).run prog w = .ok v' w'/\OwnStrs B w' v' (xs++ys)/\w.grownBy w' v.ownBlock:=by
 obtain⟨i0,hi,hz0,hz1,hz2⟩:=Zsv Zsy;obtain⟨v',w',hr,h1,h2,_⟩:=Zbke (P:=prog) (w:=w) 47 ty 9 i0 (.string ByteArray.empty) 1 16 underlying47 hi hz0 hz1 hz2 rfl (by decide) (Zbdl.1 hown) hI (Zbpn ys) (Zbpp ys) (by rw[Zbpo,Zbpo];unfold maxLen;omega) (by rw[Zbpo,Zbpo];omega) hB;rw[Zbpl]at h1;exact⟨v',w',hr,Zbdl.2 h1,h2⟩
def Zch (xs:List ByteArray):Prop:=∃i j:Nat,j<i/\i<xs.length/\xs[j]? =xs[i]?
def Zcg (xs:List ByteArray) (e:Ending):Prop:=∃b,e = .returned (.bool b)/\(b=true↔Zch xs)
theorem Zbcm {xs:List ByteArray} {k:Nat} {x:ByteArray} (hx:xs[k]? =some x) (h:∀i<k,∀j<i,xs[j]? ≠xs[i]?) (hr:Zoi (xs.take k) x<0):∀i<k+1,∀j<i,xs[j]? ≠xs[i]?:=by
 intro i hi j hj
 rcases Nat.lt_or_ge i k with hl|hl
 ·exact h i hl j hj
 ·obtain rfl:i=k:=by omega
  rw[hx];intro e;exact Zos (Zom _ _) hr (List.mem_of_getElem? (i:=j) (by rw[List.getElem?_take,if_pos hj];exact e))
theorem Zbrs {xs:List ByteArray} {k:Nat} {x:ByteArray} (hx:xs[k]? =some x) (hr:0<=Zoi (xs.take k) x):Zcg xs (.returned (.bool true)):=by
 refine⟨true,rfl,λ_=>?_,λ_=>rfl⟩;obtain⟨j,hj⟩:=List.getElem?_of_mem (Zor (Zom _ _) hr);rw[List.getElem?_take]at hj;split at hj
 ·rename_i hjk
  exact⟨k,j,hjk,(List.getElem?_eq_some_iff.1 hx).1,by rw[hj,hx]⟩
 ·cases hj
theorem Zbrr {xs:List ByteArray} {k:Nat} (hk:xs.length<=k) (h:∀i<k,∀j<i,xs[j]? ≠xs[i]?):Zcg xs (.returned (.bool false)):=
 ⟨false,rfl,(λe=>by cases e),λ⟨i,j,h1,h2,h3⟩=>absurd h3 (h i (by omega) j h1)⟩
set_option maxHeartbeats 4000000 in
set_option maxRecDepth 100000 in
theorem Zhm (v:Value) (xs:List ByteArray) (w:World) (h:IsStrs w v xs):
  Calls prog 84 #[v] w λe w'=>Zcg xs e/\Below w.heap.size w w':=by
 obtain⟨a1,c1,rfl,hlc,hm1,hc1⟩:=Zua h;have hlm:xs.length<=maxLen:=by omega
 have CF:Hid (∀(k:Nat) (s:ByteArray) w',Below w.heap.size w w'->k<=xs.length->Calls prog 65 #[.slice a1 k c1,.string s] w' λe w''=>e = .returned (.int .i64 (Zoi (xs.take k) s))/\w''=w'):=by
  show ∀(k:Nat) (s:ByteArray) w',_;intro k s w' hb hk;have:=Zuf (h.below hb) k;rw[Nat.min_eq_left hk]at this;exact Zhe _ _ s w' this
 unfold maxLen at hlm;have HC1:=hid hc1;clear hc1 h
 go_enter func84,ntmps84
 go_wp2
 go_loopw [3] (λi wr=>∃k:Nat,k<=xs.length/\i = .int .i64 k/\(∀i<k,∀j<i,xs[j]? ≠xs[i]?)/\Below w.heap.size w wr)
  (λi _=>xs.length-(intOf i).toNat)
 case atStart=>exact⟨0,Nat.zero_le _,rfl,λi hi=>absurd hi (by omega),Below.refl _ _⟩
 case round=>
  obtain⟨k,hk,rfl,hon,hnx⟩:=hrel;have HNX:=hid hnx;have HON:=hid hon;clear hnx hon
  by_cases hlt:k<xs.length
  ·obtain⟨x,hx⟩:∃x,xs[k]? =some x:=⟨xs[k],List.getElem?_eq_getElem hlt⟩
   obtain⟨b1,o1,q1,hk1⟩:=HC1.out k x hx;subst q1;have e1:∀n,(wr.drewN n).cell? ⟨b1,o1+k,none⟩=some (.string x):=λn=>hk1 _ (below_drewN HNX.out n)
   have hi1:(k:Int)<(xs.length:Int):=by omega
   have hi0:(0:Int)<=(k:Int):=by omega
   have hi2:(k:Int)<=(c1:Int):=by omega
   obtain⟨r,hr⟩:∃r,Zoi (xs.take k) x=r:=⟨_,rfl⟩;have CF1:Hid (∀n,Calls prog 65 #[.slice (some ⟨b1,o1,none⟩) k c1,.string x] (wr.drewN n) λe w''=>e = .returned (.int .i64 r)/\w''=wr.drewN n):=by show ∀n,_;rw[<-hr];exact λn=>CF.out k x (wr.drewN n) (below_drewN HNX.out n) (by omega)
   have HN:Hid (∀n,Below w.heap.size w (wr.drewN n)):=by show ∀n,_;exact λn=>below_drewN HNX.out n
   have HYES:Hid (0<=r->Zcg xs (.returned (.bool true))):=hid λh=>Zbrs hx (by rw[hr];exact h)
   have HNEX:Hid (r<0->∀i<k+1,∀j<i,xs[j]? ≠xs[i]?):=hid λh=>Zbcm hx HON.out (by rw[hr];exact h)
   clear hk1 hx hr
   go_wp2_with fail
   go_quiet ((go_at_call 65;refine Calls.quiet_of_same (CF1.out _)))
   all_goals by_cases hneg:0<=r
   all_goals go_wp2
   all_goals first|(go_ret;exact⟨HYES.out hneg,HN.out _⟩)|skip
   all_goals go_roundw
   case rel=>exact⟨k+1,by omega,by go_num,HNEX.out (by omega),HN.out _⟩
   case measure=>simp[intOf];omega
  ·have hi1:¬(k:Int)<(xs.length:Int):=by omega
   have HNO:Hid (Zcg xs (.returned (.bool false))):=hid (Zbrr (by omega) HON.out);go_wp2;go_ret;exact⟨HNO.out,HNX.out⟩
def naF (op:Int) (len:Nat):Int:=if op=5 then min (len:Int) 6 else if op=6 then 0 else 1
def nlF (op:Int):Int:=if op=6∨op=7 then 1 else if op=8 then 2 else 0
def MayX (x:StepS):Prop:=(1<=x.op/\x.op<=9)/\(x.args.length:Int)=naF x.op x.args.length/\(x.lits.length:Int)=nlF x.op/\(x.op=8->∀y,x.lits[0]? =some y->(y.toList==([]:List UInt8))=false)/\0<=x.n/\x.n<=2000/\(x.op=9∨x.n=0)/\∀l∈x.lits,l.size<=100
def Zbg (x:StepS) (e:Ending):Prop:=∃b,e = .returned (.bool b)/\(b=true↔MayX x)
def ArgQ (op:Int) (len:Nat) (na nl:Int):Prop:=naF op len=na/\nlF op=nl
theorem Zyy {x:StepS} (h:¬MayX x):Zbg x (.returned (.bool false)):=⟨false,rfl,(λe=>by cases e),λh'=>(h h').elim⟩
theorem Zyz {x:StepS} {b:Bool} (h:¬MayX x) (hb:b=false):Zbg x (.returned (.bool b)):=by subst hb;exact Zyy h
theorem Zza {x:StepS} (h:MayX x):Zbg x (.returned (.bool true)):=⟨true,rfl,λ_=>h,λ_=>rfl⟩
set_option maxHeartbeats 8000000 in
set_option maxRecDepth 100000 in
theorem Zhi (x:StepS) (va vl:Value) (w:World) (h:Zcc w [.string x.out,.int .i64 x.op,va,vl,.int .i64 x.n] x) (hs:SmallS x 1048576):
  Calls prog 119 #[.agg #[.string x.out,.int .i64 x.op,va,vl,.int .i64 x.n]] w λe w'=>Zbg x e/\Below w.heap.size w w':=by
 obtain⟨va',vl',q,ha,hl⟩:=h;simp only[List.cons.injEq,and_true,true_and]at q;obtain⟨rfl,rfl⟩:=q;have hna:=hs.args.1;have hnl:=hs.lits.1;have hsl:=hs.lits.2;obtain⟨out,op,args,lits,n⟩:=x;simp only at ha hl hna hnl hsl⊢;obtain⟨a1,c1,rfl,_,hm1,_⟩:=Zua ha;obtain⟨a2,c2,rfl,_,hm2,hc2⟩:=Zua hl;obtain⟨o1,ho1⟩:∃o:Obj,o = .cells #[.string out,.int .i64 op,.slice a1 args.length c1,.slice a2 lits.length c2,.int .i64 n] 60:=⟨_,rfl⟩;have hb0:Below w.heap.size w (w.alloc o1):=(Below.refl _ _).alloc (Nat.le_refl _) _;have hx1:=alloc_at w o1;have hlt:=Zfy hx1;obtain⟨W1,hW1⟩:∃W1,w.alloc o1=W1:=⟨_,rfl⟩;rw[hW1]at hx1 hb0 hlt;rw[ho1]at hx1 hW1;have HCE:Hid (∀w',Below W1.heap.size W1 w'->w'.cell? ⟨w.heap.size,1,none⟩=some (.int .i64 op)/\w'.cell? ⟨w.heap.size,2,none⟩=some (.slice a1 args.length c1)/\w'.cell? ⟨w.heap.size,3,none⟩=some (.slice a2 lits.length c2)/\w'.cell? ⟨w.heap.size,4,none⟩=some (.int .i64 n)):=by
  show ∀w',_;intro w' hb;obtain⟨_,d1,d2,d3,d4,_⟩:=cells5 ((hb.block _ hlt).trans hx1);exact⟨d1,d2,d3,d4⟩
 have HL:Hid (∀(k:Nat) y,lits[k]? =some y->∃b o,a2=some ⟨b,o,none⟩/\∀w',Below W1.heap.size W1 w'->w'.cell? ⟨b,o+k,none⟩=some (.string y)):=by
  show ∀(k:Nat) y,_;intro k y hy;obtain⟨b,o,e,hc⟩:=hc2 k y hy;exact⟨b,o,e,λw' hw=>hc w' (hb0.trans (hw.mono hb0.size))⟩
 have HUP:Hid (∀w',Below W1.heap.size W1 w'->Below w.heap.size w w'):=by show ∀w',_;exact λw' hw=>hb0.trans (hw.mono hb0.size)
 have HW1:=hid hW1;have HSL:=hid hsl;clear ha hl hc2 hb0 hx1 hlt hW1 ho1 hsl hs o1
 by_cases hop:1<=op/\op<=9
 ·go_enter func119,ntmps119
  go_upto_block 0 with fail
  go_cut [3,4] (λa b wx=>a = .int .i64 (naF op args.length)/\b = .int .i64 (nlF op)/\W1=wx)
  case first=>
   have hcs:op=1∨op=2∨op=3∨op=4∨op=5∨op=6∨op=7∨op=8∨op=9:=by omega
   clear hop
   rcases hcs with rfl|rfl|rfl|rfl|rfl|rfl|rfl|rfl|rfl
   all_goals go_wp2_with fail
   all_goals go_meet
   all_goals exact⟨by simp[naF],by simp[nlF],HW1.out.symm⟩
  case rest=>
   obtain⟨rfl,rfl,rfl⟩:=hcut;obtain⟨na,hnae⟩:∃na,naF op args.length=na:=⟨_,rfl⟩;obtain⟨nl,hnle⟩:∃nl,nlF op=nl:=⟨_,rfl⟩;rw[hnae,hnle];have har:ArgQ op args.length na nl:=⟨hnae,hnle⟩;clear hnae hnle;obtain⟨d1,d2,d3,d4⟩:=HCE.out W1 (Below.refl _ _);have HAR:=hid har;have HOP:=hid hop;unfold maxLen at hm2;clear har hop
   go_wp2_with fail
   go_loopw [5] (λiv wr=>∃k:Nat,k<=lits.length/\iv = .int .i64 (k:Int)/\(∀l∈lits.take k,l.size<=100)/\W1=wr) (λiv _=>lits.length-(intOf iv).toNat)
   case atStart=>exact⟨0,Nat.zero_le _,rfl,λl hl=>by simp at hl,rfl⟩
   case round=>
    obtain⟨k,hk,rfl,hsm,rfl⟩:=hrel;have HSM:=hid hsm;clear hsm;have HBW:=hid (HUP.out _ (Below.refl _ _))
    by_cases hlt:k<lits.length
    ·obtain⟨y,hy⟩:∃y,lits[k]? =some y:=⟨lits[k],List.getElem?_eq_getElem hlt⟩
     obtain⟨b,o,hab,hc⟩:=HL.out k y hy;have hcy:=hc _ (Below.refl _ _);subst hab;have hi1:(k:Int)<(lits.length:Int):=by omega
     have hi0:(0:Int)<=(k:Int):=by omega
     have hys:=HSL.out y (List.mem_of_getElem? hy);obtain⟨z,hz⟩:∃z,y.size=z:=⟨_,rfl⟩;have HZ:=hid hz;have HY:=hid hy;rw[hz]at hys;clear hc hy
     by_cases h100:100<z
     ·have hj:(100:Int)<(z:Int):=by omega
      have HBIG:Hid (¬MayX ⟨out,op,args,lits,n⟩):=by
       show ¬_;intro h;have:=h.2.2.2.2.2.2.2 y (List.mem_of_getElem? HY.out);rw[HZ.out]at this;omega
      go_wp2;go_ret;exact⟨Zyy HBIG.out,HUP.out _ (Below.refl _ _)⟩
     ·have hj:¬(100:Int)<(z:Int):=by omega
      have HSN:Hid (∀l∈lits.take (k+1),l.size<=100):=by
       show ∀l∈lits.take (k+1),_;intro l hl;rw[List.take_add_one,HY.out]at hl
       rcases List.mem_append.1 hl with hl|hl
       ·exact HSM.out l hl
       ·have:l=y:=by simpa using hl
        rw[this,HZ.out];omega
      go_wp2;go_roundw
      case rel=>exact⟨k+1,by omega,by go_num,HSN.out,trivial⟩
      case measure=>simp[intOf];omega
    ·have hi1:¬(k:Int)<(lits.length:Int):=by omega
     have HLA:Hid (∀l∈lits,l.size<=100):=by show ∀l∈lits,_;have:=HSM.out;rw[List.take_of_length_le (by omega)]at this;exact this
     by_cases g1:(args.length:Int)=na
     ·by_cases g2:(lits.length:Int)=nl
      ·by_cases h8:op=8
       ·subst h8
        have hl2:lits.length=2:=by
         have:=HAR.out.2;rw[show nlF 8=2 from rfl]at this;omega
        obtain⟨y,hy⟩:∃y,lits[0]? =some y:=⟨lits[0],List.getElem?_eq_getElem (by omega)⟩;obtain⟨b,o,hab,hc⟩:=HL.out 0 y hy;have hcy:=hc _ (Below.refl _ _);rw[Nat.add_zero]at hcy;subst hab;have hp0:(0:Int)<(lits.length:Int):=by omega
        obtain⟨q,hq⟩:∃q,(y.toList==([]:List UInt8))=q:=⟨_,rfl⟩;have HQY:=hid (And.intro hy hq);clear hc hy hl2
        cases q
        ·by_cases g3:0<=n
         ·by_cases g4:n<=2000
          ·by_cases g5:n=0
           ·have HM:Hid (MayX ⟨out,8,args,lits,n⟩):=hid ⟨by show(1:Int)<=8/\8<=9;have:=HOP.out;omega,g1.trans HAR.out.1.symm,g2.trans HAR.out.2.symm,λ_ y' hy'=>by rw[HQY.out.1]at hy';injection hy' with hy';rw[<-hy'];exact HQY.out.2,g3,g4,.inr g5,HLA.out⟩
            go_wp2;go_ret
            first|exact⟨Zza HM.out,HBW.out⟩|exact⟨Zza (by have h:=HM.out;rw[g5]at h;exact h),HBW.out⟩
           ·have HN:Hid (¬MayX ⟨out,8,args,lits,n⟩):=hid λh=>(h.2.2.2.2.2.2.1).elim (λe=>absurd e (by show ¬(8:Int)=9;decide)) (λe=>g5 e)
            go_wp2;go_ret
            first|exact⟨Zyy HN.out,HBW.out⟩|exact⟨Zyz HN.out (by first|simpa using g5|simp[h9,g5]),HBW.out⟩
          ·have HN:Hid (¬MayX ⟨out,8,args,lits,n⟩):=hid λh=>g4 h.2.2.2.2.2.1
           go_wp2;go_ret;exact⟨Zyy HN.out,HBW.out⟩
         ·have HN:Hid (¬MayX ⟨out,8,args,lits,n⟩):=hid λh=>g3 h.2.2.2.2.1
          go_wp2;go_ret;exact⟨Zyy HN.out,HBW.out⟩
        ·have HN:Hid (¬MayX ⟨out,8,args,lits,n⟩):=hid λh=>by have:=h.2.2.2.1 rfl y HQY.out.1;rw[HQY.out.2]at this;cases this
         go_wp2;go_ret;exact⟨Zyy HN.out,HBW.out⟩
       ·by_cases h9:op=9
        ·subst h9
         by_cases g3:0<=n
         ·by_cases g4:n<=2000
          ·have HM:Hid (MayX ⟨out,9,args,lits,n⟩):=hid ⟨by show(1:Int)<=9/\9<=9;have:=HOP.out;omega,g1.trans HAR.out.1.symm,g2.trans HAR.out.2.symm,λe=>absurd e (by show ¬(9:Int)=8;decide),g3,g4,.inl rfl,HLA.out⟩
           go_wp2;go_ret
           first|exact⟨Zza HM.out,HBW.out⟩|exact⟨Zza (by have h:=HM.out;rw[g5]at h;exact h),HBW.out⟩
          ·have HN:Hid (¬MayX ⟨out,9,args,lits,n⟩):=hid λh=>g4 h.2.2.2.2.2.1
           go_wp2;go_ret;exact⟨Zyy HN.out,HBW.out⟩
         ·have HN:Hid (¬MayX ⟨out,9,args,lits,n⟩):=hid λh=>g3 h.2.2.2.2.1
          go_wp2;go_ret;exact⟨Zyy HN.out,HBW.out⟩
        ·by_cases g3:0<=n
         ·by_cases g4:n<=2000
          ·by_cases g5:n=0
           ·have HM:Hid (MayX ⟨out,op,args,lits,n⟩):=hid ⟨by show(1:Int)<=op/\op<=9;have:=HOP.out;omega,g1.trans HAR.out.1.symm,g2.trans HAR.out.2.symm,λe=>absurd e h8,g3,g4,.inr g5,HLA.out⟩
            go_wp2;go_ret
            first|exact⟨Zza HM.out,HBW.out⟩|exact⟨Zza (by have h:=HM.out;rw[g5]at h;exact h),HBW.out⟩
           ·have HN:Hid (¬MayX ⟨out,op,args,lits,n⟩):=hid λh=>(h.2.2.2.2.2.2.1).elim (λe=>absurd e (by show ¬(op:Int)=9;exact h9)) (λe=>g5 e)
            go_wp2;go_ret
            first|exact⟨Zyy HN.out,HBW.out⟩|exact⟨Zyz HN.out (by first|simpa using g5|simp[h9,g5]),HBW.out⟩
          ·have HN:Hid (¬MayX ⟨out,op,args,lits,n⟩):=hid λh=>g4 h.2.2.2.2.2.1
           go_wp2;go_ret;exact⟨Zyy HN.out,HBW.out⟩
         ·have HN:Hid (¬MayX ⟨out,op,args,lits,n⟩):=hid λh=>g3 h.2.2.2.2.1
          go_wp2;go_ret;exact⟨Zyy HN.out,HBW.out⟩
      ·have HN:Hid (¬MayX ⟨out,op,args,lits,n⟩):=hid λh=>g2 (h.2.2.1.trans HAR.out.2)
       go_wp2;go_ret;exact⟨Zyy HN.out,HBW.out⟩
     ·have HN:Hid (¬MayX ⟨out,op,args,lits,n⟩):=hid λh=>g1 (h.2.1.trans HAR.out.1)
      go_wp2;go_ret;exact⟨Zyy HN.out,HBW.out⟩
 ·have hno:¬op=1/\¬op=2/\¬op=3/\¬op=4/\¬op=5/\¬op=6/\¬op=7/\¬op=8/\¬op=9:=by omega
  obtain⟨n1,n2,n3,n4,n5,n6,n7,n8,n9⟩:=hno;have HB0:Hid (Below w.heap.size w W1):=by show Below _ _ _;exact HUP.out _ (Below.refl _ _)
  have HN:Hid (¬MayX ⟨out,op,args,lits,n⟩):=hid λh=>hop h.1
  clear hop
  go_enter func119,ntmps119
  go_wp2;go_ret;exact⟨Zyy HN.out,by rw[HW1.out];exact HB0.out⟩
end Go.Proofs.YtokogjhcidkckaaGreatDoor
