import Derived.Test.YtokogjhcidkckaaGreatDoorMax
import Derived.Shelf.Spec.SlicesGrow
import Derived.Laws.AppendOwnNone
import Derived.Sort.OwnSortedInts
import Derived.Shelf.Slices.In.SortNone
import Derived.Deep.RegionHeld3
namespace Go.Proofs.YtokogjhcidkckaaGreatDoor
open Go.Lib (hid)
open Go.Proofs.Tryz
open Go.RowKit Go.Shelf Go.Maps
def PlcIs (w:World) (b:Nat) (N:Nat) (f:ByteArray->Option Nat):Prop:=∃m,MapIs prog 9 w b m/\(∀k,hasM m k=(f k).isSome)/\(∀k,getM m k (.int .i64 0) = .int .i64 (((f k).getD 0:Nat):Int))/\m.length<=N
theorem PlcIs.lt {w:World} {b N:Nat} {f:ByteArray->Option Nat} (h:PlcIs w b N f):b<w.heap.size:=by obtain⟨m,h1,_⟩:=h;exact h1.lt
theorem PlcIs.heap {w w':World} {b N:Nat} {f:ByteArray->Option Nat} (h:PlcIs w b N f) (hb:w'.heap[b]? =w.heap[b]?):PlcIs w' b N f:=by obtain⟨m,h1,r⟩:=h;exact⟨m,h1.heap hb,r⟩
theorem PlcIs.more {w:World} {b N N':Nat} {f:ByteArray->Option Nat} (h:PlcIs w b N f) (hn:N<=N'):PlcIs w b N' f:=by obtain⟨m,h1,h2,h3,h4⟩:=h;exact⟨m,h1,h2,h3,by omega⟩
theorem Zbfc (w:World):PlcIs (w.alloc (.map #[] 0)) w.heap.size 0 (λ_=>none):=⟨[],Zyj w _ _,λ_=>rfl,λ_=>rfl,Nat.le_refl _⟩
def updF (f:ByteArray->Option Nat) (k:ByteArray) (i:Nat):ByteArray->Option Nat:=λk'=>if k=k' then some i else f k'
theorem PlcIs.put {w:World} {b N:Nat} {f:ByteArray->Option Nat} {t e:TypeId} (h:PlcIs w b N f) (ht:prog.underlying t=some (.map 9 e)) (hn:N<=4000000000000000) (k:ByteArray) (hs:k.size<=maxLen) (i:Nat):
  ∃w',(Instr.mapUpdate t (.map (some b)) (.string k) (.int .i64 (i:Int))).run prog w = .ok () w'/\PlcIs w' b (N+1) (updF f k i)/\w.mapTurned w' b:=by
 obtain⟨m,h1,h2,h3,h4⟩:=h;obtain⟨w',r,hm,ht'⟩:=h1.put underlying9 ht (by unfold maxLen;omega) k hs (.int .i64 (i:Int));refine⟨w',r,⟨_,hm,λk'=>?_,λk'=>?_,?_⟩,ht'⟩
 ·rw[Zrm,h2]
  unfold updF
  by_cases hk:k=k'
  ·simp[hk]
  ·simp[hk]
 ·unfold updF
  by_cases hk:k=k'
  ·subst hk;rw[Zqj,if_pos rfl];rfl
  ·rw[Zqi _ _ _ hk,if_neg hk];exact h3 k'
 ·obtain⟨D,_,_,_,_,hK⟩:=h1
  rw[Zbfq hK];split<;>omega
theorem PlcIs.look {w:World} {b N:Nat} {f:ByteArray->Option Nat} {t e:TypeId} (h:PlcIs w b N f) (ht:prog.underlying t=some (.map 9 e)) (hz:(zeroValue e).run prog w = .ok (.int .i64 0) w) (k:ByteArray) (hs:k.size<=maxLen):
  (Instr.lookup t (.map (some b)) (.string k) true).run prog w = .ok (.tuple #[.int .i64 (((f k).getD 0:Nat):Int),.bool (f k).isSome]) w:=by
 obtain⟨m,h1,h2,h3,h4⟩:=h;rw[h1.look_ok underlying9 ht hz k hs,h2,h3]
theorem Zbuu (w:World):(zeroValue 3).run prog w = .ok (.int .i64 0) w:=zeroValue3 w
set_option maxHeartbeats 4000000
set_option maxRecDepth 100000
def Zax (w:World) (is:List Nat) (e:Ending) (w':World):Prop:=∃v,e = .returned v/\w'.ownsRow w.heap.size 3 1 v is.length (is.map intV)/\Below w.heap.size w w'
theorem Zpt (b N:Nat) (f:ByteArray->Option Nat) (lv:Value) (l:List ByteArray) (w:World) (hP:PlcIs w b N f) (hl:IsStrs w lv l) (hln:l.length<=1048576) (hs:∀x∈l,x.size<=maxLen):
  Calls prog 178 #[.map (some b),lv] w (Zax w (l.filterMap f)):=by
 obtain⟨i0,hi,hz0,hz1,hz2⟩:=info_parts Zsn;have mixed:prog.follows .mixedOrders=true:=by kernel_rfl
 have hlt:=hP.lt;obtain⟨_,_,ea,hal,ham,hac⟩:=Zua hl;subst ea
 rename_i la lc
 have HA:Hid (∀(k:Nat) x,l[k]? =some x->∃b' o,la=some ⟨b',o,none⟩/\∀w',Below w.heap.size w w'->w'.cell? ⟨b',o+k,none⟩=some (.string x)):=hac;have HP:=hid hP;have HS:=hid hs;unfold maxLen at ham;clear hl hac hP hs
 go_enter func178,ntmps178
 go_wp2
 go_loopw [5,7,8,9,12,13,14,15,16,17,18,19,20,21,22,23,24,25,26,27] (λtv _ _ _ iv _ _ _ _ _ _ _ _ _ _ _ _ _ _ _ wr=>∃k:Nat,k<=l.length/\iv = .int .i64 (k:Int)/\wr.ownsRow w.heap.size 3 1 tv ((l.take k).filterMap f).length (((l.take k).filterMap f).map intV)/\Below w.heap.size w wr) (λ_ _ _ _ iv _ _ _ _ _ _ _ _ _ _ _ _ _ _ _ _=>l.length-(intOf iv).toNat)
 case atStart=>exact⟨0,Nat.zero_le _,rfl,by simpa using World.ownsRow_nil _ _ _ _,Below.refl _ _⟩
 case round=>
  obtain⟨k,hk,rfl,hown,hnx⟩:=hrel;have HO:=hid hown;have HNX:=hid hnx;have hsz:=hnx.size;clear hown
  by_cases hlt2:k<l.length
  ·obtain⟨x,hx⟩:∃x,l[k]? =some x:=⟨l[k],List.getElem?_eq_getElem hlt2⟩
   obtain⟨b',o,q1,hc⟩:=HA.out k x hx;subst q1;have cx:=hc wr hnx;have hi1:(k:Int)<(l.length:Int):=by omega
   have hi0:(0:Int)<=(k:Int):=by omega
   have hlook:=(HP.out.heap (hnx.block _ hlt)).look underlying221 (Zbuu wr) x (HS.out x (List.mem_of_getElem? hx));have htake:l.take (k+1)=l.take k ++ [x]:=by rw[List.take_add_one,hx];rfl
   have hnext:(l.take (k+1)).filterMap f=(l.take k).filterMap f++(f x).toList:=by rw[htake,List.filterMap_append];cases h:f x<;>simp[h]
   have hfl:((l.take k).filterMap f).length<=k:=Nat.le_trans (List.length_filterMap_le _ _) (by rw[List.length_take];omega);obtain⟨F,hF⟩:∃F,(l.take k).filterMap f=F:=⟨_,rfl⟩;have hown:=HO.out;rw[hF]at hown hnext hfl;have HOWN:=hid hown
   cases hfx:f x with
   | some i=>
    rw[hfx]at hlook hnext;simp only[Option.getD_some,Option.isSome_some,Option.toList_some]at hlook hnext;have HNE:=hid hnext;have hl:F.length+1<=maxLen:=by unfold maxLen;omega
    clear hnext htake hx hc hown hF hnx hfx
    go_wp2_with (at_builtin;refine wpList_append_own _ rfl _ _ 131 rfl w.heap.size 3 i0 _ 1 8 underlying131 hi hz0 hz1 hz2 rfl (by decide) _ _ _ rfl (HOWN.out.alloc _) ⟨wr.heap.size,0,none⟩ 1 1 [.int .i64 (i:Int)] rfl rfl ?qc2 ?qc3 hl ?qc5 ?qc6 ?_)
    case qc2=>exact cell_one_new _ _ _
    case qc3=>intro u hu;simp at hu;subst hu;rfl
    case qc5=>omega
    case qc6=>simp;omega
    intro v' w1 hown' hgrow hnil;have hown1:=HOWN.out;have hbb':Below w.heap.size w w1:=(HNX.out.alloc hsz _).grown hgrow (by simp;omega) (λj e=>(hown1.lt j e).1);have HO2:=hid (show w1.ownsRow w.heap.size 3 1 v' ((l.take (k+1)).filterMap f).length (((l.take (k+1)).filterMap f).map intV) by rw[HNE.out,List.length_append,List.map_append];exact hown');have HBB:=hid hbb';clear hown' hgrow hnil hbb' hown1;go_wp2;go_roundw
    case rel=>exact⟨k+1,by omega,by go_num,HO2.out,HBB.out⟩
    case measure=>simp[intOf];omega
   | none=>
    rw[hfx]at hlook hnext;simp only[Option.getD_none,Option.isSome_none,Option.toList_none,List.append_nil]at hlook hnext;have HNE:=hid hnext;clear hnext htake hx hc hown hF hnx hfx;go_wp2;go_roundw
    case rel=>exact⟨k+1,by omega,by go_num,by rw[HNE.out];exact HOWN.out,HNX.out⟩
    case measure=>simp[intOf];omega
  ·have hi1:¬(k:Int)<(l.length:Int):=by omega
   have hfull:l.take k=l:=List.take_of_length_le (by omega);have hown:=HO.out;rw[hfull]at hown;have HF:=hid hown;clear hown hfull hnx;go_wp2;go_ret;exact⟨_,rfl,HF.out,HNX.out⟩
def Zrj:Go.Shelf.Ren:=⟨fun|4=>227|n=>n,fun|0=>0|3=>3|4=>4|9=>9|20=>20|22=>131|25=>3|n=>n,λn=>n⟩
theorem lGw:Go.Proofs.Lays8.n4 prog Zrj:={
 mixed:=by kernel_rfl
 f4:=⟨"slices.Grow[[]int,int]",by decide,func227.trans (congrArg some (by kernel_rfl))⟩
 t0:=underlying0
 a0:=isAgg0
 z0:=sizeOf0
 v0:=zeroValue0
 t3:=underlying3
 a3:=isAgg3
 z3:=sizeOf3
 v3:=zeroValue3
 t4:=underlying4
 a4:=isAgg4
 z4:=sizeOf4
 v4:=zeroValue4
 t9:=underlying9
 a9:=isAgg9
 z9:=sizeOf9
 v9:=zeroValue9
 t20:=underlying20
 a20:=isAgg20
 z20:=sizeOf20
 v20:=zeroValue20
 t22:=underlying131
 a22:=isAgg131
 z22:=sizeOf131
 v22:=zeroValue131 }
theorem Zqv (base:Option Addr) (l c n:Nat) (w:World) (hlc:l<=c) (hc63:c<=9223372036854775807) (hn63:n<=9223372036854775807) (hroom:l+n<=c):Calls prog 227 #[.slice base l c,.int .i64 n] w λe w'=>e = .returned (.slice base l c)/\w'=w:=
 Any8.slices_Grow_room lGw base l c n w hlc hc63 hn63 hroom
theorem Zqu (n:Nat) (w:World) (hbig:n<=1000000000):Calls prog 227 #[.slice none 0 0,.int .i64 (n:Int)] w λe w'=>∃v,e = .returned v/\w'.ownsRow w.heap.size 3 1 v 0 []/\Below w.heap.size w w':=by
 rcases Nat.eq_zero_or_pos n with rfl|hn
 ·refine(Zqv none 0 0 0 w (Nat.le_refl _) (by omega) (by omega) (by omega)).mono ?_
  rintro e w' ⟨rfl,rfl⟩;exact⟨_,rfl,⟨rfl,.inl ⟨rfl,rfl⟩⟩,Below.refl _ _⟩
 obtain⟨i0,hi,hz0,hz1,hz2⟩:=info_parts Zsn;have:=Any8.slices_Grow_grow lGw i0 _ hi hz0 (by rw[hz1];decide) none 0 0 n [] w (Nat.le_refl _) (by omega) (by rw[hz2];omega) (by omega) (by simp) (λ_=>rfl) (λa h=>by cases h);refine Calls.mono this ?_;rintro e w' ⟨rfl,rfl⟩;have hge:=grownCap_ge w (0+n) 0 (Zrj.t 25);have hle:=grownCap_le_maxLen w (0+n) 0 (Zrj.t 25) (by unfold maxLen;omega);obtain⟨c,hc⟩:∃c,grownCap w (0+n) 0 (Zrj.t 25)=c:=⟨_,rfl⟩;rw[hc]at hge hle⊢;refine⟨_,rfl,⟨rfl,.inr ⟨w.heap.size,c,_,rfl,Nat.le_refl _,alloc_at w.drew _,Nat.zero_le _,hle,?_,rfl⟩⟩,?_⟩
 ·rw[Array.size_append,Array.size_append,size_zeroCells,size_zeroCells]
  show 0+(0+n-0)*1+(c-(0+n))*1=c*1;omega
 ·exact(below_drewN (Below.refl _ w) 1).alloc (Nat.le_refl _) _
theorem Zpi {ls:List (List Nat)} {k:Nat} {x:List Nat} (h:ls[k]? =some x):(ls.take (k+1)).flatten=(ls.take k).flatten++x:=by
 rw[List.take_add_one,h,List.flatten_append];simp
theorem Zpe (ls:List (List Nat)) (k:Nat):(ls.take k).flatten.length<=ls.flatten.length:=by
 have:=congrArg (λl:List (List Nat)=>l.flatten.length) (List.take_append_drop k ls);simp only[List.flatten_append,List.length_append]at this;omega
set_option maxHeartbeats 4000000
set_option maxRecDepth 100000
theorem Zkl (g:Nat) (ls:List (List Nat)) (c:Nat) (w:World) (hl:ls.length<=1000) (hlc:ls.length<=c) (hcm:c<=maxLen) (hg:g<w.heap.size) (hc:∀(k:Nat) x,ls[k]? =some x->∃v,w.cell? ⟨g,k,none⟩=some v/\IsInts w v x/\∀c,v = .slice none 0 c->c=0) (hT:ls.flatten.length<=100000000):
  Calls prog 177 #[.slice (some ⟨g,0,none⟩) ls.length c] w λe w'=>∃v,e = .returned v/\w'.ownsRow w.heap.size 3 1 v ls.flatten.length (ls.flatten.map intV)/\Below w.heap.size w w':=by
 obtain⟨i0,hi,hz0,hz1,hz2⟩:=info_parts Zsn;have HC:Hid (∀(k:Nat) x,ls[k]? =some x->∃a m,(IsInts w (.slice a x.length m) x/\(a=none->x.length=0->m=0))/\∀w',Below w.heap.size w w'->w'.cell? ⟨g,k,none⟩=some (.slice a x.length m)):=by
  show ∀(k:Nat) x,_;intro k x hx;obtain⟨v,hv,hiv,hnl⟩:=hc k x hx;obtain⟨a,m,rfl,_⟩:=id hiv;exact⟨a,m,⟨hiv,λh h0=>hnl m (by rw[h,h0])⟩,λw' hw=>(hw.cell (p:=⟨g,_,none⟩) hg).trans hv⟩
 have HR:Hid (Below w.heap.size w w):=hid (Below.refl _ _);have HT:=hid hT;obtain⟨fl,hfl0⟩:∃fl,ls.flatten=fl:=⟨_,rfl⟩;rw[hfl0];have HFL:=hid hfl0;unfold maxLen at hcm;clear hc hT hfl0
 go_enter func177,ntmps177
 go_wp2
 go_loopw [3,5,11,12,13,14,15,16,17,18,19,20,21,22] (λsz _ iv _ _ _ _ _ _ _ _ _ _ _ wr=>∃k:Nat,k<=ls.length/\iv = .int .i64 (k:Int)/\sz = .int .i64 ((ls.take k).flatten.length:Int)/\w=wr) (λ_ _ iv _ _ _ _ _ _ _ _ _ _ _ _=>ls.length-(intOf iv).toNat)
 case atStart=>exact⟨0,Nat.zero_le _,rfl,rfl,rfl⟩
 case round=>
  obtain⟨k,hk,rfl,rfl,rfl⟩:=hrel
  by_cases hlt:k<ls.length
  ·obtain⟨x,hx⟩:∃x,ls[k]? =some x:=⟨ls[k],List.getElem?_eq_getElem hlt⟩
   obtain⟨a,m,hiv,hcc⟩:=HC.out k x hx;have cx:=hcc _ HR.out;have hi1:(k:Int)<(ls.length:Int):=by omega
   have hi0:(0:Int)<=(k:Int):=by omega
   have hnx:=congrArg List.length (Zpi hx);rw[List.length_append]at hnx;have hle:=Zpe ls (k+1);have hT:=HT.out;obtain⟨q,hq⟩:∃q,(ls.take k).flatten.length=q:=⟨_,rfl⟩;obtain⟨xl,hxl⟩:∃xl,x.length=xl:=⟨_,rfl⟩;rw[hq,hxl]at hnx;rw[hq];rw[hxl]at cx;have HNX:=hid hnx;have hqb:q+xl<=100000000:=by omega
   clear hnx hle hT hq hxl hiv hcc hx;go_wp2;go_roundw
   case rel=>exact⟨k+1,by omega,by go_num,by rw[HNX.out];go_num,by first|rfl|trivial⟩
   case measure=>simp[intOf];omega
  ·have hi1:¬(k:Int)<(ls.length:Int):=by omega
   have hfl:(ls.take k).flatten=ls.flatten:=by rw[List.take_of_length_le (by omega)]
   rw[hfl];have hT:=HT.out;obtain⟨q,hq⟩:∃q,ls.flatten.length=q:=⟨_,rfl⟩;rw[hq]at hT⊢;have CG:=hid (Zqu q w (by omega));have HQ:=hid hq;clear hfl hq
   go_wp2_with (go_at_call 227;(with_reducible refine CG.out.mono ?_);rintro e w2 ⟨nv,rfl,hown2,hb2⟩;have HO2:=hid hown2;have HB2:=hid hb2;clear hown2 hb2)
   go_loopw [6,8,27,28,29,30,31,32,33,34] (λnv _ iv _ _ _ _ _ _ _ wr=>∃k:Nat,k<=ls.length/\iv = .int .i64 (k:Int)/\wr.ownsRow w.heap.size 3 1 nv (ls.take k).flatten.length ((ls.take k).flatten.map intV)/\Below w.heap.size w wr) (λ_ _ iv _ _ _ _ _ _ _ _=>ls.length-(intOf iv).toNat)
   case atStart=>exact⟨0,Nat.zero_le _,rfl,by simpa using HO2.out,HB2.out⟩
   case round=>
    obtain⟨k2,hk2,rfl,hown,hb⟩:=hrel;have HB:=hid hb
    by_cases hlt2:k2<ls.length
    ·obtain⟨x,hx⟩:∃x,ls[k2]? =some x:=⟨ls[k2],List.getElem?_eq_getElem hlt2⟩
     obtain⟨a,m,⟨hiv,hmz⟩,hcc⟩:=HC.out k2 x hx;have cx:=hcc _ HB.out;have hi1':(k2:Int)<(ls.length:Int):=by omega
     have hi0':(0:Int)<=(k2:Int):=by omega
     have hnx:=Zpi hx;have hle:=Zpe ls (k2+1);have hT:=HQ.out;obtain⟨F,hF⟩:∃F,(ls.take k2).flatten=F:=⟨_,rfl⟩;rw[hF]at hown hnx;have hlen:F.length+x.length<=100000000:=by rw[hnx,List.length_append]at hle;omega
     have HNX:=hid hnx;have HOWN:=hid hown;have hsz:=hb.size;obtain⟨a',m',ev,hxm,hmm,hxc⟩:=(hiv.below hb).at;obtain⟨ea,_,em⟩:=Value.slice.inj ev;subst ea em
     cases a with
     | none=>
      have hx0:x = []:=by
       cases x with
       | nil=>rfl
       | cons y r=>obtain⟨b,o,e,_⟩:=hxc 0 y rfl;cases e
      subst hx0;clear hnx hle hF hown hiv hcc hx hxc hb ev;simp only[List.length_nil]at cx hxm;have hm0:m=0:=hmz rfl rfl;clear hmz;subst hm0
      go_wp2_with (at_builtin;refine wpList_append_own_none rfl _ _ 131 rfl w.heap.size 3 i0 1 underlying131 hi _ _ _ rfl HOWN.out rfl ?_)
      go_roundw
      case rel=>exact⟨k2+1,by omega,by go_num,by rw[HNX.out,List.append_nil];exact HOWN.out,HB.out⟩
      case measure=>simp[intOf];omega
     | some ad=>
      have hcells:∀j u,(x.map intV)[j]? =some u->wr.cell? (ad.add j)=some u:=by
       intro j u hu;rw[List.getElem?_map]at hu
       cases hxj:x[j]? with
       | none=>rw[hxj]at hu;cases hu
       | some y=>
        rw[hxj]at hu;obtain rfl:intV y=u:=by simpa using hu
        obtain⟨b,o,e,hcw⟩:=hxc j y hxj;obtain rfl:=Option.some.inj e;have:=hcw wr (Below.refl _ _)
        by_cases hj:j=0
        ·subst hj;simpa[Addr.add,intV]using this
        ·simpa[Addr.add,hj,intV]using this
      have HCL:=hid hcells;clear hnx hle hF hown hiv hcc hx hxc hb hcells ev hmz
      go_wp2_with (at_builtin;refine wpList_append_own _ rfl _ _ 131 rfl w.heap.size 3 i0 _ 1 8 underlying131 hi hz0 hz1 hz2 rfl (by decide) _ _ _ rfl HOWN.out ad x.length m (x.map intV) rfl (by simp) ?qc2 ?qc3 ?qc4 ?qc5 ?qc6 ?_)
      case qc2=>first|exact HCL.out|(intro j u hu;exact HCL.out j _ (by rw[List.getElem?_map,hu];rfl))
      case qc3=>intro u hu;first|rfl|(obtain⟨y,_,rfl⟩:=List.mem_map.1 hu;rfl)
      case qc4=>unfold maxLen;omega
      case qc5=>omega
      intro v' w1 hown' hgrow hnil;have hown1:=HOWN.out;have HBB:=hid (HB.out.grown hgrow hsz (λj e=>(hown1.lt j e).1));have HO3:=hid (show w1.ownsRow w.heap.size 3 1 v' (ls.take (k2+1)).flatten.length ((ls.take (k2+1)).flatten.map intV) by rw[HNX.out,List.length_append,List.map_append];exact hown');clear hown' hgrow hnil hown1;go_wp2;go_roundw
      case rel=>exact⟨k2+1,by omega,by go_num,HO3.out,HBB.out⟩
      case measure=>simp[intOf];omega
    ·have hi1':¬(k2:Int)<(ls.length:Int):=by omega
     have hfl:(ls.take k2).flatten=ls.flatten:=by rw[List.take_of_length_le (by omega)]
     rw[hfl]at hown;rw[HFL.out]at hown;have HF:=hid hown;clear hown hfl hb;go_wp2;go_ret;refine⟨u6,rfl,?_,HB.out⟩;exact HF.out
open Go.Sort
theorem e189:nmRen.f 189=179:=by kernel_rfl
def OwnInts (B:Nat) (w:World) (v:Value) (xs:List Nat):Prop:=w.ownsRow B 3 1 v xs.length (xs.map intV)
def srtN (xs:List Nat):List Nat:=xs.mergeSort λx y=>decide (x<=y)
theorem Zbnf (xs:List Nat):(srtN xs).length=xs.length:=List.length_mergeSort _
theorem Zbne (xs:List Nat):((xs.map λ(x:Nat)=>(x:Int)).mergeSort λx y=>decide (x<=y))=(srtN xs).map λ(x:Nat)=>(x:Int):=by
 unfold srtN;rw[List.map_mergeSort];intro a _ b _;simp
theorem Ztl (xs:List Nat):(xs.map λ(x:Nat)=>(x:Int)).map (Value.int .i64)=xs.map intV:=by rw[List.map_map];rfl
set_option maxRecDepth 100000 in
theorem Zbme (B g c:Nat) (xs:List Nat) (w:World) (h:OwnInts B w (.slice (some ⟨g,0,none⟩) xs.length c) xs) (hn:xs.length<=8796093022208):
  Calls prog 179 #[.slice (some ⟨g,0,none⟩) xs.length c] w λe w'=>e = .returned (.tuple #[])/\OwnInts B w' (.slice (some ⟨g,0,none⟩) xs.length c) (srtN xs)/\w.grownBy w' (some g):=by
 obtain⟨hl,⟨hv,_⟩|⟨g',cap',cur,hv,hbase,hb,h1,h2,h3,h4⟩⟩:=h
 ·cases hv
 cases hv
 have hsl:(xs.map λ(x:Nat)=>(x:Int)).length=xs.length:=by simp
 have hH:Holds (Value.int .i64) w g 0 (xs.map λ(x:Nat)=>(x:Int)).toArray:=holds_of_blockI hb (by rw[hsl,Ztl];simpa using h4);have hgl:g<w.heap.size:=(Array.getElem?_eq_some_iff.1 hb).1;have hz:(xs.map λ(x:Nat)=>(x:Int)).length<4611686018427387904:=by rw[hsl];omega
 have hd:=λD:Nat=>AnyS.slices_Sort_int_in lLays_n189 D g 0 c (xs.map λ(x:Nat)=>(x:Int)) w hH hgl hz
 have hc:=calls_of_every_depth hd;rw[e189,hsl,Zbne]at hc;refine hc.mono ?_;rintro e w' ⟨rfl,n,os,rfl⟩;refine⟨rfl,?_,grownBy_sortedI _⟩;have:=ownsRow_sortedI (n:=n) (os:=os) (ts:=(srtN xs).map λ(x:Nat)=>(x:Int)) (ss:=xs.map λ(x:Nat)=>(x:Int)) (cap:=c) (by simp[Zbnf]) hbase hb (by rw[hsl];exact h1) h2 h3;rw[Ztl,hsl]at this;unfold OwnInts;rw[Zbnf];exact this
theorem Zbmf (a:Option Addr) (c:Nat) (w:World):Calls prog 179 #[.slice a 0 c] w λe w'=>e = .returned (.tuple #[])/\w'=w:=by
 have:=Any.slices_Sort_int_none lLays_n189 a c w
 rwa [e189]at this
def Zbdg (rs:List RuleS) (k:Nat):List ByteArray:=(rs[k]?.map (·.outs)).getD []
def Zta (rs:List RuleS) (k:Nat):List ByteArray:=(rs[k]?.map (·.ins)).getD []
def Zcs (rs:List RuleS) (k:Nat):List ByteArray:=(rs[k]?.map (·.after)).getD []
def Zbru (f:ByteArray->Option Nat) (ks:List ByteArray) (i:Nat):ByteArray->Option Nat:=ks.foldl (λf k=>updF f k i) f
def plcN (rs:List RuleS):Nat->ByteArray->Option Nat
 | 0=>λ_=>none
 | k+1=>updF (plcN rs k) (nmAt rs k) k
def mkrN (rs:List RuleS):Nat->ByteArray->Option Nat
 | 0=>λ_=>none
 | k+1=>Zbru (mkrN rs k) (Zbdg rs k) k
def Zban (rs:List RuleS) (k:Nat):List Nat:=srtN ((Zta rs k).filterMap (mkrN rs rs.length)++(Zcs rs k).filterMap (plcN rs rs.length))
theorem Zbrw {ks:List ByteArray} {j:Nat} {x:ByteArray} (f:ByteArray->Option Nat) (i:Nat) (h:ks[j]? =some x):Zbru f (ks.take (j+1)) i=updF (Zbru f (ks.take j) i) x i:=by
 unfold Zbru;rw[List.take_add_one,h,List.foldl_append];rfl
theorem Zbfm {k j:Nat} (h:k<=1000) (hj:j<=1048576):k*1048576+j<=4000000000000000:=by
 have h1:k*1048576<=1048576000:=Nat.mul_le_mul_right 1048576 h;generalize k*1048576=q at h1⊢;omega
theorem Zbfn (k:Nat) {j m:Nat} (h:m<=1048576) (hj:j<=m):k*1048576+j<=(k+1)*1048576:=by
 rw[Nat.succ_mul];exact Nat.add_le_add_left (Nat.le_trans hj h) _
theorem OwnInts.isInts {B:Nat} {w:World} {v:Value} {xs:List Nat} (h:OwnInts B w v xs):IsInts w v xs:=Zbdp h
theorem Zye (n:Nat) (hn:n<=1000000000) (w:World):(Instr.makeSlice 173 (.int .i64 (n:Int)) (.int .i64 (n:Int))).run prog w = .ok (.slice (some ⟨w.heap.size,0,none⟩) n n) (w.alloc (.cells (madeCells #[.slice none 0 0] n) 131)):=by
 obtain⟨i0,hi,hz,hs,hb⟩:=info_parts (show(prog.info? 131).map (λi=>(i.zero,i.size,i.bytes))=some (some (.slice none 0 0),1,24) by kernel_rfl);have:=run_make (P:=prog) w 173 131 i0 (.slice none 0 0) underlying173 hi hz .i64 .i64 n n (by omega) (Int.le_refl _) (by rw[hb];omega) (by omega);rw[hs,show(Value.slice none 0 0).cells = #[.slice none 0 0]from rfl]at this;simpa using this
theorem Zbiu {w:World} {r:RuleS} {a1 a2 a3 a4:Option Addr} {c1 c2 c3 c4:Nat} (hr:RuleI w [.string r.name,.slice a1 r.ins.length c1,.slice a2 r.outs.length c2,.slice a3 r.after.length c3,.slice a4 r.steps.length c4] r):IsStrs w (.slice a1 r.ins.length c1) r.ins:=by
 obtain⟨vi,vo,vf,vs,q,h1,h2,h3,h4⟩:=hr;simp only[List.cons.injEq,and_true,true_and]at q;obtain⟨rfl,rfl,rfl,rfl⟩:=q;exact h1
theorem Zbeb {B:Nat} {w:World} {v:Value} {n:Nat} {xs:List Value} {t:TypeId} (h:w.ownsRow B t 1 v n xs):∃a c,v = .slice a n c:=by
 rcases h.2 with⟨rfl,rfl⟩|⟨g,cap,cur,e,_⟩
 ·exact⟨_,_,rfl⟩
 ·exact⟨_,_,e⟩
theorem Zbdw {B:Nat} {w:World} {v:Value} {n:Nat} {xs:List Value} {t:TypeId} (h:w.ownsRow B t 1 v n xs):∀c,v = .slice none 0 c->c=0:=by
 rintro c rfl
 rcases h.2 with⟨e,_⟩|⟨g,cap,cur,e,_⟩
 ·exact(Value.slice.inj e).2.2
 ·cases e
def NeedsIs (w:World) (v:Value) (ns:List (List Nat)):Prop:=∃g,v = .slice (some ⟨g,0,none⟩) ns.length ns.length/\g<w.heap.size/\∀(k:Nat) x,ns[k]? =some x->∃u,w.cell? ⟨g,k,none⟩=some u/\IsInts w u x
set_option maxHeartbeats 8000000
set_option maxRecDepth 100000
theorem Zbau (v:Value) (rs:List RuleS) (w:World) (hv:RulesI w v rs) (hs:∀r∈rs,SmallR r 1048576) (hn:rs.length<=1000):
  Calls prog 127 #[v] w λe w'=>∃u,e = .returned u/\NeedsIs w' u ((List.range rs.length).map (Zban rs))/\Below w.heap.size w w':=by
 have mixed:prog.follows .mixedOrders=true:=by kernel_rfl
 have hmm:=@run_makeMap prog;have hmk:=Zye rs.length (by omega);obtain⟨va,vc,rfl,hvl,hvm⟩:=Zbjn hv;obtain⟨n,hnn⟩:∃n,w.heap.size=n:=⟨_,rfl⟩;obtain⟨W2,hW2⟩:∃W,(w.alloc (.map #[] 0)).alloc (.map #[] 0)=W:=⟨_,rfl⟩;have hb2:Below n w W2:=by rw[<-hW2,<-hnn];exact((Below.refl _ _).alloc (Nat.le_refl _) _).alloc (by simp) _
 have hs2:W2.heap.size=n+2:=by rw[<-hW2];simp[hnn]
 have hp2:PlcIs W2 n 0 (plcN rs 0):=by
  have:=Zbfc w;rw[hnn]at this;rw[<-hW2];exact this.heap (Below.heap_alloc _ _ _ (by simp[hnn]))
 have hm2:PlcIs W2 (n+1) 0 (mkrN rs 0):=by
  have:=Zbfc (w.alloc (.map #[] 0));rw[World.size_alloc,hnn]at this;rw[<-hW2];exact this
 have HV:=hid hv;have HS:=hid hs;have HNN:=hid hnn;have HW2:=hid hW2;have HB2:=hid hb2;have HS2:=hid hs2;have HP2:=hid hp2;have HM2:=hid hm2;unfold maxLen at hvm;rw[hnn];clear hv hs hW2 hb2 hs2 hp2 hm2
 go_enter func127,ntmps127
 go_wp2_with fail
 rw[HW2.out]
 go_loopw [5,6,8,16,17,18,19,20,21,22,23,24,25,26,27,28,29,30,31,32,33,34,35,36] (λ_ _ _ iv _ _ _ _ _ _ _ _ _ _ _ _ _ _ _ _ _ _ _ _ wr=>∃k:Nat,k<=rs.length/\iv = .int .i64 (k:Int)/\PlcIs wr n k (plcN rs k)/\PlcIs wr (n+1) (k*1048576) (mkrN rs k)/\Below n w wr/\n+2<=wr.heap.size) (λ_ _ _ iv _ _ _ _ _ _ _ _ _ _ _ _ _ _ _ _ _ _ _ _ _=>rs.length-(intOf iv).toNat)
 case atStart=>exact⟨0,Nat.zero_le _,rfl,HP2.out,by simpa using HM2.out,HB2.out,by rw[HS2.out];omega⟩
 case round=>
  obtain⟨k,hk,rfl,hp,hm,hb,hz⟩:=hrel
  by_cases hlt:k<rs.length
  ·obtain⟨y,hy⟩:∃y,rs[k]? =some y:=⟨rs[k],List.getElem?_eq_getElem hlt⟩
   have hbw:Below w.heap.size w wr:=by rw[HNN.out];exact hb
   obtain⟨g,o,cap,a1,c1,a2,c2,a3,c3,a4,c4,e,hg,hri,hyc⟩:=Zbjm HV.out hy;obtain⟨e1,_,e3⟩:=Value.slice.inj e;subst e1 e3;obtain⟨e0,e1,e2,e3,e4⟩:=hyc wr hbw;have hi1:(k:Int)<(rs.length:Int):=by omega
   have hi0:(0:Int)<=(k:Int):=by omega
   have hsy:=HS.out y (List.mem_of_getElem? hy);have hnm:y.name.size<=maxLen:=by have:=hsy.name;unfold maxLen;omega
   have hnx:plcN rs (k+1)=updF (plcN rs k) y.name k:=by rw[plcN];unfold nmAt;rw[hy];rfl
   have hnm2:mkrN rs (k+1)=Zbru (mkrN rs k) y.outs k:=by rw[mkrN];unfold Zbdg;rw[hy];rfl
   have hpa:PlcIs (wr.alloc (.cells #[.string y.name,.slice a1 y.ins.length c1,.slice a2 y.outs.length c2,.slice a3 y.after.length c3,.slice a4 y.steps.length c4] 50)) n k (plcN rs k):=hp.heap (Below.heap_alloc _ _ _ (by omega));obtain⟨w3,hput,hp3,ht3⟩:=hpa.put underlying221 (by omega) y.name hnm k;rw[<-hnx]at hp3;have hg3:=ht3.grown;have hsz3:w3.heap.size=wr.heap.size+1:=by obtain⟨_,_,_,_,_,e⟩:=ht3;rw[e];show((wr.alloc _).heap.setIfInBounds n _).size=_;rw[Array.size_setIfInBounds,World.size_alloc]
   have hm3:PlcIs w3 (n+1) (k*1048576) (mkrN rs k):=hm.heap ((hg3.block _ (by rw[World.size_alloc];omega) (λe=>by have:=Option.some.inj e;omega)).trans (Below.heap_alloc _ _ _ (by omega)));have hb3:Below n w w3:=(hb.alloc (by omega) _).grown hg3 (by rw[World.size_alloc];omega) (λj e=>by cases e;omega);have hx3:w3.heap[wr.heap.size]? =some (.cells #[.string y.name,.slice a1 y.ins.length c1,.slice a2 y.outs.length c2,.slice a3 y.after.length c3,.slice a4 y.steps.length c4] 50):=(hg3.block _ (by rw[World.size_alloc];omega) (λe=>by have:=Option.some.inj e;omega)).trans (alloc_at wr _);obtain⟨d0,d1,d2,d3,d4,_⟩:=cells5 hx3;obtain⟨oa,oc,eo,hol,hom,hocc⟩:=Zua (Zbiv hri);obtain⟨eo1,_,eo3⟩:=Value.slice.inj eo;subst eo1 eo3;have HOC:Hid (∀(j:Nat) x,y.outs[j]? =some x->∃b' o',a2=some ⟨b',o',none⟩/\∀w',Below n w w'->w'.cell? ⟨b',o'+j,none⟩=some (.string x)):=by
    show ∀(j:Nat) x,_;intro j x hx;obtain⟨b',o',e,hc⟩:=hocc j x hx;exact⟨b',o',e,λw' hw=>hc w' (by rw[HNN.out];exact hw)⟩
   have HOS:=hid (Zblx hsy.outs);have hol1:=hsy.outs.1;unfold maxLen at hom;have HP3:=hid hp3;have HM3:=hid hm3;have HB3:=hid hb3;have HSZ3:=hid hsz3;have HNM2:=hid hnm2;have HZ:=hid hz;clear hp hm hb hz hbw hri hyc hg hsy hnx hnm2 hpa hp3 ht3 hg3 hsz3 hm3 hb3 hx3 hocc hy eo e;go_wp2
   go_loopw [8,28,29,30,31,32,33,34,35] (λ_ jv _ _ _ _ _ _ _ wq=>∃j:Nat,j<=y.outs.length/\jv = .int .i64 (j:Int)/\PlcIs wq n (k+1) (plcN rs (k+1))/\PlcIs wq (n+1) (k*1048576+j) (Zbru (mkrN rs k) (y.outs.take j) k)/\Below n w wq/\n+2<=wq.heap.size) (λ_ jv _ _ _ _ _ _ _ _=>y.outs.length-(intOf jv).toNat)
   case atStart=>exact⟨0,Nat.zero_le _,rfl,HP3.out,by simpa[Zbru]using HM3.out,HB3.out,by rw[HSZ3.out];have:=HZ.out;omega⟩
   case round=>
    obtain⟨j,hj,rfl,hp,hm,hb,hz⟩:=hrel
    by_cases hlt2:j<y.outs.length
    ·obtain⟨x,hx⟩:∃x,y.outs[j]? =some x:=⟨y.outs[j],List.getElem?_eq_getElem hlt2⟩
     obtain⟨b',o',q1,hc⟩:=HOC.out j x hx;subst q1;have cx:=hc _ hb;have hj1:(j:Int)<(y.outs.length:Int):=by omega
     have hj0:(0:Int)<=(j:Int):=by omega
     obtain⟨w4,hput4,hm4,ht4⟩:=hm.put underlying221 (Zbfm (by omega) (by omega)) x (HOS.out x (List.mem_of_getElem? hx)) k;rw[<-Zbrw _ _ hx]at hm4;have hg4:=ht4.grown;have HM4:=hid hm4;have HP4:=hid (hp.heap (hg4.block _ (by omega) (λe=>by have:=Option.some.inj e;omega)));have HB4:=hid (hb.grown hg4 (by omega) (λj e=>by cases e;omega));have HZ4:Hid (n+2<=w4.heap.size):=hid (by have:=hg4.size;omega);clear hp hm hb hz hc hx hm4 ht4 hg4 hput;go_wp2;go_roundw
     case rel=>exact⟨j+1,by omega,by go_num,HP4.out,by have:=HM4.out;rwa [Nat.add_assoc]at this,HB4.out,HZ4.out⟩
     case measure=>simp[intOf];omega
    ·have hj1:¬(j:Int)<(y.outs.length:Int):=by omega
     have HM5:Hid (PlcIs _ (n+1) (k*1048576+j) (mkrN rs (k+1))):=hid (by rw[List.take_of_length_le (by omega),<-HNM2.out]at hm;exact hm);have HP5:=hid hp;have HB5:=hid hb;have HZ5:=hid hz;clear hp hm hb hz hput;go_wp2;go_roundw
     case rel=>exact⟨k+1,by omega,by go_num,HP5.out,HM5.out.more (Zbfn k hol1 hj),HB5.out,HZ5.out⟩
     case measure=>simp[intOf];omega
  ·have hi1:¬(k:Int)<(rs.length:Int):=by omega
   obtain rfl:k=rs.length:=by omega
   have HP:=hid hp;have HM:=hid hm;have HB:=hid hb;have HZ:=hid hz;clear hp hm hb hz;obtain⟨g,hgs⟩:∃g,wr.heap.size=g:=⟨_,rfl⟩;obtain⟨W5,hW5⟩:∃W,wr.alloc (.cells (madeCells #[.slice none 0 0] rs.length) 131)=W:=⟨_,rfl⟩;have hr5:ValRw 131 W5 g (List.replicate rs.length (.slice none 0 0)):=by rw[<-hW5,<-hgs];exact Zbsd _ _ _ _
   have hs5:W5.heap.size=g+1:=by rw[<-hW5,World.size_alloc,hgs]
   have hb5:Below g wr W5:=by rw[<-hW5,<-hgs];exact(Below.refl _ _).alloc (Nat.le_refl _) _
   have hz:=HZ.out;have HP5:Hid (PlcIs W5 n rs.length (plcN rs rs.length)):=hid (HP.out.heap (hb5.block _ (by omega)));have HM5:Hid (PlcIs W5 (n+1) (rs.length*1048576) (mkrN rs rs.length)):=hid (HM.out.heap (hb5.block _ (by omega)));have HB5:Hid (Below n w W5):=hid (HB.out.trans (hb5.mono (by omega)));have HR5:=hid hr5;have HS5:=hid hs5;have HW5:=hid hW5;have HG:Hid (n+2<=g):=hid (by omega);have HGS:=hid hgs;clear hr5 hs5 hb5 hW5 hz
   go_wp2_with fail
   rw[HW5.out]
   go_loopw [10,11,42,43,44,45,46,47,48,49,50,51,52,53,54,55,56,57,58,59,60,61,62,63,64,65] (λ_ _ iv _ _ _ _ _ _ _ _ _ _ _ _ _ _ _ _ _ _ _ _ _ _ _ wr=>∃(k:Nat) (vs:List Value),k<=rs.length/\iv = .int .i64 (k:Int)/\vs.length=k/\ValRw 131 wr g (vs++List.replicate (rs.length-k) (Value.slice none 0 0))/\(∀(j:Nat) u,vs[j]? =some u->OwnInts (g+1) wr u (Zban rs j))/\PlcIs wr n rs.length (plcN rs rs.length)/\PlcIs wr (n+1) (rs.length*1048576) (mkrN rs rs.length)/\Below n w wr/\g+1<=wr.heap.size) (λ_ _ iv _ _ _ _ _ _ _ _ _ _ _ _ _ _ _ _ _ _ _ _ _ _ _ _=>rs.length-(intOf iv).toNat)
   case atStart=>exact⟨0,[],Nat.zero_le _,rfl,rfl,by simpa using HR5.out,λj u h=>by simp at h,HP5.out,HM5.out,HB5.out,by rw[HS5.out];exact Nat.le_refl _⟩
   case round=>
    obtain⟨k,vs,hk,rfl,hvl,hr,hvs,hp,hm,hb,hz⟩:=hrel
    by_cases hlt:k<rs.length
    ·obtain⟨y,hy⟩:∃y,rs[k]? =some y:=⟨rs[k],List.getElem?_eq_getElem hlt⟩
     have hbw:Below w.heap.size w wr:=by rw[HNN.out];exact hb
     obtain⟨g',o,cap,a1,c1,a2,c2,a3,c3,a4,c4,e,hg,hri,hyc⟩:=Zbjm HV.out hy;obtain⟨e1,_,e3⟩:=Value.slice.inj e;subst e1 e3;obtain⟨e0,e1,e2,e3,e4⟩:=hyc wr hbw;have hi1:(k:Int)<(rs.length:Int):=by omega
     have hi0:(0:Int)<=(k:Int):=by omega
     have HR:=hid hr;have HVS:=hid hvs;have HP:=hid hp;have HM:=hid hm;have HB:=hid hb;have HZ:=hid hz;have HRI:=hid hri;have HY:=hid hy;have HVL:=hid hvl;have hsy:=HS.out y (List.mem_of_getElem? hy);obtain⟨I,hI⟩:∃I,y.ins.filterMap (mkrN rs rs.length)=I:=⟨_,rfl⟩;obtain⟨A,hA⟩:∃A,y.after.filterMap (plcN rs rs.length)=A:=⟨_,rfl⟩;have hIl:I.length<=1048576:=by rw[<-hI];exact Nat.le_trans (List.length_filterMap_le _ _) hsy.ins.1
     have hAl:A.length<=1048576:=by rw[<-hA];exact Nat.le_trans (List.length_filterMap_le _ _) hsy.after.1
     have HNE:Hid (Zban rs k=srtN (I++A)):=hid (by unfold Zban Zta Zcs;rw[hy];show srtN (y.ins.filterMap _++y.after.filterMap _)=_;rw[hI,hA]);obtain⟨bs,hbs⟩:∃bs,wr.heap.size=bs:=⟨_,rfl⟩;obtain⟨WB,hWB⟩:∃W,wr.alloc (.cells #[.string y.name,.slice a1 y.ins.length c1,.slice a2 y.outs.length c2,.slice a3 y.after.length c3,.slice a4 y.steps.length c4] 50)=W:=⟨_,rfl⟩;have hb1:Below bs wr WB:=by rw[<-hWB,<-hbs];exact(Below.refl _ _).alloc (Nat.le_refl _) _
     have hsB:WB.heap.size=bs+1:=by rw[<-hWB,World.size_alloc,hbs]
     have hxB:WB.heap[bs]? =some (.cells #[.string y.name,.slice a1 y.ins.length c1,.slice a2 y.outs.length c2,.slice a3 y.after.length c3,.slice a4 y.steps.length c4] 50):=by rw[<-hWB,<-hbs];exact alloc_at wr _
     have hbB:Below n w WB:=hb.trans (hb1.mono (by have:=HG.out;omega));have hgz:=HG.out;have CF1:Hid (∀W,Below WB.heap.size WB W->Calls prog 178 #[.map (some (n+1)),.slice a1 y.ins.length c1] W (Zax W I)):=by
      show ∀W,_;intro W hW;rw[<-hI];exact Zpt (n+1) _ _ _ y.ins W (hm.heap ((hW.block _ (by omega)).trans (hb1.block _ (by omega)))) ((Zbiu hri).below (by rw[HNN.out];exact hbB.trans (hW.mono (by omega)))) hsy.ins.1 (Zblx hsy.ins)
     have CF2:Hid (∀W,Below WB.heap.size WB W->Calls prog 178 #[.map (some n),.slice a3 y.after.length c3] W (Zax W A)):=by
      show ∀W,_;intro W hW;rw[<-hA];exact Zpt n _ _ _ y.after W (hp.heap ((hW.block _ (by omega)).trans (hb1.block _ (by omega)))) ((Zbis hri).below (by rw[HNN.out];exact hbB.trans (hW.mono (by omega)))) hsy.after.1 (Zblx hsy.after)
     have HRW:Hid (∀W,Below WB.heap.size WB W->W.cell? ⟨g,k,none⟩=some (.slice none 0 0)/\W.frozen? ⟨g,k,none⟩=false):=by
      show ∀W,_;intro W hW;exact ValRw.cell (w:=W) (show ValRw _ W g _ from(hW.block _ (by omega)).trans ((hb1.block _ (by omega)).trans hr)) (by rw[List.getElem?_append_right (by omega),hvl,Nat.sub_self,List.getElem?_replicate,if_pos (by omega)])
     have HVR:Hid (∀W,Below WB.heap.size WB W->ValRw 131 W g (vs++List.replicate (rs.length-k) (Value.slice none 0 0))/\(∀(j:Nat) u,vs[j]? =some u->OwnInts (g+1) W u (Zban rs j))/\PlcIs W n rs.length (plcN rs rs.length)/\PlcIs W (n+1) (rs.length*1048576) (mkrN rs rs.length)):=by
      show ∀W,_;intro W hW;have hk:∀i,i<bs->W.heap[i]? =wr.heap[i]?:=λi hi=>(hW.block _ (by omega)).trans (hb1.block _ hi)
      have hWs:=hW.size;exact⟨(hk _ (by omega)).trans hr,λj u hu=>World.ownsRow.kept (row:=none) (hvs j u hu) ⟨hW.os.trans hb1.os,hW.tape.trans hb1.tape,hW.output.trans hb1.output,by omega,λi hi _=>hk i (by omega)⟩ (by cases Value.ownBlock _<;>simp),hp.heap (hk _ (by omega)),hm.heap (hk _ (by omega))⟩
     have HCS:Hid (∀W:World,W.heap[bs]? =some (.cells #[.string y.name,.slice a1 y.ins.length c1,.slice a2 y.outs.length c2,.slice a3 y.after.length c3,.slice a4 y.steps.length c4] 50)->W.cell? ⟨bs,0,none⟩=some (.string y.name)/\W.cell? ⟨bs,1,none⟩=some (.slice a1 y.ins.length c1)/\W.cell? ⟨bs,2,none⟩=some (.slice a2 y.outs.length c2)/\W.cell? ⟨bs,3,none⟩=some (.slice a3 y.after.length c3)/\W.cell? ⟨bs,4,none⟩=some (.slice a4 y.steps.length c4)):=by
      show ∀W:World,_;intro W hW;obtain⟨q0,q1,q2,q3,q4,_⟩:=cells5 hW;exact⟨q0,q1,q2,q3,q4⟩
     have HB1:=hid hb1;have HSB:=hid hsB;have HXB:=hid hxB;have HBB:=hid hbB;have HWB:=hid hWB;have HBS:=hid hbs;have CC:Hid (∀W v3 v4,Below WB.heap.size WB W->W.ownsRow WB.heap.size 3 1 v3 I.length (I.map intV)->W.ownsRow WB.heap.size 3 1 v4 A.length (A.map intV)->Calls prog 177 #[.slice (some ⟨W.heap.size,0,none⟩) 2 2] (W.alloc (.cells #[v3,v4] 131)) λe w'=>∃v,e = .returned v/\w'.ownsRow WB.heap.size 3 1 v (I++A).length ((I++A).map intV)/\Below WB.heap.size WB w'):=by
      show ∀W v3 v4,_;intro W v3 v4 hW h3 h4;have hbl:Below W.heap.size W (W.alloc (.cells #[v3,v4] 131)):=(Below.refl _ _).alloc (Nat.le_refl _) _;have hc:∀(i:Nat) u,#[v3,v4][i]? =some u->(W.alloc (.cells #[v3,v4] 131)).cell? ⟨W.heap.size,i,none⟩=some u:=by
       intro i u hu;simp only[World.cell?,alloc_at,Option.isSome_none,Bool.false_eq_true,if_false];exact hu
      have:=Zkl W.heap.size [I,A] 2 (W.alloc (.cells #[v3,v4] 131)) (by simp) (by simp) (by decide) (by rw[World.size_alloc];omega) (λj x hx=>by
       match j,hx with
       | 0,hx=>
             obtain rfl:I=x:=by simpa using hx
             exact⟨v3,hc 0 _ rfl,(Zbdp h3).below hbl,Zbdw h3⟩
       | 1,hx=>
             obtain rfl:A=x:=by simpa using hx
             exact⟨v4,hc 1 _ rfl,(Zbdp h4).below hbl,Zbdw h4⟩) (by simp;omega)
      simp only[List.flatten_cons,List.flatten_nil,List.append_nil]at this;refine this.mono ?_;rintro e w' ⟨v,rfl,ho,hb'⟩;have hWs:=hW.size;exact⟨v,rfl,Zbdt ho (by rw[World.size_alloc];omega),hW.trans ((hbl.trans (hb'.mono (by rw[World.size_alloc];omega))).mono hWs)⟩
     have hsy:True:=trivial;clear hr hvs hp hm hb hz hri hyc hg hy hbw e hsy hI hA hb1 hsB hxB hbB hWB hbs hgz hvl
     go_wp2_with fail
     rw[HWB.out,HBS.out];refine wp_region_held_drew (S:=(λW=>W.cell? ⟨bs,0,none⟩=some (.string y.name)/\W.cell? ⟨bs,1,none⟩=some (.slice a1 y.ins.length c1)/\W.cell? ⟨bs,2,none⟩=some (.slice a2 y.outs.length c2)/\W.cell? ⟨bs,3,none⟩=some (.slice a3 y.after.length c3)/\W.cell? ⟨bs,4,none⟩=some (.slice a4 y.steps.length c4))) (by kernel_rfl) ?_ (λhHeld=>?_)
     ·exact HCS.out _ HXB.out
     refine tkH 0 (v:=?_) ?_ ?_;rotate_left
     ·intro w hSw;obtain⟨q0,q1,q2,q3,q4⟩:=hSw;go_simp;try with_reducible rfl
     try simp only[Act.put,sA,sZ,sS]
     refine tkH 1 (v:=?_) ?_ ?_;rotate_left
     ·intro w hSw;obtain⟨q0,q1,q2,q3,q4⟩:=hSw;go_simp;try with_reducible rfl
     try simp only[Act.put,sA,sZ,sS]
     refine tkH 2 (v:=?_) ?_ ?_;rotate_left
     ·intro w hSw;obtain⟨q0,q1,q2,q3,q4⟩:=hSw;go_simp;try with_reducible rfl
     try simp only[Act.put,sA,sZ,sS]
     refine tkH 3 (v:=?_) ?_ ?_;rotate_left
     ·intro w hSw;obtain⟨q0,q1,q2,q3,q4⟩:=hSw;go_simp;try with_reducible rfl
     try simp only[Act.put,sA,sZ,sS]
     refine tkH 4 (v:=?_) ?_ ?_;rotate_left
     ·intro w hSw;obtain⟨q0,q1,q2,q3,q4⟩:=hSw;go_simp;try with_reducible rfl
     try simp only[Act.put,sA,sZ,sS]
     refine tkH 6 (v:=?_) ?_ ?_;rotate_left
     ·intro w hSw;obtain⟨q0,q1,q2,q3,q4⟩:=hSw;go_simp;try with_reducible rfl
     try simp only[Act.put,sA,sZ,sS]
     refine tkH 7 (v:=?_) ?_ ?_;rotate_left
     ·intro w hSw;obtain⟨q0,q1,q2,q3,q4⟩:=hSw;go_simp;try with_reducible rfl
     try simp only[Act.put,sA,sZ,sS]
     refine tkH 8 (v:=?_) ?_ ?_;rotate_left
     ·intro w hSw;obtain⟨q0,q1,q2,q3,q4⟩:=hSw;go_simp;try with_reducible rfl
     try simp only[Act.put,sA,sZ,sS]
     refine rdH [5] ?_;refine rcH (λK hK=>?_) ?_
     ·go_simp;refine(CF1.out _ (below_drewN (Below.refl _ _) 1)).mono ?_;rintro e w3 ⟨v3,rfl,hown3,hb3⟩;obtain⟨p3,k3,rfl⟩:=Zbeb hown3;have HO3:=hid (show w3.ownsRow WB.heap.size _ 1 _ _ _ from hown3);have HB3:=hid ((below_drewN (Below.refl WB.heap.size WB) 1).trans hb3);clear hown3 hb3;dsimp only
      refine hK.out _ _ ?_ (λhHeld=>?_)
      ·try dsimp only
       exact HCS.out _ ((HB3.out.block _ (by have:=HSB.out;omega)).trans HXB.out)
      clear hK K
      try simp only[Act.put,sA,sZ,sS]
      refine rdH [9] ?_;refine rcH (λK hK=>?_) ?_
      ·go_simp;refine(CF2.out _ HB3.out).mono ?_;rintro e w4 ⟨v4,rfl,hown4,hb4⟩;obtain⟨p4,k4,rfl⟩:=Zbeb hown4;have HO4:=hid (Zbdt hown4 HB3.out.size);have HO3:=hid (World.ownsRow.kept (row:=none) HO3.out ⟨hb4.os,hb4.tape,hb4.output,hb4.size,λk hk _=>hb4.block k hk⟩ (by cases Value.ownBlock _<;>simp));have HB4:=hid (HB3.out.trans (hb4.mono HB3.out.size));clear hown4 hb4;dsimp only
       refine hK.out _ _ ?_ (λhHeld=>?_)
       ·try dsimp only
        exact HCS.out _ ((HB4.out.block _ (by have:=HSB.out;omega)).trans HXB.out)
       clear hK K
       try simp only[Act.put,sA,sZ,sS]
       refine rdH [10] ?_;refine rcH (λK hK=>?_) ?_
       ·go_simp
        refine hK.out _ _ ?_ (λhHeld=>?_)
        ·try dsimp only
         exact HCS.out _ ((Below.heap_alloc _ _ _ (by have:=HB4.out.size;have:=HSB.out;omega)).trans ((HB4.out.block _ (by have:=HSB.out;omega)).trans HXB.out))
        clear hK K
        try simp only[Act.put,sA,sZ,sS]
        refine rdH [11] ?_;refine rcH (λK hK=>?_) ?_
        ·go_simp;refine(CC.out _ _ _ HB4.out HO3.out HO4.out).mono ?_;rintro e w6 ⟨v6,rfl,hown6,hb6⟩;obtain⟨p6,k6,rfl⟩:=Zbeb hown6;have HO6:=hid hown6;have HB6:=hid hb6;clear hown6 hb6;dsimp only
         refine hK.out _ _ ?_ (λhHeld=>?_)
         ·try dsimp only
          exact HCS.out _ ((HB6.out.block _ (by have:=HSB.out;omega)).trans HXB.out)
         clear hK K
         try simp only[Act.put,sA,sZ,sS]
         refine tkH 12 (v:=?_) ?_ ?_;rotate_left
         ·intro w hSw;obtain⟨q0,q1,q2,q3,q4⟩:=hSw;go_simp;try with_reducible rfl
         try simp only[Act.put,sA,sZ,sS]
         refine rdH [13] ?_;refine rcH (λK hK=>?_) ?_
         ·obtain⟨f1,f2⟩:=HRW.out w6 HB6.out;go_simp
          refine hK.out _ _ ?_ (λhHeld=>?_)
          ·try dsimp only
           exact HCS.out _ ((Below.heap_setCell _ _ _ _ (by show bs≠g;have:=HZ.out;have:=HBS.out;omega)).trans ((HB6.out.block _ (by have:=HSB.out;omega)).trans HXB.out))
          clear hK K
          try simp only[Act.put,sA,sZ,sS]
          refine wpAnyH_done (by kernel_rfl) ?_ _;obtain⟨hr6,hvs6,hp6,hm6⟩:=HVR.out w6 HB6.out;have hz:=HZ.out;have hbs:=HBS.out;have hsB:=HSB.out;have hg:=HG.out;have hs6:=HB6.out.size;obtain⟨w7,hw7⟩:∃w7,w6.setCell ⟨g,k,none⟩ (.slice p6 (I++A).length k6)=w7:=⟨_,rfl⟩;have hr7:=hr6.set k (.slice p6 (I++A).length k6);have hset:(vs++List.replicate (rs.length-k) (Value.slice none 0 0)).set k (.slice p6 (I++A).length k6)=vs ++ [.slice p6 (I++A).length k6]++List.replicate (rs.length-(k+1)) (Value.slice none 0 0):=by
           have e:rs.length-k=(rs.length-(k+1))+1:=by omega
           rw[List.set_append_right _ _ (by have:=HVL.out;omega),HVL.out,Nat.sub_self,e,List.replicate_succ,List.set_cons_zero,List.append_assoc];rfl
          have hg7:w6.grownBy w7 (some g):=by rw[<-hw7];exact⟨rfl,rfl,rfl,by simp[World.setCell],λi hi hne=>Below.heap_setCell _ _ _ _ (λe=>hne (by rw[e]))⟩
          rw[hset,hw7]at hr7;have ho7:OwnInts (bs+1) w7 (.slice p6 (I++A).length k6) (I++A):=World.ownsRow.kept (by have:=HO6.out;rwa [hsB]at this) hg7 (.inr (row_ne_low HO6.out (by omega)).symm);have hvs7:∀(j:Nat) u,vs[j]? =some u->OwnInts (g+1) w7 u (Zban rs j):=λj u hu=>World.ownsRow.kept (hvs6 j u hu) hg7 (.inr (row_ne_low (hvs6 j u hu) (Nat.lt_succ_self g)).symm)
          have hp7:=hp6.heap (hg7.block _ (by omega) (λe=>by have:=Option.some.inj e;omega));have hm7:=hm6.heap (hg7.block _ (by omega) (λe=>by have:=Option.some.inj e;omega));have hb7:Below n w w7:=(HBB.out.trans (HB6.out.mono (by omega))).grown hg7 (by omega) (λj e=>by cases e;omega);have hs7:=hg7.size;obtain⟨f1,f2⟩:=hr7.cell (k:=k) (m:= .slice p6 (I++A).length k6) (by rw[List.getElem?_append_left (by rw[List.length_append,HVL.out];simp),List.getElem?_append_right (by rw[HVL.out];exact Nat.le_refl _),HVL.out,Nat.sub_self];rfl);have CSO:Hid (Calls prog 179 #[.slice p6 (I++A).length k6] w7 λe w8=>e = .returned (.tuple #[])/\∃row,w7.grownBy w8 row/\(∀j,row=some j->bs+1<=j)/\OwnInts (g+1) w8 (.slice p6 (I++A).length k6) (srtN (I++A))):=by
           show Calls _ _ _ _ _
           rcases id ho7.2 with⟨e,h0⟩|⟨g6,cap,cur,e,_⟩
           ·obtain⟨e1,_,e3⟩:=Value.slice.inj e
            have hnil:I++A = []:=List.eq_nil_of_length_eq_zero h0;rw[hnil]at ho7⊢;refine(Zbmf p6 k6 w7).mono ?_;rintro e w' ⟨rfl,rfl⟩;refine⟨rfl,none,Zrh _ _,(λj h=>by cases h),?_⟩;rw[show srtN [] = [] by simp[srtN]];exact Zbdt ho7 (by omega)
           ·obtain⟨e1,_,e3⟩:=Value.slice.inj e
            subst e1 e3;refine(Zbme (bs+1) g6 k6 (I++A) w7 ho7 (by rw[List.length_append];omega)).mono ?_;rintro e w' ⟨rfl,ho8,hg8⟩;have hg6:=(World.ownsRow.lt ho7 g6 rfl).1;exact⟨rfl,some g6,hg8,(λj h=>by cases h;exact hg6),Zbdt (by unfold OwnInts at ho8;rw[Zbnf]at ho8;show World.ownsRow _ _ _ _ _ _ _;rw[Zbnf];exact ho8) (by omega)⟩
          have HK7:Hid (∀w8 row,w7.grownBy w8 row->(∀j,row=some j->bs+1<=j)->OwnInts (g+1) w8 (.slice p6 (I++A).length k6) (srtN (I++A))->∃vs':List Value,vs'.length=k+1/\ValRw 131 w8 g (vs'++List.replicate (rs.length-(k+1)) (Value.slice none 0 0))/\(∀(j:Nat) u,vs'[j]? =some u->OwnInts (g+1) w8 u (Zban rs j))/\PlcIs w8 n rs.length (plcN rs rs.length)/\PlcIs w8 (n+1) (rs.length*1048576) (mkrN rs rs.length)/\Below n w w8/\g+1<=w8.heap.size):=by
           show ∀w8 row,_;intro w8 row hg8 hrow ho8;have hb:∀i,i<bs->w8.heap[i]? =w7.heap[i]?:=λi hi=>hg8.block i (by omega) (λe=>by have:=hrow i e.symm;omega)
           refine⟨vs ++ [.slice p6 (I++A).length k6],by rw[List.length_append,HVL.out];rfl,(by have h:=hb g (by omega);unfold ValRw at hr7⊢;rw[h];exact hr7),λj u hu=>?_,hp7.heap (hb _ (by omega)),hm7.heap (hb _ (by omega)),hb7.grown hg8 (by omega) (λj e=>by have:=hrow j e;omega),by have:=hg8.size;omega⟩
           by_cases hj:j<vs.length
           ·rw[List.getElem?_append_left hj]at hu
            refine World.ownsRow.kept (hvs7 j u hu) hg8 ?_
            cases hob:u.ownBlock with
            | none=>exact .inl rfl
            | some b=>
              right;intro e;have h1:=((HVS.out j u hu).lt b hob).2;have h2:=hrow b e.symm;omega
           ·rw[List.getElem?_append_right (by omega)]at hu
            have hjk:j=k:=by
              have h1:j-vs.length<1:=(List.getElem?_eq_some_iff.1 hu).1;have:=HVL.out;omega
            subst hjk;rw[HVL.out,Nat.sub_self]at hu;obtain rfl:Value.slice p6 (I++A).length k6=u:=by simpa using hu
            rw[HNE.out];exact ho8
          rw[<-List.length_append,hw7];obtain⟨m,hmm'⟩:∃m,(I++A).length=m:=⟨_,rfl⟩;rw[hmm']at CSO HK7 f1⊢;clear hr6 hvs6 hp6 hm6 hz hbs hsB hg hs6 hw7 hr7 hset hg7 ho7 hvs7 hp7 hm7 hb7 hs7
          go_wp2_with (go_at_call 179;(with_reducible refine CSO.out.mono ?_);rintro e w8 ⟨rfl,row,hg8,hrow,ho8⟩;have HFIN:=hid (HK7.out w8 row hg8 hrow ho8);clear hg8 hrow ho8)
          go_roundw
          case rel=>
           obtain⟨vs',r1,r2,r3,r4,r5,r6,r7⟩:=HFIN.out;exact⟨k+1,vs',by omega,by go_num,r1,r2,r3,r4,r5,r6,r7⟩
          case measure=>simp[intOf];omega
         exact AllReadyH.nil
        exact AllReadyH.nil
       exact AllReadyH.nil
      exact AllReadyH.nil
     exact AllReadyH.nil
    ·have hi1:¬(k:Int)<(rs.length:Int):=by omega
     have hk':k=rs.length:=by omega
     rw[hk',Nat.sub_self,List.replicate_zero,List.append_nil]at hr;have HF:Hid (NeedsIs wr (.slice (some ⟨g,0,none⟩) rs.length rs.length) ((List.range rs.length).map (Zban rs))):=by
      refine⟨g,by simp,(Array.getElem?_eq_some_iff.1 hr).1,λj x hx=>?_⟩;have hj:j<rs.length:=by have:=(List.getElem?_eq_some_iff.1 hx).1;simpa using this
      obtain⟨u,hu⟩:∃u,vs[j]? =some u:=⟨vs[j]'(by omega),List.getElem?_eq_getElem _⟩;rw[List.getElem?_map,List.getElem?_range hj]at hx;obtain rfl:Zban rs j=x:=by simpa using hx
      exact⟨u,(hr.cell hu).1,(hvs j u hu).isInts⟩
     have HB:=hid hb;clear hvl hr hvs hp hm hb hz hk';go_wp2;go_ret;exact⟨_,rfl,HF.out,HB.out⟩
end Go.Proofs.YtokogjhcidkckaaGreatDoor
