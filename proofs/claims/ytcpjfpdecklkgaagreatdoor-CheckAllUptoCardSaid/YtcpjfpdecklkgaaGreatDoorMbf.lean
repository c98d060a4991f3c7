import Derived.Test.YtcpjfpdecklkgaaGreatDoorMbe
import Derived.Shelf.Spec.SlicesGrow
import Derived.Laws.AppendOwnNone
import Derived.Sort.OwnSortedInts
import Derived.Shelf.Slices.In.SortNone
namespace Go.Proofs.YtcpjfpdecklkgaaGreatDoor
open Go.Lib (hid)
open Go.Proofs.Tryz
open Go.RowKit Go.Shelf Go.Maps
def PlcIs (w:World) (b:Nat) (N:Nat) (f:ByteArray->Option Nat):Prop:=∃m,MapIs prog 9 w b m/\(∀k,hasM m k=(f k).isSome)/\(∀k,getM m k (.int .i64 0) = .int .i64 (((f k).getD 0:Nat):Int))/\m.length<=N
theorem PlcIs.lt {w:World} {b N:Nat} {f:ByteArray->Option Nat} (h:PlcIs w b N f):b<w.heap.size:=by obtain⟨m,h1,_⟩:=h;exact h1.lt
theorem PlcIs.heap {w w':World} {b N:Nat} {f:ByteArray->Option Nat} (h:PlcIs w b N f) (hb:w'.heap[b]? =w.heap[b]?):PlcIs w' b N f:=by obtain⟨m,h1,r⟩:=h;exact⟨m,h1.heap hb,r⟩
theorem PlcIs.more {w:World} {b N N':Nat} {f:ByteArray->Option Nat} (h:PlcIs w b N f) (hn:N<=N'):PlcIs w b N' f:=by obtain⟨m,h1,h2,h3,h4⟩:=h;exact⟨m,h1,h2,h3,by omega⟩
theorem Zbfc (w:World):PlcIs (w.alloc (.map #[] 0)) w.heap.size 0 (λ_=>none):=⟨[],Zyj w _ _,λ_=>rfl,λ_=>rfl,Nat.le_refl _⟩
def updF (f:ByteArray->Option Nat) (k:ByteArray) (i:Nat):ByteArray->Option Nat:=λk'=>if k=k' then some i else f k'
theorem PlcIs.put {w:World} {b N:Nat} {f:ByteArray->Option Nat} {t e:TypeId} (h:PlcIs w b N f) (ht:prog.underlying t=some (.map 9 e)) (hn:N<=4000000000000000) (k:ByteArray) (hs:k.size<=maxLen) (i:Nat):
  ∃w',(Instr.mapUpdate t (.map (some b)) (.string k) (.int .i64 (i:Int))).run prog w = .ok () w'/\PlcIs w' b (N+1) (updF f k i)/\w.mapTurned w' b:=by
 obtain⟨m,h1,h2,h3,h4⟩:=h;obtain⟨w',r,hm,ht'⟩:=h1.put underlying9 ht (by unfold maxLen;omega) k hs (.int .i64 (i:Int));refine⟨w',r,⟨_,hm,λk'=>?_,λk'=>?_,?_⟩,ht'⟩
 ·rw[Zrm,h2]
  unfold updF
  by_cases hk:k=k'
  ·simp[hk]
  ·simp[hk]
 ·unfold updF
  by_cases hk:k=k'
  ·subst hk;rw[Zqj,if_pos rfl];rfl
  ·rw[Zqi _ _ _ hk,if_neg hk];exact h3 k'
 ·obtain⟨D,_,_,_,_,hK⟩:=h1
  rw[Zbfq hK];split<;>omega
theorem PlcIs.look {w:World} {b N:Nat} {f:ByteArray->Option Nat} {t e:TypeId} (h:PlcIs w b N f) (ht:prog.underlying t=some (.map 9 e)) (hz:(zeroValue e).run prog w = .ok (.int .i64 0) w) (k:ByteArray) (hs:k.size<=maxLen):
  (Instr.lookup t (.map (some b)) (.string k) true).run prog w = .ok (.tuple #[.int .i64 (((f k).getD 0:Nat):Int),.bool (f k).isSome]) w:=by
 obtain⟨m,h1,h2,h3,h4⟩:=h;rw[h1.look_ok underlying9 ht hz k hs,h2,h3]
theorem Zbuu (w:World):(zeroValue 3).run prog w = .ok (.int .i64 0) w:=zeroValue3 w
set_option maxHeartbeats 4000000
set_option maxRecDepth 100000
def Zax (w:World) (is:List Nat) (e:Ending) (w':World):Prop:=∃v,e = .returned v/\w'.ownsRow w.heap.size 3 1 v is.length (is.map intV)/\Below w.heap.size w w'
theorem Zpt (b N:Nat) (f:ByteArray->Option Nat) (lv:Value) (l:List ByteArray) (w:World) (hP:PlcIs w b N f) (hl:IsStrs w lv l) (hln:l.length<=1048576) (hs:∀x∈l,x.size<=maxLen):
  Calls prog 106 #[.map (some b),lv] w (Zax w (l.filterMap f)):=by
 obtain⟨i0,hi,hz0,hz1,hz2⟩:=info_parts Zsn;have mixed:prog.follows .mixedOrders=true:=by kernel_rfl
 have hlt:=hP.lt;obtain⟨_,_,ea,hal,ham,hac⟩:=Zua hl;subst ea
 rename_i la lc
 have HA:Hid (∀(k:Nat) x,l[k]? =some x->∃b' o,la=some ⟨b',o,none⟩/\∀w',Below w.heap.size w w'->w'.cell? ⟨b',o+k,none⟩=some (.string x)):=hac;have HP:=hid hP;have HS:=hid hs;unfold maxLen at ham;clear hl hac hP hs
 go_enter func106,ntmps106
 go_wp2
 go_loopw [5,7,8,9,12,13,14,15,16,17,18,19,20,21,22,23,24,25,26,27] (λtv _ _ _ iv _ _ _ _ _ _ _ _ _ _ _ _ _ _ _ wr=>∃k:Nat,k<=l.length/\iv = .int .i64 (k:Int)/\wr.ownsRow w.heap.size 3 1 tv ((l.take k).filterMap f).length (((l.take k).filterMap f).map intV)/\Below w.heap.size w wr) (λ_ _ _ _ iv _ _ _ _ _ _ _ _ _ _ _ _ _ _ _ _=>l.length-(intOf iv).toNat)
 case atStart=>exact⟨0,Nat.zero_le _,rfl,by simpa using World.ownsRow_nil _ _ _ _,Below.refl _ _⟩
 case round=>
  obtain⟨k,hk,rfl,hown,hnx⟩:=hrel;have HO:=hid hown;have HNX:=hid hnx;have hsz:=hnx.size;clear hown
  by_cases hlt2:k<l.length
  ·obtain⟨x,hx⟩:∃x,l[k]? =some x:=⟨l[k],List.getElem?_eq_getElem hlt2⟩
   obtain⟨b',o,q1,hc⟩:=HA.out k x hx;subst q1;have cx:=hc wr hnx;have hi1:(k:Int)<(l.length:Int):=by omega
   have hi0:(0:Int)<=(k:Int):=by omega
   have hlook:=(HP.out.heap (hnx.block _ hlt)).look underlying137 (Zbuu wr) x (HS.out x (List.mem_of_getElem? hx));have htake:l.take (k+1)=l.take k ++ [x]:=by rw[List.take_add_one,hx];rfl
   have hnext:(l.take (k+1)).filterMap f=(l.take k).filterMap f++(f x).toList:=by rw[htake,List.filterMap_append];cases h:f x<;>simp[h]
   have hfl:((l.take k).filterMap f).length<=k:=Nat.le_trans (List.length_filterMap_le _ _) (by rw[List.length_take];omega);obtain⟨F,hF⟩:∃F,(l.take k).filterMap f=F:=⟨_,rfl⟩;have hown:=HO.out;rw[hF]at hown hnext hfl;have HOWN:=hid hown
   cases hfx:f x with
   | some i=>
    rw[hfx]at hlook hnext;simp only[Option.getD_some,Option.isSome_some,Option.toList_some]at hlook hnext;have HNE:=hid hnext;have hl:F.length+1<=maxLen:=by unfold maxLen;omega
    clear hnext htake hx hc hown hF hnx hfx
    go_wp2_with (at_builtin;refine wpList_append_own _ rfl _ _ 53 rfl w.heap.size 3 i0 _ 1 8 underlying53 hi hz0 hz1 hz2 rfl (by decide) _ _ _ rfl (HOWN.out.alloc _) ⟨wr.heap.size,0,none⟩ 1 1 [.int .i64 (i:Int)] rfl rfl ?qc2 ?qc3 hl ?qc5 ?qc6 ?_)
    case qc2=>exact cell_one_new _ _ _
    case qc3=>intro u hu;simp at hu;subst hu;rfl
    case qc5=>omega
    case qc6=>simp;omega
    intro v' w1 hown' hgrow hnil;have hown1:=HOWN.out;have hbb':Below w.heap.size w w1:=(HNX.out.alloc hsz _).grown hgrow (by simp;omega) (λj e=>(hown1.lt j e).1);have HO2:=hid (show w1.ownsRow w.heap.size 3 1 v' ((l.take (k+1)).filterMap f).length (((l.take (k+1)).filterMap f).map intV) by rw[HNE.out,List.length_append,List.map_append];exact hown');have HBB:=hid hbb';clear hown' hgrow hnil hbb' hown1;go_wp2;go_roundw
    case rel=>exact⟨k+1,by omega,by go_num,HO2.out,HBB.out⟩
    case measure=>simp[intOf];omega
   | none=>
    rw[hfx]at hlook hnext;simp only[Option.getD_none,Option.isSome_none,Option.toList_none,List.append_nil]at hlook hnext;have HNE:=hid hnext;clear hnext htake hx hc hown hF hnx hfx;go_wp2;go_roundw
    case rel=>exact⟨k+1,by omega,by go_num,by rw[HNE.out];exact HOWN.out,HNX.out⟩
    case measure=>simp[intOf];omega
  ·have hi1:¬(k:Int)<(l.length:Int):=by omega
   have hfull:l.take k=l:=List.take_of_length_le (by omega);have hown:=HO.out;rw[hfull]at hown;have HF:=hid hown;clear hown hfull hnx;go_wp2;go_ret;exact⟨_,rfl,HF.out,HNX.out⟩
def Zrj:Go.Shelf.Ren:=⟨fun|4=>152|n=>n,fun|0=>0|3=>3|4=>4|9=>9|20=>20|22=>53|25=>3|n=>n,λn=>n⟩
theorem lGw:Go.Proofs.Lays8.n4 prog Zrj:={
 mixed:=by kernel_rfl
 f4:=⟨"slices.Grow[[]int,int]",by decide,func152.trans (congrArg some (by kernel_rfl))⟩
 t0:=underlying0
 a0:=isAgg0
 z0:=sizeOf0
 v0:=zeroValue0
 t3:=underlying3
 a3:=isAgg3
 z3:=sizeOf3
 v3:=zeroValue3
 t4:=underlying4
 a4:=isAgg4
 z4:=sizeOf4
 v4:=zeroValue4
 t9:=underlying9
 a9:=isAgg9
 z9:=sizeOf9
 v9:=zeroValue9
 t20:=underlying20
 a20:=isAgg20
 z20:=sizeOf20
 v20:=zeroValue20
 t22:=underlying53
 a22:=isAgg53
 z22:=sizeOf53
 v22:=zeroValue53 }
theorem Zqv (base:Option Addr) (l c n:Nat) (w:World) (hlc:l<=c) (hc63:c<=9223372036854775807) (hn63:n<=9223372036854775807) (hroom:l+n<=c):Calls prog 152 #[.slice base l c,.int .i64 n] w λe w'=>e = .returned (.slice base l c)/\w'=w:=
 Any8.slices_Grow_room lGw base l c n w hlc hc63 hn63 hroom
theorem Zqu (n:Nat) (w:World) (hbig:n<=1000000000):Calls prog 152 #[.slice none 0 0,.int .i64 (n:Int)] w λe w'=>∃v,e = .returned v/\w'.ownsRow w.heap.size 3 1 v 0 []/\Below w.heap.size w w':=by
 rcases Nat.eq_zero_or_pos n with rfl|hn
 ·refine(Zqv none 0 0 0 w (Nat.le_refl _) (by omega) (by omega) (by omega)).mono ?_
  rintro e w' ⟨rfl,rfl⟩;exact⟨_,rfl,⟨rfl,.inl ⟨rfl,rfl⟩⟩,Below.refl _ _⟩
 obtain⟨i0,hi,hz0,hz1,hz2⟩:=info_parts Zsn;have:=Any8.slices_Grow_grow lGw i0 _ hi hz0 (by rw[hz1];decide) none 0 0 n [] w (Nat.le_refl _) (by omega) (by rw[hz2];omega) (by omega) (by simp) (λ_=>rfl) (λa h=>by cases h);refine Calls.mono this ?_;rintro e w' ⟨rfl,rfl⟩;have hge:=grownCap_ge w (0+n) 0 (Zrj.t 25);have hle:=grownCap_le_maxLen w (0+n) 0 (Zrj.t 25) (by unfold maxLen;omega);obtain⟨c,hc⟩:∃c,grownCap w (0+n) 0 (Zrj.t 25)=c:=⟨_,rfl⟩;rw[hc]at hge hle⊢;refine⟨_,rfl,⟨rfl,.inr ⟨w.heap.size,c,_,rfl,Nat.le_refl _,alloc_at w.drew _,Nat.zero_le _,hle,?_,rfl⟩⟩,?_⟩
 ·rw[Array.size_append,Array.size_append,size_zeroCells,size_zeroCells]
  show 0+(0+n-0)*1+(c-(0+n))*1=c*1;omega
 ·exact(below_drewN (Below.refl _ w) 1).alloc (Nat.le_refl _) _
theorem Zpi {ls:List (List Nat)} {k:Nat} {x:List Nat} (h:ls[k]? =some x):(ls.take (k+1)).flatten=(ls.take k).flatten++x:=by
 rw[List.take_add_one,h,List.flatten_append];simp
theorem Zpe (ls:List (List Nat)) (k:Nat):(ls.take k).flatten.length<=ls.flatten.length:=by
 have:=congrArg (λl:List (List Nat)=>l.flatten.length) (List.take_append_drop k ls);simp only[List.flatten_append,List.length_append]at this;omega
set_option maxHeartbeats 4000000
set_option maxRecDepth 100000
theorem Zkl (g:Nat) (ls:List (List Nat)) (c:Nat) (w:World) (hl:ls.length<=1000) (hlc:ls.length<=c) (hcm:c<=maxLen) (hg:g<w.heap.size) (hc:∀(k:Nat) x,ls[k]? =some x->∃v,w.cell? ⟨g,k,none⟩=some v/\IsInts w v x/\∀c,v = .slice none 0 c->c=0) (hT:ls.flatten.length<=100000000):
  Calls prog 105 #[.slice (some ⟨g,0,none⟩) ls.length c] w λe w'=>∃v,e = .returned v/\w'.ownsRow w.heap.size 3 1 v ls.flatten.length (ls.flatten.map intV)/\Below w.heap.size w w':=by
 obtain⟨i0,hi,hz0,hz1,hz2⟩:=info_parts Zsn;have HC:Hid (∀(k:Nat) x,ls[k]? =some x->∃a m,(IsInts w (.slice a x.length m) x/\(a=none->x.length=0->m=0))/\∀w',Below w.heap.size w w'->w'.cell? ⟨g,k,none⟩=some (.slice a x.length m)):=by
  show ∀(k:Nat) x,_;intro k x hx;obtain⟨v,hv,hiv,hnl⟩:=hc k x hx;obtain⟨a,m,rfl,_⟩:=id hiv;exact⟨a,m,⟨hiv,λh h0=>hnl m (by rw[h,h0])⟩,λw' hw=>(hw.cell (p:=⟨g,_,none⟩) hg).trans hv⟩
 have HR:Hid (Below w.heap.size w w):=hid (Below.refl _ _);have HT:=hid hT;obtain⟨fl,hfl0⟩:∃fl,ls.flatten=fl:=⟨_,rfl⟩;rw[hfl0];have HFL:=hid hfl0;unfold maxLen at hcm;clear hc hT hfl0
 go_enter func105,ntmps105
 go_wp2
 go_loopw [3,5,11,12,13,14,15,16,17,18,19,20,21,22] (λsz _ iv _ _ _ _ _ _ _ _ _ _ _ wr=>∃k:Nat,k<=ls.length/\iv = .int .i64 (k:Int)/\sz = .int .i64 ((ls.take k).flatten.length:Int)/\w=wr) (λ_ _ iv _ _ _ _ _ _ _ _ _ _ _ _=>ls.length-(intOf iv).toNat)
 case atStart=>exact⟨0,Nat.zero_le _,rfl,rfl,rfl⟩
 case round=>
  obtain⟨k,hk,rfl,rfl,rfl⟩:=hrel
  by_cases hlt:k<ls.length
  ·obtain⟨x,hx⟩:∃x,ls[k]? =some x:=⟨ls[k],List.getElem?_eq_getElem hlt⟩
   obtain⟨a,m,hiv,hcc⟩:=HC.out k x hx;have cx:=hcc _ HR.out;have hi1:(k:Int)<(ls.length:Int):=by omega
   have hi0:(0:Int)<=(k:Int):=by omega
   have hnx:=congrArg List.length (Zpi hx);rw[List.length_append]at hnx;have hle:=Zpe ls (k+1);have hT:=HT.out;obtain⟨q,hq⟩:∃q,(ls.take k).flatten.length=q:=⟨_,rfl⟩;obtain⟨xl,hxl⟩:∃xl,x.length=xl:=⟨_,rfl⟩;rw[hq,hxl]at hnx;rw[hq];rw[hxl]at cx;have HNX:=hid hnx;have hqb:q+xl<=100000000:=by omega
   clear hnx hle hT hq hxl hiv hcc hx;go_wp2;go_roundw
   case rel=>exact⟨k+1,by omega,by go_num,by rw[HNX.out];go_num,by first|rfl|trivial⟩
   case measure=>simp[intOf];omega
  ·have hi1:¬(k:Int)<(ls.length:Int):=by omega
   have hfl:(ls.take k).flatten=ls.flatten:=by rw[List.take_of_length_le (by omega)]
   rw[hfl];have hT:=HT.out;obtain⟨q,hq⟩:∃q,ls.flatten.length=q:=⟨_,rfl⟩;rw[hq]at hT⊢;have CG:=hid (Zqu q w (by omega));have HQ:=hid hq;clear hfl hq
   go_wp2_with (go_at_call 152;(with_reducible refine CG.out.mono ?_);rintro e w2 ⟨nv,rfl,hown2,hb2⟩;have HO2:=hid hown2;have HB2:=hid hb2;clear hown2 hb2)
   go_loopw [6,8,27,28,29,30,31,32,33,34] (λnv _ iv _ _ _ _ _ _ _ wr=>∃k:Nat,k<=ls.length/\iv = .int .i64 (k:Int)/\wr.ownsRow w.heap.size 3 1 nv (ls.take k).flatten.length ((ls.take k).flatten.map intV)/\Below w.heap.size w wr) (λ_ _ iv _ _ _ _ _ _ _ _=>ls.length-(intOf iv).toNat)
   case atStart=>exact⟨0,Nat.zero_le _,rfl,by simpa using HO2.out,HB2.out⟩
   case round=>
    obtain⟨k2,hk2,rfl,hown,hb⟩:=hrel;have HB:=hid hb
    by_cases hlt2:k2<ls.length
    ·obtain⟨x,hx⟩:∃x,ls[k2]? =some x:=⟨ls[k2],List.getElem?_eq_getElem hlt2⟩
     obtain⟨a,m,⟨hiv,hmz⟩,hcc⟩:=HC.out k2 x hx;have cx:=hcc _ HB.out;have hi1':(k2:Int)<(ls.length:Int):=by omega
     have hi0':(0:Int)<=(k2:Int):=by omega
     have hnx:=Zpi hx;have hle:=Zpe ls (k2+1);have hT:=HQ.out;obtain⟨F,hF⟩:∃F,(ls.take k2).flatten=F:=⟨_,rfl⟩;rw[hF]at hown hnx;have hlen:F.length+x.length<=100000000:=by rw[hnx,List.length_append]at hle;omega
     have HNX:=hid hnx;have HOWN:=hid hown;have hsz:=hb.size;obtain⟨a',m',ev,hxm,hmm,hxc⟩:=(hiv.below hb).at;obtain⟨ea,_,em⟩:=Value.slice.inj ev;subst ea em
     cases a with
     | none=>
      have hx0:x = []:=by
       cases x with
       | nil=>rfl
       | cons y r=>obtain⟨b,o,e,_⟩:=hxc 0 y rfl;cases e
      subst hx0;clear hnx hle hF hown hiv hcc hx hxc hb ev;simp only[List.length_nil]at cx hxm;have hm0:m=0:=hmz rfl rfl;clear hmz;subst hm0
      go_wp2_with (at_builtin;refine wpList_append_own_none rfl _ _ 53 rfl w.heap.size 3 i0 1 underlying53 hi _ _ _ rfl HOWN.out rfl ?_)
      go_roundw
      case rel=>exact⟨k2+1,by omega,by go_num,by rw[HNX.out,List.append_nil];exact HOWN.out,HB.out⟩
      case measure=>simp[intOf];omega
     | some ad=>
      have hcells:∀j u,(x.map intV)[j]? =some u->wr.cell? (ad.add j)=some u:=by
       intro j u hu;rw[List.getElem?_map]at hu
       cases hxj:x[j]? with
       | none=>rw[hxj]at hu;cases hu
       | some y=>
        rw[hxj]at hu;obtain rfl:intV y=u:=by simpa using hu
        obtain⟨b,o,e,hcw⟩:=hxc j y hxj;obtain rfl:=Option.some.inj e;have:=hcw wr (Below.refl _ _)
        by_cases hj:j=0
        ·subst hj;simpa[Addr.add,intV]using this
        ·simpa[Addr.add,hj,intV]using this
      have HCL:=hid hcells;clear hnx hle hF hown hiv hcc hx hxc hb hcells ev hmz
      go_wp2_with (at_builtin;refine wpList_append_own _ rfl _ _ 53 rfl w.heap.size 3 i0 _ 1 8 underlying53 hi hz0 hz1 hz2 rfl (by decide) _ _ _ rfl HOWN.out ad x.length m (x.map intV) rfl (by simp) ?qc2 ?qc3 ?qc4 ?qc5 ?qc6 ?_)
      case qc2=>first|exact HCL.out|(intro j u hu;exact HCL.out j _ (by rw[List.getElem?_map,hu];rfl))
      case qc3=>intro u hu;first|rfl|(obtain⟨y,_,rfl⟩:=List.mem_map.1 hu;rfl)
      case qc4=>unfold maxLen;omega
      case qc5=>omega
      intro v' w1 hown' hgrow hnil;have hown1:=HOWN.out;have HBB:=hid (HB.out.grown hgrow hsz (λj e=>(hown1.lt j e).1));have HO3:=hid (show w1.ownsRow w.heap.size 3 1 v' (ls.take (k2+1)).flatten.length ((ls.take (k2+1)).flatten.map intV) by rw[HNX.out,List.length_append,List.map_append];exact hown');clear hown' hgrow hnil hown1;go_wp2;go_roundw
      case rel=>exact⟨k2+1,by omega,by go_num,HO3.out,HBB.out⟩
      case measure=>simp[intOf];omega
    ·have hi1':¬(k2:Int)<(ls.length:Int):=by omega
     have hfl:(ls.take k2).flatten=ls.flatten:=by rw[List.take_of_length_le (by omega)]
     rw[hfl]at hown;rw[HFL.out]at hown;have HF:=hid hown;clear hown hfl hb;go_wp2;go_ret;refine⟨u6,rfl,?_,HB.out⟩;exact HF.out
open Go.Sort
theorem e189:nmRen.f 189=107:=by kernel_rfl
def OwnInts (B:Nat) (w:World) (v:Value) (xs:List Nat):Prop:=w.ownsRow B 3 1 v xs.length (xs.map intV)
def srtN (xs:List Nat):List Nat:=xs.mergeSort λx y=>decide (x<=y)
theorem Zbnf (xs:List Nat):(srtN xs).length=xs.length:=List.length_mergeSort _
theorem Zbne (xs:List Nat):((xs.map λ(x:Nat)=>(x:Int)).mergeSort λx y=>decide (x<=y))=(srtN xs).map λ(x:Nat)=>(x:Int):=by
 unfold srtN;rw[List.map_mergeSort];intro a _ b _;simp
theorem Ztl (xs:List Nat):(xs.map λ(x:Nat)=>(x:Int)).map (Value.int .i64)=xs.map intV:=by rw[List.map_map];rfl
set_option maxRecDepth 100000 in
theorem Zbme (B g c:Nat) (xs:List Nat) (w:World) (h:OwnInts B w (.slice (some ⟨g,0,none⟩) xs.length c) xs) (hn:xs.length<=8796093022208):
  Calls prog 107 #[.slice (some ⟨g,0,none⟩) xs.length c] w λe w'=>e = .returned (.tuple #[])/\OwnInts B w' (.slice (some ⟨g,0,none⟩) xs.length c) (srtN xs)/\w.grownBy w' (some g):=by
 obtain⟨hl,⟨hv,_⟩|⟨g',cap',cur,hv,hbase,hb,h1,h2,h3,h4⟩⟩:=h
 ·cases hv
 cases hv
 have hsl:(xs.map λ(x:Nat)=>(x:Int)).length=xs.length:=by simp
 have hH:Holds (Value.int .i64) w g 0 (xs.map λ(x:Nat)=>(x:Int)).toArray:=holds_of_blockI hb (by rw[hsl,Ztl];simpa using h4);have hgl:g<w.heap.size:=(Array.getElem?_eq_some_iff.1 hb).1;have hz:(xs.map λ(x:Nat)=>(x:Int)).length<4611686018427387904:=by rw[hsl];omega
 have hd:=λD:Nat=>AnyS.slices_Sort_int_in lLays_n189 D g 0 c (xs.map λ(x:Nat)=>(x:Int)) w hH hgl hz
 have hc:=calls_of_every_depth hd;rw[e189,hsl,Zbne]at hc;refine hc.mono ?_;rintro e w' ⟨rfl,n,os,rfl⟩;refine⟨rfl,?_,grownBy_sortedI _⟩;have:=ownsRow_sortedI (n:=n) (os:=os) (ts:=(srtN xs).map λ(x:Nat)=>(x:Int)) (ss:=xs.map λ(x:Nat)=>(x:Int)) (cap:=c) (by simp[Zbnf]) hbase hb (by rw[hsl];exact h1) h2 h3;rw[Ztl,hsl]at this;unfold OwnInts;rw[Zbnf];exact this
theorem Zbmf (a:Option Addr) (c:Nat) (w:World):Calls prog 107 #[.slice a 0 c] w λe w'=>e = .returned (.tuple #[])/\w'=w:=by
 have:=Any.slices_Sort_int_none lLays_n189 a c w
 rwa [e189]at this
end Go.Proofs.YtcpjfpdecklkgaaGreatDoor
