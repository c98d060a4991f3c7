import Derived.Test.YtcpjfpdecklkgaaGreatDoorMac
namespace Go.Proofs.YtcpjfpdecklkgaaGreatDoor
open Go.Lib (hid)
open Go.Proofs.Tryz
open Go.RowKit
def newF (xs:List F2):List F2:=xs.foldl (λt f=>(Zbum t f.1 f.2).2) []
theorem Zbav (xs:List F2) (k:Nat) (x:F2) (h:xs[k]? =some x):newF (xs.take (k+1))=(Zbum (newF (xs.take k)) x.1 x.2).2:=by
 rw[List.take_add_one,h];simp[newF,List.foldl_append]
def Zbm (w:World) (fs:List F2) (e:Ending) (w':World):Prop:=
 ∃b r,e = .returned (.pointer (some ⟨b,0,none⟩))/\IsTree w' w.heap.size b r fs/\Below w.heap.size w w'
theorem IsTree.rlt {w:World} {B b:Nat} {r:Option Nat} {fs:List F2} (h:IsTree w B b r fs):(∀k,r=some k->B<=k/\k<w.heap.size)/\B<=b/\b<w.heap.size:=by
 obtain⟨h1,_,_,v,h4,h5⟩:=h;exact⟨λk hk=>h5.lt hk,h1,block_lt h4⟩
theorem IsTree.low {w:World} {B B' b:Nat} {r:Option Nat} {fs:List F2} (h:IsTree w B b r fs) (hB:B'<=B):IsTree w B' b r fs:=by
 obtain⟨h1,h2,h3,v,h4,h5⟩:=h;refine⟨Nat.le_trans hB h1,h2,h3,v,h4,?_⟩
 rcases h5 with⟨h5,h6⟩|h5
 ·exact .inl ⟨Zbdv h5 hB,h6⟩
 ·exact .inr h5
set_option maxHeartbeats 2000000 in
theorem Zbaw (v:Value) (xs:List F2) (w:World) (h:IsFiles w v xs) (hg:Glob w) (hsz:∀x∈xs,x.1.size<=maxLen/\x.2.size<=maxLen):
  Calls prog 17 #[v] w (Zbm w (newF xs)):=by
 obtain⟨a,c,rfl,h1,h1m,h2⟩:=h;have hcells:∀(k:Nat) x,xs[k]? =some x->∃b o,a=some ⟨b,o,none⟩/\b<w.heap.size/\w.cell? ⟨b,o+k*2,none⟩=some (.string x.1)/\w.cell? ⟨b,o+k*2+1,none⟩=some (.string x.2):=by
  intro k x hx;obtain⟨b,o,ha,hb,hc⟩:=h2 (by rintro rfl;simp at hx);exact⟨b,o,ha,hb,hc k x hx⟩
 have HC:=hid hcells;have HG:=hid hg;have HSZ:=hid hsz;have hgb:=hg.gb;have h0:IsTree (w.alloc (.cells #[.slice none 0 0] 71)) w.heap.size w.heap.size none (newF (xs.take 0)):=
  ⟨Nat.le_refl _,List.Pairwise.nil,by simp[newF],.slice none 0 0,heap_alloc_new w _,.inl ⟨World.ownsRow_nil _ _ _ _,rfl⟩⟩
 have H0:=hid h0;have HGB:=hid hgb;clear hcells h2 hg hsz h0 hgb;unfold maxLen at h1m
 go_enter func17,ntmps17
 go_wp2
 go_loopw [10] (λi wr=>∃(k:Nat) (r:Option Nat),k<=xs.length/\i = .int .i64 k/\IsTree wr w.heap.size w.heap.size r (newF (xs.take k))/\Below w.heap.size w wr)
  (λi _=>xs.length-(intOf i).toNat)
 case atStart=>exact⟨0,none,Nat.zero_le _,rfl,H0.out,(Below.refl _ _).alloc (Nat.le_refl _) _⟩
 case round=>
  obtain⟨k,r,hk,rfl,ht,hnx⟩:=hrel;have HT:=hid ht;clear ht H0
  by_cases hlt:k<xs.length
  ·obtain⟨x,hx⟩:∃x,xs[k]? =some x:=⟨xs[k],List.getElem?_eq_getElem hlt⟩
   obtain⟨b,o,ha,hb,hc0,hc1⟩:=HC.out k x hx;subst ha;have hcx0:wr.cell? ⟨b,o+k*2,none⟩=some (.string x.1):=(hnx.cell (by exact hb)).trans hc0;have hcx1:wr.cell? ⟨b,o+k*2+1,none⟩=some (.string x.2):=(hnx.cell (by exact hb)).trans hc1;have hxs:=HSZ.out x (List.mem_of_getElem? hx);have hnxt:=Zbav xs k x hx;have HN:=hid hnxt;have hb2:Below wr.heap.size wr (wr.alloc (.cells #[.string x.1,.string x.2] 51)):=(Below.refl _ _).alloc (Nat.le_refl _) _;have hnx2:Below w.heap.size w (wr.alloc (.cells #[.string x.1,.string x.2] 51)):=hnx.alloc hnx.size _;have hT2:=HT.out.below hb2;have cW:=Zbup w.heap.size w.heap.size r _ x.1 x.2 _ hT2 (HG.out.low HGB.out hnx2) hxs.1 hxs.2;have hrl:=hT2.rlt;have HRL:=hid hrl;have HX2:=hid hnx2;clear hx hc0 hc1 hxs hnxt hT2 hrl hb2 hnx2
   go_wp2_with fail
   refine cW.mono ?_;rintro e w3 ⟨r3,rfl,hT3,hF3,hr3⟩;have hnx3:Below w.heap.size w w3:=HX2.out.trans (hF3.below HX2.out.size (Nat.le_refl _) (λg hg=>(HRL.out.1 g hg).1));have HT3:=hid hT3;clear hT3 hF3 hr3 cW;go_wp2;go_roundw
   case rel=>exact⟨k+1,r3,by omega,by go_num,by rw[HN.out];exact HT3.out,hnx3⟩
   case measure=>simp[intOf];omega
  ·have hfull:xs.take k=xs:=List.take_of_length_le (by omega)
   have HFu:=hid hfull;clear hfull;go_wp2;go_ret;exact⟨w.heap.size,r,rfl,by have:=HT.out;rw[HFu.out]at this;exact this,hnx⟩
def AllIs (p:Value) (a:Option Addr) (c:Nat) (fs:List F2) (w:World):Prop:=
 ∀w',Below w.heap.size w w'->Calls prog 117 #[p] w' λe w''=>e = .returned (.slice a fs.length c)/\w'=w''
theorem IsTree.all {w:World} {B b:Nat} {r:Option Nat} {fs:List F2} (h:IsTree w B b r fs):∃a c,AllIs (.pointer (some ⟨b,0,none⟩)) a c fs w/\IsFiles w (.slice a fs.length c) fs:=by
 obtain⟨a,c,hb,hown,hc,hcm⟩:=h.ptr;exact⟨a,c,λw' hw=>Zda b fs.length c a w' ((hw.block b (block_lt hb)).trans hb),hown.files⟩
theorem AllIs.below {p:Value} {a:Option Addr} {c:Nat} {fs:List F2} {w w':World} (h:AllIs p a c fs w) (hb:Below w.heap.size w w'):AllIs p a c fs w':=
 λw'' h''=>h w'' (hb.trans (h''.mono hb.size))
theorem Zxa (p:Option Addr) (a:Option Addr) (c:Nat) (fs:List F2) (w:World) (h:AllIs (.pointer p) a c fs w):
  Calls prog 179 #[.pointer p] w λe w'=>e = .returned (.int .i64 fs.length)/\w=w':=by
 have hA:=h w (Below.refl _ _);clear h
 go_enter func179,ntmps179
 go_wp2_with fail
 refine hA.mono ?_;rintro e w' ⟨rfl,rfl⟩;go_wp2;go_ret;exact⟨rfl,rfl⟩
def Zbi (w:World) (fs:List F2) (e:Ending) (w':World):Prop:=
 ∃a c,e = .returned (.slice a fs.length c)/\w'.ownsRow w.heap.size 9 1 (.slice a fs.length c) fs.length (fs.map λf=> .string f.1)/\Below w.heap.size w w'
set_option maxHeartbeats 2000000 in
theorem Zbag (p:Option Addr) (a:Option Addr) (c:Nat) (fs:List F2) (w:World) (h:AllIs (.pointer p) a c fs w) (hF:IsFiles w (.slice a fs.length c) fs) (hl:fs.length<=60):
  Calls prog 180 #[.pointer p] w (Zbi w fs):=by
 obtain⟨i0,hi,hz0,hz1,hz2⟩:=info_parts Zsy;obtain⟨a',c',hv,h1,h1m,h2⟩:=hF
 cases hv
 have hcells:∀(k:Nat) x,fs[k]? =some x->∃b o,a=some ⟨b,o,none⟩/\b<w.heap.size/\w.cell? ⟨b,o+k*2,none⟩=some (.string x.1)/\w.cell? ⟨b,o+k*2+1,none⟩=some (.string x.2):=by
  intro k x hx;obtain⟨b,o,ha,hb,hc⟩:=h2 (by rintro rfl;simp at hx);exact⟨b,o,ha,hb,hc k x hx⟩
 have HC:=hid hcells;have hL:=Zxa p a c fs w h;have HA:=hid h;obtain⟨ms,hms⟩:∃ms:List ByteArray,ms=fs.map λf=>f.1:=⟨_,rfl⟩
 have hml:ms.length=fs.length:=by rw[hms];simp
 have hmm:ms.map Value.string=fs.map λf=>Value.string f.1:=by rw[hms];simp
 have HMS:=hid hms;have HML:=hid hml;have HMM:=hid hmm;clear hcells h2 h hms hml hmm;unfold maxLen at h1m
 go_enter func180,ntmps180
 go_wp2_with fail
 refine hL.mono ?_;rintro e w' ⟨rfl,rfl⟩
 go_wp2_with (at_make;refine wpList_make_own _ rfl _ _ 29 rfl w.heap.size 9 i0 (.string ByteArray.empty) 1 underlying29 hi hz0 hz1 _ _ _ fs.length rfl rfl rfl ?m1 ?m2 ?m3 ?_)
 case m1=>rw[hz2];omega
 case m2=>unfold maxLen;omega
 case m3=>exact Nat.le_refl _
 intro w1 hown1 hgrow1;have hnx1:Below w.heap.size w w1:=(Below.refl _ _).grown hgrow1 (Nat.le_refl _) (by simp);clear hgrow1 hL;have hA1:=HA.out w1 hnx1;have hown0:w1.ownsRow w.heap.size 9 1 (.slice (some ⟨w.heap.size,0,none⟩) 0 fs.length) (ms.take 0).length ((ms.take 0).map Value.string):=by simpa using hown1
 clear hown1
 go_wp2_with fail
 refine hA1.mono ?_;rintro e w' ⟨rfl,rfl⟩;go_wp2
 go_loopw [3,12] (λv i wr=>∃k:Nat,k<=fs.length/\i = .int .i64 k/\wr.ownsRow w.heap.size 9 1 v (ms.take k).length ((ms.take k).map Value.string)/\Below w.heap.size w wr)
  (λ_ i _=>fs.length-(intOf i).toNat)
 case atStart=>exact⟨0,Nat.zero_le _,rfl,hown0,hnx1⟩
 case round=>
  obtain⟨k,hk,rfl,hown,hnx⟩:=hrel;clear hown0
  by_cases hlt:k<fs.length
  ·obtain⟨x,hx⟩:∃x,fs[k]? =some x:=⟨fs[k],List.getElem?_eq_getElem hlt⟩
   obtain⟨b,o,ha,hb,hc0,hc1⟩:=HC.out k x hx;subst ha;have hcx0:wr.cell? ⟨b,o+k*2,none⟩=some (.string x.1):=(hnx.cell (by exact hb)).trans hc0;have hcx1:wr.cell? ⟨b,o+k*2+1,none⟩=some (.string x.2):=(hnx.cell (by exact hb)).trans hc1;have hmk:ms[k]? =some x.1:=by rw[HMS.out,List.getElem?_map,hx];rfl
   have hms1:(ms.take (k+1))=ms.take k ++ [x.1]:=by rw[List.take_add_one,hmk];rfl
   have HM1:=hid hms1;have hkl:(ms.take k).length<=k:=List.length_take_le _ _;have hs2:=hnx.size;clear hms1 hmk hc0 hc1 hx
   go_wp2_with (at_builtin;refine wpList_append_own _ rfl _ _ 29 rfl w.heap.size 9 i0 (.string ByteArray.empty) 1 16 underlying29 hi hz0 hz1 hz2 rfl (by decide) _ _ _ rfl ((hown.alloc _).alloc _) ⟨wr.heap.size+1,0,none⟩ 1 1 [.string x.1] rfl rfl ?c1 ?c2 ?c3 ?c4 ?c5 ?_)
   case c1=>
    intro j u hj
    match j,hj with
    | 0,hj=>simp at hj;subst hj;rw[Addr.add_lit];exact World.cell?_alloc_at _ _ _ _ (by simp)
   case c2=>intro u hu;simp at hu;subst hu;rfl
   case c3=>unfold maxLen;omega
   case c4=>omega
   case c5=>simp;omega
   ·intro v' w3 hown' hgrow _
    have hnx':Below w.heap.size w w3:=((hnx.alloc hs2 _).alloc (by simp;omega) _).grown hgrow (by simp;omega) (λg hg=>(hown.lt g hg).1);have HO:Hid (w3.ownsRow w.heap.size 9 1 v' (ms.take (k+1)).length ((ms.take (k+1)).map Value.string)):=by
     show w3.ownsRow _ _ _ _ _ _;rw[HM1.out,List.length_append,List.map_append];simpa using hown'
    clear hgrow hown hown';go_wp2;go_roundw
    case rel=>exact⟨k+1,by omega,by go_num,HO.out,hnx'⟩
    case measure=>simp[intOf];omega
  ·have hfull:ms.take k=ms:=List.take_of_length_le (by have:=HML.out;omega)
   rw[hfull,HMM.out,HML.out]at hown;obtain⟨a9,c9,hv9,_⟩:=Zbea hown;rw[hv9]at hown;have HO:=hid hown;have HV:=hid hv9;clear hfull hown hv9;go_wp2;go_ret;exact⟨a9,c9,by rw[HV.out];rfl,HO.out,hnx⟩
def keyB (fs:List F2):List ByteArray:=(fs.map λf=>[f.1,f.2]).flatten
def keyL (fs:List F2):List (List UInt8):=(fs.map λf=>[f.1.data.toList,f.2.data.toList]).flatten
theorem Zwk (fs:List F2):(keyB fs).map (·.data.toList)=keyL fs:=by
 induction fs with
 | nil=>rfl
 | cons f fs ih=>simp only[keyB,keyL,List.map_cons,List.flatten_cons,List.map_append]at ih⊢;rw[ih];rfl
theorem Zwl (fs:List F2):(keyB fs).length=fs.length*2:=by
 induction fs with
 | nil=>rfl
 | cons f fs ih=>simp only[keyB,List.map_cons,List.flatten_cons,List.length_append,List.length_cons,List.length_nil]at ih⊢;omega
theorem Zwm (fs:List F2) (k:Nat) (x:F2) (h:fs[k]? =some x):keyB (fs.take (k+1))=keyB (fs.take k) ++ [x.1,x.2]:=by
 rw[List.take_add_one,h];simp[keyB]
set_option maxHeartbeats 2000000 in
theorem Zwn (p:Option Addr) (a:Option Addr) (c:Nat) (fs:List F2) (w:World) (h:AllIs (.pointer p) a c fs w) (hF:IsFiles w (.slice a fs.length c) fs) (hl:fs.length<=60) (hg:Glob w) (hlen:(putS (keyL fs)).length<=140737488355328):
  Calls prog 181 #[.pointer p] w λe w'=>e = .returned (.string ⟨(putS (keyL fs)).toArray⟩)/\Below w.heap.size w w':=by
 obtain⟨i0,hi,hz0,hz1,hz2⟩:=info_parts Zsy;obtain⟨a',c',hv,h1,h1m,h2⟩:=hF
 cases hv
 have hcells:∀(k:Nat) x,fs[k]? =some x->∃b o,a=some ⟨b,o,none⟩/\b<w.heap.size/\w.cell? ⟨b,o+k*2,none⟩=some (.string x.1)/\w.cell? ⟨b,o+k*2+1,none⟩=some (.string x.2):=by
  intro k x hx;obtain⟨b,o,ha,hb,hc⟩:=h2 (by rintro rfl;simp at hx);exact⟨b,o,ha,hb,hc k x hx⟩
 have HC:=hid hcells;have hL:=Zxa p a c fs w h;have HA:=hid h;have HG:=hid hg;have HLE:=hid hlen;obtain⟨res,hres⟩:∃res,res=putS (keyL fs):=⟨_,rfl⟩;rw[<-hres];have HRES:=hid hres;clear hcells h2 h hg hlen hres;unfold maxLen at h1m
 go_enter func181,ntmps181
 go_wp2_with fail
 refine hL.mono ?_;rintro e w' ⟨rfl,rfl⟩
 go_wp2_with (at_make;refine wpList_make_own _ rfl _ _ 29 rfl w.heap.size 9 i0 (.string ByteArray.empty) 1 underlying29 hi hz0 hz1 _ _ _ (2*fs.length) rfl rfl ?m0 ?m1 ?m2 ?m3 ?_)
 case m0=>omega
 case m1=>rw[hz2];omega
 case m2=>unfold maxLen;omega
 case m3=>exact Nat.le_refl _
 intro w1 hown1 hgrow1;have hnx1:Below w.heap.size w w1:=(Below.refl _ _).grown hgrow1 (Nat.le_refl _) (by simp);clear hgrow1 hL;have hA1:=HA.out w1 hnx1;have hown0:w1.ownsRow w.heap.size 9 1 (.slice (some ⟨w.heap.size,0,none⟩) 0 (2*fs.length)) (keyB (fs.take 0)).length ((keyB (fs.take 0)).map Value.string):=by simpa[keyB]using hown1
 clear hown1
 go_wp2_with fail
 refine hA1.mono ?_;rintro e w' ⟨rfl,rfl⟩;go_wp2
 go_loopw [3,13] (λv i wr=>∃k:Nat,k<=fs.length/\i = .int .i64 k/\wr.ownsRow w.heap.size 9 1 v (keyB (fs.take k)).length ((keyB (fs.take k)).map Value.string)/\Below w.heap.size w wr)
  (λ_ i _=>fs.length-(intOf i).toNat)
 case atStart=>exact⟨0,Nat.zero_le _,rfl,hown0,hnx1⟩
 case round=>
  obtain⟨k,hk,rfl,hown,hnx⟩:=hrel;clear hown0
  by_cases hlt:k<fs.length
  ·obtain⟨x,hx⟩:∃x,fs[k]? =some x:=⟨fs[k],List.getElem?_eq_getElem hlt⟩
   obtain⟨b,o,ha,hb,hc0,hc1⟩:=HC.out k x hx;subst ha;have hcx0:wr.cell? ⟨b,o+k*2,none⟩=some (.string x.1):=(hnx.cell (by exact hb)).trans hc0;have hcx1:wr.cell? ⟨b,o+k*2+1,none⟩=some (.string x.2):=(hnx.cell (by exact hb)).trans hc1;have hms1:=Zwm fs k x hx;have HM1:=hid hms1;have hkl:(keyB (fs.take k)).length<=k*2:=by rw[Zwl];have:=List.length_take_le k fs;omega
   have hs2:=hnx.size;clear hms1 hc0 hc1 hx
   go_wp2_with (at_builtin;refine wpList_append_own _ rfl _ _ 29 rfl w.heap.size 9 i0 (.string ByteArray.empty) 1 16 underlying29 hi hz0 hz1 hz2 rfl (by decide) _ _ _ rfl ((hown.alloc _).alloc _) ⟨wr.heap.size+1,0,none⟩ 2 2 [.string x.1,.string x.2] rfl rfl ?c1 ?c2 ?c3 ?c4 ?c5 ?_)
   case c1=>
    intro j u hj
    match j,hj with
    | 0,hj=>simp at hj;subst hj;rw[Addr.add_lit];exact World.cell?_alloc_at _ _ _ _ (by simp)
    | 1,hj=>simp at hj;subst hj;rw[Addr.add_lit];exact World.cell?_alloc_at _ _ _ _ (by simp)
   case c2=>intro u hu;simp at hu;rcases hu with rfl|rfl<;>rfl
   case c3=>unfold maxLen;omega
   case c4=>omega
   case c5=>simp;omega
   ·intro v' w3 hown' hgrow _
    have hnx':Below w.heap.size w w3:=((hnx.alloc hs2 _).alloc (by simp;omega) _).grown hgrow (by simp;omega) (λg hg=>(hown.lt g hg).1);have HO:Hid (w3.ownsRow w.heap.size 9 1 v' (keyB (fs.take (k+1))).length ((keyB (fs.take (k+1))).map Value.string)):=by
     show w3.ownsRow _ _ _ _ _ _;rw[HM1.out,List.length_append,List.map_append];simpa using hown'
    clear hgrow hown hown';go_wp2;go_roundw
    case rel=>exact⟨k+1,by omega,by go_num,HO.out,hnx'⟩
    case measure=>simp[intOf];omega
  ·have hfull:fs.take k=fs:=List.take_of_length_le (by omega)
   rw[hfull]at hown;have hS:=Zbqq hown;have hpl:putS ((keyB fs).map (·.data.toList))=res:=by rw[Zwk,HRES.out]
   have cP:=Zbfu _ (keyB fs) wr hS (by rw[Zwl];omega) (HG.out.below hnx) (by rw[Zwk];exact HLE.out);rw[hpl]at cP;clear hfull hown hpl hS
   go_wp2_with fail
   refine cP.mono ?_;rintro e w2 ⟨rfl,hb2⟩;go_wp2;go_ret;exact⟨rfl,hnx.trans (hb2.mono hnx.size)⟩
def Zld (s:List UInt8):Option (List UInt8×List UInt8):=
 if (Lib.cut s [58]).2.2 then
  if (Zqk (Lib.cut s [58]).1 (Lib.cut s [58]).2.1.length).2 then
   some ((Lib.cut s [58]).2.1.take (Zqk (Lib.cut s [58]).1 (Lib.cut s [58]).2.1.length).1.toNat,(Lib.cut s [58]).2.1.drop (Zqk (Lib.cut s [58]).1 (Lib.cut s [58]).2.1.length).1.toNat)
  else none
 else none
theorem Zql (s:List UInt8) (most:Int) (h:(Zqk s most).2=true):0<=(Zqk s most).1/\(Zqk s most).1<=most:=by
 unfold Zqk at h⊢
 rcases ha:Lib.atoiAll s with v|_|_
 ·simp only[ha]at h⊢
  by_cases hc:v<=most/\numS v=s
  ·rw[if_pos hc]
   refine⟨?_,hc.1⟩
   rcases Int.lt_or_le v 0 with hneg|hpos
   ·exfalso
    have h0:numS v=Lib.itoa 0:=by unfold numS;rw[Int.max_eq_right (by omega)]
    rw[<-hc.2,h0]at ha;have:Lib.atoiAll (Lib.itoa 0) = .ok 0:=by
     have e:Lib.itoa 0 = [48]:=by unfold Lib.itoa;rw[if_neg (by decide),Lib.decDigits];rfl
     rw[e];decide
    rw[this]at ha;injection ha with ha
    omega
   ·exact hpos
  ·rw[if_neg hc]at h;cases h
 ·simp[ha]at h
 ·simp[ha]at h
theorem Zli (s sep:ByteArray) (m:Int) (w:World) (hs:s.size<4294967281) (hm:w.cell? ⟨1,0,none⟩=some (.int .i64 m)):
  Calls prog 270 #[.string s,.string sep] w λe w'=>e = .returned (.tuple #[.string ⟨(Lib.cut s.data.toList sep.data.toList).1.toArray⟩,.string ⟨(Lib.cut s.data.toList sep.data.toList).2.1.toArray⟩,.bool (Lib.cut s.data.toList sep.data.toList).2.2])/\∃n,w'=w.drewN n:=
 Any.strings_Cut lLays_n145 s sep m w hs hm
theorem Zll (s sep:List UInt8):(Lib.cut s sep).1.length<=s.length/\(Lib.cut s sep).2.1.length<=s.length:=by
 unfold Lib.cut;split
 ·exact⟨List.length_take_le' _ _,by simp⟩
 ·simp
theorem Zbht {a b c d:ByteArray} {x y:Bool} (h:a=b) (h':c=d) (hx:x=y):Ending.returned (.tuple #[.string a,.string c,.bool x]) = .returned (.tuple #[.string b,.string d,.bool y]):=by rw[h,h',hx]
theorem Zng (s:ByteArray) (n:Nat):s.extract 0 n=⟨(s.data.toList.take n).toArray⟩:=by
 rw[Lib.extract_eq];simp
theorem Znf (s:ByteArray) (n:Nat):s.extract n s.size=⟨(s.data.toList.drop n).toArray⟩:=by
 rw[Lib.extract_eq,List.take_of_length_le (by rw[List.length_drop,<-Lib.size_eq];exact Nat.le_refl _)]
def Zam (r:Option (List UInt8×List UInt8)) (w:World) (e:Ending) (w':World):Prop:=
 (e = .returned (match r with|some (p,q)=> .tuple #[.string ⟨p.toArray⟩,.string ⟨q.toArray⟩,.bool true]|none=> .tuple #[.string ⟨#[]⟩,.string ⟨#[]⟩,.bool false]))/\Below w.heap.size w w'
set_option maxHeartbeats 1000000 in
theorem Zlh (s:ByteArray) (w:World) (hs:s.size<4294967281) (hg:Glob w):
  Calls prog 238 #[.string s] w (Zam (Zld s.data.toList) w):=by
 obtain⟨m,hm⟩:=hg.max;obtain⟨r,hr⟩:∃r,r=Zld s.data.toList:=⟨_,rfl⟩;rw[<-hr];have cC:=Zli s ⟨#[58]⟩ m w hs hm;have hl:=Zll s.data.toList [58];unfold Zld at hr
 change Calls _ _ _ _ λe w'=>e = .returned (.tuple #[.string ⟨(Lib.cut s.data.toList [58]).1.toArray⟩,.string ⟨(Lib.cut s.data.toList [58]).2.1.toArray⟩,.bool (Lib.cut s.data.toList [58]).2.2])/\∃n,w'=w.drewN n at cC
 generalize Lib.cut s.data.toList [58]=cc at *;obtain⟨a,b,ok⟩:=cc;simp only at hr hl;rw[<-Lib.size_eq]at hl;have HG:=hid hg;have HR:=hid hr;clear hg hr hm
 go_enter func238,ntmps238
 go_wp2_with fail
 refine cC.mono ?_;rintro e w' ⟨rfl,nd,rfl⟩
 cases ok
 ·go_wp2
  go_ret3
  have hrn:r=none:=by rw[HR.out];rfl
  exact⟨by rw[hrn];rfl,below_drewN (Below.refl _ _) nd⟩
 ·have hb1:Below w.heap.size w (w.drewN nd):=below_drewN (Below.refl _ _) nd
  have cN:=Zqm ⟨a.toArray⟩ b.length (by simp only[ByteArray.size,List.size_toArray];omega) (w.drewN nd) (HG.out.below hb1);have hgr:=Zql a b.length;rw[show(⟨a.toArray⟩:ByteArray).data.toList=a from by simp]at cN;have hrr:r=if (Zqk a b.length).2 then some (b.take (Zqk a b.length).1.toNat,b.drop (Zqk a b.length).1.toNat)else none:=by rw[HR.out];rfl
  generalize Zqk a b.length=g at *;obtain⟨n,ok2⟩:=g;have HRR:=hid hrr;clear hrr HR;obtain⟨bb,hbb⟩:∃bb:ByteArray,bb=⟨b.toArray⟩:=⟨_,rfl⟩;have hbl:bb.size=b.length:=by rw[hbb];simp[ByteArray.size]
  have hbd:bb.data.toList=b:=by rw[hbb]
  rw[<-hbl]at cN hgr;rw[<-hbb];have HBD:=hid hbd;have hbs:bb.size<=s.size:=by omega
  clear hbb hbd hbl hl
  cases ok2
  ·go_wp2_with (go_at_call 175;refine cN.mono ?_;rintro e w2 ⟨rfl,hb2⟩)
   go_ret3
   have hrn:r=none:=by rw[HRR.out];rfl
   exact⟨by rw[hrn];rfl,hb1.trans hb2⟩
  ·have hgr':=hgr rfl
   simp only at hgr';obtain⟨hn0,hn1⟩:=hgr';clear hgr
   go_wp2_with (go_at_call 175;refine cN.mono ?_;rintro e w2 ⟨rfl,hb2⟩)
   go_quiet (fail)
   go_wp2
   go_ret3
   have hrn:r=some (b.take n.toNat,b.drop n.toNat):=by rw[HRR.out];rfl
   exact⟨by rw[hrn];exact Zbht (by rw[Zng,HBD.out]) (by rw[Znf,HBD.out]) rfl,hb1.trans (below_drewN hb2 _)⟩
theorem Zlm {s:List UInt8} {d:UInt8} (h:d∉s):Lib.cut s [d]=(s,[],false):=by
 unfold Lib.cut;rw[Zsl h,if_neg (by decide)]
theorem Zlj {a b:List UInt8} {d:UInt8} (h:d∉a):Lib.cut (a++d::b) [d]=(a,b,true):=by
 unfold Lib.cut;rw[index_hit h,if_pos (Int.natCast_nonneg _)];simp only[Int.toNat_natCast,List.length_cons,List.length_nil,Nat.zero_add,Zmb];simp
theorem Zlg {s:List UInt8} (h:58∉s):Zld s=none:=by
 unfold Zld;rw[Zlm h];rfl
theorem Zle {a b:List UInt8} (h:58∉a):Zld (a++58::b)=if (Zqk a b.length).2 then some (b.take (Zqk a b.length).1.toNat,b.drop (Zqk a b.length).1.toNat)else none:=by
 unfold Zld;rw[Zlj h];rfl
theorem Zlf {s p q:List UInt8} (h:Zld s=some (p,q)):q.length<s.length:=by
 rcases Zoz 58 s with hs|⟨a,b,rfl,ha⟩
 ·rw[Zlg hs]at h;cases h
 ·rw[Zle ha]at h
  split at h
  ·injection h with h
   injection h with h1 h2
   rw[<-h2];simp;omega
  ·cases h
def getF:Nat->List UInt8->Option (List (List UInt8))
 | 0,_=>none
 | f+1,s=>if s = []then some []else match Zld s with
  | none=>none
  | some (p,q)=>(getF f q).map (p :: ·)
theorem Zqg:∀(f:Nat) (s:List UInt8),s.length<f->∀f',s.length<f'->getF f s=getF f' s
 | 0,s,h,_,_=>absurd h (by omega)
 | f+1,s,h,0,h'=>absurd h' (by omega)
 | f+1,s,h,f'+1,h'=>by
  unfold getF;split
  ·rfl
  ·cases hc:Zld s with
   | none=>rfl
   | some pq=>
    obtain⟨p,q⟩:=pq;have:=Zlf hc;simp only;rw[Zqg f q (by omega) f' (by omega)]
def getS (s:List UInt8):Option (List (List UInt8)):=getF (s.length+1) s
theorem Zqn:getS []=some []:=rfl
theorem Zqo {s:List UInt8} (h0:s≠[]) (h:Zld s=none):getS s=none:=by
 rw[getS,getF,if_neg h0,h]
theorem Zqp {s p q:List UInt8} (h0:s≠[]) (h:Zld s=some (p,q)):getS s=(getS q).map (p :: ·):=by
 rw[getS,getF,if_neg h0,h];have:=Zlf h;simp only;rw[Zqg s.length q (by omega) (q.length+1) (by omega)];rfl
def Zay (r:Option (List (List UInt8))) (w:World) (e:Ending) (w':World):Prop:=
 Below w.heap.size w w'/\match r with
 | some ls=>∃(a:Option Addr) (c:Nat) (xs:List ByteArray),xs.map (·.data.toList)=ls/\e = .returned (.tuple #[.slice a xs.length c,.bool true])/\w'.ownsRow w.heap.size 9 1 (.slice a xs.length c) xs.length (xs.map Value.string)
 | none=>e = .returned (.tuple #[.slice none 0 0,.bool false])
def strSize:Value->Nat
 | .string s=>s.size
 | _=>0
def GetAt (s cur:List UInt8) (done:List ByteArray):Prop:=
 getS s=(getS cur).map (done.map (·.data.toList) ++ ·)/\done.length+cur.length<=s.length
theorem GetAt.none {s cur:List UInt8} {done:List ByteArray} (h:GetAt s cur done) (h0:cur≠[]) (hc:Zld cur=none):getS s=none:=by
 rw[h.1,Zqo h0 hc];rfl
theorem GetAt.next {s cur p q:List UInt8} {done:List ByteArray} (h:GetAt s cur done) (h0:cur≠[]) (hc:Zld cur=some (p,q)):GetAt s q (done ++ [⟨p.toArray⟩]):=by
 have h1:=h.1;have h2:=h.2;have h3:=Zlf hc;refine⟨?_,by simp;omega⟩;rw[h1,Zqp h0 hc,Option.map_map]
 congr 1
 funext l
 simp
theorem GetAt.done {s:List UInt8} {done:List ByteArray} (h:GetAt s [] done):getS s=some (done.map (·.data.toList)):=by
 rw[h.1,Zqn];simp
set_option maxHeartbeats 2000000 in
theorem Zqq (s:ByteArray) (w:World) (hs:s.size<4294967281) (hg:Glob w):
  Calls prog 174 #[.string s] w (Zay (getS s.data.toList) w):=by
 obtain⟨r,hr⟩:∃r,r=getS s.data.toList:=⟨_,rfl⟩;rw[<-hr];obtain⟨i0,hi,hz0,hz1,hz2⟩:=info_parts Zsy;have HG:=hid hg;have HR:=hid hr;have hsl:=hid (Lib.size_eq s);have H0:GetAt s.data.toList s.data.toList []:=⟨by simp,by simp⟩;clear hg hr
 go_enter func174,ntmps174
 go_wp2
 go_loopw [0,4] (λt v wr=>∃(cur:ByteArray) (done:List ByteArray) (a:Option Addr) (c:Nat),t = .string cur/\v = .slice a done.length c/\wr.ownsRow w.heap.size 9 1 (.slice a done.length c) done.length (done.map Value.string)/\Below w.heap.size w wr/\GetAt s.data.toList cur.data.toList done)
  (λt _ _=>strSize t)
 case atStart=>exact⟨s,[],none,0,rfl,rfl,World.ownsRow_nil _ _ _ _,Below.refl _ _,H0⟩
 case round=>
  obtain⟨cur,done,a,c,rfl,rfl,hown,hnx,hat⟩:=hrel;have hlen:=hat.2;rw[<-Lib.size_eq,<-hsl.out]at hlen;have HAT:=hid hat;clear hat H0
  by_cases h0:cur.toList = []
  ·go_wp2
   go_ret2
   have hd:r=some (done.map (·.data.toList)):=by
    rw[HR.out];have h:=HAT.out;have e:cur.data.toList = []:=by rw[<-Lib.toList_data];exact h0
    rw[e]at h;exact h.done
   exact⟨hnx,by rw[hd];exact⟨a,c,done,rfl,rfl,hown⟩⟩
  ·have b0:cur.toList.isEmpty=false:=List.isEmpty_eq_false_iff.2 h0
   have h0':cur.data.toList≠[]:=by rw[<-Lib.toList_data];exact h0
   have cP:=Zlh cur wr (by omega) (HG.out.below hnx);have hs1:=hnx.size
   cases hcp:Zld cur.data.toList with
   | none=>
    rw[hcp]at cP;have HN:=hid (HAT.out.none h0' hcp);clear hcp
    go_wp2_with fail
    refine cP.mono ?_;rintro e w2 ⟨rfl,hb2⟩;go_wp2
    go_ret2
    have hd:r=none:=by rw[HR.out,HN.out]
    exact⟨hnx.trans (hb2.mono hs1),by rw[hd];rfl⟩
   | some pq=>
    obtain⟨p,q⟩:=pq;rw[hcp]at cP;have HN:=hid (HAT.out.next h0' hcp);have hlt:=Zlf hcp;rw[<-Lib.size_eq]at hlt;obtain⟨pb,hpb⟩:∃pb:ByteArray,pb=⟨p.toArray⟩:=⟨_,rfl⟩;obtain⟨qb,hqb⟩:∃qb:ByteArray,qb=⟨q.toArray⟩:=⟨_,rfl⟩;have hqs:qb.size=q.length:=by rw[hqb];simp[ByteArray.size]
    have HN':Hid (GetAt s.data.toList qb.data.toList (done ++ [pb])):=by
     show GetAt _ _ _;have:qb.data.toList=q:=by rw[hqb]
     rw[this,hpb];exact HN.out
    have cP':Calls prog 238 #[.string cur] wr λe w'=>e = .returned (.tuple #[.string pb,.string qb,.bool true])/\Below wr.heap.size wr w':=by
     rw[hpb,hqb];exact cP
    have HQ:=hid hqs;clear hcp cP hpb hqb hqs HN
    go_wp2_with fail
    refine cP'.mono ?_;rintro e w2 ⟨rfl,hb2⟩;have hnx2:=hnx.trans (hb2.mono hs1);have hown2:w2.ownsRow w.heap.size 9 1 (.slice a done.length c) done.length (done.map Value.string):=hown.kept (row:=none) ⟨hb2.os,hb2.tape,hb2.output,hb2.size,λg hg _=>hb2.block g hg⟩ (by cases h:Value.ownBlock _<;>simp);have hs2:=hnx2.size;clear hb2 hown cP'
    go_wp2_with (at_builtin;refine wpList_append_own _ rfl _ _ 29 rfl w.heap.size 9 i0 (.string ByteArray.empty) 1 16 underlying29 hi hz0 hz1 hz2 rfl (by decide) _ _ _ rfl (hown2.alloc _) ⟨w2.heap.size,0,none⟩ 1 1 [.string pb] rfl rfl ?c1 ?c2 ?c3 ?c4 ?c5 ?_)
    case c1=>
     intro j u hj
     match j,hj with
     | 0,hj=>simp at hj;subst hj;simp[Addr.add]
    case c2=>intro u hu;simp at hu;subst hu;rfl
    case c3=>unfold maxLen;omega
    case c4=>omega
    case c5=>simp;omega
    ·intro v' w3 hown' hgrow _
     have hnx':Below w.heap.size w w3:=(hnx2.alloc hs2 _).grown hgrow (by simp;omega) (λg hg=>(hown2.lt g hg).1);obtain⟨a',c',hv,_⟩:=Zbea hown';have HO:Hid (w3.ownsRow w.heap.size 9 1 (.slice a' (done ++ [pb]).length c') (done ++ [pb]).length ((done ++ [pb]).map Value.string)):=by
      show w3.ownsRow _ _ _ _ _ _;rw[hv]at hown';simpa using hown'
     have HV:Hid (v' = .slice a' (done ++ [pb]).length c'):=by
      show v'=_;rw[hv];simp
     clear hgrow hown2 hown' hv;go_wp2;go_roundw
     case rel=>exact⟨qb,done ++ [pb],a',c',rfl,HV.out,HO.out,hnx',HN'.out⟩
     case measure=>simp only[strSize];rw[HQ.out];exact hlt
def Zyl (v:Bool×List UInt8):List UInt8:=if v.1 then 43::v.2 else [45]
theorem Zym (ok:Bool) (s:ByteArray) (hs:s.size<=140737488351232) (w:World):
  Calls prog 240 #[.agg #[.bool ok,.string s]] w λe w'=>e = .returned (.string ⟨(Zyl (ok,s.data.toList)).toArray⟩)/\Below w.heap.size w w':=by
 cases ok
 ·go_enter func240,ntmps240
  go_wp2;go_ret;exact⟨rfl,(Below.refl _ _).alloc (Nat.le_refl _) _⟩
 ·go_enter func240,ntmps240
  go_wp2;go_ret;exact⟨Zbhr (by apply ByteArray.ext;simp[Zyl]),(Below.refl _ _).alloc (Nat.le_refl _) _⟩
def Zbb (w:World) (v:Value) (vs:List (Bool×ByteArray)):Prop:=
 ∃a c,v = .slice a vs.length c/\vs.length<=c/\c<=maxLen/\(vs≠[]->∃b o,a=some ⟨b,o,none⟩/\b<w.heap.size/\∀(j:Nat) x,vs[j]? =some x->w.cell? ⟨b,o+j*2,none⟩=some (.bool x.1)/\w.cell? ⟨b,o+j*2+1,none⟩=some (.string x.2))
set_option maxHeartbeats 2000000 in
theorem Zbsh (v:Value) (vs:List (Bool×ByteArray)) (w:World) (h:Zbb w v vs) (hN:vs.length<=1048576) (hg:Glob w)
  (hsz:∀x∈vs,x.2.size<=140737488351232)
  (hlen:(putS (vs.map λx=>Zyl (x.1,x.2.data.toList))).length<=140737488355328):
  Calls prog 178 #[v] w λe w'=>e = .returned (.string ⟨(putS (vs.map λx=>Zyl (x.1,x.2.data.toList))).toArray⟩)/\Below w.heap.size w w':=by
 obtain⟨a,c,rfl,h1,h1m,h2⟩:=h;obtain⟨i0,hi,hz0,hz1,hz2⟩:=info_parts Zsy;have hcells:∀(k:Nat) x,vs[k]? =some x->∃b o,a=some ⟨b,o,none⟩/\b<w.heap.size/\w.cell? ⟨b,o+k*2,none⟩=some (.bool x.1)/\w.cell? ⟨b,o+k*2+1,none⟩=some (.string x.2):=by
  intro k x hx;obtain⟨b,o,ha,hb,hc⟩:=h2 (by rintro rfl;simp at hx);exact⟨b,o,ha,hb,hc k x hx⟩
 have HC:=hid hcells;have HG:=hid hg;have HLE:=hid hlen;have HSZ:=hid hsz;clear hcells h2 hg hlen hsz;obtain⟨ms,hms⟩:∃ms:List ByteArray,ms=vs.map λx=>⟨(Zyl (x.1,x.2.data.toList)).toArray⟩:=⟨_,rfl⟩
 have hmd:ms.map (·.data.toList)=vs.map λx=>Zyl (x.1,x.2.data.toList):=by rw[hms,List.map_map];apply List.map_congr_left;intro x _;simp
 have HMS:=hid hms;have HMD:=hid hmd;have hml:ms.length=vs.length:=by rw[hms];simp
 have HML:=hid hml;obtain⟨res,hres⟩:∃res,res=putS (vs.map λx=>Zyl (x.1,x.2.data.toList)):=⟨_,rfl⟩;rw[<-hres];have HRES:=hid hres;clear hres hms hmd hml;unfold maxLen at h1m
 go_enter func178,ntmps178
 go_wp2_with (at_make;refine wpList_make_own _ rfl _ _ 29 rfl w.heap.size 9 i0 (.string ByteArray.empty) 1 underlying29 hi hz0 hz1 _ _ _ vs.length rfl rfl rfl ?m1 ?m2 ?m3 ?_)
 case m1=>rw[hz2];omega
 case m2=>unfold maxLen;omega
 case m3=>exact Nat.le_refl _
 intro w1 hown1 hgrow1;have hnx1:Below w.heap.size w w1:=(Below.refl _ _).grown hgrow1 (Nat.le_refl _) (by simp);clear hgrow1;have hown0:w1.ownsRow w.heap.size 9 1 (.slice (some ⟨w.heap.size,0,none⟩) 0 vs.length) (ms.take 0).length ((ms.take 0).map Value.string):=by simpa using hown1
 clear hown1;go_wp2
 go_loopw [3,11] (λv i wr=>∃k:Nat,k<=vs.length/\i = .int .i64 k/\wr.ownsRow w.heap.size 9 1 v (ms.take k).length ((ms.take k).map Value.string)/\Below w.heap.size w wr)
  (λ_ i _=>vs.length-(intOf i).toNat)
 case atStart=>exact⟨0,Nat.zero_le _,rfl,hown0,hnx1⟩
 case round=>
  obtain⟨k,hk,rfl,hown,hnx⟩:=hrel;clear hown0
  by_cases hlt:k<vs.length
  ·obtain⟨x,hx⟩:∃x,vs[k]? =some x:=⟨vs[k],List.getElem?_eq_getElem hlt⟩
   obtain⟨b,o,ha,hb,hc0,hc1⟩:=HC.out k x hx;subst ha;have hcx0:wr.cell? ⟨b,o+k*2,none⟩=some (.bool x.1):=(hnx.cell (by exact hb)).trans hc0;have hcx1:wr.cell? ⟨b,o+k*2+1,none⟩=some (.string x.2):=(hnx.cell (by exact hb)).trans hc1;have hxs:=HSZ.out x (List.mem_of_getElem? hx);have hmk:ms[k]? =some ⟨(Zyl (x.1,x.2.data.toList)).toArray⟩:=by rw[HMS.out,List.getElem?_map,hx];rfl
   have hms1:(ms.take (k+1))=ms.take k ++ [⟨(Zyl (x.1,x.2.data.toList)).toArray⟩]:=by rw[List.take_add_one,hmk];rfl
   obtain⟨mb,hmb⟩:∃mb:ByteArray,mb=⟨(Zyl (x.1,x.2.data.toList)).toArray⟩:=⟨_,rfl⟩;rw[<-hmb]at hms1;have cM:=Zym x.1 x.2 hxs (wr.alloc (.cells #[.bool x.1,.string x.2] 46));rw[<-hmb]at cM;have HM1:=hid hms1;have hkl:(ms.take k).length<=k:=List.length_take_le _ _;clear hmb hms1 hmk hc0 hc1 hx
   go_wp2_with fail
   refine cM.mono ?_;rintro e w2 ⟨rfl,hb2⟩;have hnx2:Below w.heap.size w w2:=(hnx.alloc hnx.size _).trans (hb2.mono (by have:=hnx.size;simp;omega));have hown2:w2.ownsRow w.heap.size 9 1 _ (ms.take k).length ((ms.take k).map Value.string):=(hown.alloc (.cells #[.bool x.1,.string x.2] 46)).kept (row:=none) ⟨hb2.os,hb2.tape,hb2.output,hb2.size,λg hg _=>hb2.block g hg⟩ (by cases h:Value.ownBlock _<;>simp);have hs2:=hnx2.size;clear hb2 hown hcx0 hcx1 cM
   go_wp2_with (at_builtin;refine wpList_append_own _ rfl _ _ 29 rfl w.heap.size 9 i0 (.string ByteArray.empty) 1 16 underlying29 hi hz0 hz1 hz2 rfl (by decide) _ _ _ rfl (hown2.alloc _) ⟨w2.heap.size,0,none⟩ 1 1 [.string mb] rfl rfl ?c1 ?c2 ?c3 ?c4 ?c5 ?_)
   case c1=>
    intro j u hj
    match j,hj with
    | 0,hj=>simp at hj;subst hj;simp[Addr.add]
   case c2=>intro u hu;simp at hu;subst hu;rfl
   case c3=>unfold maxLen;omega
   case c4=>omega
   case c5=>simp;omega
   ·intro v' w3 hown' hgrow _
    have hnx':Below w.heap.size w w3:=(hnx2.alloc hs2 _).grown hgrow (by simp;omega) (λg hg=>(hown2.lt g hg).1);have HO:Hid (w3.ownsRow w.heap.size 9 1 v' (ms.take (k+1)).length ((ms.take (k+1)).map Value.string)):=by
     show w3.ownsRow _ _ _ _ _ _;rw[HM1.out,List.length_append,List.map_append];simpa using hown'
    clear hgrow hown2 hown';go_wp2;go_roundw
    case rel=>exact⟨k+1,by omega,by go_num,HO.out,hnx'⟩
    case measure=>simp[intOf];omega
  ·have hfull:ms.take k=ms:=List.take_of_length_le (by have:=HML.out;omega)
   rw[hfull]at hown;have hS:=Zbqq hown;have hpl:putS (ms.map (·.data.toList))=res:=by rw[HMD.out,HRES.out]
   have cP:=Zbfu _ ms wr hS (by have:=HML.out;omega) (HG.out.below hnx) (by rw[HMD.out];exact HLE.out);rw[hpl]at cP;clear hfull hown hpl hS
   go_wp2_with fail
   refine cP.mono ?_;rintro e w2 ⟨rfl,hb2⟩;go_wp2;go_ret;exact⟨rfl,hnx.trans (hb2.mono hnx.size)⟩
theorem Zna (B b:Nat) (r:Option Nat) (fs:List F2) (x:ByteArray) (w:World) (h:IsTree w B b r fs) (hx:hasF fs x=false):
  Calls prog 182 #[.pointer (some ⟨b,0,none⟩),.string x] w λe w'=>e = .returned (.int .i64 6)/\Below w.heap.size w w':=by
 have hF:=Zoq B b r fs x w h;rw[hx]at hF;generalize Zbff fs x=p at *;clear h hx
 go_enter func182,ntmps182
 go_wp2_with fail
 refine hF.mono ?_;rintro e w' ⟨rfl,hb⟩;go_wp2;go_ret;exact⟨rfl,hb⟩
theorem Zbbw (n:Nat) (h:n<10):numS n = [UInt8.ofNat (48+n)]:=by
 unfold numS Lib.itoa;rw[Int.max_eq_left (by omega),if_neg (by omega),Int.toNat_natCast,Lib.decDigits,dif_pos h]
theorem Zbbx (n:Nat) (h1:10<=n) (h:n<100):numS n = [UInt8.ofNat (48+n/10),UInt8.ofNat (48+n % 10)]:=by
 unfold numS Lib.itoa;rw[Int.max_eq_left (by omega),if_neg (by omega),Int.toNat_natCast,Lib.decDigits,dif_neg (by omega),Lib.decDigits,dif_pos (by omega)];rfl
theorem Zek:Zbbs [97,47,47,46,47,98,47,46,46,47,99]=([97,47,99],true):=by decide +kernel
theorem Zel:Zbbs [46,46]=([],false):=by decide +kernel
theorem Zem:Zqk [49,50] 20=(12,true):=by
 have h:Lib.atoiAll [49,50] = .ok 12:=by decide +kernel
 unfold Zqk;rw[h];have e:numS (12:Int) = [49,50]:=Zbbx 12 (by decide) (by decide);simp only[e]
 decide
theorem Zen:Zqk [48] 0=(0,true):=by
 have h:Lib.atoiAll [48] = .ok 0:=by decide +kernel
 unfold Zqk;rw[h];have e:numS (0:Int) = [48]:=Zbbw 0 (by decide);simp only[e]
 decide
theorem Zec:getS [49,58,97,48,58]=some [[97],[]]:=by
 have h1:Zld [49,58,97,48,58]=some ([97],[48,58]):=by
  have:=Zle (a:=[49]) (b:=[97,48,58]) (by decide);rw[show([49]:List UInt8)++58 :: [97,48,58] = [49,58,97,48,58]from rfl]at this;rw[this];have e:Zqk [49] (([97,48,58]:List UInt8).length:Nat)=(1,true):=by
   have h:Lib.atoiAll [49] = .ok 1:=by decide +kernel
   unfold Zqk;rw[h];have e:numS (1:Int) = [49]:=Zbbw 1 (by decide);simp only[e]
   decide
  rw[e];rfl
 have h2:Zld [48,58]=some ([],[]):=by
  have:=Zle (a:=[48]) (b:=[]) (by decide);rw[show([48]:List UInt8)++58 :: [] = [48,58]from rfl]at this;rw[this];have e:Zqk [48] (([]:List UInt8).length:Nat)=(0,true):=Zen;rw[e];rfl
 rw[Zqp (by decide) h1,Zqp (by decide) h2,Zqn];rfl
theorem Zeo:putS [[97],[]] = [49,58,97,48,58]:=by
 have e1:numS ((([97]:List UInt8).length:Nat):Int) = [49]:=Zbbw 1 (by decide);have e0:numS ((([]:List UInt8).length:Nat):Int) = [48]:=Zbbw 0 (by decide);simp only[putS,Zbev,List.map_cons,List.map_nil,List.flatten_cons,List.flatten_nil,e1,e0];rfl
theorem Zeq:putS [[43,122],[45]] = [50,58,43,122,49,58,45]:=by
 have e1:numS ((([43,122]:List UInt8).length:Nat):Int) = [50]:=Zbbw 2 (by decide);have e0:numS ((([45]:List UInt8).length:Nat):Int) = [49]:=Zbbw 1 (by decide);simp only[putS,Zbev,List.map_cons,List.map_nil,List.flatten_cons,List.flatten_nil,e1,e0];rfl
theorem Zef:putS [[97],[],[98],[120]] = [49,58,97,48,58,49,58,98,49,58,120]:=by
 have e1:∀c:UInt8,numS ((([c]:List UInt8).length:Nat):Int) = [49]:=λ_=>Zbbw 1 (by decide)
 have e0:numS ((([]:List UInt8).length:Nat):Int) = [48]:=Zbbw 0 (by decide);simp only[putS,Zbev,List.map_cons,List.map_nil,List.flatten_cons,List.flatten_nil,e1,e0];rfl
def Zdz:List F2:=[(⟨#[98]⟩,⟨#[120]⟩),(⟨#[97]⟩,⟨#[]⟩),(⟨#[105,110]⟩,⟨#[]⟩)]
def Zea:List F2:=[(⟨#[97]⟩,⟨#[]⟩),(⟨#[98]⟩,⟨#[120]⟩)]
theorem Zej:newF Zdz=Zea:=by kernel_rfl
theorem Zep:Zbgv Zea ⟨#[98]⟩=(⟨#[120]⟩,true):=by kernel_rfl
theorem Zed:hasF Zea ⟨#[99]⟩=false:=by kernel_rfl
theorem Zeg:Zbcf [97,47,98,46,99]=true:=by decide +kernel
theorem Zeh:Zbcf [97,47,47,98]=false:=by decide +kernel
theorem Zei:Zbcf [114,117,108,101]=false:=by decide +kernel
theorem Zee:Zus [[97],[],[98]] = [97,47,98]:=by decide +kernel
theorem Zeb:cutAt 47 [47] = [[],[]]:=by decide +kernel
end Go.Proofs.YtcpjfpdecklkgaaGreatDoor
