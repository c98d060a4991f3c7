import Derived.Test.YtcpjfpdecklkgaaGreatDoorMal
import Derived.Shelf.Sort.AssemblysIn
import Derived.Shelf.Slices.In.SortNone
import Derived.Sort.EveryDepth
import Derived.Sort.OwnSorted
import Derived.Laws.OwnMore
import Derived.Deep.RegionHeld3
namespace Go.Proofs.YtcpjfpdecklkgaaGreatDoor
open Go.Lib (hid)
open Go.Proofs.Tryz
open Go.RowKit Go.Shelf
theorem below_drewN {B:Nat} {w w':World} (h:Below B w w') (n:Nat):Below B w (w'.drewN n):=⟨h.os,h.tape,h.output,h.size,h.block⟩
theorem Zbgf:∀n:Fin 256,Zbfb (UInt8.ofNat n.val)=true->Utf8.encode (wrap32 ((UInt8.ofNat n.val).toNat:Int))=(⟨(Zbfv (UInt8.ofNat n.val)).toArray⟩:ByteArray):=by decide +kernel
theorem Zbge (c:UInt8) (h:Zbfb c=true):Utf8.encode (wrap32 (c.toNat:Int))=(⟨(Zbfv c).toArray⟩:ByteArray):=by
 have:=Zbgf ⟨c.toNat,c.toNat_lt⟩;simpa[h]using this
def hexDigits:ByteArray:=⟨#[48,49,50,51,52,53,54,55,56,57,97,98,99,100,101,102]⟩
theorem Zbgc:∀n:Fin 256,Zbfb (UInt8.ofNat n.val)=false->n.val≠34->n.val≠92->n.val≠10->n.val≠9->(⟨#[92,120]⟩++hexDigits.extract (n.val/16) (n.val/16+1)++hexDigits.extract (n.val % 16) (n.val % 16+1):ByteArray)=(⟨(Zbfv (UInt8.ofNat n.val)).toArray⟩:ByteArray):=by decide +kernel
theorem Zbgb (c:UInt8) (h:Zbfb c=false) (h1:c.toNat≠34) (h2:c.toNat≠92) (h3:c.toNat≠10) (h4:c.toNat≠9):
  (⟨#[92,120]⟩++(⟨#[48,49,50,51,52,53,54,55,56,57,97,98,99,100,101,102]⟩:ByteArray).extract (c.toNat/16) (c.toNat/16+1)++(⟨#[48,49,50,51,52,53,54,55,56,57,97,98,99,100,101,102]⟩:ByteArray).extract (c.toNat % 16) (c.toNat % 16+1):ByteArray)=(⟨(Zbfv c).toArray⟩:ByteArray):=by
 have:=Zbgc ⟨c.toNat,c.toNat_lt⟩;simp only[UInt8.ofNat_toNat]at this;exact this h h1 h2 h3 h4
set_option maxHeartbeats 1000000 in
theorem Zbfw (c:UInt8) (w:World):
  Calls prog 130 #[.int .u8 c.toNat] w λe w'=>e = .returned (.string ⟨(Zbfv c).toArray⟩)/\Below w.heap.size w w':=by
 obtain⟨q,hq⟩:∃q,Zbfb c=q:=⟨_,rfl⟩;have HQ:=hid hq;have cP:=λw=>Ztw c w
 simp only[hq]at cP;have CP:=hid cP;clear hq cP
 go_enter func130,ntmps130
 go_wp2_with fail
 refine(CP.out _).mono ?_;rintro e w2 ⟨rfl,rfl⟩
 cases q
 ·by_cases h34:(c.toNat:Int)=34
  ·obtain rfl:=Zbrt (n:=34) (by omega) h34
   go_wp2;go_ret;exact⟨by rfl,Below.refl _ _⟩
  ·by_cases h92:(c.toNat:Int)=92
   ·obtain rfl:=Zbrt (n:=92) (by omega) h92
    go_wp2;go_ret;exact⟨by rfl,Below.refl _ _⟩
   ·by_cases h10:(c.toNat:Int)=10
    ·obtain rfl:=Zbrt (n:=10) (by omega) h10
     go_wp2;go_ret;exact⟨by rfl,Below.refl _ _⟩
    ·by_cases h9:(c.toNat:Int)=9
     ·obtain rfl:=Zbrt (n:=9) (by omega) h9
      go_wp2;go_ret;exact⟨by rfl,Below.refl _ _⟩
     ·have hlt:c.toNat<256:=c.toNat_lt
      obtain⟨a,ha⟩:∃a:Nat,c.toNat/16=a:=⟨_,rfl⟩;obtain⟨b,hb⟩:∃b:Nat,c.toNat % 16=b:=⟨_,rfl⟩;have ha16:a<16:=by omega
      have hb16:b<16:=by omega
      have w1:IntKind.u8.wrap ((c.toNat:Int)/16)=(a:Int):=by rw[IntWalk.u8_in _ (by omega)];omega
      have w2:IntKind.u8.wrap ((c.toNat:Int) % 16)=(b:Int):=by rw[IntWalk.u8_in _ (by omega)];omega
      have w2t:IntKind.u8.wrap ((c.toNat:Int).tmod 16)=(b:Int):=by rw[Int.tmod_eq_emod_of_nonneg (by omega)];exact w2
      have w3:IntKind.u8.wrap ((a:Int)+1)=(a:Int)+1:=IntWalk.u8_in _ (by omega);have w4:IntKind.u8.wrap ((b:Int)+1)=(b:Int)+1:=IntWalk.u8_in _ (by omega);have p1:(0:Int)<=(a:Int):=by omega
      have p2:(0:Int)<=(b:Int):=by omega
      have p3:(a:Int)<=(a:Int)+1:=by omega
      have p4:(b:Int)<=(b:Int)+1:=by omega
      have p5:(a:Int)+1<=16:=by omega
      have p6:(b:Int)+1<=16:=by omega
      have t1:((a:Int)+1).toNat=a+1:=by omega
      have t2:((b:Int)+1).toNat=b+1:=by omega
      have p7:(0:Int)<=(a:Int)+1:=by omega
      have p8:(0:Int)<=(b:Int)+1:=by omega
      have HA:=hid ha;have HB:=hid hb;clear ha hb
      go_wp2_with fail
      go_quiet (fail)
      all_goals go_wp2
      all_goals go_ret
      all_goals exact⟨Zbhr (by rw[<-HA.out];exact Zbgb c HQ.out (by omega) (by omega) (by omega) (by omega)),below_drewN (Below.refl _ _) _⟩
 ·go_wp2
  go_ret;have hc:Utf8.encode (wrap32 (c.toNat:Int))=(⟨(Zbfv c).toArray⟩:ByteArray):=Zbge c HQ.out;exact⟨Zbhr hc,Below.refl _ _⟩
def Zfz (l:List UInt8):List UInt8:=34::(l.map Zbfv).flatten
theorem Zgb (s:ByteArray) (k:Nat) (h:k<s.size):Zfz (s.data.toList.take (k+1))=Zfz (s.data.toList.take k)++Zbfv s[k]:=by
 have hk:k<s.data.toList.length:=by rw[<-Lib.size_eq];exact h
 unfold Zfz;rw[List.take_succ_eq_append_getElem hk,List.map_append,List.flatten_append,List.map_cons,List.map_nil,List.flatten_cons,List.flatten_nil,List.append_nil,List.cons_append];rfl
theorem Zga (s:ByteArray) (k:Nat):(Zfz (s.data.toList.take k)).length<=4*s.size+1:=by
 have h1:=Zbgd (s.data.toList.take k);have h2:(s.data.toList.take k).length<=s.size:=by rw[Lib.size_eq];exact List.length_take_le' _ _
 unfold Zbfx at h1;unfold Zfz;simp only[List.length_append,List.length_cons,List.length_nil]at h1⊢;omega
set_option maxHeartbeats 2000000 in
theorem Zbfy (s:ByteArray) (w:World) (hs:s.size<=35184372088000):
  Calls prog 75 #[.string s] w λe w'=>e = .returned (.string ⟨(Zbfx s.data.toList).toArray⟩)/\Below w.heap.size w w':=by
 have hB0:=Lib.fresh_isBuilder 161 5 w;have hw0:w.heap.size<=(w.alloc (.cells #[.pointer none,.slice none 0 0] 161)).heap.size:=by simp
 have HB0:=hid hB0;clear hB0
 go_enter func75,ntmps75
 go_wp2_with fail
 refine(Zbul w.heap.size w.heap.size [] 34 34 rfl _ HB0.out (by simp) hw0).mono ?_;rintro e w1 ⟨rfl,h1,hb1⟩;have hb1':=((Below.refl w.heap.size w).alloc (Nat.le_refl _) (.cells #[.pointer none,.slice none 0 0] 161)).trans hb1;have H1:=hid h1;clear h1 hb1;go_wp2
 go_loopw [8] (λi wr=>∃k:Nat,k<=s.size/\i = .int .i64 k/\Lib.IsBuilder 161 5 w.heap.size w.heap.size (Lib.byteCells (Zfz (s.data.toList.take k))) wr/\Below w.heap.size w wr)
  (λi _=>s.size-(intOf i).toNat)
 case atStart=>exact⟨0,Nat.zero_le _,rfl,H1.out,hb1'⟩
 case round=>
  obtain⟨k,hk,rfl,hbu,hnx⟩:=hrel;obtain⟨cur,hcur⟩:∃cur,Zfz (s.data.toList.take k)=cur:=⟨_,rfl⟩;have hle:=Zga s k;rw[hcur]at hbu hle;have HCUR:=hid hcur;have HBU:=hid hbu;have hsz:=hnx.size;clear hcur hbu
  by_cases hlt:k<s.size
  ·have hnext:=Zgb s k hlt
   rw[HCUR.out]at hnext;have HN:=hid hnext;obtain⟨c,hc⟩:∃c,s[k]=c:=⟨_,rfl⟩;rw[hc]at hnext;have HN:=hid hnext;have hq4:=(Zbfz c).2.2.2;clear hnext
   go_wp2_with fail
   refine(Zbfw _ _).mono ?_;rintro e w2 ⟨rfl,hb2⟩;have h2:=Zgl HBU.out hb2;have s2:=hb2.size;have H2:=hid h2;clear h2;have hn2:=hnx.trans (hb2.mono hsz);clear hb2
   go_wp2_with fail
   refine(Zbuo w.heap.size w.heap.size cur _ w2 H2.out (by simp only[ByteArray.size,List.size_toArray];omega) (by omega)).mono ?_;rintro e w3 ⟨rfl,h3,hb3⟩;have hn3:=hn2.trans hb3;have H3:=hid h3;clear h3 hb3;go_wp2;go_roundw
   case rel=>exact⟨k+1,by omega,by go_num,by rw[HN.out];exact H3.out,hn3⟩
   case measure=>simp[intOf];omega
  ·have hkk:(k:Int)=(s.size:Int):=by omega
   have hfull:Zbfx s.data.toList=cur ++ [34]:=by rw[<-HCUR.out,List.take_of_length_le (by rw[<-Lib.size_eq];omega)];rfl
   have HF:=hid hfull;clear hfull
   go_wp2_with fail
   refine(Zbul w.heap.size w.heap.size cur 34 34 rfl wr HBU.out (by omega) hsz).mono ?_;rintro e w2 ⟨rfl,h2,hb2⟩;have hn2:=hnx.trans hb2;have H2:=hid h2;clear h2 hb2
   go_wp2_with fail
   refine(Zgk w.heap.size w.heap.size (cur ++ [34]) w2 H2.out hn2.size).mono ?_;rintro e w3 ⟨rfl,hb3⟩;go_wp2;go_ret;exact⟨Zbhr (by rw[HF.out]),hn2.trans hb3⟩
open Go.Sort
set_option maxHeartbeats 1000000 in
theorem Zbcp (op:Int) (p:Nat) (w:World) (hg:GP p w):
  Calls prog 78 #[.int .i64 op] w λe w'=>e = .returned (.string ⟨(opTx op).toArray⟩)/\w=w':=by
 by_cases h0:op<0
 ·have hr:(⟨(opTx op).toArray⟩:ByteArray)=⟨#[]⟩:=by unfold opTx;rw[if_pos (.inl h0)]
  rw[hr];clear hr hg
  go_enter func78,ntmps78
  go_wp2;go_ret;exact⟨rfl,rfl⟩
 ·by_cases h10:10<=op
  ·have hr:(⟨(opTx op).toArray⟩:ByteArray)=⟨#[]⟩:=by unfold opTx;rw[if_pos (.inr h10)]
   rw[hr];clear hr hg
   go_enter func78,ntmps78
   go_wp2;go_ret;exact⟨rfl,rfl⟩
  ·obtain⟨k,rfl⟩:∃k:Nat,op=(k:Int):=⟨op.toNat,by omega⟩
   obtain⟨x,hx⟩:∃x,Zbcr[k]? =some x:=⟨Zbcr[k]'(by simp[Zbcr];omega),List.getElem?_eq_getElem _⟩;have hc:=hg.ops k x hx;have hr:(⟨(opTx (k:Int)).toArray⟩:ByteArray)=⟨x.toArray⟩:=by unfold opTx;rw[if_neg (by omega),Int.toNat_natCast,List.getD_eq_getElem?_getD,hx];rfl
   rw[hr];obtain⟨X,hX⟩:∃X:ByteArray,(⟨x.toArray⟩:ByteArray)=X:=⟨_,rfl⟩;rw[hX]at hc⊢;clear hr hg hX hx
   go_enter func78,ntmps78
   go_wp2;go_ret;exact⟨rfl,rfl⟩
def OwnStrs (B:Nat) (w:World) (v:Value) (xs:List ByteArray):Prop:=w.ownsRow B 9 1 v xs.length (xs.map Value.string)
def Zah (w:World) (xs:List ByteArray) (e:Ending) (w':World):Prop:=∃v,e = .returned v/\((xs = []/\v = .slice none 0 0)∨(∃g c,v = .slice (some ⟨g,0,none⟩) xs.length c/\OwnStrs w.heap.size w' v xs))/\Below w.heap.size w w'
theorem Zbqh {Av:Nat->Prop} {w:World} {v:Value} {xs:List ByteArray} (h:StrsA Av w v xs):∃a c,v = .slice a xs.length c/\xs.length<=c/\c<=maxLen/\(xs≠[]->∃b o,a=some ⟨b,o,none⟩/\b<w.heap.size/\∀(j:Nat) x,xs[j]? =some x->w.cell? ⟨b,o+j,none⟩=some (.string x)):=by
 obtain⟨⟨a,c,rfl,h1,h2,h3⟩,_⟩:=h;rw[Zbpo]at h1;refine⟨a,c,by rw[Zbpo],h1,h2,λhne=>?_⟩;obtain⟨b,o,ha,hb,hc⟩:=h3 (by intro e;apply hne;have:=congrArg List.length e;rw[Zbpo]at this;exact List.eq_nil_of_length_eq_zero this);refine⟨b,o,ha,hb,λj x hx=>?_⟩;have:=hc j [.string x] (by unfold Zbpk;rw[List.getElem?_map,hx];rfl) 0 (.string x) rfl;simpa using this
theorem StrsA.isStrs {Av:Nat->Prop} {w:World} {v:Value} {xs:List ByteArray} (h:StrsA Av w v xs):IsStrs w v xs:=Zbqh h
set_option maxHeartbeats 2000000 in
set_option maxRecDepth 100000 in
theorem Zjh (v:Value) (xs:List ByteArray) (w:World) (h:IsStrs w v xs) (hn:xs.length<=8796093022208):
  Calls prog 243 #[v] w (Zah w xs):=by
 obtain⟨a,c,rfl,h1,h1m,h2⟩:=h;obtain⟨i0,hi,hz0,hz1,hz2⟩:=info_parts Zsy
 cases a with
 | none=>
  have hfs:xs = []:=by
   rcases xs with _|⟨f,fs⟩
   ·rfl
   ·obtain⟨b,o,ha,_⟩:=h2 (by simp)
    cases ha
  subst hfs;have hq:∀w,(Go.binOp .eql 29 (.slice none 0 c) (.slice none 0 0)).run prog w = .ok (.bool true) w:=λw=>Lib.run_eql_slice_nil w 29 9 none 0 c 0 0 underlying29
  go_enter func243,ntmps243
  go_wp2;go_ret;exact⟨_,rfl,.inl ⟨rfl,rfl⟩,Below.refl _ _⟩
 | some ad=>
  obtain⟨ab,ao,asp⟩:=ad;have hq:∀w,(Go.binOp .eql 29 (.slice (some ⟨ab,ao,asp⟩) xs.length c) (.slice none 0 0)).run prog w = .ok (.bool false) w:=λw=>Lib.run_eql_slice_nil w 29 9 _ _ _ _ _ underlying29
  have hcells:∀j u,(xs.map Value.string)[j]? =some u->w.cell? ((⟨ab,ao,asp⟩:Addr).add j)=some u:=by
   intro j u hu;rw[List.getElem?_map]at hu;obtain⟨x,hx,rfl⟩:=Option.map_eq_some_iff.1 hu;obtain⟨b,o,ha,_,hc⟩:=h2 (by rintro rfl;simp at hx)
   cases ha
   rw[Addr.add_lit];exact hc j x hx
  have HC:=hid hcells;clear hcells h2
  go_enter func243,ntmps243
  go_wp2_with (at_builtin;refine wpList_append_own _ rfl _ _ 29 rfl w.heap.size 9 i0 _ 1 16 underlying29 hi hz0 hz1 hz2 rfl (by decide) _ _ _ rfl (World.ownsRow_made w #[] 0 (Nat.le_refl _) (Nat.zero_le _) (by simp)) ⟨ab,ao,asp⟩ xs.length c (xs.map Value.string) rfl ?qc1 ?qc2 ?qc3 ?qc4 ?qc5 ?qc6 ?_)
  case qc1=>simp
  case qc2=>
   intro j u hj;exact Lib.cell?_alloc_some _ (HC.out j u hj)
  case qc3=>
   intro u hu;obtain⟨x,_,rfl⟩:=List.mem_map.1 hu;rfl
  case qc4=>unfold maxLen;omega
  case qc5=>omega
  case qc6=>simp
  intro v' w1 hown hgrow hnil;go_wp2;go_ret;have hb:Below w.heap.size w w1:=((Below.refl _ w).alloc (Nat.le_refl _) _).grown hgrow (by simp) (by intro k hk;simp[Value.ownBlock]at hk;omega);refine⟨_,rfl,?_,hb⟩;have hown':OwnStrs w.heap.size w1 v' xs:=by unfold OwnStrs;simpa using hown
  rcases hown'.2 with⟨hv,h0⟩|⟨g,cap,cur,hv,_⟩
  ·exact .inl ⟨List.eq_nil_of_length_eq_zero h0,hv⟩
  ·exact .inr ⟨g,cap,hv,hown'⟩
theorem Zmp (xs:List ByteArray):(xs.map (·.data.toList)).map encStr=xs.map Value.string:=by
 rw[List.map_map];exact List.map_congr_left λx _=>by simp[encStr]
theorem Zmq (xs:List ByteArray):(srtL (xs.map (·.data.toList))).map encStr=(srtB xs).map Value.string:=by
 unfold srtB;rw[List.map_map];exact List.map_congr_left λx _=>by simp[encStr]
theorem e190:nmRen.f 190=85:=by kernel_rfl
set_option maxRecDepth 100000 in
theorem Zbmi (B g c:Nat) (xs:List ByteArray) (w:World) (h:OwnStrs B w (.slice (some ⟨g,0,none⟩) xs.length c) xs) (hn:xs.length<=8796093022208):
  Calls prog 85 #[.slice (some ⟨g,0,none⟩) xs.length c] w λe w'=>e = .returned (.tuple #[])/\OwnStrs B w' (.slice (some ⟨g,0,none⟩) xs.length c) (srtB xs)/\w.grownBy w' (some g):=by
 obtain⟨hl,⟨hv,_⟩|⟨g',cap',cur,hv,hbase,hb,h1,h2,h3,h4⟩⟩:=h
 ·cases hv
 cases hv
 have hsl:(xs.map (·.data.toList)).length=xs.length:=by simp
 have hH:Holds encStr w g 0 (xs.map (·.data.toList)).toArray:=holds_of_block hb (by rw[hsl,Zmp];simpa using h4);have hgl:g<w.heap.size:=(Array.getElem?_eq_some_iff.1 hb).1;have hz:(xs.map (·.data.toList)).length<4611686018427387904:=by rw[hsl];omega
 have hd:=λD:Nat=>AnyS.slices_Sort_string_in lLays_n190 D g 0 c (xs.map (·.data.toList)) w hH hgl hz
 have hc:=calls_of_every_depth hd;rw[e190,hsl]at hc;refine hc.mono ?_;rintro e w' ⟨rfl,n,os,rfl⟩;refine⟨rfl,?_,grownBy_sorted _⟩;have:=ownsRow_sorted (n:=n) (os:=os) (ts:=srtL (xs.map (·.data.toList))) (ss:=xs.map (·.data.toList)) (cap:=c) (Zbnc _) hbase hb (by rw[hsl];exact h1) h2 h3;rw[Zmq,hsl]at this;unfold OwnStrs;rw[Zbnb];exact this
theorem Zbmj (a:Option Addr) (c:Nat) (w:World):Calls prog 85 #[.slice a 0 c] w λe w'=>e = .returned (.tuple #[])/\w'=w:=
 by
 have:=Any.slices_Sort_string_none lLays_n190 a c w
 rwa [e190]at this
def Zby (w:World) (xs:List ByteArray) (e:Ending) (w':World):Prop:=∃v,e = .returned v/\IsStrs w' v (srtB xs)/\StrsA (λb=>b<w.heap.size) w' v (srtB xs)/\Below w.heap.size w w'
set_option maxHeartbeats 2000000 in
theorem Zbml (v:Value) (xs:List ByteArray) (w:World) (h:IsStrs w v xs) (hn:xs.length<=8796093022208):
  Calls prog 189 #[v] w (Zby w xs):=by
 have cC:=Zjh v xs w h hn;obtain⟨a,c,rfl,h1,h1m,h2⟩:=h;clear h2
 go_enter func189,ntmps189
 go_wp2_with fail
 refine cC.mono ?_;rintro e w2 ⟨v2,rfl,hv,hb2⟩;clear cC
 rcases hv with⟨rfl,rfl⟩|⟨g,c2,rfl,hown⟩
 ·go_wp2_with fail
  refine(Zbmj _ _ _).mono ?_;rintro e w3 ⟨rfl,rfl⟩;go_wp2;go_ret;have hA:StrsA (λb=>b<w.heap.size) w3 (.slice none 0 0) (srtB []):=by
   have h1:srtB [] = []:=by simp[srtB,srtL]
   rw[h1];exact Zbie _ _ _
  exact⟨_,rfl,hA.isStrs,hA,hb2⟩
 ·have cS:=Zbmi w.heap.size g c2 xs w2 hown hn
  have HB:=hid hb2;have hg:=(hown.lt g rfl).1;clear hown hb2
  go_wp2_with fail
  refine cS.mono ?_;rintro e w3 ⟨rfl,hown3,hgr⟩;go_wp2;go_ret;have hA:StrsA (λb=>b<w.heap.size) w3 (.slice (some ⟨g,0,none⟩) (srtB xs).length c2) (srtB xs):=by
   refine Zbqf (t:=9) ?_;rw[Zbnb];unfold OwnStrs at hown3;rw[Zbnb]at hown3;exact hown3
  rw[Zbnb]at hA;exact⟨_,rfl,hA.isStrs,hA,HB.out.grown hgr HB.out.size (λk hk=>by cases hk;exact hg)⟩
theorem Zbkz (l:List UInt8):(⟨l.toArray⟩:ByteArray).size=l.length:=by simp[ByteArray.size]
set_option maxHeartbeats 2000000 in
theorem Zjd (key:ByteArray) (v:Value) (xs:List ByteArray) (w:World) (h:IsStrs w v xs) (hn:xs.length<=8796093022208)
  (hlen:(Zjc key.data.toList xs).length<=140737488351232):
  Calls prog 185 #[.string key,v] w λe w'=>e = .returned (.string ⟨(Zjc key.data.toList xs).toArray⟩)/\Below w.heap.size w w':=by
 have cS:=Zbml v xs w h hn;obtain⟨a,c,rfl,h1,h1m,h2⟩:=h;clear h2
 by_cases h0:xs = []
 ·subst h0
  have hr:(⟨(Zjc key.data.toList []).toArray⟩:ByteArray)=⟨#[]⟩:=by unfold Zjc;rw[if_pos rfl]
  rw[hr];clear cS hr hlen
  go_enter func185,ntmps185
  go_wp2;go_ret;exact⟨rfl,Below.refl _ _⟩
 ·have hpos:0<xs.length:=List.length_pos_iff.2 h0
  obtain⟨J,hJ⟩:∃J,Lib.join (srtL (xs.map (·.data.toList))) [44,32]=J:=⟨_,rfl⟩;have hr:Zjc key.data.toList xs = [32,32]++key.data.toList ++ [32]++J ++ [59,10]:=by unfold Zjc;rw[if_neg h0,hJ]
  rw[hr]at hlen⊢;have hsz:=Lib.size_eq key;simp only[List.length_append,List.length_cons,List.length_nil,<-hsz]at hlen;have hz:((xs.length:Int)==0)=false:=by
   rw[Bool.eq_false_iff];intro e;have:=eq_of_beq e;omega
  have HJ:=hid hJ;have HN:=hid hn;clear hr hJ hsz h0 hpos hn
  go_enter func185,ntmps185
  go_wp2_with fail
  refine cS.mono ?_;rintro e w2 ⟨v2,rfl,hS,_,hb2⟩;have cJ:=Zuy v2 (srtB xs) ⟨#[44,32]⟩ w2 hS (by rw[Zbnb];have:=HN.out;omega) (by rw[Zbna];show(Lib.join _ [44,32]).length<=_;rw[HJ.out];omega);rw[Zbna]at cJ;have hcJ:Lib.join (srtL (xs.map (·.data.toList))) (⟨#[44,32]⟩:ByteArray).data.toList=J:=HJ.out;rw[hcJ]at cJ;have HB:=hid hb2;obtain⟨va,vn,vc,hvs⟩:∃a n c,v2 = .slice a n c:=by obtain⟨a,c,rfl,_⟩:=hS;exact⟨_,_,_,rfl⟩
  subst hvs;have hJs:(⟨J.toArray⟩:ByteArray).size=J.length:=Zbkz J;obtain⟨JB,hJB⟩:∃JB:ByteArray,(⟨J.toArray⟩:ByteArray)=JB:=⟨_,rfl⟩;rw[hJB]at cJ hJs;have HJB:=hid hJB;have hJs':JB.size<=140737488351232-key.size-5:=by omega
  clear hS hb2 hcJ cS hJs hJB;have e1:∀w,(Op.stringOp .add ⟨#[32,32]⟩ key).run prog w = .ok (.string (⟨#[32,32]⟩++key)) w:=λw=>run_string_add_sum _ _ _ (by show 2+key.size<=_;omega)
  go_wp2_with fail
  refine cJ.mono ?_;rintro e w3 ⟨rfl,hb3⟩;have HB3:=hid (HB.out.trans (hb3.mono HB.out.size));clear hb3 cJ;go_wp2;go_ret;refine⟨Zbhr ?_,HB3.out⟩;rw[<-HJB.out];apply ByteArray.ext;simp
theorem Zbuf {P:Program} {w:World} {ops:Array Oper} {rest:List Oper} {o:Oper} {a:Act} {Q:Exit->Act->World->Prop} (hgd:o.guard=none) (s x:Operand) (t:TypeId)
  (ho:o.op = .call { callee:= .builtin .append,args:=#[s,x],argTypes:=#[t,t] })
  (base:Nat) (e:TypeId) (i:TypeInfo) (size:Nat) (ht:P.underlying t=some (.slice e)) (hi:P.info? e=some i)
  (v:Value) (n:Nat) (xs:List Value) (hs:a.eval s=v) (hown:w.ownsRow base e size v n xs) (c:Nat) (hx:a.eval x = .slice none 0 c)
  (h:wpList P ops Q rest (a.put o.dst v) w):wpList P ops Q (o::rest) a w:=by
 refine wpList_plain hgd λK hK=>?_
 have hrun:(Builtin.append_ #[t,t] o.type #[v,.slice none 0 c]).run P w = .ok v w:=by
  rcases hown.2 with⟨rfl,rfl⟩|⟨g,cap,cur,rfl,_,_,hnc,_⟩
  ·simp[Builtin.append_,run_underlying ht,sizeOf,typeInfo,hi,Builtin.lenOf,Builtin.firstCells]
  ·simp[Builtin.append_,run_underlying ht,sizeOf,typeInfo,hi,Builtin.lenOf,Builtin.firstCells,hnc,storeCells]
 unfold Oper.wp;simp[execOp,ho,resolve,invoke,builtin,hs,hx,hrun,Result.andThen];exact hK _ _ h
theorem Zbuj {w:World} {ops:Array Oper} {rest:List Oper} {o:Oper} {a:Act} {Q:Exit->Act->World->Prop} (hgd:o.guard=none) (s x:Operand)
  (ho:o.op = .call { callee:= .builtin .append,args:=#[s,x],argTypes:=#[29,29] })
  (B:Nat) (v:Value) (xs:List ByteArray) (q:ByteArray) (hs:a.eval s=v) (hown:w.ownsRow B 9 1 v xs.length (xs.map Value.string)) (hB:B<=w.heap.size) (hn:xs.length<=1000000000)
  (hx:a.eval x = .slice (some ⟨w.heap.size,0,none⟩) 1 1)
  (h:∀v' w',w'.ownsRow B 9 1 v' (xs ++ [q]).length ((xs ++ [q]).map Value.string)->Below B w w'->wpList prog ops Q rest (a.put o.dst v') w'):
  wpList prog ops Q (o::rest) a (w.alloc (.cells #[.string q] 9)):=by
 obtain⟨i0,hi,hz0,hz1,hz2⟩:=info_parts Zsy;refine wpList_append_own _ hgd s x 29 ho B 9 i0 (.string ByteArray.empty) 1 16 underlying29 hi hz0 hz1 hz2 rfl (by decide) v xs.length _ hs (hown.alloc _) ⟨w.heap.size,0,none⟩ 1 1 [.string q] hx rfl ?_ ?_ ?_ ?_ ?_ ?_
 ·intro j u hj
  match j,hj with
  | 0,hj=>simp at hj;subst hj;simp[Addr.add]
 ·intro u hu;simp at hu;subst hu;rfl
 ·unfold maxLen;omega
 ·omega
 ·simp;omega
 ·intro v' w' ho' hg _
  refine h v' w' (by rw[List.length_append,List.map_append];exact ho') ?_;exact((Below.refl B w).alloc hB _).grown hg (by simp;omega) (λb hb=>(hown.lt b hb).1)
structure StepFit (x:StepS):Prop where
 few:x.args.length+x.lits.length<=1000000
 lits:∀l∈x.lits,l.size<=35184372088000
 n: -9223372036854775808<=x.n/\x.n<=9223372036854775807
 all:(Zbnw x).length<=140737488351232
def Zxv (ls:List ByteArray):List ByteArray:=ls.map λl=>⟨(Zbfx l.data.toList).toArray⟩
def Zro (x:StepS):List ByteArray:=[x.out,⟨#[61]⟩,⟨(opTx x.op).toArray⟩]++(if x.op=9 then [⟨(Lib.itoa x.n).toArray⟩]else [])
theorem Zxx (ls:List ByteArray) (k:Nat) (l:ByteArray) (h:ls[k]? =some l):Zxv (ls.take (k+1))=Zxv (ls.take k) ++ [⟨(Zbfx l.data.toList).toArray⟩]:=by
 unfold Zxv;rw[List.take_add_one,h,List.map_append];rfl
theorem Zxw (ls:List ByteArray) (k:Nat):(Zxv (ls.take k)).length<=k:=by unfold Zxv;rw[List.length_map];exact List.length_take_le _ _
theorem Zrp (x:StepS):(Zro x).length<=4:=by unfold Zro;split<;>simp
theorem Zbds {B:Nat} {w w':World} {v:Value} {xs:List ByteArray} (h:OwnStrs B w v xs) (hb:Below w.heap.size w w'):OwnStrs B w' v xs:=
 World.ownsRow.kept (row:=none) h ⟨hb.os,hb.tape,hb.output,hb.size,λk hk _=>hb.block k hk⟩ (by cases h:Value.ownBlock _<;>simp)
theorem Zbnx (x:StepS):Zbnw x=Lib.join ((Zro x++Zxv x.lits++x.args).map (·.data.toList)) [32] ++ [59]:=rfl
set_option maxHeartbeats 8000000 in
set_option maxRecDepth 100000 in
theorem Zboa (x:StepS) (va vl:Value) (p:Nat) (w:World) (hg:GP p w) (hp:p<=w.heap.size) (hA:IsStrs w va x.args) (hL:IsStrs w vl x.lits) (hf:StepFit x):
  Calls prog 81 #[.agg #[.string x.out,.int .i64 x.op,va,vl,.int .i64 x.n]] w λe w'=>e = .returned (.string ⟨(Zbnw x).toArray⟩)/\Below w.heap.size w w':=by
 obtain⟨i0,hi,hz0,hz1,hz2⟩:=info_parts Zsy;obtain⟨o,ho⟩:∃o:Obj,o = .cells #[.string x.out,.int .i64 x.op,va,vl,.int .i64 x.n] 34:=⟨_,rfl⟩;have hbox:∀w',Below (w.heap.size+1) (w.alloc o) w'->w'.cell? ⟨w.heap.size,0,none⟩=some (.string x.out)/\w'.cell? ⟨w.heap.size,1,none⟩=some (.int .i64 x.op)/\w'.cell? ⟨w.heap.size,2,none⟩=some va/\w'.cell? ⟨w.heap.size,3,none⟩=some vl/\w'.cell? ⟨w.heap.size,4,none⟩=some (.int .i64 x.n):=by
  intro w' hw';have hb:w'.heap[w.heap.size]? =some o:=(hw'.block _ (by omega)).trans (alloc_at w o);rw[ho]at hb;refine⟨?_,?_,?_,?_,?_⟩<;>simp[World.cell?,hb]
 have hdown:∀w',Below (w.heap.size+1) (w.alloc o) w'->Below w.heap.size w w':=λw' h=>((Below.refl _ _).alloc (Nat.le_refl _) _).trans (h.mono (by omega))
 obtain⟨aa,ca,hva,ha1,ha2,ha3⟩:=hA;obtain⟨al,cl,hvl,hl1,hl2,hl3⟩:=hL;have hop:=λw' (hb:Below w.heap.size w w')=>Zbcp x.op p w' ((hg.below (hb.mono hp)))
 obtain⟨opB,hopB⟩:∃opB:ByteArray,(⟨(opTx x.op).toArray⟩:ByteArray)=opB:=⟨_,rfl⟩;rw[hopB]at hop;obtain⟨H,hH⟩:∃H,Zro x=H:=⟨_,rfl⟩;have hHl:=Zrp x;rw[hH]at hHl;have hb1:Below (w.heap.size+1) (w.alloc o) (w.alloc o):=Below.refl _ _;have hb2:∀o',Below (w.heap.size+1) (w.alloc o) ((w.alloc o).alloc o').drew:=λo'=>(hb1.alloc (by simp) _).drew
 have hc:=hbox _ hb1;subst hva hvl;obtain⟨c0,c1,_,_,_⟩:=hc;have hS:Below w.heap.size w (w.alloc o).drew:=(hdown _ hb1).drew;have HSS:=hid hS;have HBOX:=hid hbox;have HDOWN:=hid hdown;have HLC:=hid hl3;have HAC:=hid ha3;have HG:=hid hg;have HF:=hid hf;have HOB:=hid hopB;have HH:=hid hH;have HOPN:=hid hop;have HHL:=hid hHl;have HB2:=hid hb2;have HGL:Hid (∀w',Below w.heap.size w w'->Glob w'):=by show ∀w',_;exact λw' hb=>(hg.below (hb.mono hp)).glob
 clear hbox hdown hg hf hop hopB hl3 ha3 hH hS hb1 hb2 hHl;subst ho;have hlit0:∀w1:World,w.heap.size+1<=w1.heap.size->OwnStrs (w.heap.size+1) (w1.alloc (.cells #[.string x.out,.string ⟨#[61]⟩,.string opB] 9)).drew (.slice (some ⟨w1.heap.size,0,none⟩) 3 3) [x.out,⟨#[61]⟩,opB]:=by
  intro w1 h1;exact(World.ownsRow_lit w1 #[.string x.out,.string ⟨#[61]⟩,.string opB] 3 h1 (by unfold maxLen;omega) rfl).drew
 have HLIT:=hid hlit0;clear hlit0
 go_enter func81,ntmps81
 go_wp2_with fail
 go_region_held3 (λw'=>w'.cell? ⟨w.heap.size,0,none⟩=some (.string x.out)/\w'.cell? ⟨w.heap.size,1,none⟩=some (.int .i64 x.op)) (go_keep)
  (first|(go_at_call 78;refine(HOPN.out _ ?_).mono ?_;(first|assumption|exact HSS.out);rintro e w2 ⟨rfl,rfl⟩))
 by_cases h9:x.op=9
 case' pos=>
  have h9b:(x.op==9)=true:=by simpa using h9
  have hH9:H = [x.out,⟨#[61]⟩,opB] ++ [⟨(Lib.itoa x.n).toArray⟩]:=by rw[<-HH.out,<-HOB.out];unfold Zro;rw[if_pos h9]
  obtain⟨nB,hnB⟩:∃nB:ByteArray,(⟨(Lib.itoa x.n).toArray⟩:ByteArray)=nB:=⟨_,rfl⟩;rw[hnB]at hH9;have HH9:=hid hH9;have HNB:=hid hnB;clear h9 hH9 hnB
  go_wp2_with fail
  refine(Zuh x.n HF.out.n.1 HF.out.n.2 _ (HGL.out _ (HDOWN.out _ (HB2.out _)))).mono ?_;rintro e w2 ⟨rfl,hb2⟩;rw[HNB.out];have HN2:=hid ((HB2.out _).trans (hb2.mono (by simp)));have hs2:=HN2.out.size;simp at hs2;have HO2:Hid (w2.ownsRow (w.heap.size+1) 9 1 (.slice (some ⟨w.heap.size+1,0,none⟩) 3 3) [x.out,⟨#[61]⟩,opB].length ([x.out,⟨#[61]⟩,opB].map Value.string)):=by
   show World.ownsRow _ _ _ _ _ _ _;have h0:=HLIT.out (w.alloc (.cells #[.string x.out,.int .i64 x.op,.slice aa x.args.length ca,.slice al x.lits.length cl,.int .i64 x.n] 34)) (by simp);have h1:=Zbds h0 hb2;simpa[OwnStrs]using h1
  clear hb2;obtain⟨d0,d1,d2,d3,d4⟩:=HBOX.out _ HN2.out
  go_wp2_with (at_builtin;refine Zbuj (by rfl) _ _ (by rfl) (w.heap.size+1) _ [x.out,⟨#[61]⟩,opB] nB (by rfl) HO2.out (by have:=HN2.out.size;simpa using this) (by simp) (by rfl) ?_)
  intro v3 W3 hown3 hb3;have HO3:Hid (W3.ownsRow (w.heap.size+1) 9 1 v3 H.length (H.map Value.string)):=by
   show W3.ownsRow _ _ _ _ _ _;rw[HH9.out];exact hown3
  have HN3:=hid (HN2.out.trans hb3);clear hown3 hb3 d0 d1 d2 d3 d4
 case' neg=>
  have h9b:(x.op==9)=false:=by simpa using h9
  have hH9:H = [x.out,⟨#[61]⟩,opB]:=by rw[<-HH.out,<-HOB.out];unfold Zro;rw[if_neg h9];simp
  obtain⟨W3,hW3⟩:∃W3,((w.alloc (.cells #[.string x.out,.int .i64 x.op,.slice aa x.args.length ca,.slice al x.lits.length cl,.int .i64 x.n] 34)).alloc (.cells #[.string x.out,.string ⟨#[61]⟩,.string opB] 9)).drew=W3:=⟨_,rfl⟩;have HO3:Hid (W3.ownsRow (w.heap.size+1) 9 1 (.slice (some ⟨w.heap.size+1,0,none⟩) 3 3) H.length (H.map Value.string)):=by
   show World.ownsRow _ _ _ _ _ _ _;have h0:=HLIT.out (w.alloc (.cells #[.string x.out,.int .i64 x.op,.slice aa x.args.length ca,.slice al x.lits.length cl,.int .i64 x.n] 34)) (by simp);rw[<-hW3,hH9];simpa[OwnStrs]using h0
  have HN3:Hid (Below (w.heap.size+1) (w.alloc (.cells #[.string x.out,.int .i64 x.op,.slice aa x.args.length ca,.slice al x.lits.length cl,.int .i64 x.n] 34)) W3):=by
   show Below _ _ _;rw[<-hW3];exact HB2.out _
  rw[hW3];clear hW3 h9 hH9
 all_goals
  obtain⟨d0,d1,d2,d3,d4⟩:=HBOX.out _ HN3.out;go_wp2
  go_loopw [3,24] (λv i wr=>∃k:Nat,k<=x.lits.length/\i = .int .i64 k/\wr.ownsRow (w.heap.size+1) 9 1 v (H++Zxv (x.lits.take k)).length ((H++Zxv (x.lits.take k)).map Value.string)/\Below (w.heap.size+1) (w.alloc (.cells #[.string x.out,.int .i64 x.op,.slice aa x.args.length ca,.slice al x.lits.length cl,.int .i64 x.n] 34)) wr)
   (λ_ i _=>x.lits.length-(intOf i).toNat)
  case atStart=>exact⟨0,Nat.zero_le _,rfl,by simpa[Zxv]using HO3.out,HN3.out⟩
  case round=>
   obtain⟨k,hk,rfl,hown,hnx⟩:=hrel;have hwl:=Zxw x.lits k;have hfw:=HF.out.few;have hsx:=hnx.size;simp at hsx;have hHl:=HHL.out;have hlen:(H++Zxv (x.lits.take k)).length<=1000000000:=by rw[List.length_append];omega
   have HO:=hid hown;have HNX:=hid hnx;clear hown hnx d0 d1 d2 d3 d4
   by_cases hlt:k<x.lits.length
   ·obtain⟨l,hl⟩:∃l,x.lits[k]? =some l:=⟨x.lits[k],List.getElem?_eq_getElem hlt⟩
    obtain⟨b,o,hal,hb,hcl⟩:=HLC.out (by rintro e;rw[e]at hlt;simp at hlt);subst hal;have hcx:wr.cell? ⟨b,o+k,none⟩=some (.string l):=((HDOWN.out _ HNX.out).cell (p:=⟨b,o+k,none⟩) hb).trans (hcl k l hl);have HNEXT:=hid (Zxx x.lits k l hl);have hls:=HF.out.lits l (List.mem_of_getElem? hl);have hi1:(k:Int)<(x.lits.length:Int):=by omega
    clear hcl hb hl
    go_wp2_with fail
    refine(Zbfy l _ hls).mono ?_;rintro e w4 ⟨rfl,hb4⟩;obtain⟨qB,hqB⟩:∃qB:ByteArray,(⟨(Zbfx l.data.toList).toArray⟩:ByteArray)=qB:=⟨_,rfl⟩;rw[hqB];have HN4:=hid (HNX.out.trans (hb4.mono (by omega)));have HO4:=hid (World.ownsRow.kept (row:=none) HO.out ⟨hb4.os,hb4.tape,hb4.output,hb4.size,λk hk _=>hb4.block k hk⟩ (by cases h:Value.ownBlock _<;>simp));have hs4:=hb4.size;have HQ:=hid hqB;clear hb4 hcx hqB
    go_wp2_with (at_builtin;refine Zbuj (by rfl) _ _ (by rfl) (w.heap.size+1) _ (H++Zxv (x.lits.take k)) qB (by rfl) HO4.out (by omega) hlen (by rfl) ?_)
    intro v' w5 hown5 hb5;have HO5:Hid (w5.ownsRow (w.heap.size+1) 9 1 v' (H++Zxv (x.lits.take (k+1))).length ((H++Zxv (x.lits.take (k+1))).map Value.string)):=by
     show w5.ownsRow _ _ _ _ _ _;rw[HNEXT.out,<-List.append_assoc,HQ.out];simpa using hown5
    have HN5:=hid (HN4.out.trans hb5);clear hown5 hb5;go_wp2;go_roundw
    case rel=>exact⟨k+1,by omega,by go_num,HO5.out,HN5.out⟩
    case measure=>simp[intOf];omega
   ·have hfull:x.lits.take k=x.lits:=List.take_of_length_le (by omega)
    rw[hfull]at hwl hlen;have HO6:=HO.out;rw[hfull]at HO6;replace HO6:=hid HO6;obtain⟨d0,d1,d2,d3,d4⟩:=HBOX.out _ HNX.out;clear hfull HO;have hjl:=HF.out.all;rw[Zbnx,HH.out]at hjl;obtain⟨J,hJ⟩:∃J,Lib.join ((H++Zxv x.lits++x.args).map (·.data.toList)) [32]=J:=⟨_,rfl⟩;rw[hJ]at hjl;simp only[List.length_append,List.length_cons,List.length_nil]at hjl;have cJ:∀(v:Value) (W:World),World.ownsRow W (w.heap.size+1) 9 1 v (H++Zxv x.lits++x.args).length ((H++Zxv x.lits++x.args).map Value.string)->Calls prog 139 #[v,.string ⟨#[32]⟩] W λe w'=>e = .returned (.string ⟨J.toArray⟩)/\Below W.heap.size W w':=by
     intro v W hW;have:=Zuy v (H++Zxv x.lits++x.args) ⟨#[32]⟩ W (Zbqq hW) (by simp only[List.length_append];simp only[List.length_append]at hlen;omega) (by show(Lib.join _ [32]).length<=_;rw[hJ];omega);have e:Lib.join ((H++Zxv x.lits++x.args).map (·.data.toList)) (⟨#[32]⟩:ByteArray).data.toList=J:=hJ;rw[e]at this;exact this
    obtain⟨JB,hJB⟩:∃JB:ByteArray,(⟨J.toArray⟩:ByteArray)=JB:=⟨_,rfl⟩;have hJs:JB.size<=140737488351232:=by rw[<-hJB,Zbkz];omega
    have hJr:JB++⟨#[59]⟩=(⟨(Zbnw x).toArray⟩:ByteArray):=by rw[Zbnx,HH.out,hJ,<-hJB];apply ByteArray.ext;simp
    rw[hJB]at cJ;have CJ:=hid cJ;have HJR:=hid hJr;have hkn:¬(k:Int)<(x.lits.length:Int):=by omega
    clear cJ hJr hJB hJ hjl
    cases aa with
    | none=>
     have hx0:x.args = []:=by
      rcases hx:x.args with _|⟨y,r⟩
      ·rfl
      ·obtain⟨_,_,e,_⟩:=HAC.out (by rw[hx];simp)
       cases e
     have hO7:=HO6.out;have e7:H++Zxv x.lits++x.args=H++Zxv x.lits:=by rw[hx0,List.append_nil]
     rw[<-e7]at hO7;have cJ:=CJ.out _ wr hO7;clear hO7 e7
     go_wp2_with (at_builtin;refine Zbuf (by rfl) _ _ 29 (by rfl) (w.heap.size+1) 9 i0 1 underlying29 hi _ _ _ (by rfl) HO6.out ca (by simp[Act.eval,hx0]) ?_)
     go_wp2_with fail
     refine cJ.mono ?_;rintro e w7 ⟨rfl,hb7⟩;go_wp2;go_ret;exact⟨Zbhr HJR.out,(HDOWN.out _ HNX.out).trans (hb7.mono (by omega))⟩
    | some ad=>
     have hcells:∀j u,(x.args.map Value.string)[j]? =some u->wr.cell? (ad.add j)=some u:=by
      intro j u hu;rw[List.getElem?_map]at hu;obtain⟨y,hy,rfl⟩:=Option.map_eq_some_iff.1 hu;obtain⟨b,o,e,hb,hcl⟩:=HAC.out (by rintro e;rw[e]at hy;simp at hy)
      cases e
      rw[Addr.add_lit];exact((HDOWN.out _ HNX.out).cell (p:=⟨b,o+j,none⟩) hb).trans (hcl j y hy)
     have hone:∀u∈x.args.map Value.string,u.oneCell'=true:=by
      intro u hu;obtain⟨y,_,rfl⟩:=List.mem_map.1 hu;rfl
     have hml:(x.args.map Value.string).length=x.args.length*1:=by simp
     have HCE:=hid hcells;have HONE:=hid hone;have HML:=hid hml;clear hcells hone hml
     go_wp2_with (at_builtin;refine wpList_append_own _ (by rfl) _ _ 29 (by rfl) (w.heap.size+1) 9 i0 (.string ByteArray.empty) 1 16 underlying29 hi hz0 hz1 hz2 rfl (by decide) _ _ _ (by rfl) HO6.out ad x.args.length ca (x.args.map Value.string) (by rfl) HML.out HCE.out HONE.out (by unfold maxLen;omega) (by omega) (by omega) ?_)
     intro v7 w7 hown7 hg7 _;have hO7:World.ownsRow w7 (w.heap.size+1) 9 1 v7 (H++Zxv x.lits++x.args).length ((H++Zxv x.lits++x.args).map Value.string):=by
      simpa[Nat.add_assoc]using hown7
     have hn7:=HNX.out.grown hg7 (by omega) (λb hb=>(HO6.out.lt b hb).1);have cJ:=CJ.out _ w7 hO7;have HN7:=hid hn7;have hs7:=hn7.size;simp at hs7;clear hO7 hown7 hg7 hn7
     go_wp2_with fail
     refine cJ.mono ?_;rintro e w8 ⟨rfl,hb8⟩;go_wp2;go_ret;exact⟨Zbhr HJR.out,(HDOWN.out _ HN7.out).trans (hb8.mono (by omega))⟩
end Go.Proofs.YtcpjfpdecklkgaaGreatDoor
