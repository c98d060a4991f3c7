import Derived.Test.YtmgcaldphpnfgaaGreatDoorMbl
import Derived.Deep.RegionLaw
import Derived.Lib.ItoaLen
import Derived.Deep.RegionHeld3
import Derived.Lib.ItoaNum
import Derived.Lib.AtoiAllCases
namespace Go.Proofs.YtmgcaldphpnfgaaGreatDoor
open Go.Lib (hid)
open Go.RowKit Go.Shelf
theorem Zbir {w w':World} {x:RuleS} {e:Ending} (h:Zbu w w' x e):∃b1 m1 e1 b2 m2 e2 b3 m3 e3 b4 m4 e4,e = .returned (.agg #[.string x.name,.slice b1 m1 e1,.slice b2 m2 e2,.slice b3 m3 e3,.slice b4 m4 e4])/\
  RuleA (λb=>b<w.heap.size) w' [.string x.name,.slice b1 m1 e1,.slice b2 m2 e2,.slice b3 m3 e3,.slice b4 m4 e4] x:=by
 obtain⟨vi,vo,vf,vs,rfl,h1,h2,h3,h4⟩:=h;obtain⟨b1,m1,e1,q1⟩:=Zbig h1;obtain⟨b2,m2,e2,q2⟩:=Zbig h2;obtain⟨b3,m3,e3,q3⟩:=Zbig h3;obtain⟨b4,e4,q4,_,_⟩:=Zboi h4;subst q1 q2 q3 q4;exact⟨b1,m1,e1,b2,m2,e2,b3,m3,e3,b4,_,e4,rfl,⟨_,_,_,_,rfl,h1,h2,h3,h4⟩⟩
def Zbvw (k:Nat) (xs:List RuleS):List RuleS:=(xs.take k).map cutR
theorem Zbvz {xs:List RuleS} {k:Nat} {x:RuleS} (h:xs[k]? =some x):Zbvw (k+1) xs=Zbvw k xs ++ [cutR x]:=by
 unfold Zbvw;rw[List.take_add_one,h,List.map_append];rfl
theorem Zbvy (k:Nat) (xs:List RuleS):(Zbvw k xs).length=min k xs.length:=by unfold Zbvw;rw[List.length_map,List.length_take]
theorem Zbvx {k m:Nat} {xs:List RuleS} (h:xs.length<=k) (h2:xs.length<=m):Zbvw k xs=Zbvw m xs:=by
 unfold Zbvw;rw[List.take_of_length_le h,List.take_of_length_le h2]
set_option maxHeartbeats 8000000 in
set_option maxRecDepth 100000 in
theorem Zbwl (v:Value) (xs:List RuleS) (w:World) (h:RulesI w v xs) (hs:∀x∈xs,SmallR x 1048576):
  Calls Tryz.prog 25 #[v] w (Zbz w (Zbvw 42 xs)):=by
 obtain⟨sa,sc,hv,hs1,hs2⟩:=Zbjn h;subst hv;have HCS:Hid (∀(k:Nat) x,xs[k]? =some x->_):=hid (λk x hx=>Zbjm h (k:=k) (x:=x) hx);have HSM:=hid hs;unfold maxLen at hs2;have HO1:Hid (OwnRules w.heap.size w (.slice none 0 0) []):=Zbxk _ _;clear h hs
 go_enter Tryz.func25,Tryz.ntmps25
 go_wp2
 go_loopw [3,4] (λvv i wr=>∃k:Nat,k<=xs.length/\k<=42/\i = .int .i64 k/\OwnRules w.heap.size wr vv (Zbvw k xs)/\Below w.heap.size w wr)
  (λ_ i _=>xs.length-(intOf i).toNat)
 case atStart=>exact⟨0,Nat.zero_le _,Nat.zero_le _,rfl,HO1.out,Below.refl _ _⟩
 case round=>
  obtain⟨k,hk,hk42,rfl,hown,hnx⟩:=hrel;have hsz:=hnx.size;have HO:=hid hown;have HNX:=hid hnx;clear hown hnx
  by_cases hlt:k<xs.length
  ·by_cases h42:k<42
   ·obtain⟨x,hx⟩:∃x,xs[k]? =some x:=⟨xs[k],List.getElem?_eq_getElem hlt⟩
    obtain⟨g,o,cap,a1,c1,a2,c2,a3,c3,a4,c4,hv,hg,hR,hc⟩:=HCS.out k x hx;have hi1:(k:Int)<(xs.length:Int):=by omega
    have hi2:(k:Int)<42:=by omega
    have hi0:(0:Int)<=(k:Int):=by omega
    have hfx:=HSM.out x (List.mem_of_getElem? hx);have htk:=Zbvz hx;obtain⟨d0,d1,d2,d3,d4⟩:=hc _ HNX.out;have HTK:=hid htk
    cases hv
    have cA:=Zwx x _ _ _ _ wr (hR.below HNX.out) hfx;have CA:=hid cA;clear hc hx htk hR hfx cA
    go_wp2_with fail
    refine CA.out.mono ?_;rintro e w2 ⟨hpost,hb2⟩;obtain⟨b1,m1,e1,b2,m2,e2,b3,m3,e3,b4,m4,e4,rfl,hra⟩:=Zbir hpost;have hO2:=HO.out.below hb2;have hlow:=λb hb=>(HO.out.lt b hb).2
    have hra2:=RuleA.mono (Av':=AvOf w.heap.size _) hra λb _ e=>by
     rcases e with e|e
     ·show b<wr.heap.size;omega
     ·exact hlow b e
    have HO2:=hid hO2;have HR2:=hid hra2;have HN2:=hid (HNX.out.trans (hb2.mono hsz));have HTL:Hid ((Zbvw k xs).length<=1000000000):=by show _<=_;rw[Zbvy];omega
    have HS2:=hid (Nat.le_trans hsz hb2.size);clear hra hb2 hO2 hlow hra2 d0 d1 d2 d3 d4 hpost
    go_wp2_with (at_builtin;refine Zbuh (by rfl) _ _ (by rfl) w.heap.size _ (Zbvw k xs) (cutR x) b1 b2 b3 b4 m1 e1 m2 e2 m3 e3 m4 e4 (by rfl) HO2.out HS2.out HTL.out HR2.out _ (by rfl) (by simp) ?_)
    intro v' w6 hown6 hb6 _ _;have HO6:Hid (OwnRules w.heap.size w6 v' (Zbvw (k+1) xs)):=by show OwnRules _ _ _ _;rw[HTK.out];exact hown6
    have HN6:=hid (HN2.out.trans hb6);clear hown6 hb6;go_wp2;go_roundw
    case rel=>exact⟨k+1,by omega,by omega,by go_num,HO6.out,HN6.out⟩
    case measure=>simp[intOf];omega
   ·obtain rfl:k=42:=by omega
    have hi1:(42:Int)<(xs.length:Int):=by omega
    have hi2:((42:Nat):Int)<(xs.length:Int):=by omega
    obtain⟨a,c,q⟩:=HO.out.len;subst q;go_wp2;go_ret;exact⟨_,_,_,rfl,HO.out,HNX.out⟩
  ·have hfull:Zbvw k xs=Zbvw 42 xs:=Zbvx (by omega) (by omega)
   have hi1:¬(k:Int)<(xs.length:Int):=by omega
   have hO3:=HO.out;rw[hfull]at hO3;obtain⟨a,c,q⟩:=hO3.len;subst q;have HO3:=hid hO3;clear hfull hO3;go_wp2;go_ret;exact⟨_,_,_,rfl,HO3.out,HNX.out⟩
theorem Zbma {x:RuleS} {m:Nat} (h:SmallR x m):SmallR (cutR x) m:=by
 have tk:∀ {l:List ByteArray} (k:Nat),SmallL l m->SmallL (l.take k) m:=λk h=>⟨by rw[List.length_take];have:=h.1;omega,λz hz=>h.2 z (List.mem_of_mem_take hz)⟩
 exact⟨h.name,tk 10 h.ins,tk 6 h.outs,tk 10 h.after,by show((x.steps.take 14).map cutS).length<=m;rw[List.length_map,List.length_take];have:=h.few;omega,λy hy=>by
  obtain⟨z,hz,rfl⟩:=List.mem_map.1 (show y∈(x.steps.take 14).map cutS from hy);have:=h.steps z (List.mem_of_mem_take hz);exact⟨this.out,tk 8 this.args,tk 3 this.lits,this.op,this.n⟩⟩
theorem Zcaj (s:ByteArray) (n:Int) (w:World) (hs:s.size<=maxLen) (h0:0<=n) (h1:n<=1000000):
  Calls Tryz.prog 22 #[.string s,.int .i64 n] w λe w'=>e = .returned (.string (s.extract 0 (min s.size n.toNat)))/\w=w':=by
 unfold maxLen at hs
 go_enter Tryz.func22,Tryz.ntmps22
 go_wp2
 all_goals go_ret
 all_goals first
  | exact⟨rfl,rfl⟩
  | exact⟨Zbhr (by rw[Nat.min_eq_right (by omega)]),rfl⟩
  | exact⟨Zbhr (by congr 1;omega),rfl⟩
def IsRT (w:World) (B b:Nat) (r:Option Nat) (fs:List F2):Prop:=
 B<=b/\Sorted fs/\fs.length<=60/\∃v,w.heap[b]? =some (.cells #[v] 96 (0,0))/\RowAt w B v fs/\r=v.ownBlock
theorem IsRT.below {w w':World} {B b:Nat} {r:Option Nat} {fs:List F2} (h:IsRT w B b r fs) (hb:Below w.heap.size w w'):IsRT w' B b r fs:=by
 obtain⟨h1,h2,h3,v,h4,h5,h6⟩:=h;exact⟨h1,h2,h3,v,(hb.block b (block_lt h4)).trans h4,h5.below hb,h6⟩
theorem IsRT.ptr {w:World} {B b:Nat} {r:Option Nat} {fs:List F2} (h:IsRT w B b r fs):∃a c,w.heap[b]? =some (.cells #[.slice a fs.length c] 96 (0,0))/\OwnF w B r (.slice a fs.length c) fs/\fs.length<=c/\c<=maxLen:=by
 obtain⟨_,_,_,v,hb,hown,hr⟩:=h;have ho:OwnF w B r v fs:= .inl ⟨hown,hr⟩;obtain⟨a,c,rfl,h1,h2⟩:=ho.shape;exact⟨a,c,hb,ho,h1,h2⟩
theorem IsRT.row {w:World} {B b:Nat} {r:Option Nat} {fs:List F2} (h:IsRT w B b r fs):
  (fs = []/\r=none/\w.heap[b]? =some (.cells #[.slice none 0 0] 96 (0,0)))∨
  ∃g c,r=some g/\w.heap[b]? =some (.cells #[.slice (some ⟨g,0,none⟩) fs.length c] 96 (0,0))/\RowAt w B (.slice (some ⟨g,0,none⟩) fs.length c) fs/\fs.length<=c/\c<=maxLen/\B<=g/\g<w.heap.size/\
   (∀(j:Nat) u,(Znm fs)[j]? =some u->w.cell? ⟨g,j,none⟩=some u)/\∃cur,w.heap[g]? =some (.cells cur 80 (0,0))/\cur.size=c*2:=by
 obtain⟨_,_,_,v,hb,hown,hr⟩:=h;have hown':=hown;obtain⟨_,⟨hv,h0⟩|⟨g,cap,cur,hv,hgB,hgh,hnc,hcm,hcs,htk⟩⟩:=hown'
 ·refine .inl ⟨List.eq_nil_of_length_eq_zero h0,by rw[hr,hv];rfl,by rw[<-hv];exact hb⟩
 ·refine .inr ⟨g,cap,by rw[hr,hv];rfl,by rw[<-hv];exact hb,by rw[<-hv];exact hown,hnc,hcm,hgB,block_lt hgh,λj u hu=>?_,cur,hgh,hcs⟩
  rw[<-htk,List.getElem?_take]at hu;split at hu
  ·simp only[World.cell?,hgh];simpa using hu
  ·cases hu
theorem IsRT.rlt {w:World} {B b:Nat} {r:Option Nat} {fs:List F2} (h:IsRT w B b r fs):(∀k,r=some k->B<=k/\k<w.heap.size)/\B<=b/\b<w.heap.size:=by
 obtain⟨h1,_,_,v,h4,h5,h6⟩:=h;exact⟨λk hk=>World.ownsRow.lt h5 k (by rw[<-h6];exact hk),h1,block_lt h4⟩
def Zchk (w:World) (B b:Nat) (r:Option Nat) (code:Int) (fs:List F2) (e:Ending) (w':World):Prop:=
 ∃r',e = .returned (.int .i64 code)/\IsRT w' B b r' fs/\Frame2 w w' b r/\(r'=r∨r'=none∨∃k,r'=some k/\w.heap.size<=k)
theorem Zchx:∀a b:List UInt8,Op.bytesLess a b=decide (Lib.compareBytes a b<0)
 | [],[]=>rfl
 | _::_,[]=>rfl
 | [],_::_=>rfl
 | a::x,b::y=>by
  unfold Op.bytesLess Lib.compareBytes
  by_cases h:a<b
  ·rw[if_pos h];simp[h]
  ·by_cases h':b<a
   ·have hne:¬a=b:=λe=>h (by rw[e]at h'⊢;exact h')
    rw[if_neg h,if_pos h'];simp[h,hne]
   ·have he:a=b:=UInt8.toNat_inj.1 (by rw[UInt8.lt_iff_toNat_lt]at h h';omega)
    rw[if_neg h,if_neg h',Zchx x y];simp[he]
theorem Zcic {fs:List F2} (hs:Sorted fs) {x:ByteArray} {k:Nat} {f:F2} (hf:fs[k]? =some f) (h:cmpF f x<0):k+1<=Zbff fs x:=by
 have h2:=(Zbfj x hs).2
 rcases Nat.lt_or_ge k (Zbff fs x)with h'|h'
 ·omega
 ·exact absurd h (h2 k f h' hf)
theorem Zcid {fs:List F2} (hs:Sorted fs) {x:ByteArray} {k:Nat} {f:F2} (hf:fs[k]? =some f) (hk:k<=Zbff fs x) (h:¬cmpF f x<0):k=Zbff fs x:=by
 have h1:=(Zbfj x hs).1
 rcases Nat.lt_or_ge k (Zbff fs x)with h'|h'
 ·exact absurd (h1 k f h' hf) h
 ·omega
theorem Zchs {fs:List F2} (hs:Sorted fs) {x:ByteArray} {f:F2} (hf:fs[Zbff fs x]? =some f):(f.1.toList==x.toList)=hasF fs x:=by
 have h:=Zrk hs (Zbfj x hs).1 (Zbfj x hs).2;rw[Bool.eq_iff_iff,<-h,beq_iff_eq,Lib.toList_data,Lib.toList_data];constructor
 ·intro e
  have:f.1=x:=ByteArray.ext (Array.toList_inj.1 e);exact⟨f,hf,by rw[<-this];exact Zjs f⟩
 ·rintro⟨g,hg,h0⟩
  rw[hf]at hg;injection hg with hg
  subst hg;rw[Zju h0]
theorem Zcht {fs:List F2} (hs:Sorted fs) {x:ByteArray} (h:fs.length<=Zbff fs x):hasF fs x=false:=by
 have h':=Zrk hs (Zbfj x hs).1 (Zbfj x hs).2;rw[Bool.eq_false_iff];intro e;obtain⟨f,hf,_⟩:=h'.2 e;have:=(List.getElem?_eq_some_iff.1 hf).1;omega
set_option maxHeartbeats 4000000 in
set_option maxRecDepth 100000 in
theorem Zchm (B b:Nat) (r:Option Nat) (fs:List F2) (x:ByteArray) (w:World) (h:IsRT w B b r fs):
  Calls Tryz.prog 109 #[.pointer (some ⟨b,0,none⟩),.string x] w λe w'=>e = .returned (.tuple #[.int .i64 (Zbff fs x:Nat),.bool (hasF fs x)])/\Below w.heap.size w w':=by
 obtain⟨a,c,hb,hown,hc,hcm⟩:=h.ptr;have hcell:w.cell? ⟨b,0,none⟩=some (.slice a fs.length c):=by simp[World.cell?,hb]
 obtain⟨a',c',hv,_,_,hcs⟩:=hown.files
 cases hv
 have HS:=hid h.2.1;have hl:=h.2.2.1;have HCS:=hid hcs;have hple:=Zbfi fs x;obtain⟨p,hp⟩:∃p,Zbff fs x=p:=⟨_,rfl⟩;obtain⟨q,hq⟩:∃q,hasF fs x=q:=⟨_,rfl⟩;rw[hp]at hple;rw[hp,hq];have HP:=hid hp;have HQ:=hid hq;unfold maxLen at hcm;clear hp hq hcs hb hown h
 go_enter Tryz.func109,Tryz.ntmps109
 go_wp2
 go_loop [6] (λi=>∃k:Nat,k<=p/\i = .int .i64 k) (λi=>fs.length-(intOf i).toNat)
 case atStart=>exact⟨0,Nat.zero_le _,rfl⟩
 case round=>
  obtain⟨k,hk,rfl⟩:=hrel
  by_cases hlt:k<fs.length
  ·obtain⟨f,hf⟩:∃f,fs[k]? =some f:=⟨fs[k],List.getElem?_eq_getElem hlt⟩
   obtain⟨gb,go,rfl,hgb,hgc⟩:=HCS.out (by rintro rfl;simp at hlt);obtain⟨hf0,_⟩:=hgc k f hf;have HF:=hid hf;have hk0:(0:Int)<=(k:Int):=by omega
   have hk1:(k:Int)<(fs.length:Int):=by omega
   clear hgc hf;obtain⟨lt,hlt2⟩:∃lt,Op.bytesLess f.1.toList x.toList=lt:=⟨_,rfl⟩;have hlc:lt=decide (cmpF f x<0):=by rw[<-hlt2,Zchx,Lib.toList_data,Lib.toList_data];rfl
   have HLC:=hid hlc;clear hlc
   cases lt
   ·have hnc:¬cmpF f x<0:=of_decide_eq_false HLC.out.symm
    have hkp:k=p:=by rw[<-HP.out];exact Zcid HS.out HF.out (by rw[HP.out];exact hk) hnc
    subst hkp;have hat:(f.1.toList==x.toList)=q:=by
     have:=HF.out;rw[<-HP.out]at this;rw[Zchs HS.out this,HQ.out]
    clear hnc
    go_wp2_with fail
    go_quiet (fail)
    go_wp2
    go_ret2
    exact⟨rfl,below_drewN (Below.refl _ _) _⟩
   ·have hcl:cmpF f x<0:=of_decide_eq_true HLC.out.symm
    have hkp:k+1<=p:=by rw[<-HP.out];exact Zcic HS.out HF.out hcl
    clear hcl;go_wp2
    go_round
    case rel=>exact⟨k+1,hkp,by go_num⟩
    case measure=>simp[intOf];omega
  ·have hkp:k=p:=by omega
   have hqf:q=false:=by rw[<-HQ.out];exact Zcht HS.out (by rw[HP.out];omega)
   subst hqf;have HKP:=hid hkp;have hd:decide ((k:Int)<(fs.length:Int))=false:=by simp;omega
   clear hkp
   go_wp2_with fail
   go_quiet (fail)
   go_wp2
   go_ret2
   exact⟨Zbhq (by rw[HKP.out]) rfl,below_drewN (Below.refl _ _) _⟩
theorem Zcir {W w:World} {o:Obj} (h:Below W.heap.size W w):Below W.heap.size W (w.alloc o):=h.alloc h.size o
theorem Zcim {w:World} {B b:Nat} {v v0:Value} {fs:List F2} (hB:B<=b) (hs:Sorted fs) (hl:fs.length<=60) (hb:w.heap[b]? =some (.cells #[v0] 96 (0,0))) (h:RowAt w B v fs):
  IsRT (w.setCell ⟨b,0,none⟩ v) B b v.ownBlock fs:=by
 have hne:v.ownBlock≠some b:=by
  intro e;obtain⟨_,⟨hv,_⟩|⟨g,cap,cur,hv,_,hg,_⟩⟩:=h
  ·rw[hv]at e;cases e
  ·rw[hv]at e
   injection e with e
   subst e;rw[hb]at hg;simp at hg
 refine⟨hB,hs,hl,v,?_,?_,rfl⟩
 ·rw[setCell_eq_setRow w b 0 #[v0] _ (0,0) _ hb]
  exact setRow_heap w b _ _ _ _ hb
 ·obtain⟨h1,h2|⟨g,cap,cur,hv,hgB,hg,rest⟩⟩:=h
  ·exact⟨h1,.inl h2⟩
  ·refine⟨h1,.inr ⟨g,cap,cur,hv,hgB,?_,rest⟩⟩
   rw[Below.heap_setCell w _ _ g (λe=>hne (by rw[hv,e];rfl))];exact hg
theorem Zcik {w wz:World} {B b:Nat} {r:Option Nat} {v0 v:Value} {fs:List F2} (hB:B<=b) (hBw:B<=w.heap.size) (hs:Sorted fs) (hl:fs.length<=60) (hblt:b<w.heap.size) (hb:w.heap[b]? =some (.cells #[v0] 96 (0,0)))
  (hx:Below w.heap.size w wz) (h:RowAt wz w.heap.size v fs):IsRT (wz.setCell ⟨b,0,none⟩ v) B b v.ownBlock fs/\Frame2 w (wz.setCell ⟨b,0,none⟩ v) b r/\(v.ownBlock=none∨∃k,v.ownBlock=some k/\w.heap.size<=k):=by
 refine⟨Zcim hB hs hl ((hx.block b hblt).trans hb) (Zbdv h hBw),⟨hx.os,hx.tape,hx.output,by simpa[World.setCell]using hx.size,λk hk hkb _=>?_⟩,?_⟩
 ·rw[Below.heap_setCell wz _ _ k hkb]
  exact hx.block k hk
 ·cases hv:v.ownBlock with
  | none=>exact .inl rfl
  | some k=>exact .inr ⟨k,rfl,(World.ownsRow.lt h k hv).1⟩
structure InsAt (w:World) (b g c:Nat) (fs:List F2):Prop where
 cell:∀w',Below w.heap.size w w'->w'.cell? ⟨b,0,none⟩=some (.slice (some ⟨g,0,none⟩) fs.length c)
 cells:∀w',Below w.heap.size w w'->∀(j:Nat) u,(Znm fs)[j]? =some u->w'.cell? ⟨g,j,none⟩=some u
theorem InsAt.take {w:World} {b g c:Nat} {fs:List F2} (h:InsAt w b g c fs) (k:Nat) (w':World) (hw:Below w.heap.size w w'):∀(j:Nat) u,(Znm (fs.take k))[j]? =some u->w'.cell? ((⟨g,0,none⟩:Addr).add j)=some u:=by
 intro j u hu;rw[<-Znv,List.getElem?_take]at hu;split at hu
 ·rw[Addr.add_lit,Nat.zero_add]
  exact h.cells w' hw _ u hu
 ·cases hu
theorem InsAt.drop {w:World} {b g c:Nat} {fs:List F2} (h:InsAt w b g c fs) (k:Nat) (w':World) (hw:Below w.heap.size w w'):∀(j:Nat) u,(Znm (fs.drop k))[j]? =some u->w'.cell? ((⟨g,k*2,none⟩:Addr).add j)=some u:=by
 intro j u hu;rw[<-Znq,List.getElem?_drop]at hu;rw[Addr.add_lit];exact h.cells w' hw _ u hu
theorem row_zero {w:World} {B n:Nat} {v:Value} {cs:List Value} (h:w.ownsRow B 80 2 v (0+n) ([]++cs)):w.ownsRow B 80 2 v n cs:=by simpa using h
theorem Zcil {w w2 wz:World} {B b:Nat} {r:Option Nat} {v0 v:Value} {fs:List F2} (hx2:Below w.heap.size w w2) (hB:B<=b) (hBw:B<=w.heap.size) (hs:Sorted fs) (hl:fs.length<=60) (hblt:b<w.heap.size) (hb:w.heap[b]? =some (.cells #[v0] 96 (0,0)))
  (hx:Below w2.heap.size w2 wz) (h:RowAt wz w2.heap.size v fs):Zchk w B b r 0 fs (.returned (.int .i64 0)) (wz.setCell ⟨b,0,none⟩ v):=by
 obtain⟨h1,h2,h3⟩:=Zcik (r:=r) hB (Nat.le_trans hBw hx2.size) hs hl (Nat.lt_of_lt_of_le hblt hx2.size) ((hx2.block b hblt).trans hb) hx h;refine⟨_,rfl,h1,(Frame2.of_below hx2 b r).trans h2 (.inl rfl),.inr ?_⟩
 rcases h3 with h|⟨k,h,h'⟩
 ·exact .inl h
 ·exact .inr ⟨k,h,Nat.le_trans hx2.size h'⟩
theorem Zcij {w:World} {B p m:Nat} {v:Value} {A C:List F2} {x y:ByteArray} (h:w.ownsRow B 80 2 v (p+1+m) (Znm A ++ [.string x,.string y]++Znm C)) (hA:A.length=p) (hC:C.length=m):RowAt w B v (A++(x,y)::C):=by
 unfold RowAt;have e1:(A++(x,y)::C).length=p+1+m:=by simp[hA,hC];omega
 have e2:Znm (A++(x,y)::C)=Znm A ++ [.string x,.string y]++Znm C:=by rw[Znn,Znp,List.append_assoc];rfl
 rw[e1,e2];exact h
set_option maxHeartbeats 40000000 in
set_option maxRecDepth 100000 in
theorem Zchv (B b:Nat) (r:Option Nat) (fs:List F2) (x y:ByteArray) (w:World) (h:IsRT w B b r fs) (hx:x.size<=maxLen) (hy:y.size<=2000) (hok:Zbcf x.data.toList=true) (hq:hasF fs x=false) (hl:fs.length<60)
  (g c:Nat) (hbh:w.heap[b]? =some (.cells #[.slice (some ⟨g,0,none⟩) fs.length c] 96 (0,0))) (hc:fs.length<=c) (hcm:c<=maxLen) (hgl:g<w.heap.size)
   (hcells:∀(j:Nat) u,(Znm fs)[j]? =some u->w.cell? ⟨g,j,none⟩=some u) (hcp:¬c=Zbff fs x):
  Calls Tryz.prog 65 #[.pointer (some ⟨b,0,none⟩),.string x,.string y] w (Zchk w B b r 0 (fs.take (Zbff fs x)++(x,y)::fs.drop (Zbff fs x))):=by
 have cA:=Zchm B b r fs x w h;obtain⟨i0,hi,hz0,hz1,hz2⟩:=info_parts Zsu;have cM:=λw=>Zyw x w hx
 rw[hok]at cM;rw[hq]at cA;have hBb:=h.1;have hblt:=h.rlt.2.2;have hso:=Zbmo h.2.1 y hq;have hple:=Zbfi fs x;have hle:(fs.take (Zbff fs x)++(x,y)::fs.drop (Zbff fs x)).length<=60:=by simp only[List.length_append,List.length_cons,List.length_take,List.length_drop];omega
 obtain⟨p,hp⟩:∃p,Zbff fs x=p:=⟨_,rfl⟩;rw[hp]at cA hso hple hle hcp⊢;have HSO:=hid hso;have HBH:=hid hbh;have HCE:=hid hcells;have CM:=hid cM;unfold maxLen at hcm;clear h hq hok hp hso hbh hcells cM
 go_enter Tryz.func65,Tryz.ntmps65
 go_wp2_with fail
 refine cA.mono ?_;rintro e w1 ⟨rfl,hb1⟩;have HX1:=hid hb1;clear hb1 cA
 go_wp2_with fail
 refine(CM.out _).mono ?_;rintro e w2 ⟨rfl,hb2'⟩;have hb2:=chain HX1.out hb2';clear hb2';have HX2:=hid hb2;have HI:Hid (InsAt w2 b g c fs):=by
  show InsAt _ _ _ _ _;have hlt2:b<w2.heap.size:=Nat.lt_of_lt_of_le hblt hb2.size;have hgl2:g<w2.heap.size:=Nat.lt_of_lt_of_le hgl hb2.size;refine⟨λw' hw=>?_,λw' hw j u hu=>?_⟩
  ·rw[hw.cell (p:=⟨b,0,none⟩) hlt2,hb2.cell (p:=⟨b,0,none⟩) hblt]
   simp[World.cell?,HBH.out]
  ·rw[hw.cell (p:=⟨g,j,none⟩) hgl2,hb2.cell (p:=⟨g,j,none⟩) hgl]
   exact HCE.out j u hu
 have HFZ:Hid (∀w',Below w2.heap.size w2 w'->w'.frozen? ⟨b,0,none⟩=false):=by
  show ∀w',_;intro w' hw;have:=(hw.block b (Nat.lt_of_lt_of_le hblt hb2.size)).trans ((hb2.block b hblt).trans HBH.out);simp[World.frozen?,this]
 have hl1:(fs.take p).length=p:=by rw[List.length_take];omega
 have hl2:(fs.drop p).length=fs.length-p:=List.length_drop;have HL1:=hid hl1;have HL2:=hid hl2;have HLA:=hid (show(Znm (fs.take p)).length=p*2 by rw[Znr,hl1]);have HLB:=hid (show(Znm (fs.drop p)).length=(fs.length-p)*2 by rw[Znr,hl2]);have HB0:=hid (show 0+p<=maxLen by unfold maxLen;omega);have HB00:=hid (show(0+p)*32<=140737488355328 by omega);have HB1:=hid (show p+1<=maxLen by unfold maxLen;omega);have HB11:=hid (show(p+1)*32<=140737488355328 by omega);have HB2:=hid (show p+1+(fs.length-p)<=maxLen by unfold maxLen;omega);have HB22:=hid (show(p+1+(fs.length-p))*32<=140737488355328 by omega);have HB3:=hid (show p+1+0<=maxLen by unfold maxLen;omega);have HB33:=hid (show(p+1+0)*32<=140737488355328 by omega);have HBW:=hid (show B<=w.heap.size by omega);have HONE:=hid (show ∀u∈[Value.string x,Value.string y],u.oneCell'=true by intro u hu;simp at hu;rcases hu with rfl|rfl<;>rfl);have HPN:Hid (∀w',World.grownBy (w2.alloc (.cells #[.string x,.string y] 80)).drew w' none->w'.heap[w2.heap.size]? =some (.cells #[.string x,.string y] 80 (0,0))):=by
  show ∀w',_;intro w' hg;refine(hg.block w2.heap.size (by show _<(w2.alloc _).heap.size;simp) (by simp)).trans ?_;exact heap_alloc_new w2 _
 have HAD:Hid (Below w2.heap.size w2 (w2.alloc (.cells #[.string x,.string y] 80)).drew):=by show Below _ _ _;exact((Below.refl _ _).alloc (Nat.le_refl _) _).drew
 have hk0:(0:Int)<=(p:Int):=by omega
 have hk1:(p:Int)<=(fs.length:Int):=by omega
 have hk2:(p:Int)<=(c:Int):=by omega
 have hk3:(fs.length:Int)<=(c:Int):=by omega
 have hb20:=hb2.size;have hcw:=HI.out.cell w2 (Below.refl _ _);have hfw:=HFZ.out w2 (Below.refl _ _);have hcwA:=λo=>HI.out.cell _ (Zcir (o:=o) (Below.refl w2.heap.size w2))
 clear hb2 hl1 hl2;have hy0:¬(2000:Int)<(y.size:Int):=by omega
 have hl0:¬(60:Int)<=(fs.length:Int):=by omega
 go_wp2_with fail
 go_region_law (first
  | (refine Zcin (by rfl) _ _ _ (by rfl) w2.heap.size 80 i0 _ 2 32 Tryz.underlying50 hi hz0 hz1 hz2 rfl (by decide) (.slice none 0 0) 0 [] (by rfl) (World.ownsRow_nil _ _ _ _) ⟨g,0,none⟩ p c (Znm (fs.take p)) (by rfl) HLA.out (HI.out.take p _ (Below.refl _ _).drew) (Znt _) HB0.out HB00.out (Nat.le_refl _) ?_;intro vA w' hA0 hgA;have hA:=row_zero hA0;have hSn:=Zchr (Below.refl _ _).drew hgA (by intro k hk;cases hk);have hcw2:=HI.out.cell _ hSn;have hcw2':=λo=>HI.out.cell _ (Zcir (o:=o) hSn);have hfw2:=HFZ.out _ hSn;clear hA0 hgA)
  | (refine Zcin (by rfl) _ _ _ (by rfl) w2.heap.size 80 i0 _ 2 32 Tryz.underlying50 hi hz0 hz1 hz2 rfl (by decide) (.slice none 0 0) 0 [] (by rfl) (World.ownsRow_nil _ _ _ _) ⟨g,0,none⟩ p c (Znm (fs.take p)) (by rfl) HLA.out (HI.out.take p _ HAD.out) (Znt _) HB0.out HB00.out HAD.out.size ?_;intro vA w' hA0 hgA;have hA:=row_zero hA0;have hSn:=Zchr HAD.out hgA (by intro k hk;cases hk);have hpend:=HPN.out _ hgA;have hcw2:=HI.out.cell _ hSn;have hcw2':=λo=>HI.out.cell _ (Zcir (o:=o) hSn);have hfw2:=HFZ.out _ hSn;clear hA0 hgA)
  | (refine Zcin (by rfl) _ _ _ (by rfl) w2.heap.size 80 i0 _ 2 32 Tryz.underlying50 hi hz0 hz1 hz2 rfl (by decide) vA p (Znm (fs.take p)) (by rfl) hA ⟨w2.heap.size,0,none⟩ 1 1 [.string x,.string y] (by rfl) rfl (World.news_of_block (cs:=#[.string x,.string y]) hpend) HONE.out HB1.out HB11.out hSn.size ?_;intro vB w3 hB hgB;have hSm:=Zchr hSn hgB (λk hk=>(World.ownsRow.lt hA k hk).1);have hcw3:=HI.out.cell _ hSm;have hfw3:=HFZ.out _ hSm;clear hgB)
  | (refine Zcin (by rfl) _ _ _ (by rfl) w2.heap.size 80 i0 _ 2 32 Tryz.underlying50 hi hz0 hz1 hz2 rfl (by decide) vA p (Znm (fs.take p)) (by rfl) (World.ownsRow.alloc hA _) ⟨w'.heap.size,0,none⟩ 1 1 [.string x,.string y] (by rfl) rfl (World.news_of_block (cs:=#[.string x,.string y]) (heap_alloc_new w' _)) HONE.out HB1.out HB11.out (Zcir hSn).size ?_;intro vB w3 hB hgB;have hSm:=Zchr (Zcir hSn) hgB (λk hk=>(World.ownsRow.lt hA k hk).1);have hcw3:=HI.out.cell _ hSm;have hfw3:=HFZ.out _ hSm;clear hgB)
  | (refine Zcin (by rfl) _ _ _ (by rfl) w2.heap.size 80 i0 _ 2 32 Tryz.underlying50 hi hz0 hz1 hz2 rfl (by decide) vB (p+1) (Znm (fs.take p) ++ [.string x,.string y]) (by rfl) hB ⟨g,p*2,none⟩ (fs.length-p) (c-p) (Znm (fs.drop p)) (by rfl) HLB.out (HI.out.drop p _ hSm) (Znt _) HB2.out HB22.out hSm.size ?_;intro vC w4 hC0 hgC;obtain⟨aC,cC,rfl,_⟩:=Zbea hC0;have hC:=Zcij hC0 HL1.out HL2.out;have hSl:=Zchr hSm hgC (λk hk=>(World.ownsRow.lt hB k hk).1);have hcw4:=HI.out.cell _ hSl;have hfw4:=HFZ.out _ hSl;clear hC0 hgC))
 all_goals (have HP:=hid (Zcil (B:=B) (r:=r) HX2.out hBb HBW.out HSO.out hle hblt HBH.out hSl hC);clear hcw hfw hcwA hcw2 hcw2' hfw2 hcw3 hfw3 hcw4 hfw4 hB hC hSm hSn hSl hA;go_wp2;go_ret;exact HP.out)
set_option maxHeartbeats 40000000 in
set_option maxRecDepth 100000 in
theorem Zchu (B b:Nat) (r:Option Nat) (fs:List F2) (x y:ByteArray) (w:World) (h:IsRT w B b r fs) (hx:x.size<=maxLen) (hy:y.size<=2000) (hok:Zbcf x.data.toList=true) (hq:hasF fs x=false) (hl:fs.length<60)
  (g c:Nat) (hbh:w.heap[b]? =some (.cells #[.slice (some ⟨g,0,none⟩) fs.length c] 96 (0,0))) (hc:fs.length<=c) (hcm:c<=maxLen) (hgl:g<w.heap.size)
   (hcells:∀(j:Nat) u,(Znm fs)[j]? =some u->w.cell? ⟨g,j,none⟩=some u) (hcp:c=Zbff fs x):
  Calls Tryz.prog 65 #[.pointer (some ⟨b,0,none⟩),.string x,.string y] w (Zchk w B b r 0 (fs.take (Zbff fs x)++(x,y)::fs.drop (Zbff fs x))):=by
 have cA:=Zchm B b r fs x w h;obtain⟨i0,hi,hz0,hz1,hz2⟩:=info_parts Zsu;have cM:=λw=>Zyw x w hx
 rw[hok]at cM;rw[hq]at cA;have hBb:=h.1;have hblt:=h.rlt.2.2;have hso:=Zbmo h.2.1 y hq;have hple:=Zbfi fs x;have hle:(fs.take (Zbff fs x)++(x,y)::fs.drop (Zbff fs x)).length<=60:=by simp only[List.length_append,List.length_cons,List.length_take,List.length_drop];omega
 obtain⟨p,hp⟩:∃p,Zbff fs x=p:=⟨_,rfl⟩;rw[hp]at cA hso hple hle hcp⊢;have HSO:=hid hso;have HBH:=hid hbh;have HCE:=hid hcells;have CM:=hid cM;unfold maxLen at hcm;clear h hq hok hp hso hbh hcells cM
 go_enter Tryz.func65,Tryz.ntmps65
 go_wp2_with fail
 refine cA.mono ?_;rintro e w1 ⟨rfl,hb1⟩;have HX1:=hid hb1;clear hb1 cA
 go_wp2_with fail
 refine(CM.out _).mono ?_;rintro e w2 ⟨rfl,hb2'⟩;have hb2:=chain HX1.out hb2';clear hb2';have HX2:=hid hb2;have HI:Hid (InsAt w2 b g c fs):=by
  show InsAt _ _ _ _ _;have hlt2:b<w2.heap.size:=Nat.lt_of_lt_of_le hblt hb2.size;have hgl2:g<w2.heap.size:=Nat.lt_of_lt_of_le hgl hb2.size;refine⟨λw' hw=>?_,λw' hw j u hu=>?_⟩
  ·rw[hw.cell (p:=⟨b,0,none⟩) hlt2,hb2.cell (p:=⟨b,0,none⟩) hblt]
   simp[World.cell?,HBH.out]
  ·rw[hw.cell (p:=⟨g,j,none⟩) hgl2,hb2.cell (p:=⟨g,j,none⟩) hgl]
   exact HCE.out j u hu
 have HFZ:Hid (∀w',Below w2.heap.size w2 w'->w'.frozen? ⟨b,0,none⟩=false):=by
  show ∀w',_;intro w' hw;have:=(hw.block b (Nat.lt_of_lt_of_le hblt hb2.size)).trans ((hb2.block b hblt).trans HBH.out);simp[World.frozen?,this]
 have hl1:(fs.take p).length=p:=by rw[List.length_take];omega
 have hl2:(fs.drop p).length=fs.length-p:=List.length_drop;have HL1:=hid hl1;have HL2:=hid hl2;have HLA:=hid (show(Znm (fs.take p)).length=p*2 by rw[Znr,hl1]);have HLB:=hid (show(Znm (fs.drop p)).length=(fs.length-p)*2 by rw[Znr,hl2]);have HB0:=hid (show 0+p<=maxLen by unfold maxLen;omega);have HB00:=hid (show(0+p)*32<=140737488355328 by omega);have HB1:=hid (show p+1<=maxLen by unfold maxLen;omega);have HB11:=hid (show(p+1)*32<=140737488355328 by omega);have HB2:=hid (show p+1+(fs.length-p)<=maxLen by unfold maxLen;omega);have HB22:=hid (show(p+1+(fs.length-p))*32<=140737488355328 by omega);have HB3:=hid (show p+1+0<=maxLen by unfold maxLen;omega);have HB33:=hid (show(p+1+0)*32<=140737488355328 by omega);have HBW:=hid (show B<=w.heap.size by omega);have HONE:=hid (show ∀u∈[Value.string x,Value.string y],u.oneCell'=true by intro u hu;simp at hu;rcases hu with rfl|rfl<;>rfl);have HPN:Hid (∀w',World.grownBy (w2.alloc (.cells #[.string x,.string y] 80)).drew w' none->w'.heap[w2.heap.size]? =some (.cells #[.string x,.string y] 80 (0,0))):=by
  show ∀w',_;intro w' hg;refine(hg.block w2.heap.size (by show _<(w2.alloc _).heap.size;simp) (by simp)).trans ?_;exact heap_alloc_new w2 _
 have HAD:Hid (Below w2.heap.size w2 (w2.alloc (.cells #[.string x,.string y] 80)).drew):=by show Below _ _ _;exact((Below.refl _ _).alloc (Nat.le_refl _) _).drew
 have hk0:(0:Int)<=(p:Int):=by omega
 have hk1:(p:Int)<=(fs.length:Int):=by omega
 have hk2:(p:Int)<=(c:Int):=by omega
 have hk3:(fs.length:Int)<=(c:Int):=by omega
 have hb20:=hb2.size;have hcw:=HI.out.cell w2 (Below.refl _ _);have hfw:=HFZ.out w2 (Below.refl _ _);have hcwA:=λo=>HI.out.cell _ (Zcir (o:=o) (Below.refl w2.heap.size w2))
 clear hb2 hl1 hl2;have hy0:¬(2000:Int)<(y.size:Int):=by omega
 have hl0:¬(60:Int)<=(fs.length:Int):=by omega
 have hpc:p=c:=hcp.symm;subst hpc;clear hcp;have HD:=hid (show fs.drop p = []from List.drop_eq_nil_of_le (by omega));have hq1:(p:Int)<=(p:Int):=by omega
 go_wp2_with fail
 go_region_law (first
  | (refine Zcin (by rfl) _ _ _ (by rfl) w2.heap.size 80 i0 _ 2 32 Tryz.underlying50 hi hz0 hz1 hz2 rfl (by decide) (.slice none 0 0) 0 [] (by rfl) (World.ownsRow_nil _ _ _ _) ⟨g,0,none⟩ p p (Znm (fs.take p)) (by rfl) HLA.out (HI.out.take p _ (Below.refl _ _).drew) (Znt _) HB0.out HB00.out (Nat.le_refl _) ?_;intro vA w' hA0 hgA;have hA:=row_zero hA0;have hSn:=Zchr (Below.refl _ _).drew hgA (by intro k hk;cases hk);have hcw2:=HI.out.cell _ hSn;have hcw2':=λo=>HI.out.cell _ (Zcir (o:=o) hSn);have hfw2:=HFZ.out _ hSn;clear hA0 hgA)
  | (refine Zcin (by rfl) _ _ _ (by rfl) w2.heap.size 80 i0 _ 2 32 Tryz.underlying50 hi hz0 hz1 hz2 rfl (by decide) (.slice none 0 0) 0 [] (by rfl) (World.ownsRow_nil _ _ _ _) ⟨g,0,none⟩ p p (Znm (fs.take p)) (by rfl) HLA.out (HI.out.take p _ HAD.out) (Znt _) HB0.out HB00.out HAD.out.size ?_;intro vA w' hA0 hgA;have hA:=row_zero hA0;have hSn:=Zchr HAD.out hgA (by intro k hk;cases hk);have hpend:=HPN.out _ hgA;have hcw2:=HI.out.cell _ hSn;have hcw2':=λo=>HI.out.cell _ (Zcir (o:=o) hSn);have hfw2:=HFZ.out _ hSn;clear hA0 hgA)
  | (refine Zcin (by rfl) _ _ _ (by rfl) w2.heap.size 80 i0 _ 2 32 Tryz.underlying50 hi hz0 hz1 hz2 rfl (by decide) vA p (Znm (fs.take p)) (by rfl) hA ⟨w2.heap.size,0,none⟩ 1 1 [.string x,.string y] (by rfl) rfl (World.news_of_block (cs:=#[.string x,.string y]) hpend) HONE.out HB1.out HB11.out hSn.size ?_;intro vB w3 hB hgB;have hSm:=Zchr hSn hgB (λk hk=>(World.ownsRow.lt hA k hk).1);have hcw3:=HI.out.cell _ hSm;have hfw3:=HFZ.out _ hSm;clear hgB)
  | (refine Zcin (by rfl) _ _ _ (by rfl) w2.heap.size 80 i0 _ 2 32 Tryz.underlying50 hi hz0 hz1 hz2 rfl (by decide) vA p (Znm (fs.take p)) (by rfl) (World.ownsRow.alloc hA _) ⟨w'.heap.size,0,none⟩ 1 1 [.string x,.string y] (by rfl) rfl (World.news_of_block (cs:=#[.string x,.string y]) (heap_alloc_new w' _)) HONE.out HB1.out HB11.out (Zcir hSn).size ?_;intro vB w3 hB hgB;have hSm:=Zchr (Zcir hSn) hgB (λk hk=>(World.ownsRow.lt hA k hk).1);have hcw3:=HI.out.cell _ hSm;have hfw3:=HFZ.out _ hSm;clear hgB)
  | (refine Zcin (by rfl) _ _ _ (by rfl) w2.heap.size 80 i0 _ 2 32 Tryz.underlying50 hi hz0 hz1 hz2 rfl (by decide) vB (p+1) (Znm (fs.take p) ++ [.string x,.string y]) (by rfl) hB ⟨g,0,none⟩ 0 0 (Znm []) (by rfl) rfl (λj u hu=>by simp[Znm]at hu) (Znt _) HB3.out HB33.out hSm.size ?_;intro vC w4 hC0 hgC;obtain⟨aC,cC,rfl,_⟩:=Zbea hC0;have hC:=Zcij (C:=[]) hC0 HL1.out rfl;rw[<-HD.out]at hC;have hSl:=Zchr hSm hgC (λk hk=>(World.ownsRow.lt hB k hk).1);have hcw4:=HI.out.cell _ hSl;have hfw4:=HFZ.out _ hSl;clear hC0 hgC))
 all_goals (have HP:=hid (Zcil (B:=B) (r:=r) HX2.out hBb HBW.out HSO.out hle hblt HBH.out hSl hC);clear hcw hfw hcwA hcw2 hcw2' hfw2 hcw3 hfw3 hcw4 hfw4 hB hC hSm hSn hSl hA;go_wp2;go_ret;exact HP.out)
set_option maxHeartbeats 40000000 in
set_option maxRecDepth 100000 in
theorem Zchw (B b:Nat) (r:Option Nat) (fs:List F2) (x y:ByteArray) (w:World) (h:IsRT w B b r fs) (hx:x.size<=maxLen) (hy:y.size<=2000) (hok:Zbcf x.data.toList=true) (hq:hasF fs x=false) (hl:fs.length<60)
  (hbh:w.heap[b]? =some (.cells #[.slice none 0 0] 96 (0,0))) (hnil:fs = []):
  Calls Tryz.prog 65 #[.pointer (some ⟨b,0,none⟩),.string x,.string y] w (Zchk w B b r 0 (fs.take (Zbff fs x)++(x,y)::fs.drop (Zbff fs x))):=by
 have cA:=Zchm B b r fs x w h;obtain⟨i0,hi,hz0,hz1,hz2⟩:=info_parts Zsu;have cM:=λw=>Zyw x w hx
 rw[hok]at cM;rw[hq]at cA;have hBb:=h.1;have hblt:=h.rlt.2.2;have hso:=Zbmo h.2.1 y hq;have hple:=Zbfi fs x;have hle:(fs.take (Zbff fs x)++(x,y)::fs.drop (Zbff fs x)).length<=60:=by simp only[List.length_append,List.length_cons,List.length_take,List.length_drop];omega
 obtain⟨p,hp⟩:∃p,Zbff fs x=p:=⟨_,rfl⟩;rw[hp]at cA hso hple hle⊢;subst hnil;have hp0:p=0:=by simpa using hple
 subst hp0;have HSO:=hid hso;have HBH:=hid hbh;have CM:=hid cM;clear h hq hok hp hso hbh cM
 go_enter Tryz.func65,Tryz.ntmps65
 go_wp2_with fail
 refine cA.mono ?_;rintro e w1 ⟨rfl,hb1⟩;have HX1:=hid hb1;clear hb1 cA
 go_wp2_with fail
 refine(CM.out _).mono ?_;rintro e w2 ⟨rfl,hb2'⟩;have hb2:=chain HX1.out hb2';clear hb2';have HX2:=hid hb2;have HIC:Hid (∀w',Below w2.heap.size w2 w'->w'.cell? ⟨b,0,none⟩=some (.slice none 0 0)):=by
  show ∀w',_;intro w' hw;rw[hw.cell (p:=⟨b,0,none⟩) (Nat.lt_of_lt_of_le hblt hb2.size),hb2.cell (p:=⟨b,0,none⟩) hblt];simp[World.cell?,HBH.out]
 have HFZ:Hid (∀w',Below w2.heap.size w2 w'->w'.frozen? ⟨b,0,none⟩=false):=by
  show ∀w',_;intro w' hw;have:=(hw.block b (Nat.lt_of_lt_of_le hblt hb2.size)).trans ((hb2.block b hblt).trans HBH.out);simp[World.frozen?,this]
 have HBW:=hid (show B<=w.heap.size by omega);have HONE:=hid (show ∀u∈[Value.string x,Value.string y],u.oneCell'=true by intro u hu;simp at hu;rcases hu with rfl|rfl<;>rfl);have HAD:Hid (Below w2.heap.size w2 (w2.alloc (.cells #[.string x,.string y] 80)).drew):=by show Below _ _ _;exact((Below.refl _ _).alloc (Nat.le_refl _) _).drew
 have hb20:=hb2.size;have hcw:=HIC.out w2 (Below.refl _ _);have hfw:=HFZ.out w2 (Below.refl _ _);have hcwA:=λo=>HIC.out _ (Zcir (o:=o) (Below.refl w2.heap.size w2))
 clear hb2;have hy0:¬(2000:Int)<(y.size:Int):=by omega
 go_wp2_with fail
 go_region_law (first
  | (refine Zcin (by rfl) _ _ _ (by rfl) w2.heap.size 80 i0 _ 2 32 Tryz.underlying50 hi hz0 hz1 hz2 rfl (by decide) (.slice none 0 0) 0 [] (by rfl) (World.ownsRow_nil _ _ _ _) ⟨w2.heap.size,0,none⟩ 1 1 [.string x,.string y] (by rfl) rfl (World.news_of_block (cs:=#[.string x,.string y]) (heap_alloc_new w2 _)) HONE.out (by decide) (by decide) HAD.out.size ?_;intro vB w3 hB hgB;obtain⟨aB,cB,rfl,hne,_⟩:=Zbea hB;obtain⟨gB,rfl⟩:=hne (by decide);clear hne;have hC:=(show RowAt w3 w2.heap.size (.slice (some ⟨gB,0,none⟩) 1 cB) [(x,y)]from hB);have hSm:=Zchr HAD.out hgB (by intro k hk;cases hk);have hcw3:=HIC.out _ hSm;have hfw3:=HFZ.out _ hSm;clear hgB)
  | fail)
 all_goals (have HP:=hid (Zcil (B:=B) (r:=r) (fs:=[(x,y)]) HX2.out hBb HBW.out HSO.out hle hblt HBH.out hSm hC);clear hcw hfw hcwA hcw3 hfw3 hB hC hSm;go_wp2;go_ret;exact HP.out)
set_option maxHeartbeats 4000000 in
set_option maxRecDepth 100000 in
theorem Zciu (B b:Nat) (r:Option Nat) (fs:List F2) (x y:ByteArray) (w:World) (h:IsRT w B b r fs) (hx:x.size<=maxLen) (hy:y.size<=maxLen):
  Calls Tryz.prog 65 #[.pointer (some ⟨b,0,none⟩),.string x,.string y] w (Zchk w B b r (Zbum fs x y).1 (Zbum fs x y).2):=by
 have cA:=Zchm B b r fs x w h;have cM:=λw=>Zyw x w hx
 have hHB:B<=w.heap.size:=by have:=h.1;have:=h.rlt.2.2;omega
 have H:=hid h
 cases hok:Zbcf x.data.toList with
 | false=>
  have hr:Zbum fs x y=(1,fs):=by unfold Zbum;rw[if_pos hok]
  rw[hr];simp only[hok]at cM;have CM:=hid cM;have CA:=hid cA;unfold maxLen at hx hy;obtain⟨q,hq⟩:∃q,hasF fs x=q:=⟨_,rfl⟩;rw[hq]at CA;clear hok hr h cM cA hq
  go_enter Tryz.func65,Tryz.ntmps65
  go_wp2_with fail
  refine CA.out.mono ?_;rintro e w1 ⟨rfl,hb1⟩;have HX1:=hid hb1;clear hb1
  go_wp2_with fail
  refine(CM.out _).mono ?_;rintro e w2 ⟨rfl,hb2⟩;have HX2:=hid (chain HX1.out hb2);clear hb2;go_wp2;go_ret;exact⟨r,rfl,H.out.below HX2.out,Frame2.of_below HX2.out b r,.inl rfl⟩
 | true=>
  have hokt:=hok;simp only[hok]at cM;have CM:=hid cM
  by_cases hbig:2000<y.size
  ·have hr:Zbum fs x y=(4,fs):=by unfold Zbum;rw[if_neg (by rw[hok];decide),if_pos hbig]
   rw[hr];have CA:=hid cA;obtain⟨q,hq⟩:∃q,hasF fs x=q:=⟨_,rfl⟩;rw[hq]at CA;unfold maxLen at hx hy;clear hok hokt hr h cM cA hq
   go_enter Tryz.func65,Tryz.ntmps65
   go_wp2_with fail
   refine CA.out.mono ?_;rintro e w1 ⟨rfl,hb1⟩;have HX1:=hid hb1;clear hb1
   go_wp2_with fail
   refine(CM.out _).mono ?_;rintro e w2 ⟨rfl,hb2⟩;have HX2:=hid (chain HX1.out hb2);clear hb2;go_wp2;go_ret;exact⟨r,rfl,H.out.below HX2.out,Frame2.of_below HX2.out b r,.inl rfl⟩
  ·cases hq:hasF fs x with
   | true=>
    obtain⟨f,hf,hfx⟩:=Zrl h.2.1 hq;have hr:Zbum fs x y=(0,fs.set (Zbff fs x) (x,y)):=by unfold Zbum;rw[if_neg (by rw[hok];decide),if_neg hbig,if_pos hq]
    rw[hr];rw[hq]at cA;have hset:=Zbms h.2.1 hf y;rw[hfx]at hset;obtain⟨p,hp⟩:∃p,Zbff fs x=p:=⟨_,rfl⟩;rw[hp]at cA hf hset⊢;have hpl:=(List.getElem?_eq_some_iff.1 hf).1;have h60:=h.2.2.1;have hBb:=h.1
    rcases h.row with⟨hnil,_,_⟩|⟨g,c,hrg,hbh,hrow,hc,hcm,hBg,hgl,hcells,cur,hgh,hgc⟩
    ·rw[hnil]at hf;simp at hf
    ·subst hrg
     have hgb:g≠b:=by
      rintro rfl;rw[hbh]at hgh;simp at hgh
     have hblt:=block_lt hbh;have CA:=hid cA;have HBH:=hid hbh;have HGH:=hid hgh;have HROW:=hid hrow;have HF:=hid hf;have HSET:=hid hset;have HFX:=hid hfx;unfold maxLen at hcm hx hy;clear hok hokt hr h cM cA hq hp hf hfx hset hbh hgh hrow hcells
     go_enter Tryz.func65,Tryz.ntmps65
     go_wp2_with fail
     refine CA.out.mono ?_;rintro e w1 ⟨rfl,hb1⟩;have HX1:=hid hb1;clear hb1
     go_wp2_with fail
     refine(CM.out _).mono ?_;rintro e w2 ⟨rfl,hb2⟩;have HX2:=hid (chain HX1.out hb2);clear hb2;have hbc:w2.cell? ⟨b,0,none⟩=some (.slice (some ⟨g,0,none⟩) fs.length c):=(HX2.out.cell (p:=⟨b,0,none⟩) hblt).trans (by have:=HBH.out;simp[World.cell?,this]);have hg2:=(HX2.out.block g hgl).trans HGH.out;obtain⟨v0,hv0⟩:∃v,w2.cell? ⟨g,p*2+1,none⟩=some v:=⟨cur[p*2+1]'(by omega),by simp[World.cell?,hg2]⟩;have hfz:w2.frozen? ⟨g,p*2+1,none⟩=false:=by simp[World.frozen?,hg2]
     have hk0:(0:Int)<=(p:Int):=by omega
     have hk1:(p:Int)<(fs.length:Int):=by omega
     clear hg2
     go_wp2_with fail
     go_ret;have hown2:RowAt w2 B (.slice (some ⟨g,0,none⟩) fs.length c) fs:=HROW.out.below HX2.out;have hs2:=Zbdz y HF.out hown2;have hl:(fs.set p (x,y)).length=fs.length:=List.length_set;refine⟨some g,rfl,⟨hBb,HSET.out,by rw[hl];exact h60,.slice (some ⟨g,0,none⟩) fs.length c,?_,?_,rfl⟩,(Frame2.of_below HX2.out b (some g)).trans (Zqa w2 b g _ _) (.inl rfl),.inl rfl⟩
     ·rw[Below.heap_setCell w2 _ _ b (λe=>hgb e.symm),HX2.out.block b hblt];exact HBH.out
     ·have e:(x,y)=(f.1,y):=by rw[HFX.out]
      rw[e];exact hs2
   | false=>
    by_cases hfull:60<=fs.length
    ·have hr:Zbum fs x y=(4,fs):=by unfold Zbum;rw[if_neg (by rw[hok];decide),if_neg hbig,if_neg (by rw[hq];decide),if_pos hfull]
     rw[hr];rw[hq]at cA;obtain⟨a,c,hb,hown,hc,hcm⟩:=h.ptr;have hblt:=block_lt hb;have CA:=hid cA;have HBH:=hid hb;unfold maxLen at hcm hx hy;clear hok hokt hr h cM cA hq hb hown
     go_enter Tryz.func65,Tryz.ntmps65
     go_wp2_with fail
     refine CA.out.mono ?_;rintro e w1 ⟨rfl,hb1⟩;have HX1:=hid hb1;clear hb1
     go_wp2_with fail
     refine(CM.out _).mono ?_;rintro e w2 ⟨rfl,hb2⟩;have HX2:=hid (chain HX1.out hb2);clear hb2;have hbc:w2.cell? ⟨b,0,none⟩=some (.slice a fs.length c):=(HX2.out.cell (p:=⟨b,0,none⟩) hblt).trans (by have:=HBH.out;simp[World.cell?,this]);go_wp2;go_ret;exact⟨r,rfl,H.out.below HX2.out,Frame2.of_below HX2.out b r,.inl rfl⟩
    ·have hr:Zbum fs x y=(0,fs.take (Zbff fs x)++(x,y)::fs.drop (Zbff fs x)):=by unfold Zbum;rw[if_neg (by rw[hok];decide),if_neg hbig,if_neg (by rw[hq];decide),if_neg hfull]
     rw[hr]
     rcases h.row with⟨hnil,_,hbh⟩|⟨g,c,hrg,hbh,hrow,hc,hcm,hBg,hgl,hcells,_⟩
     ·exact Zchw B b r fs x y w h hx (by omega) hokt hq (by omega) hbh hnil
     ·by_cases hcp:c=Zbff fs x
      ·exact Zchu B b r fs x y w h hx (by omega) hokt hq (by omega) g c hbh hc hcm hgl hcells hcp
      ·exact Zchv B b r fs x y w h hx (by omega) hokt hq (by omega) g c hbh hc hcm hgl hcells hcp
end Go.Proofs.YtmgcaldphpnfgaaGreatDoor
