import Derived.Lib.Bytealg
import Derived.Test.YtcpjfpdecklkgaaGreatDoorMab
namespace Go.Proofs.YtcpjfpdecklkgaaGreatDoor
open Go.Lib (hid)
open Go.Proofs.Tryz
open Go.Lib
theorem Zjx:∀a:List UInt8,compareBytes a a=0
 | []=>rfl
 | a::az=>by
  unfold compareBytes;have h:¬a<a:=by rw[UInt8.lt_iff_toNat_lt];omega
  rw[if_neg h,if_neg h,Zjx az]
theorem Zjz:∀a b:List UInt8,compareBytes a b=0->a=b
 | [],[],_=>rfl
 | [],_::_,h=>by simp[compareBytes]at h
 | _::_,[],h=>by simp[compareBytes]at h
 | a::az,b::bs,h=>by
  unfold compareBytes at h;split at h
  ·cases h
  ·split at h
   ·cases h
   ·rename_i h1 h2
    have:a=b:=UInt8.toNat_inj.1 (by rw[UInt8.lt_iff_toNat_lt]at h1 h2;omega);rw[this,Zjz az bs h]
theorem Zjv:∀a b:List UInt8,compareBytes b a = -compareBytes a b
 | [],[]=>rfl
 | [],_::_=>rfl
 | _::_,[]=>rfl
 | a::az,b::bs=>by
  unfold compareBytes
  by_cases h1:a<b
  ·have h2:¬b<a:=by rw[UInt8.lt_iff_toNat_lt]at h1⊢;omega
   rw[if_pos h1,if_neg h2,if_pos h1];rfl
  ·by_cases h2:b<a
   ·rw[if_pos h2,if_neg h1,if_pos h2]
   ·rw[if_neg h2,if_neg h1,if_neg h1,if_neg h2,Zjv az bs]
theorem Zjy:∀a b c:List UInt8,compareBytes a b<0->compareBytes b c<0->compareBytes a c<0
 | [],[],_,h,_=>by simp[compareBytes]at h
 | [],_::_,[],_,h=>by simp[compareBytes]at h
 | [],_::_,_::_,_,_=>by simp[compareBytes]
 | _::_,[],_,h,_=>by simp[compareBytes]at h
 | _::_,_::_,[],_,h=>by simp[compareBytes]at h
 | a::az,b::bs,c::cs,h1,h2=>by
  unfold compareBytes at h1 h2⊢;simp only[UInt8.lt_iff_toNat_lt]at h1 h2⊢
  by_cases hab:a.toNat<b.toNat
  ·by_cases hbc:b.toNat<c.toNat
   ·rw[if_pos (by omega)];decide
   ·rw[if_neg hbc]at h2
    by_cases hcb:c.toNat<b.toNat
    ·rw[if_pos hcb]at h2;exact absurd h2 (by decide)
    ·rw[if_pos (by omega)];decide
  ·rw[if_neg hab]at h1
   by_cases hba:b.toNat<a.toNat
   ·rw[if_pos hba]at h1;exact absurd h1 (by decide)
   ·rw[if_neg hba]at h1
    by_cases hbc:b.toNat<c.toNat
    ·rw[if_pos (by omega)];decide
    ·rw[if_neg hbc]at h2
     by_cases hcb:c.toNat<b.toNat
     ·rw[if_pos hcb]at h2;exact absurd h2 (by decide)
     ·rw[if_neg hcb]at h2
      rw[if_neg (by omega),if_neg (by omega)];exact Zjy az bs cs h1 h2
def cmpF (f:ByteArray×ByteArray) (x:ByteArray):Int:=compareBytes f.1.data.toList x.data.toList
def Sorted (fs:List (ByteArray×ByteArray)):Prop:=fs.Pairwise λf g=>cmpF f g.1<0
def Zbff (fs:List (ByteArray×ByteArray)) (x:ByteArray):Nat:=(fs.takeWhile λf=>decide (cmpF f x<0)).length
def hasF (fs:List (ByteArray×ByteArray)) (x:ByteArray):Bool:=fs.any λf=>f.1.data.toList==x.data.toList
theorem Zjt {f g:ByteArray×ByteArray} {x:ByteArray} (h1:cmpF f g.1<0) (h2:cmpF g x<0):cmpF f x<0:=Zjy _ _ _ h1 h2
theorem Zju {f:ByteArray×ByteArray} {x:ByteArray} (h:cmpF f x=0):f.1=x:=by
 have:=Zjz _ _ h;exact ByteArray.ext (Array.toList_inj.1 this)
theorem Zjs (f:ByteArray×ByteArray):cmpF f f.1=0:=Zjx _
theorem Zbmq {fs:List (ByteArray×ByteArray)} (h:Sorted fs) {a b:Nat} {fa fb:ByteArray×ByteArray} (hab:a<=b) (ha:fs[a]? =some fa) (hb:fs[b]? =some fb) {x:ByteArray} (hx:cmpF fb x<0):cmpF fa x<0:=by
 rcases Nat.lt_or_ge a b with hlt|hge
 ·obtain⟨hb',rfl⟩:=List.getElem?_eq_some_iff.1 hb
  obtain⟨ha',rfl⟩:=List.getElem?_eq_some_iff.1 ha;exact Zjt (List.pairwise_iff_getElem.1 h a b ha' hb' hlt) hx
 ·obtain rfl:a=b:=by omega
  rw[ha]at hb;injection hb with hb;rw[hb];exact hx
theorem Zbfh {fs:List (ByteArray×ByteArray)} {x:ByteArray}:∀ {p:Nat},p<=fs.length->(∀(t:Nat) f,t<p->fs[t]? =some f->cmpF f x<0)->(∀(t:Nat) f,p<=t->fs[t]? =some f->¬cmpF f x<0)->Zbff fs x=p:=by
 induction fs with
 | nil=>intro p hp _ _;simp at hp;simp[Zbff,hp]
 | cons f fs ih=>
  intro p hp h1 h2
  cases p with
  | zero=>
   have:=h2 0 f (Nat.le_refl _) rfl;simp[Zbff,this]
  | succ p=>
   have h0:=h1 0 f (Nat.succ_pos _) rfl;have:=ih (p:=p) (by simpa using hp) (λt g ht hg=>h1 (t+1) g (by omega) (by simpa using hg)) (λt g ht hg=>h2 (t+1) g (by omega) (by simpa using hg));unfold Zbff at this⊢;rw[List.takeWhile_cons,if_pos (by simpa using h0),List.length_cons,this]
theorem Zbfi (fs:List (ByteArray×ByteArray)) (x:ByteArray):Zbff fs x<=fs.length:=by
 unfold Zbff;exact(List.takeWhile_sublist _).length_le
theorem Zbfg (f:ByteArray×ByteArray) (fs:List (ByteArray×ByteArray)) (x:ByteArray):Zbff (f::fs) x=if cmpF f x<0 then Zbff fs x+1 else 0:=by
 unfold Zbff;rw[List.takeWhile_cons]
 by_cases h:cmpF f x<0<;>simp[h]
theorem Zbfj (x:ByteArray):∀ {fs:List (ByteArray×ByteArray)},Sorted fs->(∀(t:Nat) f,t<Zbff fs x->fs[t]? =some f->cmpF f x<0)/\(∀(t:Nat) f,Zbff fs x<=t->fs[t]? =some f->¬cmpF f x<0)
 | [],_=>⟨λt f _ h=>by simp at h,λt f _ h=>by simp at h⟩
 | g::gs,hs=>by
  obtain⟨ih1,ih2⟩:=Zbfj x (List.pairwise_cons.1 hs).2;rw[Zbfg]
  by_cases h:cmpF g x<0
  ·rw[if_pos h]
   refine⟨λt f ht hf=>?_,λt f ht hf=>?_⟩
   ·cases t with
    | zero=>simp at hf;rw[<-hf];exact h
    | succ t=>exact ih1 t f (by omega) (by simpa using hf)
   ·cases t with
    | zero=>omega
    | succ t=>exact ih2 t f (by omega) (by simpa using hf)
  ·rw[if_neg h]
   refine⟨λt f ht hf=>by omega,λt f ht hf=>?_⟩
   cases t with
   | zero=>simp at hf;rw[<-hf];exact h
   | succ t=>exact λhx=>h (Zjt ((List.pairwise_cons.1 hs).1 f (List.mem_of_getElem? (by simpa using hf))) hx)
theorem Zrk {fs:List (ByteArray×ByteArray)} (hs:Sorted fs) {x:ByteArray} {p:Nat} (h1:∀(t:Nat) f,t<p->fs[t]? =some f->cmpF f x<0) (h2:∀(t:Nat) f,p<=t->fs[t]? =some f->¬cmpF f x<0):
  (∃f,fs[p]? =some f/\cmpF f x=0)↔hasF fs x=true:=by
 unfold hasF;rw[List.any_eq_true];constructor
 ·rintro⟨f,hf,h0⟩
  exact⟨f,List.mem_of_getElem? hf,by rw[Zju h0];simp⟩
 ·rintro⟨f,hf,hx⟩
  have hx:f.1=x:=ByteArray.ext (Array.toList_inj.1 (eq_of_beq hx));obtain⟨t,ht⟩:=List.getElem?_of_mem hf;have h0:cmpF f x=0:=by rw[<-hx];exact Zjs f
  have hpt:p<=t:=by
   rcases Nat.lt_or_ge t p with h|h
   ·have:=h1 t f h ht;omega
   ·exact h
  rcases Nat.lt_or_ge p t with h|h
  ·exfalso
   obtain⟨ht',_⟩:=List.getElem?_eq_some_iff.1 ht;have hp':fs[p]? =some fs[p]:=List.getElem?_eq_getElem (by omega);have h3:=h2 p _ (Nat.le_refl _) hp';have h4:cmpF fs[p] f.1<0:=by
    obtain⟨ht'',rfl⟩:=List.getElem?_eq_some_iff.1 ht;exact List.pairwise_iff_getElem.1 hs p t (by omega) ht' h
   rw[hx]at h4;exact h3 h4
  ·obtain rfl:p=t:=by omega
   exact⟨f,ht,h0⟩
end Go.Proofs.YtcpjfpdecklkgaaGreatDoor
namespace Go.Proofs.YtcpjfpdecklkgaaGreatDoor
open Go.Lib (hid)
open Go.Proofs.Tryz
open Go.RowKit
def IsFiles (w:World) (v:Value) (fs:List F2):Prop:=
 ∃a c,v = .slice a fs.length c/\fs.length<=c/\c<=maxLen/\(fs≠[]->∃b o,a=some ⟨b,o,none⟩/\b<w.heap.size/\∀(j:Nat) x,fs[j]? =some x->w.cell? ⟨b,o+j*2,none⟩=some (.string x.1)/\w.cell? ⟨b,o+j*2+1,none⟩=some (.string x.2))
theorem IsFiles.below {w w':World} {v:Value} {fs:List F2} (h:IsFiles w v fs) (hb:Below w.heap.size w w'):IsFiles w' v fs:=by
 obtain⟨a,c,rfl,h1,h1m,h2⟩:=h;refine⟨a,c,rfl,h1,h1m,λhne=>?_⟩;obtain⟨b,o,rfl,h3,h4⟩:=h2 hne;exact⟨b,o,rfl,Nat.lt_of_lt_of_le h3 hb.size,λj x hx=>⟨(hb.cell h3).trans (h4 j x hx).1,(hb.cell h3).trans (h4 j x hx).2⟩⟩
theorem Zno (fs:List F2):∀(j:Nat) (x:F2),fs[j]? =some x->(Znm fs)[j*2]? =some (.string x.1)/\(Znm fs)[j*2+1]? =some (.string x.2):=by
 induction fs with
 | nil=>intro j x h;simp at h
 | cons f fs ih=>
  intro j x h;rw[Znp]
  cases j with
  | zero=>simp at h;subst h;simp
  | succ j=>rw[Nat.add_mul];simpa using ih j x (by simpa using h)
theorem OwnF.files {w:World} {B:Nat} {r:Option Nat} {v:Value} {fs:List F2} (h:OwnF w B r v fs):IsFiles w v fs:=by
 rcases h with⟨hown,rfl⟩|⟨rfl,rfl,a,rfl⟩
 ·obtain⟨hl,⟨rfl,h0⟩|⟨g,c,cur,rfl,hgB,hg,hnc,hcm,hcs,htk⟩⟩:=hown
  ·obtain rfl:=List.eq_nil_of_length_eq_zero h0
   exact⟨none,0,rfl,by simp,by simp[maxLen],λh=>absurd rfl h⟩
  ·refine⟨_,c,rfl,hnc,hcm,λ_=>⟨g,0,rfl,?_,λj x hx=>?_⟩⟩
   ·rcases Nat.lt_or_ge g w.heap.size with h|h
    ·exact h
    ·rw[Array.getElem?_eq_none h]at hg;cases hg
   ·have key:∀(t:Nat) u,(Znm fs)[t]? =some u->w.cell? ⟨g,t,none⟩=some u:=by
     intro t u hu;rw[<-htk,List.getElem?_take]at hu;split at hu
     ·simp only[World.cell?,hg];simpa using hu
     ·cases hu
    have:=Zno fs j x hx;rw[Nat.zero_add];exact⟨key _ _ this.1,key _ _ this.2⟩
 ·exact⟨a,0,rfl,by simp,by simp[maxLen],λh=>absurd rfl h⟩
theorem Zkg (a b:ByteArray) (w:World):Calls prog 59 #[.string a,.string b] w λe w'=>e = .returned (.int .i64 (Lib.compareBytes a.data.toList b.data.toList))/\w'=w:=
 Any.strings_Compare lLays_n106 a b w
theorem Zjw:∀a b:List UInt8,-1<=Lib.compareBytes a b/\Lib.compareBytes a b<=1
 | [],[]=>by simp[Lib.compareBytes]
 | [],_::_=>by simp[Lib.compareBytes]
 | _::_,[]=>by simp[Lib.compareBytes]
 | a::l,b::m=>by
  unfold Lib.compareBytes;split
  ·decide
  ·split
   ·decide
   ·exact Zjw l m
theorem Zjo (f:F2) (x:ByteArray) (w:World):Calls prog 118 #[.agg #[.string f.1,.string f.2],.string x] w λe w'=>e = .returned (.int .i64 (cmpF f x))/\Below w.heap.size w w':=by
 obtain⟨n,hn⟩:∃n,cmpF f x=n:=⟨_,rfl⟩;have hc:=λw=>Zkg f.1 x w
 rw[hn];rw[show Lib.compareBytes f.1.data.toList x.data.toList=n from hn]at hc;have HC:=hid hc;clear hc hn
 go_enter func118,ntmps118
 go_wp2_with (go_at_call 59;refine(HC.out _).mono ?_;rintro e w' ⟨rfl,rfl⟩)
 go_ret;exact⟨rfl,(Below.refl _ _).alloc (Nat.le_refl _) _⟩
set_option maxHeartbeats 4000000 in
set_option maxRecDepth 100000 in
theorem Zbkp (v:Value) (fs:List F2) (x:ByteArray) (w:World) (h:IsFiles w v fs) (hn:fs.length<=1000) (hs:Sorted fs):
  Calls prog 116 #[v,.string x,.func (.func 118) #[] #[]] w λe w'=>e = .returned (.tuple #[.int .i64 (Zbff fs x:Nat),.bool (hasF fs x)])/\Below w.heap.size w w':=by
 obtain⟨a,c,rfl,h1,h1m,h2⟩:=h;have hcells:∀(k:Nat) x,fs[k]? =some x->∃b o,a=some ⟨b,o,none⟩/\b<w.heap.size/\w.cell? ⟨b,o+k*2,none⟩=some (.string x.1)/\w.cell? ⟨b,o+k*2+1,none⟩=some (.string x.2):=by
  intro k x hx;obtain⟨b,o,ha,hb,hc⟩:=h2 (by rintro rfl;simp at hx);exact⟨b,o,ha,hb,hc k x hx⟩
 have HC:=hid hcells;have HS:=hid hs;clear hcells h2 hs;unfold maxLen at h1m
 go_enter func116,ntmps116
 go_wp2
 go_loopw [9,10] (λp q wr=>∃i j:Nat,i<=j/\j<=fs.length/\p = .int .i64 i/\q = .int .i64 j/\(∀(t:Nat) f,t<i->fs[t]? =some f->cmpF f x<0)/\(∀(t:Nat) f,j<=t->fs[t]? =some f->¬cmpF f x<0)/\Below w.heap.size w wr)
  (λp q _=>(intOf q).toNat-(intOf p).toNat)
 case atStart=>exact⟨0,fs.length,Nat.zero_le _,Nat.le_refl _,rfl,rfl,λt f h=>absurd h (by omega),λt f h hf=>by have:=(List.getElem?_eq_some_iff.1 hf).1;omega,Below.refl _ _⟩
 case round=>
  obtain⟨i,j,hij,hj,rfl,rfl,hlo,hhi,hnx⟩:=hrel;have HLO:=hid hlo;have HHI:=hid hhi;clear hlo hhi
  by_cases hlt:i<j
  ·obtain⟨h,hh⟩:∃h:Nat,h=(i+j)/2:=⟨_,rfl⟩
   have hih:i<=h:=by omega
   have hhj:h<j:=by omega
   have heq:((i:Int)+(j:Int))/2=(h:Int):=by omega
   clear hh;obtain⟨f,hf⟩:∃f,fs[h]? =some f:=⟨fs[h],List.getElem?_eq_getElem (by omega)⟩;obtain⟨b,o,ha,hb,hc0,hc1⟩:=HC.out h f hf;subst ha;have hcx0:wr.cell? ⟨b,o+h*2,none⟩=some (.string f.1):=(hnx.cell (by exact hb)).trans hc0;have hcx1:wr.cell? ⟨b,o+h*2+1,none⟩=some (.string f.2):=(hnx.cell (by exact hb)).trans hc1;have HF:=hid hf;obtain⟨cv,hcv⟩:∃cv,cmpF f x=cv:=⟨_,rfl⟩;have hrange: -1<=cv/\cv<=1:=by rw[<-hcv];exact Zjw _ _
   have cC:=Zjo f x wr;rw[hcv]at cC;have HCV:=hid hcv;have hlt':h<fs.length:=by omega
   clear hf hc0 hc1 hcv
   by_cases hneg:cv<0
   ·go_wp2_with (go_at_call 118;refine cC.mono ?_;rintro e w2 ⟨rfl,hb2⟩)
    go_roundw
    case rel=>exact⟨h+1,j,by omega,hj,by go_num,rfl,λt g ht hg=>Zbmq HS.out (by omega) hg HF.out (by rw[HCV.out];exact hneg),λt g ht hg=>Int.not_lt.2 (HHI.out t g ht hg),hnx.trans (hb2.mono hnx.size)⟩
    case measure=>simp[intOf];omega
   ·go_wp2_with (go_at_call 118;refine cC.mono ?_;rintro e w2 ⟨rfl,hb2⟩)
    go_roundw
    case rel=>exact⟨i,h,by omega,by omega,rfl,by go_num,HLO.out,λt g ht hg hx=>absurd (show cv<0 by rw[<-HCV.out];exact Zbmq HS.out ht HF.out hg hx) (Int.not_lt.2 hneg),hnx.trans (hb2.mono hnx.size)⟩
    case measure=>simp[intOf];omega
  ·obtain rfl:i=j:=by omega
   have hpos:Zbff fs x=i:=Zbfh hj HLO.out HHI.out;have hhas:=Zrk HS.out HLO.out HHI.out;have HP:=hid hpos;have HH:=hid hhas;clear hpos hhas
   by_cases hin:i<fs.length
   ·obtain⟨f,hf⟩:∃f,fs[i]? =some f:=⟨fs[i],List.getElem?_eq_getElem hin⟩
    obtain⟨b,o,ha,hb,hc0,hc1⟩:=HC.out i f hf;subst ha;have hcx0:wr.cell? ⟨b,o+i*2,none⟩=some (.string f.1):=(hnx.cell (by exact hb)).trans hc0;have hcx1:wr.cell? ⟨b,o+i*2+1,none⟩=some (.string f.2):=(hnx.cell (by exact hb)).trans hc1;have HF:=hid hf;obtain⟨cv,hcv⟩:∃cv,cmpF f x=cv:=⟨_,rfl⟩;have cC:=Zjo f x wr;rw[hcv]at cC;have HCV:=hid hcv;clear hf hc0 hc1 hcv
    go_wp2_with (go_at_call 118;refine cC.mono ?_;rintro e w2 ⟨rfl,hb2⟩)
    go_ret2
    refine⟨Zbhq (by rw[HP.out]) ?_,hnx.trans (hb2.mono hnx.size)⟩;rw[Bool.eq_iff_iff,<-HH.out];simp only[beq_iff_eq];exact⟨λh0=>⟨f,HF.out,by rw[HCV.out];exact h0⟩,λ⟨g,hg,h0⟩=>by rw[HF.out]at hg;injection hg with hg;rw[<-HCV.out,hg];exact h0⟩
   ·go_wp2
    go_ret2
    refine⟨Zbhq (by rw[HP.out]) ?_,hnx⟩;rw[Bool.eq_iff_iff,<-HH.out];exact⟨λh=>absurd h (by decide),λ⟨g,hg,_⟩=>absurd (List.getElem?_eq_some_iff.1 hg).1 hin⟩
def IsTree (w:World) (B b:Nat) (r:Option Nat) (fs:List F2):Prop:=
 B<=b/\Sorted fs/\fs.length<=60/\∃v,w.heap[b]? =some (.cells #[v] 71 (0,0))/\OwnF w B r v fs
theorem OwnF.kept {w w':World} {B:Nat} {r row:Option Nat} {v:Value} {fs:List F2} (h:OwnF w B r v fs) (hg:w.grownBy w' row) (hne:r=none∨r≠row):OwnF w' B r v fs:=by
 rcases h with⟨hown,rfl⟩|⟨rfl,rfl,a,rfl⟩
 ·exact .inl ⟨hown.kept hg hne,rfl⟩
 ·exact .inr ⟨rfl,rfl,a,rfl⟩
theorem OwnF.shape {w:World} {B:Nat} {r:Option Nat} {v:Value} {fs:List F2} (h:OwnF w B r v fs):∃a c,v = .slice a fs.length c/\fs.length<=c/\c<=maxLen:=by
 obtain⟨a,c,hv,h1,h2,_⟩:=h.files;exact⟨a,c,hv,h1,h2⟩
theorem OwnF.lt {w:World} {B:Nat} {r:Option Nat} {v:Value} {fs:List F2} (h:OwnF w B r v fs) {k:Nat} (hk:r=some k):B<=k/\k<w.heap.size:=by
 rcases h with⟨hown,rfl⟩|⟨rfl,rfl,a,rfl⟩
 ·exact hown.lt k hk
 ·cases hk
theorem block_lt {w:World} {b:Nat} {o:Obj} (h:w.heap[b]? =some o):b<w.heap.size:=by
 rcases Nat.lt_or_ge b w.heap.size with h'|h'
 ·exact h'
 ·rw[Array.getElem?_eq_none h']at h;cases h
theorem Zrc {w w':World} (h:Below w.heap.size w w') (row:Option Nat):w.grownBy w' row:=⟨h.os,h.tape,h.output,h.size,λk hk _=>h.block k hk⟩
theorem IsTree.below {w w':World} {B b:Nat} {r:Option Nat} {fs:List F2} (h:IsTree w B b r fs) (hb:Below w.heap.size w w'):IsTree w' B b r fs:=by
 obtain⟨h1,h2,h3,v,h4,h5⟩:=h;exact⟨h1,h2,h3,v,(hb.block b (block_lt h4)).trans h4,h5.kept (Zrc hb none) (by cases r<;>simp)⟩
theorem IsTree.ptr {w:World} {B b:Nat} {r:Option Nat} {fs:List F2} (h:IsTree w B b r fs):∃a c,w.heap[b]? =some (.cells #[.slice a fs.length c] 71 (0,0))/\OwnF w B r (.slice a fs.length c) fs/\fs.length<=c/\c<=maxLen:=by
 obtain⟨_,_,_,v,h4,h5⟩:=h;obtain⟨a,c,rfl,h6,h7⟩:=h5.shape;exact⟨a,c,h4,h5,h6,h7⟩
theorem Zda (b n c:Nat) (a:Option Addr) (w:World) (h:w.heap[b]? =some (.cells #[.slice a n c] 71 (0,0))):
  Calls prog 117 #[.pointer (some ⟨b,0,none⟩)] w λe w'=>e = .returned (.slice a n c)/\w=w':=by
 have hc:w.cell? ⟨b,0,none⟩=some (.slice a n c):=by simp[World.cell?,h]
 clear h
 go_enter func117,ntmps117
 go_wp2;go_ret;exact⟨rfl,rfl⟩
theorem Zoq (B b:Nat) (r:Option Nat) (fs:List F2) (x:ByteArray) (w:World) (h:IsTree w B b r fs):
  Calls prog 69 #[.pointer (some ⟨b,0,none⟩),.string x] w λe w'=>e = .returned (.tuple #[.int .i64 (Zbff fs x:Nat),.bool (hasF fs x)])/\Below w.heap.size w w':=by
 obtain⟨a,c,hb,hown,hc⟩:=h.ptr;have hA:=Zda b fs.length c a w hb;have hS:=Zbkp _ fs x w hown.files (by have:=h.2.2.1;omega) h.2.1;obtain⟨p,hp⟩:∃p,Zbff fs x=p:=⟨_,rfl⟩;obtain⟨q,hq⟩:∃q,hasF fs x=q:=⟨_,rfl⟩;rw[hp,hq]at hS⊢;clear hp hq h hown hc hb
 go_enter func69,ntmps69
 go_wp2_with fail
 refine hA.mono ?_;rintro e w' ⟨rfl,rfl⟩
 go_wp2_with fail
 refine hS.mono ?_;rintro e w' ⟨rfl,hb⟩;go_wp2
 go_ret2
 exact⟨rfl,hb⟩
def Zbgv (fs:List F2) (x:ByteArray):ByteArray×Bool:=
 if hasF fs x then(match fs[Zbff fs x]? with|some f=>(f.2,true)|none=>(ByteArray.empty,true))else(ByteArray.empty,false)
theorem Zrl {fs:List F2} (hs:Sorted fs) {x:ByteArray} (h:hasF fs x=true):∃f,fs[Zbff fs x]? =some f/\f.1=x:=by
 obtain⟨h1,h2⟩:=Zbfj x hs;obtain⟨f,hf,h0⟩:=(Zrk hs h1 h2).2 h;exact⟨f,hf,Zju h0⟩
theorem Zbgx (B b:Nat) (r:Option Nat) (fs:List F2) (x:ByteArray) (w:World) (h:IsTree w B b r fs):
  Calls prog 164 #[.pointer (some ⟨b,0,none⟩),.string x] w λe w'=>e = .returned (.tuple #[.string (Zbgv fs x).1,.bool (Zbgv fs x).2])/\Below w.heap.size w w':=by
 obtain⟨a,c,hb,hown,hc⟩:=h.ptr;have hF:=Zoq B b r fs x w h;have hle:=Zbfi fs x
 cases hq:hasF fs x with
 | false=>
  have hr:Zbgv fs x=(ByteArray.empty,false):=by unfold Zbgv;rw[hq];rfl
  rw[hr];rw[hq]at hF;generalize Zbff fs x=p at *;clear hr hq h hown hc hb hle
  go_enter func164,ntmps164
  go_wp2_with fail
  refine hF.mono ?_;rintro e w' ⟨rfl,hb⟩;go_wp2
  go_ret2
  exact⟨rfl,hb⟩
 | true=>
  obtain⟨f,hf,_⟩:=Zrl h.2.1 hq;have hr:Zbgv fs x=(f.2,true):=by unfold Zbgv;rw[hq,hf];rfl
  rw[hr];rw[hq]at hF;obtain⟨a',c',hv,hc1,hc2,hcell⟩:=hown.files
  cases hv
  obtain⟨g,o,rfl,hg,hcells⟩:=hcell (by rintro rfl;simp at hf);have hcl:=(hcells _ f hf).2;have hpl:=(List.getElem?_eq_some_iff.1 hf).1;have hblt:=block_lt hb;generalize Zbff fs x=p at *;have h60:=h.2.2.1;clear hr hq h hown hcells hf hcell hc;unfold maxLen at hc2
  go_enter func164,ntmps164
  go_wp2_with fail
  refine hF.mono ?_;rintro e w' ⟨rfl,hb'⟩;have hbc:w'.cell? ⟨b,0,none⟩=some (.slice (some ⟨g,o,none⟩) fs.length c):=(hb'.cell (by exact hblt)).trans (by simp[World.cell?,hb]);have hfc:w'.cell? ⟨g,o+p*2+1,none⟩=some (.string f.2):=(hb'.cell (by exact hg)).trans hcl;go_wp2
  go_ret2
  exact⟨rfl,hb'⟩
theorem Zbms {fs:List (ByteArray×ByteArray)} (h:Sorted fs) {p:Nat} {f:ByteArray×ByteArray} (hf:fs[p]? =some f) (b:ByteArray):Sorted (fs.set p (f.1,b)):=by
 unfold Sorted at h⊢;rw[List.pairwise_iff_getElem]at h⊢;obtain⟨hp,rfl⟩:=List.getElem?_eq_some_iff.1 hf;intro i j hi hj hij;have hi':i<fs.length:=by simpa using hi
 have hj':j<fs.length:=by simpa using hj
 have hh:=h i j hi' hj' hij;rw[List.getElem_set,List.getElem_set]
 by_cases h1:p=i
 ·subst h1
  rw[if_pos rfl,if_neg (by omega)];exact hh
 ·rw[if_neg h1]
  by_cases h2:p=j
  ·subst h2
   rw[if_pos rfl];exact hh
  ·rw[if_neg h2];exact hh
theorem Zbmo {fs:List (ByteArray×ByteArray)} (h:Sorted fs) {x:ByteArray} (b:ByteArray) (hx:hasF fs x=false):Sorted (fs.take (Zbff fs x)++(x,b)::fs.drop (Zbff fs x)):=by
 obtain⟨h1,h2⟩:=Zbfj x h;have h3:=Zrk h h1 h2;unfold Sorted at h⊢;have hd:(fs.take (Zbff fs x)++fs.drop (Zbff fs x)).Pairwise λf g=>cmpF f g.1<0:=by rw[List.take_append_drop];exact h
 rw[List.pairwise_append]at hd⊢;obtain⟨d1,d2,d3⟩:=hd;have hlo:∀f∈fs.take (Zbff fs x),cmpF f x<0:=by
  intro f hf;obtain⟨t,ht⟩:=List.getElem?_of_mem hf;rw[List.getElem?_take]at ht;split at ht
  ·exact h1 t f (by assumption) ht
  ·cases ht
 have hhi:∀g∈fs.drop (Zbff fs x),cmpF (x,b) g.1<0:=by
  intro g hg;obtain⟨t,ht⟩:=List.getElem?_of_mem hg;rw[List.getElem?_drop]at ht;have h4:¬cmpF g x<0:=h2 _ g (by omega) ht;have h5:cmpF g x≠0:=by
   intro h0;have:hasF fs x=true:=by
    unfold hasF;rw[List.any_eq_true];exact⟨g,List.mem_of_getElem? ht,by rw[Zju h0];simp⟩
   rw[hx]at this;cases this
  have h6:cmpF (x,b) g.1 = -cmpF g x:=by
   unfold cmpF;exact Zjv _ _
  rw[h6];omega
 refine⟨d1,List.pairwise_cons.2 ⟨hhi,d2⟩,?_⟩;intro f hf g hg
 rcases List.mem_cons.1 hg with rfl|hg
 ·exact hlo f hf
 ·exact d3 f hf g hg
def GB (B:Nat):Prop:=1<B/\2<B/\3<B/\4<B
theorem GB.mono {B B':Nat} (h:GB B) (hB:B<=B'):GB B':=by
 obtain⟨h1,h2,h3,h4⟩:=h;exact⟨by omega,by omega,by omega,by omega⟩
theorem Glob.gb {w:World} (h:Glob w):GB w.heap.size:=by
 obtain⟨⟨m,hm⟩,ht,htop,⟨t1,p1,h1⟩,⟨t2,p2,h2⟩⟩:=h;exact⟨Zie hm,htop,Zie h1,Zie h2⟩
theorem Glob.low {w w':World} {B:Nat} (h:Glob w) (hB:GB B) (hb:Below B w w'):Glob w':=by
 obtain⟨⟨m,hm⟩,ht,htop,⟨t1,p1,h1⟩,⟨t2,p2,h2⟩⟩:=h;exact⟨⟨m,(hb.cell hB.1).trans hm⟩,var?_below hb (by kernel_rfl) hB.2.1 ht,Nat.lt_of_lt_of_le htop hb.size,⟨t1,p1,(hb.cell hB.2.2.1).trans h1⟩,⟨t2,p2,(hb.cell hB.2.2.2).trans h2⟩⟩
structure Frame2 (w w':World) (b:Nat) (r:Option Nat):Prop where
 os:w'.os=w.os
 tape:w'.tape=w.tape
 output:w'.output=w.output
 size:w.heap.size<=w'.heap.size
 block:∀k,k<w.heap.size->k≠b->some k≠r->w'.heap[k]? =w.heap[k]?
theorem Frame2.of_below {w w':World} (h:Below w.heap.size w w') (b:Nat) (r:Option Nat):Frame2 w w' b r:=⟨h.os,h.tape,h.output,h.size,λk hk _ _=>h.block k hk⟩
theorem Frame2.trans {a b c:World} {k:Nat} {r r':Option Nat} (h:Frame2 a b k r) (h':Frame2 b c k r') (hr:r'=r∨∃g,r'=some g/\a.heap.size<=g):Frame2 a c k r:=by
 refine⟨h'.os.trans h.os,h'.tape.trans h.tape,h'.output.trans h.output,Nat.le_trans h.size h'.size,λj hj h1 h2=>?_⟩;refine(h'.block j (Nat.lt_of_lt_of_le hj h.size) h1 ?_).trans (h.block j hj h1 h2)
 rcases hr with rfl|⟨g,rfl,hg⟩
 ·exact h2
 ·intro e;injection e with e;omega
theorem Frame2.below {w w':World} {b B:Nat} {r:Option Nat} (h:Frame2 w w' b r) (hB:B<=w.heap.size) (hb:B<=b) (hr:∀k,r=some k->B<=k):Below B w w':=
 ⟨h.os,h.tape,h.output,h.size,λk hk=>h.block k (by omega) (by omega) (λe=>by have:=hr k e.symm;omega)⟩
def Zbum (fs:List F2) (x b:ByteArray):Int×List F2:=
 if Zbcf x.data.toList=false then(1,fs)
 else if 2000<b.size then(4,fs)
 else if hasF fs x then(0,fs.set (Zbff fs x) (x,b))
 else if 60<=fs.length then(4,fs)
 else(0,fs.take (Zbff fs x)++(x,b)::fs.drop (Zbff fs x))
def Zcf (w:World) (B b:Nat) (r:Option Nat) (code:Int) (fs:List F2) (e:Ending) (w':World):Prop:=
 ∃r',e = .returned (.int .i64 code)/\IsTree w' B b r' fs/\Frame2 w w' b r/\(r'=r∨∃k,r'=some k/\w.heap.size<=k)
theorem Znu (fs:List F2):∀(p:Nat) (f:F2) (b:ByteArray),fs[p]? =some f->(Znm fs).set (p*2+1) (.string b)=Znm (fs.set p (f.1,b)):=by
 induction fs with
 | nil=>intro p f b h;simp at h
 | cons g fs ih=>
  intro p f b h
  cases p with
  | zero=>
   simp at h;subst h;rw[List.set_cons_zero,Znp,Znp];rfl
  | succ p=>
   rw[List.set_cons_succ,Znp,Znp,<-ih p f b (by simpa using h),Nat.add_mul];rfl
theorem Zbdz {w:World} {B g c:Nat} {fs:List F2} {p:Nat} {f:F2} (b:ByteArray) (hp:fs[p]? =some f)
  (h:w.ownsRow B 51 2 (.slice (some ⟨g,0,none⟩) fs.length c) fs.length (Znm fs)):
  (w.setCell ⟨g,p*2+1,none⟩ (.string b)).ownsRow B 51 2 (.slice (some ⟨g,0,none⟩) fs.length c) (fs.set p (f.1,b)).length (Znm (fs.set p (f.1,b))):=by
 obtain⟨hl,⟨hv,_⟩|⟨g',c',cur,hv,hgB,hg,hnc,hcm,hcs,htk⟩⟩:=h
 ·cases hv
 ·cases hv
  have hpl:=(List.getElem?_eq_some_iff.1 hp).1;rw[setCell_eq_setRow w g (p*2+1) cur _ (0,0) _ hg];refine⟨by rw[Znr],.inr ⟨g,c,cur.setIfInBounds (p*2+1) (.string b),by rw[List.length_set],hgB,setRow_heap w g _ _ _ _ hg,by simpa using hnc,hcm,by simpa using hcs,?_⟩⟩;rw[<-Znu fs p f b hp,<-htk,Array.toList_setIfInBounds,List.length_set,List.take_set]
theorem Zqa (w:World) (b g:Nat) (o:Nat) (v:Value):Frame2 w (w.setCell ⟨g,o,none⟩ v) b (some g):=
 ⟨rfl,rfl,rfl,by simp[World.setCell],λk _ _ h2=>Below.heap_setCell w _ _ k (λe=>h2 (congrArg some e))⟩
theorem OwnF.ne {w:World} {B b:Nat} {r:Option Nat} {v:Value} {fs:List F2} {cs:Array Value} (h:OwnF w B r v fs) (hb:w.heap[b]? =some (.cells cs 71 (0,0))):r≠some b:=by
 rcases h with⟨⟨_,⟨rfl,_⟩|⟨g,c,cur,rfl,_,hg,_⟩⟩,rfl⟩|⟨_,rfl,_⟩
 ·simp[Value.ownBlock]
 ·intro e
  injection e with e
  subst e;rw[hb]at hg;simp at hg
 ·simp
theorem Zbrn {w:World} {B b:Nat} {r:Option Nat} {v v0:Value} {fs:List F2} (hB:B<=b) (hs:Sorted fs) (hl:fs.length<=60) (hb:w.heap[b]? =some (.cells #[v0] 71 (0,0))) (h:OwnF w B r v fs):
  IsTree (w.setCell ⟨b,0,none⟩ v) B b r fs:=by
 have hne:=h.ne hb;refine⟨hB,hs,hl,v,?_,h.kept (row:=some b) ⟨rfl,rfl,rfl,by simp[World.setCell],λk _ hk=>Below.heap_setCell w _ _ k (λe=>hk (congrArg some e))⟩ (.inr hne)⟩;rw[setCell_eq_setRow w b 0 _ _ (0,0) _ hb];rw[setRow_heap w b _ _ _ _ hb];rfl
theorem Zte (B vb i:Nat) (r:Option Nat) (v:Value) (fs:List F2) (f:F2) (w:World) (hi:i<=fs.length) (hn:fs.length<=1000) (hB:B<=w.heap.size)
  (hown:OwnF w B r v fs) (hvb:some vb≠r) (hv:w.heap[vb]? =some (.cells #[.string f.1,.string f.2] 51 (0,0))):
  Calls prog 70 #[v,.int .i64 i,.slice (some ⟨vb,0,none⟩) 1 1] w λe w'=>∃a n c r',e = .returned (.slice a n c)/\OwnF w' B r' (.slice a n c) (fs.take i++f::fs.drop i)/\w.grownBy w' r/\(r'=r∨∃k,r'=some k/\w.heap.size<=k):=by
 refine(Ztd B vb i r v fs f w hi hn hB hown hvb hv).mono ?_;rintro e w' ⟨v',r',rfl,h1,h2,h3⟩;obtain⟨a,c,rfl,_⟩:=h1.shape;exact⟨a,_,c,r',rfl,h1,h2,h3⟩
set_option maxHeartbeats 2000000 in
theorem Zbup (B b:Nat) (r:Option Nat) (fs:List F2) (x y:ByteArray) (w:World) (h:IsTree w B b r fs) (hG:Glob w) (hx:x.size<=maxLen) (hy:y.size<=maxLen):
  Calls prog 37 #[.pointer (some ⟨b,0,none⟩),.string x,.string y] w (Zcf w B b r (Zbum fs x y).1 (Zbum fs x y).2):=by
 obtain⟨m,hm⟩:=hG.max;have hM:=Zzb x m w hx hm;have hHB:B<=w.heap.size:=by have:=h.1;obtain⟨a,c,hb,_⟩:=h.ptr;have:=block_lt hb;omega
 unfold maxLen at hx hy
 cases hok:Zbcf x.data.toList with
 | false=>
  have hr:Zbum fs x y=(1,fs):=by unfold Zbum;rw[if_pos hok]
  rw[hr];rw[hok]at hM;have HT:=hid h;clear hok hr h hm hG
  go_enter func37,ntmps37
  go_wp2_with (go_at_call 68;refine hM.mono ?_;rintro e w' ⟨rfl,hb⟩)
  go_ret;exact⟨r,rfl,HT.out.below hb,Frame2.of_below hb b r,.inl rfl⟩
 | true=>
  rw[hok]at hM
  by_cases hbig:2000<y.size
  ·have hr:Zbum fs x y=(4,fs):=by unfold Zbum;rw[if_neg (by rw[hok];decide),if_pos hbig]
   rw[hr];have HT:=hid h;clear hok hr h hm hG
   go_enter func37,ntmps37
   go_wp2_with (go_at_call 68;refine hM.mono ?_;rintro e w' ⟨rfl,hb⟩)
   go_ret;exact⟨r,rfl,HT.out.below hb,Frame2.of_below hb b r,.inl rfl⟩
  ·have hF:=λ(w':World) (hb:Below w.heap.size w w')=>Zoq B b r fs x w' (h.below hb)
   have hple:=Zbfi fs x
   cases hq:hasF fs x with
   | true=>
    obtain⟨f,hf,hfx⟩:=Zrl h.2.1 hq;have hr:Zbum fs x y=(0,fs.set (Zbff fs x) (x,y)):=by unfold Zbum;rw[if_neg (by rw[hok];decide),if_neg hbig,if_pos hq]
    rw[hr];simp only[hq]at hF;have hset:=Zbms h.2.1 hf y;rw[hfx]at hset;obtain⟨p,hp⟩:∃p,Zbff fs x=p:=⟨_,rfl⟩;rw[hp]at hF hf hset hple⊢;obtain⟨a,c,hb,hown,hc,hcm⟩:=h.ptr;have hpl:=(List.getElem?_eq_some_iff.1 hf).1;have h60:=h.2.2.1
    rcases hown with⟨hown,hrr⟩|⟨rfl,_⟩
    ·obtain⟨a',c',hv,hne,_,_⟩:=Zbea hown
     cases hv
     obtain⟨g,rfl⟩:=hne (by omega);obtain rfl:r=some g:=hrr;have hgl:=(hown.lt g rfl);have hgh:∃cur,w.heap[g]? =some (.cells cur 51 (0,0))/\cur.size=c*2:=by
      obtain⟨_,⟨hv,_⟩|⟨g',c',cur,hv,_,hg,_,_,hcs,_⟩⟩:=hown
      ·cases hv
      ·cases hv;exact⟨cur,hg,hcs⟩
     have hgb:g≠b:=by
      rintro rfl;obtain⟨cur,hg,_⟩:=hgh;rw[hb]at hg;simp at hg
     have HF:=hid hF;have HB:=hid hb;have HO:=hid hown;have HP:=hid hf;have HS:=hid hset;have HH:=hid hgh;have HFX:=hid hfx;have hBb:=h.1;have hblt:=block_lt hb;clear hq hok hr h hm hG hF hp hset hfx hf hb hown hgh hne;unfold maxLen at hcm
     go_enter func37,ntmps37
     go_wp2_with fail
     refine hM.mono ?_;rintro e w1 ⟨rfl,hb1⟩
     go_wp2_with fail
     refine(HF.out w1 hb1).mono ?_;rintro e w2 ⟨rfl,hb2⟩;have hb12:=hb1.trans (hb2.mono hb1.size);have hbc:w2.cell? ⟨b,0,none⟩=some (.slice (some ⟨g,0,none⟩) fs.length c):=(hb12.cell (by exact hblt)).trans (by have:=HB.out;simp[World.cell?,this]);have hex:∃v,w2.cell? ⟨g,p*2+1,none⟩=some v:=by
      obtain⟨cur,hg,hcs⟩:=HH.out;have h2:=(hb12.block g hgl.2).trans hg;exact⟨cur[p*2+1]'(by omega),by simp[World.cell?,h2]⟩
     obtain⟨v0,hv0⟩:=hex;have hfz:w2.frozen? ⟨g,p*2+1,none⟩=false:=by
      obtain⟨cur,hg,hcs⟩:=HH.out;have h2:=(hb12.block g hgl.2).trans hg;simp[World.frozen?,h2]
     go_wp2_with fail
     go_ret;have hown2:w2.ownsRow B 51 2 (.slice (some ⟨g,0,none⟩) fs.length c) fs.length (Znm fs):=HO.out.kept (Zrc hb12 none) (.inr (by simp[Value.ownBlock]));have hs2:=Zbdz y HP.out hown2;have hl:(fs.set p (x,y)).length=fs.length:=List.length_set;refine⟨some g,rfl,⟨hBb,HS.out,by rw[hl];exact h60,.slice (some ⟨g,0,none⟩) fs.length c,?_,.inl ⟨?_,rfl⟩⟩,(Frame2.of_below hb12 b (some g)).trans (Zqa w2 b g _ _) (.inl rfl),.inl rfl⟩
     ·rw[Below.heap_setCell w2 _ _ b (λe=>hgb e.symm),hb12.block b hblt];exact HB.out
     ·have e:(x,y)=(f.1,y):=by rw[HFX.out]
      rw[e];exact hs2
    ·simp at hf
   | false=>
    simp only[hq]at hF
    by_cases hfull:60<=fs.length
    ·have hr:Zbum fs x y=(4,fs):=by unfold Zbum;rw[if_neg (by rw[hok];decide),if_neg hbig,if_neg (by rw[hq];decide),if_pos hfull]
     rw[hr];obtain⟨a,c,hb,hown,hc,hcm⟩:=h.ptr;have hblt:=block_lt hb;generalize Zbff fs x=p at *;have HF:=hid hF;have HT:=hid h;have HB:=hid hb;clear hq hok hr h hm hG hF hb hown;unfold maxLen at hcm
     go_enter func37,ntmps37
     go_wp2_with fail
     refine hM.mono ?_;rintro e w1 ⟨rfl,hb1⟩
     go_wp2_with fail
     refine(HF.out w1 hb1).mono ?_;rintro e w2 ⟨rfl,hb2⟩;have hb12:=hb1.trans (hb2.mono hb1.size);have hbc:w2.cell? ⟨b,0,none⟩=some (.slice a fs.length c):=(hb12.cell (by exact hblt)).trans (by have:=HB.out;simp[World.cell?,this])
     go_wp2_with fail
     go_ret;exact⟨r,rfl,HT.out.below hb12,Frame2.of_below hb12 b r,.inl rfl⟩
    ·have hr:Zbum fs x y=(0,fs.take (Zbff fs x)++(x,y)::fs.drop (Zbff fs x)):=by unfold Zbum;rw[if_neg (by rw[hok];decide),if_neg hbig,if_neg (by rw[hq];decide),if_neg hfull]
     rw[hr];obtain⟨a,c,hb,hown,hc,hcm⟩:=h.ptr;have hblt:=block_lt hb;have hso:=Zbmo h.2.1 y hq;have hle:(fs.take (Zbff fs x)++(x,y)::fs.drop (Zbff fs x)).length<=60:=by simp;omega
     have hBb:=h.1;generalize Zbff fs x=p at *;have HF:=hid hF;have HT:=hid h;have HB:=hid hb;have HO:=hid hown;have HS:=hid hso;have HL:=hid hle;clear hq hok hr h hm hG hF hb hown hso hle;unfold maxLen at hcm
     go_enter func37,ntmps37
     go_wp2_with fail
     refine hM.mono ?_;rintro e w1 ⟨rfl,hb1⟩
     go_wp2_with fail
     refine(HF.out w1 hb1).mono ?_;rintro e w2 ⟨rfl,hb2⟩;have hb12:=hb1.trans (hb2.mono hb1.size);have hbc:w2.cell? ⟨b,0,none⟩=some (.slice a fs.length c):=(hb12.cell (by exact hblt)).trans (by have:=HB.out;simp[World.cell?,this]);obtain⟨w3,hw3⟩:∃w3:World,w3=w2.alloc (.cells #[.string x,.string y] 51):=⟨_,rfl⟩;have hb3:Below w.heap.size w w3:=by rw[hw3];exact hb12.alloc hb12.size _
     have hs3:w3.heap.size=w2.heap.size+1:=by rw[hw3];simp
     have hO3:=HO.out.kept (Zrc hb3 none) (by cases r<;>simp);have hv3:w3.heap[w2.heap.size]? =some (.cells #[.string x,.string y] 51 (0,0)):=by rw[hw3];exact heap_alloc_new w2 _
     have hrl:∀k,r=some k->k<w.heap.size:=λk hk=>(HO.out.lt hk).2
     have hvb:some w2.heap.size≠r:=by
      intro e;have:=hrl _ e.symm;have:=hb12.size;omega
     have cI:=Zte B w2.heap.size p r _ fs (x,y) w3 hple (by omega) (by have:=hb3.size;omega) hO3 hvb hv3;have HW3:=hid hw3;have HR:=hid hrl;rw[hw3]at cI;clear hO3 hv3 hvb hw3 hrl
     go_wp2_with fail
     refine cI.mono ?_;rintro e w4 ⟨a4,n4,c4,r4,rfl,hO4,hg4,hr4⟩;rw[<-HW3.out]at hg4 hr4;have hbr:some b≠r:=by
      have:=(HO.out.ne HB.out);exact λe=>this e.symm
     have hbw4:w4.heap[b]? =some (.cells #[.slice a fs.length c] 71 (0,0)):=by
      rw[hg4.block b (by have:=hb3.size;omega) hbr,hb3.block b hblt];exact HB.out
     have hbc4:w4.cell? ⟨b,0,none⟩=some (.slice a fs.length c):=by simp[World.cell?,hbw4]
     have hbf4:w4.frozen? ⟨b,0,none⟩=false:=by simp[World.frozen?,hbw4]
     have hT:=Zbrn hBb HS.out HL.out hbw4 hO4;have hFr:Frame2 w (w4.setCell ⟨b,0,none⟩ (.slice a4 n4 c4)) b r:=by
      refine⟨by show w4.os=_;rw[hg4.os];exact hb3.os,by show w4.tape=_;rw[hg4.tape];exact hb3.tape,by show w4.output=_;rw[hg4.output];exact hb3.output,?_,λk hk h1 h2=>?_⟩
      ·have h1:=hg4.size;have h2:=hb3.size;simp[World.setCell];omega
      ·rw[Below.heap_setCell w4 _ _ k h1,hg4.block k (by have:=hb3.size;omega) h2,hb3.block k hk]
     have hr5:r4=r∨∃k,r4=some k/\w.heap.size<=k:=by
      rcases hr4 with h|⟨k,h,hk⟩
      ·exact .inl h
      ·exact .inr ⟨k,h,by have:=hb3.size;omega⟩
     have HT5:=hid hT;have HF5:=hid hFr;have HR5:=hid hr5;clear hT hFr hr5 hO4 hg4 hr4 hbw4 hbc hb12 hb3 hs3 hb1 hb2
     go_wp2_with fail
     go_ret;exact⟨r4,rfl,HT5.out,HF5.out,HR5.out⟩
end Go.Proofs.YtcpjfpdecklkgaaGreatDoor
