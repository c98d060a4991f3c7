import Derived.Lib.Bytealg
import Derived.WalkKit
import Derived.WalkSpells
import Derived.WalkLawsBesides
import Derived.Deep.DeepFit
import Derived.Deep.DeepMust
import Derived.Deep.QuietTactic
import Derived.BigQuiet
import Derived.Lib.Hide
import Derived.Test.YtcpjfpdecklkgaaGreatDoorProg
import Derived.Test.YtcpjfpdecklkgaaGreatDoorLays
namespace Go.Proofs.YtcpjfpdecklkgaaGreatDoor
open Go.Lib (hid)
open Go.Proofs.Tryz
def Zft (c:UInt8):Bool:=decide (c.toNat=32∨c.toNat=9∨c.toNat=10∨c.toNat=13)
def Zzp (c:UInt8):Bool:=decide ((97<=c.toNat/\c.toNat<=122)∨(65<=c.toNat/\c.toNat<=90)∨(48<=c.toNat/\c.toNat<=57)∨c.toNat=46∨c.toNat=95∨c.toNat=45∨c.toNat=47)
def Zbfp:List UInt8:=[123,125,44,59,61,40,41,43,94,58,36]
def Zbfo (c:UInt8):Bool:=Zbfp.contains c
def Zbfb (c:UInt8):Bool:=decide (32<=c.toNat/\c.toNat<=126/\c.toNat≠34/\c.toNat≠92)
def hexV (c:UInt8):Option Nat:=if 48<=c.toNat/\c.toNat<=57 then some (c.toNat-48)else if 97<=c.toNat/\c.toNat<=102 then some (c.toNat-87)else none
def Zbld:Bool->List UInt8->Nat
 | _,[]=>0
 | false,c::r=>if Zft c then Zbld false r+1 else if c=35 then Zbld true r+1 else 0
 | true,c::r=>if c=10 then Zbld false (c::r)else Zbld true r+1
termination_by b l=>(l.length,if b then 1 else 0)
theorem Zble {c:UInt8} (r:List UInt8) (h:Zft c=true):Zbld false (c::r)=Zbld false r+1:=by rw[Zbld,if_pos h]
theorem Zbll {c:UInt8} (r:List UInt8) (h:c=35):Zbld false (c::r)=Zbld true r+1:=by
 rw[Zbld,if_neg (by rw[h];decide),if_pos h]
theorem Zblm {c:UInt8} (r:List UInt8) (h:Zft c=false) (h':c≠35):Zbld false (c::r)=0:=by
 rw[Zbld,if_neg (by rw[h];decide),if_neg h']
theorem Zblj (b:Bool):Zbld b []=0:=by rw[Zbld]
theorem Zblg {c:UInt8} (r:List UInt8) (h:c≠10):Zbld true (c::r)=Zbld true r+1:=by rw[Zbld,if_neg h]
theorem Zblk {c:UInt8} (r:List UInt8) (h:c=10):Zbld true (c::r)=Zbld false (c::r):=by conv=>lhs;rw[Zbld,if_pos h]
def Zme:List UInt8->Option (UInt8×Nat)
 | []=>none
 | c::r=>if Zbfb c then some (c,1)else if c=92 then
   match r with
   | []=>none
   | d::t=>if d=110 then some (10,2)else if d=116 then some (9,2)else if d=92∨d=34 then some (d,2)else if d=120 then
     match t with
     | h::l::_=>match hexV h,hexV l with
      | some a,some b=>some (UInt8.ofNat (16*a+b),4)
      | _,_=>none
     | _=>none
    else none
  else none
theorem Zmk {l:List UInt8} {c:UInt8} {n:Nat} (h:Zme l=some (c,n)):1<=n/\n<=l.length:=by
 match l,h with
 | [],h=>simp[Zme]at h
 | [a],h=>
  simp only[Zme]at h;split at h
  ·simp at h;simp[<-h.2]
  ·split at h<;>cases h
 | [a,d],h=>
  simp only[Zme]at h;split at h
  ·simp at h;simp[<-h.2]
  ·split at h
   ·split at h
    ·simp at h;simp[<-h.2]
    ·split at h
     ·simp at h;simp[<-h.2]
     ·split at h
      ·simp at h;simp[<-h.2]
      ·split at h<;>cases h
   ·cases h
 | [a,d,x],h=>
  simp only[Zme]at h;split at h
  ·simp at h;simp[<-h.2]
  ·split at h
   ·split at h
    ·simp at h;simp[<-h.2]
    ·split at h
     ·simp at h;simp[<-h.2]
     ·split at h
      ·simp at h;simp[<-h.2]
      ·split at h<;>cases h
   ·cases h
 | a::d::x::y::t,h=>
  simp only[Zme]at h;split at h
  ·simp at h;simp[<-h.2]
  ·split at h
   ·split at h
    ·simp at h;simp[<-h.2]
    ·split at h
     ·simp at h;simp[<-h.2]
     ·split at h
      ·simp at h;simp[<-h.2]
      ·split at h
       ·split at h
        ·simp at h;simp[<-h.2]
        ·cases h
       ·cases h
   ·cases h
def strF:Nat->List UInt8->Option (List UInt8×Nat)
 | 0,_=>none
 | f+1,l=>match l with
  | []=>none
  | c::r=>if c=34 then some ([],1)else match Zme (c::r)with
   | none=>none
   | some (d,n)=>(strF f ((c::r).drop n)).map λx=>(d::x.1,n+x.2)
def strS (l:List UInt8):Option (List UInt8×Nat):=strF (l.length+1) l
theorem Zbph (f:Nat) (c:UInt8) (r:List UInt8):strF (f+1) (c::r)=if c=34 then some ([],1)else match Zme (c::r)with
 | none=>none
 | some (d,n)=>(strF f ((c::r).drop n)).map λx=>(d::x.1,n+x.2):=rfl
theorem Zbpi:∀(f:Nat) (l:List UInt8),l.length<f->∀f',l.length<f'->strF f l=strF f' l
 | 0,l,h,_,_=>absurd h (by omega)
 | f+1,l,h,0,h'=>absurd h' (by omega)
 | f+1,[],_,f'+1,_=>rfl
 | f+1,c::r,h,f'+1,h'=>by
  rw[Zbph,Zbph]
  by_cases hq:c=34
  ·simp[hq]
  ·rw[if_neg hq,if_neg hq]
   cases he:Zme (c::r)with
   | none=>rfl
   | some x=>
    obtain⟨d,n⟩:=x;have hp:=Zmk he;simp only;rw[Zbpi f _ (by rw[List.length_drop];omega) f' (by rw[List.length_drop];omega)]
theorem Zbpt:strS []=none:=rfl
theorem Zbpr (r:List UInt8):strS (34::r)=some ([],1):=by unfold strS;rw[Zbph,if_pos rfl]
theorem Zbpq {c:UInt8} {r:List UInt8} (h:c≠34) (he:Zme (c::r)=none):strS (c::r)=none:=by
 unfold strS;rw[Zbph,if_neg h,he]
theorem Zbps {c d:UInt8} {r:List UInt8} {n:Nat} (h:c≠34) (he:Zme (c::r)=some (d,n)):strS (c::r)=(strS ((c::r).drop n)).map λx=>(d::x.1,n+x.2):=by
 have hp:=Zmk he;unfold strS;rw[Zbph,if_neg h,he];simp only;rw[Zbpi _ _ (by rw[List.length_drop];simp only[List.length_cons]at hp⊢;omega) (((c::r).drop n).length+1) (by omega)]
def Zbtj:List UInt8->Option (Int×List UInt8×Nat)
 | []=>none
 | c::r=>if c=34 then(strS r).map λx=>(2,x.1,x.2+1)
  else if Zzp c then some (1,(c::r).takeWhile Zzp,((c::r).takeWhile Zzp).length)
  else if Zbfo c then some (3,[c],1)else none
theorem Zbpj:∀(f:Nat) {l:List UInt8} {x:List UInt8×Nat},strF f l=some x->1<=x.2/\x.2<=l.length
 | 0,_,_,h=>by simp[strF]at h
 | f+1,[],_,h=>by simp[strF]at h
 | f+1,c::r,x,h=>by
  rw[Zbph]at h;split at h
  ·injection h with h;subst h;simp
  ·cases he:Zme (c::r)with
   | none=>rw[he]at h;cases h
   | some y=>
    obtain⟨d,n⟩:=y;have hp:=Zmk he;rw[he]at h;simp only[Option.map_eq_some_iff]at h;obtain⟨z,hz,rfl⟩:=h;have:=Zbpj f hz;rw[List.length_drop]at this;simp only;omega
theorem Zbtk (c:UInt8) (r:List UInt8):Zbtj (c::r)=if c=34 then(strS r).map λx=>(2,x.1,x.2+1)
 else if Zzp c then some (1,(c::r).takeWhile Zzp,((c::r).takeWhile Zzp).length)
 else if Zbfo c then some (3,[c],1)else none:=rfl
theorem Zbto {l:List UInt8} {k:Int} {t:List UInt8} {n:Nat} (h:Zbtj l=some (k,t,n)):1<=n/\n<=l.length:=by
 cases l with
 | nil=>simp[Zbtj]at h
 | cons c r=>
  rw[Zbtk]at h;split at h
  ·obtain⟨x,hx,h⟩:=Option.map_eq_some_iff.1 h
   injection h with _ h;injection h with _ h
   have:=Zbpj _ hx;simp only[List.length_cons];omega
  ·split at h
   ·rename_i hn
    injection h with h;injection h with _ h;injection h with _ h
    subst h;refine⟨?_,(List.takeWhile_sublist _).length_le⟩;rw[List.takeWhile_cons,if_pos hn];simp
   ·split at h
    ·injection h with h;injection h with _ h;injection h with _ h
     subst h;simp
    ·cases h
def allF:Nat->Nat->List UInt8->Except Nat (List (Int×Nat×List UInt8))
 | 0,at',_=> .error at'
 | f+1,at',l=>
  if l.drop (Zbld false l) = []then .ok [(4,at'+Zbld false l,[])]else
   match Zbtj (l.drop (Zbld false l))with
   | none=> .error (at'+Zbld false l)
   | some (k,t,n)=>match allF f (at'+Zbld false l+n) ((l.drop (Zbld false l)).drop n)with
    | .error e=> .error e
    | .ok ws=> .ok ((k,at'+Zbld false l,t)::ws)
def allS (l:List UInt8):Except Nat (List (Int×Nat×List UInt8)):=allF (l.length+1) 0 l
def Zlu (n:Nat):UInt8:=if n<10 then UInt8.ofNat (48+n)else UInt8.ofNat (87+n)
def Zbfv (c:UInt8):List UInt8:=
 if Zbfb c then [c]else if c=34∨c=92 then [92,c]else if c=10 then [92,110]else if c=9 then [92,116]else [92,120,Zlu (c.toNat/16),Zlu (c.toNat % 16)]
def Zbfx (l:List UInt8):List UInt8:=34::(l.map Zbfv).flatten ++ [34]
open Go.RowKit
theorem Zbhw {a b:Bool} (h:a=b):Ending.returned (.bool a) = .returned (.bool b):=by rw[h]
theorem Zbhx {k:IntKind} {a b:Int} (h:a=b):Ending.returned (.int k a) = .returned (.int k b):=by rw[h]
theorem Ztm (c:UInt8) (w:World):
  Calls prog 165 #[.int .u8 c.toNat] w λe w'=>e = .returned (.bool (Zft c))/\w=w':=by
 have hb:c.toNat<256:=c.toNat_lt
 go_enter func165,ntmps165
 go_wp2
 all_goals go_ret
 all_goals exact⟨Zbhw (by rw[Bool.eq_iff_iff];simp[Zft];omega),rfl⟩
theorem Ztv (c:UInt8) (w:World):
  Calls prog 168 #[.int .u8 c.toNat] w λe w'=>e = .returned (.bool (Zzp c))/\w=w':=by
 have hb:c.toNat<256:=c.toNat_lt
 go_enter func168,ntmps168
 go_wp2
 all_goals go_ret
 all_goals exact⟨Zbhw (by rw[Bool.eq_iff_iff];simp[Zzp];omega),rfl⟩
theorem Ztw (c:UInt8) (w:World):
  Calls prog 184 #[.int .u8 c.toNat] w λe w'=>e = .returned (.bool (Zbfb c))/\w=w':=by
 have hb:c.toNat<256:=c.toNat_lt
 go_enter func184,ntmps184
 go_wp2
 all_goals go_ret
 all_goals exact⟨Zbhw (by rw[Bool.eq_iff_iff];simp[Zbfb];omega),rfl⟩
def runN (p:UInt8->Bool) (l:List UInt8):Nat:=(l.takeWhile p).length
theorem Zbkk {p:UInt8->Bool} {l:List UInt8} {k:Nat} (h:k<l.length) (hp:p l[k]=true):runN p (l.drop k)=runN p (l.drop (k+1))+1:=by
 unfold runN;rw[List.drop_eq_getElem_cons h,List.takeWhile_cons,if_pos hp,List.length_cons]
theorem Zbkl {p:UInt8->Bool} {l:List UInt8} {k:Nat} (h:k<l.length) (hp:p l[k]=false):runN p (l.drop k)=0:=by
 unfold runN;rw[List.drop_eq_getElem_cons h,List.takeWhile_cons,if_neg (by rw[hp];decide)];rfl
theorem Zbkj {p:UInt8->Bool} {l:List UInt8} {k:Nat} (h:l.length<=k):runN p (l.drop k)=0:=by
 unfold runN;rw[List.drop_eq_nil_of_le h];rfl
theorem Zbkh (p:UInt8->Bool) (l:List UInt8) (k:Nat) (h:k<=l.length):k+runN p (l.drop k)<=l.length:=by
 have:=(List.takeWhile_sublist (l:=l.drop k) p).length_le;rw[List.length_drop]at this;unfold runN;omega
set_option maxHeartbeats 1000000 in
theorem Zxe (s:ByteArray) (at':Nat) (w:World) (hs:s.size<=maxLen) (ha:at'<=s.size):
  Calls prog 166 #[.string s,.int .i64 at'] w λe w'=>e = .returned (.int .i64 (at'+runN (λc=>c != 10) (s.data.toList.drop at'):Nat))/\w=w':=by
 unfold maxLen at hs;obtain⟨L,hL⟩:∃L,s.data.toList=L:=⟨_,rfl⟩;have hsz:s.size=L.length:=by rw[<-hL];exact Lib.size_eq s
 rw[hL];obtain⟨E,hE⟩:∃E,at'+runN (λc=>c != 10) (L.drop at')=E:=⟨_,rfl⟩;rw[hE];have HL:=hid hL;have HSZ:=hid hsz;have HE:=hid hE;clear hL hsz hE
 go_enter func166,ntmps166
 go_wp2
 go_loop [1] (λi=>∃k:Nat,k<=s.size/\i = .int .i64 k/\k+runN (λc=>c != 10) (L.drop k)=E) (λi=>s.size-(intOf i).toNat)
 case atStart=>exact⟨at',ha,rfl,HE.out⟩
 case round=>
  obtain⟨k,hk,rfl,hr⟩:=hrel;have HR:=hid hr;clear hr
  by_cases hlt:k<s.size
  ·have hlt':k<L.length:=by rw[<-HSZ.out];exact hlt
   have hget:L[k]=s[k]:=by
    have:=HL.out;subst this;rfl
   by_cases h10:(s[k].toNat:Int)=10
   ·have h10':s[k].toNat=10:=by omega
    have hx:L[k]=10:=by rw[hget];exact UInt8.toNat_inj.1 (by rw[h10'];rfl)
    have hEk:k=E:=by rw[<-HR.out,Zbkl hlt' (by rw[hx];rfl)];rfl
    have HK:=hid hEk;clear hEk hx h10' hget;go_wp2;go_ret;exact⟨Zbhx (by rw[HK.out]),rfl⟩
   ·have hx:L[k]≠10:=by rw[hget];intro e;exact h10 (by rw[e];rfl)
    have hEk:k+1+runN (λc=>c != 10) (L.drop (k+1))=E:=by rw[<-HR.out,Zbkk hlt' (by simpa using hx)];omega
    have HK:=hid hEk;clear hEk hx hget;go_wp2
    go_round
    case rel=>exact⟨k+1,by omega,by go_num,HK.out⟩
    case measure=>simp[intOf];omega
  ·have hEk:k=E:=by rw[<-HR.out,Zbkj (by have:=HSZ.out;omega)];rfl
   have HK:=hid hEk;clear hEk;go_wp2;go_ret;exact⟨Zbhx (by rw[HK.out]),rfl⟩
set_option maxHeartbeats 1000000 in
theorem Zzq (s:ByteArray) (at':Nat) (w:World) (hs:s.size<=maxLen) (ha:at'<=s.size):
  Calls prog 169 #[.string s,.int .i64 at'] w λe w'=>e = .returned (.int .i64 (at'+runN Zzp (s.data.toList.drop at'):Nat))/\w=w':=by
 unfold maxLen at hs;obtain⟨L,hL⟩:∃L,s.data.toList=L:=⟨_,rfl⟩;have hsz:s.size=L.length:=by rw[<-hL];exact Lib.size_eq s
 rw[hL];obtain⟨E,hE⟩:∃E,at'+runN Zzp (L.drop at')=E:=⟨_,rfl⟩;rw[hE];have HL:=hid hL;have HSZ:=hid hsz;have HE:=hid hE;clear hL hsz hE
 go_enter func169,ntmps169
 go_wp2
 go_loop [1] (λi=>∃k:Nat,k<=s.size/\i = .int .i64 k/\k+runN Zzp (L.drop k)=E) (λi=>s.size-(intOf i).toNat)
 case atStart=>exact⟨at',ha,rfl,HE.out⟩
 case round=>
  obtain⟨k,hk,rfl,hr⟩:=hrel;have HR:=hid hr;clear hr
  by_cases hlt:k<s.size
  ·have hlt':k<L.length:=by rw[<-HSZ.out];exact hlt
   have hget:L[k]=s[k]:=by
    have:=HL.out;subst this;rfl
   obtain⟨q,hq⟩:∃q,Zzp s[k]=q:=⟨_,rfl⟩;have cN:=λw=>Ztv s[k] w
   simp only[hq]at cN;have CN:=hid cN;have hqL:Zzp L[k]=q:=by rw[hget];exact hq
   have HQL:=hid hqL;clear hq cN hqL hget
   cases q
   ·have hEk:k=E:=by rw[<-HR.out,Zbkl hlt' HQL.out];rfl
    have HK:=hid hEk;clear hEk
    go_wp2_with fail
    refine(CN.out _).mono ?_;rintro e w2 ⟨rfl,rfl⟩;go_wp2;go_ret;exact⟨Zbhx (by rw[HK.out]),rfl⟩
   ·have hEk:k+1+runN Zzp (L.drop (k+1))=E:=by rw[<-HR.out,Zbkk hlt' HQL.out];omega
    have HK:=hid hEk;clear hEk
    go_wp2_with fail
    refine(CN.out _).mono ?_;rintro e w2 ⟨rfl,rfl⟩;go_wp2
    go_round
    case rel=>exact⟨k+1,by omega,by go_num,HK.out⟩
    case measure=>simp[intOf];omega
  ·have hEk:k=E:=by rw[<-HR.out,Zbkj (by have:=HSZ.out;omega)];rfl
   have HK:=hid hEk;clear hEk;go_wp2;go_ret;exact⟨Zbhx (by rw[HK.out]),rfl⟩
theorem Zbli:∀(l:List UInt8),Zbld true l=runN (λc=>c != 10) l+Zbld false (l.drop (runN (λc=>c != 10) l))
 | []=>by simp[runN,Zblj]
 | c::r=>by
  by_cases h:c=10
  ·rw[Zblk r h,show runN (λc=>c != 10) (c::r)=0 from Zbkl (l:=c::r) (k:=0) (by simp) (by simp[h])]
   simp
  ·have e:runN (λc=>c != 10) (c::r)=runN (λc=>c != 10) r+1:=Zbkk (l:=c::r) (k:=0) (by simp) (by simpa using h)
   rw[Zblg r h,Zbli r,e,List.drop_succ_cons];omega
set_option maxHeartbeats 1000000 in
theorem Zbla (s:ByteArray) (at':Nat) (w:World) (hs:s.size<=maxLen) (ha:at'<=s.size):
  Calls prog 123 #[.string s,.int .i64 at'] w λe w'=>e = .returned (.int .i64 (at'+Zbld false (s.data.toList.drop at'):Nat))/\w=w':=by
 have hs':=hs;unfold maxLen at hs;obtain⟨L,hL⟩:∃L,s.data.toList=L:=⟨_,rfl⟩;have hsz:s.size=L.length:=by rw[<-hL];exact Lib.size_eq s
 rw[hL];obtain⟨E,hE⟩:∃E,at'+Zbld false (L.drop at')=E:=⟨_,rfl⟩;rw[hE];have CLE:Hid (∀k:Nat,k<=s.size->∀w,Calls prog 166 #[.string s,.int .i64 k] w λe w'=>e = .returned (.int .i64 (k+runN (λc=>c != 10) (L.drop k):Nat))/\w=w'):=by
  show ∀k:Nat,_;intro k hk w;have:=Zxe s k w hs' hk
  rwa [hL]at this
 have HL:=hid hL;have HSZ:=hid hsz;have HE:=hid hE;clear hL hsz hE hs'
 go_enter func123,ntmps123
 go_wp2
 go_loop [1] (λi=>∃k:Nat,k<=s.size/\i = .int .i64 k/\k+Zbld false (L.drop k)=E) (λi=>s.size-(intOf i).toNat)
 case atStart=>exact⟨at',ha,rfl,HE.out⟩
 case round=>
  obtain⟨k,hk,rfl,hr⟩:=hrel;have HR:=hid hr;clear hr
  by_cases hlt:k<s.size
  ·have hlt':k<L.length:=by rw[<-HSZ.out];exact hlt
   have hget:L[k]=s[k]:=by
    have:=HL.out;subst this;rfl
   have HDR:=hid (List.drop_eq_getElem_cons hlt');obtain⟨q,hq⟩:∃q,Zft s[k]=q:=⟨_,rfl⟩;have cN:=λw=>Ztm s[k] w
   simp only[hq]at cN;have CN:=hid cN;have hqL:Zft L[k]=q:=by rw[hget];exact hq
   have HQL:=hid hqL;have HGET:=hid hget;clear hq cN hqL hget
   cases q
   ·by_cases h35:(s[k].toNat:Int)=35
    ·have h35':s[k].toNat=35:=by omega
     have hx:L[k]=35:=by rw[HGET.out];exact UInt8.toNat_inj.1 (by rw[h35'];rfl)
     have hrun:runN (λc=>c != 10) (L.drop k)=runN (λc=>c != 10) (L.drop (k+1))+1:=Zbkk hlt' (by rw[hx];rfl);have hle:=Zbkh (λc=>c != 10) L k (by omega);have hEk:(k+runN (λc=>c != 10) (L.drop k))+Zbld false (L.drop (k+runN (λc=>c != 10) (L.drop k)))=E:=by
      rw[<-HR.out,HDR.out,Zbll _ hx,Zbli,<-HDR.out,hrun,List.drop_drop];rw[show k+(runN (λc=>c != 10) (L.drop (k+1))+1)=k+1+runN (λc=>c != 10) (L.drop (k+1)) by omega];omega
     have hgt:k<k+runN (λc=>c != 10) (L.drop k):=by omega
     have cE:=CLE.out k (by omega);obtain⟨m,hm⟩:∃m,k+runN (λc=>c != 10) (L.drop k)=m:=⟨_,rfl⟩;rw[hm]at hEk hgt hle;simp only[hm]at cE;have HK:=hid hEk;have CE:=hid cE;have hml:m<=s.size:=by have:=HSZ.out;omega
     have H35:=hid (show((s[k].toNat:Int)==35)=true by simpa using h35);clear hEk hx h35' h35 hrun hle hm cE
     go_wp2_with fail
     refine(CN.out _).mono ?_;rintro e w2 ⟨rfl,rfl⟩;have h35b:=H35.out
     go_wp2_with fail
     refine(CE.out _).mono ?_;rintro e w2 ⟨rfl,rfl⟩;go_wp2
     go_round
     case rel=>exact⟨m,hml,rfl,HK.out⟩
     case measure=>simp[intOf];omega
    ·have hx:L[k]≠35:=by rw[HGET.out];intro e;exact h35 (by rw[e];rfl)
     have hEk:k=E:=by rw[<-HR.out,HDR.out,Zblm _ HQL.out hx];rfl
     have HK:=hid hEk;have H35:=hid (show((s[k].toNat:Int)==35)=false by simpa using h35);clear hEk hx h35
     go_wp2_with fail
     refine(CN.out _).mono ?_;rintro e w2 ⟨rfl,rfl⟩;have h35b:=H35.out;go_wp2;go_ret;exact⟨Zbhx (by rw[HK.out]),rfl⟩
   ·have hEk:k+1+Zbld false (L.drop (k+1))=E:=by rw[<-HR.out,HDR.out,Zble _ HQL.out];omega
    have HK:=hid hEk;clear hEk
    go_wp2_with fail
    refine(CN.out _).mono ?_;rintro e w2 ⟨rfl,rfl⟩;go_wp2
    go_round
    case rel=>exact⟨k+1,by omega,by go_num,HK.out⟩
    case measure=>simp[intOf];omega
  ·have hEk:k=E:=by rw[<-HR.out,List.drop_eq_nil_of_le (by have:=HSZ.out;omega),Zblj];rfl
   have HK:=hid hEk;clear hEk;go_wp2;go_ret;exact⟨Zbhx (by rw[HK.out]),rfl⟩
open Go.Shelf
theorem Zsf:∀(l:List UInt8) (c:UInt8),(0<=Lib.indexByte l c↔c∈l)
 | [],c=>by simp[Lib.indexByte]
 | b::l,c=>by
  have ih:=Zsf l c;have hg:=Lib.indexByte_ge l c;unfold Lib.indexByte
  by_cases h:b=c
  ·simp[h]
  ·have h':¬c=b:=λe=>h e.symm
   have hb:(b==c)=false:=by simpa using h
   rw[hb];simp only[Bool.false_eq_true,if_false,List.mem_cons,h',false_or]
   by_cases h1:Lib.indexByte l c = -1
   ·rw[h1]at ih⊢
    simp at ih⊢;exact ih
   ·rw[if_neg (by simpa using h1),<-ih]
    omega
theorem Ztx (c:UInt8) (w:World):
  Calls prog 170 #[.int .u8 c.toNat] w λe w'=>e = .returned (.bool (Zbfo c))/\w=w':=by
 go_enter func170,ntmps170
 go_wp2_with fail
 refine(Any.strings_IndexByte lLays_n137 _ _ _).mono ?_;rintro e w2 ⟨rfl,rfl⟩;go_wp2
 all_goals go_ret
 exact⟨Zbhw (by rw[Bool.eq_iff_iff,decide_eq_true_eq,Zsf];simp[Zbfo,Zbfp]),rfl⟩
def Zlt:List UInt8:=[48,49,50,51,52,53,54,55,56,57,97,98,99,100,101,102]
theorem Zrz:∀n:Fin 256,Lib.indexByte Zlt (UInt8.ofNat n.val)=((hexV (UInt8.ofNat n.val)).map λ(k:Nat)=>(k:Int)).getD (-1):=by decide +kernel
theorem Zsa (c:UInt8):Lib.indexByte Zlt c=((hexV c).map λ(k:Nat)=>(k:Int)).getD (-1):=by
 have:=Zrz ⟨c.toNat,c.toNat_lt⟩;simpa using this
theorem Zsb {c:UInt8} {n:Nat} (h:hexV c=some n):n<16:=by
 unfold hexV at h;split at h
 ·injection h with h;omega
 ·split at h
  ·injection h with h;omega
  ·cases h
theorem Zsc {c:UInt8} {x:Int} (h:x=((hexV c).map λ(k:Nat)=>(k:Int)).getD (-1)) (hx:x<0):hexV c=none:=by
 cases e:hexV c with
 | none=>rfl
 | some n=>rw[e]at h;simp at h;omega
theorem Zsd {c:UInt8} {x:Int} (h:x=((hexV c).map λ(k:Nat)=>(k:Int)).getD (-1)) (hx:¬x<0):∃n:Nat,hexV c=some n/\x=n/\n<16:=by
 cases e:hexV c with
 | none=>rw[e]at h;simp at h;omega
 | some n=>rw[e]at h;simp at h;exact⟨n,rfl,h,Zsb e⟩
theorem Zse {a b:Nat} (ha:a<16) (hb:b<16):wrap64 (wrap64 (16*(a:Int))+(b:Int)) % 256=((UInt8.ofNat (16*a+b)).toNat:Int):=by
 have h1:wrap64 (16*(a:Int))=16*(a:Int):=by unfold wrap64;omega
 have h2:wrap64 (16*(a:Int)+(b:Int))=16*(a:Int)+(b:Int):=by unfold wrap64;omega
 rw[h1,h2,UInt8.toNat_ofNat'];omega
def hexS (s:ByteArray):UInt8×Bool:=
 match s.data.toList with
 | h::l::_=>match hexV h,hexV l with
  | some a,some b=>(UInt8.ofNat (16*a+b),true)
  | _,_=>(0,false)
 | _=>(0,false)
theorem Zrx {s:ByteArray} (h:s.size<2):hexS s=(0,false):=by
 rw[Lib.size_eq]at h;unfold hexS;split
 ·rename_i e;rw[e]at h;simp at h;omega
 ·rfl
theorem Zry {s:ByteArray} (h:2<=s.size):hexS s=match hexV s[0],hexV s[1]with
  | some a,some b=>(UInt8.ofNat (16*a+b),true)
  | _,_=>(0,false):=by
 obtain⟨⟨l⟩⟩:=s
 match l,h with
 | a::b::r,_=>rfl
set_option maxHeartbeats 1000000 in
theorem Zru (s:ByteArray) (w:World) (hs:s.size<=maxLen):
  Calls prog 265 #[.string s] w λe w'=>e = .returned (.tuple #[.int .u8 (hexS s).1.toNat,.bool (hexS s).2])/\w=w':=by
 unfold maxLen at hs
 by_cases h2:s.size<2
 ·have h2':(s.size:Int)<2:=by omega
  go_enter func265,ntmps265
  go_wp2
  all_goals go_ret2
  all_goals exact⟨by rw[Zrx h2];rfl,rfl⟩
 ·have h2':¬(s.size:Int)<2:=by omega
  have h0:0<s.size:=by omega
  have h1:1<s.size:=by omega
  have HX:=hid (Zry (s:=s) (by omega));obtain⟨c0,hc0⟩:∃c,s[0]=c:=⟨_,rfl⟩;obtain⟨c1,hc1⟩:∃c,s[1]=c:=⟨_,rfl⟩;have HC0:=hid hc0;have HC1:=hid hc1;obtain⟨x0,hx0⟩:∃x,Lib.indexByte Zlt c0=x:=⟨_,rfl⟩;obtain⟨x1,hx1⟩:∃x,Lib.indexByte Zlt c1=x:=⟨_,rfl⟩;have g0:=Lib.indexByte_ge Zlt c0;have g1:=Lib.indexByte_ge Zlt c1;have HE0:=hid (hx0.symm.trans (Zsa c0));have HE1:=hid (hx1.symm.trans (Zsa c1));rw[hx0]at g0;rw[hx1]at g1;unfold Zlt at hx0 hx1;have HG0:=hid g0;have HG1:=hid g1;clear g0 g1
  go_enter func265,ntmps265
  go_wp2_with fail
  refine(Any.strings_IndexByte lLays_n137 _ _ _).mono ?_;rintro e w2 ⟨rfl,rfl⟩
  go_wp2_with fail
  refine(Any.strings_IndexByte lLays_n137 _ _ _).mono ?_;rintro e w2 ⟨rfl,rfl⟩;have hcc0:=HC0.out;have hcc1:=HC1.out
  by_cases hn0:x0<0
  ·go_wp2
   all_goals go_ret2
   all_goals exact⟨by rw[HX.out,HC0.out,Zsc HE0.out hn0];rfl,rfl⟩
  ·by_cases hn1:x1<0
   ·go_wp2
    all_goals go_ret2
    all_goals exact⟨by rw[HX.out,HC0.out,HC1.out,Zsc HE1.out hn1];(cases hexV c0<;>rfl),rfl⟩
   ·go_wp2
    all_goals go_ret2
    all_goals obtain⟨n0,e0,q0,l0⟩:=Zsd HE0.out (by omega)
    all_goals obtain⟨n1,e1,q1,l1⟩:=Zsd HE1.out (by omega)
    all_goals subst q0 q1
    all_goals exact⟨by rw[HX.out,HC0.out,HC1.out,e0,e1];simp only[<-Zse l0 l1];rfl,rfl⟩
def Zao (s:ByteArray) (e:Ending):Prop:=
 match Zme s.data.toList with
 | some (c,n)=>e = .returned (.tuple #[.int .u8 c.toNat,.int .i64 n,.bool true])
 | none=>∃n:Int,e = .returned (.tuple #[.int .u8 0,.int .i64 n,.bool false])
theorem Zmc {s:ByteArray} {e:Ending} (h:Zme s.data.toList=none) (n:Int) (he:e = .returned (.tuple #[.int .u8 0,.int .i64 n,.bool false])):Zao s e:=by
 unfold Zao;rw[h];exact⟨n,he⟩
theorem Zmd {s:ByteArray} {e:Ending} {c:UInt8} {n:Nat} (h:Zme s.data.toList=some (c,n)) (he:e = .returned (.tuple #[.int .u8 c.toNat,.int .i64 n,.bool true])):Zao s e:=by
 unfold Zao;rw[h];exact he
theorem Zmi {c:UInt8} (h:Zbfb c=true) (r:List UInt8):Zme (c::r)=some (c,1):=by simp[Zme,h]
theorem Zmj {c:UInt8} (h:Zbfb c=false) (h':c≠92) (r:List UInt8):Zme (c::r)=none:=by simp[Zme,h,h']
theorem Zmf {c:UInt8} (h:Zbfb c=false):Zme [c]=none:=by
 simp only[Zme,h,Bool.false_eq_true,if_false];split<;>rfl
theorem Zmh {s:ByteArray} (h:2<=s.size) (h0:s[0]=92) (h1:s[1]=120):Zme s.data.toList=if (hexS (s.extract 2 s.size)).2 then some ((hexS (s.extract 2 s.size)).1,4)else none:=by
 obtain⟨⟨l⟩⟩:=s
 match l,h with
 | a::b::r,_=>
  obtain rfl:a=92:=h0;obtain rfl:b=120:=h1;have hx:(ByteArray.extract ⟨⟨92::120::r⟩⟩ 2 (ByteArray.size ⟨⟨92::120::r⟩⟩)).data.toList=r:=by
   rw[ByteArray.data_extract];simp[ByteArray.size,Array.size]
  unfold hexS;rw[hx]
  match r with
  | []=>rfl
  | [x]=>rfl
  | x::y::t=>
   rcases h1:hexV x with _|a<;>rcases h2:hexV y with _|b<;>simp[Zme,h1,h2,show Zbfb 92=false by decide]
theorem Zrw {s:ByteArray} (h:(hexS s).2=false):(hexS s).1=0:=by
 unfold hexS at h⊢;generalize s.data.toList=l at h⊢
 rcases l with _|⟨x,_|⟨y,t⟩⟩
 ·rfl
 ·rfl
 ·rcases h1:hexV x with _|a<;>rcases h2:hexV y with _|b<;>simp[h1,h2]at h⊢
theorem Zml {s:ByteArray} {c:UInt8} {d:UInt8} (h:2<=s.size) (h0:s[0]=92) (h1:s[1]=c) (hc:(if c=110 then some ((10:UInt8),2)else if c=116 then some (9,2)else if c=92∨c=34 then some (c,2)else none)=some (d,2)):Zme s.data.toList=some (d,2):=by
 obtain⟨⟨l⟩⟩:=s
 match l,h with
 | a::b::r,_=>
  obtain rfl:a=92:=h0;obtain rfl:b=c:=h1;simp only[Zme,show Zbfb 92=false by decide,Bool.false_eq_true,if_false,if_true];split at hc
  ·rename_i e;rw[if_pos e];exact hc
  ·rename_i e;rw[if_neg e]
   split at hc
   ·rename_i e;rw[if_pos e];exact hc
   ·rename_i e;rw[if_neg e]
    split at hc
    ·rename_i e;rw[if_pos e];exact hc
    ·cases hc
theorem Zmg {s:ByteArray} (h:2<=s.size) (h0:s[0]=92) (h1:s[1]≠110) (h2:s[1]≠116) (h3:s[1]≠92) (h4:s[1]≠34) (h5:s[1]≠120):Zme s.data.toList=none:=by
 obtain⟨⟨l⟩⟩:=s
 match l,h with
 | a::b::r,_=>
  obtain rfl:a=92:=h0;have h1:b≠110:=h1;have h2:b≠116:=h2;have h3:b≠92:=h3;have h4:b≠34:=h4;have h5:b≠120:=h5;simp[Zme,show Zbfb 92=false by decide,h1,h2,h3,h4,h5]
theorem Zbrt {c:UInt8} {n:Nat} (hn:n<256) (h:(c.toNat:Int)=(n:Int)):c=UInt8.ofNat n:=by
 apply UInt8.toNat_inj.1;rw[UInt8.toNat_ofNat'];omega
theorem Zgw {s:ByteArray} (h:0<s.size):∃r,s.data.toList=s[0]::r:=by
 obtain⟨⟨l⟩⟩:=s
 match l,h with
 | a::r,_=>exact⟨r,rfl⟩
theorem Zoy {s:ByteArray} (h:s.size=1):s.data.toList = [s[0]]:=by
 obtain⟨⟨l⟩⟩:=s
 match l,h with
 | [a],_=>rfl
set_option maxHeartbeats 1000000 in
theorem Zmm (s:ByteArray) (w:World) (hs:s.size<=maxLen) (hp:0<s.size):
  Calls prog 231 #[.string s] w λe w'=>Zao s e/\w=w':=by
 have hs':=hs;unfold maxLen at hs;obtain⟨r,hr⟩:=Zgw hp;have HR:=hid hr;clear hr;obtain⟨c,hc⟩:∃c,s[0]=c:=⟨_,rfl⟩;have HC:=hid hc;obtain⟨q,hq⟩:∃q,Zbfb c=q:=⟨_,rfl⟩;have HQ:=hid hq;have cP:=λw=>Ztw c w
 simp only[hq]at cP;have CP:=hid cP;clear hq cP
 go_enter func231,ntmps231
 go_wp2_with fail
 refine(CP.out _).mono ?_;rintro e w2 ⟨rfl,rfl⟩
 cases q
 ·by_cases h92:(c.toNat:Int)=92
  ·have H92:=hid h92
   have h92b:((c.toNat:Int)==92)=true:=by simpa using h92
   clear h92
   by_cases h2:(s.size:Int)<2
   ·go_wp2
    all_goals go_ret3
    all_goals exact⟨Zmc (by rw[Zoy (by omega),HC.out];exact Zmf HQ.out) 0 rfl,rfl⟩
   ·have h1:1<s.size:=by omega
    obtain⟨d,hd⟩:∃d,s[1]=d:=⟨_,rfl⟩;have HD:=hid hd;have HC92:=hid (HC.out.trans (Zbrt (n:=92) (by omega) H92.out))
    by_cases h110:(d.toNat:Int)=110
    ·go_wp2
     all_goals go_ret3
     all_goals exact⟨Zmd (c:=10) (n:=2) (Zml (by omega) HC92.out (HD.out.trans (Zbrt (n:=110) (by omega) h110)) rfl) rfl,rfl⟩
    ·by_cases h116:(d.toNat:Int)=116
     ·go_wp2
      all_goals go_ret3
      all_goals exact⟨Zmd (c:=9) (n:=2) (Zml (by omega) HC92.out (HD.out.trans (Zbrt (n:=116) (by omega) h116)) rfl) rfl,rfl⟩
     ·by_cases hd92:(d.toNat:Int)=92
      ·go_wp2
       all_goals go_ret3
       all_goals exact⟨Zmd (c:=92) (n:=2) (Zml (by omega) HC92.out (HD.out.trans (Zbrt (n:=92) (by omega) hd92)) rfl) (by first|rfl|(rw[Zbrt (n:=92) (by omega) hd92];rfl)),rfl⟩
      ·by_cases hd34:(d.toNat:Int)=34
       ·go_wp2
        all_goals go_ret3
        all_goals exact⟨Zmd (c:=34) (n:=2) (Zml (by omega) HC92.out (HD.out.trans (Zbrt (n:=34) (by omega) hd34)) rfl) (by first|rfl|(rw[Zbrt (n:=34) (by omega) hd34];rfl)),rfl⟩
       ·by_cases h120:(d.toNat:Int)=120
        ·have HX:=hid (Zmh (by omega) HC92.out (HD.out.trans (Zbrt (n:=120) (by omega) h120)))
         go_wp2_with fail
         refine(Zru _ _ ?_).mono ?_
         ·rw[ByteArray.size_extract];unfold maxLen;omega
         rintro e w3 ⟨rfl,rfl⟩;go_wp2
         all_goals go_ret3
         all_goals (
          refine⟨?_,rfl⟩;have hx:=HX.out
          cases hb:(hexS (s.extract 2 s.size)).2 with
          | true=>
           rw[hb,if_pos rfl]at hx;exact Zmd hx (by rw[<-hb];rfl)
          | false=>
           rw[hb,if_neg (by decide)]at hx;exact Zmc hx 4 (by rw[<-hb,show(0:Int)=((hexS (s.extract 2 s.size)).1.toNat:Int) by rw[Zrw hb];rfl];rfl))
        ·have n1:s[1]≠110:=λe=>h110 (by rw[<-HD.out,e];rfl)
         have n2:s[1]≠116:=λe=>h116 (by rw[<-HD.out,e];rfl)
         have n3:s[1]≠92:=λe=>hd92 (by rw[<-HD.out,e];rfl)
         have n4:s[1]≠34:=λe=>hd34 (by rw[<-HD.out,e];rfl)
         have n5:s[1]≠120:=λe=>h120 (by rw[<-HD.out,e];rfl)
         have HN:=hid (Zmg (by omega) HC92.out n1 n2 n3 n4 n5);clear n1 n2 n3 n4 n5;go_wp2
         all_goals go_ret3
         all_goals exact⟨Zmc HN.out 0 rfl,rfl⟩
  ·have h92b:((c.toNat:Int)==92)=false:=by simpa using h92
   have H92:=hid h92;clear h92;go_wp2
   all_goals go_ret3
   all_goals exact⟨Zmc (by rw[HR.out,HC.out];exact Zmj HQ.out (λe=>H92.out (by rw[e];rfl)) _) 0 rfl,rfl⟩
 ·go_wp2
  all_goals go_ret3
  all_goals exact⟨Zmd (n:=1) (by rw[HR.out,HC.out];exact Zmi HQ.out _) rfl,rfl⟩
theorem Zyc (B b:Nat) (l:List UInt8) (c:UInt8) (w:World) (h:Lib.IsBuilder 161 5 B b (Lib.byteCells l) w) (hlen:l.length+1<=140737488355328) (hBw:B<=w.heap.size):
  Calls prog 128 #[.pointer (some ⟨b,0,none⟩),.int .u8 c.toNat] w λe w'=>e = .returned .nilIface/\Lib.IsBuilder 161 5 B b (Lib.byteCells (l ++ [c])) w'/\Below B w w':=by
 refine(Any.Builder_WriteByte lLays_n167 lExtra B b (Lib.byteCells l) c.toNat w h (by simpa[Lib.byteCells]using hlen) hBw).mono ?_;rintro e w' ⟨rfl,h1,h2⟩;refine⟨rfl,.inr ?_,h2⟩;rw[show Lib.byteCells (l ++ [c])=Lib.byteCells l ++ [Value.int .u8 c.toNat]from by simp[Lib.byteCells]];exact h1
theorem Zyb (B b:Nat) (l:List UInt8) (w:World) (h:Lib.IsBuilder 161 5 B b (Lib.byteCells l) w) (hBw:B<=w.heap.size):
  Calls prog 131 #[.pointer (some ⟨b,0,none⟩)] w λe w'=>e = .returned (.string ⟨l.toArray⟩)/\Below B w w':=
 Any.Builder_String_any lLays_n169 lExtra B b l w h hBw
def StrE (L:List UInt8) (p:Nat) (e:Ending):Prop:=
 match strS (L.drop p)with
 | some (t,n)=>e = .returned (.tuple #[.string ⟨t.toArray⟩,.int .i64 ((p+n:Nat):Int),.bool true])
 | none=>e = .returned (.tuple #[.string ⟨#[]⟩,.int .i64 0,.bool false])
theorem Zbpf {L:List UInt8} {p:Nat} {e:Ending} (h:strS (L.drop p)=none) (he:e = .returned (.tuple #[.string ⟨#[]⟩,.int .i64 0,.bool false])):StrE L p e:=by
 unfold StrE;rw[h];exact he
theorem Zbpg {L:List UInt8} {p:Nat} {e:Ending} {t:List UInt8} {n:Nat} (h:strS (L.drop p)=some (t,n)) (he:e = .returned (.tuple #[.string ⟨t.toArray⟩,.int .i64 ((p+n:Nat):Int),.bool true])):StrE L p e:=by
 unfold StrE;rw[h];exact he
theorem Znc (s:ByteArray) (k:Nat):(s.extract k s.size).data.toList=s.data.toList.drop k:=by
 rw[ByteArray.data_extract,Array.toList_extract,List.extract_eq_take_drop,List.take_of_length_le];rw[List.length_drop,<-Lib.size_eq];omega
theorem Zbhs {a a':ByteArray} {b b':Int} {c:Bool} (h:a=a') (h':b=b'):Ending.returned (.tuple #[.string a,.int .i64 b,.bool c]) = .returned (.tuple #[.string a',.int .i64 b',.bool c]):=by rw[h,h']
set_option maxHeartbeats 2000000 in
theorem Zbpw (s:ByteArray) (at':Nat) (w:World) (hs:s.size<=140737488351232) (ha:at'<s.size):
  Calls prog 167 #[.string s,.int .i64 at'] w λe w'=>StrE s.data.toList (at'+1) e/\Below w.heap.size w w':=by
 obtain⟨L,hL⟩:∃L,s.data.toList=L:=⟨_,rfl⟩;have hsz:s.size=L.length:=by rw[<-hL];exact Lib.size_eq s
 rw[hL];obtain⟨p,hp⟩:∃p,at'+1=p:=⟨_,rfl⟩;have hpi:(at':Int)+1=(p:Int):=by omega
 have hpw:IntKind.i64.wrap ((at':Int)+1)=(p:Int):=by rw[hpi];exact IntWalk.i64_in _ (by omega)
 rw[hp];have hps:p<=s.size:=by omega
 have hB0:=Lib.fresh_isBuilder 161 5 w;have HL:=hid hL;have HSZ:=hid hsz;clear hL hsz
 go_enter func167,ntmps167
 go_wp2
 go_loopw [1] (λi wr=>∃(k:Nat) (acc:List UInt8),p<=k/\k<=s.size/\i = .int .i64 k/\Lib.IsBuilder 161 5 w.heap.size w.heap.size (Lib.byteCells acc) wr/\Below w.heap.size w wr/\acc.length+p<=k/\(strS (L.drop k)).map (λx=>(acc++x.1,(k-p)+x.2))=strS (L.drop p))
  (λi _=>s.size-(intOf i).toNat)
 case atStart=>exact⟨p,[],Nat.le_refl _,hps,rfl,hB0,(Below.refl _ _).alloc (Nat.le_refl _) _,by simp,by simp⟩
 case round=>
  obtain⟨k,acc,hpk,hk,rfl,hbu,hnx,hacc,hR⟩:=hrel;have HR:=hid hR;have HBU:=hid hbu;have hszw:=hnx.size;clear hR hB0 hbu hpi hpw hp
  by_cases hlt:k<s.size
  ·have hlt':k<L.length:=by rw[<-HSZ.out];exact hlt
   have hget:L[k]=s[k]:=by
    have:=HL.out;subst this;rfl
   have HDR:=hid (List.drop_eq_getElem_cons hlt');have HGET:=hid hget;clear hget;have hne:¬((k:Int)=(s.size:Int)):=by omega
   by_cases h34:(s[k].toNat:Int)=34
   ·have hx:L[k]=34:=by rw[HGET.out];exact Zbrt (n:=34) (by omega) h34
    have hgood:strS (L.drop p)=some (acc,k-p+1):=by rw[<-HR.out,HDR.out,hx,Zbpr];simp
    have HGOOD:=hid hgood;have h34b:((s[k].toNat:Int) != 34)=false:=by simpa using h34
    clear hx hgood h34
    go_wp2_with fail
    refine(Zyb w.heap.size w.heap.size acc wr HBU.out hszw).mono ?_;rintro e w2 ⟨rfl,hb2⟩;go_wp2
    go_ret3
    exact⟨Zbpg HGOOD.out (Zbhs rfl (by omega)),hnx.trans hb2⟩
   ·have hx:L[k]≠34:=by rw[HGET.out];intro e;exact h34 (by rw[e];rfl)
    have HX:=hid hx;have h34b:((s[k].toNat:Int) != 34)=true:=by simpa using h34
    clear hx h34;have cE:=Zmm (s.extract k s.size) wr (by rw[ByteArray.size_extract];unfold maxLen;omega) (by rw[ByteArray.size_extract];omega);unfold Zao at cE;rw[Znc,HL.out]at cE
    cases he:Zme (L.drop k)with
    | none=>
     rw[he]at cE;simp only at cE;have hbad:strS (L.drop p)=none:=by rw[<-HR.out];rw[HDR.out]at he⊢;rw[Zbpq HX.out he];rfl
     have HBAD:=hid hbad;clear hbad he
     go_wp2_with fail
     refine cE.mono ?_;rintro e w2 ⟨⟨n,rfl⟩,rfl⟩;go_wp2
     go_ret3
     exact⟨Zbpf HBAD.out rfl,hnx⟩
    | some x=>
     obtain⟨c,n⟩:=x;rw[he]at cE;simp only at cE;have hpos:=Zmk he;rw[List.length_drop,<-HSZ.out]at hpos;have hR2:(strS (L.drop (k+n))).map (λx=>((acc ++ [c])++x.1,(k+n-p)+x.2))=strS (L.drop p):=by
      rw[<-HR.out];have hd:L.drop (k+n)=(L.drop k).drop n:=by rw[List.drop_drop]
      rw[hd];rw[HDR.out]at he⊢;rw[Zbps HX.out he,Option.map_map]
      congr 1
      funext x
      simp only[Function.comp,List.append_assoc,List.cons_append,List.nil_append,Prod.mk.injEq,true_and];omega
     have HR2:=hid hR2;clear hR2 he
     go_wp2_with fail
     refine cE.mono ?_;rintro e w2 ⟨rfl,rfl⟩
     go_wp2_with fail
     refine(Zyc w.heap.size w.heap.size acc c _ HBU.out (by omega) hszw).mono ?_;rintro e w3 ⟨rfl,h3,hb3⟩;have H3:=hid h3;have hnx3:=hnx.trans hb3;clear h3 hb3;go_wp2;go_roundw
     case rel=>exact⟨k+n,acc ++ [c],by omega,by omega,by go_num,H3.out,hnx3,by simp only[List.length_append,List.length_cons,List.length_nil];omega,HR2.out⟩
     case measure=>simp[intOf];omega
  ·have hke:k=s.size:=by omega
   have hbad:strS (L.drop p)=none:=by rw[<-HR.out,List.drop_eq_nil_of_le (by have:=HSZ.out;omega),Zbpt];rfl
   have HBAD:=hid hbad;clear hbad;go_wp2
   go_ret3
   exact⟨Zbpf HBAD.out rfl,hnx⟩
end Go.Proofs.YtcpjfpdecklkgaaGreatDoor
