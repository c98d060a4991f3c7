import Derived.Lib.Split
import Derived.Lib.Join
import Derived.WalkKit
import Derived.WalkSpells
import Derived.WalkLawsBesides
import Derived.Deep.DeepFit
import Derived.Deep.DeepMust
import Derived.Deep.QuietTactic
import Derived.BigQuiet
import Derived.Lib.Hide
import Derived.Test.YtcpjfpdecklkgaaGreatDoorProg
import Derived.Test.YtcpjfpdecklkgaaGreatDoorLays
import Derived.Room.Shelf.Join48
import Derived.WalkSmall
namespace Go.Proofs.YtcpjfpdecklkgaaGreatDoor
open Go.Lib (hid)
open Go.Proofs.Tryz
open Go.Lib
def cutAt (d:UInt8):List UInt8->List (List UInt8)
 | []=>[[]]
 | c::r=>if c=d then []::cutAt d r else
  match cutAt d r with
  | []=>[[c]]
  | p::ps=>(c::p)::ps
theorem Zlb (d:UInt8):∀s,cutAt d s≠[]
 | []=>by simp[cutAt]
 | c::r=>by
  unfold cutAt;split
  ·simp
  ·split<;>simp
theorem Zla (d:UInt8):∀s:List UInt8,d∉s->cutAt d s = [s]
 | [],_=>rfl
 | c::r,h=>by
  have h1:c≠d:=λe=>h (by simp[e])
  have h2:d∉r:=λe=>h (by simp[e])
  unfold cutAt;rw[if_neg h1,Zla d r h2]
theorem Zkx (d:UInt8):∀(a b:List UInt8),d∉a->cutAt d (a++d::b)=a::cutAt d b
 | [],b,_=>by simp[cutAt]
 | c::r,b,h=>by
  have h1:c≠d:=λe=>h (by simp[e])
  have h2:d∉r:=λe=>h (by simp[e])
  rw[List.cons_append,cutAt,if_neg h1,Zkx d r b h2]
theorem Zoz (d:UInt8):∀s:List UInt8,d∉s∨∃a b,s=a++d::b/\d∉a
 | []=> .inl (by simp)
 | c::r=>by
  by_cases hc:c=d
  ·exact .inr ⟨[],r,by simp[hc],by simp⟩
  ·rcases Zoz d r with h|⟨a,b,h,h'⟩
   ·exact .inl (by simp[h,Ne.symm hc])
   ·exact .inr ⟨c::a,b,by simp[h],by simp[h',Ne.symm hc]⟩
theorem Zbcc (s:List UInt8) (d:UInt8) (j:Nat):occAt s [d] j=decide (s[j]? =some d):=by
 unfold occAt;rw[Bool.eq_iff_iff,decide_eq_true_iff]
 cases h:s.drop j with
 | nil=>
  have:s[j]? =none:=by rw[List.getElem?_eq_none_iff];simpa using h
  simp[this]
 | cons x l=>
  have:s[j]? =some x:=by
   have:=congrArg List.head? h;simpa using this
  rw[this];simp[List.isPrefixOf];exact eq_comm
theorem Zsl {s:List UInt8} {d:UInt8} (h:d∉s):index s [d] = -1:=by
 refine index_none λj _=>?_
 rw[Zbcc,decide_eq_false_iff_not];intro e;exact h (List.mem_of_getElem? e)
theorem index_hit {a b:List UInt8} {d:UInt8} (h:d∉a):index (a++d::b) [d]=(a.length:Int):=by
 refine index_first (by simp) ?_ ?_
 ·rw[Zbcc];simp
 ·intro j hj
  rw[Zbcc,decide_eq_false_iff_not,List.getElem?_append_left hj];intro e;exact h (List.mem_of_getElem? e)
theorem Zmb (a b:List UInt8) (d:UInt8):(a++d::b).drop (a.length+1)=b:=by
 rw[<-List.drop_drop];simp
theorem Zbmz (d:UInt8):∀(n:Nat) (s:List UInt8),s.length<=n->splitK [d] 0 (count s [d]) s=cutAt d s
 | n,s,hn=>by
  rcases Zoz d s with h|⟨a,b,rfl,h⟩
  ·rw[count_miss (Zsl h),Zla d s h]
   rfl
  ·cases n with
   | zero=>simp at hn
   | succ n=>
    have hi:=index_hit (b:=b) h;rw[count_hit (by simp) hi,Zkx d a b h,Nat.add_comm,splitK,hi,if_neg (by simp)];have ih:=Zbmz d n b (by simp at hn;omega);simp only[Int.toNat_natCast,List.length_cons,List.length_nil,Nat.zero_add,Nat.add_zero,Zmb];rw[ih,List.take_left'];rfl
theorem Zku (d:UInt8):∀(n:Nat) (s:List UInt8),s.length<=n->count s [d]+1=(cutAt d s).length
 | n,s,hn=>by
  rcases Zoz d s with h|⟨a,b,rfl,h⟩
  ·rw[count_miss (Zsl h),Zla d s h]
   rfl
  ·cases n with
   | zero=>simp at hn
   | succ n=>
    have hi:=index_hit (b:=b) h;rw[count_hit (by simp) hi,Zkx d a b h];have ih:=Zku d n b (by simp at hn;omega);simp only[List.length_cons,List.length_nil,Nat.zero_add,Zmb];omega
theorem Zbmw (d:UInt8) (s:ByteArray):(splitB ⟨#[d]⟩ 0 (countB s ⟨#[d]⟩) s).map (·.data.toList)=cutAt d s.data.toList:=by
 rw[splitB_data];exact Zbmz d _ _ (Nat.le_refl _)
theorem Zbmy (d:UInt8) (s:ByteArray):countB s ⟨#[d]⟩+1=(cutAt d s.data.toList).length:=Zku d _ _ (Nat.le_refl _)
theorem Zkz (d:UInt8):∀s:List UInt8,(cutAt d s).length<=s.length+1
 | []=>by simp[cutAt]
 | c::r=>by
  have ih:=Zkz d r;unfold cutAt;split
  ·simp;omega
  ·split
   ·simp
   ·rename_i p ps h;rw[h]at ih;simp at ih⊢;omega
theorem Zlc (d:UInt8):∀s:List UInt8,((cutAt d s).map List.length).sum+(cutAt d s).length=s.length+1
 | []=>by simp[cutAt]
 | c::r=>by
  have ih:=Zlc d r;unfold cutAt;split
  ·simp;omega
  ·split
   ·rename_i h;exact absurd h (Zlb d r)
   ·rename_i p ps h;rw[h]at ih;simp at ih⊢;omega
theorem Zky (d:UInt8):∀s:List UInt8,∀p∈cutAt d s,p.length<=s.length
 | []=>by simp[cutAt]
 | c::r=>by
  have ih:=Zky d r;unfold cutAt;split
  ·intro p hp
   rcases List.mem_cons.1 hp with rfl|hp
   ·simp
   ·have:=ih p hp;simp;omega
  ·split
   ·intro p hp;simp at hp;simp[hp]
   ·rename_i q ps h
    intro p hp
    rcases List.mem_cons.1 hp with rfl|hp
    ·have:=ih q (by simp[h]);simp;omega
    ·have:=ih p (by simp[h,hp]);simp;omega
theorem Zkw (d:UInt8):∀(a b:List UInt8),cutAt d (a++d::b)=cutAt d a++cutAt d b
 | [],b=>by simp[cutAt]
 | c::r,b=>by
  have ih:=Zkw d r b;rw[List.cons_append]
  by_cases h:c=d
  ·simp[cutAt,h,ih]
  ·obtain⟨p,ps,hp⟩:∃p ps,cutAt d r=p::ps:=by
    cases h:cutAt d r with
    | nil=>exact absurd h (Zlb d r)
    | cons p ps=>exact⟨p,ps,rfl⟩
   rw[cutAt,if_neg h,ih,hp];simp[cutAt,h,hp]
theorem join_length (d:UInt8):∀(ps:List (List UInt8)),ps≠[]->(join ps [d]).length+1=(ps.map List.length).sum+ps.length
 | [],h=>absurd rfl h
 | [p],_=>by rw[join_one];simp
 | p::q::r,_=>by
  have ih:=join_length d (q::r) (by simp);have e:join (p::q::r) [d]=p++d::join (q::r) [d]:=by
   rw[join_cons,join_cons];simp[joinTail]
  rw[e];simp only[List.length_append,List.length_cons,List.map_cons,List.sum_cons]at ih⊢;omega
end Go.Proofs.YtcpjfpdecklkgaaGreatDoor
namespace Go.Proofs.YtcpjfpdecklkgaaGreatDoor
open Go.Lib (hid)
open Go.Proofs.Tryz
open Go.RowKit
theorem Zbhr {a b:ByteArray} (h:a=b):Ending.returned (.string a) = .returned (.string b):=by rw[h]
theorem Zbho {a b:Bool} (h:a=b):Ending.returned (.bool a) = .returned (.bool b):=by rw[h]
theorem Zbhp {k:IntKind} {a b:Int} (h:a=b):Ending.returned (.int k a) = .returned (.int k b):=by rw[h]
def Zbce (c:UInt8):Bool:=decide ((97<=c.toNat/\c.toNat<=122)∨(65<=c.toNat/\c.toNat<=90)∨(48<=c.toNat/\c.toNat<=57)∨c.toNat=46∨c.toNat=95∨c.toNat=45)
theorem Zyu (c:UInt8) (w:World):
  Calls prog 162 #[.int .u8 c.toNat] w λe w'=>e = .returned (.bool (Zbce c))/\w=w':=by
 have hb:c.toNat<256:=c.toNat_lt
 go_enter func162,ntmps162
 go_wp2
 all_goals go_ret
 all_goals exact⟨Zbho (by rw[Bool.eq_iff_iff];simp[Zbce];omega),rfl⟩
def isCl (l:List UInt8):Bool:=l == [114,117,108,101]||l == [105,110]||l == [111,117,116]||l == [97,102,116,101,114]
theorem Ztn (s:ByteArray) (w:World):
  Calls prog 113 #[.string s] w λe w'=>e = .returned (.bool (isCl s.data.toList))/\w=w':=by
 go_enter func113,ntmps113
 go_wp2
 all_goals go_ret
 all_goals exact⟨Zbho (by simp_all[isCl,Lib.toList_data]),rfl⟩
def Zbch (l:List UInt8):Bool:=l != []&&l != [46]&&l != [46,46]&&l.all Zbce
theorem Zbra (l:List UInt8) (p:UInt8->Bool) (k:Nat) (h:k<l.length):(l.take (k+1)).all p=((l.take k).all p&&p l[k]):=by
 rw[List.take_succ_eq_append_getElem h,List.all_append];simp
theorem Zde (l:List UInt8) (p:UInt8->Bool) (k:Nat) (h:k<l.length) (hp:p l[k]=false):l.all p=false:=by
 rw[List.all_eq_false];exact⟨l[k],List.getElem_mem h,by simp[hp]⟩
theorem Zbci {l:List UInt8} (h:¬(l = []∨l = [46]∨l = [46,46])):Zbch l=l.all Zbce:=by
 simp only[not_or]at h;simp[Zbch,h]
set_option maxHeartbeats 1000000 in
theorem Zyv (s:ByteArray) (w:World) (hs:s.size<=maxLen):
  Calls prog 115 #[.string s] w λe w'=>e = .returned (.bool (Zbch s.data.toList))/\w=w':=by
 unfold maxLen at hs;obtain⟨r,hr⟩:∃r,r=Zbch s.data.toList:=⟨_,rfl⟩;rw[<-hr]
 by_cases h1:s.toList = []∨s.toList = [46]∨s.toList = [46,46]
 ·have hf:r=false:=by
   rw[hr,<-Lib.toList_data]
   rcases h1 with h|h|h<;>simp[Zbch,h]
  subst hf;clear hr
  go_enter func115,ntmps115
  by_cases ha:s.toList = []
  ·go_wp2
   go_ret;exact⟨rfl,rfl⟩
  ·by_cases hb:s.toList = [46]
   ·go_wp2
    go_ret;exact⟨rfl,rfl⟩
   ·have hc:s.toList = [46,46]:=by rcases h1 with h|h|h<;>first|exact absurd h ha|exact absurd h hb|exact h
    clear h1;go_wp2;go_ret;exact⟨rfl,rfl⟩
 ·have ha:s.toList.isEmpty=false:=by rw[Bool.eq_false_iff];intro h;exact h1 (.inl (by simpa using h))
  have hb:(s.toList == [46])=false:=by rw[Bool.eq_false_iff];intro h;exact h1 (.inr (.inl (by simpa using h)))
  have hc:(s.toList == [46,46])=false:=by rw[Bool.eq_false_iff];intro h;exact h1 (.inr (.inr (by simpa using h)))
  have HR:=hid (hr.trans (Zbci (l:=s.data.toList) (by rw[<-Lib.toList_data];exact h1)));clear hr h1
  go_enter func115,ntmps115
  go_wp2
  go_loop [16] (λi=>∃k:Nat,k<=s.size/\i = .int .i64 k/\(s.data.toList.take k).all Zbce=true) (λi=>s.size-(intOf i).toNat)
  case atStart=>exact⟨0,by omega,rfl,by simp⟩
  case round=>
   obtain⟨k,hk,rfl,hr⟩:=hrel;have HK:=hid hr;clear hr
   by_cases hlt:k<s.size
   ·have hlt':k<s.data.toList.length:=by rw[<-Lib.size_eq];exact hlt
    have hsucc:=hid (Zbra s.data.toList Zbce k hlt');have hfalse:=hid (Zde s.data.toList Zbce k hlt');have hget:=hid (show s[k]=s.data.toList[k]from rfl)
    go_wp2_with (go_at_call 162;refine(Zyu _ _).mono ?_;rintro e w' ⟨rfl,rfl⟩)
    ·go_ret
     exact⟨Zbho (by rw[HR.out,hfalse.out];rw[<-hget.out];simp_all),rfl⟩
    ·go_round
     case rel=>exact⟨k+1,by omega,by go_num,by rw[hsucc.out,HK.out,<-hget.out];simp_all⟩
     case measure=>simp[intOf];omega
   ·go_wp2
    go_ret;exact⟨Zbho (by have:=HK.out;rw[List.take_of_length_le (by rw[<-Lib.size_eq];omega)]at this;rw[HR.out,this]),rfl⟩
def Zbln:ByteArray:=⟨#[47]⟩
theorem Zbmx (s sep:ByteArray) (m:Int) (w:World) (hs:s.size<4294967281) (hm:w.cell? ⟨1,0,none⟩=some (.int .i64 m)) (h1:1<=sep.size):
  Calls prog 161 #[.string s,.string sep] w λe w'=>
   e = .returned (.slice (some ⟨w.heap.size,0,none⟩) (Lib.countB s sep+1) (Lib.countB s sep+1))/\w'=w.alloc (.cells ((Lib.splitB sep 0 (Lib.countB s sep) s).map Value.string).toArray 9):=
 Any.strings_Split lLays_n146 (by kernel_rfl) s sep m w hs hm h1
theorem Zbex (s:ByteArray) (m:Int) (w:World) (hs:s.size<4294967281) (hm:w.cell? ⟨1,0,none⟩=some (.int .i64 m)):
  Calls prog 114 #[.string s] w λe w'=>∃xs:List ByteArray,xs.map (·.data.toList)=cutAt 47 s.data.toList/\
   e = .returned (.slice (some ⟨w.heap.size,0,none⟩) xs.length xs.length)/\w'=w.alloc (.cells (xs.map Value.string).toArray 9):=by
 have hc:=Zbmx s Zbln m w hs hm (by decide);have hl:(Lib.splitB Zbln 0 (Lib.countB s Zbln) s).map (·.data.toList)=cutAt 47 s.data.toList:=Zbmw 47 s;have hn:Lib.countB s Zbln+1=(Lib.splitB Zbln 0 (Lib.countB s Zbln) s).length:=by
  rw[<-List.length_map (·.data.toList),hl];exact Zbmy 47 s
 rw[hn]at hc;generalize Lib.splitB Zbln 0 (Lib.countB s Zbln) s=xs at *;clear hn;have HL:=hid hl;clear hl
 go_enter func114,ntmps114
 go_wp2_with (go_at_call 161;refine hc.mono ?_;rintro e w' ⟨rfl,rfl⟩)
 go_ret;exact⟨xs,HL.out,rfl,rfl⟩
def Zbcf (l:List UInt8):Bool:=decide (l.length<=40) && !isCl l&&(cutAt 47 l).all Zbch
theorem Zdf (xs:List ByteArray) (p:List UInt8->Bool):(xs.map (·.data.toList)).all p=xs.all λx=>p x.data.toList:=by
 rw[List.all_map];rfl
theorem Zig (w:World) (xs:List ByteArray) (t:TypeId) (k:Nat) (x:ByteArray) (h:xs[k]? =some x):(w.alloc (.cells (xs.map Value.string).toArray t)).cell? ⟨w.heap.size,k,none⟩=some (.string x):=by
 rw[World.cell?_alloc_at _ _ _ _ rfl];simp[h]
theorem Zdg {α:Type} (l:List α) (p:α->Bool) (k:Nat) (x:α) (h:l[k]? =some x):(l.take (k+1)).all p=((l.take k).all p&&p x):=by
 rw[List.take_add_one,h,List.all_append];simp
theorem Zdd {α:Type} (l:List α) (p:α->Bool) (k:Nat) (x:α) (h:l[k]? =some x) (hp:p x=false):l.all p=false:=by
 rw[List.all_eq_false];exact⟨x,List.mem_of_getElem? h,by simp[hp]⟩
set_option maxHeartbeats 1000000 in
theorem Zzb (s:ByteArray) (m:Int) (w:World) (hs:s.size<=maxLen) (hm:w.cell? ⟨1,0,none⟩=some (.int .i64 m)):
  Calls prog 68 #[.string s] w λe w'=>e = .returned (.bool (Zbcf s.data.toList))/\Below w.heap.size w w':=by
 unfold maxLen at hs;obtain⟨r,hr⟩:∃r,r=Zbcf s.data.toList:=⟨_,rfl⟩;rw[<-hr];have HR:=hid hr;clear hr;have hsz:=hid (Lib.size_eq s)
 by_cases h40:s.size<=40
 ·obtain⟨c,hc⟩:∃c,isCl s.data.toList=c:=⟨_,rfl⟩
  have cC:=Ztn s w;rw[hc]at cC;have HC:=hid hc;clear hc
  go_enter func68,ntmps68
  cases c
  ·go_wp2_with (first
    | (go_at_call 113;refine cC.mono ?_;rintro e w' ⟨rfl,rfl⟩)
    | (go_at_call 114;refine(Zbex s m w (by omega) hm).mono ?_;rintro e w' ⟨xs,hx,rfl,rfl⟩;have HX:=hid hx;clear hx))
   have hlen:=congrArg List.length HX.out;rw[List.length_map]at hlen;have hcl:=Zkz 47 s.data.toList;rw[<-hlen,<-hsz.out]at hcl;have hsm:∀(k:Nat) x,xs[k]? =some x->x.size<=40:=by
    intro k x hx;have h1:x.data.toList∈cutAt 47 s.data.toList:=by rw[<-HX.out];exact List.mem_map_of_mem (List.mem_of_getElem? hx)
    have h2:=Zky 47 s.data.toList _ h1;rw[<-hsz.out]at h2;rw[Lib.size_eq x];omega
   have HSM:=hid hsm;clear hsm hlen;have HR':Hid (r=(xs.all λx=>Zbch x.data.toList)):=by
    show r=_;rw[HR.out,Zbcf,HC.out,<-HX.out,Zdf,decide_eq_true (by rw[<-hsz.out];exact h40)];rfl
   go_loop [15] (λi=>∃k:Nat,k<=xs.length/\i = .int .i64 k/\((xs.take k).all λx=>Zbch x.data.toList)=true) (λi=>xs.length-(intOf i).toNat)
   case atStart=>exact⟨0,by omega,rfl,by simp⟩
   case round=>
    obtain⟨k,hk,rfl,hr⟩:=hrel;have HK:=hid hr;clear hr
    by_cases hlt:k<xs.length
    ·obtain⟨x,hx⟩:∃x,xs[k]? =some x:=⟨xs[k],List.getElem?_eq_getElem hlt⟩
     have hcell:=Zig w xs 9 k x hx;have hxs:=HSM.out k x hx;have HA:=hid (Zdg xs (λx=>Zbch x.data.toList) k x hx);have HB:=hid (Zdd xs (λx=>Zbch x.data.toList) k x hx);obtain⟨b,hb⟩:∃b,Zbch x.data.toList=b:=⟨_,rfl⟩;have cP:=Zyv x (w.alloc (.cells (xs.map Value.string).toArray 9)) (by unfold maxLen;omega);rw[hb]at cP;have HBV:=hid hb;clear hb hx
     cases b
     ·go_wp2_with (go_at_call 115;refine cP.mono ?_;rintro e w' ⟨rfl,rfl⟩)
      go_ret;exact⟨Zbho (by rw[HR'.out,HB.out HBV.out]),(Below.refl _ _).alloc (Nat.le_refl _) _⟩
     ·go_wp2_with (go_at_call 115;refine cP.mono ?_;rintro e w' ⟨rfl,rfl⟩)
      go_round
      case rel=>exact⟨k+1,by omega,by go_num,by rw[HA.out,HK.out,HBV.out];rfl⟩
      case measure=>simp[intOf];omega
    ·go_wp2
     go_ret;exact⟨Zbho (by have:=HK.out;rw[List.take_of_length_le (by omega)]at this;rw[HR'.out,this]),(Below.refl _ _).alloc (Nat.le_refl _) _⟩
  ·go_wp2_with (first
    | (go_at_call 113;refine cC.mono ?_;rintro e w' ⟨rfl,rfl⟩))
   go_ret;exact⟨Zbho (by rw[HR.out,Zbcf,HC.out];simp),Below.refl _ _⟩
 ·go_enter func68,ntmps68
  go_wp2;go_ret;exact⟨Zbho (by rw[HR.out,Zbcf,decide_eq_false (by rw[<-hsz.out];exact h40)];simp),Below.refl _ _⟩
def IsStrs (w:World) (v:Value) (xs:List ByteArray):Prop:=
 ∃a c,v = .slice a xs.length c/\xs.length<=c/\c<=maxLen/\(xs≠[]->∃b o,a=some ⟨b,o,none⟩/\b<w.heap.size/\∀(j:Nat) x,xs[j]? =some x->w.cell? ⟨b,o+j,none⟩=some (.string x))
theorem Zsy:(prog.info? 9).map (λi=>(i.zero,i.size,i.bytes))=some (some (.string ByteArray.empty),1,16):=by kernel_rfl
theorem Zie {w:World} {a:Addr} {v:Value} (h:w.cell? a=some v):a.block<w.heap.size:=by
 rcases Nat.lt_or_ge a.block w.heap.size with h'|h'
 ·exact h'
 ·simp[World.cell?,Array.getElem?_eq_none h']at h
theorem Zbqq {w:World} {B:Nat} {v:Value} {xs:List ByteArray} (h:w.ownsRow B 9 1 v xs.length (xs.map Value.string)):IsStrs w v xs:=by
 rcases h with⟨_,⟨rfl,h0⟩|⟨g,cap,cur,rfl,hB,hb,hn,hm,hs,ht⟩⟩
 ·obtain rfl:xs = []:=List.eq_nil_of_length_eq_zero h0
  exact⟨none,0,rfl,by simp,by simp[maxLen],λh=>absurd rfl h⟩
 ·refine⟨_,cap,rfl,hn,hm,λ_=>⟨g,0,rfl,?_,λj x hx=>?_⟩⟩
  ·rcases Nat.lt_or_ge g w.heap.size with h'|h'
   ·exact h'
   ·rw[Array.getElem?_eq_none h']at hb;cases hb
  ·have:(cur.toList.take (xs.length*1))[j]? =some (.string x):=by rw[ht];simp[hx]
   rw[List.getElem?_take]at this;split at this
   ·simp only[World.cell?,hb,Nat.zero_add]
    simpa using this
   ·cases this
theorem IsStrs.below {w w':World} {v:Value} {xs:List ByteArray} (h:IsStrs w v xs) (hb:Below w.heap.size w w'):IsStrs w' v xs:=by
 obtain⟨a,c,rfl,h1,h1m,h2⟩:=h;refine⟨a,c,rfl,h1,h1m,λhne=>?_⟩;obtain⟨b,o,rfl,h3,h4⟩:=h2 hne;exact⟨b,o,rfl,Nat.lt_of_lt_of_le h3 hb.size,λj x hx=>(hb.cell h3).trans (h4 j x hx)⟩
theorem Zuy (v:Value) (xs:List ByteArray) (sep:ByteArray) (w:World) (h:IsStrs w v xs) (hN:xs.length<=140737488355328)
  (hlen:(Lib.join (xs.map (·.data.toList)) sep.data.toList).length<=281474976710656):
  Calls prog 139 #[v,.string sep] w λe w'=>e = .returned (.string ⟨(Lib.join (xs.map (·.data.toList)) sep.data.toList).toArray⟩)/\Below w.heap.size w w':=by
 obtain⟨a,c,rfl,h1,h1m,h2⟩:=h
 cases xs with
 | nil=>exact(Any.strings_Join_none lLays_n156 lExtra a c sep w).mono λe w' ⟨he,hw⟩=>⟨he,hw▸Below.refl _ _⟩
 | cons y r=>
  obtain⟨b,o,rfl,h3,h4⟩:=h2 (by simp);exact Any.strings_Join_48 lLays_n156 lExtra b o c (y::r) sep w h4 h3 hN h1 hlen
def nonE (ls:List (List UInt8)):List (List UInt8):=ls.filter λl=> !l.isEmpty
def nonB (xs:List ByteArray):List ByteArray:=xs.filter λx=> !x.data.toList.isEmpty
theorem Zbbi (xs:List ByteArray):(nonB xs).map (·.data.toList)=nonE (xs.map (·.data.toList)):=by
 simp only[nonB,nonE,List.filter_map];rfl
theorem Zbbj (xs:List ByteArray):(nonB xs).length<=xs.length:=List.length_filter_le _ _
theorem Zbbl (xs:List ByteArray) (k:Nat) (x:ByteArray) (h:xs[k]? =some x) (hx:x.toList≠[]):nonB (xs.take (k+1))=nonB (xs.take k) ++ [x]:=by
 rw[Lib.toList_data]at hx;rw[nonB,List.take_add_one,h,List.filter_append];simp only[Option.toList_some,List.filter_cons,List.filter_nil,List.isEmpty_eq_false_iff.2 hx];rfl
theorem Zbbk (xs:List ByteArray) (k:Nat) (x:ByteArray) (h:xs[k]? =some x) (hx:x.toList = []):nonB (xs.take (k+1))=nonB (xs.take k):=by
 rw[Lib.toList_data]at hx;have e:(!x.data.toList.isEmpty)=false:=by rw[hx];rfl
 rw[nonB,List.take_add_one,h,List.filter_append];simp only[Option.toList_some,List.filter_cons,List.filter_nil,e,nonB];simp
def Zus (ls:List (List UInt8)):List UInt8:=Lib.join (nonE ls) [47]
set_option maxHeartbeats 2000000 in
theorem Zux (v:Value) (xs:List ByteArray) (w:World) (h:IsStrs w v xs) (hN:xs.length<=8796093022208)
  (hlen:(Zus (xs.map (·.data.toList))).length<=281474976710656):
  Calls prog 176 #[v] w λe w'=>e = .returned (.string ⟨(Zus (xs.map (·.data.toList))).toArray⟩)/\Below w.heap.size w w':=by
 obtain⟨a,c,rfl,h1,h1m,h2⟩:=h;obtain⟨i0,hi,hz0,hz1,hz2⟩:=info_parts Zsy;have hcells:∀(k:Nat) x,xs[k]? =some x->∃b o,a=some ⟨b,o,none⟩/\b<w.heap.size/\w.cell? ⟨b,o+k,none⟩=some (.string x):=by
  intro k x hx;obtain⟨b,o,ha,hb,hc⟩:=h2 (by rintro rfl;simp at hx);exact⟨b,o,ha,hb,hc k x hx⟩
 have HC:=hid hcells;clear hcells h2;have hfin:∀w1:World,∀v',IsStrs w1 v' (nonB xs)->Calls prog 139 #[v',.string Zbln] w1 λe w'=>e = .returned (.string ⟨(Zus (xs.map (·.data.toList))).toArray⟩)/\Below w1.heap.size w1 w':=by
  intro w1 v' hv;have hj:Lib.join ((nonB xs).map (·.data.toList)) Zbln.data.toList=Zus (xs.map (·.data.toList)):=by rw[Zbbi];rfl
  have:=Zuy v' (nonB xs) Zbln w1 hv (by have:=Zbbj xs;omega) (by rw[hj];exact hlen);rw[hj]at this;exact this
 have HF:=hid hfin;clear hfin hlen;unfold maxLen at h1m;generalize (Zus (xs.map (·.data.toList)))=res at *
 go_enter func176,ntmps176
 go_wp2
 go_loopw [3,8] (λv i wr=>∃k:Nat,k<=xs.length/\i = .int .i64 k/\wr.ownsRow w.heap.size 9 1 v (nonB (xs.take k)).length ((nonB (xs.take k)).map Value.string)/\Below w.heap.size w wr)
  (λ_ i _=>xs.length-(intOf i).toNat)
 case atStart=>exact⟨0,Nat.zero_le _,rfl,World.ownsRow_nil _ _ _ _,Below.refl _ _⟩
 case round=>
  obtain⟨k,hk,rfl,hown,hnx⟩:=hrel
  by_cases hlt:k<xs.length
  ·obtain⟨x,hx⟩:∃x,xs[k]? =some x:=⟨xs[k],List.getElem?_eq_getElem hlt⟩
   obtain⟨b,o,ha,hb,hc⟩:=HC.out k x hx;subst ha;have hcx:wr.cell? ⟨b,o+k,none⟩=some (.string x):=(hnx.cell (by exact hb)).trans hc
   by_cases hne:x.toList = []
   ·have HS:=hid (Zbbk xs k x hx hne)
    clear hx hc;go_wp2;go_roundw
    case rel=>exact⟨k+1,by omega,by go_num,by rw[HS.out];exact hown,hnx⟩
    case measure=>simp[intOf];omega
   ·have HS:=hid (Zbbl xs k x hx hne)
    have hKl:=Zbbj (xs.take k);have hkl:(xs.take k).length<=k:=List.length_take_le _ _;clear hx hc;have hne':(x.toList.isEmpty)=false:=List.isEmpty_eq_false_iff.2 hne
    go_wp2_with (at_builtin;refine wpList_append_own _ rfl _ _ 29 rfl w.heap.size 9 i0 (.string ByteArray.empty) 1 16 underlying29 hi hz0 hz1 hz2 rfl (by decide) _ _ _ rfl (hown.alloc _) ⟨wr.heap.size,0,none⟩ 1 1 [.string x] rfl rfl ?c1 ?c2 ?c3 ?c4 ?c5 ?_)
    case c1=>
     intro j u hj
     match j,hj with
     | 0,hj=>simp at hj;subst hj;simp[Addr.add]
    case c2=>intro u hu;simp at hu;subst hu;rfl
    case c3=>unfold maxLen;omega
    case c4=>omega
    case c5=>have:=hnx.size;simp;omega
    ·intro v' w1 hown' hgrow _
     have hnx':Below w.heap.size w w1:=(hnx.alloc hnx.size _).grown hgrow (by have:=hnx.size;simp;omega) (λg hg=>(hown.lt g hg).1);clear hgrow hown hcx;go_wp2;go_roundw
     case rel=>exact⟨k+1,by omega,by go_num,by rw[HS.out,List.length_append,List.map_append];exact hown',hnx'⟩
     case measure=>simp[intOf];omega
  ·have hfull:xs.take k=xs:=List.take_of_length_le (by omega)
   rw[hfull]at hown;clear hfull;have hS:=Zbqq hown;have cJ:=HF.out wr _ hS;clear hS hown
   go_wp2_with (go_at_call 139;refine cJ.mono ?_;rintro e w' ⟨rfl,hb'⟩)
   go_ret;exact⟨rfl,hnx.trans (hb'.mono hnx.size)⟩
def Zbfl:String:= "internal/strconv.uint64pow10"
structure Glob (w:World):Prop where
 max:∃m,w.cell? ⟨1,0,none⟩=some (.int .i64 m)
 tab:Lib.TabIs prog w Zbfl .u64 Lib.pow10Tab
 top:2<w.heap.size
 es:∃tp p,w.cell? ⟨3,0,none⟩=some (.iface tp p)
 er:∃tp p,w.cell? ⟨4,0,none⟩=some (.iface tp p)
theorem Glob.below {w w':World} (h:Glob w) (hb:Below w.heap.size w w'):Glob w':=by
 obtain⟨⟨m,hm⟩,ht,htop,⟨t1,p1,h1⟩,⟨t2,p2,h2⟩⟩:=h;exact⟨⟨m,(hb.cell (Zie hm)).trans hm⟩,var?_below hb (by kernel_rfl) htop ht,Nat.lt_of_lt_of_le htop hb.size,⟨t1,p1,(hb.cell (Zie h1)).trans h1⟩,⟨t2,p2,(hb.cell (Zie h2)).trans h2⟩⟩
theorem below_grow (w:World) (k:Nat) (os:Array Obj):Below w.heap.size w (Sort.grow (w.drewN k) os):=by
 refine(below_drewN (Below.refl w.heap.size w) k).trans ⟨rfl,rfl,rfl,by simp[Sort.grow],λi hi=>?_⟩;simp only[Sort.grow];rw[Array.getElem?_append_left (by simpa using hi)]
def numS (n:Int):List UInt8:=Lib.itoa (max n 0)
theorem Zuh (n:Int) (h0: -9223372036854775808<=n) (h1:n<=9223372036854775807) (w:World) (hg:Glob w):
  Calls prog 138 #[.int .i64 n] w λe w'=>e = .returned (.string ⟨(Lib.itoa n).toArray⟩)/\Below w.heap.size w w':=by
 refine(Any.strconv_Itoa lLaysM_n171 n h0 h1 w hg.tab).mono ?_;rintro e w' ⟨rfl,k,os,rfl⟩;exact⟨rfl,below_grow w k os⟩
theorem Zbca (n:Int) (h0: -9223372036854775808<=n) (h1:n<=9223372036854775807) (w:World) (hg:Glob w):
  Calls prog 158 #[.int .i64 n] w λe w'=>e = .returned (.string ⟨(numS n).toArray⟩)/\Below w.heap.size w w':=by
 have hc:=Zuh (max n 0) (by omega) (by omega) w hg
 go_enter func158,ntmps158
 go_wp2_with (go_at_call 138;refine hc.mono ?_;rintro e w' ⟨rfl,hb⟩)
 go_ret;exact⟨rfl,hb⟩
def Zqk (s:List UInt8) (most:Int):Int×Bool:=
 match Lib.atoiAll s with
 | .ok v=>if v<=most/\numS v=s then(v,true)else(0,false)
 | _=>(0,false)
theorem Zbhq {a b:Int} {c d:Bool} (h:a=b) (h':c=d):Ending.returned (.tuple #[.int .i64 a,.bool c]) = .returned (.tuple #[.int .i64 b,.bool d]):=by rw[h,h']
theorem Zdy {l:List UInt8} {v:Int} (h:Lib.atoiAll l = .ok v): -9223372036854775808<=v/\v<=9223372036854775807:=by
 unfold Lib.atoiAll at h;split at h
 ·cases h
 ·simp only at h
  split at h
  ·cases h
  ·cases h
  ·split at h
   ·cases h
   ·split at h
    ·cases h
    ·simp only[Lib.NumEnd.ok.injEq]at h
     split at h<;>omega
theorem Zfe {w w':World} {e:TypeId} (h:w'=w∨∃t,w'=Lib.bytesWorld w e t):Below w.heap.size w w':=by
 rcases h with rfl|⟨t,rfl⟩
 ·exact Below.refl _ _
 ·exact⟨rfl,rfl,rfl,by rw[Lib.bytesWorld_size];omega,λk hk=>Lib.bytesWorld_at_old w e t k hk⟩
set_option maxHeartbeats 1000000 in
theorem Zqm (s:ByteArray) (most:Int) (hs:s.size<=281474976710656) (w:World) (hg:Glob w):
  Calls prog 175 #[.string s,.int .i64 most] w λe w'=>e = .returned (.tuple #[.int .i64 (Zqk s.data.toList most).1,.bool (Zqk s.data.toList most).2])/\Below w.heap.size w w':=by
 obtain⟨r,hr⟩:∃r,r=Zqk s.data.toList most:=⟨_,rfl⟩;rw[<-hr];obtain⟨r1,r2⟩:=r;obtain⟨⟨m,hm⟩,ht,htop,⟨t1,p1,h1⟩,⟨t2,p2,h2⟩⟩:=id hg
 rcases ha:Lib.atoiAll s.data.toList with v|_|_
 rotate_left
 ·have hc:=Any.strconv_Atoi_syntax lLaysC_n172 s hs ha (.iface t1 p1) w h1 (.inr ⟨_,_,rfl⟩)
  have hrr:r1=0/\r2=false:=by rw[Zqk,ha]at hr;simpa using hr
  obtain⟨rfl,rfl⟩:=hrr;clear hr ha h1 h2 ht hm
  go_enter func175,ntmps175
  go_wp2_with fail
  refine hc.mono ?_;rintro e w' ⟨N,rfl,hN,hNc,hb⟩;go_wp2
  go_ret2
  exact⟨rfl,hb⟩
 ·have hc:=Any.strconv_Atoi_range lLaysC_n172 s hs ha (.iface t2 p2) w h2 (.inr ⟨_,_,rfl⟩)
  have hrr:r1=0/\r2=false:=by rw[Zqk,ha]at hr;simpa using hr
  obtain⟨rfl,rfl⟩:=hrr;clear hr ha h1 h2 ht hm
  go_enter func175,ntmps175
  go_wp2_with fail
  refine hc.mono ?_;rintro e w' ⟨N,rfl,hN,hNc,hb⟩;go_wp2
  go_ret2
  exact⟨rfl,hb⟩
 ·have hc:=Any.strconv_Atoi_ok lLaysC_n172 s (by omega) v ha w
  obtain⟨hv0,hv1⟩:=Zdy ha;have hrr:(r1,r2)=if v<=most/\numS v=s.data.toList then(v,true)else(0,false):=by rw[hr,Zqk,ha]
  clear hr ha
  by_cases h3:v<=most
  ·obtain⟨nb,hnb⟩:∃nb:ByteArray,nb=⟨(numS v).toArray⟩:=⟨_,rfl⟩
   have hnum:=λ(w':World) (hb:Below w.heap.size w w')=>Zbca v hv0 hv1 w' (hg.below hb)
   rw[<-hnb]at hnum;have HN:=hid hnum;clear hnum;have hl:nb.toList=numS v:=by rw[hnb,Lib.toList_data]
   by_cases h4:nb.toList=s.toList
   ·have h5:numS v=s.data.toList:=by rw[<-hl,h4,Lib.toList_data]
    rw[if_pos ⟨h3,h5⟩]at hrr;simp only[Prod.mk.injEq]at hrr;obtain⟨rfl,rfl⟩:=hrr;have b1:(nb.toList==s.toList)=true:=by simpa using h4
    have b2:(nb.toList != s.toList)=false:=by simpa using h4
    clear h4 h5 hl hnb hm h1 h2 ht
    go_enter func175,ntmps175
    go_wp2_with fail
    refine hc.mono ?_;rintro e w' ⟨rfl,hw⟩;have hb:=Zfe hw;have cN:=HN.out w' hb;clear hw
    go_wp2_with (go_at_call 158;refine cN.mono ?_;rintro e w2 ⟨rfl,hb2⟩)
    go_ret2
    exact⟨rfl,hb.trans (hb2.mono hb.size)⟩
   ·have h5:¬numS v=s.data.toList:=by rw[<-hl,<-Lib.toList_data];exact h4
    rw[if_neg (λh=>h5 h.2)]at hrr;simp only[Prod.mk.injEq]at hrr;obtain⟨rfl,rfl⟩:=hrr;have b1:(nb.toList==s.toList)=false:=by simpa using h4
    have b2:(nb.toList != s.toList)=true:=by simpa using h4
    clear h4 h5 hl hnb hm h1 h2 ht
    go_enter func175,ntmps175
    go_wp2_with fail
    refine hc.mono ?_;rintro e w' ⟨rfl,hw⟩;have hb:=Zfe hw;have cN:=HN.out w' hb;clear hw
    go_wp2_with (go_at_call 158;refine cN.mono ?_;rintro e w2 ⟨rfl,hb2⟩)
    go_ret2
    exact⟨rfl,hb.trans (hb2.mono hb.size)⟩
  ·rw[if_neg (λh=>h3 h.1)]at hrr
   simp only[Prod.mk.injEq]at hrr;obtain⟨rfl,rfl⟩:=hrr;have h3':most<v:=by omega
   clear hm h1 h2 ht h3
   go_enter func175,ntmps175
   go_wp2_with fail
   refine hc.mono ?_;rintro e w' ⟨rfl,hw⟩;have hb:=Zfe hw;clear hw;go_wp2
   go_ret2
   exact⟨rfl,hb⟩
def Zbev (p:List UInt8):List UInt8:=numS p.length++58::p
def putS (ls:List (List UInt8)):List UInt8:=(ls.map Zbev).flatten
theorem Zbfr (a b:List (List UInt8)):putS (a++b)=putS a++putS b:=by simp[putS]
theorem Zgl {B b:Nat} {bs:List Value} {w w':World} (h:Lib.IsBuilder 161 5 B b bs w) (hb:Below w.heap.size w w'):Lib.IsBuilder 161 5 B b bs w':=by
 have key:∀p,Lib.BuilderAt 161 5 B b p bs w->Lib.BuilderAt 161 5 B b p bs w':=by
  intro p hp;have hlt:=hp.lt;obtain⟨hB,v,hv,hown,hne⟩:=hp;refine⟨hB,v,(hb.block b hlt).trans hv,hown.kept (row:=none) ⟨hb.os,hb.tape,hb.output,hb.size,λk hk _=>hb.block k hk⟩ ?_,hne⟩
  cases h:v.ownBlock<;>simp
 exact h.imp (key _) (key _)
theorem Zbuo (B b:Nat) (l:List UInt8) (s:ByteArray) (w:World) (h:Lib.IsBuilder 161 5 B b (Lib.byteCells l) w) (hlen:l.length+s.size<=140737488355328) (hBw:B<=w.heap.size):
  Calls prog 129 #[.pointer (some ⟨b,0,none⟩),.string s] w λe w'=>e = .returned (.tuple #[.int .i64 s.size,.nilIface])/\Lib.IsBuilder 161 5 B b (Lib.byteCells (l++s.data.toList)) w'/\Below B w w':=by
 refine(Any.Builder_WriteString lLays_n166 lExtra B b (Lib.byteCells l) s w h (by simpa[Lib.byteCells]using hlen) hBw).mono ?_;rintro e w' ⟨rfl,h1,h2⟩;refine⟨rfl,.inr ?_,h2⟩;rw[show Lib.byteCells (l++s.data.toList)=Lib.byteCells l++Lib.strCells s from by simp[Lib.byteCells,Lib.strCells]];exact h1
theorem Zbul (B b:Nat) (l:List UInt8) (c:UInt8) (n:Int) (hn:n=c.toNat) (w:World) (h:Lib.IsBuilder 161 5 B b (Lib.byteCells l) w) (hlen:l.length+1<=140737488355328) (hBw:B<=w.heap.size):
  Calls prog 128 #[.pointer (some ⟨b,0,none⟩),.int .u8 n] w λe w'=>e = .returned .nilIface/\Lib.IsBuilder 161 5 B b (Lib.byteCells (l ++ [c])) w'/\Below B w w':=by
 subst hn;refine(Any.Builder_WriteByte lLays_n167 lExtra B b (Lib.byteCells l) c.toNat w h (by simpa[Lib.byteCells]using hlen) hBw).mono ?_;rintro e w' ⟨rfl,h1,h2⟩;refine⟨rfl,.inr ?_,h2⟩;rw[show Lib.byteCells (l ++ [c])=Lib.byteCells l ++ [Value.int .u8 c.toNat]from by simp[Lib.byteCells]];exact h1
theorem Zgk (B b:Nat) (l:List UInt8) (w:World) (h:Lib.IsBuilder 161 5 B b (Lib.byteCells l) w) (hBw:B<=w.heap.size):
  Calls prog 131 #[.pointer (some ⟨b,0,none⟩)] w λe w'=>e = .returned (.string ⟨l.toArray⟩)/\Below B w w':=
 Any.Builder_String_any lLays_n169 lExtra B b l w h hBw
theorem Zbfs (xs:List ByteArray) (k:Nat) (x:ByteArray) (h:xs[k]? =some x):putS ((xs.take (k+1)).map (·.data.toList))=putS ((xs.take k).map (·.data.toList))++numS x.size ++ [58]++x.data.toList:=by
 rw[List.take_add_one,h,List.map_append,Zbfr];rw[Lib.size_eq x];simp[putS,Zbev]
theorem Zbft (xs:List ByteArray) (k:Nat):(putS ((xs.take k).map (·.data.toList))).length<=(putS (xs.map (·.data.toList))).length:=by
 conv=>rhs;rw[<-List.take_append_drop k xs,List.map_append,Zbfr]
 simp
set_option maxHeartbeats 2000000 in
theorem Zbfu (v:Value) (xs:List ByteArray) (w:World) (h:IsStrs w v xs) (hN:xs.length<=140737488355328) (hg:Glob w)
  (hlen:(putS (xs.map (·.data.toList))).length<=140737488355328):
  Calls prog 177 #[v] w λe w'=>e = .returned (.string ⟨(putS (xs.map (·.data.toList))).toArray⟩)/\Below w.heap.size w w':=by
 obtain⟨a,c,rfl,h1,h1m,h2⟩:=h;have hcells:∀(k:Nat) x,xs[k]? =some x->∃b o,a=some ⟨b,o,none⟩/\b<w.heap.size/\w.cell? ⟨b,o+k,none⟩=some (.string x):=by
  intro k x hx;obtain⟨b,o,ha,hb,hc⟩:=h2 (by rintro rfl;simp at hx);exact⟨b,o,ha,hb,hc k x hx⟩
 have HC:=hid hcells;have HG:=hid hg;have HLE:=hid hlen;clear hcells h2 hg hlen;unfold maxLen at h1m;obtain⟨res,hres⟩:∃res,res=putS (xs.map (·.data.toList)):=⟨_,rfl⟩;rw[<-hres];have HRES:=hid hres;clear hres;have hB0:=Lib.fresh_isBuilder 161 5 w
 go_enter func177,ntmps177
 go_wp2
 go_loopw [8] (λi wr=>∃k:Nat,k<=xs.length/\i = .int .i64 k/\Lib.IsBuilder 161 5 w.heap.size w.heap.size (Lib.byteCells (putS ((xs.take k).map (·.data.toList)))) wr/\Below w.heap.size w wr)
  (λi _=>xs.length-(intOf i).toNat)
 case atStart=>exact⟨0,Nat.zero_le _,rfl,hB0,(Below.refl _ _).alloc (Nat.le_refl _) _⟩
 case round=>
  obtain⟨k,hk,rfl,hbu,hnx⟩:=hrel;obtain⟨cur,hcur⟩:∃cur,putS ((xs.take k).map (·.data.toList))=cur:=⟨_,rfl⟩;rw[hcur]at hbu;have HCUR:=hid hcur;have HBU:=hid hbu;clear hcur hB0 hbu;have hle:=Zbft xs k;rw[HCUR.out]at hle;have hsz:=hnx.size;have hgr:=HG.out.below hnx;have HGR:=hid hgr;clear hgr
  by_cases hlt:k<xs.length
  ·obtain⟨x,hx⟩:∃x,xs[k]? =some x:=⟨xs[k],List.getElem?_eq_getElem hlt⟩
   obtain⟨b,o,ha,hb,hc⟩:=HC.out k x hx;subst ha;have hcx:wr.cell? ⟨b,o+k,none⟩=some (.string x):=(hnx.cell (by exact hb)).trans hc;have hnext:=Zbfs xs k x hx;have hle2:=Zbft xs (k+1);rw[hnext,HCUR.out]at hle2;have hall:=HLE.out;simp only[List.length_append,List.length_cons,List.length_nil,<-Lib.size_eq]at hle2;have HNX:=hid hnext;have hxs:x.size<=140737488355328:=by omega
   have HL:=hid hle2;have HA:=hid hall;clear hnext hle2 hall hc hx hle
   go_wp2_with fail
   refine(Zbca x.size (by omega) (by omega) wr HGR.out).mono ?_;rintro e w2 ⟨rfl,hb2⟩;have h2:=Zgl HBU.out hb2;have s2:=hb2.size;obtain⟨nb,hnb⟩:∃nb,numS (x.size:Int)=nb:=⟨_,rfl⟩;rw[hnb];have HNB:=hid hnb;have hl2:=HL.out;rw[hnb]at hl2;have HL2:=hid hl2;clear hnb hl2;have H2:=hid h2;clear h2
   go_wp2_with fail
   refine(Zbuo w.heap.size w.heap.size cur ⟨nb.toArray⟩ w2 H2.out (by have:=HL2.out;have:=HA.out;simp only[ByteArray.size,List.size_toArray];omega) (by omega)).mono ?_;rintro e w3 ⟨rfl,h3,hb3⟩;have s3:=hb3.size;have H3:=hid h3;clear h3
   go_wp2_with fail
   refine(Zbul w.heap.size w.heap.size (cur++nb) 58 58 rfl w3 H3.out (by have:=HL2.out;have:=HA.out;simp only[List.length_append];omega) (by omega)).mono ?_;rintro e w4 ⟨rfl,h4,hb4⟩;have s4:=hb4.size;have H4:=hid h4;clear h4
   go_wp2_with fail
   refine(Zbuo w.heap.size w.heap.size (cur++nb ++ [58]) x w4 H4.out (by have:=HL2.out;have:=HA.out;simp only[List.length_append,List.length_cons,List.length_nil];omega) (by omega)).mono ?_;rintro e w5 ⟨rfl,h5,hb5⟩;have hnx5:=((hnx.trans (hb2.mono hsz)).trans hb3).trans (hb4.trans hb5);have H5:=hid h5;clear h5;go_wp2;go_roundw
   case rel=>exact⟨k+1,by omega,by go_num,by rw[HNX.out,HCUR.out,HNB.out];exact H5.out,hnx5⟩
   case measure=>simp[intOf];omega
  ·have hfull:cur=res:=by rw[<-HCUR.out,List.take_of_length_le (by omega),HRES.out]
   have HF:=hid hfull;clear hfull
   go_wp2_with fail
   refine(Zgk w.heap.size w.heap.size cur wr HBU.out hsz).mono ?_;rintro e w2 ⟨rfl,hb2⟩;go_wp2;go_ret;exact⟨Zbhr (by rw[HF.out]),hnx.trans hb2⟩
end Go.Proofs.YtcpjfpdecklkgaaGreatDoor
