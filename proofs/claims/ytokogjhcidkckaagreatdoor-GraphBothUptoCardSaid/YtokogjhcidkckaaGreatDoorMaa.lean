import Derived.Below
import Derived.Lib.Split
import Derived.Lib.Join
import Derived.WalkKit
import Derived.WalkSpells
import Derived.WalkLawsBesides
import Derived.Deep.DeepFit
import Derived.Deep.DeepMust
import Derived.Deep.QuietTactic
import Derived.BigQuiet
import Derived.Lib.Hide
import Derived.Test.YtokogjhcidkckaaGreatDoorProg
import Derived.Test.YtokogjhcidkckaaGreatDoorLays
import Derived.Room.Shelf.Join48
import Derived.Test.YtokogjhcidkckaaGreatDoorTie
import Derived.Test.YtokogjhcidkckaaGreatDoorCards
import Derived.ProofKit
import Derived.OpenShut
import Derived.Deep.DeepHandedRow
import Derived.Lib.LaidTab
import Derived.Lib.LaidU8
import Derived.Stop.LaidErr
import Derived.Stop.Joined
import Derived.Lay
import Derived.Shelf.Vars
import Derived.Deep.RegionHeld3
import Derived.Laws.IdiomCopy
import Derived.Laws.Cells
import Derived.Laws.World
import Derived.Laws.Entries
import Derived.ChangeKeysEq
import Derived.Orders
namespace Go.Proofs.YtokogjhcidkckaaGreatDoor.Exe
open Go.Lib (hid)
open Go.Proofs.Tryz
open Go Go.RowKit
def gq:Nat:=1
def nameCells (ns:List (List UInt8)):List Value:=ns.map λb=> .string ⟨⟨b⟩⟩
structure GX (G:Nat) (T:TypeId) (ns:List (List UInt8)) (w:World):Prop where
 size:G<=w.heap.size
 row:∃cur f,w.heap[gq]? =some (.cells cur T f)/\cur.toList=nameCells ns
theorem GX.below {G p:Nat} {T:TypeId} {ns:List (List UInt8)} {w w':World} (h:GX G T ns w) (hp:gq<p) (hb:Below p w w'):GX G T ns w':=by
 obtain⟨h1,cur,f,h2,h3⟩:=h;exact⟨Nat.le_trans h1 hb.size,cur,f,by rw[hb.block gq hp];exact h2,h3⟩
def opNames:List (List UInt8):=[[],[99,111,112,121],[110,101,101,100],[115,111,114,116],[99,111,117,110,116],[99,111,110,99,97,116],[108,105,116,101,114,97,108],[115,101,108,101,99,116],[114,101,112,108,97,99,101],[112,114,101,102,105,120]]
end Go.Proofs.YtokogjhcidkckaaGreatDoor.Exe
namespace Go.Proofs.YtokogjhcidkckaaGreatDoor
open Go.Lib (hid)
open Go.Proofs.Tryz
open Go.Lib
def cutAt (d:UInt8):List UInt8->List (List UInt8)
 | []=>[[]]
 | c::r=>if c=d then []::cutAt d r else
  match cutAt d r with
  | []=>[[c]]
  | p::ps=>(c::p)::ps
theorem Zlb (d:UInt8):∀s,cutAt d s≠[]
 | []=>by simp[cutAt]
 | c::r=>by
  unfold cutAt;split
  ·simp
  ·split<;>simp
theorem Zla (d:UInt8):∀s:List UInt8,d∉s->cutAt d s = [s]
 | [],_=>rfl
 | c::r,h=>by
  have h1:c≠d:=λe=>h (by simp[e])
  have h2:d∉r:=λe=>h (by simp[e])
  unfold cutAt;rw[if_neg h1,Zla d r h2]
theorem Zkx (d:UInt8):∀(a b:List UInt8),d∉a->cutAt d (a++d::b)=a::cutAt d b
 | [],b,_=>by simp[cutAt]
 | c::r,b,h=>by
  have h1:c≠d:=λe=>h (by simp[e])
  have h2:d∉r:=λe=>h (by simp[e])
  rw[List.cons_append,cutAt,if_neg h1,Zkx d r b h2]
theorem Zoz (d:UInt8):∀s:List UInt8,d∉s∨∃a b,s=a++d::b/\d∉a
 | []=> .inl (by simp)
 | c::r=>by
  by_cases hc:c=d
  ·exact .inr ⟨[],r,by simp[hc],by simp⟩
  ·rcases Zoz d r with h|⟨a,b,h,h'⟩
   ·exact .inl (by simp[h,Ne.symm hc])
   ·exact .inr ⟨c::a,b,by simp[h],by simp[h',Ne.symm hc]⟩
theorem Zbcc (s:List UInt8) (d:UInt8) (j:Nat):occAt s [d] j=decide (s[j]? =some d):=by
 unfold occAt;rw[Bool.eq_iff_iff,decide_eq_true_iff]
 cases h:s.drop j with
 | nil=>
  have:s[j]? =none:=by rw[List.getElem?_eq_none_iff];simpa using h
  simp[this]
 | cons x l=>
  have:s[j]? =some x:=by
   have:=congrArg List.head? h;simpa using this
  rw[this];simp[List.isPrefixOf];exact eq_comm
theorem Zsl {s:List UInt8} {d:UInt8} (h:d∉s):index s [d] = -1:=by
 refine index_none λj _=>?_
 rw[Zbcc,decide_eq_false_iff_not];intro e;exact h (List.mem_of_getElem? e)
theorem index_hit {a b:List UInt8} {d:UInt8} (h:d∉a):index (a++d::b) [d]=(a.length:Int):=by
 refine index_first (by simp) ?_ ?_
 ·rw[Zbcc];simp
 ·intro j hj
  rw[Zbcc,decide_eq_false_iff_not,List.getElem?_append_left hj];intro e;exact h (List.mem_of_getElem? e)
theorem Zmb (a b:List UInt8) (d:UInt8):(a++d::b).drop (a.length+1)=b:=by
 rw[<-List.drop_drop];simp
theorem Zbmz (d:UInt8):∀(n:Nat) (s:List UInt8),s.length<=n->splitK [d] 0 (count s [d]) s=cutAt d s
 | n,s,hn=>by
  rcases Zoz d s with h|⟨a,b,rfl,h⟩
  ·rw[count_miss (Zsl h),Zla d s h]
   rfl
  ·cases n with
   | zero=>simp at hn
   | succ n=>
    have hi:=index_hit (b:=b) h;rw[count_hit (by simp) hi,Zkx d a b h,Nat.add_comm,splitK,hi,if_neg (by simp)];have ih:=Zbmz d n b (by simp at hn;omega);simp only[Int.toNat_natCast,List.length_cons,List.length_nil,Nat.zero_add,Nat.add_zero,Zmb];rw[ih,List.take_left'];rfl
theorem Zku (d:UInt8):∀(n:Nat) (s:List UInt8),s.length<=n->count s [d]+1=(cutAt d s).length
 | n,s,hn=>by
  rcases Zoz d s with h|⟨a,b,rfl,h⟩
  ·rw[count_miss (Zsl h),Zla d s h]
   rfl
  ·cases n with
   | zero=>simp at hn
   | succ n=>
    have hi:=index_hit (b:=b) h;rw[count_hit (by simp) hi,Zkx d a b h];have ih:=Zku d n b (by simp at hn;omega);simp only[List.length_cons,List.length_nil,Nat.zero_add,Zmb];omega
theorem Zbmw (d:UInt8) (s:ByteArray):(splitB ⟨#[d]⟩ 0 (countB s ⟨#[d]⟩) s).map (·.data.toList)=cutAt d s.data.toList:=by
 rw[splitB_data];exact Zbmz d _ _ (Nat.le_refl _)
theorem Zbmy (d:UInt8) (s:ByteArray):countB s ⟨#[d]⟩+1=(cutAt d s.data.toList).length:=Zku d _ _ (Nat.le_refl _)
theorem Zkz (d:UInt8):∀s:List UInt8,(cutAt d s).length<=s.length+1
 | []=>by simp[cutAt]
 | c::r=>by
  have ih:=Zkz d r;unfold cutAt;split
  ·simp;omega
  ·split
   ·simp
   ·rename_i p ps h;rw[h]at ih;simp at ih⊢;omega
theorem Zky (d:UInt8):∀s:List UInt8,∀p∈cutAt d s,p.length<=s.length
 | []=>by simp[cutAt]
 | c::r=>by
  have ih:=Zky d r;unfold cutAt;split
  ·intro p hp
   rcases List.mem_cons.1 hp with rfl|hp
   ·simp
   ·have:=ih p hp;simp;omega
  ·split
   ·intro p hp;simp at hp;simp[hp]
   ·rename_i q ps h
    intro p hp
    rcases List.mem_cons.1 hp with rfl|hp
    ·have:=ih q (by simp[h]);simp;omega
    ·have:=ih p (by simp[h,hp]);simp;omega
theorem Zkw (d:UInt8):∀(a b:List UInt8),cutAt d (a++d::b)=cutAt d a++cutAt d b
 | [],b=>by simp[cutAt]
 | c::r,b=>by
  have ih:=Zkw d r b;rw[List.cons_append]
  by_cases h:c=d
  ·simp[cutAt,h,ih]
  ·obtain⟨p,ps,hp⟩:∃p ps,cutAt d r=p::ps:=by
    cases h:cutAt d r with
    | nil=>exact absurd h (Zlb d r)
    | cons p ps=>exact⟨p,ps,rfl⟩
   rw[cutAt,if_neg h,ih,hp];simp[cutAt,h,hp]
theorem join_length (d:UInt8):∀(ps:List (List UInt8)),ps≠[]->(join ps [d]).length+1=(ps.map List.length).sum+ps.length
 | [],h=>absurd rfl h
 | [p],_=>by rw[join_one];simp
 | p::q::r,_=>by
  have ih:=join_length d (q::r) (by simp);have e:join (p::q::r) [d]=p++d::join (q::r) [d]:=by
   rw[join_cons,join_cons];simp[joinTail]
  rw[e];simp only[List.length_append,List.length_cons,List.map_cons,List.sum_cons]at ih⊢;omega
end Go.Proofs.YtokogjhcidkckaaGreatDoor
namespace Go.Proofs.YtokogjhcidkckaaGreatDoor
open Go.Lib (hid)
open Go.Proofs.Tryz
open Go.RowKit
theorem Zbho {a b:Bool} (h:a=b):Ending.returned (.bool a) = .returned (.bool b):=by rw[h]
def Zbce (c:UInt8):Bool:=decide ((97<=c.toNat/\c.toNat<=122)∨(65<=c.toNat/\c.toNat<=90)∨(48<=c.toNat/\c.toNat<=57)∨c.toNat=46∨c.toNat=95∨c.toNat=45)
theorem Zyu (c:UInt8) (w:World):
  Calls prog 293 #[.int .u8 c.toNat] w λe w'=>e = .returned (.bool (Zbce c))/\w=w':=by
 have hb:c.toNat<256:=c.toNat_lt
 go_enter func293,ntmps293
 go_wp2
 all_goals go_ret
 all_goals exact⟨Zbho (by rw[Bool.eq_iff_iff];simp[Zbce];omega),rfl⟩
def isCl (l:List UInt8):Bool:=l == [114,117,108,101]||l == [105,110]||l == [111,117,116]||l == [97,102,116,101,114]
theorem Ztn (s:ByteArray) (w:World):
  Calls prog 235 #[.string s] w λe w'=>e = .returned (.bool (isCl s.data.toList))/\w=w':=by
 go_enter func235,ntmps235
 go_wp2
 all_goals go_ret
 all_goals exact⟨Zbho (by simp_all[isCl,Lib.toList_data]),rfl⟩
def Zbch (l:List UInt8):Bool:=l != []&&l != [46]&&l != [46,46]&&l.all Zbce
theorem Zbra (l:List UInt8) (p:UInt8->Bool) (k:Nat) (h:k<l.length):(l.take (k+1)).all p=((l.take k).all p&&p l[k]):=by
 rw[List.take_succ_eq_append_getElem h,List.all_append];simp
theorem Zde (l:List UInt8) (p:UInt8->Bool) (k:Nat) (h:k<l.length) (hp:p l[k]=false):l.all p=false:=by
 rw[List.all_eq_false];exact⟨l[k],List.getElem_mem h,by simp[hp]⟩
theorem Zbci {l:List UInt8} (h:¬(l = []∨l = [46]∨l = [46,46])):Zbch l=l.all Zbce:=by
 simp only[not_or]at h;simp[Zbch,h]
set_option maxHeartbeats 1000000 in
theorem Zyv (s:ByteArray) (w:World) (hs:s.size<=maxLen):
  Calls prog 237 #[.string s] w λe w'=>e = .returned (.bool (Zbch s.data.toList))/\w=w':=by
 unfold maxLen at hs;obtain⟨r,hr⟩:∃r,r=Zbch s.data.toList:=⟨_,rfl⟩;rw[<-hr]
 by_cases h1:s.toList = []∨s.toList = [46]∨s.toList = [46,46]
 ·have hf:r=false:=by
   rw[hr,<-Lib.toList_data]
   rcases h1 with h|h|h<;>simp[Zbch,h]
  subst hf;clear hr
  go_enter func237,ntmps237
  by_cases ha:s.toList = []
  ·go_wp2
   go_ret;exact⟨rfl,rfl⟩
  ·by_cases hb:s.toList = [46]
   ·go_wp2
    go_ret;exact⟨rfl,rfl⟩
   ·have hc:s.toList = [46,46]:=by rcases h1 with h|h|h<;>first|exact absurd h ha|exact absurd h hb|exact h
    clear h1;go_wp2;go_ret;exact⟨rfl,rfl⟩
 ·have ha:s.toList.isEmpty=false:=by rw[Bool.eq_false_iff];intro h;exact h1 (.inl (by simpa using h))
  have hb:(s.toList == [46])=false:=by rw[Bool.eq_false_iff];intro h;exact h1 (.inr (.inl (by simpa using h)))
  have hc:(s.toList == [46,46])=false:=by rw[Bool.eq_false_iff];intro h;exact h1 (.inr (.inr (by simpa using h)))
  have HR:=hid (hr.trans (Zbci (l:=s.data.toList) (by rw[<-Lib.toList_data];exact h1)));clear hr h1
  go_enter func237,ntmps237
  go_wp2
  go_loop [16] (λi=>∃k:Nat,k<=s.size/\i = .int .i64 k/\(s.data.toList.take k).all Zbce=true) (λi=>s.size-(intOf i).toNat)
  case atStart=>exact⟨0,by omega,rfl,by simp⟩
  case round=>
   obtain⟨k,hk,rfl,hr⟩:=hrel;have HK:=hid hr;clear hr
   by_cases hlt:k<s.size
   ·have hlt':k<s.data.toList.length:=by rw[<-Lib.size_eq];exact hlt
    have hsucc:=hid (Zbra s.data.toList Zbce k hlt');have hfalse:=hid (Zde s.data.toList Zbce k hlt');have hget:=hid (show s[k]=s.data.toList[k]from rfl)
    go_wp2_with (go_at_call 293;refine(Zyu _ _).mono ?_;rintro e w' ⟨rfl,rfl⟩)
    ·go_ret
     exact⟨Zbho (by rw[HR.out,hfalse.out];rw[<-hget.out];simp_all),rfl⟩
    ·go_round
     case rel=>exact⟨k+1,by omega,by go_num,by rw[hsucc.out,HK.out,<-hget.out];simp_all⟩
     case measure=>simp[intOf];omega
   ·go_wp2
    go_ret;exact⟨Zbho (by have:=HK.out;rw[List.take_of_length_le (by rw[<-Lib.size_eq];omega)]at this;rw[HR.out,this]),rfl⟩
def Zbln:ByteArray:=⟨#[47]⟩
theorem Zbmx (s sep:ByteArray) (m:Int) (w:World) (hs:s.size<4294967281) (hm:w.cell? ⟨0,0,none⟩=some (.int .i64 m)) (h1:1<=sep.size):
  Calls prog 292 #[.string s,.string sep] w λe w'=>
   e = .returned (.slice (some ⟨w.heap.size,0,none⟩) (Lib.countB s sep+1) (Lib.countB s sep+1))/\w'=w.alloc (.cells ((Lib.splitB sep 0 (Lib.countB s sep) s).map Value.string).toArray 9):=
 Any.strings_Split lLays_n146 (by kernel_rfl) s sep m w hs hm h1
theorem Zbex (s:ByteArray) (m:Int) (w:World) (hs:s.size<4294967281) (hm:w.cell? ⟨0,0,none⟩=some (.int .i64 m)):
  Calls prog 236 #[.string s] w λe w'=>∃xs:List ByteArray,xs.map (·.data.toList)=cutAt 47 s.data.toList/\
   e = .returned (.slice (some ⟨w.heap.size,0,none⟩) xs.length xs.length)/\w'=w.alloc (.cells (xs.map Value.string).toArray 9):=by
 have hc:=Zbmx s Zbln m w hs hm (by decide);have hl:(Lib.splitB Zbln 0 (Lib.countB s Zbln) s).map (·.data.toList)=cutAt 47 s.data.toList:=Zbmw 47 s;have hn:Lib.countB s Zbln+1=(Lib.splitB Zbln 0 (Lib.countB s Zbln) s).length:=by
  rw[<-List.length_map (·.data.toList),hl];exact Zbmy 47 s
 rw[hn]at hc;generalize Lib.splitB Zbln 0 (Lib.countB s Zbln) s=xs at *;clear hn;have HL:=hid hl;clear hl
 go_enter func236,ntmps236
 go_wp2_with (go_at_call 292;refine hc.mono ?_;rintro e w' ⟨rfl,rfl⟩)
 go_ret;exact⟨xs,HL.out,rfl,rfl⟩
def Zbcf (l:List UInt8):Bool:=decide (l.length<=40) && !isCl l&&(cutAt 47 l).all Zbch
theorem Zdf (xs:List ByteArray) (p:List UInt8->Bool):(xs.map (·.data.toList)).all p=xs.all λx=>p x.data.toList:=by
 rw[List.all_map];rfl
theorem Zig (w:World) (xs:List ByteArray) (t:TypeId) (k:Nat) (x:ByteArray) (h:xs[k]? =some x):(w.alloc (.cells (xs.map Value.string).toArray t)).cell? ⟨w.heap.size,k,none⟩=some (.string x):=by
 rw[World.cell?_alloc_at _ _ _ _ rfl];simp[h]
theorem Zdg {α:Type} (l:List α) (p:α->Bool) (k:Nat) (x:α) (h:l[k]? =some x):(l.take (k+1)).all p=((l.take k).all p&&p x):=by
 rw[List.take_add_one,h,List.all_append];simp
theorem Zdd {α:Type} (l:List α) (p:α->Bool) (k:Nat) (x:α) (h:l[k]? =some x) (hp:p x=false):l.all p=false:=by
 rw[List.all_eq_false];exact⟨x,List.mem_of_getElem? h,by simp[hp]⟩
set_option maxHeartbeats 1000000 in
theorem Zzb (s:ByteArray) (m:Int) (w:World) (hs:s.size<=maxLen) (hm:w.cell? ⟨0,0,none⟩=some (.int .i64 m)):
  Calls prog 192 #[.string s] w λe w'=>e = .returned (.bool (Zbcf s.data.toList))/\Below w.heap.size w w':=by
 unfold maxLen at hs;obtain⟨r,hr⟩:∃r,r=Zbcf s.data.toList:=⟨_,rfl⟩;rw[<-hr];have HR:=hid hr;clear hr;have hsz:=hid (Lib.size_eq s)
 by_cases h40:s.size<=40
 ·obtain⟨c,hc⟩:∃c,isCl s.data.toList=c:=⟨_,rfl⟩
  have cC:=Ztn s w;rw[hc]at cC;have HC:=hid hc;clear hc
  go_enter func192,ntmps192
  cases c
  ·go_wp2_with (first
    | (go_at_call 235;refine cC.mono ?_;rintro e w' ⟨rfl,rfl⟩)
    | (go_at_call 236;refine(Zbex s m w (by omega) hm).mono ?_;rintro e w' ⟨xs,hx,rfl,rfl⟩;have HX:=hid hx;clear hx))
   have hlen:=congrArg List.length HX.out;rw[List.length_map]at hlen;have hcl:=Zkz 47 s.data.toList;rw[<-hlen,<-hsz.out]at hcl;have hsm:∀(k:Nat) x,xs[k]? =some x->x.size<=40:=by
    intro k x hx;have h1:x.data.toList∈cutAt 47 s.data.toList:=by rw[<-HX.out];exact List.mem_map_of_mem (List.mem_of_getElem? hx)
    have h2:=Zky 47 s.data.toList _ h1;rw[<-hsz.out]at h2;rw[Lib.size_eq x];omega
   have HSM:=hid hsm;clear hsm hlen;have HR':Hid (r=(xs.all λx=>Zbch x.data.toList)):=by
    show r=_;rw[HR.out,Zbcf,HC.out,<-HX.out,Zdf,decide_eq_true (by rw[<-hsz.out];exact h40)];rfl
   go_loop [15] (λi=>∃k:Nat,k<=xs.length/\i = .int .i64 k/\((xs.take k).all λx=>Zbch x.data.toList)=true) (λi=>xs.length-(intOf i).toNat)
   case atStart=>exact⟨0,by omega,rfl,by simp⟩
   case round=>
    obtain⟨k,hk,rfl,hr⟩:=hrel;have HK:=hid hr;clear hr
    by_cases hlt:k<xs.length
    ·obtain⟨x,hx⟩:∃x,xs[k]? =some x:=⟨xs[k],List.getElem?_eq_getElem hlt⟩
     have hcell:=Zig w xs 9 k x hx;have hxs:=HSM.out k x hx;have HA:=hid (Zdg xs (λx=>Zbch x.data.toList) k x hx);have HB:=hid (Zdd xs (λx=>Zbch x.data.toList) k x hx);obtain⟨b,hb⟩:∃b,Zbch x.data.toList=b:=⟨_,rfl⟩;have cP:=Zyv x (w.alloc (.cells (xs.map Value.string).toArray 9)) (by unfold maxLen;omega);rw[hb]at cP;have HBV:=hid hb;clear hb hx
     cases b
     ·go_wp2_with (go_at_call 237;refine cP.mono ?_;rintro e w' ⟨rfl,rfl⟩)
      go_ret;exact⟨Zbho (by rw[HR'.out,HB.out HBV.out]),(Below.refl _ _).alloc (Nat.le_refl _) _⟩
     ·go_wp2_with (go_at_call 237;refine cP.mono ?_;rintro e w' ⟨rfl,rfl⟩)
      go_round
      case rel=>exact⟨k+1,by omega,by go_num,by rw[HA.out,HK.out,HBV.out];rfl⟩
      case measure=>simp[intOf];omega
    ·go_wp2
     go_ret;exact⟨Zbho (by have:=HK.out;rw[List.take_of_length_le (by omega)]at this;rw[HR'.out,this]),(Below.refl _ _).alloc (Nat.le_refl _) _⟩
  ·go_wp2_with (first
    | (go_at_call 235;refine cC.mono ?_;rintro e w' ⟨rfl,rfl⟩))
   go_ret;exact⟨Zbho (by rw[HR.out,Zbcf,HC.out];simp),Below.refl _ _⟩
 ·go_enter func192,ntmps192
  go_wp2;go_ret;exact⟨Zbho (by rw[HR.out,Zbcf,decide_eq_false (by rw[<-hsz.out];exact h40)];simp),Below.refl _ _⟩
def IsStrs (w:World) (v:Value) (xs:List ByteArray):Prop:=
 ∃a c,v = .slice a xs.length c/\xs.length<=c/\c<=maxLen/\(xs≠[]->∃b o,a=some ⟨b,o,none⟩/\b<w.heap.size/\∀(j:Nat) x,xs[j]? =some x->w.cell? ⟨b,o+j,none⟩=some (.string x))
theorem Zsy:(prog.info? 9).map (λi=>(i.zero,i.size,i.bytes))=some (some (.string ByteArray.empty),1,16):=by kernel_rfl
theorem Zie {w:World} {a:Addr} {v:Value} (h:w.cell? a=some v):a.block<w.heap.size:=by
 rcases Nat.lt_or_ge a.block w.heap.size with h'|h'
 ·exact h'
 ·simp[World.cell?,Array.getElem?_eq_none h']at h
theorem Zbqq {w:World} {B:Nat} {v:Value} {xs:List ByteArray} (h:w.ownsRow B 9 1 v xs.length (xs.map Value.string)):IsStrs w v xs:=by
 rcases h with⟨_,⟨rfl,h0⟩|⟨g,cap,cur,rfl,hB,hb,hn,hm,hs,ht⟩⟩
 ·obtain rfl:xs = []:=List.eq_nil_of_length_eq_zero h0
  exact⟨none,0,rfl,by simp,by simp[maxLen],λh=>absurd rfl h⟩
 ·refine⟨_,cap,rfl,hn,hm,λ_=>⟨g,0,rfl,?_,λj x hx=>?_⟩⟩
  ·rcases Nat.lt_or_ge g w.heap.size with h'|h'
   ·exact h'
   ·rw[Array.getElem?_eq_none h']at hb;cases hb
  ·have:(cur.toList.take (xs.length*1))[j]? =some (.string x):=by rw[ht];simp[hx]
   rw[List.getElem?_take]at this;split at this
   ·simp only[World.cell?,hb,Nat.zero_add]
    simpa using this
   ·cases this
theorem IsStrs.below {w w':World} {v:Value} {xs:List ByteArray} (h:IsStrs w v xs) (hb:Below w.heap.size w w'):IsStrs w' v xs:=by
 obtain⟨a,c,rfl,h1,h1m,h2⟩:=h;refine⟨a,c,rfl,h1,h1m,λhne=>?_⟩;obtain⟨b,o,rfl,h3,h4⟩:=h2 hne;exact⟨b,o,rfl,Nat.lt_of_lt_of_le h3 hb.size,λj x hx=>(hb.cell h3).trans (h4 j x hx)⟩
def nonE (ls:List (List UInt8)):List (List UInt8):=ls.filter λl=> !l.isEmpty
def Zus (ls:List (List UInt8)):List UInt8:=Lib.join (nonE ls) [47]
open Go.ChangeShapes Go.WideShapes Go.ChangeAt
theorem own:ownKnob prog.godebug=none:=by kernel_rfl
abbrev Zwu:List (String×DataW Unit):=Rows.graphAllRow.laid
theorem Zin {H:Type} {enc:TypeId×Value->H} {P:Program} {w:World} {base:Nat} {sp:Nat->Bool} {held:Bool} {fuel:Nat} {t e:TypeId} {n:Nat} {cs:List Value} {zs:List (List UInt8)} {p:List MemPlace}
  (ht:P.underlying t=some (.array n e)) (he:P.underlying e=some .string) (hce:P.cellsOf e=1) (hct:P.cellsOf t=n)
  (h:DataW.trod enc P w base sp held fuel t cs=some (.agg (zs.map λz=> .lit (.string z)),p)):∀(i:Nat) z,zs[i]? =some z->cs[i]? =some (.string ⟨z.toArray⟩):=by
 cases fuel with
 | zero=>simp[DataW.trod]at h
 | succ fuel=>
  simp only[DataW.trod,ht,hce,hct,Nat.mul_one]at h;split at h
  ·rename_i hl
   obtain⟨xs,hm,hx⟩:=Option.map_eq_some_iff.1 h;have hxs:xs.map (·.1)=zs.map λz=>(DataW.lit (.string z):DataW H):=by
    have:=congrArg Prod.fst hx;simpa using this
   have hxl:xs.length=n:=by simpa using Lib.mapM_length hm
   have hzl:zs.length=n:=by
    have:=congrArg List.length hxs;simp at this;omega
   intro i z hz;have hi:i<n:=by rw[<-hzl];exact(List.getElem?_eq_some_iff.1 hz).1
   obtain⟨b,hb,hf⟩:=Lib.mapM_at hm i i (by simp[hi]);obtain⟨s,hc,rfl,_⟩:=DataW.trod_string he hf;have h1:cs[i]? =some (.string s):=by
    have:=congrArg (·[0]?) hc;simpa[List.getElem?_take,List.getElem?_drop]using this
   have h2:(xs.map (·.1))[i]? =some (DataW.lit (.string s.data.toList):DataW H):=by simp[hb]
   rw[hxs]at h2;simp only[List.getElem?_map,hz,Option.map_some,Option.some.injEq,DataW.lit.injEq,Lit.string.injEq]at h2;rw[h1,h2]
  ·cases h
theorem Zdav {W:World} (hL:laidMetH prog Zwu W) (hS:W.ShapedOpen prog):Exe.GX 5 301 Exe.opNames W:=by
 rw[MakeChecks.laidMetH_plain _ _ _ (by kernel_rfl)]at hL;have hmem:("shipwright/parse.opNames",(Rows.laid_shipwright_parse_opNames:DataW Unit))∈Zwu:=by
  repeat (first|exact List.Mem.head _|refine List.Mem.tail _ ?_)
 obtain⟨g',t',cs,fuel,p,hg',ht',hv,hd⟩:=Lib.laidMet.reads hL hmem;obtain rfl:1=g':=Option.some.inj ((show _=some 1 by kernel_rfl:prog.globalNamed _=some 1).symm.trans hg');obtain rfl:=Option.some.inj ((show(prog.globals[1]?).map (·.type)=some 301 by kernel_rfl).symm.trans ht');have hc:=Zin underlying301 underlying9 (by kernel_rfl) (by kernel_rfl) (zs:=Exe.opNames) hd;have ho:∀(k:Nat) x,Exe.opNames[k]? =some x->W.cell? ⟨1,k,none⟩=some (.string ⟨x.toArray⟩):=by
  intro k x hx;have:=World.var?_cell hg' hv k;rw[this];have:=hc k x hx;simpa using this
 obtain⟨c0,hc0,hs0,_⟩:=hS.1 1 _ _ (of_decide_eq_true (by kernel_rfl)) (show _=some ((⟨[.string ByteArray.empty,.string ByteArray.empty,.string ByteArray.empty,.string ByteArray.empty,.string ByteArray.empty,.string ByteArray.empty,.string ByteArray.empty,.string ByteArray.empty,.string ByteArray.empty,.string ByteArray.empty]⟩:Array Value),301) by kernel_rfl);have hsz:5<=W.heap.size:=by
  have h4:(((begin prog (λ_ _=>0) default).world.heap[4]?).bind Obj.row?).isSome=true:=by kernel_rfl
  obtain⟨⟨z4,t4⟩,e4⟩:=Option.isSome_iff_exists.1 h4;obtain⟨c4,hc4,_⟩:=hS.1 4 z4 t4 (of_decide_eq_true (by kernel_rfl)) e4;have:=(Array.getElem?_eq_some_iff.1 hc4).1;omega
 refine⟨hsz,c0,_,hc0,?_⟩;have hlen:c0.size=10:=hs0;apply List.ext_getElem?;intro i
 rcases Nat.lt_or_ge i 10 with hi|hi
 ·have key:∀x,Exe.opNames[i]? =some x->c0.toList[i]? =some (.string ⟨x.toArray⟩):=by
   intro x hx;have:=ho i x hx;simp only[World.cell?,hc0]at this;simpa using this
  have hl:Exe.opNames.length=10:=by decide
  have hb:i<Exe.opNames.length:=by omega
  obtain⟨x,hx⟩:∃x,Exe.opNames[i]? =some x:=⟨_,List.getElem?_eq_getElem hb⟩;rw[key x hx];unfold Exe.nameCells;rw[List.getElem?_map,hx];rfl
 ·rw[List.getElem?_eq_none (by simp;omega),List.getElem?_eq_none (by simp[Exe.nameCells,Exe.opNames];omega)]
structure GXM (W:World):Prop where
 gx:Exe.GX 5 301 Exe.opNames W
 max:∃m,W.cell? ⟨0,0,none⟩=some (.int .i64 m)
theorem Zdaw {W:World} (hL:laidMetH prog Zwu W) (hS:W.ShapedOpen prog):GXM W:=
 ⟨Zdav hL hS,cell_of_shapedOpen_int (zero:=#[.int .i64 0]) (t:=3) hS (of_decide_eq_true (by kernel_rfl)) (by kernel_rfl) rfl (by kernel_rfl) (by kernel_rfl) underlying3⟩
theorem Zww (os:Os) (args:Array Value):laidMetH prog Zwu ((World.laidAll prog os Zwu).forCall (λ_ _=>0) ⟨#[],args,[]⟩).memory:=by
 rw[MakeChecks.laidMetH_plain _ _ _ (by kernel_rfl)];exact laidMet_laidAll _ (by kernel_rfl) (by kernel_rfl)
theorem laidOut:laidOutB prog=true:=by kernel_rfl
theorem Zbrp {H:Type} {enc:TypeId×Value->H} {W W':World} (hb:Below W.heap.size W W'):∀ {ts:List TypeId} {vs:List Value} {ds:List (DataW H)} {ps:List MemPlace},
  DataW.TrodAll enc prog W 0 (λ_=>true) true ts vs ds ps->(∀x∈ps,x.block<W.heap.size)->(ts.all λt=>prog.readableRec t&&decide (t<prog.types.size))=true->
  DataW.TrodAll enc prog W' 0 (λb=>decide (b<W.heap.size)) true ts vs ds ps:=by
 intro ts
 induction ts with
 | nil=>
  intro vs ds ps h _ _
  cases vs<;>cases ds<;>simp_all[DataW.TrodAll]
 | cons t ts ih=>
  intro vs ds ps h hlt hr;obtain⟨v,vs',d,ds',p,q,rfl,rfl,rfl,h0,h1⟩:=trodAll_cons h;rw[List.all_cons,Bool.and_eq_true,Bool.and_eq_true]at hr;exact⟨p,q,Below.trod laidOut hr.1.1 (of_decide_eq_true hr.1.2) h0 hb (λx hx=>hlt x (List.mem_append_left _ hx)),ih h1 (λx hx=>hlt x (List.mem_append_right _ hx)) hr.2,rfl⟩
theorem Zwy {H:Type} {enc:TypeId×Value->H} {fn:Func} {spec:ChangeSpec} {W W':World} {args:Array Value} {ds gs:List (DataW H)} {before:List MemPlace}
  (hvars:spec.vars = []) (hres:fn.resultTypes = #[4]) (n:Nat) (hn:fn.params.size=n) (hfn:∀H (xs:List (DataW H)),xs.length=n->spec.fn H xs = { results:=[.lit (.bool true)],args:=xs })
  (hW:DataW.Whole enc prog fn.params.toList spec.vars false W args.toList ds gs before) (hb:Below W.heap.size W W')
  (hr:(fn.params.toList.all λt=>prog.readableRec t&&decide (t<prog.types.size))=true):
  spec.post enc prog fn false true false false W args (.bool true) W':=by
 have hW':=hW;have hlt:=hW.lt;obtain⟨p,q,hA,hV,rfl,hfz,hnd⟩:=hW;rw[hvars]at hV;obtain⟨rfl,rfl⟩:=trodVars_none hV;have hl:∀ {ts:List TypeId} {vs:List Value} {ds:List (DataW H)} {ps:List MemPlace},DataW.TrodAll enc prog W 0 (λ_=>true) true ts vs ds ps->ds.length=ts.length:=by
  intro ts
  induction ts with
  | nil=>intro vs ds ps h;cases vs<;>cases ds<;>simp_all[DataW.TrodAll]
  | cons t ts ih=>
   intro vs ds ps h;obtain⟨v,vs',d,ds',p,q,rfl,rfl,rfl,_,h'⟩:=trodAll_cons h;simp[ih h']
 have hdl:=hl hA;have e:spec.fn H (ds ++ []) = { results:=[.lit (.bool true)],args:=ds }:=by
  rw[List.append_nil];exact hfn H ds (by rw[hdl,<-hn];simp)
 refine⟨ds,[],_,[],p,[],hW',?_,?_,?_,hb.frame _,λh=>by cases h⟩
 ·rw[e,hres];exact trodAll_mk1 (shut_bool underlying4 _)
 ·rw[e];exact Zbrp hb hA (λx hx=>hlt x (by simpa using hx)) hr
 ·rw[e,hvars];exact rfl
theorem Zbta (os:Os) (args:Array Value):((World.laidAll prog os Zwu).forCall (λ_ _=>0) ⟨#[],args,[]⟩).Shaped prog:=World.shaped_of_ZipB (by kernel_rfl) (by kernel_rfl)
theorem Zbsz {H:Type} {enc:TypeId×Value->H} {os:Os} {f:FuncId} {fn:Func} {s:OpenSpec} {conds:List PathCond} {apart:Bool} (args:Array Value)
  (hok:Input.okWideB prog ((World.laidAll prog os Zwu).forCall (λ_ _=>0) ⟨#[],args,[]⟩) f ⟨#[],args,[]⟩=true)
  (hrow:s.preRow enc prog fn conds apart Zwu ((World.laidAll prog os Zwu).forCall (λ_ _=>0) ⟨#[],args,[]⟩).memory args):
  ∃(w:World) (tape:Tape) (i:Input),w.os=os/\(w.forCall tape i).Shaped prog/\i.vars = []/\Input.okWide prog (w.forCall tape i) .any w.heap.size f i/\
   s.preRow enc prog fn conds apart Zwu (w.forCall tape i).memory i.args/\({}:Assume).holds prog (lone (Frame.enter prog f i.args .normal) [] (w.forCall tape i)):=
 ⟨World.laidAll prog os Zwu,λ_ _=>0,⟨#[],args,[]⟩,World.laidAll_os _ _ _,Zbta os args,(Input.okWide_of_okWideB (base:=0) hok).1,(Input.okWide_of_okWideB hok).2,hrow,by
  simp only[Assume.holds];exact⟨by simp,by simp,λh=>by simp at h,by simp,by simp⟩⟩
theorem sA {α:Type} {l:List α} {i:Nat} {a:α}:l.toArray.setIfInBounds i a=(l.set i a).toArray:=List.setIfInBounds_toArray ..
theorem sZ {α:Type} {x:α} {l:List α} {b:α}:(x::l).set 0 b=b::l:=rfl
theorem sS {α:Type} {x:α} {l:List α} {n:Nat} {b:α}:(x::l).set (n+1) b=x::l.set n b:=rfl
section
variable {P:Program} {ops:Array Oper} {Q:Exit->Act->World->Prop} {md:Region.Mode} {S:World->Prop}
theorem tkH (i:Nat) {oi:Oper} {v:Value} {fuel:Nat} {listed:Array Bool} {a:Act} {w:World} (y:∀w,S w->(execOp a.eval oi).run P w = .ok (.value v) w)
  (h:wpAnyH P md ops Q S fuel (listed.setIfInBounds i true) (a.put oi.dst v) w)
  (hi:ops[i]? =some oi:=by simp only[List.getElem?_toArray,List.getElem?_cons_succ,List.getElem?_cons_zero];rfl)
  (hs:Region.noSelect ops=true:=by kernel_rfl) (hf:Region.free md ops listed i=true:=by kernel_rfl) (hr:(Region.ready md ops listed).contains i=true:=by kernel_rfl)
  (hQ:∀c a w,Q (.panic c) (a.put oi.dst v) w->Q (.panic c) a w:=by exact λ_ _ _ h=>h) (hw:Region.wanted oi (yielded ops a.tmps)=true:=by rfl) (hS:S w:=by assumption):wpAnyH P md ops Q S (fuel+1) listed a w:=
 wpAnyH_take hi hs hf hr hQ (Or.inl ⟨hw,y⟩) hS h
theorem tkK (i:Nat) {oi:Oper} {v:Value} {fuel:Nat} {listed:Array Bool} {a:Act} {w:World} (h:wpAnyH P md ops Q S fuel (listed.setIfInBounds i true) (a.put oi.dst v) w)
  (hi:ops[i]? =some oi:=by simp only[List.getElem?_toArray,List.getElem?_cons_succ,List.getElem?_cons_zero];rfl)
  (y:∀w,S w->(execOp a.eval oi).run P w = .ok (.value v) w:=by intro w hSw;go_simp;try with_reducible rfl)
  (hs:Region.noSelect ops=true:=by kernel_rfl) (hf:Region.free md ops listed i=true:=by kernel_rfl) (hr:(Region.ready md ops listed).contains i=true:=by kernel_rfl)
  (hQ:∀c a w,Q (.panic c) (a.put oi.dst v) w->Q (.panic c) a w:=by exact λ_ _ _ h=>h) (hw:Region.wanted oi (yielded ops a.tmps)=true:=by rfl) (hS:S w:=by assumption):wpAnyH P md ops Q S (fuel+1) listed a w:=
 wpAnyH_take hi hs hf hr hQ (Or.inl ⟨hw,y⟩) hS h
theorem tuH (i:Nat) {oi:Oper} {fuel:Nat} {listed:Array Bool} {a:Act} {w:World} (h:wpAnyH P md ops Q S fuel (listed.setIfInBounds i true) (a.put oi.dst undef) w)
  (hi:ops[i]? =some oi:=by simp only[List.getElem?_toArray,List.getElem?_cons_succ,List.getElem?_cons_zero];rfl)
  (hs:Region.noSelect ops=true:=by kernel_rfl) (hf:Region.free md ops listed i=true:=by kernel_rfl) (hr:(Region.ready md ops listed).contains i=true:=by kernel_rfl)
  (hQ:∀c a w,Q (.panic c) (a.put oi.dst undef) w->Q (.panic c) a w:=by exact λ_ _ _ h=>h) (hw:Region.wanted oi (yielded ops a.tmps)=false:=by rfl) (hS:S w:=by assumption):wpAnyH P md ops Q S (fuel+1) listed a w:=
 wpAnyH_take hi hs hf hr hQ (Or.inr ⟨hw,rfl⟩) hS h
theorem rdH (rs:List Nat) {fuel:Nat} {listed:Array Bool} {a:Act} {w:World} (h:AllReadyH P md ops Q S fuel listed a w rs) (hr:Region.ready md ops listed=rs:=by kernel_rfl) (hne:rs≠[]:=by simp):wpAnyH P md ops Q S (fuel+1) listed a w:=wpAnyH_ready hr hne h
theorem rcH {fuel:Nat} {listed:Array Bool} {a:Act} {w:World} {i:Nat} {o:Oper} {rs:List Nat}
 (h:∀K':Act->World->Prop,Shut (∀a w,S w->(S w->wpAnyH P md ops Q S fuel (listed.setIfInBounds i true) a w)->K' a w)->if Region.wanted o (yielded ops a.tmps)=true then Oper.wp P o a w K' Q else K' (a.put o.dst undef) w)
 (hs:AllReadyH P md ops Q S fuel listed a w rs) (ho:ops[i]? =some o:=by simp only[List.getElem?_toArray,List.getElem?_cons_succ,List.getElem?_cons_zero];rfl):AllReadyH P md ops Q S fuel listed a w (i::rs):=AllReadyH.cons ho h hs
end
end Go.Proofs.YtokogjhcidkckaaGreatDoor
namespace Go.Proofs.YtokogjhcidkckaaGreatDoor.Exe
open Go.Lib (hid)
open Go.Proofs.Tryz
open Go
structure Ent where
 b:Nat
 sh:Nat
 S:Nat
 t:TypeId
abbrev Ren:=Nat->Option Ent
def exN (n:Nat):Bool:=Nat.beq (n % 2) 0
def atom:Value->Bool
 | .bool _=>true
 | .int _ _=>true
 | .float _ _=>true
 | .complex _ _ _=>true
 | .string _=>true
 | .pointer none=>true
 | .slice none _ _=>true
 | .map none=>true
 | .chan none=>true
 | .nilFunc=>true
 | .nilIface=>true
 | _=>false
def CapR (p c S z:Nat):Prop:=p<=S/\(z=2->0<c->p=S)/\c<=9223372036854775807
inductive ValR (Z:TypeId->Nat) (r:Ren):Value->Value->Prop
 | same {v:Value} (h:atom v=true):ValR Z r v v
 | ptr {n o:Nat} {e:Ent} (h:r n=some e):ValR Z r (.pointer (some ⟨n,o,none⟩)) (.pointer (some ⟨e.b,o+e.sh,none⟩))
 | slice {n o l c c':Nat} {e:Ent} (h:r n=some e) (hc:c<=c') (he:exN n=true->c'=c) (hr:exN n=false->CapR (o+e.sh+c'*Z e.t) c' e.S (Z e.t)):
  ValR Z r (.slice (some ⟨n,o,none⟩) l c) (.slice (some ⟨e.b,o+e.sh,none⟩) l c')
 | void {n o o' c':Nat} {e:Ent} (h:r n=some e) (hx:exN n=false) (hv:c'=0∨(o'=o+e.sh/\CapR (o+e.sh+c'*Z e.t) c' e.S (Z e.t))):
  ValR Z r (.slice (some ⟨n,o,some 0⟩) 0 0) (.slice (some ⟨e.b,o',none⟩) 0 c')
 | map {n:Nat} {e:Ent} (h:r n=some e):ValR Z r (.map (some n)) (.map (some e.b))
 | func {f:FuncId} {xs ys us vs:Array Value} (h1:xs.size=ys.size) (h2:∀(i:Nat) x y,xs[i]? =some x->ys[i]? =some y->ValR Z r x y)
  (h3:us.size=vs.size) (h4:∀(i:Nat) x y,us[i]? =some x->vs[i]? =some y->ValR Z r x y):ValR Z r (.func (.func f) xs us) (.func (.func f) ys vs)
 | yield {n:Nat} {e:Ent} (h:r n=some e):ValR Z r (.func (.yield n) #[] #[]) (.func (.yield e.b) #[] #[])
 | iface {t:TypeId} {x y:Value} (h:ValR Z r x y):ValR Z r (.iface t x) (.iface t y)
 | agg {xs ys:Array Value} (h1:xs.size=ys.size) (h2:∀(i:Nat) x y,xs[i]? =some x->ys[i]? =some y->ValR Z r x y):ValR Z r (.agg xs) (.agg ys)
 | tuple {xs ys:Array Value} (h1:xs.size=ys.size) (h2:∀(i:Nat) x y,xs[i]? =some x->ys[i]? =some y->ValR Z r x y):ValR Z r (.tuple xs) (.tuple ys)
def Ext (r s:Ren):Prop:=∀n e,r n=some e->s n=some e
theorem Ext.refl (r:Ren):Ext r r:=λ_ _ h=>h
theorem Ext.trans {r s t:Ren} (h:Ext r s) (k:Ext s t):Ext r t:=λn e x=>k n e (h n e x)
variable {Z:TypeId->Nat} {r s:Ren}
theorem ValR.mono {x y:Value} (h:ValR Z r x y) (hx:Ext r s):ValR Z s x y:=by
 induction h with
 | same h=>exact .same h
 | ptr h=>exact .ptr (hx _ _ h)
 | slice h hc he hr=>exact .slice (hx _ _ h) hc he hr
 | void h hy hv=>exact .void (hx _ _ h) hy hv
 | map h=>exact .map (hx _ _ h)
 | func h1 _ h3 _ i2 i4=>exact .func h1 i2 h3 i4
 | yield h=>exact .yield (hx _ _ h)
 | iface _ ih=>exact .iface ih
 | agg h1 _ ih=>exact .agg h1 ih
 | tuple h1 _ ih=>exact .tuple h1 ih
def ValsR (Z:TypeId->Nat) (r:Ren) (xs ys:List Value):Prop:=xs.length=ys.length/\∀(i:Nat) x y,xs[i]? =some x->ys[i]? =some y->ValR Z r x y
theorem ValsR.nil:ValsR Z r [] []:=⟨rfl,λi x y h=>by simp at h⟩
theorem ValsR.cons {x y:Value} {xs ys:List Value} (h:ValR Z r x y) (hs:ValsR Z r xs ys):ValsR Z r (x::xs) (y::ys):=by
 refine⟨by simp[hs.1],λi a b ha hb=>?_⟩
 cases i with
 | zero=>simp at ha hb;subst ha;subst hb;exact h
 | succ i=>exact hs.2 i a b (by simpa using ha) (by simpa using hb)
theorem ValsR.head {x:Value} {xs ys:List Value} (h:ValsR Z r (x::xs) ys):∃y zs,ys=y::zs/\ValR Z r x y/\ValsR Z r xs zs:=by
 cases ys with
 | nil=>have:=h.1;simp at this
 | cons y zs=>exact⟨y,zs,rfl,h.2 0 _ _ rfl rfl,by have:=h.1;simpa using this,λi a b ha hb=>h.2 (i+1) a b (by simpa using ha) (by simpa using hb)⟩
theorem ValsR.mono {xs ys:List Value} (h:ValsR Z r xs ys) (hx:Ext r s):ValsR Z s xs ys:=⟨h.1,λi x y a b=>(h.2 i x y a b).mono hx⟩
theorem ValsR.append {xs ys us vs:List Value} (h:ValsR Z r xs ys) (k:ValsR Z r us vs):ValsR Z r (xs++us) (ys++vs):=by
 induction xs generalizing ys with
 | nil=>have:=h.1;cases ys<;>simp_all
 | cons x xs ih=>obtain⟨y,zs,rfl,h1,h2⟩:=h.head;exact(ih h2).cons h1
theorem ValsR.drop {xs ys:List Value} (h:ValsR Z r xs ys) (n:Nat):ValsR Z r (xs.drop n) (ys.drop n):=
 ⟨by simp[h.1],λi x y a b=>h.2 (n+i) x y (by simpa using a) (by simpa using b)⟩
theorem ValsR.take {xs ys:List Value} (h:ValsR Z r xs ys) (n:Nat):ValsR Z r (xs.take n) (ys.take n):=by
 refine⟨by simp[h.1],λi x y a b=>?_⟩;rw[List.getElem?_take]at a b;split at a
 ·rw[if_pos (by assumption)]at b;exact h.2 i x y a b
 ·cases a
theorem ValR.aggL {xs ys:List Value} (h:ValsR Z r xs ys):ValR Z r (.agg xs.toArray) (.agg ys.toArray):= .agg (by simpa using h.1) (λi x y a b=>h.2 i x y (by simpa using a) (by simpa using b))
theorem ValR.tupleL {xs ys:List Value} (h:ValsR Z r xs ys):ValR Z r (.tuple xs.toArray) (.tuple ys.toArray):= .tuple (by simpa using h.1) (λi x y a b=>h.2 i x y (by simpa using a) (by simpa using b))
theorem ValR.undef:ValR Z r undef undef:= .tuple rfl (λi x y h=>by simp at h)
def flat:Nat->Value->Bool
 | 0,_=>false
 | n+1,v=>match v with
  | .agg xs=>xs.toList.all (flat n)
  | .tuple xs=>xs.toList.all (flat n)
  | .iface _ x=>flat n x
  | .func (.func _) xs ys=>xs.toList.all (flat n)&&ys.toList.all (flat n)
  | v=>atom v
theorem Zcqk:∀(n:Nat) {x y:Value},flat n x=true->ValR Z r x y->y=x
 | 0,_,_,h,_=>by simp[flat]at h
 | n+1,x,y,h,hv=>by
  have arr:∀ {xs ys:Array Value},xs.toList.all (flat n)=true->xs.size=ys.size->(∀(i:Nat) x y,xs[i]? =some x->ys[i]? =some y->ValR Z r x y)->ys=xs:=by
   intro xs ys ha hs hr;apply Array.ext hs.symm;intro i h1 h2;exact Zcqk n (List.all_eq_true.1 ha _ (by simp)) (hr i xs[i] ys[i] (by simp) (by simp))
  cases hv with
  | same _=>rfl
  | ptr _=>simp[flat,atom]at h
  | slice _ _ _ _=>simp[flat,atom]at h
  | void _ _ _=>simp[flat,atom]at h
  | map _=>simp[flat,atom]at h
  | yield _=>simp[flat,atom]at h
  | iface hx=>simp only[flat]at h;rw[Zcqk n h hx]
  | agg h1 h2=>simp only[flat]at h;rw[arr h h1 h2]
  | tuple h1 h2=>simp only[flat]at h;rw[arr h h1 h2]
  | func h1 h2 h3 h4=>simp only[flat,Bool.and_eq_true]at h;rw[arr h.1 h1 h2,arr h.2 h3 h4]
theorem Zcql:∀(n:Nat) {x:Value},flat n x=true->ValR Z r x x
 | 0,_,h=>by simp[flat]at h
 | n+1,x,h=>by
  have arr:∀ {xs:Array Value},xs.toList.all (flat n)=true->∀(i:Nat) x y,xs[i]? =some x->xs[i]? =some y->ValR Z r x y:=by
   intro xs ha i x y hx hy;obtain rfl:=Option.some.inj (hx.symm.trans hy);exact Zcql n (List.all_eq_true.1 ha _ (by simpa using Array.mem_of_getElem? hx))
  cases x with
  | agg xs=>exact .agg rfl (arr h)
  | tuple xs=>exact .tuple rfl (arr h)
  | iface t v=>exact .iface (Zcql n h)
  | func fn xs ys=>
   cases fn with
   | func f=>simp only[flat,Bool.and_eq_true]at h;exact .func rfl (arr h.1) rfl (arr h.2)
   | _=>simp[flat,atom]at h
  | _=>exact .same h
theorem Zcna {x y:Value} (h:atom x=true) (hv:ValR Z r x y):y=x:=by
 cases hv<;>first|rfl|simp[atom]at h
inductive Tr where
 | lf
 | nd (v:Value) (a b:Tr)
def Tr.get:Tr->Nat->Value
 | .lf,_=>undef
 | .nd v a b,k=>match k with
  | 0=>v
  | k+1=>bif Nat.beq (k % 2) 0 then a.get (k/2)else b.get (k/2)
def Tr.put:Nat->Tr->Nat->Value->Tr
 | 0,t,_,_=>t
 | f+1,t,k,v=>match t with
  | .lf=>match k with
   | 0=> .nd v .lf .lf
   | k+1=>bif Nat.beq (k % 2) 0 then .nd undef (Tr.put f .lf (k/2) v) .lf else .nd undef .lf (Tr.put f .lf (k/2) v)
  | .nd u a b=>match k with
   | 0=> .nd v a b
   | k+1=>bif Nat.beq (k % 2) 0 then .nd u (Tr.put f a (k/2) v) b else .nd u a (Tr.put f b (k/2) v)
structure Env where
 t:Tr
 n:Nat
def Env.put (e:Env):Option Tmp->Value->Env
 | none,_=>e
 | some d,v=>bif Nat.blt d e.n then { e with t:=Tr.put 24 e.t d v } else e
inductive CO where
 | cells (cs:List Value) (t:TypeId) (hi:Nat) (ro:Bool)
 | map (es:List (Value×Value×Nat)) (clock:Nat) (ro:Bool)
 | loop (st:LoopState) (pend:Option Code) (e:Env) (ps:Array Tmp) (asg body:Code) (ro:Bool)
def CO.ro:CO->Bool
 | .cells _ _ _ b=>b
 | .map _ _ b=>b
 | .loop _ _ _ _ _ _ b=>b
abbrev Hp:=List (Nat×CO)
def look:Hp->Nat->Option CO
 | [],_=>none
 | (k,o)::h,n=>bif Nat.beq k n then some o else look h n
def upd:Hp->Nat->CO->Hp
 | [],_,_=>[]
 | (k,o')::h,n,o=>bif Nat.beq k n then(k,o)::h else(k,o')::upd h n o
def del:Hp->Nat->Hp
 | [],_=>[]
 | (k,o')::h,n=>bif Nat.beq k n then del h n else(k,o')::del h n
theorem Zcnc {a b:Nat}:Nat.beq a b=true↔a=b:=⟨Nat.eq_of_beq_eq_true,λh=>by subst h;exact Nat.beq_refl a⟩
theorem Zcnd {a b:Nat}:Nat.beq a b=false↔a≠b:=by rw[<-Bool.not_eq_true,Zcnc]
theorem Zcsc (h:Hp) (n:Nat) (o:CO) (m:Nat):look (upd h n o) m=if m=n then(look h n).map (λ_=>o)else look h m:=by
 induction h with
 | nil=>simp[upd,look]
 | cons p h ih=>
  obtain⟨k,o'⟩:=p;simp only[upd]
  cases hk:Nat.beq k n with
  | true=>
   obtain rfl:=Zcnc.1 hk;simp only[cond_true,look]
   by_cases hm:m=k
   ·subst hm;simp[Nat.beq_refl]
   ·have:Nat.beq k m=false:=Zcnd.2 (λe=>hm e.symm)
    simp[this,hm]
  | false=>
   simp only[cond_false,look]
   cases hm:Nat.beq k m with
   | true=>
    obtain rfl:=Zcnc.1 hm;have:k≠n:=Zcnd.1 hk;simp[this]
   | false=>simp only[cond_false];rw[ih,hk];simp
theorem Zcrw (h:Hp) (n m:Nat):look (del h n) m=if m=n then none else look h m:=by
 induction h with
 | nil=>simp[del,look]
 | cons p h ih=>
  obtain⟨k,o'⟩:=p;simp only[del]
  cases hk:Nat.beq k n with
  | true=>
   obtain rfl:=Zcnc.1 hk;simp only[cond_true,look,ih]
   by_cases hm:m=k
   ·simp[hm]
   ·have:Nat.beq k m=false:=Zcnd.2 (λe=>hm e.symm)
    simp[this,hm]
  | false=>
   simp only[cond_false,look,ih]
   cases hm:Nat.beq k m with
   | true=>obtain rfl:=Zcnc.1 hm;have:k≠n:=Zcnd.1 hk;simp[this]
   | false=>simp
theorem Zcrv (h:Hp) (n:Nat) (o:CO) (m:Nat):look ((n,o)::h) m=if m=n then some o else look h m:=by
 simp only[look]
 cases hm:Nat.beq n m with
 | true=>obtain rfl:=Zcnc.1 hm;simp
 | false=>have:=Zcnd.1 hm;simp[Ne.symm this]
def FzR (f:Nat×Nat) (hi sh:Nat):Prop:=(f.2<=hi+sh∨9223372036854775808<=hi)/\(hi+sh=0->f=(0,0))
theorem FzR.zero {hi sh:Nat}:FzR (0,0) hi sh:=⟨.inl (Nat.zero_le _),λ_=>rfl⟩
def Zcqz:List Value->Bool
 | .slice _ _ _::_=>true
 | _=>false
def FzS (f:Nat×Nat) (hi:Nat) (cs:List Value) (sh:Nat):Prop:=FzR f hi sh/\(sh=0∨Zcqz cs=true)
theorem FzS.zero {k:Nat} {cs:List Value}:FzS (0,0) k cs 0:=⟨FzR.zero,.inl rfl⟩
def ObjR (Z:TypeId->Nat) (r:Ren) (n:Nat) (e:Ent):CO->Obj->Prop
 | .cells cs t hi _,.cells cs' t' f=>t'=t/\e.t=t/\cs'.size=e.S/\cs.length+e.sh<=e.S/\(exN n=true->e.sh=0/\cs.length=e.S)/\
  (∀i v,cs[i]? =some v->∃v',cs'[i+e.sh]? =some v'/\ValR Z r v v')/\FzS f hi cs e.sh
 | .map es k _,.map es' k'=>k'=k/\es.length=es'.size/\∀(i:Nat) (x:Value×Value×Nat) (y:MapEntry),es[i]? =some x->es'[i]? =some y->(y.key=x.1/\flat 3 x.1=true)/\ValR Z r x.2.1 y.val/\y.born=x.2.2
 | .loop st pend en ps asg body _,.loop L=>(L.state=st/\L.pending=pend/\L.params=ps/\L.assign=asg/\L.body=body)/\L.tmps.size=en.n/\en.n<16000000/\∀k,ValR Z r (en.t.get k) (L.tmps.getD k undef)
 | _,_=>False
structure Rep (N:Nat->Prop) (Z:TypeId->Nat) (G:Nat) (r:Ren) (h:Hp) (w:World):Prop where
 obj:∀n o,look h n=some o->∃e,r n=some e/\∃o',w.heap[e.b]? =some o'/\ObjR Z r n e o o'
 inj:∀n m o p en em,look h n=some o->look h m=some p->r n=some en->r m=some em->en.b=em.b->n=m
 low:∀n e,r n=some e->e.b<w.heap.size
 new:∀n,N n->r n=none
 glo:∀g,g<G->∃e,r (2*g)=some e/\e.b=g/\e.sh=0
def Own (r:Ren) (h:Hp) (b:Nat):Prop:=∃n o e,look h n=some o/\o.ro=false/\r n=some e/\e.b=b
def Live (r:Ren) (h:Hp) (b:Nat):Prop:=∃n o e,look h n=some o/\r n=some e/\e.b=b
theorem Own.live {r:Ren} {h:Hp} {b:Nat} (k:Own r h b):Live r h b:=let ⟨n,o,e,a,_,c,d⟩:=k;⟨n,o,e,a,c,d⟩
structure Nx (r:Ren) (h:Hp) (w:World) (r1:Ren) (h1:Hp) (w1:World):Prop where
 ext:Ext r r1
 size:w.heap.size<=w1.heap.size
 frame:∀b,b<w.heap.size->¬Own r h b->w1.heap[b]? =w.heap[b]?
 own:∀b,b<w.heap.size->Own r1 h1 b->Own r h b
 live:∀b,b<w.heap.size->Live r1 h1 b->Live r h b
 os:w1.os=w.os
 tape:w1.tape=w.tape
 output:w1.output=w.output
theorem Nx.refl (r:Ren) (h:Hp) (w:World):Nx r h w r h w:=⟨Ext.refl r,Nat.le_refl _,λ_ _ _=>rfl,λ_ _ k=>k,λ_ _ k=>k,rfl,rfl,rfl⟩
theorem Nx.trans {r h w r1 h1 w1 r2 h2 w2} (a:Nx r h w r1 h1 w1) (b:Nx r1 h1 w1 r2 h2 w2):Nx r h w r2 h2 w2:=
 ⟨a.ext.trans b.ext,Nat.le_trans a.size b.size,λx hx hn=>by rw[b.frame x (Nat.lt_of_lt_of_le hx a.size) (λk=>hn (a.own x hx k)),a.frame x hx hn],
  λx hx k=>a.own x hx (b.own x (Nat.lt_of_lt_of_le hx a.size) k),λx hx k=>a.live x hx (b.live x (Nat.lt_of_lt_of_le hx a.size) k),b.os.trans a.os,b.tape.trans a.tape,b.output.trans a.output⟩
theorem ObjR.mono {n:Nat} {e:Ent} {o:CO} {o':Obj} (h:ObjR Z r n e o o') (hx:Ext r s):ObjR Z s n e o o':=by
 cases o<;>cases o'<;>simp only[ObjR]at h⊢
 ·obtain⟨h1,h2,h3,h4,h5,h6,h7⟩:=h
  exact⟨h1,h2,h3,h4,h5,λi v hv=>let ⟨v',a,b⟩:=h6 i v hv;⟨v',a,b.mono hx⟩,h7⟩
 ·obtain⟨h1,h2,h3⟩:=h
  exact⟨h1,h2,λi x y a b=>let ⟨p,q,t⟩:=h3 i x y a b;⟨p,q.mono hx,t⟩⟩
 ·exact⟨h.1,h.2.1,h.2.2.1,λk=>(h.2.2.2 k).mono hx⟩
end Go.Proofs.YtokogjhcidkckaaGreatDoor.Exe
namespace Go.Proofs.YtokogjhcidkckaaGreatDoor.Exe
open Go.Lib (hid)
open Go.Proofs.Tryz
open Go
theorem Tr.get_lf (k:Nat):Tr.get .lf k=undef:=by cases k<;>rfl
theorem half {a b:Nat} (h:a % 2=b % 2):a/2=b/2↔a=b:=by omega
theorem Tr.get_put:∀(f:Nat) (t:Tr) (k:Nat) (v:Value) (j:Nat),k+1<2^f->(Tr.put f t k v).get j=if j=k then v else t.get j:=by
 intro f
 induction f with
 | zero=>intro t k v j h;simp at h
 | succ f ih=>
  intro t k v j h;have hk:∀m,k=m+1->m/2+1<2^f:=by intro m hm;subst hm;rw[Nat.pow_succ]at h;omega
  cases t with
  | lf=>
   cases k with
   | zero=>cases j<;>simp[Tr.put,Tr.get]
   | succ k=>
    have:=hk k rfl;simp only[Tr.put]
    cases hp:Nat.beq (k % 2) 0 with
    | true=>
     have hp':=Zcnc.1 hp;simp only[cond_true]
     cases j with
     | zero=>simp[Tr.get]
     | succ j=>
      simp only[Tr.get]
      cases hq:Nat.beq (j % 2) 0 with
      | true=>simp only[cond_true];rw[ih _ _ _ _ this];simp only[half ((Zcnc.1 hq).trans hp'.symm),Nat.add_right_cancel_iff,Tr.get_lf]
      | false=>
        have:j≠k:=λe=>by subst e;rw[hp]at hq;cases hq
        simp[this]
    | false=>
     have hp':=Zcnd.1 hp;simp only[cond_false]
     cases j with
     | zero=>simp[Tr.get]
     | succ j=>
      simp only[Tr.get]
      cases hq:Nat.beq (j % 2) 0 with
      | false=>
        have hq':=Zcnd.1 hq;simp only[cond_false];rw[ih _ _ _ _ this];simp only[half (a:=j) (b:=k) (by omega),Nat.add_right_cancel_iff,Tr.get_lf]
      | true=>
       have:j≠k:=λe=>by subst e;rw[hp]at hq;cases hq
       simp[this]
  | nd u a b=>
   cases k with
   | zero=>cases j<;>simp[Tr.put,Tr.get]
   | succ k=>
    have:=hk k rfl;simp only[Tr.put]
    cases hp:Nat.beq (k % 2) 0 with
    | true=>
     have hp':=Zcnc.1 hp;simp only[cond_true]
     cases j with
     | zero=>simp[Tr.get]
     | succ j=>
      simp only[Tr.get]
      cases hq:Nat.beq (j % 2) 0 with
      | true=>simp only[cond_true];rw[ih _ _ _ _ this];simp only[half ((Zcnc.1 hq).trans hp'.symm),Nat.add_right_cancel_iff]
      | false=>
        have:j≠k:=λe=>by subst e;rw[hp]at hq;cases hq
        simp[this]
    | false=>
     have hp':=Zcnd.1 hp;simp only[cond_false]
     cases j with
     | zero=>simp[Tr.get]
     | succ j=>
      simp only[Tr.get]
      cases hq:Nat.beq (j % 2) 0 with
      | false=>
        have hq':=Zcnd.1 hq;simp only[cond_false];rw[ih _ _ _ _ this];simp only[half (a:=j) (b:=k) (by omega),Nat.add_right_cancel_iff]
      | true=>
       have:j≠k:=λe=>by subst e;rw[hp]at hq;cases hq
       simp[this]
def EnvR (Z:TypeId->Nat) (r:Ren) (e:Env) (a:Act):Prop:=a.tmps.size=e.n/\e.n<16000000/\∀k,ValR Z r (e.t.get k) (a.tmps.getD k undef)
theorem EnvR.mono {Z r s e a} (h:EnvR Z r e a) (hx:Ext r s):EnvR Z s e a:=⟨h.1,h.2.1,λk=>(h.2.2 k).mono hx⟩
theorem EnvR.put {Z r e a} (h:EnvR Z r e a) {v v':Value} (hv:ValR Z r v v') (d:Option Tmp):EnvR Z r (e.put d v) (a.put d v'):=by
 cases d with
 | none=>exact h
 | some d=>
  obtain⟨h1,h2,h3⟩:=h;obtain⟨d,rfl⟩:∃k:Nat,k=d:=⟨d,rfl⟩;simp only[Env.put,Act.put]
  cases hd:Nat.blt d e.n with
  | false=>
   have hle:¬d<e.n:=λk=>by
      have:Nat.blt d e.n=true:=Nat.ble_eq_true_of_le k;rw[this]at hd;cases hd
   simp only[cond_false];refine⟨by simpa using h1,h2,λk=>?_⟩;have:a.tmps.setIfInBounds d v'=a.tmps:=Array.setIfInBounds_eq_of_size_le (by omega);rw[this];exact h3 k
  | true=>
   have hlt:d<e.n:=Nat.le_of_ble_eq_true hd;simp only[cond_true];refine⟨by simpa using h1,h2,λk=>?_⟩;rw[Tr.get_put 24 _ _ _ _ (by
     have:(2:Nat)^24=16777216:=by decide
     omega)]
   by_cases hk:k=d
   ·subst hk;simp[h1,hlt];exact hv
   ·rw[if_neg hk]
    have:=h3 k;simpa[Array.getElem?_setIfInBounds_ne (Ne.symm hk)]using this
abbrev Ev:=Operand->Option Value
def evC (G:Nat) (t:Tr):Ev
 | .tmp k=>some (t.get k)
 | .const v=>bif flat 4 v then some v else none
 | .global g=>bif Nat.blt g G then some (.pointer (some ⟨2*g,0,none⟩))else none
 | .func f=>some (.func (.func f) #[] #[])
theorem Zcpi {N Z G r h w e a} (hR:Rep N Z G r h w) (hE:EnvR Z r e a) {x:Operand} {v:Value} (hv:evC G e.t x=some v):ValR Z r v (a.eval x):=by
 cases x with
 | tmp k=>simp only[evC,Option.some.injEq]at hv;subst hv;exact hE.2.2 k
 | const u=>
  simp only[evC]at hv
  cases hf:flat 4 u with
  | false=>rw[hf]at hv;cases hv
  | true=>rw[hf]at hv;cases hv;exact Zcql 4 hf
 | global g=>
  simp only[evC]at hv
  cases hf:Nat.blt g G with
  | false=>rw[hf]at hv;cases hv
  | true=>
   rw[hf]at hv;cases hv;obtain⟨e,h1,h2,h3⟩:=hR.glo g (Nat.le_of_ble_eq_true hf);have:=ValR.ptr (Z:=Z) (o:=0) h1;rw[h2,h3]at this;exact this
 | func f=>simp only[evC,Option.some.injEq]at hv;subst hv;exact .func rfl (λi x y h=>by simp at h) rfl (λi x y h=>by simp at h)
def Zcua (P:Program) {α:Type}:Sem α->Option α
 | .pure a=>some a
 | .program k=>Zcua P (k P)
 | .mark _ k=>Zcua P k
 | .choose q k=>bif q.forced then Zcua P (k 0)else none
 | _=>none
theorem Zcub {P:Program} {α:Type} {s:Sem α} {v:α} (h:Zcua P s=some v) (w:World):s.run P w = .ok v w:=by
 induction s generalizing w with
 | pure a=>simp only[Zcua,Option.some.injEq]at h;subst h;rfl
 | program k ih=>exact ih _ h w
 | mark m k ih=>exact ih h w
 | choose q k ih=>
  simp only[Zcua]at h
  cases hq:q.forced with
  | false=>rw[hq]at h;cases h
  | true=>rw[hq]at h;simp only[Sem.run,hq,if_true];exact ih 0 h w
 | _=>simp[Zcua]at h
def PS (P:Program) (Z:TypeId->Nat) (r:Ren) (w0:World) (rd:Option Nat) (v:Value) (s:Sem Value):Prop:=
 ∃v',ValR Z r v v'/\∀w:World,(∀n e,rd=some n->r n=some e->w.heap[e.b]? =w0.heap[e.b]?)->s.run P w = .ok v' w
theorem PS.of {P Z r w0 v v' s} (rd:Option Nat) (hv:ValR Z r v v') (h:∀w:World,s.run P w = .ok v' w):PS P Z r w0 rd v s:=⟨v',hv,λw _=>h w⟩
theorem PS.flat {P Z r w0 v s} {k:Nat} (rd:Option Nat) (hf:Exe.flat k v=true) (h:Zcua P s=some v):PS P Z r w0 rd v s:=⟨v,Zcql k hf,λw _=>Zcub h w⟩
theorem cell_of {w:World} {b o:Nat} {cs:Array Value} {t:TypeId} {f:Nat×Nat} (h:w.heap[b]? =some (.cells cs t f)):w.cell? ⟨b,o,none⟩=cs[o]?:=by simp[World.cell?,h]
theorem Zcru {P:Program} {Z r n e cs t hi ro o'} {w:World} (ho:w.heap[e.b]? =some o') (hO:ObjR Z r n e (.cells cs t hi ro) o') {o k:Nat} (hk:o+k<=cs.length):
  ∃vs,ValsR Z r ((cs.drop o).take k) vs/\vs.length=k/\∀w1:World,w1.heap[e.b]? =some o'->(loadCells ⟨e.b,o+e.sh,none⟩ k).run P w1 = .ok vs.toArray w1:=by
 cases o' with
 | cells cs' t' f=>
  obtain⟨h1,h2,h3,h4,h5,h6,h7⟩:=hO;refine⟨(cs'.toList.drop (o+e.sh)).take k,⟨?_,?_⟩,?_,?_⟩
  ·simp;omega
  ·intro i x y hx hy
   rw[List.getElem?_take]at hx hy;split at hx
   ·rename_i hi
    rw[if_pos hi]at hy;rw[List.getElem?_drop]at hx hy;obtain⟨v',ha,hb⟩:=h6 _ _ hx;have:o+e.sh+i=o+i+e.sh:=by omega
    rw[this,Array.getElem?_toList,ha]at hy
    cases hy;exact hb
   ·cases hx
  ·simp;omega
  ·intro w1 hw1
   have hl:((cs'.toList.drop (o+e.sh)).take k).length=k:=by simp;omega
   have:=run_loadCells_list (P:=P) (w:=w1) ⟨e.b,o+e.sh,none⟩ ((cs'.toList.drop (o+e.sh)).take k) (λj v hj=>by
    rw[List.getElem?_take]at hj;split at hj
    ·rw[List.getElem?_drop,Array.getElem?_toList]at hj
     rcases Nat.eq_zero_or_pos j with rfl|hp
     ·simpa[Addr.add,cell_of hw1]using hj
     ·have hj0:j≠0:=by omega
      simpa[Addr.add,hj0,cell_of hw1]using hj
    ·cases hj)
   rw[hl]at this;exact this
 | _=>exact hO.elim
end Go.Proofs.YtokogjhcidkckaaGreatDoor.Exe
