import Derived.WalkSpells
import Derived.WalkLawsBesides
import Derived.Test.YtphjfaoghphleaaGreatDoorLays
import Derived.Room.Shelf.Join48
import Derived.Test.YtphjfaoghphleaaGreatDoorTie
import Derived.Test.YtphjfaoghphleaaGreatDoorCards
import Derived.ProofKit
import Derived.OpenShut
import Derived.Deep.DeepHandedRow
import Derived.Lib.LaidU8
import Derived.Stop.LaidErr
import Derived.Lay
import Derived.Deep.RegionHeld3
set_option maxHeartbeats 1000000
namespace Go.Proofs.YtphjfaoghphleaaGreatDoor
namespace Exe
open Go.Lib (hid)
open Go.Proofs.Tryz Go Go.RowKit
def gq:Nat:=1
def nameCells (ns:List (List UInt8)):List Value:=ns.map λb=> .string ⟨⟨b⟩⟩
structure GX (G:Nat) (T:TypeId) (ns:List (List UInt8)) (w:World):Prop where
 size:G<=w.heap.size
 row:∃cur f,w.heap[gq]? =some (.cells cur T f)/\cur.toList=nameCells ns
theorem GX.below {G p:Nat} {T:TypeId} {ns:List (List UInt8)} {w w':World} (h:GX G T ns w) (g:gq<p) (b:Below p w w'):GX G T ns w':=by
 obtain⟨c,a,f,d,e⟩:=h;exact⟨Nat.le_trans c b.size,a,f,by rw[b.block gq g];exact d,e⟩
def opNames:List (List UInt8):=[[],[99,111,112,121],[110,101,101,100],[115,111,114,116],[99,111,117,110,116],[99,111,110,99,97,116],[108,105,116,101,114,97,108],[115,101,108,101,99,116],[114,101,112,108,97,99,101],[112,114,101,102,105,120]]
end Exe
open Go.Lib (hid)
open Go.Proofs.Tryz Go.Lib
def cutAt (d:UInt8):List UInt8->List (List UInt8)
 | []=>[[]]
 | c::r=>if c=d then []::cutAt d r else
  match cutAt d r with
  | []=>[[c]]
  | p::ps=>(c::p)::ps
theorem Zlb (d:UInt8):∀s,cutAt d s≠[]
 | []=>by simp[cutAt]
 | c::r=>by
  unfold cutAt;split
  ·simp
  ·split<;>simp
theorem Zla (d:UInt8):∀s:List UInt8,d∉s->cutAt d s = [s]
 | [],_=>rfl
 | c::r,h=>by
  have a:c≠d:=λe=>h (by simp[e])
  have b:d∉r:=λe=>h (by simp[e])
  unfold cutAt;rw[if_neg a,Zla d r b]
theorem Zkx (d:UInt8):∀(a b:List UInt8),d∉a->cutAt d (a++d::b)=a::cutAt d b
 | [],b,_=>by simp[cutAt]
 | c::r,b,h=>by
  have f:c≠d:=λe=>h (by simp[e])
  have g:d∉r:=λe=>h (by simp[e])
  rw[List.cons_append,cutAt,if_neg f,Zkx d r b g]
theorem Zoz (d:UInt8):∀s:List UInt8,d∉s\/∃a b,s=a++d::b/\d∉a
 | []=> .inl (by simp)
 | c::r=>by
  by_cases e:c=d
  ·exact .inr ⟨[],r,by simp[e],by simp⟩
  ·rcases Zoz d r with h|⟨a,b,h,f⟩
   ·exact .inl (by simp[h,Ne.symm e])
   ·exact .inr ⟨c::a,b,by simp[h],by simp[f,Ne.symm e]⟩
theorem Zbcc (s:List UInt8) (d:UInt8) (j:Nat):occAt s [d] j=decide (s[j]? =some d):=by
 unfold occAt
 cases h:s.drop j with
 | nil=>
  simp_all
 | cons x l=>
  have:s[j]? =some x:=by
   have:=congrArg List.head? h;simpa using this
  grind
theorem Zsl {s:List UInt8} {d:UInt8} (h:d∉s):index s [d] = -1:=by
 grind [index_none,Zbcc]
theorem index_hit {a b:List UInt8} {d:UInt8} (h:d∉a):index (a++d::b) [d]=(a.length:Int):=by
 grind [index_first,Zbcc]
theorem Zmb (a b:List UInt8) (d:UInt8):(a++d::b).drop (a.length+1)=b:=by
 rw[<-List.drop_drop];simp
theorem Zbmz (d:UInt8):∀(n:Nat) (s:List UInt8),s.length<=n->splitK [d] 0 (count s [d]) s=cutAt d s
 | n,s,hn=>by
  rcases Zoz d s with h|⟨a,b,rfl,h⟩
  ·rw[count_miss (Zsl h),Zla d s h]
   rfl
  ·cases n with
   | zero=>simp at hn
   | succ n=>
    have hi:=index_hit (b:=b) h;rw[count_hit (by simp) hi,Zkx d a b h,Nat.add_comm,splitK,hi,if_neg (by simp)];have c:=Zbmz d n b (by simp at hn;omega);simp only[Int.toNat_natCast,List.length_cons,List.length_nil,Nat.zero_add,Nat.add_zero,Zmb];rw[c,List.take_left'];rfl
theorem Zku (d:UInt8):∀(n:Nat) (s:List UInt8),s.length<=n->count s [d]+1=(cutAt d s).length
 | n,s,hn=>by
  rcases Zoz d s with h|⟨a,b,rfl,h⟩
  ·rw[count_miss (Zsl h),Zla d s h]
   rfl
  ·cases n with
   | zero=>simp at hn
   | succ n=>
    have hi:=index_hit (b:=b) h;rw[count_hit (by simp) hi,Zkx d a b h];have c:=Zku d n b (by simp at hn;omega);simp only[List.length_cons,List.length_nil,Nat.zero_add,Zmb];omega
theorem Zbmw (d:UInt8) (s:ByteArray):(splitB ⟨#[d]⟩ 0 (countB s ⟨#[d]⟩) s).map (·.data.toList)=cutAt d s.data.toList:=by
 rw[splitB_data];exact Zbmz d _ _ (Nat.le_refl _)
theorem Zbmy (d:UInt8) (s:ByteArray):countB s ⟨#[d]⟩+1=(cutAt d s.data.toList).length:=Zku d _ _ (Nat.le_refl _)
theorem Zkz (d:UInt8):∀s:List UInt8,(cutAt d s).length<=s.length+1
 | []=>by simp[cutAt]
 | c::r=>by
  have a:=Zkz d r;unfold cutAt;split
  ·simp;omega
  ·split
   ·simp
   ·rename_i p b h;rw[h]at a;simp at a⊢;omega
theorem Zky (d:UInt8):∀s:List UInt8,∀p∈cutAt d s,p.length<=s.length
 | []=>by simp[cutAt]
 | c::r=>by
  have b:=Zky d r;unfold cutAt;split
  ·intro p a
   rcases List.mem_cons.1 a with rfl|a
   ·simp
   ·have:=b p a;simp;omega
  ·split
   ·intro p a;simp at a;simp[a]
   ·rename_i q e h
    intro p a
    rcases List.mem_cons.1 a with rfl|a
    ·have:=b q (by simp[h]);simp;omega
    ·have:=b p (by simp[h,a]);simp;omega
theorem Zkw (d:UInt8):∀(a b:List UInt8),cutAt d (a++d::b)=cutAt d a++cutAt d b
 | [],b=>by simp[cutAt]
 | c::r,b=>by
  have f:=Zkw d r b;rw[List.cons_append]
  by_cases h:c=d
  ·simp[cutAt,h,f]
  ·obtain⟨p,ps,e⟩:∃p ps,cutAt d r=p::ps:=by
    cases h:cutAt d r with
    | nil=>exact absurd h (Zlb d r)
    | cons p ps=>exact⟨p,ps,rfl⟩
   rw[cutAt,if_neg h,f,e];simp[cutAt,h,e]
theorem join_length (d:UInt8):∀(ps:List (List UInt8)),ps≠[]->(join ps [d]).length+1=(ps.map List.length).sum+ps.length
 | [],h=>absurd rfl h
 | [p],_=>by rw[join_one];simp
 | p::q::r,_=>by
  have a:=join_length d (q::r) (by simp);have e:join (p::q::r) [d]=p++d::join (q::r) [d]:=by
   rw[join_cons,join_cons];simp[joinTail]
  rw[e];simp only[List.length_append,List.length_cons,List.map_cons,List.sum_cons]at a⊢;omega
open Go.RowKit
theorem Zbho {a b:Bool} (h:a=b):Ending.returned (.bool a) = .returned (.bool b):=by rw[h]
def Zbce (c:UInt8):Bool:=decide ((97<=c.toNat/\c.toNat<=122)\/(65<=c.toNat/\c.toNat<=90)\/(48<=c.toNat/\c.toNat<=57)\/c.toNat=46\/c.toNat=95\/c.toNat=45)
theorem Zyu (c:UInt8) (w:World):
  Calls prog 292 #[.int .u8 c.toNat] w λe w'=>e = .returned (.bool (Zbce c))/\w=w':=by
 have a:c.toNat<256:=c.toNat_lt
 go_enter func292,ntmps292
 go_wp2
 all_goals go_ret
 all_goals exact⟨Zbho (by rw[Bool.eq_iff_iff];simp[Zbce];omega),rfl⟩
def isCl (l:List UInt8):Bool:=l == [114,117,108,101]||l == [105,110]||l == [111,117,116]||l == [97,102,116,101,114]
theorem Ztn (s:ByteArray) (w:World):
  Calls prog 234 #[.string s] w λe w'=>e = .returned (.bool (isCl s.data.toList))/\w=w':=by
 go_enter func234,ntmps234
 go_wp2
 all_goals go_ret
 all_goals exact⟨Zbho (by simp_all[isCl,Lib.toList_data]),rfl⟩
def Zbch (l:List UInt8):Bool:=l != []&&l != [46]&&l != [46,46]&&l.all Zbce
theorem Zbra (l:List UInt8) (p:UInt8->Bool) (k:Nat) (h:k<l.length):(l.take (k+1)).all p=((l.take k).all p&&p l[k]):=by
 rw[List.take_succ_eq_append_getElem h,List.all_append];simp
theorem Zde (l:List UInt8) (p:UInt8->Bool) (k:Nat) (h:k<l.length) (a:p l[k]=false):l.all p=false:=by
 grind
theorem Zbci {l:List UInt8} (h:¬(l = []\/l = [46]\/l = [46,46])):Zbch l=l.all Zbce:=by
 simp only[not_or]at h;simp[Zbch,h]
theorem Zyv (s:ByteArray) (w:World) (u:s.size<=maxLen):
  Calls prog 236 #[.string s] w λe w'=>e = .returned (.bool (Zbch s.data.toList))/\w=w':=by
 unfold maxLen at u;obtain⟨r,f⟩:∃r,r=Zbch s.data.toList:=⟨_,rfl⟩;rw[<-f]
 by_cases b:s.toList = []\/s.toList = [46]\/s.toList = [46,46]
 ·have t:r=false:=by
   rw[f,<-Lib.toList_data]
   rcases b with h|h|h<;>simp[Zbch,h]
  subst t;clear f
  go_enter func236,ntmps236
  by_cases o:s.toList = []
  ·go_wp2
   go_ret;exact⟨rfl,rfl⟩
  ·by_cases p:s.toList = [46]
   ·go_wp2
    go_ret;exact⟨rfl,rfl⟩
   ·have q:s.toList = [46,46]:=by rcases b with h|h|h<;>first|exact absurd h o|exact absurd h p|exact h
    clear b;go_wp2;go_ret;exact⟨rfl,rfl⟩
 ·have o:s.toList.isEmpty=false:=by rw[Bool.eq_false_iff];intro h;exact b (.inl (by simpa using h))
  have p:(s.toList == [46])=false:=by rw[Bool.eq_false_iff];intro h;exact b (.inr (.inl (by simpa using h)))
  have q:(s.toList == [46,46])=false:=by rw[Bool.eq_false_iff];intro h;exact b (.inr (.inr (by simpa using h)))
  have n:=hid (f.trans (Zbci (l:=s.data.toList) (by rw[<-Lib.toList_data];exact b)));clear f b
  go_enter func236,ntmps236
  go_wp2
  go_loop [16] (λi=>∃k:Nat,k<=s.size/\i = .int .i64 k/\(s.data.toList.take k).all Zbce=true) (λi=>s.size-(intOf i).toNat)
  case atStart=>exact⟨0,by omega,rfl,by simp⟩
  case round=>
   obtain⟨k,v,rfl,f⟩:=hrel;have m:=hid f;clear f
   by_cases j:k<s.size
   ·have d:k<s.data.toList.length:=by rw[<-Lib.size_eq];exact j
    have g:=hid (Zbra s.data.toList Zbce k d);have a:=hid (Zde s.data.toList Zbce k d);have c:=hid (show s[k]=s.data.toList[k]from rfl)
    go_wp2_with (go_at_call 292;refine(Zyu _ _).mono ?_;rintro e w' ⟨rfl,rfl⟩)
    ·go_ret
     exact⟨Zbho (by rw[n.out,a.out];rw[<-c.out];simp_all),rfl⟩
    ·go_round
     case rel=>exact⟨k+1,by omega,by go_num,by rw[g.out,m.out,<-c.out];simp_all⟩
     case measure=>simp[intOf];omega
   ·go_wp2
    go_ret;exact⟨Zbho (by have:=m.out;rw[List.take_of_length_le (by rw[<-Lib.size_eq];omega)]at this;rw[n.out,this]),rfl⟩
def Zbln:ByteArray:=⟨#[47]⟩
theorem Zbmx (s a:ByteArray) (m:Int) (w:World) (d:s.size<4294967281) (c:w.cell? ⟨0,0,none⟩=some (.int .i64 m)) (b:1<=a.size):
  Calls prog 291 #[.string s,.string a] w λe w'=>
   e = .returned (.slice (some ⟨w.heap.size,0,none⟩) (Lib.countB s a+1) (Lib.countB s a+1))/\w'=w.alloc (.cells ((Lib.splitB a 0 (Lib.countB s a) s).map Value.string).toArray 9):=
 Any.strings_Split lLays_n146 (by kernel_rfl) s a m w d c b
theorem Zbex (s:ByteArray) (m:Int) (w:World) (g:s.size<4294967281) (f:w.cell? ⟨0,0,none⟩=some (.int .i64 m)):
  Calls prog 235 #[.string s] w λe w'=>∃xs:List ByteArray,xs.map (·.data.toList)=cutAt 47 s.data.toList/\
   e = .returned (.slice (some ⟨w.heap.size,0,none⟩) xs.length xs.length)/\w'=w.alloc (.cells (xs.map Value.string).toArray 9):=by
 have b:=Zbmx s Zbln m w g f (by decide);have a:(Lib.splitB Zbln 0 (Lib.countB s Zbln) s).map (·.data.toList)=cutAt 47 s.data.toList:=Zbmw 47 s;have c:Lib.countB s Zbln+1=(Lib.splitB Zbln 0 (Lib.countB s Zbln) s).length:=by
  rw[<-List.length_map (·.data.toList),a];exact Zbmy 47 s
 rw[c]at b;generalize Lib.splitB Zbln 0 (Lib.countB s Zbln) s=xs at *;clear c;have d:=hid a;clear a
 go_enter func235,ntmps235
 go_wp2_with (go_at_call 291;refine b.mono ?_;rintro e w' ⟨rfl,rfl⟩)
 go_ret;exact⟨xs,d.out,rfl,rfl⟩
def Zbcf (l:List UInt8):Bool:=decide (l.length<=40) && !isCl l&&(cutAt 47 l).all Zbch
theorem Zdf (xs:List ByteArray) (p:List UInt8->Bool):(xs.map (·.data.toList)).all p=xs.all λx=>p x.data.toList:=by
 rw[List.all_map];rfl
theorem Zig (w:World) (xs:List ByteArray) (t:TypeId) (k:Nat) (x:ByteArray) (h:xs[k]? =some x):(w.alloc (.cells (xs.map Value.string).toArray t)).cell? ⟨w.heap.size,k,none⟩=some (.string x):=by
 rw[World.cell?_alloc_at _ _ _ _ rfl];simp[h]
theorem Zdg {α:Type} (l:List α) (p:α->Bool) (k:Nat) (x:α) (h:l[k]? =some x):(l.take (k+1)).all p=((l.take k).all p&&p x):=by
 rw[List.take_add_one,h,List.all_append];simp
theorem Zdd {α:Type} (l:List α) (p:α->Bool) (k:Nat) (x:α) (h:l[k]? =some x) (a:p x=false):l.all p=false:=by
 rw[List.all_eq_false];exact⟨x,List.mem_of_getElem? h,by simp[a]⟩
theorem Zzb (s:ByteArray) (m:Int) (w:World) (J:s.size<=maxLen) (I:w.cell? ⟨0,0,none⟩=some (.int .i64 m)):
  Calls prog 191 #[.string s] w λe w'=>e = .returned (.bool (Zbcf s.data.toList))/\Below w.heap.size w w':=by
 unfold maxLen at J;obtain⟨r,g⟩:∃r,r=Zbcf s.data.toList:=⟨_,rfl⟩;rw[<-g];have o:=hid g;clear g;have f:=hid (Lib.size_eq s)
 by_cases l:s.size<=40
 ·obtain⟨c,y⟩:∃c,isCl s.data.toList=c:=⟨_,rfl⟩
  have t:=Ztn s w;rw[y]at t;have C:=hid y;clear y
  go_enter func191,ntmps191
  cases c
  ·go_wp2_with (first
    | (go_at_call 234;refine t.mono ?_;rintro e w' ⟨rfl,rfl⟩)
    | (go_at_call 235;refine(Zbex s m w (by omega) I).mono ?_;rintro e w' ⟨a,hx,rfl,rfl⟩;have q:=hid hx;clear hx))
   have d:=congrArg List.length q.out;rw[List.length_map]at d;have A:=Zkz 47 s.data.toList;rw[<-d,<-f.out]at A;have n:∀(k:Nat) x,a[k]? =some x->x.size<=40:=by
    intro k x hx;have G:x.data.toList∈cutAt 47 s.data.toList:=by rw[<-q.out];exact List.mem_map_of_mem (List.mem_of_getElem? hx)
    have H:=Zky 47 s.data.toList _ G;rw[<-f.out]at H;rw[Lib.size_eq x];omega
   have p:=hid n;clear n d;have j:Hid (r=(a.all λx=>Zbch x.data.toList)):=by
    show r=_;rw[o.out,Zbcf,C.out,<-q.out,Zdf,decide_eq_true (by rw[<-f.out];exact l)];rfl
   go_loop [15] (λi=>∃k:Nat,k<=a.length/\i = .int .i64 k/\((a.take k).all λx=>Zbch x.data.toList)=true) (λi=>a.length-(intOf i).toNat)
   case atStart=>exact⟨0,by omega,rfl,by simp⟩
   case round=>
    obtain⟨k,L,rfl,g⟩:=hrel;have D:=hid g;clear g
    by_cases B:k<a.length
    ·obtain⟨x,hx⟩:∃x,a[k]? =some x:=⟨a[k],List.getElem?_eq_getElem B⟩
     have z:=Zig w a 9 k x hx;have K:=p.out k x hx;have E:=hid (Zdg a (λx=>Zbch x.data.toList) k x hx);have F:=hid (Zdd a (λx=>Zbch x.data.toList) k x hx);obtain⟨b,v⟩:∃b,Zbch x.data.toList=b:=⟨_,rfl⟩;have u:=Zyv x (w.alloc (.cells (a.map Value.string).toArray 9)) (by unfold maxLen;omega);rw[v]at u;have h:=hid v;clear v hx
     cases b
     ·go_wp2_with (go_at_call 236;refine u.mono ?_;rintro e w' ⟨rfl,rfl⟩)
      go_ret;exact⟨Zbho (by rw[j.out,F.out h.out]),(Below.refl _ _).alloc (Nat.le_refl _) _⟩
     ·go_wp2_with (go_at_call 236;refine u.mono ?_;rintro e w' ⟨rfl,rfl⟩)
      go_round
      case rel=>exact⟨k+1,by omega,by go_num,by rw[E.out,D.out,h.out];rfl⟩
      case measure=>simp[intOf];omega
    ·go_wp2
     go_ret;exact⟨Zbho (by have:=D.out;rw[List.take_of_length_le (by omega)]at this;rw[j.out,this]),(Below.refl _ _).alloc (Nat.le_refl _) _⟩
  ·go_wp2_with (first
    | (go_at_call 234;refine t.mono ?_;rintro e w' ⟨rfl,rfl⟩))
   go_ret;exact⟨Zbho (by rw[o.out,Zbcf,C.out];simp),Below.refl _ _⟩
 ·go_enter func191,ntmps191
  go_wp2;go_ret;exact⟨Zbho (by rw[o.out,Zbcf,decide_eq_false (by rw[<-f.out];exact l)];simp),Below.refl _ _⟩
def IsStrs (w:World) (v:Value) (xs:List ByteArray):Prop:=
 ∃a c,v = .slice a xs.length c/\xs.length<=c/\c<=maxLen/\(xs≠[]->∃b o,a=some ⟨b,o,none⟩/\b<w.heap.size/\∀(j:Nat) x,xs[j]? =some x->w.cell? ⟨b,o+j,none⟩=some (.string x))
theorem Zsy:(prog.info? 9).map (λi=>(i.zero,i.size,i.bytes))=some (some (.string ByteArray.empty),1,16):=by kernel_rfl
theorem Zie {w:World} {a:Addr} {v:Value} (h:w.cell? a=some v):a.block<w.heap.size:=by
 rcases Nat.lt_or_ge a.block w.heap.size with b|b
 ·exact b
 ·simp[World.cell?,Array.getElem?_eq_none b]at h
theorem Zbqq {w:World} {B:Nat} {v:Value} {xs:List ByteArray} (h:w.ownsRow B 9 1 v xs.length (xs.map Value.string)):IsStrs w v xs:=by
 rcases h with⟨_,⟨rfl,e⟩|⟨g,a,b,rfl,l,d,i,f,m,k⟩⟩
 ·obtain rfl:xs = []:=List.eq_nil_of_length_eq_zero e
  exact⟨none,0,rfl,by simp,by simp[maxLen],λh=>absurd rfl h⟩
 ·refine⟨_,a,rfl,i,f,λ_=>⟨g,0,rfl,?_,λj x hx=>?_⟩⟩
  ·rcases Nat.lt_or_ge g w.heap.size with c|c
   ·exact c
   ·rw[Array.getElem?_eq_none c]at d;cases d
  ·have:(b.toList.take (xs.length*1))[j]? =some (.string x):=by rw[k];simp[hx]
   rw[List.getElem?_take]at this;split at this
   ·simp only[World.cell?,d,Nat.zero_add]
    simpa using this
   ·cases this
theorem IsStrs.below {w w':World} {v:Value} {xs:List ByteArray} (h:IsStrs w v xs) (g:Below w.heap.size w w'):IsStrs w' v xs:=by
 obtain⟨a,c,rfl,i,d,k⟩:=h;refine⟨a,c,rfl,i,d,λe=>?_⟩;obtain⟨b,o,rfl,f,l⟩:=k e;exact⟨b,o,rfl,Nat.lt_of_lt_of_le f g.size,λj x hx=>(g.cell f).trans (l j x hx)⟩
def nonE (ls:List (List UInt8)):List (List UInt8):=ls.filter λl=> !l.isEmpty
def Zus (ls:List (List UInt8)):List UInt8:=Lib.join (nonE ls) [47]
open Go.ChangeShapes Go.WideShapes Go.ChangeAt
theorem own:ownKnob prog.godebug=none:=by kernel_rfl
abbrev Zwu:List (String×DataW Unit):=Rows.graphAllRow.laid
theorem Zin {H:Type} {g:TypeId×Value->H} {P:Program} {w:World} {base:Nat} {E:Nat->Bool} {c:Bool} {a:Nat} {t e:TypeId} {n:Nat} {f:List Value} {zs:List (List UInt8)} {p:List MemPlace}
  (C:P.underlying t=some (.array n e)) (y:P.underlying e=some .string) (k:P.cellsOf e=1) (l:P.cellsOf t=n)
  (h:DataW.trod g P w base E c a t f=some (.agg (zs.map λz=> .lit (.string z)),p)):∀(i:Nat) z,zs[i]? =some z->f[i]? =some (.string ⟨z.toArray⟩):=by
 cases a with
 | zero=>simp[DataW.trod]at h
 | succ a=>
  simp only[DataW.trod,C,k,l,Nat.mul_one]at h;split at h
  ·rename_i F
   obtain⟨o,q,hx⟩:=Option.map_eq_some_iff.1 h;have d:o.map (·.1)=zs.map λz=>(DataW.lit (.string z):DataW H):=by
    have:=congrArg Prod.fst hx;simpa using this
   have D:o.length=n:=by simpa using Lib.mapM_length q
   have m:zs.length=n:=by
    have:=congrArg List.length d;simp at this;omega
   intro i z r;have B:i<n:=by rw[<-m];exact(List.getElem?_eq_some_iff.1 r).1
   obtain⟨b,v,A⟩:=Lib.mapM_at q i i (by simp[B]);obtain⟨s,x,rfl,_⟩:=DataW.trod_string y A;have u:f[i]? =some (.string s):=by
    have:=congrArg (·[0]?) x;simpa[List.getElem?_take,List.getElem?_drop]using this
   have j:(o.map (·.1))[i]? =some (DataW.lit (.string s.data.toList):DataW H):=by simp[v]
   rw[d]at j;simp only[List.getElem?_map,r,Option.map_some,Option.some.injEq,DataW.lit.injEq,Lit.string.injEq]at j;rw[u,j]
  ·cases h
theorem Zdav {W:World} (m:laidMetH prog Zwu W) (n:W.ShapedOpen prog):Exe.GX 5 301 Exe.opNames W:=by
 rw[MakeChecks.laidMetH_plain _ _ _ (by kernel_rfl)]at m;have c:("shipwright/parse.opNames",(Rows.laid_shipwright_parse_opNames:DataW Unit))∈Zwu:=by
  repeat (first|exact List.Mem.head _|refine List.Mem.tail _ ?_)
 obtain⟨g',E,C,l,p,b,h,y,u⟩:=Lib.laidMet.reads m c;obtain rfl:1=g':=Option.some.inj ((show _=some 1 by kernel_rfl:prog.globalNamed _=some 1).symm.trans b);obtain rfl:=Option.some.inj ((show(prog.globals[1]?).map (·.type)=some 301 by kernel_rfl).symm.trans h);have t:=Zin underlying301 underlying9 (by kernel_rfl) (by kernel_rfl) (zs:=Exe.opNames) u;have w:∀(k:Nat) x,Exe.opNames[k]? =some x->W.cell? ⟨1,k,none⟩=some (.string ⟨x.toArray⟩):=by
  intro k x hx;have:=World.var?_cell b y k;rw[this];have:=t k x hx;simpa using this
 obtain⟨d,a,f,_⟩:=n.1 1 _ _ (of_decide_eq_true (by kernel_rfl)) (show _=some ((⟨[.string ByteArray.empty,.string ByteArray.empty,.string ByteArray.empty,.string ByteArray.empty,.string ByteArray.empty,.string ByteArray.empty,.string ByteArray.empty,.string ByteArray.empty,.string ByteArray.empty,.string ByteArray.empty]⟩:Array Value),301) by kernel_rfl);have g:5<=W.heap.size:=by
  have r:(((begin prog (λ_ _=>0) default).world.heap[4]?).bind Obj.row?).isSome=true:=by kernel_rfl
  obtain⟨⟨A,z⟩,q⟩:=Option.isSome_iff_exists.1 r;obtain⟨B,e,_⟩:=n.1 4 A z (of_decide_eq_true (by kernel_rfl)) q;have:=(Array.getElem?_eq_some_iff.1 e).1;omega
 refine⟨g,d,_,a,?_⟩;have o:d.size=10:=f;apply List.ext_getElem?;intro i
 rcases Nat.lt_or_ge i 10 with v|v
 ·have j:∀x,Exe.opNames[i]? =some x->d.toList[i]? =some (.string ⟨x.toArray⟩):=by
   intro x hx;have:=w i x hx;simp only[World.cell?,a]at this;simpa using this
  have D:Exe.opNames.length=10:=by decide
  have s:i<Exe.opNames.length:=by omega
  obtain⟨x,hx⟩:∃x,Exe.opNames[i]? =some x:=⟨_,List.getElem?_eq_getElem s⟩;rw[j x hx];unfold Exe.nameCells;rw[List.getElem?_map,hx];rfl
 ·rw[List.getElem?_eq_none (by simp;omega),List.getElem?_eq_none (by simp[Exe.nameCells,Exe.opNames];omega)]
structure GXM (W:World):Prop where
 gx:Exe.GX 5 301 Exe.opNames W
 max:∃m,W.cell? ⟨0,0,none⟩=some (.int .i64 m)
theorem Zdaw {W:World} (b:laidMetH prog Zwu W) (a:W.ShapedOpen prog):GXM W:=
 ⟨Zdav b a,cell_of_shapedOpen_int (zero:=#[.int .i64 0]) (t:=3) a (of_decide_eq_true (by kernel_rfl)) (by kernel_rfl) rfl (by kernel_rfl) (by kernel_rfl) underlying3⟩
theorem Zww (os:Os) (a:Array Value):laidMetH prog Zwu ((World.laidAll prog os Zwu).forCall (λ_ _=>0) ⟨#[],a,[]⟩).memory:=by
 rw[MakeChecks.laidMetH_plain _ _ _ (by kernel_rfl)];exact laidMet_laidAll _ (by kernel_rfl) (by kernel_rfl)
theorem laidOut:laidOutB prog=true:=by kernel_rfl
theorem Zbrp {H:Type} {a:TypeId×Value->H} {W f:World} (k:Below W.heap.size W f):∀ {ts:List TypeId} {vs:List Value} {ds:List (DataW H)} {ps:List MemPlace},
  DataW.TrodAll a prog W 0 (λ_=>true) true ts vs ds ps->(∀x∈ps,x.block<W.heap.size)->(ts.all λt=>prog.readableRec t&&decide (t<prog.types.size))=true->
  DataW.TrodAll a prog f 0 (λb=>decide (b<W.heap.size)) true ts vs ds ps:=by
 intro ts
 induction ts with
 | nil=>
  intro vs ds ps h _ _
  cases vs<;>cases ds<;>simp_all[DataW.TrodAll]
 | cons t ts l=>
  intro vs ds ps h c e;obtain⟨v,m,d,g,p,q,rfl,rfl,rfl,i,j⟩:=trodAll_cons h;rw[List.all_cons,Bool.and_eq_true,Bool.and_eq_true]at e;exact⟨p,q,Below.trod laidOut e.1.1 (of_decide_eq_true e.1.2) i k (λx hx=>c x (List.mem_append_left _ hx)),l j (λx hx=>c x (List.mem_append_right _ hx)) e.2,rfl⟩
theorem Zwy {H:Type} {f:TypeId×Value->H} {g:Func} {a:ChangeSpec} {W W':World} {args:Array Value} {ds B:List (DataW H)} {c:List MemPlace}
  (b:a.vars = []) (i:g.resultTypes = #[4]) (n:Nat) (F:g.params.size=n) (r:∀H (xs:List (DataW H)),xs.length=n->a.fn H xs = { results:=[.lit (.bool true)],args:=xs })
  (l:DataW.Whole f prog g.params.toList a.vars false W args.toList ds B c) (z:Below W.heap.size W W')
  (I:(g.params.toList.all λt=>prog.readableRec t&&decide (t<prog.types.size))=true):
  a.post f prog g false true false false W args (.bool true) W':=by
 have m:=l;have s:=l.lt;obtain⟨p,q,w,y,rfl,D,G⟩:=l;rw[b]at y;obtain⟨rfl,rfl⟩:=trodVars_none y;have E:∀ {j:List TypeId} {k:List Value} {ds:List (DataW H)} {u:List MemPlace},DataW.TrodAll f prog W 0 (λ_=>true) true j k ds u->ds.length=j.length:=by
  intro j
  induction j with
  | nil=>intro k ds u h;cases k<;>cases ds<;>simp_all[DataW.TrodAll]
  | cons t j J=>
   intro k ds u h;obtain⟨v,K,d,A,p,q,rfl,rfl,rfl,_,C⟩:=trodAll_cons h;simp[J C]
 have o:=E w;have e:a.fn H (ds ++ []) = { results:=[.lit (.bool true)],args:=ds }:=by
  rw[List.append_nil];exact r H ds (by rw[o,<-F];simp)
 refine⟨ds,[],_,[],p,[],m,?_,?_,?_,z.frame _,λh=>by cases h⟩
 ·rw[e,i];exact trodAll_mk1 (shut_bool underlying4 _)
 ·rw[e];exact Zbrp z w (λx hx=>s x (by simpa using hx)) I
 ·rw[e,b];exact rfl
theorem Zbta (os:Os) (a:Array Value):((World.laidAll prog os Zwu).forCall (λ_ _=>0) ⟨#[],a,[]⟩).Shaped prog:=World.shaped_of_ZipB (by kernel_rfl) (by kernel_rfl)
theorem Zbsz {H:Type} {e:TypeId×Value->H} {os:Os} {f:FuncId} {k:Func} {s:OpenSpec} {d:List PathCond} {c:Bool} (a:Array Value)
  (g:Input.okWideB prog ((World.laidAll prog os Zwu).forCall (λ_ _=>0) ⟨#[],a,[]⟩) f ⟨#[],a,[]⟩=true)
  (j:s.preRow e prog k d c Zwu ((World.laidAll prog os Zwu).forCall (λ_ _=>0) ⟨#[],a,[]⟩).memory a):
  ∃(w:World) (b:Tape) (i:Input),w.os=os/\(w.forCall b i).Shaped prog/\i.vars = []/\Input.okWide prog (w.forCall b i) .any w.heap.size f i/\
   s.preRow e prog k d c Zwu (w.forCall b i).memory i.args/\({}:Assume).holds prog (lone (Frame.enter prog f i.args .normal) [] (w.forCall b i)):=
 ⟨World.laidAll prog os Zwu,λ_ _=>0,⟨#[],a,[]⟩,World.laidAll_os _ _ _,Zbta os a,(Input.okWide_of_okWideB (base:=0) g).1,(Input.okWide_of_okWideB g).2,j,by
  simp only[Assume.holds];exact⟨by simp,by simp,λh=>by simp at h,by simp,by simp⟩⟩
theorem sA {α:Type} {l:List α} {i:Nat} {a:α}:l.toArray.setIfInBounds i a=(l.set i a).toArray:=List.setIfInBounds_toArray ..
theorem sZ {α:Type} {x:α} {l:List α} {b:α}:(x::l).set 0 b=b::l:=rfl
theorem sS {α:Type} {x:α} {l:List α} {n:Nat} {b:α}:(x::l).set (n+1) b=x::l.set n b:=rfl
section
variable {P:Program} {ops:Array Oper} {Q:Exit->Act->World->Prop} {md:Region.Mode} {S:World->Prop}
theorem tkH (i:Nat) {oi:Oper} {v:Value} {d:Nat} {b:Array Bool} {a:Act} {w:World} (y:∀w,S w->(execOp a.eval oi).run P w = .ok (.value v) w)
  (h:wpAnyH P md ops Q S d (b.setIfInBounds i true) (a.put oi.dst v) w)
  (hi:ops[i]? =some oi:=by simp only[List.getElem?_toArray,List.getElem?_cons_succ,List.getElem?_cons_zero];rfl)
  (k:Region.noSelect ops=true:=by kernel_rfl) (g:Region.free md ops b i=true:=by kernel_rfl) (j:(Region.ready md ops b).contains i=true:=by kernel_rfl)
  (e:∀c a w,Q (.panic c) (a.put oi.dst v) w->Q (.panic c) a w:=by exact λ_ _ _ h=>h) (l:Region.wanted oi (yielded ops a.tmps)=true:=by rfl) (f:S w:=by assumption):wpAnyH P md ops Q S (d+1) b a w:=
 wpAnyH_take hi k g j e (Or.inl ⟨l,y⟩) f h
theorem tkK (i:Nat) {oi:Oper} {v:Value} {d:Nat} {b:Array Bool} {a:Act} {w:World} (h:wpAnyH P md ops Q S d (b.setIfInBounds i true) (a.put oi.dst v) w)
  (hi:ops[i]? =some oi:=by simp only[List.getElem?_toArray,List.getElem?_cons_succ,List.getElem?_cons_zero];rfl)
  (y:∀w,S w->(execOp a.eval oi).run P w = .ok (.value v) w:=by intro w g;go_simp;try with_reducible rfl)
  (l:Region.noSelect ops=true:=by kernel_rfl) (j:Region.free md ops b i=true:=by kernel_rfl) (k:(Region.ready md ops b).contains i=true:=by kernel_rfl)
  (e:∀c a w,Q (.panic c) (a.put oi.dst v) w->Q (.panic c) a w:=by exact λ_ _ _ h=>h) (m:Region.wanted oi (yielded ops a.tmps)=true:=by rfl) (f:S w:=by assumption):wpAnyH P md ops Q S (d+1) b a w:=
 wpAnyH_take hi l j k e (Or.inl ⟨m,y⟩) f h
theorem tuH (i:Nat) {oi:Oper} {d:Nat} {b:Array Bool} {a:Act} {w:World} (h:wpAnyH P md ops Q S d (b.setIfInBounds i true) (a.put oi.dst undef) w)
  (hi:ops[i]? =some oi:=by simp only[List.getElem?_toArray,List.getElem?_cons_succ,List.getElem?_cons_zero];rfl)
  (k:Region.noSelect ops=true:=by kernel_rfl) (g:Region.free md ops b i=true:=by kernel_rfl) (j:(Region.ready md ops b).contains i=true:=by kernel_rfl)
  (e:∀c a w,Q (.panic c) (a.put oi.dst undef) w->Q (.panic c) a w:=by exact λ_ _ _ h=>h) (l:Region.wanted oi (yielded ops a.tmps)=false:=by rfl) (f:S w:=by assumption):wpAnyH P md ops Q S (d+1) b a w:=
 wpAnyH_take hi k g j e (Or.inr ⟨l,rfl⟩) f h
theorem rdH (rs:List Nat) {c:Nat} {b:Array Bool} {a:Act} {w:World} (h:AllReadyH P md ops Q S c b a w rs) (e:Region.ready md ops b=rs:=by kernel_rfl) (d:rs≠[]:=by simp):wpAnyH P md ops Q S (c+1) b a w:=wpAnyH_ready e d h
theorem rcH {c:Nat} {b:Array Bool} {a:Act} {w:World} {i:Nat} {o:Oper} {rs:List Nat}
 (h:∀d:Act->World->Prop,Shut (∀a w,S w->(S w->wpAnyH P md ops Q S c (b.setIfInBounds i true) a w)->d a w)->if Region.wanted o (yielded ops a.tmps)=true then Oper.wp P o a w d Q else d (a.put o.dst undef) w)
 (f:AllReadyH P md ops Q S c b a w rs) (e:ops[i]? =some o:=by simp only[List.getElem?_toArray,List.getElem?_cons_succ,List.getElem?_cons_zero];rfl):AllReadyH P md ops Q S c b a w (i::rs):=AllReadyH.cons e h f
end
namespace Exe
section
open Go
structure Ent where
 b:Nat
 sh:Nat
 S:Nat
 t:TypeId
abbrev Ren:=Nat->Option Ent
def exN (n:Nat):Bool:=Nat.beq (n % 2) 0
def atom:Value->Bool
 | .bool _=>true
 | .int _ _=>true
 | .float _ _=>true
 | .complex _ _ _=>true
 | .string _=>true
 | .pointer none=>true
 | .slice none _ _=>true
 | .map none=>true
 | .chan none=>true
 | .nilFunc=>true
 | .nilIface=>true
 | _=>false
def CapR (p c S z:Nat):Prop:=p<=S/\(z=2->0<c->p=S)/\c<=9223372036854775807
inductive ValR (Z:TypeId->Nat) (r:Ren):Value->Value->Prop
 | same {v:Value} (h:atom v=true):ValR Z r v v
 | ptr {n o:Nat} {e:Ent} (h:r n=some e):ValR Z r (.pointer (some ⟨n,o,none⟩)) (.pointer (some ⟨e.b,o+e.sh,none⟩))
 | slice {n o l c c':Nat} {e:Ent} (h:r n=some e) (hc:c<=c') (he:exN n=true->c'=c) (hr:exN n=false->CapR (o+e.sh+c'*Z e.t) c' e.S (Z e.t)):
  ValR Z r (.slice (some ⟨n,o,none⟩) l c) (.slice (some ⟨e.b,o+e.sh,none⟩) l c')
 | void {n o o' c':Nat} {e:Ent} (h:r n=some e) (hx:exN n=false) (hv:c'=0\/(o'=o+e.sh/\CapR (o+e.sh+c'*Z e.t) c' e.S (Z e.t))):
  ValR Z r (.slice (some ⟨n,o,some 0⟩) 0 0) (.slice (some ⟨e.b,o',none⟩) 0 c')
 | map {n:Nat} {e:Ent} (h:r n=some e):ValR Z r (.map (some n)) (.map (some e.b))
 | func {f:FuncId} {xs ys us vs:Array Value} (h1:xs.size=ys.size) (h2:∀(i:Nat) x y,xs[i]? =some x->ys[i]? =some y->ValR Z r x y)
  (h3:us.size=vs.size) (h4:∀(i:Nat) x y,us[i]? =some x->vs[i]? =some y->ValR Z r x y):ValR Z r (.func (.func f) xs us) (.func (.func f) ys vs)
 | yield {n:Nat} {e:Ent} (h:r n=some e):ValR Z r (.func (.yield n) #[] #[]) (.func (.yield e.b) #[] #[])
 | iface {t:TypeId} {x y:Value} (h:ValR Z r x y):ValR Z r (.iface t x) (.iface t y)
 | agg {xs ys:Array Value} (h1:xs.size=ys.size) (h2:∀(i:Nat) x y,xs[i]? =some x->ys[i]? =some y->ValR Z r x y):ValR Z r (.agg xs) (.agg ys)
 | tuple {xs ys:Array Value} (h1:xs.size=ys.size) (h2:∀(i:Nat) x y,xs[i]? =some x->ys[i]? =some y->ValR Z r x y):ValR Z r (.tuple xs) (.tuple ys)
def Ext (r s:Ren):Prop:=∀n e,r n=some e->s n=some e
theorem Ext.refl (r:Ren):Ext r r:=λ_ _ h=>h
theorem Ext.trans {r s t:Ren} (h:Ext r s) (k:Ext s t):Ext r t:=λn e x=>k n e (h n e x)
variable {Z:TypeId->Nat} {r s:Ren}
theorem ValR.mono {x y:Value} (h:ValR Z r x y) (hx:Ext r s):ValR Z s x y:=by
 induction h with
 | same h=>exact .same h
 | ptr h=>exact .ptr (hx _ _ h)
 | slice h d e f=>exact .slice (hx _ _ h) d e f
 | void h i g=>exact .void (hx _ _ h) i g
 | map h=>exact .map (hx _ _ h)
 | func a _ c _ j k=>exact .func a j c k
 | yield h=>exact .yield (hx _ _ h)
 | iface _ b=>exact .iface b
 | agg a _ b=>exact .agg a b
 | tuple a _ b=>exact .tuple a b
def ValsR (Z:TypeId->Nat) (r:Ren) (xs ys:List Value):Prop:=xs.length=ys.length/\∀(i:Nat) x y,xs[i]? =some x->ys[i]? =some y->ValR Z r x y
theorem ValsR.nil:ValsR Z r [] []:=⟨rfl,λi x y h=>by simp at h⟩
theorem ValsR.cons {x y:Value} {xs ys:List Value} (h:ValR Z r x y) (c:ValsR Z r xs ys):ValsR Z r (x::xs) (y::ys):=by
 refine⟨by simp[c.1],λi a b d e=>?_⟩
 cases i with
 | zero=>grind
 | succ i=>exact c.2 i a b (by simpa using d) (by simpa using e)
theorem ValsR.head {x:Value} {xs ys:List Value} (h:ValsR Z r (x::xs) ys):∃y zs,ys=y::zs/\ValR Z r x y/\ValsR Z r xs zs:=by
 cases ys with
 | nil=>have:=h.1;simp at this
 | cons y zs=>exact⟨y,zs,rfl,h.2 0 _ _ rfl rfl,by have:=h.1;simpa using this,λi a b c d=>h.2 (i+1) a b (by simpa using c) (by simpa using d)⟩
theorem ValsR.mono {xs ys:List Value} (h:ValsR Z r xs ys) (hx:Ext r s):ValsR Z s xs ys:=⟨h.1,λi x y a b=>(h.2 i x y a b).mono hx⟩
theorem ValsR.append {xs ys us vs:List Value} (h:ValsR Z r xs ys) (k:ValsR Z r us vs):ValsR Z r (xs++us) (ys++vs):=by
 induction xs generalizing ys with
 | nil=>have:=h.1;cases ys<;>simp_all
 | cons x xs c=>obtain⟨y,d,rfl,a,b⟩:=h.head;exact(c b).cons a
theorem ValsR.drop {xs ys:List Value} (h:ValsR Z r xs ys) (n:Nat):ValsR Z r (xs.drop n) (ys.drop n):=
 ⟨by simp[h.1],λi x y a b=>h.2 (n+i) x y (by simpa using a) (by simpa using b)⟩
theorem ValsR.take {xs ys:List Value} (h:ValsR Z r xs ys) (n:Nat):ValsR Z r (xs.take n) (ys.take n):=by
 refine⟨by simp[h.1],λi x y a b=>?_⟩;rw[List.getElem?_take]at a b;split at a
 ·rw[if_pos (by assumption)]at b;exact h.2 i x y a b
 ·grind
theorem ValR.aggL {xs ys:List Value} (h:ValsR Z r xs ys):ValR Z r (.agg xs.toArray) (.agg ys.toArray):= .agg (by simpa using h.1) (λi x y a b=>h.2 i x y (by simpa using a) (by simpa using b))
theorem ValR.tupleL {xs ys:List Value} (h:ValsR Z r xs ys):ValR Z r (.tuple xs.toArray) (.tuple ys.toArray):= .tuple (by simpa using h.1) (λi x y a b=>h.2 i x y (by simpa using a) (by simpa using b))
theorem ValR.undef:ValR Z r undef undef:= .tuple rfl (λi x y h=>by simp at h)
def flat:Nat->Value->Bool
 | 0,_=>false
 | n+1,v=>match v with
  | .agg xs=>xs.toList.all (flat n)
  | .tuple xs=>xs.toList.all (flat n)
  | .iface _ x=>flat n x
  | .func (.func _) xs ys=>xs.toList.all (flat n)&&ys.toList.all (flat n)
  | v=>atom v
theorem Zcqk:∀(n:Nat) {x y:Value},flat n x=true->ValR Z r x y->y=x
 | 0,_,_,h,_=>by simp[flat]at h
 | n+1,x,y,h,hv=>by
  have a:∀ {xs ys:Array Value},xs.toList.all (flat n)=true->xs.size=ys.size->(∀(i:Nat) x y,xs[i]? =some x->ys[i]? =some y->ValR Z r x y)->ys=xs:=by
   intro xs ys f j g;apply Array.ext j.symm;intro i b c;exact Zcqk n (List.all_eq_true.1 f _ (by simp)) (g i xs[i] ys[i] (by simp) (by simp))
  cases hv with
  | same _=>rfl
  | ptr _=>simp[flat,atom]at h
  | slice _ _ _ _=>simp[flat,atom]at h
  | void _ _ _=>simp[flat,atom]at h
  | map _=>simp[flat,atom]at h
  | yield _=>simp[flat,atom]at h
  | iface hx=>simp only[flat]at h;rw[Zcqk n h hx]
  | agg b c=>simp only[flat]at h;rw[a h b c]
  | tuple b c=>simp only[flat]at h;rw[a h b c]
  | func b c d e=>simp only[flat,Bool.and_eq_true]at h;rw[a h.1 b c,a h.2 d e]
theorem Zcql:∀(n:Nat) {x:Value},flat n x=true->ValR Z r x x
 | 0,_,h=>by simp[flat]at h
 | n+1,x,h=>by
  have a:∀ {xs:Array Value},xs.toList.all (flat n)=true->∀(i:Nat) x y,xs[i]? =some x->xs[i]? =some y->ValR Z r x y:=by
   intro xs c i x y hx d;obtain rfl:=Option.some.inj (hx.symm.trans d);exact Zcql n (List.all_eq_true.1 c _ (by simpa using Array.mem_of_getElem? hx))
  cases x with
  | agg xs=>exact .agg rfl (a h)
  | tuple xs=>exact .tuple rfl (a h)
  | iface t v=>exact .iface (Zcql n h)
  | func b xs e=>
   cases b with
   | func f=>simp only[flat,Bool.and_eq_true]at h;exact .func rfl (a h.1) rfl (a h.2)
   | _=>simp[flat,atom]at h
  | _=>exact .same h
theorem Zcna {x y:Value} (h:atom x=true) (a:ValR Z r x y):y=x:=by
 cases a<;>first|rfl|simp[atom]at h
inductive Tr where
 | lf
 | nd (v:Value) (a b:Tr)
def Tr.get:Tr->Nat->Value
 | .lf,_=>undef
 | .nd v a b,k=>match k with
  | 0=>v
  | k+1=>bif Nat.beq (k % 2) 0 then a.get (k/2)else b.get (k/2)
def Tr.put:Nat->Tr->Nat->Value->Tr
 | 0,t,_,_=>t
 | f+1,t,k,v=>match t with
  | .lf=>match k with
   | 0=> .nd v .lf .lf
   | k+1=>bif Nat.beq (k % 2) 0 then .nd undef (Tr.put f .lf (k/2) v) .lf else .nd undef .lf (Tr.put f .lf (k/2) v)
  | .nd u a b=>match k with
   | 0=> .nd v a b
   | k+1=>bif Nat.beq (k % 2) 0 then .nd u (Tr.put f a (k/2) v) b else .nd u a (Tr.put f b (k/2) v)
structure Env where
 t:Tr
 n:Nat
def Env.put (e:Env):Option Tmp->Value->Env
 | none,_=>e
 | some d,v=>bif Nat.blt d e.n then { e with t:=Tr.put 24 e.t d v } else e
inductive CO where
 | cells (cs:List Value) (t:TypeId) (hi:Nat) (ro:Bool)
 | map (es:List (Value×Value×Nat)) (clock:Nat) (ro:Bool)
 | loop (st:LoopState) (pend:Option Code) (e:Env) (ps:Array Tmp) (asg body:Code) (ro:Bool)
def CO.ro:CO->Bool
 | .cells _ _ _ b=>b
 | .map _ _ b=>b
 | .loop _ _ _ _ _ _ b=>b
abbrev Hp:=List (Nat×CO)
def look:Hp->Nat->Option CO
 | [],_=>none
 | (k,o)::h,n=>bif Nat.beq k n then some o else look h n
def upd:Hp->Nat->CO->Hp
 | [],_,_=>[]
 | (k,o')::h,n,o=>bif Nat.beq k n then(k,o)::h else(k,o')::upd h n o
def del:Hp->Nat->Hp
 | [],_=>[]
 | (k,o')::h,n=>bif Nat.beq k n then del h n else(k,o')::del h n
theorem Zcnc {a b:Nat}:Nat.beq a b=true↔a=b:=⟨Nat.eq_of_beq_eq_true,λh=>by subst h;exact Nat.beq_refl a⟩
theorem Zcnd {a b:Nat}:Nat.beq a b=false↔a≠b:=by rw[<-Bool.not_eq_true,Zcnc]
theorem Zcsc (h:Hp) (n:Nat) (o:CO) (m:Nat):look (upd h n o) m=if m=n then(look h n).map (λ_=>o)else look h m:=by
 induction h with
 | nil=>simp[upd,look]
 | cons p h c=>
  obtain⟨k,d⟩:=p;simp only[upd]
  cases a:Nat.beq k n with
  | true=>
   simp only[cond_true,look]
   all_goals (grind [Zcnd])
  | false=>
   simp only[cond_false,look]
   cases b:Nat.beq k m with
   | true=>
    grind
   | false=>grind
theorem Zcrw (h:Hp) (n m:Nat):look (del h n) m=if m=n then none else look h m:=by
 induction h with
 | nil=>simp[del,look]
 | cons p h a=>
  obtain⟨k,d⟩:=p;simp only[del]
  cases b:Nat.beq k n with
  | true=>
   simp only[cond_true,look,a]
   all_goals (grind [Zcnd])
  | false=>
   simp only[cond_false,look,a]
   cases c:Nat.beq k m with
   | true=>grind
   | false=>simp
theorem Zcrv (h:Hp) (n:Nat) (o:CO) (m:Nat):look ((n,o)::h) m=if m=n then some o else look h m:=by
 simp only[look]
 cases a:Nat.beq n m with
 | true=>simp_all
 | false=>grind [Zcnd]
def FzR (f:Nat×Nat) (hi sh:Nat):Prop:=(f.2<=hi+sh\/9223372036854775808<=hi)/\(hi+sh=0->f=(0,0))
theorem FzR.zero {hi sh:Nat}:FzR (0,0) hi sh:=⟨.inl (Nat.zero_le _),λ_=>rfl⟩
def Zcqz:List Value->Bool
 | .slice _ _ _::_=>true
 | _=>false
def FzS (f:Nat×Nat) (hi:Nat) (cs:List Value) (sh:Nat):Prop:=FzR f hi sh/\(sh=0\/Zcqz cs=true)
theorem FzS.zero {k:Nat} {a:List Value}:FzS (0,0) k a 0:=⟨FzR.zero,.inl rfl⟩
def ObjR (Z:TypeId->Nat) (r:Ren) (n:Nat) (e:Ent):CO->Obj->Prop
 | .cells cs t hi _,.cells cs' t' f=>t'=t/\e.t=t/\cs'.size=e.S/\cs.length+e.sh<=e.S/\(exN n=true->e.sh=0/\cs.length=e.S)/\
  (∀i v,cs[i]? =some v->∃v',cs'[i+e.sh]? =some v'/\ValR Z r v v')/\FzS f hi cs e.sh
 | .map es k _,.map es' k'=>k'=k/\es.length=es'.size/\∀(i:Nat) (x:Value×Value×Nat) (y:MapEntry),es[i]? =some x->es'[i]? =some y->(y.key=x.1/\flat 3 x.1=true)/\ValR Z r x.2.1 y.val/\y.born=x.2.2
 | .loop st pend en ps asg body _,.loop L=>(L.state=st/\L.pending=pend/\L.params=ps/\L.assign=asg/\L.body=body)/\L.tmps.size=en.n/\en.n<16000000/\∀k,ValR Z r (en.t.get k) (L.tmps.getD k undef)
 | _,_=>False
structure Rep (N:Nat->Prop) (Z:TypeId->Nat) (G:Nat) (r:Ren) (h:Hp) (w:World):Prop where
 obj:∀n o,look h n=some o->∃e,r n=some e/\∃o',w.heap[e.b]? =some o'/\ObjR Z r n e o o'
 inj:∀n m o p en em,look h n=some o->look h m=some p->r n=some en->r m=some em->en.b=em.b->n=m
 low:∀n e,r n=some e->e.b<w.heap.size
 new:∀n,N n->r n=none
 glo:∀g,g<G->∃e,r (2*g)=some e/\e.b=g/\e.sh=0
def Own (r:Ren) (h:Hp) (b:Nat):Prop:=∃n o e,look h n=some o/\o.ro=false/\r n=some e/\e.b=b
def Live (r:Ren) (h:Hp) (b:Nat):Prop:=∃n o e,look h n=some o/\r n=some e/\e.b=b
theorem Own.live {r:Ren} {h:Hp} {b:Nat} (k:Own r h b):Live r h b:=let ⟨n,o,e,a,_,c,d⟩:=k;⟨n,o,e,a,c,d⟩
structure Nx (r:Ren) (h:Hp) (w:World) (r1:Ren) (h1:Hp) (w1:World):Prop where
 ext:Ext r r1
 size:w.heap.size<=w1.heap.size
 frame:∀b,b<w.heap.size->¬Own r h b->w1.heap[b]? =w.heap[b]?
 own:∀b,b<w.heap.size->Own r1 h1 b->Own r h b
 live:∀b,b<w.heap.size->Live r1 h1 b->Live r h b
 os:w1.os=w.os
 tape:w1.tape=w.tape
 output:w1.output=w.output
theorem Nx.refl (r:Ren) (h:Hp) (w:World):Nx r h w r h w:=⟨Ext.refl r,Nat.le_refl _,λ_ _ _=>rfl,λ_ _ k=>k,λ_ _ k=>k,rfl,rfl,rfl⟩
theorem Nx.trans {r h w r1 h1 w1 r2 h2 w2} (a:Nx r h w r1 h1 w1) (b:Nx r1 h1 w1 r2 h2 w2):Nx r h w r2 h2 w2:=
 ⟨a.ext.trans b.ext,Nat.le_trans a.size b.size,λx hx c=>by rw[b.frame x (Nat.lt_of_lt_of_le hx a.size) (λk=>c (a.own x hx k)),a.frame x hx c],
  λx hx k=>a.own x hx (b.own x (Nat.lt_of_lt_of_le hx a.size) k),λx hx k=>a.live x hx (b.live x (Nat.lt_of_lt_of_le hx a.size) k),b.os.trans a.os,b.tape.trans a.tape,b.output.trans a.output⟩
theorem ObjR.mono {n:Nat} {e:Ent} {o:CO} {o':Obj} (h:ObjR Z r n e o o') (hx:Ext r s):ObjR Z s n e o o':=by
 cases o<;>cases o'<;>simp only[ObjR]at h⊢
 ·obtain⟨c,d,f,g,j,l,m⟩:=h
  exact⟨c,d,f,g,j,λi v u=>let ⟨v',a,b⟩:=l i v u;⟨v',a,b.mono hx⟩,m⟩
 ·obtain⟨c,d,f⟩:=h
  exact⟨c,d,λi x y a b=>let ⟨p,q,t⟩:=f i x y a b;⟨p,q.mono hx,t⟩⟩
 ·exact⟨h.1,h.2.1,h.2.2.1,λk=>(h.2.2.2 k).mono hx⟩
end
open Go
theorem Tr.get_lf (k:Nat):Tr.get .lf k=undef:=by cases k<;>rfl
theorem half {a b:Nat} (h:a % 2=b % 2):a/2=b/2↔a=b:=by omega
theorem Tr.get_put:∀(f:Nat) (t:Tr) (k:Nat) (v:Value) (j:Nat),k+1<2^f->(Tr.put f t k v).get j=if j=k then v else t.get j:=by
 intro f
 induction f with
 | zero=>omega
 | succ f g=>
  intro t k v j h;have i:∀m,k=m+1->m/2+1<2^f:=by omega
  cases t with
  | lf=>
   cases k with
   | zero=>cases j<;>simp[Tr.put,Tr.get]
   | succ k=>
    have:=i k rfl;simp only[Tr.put]
    cases e:Nat.beq (k % 2) 0 with
    | true=>
     have c:=Zcnc.1 e;simp only[cond_true]
     cases j with
     | zero=>simp[Tr.get]
     | succ j=>
      simp only[Tr.get]
      cases d:Nat.beq (j % 2) 0 with
      | true=>simp only[cond_true];rw[g _ _ _ _ this];simp only[half ((Zcnc.1 d).trans c.symm),Nat.add_right_cancel_iff,Tr.get_lf]
      | false=>grind
    | false=>
     have c:=Zcnd.1 e;simp only[cond_false]
     cases j with
     | zero=>simp[Tr.get]
     | succ j=>
      simp only[Tr.get]
      cases d:Nat.beq (j % 2) 0 with
      | false=>
       have l:=Zcnd.1 d;simp only[cond_false];rw[g _ _ _ _ this];simp only[half (a:=j) (b:=k) (by omega),Nat.add_right_cancel_iff,Tr.get_lf]
      | true=>grind
  | nd u a b=>
   cases k with
   | zero=>cases j<;>simp[Tr.put,Tr.get]
   | succ k=>
    have:=i k rfl;simp only[Tr.put]
    cases e:Nat.beq (k % 2) 0 with
    | true=>
     have c:=Zcnc.1 e;simp only[cond_true]
     cases j with
     | zero=>simp[Tr.get]
     | succ j=>
      simp only[Tr.get]
      cases d:Nat.beq (j % 2) 0 with
      | true=>simp only[cond_true];rw[g _ _ _ _ this];simp only[half ((Zcnc.1 d).trans c.symm),Nat.add_right_cancel_iff]
      | false=>grind
    | false=>
     cases j with
     | zero=>simp[Tr.get]
     | succ j=>grind [Tr.get,Nat.beq,Zcnd]
def EnvR (Z:TypeId->Nat) (r:Ren) (e:Env) (a:Act):Prop:=a.tmps.size=e.n/\e.n<16000000/\∀k,ValR Z r (e.t.get k) (a.tmps.getD k undef)
theorem EnvR.mono {Z r s e a} (h:EnvR Z r e a) (hx:Ext r s):EnvR Z s e a:=⟨h.1,h.2.1,λk=>(h.2.2 k).mono hx⟩
theorem EnvR.put {Z r e a} (h:EnvR Z r e a) {v v':Value} (m:ValR Z r v v') (d:Option Tmp):EnvR Z r (e.put d v) (a.put d v'):=by
 cases d with
 | none=>exact h
 | some d=>
  obtain⟨b,c,i⟩:=h;obtain⟨d,rfl⟩:∃k:Nat,k=d:=⟨d,rfl⟩;simp only[Env.put,Act.put]
  cases j:Nat.blt d e.n with
  | false=>
   have f:¬d<e.n:=by grind [Nat.blt,Nat.ble_eq_true_of_le]
   refine⟨by simpa using b,c,λk=>?_⟩
   grind
  | true=>
   have g:d<e.n:=by simp_all
   simp only[cond_true];refine⟨by simpa using b,c,λk=>?_⟩;rw[Tr.get_put 24 _ _ _ _ (by
    have:(2:Nat)^24=16777216:=by decide
    omega)]
   by_cases l:k=d
   all_goals (simp_all[Ne.symm])
abbrev Ev:=Operand->Option Value
def evC (G:Nat) (t:Tr):Ev
 | .tmp k=>some (t.get k)
 | .const v=>bif flat 4 v then some v else none
 | .global g=>bif Nat.blt g G then some (.pointer (some ⟨2*g,0,none⟩))else none
 | .func f=>some (.func (.func f) #[] #[])
theorem Zcpi {N Z G r h w e a} (n:Rep N Z G r h w) (m:EnvR Z r e a) {x:Operand} {v:Value} (b:evC G e.t x=some v):ValR Z r v (a.eval x):=by
 cases x with
 | tmp k=>simp only[evC,Option.some.injEq]at b;subst b;exact m.2.2 k
 | const u=>
  simp only[evC]at b
  cases c:flat 4 u with
  | false=>grind
  | true=>rw[c]at b;cases b;exact Zcql 4 c
 | global g=>
  simp only[evC]at b
  cases c:Nat.blt g G with
  | false=>grind
  | true=>
   rw[c]at b;cases b;obtain⟨e,d,j,l⟩:=n.glo g (Nat.le_of_ble_eq_true c);have:=ValR.ptr (Z:=Z) (o:=0) d;rw[j,l]at this;exact this
 | func f=>simp only[evC,Option.some.injEq]at b;subst b;exact .func rfl (λi x y h=>by simp at h) rfl (λi x y h=>by simp at h)
def Zcua (P:Program) {α:Type}:Sem α->Option α
 | .pure a=>some a
 | .program k=>Zcua P (k P)
 | .mark _ k=>Zcua P k
 | .choose q k=>bif q.forced then Zcua P (k 0)else none
 | _=>none
theorem Zcub {P:Program} {α:Type} {s:Sem α} {v:α} (h:Zcua P s=some v) (w:World):s.run P w = .ok v w:=by
 induction s generalizing w with
 | pure a=>simp only[Zcua,Option.some.injEq]at h;subst h;rfl
 | program k b=>exact b _ h w
 | mark m k b=>exact b h w
 | choose q k b=>
  simp only[Zcua]at h
  cases c:q.forced with
  | false=>grind
  | true=>grind [Sem.run]
 | _=>simp[Zcua]at h
def PS (P:Program) (Z:TypeId->Nat) (r:Ren) (w0:World) (rd:Option Nat) (v:Value) (s:Sem Value):Prop:=
 ∃v',ValR Z r v v'/\∀w:World,(∀n e,rd=some n->r n=some e->w.heap[e.b]? =w0.heap[e.b]?)->s.run P w = .ok v' w
theorem PS.of {P Z r w0 v v' s} (b:Option Nat) (a:ValR Z r v v') (h:∀w:World,s.run P w = .ok v' w):PS P Z r w0 b v s:=⟨v',a,λw _=>h w⟩
theorem PS.flat {P Z r w0 v s} {k:Nat} (b:Option Nat) (a:Exe.flat k v=true) (h:Zcua P s=some v):PS P Z r w0 b v s:=⟨v,Zcql k a,λw _=>Zcub h w⟩
theorem cell_of {w:World} {b o:Nat} {a:Array Value} {t:TypeId} {f:Nat×Nat} (h:w.heap[b]? =some (.cells a t f)):w.cell? ⟨b,o,none⟩=a[o]?:=by simp[World.cell?,h]
theorem Zcru {P:Program} {Z r n e cs t hi ro o'} {w:World} (x:w.heap[e.b]? =some o') (d:ObjR Z r n e (.cells cs t hi ro) o') {o k:Nat} (u:o+k<=cs.length):
  ∃vs,ValsR Z r ((cs.drop o).take k) vs/\vs.length=k/\∀w1:World,w1.heap[e.b]? =some o'->(loadCells ⟨e.b,o+e.sh,none⟩ k).run P w1 = .ok vs.toArray w1:=by
 cases o' with
 | cells a z f=>
  obtain⟨h,i,l,m,p,q,s⟩:=d;refine⟨(a.toList.drop (o+e.sh)).take k,⟨?_,?_⟩,?_,?_⟩
  ·grind
  ·grind
  ·grind
  ·intro w1 g
   have:=run_loadCells_list (P:=P) (w:=w1) ⟨e.b,o+e.sh,none⟩ ((a.toList.drop (o+e.sh)).take k) (λj v c=>by
    rw[List.getElem?_take]at c;split at c
    ·rw[List.getElem?_drop,Array.getElem?_toList]at c
     rcases Nat.eq_zero_or_pos j with rfl|y
     all_goals (grind [Addr.add,cell_of])
    ·cases c)
   grind
 | _=>exact d.elim
