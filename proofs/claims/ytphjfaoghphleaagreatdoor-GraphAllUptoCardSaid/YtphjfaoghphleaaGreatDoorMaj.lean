import Derived.Test.YtphjfaoghphleaaGreatDoorMai
import Derived.Sort.OwnSorted
set_option maxRecDepth 100000
set_option maxHeartbeats 2000000
namespace Go.Proofs.YtphjfaoghphleaaGreatDoor
namespace Exe
section
open Go.Lib (hid)
open Go.Proofs.Tryz Go Go.RowKit
variable {P:Program} {G:Nat} {r:Ren} {h:Hp} {w:World}
def lbsC:List (Value×Value×Nat)->Option (List Lb)
 | []=>some []
 | (.agg ⟨[.bool b,.string s]⟩,.agg ⟨[]⟩,_)::es=>match lbsC es with
  | some ls=>some ((b,s)::ls)
  | none=>none
 | _=>none
def Zcxp (ck:Nat):Nat->List (Value×Value×Nat)->Bool
 | _,[]=>true
 | lo,(_,_,b)::es=>Nat.ble lo b&&Nat.blt b ck&&Zcxp ck (b+1) es
theorem Zcxq {l:Nat}:∀ {f:List (Value×Value×Nat)} {a:List MapEntry} {d:Nat},Zcxp l d f=true->EntsR P r f a->(a.map (·.born)).Nodup/\(∀e∈a,e.born<l)/\∀e∈a,d<=e.born
 | [],a,d,_,hE=>by
  cases a with
  | nil=>simp
  | cons _ _=>have:=hE.1;simp at this
 | x::f,a,d,hb,hE=>by
  obtain⟨y,v,rfl,_,_,_,i,g⟩:=hE.head;obtain⟨t,u,b⟩:=x;simp only[Zcxp,Bool.and_eq_true]at hb;obtain⟨⟨j,k⟩,n⟩:=hb;have j:=Nat.le_of_ble_eq_true j;have k:=Nat.le_of_ble_eq_true k;obtain⟨q,s,m⟩:=Zcxq n g
  dsimp only at i
  refine⟨?_,λe c=>?_,λe c=>?_⟩
  ·rw[List.map_cons,List.nodup_cons]
   refine⟨λo=>?_,q⟩;obtain⟨z,p,e⟩:=List.mem_map.1 o;have:=m z p;omega
  ·rcases List.mem_cons.1 c with rfl|c
   ·omega
   ·exact s e c
  ·rcases List.mem_cons.1 c with rfl|c
   ·omega
   ·have:=m e c;omega
theorem Zdck:∀ {e:List (Value×Value×Nat)} {a:List MapEntry} {d:List Lb},lbsC e=some d->EntsR P r e a->a.map kvE=lkv d
 | [],a,d,hc,hE=>by
  cases a with
  | nil=>simp only[lbsC,Option.some.injEq]at hc;subst hc;rfl
  | cons _ _=>have:=hE.1;simp at this
 | x::e,a,d,hc,hE=>by
  obtain⟨y,o,rfl,k,_,l,_,f⟩:=hE.head;unfold lbsC at hc;split at hc
  ·rename_i c;cases c
  ·rename_i b s n i c
   cases c
   split at hc
   case h_2=>cases hc
   rename_i m j
   cases hc
   have g:=Zcqk 2 (by rfl) l;rw[List.map_cons,Zdck j f];unfold kvE;rw[k,g];rfl
  ·cases hc
theorem Zdcp:∀(l:List Lb) (i:Nat) v,(lcs l)[i]? =some v->atom v=true
 | [],i,v,hv=>by simp[lcs]at hv
 | x::l,i,v,hv=>by
  rw[Zdcq]at hv
  match i with
  | 0=>simp at hv;subst hv;rfl
  | 1=>simp at hv;subst hv;rfl
  | i+2=>exact Zdcp l i v (by simpa using hv)
def allK (nf:FuncId) (el:TypeId):FK:=λf vs k h=>bif Nat.beq f nf then match vs with
 | [.pointer (some ⟨n,o,none⟩)]=>match look h n with
  | some (.cells cs _ _ _)=>match cs[o]? with
   | some (.map (some m))=>match look h m with
    | some (.map es ck _)=>match lbsC es with
     | some ls=>bif Zcxp ck 0 es&&Nat.ble ls.length 1000 then some (.slice (some ⟨2*k+1,0,none⟩) ls.length ls.length,k+1,(2*k+1,.cells (lcs (slb ls)) el 0 false)::h)else none
     | none=>none
    | _=>none
   | _=>none
  | _=>none
 | _=>none else none
theorem Zcwy (hN:Zcmj prog) (E:Zcqx prog 35=true) (hz:Zp prog 24=2):KS prog G (onFn (allK 35 24)):=by
 refine Zcth ?_;intro f vs k h v k1 h1 c r w ad K hv;unfold allK at c
 cases W:Nat.beq f 35 with
 | false=>rw[W]at c;cases c
 | true=>
  rw[W]at c;simp only[cond_true]at c;obtain rfl:=Zcnc.1 W;split at c
  case h_2=>cases c
  rename_i n o
  split at c
  case h_2=>cases c
  rename_i cs t hi ro hl
  split at c
  case h_2=>cases c
  rename_i m s
  split at c
  case h_2=>cases c
  rename_i es ck ac U
  split at c
  case h_2=>cases c
  rename_i z V
  cases p:(Zcxp ck 0 es&&Nat.ble z.length 1000)with
  | false=>rw[p]at c;cases c
  | true=>
   rw[p]at c;cases c;simp only[Bool.and_eq_true]at p;obtain⟨b1,b2⟩:=p;have b2:=Nat.le_of_ble_eq_true b2;obtain⟨p',us,rfl,v1,v2⟩:=hv.head;obtain rfl:us = []:=by have:=v2.1;cases us with
    | nil=>rfl
    | cons _ _=>simp at this
   cases v1 with
   | same M=>simp[atom]at M
   | @ptr _ _ e he=>
    obtain⟨e',S,o',X,hO⟩:=K.obj n _ hl;obtain rfl:=Option.some.inj (he.symm.trans S)
    cases o' with
    | cells aa t' fz=>
     obtain⟨_,_,_,_,_,a6,_⟩:=hO;obtain⟨vm,q1,q2⟩:=a6 o _ s
     cases q2 with
     | same M=>simp[atom]at M
     | @map _ em hem=>
      obtain⟨ab,F,om,Y,l⟩:=K.obj m _ U;obtain rfl:=Option.some.inj (hem.symm.trans F)
      cases om with
      | map C c'=>
       have hE:EntsR prog r es C.toList:=⟨by simpa using l.2.1,λi x y a b=>l.2.2 i x y a (by simpa using b)⟩;have O:=l.1;obtain⟨n1,n2,_⟩:=Zcxq b1 hE;have L:RM w em.b (lkv z):=⟨C,c',Y,Zdck V hE,n1,by rw[O];exact n2⟩;have Q:w.cell? ⟨e.b,o+e.sh,none⟩=some (.map (some em.b)):=by rw[cell_of X];exact q1
       have q:=Zcxe ⟨e.b,o+e.sh,none⟩ em.b z w Q L (by omega);refine .inr ⟨Zcqy hN E _ _,callsIn_wide.2 (Calls.mono q ?_)⟩;rintro en w1 ⟨g,d,rfl,I,D⟩
       rcases I.2 with⟨hx,_⟩|⟨g',cap',A,hx,g1,g2,g3,g4,g5,g6⟩
       ·cases hx
       ·obtain⟨rfl,rfl⟩:g=g'/\d=cap':=by
         injection hx with B _ e2
         injection B with B
         injection B with B
         exact⟨B,e2⟩
        have T:w.grownBy w1 none:=⟨D.os,D.tape,D.output,D.size,λi hi _=>D.block i hi⟩;have J:ObjR (Zp prog) r (2*k+1) ⟨g,0,d*2,24⟩ (.cells (lcs (slb z)) 24 0 false) (.cells A 24 (0,0)):=by
         have Z:(lcs (slb z)).length=z.length*2:=by rw[Zdcs,(Zdit z).length_eq]
         refine⟨rfl,rfl,g5,?_,λhx=>(by rw[Zctd]at hx;cases hx),λj u H=>⟨u,?_,.same (Zdcp _ j u H)⟩,FzS.zero⟩
         ·rw[Z]
          have:=Nat.mul_le_mul_right 2 g3;simpa using this
         ·rw[<-g6,List.getElem?_take]at H
          split at H
          ·simpa using H
          ·cases H
        obtain⟨y1,y2⟩:=K.grown (h0:=h) (λ_ _ x=>x) (R:=none) (λb E=>by cases E) (λb E=>by cases E) T (nm:=2*k+1) (by omega) (by omega) (.inr g1) g2 J;exact⟨_,_,rfl,y2,y1,.slice (e:=⟨g,0,d*2,24⟩) (c':=d) (by simp[set1]) g3 (λhx=>(by rw[Zctd]at hx;cases hx)) (λ_=>by show CapR (0+0+d*Zp _ _) d (d*2) (Zp _ _);rw[hz];exact⟨by omega,λ_ _=>by omega,g4⟩)⟩
      | _=>exact l.elim
    | _=>exact hO.elim
end
end Exe
section
open Go.Lib (hid)
open Go.Proofs.Tryz Go.RowKit Go.Maps
abbrev MapL:=List (ByteArray×Value)
def Zrt (v:Value):Option (DataW Value×List MemPlace):=some (.held v,[])
def litS (k:ByteArray):Lit:= .string k.data.toList
def hasM (m:MapL) (k:ByteArray):Bool:=m.any λp=>decide (p.1=k)
def getM (m:MapL) (k:ByteArray) (z:Value):Value:=((m.find? λp=>decide (p.1=k)).map (·.2)).getD z
def putM (m:MapL) (k:ByteArray) (v:Value):MapL:=(k,v)::m.filter λp=> !decide (p.1=k)
theorem Zgy {a b:ByteArray} (h:a.data.toList=b.data.toList):a=b:=by
 cases a;cases b;simp only[ByteArray.mk.injEq]at h⊢;exact Array.ext' h
theorem Zxu {a b:ByteArray} (h:litS a=litS b):a=b:=by unfold litS at h;injection h with h;exact Zgy h
theorem Zrm (m:MapL) (k a:ByteArray) (v:Value):hasM (putM m k v) a=(decide (k=a)||hasM m a):=by
 unfold hasM putM;rw[List.any_cons,List.any_filter]
 by_cases e:k=a
 ·simp[e]
 ·rw[decide_eq_false e,Bool.false_or,Bool.false_or]
  congr 1
  funext p
  by_cases h:p.1=a
  ·have:¬p.1=k:=λc=>e (c.symm.trans h)
   rw[decide_eq_false this];rfl
  ·rw[decide_eq_false h,Bool.and_false]
theorem Zqj (m:MapL) (k:ByteArray) (v z:Value):getM (putM m k v) k z=v:=by
 unfold getM putM;rw[List.find?_cons_of_pos (by simp)];rfl
theorem Zqi (m:MapL) {k a:ByteArray} (v z:Value) (h:¬k=a):getM (putM m k v) a z=getM m a z:=by
 unfold getM putM;rw[List.find?_cons_of_neg (by simpa using h),List.find?_filter]
 congr 3
 funext p
 by_cases c:p.1=a
 ·have:¬p.1=k:=λd=>h (d.symm.trans c)
  rw[decide_eq_false this];simp
 ·rw[decide_eq_false c];simp
def KeysN (m:MapL):Prop:=m.Pairwise λp q=>¬p.1=q.1
theorem KeysN.put {m:MapL} (h:KeysN m) (k:ByteArray) (v:Value):KeysN (putM m k v):=by
 unfold KeysN putM;rw[List.pairwise_cons];refine⟨λp a=>?_,h.filter _⟩;have:=(List.mem_filter.1 a).2;simp at this;exact λe=>this e.symm
theorem Zbfq {m:MapL} (h:KeysN m) (k:ByteArray) (v:Value):(putM m k v).length=if hasM m k then m.length else m.length+1:=by
 unfold putM;rw[List.length_cons]
 induction m with
 | nil=>simp[hasM]
 | cons p m i=>
  have c:=List.pairwise_cons.1 h
  by_cases e:p.1=k
  ·have f:m.filter (λp=> !decide (p.1=k))=m:=List.filter_eq_self.2 λq g=>by
    have:=c.1 q g;rw[e]at this;simp;exact λd=>this d.symm
   have a:hasM (p::m) k=true:=by simp[hasM,e]
   rw[a,List.filter_cons_of_neg (by simp[e]),f];simp
  ·have a:hasM (p::m) k=hasM m k:=by simp[hasM,e]
   rw[a,List.filter_cons_of_pos (by simpa using e),List.length_cons];have:=i c.2;rw[this,List.length_cons];split<;>rfl
def MapIs (P:Program) (kt:TypeId) (w:World) (b:Nat) (m:MapL):Prop:=
 ∃D:DataW Value,w.ownsMap P kt Zrt b m.length D/\(∀k,Maps.has D (litS k)=hasM m k)/\(∀k z,D.atKey (litS k) (.held z) = .held (getM m k z))/\Maps.size D=m.length/\KeysN m
variable {P:Program} {kt t e:TypeId} {w:World} {b:Nat} {m:MapL}
theorem Zyj (w:World) (P:Program) (kt:TypeId):MapIs P kt (w.alloc (.map #[] 0)) w.heap.size []:=
 ⟨.map [],World.ownsMap_made w P kt Zrt,λ_=>rfl,λ_ _=>rfl,rfl,List.Pairwise.nil⟩
theorem MapIs.lt (h:MapIs P kt w b m):b<w.heap.size:=by obtain⟨D,h,_⟩:=h;exact h.lt
theorem MapIs.kept {w':World} {row:Option Nat} (h:MapIs P kt w b m) (c:w.grownBy w' row) (a:some b≠row):MapIs P kt w' b m:=by
 obtain⟨D,h,r⟩:=h;exact⟨D,h.kept c a,r⟩
theorem MapIs.heap {w':World} (h:MapIs P kt w b m) (g:w'.heap[b]? =w.heap[b]?):MapIs P kt w' b m:=by
 obtain⟨D,⟨c,a,d,f⟩,r⟩:=h;exact⟨D,⟨c,a,g.trans d,f⟩,r⟩
theorem MapIs.below {B:Nat} {w':World} (h:MapIs P kt w b m) (c:Below B w w') (a:b<B):MapIs P kt w' b m:=h.heap (c.block b a)
theorem MapIs.alloc (h:MapIs P kt w b m) (o:Obj):MapIs P kt (w.alloc o) b m:=by obtain⟨D,h,r⟩:=h;exact⟨D,h.alloc o,r⟩
theorem MapIs.drew (h:MapIs P kt w b m):MapIs P kt w.drew b m:=h
theorem Zwr (a:P.underlying kt=some .string) (k:ByteArray) (c:k.size<=maxLen):keyOf P kt (.string k)=some (litS k):=WideMaps.keyOf_string_mk a c
theorem MapIs.look (h:MapIs P kt w b m) (d:P.underlying kt=some .string) (i:P.underlying t=some (.map kt e)) {z:Value} (j:(zeroValue e).run P w = .ok z w) (k:ByteArray) (g:k.size<=maxLen):
  (Instr.lookup t (.map (some b)) (.string k) false).run P w = .ok (getM m k z) w:=by
 obtain⟨D,h,_,f,_⟩:=h;obtain⟨v,l,a,c⟩:=h.lookup (Maps.string_keyed d) i j (zd:= .held z) (zp:=[]) rfl (Zwr d k g);rw[f]at c;simp only[Zrt,Option.some.injEq,Prod.mk.injEq,DataW.held.injEq]at c;rw[a,c.1]
theorem MapIs.look_ok (h:MapIs P kt w b m) (d:P.underlying kt=some .string) (j:P.underlying t=some (.map kt e)) {z:Value} (l:(zeroValue e).run P w = .ok z w) (k:ByteArray) (i:k.size<=maxLen):
  (Instr.lookup t (.map (some b)) (.string k) true).run P w = .ok (.tuple #[getM m k z,.bool (hasM m k)]) w:=by
 obtain⟨D,h,f,g,_⟩:=h;obtain⟨v,n,a,c⟩:=h.look_ok (Maps.string_keyed d) j l (zd:= .held z) (zp:=[]) rfl (Zwr d k i);rw[g]at c;simp only[Zrt,Option.some.injEq,Prod.mk.injEq,DataW.held.injEq]at c;rw[a,c.1,f]
theorem MapIs.len (h:MapIs P kt w b m) (c:P.underlying t=some (.map kt e)) (ty:TypeId):(Builtin.len_ #[t] ty #[.map (some b)]).run P w = .ok (.int .i64 (m.length:Int)) w:=by
 obtain⟨D,h,_,_,a,_⟩:=h;rw[h.len c ty,a]
theorem MapIs.put (h:MapIs P kt w b m) (r:P.underlying kt=some .string) (C:P.underlying t=some (.map kt e)) (A:m.length<maxLen) (k:ByteArray) (B:k.size<=maxLen) (v:Value):
  ∃w',(Instr.mapUpdate t (.map (some b)) (.string k) v).run P w = .ok () w'/\MapIs P kt w' b (putM m k v)/\w.mapTurned w' b:=by
 obtain⟨D,h,p,x,y,q⟩:=h;have K:=Maps.string_keyed r;have j:=h.tidy K;obtain⟨w',f,E,F⟩:=h.store K C A (Zwr r k B) (val:=v) (d:= .held v) (ps:=[]) rfl;have c:WideAt.IsKeyLit (litS k):=trivial;have l:Maps.size (D.put (litS k) (.held v))=(putM m k v).length:=by
  rw[Maps.size_put j,p,y,Zbfq q]
 refine⟨w',f,⟨D.put (litS k) (.held v),?_,λg=>?_,λg z=>?_,l,q.put k v⟩,F⟩
 ·obtain⟨o,a,s,u,G,n⟩:=E
  refine⟨o,a,s,u,?_,n⟩;have:Maps.size (D.put (litS k) (.held v))=o.size:=by rw[n];simp[Maps.size,length_sorted]
  omega
 ·rw[Zrm]
  by_cases e:k=g
  ·subst e
   rw[Maps.has_put_same j.isMap c];simp
  ·have:¬litS g=litS k:=λi=>e (Zxu i).symm
   rw[Maps.has_put_other this,p,decide_eq_false e,Bool.false_or]
 ·by_cases e:k=g
  ·subst e
   rw[Maps.atKey_put_same j.isMap c,Zqj]
  ·have:¬litS g=litS k:=λi=>e (Zxu i).symm
   rw[Maps.atKey_put_other this,x,Zqi _ _ _ e]
end
open Go.Lib (hid)
open Go.Proofs.Tryz
def Zzp (c:UInt8):Bool:=decide ((97<=c.toNat/\c.toNat<=122)\/(65<=c.toNat/\c.toNat<=90)\/(48<=c.toNat/\c.toNat<=57)\/c.toNat=46\/c.toNat=95\/c.toNat=45\/c.toNat=47)
def Zbfb (c:UInt8):Bool:=decide (32<=c.toNat/\c.toNat<=126/\c.toNat≠34/\c.toNat≠92)
open Go.RowKit Go.Shelf
theorem heap_set {w:World} {g:Nat} {a:Array Value} {t:TypeId} {b:Nat×Nat} (i:Nat) (v:Value) (c:w.heap[g]? =some (.cells a t b)):
  (w.setCell ⟨g,i,none⟩ v).heap[g]? =some (.cells (a.setIfInBounds i v) t b):=by
 rw[setCell_eq_setRow w g i a t b v c];exact setRow_heap w g a _ t b c
theorem Zbhl {P:Program} {c:Func} {p:Tmp} {ty:TypeId} (h:c.results = #[.cell p ty]) (a:Array Value) (w:World) (g:Nat) (t:TypeId) (b:Array Value) (e:Nat×Nat) (d:TypeDesc)
 (j:a.getD p undef = .pointer (some ⟨g,0,none⟩)) (i:w.heap[g]? =some (.cells b t e))
 (k:P.underlying ty=some d) (f:(match d with | .struct _ | .array _ _=>true|_=>false)=true) (hi:(P.info? ty).map (·.size)=some b.size):
 (results c a).run P w = .ok (.agg b) w:=results_cell_row h a w g t b e d j i k f hi
theorem alloc_at (w:World) (o:Obj):(w.alloc o).heap[w.heap.size]? =some o:=by show(w.heap.push _)[w.heap.size]? =_;simp
def IsRow (w:World) (v:Value) (k:Nat) (rows:List (List Value)):Prop:=
 ∃a c,v = .slice a rows.length c/\rows.length<=c/\c<=maxLen/\(rows≠[]->∃b o,a=some ⟨b,o,none⟩/\b<w.heap.size/\∀(j:Nat) r,rows[j]? =some r->∀(i:Nat) u,r[i]? =some u->w.cell? ⟨b,o+j*k+i,none⟩=some u)
theorem Zpf (k:Nat):∀(a:List (List Value)),(∀r∈a,r.length=k)->∀(j:Nat) r,a[j]? =some r->∀(i:Nat) u,r[i]? =some u->a.flatten[j*k+i]? =some u
 | [],_,j,r,h,_,_,_=>by simp at h
 | r0::a,hk,j,r,h,i,u,hi=>by
  rw[List.flatten_cons]
  cases j with
  | zero=>
   simp only[List.getElem?_cons_zero,Option.some.injEq]at h;subst h;rw[Nat.zero_mul,Nat.zero_add,List.getElem?_append_left (List.getElem?_eq_some_iff.1 hi).1];exact hi
  | succ j=>
   simp only[List.getElem?_cons_succ]at h;have h0:=hk r0 (by simp);rw[List.getElem?_append_right (by rw[h0,Nat.succ_mul];omega),h0,show(j+1)*k+i-k=j*k+i by rw[Nat.succ_mul];omega];exact Zpf k a (λr b=>hk r (by simp[b])) j r h i u hi
theorem Zbij {w:World} {B k:Nat} {t:TypeId} {v:Value} {rows:List (List Value)} (h:w.ownsRow B t k v rows.length rows.flatten) (f:∀r∈rows,r.length=k):IsRow w v k rows:=by
 rcases h with⟨_,⟨rfl,e⟩|⟨g,a,d,rfl,q,c,m,l,s,o⟩⟩
 ·obtain rfl:rows = []:=List.eq_nil_of_length_eq_zero e
  exact⟨none,0,rfl,by simp,by simp[maxLen],λh=>absurd rfl h⟩
 ·refine⟨_,a,rfl,m,l,λ_=>⟨g,0,rfl,?_,λj r n i u p=>?_⟩⟩
  ·rcases Nat.lt_or_ge g w.heap.size with b|b
   ·exact b
   ·rw[Array.getElem?_eq_none b]at c;cases c
  ·have:=Zpf k rows f j r n i u p
   rw[<-o,List.getElem?_take]at this;split at this
   ·simp only[World.cell?,c,Nat.zero_add]
    simpa using this
   ·cases this
theorem IsRow.below {w w':World} {v:Value} {k:Nat} {rows:List (List Value)} (h:IsRow w v k rows) (g:Below w.heap.size w w'):IsRow w' v k rows:=by
 obtain⟨a,c,rfl,l,d,m⟩:=h;refine⟨a,c,rfl,l,d,λe=>?_⟩;obtain⟨b,o,rfl,f,n⟩:=m e;exact⟨b,o,rfl,Nat.lt_of_lt_of_le f g.size,λj r p i u q=>(g.cell f).trans (n j r p i u q)⟩
abbrev Zcj:=Int×Nat×List UInt8
def Zbte (x:Zcj):List Value:=[.int .i64 x.1,.int .i64 (x.2.1:Int),.string ⟨x.2.2.toArray⟩]
def Zbtf (ws:List Zcj):List (List Value):=ws.map Zbte
theorem Zbti (a:List Zcj):(Zbtf a).length=a.length:=by simp[Zbtf]
theorem Zsv {p:Program} {t:TypeId} {z:Option Value} {s b:Nat} (h:(p.info? t).map (λi=>(i.zero,i.size,i.bytes))=some (z,s,b)):∃i,p.info? t=some i/\i.zero=z/\i.size=s/\i.bytes=b:=by
 cases a:p.info? t with
 | none=>rw[a]at h;cases h
 | some i=>rw[a]at h;injection h with h;injection h with c h;injection h with d e;exact⟨i,rfl,c,d,e⟩
abbrev PS:=Nat×Bool
def wAt (ws:List Zcj) (k:Nat):Zcj:=ws.getD k (4,0,[])
def wTx (ws:List Zcj) (k:Nat):ByteArray:=⟨(wAt ws k).2.2.toArray⟩
def Zbcr:List (List UInt8):=[[],[99,111,112,121],[110,101,101,100],[115,111,114,116],[99,111,117,110,116],[99,111,110,99,97,116],[108,105,116,101,114,97,108],[115,101,108,101,99,116],[114,101,112,108,97,99,101],[112,114,101,102,105,120]]
def cEq:ByteArray:=⟨#[61]⟩
structure StepS where
 out:ByteArray
 op:Int
 args:List ByteArray
 lits:List ByteArray
 n:Int
structure RuleS where
 name:ByteArray
 ins:List ByteArray
 outs:List ByteArray
 after:List ByteArray
 steps:List StepS
def Zap (ws:List Zcj):Prop:=∀k,k<ws.length->(wAt ws k).1≠4->k+1<ws.length
structure Fr (Av:Nat->Prop) (w w':World):Prop where
 os:w'.os=w.os
 tape:w'.tape=w.tape
 output:w'.output=w.output
 size:w.heap.size<=w'.heap.size
 block:∀k,k<w.heap.size->¬Av k->w'.heap[k]? =w.heap[k]?
theorem Fr.refl (Av:Nat->Prop) (w:World):Fr Av w w:=⟨rfl,rfl,rfl,Nat.le_refl _,λ_ _ _=>rfl⟩
theorem Fr.trans {Av:Nat->Prop} {a b c:World} (h:Fr Av a b) (k:Fr Av b c):Fr Av a c:=
 ⟨k.os.trans h.os,k.tape.trans h.tape,k.output.trans h.output,Nat.le_trans h.size k.size,λi d e=>(k.block i (Nat.lt_of_lt_of_le d h.size) e).trans (h.block i d e)⟩
theorem Fr.mono {Av Av':Nat->Prop} {w w':World} (h:Fr Av w w') (c:∀k,k<w.heap.size->Av k->Av' k):Fr Av' w w':=
 ⟨h.os,h.tape,h.output,h.size,λk a d=>h.block k a λb=>d (c k a b)⟩
theorem Zpv {Av:Nat->Prop} {w w':World} (h:Below w.heap.size w w'):Fr Av w w':=⟨h.os,h.tape,h.output,h.size,λk a _=>h.block k a⟩
theorem Zpu (Av:Nat->Prop) (w:World) (o:Obj):Fr Av w (w.alloc o):=Zpv ((Below.refl _ _).alloc (Nat.le_refl _) _)
theorem Zpx {Av:Nat->Prop} {w w':World} {r:Option Nat} (h:w.grownBy w' r) (c:∀k,r=some k->Av k):Fr Av w w':=
 ⟨h.os,h.tape,h.output,h.size,λk a b=>h.block k a λe=>b (c k e.symm)⟩
theorem Zpy {Av:Nat->Prop} {w:World} {a:Addr} (b:Av a.block) (u:Value):Fr Av w (w.setCell a u):=
 ⟨rfl,rfl,rfl,by simp[World.setCell],λk _ c=>Below.heap_setCell _ _ _ _ λe=>c (e▸b)⟩
theorem Zpw (Av:Nat->Prop) (w:World):Fr Av w w.drew:=⟨rfl,rfl,rfl,Nat.le_refl _,λ_ _ _=>rfl⟩
theorem Fr.below {Av:Nat->Prop} {w w':World} (h:Fr Av w w') {B:Nat} (c:B<=w.heap.size) (b:∀k,k<B->¬Av k):Below B w w':=
 ⟨h.os,h.tape,h.output,h.size,λk a=>h.block k (by omega) (b k a)⟩
def RowA (Av:Nat->Prop) (w:World) (v:Value) (k:Nat) (rows:List (List Value)):Prop:=
 IsRow w v k rows/\∀b,v.ownBlock=some b->b<w.heap.size/\¬Av b
theorem RowA.keep {Av:Nat->Prop} {w w':World} {v:Value} {k:Nat} {rows:List (List Value)} (h:RowA Av w v k rows) (g:Fr Av w w'):RowA Av w' v k rows:=by
 obtain⟨⟨a,c,rfl,n,d,p⟩,f⟩:=h;refine⟨⟨a,c,rfl,n,d,λl=>?_⟩,λb e=>⟨Nat.lt_of_lt_of_le (f b e).1 g.size,(f b e).2⟩⟩;obtain⟨b,o,rfl,m,q⟩:=p l;exact⟨b,o,rfl,Nat.lt_of_lt_of_le m g.size,λj r s i u t=>(World.cell?_of_block (w:=w) (g.block b m (f b rfl).2)).trans (q j r s i u t)⟩
theorem RowA.mono {Av Av':Nat->Prop} {w:World} {v:Value} {k:Nat} {rows:List (List Value)} (h:RowA Av w v k rows) (c:∀b,b<w.heap.size->Av' b->Av b):RowA Av' w v k rows:=
 ⟨h.1,λb e=>⟨(h.2 b e).1,λa=>(h.2 b e).2 (c b (h.2 b e).1 a)⟩⟩
theorem Zbie (Av:Nat->Prop) (w:World) (k:Nat):RowA Av w (.slice none 0 0) k []:=⟨⟨none,0,rfl,by simp,by simp[maxLen],λh=>absurd rfl h⟩,λb e=>by cases e⟩
theorem Zbif {w:World} {B k:Nat} {t:TypeId} {v:Value} {rows:List (List Value)} (h:w.ownsRow B t k v rows.length rows.flatten) (a:∀r∈rows,r.length=k):RowA (λb=>b<B) w v k rows:=
 ⟨Zbij h a,λb e=>⟨(h.lt b e).2,by have:=(h.lt b e).1;omega⟩⟩
def Zbpk (xs:List ByteArray):List (List Value):=xs.map λx=>[.string x]
theorem Zbpm (xs:List ByteArray):(Zbpk xs).flatten=xs.map Value.string:=by
 induction xs with
 | nil=>rfl
 | cons x xs a=>simp[Zbpk]at a⊢;exact a
theorem Zbpo (xs:List ByteArray):(Zbpk xs).length=xs.length:=by simp[Zbpk]
theorem Zbpn (xs:List ByteArray):∀r∈Zbpk xs,r.length=1:=by
 intro r a;obtain⟨x,_,rfl⟩:=List.mem_map.1 a;rfl
def StrsA (Av:Nat->Prop) (w:World) (v:Value) (xs:List ByteArray):Prop:=RowA Av w v 1 (Zbpk xs)
theorem Zbqf {w:World} {B:Nat} {t:TypeId} {v:Value} {xs:List ByteArray} (h:w.ownsRow B t 1 v xs.length (xs.map Value.string)):StrsA (λb=>b<B) w v xs:=by
 refine Zbif (t:=t) ?_ (Zbpn xs);rw[Zbpm,Zbpo];exact h
structure PSt (w:World) (p:Nat) (v:Value) (ws:List Zcj) (s:PS):Prop where
 blk:w.heap[p]? =some (.cells #[v,.int .i64 (s.1:Int),.bool s.2] 286)
 row:RowA (λb=>b=p) w v 3 (Zbtf ws)
 lt:s.1<ws.length
 ends:Zap ws
theorem PSt.p_lt {w:World} {p:Nat} {v:Value} {b:List Zcj} {s:PS} (h:PSt w p v b s):p<w.heap.size:=by
 rcases Nat.lt_or_ge p w.heap.size with a|a
 ·exact a
 ·have:=h.blk;rw[Array.getElem?_eq_none a]at this;cases this
theorem PSt.slice {w:World} {p:Nat} {v:Value} {d:List Zcj} {s:PS} (h:PSt w p v d s):
  ∃b o c,v = .slice (some ⟨b,o,none⟩) d.length c/\d.length<=c/\c<=maxLen/\b<w.heap.size/\b≠p/\
   w.cell? ⟨b,o+s.1*3,none⟩=some (.int .i64 (wAt d s.1).1)/\w.cell? ⟨b,o+s.1*3+1,none⟩=some (.int .i64 ((wAt d s.1).2.1:Int))/\w.cell? ⟨b,o+s.1*3+2,none⟩=some (.string (wTx d s.1)):=by
 obtain⟨⟨⟨a,c,rfl,l,f,m⟩,n⟩,i⟩:=And.intro h.row h.lt;have j:Zbtf d≠[]:=by
  intro e;have r:d.length=0:=by rw[<-Zbti d,e];rfl
  omega
 obtain⟨b,o,rfl,q,g⟩:=m j;rw[Zbti]at l;have k:(Zbtf d)[s.1]? =some (Zbte (wAt d s.1)):=by
  unfold Zbtf wAt;rw[List.getElem?_map,List.getD_eq_getElem?_getD,List.getElem?_eq_getElem i];rfl
 refine⟨b,o,c,by rw[Zbti],l,f,q,(n b rfl).2,g _ _ k 0 _ rfl,g _ _ k 1 _ rfl,g _ _ k 2 _ rfl⟩
theorem PSt.len {w:World} {p:Nat} {v:Value} {a:List Zcj} {s:PS} (h:PSt w p v a s):a.length<=9223372036854775807:=by
 obtain⟨b,o,c,_,e,d,_⟩:=h.slice;unfold maxLen at d;omega
theorem PSt.fr {w w':World} {p:Nat} {v:Value} {a:List Zcj} {s:PS} {Av:Nat->Prop} (h:PSt w p v a s) (d:Fr Av w w') (g:¬Av p) (i:∀b,v.ownBlock=some b->¬Av b):PSt w' p v a s:=by
 refine⟨(d.block p h.p_lt g).trans h.blk,?_,h.lt,h.ends⟩;have f:RowA Av w v 3 (Zbtf a):=⟨h.row.1,λb e=>⟨(h.row.2 b e).1,i b e⟩⟩;have c:=f.keep d;exact⟨c.1,λb e=>⟨(c.2 b e).1,(h.row.2 b e).2⟩⟩
theorem PSt.below {w w':World} {p:Nat} {v:Value} {a:List Zcj} {s:PS} (h:PSt w p v a s) (b:Below w.heap.size w w'):PSt w' p v a s:=
 h.fr (Av:=λ_=>False) (Zpv b) (λh=>h) (λ_ _ h=>h)
theorem PSt.alloc {w:World} {p:Nat} {v:Value} {a:List Zcj} {s:PS} (h:PSt w p v a s) (o:Obj):PSt (w.alloc o) p v a s:=h.below ((Below.refl _ _).alloc (Nat.le_refl _) _)
theorem PSt.cells {w:World} {p:Nat} {v:Value} {a:List Zcj} {s:PS} (h:PSt w p v a s):
  w.cell? ⟨p,0,none⟩=some v/\w.cell? ⟨p,1,none⟩=some (.int .i64 (s.1:Int))/\w.cell? ⟨p,2,none⟩=some (.bool s.2)/\w.frozen? ⟨p,0,none⟩=false/\w.frozen? ⟨p,1,none⟩=false/\w.frozen? ⟨p,2,none⟩=false:=by
 simp[World.cell?,World.frozen?,h.blk]
def After (w w':World) (p:Nat) (v:Value) (ws:List Zcj) (s':PS):Prop:=PSt w' p v ws s'/\Fr (λb=>b=p) w w'
theorem After.trans {a b c:World} {p:Nat} {v:Value} {d:List Zcj} {s s':PS} (h:After a b p v d s) (k:After b c p v d s'):After a c p v d s':=⟨k.1,h.2.trans k.2⟩
theorem After.of_below {w w':World} {p:Nat} {v:Value} {b:List Zcj} {s:PS} (h:PSt w p v b s) (a:Below w.heap.size w w'):After w w' p v b s:=⟨h.below a,Zpv a⟩
structure GP (p:Nat) (w:World):Prop where
 glob:Glob w
 ops:∀(k:Nat) x,Zbcr[k]? =some x->w.cell? ⟨1,k,none⟩=some (.string ⟨x.toArray⟩)
 l1:0<p
 l2:2<p
 l3:3<p
 l4:4<p
 l5:1<p
 gx:Exe.GX 5 301 Exe.opNames w
theorem GP.below {p:Nat} {w w':World} (h:GP p w) (a:Below p w w'):GP p w':=by
 obtain⟨⟨⟨m,n⟩,q,b,⟨t,r,j⟩,⟨u,s,l⟩⟩,o,d,e,f,g,c,i⟩:=h;exact⟨⟨⟨m,(a.cell d).trans n⟩,var?_below a (by kernel_rfl) e q,Nat.lt_of_lt_of_le b a.size,⟨t,r,(a.cell f).trans j⟩,⟨u,s,(a.cell g).trans l⟩⟩,
  λk x hx=>(a.cell (p:=⟨1,k,none⟩) c).trans (o k x hx),d,e,f,g,c,i.below (show Exe.gq<p from c) a⟩
theorem GP.fr {p:Nat} {w w':World} (h:GP p w) (c:p<=w.heap.size) (a:Fr (λb=>b=p) w w'):GP p w':=h.below (a.below c λk d e=>by omega)
structure RS (w:World) (p:Nat) (v:Value) (ws:List Zcj) (s:PS):Prop where
 st:PSt w p v ws s
 gp:GP p w
 sz:∀k,k<ws.length->(wTx ws k).size<=1048576
 few:ws.length<=2097152
theorem RS.after {w w':World} {p:Nat} {v:Value} {a:List Zcj} {s s':PS} (h:RS w p v a s) (b:After w w' p v a s'):RS w' p v a s':=
 ⟨b.1,h.gp.fr (Nat.le_of_lt h.st.p_lt) b.2,h.sz,h.few⟩
theorem RS.below {w w':World} {p:Nat} {v:Value} {a:List Zcj} {s:PS} (h:RS w p v a s) (b:Below w.heap.size w w'):RS w' p v a s:=h.after (After.of_below h.st b)
theorem Fr.grownBy {p:Nat} {w w':World} (h:Fr (λb=>b=p) w w'):w.grownBy w' (some p):=⟨h.os,h.tape,h.output,h.size,λk a c=>h.block k a λe=>c (by rw[e])⟩
theorem After.grown {w w1 g:World} {p:Nat} {v:Value} {d:List Zcj} {s0 s:PS} {r:Option Nat} (h0:PSt w p v d s0) (h:After w w1 p v d s) (a:w1.grownBy g r) (c:∀k,r=some k->w.heap.size<=k):After w g p v d s:=by
 refine⟨h.1.fr (Av:=λb=>some b=r) (Zpx a λk e=>e.symm) (λe=>?_) (λb i e=>?_),?_⟩
 ·have:=c p e.symm;have:=h0.p_lt;omega
 ·have:=c b e.symm;have:=(h0.row.2 b i).1;omega
 ·refine⟨a.os.trans h.2.os,a.tape.trans h.2.tape,a.output.trans h.2.output,Nat.le_trans h.2.size a.size,λk f j=>?_⟩
  rw[a.block k (Nat.lt_of_lt_of_le f h.2.size) (λe=>by have:=c k e.symm;omega)];exact h.2.block k f j
theorem After.alloc {w w1:World} {p:Nat} {v:Value} {a:List Zcj} {s:PS} (h:After w w1 p v a s) (o:Obj):After w (w1.alloc o) p v a s:=⟨h.1.alloc o,h.2.trans (Zpu _ _ _)⟩
theorem After.drew {w w1:World} {p:Nat} {v:Value} {a:List Zcj} {s:PS} (h:After w w1 p v a s):After w w1.drew p v a s:=⟨h.1.below (Below.refl _ _).drew,h.2.trans (Zpw _ _)⟩
theorem After.refl {w:World} {p:Nat} {v:Value} {a:List Zcj} {s:PS} (h:PSt w p v a s):After w w p v a s:=⟨h,Fr.refl _ _⟩
def Zbfk (w:World) (p:Nat):Nat:=(intOf ((w.cell? ⟨p,1,none⟩).getD (.int .i64 0))).toNat
theorem PSt.pos {w:World} {p:Nat} {v:Value} {a:List Zcj} {s:PS} (h:PSt w p v a s):Zbfk w p=s.1:=by
 unfold Zbfk;rw[h.cells.2.1];simp[intOf]
theorem cells5 {w:World} {b:Nat} {a c d e f:Value} {T:TypeId} (h:w.heap[b]? =some (.cells #[a,c,d,e,f] T)):
  w.cell? ⟨b,0,none⟩=some a/\w.cell? ⟨b,1,none⟩=some c/\w.cell? ⟨b,2,none⟩=some d/\w.cell? ⟨b,3,none⟩=some e/\w.cell? ⟨b,4,none⟩=some f/\
  w.frozen? ⟨b,0,none⟩=false/\w.frozen? ⟨b,1,none⟩=false/\w.frozen? ⟨b,2,none⟩=false/\w.frozen? ⟨b,3,none⟩=false/\w.frozen? ⟨b,4,none⟩=false:=by
 simp[World.cell?,World.frozen?,h]
theorem After.set {w w1:World} {p:Nat} {v:Value} {c:List Zcj} {s0 s:PS} (h0:PSt w p v c s0) (h:After w w1 p v c s) {a:Addr} (i:w.heap.size<=a.block) (u:Value):After w (w1.setCell a u) p v c s:=by
 refine⟨h.1.fr (Av:=λb=>b=a.block) (Zpy (a:=a) (Av:=λb=>b=a.block) rfl u) (λe=>?_) (λb d e=>?_),?_⟩
 ·have:=h0.p_lt;omega
 ·have:=(h0.row.2 b d).1;omega
 ·refine⟨h.2.os,h.2.tape,h.2.output,by simp[World.setCell];exact h.2.size,λk f g=>?_⟩
  rw[Below.heap_setCell _ _ _ _ (by omega)];exact h.2.block k f g
structure SM (T:TypeId) (z:Array Value) (w wr:World) (p:Nat) (v:Value) (ws:List Zcj) (s:PS) (cs:Array Value):Prop where
 af:After w wr p v ws s
 r0:wr.heap[w.heap.size]? =some (.cells z T)
 r1:wr.heap[w.heap.size+1]? =some (.cells cs T)
 big:w.heap.size+2<=wr.heap.size
theorem SM.begin {T:TypeId} {w:World} {p:Nat} {v:Value} {a:List Zcj} {s:PS} (h:PSt w p v a s) (z cs:Array Value):SM T z w ((w.alloc (.cells z T)).alloc (.cells cs T)) p v a s cs:=by
 refine⟨((After.refl h).alloc _).alloc _,?_,?_,by simp⟩
 ·rw[Below.heap_alloc _ _ _ (by simp)];exact alloc_at w _
 ·have:=alloc_at (w.alloc (.cells z T)) (.cells cs T)
  simpa using this
theorem SM.step {T:TypeId} {z:Array Value} {w wr w':World} {p:Nat} {v:Value} {b:List Zcj} {s0 s s':PS} {cs:Array Value} (h0:PSt w p v b s0) (h:SM T z w wr p v b s cs) (a:After wr w' p v b s'):SM T z w w' p v b s' cs:=by
 have d:=h0.p_lt;have c:=h.big;exact⟨h.af.trans a,(a.2.block _ (by omega) (by omega)).trans h.r0,(a.2.block _ (by omega) (by omega)).trans h.r1,Nat.le_trans c a.2.size⟩
theorem SM.alloc {T:TypeId} {z:Array Value} {w wr:World} {p:Nat} {v:Value} {a:List Zcj} {s0 s:PS} {cs:Array Value} (h0:PSt w p v a s0) (h:SM T z w wr p v a s cs) (o:Obj):SM T z w (wr.alloc o) p v a s cs:=
 h.step h0 ((After.refl h.af.1).alloc o)
theorem SM.set {T:TypeId} {z:Array Value} {w wr:World} {p:Nat} {v:Value} {a:List Zcj} {s0 s:PS} {b:Array Value} (h0:PSt w p v a s0) (h:SM T z w wr p v a s b) (i:Nat) (u:Value):SM T z w (wr.setCell ⟨w.heap.size+1,i,none⟩ u) p v a s (b.setIfInBounds i u):=by
 refine⟨h.af.set h0 (by simp) u,?_,heap_set i u h.r1,by simp[World.setCell];exact h.big⟩;rw[Below.heap_setCell _ _ _ _ (by simp)];exact h.r0
theorem SM.rs {T:TypeId} {z:Array Value} {w wr:World} {p:Nat} {v:Value} {a:List Zcj} {s0 s:PS} {b:Array Value} (h:SM T z w wr p v a s b) (h0:RS w p v a s0):RS wr p v a s:=h0.after h.af
theorem Zbig {Av:Nat->Prop} {w:World} {d:Value} {k:Nat} {b:List (List Value)} (h:RowA Av w d k b):∃a n c,d = .slice a n c:=by
 obtain⟨⟨a,c,rfl,_⟩,_⟩:=h;exact⟨a,_,c,rfl⟩
theorem Zbqd (Av:Nat->Prop) (w:World):StrsA Av w (.slice none 0 0) []:=Zbie Av w 1
theorem Zbdt {w:World} {B d e a:Nat} {v:Value} {n:Nat} {xs:List Value} (h:w.ownsRow B e a v n xs) (j:d<=B):w.ownsRow d e a v n xs:=by
 obtain⟨f,i|⟨g,b,c,m,k,l⟩⟩:=h
 ·exact⟨f,.inl i⟩
 ·exact⟨f,.inr ⟨g,b,c,m,Nat.le_trans j k,l⟩⟩
theorem Zbue {P:Program} (w:World) {K:Array Oper} {C:List Oper} {o:Oper} {a:Act} {Q:Exit->Act->World->Prop}
  (U:o.guard=none) (s x:Operand) (t:TypeId) (G:o.op=Op.call { callee:=Callee.builtin Builtin.append,args:=#[s,x],argTypes:=#[t,t] })
  (q:Nat) (e:TypeId) (i:TypeInfo) (z:Value) (d l:Nat) (M:P.underlying t=some (.slice e)) (O:P.info? e=some i) (Z:i.zero=some z) (R:i.size=d) (h5:i.bytes=l) (h6:z.cells.size=d) (h7:0<d)
  (v:Value) (n:Nat) (L:List Value) (W:a.eval s=v) (y:w.ownsRow q e d v n L)
  (I:Addr) (m c:Nat) (f:List Value) (hx:a.eval x = .slice (some I) m c) (V:f.length=m*d) (T:∀j u,f[j]? =some u->w.cell? (I.add j)=some u) (E:∀u∈f,u.oneCell'=true)
  (hm:0<m) (X:n+m<=maxLen) (Y:(n+m)*l<=140737488355328) (r:q<=w.heap.size)
  (S:∀H B,B.ownsRow q e d H (n+m) (L++f)->w.grownBy B v.ownBlock->(∀b,H.ownBlock=some b->v.ownBlock=some b\/w.heap.size<=b)->wpList P K Q C (a.put o.dst H) B):
  wpList P K Q (o::C) a w:=by
 obtain⟨hl,⟨rfl,h0⟩|⟨g,D,aa,rfl,ae,af,ag,ab,ac,ah⟩⟩:=id y
 ·subst h0
  refine wpList_append_grows w U s x t G e i z d l M O Z R h5 h6 h7 none 0 0 L W (λ_=>⟨rfl,rfl⟩) hl (λb A=>by cases A) I m c f hx V T E (by omega) X Y ?_;intro H B F p;exact S H B (Zbdt F r) p λb A=> .inr (F.lt b A).1
 ·by_cases J:n+m<=D
  ·refine wpList_append_fits w U s x t G q e i d M O R g n D L W y I m c f hx V T E J ?_
   intro B F p;exact S _ B F p λb A=> .inl A
  ·refine wpList_append_grows w U s x t G e i z d l M O Z R h5 h6 h7 (some ⟨g,0,none⟩) n D L W (λh=>by cases h) hl (λb A=>by cases A;exact y.cells rfl) I m c f hx V T E (by omega) X Y ?_
   intro H B F p;exact S H B (Zbdt F r) ⟨p.os,p.tape,p.output,p.size,λk hk _=>p.block k hk (by simp)⟩ λb A=> .inr (F.lt b A).1
def AllA {α:Type} (P:List Value->α->Prop) (rows:List (List Value)) (xs:List α):Prop:=rows.length=xs.length/\∀(j:Nat) r x,rows[j]? =some r->xs[j]? =some x->P r x
theorem AllA.nil {α:Type} (P:List Value->α->Prop):AllA P [] []:=⟨rfl,λj r x h=>by simp at h⟩
theorem AllA.snoc {α:Type} {P:List Value->α->Prop} {a:List (List Value)} {xs:List α} (h:AllA P a xs) {r:List Value} {x:α} (d:P r x):AllA P (a ++ [r]) (xs ++ [x]):=by
 refine⟨by simp[h.1],λj e f b hx=>?_⟩
 rcases Nat.lt_trichotomy j a.length with c|c|c
 ·rw[List.getElem?_append_left c]at b
  rw[List.getElem?_append_left (by rw[<-h.1];exact c)]at hx;exact h.2 j e f b hx
 ·subst c
  rw[List.getElem?_append_right (Nat.le_refl _)]at b;rw[List.getElem?_append_right (by rw[h.1];exact Nat.le_refl _)]at hx;simp[h.1]at b hx;subst b hx;exact d
 ·rw[List.getElem?_eq_none (by simp;omega)]at b;cases b
theorem AllA.imp {α:Type} {P Q:List Value->α->Prop} {a:List (List Value)} {xs:List α} (h:AllA P a xs) (hi:∀r x,P r x->Q r x):AllA Q a xs:=⟨h.1,λj r x b hx=>hi r x (h.2 j r x b hx)⟩
theorem AllA.len {α:Type} {P:List Value->α->Prop} {a:List (List Value)} {xs:List α} (h:AllA P a xs) {n:Nat} (d:∀r x,P r x->r.length=n):∀r∈a,r.length=n:=by
 intro r e;obtain⟨j,c⟩:=List.getElem?_of_mem e;have b:j<xs.length:=by rw[<-h.1];exact(List.getElem?_eq_some_iff.1 c).1
 exact d r _ (h.2 j r _ c (List.getElem?_eq_getElem b))
def StepA (Av:Nat->Prop) (w:World) (r:List Value) (x:StepS):Prop:=∃va vl,r = [.string x.out,.int .i64 x.op,va,vl,.int .i64 x.n]/\StrsA Av w va x.args/\StrsA Av w vl x.lits
theorem StepA.len {Av:Nat->Prop} {w:World} {r:List Value} {x:StepS} (h:StepA Av w r x):r.length=5:=by obtain⟨a,b,rfl,_⟩:=h;rfl
theorem StepA.keep {Av:Nat->Prop} {w w':World} {r:List Value} {x:StepS} (h:StepA Av w r x) (a:Fr Av w w'):StepA Av w' r x:=by
 obtain⟨d,e,rfl,b,c⟩:=h;exact⟨d,e,rfl,RowA.keep b a,RowA.keep c a⟩
theorem StepA.mono {Av Av':Nat->Prop} {w:World} {r:List Value} {x:StepS} (h:StepA Av w r x) (a:∀b,b<w.heap.size->Av' b->Av b):StepA Av' w r x:=by
 obtain⟨e,f,rfl,c,d⟩:=h;exact⟨e,f,rfl,RowA.mono c a,RowA.mono d a⟩
def StepsA (Av:Nat->Prop) (w:World) (v:Value) (xs:List StepS):Prop:=∃rows,RowA Av w v 5 rows/\AllA (StepA Av w) rows xs
theorem StepsA.keep {Av:Nat->Prop} {w w':World} {v:Value} {xs:List StepS} (h:StepsA Av w v xs) (b:Fr Av w w'):StepsA Av w' v xs:=by
 obtain⟨a,c,d⟩:=h;exact⟨a,c.keep b,d.imp λr x h=>h.keep b⟩
theorem StepsA.mono {Av Av':Nat->Prop} {w:World} {v:Value} {xs:List StepS} (h:StepsA Av w v xs) (c:∀b,b<w.heap.size->Av' b->Av b):StepsA Av' w v xs:=by
 obtain⟨a,d,e⟩:=h;exact⟨a,d.mono c,e.imp λr x h=>h.mono c⟩
def AvOf (B:Nat) (v:Value) (b:Nat):Prop:=b<B\/v.ownBlock=some b
theorem Zsx:(prog.info? 58).map (λi=>(i.zero,i.size,i.bytes))=some (some (.agg #[.string ByteArray.empty,.int .i64 0,.slice none 0 0,.slice none 0 0,.int .i64 0]),5,80):=by kernel_rfl
theorem Zqy {W c:World} {B:Nat} {vv v':Value} {a:List (List Value)} {xs:List StepS} (h:AllA (λr x=>StepA (AvOf B vv) W r x) a xs) (f:W.grownBy c vv.ownBlock) (g:∀b,v'.ownBlock=some b->vv.ownBlock=some b\/W.heap.size<=b):
  AllA (StepA (AvOf B v') c) a xs:=by
 refine h.imp λr x hx=>?_
 have d:StepA (λb=>AvOf B vv b\/W.heap.size<=b) W r x:=hx.mono λb i e=>by
  rcases e with e|e
  ·exact e
  ·omega
 refine(d.keep (Zpx f λk e=> .inl (.inr e))).mono λb _ e=>?_
 rcases e with e|e
 ·exact .inl (.inl e)
 ·rcases g b e with e|e
  ·exact .inl (.inr e)
  ·exact .inr e
theorem Zbol {Av:Nat->Prop} {w:World} {d:Value} {xs:List StepS} (h:StepsA Av w d xs):∃a n c,d = .slice a n c:=by
 obtain⟨b,e,_⟩:=h;exact Zbig e
def RuleA (Av:Nat->Prop) (w:World) (r:List Value) (x:RuleS):Prop:=∃vi vo vf vs,r = [.string x.name,vi,vo,vf,vs]/\StrsA Av w vi x.ins/\StrsA Av w vo x.outs/\StrsA Av w vf x.after/\StepsA Av w vs x.steps
def Zbu (w w':World) (x:RuleS) (e:Ending):Prop:=
 ∃vi vo vf vs,e = .returned (.agg #[.string x.name,vi,vo,vf,vs])/\StrsA (λb=>b<w.heap.size) w' vi x.ins/\StrsA (λb=>b<w.heap.size) w' vo x.outs/\StrsA (λb=>b<w.heap.size) w' vf x.after/\StepsA (λb=>b<w.heap.size) w' vs x.steps
def Zwz (ws:List Zcj) (s:PS):Nat:=2*(ws.length-s.1)+(if s.2 then 0 else 1)
def Znh (w:World) (p:Nat):Nat:=match w.cell? ⟨p,2,none⟩with
 | some (.bool true)=>0
 | _=>1
theorem PSt.left {w:World} {p:Nat} {v:Value} {a:List Zcj} {s:PS} (h:PSt w p v a s):2*(a.length-Zbfk w p)+Znh w p=Zwz a s:=by
 rw[h.pos];unfold Znh Zwz;rw[h.cells.2.2.1]
 cases s.2<;>rfl
theorem RuleA.len {Av:Nat->Prop} {w:World} {r:List Value} {x:RuleS} (h:RuleA Av w r x):r.length=5:=by obtain⟨b,c,a,d,rfl,_⟩:=h;rfl
theorem RuleA.keep {Av:Nat->Prop} {w w':World} {r:List Value} {x:RuleS} (h:RuleA Av w r x) (a:Fr Av w w'):RuleA Av w' r x:=by
 obtain⟨g,i,f,j,rfl,b,c,d,e⟩:=h;exact⟨g,i,f,j,rfl,RowA.keep b a,RowA.keep c a,RowA.keep d a,e.keep a⟩
theorem RuleA.mono {Av Av':Nat->Prop} {w:World} {r:List Value} {x:RuleS} (h:RuleA Av w r x) (a:∀b,b<w.heap.size->Av' b->Av b):RuleA Av' w r x:=by
 obtain⟨i,j,g,k,rfl,c,d,e,f⟩:=h;exact⟨i,j,g,k,rfl,RowA.mono c a,RowA.mono d a,RowA.mono e a,f.mono a⟩
def RulesA (Av:Nat->Prop) (w:World) (v:Value) (xs:List RuleS):Prop:=∃rows,RowA Av w v 5 rows/\AllA (RuleA Av w) rows xs
theorem RulesA.keep {Av:Nat->Prop} {w w':World} {v:Value} {xs:List RuleS} (h:RulesA Av w v xs) (b:Fr Av w w'):RulesA Av w' v xs:=by
 obtain⟨a,c,d⟩:=h;exact⟨a,c.keep b,d.imp λr x h=>h.keep b⟩
theorem RulesA.mono {Av Av':Nat->Prop} {w:World} {v:Value} {xs:List RuleS} (h:RulesA Av w v xs) (c:∀b,b<w.heap.size->Av' b->Av b):RulesA Av' w v xs:=by
 obtain⟨a,d,e⟩:=h;exact⟨a,d.mono c,e.imp λr x h=>h.mono c⟩
theorem Zqx {W c:World} {B:Nat} {vv v':Value} {a:List (List Value)} {xs:List RuleS} (h:AllA (λr x=>RuleA (AvOf B vv) W r x) a xs) (f:W.grownBy c vv.ownBlock) (g:∀b,v'.ownBlock=some b->vv.ownBlock=some b\/W.heap.size<=b):
  AllA (RuleA (AvOf B v') c) a xs:=by
 refine h.imp λr x hx=>?_
 have d:RuleA (λb=>AvOf B vv b\/W.heap.size<=b) W r x:=hx.mono λb i e=>by
  rcases e with e|e
  ·exact e
  ·omega
 refine(d.keep (Zpx f λk e=> .inl (.inr e))).mono λb _ e=>?_
 rcases e with e|e
 ·exact .inl (.inl e)
 ·rcases g b e with e|e
  ·exact .inl (.inr e)
  ·exact .inr e
theorem Zsw:(prog.info? 50).map (λi=>(i.zero,i.size,i.bytes))=some (some (.agg #[.string ByteArray.empty,.slice none 0 0,.slice none 0 0,.slice none 0 0,.slice none 0 0]),5,112):=by kernel_rfl
def srtL (xs:List (List UInt8)):List (List UInt8):=xs.mergeSort λx y=>decide (x<=y)
def srtB (xs:List ByteArray):List ByteArray:=(srtL (xs.map (·.data.toList))).map λl=>⟨l.toArray⟩
theorem Zbnc (xs:List (List UInt8)):(srtL xs).length=xs.length:=List.length_mergeSort xs
theorem Zbnb (xs:List ByteArray):(srtB xs).length=xs.length:=by unfold srtB;rw[List.length_map,Zbnc,List.length_map]
def EndsN (l:List UInt8):Prop:=l = []\/∃r,l=r ++ [10]
theorem EndsN.drop {l:List UInt8} (h:EndsN l) (n:Nat):EndsN (l.drop n):=by
 rcases h with rfl|⟨r,rfl⟩
 ·exact .inl (by simp)
 ·by_cases a:n<=r.length
  ·exact .inr ⟨r.drop n,by rw[List.drop_append_of_le_length a]⟩
  ·exact .inl (List.drop_eq_nil_of_le (by simp;omega))
theorem below_drewN {B:Nat} {w w':World} (h:Below B w w') (n:Nat):Below B w (w'.drewN n):=⟨h.os,h.tape,h.output,h.size,h.block⟩
open Go.Sort
def OwnStrs (B:Nat) (w:World) (v:Value) (xs:List ByteArray):Prop:=w.ownsRow B 9 1 v xs.length (xs.map Value.string)
def Zah (w:World) (xs:List ByteArray) (e:Ending) (w':World):Prop:=∃v,e = .returned v/\((xs = []/\v = .slice none 0 0)\/(∃g c,v = .slice (some ⟨g,0,none⟩) xs.length c/\OwnStrs w.heap.size w' v xs))/\Below w.heap.size w w'
theorem Zbqh {Av:Nat->Prop} {w:World} {v:Value} {xs:List ByteArray} (h:StrsA Av w v xs):∃a c,v = .slice a xs.length c/\xs.length<=c/\c<=maxLen/\(xs≠[]->∃b o,a=some ⟨b,o,none⟩/\b<w.heap.size/\∀(j:Nat) x,xs[j]? =some x->w.cell? ⟨b,o+j,none⟩=some (.string x)):=by
 obtain⟨⟨a,c,rfl,f,g,i⟩,_⟩:=h;rw[Zbpo]at f;refine⟨a,c,by rw[Zbpo],f,g,λd=>?_⟩;obtain⟨b,o,k,l,m⟩:=i (by intro e;apply d;have:=congrArg List.length e;rw[Zbpo]at this;exact List.eq_nil_of_length_eq_zero this);refine⟨b,o,k,l,λj x hx=>?_⟩;have:=m j [.string x] (by unfold Zbpk;rw[List.getElem?_map,hx];rfl) 0 (.string x) rfl;simpa using this
theorem StrsA.isStrs {Av:Nat->Prop} {w:World} {v:Value} {xs:List ByteArray} (h:StrsA Av w v xs):IsStrs w v xs:=Zbqh h
theorem Zjh (v:Value) (xs:List ByteArray) (w:World) (h:IsStrs w v xs) (U:xs.length<=8796093022208):
  Calls prog 88 #[v] w (Zah w xs):=by
 obtain⟨a,c,rfl,T,I,s⟩:=h;obtain⟨Q,L,A,B,C⟩:=info_parts Zsy
 cases a with
 | none=>
  have y:xs = []:=by
   rcases xs with _|⟨f,S⟩
   ·rfl
   ·obtain⟨b,o,t,_⟩:=s (by simp)
    cases t
  subst y;have P:∀w,(Go.binOp .eql 47 (.slice none 0 c) (.slice none 0 0)).run prog w = .ok (.bool true) w:=λw=>Lib.run_eql_slice_nil w 47 9 none 0 c 0 0 underlying47
  go_enter func88,ntmps88
  go_wp2;go_ret;exact⟨_,rfl,.inl ⟨rfl,rfl⟩,Below.refl _ _⟩
 | some F=>
  obtain⟨p,q,i⟩:=F;have P:∀w,(Go.binOp .eql 47 (.slice (some ⟨p,q,i⟩) xs.length c) (.slice none 0 0)).run prog w = .ok (.bool false) w:=λw=>Lib.run_eql_slice_nil w 47 9 _ _ _ _ _ underlying47
  have d:∀j u,(xs.map Value.string)[j]? =some u->w.cell? ((⟨p,q,i⟩:Addr).add j)=some u:=by
   intro j u n;rw[List.getElem?_map]at n;obtain⟨x,hx,rfl⟩:=Option.map_eq_some_iff.1 n;obtain⟨b,o,t,_,K⟩:=s (by rintro rfl;simp at hx)
   cases t
   rw[Addr.add_lit];exact K j x hx
  have E:=hid d;clear d s
  go_enter func88,ntmps88
  go_wp2_with (at_builtin;refine wpList_append_own _ rfl _ _ 47 rfl w.heap.size 9 Q _ 1 16 underlying47 L A B C rfl (by decide) _ _ _ rfl (World.ownsRow_made w #[] 0 (Nat.le_refl _) (Nat.zero_le _) (by simp)) ⟨p,q,i⟩ xs.length c (xs.map Value.string) rfl ?qc1 ?qc2 ?qc3 ?qc4 ?qc5 ?qc6 ?_)
  case qc1=>simp
  case qc2=>
   intro j u M;exact Lib.cell?_alloc_some _ (E.out j u M)
  case qc3=>
   intro u n;obtain⟨x,_,rfl⟩:=List.mem_map.1 n;rfl
  case qc4=>unfold maxLen;omega
  case qc5=>omega
  case qc6=>simp
  intro R w1 m l D;go_wp2;go_ret;have J:Below w.heap.size w w1:=((Below.refl _ w).alloc (Nat.le_refl _) _).grown l (by simp) (by intro k O;simp[Value.ownBlock]at O;omega);refine⟨_,rfl,?_,J⟩;have e:OwnStrs w.heap.size w1 R xs:=by unfold OwnStrs;simpa using m
  rcases e.2 with⟨z,H⟩|⟨g,r,G,z,_⟩
  ·exact .inl ⟨List.eq_nil_of_length_eq_zero H,z⟩
  ·exact .inr ⟨g,r,z,e⟩
theorem Zmp (xs:List ByteArray):(xs.map (·.data.toList)).map encStr=xs.map Value.string:=by
 rw[List.map_map];exact List.map_congr_left λx _=>by simp[encStr]
theorem Zmq (xs:List ByteArray):(srtL (xs.map (·.data.toList))).map encStr=(srtB xs).map Value.string:=by
 unfold srtB;rw[List.map_map];exact List.map_congr_left λx _=>by simp[encStr]
theorem e190:nmRen.f 190=95:=by kernel_rfl
theorem Zbmi (B g c:Nat) (xs:List ByteArray) (w:World) (h:OwnStrs B w (.slice (some ⟨g,0,none⟩) xs.length c) xs) (x:xs.length<=8796093022208):
  Calls prog 95 #[.slice (some ⟨g,0,none⟩) xs.length c] w λe w'=>e = .returned (.tuple #[])/\OwnStrs B w' (.slice (some ⟨g,0,none⟩) xs.length c) (srtB xs)/\w.grownBy w' (some g):=by
 obtain⟨v,⟨i,_⟩|⟨u,j,l,i,b,d,m,o,p,q⟩⟩:=h
 ·cases i
 cases i
 have a:(xs.map (·.data.toList)).length=xs.length:=by simp
 have r:Holds encStr w g 0 (xs.map (·.data.toList)).toArray:=holds_of_block d (by rw[a,Zmp];simpa using q);have f:g<w.heap.size:=(Array.getElem?_eq_some_iff.1 d).1;have t:(xs.map (·.data.toList)).length<4611686018427387904:=by rw[a];omega
 have s:=λD:Nat=>AnyS.slices_Sort_string_in lLays_n190 D g 0 c (xs.map (·.data.toList)) w r f t
 have k:=calls_of_every_depth s;rw[e190,a]at k;refine k.mono ?_;rintro e w' ⟨rfl,n,os,rfl⟩;refine⟨rfl,?_,grownBy_sorted _⟩;have:=ownsRow_sorted (n:=n) (os:=os) (ts:=srtL (xs.map (·.data.toList))) (ss:=xs.map (·.data.toList)) (cap:=c) (Zbnc _) b d (by rw[a];exact m) o p;rw[Zmq,a]at this;unfold OwnStrs;rw[Zbnb];exact this
theorem Zbmj (a:Option Addr) (c:Nat) (w:World):Calls prog 95 #[.slice a 0 c] w λe w'=>e = .returned (.tuple #[])/\w'=w:=
 by
 have:=Any.slices_Sort_string_none lLays_n190 a c w
 rwa [e190]at this
theorem Zbid {Av:Nat->Prop} {w:World} {v:Value} {k:Nat} {b:List (List Value)} (h:RowA Av w v k b):∃a c,v = .slice a b.length c/\b.length<=c/\c<=maxLen:=by
 obtain⟨⟨a,c,rfl,d,e,_⟩,_⟩:=h;exact⟨a,c,rfl,d,e⟩
def OwnSteps (B:Nat) (w:World) (v:Value) (xs:List StepS):Prop:=∃rows,w.ownsRow B 58 5 v rows.length rows.flatten/\AllA (StepA (AvOf B v) w) rows xs
theorem OwnSteps.below {B:Nat} {w w':World} {v:Value} {xs:List StepS} (h:OwnSteps B w v xs) (a:Below w.heap.size w w'):OwnSteps B w' v xs:=by
 obtain⟨b,c,d⟩:=h;exact⟨b,World.ownsRow.kept (row:=none) c ⟨a.os,a.tape,a.output,a.size,λk e _=>a.block k e⟩ (by cases h:Value.ownBlock _<;>simp),d.imp λr x h=>h.keep (Zpv a)⟩
theorem OwnSteps.fr {B:Nat} {w w':World} {v:Value} {xs:List StepS} {Av:Nat->Prop} (h:OwnSteps B w v xs) (i:Fr Av w w') (l:∀b,Av b->AvOf B v b) (m:∀b,v.ownBlock=some b->¬Av b):OwnSteps B w' v xs:=by
 obtain⟨c,k,n⟩:=h;refine⟨c,?_,n.imp λr x h=>h.keep (i.mono λb _ e=>l b e)⟩;refine⟨k.1,?_⟩
 rcases k.2 with p|⟨g,d,f,rfl,o,j,a⟩
 ·exact .inl p
 ·exact .inr ⟨g,d,f,rfl,o,(i.block g (Array.getElem?_eq_some_iff.1 j).1 (m g rfl)).trans j,a⟩
theorem OwnSteps.len {B:Nat} {w:World} {v:Value} {xs:List StepS} (h:OwnSteps B w v xs):∃a c,v = .slice a xs.length c:=by
 obtain⟨e,j,d⟩:=h
 rcases j.2 with⟨rfl,i⟩|⟨g,b,f,rfl,_⟩
 ·exact⟨none,0,by rw[<-d.1,i]⟩
 ·exact⟨_,b,by rw[d.1]⟩
theorem OwnSteps.lt {B:Nat} {w:World} {v:Value} {xs:List StepS} (h:OwnSteps B w v xs):∀b,v.ownBlock=some b->B<=b/\b<w.heap.size:=by
 obtain⟨a,c,_⟩:=h;exact λb e=>c.lt b e
theorem Zjj {w:World} {xs:List ByteArray} {e:Ending} {w':World} (h:Zah w xs e w'):∃a n c,e = .returned (.slice a n c)/\StrsA (λb=>b<w.heap.size) w' (.slice a n c) xs/\Below w.heap.size w w':=by
 obtain⟨v,rfl,i,d⟩:=h
 rcases i with⟨rfl,rfl⟩|⟨g,c,rfl,f⟩
 ·exact⟨_,_,_,rfl,Zbie _ _ _,d⟩
 ·exact⟨_,_,_,rfl,Zbqf (t:=9) f,d⟩
theorem Zboi {Av:Nat->Prop} {w:World} {v:Value} {xs:List StepS} (h:StepsA Av w v xs):∃a c,v = .slice a xs.length c/\xs.length<=c/\c<=maxLen:=by
 obtain⟨e,d,b⟩:=h;rw[<-b.1];exact Zbid d
