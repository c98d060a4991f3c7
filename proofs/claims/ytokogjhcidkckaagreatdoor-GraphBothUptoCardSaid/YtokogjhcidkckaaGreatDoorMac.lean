import Derived.Test.YtokogjhcidkckaaGreatDoorMab
import Derived.Lib.SlBytesRow
import Derived.Laws.CopyOwn
import Derived.Laws.Append
namespace Go.Proofs.YtokogjhcidkckaaGreatDoor.Exe
open Go
variable {N:Nat->Prop} {P:Program} {G:Nat} {r:Ren} {h:Hp} {w:World}
def capC (P:Program) (t:TypeId):Value->Res
 | .slice none _ c=>match P.underlying t with
  | some (.slice _)=>some (none,goInt c)
  | _=>none
 | .slice (some ⟨n,_,none⟩) _ c=>bif exN n then match P.underlying t with
  | some (.slice _)=>some (none,goInt c)
  | _=>none else none
 | _=>none
theorem Zcoj {t ty:TypeId} {ts:Array TypeId} {v v':Value} {us:Array Value} (ht:ts[0]? =some t) (ha:us[0]? =some v') (hv:ValR (Zp P) r v v') {rd x} (hc:capC P t v=some (rd,x)):
  PS P (Zp P) r w rd x (Builtin.cap_ ts ty us):=by
 unfold capC at hc;split at hc
 ·obtain rfl:=Zcna rfl hv
  split at hc
  ·rename_i hu;cases hc;exact .of _ (.same rfl) (λw1=>by simp[Builtin.cap_,ht,ha,run_underlying hu])
  ·cases hc
 ·rename_i n o l c
  cases hn:exN n with
  | false=>rw[hn]at hc;cases hc
  | true=>
   rw[hn]at hc;simp only[cond_true]at hc;split at hc
   ·rename_i hu;cases hc
    cases hv with
    | same hat=>simp[atom]at hat
    | slice _ _ he _=>obtain rfl:=he hn;exact .of _ (.same rfl) (λw1=>by simp[Builtin.cap_,ht,ha,run_underlying hu])
   ·cases hc
 ·cases hc
def Zcor:Value->Res
 | .slice none _ _=>some (none,.pointer none)
 | .slice (some ⟨n,o,none⟩) _ c=>bif Nat.beq c 0 then none else some (none,.pointer (some ⟨n,o,none⟩))
 | _=>none
theorem Zcos {ty:TypeId} {ts:Array TypeId} {v v':Value} (hv:ValR (Zp P) r v v') {rd x} (hc:Zcor v=some (rd,x)):
  PS P (Zp P) r w rd x (Builtin.unsafeSliceData_ ts ty #[v']):=by
 unfold Zcor at hc;split at hc
 ·obtain rfl:=Zcna rfl hv
  cases hc;exact .of _ (.same rfl) (λw1=>rfl)
 ·rename_i n o l c
  cases hn:Nat.beq c 0 with
  | true=>rw[hn]at hc;cases hc
  | false=>
   rw[hn]at hc;cases hc;have:=Zcnd.1 hn
   cases hv with
   | same hat=>simp[atom]at hat
   | @slice _ _ _ _ c' e he hle _ _=>
    refine .of _ (.ptr he) (λw1=>?_);have hc0:c'≠0:=by omega
    show Sem.run P (if c'≠0 then pure (Value.pointer (some ⟨e.b,o+e.sh,none⟩))else _) w1=_;rw[if_pos hc0];rfl
 ·cases hc
def Zdjp:Nat->List Value->Option (List UInt8)
 | 0,_=>some []
 | n+1,.int .u8 (.ofNat k)::vs=>bif Nat.blt k 256 then match Zdjp n vs with
  | some bs=>some (UInt8.ofNat k::bs)
  | none=>none else none
 | _+1,_=>none
theorem Zdjq:∀ {n:Nat} {vs:List Value} {bs:List UInt8},Zdjp n vs=some bs->bs.length=n/\∀i (h:i<bs.length),vs[i]? =some (.int .u8 (bs[i].toNat:Int))
 | 0,vs,bs,h=>by simp[Zdjp]at h;subst h;exact⟨rfl,λi hi=>by simp at hi⟩
 | n+1,vs,bs,h=>by
  unfold Zdjp at h;split at h
  ·rename_i e;cases e
  ·rename_i m k us e
   cases e
   cases hk:Nat.blt k 256 with
   | false=>rw[hk]at h;cases h
   | true=>
    rw[hk]at h;simp only[cond_true]at h;split at h
    case h_2=>cases h
    rename_i cs hc
    cases h
    obtain⟨h1,h2⟩:=Zdjq hc;have hk:=Nat.le_of_ble_eq_true hk;refine⟨by simp[h1],λi hi=>?_⟩
    cases i with
    | zero=>simp;omega
    | succ i=>simpa using h2 i (by simpa using hi)
  ·cases h
def Zcon (P:Program) (h:Hp) (src dst:TypeId):Value->Res
 | .pointer (some ⟨n,o,none⟩)=>bif exN n then
   match look h n with
   | some (.cells cs te _ _)=>match P.underlying src,P.underlying dst with
    | some (.pointer t),some .unsafePointer=>match szC P t with
     | some k=>bif Nat.beq k 0 then none else bif Nat.blt o cs.length then some (some n,.pointer (some ⟨n,o,none⟩))else none
     | none=>none
    | some .unsafePointer,some (.pointer u)=>match szC P u with
     | some _=>bif liesAt P P.depth te (cs.length/P.cellsOf te) o u 1 then some (some n,.pointer (some ⟨n,o,none⟩))else none
     | none=>none
    | _,_=>none
   | _=>none
  else none
 | .slice (some ⟨n,o,none⟩) l _=>match look h n with
  | some (.cells cs _ _ _)=>match P.underlying src,P.underlying dst with
   | some (.slice el),some .string=>match P.underlying el with
    | some (.int .u8)=>match Zdjp l (cs.drop o)with
     | some bs=>some (some n,.string ⟨⟨bs⟩⟩)
     | none=>none
    | _=>none
   | _,_=>none
  | _=>none
 | v=>bif flat 3 v then fl P (convert src dst v)else none
theorem Zcoo (hR:Rep N (Zp P) G r h w) {src dst:TypeId} {v v':Value} (hv:ValR (Zp P) r v v') {rd x} (hc:Zcon P h src dst v=some (rd,x)):
  PS P (Zp P) r w rd x (convert src dst v'):=by
 unfold Zcon at hc;split at hc
 ·rename_i n o
  cases hn:exN n with
  | false=>rw[hn]at hc;cases hc
  | true=>
   rw[hn]at hc;simp only[cond_true]at hc;split at hc
   case h_2=>cases hc
   rename_i cs te hi ro hl
   cases hv with
   | same hat=>simp[atom]at hat
   | @ptr _ _ e he=>
    obtain⟨e',he',o',ho',hO⟩:=hR.obj n _ hl;obtain rfl:=Option.some.inj (he.symm.trans he')
    cases o' with
    | cells cs' t' f=>
     obtain⟨h1,h2,h3,h4,h5,h6,h7⟩:=hO;obtain⟨hs0,hlen⟩:=h5 hn;split at hc
     ·rename_i t hs hd
      split at hc
      case h_2=>cases hc
      rename_i k hk
      cases hk0:Nat.beq k 0 with
      | true=>rw[hk0]at hc;cases hc
      | false=>
       rw[hk0]at hc;simp only[cond_false]at hc
       cases hlt:Nat.blt o cs.length with
       | false=>rw[hlt]at hc;cases hc
       | true=>
        rw[hlt]at hc;cases hc;have hlt:=Nat.le_of_ble_eq_true hlt;have hk1:=Zcnd.1 hk0;refine⟨_,.ptr he,λw1 hw1=>?_⟩;have hw:=(hw1 n _ rfl he).trans ho';have hsh:w1.shape? e.b=some (t',cs'.size):=by simp[World.shape?,hw]
        have:¬(cs'.size<=o+e.sh):=by omega
        simp[convert,run_underlying hs,run_underlying hd,Conv.unsafePointer,Conv.seenAt,viewAt,shape,Sem.run,hsh,cellsIn,Zcvp hk,hk1,this]
     ·rename_i u hs hd
      split at hc
      case h_2=>cases hc
      rename_i k hk
      cases hli:liesAt P P.depth te (cs.length/P.cellsOf te) o u 1 with
      | false=>rw[hli]at hc;cases hc
      | true=>
       rw[hli]at hc;cases hc;refine⟨_,.ptr he,λw1 hw1=>?_⟩;have hw:=(hw1 n _ rfl he).trans ho';have hsh:w1.shape? e.b=some (te,cs.length):=by simp[World.shape?,hw,h1,h3,hlen]
       simp[convert,run_underlying hs,run_underlying hd,Conv.unsafePointer,Conv.seenAt,viewAt,shape,Sem.run,hsh,variablesAt,program,Zcvp hk,hs0,hli]
     ·cases hc
    | _=>exact hO.elim
 ·rename_i n o l c
  split at hc
  case h_2=>cases hc
  rename_i cs te hi ro hl
  cases hv with
  | same hat=>simp[atom]at hat
  | @slice _ _ _ _ c' e he _ _ _=>
   obtain⟨e',he',o',ho',hO⟩:=hR.obj n _ hl;obtain rfl:=Option.some.inj (he.symm.trans he')
   cases o' with
   | cells cs' t' f=>
    obtain⟨h1,h2,h3,h4,h5,h6,h7⟩:=hO;split at hc
    case h_2=>cases hc
    rename_i el hs hd
    split at hc
    case h_2=>cases hc
    rename_i hel
    split at hc
    case h_2=>cases hc
    rename_i bs hb
    cases hc
    obtain⟨b1,b2⟩:=Zdjq hb;refine⟨_,.same rfl,λw1 hw1=>?_⟩;have hw:=(hw1 n _ rfl he).trans ho';have hB:Lib.Bytes w1 e.b (o+e.sh) ⟨⟨bs⟩⟩:=by
     intro i hi;have hi':i<bs.length:=hi;have q:=b2 i hi';rw[List.getElem?_drop]at q;obtain⟨v',q1,q2⟩:=h6 _ _ q;obtain rfl:=Zcna rfl q2;have e3:o+e.sh+i=e.sh+(o+i):=by omega
     show w1.cell? ⟨e.b,o+e.sh+i,none⟩=_;rw[e3];simp[World.cell?,hw]
     first|exact q1|(rw[Nat.add_comm];exact q1)|simpa[Nat.add_comm]using q1
    have:=Lib.run_convert_whole (P:=P) w1 src el dst hs hel hd e.b (o+e.sh) ⟨⟨bs⟩⟩ hB c';rw[show(⟨⟨bs⟩⟩:ByteArray).size=l from b1]at this;exact this
   | _=>exact hO.elim
 ·cases hf:flat 3 v with
  | false=>rw[hf]at hc;cases hc
  | true=>
   rw[hf]at hc;obtain rfl:=Zcqk 3 hf hv;exact Zcqg hc
def evL (ev:Ev):List Operand->Option (List Value)
 | []=>some []
 | x::xs=>match ev x with
  | some v=>match evL ev xs with
   | some vs=>some (v::vs)
   | none=>none
  | none=>none
def evP (ev:Ev):List (Nat×Operand)->Option (List (Nat×Value))
 | []=>some []
 | (i,x)::xs=>match ev x with
  | some v=>match evP ev xs with
   | some vs=>some ((i,v)::vs)
   | none=>none
  | none=>none
def EvR (P:Program) (r:Ren) (ev:Ev) (f:Operand->Value):Prop:=∀x v,ev x=some v->ValR (Zp P) r v (f x)
theorem Zcpj {ev:Ev} {f:Operand->Value} (hE:EvR P r ev f):∀ {xs:List Operand} {vs},evL ev xs=some vs->ValsR (Zp P) r vs (xs.map f):=by
 intro xs
 induction xs with
 | nil=>intro vs hc;cases hc;exact .nil
 | cons x xs ih=>
  intro vs hc;simp only[evL]at hc;split at hc
  case h_2=>cases hc
  rename_i v hv
  split at hc
  case h_2=>cases hc
  rename_i us hu
  cases hc
  exact(ih hu).cons (hE _ _ hv)
theorem Zcpl {ev:Ev} {f:Operand->Value} (hE:EvR P r ev f):∀ {xs:List (Nat×Operand)} {vs},evP ev xs=some vs->Zcmi P r vs (xs.map λp=>(p.1,f p.2)):=by
 intro xs
 induction xs with
 | nil=>intro vs hc;cases hc;exact⟨rfl,λi x y a=>by simp at a⟩
 | cons x xs ih=>
  intro vs hc;obtain⟨i,x⟩:=x;simp only[evP]at hc;split at hc
  case h_2=>cases hc
  rename_i v hv
  split at hc
  case h_2=>cases hc
  rename_i us hu
  cases hc
  obtain⟨h1,h2⟩:=ih hu;refine⟨by simp[h1],λj a b ha hb=>?_⟩
  cases j with
  | zero=>simp at ha hb;subst ha;subst hb;exact⟨rfl,hE _ _ hv⟩
  | succ j=>exact h2 j a b (by simpa using ha) (by simpa using hb)
def ev1 (ev:Ev) (x:Operand) (f:Value->Res):Res:=match ev x with
 | some v=>f v
 | none=>none
def ev2 (ev:Ev) (x y:Operand) (f:Value->Value->Res):Res:=match ev x with
 | some v=>match ev y with
  | some u=>f v u
  | none=>none
 | none=>none
def evO (ev:Ev) (x:Option Operand) (f:Option Value->Res):Res:=match x with
 | none=>f none
 | some x=>match ev x with
  | some v=>f (some v)
  | none=>none
theorem Zcpg {ev:Ev} {x f p} (hc:ev1 ev x f=some p):∃v,ev x=some v/\f v=some p:=by
 unfold ev1 at hc;split at hc
 ·exact⟨_,by assumption,hc⟩
 ·cases hc
theorem Zcph {ev:Ev} {x y f p} (hc:ev2 ev x y f=some p):∃v u,ev x=some v/\ev y=some u/\f v u=some p:=by
 unfold ev2 at hc;split at hc
 ·split at hc
  ·exact⟨_,_,by assumption,by assumption,hc⟩
  ·cases hc
 ·cases hc
theorem Zcpk {ev:Ev} {g:Operand->Value} (hE:EvR P r ev g) {x f p} (hc:evO ev x f=some p):∃v,OptR r P v (x.map g)/\f v=some p:=by
 unfold evO at hc;split at hc
 ·exact⟨none,trivial,hc⟩
 ·split at hc
  ·exact⟨some _,(hE _ _ (by assumption):ValR (Zp P) r _ _),hc⟩
  ·cases hc
def Zcqh (v:Value) (x:Res):Res:=bif flat 4 v then x else none
theorem Zcqi {v:Value} {x p} (hc:Zcqh v x=some p):flat 4 v=true/\x=some p:=by
 unfold Zcqh at hc
 cases hf:flat 4 v with
 | false=>rw[hf]at hc;cases hc
 | true=>rw[hf]at hc;exact⟨rfl,hc⟩
def nilC:Value->Res
 | .pointer (some a)=>some (none,.pointer (some a))
 | .func (.func f) xs ys=>some (none,.func (.func f) xs ys)
 | _=>none
def Zcqs (ev:Ev) (fs cs:List Operand) (f:FuncId):Res:=match evL ev fs with
 | some xs=>match evL ev cs with
  | some ys=>some (none,.func (.func f) xs.toArray ys.toArray)
  | none=>none
 | none=>none
def Zcnw (P:Program) (ev:Ev) (t:TypeId) (ps:List (Nat×Operand)):Res:=match evP ev ps with
 | some vs=>Zcnu P t vs
 | none=>none
def Zcnx (P:Program) (h:Hp) (ev:Ev) (b:Builtin) (ts:Array TypeId) (args:List Operand):Res:=match b with
 | .len=>match args,ts[0]? with
  | [x],some t=>ev1 ev x (lenC P h t)
  | _,_=>none
 | .cap=>match args,ts[0]? with
  | [x],some t=>ev1 ev x (capC P t)
  | _,_=>none
 | .unsafeSliceData=>match args with
  | [x]=>ev1 ev x Zcor
  | _=>none
 | .min=>match args with
  | [x,y]=>ev2 ev x y λa b=>Zcqh a (Zcqh b (fl P (Builtin.min_ #[] 0 #[a,b])))
  | _=>none
 | .max=>match args with
  | [x,y]=>ev2 ev x y λa b=>Zcqh a (Zcqh b (fl P (Builtin.max_ #[] 0 #[a,b])))
  | _=>none
 | _=>none
def Zcty (P:Program) (h:Hp) (ev:Ev) (o:Op):Res:=match o with
 | .move x=>ev1 ev x λv=>some (none,v)
 | .assign x=>ev1 ev x λv=>some (none,v)
 | .pick c x y=>ev1 ev c fun
  | .bool true=>ev1 ev x λv=>some (none,v)
  | .bool false=>ev1 ev y λv=>some (none,v)
  | _=>none
 | .nilCheck x=>ev1 ev x nilC
 | .binOp op t x y _=>ev2 ev x y (binC P op t x y)
 | .unOp op _ x=>ev1 ev x λv=>Zcqh v (fl P (Op.unary op v))
 | .load t x=>ev1 ev x (Zcrs P h t)
 | .fieldAddr s x f=>ev1 ev x (Zcpv P s f)
 | .field s x f=>ev1 ev x (Zcpz P s f)
 | .indexAddr t x i=>ev2 ev x i (Zcrf P t)
 | .index t x i=>ev2 ev x i λa b=>Zcqh a (Zcqh b (fl P (Instr.index t a b)))
 | .slice t x lo hi mx=>ev1 ev x λv=>evO ev lo λlo=>evO ev hi λhi=>evO ev mx λmx=>Zcve P h t lo hi mx v
 | .lookup t m k ok=>ev2 ev m k (Zcsd P h t ok)
 | .extract t i=>ev1 ev t (Zcpp i)
 | .makeFunc (.func f) fs cs=>Zcqs ev fs.toList cs.toList f
 | .build t ps=>Zcnw P ev t ps.toList
 | .convert src dst x=>ev1 ev x (Zcon P h src dst)
 | .call { callee:= .builtin b,args:=args,argTypes:=ts }=>Zcnx P h ev b ts args.toList
 | _=>none
def PN (P:Program) (Z:TypeId->Nat) (r:Ren) (w0:World) (rd:Option Nat) (v:Value) (s:Sem Next):Prop:=
 ∃v',ValR Z r v v'/\∀w:World,(∀n e,rd=some n->r n=some e->w.heap[e.b]? =w0.heap[e.b]?)->s.run P w = .ok (.value v') w
theorem PS.next {Z rd v s} (hs:PS P Z r w rd v s):PN P Z r w rd v (do pure (.value (<-s))):=by
 obtain⟨v',h1,h2⟩:=hs;exact⟨v',h1,λw1 hw=>by simp[h2 w1 hw]⟩
theorem PN.of {Z rd v v' s} (hv:ValR Z r v v') (h:∀w1:World,s.run P w1 = .ok (.value v') w1):PN P Z r w rd v s:=⟨v',hv,λw1 _=>h w1⟩
theorem Zctz (hR:Rep N (Zp P) G r h w) {ev:Ev} {f:Operand->Value} (hE:EvR P r ev f) {o:Oper} {rd x} (hc:Zcty P h ev o.op=some (rd,x)):PN P (Zp P) r w rd x (execOp f o):=by
 obtain⟨dst,op,ty,pos,after,guard⟩:=o
 dsimp only at hc
 unfold Zcty at hc;split at hc
 ·obtain⟨v,h1,h2⟩:=Zcpg hc;cases h2;exact .of (hE _ _ h1) (λw1=>rfl)
 ·obtain⟨v,h1,h2⟩:=Zcpg hc;cases h2;exact .of (hE _ _ h1) (λw1=>rfl)
 ·rename_i c x y
  obtain⟨v,h1,h2⟩:=Zcpg hc;have hv:=hE _ _ h1;split at h2
  ·have:=Zcna rfl hv
   obtain⟨u,h3,h4⟩:=Zcpg h2;cases h4;exact .of (hE _ _ h3) (λw1=>by simp[execOp,this,asBool])
  ·have:=Zcna rfl hv
   obtain⟨u,h3,h4⟩:=Zcpg h2;cases h4;exact .of (hE _ _ h3) (λw1=>by simp[execOp,this,asBool])
  ·cases h2
 ·rename_i x
  obtain⟨v,h1,h2⟩:=Zcpg hc;have hv:=hE _ _ h1;unfold nilC at h2;split at h2
  ·cases h2
   refine .of hv (λw1=>?_);simp only[execOp];generalize f x=y at hv⊢
   cases hv with
   | same hat=>simp[atom]at hat
   | ptr he=>rfl
  ·cases h2
   refine .of hv (λw1=>?_);simp only[execOp];generalize f x=y at hv⊢
   cases hv with
   | same hat=>simp[atom]at hat
   | func _ _ _ _=>rfl
  ·cases h2
 ·obtain⟨v,u,h1,h2,h3⟩:=Zcph hc;exact(Zcne (hE _ _ h1) (hE _ _ h2) h3).next
 ·obtain⟨v,h1,h2⟩:=Zcpg hc
  obtain⟨h3,h4⟩:=Zcqi h2;have e:=Zcqk 4 h3 (hE _ _ h1);have:=(Zcqg (r:=r) (w:=w) h4).next;simp only[execOp,e];exact this
 ·obtain⟨v,h1,h2⟩:=Zcpg hc;exact(Zcrt hR (hE _ _ h1) h2).next
 ·obtain⟨v,h1,h2⟩:=Zcpg hc;exact(Zcpw (hE _ _ h1) h2).next
 ·obtain⟨v,h1,h2⟩:=Zcpg hc;exact(Zcqa (hE _ _ h1) h2).next
 ·obtain⟨v,u,h1,h2,h3⟩:=Zcph hc;exact(Zcrg (hE _ _ h1) (hE _ _ h2) h3).next
 ·obtain⟨v,u,h1,h2,h3⟩:=Zcph hc
  obtain⟨h4,h5⟩:=Zcqi h3;obtain⟨h6,h7⟩:=Zcqi h5;have e1:=Zcqk 4 h4 (hE _ _ h1);have e2:=Zcqk 4 h6 (hE _ _ h2);have:=(Zcqg (r:=r) (w:=w) h7).next;simp only[execOp,e1,e2];exact this
 ·obtain⟨v,h1,h2⟩:=Zcpg hc
  obtain⟨lo,l1,h3⟩:=Zcpk hE h2;obtain⟨hi,l2,h4⟩:=Zcpk hE h3;obtain⟨mx,l3,h5⟩:=Zcpk hE h4;exact(Zcvf hR (hE _ _ h1) l1 l2 l3 h5).next
 ·obtain⟨v,u,h1,h2,h3⟩:=Zcph hc;exact(Zcse hR (hE _ _ h1) (hE _ _ h2) h3).next
 ·obtain⟨v,h1,h2⟩:=Zcpg hc;exact(Zcpq (hE _ _ h1) h2).next
 ·rename_i fid fs cs
  unfold Zcqs at hc;split at hc
  case h_2=>cases hc
  rename_i xs hx
  split at hc
  case h_2=>cases hc
  rename_i ys hy
  cases hc
  have k1:=Zcpj hE hx;have k2:=Zcpj hE hy;exact .of (v':= .func (.func fid) (fs.map f) (cs.map f)) (.func (by simpa using k1.1) (λi x y a b=>k1.2 i x y (by simpa using a) (by simpa using b)) (by simpa using k2.1) (λi x y a b=>k2.2 i x y (by simpa using a) (by simpa using b))) (λw1=>rfl)
 ·rename_i t ps
  unfold Zcnw at hc;split at hc
  case h_2=>cases hc
  rename_i vs hvs
  have:=(Zcnv (r:=r) (w:=w) (Zcpl hE hvs) hc).next;have e:(ps.toList.map λp=>(p.1,f p.2)).toArray=ps.map λx=>(x.1,f x.2):=by apply Array.ext';simp
  rw[e]at this;exact this
 ·obtain⟨v,h1,h2⟩:=Zcpg hc;exact(Zcoo hR (hE _ _ h1) h2).next
 ·rename_i b args ts
  have hex:∀vs:List Operand,args.toList=vs->execOp f ⟨dst,.call ⟨.builtin b,args,ts⟩,ty,pos,after,guard⟩=builtin b ts ty (args.map fun | .const _=>true|_=>false) (vs.map f).toArray:=by
   intro vs hvs;have:(vs.map f).toArray=args.map f:=by rw[<-hvs];apply Array.ext';simp
   rw[this];rfl
  unfold Zcnx at hc;split at hc
  ·split at hc
   ·rename_i x t hx ht
    obtain⟨v,h1,h2⟩:=Zcpg hc;rw[hex _ hx];exact(Zcrr hR ht rfl (hE _ _ h1) h2).next
   ·cases hc
  ·split at hc
   ·rename_i x t hx ht
    obtain⟨v,h1,h2⟩:=Zcpg hc;rw[hex _ hx];exact(Zcoj ht rfl (hE _ _ h1) h2).next
   ·cases hc
  ·split at hc
   ·rename_i x hx
    obtain⟨v,h1,h2⟩:=Zcpg hc;rw[hex _ hx];exact(Zcos (hE _ _ h1) h2).next
   ·cases hc
  ·split at hc
   ·rename_i x y hx
    obtain⟨v,u,h1,h2,h3⟩:=Zcph hc;obtain⟨h4,h5⟩:=Zcqi h3;obtain⟨h6,h7⟩:=Zcqi h5;have e1:=Zcqk 4 h4 (hE _ _ h1);have e2:=Zcqk 4 h6 (hE _ _ h2);have:=(Zcqg (r:=r) (w:=w) h7).next;rw[hex _ hx];simp only[List.map,e1,e2];exact this
   ·cases hc
  ·split at hc
   ·rename_i x y hx
    obtain⟨v,u,h1,h2,h3⟩:=Zcph hc;obtain⟨h4,h5⟩:=Zcqi h3;obtain⟨h6,h7⟩:=Zcqi h5;have e1:=Zcqk 4 h4 (hE _ _ h1);have e2:=Zcqk 4 h6 (hE _ _ h2);have:=(Zcqg (r:=r) (w:=w) h7).next;rw[hex _ hx];simp only[List.map,e1,e2];exact this
   ·cases hc
  ·cases hc
 ·cases hc
end Go.Proofs.YtokogjhcidkckaaGreatDoor.Exe
namespace Go.Proofs.YtokogjhcidkckaaGreatDoor.Exe
open Go
variable {N N':Nat->Prop} {P:Program} {Z:TypeId->Nat} {G:Nat} {r:Ren} {h:Hp} {w:World}
def Zcmd (k:Nat):Nat->Prop:=λn=>2*k<=n
theorem Rep.weak (hR:Rep N Z G r h w) (hN:∀n,N' n->N n):Rep N' Z G r h w:=⟨hR.obj,hR.inj,hR.low,λn hn=>hR.new n (hN n hn),hR.glo⟩
theorem Zcrz (hR:Rep N Z G r h w) {n:Nat} (hn:N n):look h n=none:=by
 cases hl:look h n with
 | none=>rfl
 | some o=>obtain⟨e,he,_⟩:=hR.obj n o hl;rw[hR.new n hn]at he;cases he
def set1 (r:Ren) (n:Nat) (e:Ent):Ren:=λm=>if m=n then some e else r m
theorem Zcuy (hR:Rep N Z G r h w) {n:Nat} (hn:N n) (e:Ent):Ext r (set1 r n e):=by
 intro m f hm;unfold set1;split
 ·rename_i hmn;subst hmn;rw[hR.new _ hn]at hm;cases hm
 ·exact hm
theorem Rep.alloc {k:Nat} (hR:Rep (Zcmd k) Z G r h w) {nm S:Nat} {t:TypeId} {o:CO} {o':Obj} (h1:2*k<=nm) (h2:nm<2*(k+1))
  (hO:ObjR Z r nm ⟨w.heap.size,0,S,t⟩ o o'):
  Rep (Zcmd (k+1)) Z G (set1 r nm ⟨w.heap.size,0,S,t⟩) ((nm,o)::h) (w.alloc o')/\Nx r h w (set1 r nm ⟨w.heap.size,0,S,t⟩) ((nm,o)::h) (w.alloc o'):=by
 have hx:=Zcuy hR (n:=nm) h1 ⟨w.heap.size,0,S,t⟩;have hold:∀b,b<w.heap.size->(w.alloc o').heap[b]? =w.heap[b]?:=λb hb=>by
  show(w.heap.push o')[b]? =_;rw[Array.getElem?_push,if_neg (by omega)]
 have hnew:(w.alloc o').heap[w.heap.size]? =some o':=by
  show(w.heap.push o')[_]? =_;simp
 have hsz:(w.alloc o').heap.size=w.heap.size+1:=by show(w.heap.push o').size=_;simp
 refine⟨⟨λn p hl=>?_,λn m p q en em hn hm a b hb=>?_,λn e he=>?_,λn hn=>?_,λg hg=>?_⟩,⟨hx,by rw[hsz];omega,λb hb _=>hold b hb,λb hb hOw=>?_,λb hb hOw=>?_,rfl,rfl,rfl⟩⟩
 ·rw[Zcrv]at hl
  split at hl
  ·rename_i e;subst e;cases hl
   exact⟨_,by simp[set1],o',hnew,hO.mono hx⟩
  ·obtain⟨e,he,p',hp',hOp⟩:=hR.obj n p hl
   exact⟨e,hx _ _ he,p',by rw[hold _ (hR.low _ _ he)];exact hp',hOp.mono hx⟩
 ·rw[Zcrv]at hn hm
  unfold set1 at a b;split at hn
  ·rename_i e1;subst e1;simp at a;subst a
   split at hm
   ·rename_i e2;exact e2.symm
   ·rename_i e2
    rw[if_neg e2]at b;have:=hR.low _ _ b;simp only at hb;omega
  ·rename_i e1
   rw[if_neg e1]at a;split at hm
   ·rename_i e2;subst e2;simp at b;subst b
    have:=hR.low _ _ a;simp only at hb;omega
   ·rename_i e2
    rw[if_neg e2]at b;exact hR.inj n m p q en em hn hm a b hb
 ·unfold set1 at he
  rw[hsz];split at he
  ·cases he;simp
  ·have:=hR.low _ _ he;omega
 ·unfold set1
  unfold Zcmd at hn;rw[if_neg (by omega)];exact hR.new n (by unfold Zcmd;omega)
 ·obtain⟨e,he,hb,hs⟩:=hR.glo g hg
  exact⟨e,hx _ _ he,hb,hs⟩
 ·obtain⟨n,p,e,hl,hro,he,rfl⟩:=hOw
  rw[Zcrv]at hl;unfold set1 at he;split at hl
  ·rename_i e1;subst e1;simp at he;subst he;simp at hb
  ·rename_i e1;rw[if_neg e1]at he
   exact⟨n,p,e,hl,hro,he,rfl⟩
 ·obtain⟨n,p,e,hl,he,rfl⟩:=hOw
  rw[Zcrv]at hl;unfold set1 at he;split at hl
  ·rename_i e1;subst e1;simp at he;subst he;simp at hb
  ·rename_i e1;rw[if_neg e1]at he
   exact⟨n,p,e,hl,he,rfl⟩
theorem Rep.write (hR:Rep N Z G r h w) {n:Nat} {e:Ent} {o o1:CO} {o1':Obj} {w':World} (hl:look h n=some o) (hro:o.ro=false) (hro1:o1.ro=false) (he:r n=some e)
  (hw:w'.heap[e.b]? =some o1') (hother:∀b,b≠e.b->w'.heap[b]? =w.heap[b]?) (hsz:w'.heap.size=w.heap.size) (hO:ObjR Z r n e o1 o1')
  (hos:w'.os=w.os) (htape:w'.tape=w.tape) (hout:w'.output=w.output):Rep N Z G r (upd h n o1) w'/\Nx r h w r (upd h n o1) w':=by
 have hlk:∀m p,look (upd h n o1) m=some p->∃q,look h m=some q/\(m=n/\p=o1∨m≠n/\p=q):=by
  intro m p hm;rw[Zcsc]at hm;split at hm
  ·rename_i e1;subst e1;rw[hl]at hm;cases hm;exact⟨o,hl,.inl ⟨rfl,rfl⟩⟩
  ·rename_i e1;exact⟨p,hm,.inr ⟨e1,rfl⟩⟩
 refine⟨⟨λm p hm=>?_,λm m2 p q en em hn hm a b hb=>?_,λm f hf=>by rw[hsz];exact hR.low m f hf,hR.new,hR.glo⟩,⟨Ext.refl r,by omega,λb hb hno=>?_,λb hb hOw=>?_,λb hb hOw=>?_,hos,htape,hout⟩⟩
 ·obtain⟨q,hq,⟨rfl,rfl⟩|⟨hne,rfl⟩⟩:=hlk m p hm
  ·exact⟨e,he,o1',hw,hO⟩
  ·obtain⟨f,hf,p',hp',hOp⟩:=hR.obj m p hq
   refine⟨f,hf,p',?_,hOp⟩;rw[hother _ (λhb=>hne (hR.inj m n p o f e hq hl hf he hb))];exact hp'
 ·obtain⟨q1,hq1,_⟩:=hlk m p hn
  obtain⟨q2,hq2,_⟩:=hlk m2 q hm;exact hR.inj m m2 q1 q2 en em hq1 hq2 a b hb
 ·refine hother b (λhb'=>hno ⟨n,o,e,hl,hro,he,hb'.symm⟩)
 ·obtain⟨m,p,f,hm,hp,hf,rfl⟩:=hOw
  obtain⟨q,hq,⟨rfl,rfl⟩|⟨hne,rfl⟩⟩:=hlk m p hm
  ·exact⟨m,o,f,hl,hro,hf,rfl⟩
  ·exact⟨m,p,f,hq,hp,hf,rfl⟩
 ·obtain⟨m,p,f,hm,hf,rfl⟩:=hOw
  obtain⟨q,hq,_⟩:=hlk m p hm;exact⟨m,q,f,hq,hf,rfl⟩
def ES (P:Program) (Z:TypeId->Nat) (G k:Nat) (r:Ren) (h:Hp) (w:World) (v:Option Value) (h1:Hp) (s:Sem Next):Prop:=
 ∃r1 w1,Nx r h w r1 h1 w1/\Rep (Zcmd (k+1)) Z G r1 h1 w1/\match v with
  | some v=>∃v',ValR Z r1 v v'/\s.run P w = .ok (.value v') w1
  | none=>s.run P w = .ok .skip w1
theorem ES.alloc {k nm S:Nat} {t:TypeId} {o:CO} {o':Obj} {v v':Value} {s:Sem Next} (hR:Rep (Zcmd k) Z G r h w) (h1:2*k<=nm) (h2:nm<2*(k+1))
  (hO:ObjR Z r nm ⟨w.heap.size,0,S,t⟩ o o') (hv:ValR Z (set1 r nm ⟨w.heap.size,0,S,t⟩) v v') (hs:s.run P w = .ok (.value v') (w.alloc o')):ES P Z G k r h w (some v) ((nm,o)::h) s:=
 let ⟨a,b⟩:=hR.alloc h1 h2 hO
 ⟨_,_,b,a,v',hv,hs⟩
theorem Zcst {nm b:Nat} {t:TypeId} {cs:List Value} {cs':Array Value} (hc:ValsR Z r cs cs'.toList):ObjR Z r nm ⟨b,0,cs'.size,t⟩ (.cells cs t 0 false) (.cells cs' t (0,0)):=by
 have hl:cs.length=cs'.size:=by simpa using hc.1
 refine⟨rfl,rfl,rfl,by simp[hl],λ_=>⟨rfl,hl⟩,λi v hv=>?_,FzS.zero⟩;have hlt:i<cs'.size:=by rw[<-hl];exact(List.getElem?_eq_some_iff.1 hv).1
 exact⟨cs'[i],by simp[hlt],hc.2 i v _ hv (by simp[hlt])⟩
theorem Zcut {t:TypeId} {v:Value}:(newVar t v).run P w = .ok ⟨w.heap.size,0,none⟩ (w.alloc (.cells v.cells t)):=rfl
theorem Zcus {t:TypeId} {v:Array Value}:(newRow t v).run P w = .ok ⟨w.heap.size,0,none⟩ (w.alloc (.cells v t)):=rfl
theorem ArrR.list {P:Program} {xs ys:Array Value} (hx:ArrR P r xs ys):ValsR (Zp P) r xs.toList ys.toList:=⟨by simpa using hx.1,λi x y a b=>hx.2 i x y (by simpa using a) (by simpa using b)⟩
abbrev Eff:=Option (Option Value×Hp)
def boxC (k:Nat) (h:Hp) (t:TypeId) (v:Value):Eff:=some (some (.pointer (some ⟨2*k,0,none⟩)),(2*k,.cells v.cells.toList t 0 false)::h)
theorem Zcnt {k:Nat} (hR:Rep (Zcmd k) (Zp P) G r h w) {t:TypeId} {v v':Value} (hv:ValR (Zp P) r v v') {x h1} (hc:boxC k h t v=some (x,h1)):
  ES P (Zp P) G k r h w x h1 (do pure (.value (<-Instr.box t v'))):=by
 unfold boxC at hc;cases hc;have hcl:=hv.cells.list;refine .alloc (nm:=2*k) (S:=v'.cells.size) hR (by omega) (by omega) (Zcst hcl) (.ptr (e:=⟨w.heap.size,0,v'.cells.size,t⟩) (by simp[set1])) ?_;simp[Instr.box,Zcut]
def Zcmq (P:Program) (k:Nat) (h:Hp) (t:TypeId):Eff:=match Zcwh P t with
 | some z=>boxC k h t z
 | none=>none
theorem Zcmr {k:Nat} (hR:Rep (Zcmd k) (Zp P) G r h w) {t:TypeId} {x h1} (hc:Zcmq P k h t=some (x,h1)):
  ES P (Zp P) G k r h w x h1 (do pure (.value (<-Instr.alloc t true (.tuple #[])))):=by
 unfold Zcmq at hc;split at hc
 case h_2=>cases hc
 rename_i z hz
 obtain⟨r1,w1,a,b,c⟩:=Zcnt (P:=P) hR (Zcql 4 (Zcwi hz)) hc;refine⟨r1,w1,a,b,?_⟩;unfold boxC at hc;cases hc;obtain⟨v',h1,h2⟩:=c;refine⟨v',h1,?_⟩;simp[Instr.box]at h2;simp[Instr.alloc,Zcwj hz,h2]
def Zcvg (P:Program) (k:Nat) (h:Hp) (t:TypeId) (len:Nat) (ps:List (Nat×Value)):Eff:=
 match P.underlying t with
 | some (.slice el)=>match szC P el with
  | some z=>bif Nat.ble (len*z) 100000 then
    match (bif Nat.beq (len*z) 0 then some #[]else match Zcwh P el with|some v=>some v.cells|none=>none)with
    | some zs=>match Instr.fill (λi=>some (i*z,z)) ((Array.range (len*z)).map (zs[· % zs.size]!)) ps with
     | some cs=>some (some (.slice (some ⟨2*k,0,none⟩) len len),(2*k,.cells cs.toList el 0 false)::h)
     | none=>none
    | none=>none
   else none
  | none=>none
 | _=>none
theorem Zcvh {k:Nat} (hR:Rep (Zcmd k) (Zp P) G r h w) {t:TypeId} {len:Nat} {ps qs:List (Nat×Value)} (hp:Zcmi P r ps qs) {x h1} (hc:Zcvg P k h t len ps=some (x,h1)):
  ES P (Zp P) G k r h w x h1 (do pure (.value (<-Instr.buildSlice t len qs.toArray))):=by
 unfold Zcvg at hc;split at hc
 case h_2=>cases hc
 rename_i el hu
 split at hc
 case h_2=>cases hc
 rename_i z hz
 cases hb:Nat.ble (len*z) 100000 with
 | false=>rw[hb]at hc;cases hc
 | true=>
  rw[hb]at hc;simp only[cond_true]at hc;have hle:=Nat.le_of_ble_eq_true hb;split at hc
  case h_2=>cases hc
  rename_i zs hzs
  split at hc
  case h_2=>cases hc
  rename_i cs hf
  cases hc
  have hflat:ArrR P r ((Array.range (len*z)).map (zs[· % zs.size]!)) ((Array.range (len*z)).map (zs[· % zs.size]!)):=by
   refine⟨rfl,λi a b ha hb=>?_⟩;obtain rfl:=Option.some.inj (ha.symm.trans hb)
   cases h0:Nat.beq (len*z) 0 with
   | true=>
    have:=Zcnc.1 h0;rw[this]at ha;simp at ha
   | false=>
    rw[h0]at hzs;simp only[cond_false]at hzs;split at hzs
    ·rename_i v hv
     cases hzs
     have hvc:=(Zcql (Z:=Zp P) (r:=r) 4 (Zcwi hv)).cells;have hi:i<len*z:=by
      have:=(Array.getElem?_eq_some_iff.1 ha).1;simpa using this
     simp[hi]at ha
     by_cases hm:i % v.cells.size<v.cells.size
     ·rw[getElem!_pos v.cells _ hm]at ha
      subst ha;exact hvc.2 (i % v.cells.size) _ _ (by simp[hm]) (by simp[hm])
     ·rw[getElem!_neg v.cells _ hm]at ha
      subst ha;exact .same rfl
    ·cases hzs
  obtain⟨cs',h1,h2⟩:=Zcqd hp hflat hf;refine .alloc (nm:=2*k) (S:=cs'.size) hR (by omega) (by omega) (Zcst h2.list) (.slice (e:=⟨w.heap.size,0,cs'.size,el⟩) (by simp[set1]) (Nat.le_refl _) (λ_=>rfl) (λhne=>?_)) ?_
  ·have:exN (2*k)=true:=by simp[exN]
   rw[this]at hne;cases hne
  ·have hlim:¬(len*z>2^24):=by omega
   simp only[Instr.buildSlice,Sem.run_bind,run_underlying hu,Result.andThen_ok,Zcvp hz,if_neg hlim]
   by_cases h0:len*z=0
   ·rw[show Nat.beq (len*z) 0=true from Zcnc.2 h0]at hzs
    cases hzs
    rw[if_pos h0];simp only[Sem.run_bind,Sem.run_pure,Result.andThen_ok,h1,Zcus,Nat.add_zero]
   ·rw[show Nat.beq (len*z) 0=false from Zcnd.2 h0]at hzs
    simp only[cond_false]at hzs;split at hzs
    ·rename_i v hv
     cases hzs
     rw[if_neg h0];simp only[Sem.run_bind,Zcwj hv,Sem.run_pure,Result.andThen_ok,h1,Zcus,Nat.add_zero]
    ·cases hzs
end Go.Proofs.YtokogjhcidkckaaGreatDoor.Exe
namespace Go.Proofs.YtokogjhcidkckaaGreatDoor.Exe
open Go
variable {N N':Nat->Prop} {P:Program} {Z:TypeId->Nat} {G:Nat} {r:Ren} {h:Hp} {w:World}
def setL (cs:List Value) (o:Nat) (us:List Value):List Value:=cs.take o++us++cs.drop (o+us.length)
def setA:Array Value->Nat->List Value->Array Value
 | c,_,[]=>c
 | c,o,v::r=>setA (c.setIfInBounds o v) (o+1) r
theorem Zcva:∀(vs:List Value) (c:Array Value) (o:Nat),(setA c o vs).size=c.size
 | [],_,_=>rfl
 | v::r,c,o=>by rw[setA,Zcva r];simp
theorem Zcuz:∀(vs:List Value) (c:Array Value) (o i:Nat),o+vs.length<=c.size->(setA c o vs)[i]? =if o<=i/\i<o+vs.length then vs[i-o]? else c[i]?
 | [],c,o,i,_=>by
  rw[setA,if_neg (by simp)]
 | v::r,c,o,i,hl=>by
  simp only[List.length_cons]at hl;rw[setA,Zcuz r _ _ _ (by simp;omega)]
  by_cases h1:o+1<=i/\i<o+1+r.length
  ·rw[if_pos h1,if_pos (by simp;omega)]
   have:i-o=(i-(o+1))+1:=by omega
   rw[this];simp
  ·rw[if_neg h1]
   by_cases h2:i=o
   ·subst h2
    rw[if_pos (by simp)];simp[show i<c.size by omega]
   ·rw[Array.getElem?_setIfInBounds_ne (Ne.symm h2),if_neg (by simp;omega)]
theorem Zcra {b:Nat}:∀(vs:List Value) (o:Nat) (w:World) (c:Array Value) (t:TypeId) (f:Nat×Nat),w.heap[b]? =some (.cells c t f)->
  (w.setCells b o vs).heap[b]? =some (.cells (setA c o vs) t f)/\(∀g,g≠b->(w.setCells b o vs).heap[g]? =w.heap[g]?)/\(w.setCells b o vs).heap.size=w.heap.size/\
  (w.setCells b o vs).os=w.os/\(w.setCells b o vs).tape=w.tape/\(w.setCells b o vs).output=w.output
 | [],_,_,_,_,_,h=>⟨h,λ_ _=>rfl,rfl,rfl,rfl,rfl⟩
 | v::r,o,w,c,t,f,h=>by
  have h1:(w.setCell ⟨b,o,none⟩ v).heap[b]? =some (.cells (c.setIfInBounds o v) t f):=by
   simp[World.setCell,Array.getElem?_modify,h]
  obtain⟨a1,a2,a3,a4,a5,a6⟩:=Zcra r (o+1) _ _ _ _ h1;refine⟨a1,λg hg=>(a2 g hg).trans ?_,a3.trans ?_,a4,a5,a6⟩
  ·simp[World.setCell,Array.getElem?_modify,Ne.symm hg]
  ·simp[World.setCell]
theorem Zcvb {n:Nat} {e:Ent} {cs:List Value} {t:TypeId} {hi:Nat} {ro ro':Bool} {c:Array Value} {f:Nat×Nat} (hO:ObjR Z r n e (.cells cs t hi ro) (.cells c t f)) {o:Nat} {us vs:List Value}
  (h1:o<=cs.length) (h3:exN n=true->o+us.length<=cs.length) (h4:o+e.sh+us.length<=e.S) (hv:ValsR Z r us vs) (hH:Zcqz cs=true->Zcqz (setL cs o us)=true):
  ObjR Z r n e (.cells (setL cs o us) t hi ro') (.cells (setA c (o+e.sh) vs) t f):=by
 obtain⟨a1,a2,a3,a4,a5,a6,a7⟩:=hO;have hlen:(setL cs o us).length=o+us.length+(cs.length-(o+us.length)):=by simp[setL];omega
 have hvl:=hv.1;refine⟨rfl,a2,by rw[Zcva];exact a3,by rw[hlen];omega,λhx=>?_,λi v hi'=>?_,a7.1,a7.2.imp id hH⟩
 ·obtain⟨b1,b2⟩:=a5 hx
  have:=h3 hx;exact⟨b1,by rw[hlen];omega⟩
 ·rw[Zcuz _ _ _ _ (by omega)]
  unfold setL at hi'
  by_cases k1:i<o
  ·rw[List.append_assoc,List.getElem?_append_left (by simp;omega),List.getElem?_take,if_pos k1]at hi'
   rw[if_neg (by omega)];exact a6 i v hi'
  ·by_cases k2:i<o+us.length
   ·rw[List.append_assoc,List.getElem?_append_right (by simp;omega),List.getElem?_append_left (by simp;omega)]at hi'
    rw[if_pos (by omega)];have e1:i-(cs.take o).length=i-o:=by simp;omega
    rw[e1]at hi';have e2:i+e.sh-(o+e.sh)=i-o:=by omega
    rw[e2];have hlt:i-o<vs.length:=by omega
    exact⟨vs[i-o],by simp[hlt],hv.2 (i-o) _ _ hi' (by simp[hlt])⟩
   ·rw[List.getElem?_append_right (by simp;omega),List.getElem?_drop]at hi'
    rw[if_neg (by omega)];have e1:o+us.length+(i-(cs.take o++us).length)=i:=by simp;omega
    rw[e1]at hi';exact a6 i v hi'
def oneC:Value->Bool
 | .agg _=>false
 | .tuple _=>false
 | _=>true
theorem Zcti {v v':Value} (h:oneC v=true) (hv:ValR Z r v v'):v'.oneCell'=true:=by
 cases hv<;>first|rfl|(simp[oneC]at h;done)|skip
 rename_i ha
 cases v<;>first|rfl|(simp[oneC]at h;done)
def Zcwf (h:Hp) (n o:Nat) (us:List Value):Option Hp:=
 match look h n with
 | some (.cells cs t hi ro)=>bif !ro&&(Nat.ble hi o&&Nat.blt hi 9223372036854775808)&&Nat.ble o cs.length&&(!exN n||Nat.ble (o+us.length) cs.length)&&us.all oneC&&(!Zcqz cs||Zcqz (setL cs o us))then some (upd h n (.cells (setL cs o us) t hi false))else none
 | _=>none
theorem Zcwg (hR:Rep N Z G r h w) {n o:Nat} {e:Ent} (he:r n=some e) {us vs:List Value} (hv:ValsR Z r us vs) {h1:Hp} (hc:Zcwf h n o us=some h1) (hS:o+e.sh+us.length<=e.S):
  ∃w1,(storeCells ⟨e.b,o+e.sh,none⟩ vs).run P w = .ok () w1/\Rep N Z G r h1 w1/\Nx r h w r h1 w1:=by
 unfold Zcwf at hc;split at hc
 case h_2=>cases hc
 rename_i cs t hi ro hl
 cases hb:(!ro&&(Nat.ble hi o&&Nat.blt hi 9223372036854775808)&&Nat.ble o cs.length&&(!exN n||Nat.ble (o+us.length) cs.length)&&us.all oneC&&(!Zcqz cs||Zcqz (setL cs o us)))with
 | false=>rw[hb]at hc;cases hc
 | true=>
  rw[hb]at hc;cases hc;simp only[Bool.and_eq_true,Bool.not_eq_true',Bool.or_eq_true]at hb;obtain⟨⟨⟨⟨⟨b1,b2⟩,b3⟩,b4⟩,b5⟩,b6⟩:=hb;have b22:hi<9223372036854775808:=Nat.le_of_ble_eq_true b2.2;have b2:=Nat.le_of_ble_eq_true b2.1;have b3:=Nat.le_of_ble_eq_true b3;obtain⟨e',he',o',ho',hO⟩:=hR.obj n _ hl;obtain rfl:=Option.some.inj (he.symm.trans he')
  cases o' with
  | cells c t' f=>
   obtain rfl:t'=t:=hO.1;have hO':=Zcvb (ro':=false) hO b3 (λhx=>by
    rcases b4 with b4|b4
    ·rw[hx]at b4;cases b4
    ·exact Nat.le_of_ble_eq_true b4) hS hv (λhx=>by rw[hx]at b6;simpa using b6)
   obtain⟨a1,a2,a3,a4,a5,a6,a7⟩:=hO;have a70:=a7.1.1;obtain⟨s1,s2,s3,s4,s5,s6⟩:=Zcra vs (o+e.sh) w c t' f ho';have hrun:=run_storeCells_cells (P:=P) e.b (o+e.sh) vs 0 w (λj hj=>by
    rw[cell_of ho'];have:=hv.1;simp;omega) (λj hj=>by
    simp only[World.frozen?,ho']
    cases hfr:(decide (f.1<=o+e.sh+0+j)&&decide (o+e.sh+0+j<f.2))with
    | false=>rfl
    | true=>
     exfalso
     simp only[Bool.and_eq_true,decide_eq_true_eq]at hfr;have:=hv.1;omega) (λv hm=>by
    obtain⟨j,hj⟩:=List.getElem?_of_mem hm;have hlt:j<us.length:=by rw[hv.1];exact(List.getElem?_eq_some_iff.1 hj).1
    exact Zcti (List.all_eq_true.1 b5 us[j] (by simp)) (hv.2 j _ _ (by simp[hlt]) hj))
   obtain⟨w1,hw1⟩:∃w1,w1=w.setCells e.b (o+e.sh) vs:=⟨_,rfl⟩;rw[<-hw1]at s1 s2 s3 s4 s5 s6;obtain⟨p1,p2⟩:=hR.write hl b1 rfl he s1 s2 s3 hO' s4 s5 s6;exact⟨w1,by rw[hrun,hw1];rfl,p1,p2⟩
  | _=>exact hO.elim
theorem Zctc (hR:Rep N Z G r h w) {n:Nat} {e:Ent} {cs:List Value} {t:TypeId} {hi:Nat} {ro:Bool} (hl:look h n=some (.cells cs t hi ro)) (he:r n=some e):
  ∃c f,w.heap[e.b]? =some (.cells c t f)/\ObjR Z r n e (.cells cs t hi ro) (.cells c t f):=by
 obtain⟨e',he',o',ho',hO⟩:=hR.obj n _ hl;obtain rfl:=Option.some.inj (he.symm.trans he')
 cases o' with
 | cells c t' f=>obtain rfl:t'=t:=hO.1;exact⟨c,f,ho',hO⟩
 | _=>exact hO.elim
def Zcvk (P:Program) (h:Hp) (t:TypeId) (x:Value):Value->Eff
 | .pointer (some ⟨n,o,none⟩)=>match szC P t with
  | some k=>match look h n with
   | some (.cells cs _ _ _)=>bif Nat.beq x.cells.size k&&Nat.ble (o+k) cs.length then
     match Zcwf h n o x.cells.toList with
     | some h1=>some (none,h1)
     | none=>none
    else none
   | _=>none
  | none=>none
 | _=>none
theorem Zcvl {k:Nat} (hR:Rep (Zcmd k) (Zp P) G r h w) {t:TypeId} {v v' x x':Value} (hv:ValR (Zp P) r v v') (hx:ValR (Zp P) r x x') {y h1} (hc:Zcvk P h t x v=some (y,h1)):
  ES P (Zp P) G k r h w y h1 (do Instr.storeAt t v' x';pure .skip):=by
 unfold Zcvk at hc;split at hc
 case h_2=>cases hc
 rename_i n o
 split at hc
 case h_2=>cases hc
 rename_i z hz
 split at hc
 case h_2=>cases hc
 rename_i cs t0 hi ro hl
 cases hb:(Nat.beq x.cells.size z&&Nat.ble (o+z) cs.length)with
 | false=>rw[hb]at hc;cases hc
 | true=>
  rw[hb]at hc;simp only[cond_true]at hc;simp only[Bool.and_eq_true]at hb;have b1:=Zcnc.1 hb.1;have b2:=Nat.le_of_ble_eq_true hb.2;split at hc
  case h_2=>cases hc
  rename_i h2 hw
  cases hc
  cases hv with
  | same hat=>simp[atom]at hat
  | @ptr _ _ e he=>
   obtain⟨c,f,hheap,hO⟩:=Zctc hR hl he;have hcl:=hx.cells;obtain⟨w1,p1,p2,p3⟩:=Zcwg (P:=P) hR he hcl.list hw (by
    have:=hO.2.2.2.1;simp only[Array.length_toList];omega)
   refine⟨r,w1,p3,p2.weak (λn hn=>by unfold Zcmd at *;omega),?_⟩;simp[Instr.storeAt,Instr.sureAddr,storeVar,Zcvp hz,<-hcl.1,b1,p1]
def mapC (k:Nat) (h:Hp):Eff:=some (some (.map (some (2*k))),(2*k,.map [] 0 false)::h)
theorem Zcsk {k:Nat} (hR:Rep (Zcmd k) (Zp P) G r h w) {x h1} (hc:mapC k h=some (x,h1)) {t:TypeId} {hint:Option Value} (hh:hint=none∨∃i j a b,hint=some (.int i j)/\P.underlying t=some (.map a b)):
  ES P (Zp P) G k r h w x h1 (do pure (.value (<-Instr.makeMap t hint))):=by
 unfold mapC at hc;cases hc;refine .alloc (nm:=2*k) (S:=0) (t:=0) (o':= .map #[] 0) hR (by omega) (by omega) ⟨rfl,rfl,λi x y a=>by simp at a⟩ (.map (e:=⟨w.heap.size,0,0,0⟩) (by simp[set1])) ?_
 rcases hh with rfl|⟨i,j,a,b,rfl,hu⟩
 ·simp[Instr.makeMap]
 ·simp[Instr.makeMap,run_underlying hu,asInt,asIntOf]
end Go.Proofs.YtokogjhcidkckaaGreatDoor.Exe
namespace Go.Proofs.YtokogjhcidkckaaGreatDoor.Exe
open Go
variable {N N':Nat->Prop} {P:Program} {Z:TypeId->Nat} {G:Nat} {r:Ren} {h:Hp} {w:World}
theorem Rep.drew (hR:Rep N Z G r h w):Rep N Z G r h w.drew:=⟨hR.obj,hR.inj,hR.low,hR.new,hR.glo⟩
theorem Nx.drew (r:Ren) (h:Hp) (w:World):Nx r h w r h w.drew:=⟨Ext.refl r,Nat.le_refl _,λ_ _ _=>rfl,λ_ _ k=>k,λ_ _ k=>k,rfl,rfl,rfl⟩
theorem Rep.sub {h':Hp} (hR:Rep N Z G r h w) (hs:∀n o,look h' n=some o->look h n=some o):Rep N Z G r h' w:=
 ⟨λn o ho=>hR.obj n o (hs n o ho),λn m o p en em a b c d e=>hR.inj n m o p en em (hs _ _ a) (hs _ _ b) c d e,hR.low,hR.new,hR.glo⟩
theorem Nx.sub {h':Hp} (r:Ren) (w:World) (hs:∀n o,look h' n=some o->look h n=some o):Nx r h w r h' w:=
 ⟨Ext.refl r,Nat.le_refl _,λ_ _ _=>rfl,λ_ _ ⟨n,o,e,a,b,c,d⟩=>⟨n,o,e,hs n o a,b,c,d⟩,λ_ _ ⟨n,o,e,a,c,d⟩=>⟨n,o,e,hs n o a,c,d⟩,rfl,rfl,rfl⟩
theorem Zcrx {n:Nat}:∀m o,look (del h n) m=some o->look h m=some o:=λm o ho=>by
 rw[Zcrw]at ho;split at ho
 ·cases ho
 ·exact ho
def srcC (h:Hp) (z:Nat):Value->Option (Nat×List Value)
 | .slice (some ⟨n,o,none⟩) l _=>match look h n with
  | some (.cells cs _ _ _)=>bif Nat.ble (o+l*z) cs.length then some (l,(cs.drop o).take (l*z))else none
  | _=>none
 | .slice none 0 _=>some (0,[])
 | .string s=>bif Nat.beq z 1 then some (s.size,s.data.toList.map λb=> .int .u8 b.toNat)else none
 | _=>none
theorem Zcvj (hR:Rep N Z G r h w) {z:Nat} {x x':Value} (hx:ValR Z r x x') {n us} (hc:srcC h z x=some (n,us)):
  ∃vs,ValsR Z r us vs/\us.length=n*z/\(∀w1:World,(Builtin.lenOf x').run P w1 = .ok n w1)/\∀w1:World,w1.heap=w.heap->(Builtin.firstCells z n x').run P w1 = .ok vs.toArray w1:=by
 unfold srcC at hc;split at hc
 ·rename_i m o l c
  split at hc
  case h_2=>cases hc
  rename_i cs t hi ro hl
  cases hb:Nat.ble (o+l*z) cs.length with
  | false=>rw[hb]at hc;cases hc
  | true=>
   rw[hb]at hc;cases hc;have hle:=Nat.le_of_ble_eq_true hb
   cases hx with
   | same hat=>simp[atom]at hat
   | @slice _ _ _ _ c' e he _ _ _=>
    obtain⟨c0,f,hheap,hO⟩:=Zctc hR hl he;obtain⟨vs,h1,h2,h3⟩:=Zcru (P:=P) hheap hO hle;refine⟨vs,h1,by simp;omega,λw1=>by simp[Builtin.lenOf],λw1 hw1=>?_⟩;have:=h3 w1 (by rw[hw1];exact hheap);simpa[Builtin.firstCells]using this
 ·obtain rfl:=Zcna rfl hx
  cases hc
  exact⟨[],.nil,by simp,λw1=>by simp[Builtin.lenOf],λw1 _=>by simp[Builtin.firstCells]⟩
 ·rename_i s
  obtain rfl:=Zcna rfl hx
  cases hz:Nat.beq z 1 with
  | false=>rw[hz]at hc;cases hc
  | true=>
   rw[hz]at hc;cases hc;obtain rfl:=Zcnc.1 hz;refine⟨s.data.toList.map λb=> .int .u8 b.toNat,⟨rfl,λi a b ha hb=>?_⟩,by simp,λw1=>by simp[Builtin.lenOf],λw1 _=>?_⟩
   ·obtain rfl:=Option.some.inj (ha.symm.trans hb)
    obtain⟨u,_,rfl⟩:=List.mem_map.1 (List.mem_of_getElem? ha);exact .same rfl
   ·simp[Builtin.firstCells]
    apply Array.ext';simp
 ·cases hc
def Zcsy:TypeDesc->Bool
 | .slice _=>true
 | .string=>true
 | _=>false
structure AppT (P:Program) (ts:Array TypeId) (el:TypeId) (z bytes:Nat) (zv:Value):Prop where
 t0:∃t,ts[0]? =some t/\P.underlying t=some (.slice el)
 t1:∃u d,ts[1]? =some u/\P.underlying u=some d/\Zcsy d=true
 info:∃i,P.info? el=some i/\i.size=z/\i.bytes=bytes/\i.zero=some zv
 zero:zv.cells.size=z
theorem Zcwk (zs:Array Value) (n:Nat):(Builtin.zeroCells zs n).size=n*zs.size:=by simp[Builtin.zeroCells]
set_option maxHeartbeats 2000000 in
theorem Zcmx {ts:Array TypeId} {el:TypeId} {z bytes:Nat} {zv:Value} (hT:AppT P ts el z bytes zv) {ty:TypeId} {base:Option Addr} {sl sc:Nat} {x':Value} {n:Nat} {vs:List Value}
  (hlen:∀w1:World,(Builtin.lenOf x').run P w1 = .ok n w1) (hnew:(Builtin.firstCells z n x').run P w = .ok vs.toArray w) (hle:sl+n<=sc) {w1:World}
  (hst:(match base with|some a=>storeCells (a.add (sl*z)) vs|none=>pure ():Sem Unit).run P w = .ok () w1):
  (Builtin.append_ ts ty #[.slice base sl sc,x']).run P w = .ok (.slice base (sl+n) sc) w1:=by
 obtain⟨⟨t,ht,hu⟩,⟨u,d,hu1,hd,hn⟩,⟨i,hi,rfl,rfl,hz⟩,hzs⟩:=hT
 cases base with
 | none=>
  simp at hst;subst hst
  cases d<;>first|(simp[Zcsy]at hn;done)|simp[Builtin.append_,ht,hu1,run_underlying hu,run_underlying hd,sizeOf,typeInfo,hi,hlen,hle,hnew]
 | some a=>
  simp only at hst
  cases d<;>first|(simp[Zcsy]at hn;done)|simp[Builtin.append_,ht,hu1,run_underlying hu,run_underlying hd,sizeOf,typeInfo,hi,hlen,hle,hnew,hst]
set_option maxHeartbeats 2000000 in
theorem Zcmy {ts:Array TypeId} {el:TypeId} {z bytes:Nat} {zv:Value} (hT:AppT P ts el z bytes zv) {ty:TypeId} {base:Option Addr} {sl sc:Nat} {x':Value} {n:Nat} {us vs:List Value}
  (hlen:∀w1:World,(Builtin.lenOf x').run P w1 = .ok n w1) (hnew:(Builtin.firstCells z n x').run P w.drew = .ok vs.toArray w.drew)
  (hold:(Builtin.firstCells z sl (.slice base sl sc)).run P w.drew = .ok us.toArray w.drew) (hlt:sc<sl+n) (hfit:(sl+n)*bytes<=140737488355328) (h63:sl+n<=4611686018427387904) (hb:bytes≠0):
  ∃newCap,(sl+n<=newCap/\newCap<=9223372036854775807)/\(Builtin.append_ ts ty #[.slice base sl sc,x']).run P w = .ok (.slice (some ⟨w.heap.size,0,none⟩) (sl+n) newCap)
   (w.drew.alloc (.cells (us.toArray++vs.toArray++Builtin.zeroCells zv.cells (newCap-(sl+n))) el)):=by
 obtain⟨⟨t,ht,hu⟩,⟨u,d,hu1,hd,hn⟩,⟨i,hi,rfl,rfl,hz⟩,hzs⟩:=hT;refine⟨(Question.appendCap (sl+n) sc el).cut (w.tape w.drawn (Question.appendCap (sl+n) sc el)),⟨by simp[Question.cut],by
  simp only[Question.cut];have:=Nat.mod_lt (w.tape w.drawn (Question.appendCap (sl+n) sc el)) (show 0<2^63-(sl+n) by omega);omega⟩,?_⟩
 have hn1:¬(sl+n<=sc):=by omega
 have h48:=growslice_fits hlt hfit;have h48':¬(281474976710656<Builtin.nextslicecap (sl+n) sc*i.bytes):=by omega
 have h63':¬(9223372036854775807<((sl:Int)+(n:Int))):=by omega
 cases d<;>first|(simp[Zcsy]at hn;done)|simp[Builtin.append_,ht,hu1,run_underlying hu,run_underlying hd,sizeOf,typeInfo,zeroValue,hi,hz,hlen,hn1,h48',h63',hb,Question.forced,hnew,hold,newRow,Question.cut]
 all_goals (congr 2;apply Array.ext';simp)
end Go.Proofs.YtokogjhcidkckaaGreatDoor.Exe
