import Derived.Test.YtphjfaoghphleaaGreatDoorMaa
namespace Go.Proofs.YtphjfaoghphleaaGreatDoor
namespace Exe
section
open Go
abbrev Zp (P:Program):TypeId->Nat:=λt=>((P.info? t).map (·.size)).getD 0
def szC (P:Program) (t:TypeId):Option Nat:=(P.info? t).map (·.size)
theorem Zcvp {P:Program} {t k} (h:szC P t=some k) (w:World):(sizeOf t).run P w = .ok k w:=by
 unfold szC at h
 cases a:P.info? t with
 | none=>grind
 | some i=>rw[a]at h;cases h;simp[sizeOf,run_typeInfo w a]
def aggC (P:Program) (t:TypeId):Option Bool:=
 match P.underlying t with
 | some (.struct _)=>some true
 | some (.array _ _)=>some true
 | some _=>some false
 | none=>none
theorem Zcmn {P:Program} {t k} (h:aggC P t=some k) (w:World):(isAgg t).run P w = .ok k w:=by
 unfold aggC at h
 cases a:P.underlying t with
 | none=>grind
 | some d=>
  rw[a]at h
  cases d<;>simp only[Option.some.injEq]at h<;>subst h<;>simp[isAgg,run_underlying a]
abbrev Res:=Option (Option Nat×Value)
def Zcrs (P:Program) (h:Hp) (t:TypeId):Value->Res
 | .pointer (some ⟨n,o,none⟩)=>
  match look h n with
  | some (.cells cs _ _ _)=>
   match aggC P t with
   | some true=>match szC P t with
    | some k=>bif Nat.ble (o+k) cs.length then some (some n,.agg ((cs.drop o).take k).toArray)else none
    | none=>none
   | some false=>match cs[o]? with
    | some v=>some (some n,v)
    | none=>none
   | none=>none
  | _=>none
 | _=>none
variable {N:Nat->Prop} {P:Program} {G:Nat} {r:Ren} {h:Hp} {w:World}
theorem Zcrt (A:Rep N (Zp P) G r h w) {t:TypeId} {v v':Value} (E:ValR (Zp P) r v v') {rd x} (a:Zcrs P h t v=some (rd,x)):
  PS P (Zp P) r w rd x (Instr.loadAt t v'):=by
 unfold Zcrs at a;split at a
 case h_2=>cases a
 rename_i n o
 cases E with
 | same l=>simp[atom]at l
 | @ptr _ _ e he=>
  split at a
  case h_2=>cases a
  rename_i s X U V C
  obtain⟨L,m,I,c,j⟩:=A.obj n _ C;obtain rfl:=Option.some.inj (m.symm.trans he);split at a
  ·rename_i b
   split at a
   case h_2=>cases a
   rename_i k B
   cases g:Nat.ble (o+k) s.length with
   | false=>rw[g]at a;cases a
   | true=>
    rw[g]at a;cases a;obtain⟨K,p,F,i⟩:=Zcru (P:=P) c j (Nat.le_of_ble_eq_true g);refine⟨.agg K.toArray,.aggL p,λq d=>?_⟩;have:=i q ((d n _ rfl he).trans c);simp[Instr.loadAt,Instr.sureAddr,loadVar,Zcmn b,Zcvp B,this]
  ·rename_i b
   split at a
   case h_2=>cases a
   rename_i u D
   cases a
   cases I with
   | cells y W f=>
    obtain⟨M,O,Q,R,S,z,T⟩:=j;obtain⟨J,l,g⟩:=z _ _ D;refine⟨J,g,λq d=>?_⟩;have H:=(d n _ rfl he).trans c;simp[Instr.loadAt,Instr.sureAddr,loadVar,Zcmn b,load,Sem.run,cell_of H,l]
   | _=>exact j.elim
  ·cases a
def Zcpx (P:Program) (s:TypeId) (f:Nat):Option Field:=
 match P.underlying s with
 | some (.struct fs)=>fs[f]?
 | _=>none
theorem Zcpy {s:TypeId} {f:Nat} {fd:Field} (b:Zcpx P s f=some fd):∃a,P.underlying s=some (.struct a)/\a[f]? =some fd:=by
 unfold Zcpx at b
 grind
def Zcpv (P:Program) (s:TypeId) (f:Nat):Value->Res
 | .pointer (some ⟨n,o,none⟩)=>
  match Zcpx P s f with
  | some fd=>match szC P fd.type with
   | some k=>bif Nat.beq k 0 then none else some (none,.pointer (some ⟨n,o+fd.offset,none⟩))
   | none=>none
  | none=>none
 | _=>none
theorem addr_add (b o k:Nat):(⟨b,o,none⟩:Addr).add k=⟨b,o+k,none⟩:=by
 unfold Addr.add;split
 ·rename_i h;subst h;rfl
 ·rfl
theorem Zcpw {s:TypeId} {f:Nat} {v v':Value} (p:ValR (Zp P) r v v') {rd x} (a:Zcpv P s f v=some (rd,x)):
  PS P (Zp P) r w rd x (Instr.fieldAt s v' f):=by
 unfold Zcpv at a;split at a
 case h_2=>cases a
 rename_i n o
 cases p with
 | same i=>simp[atom]at i
 | @ptr _ _ e he=>
  split at a
  case h_2=>cases a
  rename_i c d
  split at a
  case h_2=>cases a
  rename_i k l
  cases b:Nat.beq k 0 with
  | true=>rw[b]at a;cases a
  | false=>
   rw[b]at a;cases a;obtain⟨q,m,j⟩:=Zcpy d;have:=ValR.ptr (Z:=Zp P) (o:=o+c.offset) he;refine .of _ this (λt=>?_);have g:=Zcnd.1 b;have:o+c.offset+e.sh=o+e.sh+c.offset:=by omega
   simp[Instr.fieldAt,run_underlying m,j,Instr.sureAddr,fieldPlace,Zcvp l,g,addr_add,this]
def Zctp (P:Program) (t:TypeId) (cs:Array Value) (off:Nat):Option Value:=
 match aggC P t with
 | some true=>match szC P t with
  | some k=>some (.agg (cs.extract off (off+k)))
  | none=>none
 | some false=>cs[off]?
 | none=>none
theorem Zctq {t:TypeId} {xs ys:Array Value} {off:Nat} (d:xs.size=ys.size) (e:∀(i:Nat) x y,xs[i]? =some x->ys[i]? =some y->ValR (Zp P) r x y) {v:Value}
  (a:Zctp P t xs off=some v):∃v',ValR (Zp P) r v v'/\∀w1:World,(part t ys off).run P w1 = .ok v' w1:=by
 unfold Zctp at a;split at a
 ·rename_i c
  split at a
  case h_2=>grind
  rename_i k f
  cases a
  refine⟨.agg (ys.extract off (off+k)),.agg (by simp[d]) (λi x y hx g=>?_),λw1=>by simp[part,Zcmn c,Zcvp f]⟩
  grind [Array.getElem?_extract]
 ·rename_i c
  have b:off<ys.size:=by grind
  exact⟨ys[off],e off _ _ a (by simp[b]),λw1=>by simp[part,Zcmn c,b]⟩
 ·grind
def Zcpz (P:Program) (s:TypeId) (f:Nat):Value->Res
 | .agg cs=>match Zcpx P s f with
  | some fd=>match Zctp P fd.type cs fd.offset with
   | some v=>some (none,v)
   | none=>none
  | none=>none
 | _=>none
theorem Zcqa {s:TypeId} {f:Nat} {v v':Value} (k:ValR (Zp P) r v v') {rd x} (a:Zcpz P s f v=some (rd,x)):
  PS P (Zp P) r w rd x (Instr.field s v' f):=by
 unfold Zcpz at a;split at a
 case h_2=>cases a
 cases k with
 | same e=>simp[atom]at e
 | @agg xs ys h1 h2=>
  split at a
  case h_2=>cases a
  rename_i l c
  split at a
  case h_2=>cases a
  rename_i u j
  cases a
  obtain⟨m,i,g⟩:=Zcpy c;obtain⟨n,d,b⟩:=Zctq h1 h2 j;exact .of _ d (λo=>by simp[Instr.field,run_underlying i,g,asAgg,b])
def Zcrf (P:Program) (t:TypeId):Value->Value->Res
 | .slice (some ⟨n,o,none⟩) l _,.int _ i=>
  match P.underlying t with
  | some (.slice el)=>match szC P el with
   | some k=>bif decide (0<=i)&&decide (i<(l:Int))then some (none,.pointer (some ⟨n,o+i.toNat*k,none⟩))else none
   | none=>none
  | _=>none
 | .pointer (some ⟨n,o,none⟩),.int _ i=>
  match P.underlying t with
  | some (.array l el)=>match szC P el with
   | some k=>bif decide (0<=i)&&decide (i<(l:Int))then some (none,.pointer (some ⟨n,o+i.toNat*k,none⟩))else none
   | none=>none
  | _=>none
 | _,_=>none
theorem Zcrg {t:TypeId} {v v' i p:Value} (m:ValR (Zp P) r v v') (hi:ValR (Zp P) r i p) {rd x} (a:Zcrf P t v i=some (rd,x)):
  PS P (Zp P) r w rd x (Instr.indexAt t v' p):=by
 unfold Zcrf at a;split at a
 ·rename_i n o l c s d
  obtain rfl:=Zcna rfl hi
  cases m with
  | same f=>simp[atom]at f
  | @slice _ _ _ _ c' e he _ _ _=>
   split at a
   case h_2=>cases a
   rename_i q j
   split at a
   case h_2=>cases a
   rename_i k g
   cases b:(decide (0<=d)&&decide (d<(l:Int)))with
   | false=>rw[b]at a;cases a
   | true=>
    rw[b]at a;cases a;simp only[Bool.and_eq_true,decide_eq_true_eq]at b;refine .of _ (ValR.ptr (o:=o+d.toNat*k) he) (λu=>?_);have:o+d.toNat*k+e.sh=o+e.sh+d.toNat*k:=by omega
    simp[Instr.indexAt,asIntOf,run_underlying j,b.1,b.2,Zcvp g,addr_add,this]
 ·rename_i n o s d
  obtain rfl:=Zcna rfl hi
  cases m with
  | same f=>simp[atom]at f
  | @ptr _ _ e he=>
   split at a
   case h_2=>cases a
   rename_i l q j
   split at a
   case h_2=>cases a
   rename_i k g
   cases b:(decide (0<=d)&&decide (d<(l:Int)))with
   | false=>rw[b]at a;cases a
   | true=>
    rw[b]at a;cases a;simp only[Bool.and_eq_true,decide_eq_true_eq]at b;refine .of _ (ValR.ptr (o:=o+d.toNat*k) he) (λu=>?_);have:o+d.toNat*k+e.sh=o+e.sh+d.toNat*k:=by omega
    simp[Instr.indexAt,asIntOf,run_underlying j,b.1,b.2,Zcvp g,addr_add,this,Instr.sureAddr]
 ·cases a
def fl (P:Program) (s:Sem Value):Res:=
 match Zcua P s with
 | some v=>bif flat 4 v then some (none,v)else none
 | none=>none
theorem Zcqg {s:Sem Value} {rd x} (a:fl P s=some (rd,x)):PS P (Zp P) r w rd x s:=by
 unfold fl at a;split at a
 case h_2=>grind
 rename_i v c
 cases b:flat 4 v with
 | false=>grind
 | true=>rw[b]at a;cases a;exact .flat _ b c
def lenC (P:Program) (h:Hp) (t:TypeId):Value->Res
 | .string s=>match P.underlying t with
  | some .string=>some (none,goInt s.size)
  | _=>none
 | .slice _ l _=>match P.underlying t with
  | some (.slice _)=>some (none,goInt l)
  | _=>none
 | .map (some n)=>match P.underlying t with
  | some (.map _ _)=>match look h n with
   | some (.map es _ _)=>some (some n,goInt es.length)
   | _=>none
  | _=>none
 | .map none=>match P.underlying t with
  | some (.map _ _)=>some (none,goInt 0)
  | _=>none
 | _=>none
theorem Zcrr (p:Rep N (Zp P) G r h w) {t ty:TypeId} {ts:Array TypeId} {v v':Value} {us:Array Value} (d:ts[0]? =some t) (c:us[0]? =some v') (g:ValR (Zp P) r v v') {rd x} (a:lenC P h t v=some (rd,x)):
  PS P (Zp P) r w rd x (Builtin.len_ ts ty us):=by
 unfold lenC at a;split at a
 ·obtain rfl:=Zcna rfl g
  split at a
  ·rename_i b;cases a;exact .of _ (.same rfl) (λf=>by simp[Builtin.len_,d,c,run_underlying b])
  ·cases a
 ·split at a
  ·rename_i b;cases a
   cases g with
   | same _=>exact .of _ (.same rfl) (λf=>by simp[Builtin.len_,d,c,run_underlying b])
   | slice _ _ _ _=>exact .of _ (.same rfl) (λf=>by simp[Builtin.len_,d,c,run_underlying b])
   | void _ _ _=>exact .of _ (.same rfl) (λf=>by simp[Builtin.len_,d,c,run_underlying b])
  ·cases a
 ·rename_i n
  split at a
  case h_2=>cases a
  rename_i D A b
  split at a
  case h_2=>cases a
  rename_i B y E q
  cases a
  cases g with
  | same i=>simp[atom]at i
  | @map _ e he=>
   obtain⟨z,j,u,k,m⟩:=p.obj n _ q;obtain rfl:=Option.some.inj (j.symm.trans he)
   cases u with
   | map o C=>
    refine⟨_,.same rfl,λf l=>?_⟩;have s:=(l n _ rfl he).trans k;simp[Builtin.len_,d,c,run_underlying b,getObj,Sem.run,s,m.2.1]
   | _=>exact m.elim
 ·obtain rfl:=Zcna rfl g
  split at a
  ·rename_i b;cases a;exact .of _ (.same rfl) (λf=>by simp[Builtin.len_,d,c,run_underlying b])
  ·cases a
 ·cases a
def Zcpp (i:Nat):Value->Res
 | .tuple vs=>match vs[i]? with
  | some v=>some (none,v)
  | none=>none
 | _=>none
theorem Zcpq {i:Nat} {v v':Value} (e:ValR (Zp P) r v v') {rd x} (a:Zcpp i v=some (rd,x)):PS P (Zp P) r w rd x (Instr.extract v' i):=by
 unfold Zcpp at a;split at a
 case h_2=>cases a
 cases e with
 | same d=>simp[atom]at d
 | @tuple xs ys h1 h2=>
  split at a
  case h_2=>cases a
  rename_i u c
  cases a
  have b:i<ys.size:=by rw[<-h1];exact(Array.getElem?_eq_some_iff.1 c).1
  exact .of (v':=ys[i]) _ (h2 i _ _ c (by simp[b])) (λf=>by simp[Instr.extract,b])
end
section
open Go
variable {N:Nat->Prop} {P:Program} {G:Nat} {r:Ren} {h:Hp} {w:World}
def Zctt:Value->Value->Bool
 | .nilIface,.nilIface=>false
 | .agg _,.agg _=>false
 | _,_=>true
theorem Zcpe {c:BinOp} {t:TypeId} {x y:Operand} {a b:Value} (d:Zctt a b=true) (w:World):
  (eqGuard c t x y a b).run P w = .ok () w:=by
 unfold eqGuard
 cases c<;>simp<;>(split<;>first|rfl|simp[Zctt]at d)
def Zcsu (P:Program):TypeDesc->Value->Value->Option Bool
 | .pointer _,.pointer (some _),.pointer none=>some false
 | .pointer _,.pointer none,.pointer (some _)=>some false
 | .pointer el,.pointer (some ⟨n,o,none⟩),.pointer (some ⟨m,u,none⟩)=>
  match szC P el with
  | some k=>bif Nat.beq k 0 then none else bif Nat.beq n m then some (Nat.beq o u)else none
  | none=>none
 | .slice _,.slice none _ _,.slice (some _) _ _=>some false
 | .slice _,.slice (some _) _ _,.slice none _ _=>some false
 | .map _ _,.map none,.map (some _)=>some false
 | .map _ _,.map (some _),.map none=>some false
 | .func _ _ _,.func (.func _) _ _,.nilFunc=>some false
 | .func _ _ _,.nilFunc,.func (.func _) _ _=>some false
 | _,_,_=>none
theorem Zcsv {d:TypeDesc} {x y l y':Value} (hx:ValR (Zp P) r x l) (f:ValR (Zp P) r y y') {b:Bool} (a:Zcsu P d x y=some b) {t:TypeId} (c:P.underlying t=some d) (w:World):
  (Op.equal t l y').run P w = .ok b w:=by
 unfold Zcsu at a;have e:Op.equal t l y'=Op.equalIn (9999+1) t l y':=rfl;rw[e];generalize 9999=D;split at a
 ·cases a
  cases hx with
  | same g=>simp[atom]at g
  | ptr q=>obtain rfl:=Zcna rfl f;simp[Op.equalIn,run_underlying c]
 ·cases a
  cases f with
  | same g=>simp[atom]at g
  | ptr q=>obtain rfl:=Zcna rfl hx;simp[Op.equalIn,run_underlying c]
 ·rename_i v n o m u
  split at a
  case h_2=>cases a
  rename_i k s
  cases i:Nat.beq k 0 with
  | true=>rw[i]at a;cases a
  | false=>
   rw[i]at a
   cases j:Nat.beq n m with
   | false=>rw[j]at a;cases a
   | true=>
    rw[j]at a;cases a;obtain rfl:=Zcnc.1 j;have p:=Zcnd.1 i
    cases hx with
    | same g=>simp[atom]at g
    | @ptr _ _ e1 h1=>
     cases f with
     | same g=>simp[atom]at g
     | @ptr _ _ e2 h2=>
      obtain rfl:=Option.some.inj (h1.symm.trans h2);simp only[Op.equalIn,Sem.run_bind,run_underlying c,Result.andThen_ok,Zcvp s,p,ne_eq,not_false_eq_true,if_true,sameAddr,beq_self_eq_true];simp only[Sem.run_pure,Result.ok.injEq,and_true];rw[Bool.eq_iff_iff,Zcnc];simp
 ·cases a;cases hx<;>cases f<;>first|(simp[Op.equalIn,run_underlying c];done)|(exfalso;simp_all[atom];done)
 ·cases a;cases hx<;>cases f<;>first|(simp[Op.equalIn,run_underlying c];done)|(exfalso;simp_all[atom];done)
 ·cases a;cases hx<;>cases f<;>first|(simp[Op.equalIn,run_underlying c];done)|(exfalso;simp_all[atom];done)
 ·cases a;cases hx<;>cases f<;>first|(simp[Op.equalIn,run_underlying c];done)|(exfalso;simp_all[atom];done)
 ·cases a;cases hx<;>cases f<;>first|(simp[Op.equalIn,run_underlying c];done)|(exfalso;simp_all[atom];done)
 ·cases a;cases hx<;>cases f<;>first|(simp[Op.equalIn,run_underlying c];done)|(exfalso;simp_all[atom];done)
 ·cases a
def intC (op:BinOp) (k:IntKind) (a b:Int):Option Value:=
 match op with
 | .add=>some (.int k (k.wrap (a+b)))
 | .sub=>some (.int k (k.wrap (a-b)))
 | .eql=>some (.bool (decide (a=b)))
 | .neq=>some (.bool (!decide (a=b)))
 | .lss=>some (.bool (decide (a<b)))
 | .leq=>some (.bool (decide (a<=b)))
 | .gtr=>some (.bool (decide (a>b)))
 | .geq=>some (.bool (decide (a≥b)))
 | _=>none
theorem Zcrl {d:BinOp} {k:IntKind} {a b:Int} {v:Value} (c:intC d k a b=some v) (t:TypeId) (w:World):(binOp d t (.int k a) (.int k b)).run P w = .ok v w:=by
 cases d<;>simp only[intC,Option.some.injEq]at c<;>first|cases c;done|(subst c;simp[binOp,Op.intArith,Op.intCmp];try (first|rfl|(congr 2;exact Bool.eq_iff_iff.2 (by simp))))
theorem Zcrk {d:BinOp} {k:IntKind} {a b:Int} {v:Value} (c:intC d k a b=some v):atom v=true:=by
 cases d<;>simp only[intC,Option.some.injEq]at c<;>first|cases c;done|(subst c;rfl)
def eqU:List UInt8->List UInt8->Bool
 | [],[]=>true
 | a::x,b::y=>bif Nat.beq a.toNat b.toNat then eqU x y else false
 | _,_=>false
def ltU:List UInt8->List UInt8->Bool
 | _,[]=>false
 | [],_::_=>true
 | a::x,b::y=>bif Nat.blt a.toNat b.toNat then true else bif Nat.beq a.toNat b.toNat then ltU x y else false
theorem Zcpf:∀(x y:List UInt8),eqU x y=(x==y)
 | [],[]=>rfl
 | [],_::_=>rfl
 | _::_,[]=>rfl
 | a::x,b::y=>by
  rw[List.cons_beq_cons,<-Zcpf x y,eqU]
  cases h:Nat.beq a.toNat b.toNat with
  | true=>have:=UInt8.toNat_inj.1 (Zcnc.1 h);subst this;simp
  | false=>
   have:a≠b:=λe=>by subst e;rw[Zcnc.2 rfl]at h;cases h
   simp[this]
theorem Zcsh:∀(x y:List UInt8),ltU x y=Op.bytesLess x y
 | [],[]=>rfl
 | _::_,[]=>rfl
 | [],_::_=>rfl
 | a::x,b::y=>by
  rw[Op.bytesLess,<-Zcsh x y,ltU]
  cases h:Nat.blt a.toNat b.toNat with
  | true=>
   have:a<b:=UInt8.lt_iff_toNat_lt.2 (Nat.le_of_ble_eq_true h);simp[this]
  | false=>
   have d:¬a<b:=λe=>by
    have:Nat.blt a.toNat b.toNat=true:=Nat.ble_eq_true_of_le (UInt8.lt_iff_toNat_lt.1 e);rw[h]at this;cases this
   cases c:Nat.beq a.toNat b.toNat with
   | true=>have:=UInt8.toNat_inj.1 (Zcnc.1 c);subst this;simp
   | false=>
    have:a≠b:=λe=>by subst e;rw[Zcnc.2 rfl]at c;cases c
    simp[d,this]
def Zcvn (op:BinOp) (x y:ByteArray):Option Value:=match op with
 | .eql=>some (.bool (eqU x.data.toList y.data.toList))
 | .neq=>some (.bool (!eqU x.data.toList y.data.toList))
 | .lss=>some (.bool (ltU x.data.toList y.data.toList))
 | .leq=>some (.bool (ltU x.data.toList y.data.toList||eqU x.data.toList y.data.toList))
 | .gtr=>some (.bool (!(ltU x.data.toList y.data.toList||eqU x.data.toList y.data.toList)))
 | .geq=>some (.bool (!ltU x.data.toList y.data.toList))
 | .add=>bif Nat.ble (x.data.toList.length+y.data.toList.length) 1000000 then some (.string ⟨⟨x.data.toList++y.data.toList⟩⟩)else none
 | _=>none
theorem Zcvo {b:BinOp} {x y:ByteArray} {v:Value} (a:Zcvn b x y=some v) (w:World):atom v=true/\(Op.stringOp b x y).run P w = .ok v w:=by
 have d:=ByteArray.toList_eq x;have f:=ByteArray.toList_eq y
 cases b<;>simp only[Zcvn]at a<;>first|(cases a;done)|skip
 case add=>
  cases c:Nat.ble (x.data.toList.length+y.data.toList.length) 1000000 with
  | false=>grind
  | true=>
   rw[c]at a;cases a;have g:=Nat.le_of_ble_eq_true c;have hx:x.data.toList.length=x.size:=by simp
   have j:y.data.toList.length=y.size:=by simp
   have i:¬(9223372036854775807<(x.size:Int)+(y.size:Int)):=by omega
   refine⟨rfl,?_⟩;have e:x++y=⟨⟨x.data.toList++y.data.toList⟩⟩:=by
    apply ByteArray.ext
    simp_all
   simp_all[Op.stringOp]
 all_goals (cases a;refine⟨rfl,?_⟩;simp[Op.stringOp,Zcpf,Zcsh,d,f])
def binC (P:Program) (op:BinOp) (t:TypeId) (x y:Operand) (a b:Value):Res:=
 match a,b with
 | .int k m,.int k' n=>bif decide (k=k')then
   match intC op k m n with
   | some v=>some (none,v)
   | none=>fl P (do eqGuard op t x y (.int k m) (.int k' n);binOp op t (.int k m) (.int k' n))
  else fl P (do eqGuard op t x y (.int k m) (.int k' n);binOp op t (.int k m) (.int k' n))
 | .string m,.string n=>match Zcvn op m n with
  | some v=>some (none,v)
  | none=>fl P (Op.stringOp op m n)
 | a,b=>bif flat 4 a&&flat 4 b then fl P (do eqGuard op t x y a b;binOp op t a b)else
   match P.underlying t with
   | some d=>match Zcsu P d a b with
    | some c=>match op with
     | .eql=>some (none,.bool c)
     | .neq=>some (none,.bool !c)
     | _=>none
    | none=>none
   | none=>none
theorem Zcne {o:BinOp} {t:TypeId} {x y:Operand} {a b a' g:Value} (j:ValR (Zp P) r a a') (l:ValR (Zp P) r b g) {rd v} (e:binC P o t x y a b=some (rd,v)):
  PS P (Zp P) r w rd v (do eqGuard o t x y a' g;binOp o t a' g):=by
 unfold binC at e;split at e
 ·rename_i k m E n
  obtain rfl:=Zcna rfl j;obtain rfl:=Zcna rfl l
  cases s:decide (k=E)with
  | true=>
   rw[s]at e;obtain rfl:=of_decide_eq_true s;split at e
   ·rename_i u p
    cases e
    exact .of _ (.same (Zcrk p)) (λi=>by rw[Sem.run_bind,Zcpe rfl];exact Zcrl p t i)
   ·grind [Zcqg]
  | false=>grind [Zcqg]
 ·rename_i m n
  obtain rfl:=Zcna rfl j;obtain rfl:=Zcna rfl l;have:binOp o t (.string m) (.string n)=Op.stringOp o m n:=by cases o<;>rfl
  split at e
  ·rename_i u p
   cases e
   refine .of _ (.same (Zcvo (P:=P) p w).1) (λi=>?_);rw[Sem.run_bind,Zcpe rfl,Result.andThen_ok,this]
   simp_all[Zcvo]
  ·obtain⟨F,A,H⟩:=Zcqg (r:=r) (w:=w) e
   refine⟨F,A,λi D=>?_⟩;rw[Sem.run_bind,Zcpe rfl]
   simp_all
 ·cases C:(flat 4 a&&flat 4 b)with
  | true=>
   grind [Zcqk,Zcqg]
  | false=>
   rw[C]at e;split at e
   case h_2=>grind
   rename_i d B
   split at e
   case h_2=>grind
   rename_i c f
   have z:=λi=>Zcsv j l f B i
   have q:Zctt a' g=true:=by
    unfold Zcsu at f;split at f<;>first|cases f;done|(cases j<;>cases l<;>first|rfl|simp_all[atom])
   split at e
   ·cases e
    refine .of _ (.same rfl) (λi=>?_);rw[Sem.run_bind,Zcpe q,Result.andThen_ok];have:binOp .eql t a' g=(do pure (.bool (<-Op.equal t a' g)):Sem Value):=by
     unfold Zcsu at f;split at f<;>first|cases f;done|(cases j<;>cases l<;>first|rfl|simp_all[atom])
    simp_all
   ·cases e
    refine .of _ (.same rfl) (λi=>?_);rw[Sem.run_bind,Zcpe q,Result.andThen_ok];have:binOp .neq t a' g=(do pure (.bool (!(<-Op.equal t a' g))):Sem Value):=by
     unfold Zcsu at f;split at f<;>first|cases f;done|(cases j<;>cases l<;>first|rfl|simp_all[atom])
    simp_all
   ·grind
end
section
open Go
variable {N:Nat->Prop} {P:Program} {G:Nat} {r:Ren} {h:Hp} {w:World}
def bnd (top dflt:Nat):Option Value->Option Nat
 | none=>some dflt
 | some (.int _ i)=>bif decide (0<=i)&&decide (i<=(top:Int))then some i.toNat else none
 | _=>none
theorem Zcnl {a d:Nat} {v:Value} {k:Nat} (b:bnd a d (some v)=some k) (c:BoundsCode) (w:World):(Instr.sliceBound v a c).run P w = .ok k w:=by
 cases v<;>simp only[bnd]at b<;>first|cases b;done|skip
 rename_i f i
 cases e:(decide (0<=i)&&decide (i<=(a:Int)))with
 | false=>rw[e]at b;cases b
 | true=>
  rw[e]at b;cases b;simp only[Bool.and_eq_true,decide_eq_true_eq]at e;simp[Instr.sliceBound,asIntOf,e.1,e.2]
theorem Zcnj {top d:Nat} {v:Value} {k:Nat} (a:bnd top d (some v)=some k):k<=top:=by
 cases v<;>simp only[bnd]at a<;>first|cases a;done|skip
 rename_i c i
 cases b:(decide (0<=i)&&decide (i<=(top:Int)))with
 | false=>rw[b]at a;cases a
 | true=>
  rw[b]at a;cases a;simp only[Bool.and_eq_true,decide_eq_true_eq]at b;omega
theorem Zcnk {b a d f:Nat} {v:Value} {k:Nat} (c:bnd b d (some v)=some k) (j:b<=a):bnd a f (some v)=some k:=by
 cases v<;>simp only[bnd]at c⊢ <;>first|cases c;done|skip
 rename_i l i
 cases e:(decide (0<=i)&&decide (i<=(b:Int)))with
 | false=>rw[e]at c;cases c
 | true=>
  rw[e]at c;cases c;simp only[Bool.and_eq_true,decide_eq_true_eq]at e;have g:i<=(a:Int):=by omega
  simp[e.1,g]
theorem Zcni {a d:Nat} {v:Value} {k:Nat} (b:bnd a d (some v)=some k):atom v=true:=by
 cases v<;>simp only[bnd]at b<;>first|rfl|cases b
def hiC (m len:Nat):Option Value->Option Value->Option Nat
 | none,some _=>none
 | hi,_=>bnd m len hi
def Zcnm (len cap:Nat) (lo hi mx:Option Value):Option (Nat×Nat×Nat):=
 match bnd cap cap mx with
 | some m=>match hiC m len hi mx with
  | some k=>match bnd k 0 lo with
   | some l=>some (l,k,m)
   | none=>none
  | none=>none
 | none=>none
theorem Zcnq {len cap:Nat} {b hi n:Option Value} {l k m:Nat} (a:Zcnm len cap b hi n=some (l,k,m)) (w:World):
  (Instr.sliceBounds true len cap b hi n).run P w = .ok (l,k,m) w:=by
 unfold Zcnm at a;split at a
 case h_2=>cases a
 rename_i t j
 split at a
 case h_2=>cases a
 rename_i q d
 split at a
 case h_2=>cases a
 rename_i s i
 cases a
 have f:∀v,b=some v->∀(c:BoundsCode) (w:World),(Instr.sliceBound v k c).run P w = .ok l w:=λv e c w=>by subst e;exact Zcnl i c w
 have g:b=none->l=0:=λe=>by subst e;simpa[bnd,eq_comm]using i
 clear i
 cases n with
 | none=>
  simp only[bnd,Option.some.injEq]at j;subst j
  cases hi with
  | none=>
   simp only[hiC,bnd,Option.some.injEq]at d;subst d
   cases b with
   | none=>obtain rfl:=g rfl;simp[Instr.sliceBounds]
   | some u=>simp[Instr.sliceBounds,f u rfl]
  | some v=>
   have:=λc w=>Zcnl (P:=P) d c w
   cases b with
   | none=>obtain rfl:=g rfl;simp[Instr.sliceBounds,this]
   | some u=>simp[Instr.sliceBounds,f u rfl,this]
 | some x=>
  have o:=λc w=>Zcnl (P:=P) j c w
  cases hi with
  | none=>cases d
  | some v=>
   have p:=λc w=>Zcnl (P:=P) d c w
   cases b with
   | none=>obtain rfl:=g rfl;simp[Instr.sliceBounds,o,p]
   | some u=>simp[Instr.sliceBounds,f u rfl,o,p]
def Zcmz:Option Value->Bool
 | some v=>atom v
 | none=>true
def Zcve (P:Program) (h:Hp) (t:TypeId) (lo hi mx:Option Value):Value->Res
 | .slice (some ⟨n,o,none⟩) len cap=>
  match P.underlying t with
  | some (.slice el)=>match szC P el with
   | some z=>match Zcnm len cap lo hi mx with
    | some (l,k,m)=>
     bif exN n then some (none,.slice (some ⟨n,bif Nat.beq m l then o else o+l*z,none⟩) (k-l) (m-l))else
      match look h n with
      | some (.cells _ te _ _)=>bif Nat.beq (Zp P te) z&&(mx.isSome&&(Nat.beq m l || !(Nat.beq z 2)) || !mx.isSome&&(!(Nat.beq m l)||Nat.beq l 0))&&Nat.ble l m then
        some (none,.slice (some ⟨n,bif Nat.beq m l then o else o+l*z,none⟩) (k-l) (m-l))
       else bif Nat.beq (Zp P te) z && !mx.isSome&&Nat.beq m l&&Nat.ble k l then some (none,.slice (some ⟨n,o+l*z,some 0⟩) 0 0)else none
      | _=>none
    | none=>none
   | none=>none
  | _=>none
 | .string s=>match P.underlying t with
  | some .string=>match mx with
   | none=>match bnd s.data.toList.length s.data.toList.length hi with
    | some k=>match bnd k 0 lo with
     | some l=>some (none,.string ⟨⟨(s.data.toList.drop l).take (k-l)⟩⟩)
     | none=>none
    | none=>none
   | some _=>none
  | _=>none
 | v=>bif flat 2 v&&Zcmz lo&&Zcmz hi&&Zcmz mx then fl P (Instr.sliceAt t v lo hi mx)else none
def OptR (r:Ren) (P:Program) (x y:Option Value):Prop:=match x,y with
 | some a,some b=>ValR (Zp P) r a b
 | none,none=>True
 | _,_=>False
theorem OptR.eq {x y:Option Value} (hx:OptR r P x y) (c:∀v,x=some v->atom v=true):y=x:=by
 cases x with
 | none=>cases y with
  | none=>rfl
  | some _=>exact hx.elim
 | some a=>cases y with
  | none=>exact hx.elim
  | some b=>rw[Zcna (c _ rfl) hx]
theorem Zcnn {len cap:Nat} {b hi c:Option Value} {p} (a:Zcnm len cap b hi c=some p):(∀v,b=some v->atom v=true)/\(∀v,hi=some v->atom v=true)/\(∀v,c=some v->atom v=true):=by
 unfold Zcnm at a;split at a
 case h_2=>cases a
 rename_i k g
 split at a
 case h_2=>cases a
 rename_i i d
 split at a
 case h_2=>cases a
 rename_i j f
 refine⟨λv e=>by subst e;exact Zcni f,λv e=>?_,λv e=>by subst e;exact Zcni g⟩;subst e;exact Zcni d
theorem Zcno {len cap:Nat} {d hi c:Option Value} {l k m} (a:Zcnm len cap d hi c=some (l,k,m)):m<=cap/\(c=none->m=cap):=by
 unfold Zcnm at a;split at a
 case h_2=>cases a
 rename_i f b
 split at a
 case h_2=>cases a
 split at a
 case h_2=>cases a
 cases a
 cases c with
 | none=>simp only[bnd,Option.some.injEq]at b;subst b;exact⟨Nat.le_refl _,λ_=>rfl⟩
 | some v=>exact⟨Zcnj b,λe=>by cases e⟩
theorem Zcnp {len cap a:Nat} {j hi d:Option Value} {l k m} (b:Zcnm len cap j hi d=some (l,k,m)) (c:cap<=a):
  Zcnm len a j hi d=some (l,k,if d.isSome then m else a):=by
 unfold Zcnm at b⊢;split at b
 case h_2=>cases b
 rename_i p g
 split at b
 case h_2=>cases b
 rename_i n e
 split at b
 case h_2=>cases b
 rename_i o i
 cases b
 cases d with
 | some v=>
  rw[Zcnk g c];simp only[e,i,Option.isSome_some,if_true]
 | none=>
  simp only[bnd,Option.some.injEq]at g;subst g;have f:hiC a len hi none=some k:=by
   cases hi with
   | none=>exact e
   | some v=>exact Zcnk e c
  rw[show bnd a a none=some a from rfl];simp only[f];rw[i];rfl
theorem Zcvf (hR:Rep N (Zp P) G r h w) {t:TypeId} {v v':Value} {V hi mx C I i:Option Value} (hv:ValR (Zp P) r v v') (Z:OptR r P V C) (K:OptR r P hi I) (T:OptR r P mx i)
  {rd x} (a:Zcve P h t V hi mx v=some (rd,x)):PS P (Zp P) r w rd x (Instr.sliceAt t v' C I i):=by
 unfold Zcve at a;split at a
 ·rename_i n o ak ae
  split at a
  case h_2=>cases a
  rename_i el F
  split at a
  case h_2=>cases a
  rename_i z hz
  split at a
  case h_2=>cases a
  rename_i l k m M
  obtain⟨a1,a2,a3⟩:=Zcnn M;obtain rfl:=Z.eq a1;obtain rfl:=K.eq a2;obtain rfl:=T.eq a3;obtain⟨ah,ai⟩:=Zcno M
  cases hv with
  | same ha=>simp[atom]at ha
  | @slice _ _ _ _ c' e he hle hex hr=>
   cases D:exN n with
   | true=>
    rw[D]at a;cases a;obtain rfl:=hex D;refine .of _ (.slice he (Nat.le_refl _) (λ_=>rfl) (λk=>by rw[D]at k;cases k)) (λw1=>?_);have hs:(bif Nat.beq m l then o else o+l*z)+e.sh=if m=l then o+e.sh else o+e.sh+l*z:=by
     cases j:Nat.beq m l with
     | true=>simp[Zcnc.1 j]
     | false=>simp[Zcnd.1 j];omega
    rw[hs];simp only[Instr.sliceAt,Sem.run_bind,run_underlying F,Result.andThen_ok,Instr.slice,Zcnq M,Zcvp hz];split<;>simp[addr_add]
   | false=>
    rw[D]at a;simp only[cond_false]at a;split at a
    case h_2=>cases a
    rename_i cs te af ro A
    cases b:(Nat.beq (Zp P te) z&&(i.isSome&&(Nat.beq m l || !(Nat.beq z 2)) || !i.isSome&&(!(Nat.beq m l)||Nat.beq l 0))&&Nat.ble l m)with
    | false=>
     rw[b]at a;simp only[cond_false]at a;clear b
     cases b:(Nat.beq (Zp P te) z && !i.isSome&&Nat.beq m l&&Nat.ble k l)with
     | false=>rw[b]at a;cases a
     | true=>
      rw[b]at a;cases a;obtain⟨e',H,o',ac,L⟩:=hR.obj n _ A;obtain rfl:=Option.some.inj (he.symm.trans H);have q:e.t=te:=by cases o' with
       | cells W t' f=>exact L.2.1
       | _=>exact L.elim
      simp only[Bool.and_eq_true,Bool.not_eq_true',Zcnc]at b;obtain⟨⟨⟨y,b⟩,rfl⟩,O⟩:=b;have O:=Nat.le_of_ble_eq_true O;have d:=hr D;rw[q,y]at d;have g:=Zcnp M hle;rw[b]at g;simp only[Bool.false_eq_true,if_false]at g;refine .of _ (.void (o:=o+m*z) (o':=if c'=m then o+e.sh else o+e.sh+m*z) (c':=c'-m) he D ?_) (λw1=>?_)
      ·by_cases aa:c'=m
       ·exact .inl (by omega)
       ·refine .inr ⟨by rw[if_neg aa];omega,?_⟩
        rw[q,y];have h5:(c'-m)*z+m*z=c'*z:=by rw[<-Nat.add_mul];congr 1;omega
        refine⟨by have:=d.1;omega,λK T=>?_,by have:=d.2.2;omega⟩;have:=d.2.1 K (by omega);omega
      ·have ab:k-m=0:=by omega
       simp only[Instr.sliceAt,Sem.run_bind,run_underlying F,Result.andThen_ok,Instr.slice,Zcnq g,Zcvp hz,ab];split<;>simp[addr_add]
    | true=>
     rw[b]at a;cases a;obtain⟨e',H,o',ac,L⟩:=hR.obj n _ A;obtain rfl:=Option.some.inj (he.symm.trans H);have q:e.t=te:=by cases o' with
      | cells W t' f=>exact L.2.1
      | _=>exact L.elim
     simp only[Bool.and_eq_true,Bool.or_eq_true,Bool.not_eq_true',Zcnc,Zcnd]at b;obtain⟨⟨y,b⟩,Q⟩:=b;have Q:=Nat.le_of_ble_eq_true Q;have d:=hr D;rw[q,y]at d;have g:=Zcnp M hle;obtain⟨B,c⟩:∃B,B=(if i.isSome then m else c'):=⟨_,rfl⟩;rw[<-c]at g;have aj:m<=B/\B<=c':=by
      rw[c];split
      ·omega
      ·omega
     have E:(bif Nat.beq m l then o else o+l*z)+e.sh=if B=l then o+e.sh else o+e.sh+l*z:=by
      cases j:Nat.beq m l with
      | true=>
       have p:=Zcnc.1 j;simp only[cond_true]
       rcases b with⟨b,_⟩|⟨_,b|b⟩
       ·rw[b]at c;simp at c;subst c;simp[p]
       ·exact absurd p b
       ·subst b;split<;>simp
      | false=>
       have p:=Zcnd.1 j;have:B≠l:=by
        intro e1;omega
       simp[this];omega
     refine .of _ (.slice (c':=B-l) he (by omega) (λk=>by rw[D]at k;cases k) (λ_=>?_)) (λw1=>?_)
     ·rw[q,y,E]
      refine⟨?_,?_,by have:=d.2.2;omega⟩
      ·split
       ·rename_i e1;rw[e1];simp;exact Nat.le_trans (by omega) d.1
       ·have:(B-l)*z+l*z<=c'*z:=by rw[<-Nat.add_mul];exact Nat.mul_le_mul_right z (by omega)
        have:=d.1;omega
      ·intro S ag
       rcases b with⟨b,R|R⟩|⟨b,_⟩
       ·rw[b]at c;simp at c;omega
       ·exact absurd S R
       ·rw[b]at c;simp at c;subst c
        rw[if_neg (by omega)];have:(B-l)*z+l*z=B*z:=by rw[<-Nat.add_mul];congr 1;omega
        have:=d.2.1 S (by omega);omega
     ·rw[E]
      simp only[Instr.sliceAt,Sem.run_bind,run_underlying F,Result.andThen_ok,Instr.slice,Zcnq g,Zcvp hz];split<;>simp[addr_add]
 ·rename_i s
  obtain rfl:=Zcna rfl hv;split at a
  case h_2=>cases a
  rename_i F
  split at a
  case h_2=>cases a
  split at a
  case h_2=>cases a
  rename_i k J
  split at a
  case h_2=>cases a
  rename_i l A
  cases a
  have ad:s.data.toList.length=s.size:=by simp
  rw[ad]at J;have X:∀v,hi=some v->atom v=true:=λv e=>by subst e;exact Zcni J
  have Y:∀v,V=some v->atom v=true:=λv e=>by subst e;exact Zcni A
  obtain rfl:=Z.eq Y;obtain rfl:=K.eq X;obtain rfl:=T.eq (λv e=>by cases e);refine .of _ (.same rfl) (λw1=>?_);have e:s.extract l k=⟨⟨(s.data.toList.drop l).take (k-l)⟩⟩:=by
   apply ByteArray.ext;rw[ByteArray.data_extract];apply Array.ext';simp
  cases I with
  | none=>
   simp only[bnd,Option.some.injEq]at J;subst J
   cases C with
   | none=>simp only[bnd,Option.some.injEq]at A;subst A;simp[Instr.sliceAt,run_underlying F,Instr.slice,Instr.sliceBounds];simpa using e
   | some v=>simp[Instr.sliceAt,run_underlying F,Instr.slice,Instr.sliceBounds,e,Zcnl A]
  | some u=>
   cases C with
   | none=>simp only[bnd,Option.some.injEq]at A;subst A;simp[Instr.sliceAt,run_underlying F,Instr.slice,Instr.sliceBounds,e,Zcnl J]
   | some v=>simp[Instr.sliceAt,run_underlying F,Instr.slice,Instr.sliceBounds,e,Zcnl J,Zcnl A]
 ·cases U:(flat 2 v&&Zcmz V&&Zcmz hi&&Zcmz mx)with
  | false=>rw[U]at a;cases a
  | true=>
   rw[U]at a;simp only[Bool.and_eq_true]at U;obtain⟨⟨⟨X,Y⟩,f3⟩,f4⟩:=U;obtain rfl:=Zcqk 2 X hv;obtain rfl:=Z.eq (λv e=>by subst e;exact Y);obtain rfl:=K.eq (λv e=>by subst e;exact f3);obtain rfl:=T.eq (λv e=>by subst e;exact f4);exact Zcqg a
end
section
open Go
variable {N:Nat->Prop} {P:Program} {G:Nat} {r:Ren} {h:Hp} {w:World}
def Zcwh (P:Program) (t:TypeId):Option Value:=match P.info? t with
 | some i=>match i.zero with
  | some v=>bif flat 4 v then some v else none
  | none=>none
 | none=>none
theorem Zcwj {t:TypeId} {v:Value} (a:Zcwh P t=some v) (w:World):(zeroValue t).run P w = .ok v w:=by
 unfold Zcwh at a;split at a
 case h_2=>cases a
 rename_i i c
 split at a
 case h_2=>cases a
 rename_i u d
 cases b:flat 4 u with
 | false=>rw[b]at a;cases a
 | true=>rw[b]at a;cases a;simp[zeroValue,run_typeInfo w c,d]
theorem Zcwi {t:TypeId} {v:Value} (a:Zcwh P t=some v):flat 4 v=true:=by
 unfold Zcwh at a;split at a
 case h_2=>cases a
 split at a
 case h_2=>cases a
 rename_i u c
 cases b:flat 4 u with
 | false=>rw[b]at a;cases a
 | true=>rw[b]at a;cases a;exact b
def Zcte:TypeDesc->Value->Bool
 | .string,.string _=>true
 | .int _,.int _ _=>true
 | .bool,.bool _=>true
 | _,_=>false
def Zcqe (kd:TypeDesc) (k:Value):List (Value×Value×Nat)->Nat->Option (Option (Nat×Value))
 | [],_=>some none
 | (key,v,_)::es,i=>match Instr.sameNow kd k key with
  | some true=>some (some (i,v))
  | some false=>Zcqe kd k es (i+1)
  | none=>none
def EntsR (P:Program) (r:Ren) (es:List (Value×Value×Nat)) (es':List MapEntry):Prop:=
 es.length=es'.length/\∀(i:Nat) (x:Value×Value×Nat) (y:MapEntry),es[i]? =some x->es'[i]? =some y->(y.key=x.1/\flat 3 x.1=true)/\ValR (Zp P) r x.2.1 y.val/\y.born=x.2.2
theorem EntsR.head {x es es'} (e:EntsR P r (x::es) es'):∃y ys,es'=y::ys/\y.key=x.1/\flat 3 x.1=true/\ValR (Zp P) r x.2.1 y.val/\y.born=x.2.2/\EntsR P r es ys:=by
 cases es' with
 | nil=>have:=e.1;simp at this
 | cons y ys=>
  obtain⟨⟨a,b⟩,c,d⟩:=e.2 0 x y rfl rfl;exact⟨y,ys,rfl,a,b,c,d,by have:=e.1;simpa using this,λi u v f g=>e.2 (i+1) u v (by simpa using f) (by simpa using g)⟩
theorem Zcqf {l:TypeDesc} {k:Value}:∀ {e c} {i:Nat} {q},EntsR P r e c->Zcqe l k e i=some q->
  ∃m,Instr.findNow l k c i=some m/\(match q,m with|none,none=>True|some (a,v),some (b,v')=>a=b/\ValR (Zp P) r v v'|_,_=>False):=by
 intro e
 induction e with
 | nil=>
  intro c i q f d
  cases c with
  | nil=>cases d;exact⟨none,rfl,trivial⟩
  | cons _ _=>have:=f.1;simp at this
 | cons x e p=>
  intro c i q f d;obtain⟨y,z,rfl,n,u,o,t,g⟩:=f.head;obtain⟨s,v,b⟩:=x;simp only[Zcqe]at d;simp only[Instr.findNow,n];split at d
  ·rename_i j;cases d;rw[j];exact⟨_,rfl,rfl,o⟩
  ·rename_i j;rw[j];exact p g d
  ·cases d
theorem Zcok {c:TypeId} {a:TypeDesc} {k:Value} {b:Bool} (e:P.underlying c=some a) (d:Zcte a k=true) (w:World):(Instr.checkKey b 10000 c k).run P w = .ok () w:=by
 have:(10000:Nat)=9999+1:=rfl;rw[this];generalize 9999=D
 cases a<;>cases k<;>first|(simp[Zcte]at d;done)|simp[Instr.checkKey,run_underlying e]
def wideK:TypeDesc->Bool
 | .struct _=>true
 | _=>false
def Zczj (P:Program) (kt:TypeId) (k:Value):List (Value×Value×Nat)->Nat->Option (Option (Nat×Value))
 | [],_=>some none
 | (key,v,_)::es,i=>match Zcua P (Op.equal kt k key)with
  | some true=>some (some (i,v))
  | some false=>Zczj P kt k es (i+1)
  | none=>none
theorem Zczk {n:TypeId} {k:Value}:∀ {e c} {i:Nat} {q},EntsR P r e c->Zczj P n k e i=some q->
  ∃f,(∀w,(Instr.findAsking n k c i).run P w = .ok f w)/\(match q,f with|none,none=>True|some (a,v),some (b,v')=>a=b/\ValR (Zp P) r v v'|_,_=>False):=by
 intro e
 induction e with
 | nil=>
  intro c i q g d
  cases c with
  | nil=>cases d;exact⟨none,λw=>rfl,trivial⟩
  | cons _ _=>have:=g.1;simp at this
 | cons x e t=>
  intro c i q g d;obtain⟨y,B,rfl,l,A,s,z,j⟩:=g.head;obtain⟨u,v,b⟩:=x;simp only[Zczj]at d
  dsimp only at l
  split at d
  ·rename_i m;cases d
   have:=λw=>Zcub m w
   exact⟨some (i,y.val),λw=>by simp[Instr.findAsking,l,Sem.run_bind,this w,Result.andThen],rfl,s⟩
  ·rename_i m
   obtain⟨f,o,p⟩:=t j d;have:=λw=>Zcub m w
   exact⟨f,λw=>by simp[Instr.findAsking,l,Sem.run_bind,this w,Result.andThen,o],p⟩
  ·cases d
theorem findKey_wide {c:TypeId} {b:TypeDesc} {k:Value} {a:List MapEntry} (d:P.underlying c=some b) (f:wideK b=true) (w:World):(Instr.findKey c k a).run P w=(Instr.findAsking c k a).run P w:=by
 cases b with
 | struct i=>
  cases a with
  | nil=>simp[Instr.findKey,run_underlying d,Instr.findNow,Instr.findAsking]
  | cons e g=>simp[Instr.findKey,Sem.run_bind,run_underlying d,Instr.findNow,Instr.sameNow]
 | _=>simp[wideK]at f
def chkW (P:Program) (kt:TypeId) (k:Value) (em:Bool):Bool:=match Zcua P (Instr.checkKey em 10000 kt k)with
 | some _=>true
 | none=>false
theorem Zcxv {b:TypeId} {k:Value} {a:Bool} (h:chkW P b k a=true) (w:World):(Instr.checkKey a 10000 b k).run P w = .ok () w:=by
 unfold chkW at h;split at h
 ·rename_i c;exact Zcub c w
 ·cases h
def Zctn (ok:Bool) (v:Value) (b:Bool):Value:=bif ok then .tuple #[v,.bool b]else v
def Zddi (P:Program) (h:Hp) (kt el:TypeId) (ok:Bool) (n:Nat) (k:Value):Res:=bif flat 3 k then
  match look h n with
  | some (.map es _ _)=>bif chkW P kt k es.isEmpty then
    match Zczj P kt k es 0 with
    | some (some (_,v))=>some (some n,Zctn ok v true)
    | some none=>match Zcwh P el with
     | some z=>some (some n,Zctn ok z false)
     | none=>none
    | none=>none
   else none
  | _=>none
 else none
def Zcsd (P:Program) (h:Hp) (t:TypeId) (ok:Bool) (m k:Value):Res:=
 match m with
 | .map (some n)=>match P.underlying t with
  | some (.map kt el)=>match P.underlying kt with
   | some kd=>bif Zcte kd k then
     match look h n with
     | some (.map es _ _)=>match Zcqe kd k es 0 with
      | some (some (_,v))=>some (some n,Zctn ok v true)
      | some none=>match Zcwh P el with
       | some z=>some (some n,Zctn ok z false)
       | none=>none
      | none=>none
     | _=>none
    else bif wideK kd then Zddi P h kt el ok n k else none
   | none=>none
  | _=>none
 | m=>bif flat 2 m&&flat 2 k then fl P (Instr.lookup t m k ok)else none
theorem Zcto {a b:Bool} {v v':Value} (c:ValR (Zp P) r v v'):ValR (Zp P) r (Zctn a v b) (Zctn a v' b):=by
 cases a with
 | false=>exact c
 | true=>exact .tupleL (xs:=[v,.bool b]) (ys:=[v',.bool b]) ((ValsR.nil.cons (.same rfl)).cons c)
theorem Zddj (T:Rep N (Zp P) G r h w) {t C M:TypeId} {R:TypeDesc} {D:Bool} {n:Nat} {S k K:Value} (O:P.underlying t=some (.map C M)) (q:P.underlying C=some R) (A:wideK R=true) (X:ValR (Zp P) r (.map (some n)) S) (V:ValR (Zp P) r k K) {rd x} (c:Zddi P h C M D n k=some (rd,x)):
  PS P (Zp P) r w rd x (Instr.lookup t S K D):=by
 unfold Zddi at c
 cases g:flat 3 k with
 | false=>rw[g]at c;cases c
 | true=>
  rw[g]at c;simp only[cond_true]at c;obtain rfl:=Zcqk 3 g V;split at c
  case h_2=>cases c
  rename_i m ck ro W
  cases d:chkW P C K m.isEmpty with
  | false=>rw[d]at c;cases c
  | true=>
   rw[d]at c;simp only[cond_true]at c
   cases X with
   | same U=>simp[atom]at U
   | @map _ e he=>
    obtain⟨e',H,Y,u,F⟩:=T.obj n _ W;obtain rfl:=Option.some.inj (he.symm.trans H)
    cases Y with
    | map f c'=>
     have E:EntsR P r m f.toList:=⟨by simpa using F.2.1,λi x y a b=>F.2.2 i x y a (by simpa using b)⟩;have o:f.isEmpty=m.isEmpty:=by
      have s:m.length=f.size:=by simpa using E.1
      unfold Array.isEmpty;rw[<-s]
      cases m<;>simp
     split at c
     ·rename_i j v g
      cases c
      obtain⟨L,I,B⟩:=Zczk E g
      cases L with
      | none=>exact B.elim
      | some p=>
       obtain⟨j',v'⟩:=p;refine⟨_,Zcto B.2,λZ l=>?_⟩;have J:=(l n _ rfl he).trans u;simp only[Instr.lookup,Sem.run_bind,run_underlying O,Result.andThen_ok,getObj,Sem.run,J,findKey_wide q A]
       cases D<;>simp[Zctn,I,o,Zcxv d]
     ·rename_i g
      split at c
      case h_2=>cases c
      rename_i z Q
      cases c
      obtain⟨L,I,B⟩:=Zczk E g
      cases L with
      | some p=>exact B.elim
      | none=>
       refine⟨_,Zcto (Zcql 4 (Zcwi Q)),λZ l=>?_⟩;have J:=(l n _ rfl he).trans u;simp only[Instr.lookup,Sem.run_bind,run_underlying O,Result.andThen_ok,getObj,Sem.run,J,findKey_wide q A]
       cases D<;>simp[Zctn,I,o,Zcxv d,Zcwj Q]
     ·cases c
    | _=>exact F.elim
theorem Zcse (O:Rep N (Zp P) G r h w) {t:TypeId} {u:Bool} {m S k R:Value} (F:ValR (Zp P) r m S) (E:ValR (Zp P) r k R) {rd x} (c:Zcsd P h t u m k=some (rd,x)):
  PS P (Zp P) r w rd x (Instr.lookup t S R u):=by
 unfold Zcsd at c;split at c
 ·rename_i n
  split at c
  case h_2=>cases c
  rename_i kt el I
  split at c
  case h_2=>cases c
  rename_i K d
  cases f:Zcte K k with
  | false=>
   rw[f]at c;simp only[cond_false]at c
   cases o:wideK K with
   | false=>rw[o]at c;cases c
   | true=>rw[o]at c;exact Zddj O I d o F E c
  | true=>
   rw[f]at c;simp only[cond_true]at c;have C:atom k=true:=by cases K<;>cases k<;>first|rfl|(simp[Zcte]at f;done)
   obtain rfl:=Zcna C E;split at c
   case h_2=>cases c
   rename_i T Z ro V
   cases F with
   | same U=>simp[atom]at U
   | @map _ e he=>
    obtain⟨e',D,W,q,B⟩:=O.obj n _ V;obtain rfl:=Option.some.inj (he.symm.trans D)
    cases W with
    | map A Y=>
     have M:EntsR P r T A.toList:=⟨by simpa using B.2.1,λi x y a b=>B.2.2 i x y a (by simpa using b)⟩;split at c
     ·rename_i j v g
      cases c
      obtain⟨L,H,s⟩:=Zcqf M g
      cases L with
      | none=>exact s.elim
      | some p=>
       obtain⟨j',v'⟩:=p;refine⟨_,Zcto s.2,λX l=>?_⟩;have J:=(l n _ rfl he).trans q;simp only[Instr.lookup,Sem.run_bind,run_underlying I,Result.andThen_ok,getObj,Sem.run,J,Zcok d f,Instr.findKey,run_underlying d]
       cases u<;>simp[Zctn,H]
     ·rename_i g
      split at c
      case h_2=>cases c
      rename_i z Q
      cases c
      obtain⟨L,H,s⟩:=Zcqf M g
      cases L with
      | some p=>exact s.elim
      | none=>
       refine⟨_,Zcto (Zcql 4 (Zcwi Q)),λX l=>?_⟩;have J:=(l n _ rfl he).trans q;simp only[Instr.lookup,Sem.run_bind,run_underlying I,Result.andThen_ok,getObj,Sem.run,J,Zcok d f,Instr.findKey,run_underlying d]
       cases u<;>simp[Zctn,H,Zcwj Q]
     ·cases c
    | _=>exact B.elim
 ·cases g:(flat 2 m&&flat 2 k)with
  | false=>rw[g]at c;cases c
  | true=>
   rw[g]at c;simp only[Bool.and_eq_true]at g;obtain rfl:=Zcqk 2 g.1 F;obtain rfl:=Zcqk 2 g.2 E;exact Zcqg c
def Zcmi (P:Program) (r:Ren) (xs ys:List (Nat×Value)):Prop:=xs.length=ys.length/\∀(i:Nat) x y,xs[i]? =some x->ys[i]? =some y->x.1=y.1/\ValR (Zp P) r x.2 y.2
def ArrR (P:Program) (r:Ren) (xs ys:Array Value):Prop:=xs.size=ys.size/\∀(i:Nat) x y,xs[i]? =some x->ys[i]? =some y->ValR (Zp P) r x y
theorem ValR.cells {v v':Value} (j:ValR (Zp P) r v v'):ArrR P r v.cells v'.cells:=by
 have one:∀ {a b:Value},ValR (Zp P) r a b->ArrR P r #[a] #[b]:=λg=>⟨rfl,λi x y hx k=>by
  cases i with
  | zero=>grind
  | succ i=>simp at hx⟩
 cases j with
 | same f=>cases v<;>first|exact one (.same f)|(simp[atom]at f;done)
 | ptr e=>exact one (.ptr e)
 | slice a b c d=>exact one (.slice a b c d)
 | void a b c=>exact one (.void a b c)
 | map e=>exact one (.map e)
 | yield e=>exact one (.yield e)
 | func a b c d=>exact one (.func a b c d)
 | iface a=>exact one (.iface a)
 | agg a b=>exact⟨a,b⟩
 | tuple a b=>exact one (.tuple a b)
theorem Zcqo {off:Nat}:∀ {us vs:List Value} {xs ys:Array Value} {j:Nat},ValsR (Zp P) r us vs->ArrR P r xs ys->
  ArrR P r ((us.zipIdx j).foldl (λf (p:Value×Nat)=>f.setIfInBounds (off+p.2) p.1) xs) ((vs.zipIdx j).foldl (λf (p:Value×Nat)=>f.setIfInBounds (off+p.2) p.1) ys):=by
 intro us
 induction us with
 | nil=>intro vs xs ys j g hx;cases vs with
  | nil=>exact hx
  | cons _ _=>have:=g.1;simp at this
 | cons u us m=>
  intro vs xs ys j g hx;obtain⟨v,n,rfl,k,l⟩:=g.head;simp only[List.zipIdx_cons,List.foldl_cons];refine m l ⟨by simp[hx.1],λi a b e c=>?_⟩;rw[Array.getElem?_setIfInBounds]at e c;split at e
  ·rename_i d
   rw[if_pos d]at c;split at e
   ·split at c
    ·cases e;cases c;exact k
    ·cases c
   ·cases e
  ·rename_i d
   rw[if_neg d]at c;exact hx.2 i a b e c
theorem Zcqd {o:Nat->Option (Nat×Nat)}:∀ {ps qs:List (Nat×Value)} {xs ys zs:Array Value},Zcmi P r ps qs->ArrR P r xs ys->Instr.fill o xs ps=some zs->
  ∃zs',Instr.fill o ys qs=some zs'/\ArrR P r zs zs':=by
 intro ps
 induction ps with
 | nil=>intro qs xs ys zs g hx d;cases qs with
  | nil=>cases d;exact⟨ys,rfl,hx⟩
  | cons _ _=>have:=g.1;simp at this
 | cons p ps u=>
  intro qs xs ys zs g hx d
  cases qs with
  | nil=>have:=g.1;simp at this
  | cons q qs=>
   obtain⟨i,v⟩:=p;obtain⟨A,z⟩:=q;obtain⟨m,n⟩:=g.2 0 _ _ rfl rfl
   dsimp only at m n
   subst m;have l:Zcmi P r ps qs:=⟨by have:=g.1;simpa using this,λi x y a b=>g.2 (i+1) x y (by simpa using a) (by simpa using b)⟩;simp only[Instr.fill]at d⊢;split at d
   ·cases d
   ·rename_i off s t
    have c:=n.cells;split at d
    ·cases d
    ·rename_i k
     rw[<-c.1,<-hx.1,if_neg k];refine u l ?_ d;have:=Zcqo (off:=off) (j:=0) (us:=v.cells.toList) (vs:=z.cells.toList) ⟨by simpa using c.1,λi x y a b=>c.2 i x y (by simpa using a) (by simpa using b)⟩ hx;have e:∀(f:Array Value) (cs:Array Value),Array.foldl (λcs (x:Value×Nat)=>cs.setIfInBounds (off+x.2) x.1) cs f.zipIdx=(f.toList.zipIdx 0).foldl (λcs (p:Value×Nat)=>cs.setIfInBounds (off+p.2) p.1) cs:=by
      intro f cs;rw[<-Array.foldl_toList];simp
     rw[<-e,<-e]at this;exact this
def Zcnu (P:Program) (t:TypeId) (ps:List (Nat×Value)):Res:=
 match Zcwh P t with
 | some z=>match P.underlying t with
  | some (.struct fs)=>match Zcua P (fs.mapM λf=>do pure (f.offset,<-sizeOf f.type):Sem (Array (Nat×Nat)))with
   | some pl=>match Instr.fill (λi=>pl[i]?) z.cells ps with
    | some cs=>some (none,.agg cs)
    | none=>none
   | none=>none
  | _=>none
 | none=>none
theorem Zcnv {t:TypeId} {ps e:List (Nat×Value)} (k:Zcmi P r ps e) {rd x} (a:Zcnu P t ps=some (rd,x)):PS P (Zp P) r w rd x (Instr.build t e.toArray):=by
 unfold Zcnu at a;split at a
 case h_2=>cases a
 rename_i z d
 split at a
 case h_2=>cases a
 rename_i n l
 split at a
 case h_2=>cases a
 rename_i o b
 split at a
 case h_2=>cases a
 rename_i m j
 cases a
 obtain⟨f,g,c⟩:=Zcqd k (Zcql 4 (Zcwi d)).cells j;refine .of _ (.agg c.1 c.2) (λp=>?_);have i:=Zcub b;simp only[Instr.build,Sem.run_bind,Zcwj d,Result.andThen_ok,run_underlying l];rw[i];simp only[Result.andThen_ok];rw[g];rfl
