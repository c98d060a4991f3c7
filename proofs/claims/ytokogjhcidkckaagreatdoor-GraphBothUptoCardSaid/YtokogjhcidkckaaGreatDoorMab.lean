import Derived.Test.YtokogjhcidkckaaGreatDoorMaa
import Derived.Laws.Strings
namespace Go.Proofs.YtokogjhcidkckaaGreatDoor.Exe
open Go
abbrev Zp (P:Program):TypeId->Nat:=λt=>((P.info? t).map (·.size)).getD 0
def szC (P:Program) (t:TypeId):Option Nat:=(P.info? t).map (·.size)
theorem Zcvp {P:Program} {t k} (h:szC P t=some k) (w:World):(sizeOf t).run P w = .ok k w:=by
 unfold szC at h
 cases hi:P.info? t with
 | none=>rw[hi]at h;cases h
 | some i=>rw[hi]at h;cases h;simp[sizeOf,run_typeInfo w hi]
def aggC (P:Program) (t:TypeId):Option Bool:=
 match P.underlying t with
 | some (.struct _)=>some true
 | some (.array _ _)=>some true
 | some _=>some false
 | none=>none
theorem Zcmn {P:Program} {t k} (h:aggC P t=some k) (w:World):(isAgg t).run P w = .ok k w:=by
 unfold aggC at h
 cases hu:P.underlying t with
 | none=>rw[hu]at h;cases h
 | some d=>
  rw[hu]at h
  cases d<;>simp only[Option.some.injEq]at h<;>subst h<;>simp[isAgg,run_underlying hu]
abbrev Res:=Option (Option Nat×Value)
def Zcrs (P:Program) (h:Hp) (t:TypeId):Value->Res
 | .pointer (some ⟨n,o,none⟩)=>
  match look h n with
  | some (.cells cs _ _ _)=>
   match aggC P t with
   | some true=>match szC P t with
    | some k=>bif Nat.ble (o+k) cs.length then some (some n,.agg ((cs.drop o).take k).toArray)else none
    | none=>none
   | some false=>match cs[o]? with
    | some v=>some (some n,v)
    | none=>none
   | none=>none
  | _=>none
 | _=>none
variable {N:Nat->Prop} {P:Program} {G:Nat} {r:Ren} {h:Hp} {w:World}
theorem Zcrt (hR:Rep N (Zp P) G r h w) {t:TypeId} {v v':Value} (hv:ValR (Zp P) r v v') {rd x} (hc:Zcrs P h t v=some (rd,x)):
  PS P (Zp P) r w rd x (Instr.loadAt t v'):=by
 unfold Zcrs at hc;split at hc
 case h_2=>cases hc
 rename_i n o
 cases hv with
 | same ha=>simp[atom]at ha
 | @ptr _ _ e he=>
  split at hc
  case h_2=>cases hc
  rename_i cs t0 hi ro hl
  obtain⟨e',he',o',ho',hO⟩:=hR.obj n _ hl;obtain rfl:=Option.some.inj (he'.symm.trans he);split at hc
  ·rename_i hag
   split at hc
   case h_2=>cases hc
   rename_i k hk
   cases hb:Nat.ble (o+k) cs.length with
   | false=>rw[hb]at hc;cases hc
   | true=>
    rw[hb]at hc;cases hc;obtain⟨vs,hvs,hvl,hrun⟩:=Zcru (P:=P) ho' hO (Nat.le_of_ble_eq_true hb);refine⟨.agg vs.toArray,.aggL hvs,λw1 hw1=>?_⟩;have:=hrun w1 ((hw1 n _ rfl he).trans ho');simp[Instr.loadAt,Instr.sureAddr,loadVar,Zcmn hag,Zcvp hk,this]
  ·rename_i hag
   split at hc
   case h_2=>cases hc
   rename_i u hu
   cases hc
   cases o' with
   | cells cs' t' f=>
    obtain⟨h1,h2,h3,h4,h5,h6,h7⟩:=hO;obtain⟨u',ha,hb⟩:=h6 _ _ hu;refine⟨u',hb,λw1 hw1=>?_⟩;have hw:=(hw1 n _ rfl he).trans ho';simp[Instr.loadAt,Instr.sureAddr,loadVar,Zcmn hag,load,Sem.run,cell_of hw,ha]
   | _=>exact hO.elim
  ·cases hc
def Zcpx (P:Program) (s:TypeId) (f:Nat):Option Field:=
 match P.underlying s with
 | some (.struct fs)=>fs[f]?
 | _=>none
theorem Zcpy {s:TypeId} {f:Nat} {fd:Field} (hf:Zcpx P s f=some fd):∃fs,P.underlying s=some (.struct fs)/\fs[f]? =some fd:=by
 unfold Zcpx at hf;split at hf
 ·rename_i fs hfs;exact⟨fs,hfs,hf⟩
 ·cases hf
def Zcpv (P:Program) (s:TypeId) (f:Nat):Value->Res
 | .pointer (some ⟨n,o,none⟩)=>
  match Zcpx P s f with
  | some fd=>match szC P fd.type with
   | some k=>bif Nat.beq k 0 then none else some (none,.pointer (some ⟨n,o+fd.offset,none⟩))
   | none=>none
  | none=>none
 | _=>none
theorem addr_add (b o k:Nat):(⟨b,o,none⟩:Addr).add k=⟨b,o+k,none⟩:=by
 unfold Addr.add;split
 ·rename_i h;subst h;rfl
 ·rfl
theorem Zcpw {s:TypeId} {f:Nat} {v v':Value} (hv:ValR (Zp P) r v v') {rd x} (hc:Zcpv P s f v=some (rd,x)):
  PS P (Zp P) r w rd x (Instr.fieldAt s v' f):=by
 unfold Zcpv at hc;split at hc
 case h_2=>cases hc
 rename_i n o
 cases hv with
 | same ha=>simp[atom]at ha
 | @ptr _ _ e he=>
  split at hc
  case h_2=>cases hc
  rename_i fd hfd
  split at hc
  case h_2=>cases hc
  rename_i k hk
  cases hk0:Nat.beq k 0 with
  | true=>rw[hk0]at hc;cases hc
  | false=>
   rw[hk0]at hc;cases hc;obtain⟨fs,hu,hf⟩:=Zcpy hfd;have:=ValR.ptr (Z:=Zp P) (o:=o+fd.offset) he;refine .of _ this (λw1=>?_);have hne:=Zcnd.1 hk0;have:o+fd.offset+e.sh=o+e.sh+fd.offset:=by omega
   simp[Instr.fieldAt,run_underlying hu,hf,Instr.sureAddr,fieldPlace,Zcvp hk,hne,addr_add,this]
def Zctp (P:Program) (t:TypeId) (cs:Array Value) (off:Nat):Option Value:=
 match aggC P t with
 | some true=>match szC P t with
  | some k=>some (.agg (cs.extract off (off+k)))
  | none=>none
 | some false=>cs[off]?
 | none=>none
theorem Zctq {t:TypeId} {xs ys:Array Value} {off:Nat} (h1:xs.size=ys.size) (h2:∀(i:Nat) x y,xs[i]? =some x->ys[i]? =some y->ValR (Zp P) r x y) {v:Value}
  (hc:Zctp P t xs off=some v):∃v',ValR (Zp P) r v v'/\∀w1:World,(part t ys off).run P w1 = .ok v' w1:=by
 unfold Zctp at hc;split at hc
 ·rename_i ha
  split at hc
  case h_2=>cases hc
  rename_i k hk
  cases hc
  refine⟨.agg (ys.extract off (off+k)),.agg (by simp[h1]) (λi x y hx hy=>?_),λw1=>by simp[part,Zcmn ha,Zcvp hk]⟩;rw[Array.getElem?_extract]at hx hy;split at hx
  ·split at hy
   ·exact h2 _ _ _ hx hy
   ·cases hy
  ·cases hx
 ·rename_i ha
  have hlt:off<ys.size:=by rw[<-h1];exact(Array.getElem?_eq_some_iff.1 hc).1
  exact⟨ys[off],h2 off _ _ hc (by simp[hlt]),λw1=>by simp[part,Zcmn ha,hlt]⟩
 ·cases hc
def Zcpz (P:Program) (s:TypeId) (f:Nat):Value->Res
 | .agg cs=>match Zcpx P s f with
  | some fd=>match Zctp P fd.type cs fd.offset with
   | some v=>some (none,v)
   | none=>none
  | none=>none
 | _=>none
theorem Zcqa {s:TypeId} {f:Nat} {v v':Value} (hv:ValR (Zp P) r v v') {rd x} (hc:Zcpz P s f v=some (rd,x)):
  PS P (Zp P) r w rd x (Instr.field s v' f):=by
 unfold Zcpz at hc;split at hc
 case h_2=>cases hc
 cases hv with
 | same ha=>simp[atom]at ha
 | @agg xs ys h1 h2=>
  split at hc
  case h_2=>cases hc
  rename_i fd hfd
  split at hc
  case h_2=>cases hc
  rename_i u hu
  cases hc
  obtain⟨fs,hs,hf⟩:=Zcpy hfd;obtain⟨u',hu',hrun⟩:=Zctq h1 h2 hu;exact .of _ hu' (λw1=>by simp[Instr.field,run_underlying hs,hf,asAgg,hrun])
def Zcrf (P:Program) (t:TypeId):Value->Value->Res
 | .slice (some ⟨n,o,none⟩) l _,.int _ i=>
  match P.underlying t with
  | some (.slice el)=>match szC P el with
   | some k=>bif decide (0<=i)&&decide (i<(l:Int))then some (none,.pointer (some ⟨n,o+i.toNat*k,none⟩))else none
   | none=>none
  | _=>none
 | .pointer (some ⟨n,o,none⟩),.int _ i=>
  match P.underlying t with
  | some (.array l el)=>match szC P el with
   | some k=>bif decide (0<=i)&&decide (i<(l:Int))then some (none,.pointer (some ⟨n,o+i.toNat*k,none⟩))else none
   | none=>none
  | _=>none
 | _,_=>none
theorem Zcrg {t:TypeId} {v v' i i':Value} (hv:ValR (Zp P) r v v') (hi:ValR (Zp P) r i i') {rd x} (hc:Zcrf P t v i=some (rd,x)):
  PS P (Zp P) r w rd x (Instr.indexAt t v' i'):=by
 unfold Zcrf at hc;split at hc
 ·rename_i n o l c kk ii
  obtain rfl:=Zcna rfl hi
  cases hv with
  | same ha=>simp[atom]at ha
  | @slice _ _ _ _ c' e he _ _ _=>
   split at hc
   case h_2=>cases hc
   rename_i el hu
   split at hc
   case h_2=>cases hc
   rename_i k hk
   cases hb:(decide (0<=ii)&&decide (ii<(l:Int)))with
   | false=>rw[hb]at hc;cases hc
   | true=>
    rw[hb]at hc;cases hc;simp only[Bool.and_eq_true,decide_eq_true_eq]at hb;refine .of _ (ValR.ptr (o:=o+ii.toNat*k) he) (λw1=>?_);have:o+ii.toNat*k+e.sh=o+e.sh+ii.toNat*k:=by omega
    simp[Instr.indexAt,asIntOf,run_underlying hu,hb.1,hb.2,Zcvp hk,addr_add,this]
 ·rename_i n o kk ii
  obtain rfl:=Zcna rfl hi
  cases hv with
  | same ha=>simp[atom]at ha
  | @ptr _ _ e he=>
   split at hc
   case h_2=>cases hc
   rename_i l el hu
   split at hc
   case h_2=>cases hc
   rename_i k hk
   cases hb:(decide (0<=ii)&&decide (ii<(l:Int)))with
   | false=>rw[hb]at hc;cases hc
   | true=>
    rw[hb]at hc;cases hc;simp only[Bool.and_eq_true,decide_eq_true_eq]at hb;refine .of _ (ValR.ptr (o:=o+ii.toNat*k) he) (λw1=>?_);have:o+ii.toNat*k+e.sh=o+e.sh+ii.toNat*k:=by omega
    simp[Instr.indexAt,asIntOf,run_underlying hu,hb.1,hb.2,Zcvp hk,addr_add,this,Instr.sureAddr]
 ·cases hc
def fl (P:Program) (s:Sem Value):Res:=
 match Zcua P s with
 | some v=>bif flat 4 v then some (none,v)else none
 | none=>none
theorem Zcqg {s:Sem Value} {rd x} (hc:fl P s=some (rd,x)):PS P (Zp P) r w rd x s:=by
 unfold fl at hc;split at hc
 case h_2=>cases hc
 rename_i v hv
 cases hf:flat 4 v with
 | false=>rw[hf]at hc;cases hc
 | true=>rw[hf]at hc;cases hc;exact .flat _ hf hv
def lenC (P:Program) (h:Hp) (t:TypeId):Value->Res
 | .string s=>match P.underlying t with
  | some .string=>some (none,goInt s.size)
  | _=>none
 | .slice _ l _=>match P.underlying t with
  | some (.slice _)=>some (none,goInt l)
  | _=>none
 | .map (some n)=>match P.underlying t with
  | some (.map _ _)=>match look h n with
   | some (.map es _ _)=>some (some n,goInt es.length)
   | _=>none
  | _=>none
 | .map none=>match P.underlying t with
  | some (.map _ _)=>some (none,goInt 0)
  | _=>none
 | _=>none
theorem Zcrr (hR:Rep N (Zp P) G r h w) {t ty:TypeId} {ts:Array TypeId} {v v':Value} {us:Array Value} (ht:ts[0]? =some t) (ha:us[0]? =some v') (hv:ValR (Zp P) r v v') {rd x} (hc:lenC P h t v=some (rd,x)):
  PS P (Zp P) r w rd x (Builtin.len_ ts ty us):=by
 unfold lenC at hc;split at hc
 ·obtain rfl:=Zcna rfl hv
  split at hc
  ·rename_i hu;cases hc;exact .of _ (.same rfl) (λw1=>by simp[Builtin.len_,ht,ha,run_underlying hu])
  ·cases hc
 ·split at hc
  ·rename_i hu;cases hc
   cases hv with
   | same _=>exact .of _ (.same rfl) (λw1=>by simp[Builtin.len_,ht,ha,run_underlying hu])
   | slice _ _ _ _=>exact .of _ (.same rfl) (λw1=>by simp[Builtin.len_,ht,ha,run_underlying hu])
   | void _ _ _=>exact .of _ (.same rfl) (λw1=>by simp[Builtin.len_,ht,ha,run_underlying hu])
  ·cases hc
 ·rename_i n
  split at hc
  case h_2=>cases hc
  rename_i k0 e0 hu
  split at hc
  case h_2=>cases hc
  rename_i es ck ro hl
  cases hc
  cases hv with
  | same hat=>simp[atom]at hat
  | @map _ e he=>
   obtain⟨e',he',o',ho',hO⟩:=hR.obj n _ hl;obtain rfl:=Option.some.inj (he'.symm.trans he)
   cases o' with
   | map es' k'=>
    refine⟨_,.same rfl,λw1 hw1=>?_⟩;have hw:=(hw1 n _ rfl he).trans ho';simp[Builtin.len_,ht,ha,run_underlying hu,getObj,Sem.run,hw,hO.2.1]
   | _=>exact hO.elim
 ·obtain rfl:=Zcna rfl hv
  split at hc
  ·rename_i hu;cases hc;exact .of _ (.same rfl) (λw1=>by simp[Builtin.len_,ht,ha,run_underlying hu])
  ·cases hc
 ·cases hc
def Zcpp (i:Nat):Value->Res
 | .tuple vs=>match vs[i]? with
  | some v=>some (none,v)
  | none=>none
 | _=>none
theorem Zcpq {i:Nat} {v v':Value} (hv:ValR (Zp P) r v v') {rd x} (hc:Zcpp i v=some (rd,x)):PS P (Zp P) r w rd x (Instr.extract v' i):=by
 unfold Zcpp at hc;split at hc
 case h_2=>cases hc
 cases hv with
 | same ha=>simp[atom]at ha
 | @tuple xs ys h1 h2=>
  split at hc
  case h_2=>cases hc
  rename_i u hu
  cases hc
  have hlt:i<ys.size:=by rw[<-h1];exact(Array.getElem?_eq_some_iff.1 hu).1
  exact .of (v':=ys[i]) _ (h2 i _ _ hu (by simp[hlt])) (λw1=>by simp[Instr.extract,hlt])
end Go.Proofs.YtokogjhcidkckaaGreatDoor.Exe
namespace Go.Proofs.YtokogjhcidkckaaGreatDoor.Exe
open Go
variable {N:Nat->Prop} {P:Program} {G:Nat} {r:Ren} {h:Hp} {w:World}
def Zctt:Value->Value->Bool
 | .nilIface,.nilIface=>false
 | .agg _,.agg _=>false
 | _,_=>true
theorem Zcpe {op:BinOp} {t:TypeId} {x y:Operand} {a b:Value} (h1:Zctt a b=true) (w:World):
  (eqGuard op t x y a b).run P w = .ok () w:=by
 unfold eqGuard
 cases op<;>simp<;>(split<;>first|rfl|simp[Zctt]at h1)
def Zcsu (P:Program):TypeDesc->Value->Value->Option Bool
 | .pointer _,.pointer (some _),.pointer none=>some false
 | .pointer _,.pointer none,.pointer (some _)=>some false
 | .pointer el,.pointer (some ⟨n,o,none⟩),.pointer (some ⟨m,u,none⟩)=>
  match szC P el with
  | some k=>bif Nat.beq k 0 then none else bif Nat.beq n m then some (Nat.beq o u)else none
  | none=>none
 | .slice _,.slice none _ _,.slice (some _) _ _=>some false
 | .slice _,.slice (some _) _ _,.slice none _ _=>some false
 | .map _ _,.map none,.map (some _)=>some false
 | .map _ _,.map (some _),.map none=>some false
 | .func _ _ _,.func (.func _) _ _,.nilFunc=>some false
 | .func _ _ _,.nilFunc,.func (.func _) _ _=>some false
 | _,_,_=>none
theorem Zcsv {d:TypeDesc} {x y x' y':Value} (hx:ValR (Zp P) r x x') (hy:ValR (Zp P) r y y') {b:Bool} (hc:Zcsu P d x y=some b) {t:TypeId} (hu:P.underlying t=some d) (w:World):
  (Op.equal t x' y').run P w = .ok b w:=by
 unfold Zcsu at hc;have e:Op.equal t x' y'=Op.equalIn (9999+1) t x' y':=rfl;rw[e];generalize 9999=D;split at hc
 ·cases hc
  cases hx with
  | same ha=>simp[atom]at ha
  | ptr he=>obtain rfl:=Zcna rfl hy;simp[Op.equalIn,run_underlying hu]
 ·cases hc
  cases hy with
  | same ha=>simp[atom]at ha
  | ptr he=>obtain rfl:=Zcna rfl hx;simp[Op.equalIn,run_underlying hu]
 ·rename_i el n o m u
  split at hc
  case h_2=>cases hc
  rename_i k hk
  cases hk0:Nat.beq k 0 with
  | true=>rw[hk0]at hc;cases hc
  | false=>
   rw[hk0]at hc
   cases hnm:Nat.beq n m with
   | false=>rw[hnm]at hc;cases hc
   | true=>
    rw[hnm]at hc;cases hc;obtain rfl:=Zcnc.1 hnm;have hne:=Zcnd.1 hk0
    cases hx with
    | same ha=>simp[atom]at ha
    | @ptr _ _ e1 h1=>
     cases hy with
     | same ha=>simp[atom]at ha
     | @ptr _ _ e2 h2=>
      obtain rfl:=Option.some.inj (h1.symm.trans h2);simp only[Op.equalIn,Sem.run_bind,run_underlying hu,Result.andThen_ok,Zcvp hk,hne,ne_eq,not_false_eq_true,if_true,sameAddr,beq_self_eq_true];simp only[Sem.run_pure,Result.ok.injEq,and_true];rw[Bool.eq_iff_iff,Zcnc];simp
 ·cases hc;cases hx<;>cases hy<;>first|(simp[Op.equalIn,run_underlying hu];done)|(exfalso;simp_all[atom];done)
 ·cases hc;cases hx<;>cases hy<;>first|(simp[Op.equalIn,run_underlying hu];done)|(exfalso;simp_all[atom];done)
 ·cases hc;cases hx<;>cases hy<;>first|(simp[Op.equalIn,run_underlying hu];done)|(exfalso;simp_all[atom];done)
 ·cases hc;cases hx<;>cases hy<;>first|(simp[Op.equalIn,run_underlying hu];done)|(exfalso;simp_all[atom];done)
 ·cases hc;cases hx<;>cases hy<;>first|(simp[Op.equalIn,run_underlying hu];done)|(exfalso;simp_all[atom];done)
 ·cases hc;cases hx<;>cases hy<;>first|(simp[Op.equalIn,run_underlying hu];done)|(exfalso;simp_all[atom];done)
 ·cases hc
def intC (op:BinOp) (k:IntKind) (a b:Int):Option Value:=
 match op with
 | .add=>some (.int k (k.wrap (a+b)))
 | .sub=>some (.int k (k.wrap (a-b)))
 | .eql=>some (.bool (decide (a=b)))
 | .neq=>some (.bool (!decide (a=b)))
 | .lss=>some (.bool (decide (a<b)))
 | .leq=>some (.bool (decide (a<=b)))
 | .gtr=>some (.bool (decide (a>b)))
 | .geq=>some (.bool (decide (a≥b)))
 | _=>none
theorem Zcrl {op:BinOp} {k:IntKind} {a b:Int} {v:Value} (hc:intC op k a b=some v) (t:TypeId) (w:World):(binOp op t (.int k a) (.int k b)).run P w = .ok v w:=by
 cases op<;>simp only[intC,Option.some.injEq]at hc<;>first|cases hc;done|(subst hc;simp[binOp,Op.intArith,Op.intCmp];try (first|rfl|(congr 2;exact Bool.eq_iff_iff.2 (by simp))))
theorem Zcrk {op:BinOp} {k:IntKind} {a b:Int} {v:Value} (hc:intC op k a b=some v):atom v=true:=by
 cases op<;>simp only[intC,Option.some.injEq]at hc<;>first|cases hc;done|(subst hc;rfl)
def eqU:List UInt8->List UInt8->Bool
 | [],[]=>true
 | a::x,b::y=>bif Nat.beq a.toNat b.toNat then eqU x y else false
 | _,_=>false
def ltU:List UInt8->List UInt8->Bool
 | _,[]=>false
 | [],_::_=>true
 | a::x,b::y=>bif Nat.blt a.toNat b.toNat then true else bif Nat.beq a.toNat b.toNat then ltU x y else false
theorem Zcpf:∀(x y:List UInt8),eqU x y=(x==y)
 | [],[]=>rfl
 | [],_::_=>rfl
 | _::_,[]=>rfl
 | a::x,b::y=>by
  rw[List.cons_beq_cons,<-Zcpf x y,eqU]
  cases h:Nat.beq a.toNat b.toNat with
  | true=>have:=UInt8.toNat_inj.1 (Zcnc.1 h);subst this;simp
  | false=>
   have:a≠b:=λe=>by subst e;rw[Zcnc.2 rfl]at h;cases h
   simp[this]
theorem Zcsh:∀(x y:List UInt8),ltU x y=Op.bytesLess x y
 | [],[]=>rfl
 | _::_,[]=>rfl
 | [],_::_=>rfl
 | a::x,b::y=>by
  rw[Op.bytesLess,<-Zcsh x y,ltU]
  cases h:Nat.blt a.toNat b.toNat with
  | true=>
   have:a<b:=UInt8.lt_iff_toNat_lt.2 (Nat.le_of_ble_eq_true h);simp[this]
  | false=>
   have h1:¬a<b:=λe=>by
    have:Nat.blt a.toNat b.toNat=true:=Nat.ble_eq_true_of_le (UInt8.lt_iff_toNat_lt.1 e);rw[h]at this;cases this
   cases h2:Nat.beq a.toNat b.toNat with
   | true=>have:=UInt8.toNat_inj.1 (Zcnc.1 h2);subst this;simp
   | false=>
    have:a≠b:=λe=>by subst e;rw[Zcnc.2 rfl]at h2;cases h2
    simp[h1,this]
def Zcvn (op:BinOp) (x y:ByteArray):Option Value:=match op with
 | .eql=>some (.bool (eqU x.data.toList y.data.toList))
 | .neq=>some (.bool (!eqU x.data.toList y.data.toList))
 | .lss=>some (.bool (ltU x.data.toList y.data.toList))
 | .leq=>some (.bool (ltU x.data.toList y.data.toList||eqU x.data.toList y.data.toList))
 | .gtr=>some (.bool (!(ltU x.data.toList y.data.toList||eqU x.data.toList y.data.toList)))
 | .geq=>some (.bool (!ltU x.data.toList y.data.toList))
 | .add=>bif Nat.ble (x.data.toList.length+y.data.toList.length) 1000000 then some (.string ⟨⟨x.data.toList++y.data.toList⟩⟩)else none
 | _=>none
theorem Zcvo {op:BinOp} {x y:ByteArray} {v:Value} (hc:Zcvn op x y=some v) (w:World):atom v=true/\(Op.stringOp op x y).run P w = .ok v w:=by
 have h1:=ByteArray.toList_eq x;have h2:=ByteArray.toList_eq y
 cases op<;>simp only[Zcvn]at hc<;>first|(cases hc;done)|skip
 case add=>
  cases hb:Nat.ble (x.data.toList.length+y.data.toList.length) 1000000 with
  | false=>rw[hb]at hc;cases hc
  | true=>
   rw[hb]at hc;cases hc;have hle:=Nat.le_of_ble_eq_true hb;have hx:x.data.toList.length=x.size:=by simp
   have hy:y.data.toList.length=y.size:=by simp
   have h3:¬(9223372036854775807<(x.size:Int)+(y.size:Int)):=by omega
   refine⟨rfl,?_⟩;have e:x++y=⟨⟨x.data.toList++y.data.toList⟩⟩:=by
    apply ByteArray.ext;rw[ByteArray.data_append];apply Array.ext';simp
   simp[Op.stringOp,h3,e]
 all_goals (cases hc;refine⟨rfl,?_⟩;simp[Op.stringOp,Zcpf,Zcsh,h1,h2])
def binC (P:Program) (op:BinOp) (t:TypeId) (x y:Operand) (a b:Value):Res:=
 match a,b with
 | .int k m,.int k' n=>bif decide (k=k')then
   match intC op k m n with
   | some v=>some (none,v)
   | none=>fl P (do eqGuard op t x y (.int k m) (.int k' n);binOp op t (.int k m) (.int k' n))
  else fl P (do eqGuard op t x y (.int k m) (.int k' n);binOp op t (.int k m) (.int k' n))
 | .string m,.string n=>match Zcvn op m n with
  | some v=>some (none,v)
  | none=>fl P (Op.stringOp op m n)
 | a,b=>bif flat 4 a&&flat 4 b then fl P (do eqGuard op t x y a b;binOp op t a b)else
   match P.underlying t with
   | some d=>match Zcsu P d a b with
    | some c=>match op with
     | .eql=>some (none,.bool c)
     | .neq=>some (none,.bool !c)
     | _=>none
    | none=>none
   | none=>none
theorem Zcne {op:BinOp} {t:TypeId} {x y:Operand} {a b a' b':Value} (ha:ValR (Zp P) r a a') (hb:ValR (Zp P) r b b') {rd v} (hc:binC P op t x y a b=some (rd,v)):
  PS P (Zp P) r w rd v (do eqGuard op t x y a' b';binOp op t a' b'):=by
 unfold binC at hc;split at hc
 ·rename_i k m k' n
  obtain rfl:=Zcna rfl ha;obtain rfl:=Zcna rfl hb
  cases hk:decide (k=k')with
  | true=>
   rw[hk]at hc;obtain rfl:=of_decide_eq_true hk;simp only[cond_true]at hc;split at hc
   ·rename_i u hu
    cases hc
    exact .of _ (.same (Zcrk hu)) (λw1=>by rw[Sem.run_bind,Zcpe rfl];exact Zcrl hu t w1)
   ·exact Zcqg hc
  | false=>rw[hk]at hc;exact Zcqg hc
 ·rename_i m n
  obtain rfl:=Zcna rfl ha;obtain rfl:=Zcna rfl hb;have:binOp op t (.string m) (.string n)=Op.stringOp op m n:=by cases op<;>rfl
  split at hc
  ·rename_i u hu
   cases hc
   refine .of _ (.same (Zcvo (P:=P) hu w).1) (λw1=>?_);rw[Sem.run_bind,Zcpe rfl,Result.andThen_ok,this];exact(Zcvo hu w1).2
  ·obtain⟨v',h1,h2⟩:=Zcqg (r:=r) (w:=w) hc
   refine⟨v',h1,λw1 hw1=>?_⟩;rw[Sem.run_bind,Zcpe rfl];rw[Result.andThen_ok,this];exact h2 w1 hw1
 ·cases hf:(flat 4 a&&flat 4 b)with
  | true=>
   rw[hf]at hc;simp only[Bool.and_eq_true]at hf;obtain rfl:=Zcqk 4 hf.1 ha;obtain rfl:=Zcqk 4 hf.2 hb;exact Zcqg hc
  | false=>
   rw[hf]at hc;simp only[cond_false]at hc;split at hc
   case h_2=>cases hc
   rename_i d hd
   split at hc
   case h_2=>cases hc
   rename_i c hn
   have hrun:=λw1=>Zcsv ha hb hn hd w1
   have hg:Zctt a' b'=true:=by
    unfold Zcsu at hn;split at hn<;>first|cases hn;done|(cases ha<;>cases hb<;>first|rfl|simp_all[atom])
   split at hc
   ·cases hc
    refine .of _ (.same rfl) (λw1=>?_);rw[Sem.run_bind,Zcpe hg,Result.andThen_ok];have:binOp .eql t a' b'=(do pure (.bool (<-Op.equal t a' b')):Sem Value):=by
     unfold Zcsu at hn;split at hn<;>first|cases hn;done|(cases ha<;>cases hb<;>first|rfl|simp_all[atom])
    rw[this];simp[hrun]
   ·cases hc
    refine .of _ (.same rfl) (λw1=>?_);rw[Sem.run_bind,Zcpe hg,Result.andThen_ok];have:binOp .neq t a' b'=(do pure (.bool (!(<-Op.equal t a' b'))):Sem Value):=by
     unfold Zcsu at hn;split at hn<;>first|cases hn;done|(cases ha<;>cases hb<;>first|rfl|simp_all[atom])
    rw[this];simp[hrun]
   ·cases hc
end Go.Proofs.YtokogjhcidkckaaGreatDoor.Exe
namespace Go.Proofs.YtokogjhcidkckaaGreatDoor.Exe
open Go
variable {N:Nat->Prop} {P:Program} {G:Nat} {r:Ren} {h:Hp} {w:World}
def bnd (top dflt:Nat):Option Value->Option Nat
 | none=>some dflt
 | some (.int _ i)=>bif decide (0<=i)&&decide (i<=(top:Int))then some i.toNat else none
 | _=>none
theorem Zcnl {top d:Nat} {v:Value} {k:Nat} (hb:bnd top d (some v)=some k) (c:BoundsCode) (w:World):(Instr.sliceBound v top c).run P w = .ok k w:=by
 cases v<;>simp only[bnd]at hb<;>first|cases hb;done|skip
 rename_i kk i
 cases hi:(decide (0<=i)&&decide (i<=(top:Int)))with
 | false=>rw[hi]at hb;cases hb
 | true=>
  rw[hi]at hb;cases hb;simp only[Bool.and_eq_true,decide_eq_true_eq]at hi;simp[Instr.sliceBound,asIntOf,hi.1,hi.2]
theorem Zcnj {top d:Nat} {v:Value} {k:Nat} (hb:bnd top d (some v)=some k):k<=top:=by
 cases v<;>simp only[bnd]at hb<;>first|cases hb;done|skip
 rename_i kk i
 cases hi:(decide (0<=i)&&decide (i<=(top:Int)))with
 | false=>rw[hi]at hb;cases hb
 | true=>
  rw[hi]at hb;cases hb;simp only[Bool.and_eq_true,decide_eq_true_eq]at hi;omega
theorem Zcnk {top top' d d':Nat} {v:Value} {k:Nat} (hb:bnd top d (some v)=some k) (hle:top<=top'):bnd top' d' (some v)=some k:=by
 cases v<;>simp only[bnd]at hb⊢ <;>first|cases hb;done|skip
 rename_i kk i
 cases hi:(decide (0<=i)&&decide (i<=(top:Int)))with
 | false=>rw[hi]at hb;cases hb
 | true=>
  rw[hi]at hb;cases hb;simp only[Bool.and_eq_true,decide_eq_true_eq]at hi;have h1:i<=(top':Int):=by omega
  simp[hi.1,h1]
theorem Zcni {top d:Nat} {v:Value} {k:Nat} (hb:bnd top d (some v)=some k):atom v=true:=by
 cases v<;>simp only[bnd]at hb<;>first|rfl|cases hb
def hiC (m len:Nat):Option Value->Option Value->Option Nat
 | none,some _=>none
 | hi,_=>bnd m len hi
def Zcnm (len cap:Nat) (lo hi mx:Option Value):Option (Nat×Nat×Nat):=
 match bnd cap cap mx with
 | some m=>match hiC m len hi mx with
  | some k=>match bnd k 0 lo with
   | some l=>some (l,k,m)
   | none=>none
  | none=>none
 | none=>none
theorem Zcnq {len cap:Nat} {lo hi mx:Option Value} {l k m:Nat} (hc:Zcnm len cap lo hi mx=some (l,k,m)) (w:World):
  (Instr.sliceBounds true len cap lo hi mx).run P w = .ok (l,k,m) w:=by
 unfold Zcnm at hc;split at hc
 case h_2=>cases hc
 rename_i m' hm
 split at hc
 case h_2=>cases hc
 rename_i k' hk
 split at hc
 case h_2=>cases hc
 rename_i l' hl
 cases hc
 have e0:∀v,lo=some v->∀(c:BoundsCode) (w:World),(Instr.sliceBound v k c).run P w = .ok l w:=λv e c w=>by subst e;exact Zcnl hl c w
 have e1:lo=none->l=0:=λe=>by subst e;simpa[bnd,eq_comm]using hl
 clear hl
 cases mx with
 | none=>
  simp only[bnd,Option.some.injEq]at hm;subst hm
  cases hi with
  | none=>
   simp only[hiC,bnd,Option.some.injEq]at hk;subst hk
   cases lo with
   | none=>obtain rfl:=e1 rfl;simp[Instr.sliceBounds]
   | some u=>simp[Instr.sliceBounds,e0 u rfl]
  | some v=>
   have:=λc w=>Zcnl (P:=P) hk c w
   cases lo with
   | none=>obtain rfl:=e1 rfl;simp[Instr.sliceBounds,this]
   | some u=>simp[Instr.sliceBounds,e0 u rfl,this]
 | some x=>
  have h1:=λc w=>Zcnl (P:=P) hm c w
  cases hi with
  | none=>cases hk
  | some v=>
   have h2:=λc w=>Zcnl (P:=P) hk c w
   cases lo with
   | none=>obtain rfl:=e1 rfl;simp[Instr.sliceBounds,h1,h2]
   | some u=>simp[Instr.sliceBounds,e0 u rfl,h1,h2]
def Zcmz:Option Value->Bool
 | some v=>atom v
 | none=>true
def Zcve (P:Program) (h:Hp) (t:TypeId) (lo hi mx:Option Value):Value->Res
 | .slice (some ⟨n,o,none⟩) len cap=>
  match P.underlying t with
  | some (.slice el)=>match szC P el with
   | some z=>match Zcnm len cap lo hi mx with
    | some (l,k,m)=>
     bif exN n then some (none,.slice (some ⟨n,bif Nat.beq m l then o else o+l*z,none⟩) (k-l) (m-l))else
      match look h n with
      | some (.cells _ te _ _)=>bif Nat.beq (Zp P te) z&&(mx.isSome&&(Nat.beq m l || !(Nat.beq z 2)) || !mx.isSome&&(!(Nat.beq m l)||Nat.beq l 0))&&Nat.ble l m then
        some (none,.slice (some ⟨n,bif Nat.beq m l then o else o+l*z,none⟩) (k-l) (m-l))
       else bif Nat.beq (Zp P te) z && !mx.isSome&&Nat.beq m l&&Nat.ble k l then some (none,.slice (some ⟨n,o+l*z,some 0⟩) 0 0)else none
      | _=>none
    | none=>none
   | none=>none
  | _=>none
 | .string s=>match P.underlying t with
  | some .string=>match mx with
   | none=>match bnd s.data.toList.length s.data.toList.length hi with
    | some k=>match bnd k 0 lo with
     | some l=>some (none,.string ⟨⟨(s.data.toList.drop l).take (k-l)⟩⟩)
     | none=>none
    | none=>none
   | some _=>none
  | _=>none
 | v=>bif flat 2 v&&Zcmz lo&&Zcmz hi&&Zcmz mx then fl P (Instr.sliceAt t v lo hi mx)else none
def OptR (r:Ren) (P:Program) (x y:Option Value):Prop:=match x,y with
 | some a,some b=>ValR (Zp P) r a b
 | none,none=>True
 | _,_=>False
theorem OptR.eq {x y:Option Value} (hx:OptR r P x y) (ha:∀v,x=some v->atom v=true):y=x:=by
 cases x with
 | none=>cases y with
  | none=>rfl
  | some _=>exact hx.elim
 | some a=>cases y with
  | none=>exact hx.elim
  | some b=>rw[Zcna (ha _ rfl) hx]
theorem Zcnn {len cap:Nat} {lo hi mx:Option Value} {p} (hc:Zcnm len cap lo hi mx=some p):(∀v,lo=some v->atom v=true)/\(∀v,hi=some v->atom v=true)/\(∀v,mx=some v->atom v=true):=by
 unfold Zcnm at hc;split at hc
 case h_2=>cases hc
 rename_i m' hm
 split at hc
 case h_2=>cases hc
 rename_i k' hk
 split at hc
 case h_2=>cases hc
 rename_i l' hl
 refine⟨λv e=>by subst e;exact Zcni hl,λv e=>?_,λv e=>by subst e;exact Zcni hm⟩;subst e;exact Zcni hk
theorem Zcno {len cap:Nat} {lo hi mx:Option Value} {l k m} (hc:Zcnm len cap lo hi mx=some (l,k,m)):m<=cap/\(mx=none->m=cap):=by
 unfold Zcnm at hc;split at hc
 case h_2=>cases hc
 rename_i m' hm
 split at hc
 case h_2=>cases hc
 split at hc
 case h_2=>cases hc
 cases hc
 cases mx with
 | none=>simp only[bnd,Option.some.injEq]at hm;subst hm;exact⟨Nat.le_refl _,λ_=>rfl⟩
 | some v=>exact⟨Zcnj hm,λe=>by cases e⟩
theorem Zcnp {len cap cap':Nat} {lo hi mx:Option Value} {l k m} (hc:Zcnm len cap lo hi mx=some (l,k,m)) (hle:cap<=cap'):
  Zcnm len cap' lo hi mx=some (l,k,if mx.isSome then m else cap'):=by
 unfold Zcnm at hc⊢;split at hc
 case h_2=>cases hc
 rename_i m' hm
 split at hc
 case h_2=>cases hc
 rename_i k' hk
 split at hc
 case h_2=>cases hc
 rename_i l' hl
 cases hc
 cases mx with
 | some v=>
  rw[Zcnk hm hle];simp only[hk,hl,Option.isSome_some,if_true]
 | none=>
  simp only[bnd,Option.some.injEq]at hm;subst hm;have hk2:hiC cap' len hi none=some k:=by
   cases hi with
   | none=>exact hk
   | some v=>exact Zcnk hk hle
  rw[show bnd cap' cap' none=some cap' from rfl];simp only[hk2];rw[hl];rfl
theorem Zcvf (hR:Rep N (Zp P) G r h w) {t:TypeId} {v v':Value} {lo hi mx lo' hi' mx':Option Value} (hv:ValR (Zp P) r v v') (h1:OptR r P lo lo') (h2:OptR r P hi hi') (h3:OptR r P mx mx')
  {rd x} (hc:Zcve P h t lo hi mx v=some (rd,x)):PS P (Zp P) r w rd x (Instr.sliceAt t v' lo' hi' mx'):=by
 unfold Zcve at hc;split at hc
 ·rename_i n o len cap
  split at hc
  case h_2=>cases hc
  rename_i el hu
  split at hc
  case h_2=>cases hc
  rename_i z hz
  split at hc
  case h_2=>cases hc
  rename_i l k m hb
  obtain⟨a1,a2,a3⟩:=Zcnn hb;obtain rfl:=h1.eq a1;obtain rfl:=h2.eq a2;obtain rfl:=h3.eq a3;obtain⟨hm1,hm2⟩:=Zcno hb
  cases hv with
  | same ha=>simp[atom]at ha
  | @slice _ _ _ _ c' e he hle hex hr=>
   cases hn:exN n with
   | true=>
    rw[hn]at hc;cases hc;obtain rfl:=hex hn;refine .of _ (.slice he (Nat.le_refl _) (λ_=>rfl) (λk=>by rw[hn]at k;cases k)) (λw1=>?_);have hs:(bif Nat.beq m l then o else o+l*z)+e.sh=if m=l then o+e.sh else o+e.sh+l*z:=by
     cases hml:Nat.beq m l with
     | true=>simp[Zcnc.1 hml]
     | false=>simp[Zcnd.1 hml];omega
    rw[hs];simp only[Instr.sliceAt,Sem.run_bind,run_underlying hu,Result.andThen_ok,Instr.slice,Zcnq hb,Zcvp hz];split<;>simp[addr_add]
   | false=>
    rw[hn]at hc;simp only[cond_false]at hc;split at hc
    case h_2=>cases hc
    rename_i cs te hi0 ro hl
    cases hq:(Nat.beq (Zp P te) z&&(mx'.isSome&&(Nat.beq m l || !(Nat.beq z 2)) || !mx'.isSome&&(!(Nat.beq m l)||Nat.beq l 0))&&Nat.ble l m)with
    | false=>
     rw[hq]at hc;simp only[cond_false]at hc;clear hq
     cases hq:(Nat.beq (Zp P te) z && !mx'.isSome&&Nat.beq m l&&Nat.ble k l)with
     | false=>rw[hq]at hc;cases hc
     | true=>
      rw[hq]at hc;cases hc;obtain⟨e',he',o',ho',hO⟩:=hR.obj n _ hl;obtain rfl:=Option.some.inj (he.symm.trans he');have hte:e.t=te:=by cases o' with
       | cells cs' t' f=>exact hO.2.1
       | _=>exact hO.elim
      simp only[Bool.and_eq_true,Bool.not_eq_true',Zcnc]at hq;obtain⟨⟨⟨hz2,hq⟩,rfl⟩,hkl⟩:=hq;have hkl:=Nat.le_of_ble_eq_true hkl;have hr':=hr hn;rw[hte,hz2]at hr';have hb':=Zcnp hb hle;rw[hq]at hb';simp only[Bool.false_eq_true,if_false]at hb';refine .of _ (.void (o:=o+m*z) (o':=if c'=m then o+e.sh else o+e.sh+m*z) (c':=c'-m) he hn ?_) (λw1=>?_)
      ·by_cases hcm:c'=m
       ·exact .inl (by omega)
       ·refine .inr ⟨by rw[if_neg hcm];omega,?_⟩
        rw[hte,hz2];have h5:(c'-m)*z+m*z=c'*z:=by rw[<-Nat.add_mul];congr 1;omega
        refine⟨by have:=hr'.1;omega,λh2 h3=>?_,by have:=hr'.2.2;omega⟩;have:=hr'.2.1 h2 (by omega);omega
      ·have hk0:k-m=0:=by omega
       simp only[Instr.sliceAt,Sem.run_bind,run_underlying hu,Result.andThen_ok,Instr.slice,Zcnq hb',Zcvp hz,hk0];split<;>simp[addr_add]
    | true=>
     rw[hq]at hc;cases hc;obtain⟨e',he',o',ho',hO⟩:=hR.obj n _ hl;obtain rfl:=Option.some.inj (he.symm.trans he');have hte:e.t=te:=by cases o' with
      | cells cs' t' f=>exact hO.2.1
      | _=>exact hO.elim
     simp only[Bool.and_eq_true,Bool.or_eq_true,Bool.not_eq_true',Zcnc,Zcnd]at hq;obtain⟨⟨hz2,hq⟩,hlm⟩:=hq;have hlm:=Nat.le_of_ble_eq_true hlm;have hr':=hr hn;rw[hte,hz2]at hr';have hb':=Zcnp hb hle;obtain⟨m',hm'⟩:∃m',m'=(if mx'.isSome then m else c'):=⟨_,rfl⟩;rw[<-hm']at hb';have hmm:m<=m'/\m'<=c':=by
      rw[hm'];split
      ·omega
      ·omega
     have hpos:(bif Nat.beq m l then o else o+l*z)+e.sh=if m'=l then o+e.sh else o+e.sh+l*z:=by
      cases hml:Nat.beq m l with
      | true=>
       have hml':=Zcnc.1 hml;simp only[cond_true]
       rcases hq with⟨hq,_⟩|⟨_,hq|hq⟩
       ·rw[hq]at hm';simp at hm';subst hm';simp[hml']
       ·exact absurd hml' hq
       ·subst hq;split<;>simp
      | false=>
       have hml':=Zcnd.1 hml;have:m'≠l:=by
        intro e1;omega
       simp[this];omega
     refine .of _ (.slice (c':=m'-l) he (by omega) (λk=>by rw[hn]at k;cases k) (λ_=>?_)) (λw1=>?_)
     ·rw[hte,hz2,hpos]
      refine⟨?_,?_,by have:=hr'.2.2;omega⟩
      ·split
       ·rename_i e1;rw[e1];simp;exact Nat.le_trans (by omega) hr'.1
       ·have:(m'-l)*z+l*z<=c'*z:=by rw[<-Nat.add_mul];exact Nat.mul_le_mul_right z (by omega)
        have:=hr'.1;omega
      ·intro hz3 hlt
       rcases hq with⟨hq,hq2|hq2⟩|⟨hq,_⟩
       ·rw[hq]at hm';simp at hm';omega
       ·exact absurd hz3 hq2
       ·rw[hq]at hm';simp at hm';subst hm'
        rw[if_neg (by omega)];have:(m'-l)*z+l*z=m'*z:=by rw[<-Nat.add_mul];congr 1;omega
        have:=hr'.2.1 hz3 (by omega);omega
     ·rw[hpos]
      simp only[Instr.sliceAt,Sem.run_bind,run_underlying hu,Result.andThen_ok,Instr.slice,Zcnq hb',Zcvp hz];split<;>simp[addr_add]
 ·rename_i s
  obtain rfl:=Zcna rfl hv;split at hc
  case h_2=>cases hc
  rename_i hu
  split at hc
  case h_2=>cases hc
  split at hc
  case h_2=>cases hc
  rename_i k hk
  split at hc
  case h_2=>cases hc
  rename_i l hl
  cases hc
  have hsz:s.data.toList.length=s.size:=by simp
  rw[hsz]at hk;have f1:∀v,hi=some v->atom v=true:=λv e=>by subst e;exact Zcni hk
  have f2:∀v,lo=some v->atom v=true:=λv e=>by subst e;exact Zcni hl
  obtain rfl:=h1.eq f2;obtain rfl:=h2.eq f1;obtain rfl:=h3.eq (λv e=>by cases e);refine .of _ (.same rfl) (λw1=>?_);have e:s.extract l k=⟨⟨(s.data.toList.drop l).take (k-l)⟩⟩:=by
   apply ByteArray.ext;rw[ByteArray.data_extract];apply Array.ext';simp
  cases hi' with
  | none=>
   simp only[bnd,Option.some.injEq]at hk;subst hk
   cases lo' with
   | none=>simp only[bnd,Option.some.injEq]at hl;subst hl;simp[Instr.sliceAt,run_underlying hu,Instr.slice,Instr.sliceBounds];simpa using e
   | some v=>simp[Instr.sliceAt,run_underlying hu,Instr.slice,Instr.sliceBounds,e,Zcnl hl]
  | some u=>
   cases lo' with
   | none=>simp only[bnd,Option.some.injEq]at hl;subst hl;simp[Instr.sliceAt,run_underlying hu,Instr.slice,Instr.sliceBounds,e,Zcnl hk]
   | some v=>simp[Instr.sliceAt,run_underlying hu,Instr.slice,Instr.sliceBounds,e,Zcnl hk,Zcnl hl]
 ·cases hf:(flat 2 v&&Zcmz lo&&Zcmz hi&&Zcmz mx)with
  | false=>rw[hf]at hc;cases hc
  | true=>
   rw[hf]at hc;simp only[Bool.and_eq_true]at hf;obtain⟨⟨⟨f1,f2⟩,f3⟩,f4⟩:=hf;obtain rfl:=Zcqk 2 f1 hv;obtain rfl:=h1.eq (λv e=>by subst e;exact f2);obtain rfl:=h2.eq (λv e=>by subst e;exact f3);obtain rfl:=h3.eq (λv e=>by subst e;exact f4);exact Zcqg hc
end Go.Proofs.YtokogjhcidkckaaGreatDoor.Exe
namespace Go.Proofs.YtokogjhcidkckaaGreatDoor.Exe
open Go
variable {N:Nat->Prop} {P:Program} {G:Nat} {r:Ren} {h:Hp} {w:World}
def Zcwh (P:Program) (t:TypeId):Option Value:=match P.info? t with
 | some i=>match i.zero with
  | some v=>bif flat 4 v then some v else none
  | none=>none
 | none=>none
theorem Zcwj {t:TypeId} {v:Value} (hc:Zcwh P t=some v) (w:World):(zeroValue t).run P w = .ok v w:=by
 unfold Zcwh at hc;split at hc
 case h_2=>cases hc
 rename_i i hi
 split at hc
 case h_2=>cases hc
 rename_i u hu
 cases hf:flat 4 u with
 | false=>rw[hf]at hc;cases hc
 | true=>rw[hf]at hc;cases hc;simp[zeroValue,run_typeInfo w hi,hu]
theorem Zcwi {t:TypeId} {v:Value} (hc:Zcwh P t=some v):flat 4 v=true:=by
 unfold Zcwh at hc;split at hc
 case h_2=>cases hc
 split at hc
 case h_2=>cases hc
 rename_i u hu
 cases hf:flat 4 u with
 | false=>rw[hf]at hc;cases hc
 | true=>rw[hf]at hc;cases hc;exact hf
def Zcte:TypeDesc->Value->Bool
 | .string,.string _=>true
 | .int _,.int _ _=>true
 | .bool,.bool _=>true
 | _,_=>false
def Zcqe (kd:TypeDesc) (k:Value):List (Value×Value×Nat)->Nat->Option (Option (Nat×Value))
 | [],_=>some none
 | (key,v,_)::es,i=>match Instr.sameNow kd k key with
  | some true=>some (some (i,v))
  | some false=>Zcqe kd k es (i+1)
  | none=>none
def EntsR (P:Program) (r:Ren) (es:List (Value×Value×Nat)) (es':List MapEntry):Prop:=
 es.length=es'.length/\∀(i:Nat) (x:Value×Value×Nat) (y:MapEntry),es[i]? =some x->es'[i]? =some y->(y.key=x.1/\flat 3 x.1=true)/\ValR (Zp P) r x.2.1 y.val/\y.born=x.2.2
theorem EntsR.head {x es es'} (hE:EntsR P r (x::es) es'):∃y ys,es'=y::ys/\y.key=x.1/\flat 3 x.1=true/\ValR (Zp P) r x.2.1 y.val/\y.born=x.2.2/\EntsR P r es ys:=by
 cases es' with
 | nil=>have:=hE.1;simp at this
 | cons y ys=>
  obtain⟨⟨a,b⟩,c,d⟩:=hE.2 0 x y rfl rfl;exact⟨y,ys,rfl,a,b,c,d,by have:=hE.1;simpa using this,λi u v hu hv=>hE.2 (i+1) u v (by simpa using hu) (by simpa using hv)⟩
theorem Zcqf {kd:TypeDesc} {k:Value}:∀ {es es'} {i:Nat} {q},EntsR P r es es'->Zcqe kd k es i=some q->
  ∃q',Instr.findNow kd k es' i=some q'/\(match q,q' with|none,none=>True|some (a,v),some (b,v')=>a=b/\ValR (Zp P) r v v'|_,_=>False):=by
 intro es
 induction es with
 | nil=>
  intro es' i q hE hc
  cases es' with
  | nil=>cases hc;exact⟨none,rfl,trivial⟩
  | cons _ _=>have:=hE.1;simp at this
 | cons x es ih=>
  intro es' i q hE hc;obtain⟨y,ys,rfl,hk,hf,hv,hb,hE'⟩:=hE.head;obtain⟨key,v,b⟩:=x;simp only[Zcqe]at hc;simp only[Instr.findNow,hk];split at hc
  ·rename_i hs;cases hc;rw[hs];exact⟨_,rfl,rfl,hv⟩
  ·rename_i hs;rw[hs];exact ih hE' hc
  ·cases hc
theorem Zcok {kt:TypeId} {kd:TypeDesc} {k:Value} {b:Bool} (hu:P.underlying kt=some kd) (hk:Zcte kd k=true) (w:World):(Instr.checkKey b 10000 kt k).run P w = .ok () w:=by
 have:(10000:Nat)=9999+1:=rfl;rw[this];generalize 9999=D
 cases kd<;>cases k<;>first|(simp[Zcte]at hk;done)|simp[Instr.checkKey,run_underlying hu]
def wideK:TypeDesc->Bool
 | .struct _=>true
 | _=>false
def Zczj (P:Program) (kt:TypeId) (k:Value):List (Value×Value×Nat)->Nat->Option (Option (Nat×Value))
 | [],_=>some none
 | (key,v,_)::es,i=>match Zcua P (Op.equal kt k key)with
  | some true=>some (some (i,v))
  | some false=>Zczj P kt k es (i+1)
  | none=>none
theorem Zczk {kt:TypeId} {k:Value}:∀ {es es'} {i:Nat} {q},EntsR P r es es'->Zczj P kt k es i=some q->
  ∃q',(∀w,(Instr.findAsking kt k es' i).run P w = .ok q' w)/\(match q,q' with|none,none=>True|some (a,v),some (b,v')=>a=b/\ValR (Zp P) r v v'|_,_=>False):=by
 intro es
 induction es with
 | nil=>
  intro es' i q hE hc
  cases es' with
  | nil=>cases hc;exact⟨none,λw=>rfl,trivial⟩
  | cons _ _=>have:=hE.1;simp at this
 | cons x es ih=>
  intro es' i q hE hc;obtain⟨y,ys,rfl,hk,hf,hv,hb,hE'⟩:=hE.head;obtain⟨key,v,b⟩:=x;simp only[Zczj]at hc
  dsimp only at hk
  split at hc
  ·rename_i hs;cases hc
   have:=λw=>Zcub hs w
   exact⟨some (i,y.val),λw=>by simp[Instr.findAsking,hk,Sem.run_bind,this w,Result.andThen],rfl,hv⟩
  ·rename_i hs
   obtain⟨q',h1,h2⟩:=ih hE' hc;have:=λw=>Zcub hs w
   exact⟨q',λw=>by simp[Instr.findAsking,hk,Sem.run_bind,this w,Result.andThen,h1],h2⟩
  ·cases hc
theorem findKey_wide {kt:TypeId} {kd:TypeDesc} {k:Value} {es':List MapEntry} (hu:P.underlying kt=some kd) (hw:wideK kd=true) (w:World):(Instr.findKey kt k es').run P w=(Instr.findAsking kt k es').run P w:=by
 cases kd with
 | struct fs=>
  cases es' with
  | nil=>simp[Instr.findKey,run_underlying hu,Instr.findNow,Instr.findAsking]
  | cons e es=>simp[Instr.findKey,Sem.run_bind,run_underlying hu,Instr.findNow,Instr.sameNow]
 | _=>simp[wideK]at hw
def chkW (P:Program) (kt:TypeId) (k:Value) (em:Bool):Bool:=match Zcua P (Instr.checkKey em 10000 kt k)with
 | some _=>true
 | none=>false
theorem Zcxv {kt:TypeId} {k:Value} {em:Bool} (h:chkW P kt k em=true) (w:World):(Instr.checkKey em 10000 kt k).run P w = .ok () w:=by
 unfold chkW at h;split at h
 ·rename_i h1;exact Zcub h1 w
 ·cases h
def Zctn (ok:Bool) (v:Value) (b:Bool):Value:=bif ok then .tuple #[v,.bool b]else v
def Zddi (P:Program) (h:Hp) (kt el:TypeId) (ok:Bool) (n:Nat) (k:Value):Res:=bif flat 3 k then
  match look h n with
  | some (.map es _ _)=>bif chkW P kt k es.isEmpty then
    match Zczj P kt k es 0 with
    | some (some (_,v))=>some (some n,Zctn ok v true)
    | some none=>match Zcwh P el with
     | some z=>some (some n,Zctn ok z false)
     | none=>none
    | none=>none
   else none
  | _=>none
 else none
def Zcsd (P:Program) (h:Hp) (t:TypeId) (ok:Bool) (m k:Value):Res:=
 match m with
 | .map (some n)=>match P.underlying t with
  | some (.map kt el)=>match P.underlying kt with
   | some kd=>bif Zcte kd k then
     match look h n with
     | some (.map es _ _)=>match Zcqe kd k es 0 with
      | some (some (_,v))=>some (some n,Zctn ok v true)
      | some none=>match Zcwh P el with
       | some z=>some (some n,Zctn ok z false)
       | none=>none
      | none=>none
     | _=>none
    else bif wideK kd then Zddi P h kt el ok n k else none
   | none=>none
  | _=>none
 | m=>bif flat 2 m&&flat 2 k then fl P (Instr.lookup t m k ok)else none
theorem Zcto {ok b:Bool} {v v':Value} (hv:ValR (Zp P) r v v'):ValR (Zp P) r (Zctn ok v b) (Zctn ok v' b):=by
 cases ok with
 | false=>exact hv
 | true=>exact .tupleL (xs:=[v,.bool b]) (ys:=[v',.bool b]) ((ValsR.nil.cons (.same rfl)).cons hv)
theorem Zddj (hR:Rep N (Zp P) G r h w) {t kt el:TypeId} {kd:TypeDesc} {ok:Bool} {n:Nat} {m' k k':Value} (hu:P.underlying t=some (.map kt el)) (hkd:P.underlying kt=some kd) (hwk:wideK kd=true) (hm:ValR (Zp P) r (.map (some n)) m') (hk:ValR (Zp P) r k k') {rd x} (hc:Zddi P h kt el ok n k=some (rd,x)):
  PS P (Zp P) r w rd x (Instr.lookup t m' k' ok):=by
 unfold Zddi at hc
 cases hf:flat 3 k with
 | false=>rw[hf]at hc;cases hc
 | true=>
  rw[hf]at hc;simp only[cond_true]at hc;obtain rfl:=Zcqk 3 hf hk;split at hc
  case h_2=>cases hc
  rename_i es ck ro hl
  cases hck:chkW P kt k' es.isEmpty with
  | false=>rw[hck]at hc;cases hc
  | true=>
   rw[hck]at hc;simp only[cond_true]at hc
   cases hm with
   | same ha=>simp[atom]at ha
   | @map _ e he=>
    obtain⟨e',he',o',ho',hO⟩:=hR.obj n _ hl;obtain rfl:=Option.some.inj (he.symm.trans he')
    cases o' with
    | map es' c'=>
     have hE:EntsR P r es es'.toList:=⟨by simpa using hO.2.1,λi x y a b=>hO.2.2 i x y a (by simpa using b)⟩;have hem:es'.isEmpty=es.isEmpty:=by
      have hlen:es.length=es'.size:=by simpa using hE.1
      unfold Array.isEmpty;rw[<-hlen]
      cases es<;>simp
     split at hc
     ·rename_i j v hf
      cases hc
      obtain⟨q',hq,hr⟩:=Zczk hE hf
      cases q' with
      | none=>exact hr.elim
      | some p=>
       obtain⟨j',v'⟩:=p;refine⟨_,Zcto hr.2,λw1 hw1=>?_⟩;have hw:=(hw1 n _ rfl he).trans ho';simp only[Instr.lookup,Sem.run_bind,run_underlying hu,Result.andThen_ok,getObj,Sem.run,hw,findKey_wide hkd hwk]
       cases ok<;>simp[Zctn,hq,hem,Zcxv hck]
     ·rename_i hf
      split at hc
      case h_2=>cases hc
      rename_i z hz
      cases hc
      obtain⟨q',hq,hr⟩:=Zczk hE hf
      cases q' with
      | some p=>exact hr.elim
      | none=>
       refine⟨_,Zcto (Zcql 4 (Zcwi hz)),λw1 hw1=>?_⟩;have hw:=(hw1 n _ rfl he).trans ho';simp only[Instr.lookup,Sem.run_bind,run_underlying hu,Result.andThen_ok,getObj,Sem.run,hw,findKey_wide hkd hwk]
       cases ok<;>simp[Zctn,hq,hem,Zcxv hck,Zcwj hz]
     ·cases hc
    | _=>exact hO.elim
theorem Zcse (hR:Rep N (Zp P) G r h w) {t:TypeId} {ok:Bool} {m m' k k':Value} (hm:ValR (Zp P) r m m') (hk:ValR (Zp P) r k k') {rd x} (hc:Zcsd P h t ok m k=some (rd,x)):
  PS P (Zp P) r w rd x (Instr.lookup t m' k' ok):=by
 unfold Zcsd at hc;split at hc
 ·rename_i n
  split at hc
  case h_2=>cases hc
  rename_i kt el hu
  split at hc
  case h_2=>cases hc
  rename_i kd hkd
  cases hok:Zcte kd k with
  | false=>
   rw[hok]at hc;simp only[cond_false]at hc
   cases hwk:wideK kd with
   | false=>rw[hwk]at hc;cases hc
   | true=>rw[hwk]at hc;exact Zddj hR hu hkd hwk hm hk hc
  | true=>
   rw[hok]at hc;simp only[cond_true]at hc;have hak:atom k=true:=by cases kd<;>cases k<;>first|rfl|(simp[Zcte]at hok;done)
   obtain rfl:=Zcna hak hk;split at hc
   case h_2=>cases hc
   rename_i es ck ro hl
   cases hm with
   | same ha=>simp[atom]at ha
   | @map _ e he=>
    obtain⟨e',he',o',ho',hO⟩:=hR.obj n _ hl;obtain rfl:=Option.some.inj (he.symm.trans he')
    cases o' with
    | map es' c'=>
     have hE:EntsR P r es es'.toList:=⟨by simpa using hO.2.1,λi x y a b=>hO.2.2 i x y a (by simpa using b)⟩;split at hc
     ·rename_i j v hf
      cases hc
      obtain⟨q',hq,hr⟩:=Zcqf hE hf
      cases q' with
      | none=>exact hr.elim
      | some p=>
       obtain⟨j',v'⟩:=p;refine⟨_,Zcto hr.2,λw1 hw1=>?_⟩;have hw:=(hw1 n _ rfl he).trans ho';simp only[Instr.lookup,Sem.run_bind,run_underlying hu,Result.andThen_ok,getObj,Sem.run,hw,Zcok hkd hok,Instr.findKey,run_underlying hkd]
       cases ok<;>simp[Zctn,hq]
     ·rename_i hf
      split at hc
      case h_2=>cases hc
      rename_i z hz
      cases hc
      obtain⟨q',hq,hr⟩:=Zcqf hE hf
      cases q' with
      | some p=>exact hr.elim
      | none=>
       refine⟨_,Zcto (Zcql 4 (Zcwi hz)),λw1 hw1=>?_⟩;have hw:=(hw1 n _ rfl he).trans ho';simp only[Instr.lookup,Sem.run_bind,run_underlying hu,Result.andThen_ok,getObj,Sem.run,hw,Zcok hkd hok,Instr.findKey,run_underlying hkd]
       cases ok<;>simp[Zctn,hq,Zcwj hz]
     ·cases hc
    | _=>exact hO.elim
 ·cases hf:(flat 2 m&&flat 2 k)with
  | false=>rw[hf]at hc;cases hc
  | true=>
   rw[hf]at hc;simp only[Bool.and_eq_true]at hf;obtain rfl:=Zcqk 2 hf.1 hm;obtain rfl:=Zcqk 2 hf.2 hk;exact Zcqg hc
def Zcmi (P:Program) (r:Ren) (xs ys:List (Nat×Value)):Prop:=xs.length=ys.length/\∀(i:Nat) x y,xs[i]? =some x->ys[i]? =some y->x.1=y.1/\ValR (Zp P) r x.2 y.2
def ArrR (P:Program) (r:Ren) (xs ys:Array Value):Prop:=xs.size=ys.size/\∀(i:Nat) x y,xs[i]? =some x->ys[i]? =some y->ValR (Zp P) r x y
theorem ValR.cells {v v':Value} (hv:ValR (Zp P) r v v'):ArrR P r v.cells v'.cells:=by
 have one:∀ {a b:Value},ValR (Zp P) r a b->ArrR P r #[a] #[b]:=λhab=>⟨rfl,λi x y hx hy=>by
  cases i with
  | zero=>simp at hx hy;subst hx;subst hy;exact hab
  | succ i=>simp at hx⟩
 cases hv with
 | same ha=>cases v<;>first|exact one (.same ha)|(simp[atom]at ha;done)
 | ptr he=>exact one (.ptr he)
 | slice a b c d=>exact one (.slice a b c d)
 | void a b c=>exact one (.void a b c)
 | map he=>exact one (.map he)
 | yield he=>exact one (.yield he)
 | func a b c d=>exact one (.func a b c d)
 | iface a=>exact one (.iface a)
 | agg a b=>exact⟨a,b⟩
 | tuple a b=>exact one (.tuple a b)
theorem Zcqo {off:Nat}:∀ {us vs:List Value} {xs ys:Array Value} {j:Nat},ValsR (Zp P) r us vs->ArrR P r xs ys->
  ArrR P r ((us.zipIdx j).foldl (λcs (p:Value×Nat)=>cs.setIfInBounds (off+p.2) p.1) xs) ((vs.zipIdx j).foldl (λcs (p:Value×Nat)=>cs.setIfInBounds (off+p.2) p.1) ys):=by
 intro us
 induction us with
 | nil=>intro vs xs ys j hs hx;cases vs with
  | nil=>exact hx
  | cons _ _=>have:=hs.1;simp at this
 | cons u us ih=>
  intro vs xs ys j hs hx;obtain⟨v,vs',rfl,h1,h2⟩:=hs.head;simp only[List.zipIdx_cons,List.foldl_cons];refine ih h2 ⟨by simp[hx.1],λi a b ha hb=>?_⟩;rw[Array.getElem?_setIfInBounds]at ha hb;split at ha
  ·rename_i hij
   rw[if_pos hij]at hb;split at ha
   ·split at hb
    ·cases ha;cases hb;exact h1
    ·cases hb
   ·cases ha
  ·rename_i hij
   rw[if_neg hij]at hb;exact hx.2 i a b ha hb
theorem Zcqd {pl:Nat->Option (Nat×Nat)}:∀ {ps qs:List (Nat×Value)} {xs ys zs:Array Value},Zcmi P r ps qs->ArrR P r xs ys->Instr.fill pl xs ps=some zs->
  ∃zs',Instr.fill pl ys qs=some zs'/\ArrR P r zs zs':=by
 intro ps
 induction ps with
 | nil=>intro qs xs ys zs hp hx hc;cases qs with
  | nil=>cases hc;exact⟨ys,rfl,hx⟩
  | cons _ _=>have:=hp.1;simp at this
 | cons p ps ih=>
  intro qs xs ys zs hp hx hc
  cases qs with
  | nil=>have:=hp.1;simp at this
  | cons q qs=>
   obtain⟨i,v⟩:=p;obtain⟨i',v'⟩:=q;obtain⟨h1,h2⟩:=hp.2 0 _ _ rfl rfl
   dsimp only at h1 h2
   subst h1;have hp':Zcmi P r ps qs:=⟨by have:=hp.1;simpa using this,λi x y a b=>hp.2 (i+1) x y (by simpa using a) (by simpa using b)⟩;simp only[Instr.fill]at hc⊢;split at hc
   ·cases hc
   ·rename_i off size hpl
    have hcell:=h2.cells;split at hc
    ·cases hc
    ·rename_i hif
     rw[<-hcell.1,<-hx.1,if_neg hif];refine ih hp' ?_ hc;have:=Zcqo (off:=off) (j:=0) (us:=v.cells.toList) (vs:=v'.cells.toList) ⟨by simpa using hcell.1,λi x y a b=>hcell.2 i x y (by simpa using a) (by simpa using b)⟩ hx;have e:∀(us0:Array Value) (cs:Array Value),Array.foldl (λcs (x:Value×Nat)=>cs.setIfInBounds (off+x.2) x.1) cs us0.zipIdx=(us0.toList.zipIdx 0).foldl (λcs (p:Value×Nat)=>cs.setIfInBounds (off+p.2) p.1) cs:=by
      intro us0 cs;rw[<-Array.foldl_toList];simp
     rw[<-e,<-e]at this;exact this
def Zcnu (P:Program) (t:TypeId) (ps:List (Nat×Value)):Res:=
 match Zcwh P t with
 | some z=>match P.underlying t with
  | some (.struct fs)=>match Zcua P (fs.mapM λf=>do pure (f.offset,<-sizeOf f.type):Sem (Array (Nat×Nat)))with
   | some pl=>match Instr.fill (λi=>pl[i]?) z.cells ps with
    | some cs=>some (none,.agg cs)
    | none=>none
   | none=>none
  | _=>none
 | none=>none
theorem Zcnv {t:TypeId} {ps qs:List (Nat×Value)} (hp:Zcmi P r ps qs) {rd x} (hc:Zcnu P t ps=some (rd,x)):PS P (Zp P) r w rd x (Instr.build t qs.toArray):=by
 unfold Zcnu at hc;split at hc
 case h_2=>cases hc
 rename_i z hz
 split at hc
 case h_2=>cases hc
 rename_i fs hu
 split at hc
 case h_2=>cases hc
 rename_i pl hpl
 split at hc
 case h_2=>cases hc
 rename_i cs hf
 cases hc
 obtain⟨cs',h1,h2⟩:=Zcqd hp (Zcql 4 (Zcwi hz)).cells hf;refine .of _ (.agg h2.1 h2.2) (λw1=>?_);have h3:=Zcub hpl;simp only[Instr.build,Sem.run_bind,Zcwj hz,Result.andThen_ok,run_underlying hu];rw[h3];simp only[Result.andThen_ok];rw[h1];rfl
end Go.Proofs.YtokogjhcidkckaaGreatDoor.Exe
