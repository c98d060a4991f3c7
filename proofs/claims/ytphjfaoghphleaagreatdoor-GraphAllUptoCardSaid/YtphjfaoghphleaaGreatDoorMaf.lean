import Derived.Test.YtphjfaoghphleaaGreatDoorMae
namespace Go.Proofs.YtphjfaoghphleaaGreatDoor
namespace Exe
section
open Go
variable {P:Program} {G:Nat} {r:Ren} {h:Hp} {w:World}
def plainName (fn:Func):Prop:=(fn.name == "runtime.NumGoroutine")=false
def Zcmj (P:Program):Prop:=∀(f:FuncId) fn c,P.funcs[f]? =some fn->fn.body=some c->plainName fn
def Zcqx (P:Program) (f:FuncId):Bool:=match P.funcs[f]? with
 | some fn=>match fn.body with
  | some _=>true
  | none=>false
 | none=>false
theorem Zcuq {f:FuncId} {g:Func} {c:Code} (j:Zcmj P) (e:P.funcs[f]? =some g) (i:g.body=some c) (d:Array Value) (w:World):(callFunc f d).run P w = .ok (.enter f d) w:=by
 have a:=j f g c e i;unfold plainName at a;have b:¬g.name = "runtime.NumGoroutine" :=by simpa using a
 simp[callFunc,program,Sem.run,e,b,i]
theorem Zcqy {f:FuncId} (e:Zcmj P) (b:Zcqx P f=true) (a:Array Value) (w:World):(callFunc f a).run P w = .ok (.enter f a) w:=by
 unfold Zcqx at b;split at b
 ·rename_i i d
  split at b
  ·rename_i c g;exact Zcuq e d g a w
  ·cases b
 ·cases b
def endX (e:Env) (k1:Nat) (h1:Hp) (nm:Nat):Option CO->Option (Option Code×St)
 | some (.loop .ready pend _ _ _ _ false)=>some (pend,⟨e,k1,del h1 nm⟩)
 | some (.loop .done pend _ _ _ _ false)=>some (pend,⟨e,k1,del h1 nm⟩)
 | _=>none
theorem Zcpd {e:Env} {f:Nat} {d:Hp} {nm:Nat} {o:Option CO} {pend s1} (b:endX e f d nm o=some (pend,s1)):
  ∃st g ps c a,o=some (.loop st pend g ps c a false)/\st≠.busy/\s1=⟨e,f,del d nm⟩:=by
 unfold endX at b;split at b
 ·cases b;exact⟨_,_,_,_,_,rfl,by simp,rfl⟩
 ·cases b;exact⟨_,_,_,_,_,rfl,by simp,rfl⟩
 ·cases b
def Zcud (P:Program) (G:Nat) (K:KF) (g:Operand) (ps:Array Tmp) (asg body:Code) (s:St):Option (Option Code×St):=match evC G s.e.t g with
 | some (.func (.func f) fs cs)=>bif Zcqx P f then
   match K (.fn f) (fs.toList ++ [.func (.yield (2*s.k)) #[] #[]]++cs.toList) (s.k+1) ((2*s.k,.loop .ready none s.e ps asg body false)::s.h)with
   | some (_,k1,h1)=>endX s.e k1 h1 (2*s.k) (look h1 (2*s.k))
   | none=>none
  else none
 | _=>none
def Zctr (F:Fence) (P:Program) (Q:Exit->Act->World->Prop) (a:Act) (w:World):Option Code->Prop
 | none=>Q .normal a w
 | some c=>c.wpIn F 0 P Q a w
theorem Zcsf {N:Nat->Prop} {Z:TypeId->Nat} (f:Rep N Z G r h w) {n:Nat} {e:Ent} (g:r n=some e) {st pend en ps asg body ro} (i:look h n=some (.loop st pend en ps asg body ro)):
  ∃L:Loop,w.heap[e.b]? =some (.loop L)/\(L.state=st/\L.pending=pend/\L.params=ps/\L.assign=asg/\L.body=body)/\L.tmps.size=en.n/\en.n<16000000/\∀k,ValR Z r (en.t.get k) (L.tmps.getD k undef):=by
 obtain⟨l,a,j,c,d⟩:=f.obj n _ i;rw[g]at a;cases a
 cases j with
 | loop L=>exact⟨L,c,d⟩
 | _=>exact d.elim
theorem Zcsg {N:Nat->Prop} {Z:TypeId->Nat} (c:Rep N Z G r h w) {n:Nat} {e:Ent} (d:r n=some e) {o1:CO} {st pend en ps asg body} (i:look h n=some (.loop st pend en ps asg body false)) {o1':Obj} (a:o1.ro=false) (f:ObjR Z r n e o1 o1'):
  Rep N Z G r (upd h n o1) (w.putObj e.b o1')/\Nx r h w r (upd h n o1) (w.putObj e.b o1'):=
 c.write (n:=n) i rfl a d (World.putObj_heap_same (c.low _ _ d)) (λ_ g=>World.putObj_heap_other g) World.putObj_size f rfl rfl rfl
theorem Zcue {F:Fence} (hF:FF F) (ag:F.round=none) {K:KF} (hK:KS P G K) (hN:Zcmj P) {g ps asg body} {s Y:St} {a:Act} {d:Option Code} (hS:SR P G r s a w) (m:Zcud P G K g ps asg body s=some (d,Y)) {Q:Exit->Act->World->Prop}
  (hQ:∀X w1 b,Nx r s.h w X Y.h w1->SR P G X Y { a with defers:=[mark b]++a.defers } w1->MS w X Y.h w1 [b]->Zctr F P Q { a with defers:=[mark b]++a.defers } w1 d):(Code.rangeFunc g ps asg body).wpIn F 0 P Q a w:=by
 obtain⟨hR,D⟩:=hS;unfold Zcud at m;split at m
 case h_2=>cases m
 rename_i f fs Z hg
 cases C:Zcqx P f with
 | false=>rw[C]at m;cases m
 | true=>
  rw[C]at m;simp only[cond_true]at m;split at m
  case h_2=>cases m
  rename_i v k1 h1 hk
  obtain⟨st,en,V,x,i,O,ah,rfl⟩:=Zcpd m;have hv:=Zcpi hR D hg;refine wpIn_rangeFunc λfn _=>?_
  obtain⟨aa,E⟩:=hR.bump (.deferred (some []));have ae:=hR.mk_bump;obtain⟨A,j⟩:=aa.alloc (k:=s.k) (nm:=2*s.k) (S:=0) (t:=0) (o:= .loop .ready none s.e ps asg body false)
   (o':= .loop { state:= .ready,pending:=none,fn:=fn,tmps:=a.tmps,params:=ps,assign:=asg,body:=body,defers:=w.heap.size }) (by omega) (by omega) ⟨⟨rfl,rfl,rfl,rfl,rfl⟩,D.1,D.2.1,D.2.2⟩
  have U:(w.alloc (.deferred (some []))).heap.size=w.heap.size+1:=by show(w.heap.push _).size=_;simp
  rw[U]at A j;generalize hrA:set1 r (2*s.k) ⟨w.heap.size+1,0,0,0⟩=rA at A j;have T:rA (2*s.k)=some ⟨w.heap.size+1,0,0,0⟩:=by rw[<-hrA];simp[set1]
  have al:∀gv,ValR (Zp P) r (.func (.func f) fs Z) gv->gv=a.eval g->∃p zs:Array Value,a.eval g = .func (.func f) p zs/\ValsR (Zp P) r fs.toList p.toList/\ValsR (Zp P) r Z.toList zs.toList:=by
   intro gv ad he
   cases ad with
   | same ha=>simp[atom]at ha
   | @func _ _ p _ zs a1 a2 a3 a4=>exact⟨p,zs,he.symm,ArrR.list (P:=P) ⟨a1,a2⟩,ArrR.list (P:=P) ⟨a3,a4⟩⟩
  obtain⟨p,zs,ac,aj,ak⟩:=al _ hv rfl;have hx:=E.ext.trans j.ext;have ai:ValsR (Zp P) rA (fs.toList ++ [.func (.yield (2*s.k)) #[] #[]]++Z.toList) (p.toList ++ [.func (.yield (w.heap.size+1)) #[] #[]]++zs.toList):=
   ((aj.mono hx).append (.cons (.yield T) .nil)).append (ak.mono hx)
  have B:=hK _ _ _ _ _ _ _ hk rA _ _ A ai;have y:=Zcqy hN C (p.toList ++ [Value.func (.yield (w.heap.size+1)) #[] #[]]++zs.toList).toArray ((w.alloc (.deferred (some []))).alloc (.loop { state:= .ready,pending:=none,fn:=fn,tmps:=a.tmps,params:=ps,assign:=asg,body:=body,defers:=w.heap.size }));have u:=B.resolve_left (by rintro⟨X,v',w1,q,_⟩;rw[y]at q;cases q);refine⟨w.heap.size+1,[mark w.heap.size],_,⟨.fn (.func f) zs,p ++ #[Value.func (.yield (w.heap.size+1)) #[] #[]]⟩,((w.alloc (.deferred (some []))).alloc (.loop { state:= .ready,pending:=none,fn:=fn,tmps:=a.tmps,params:=ps,assign:=asg,body:=body,defers:=w.heap.size })),f,_,_,by rw[ag];exact run_enterLoop_outer ..,?_,λf' _=>hF.fn f',?_,λhx=>(by rw[hF.depth]at hx;cases hx),(hF.lift u.2).mono ?_⟩
  ·simp only[resolve,ac,List.map_toArray,List.map];rfl
  ·have:(p.toList ++ [Value.func (.yield (w.heap.size+1)) #[] #[]]++zs.toList).toArray=p ++ #[Value.func (.yield (w.heap.size+1)) #[] #[]]++zs:=by apply Array.ext';simp
   simp only[invoke];rw[<-this];exact y
  ·rintro e w3 ⟨r3,v',rfl,z,J,_⟩
   have M:=z.ext _ _ T;obtain⟨L,hL,⟨l1,l2,l3,l4,l5⟩,l6,l7,l8⟩:=Zcsf J M O;obtain⟨ab,H⟩:=Zcsg J M (o1:= .loop .exhausted d en V x i false) (o1':= .loop { L with state:= .exhausted }) O rfl ⟨⟨rfl,l2,l3,l4,l5⟩,l6,l7,l8⟩;have l:∀n o,look (del h1 (2*s.k)) n=some o->look (upd h1 (2*s.k) (.loop .exhausted d en V x i false)) n=some o:=by
    intro n o W;rw[Zcrw]at W;rw[Zcsc];split at W
    ·cases W
    ·rename_i af;rw[if_neg af];exact W
   have I:=(((E.trans j).trans z).trans H).trans (Nx.sub r3 _ l);have R:=(((ae.nx j).nx z).nx H).nx (Nx.sub r3 _ l);have:=hQ r3 _ w.heap.size I ⟨ab.sub l,D.mono I.ext⟩ ⟨by simp,λb C=>by simp at C;subst C;exact⟨Nat.le_refl _,R⟩⟩;refine⟨d,_,by rw[<-l2];exact run_endLoop hL (by rw[l1];exact ah),?_⟩
   cases d with
   | none=>exact this
   | some c=>exact this
end
section
open Go
variable {P:Program} {G:Nat} {r:Ren} {h:Hp} {w:World}
abbrev RF:=Array Oper->St->Option St
def RS (P:Program) (G:Nat) (D:RF):Prop:=∀(F:Fence),FF F->∀ops s s1,D ops s=some s1->∀(id:Nat) (r:Ren) (a:Act) (w:World),SR P G r s a w->
 (Code.region id ops true).wpIn F 0 P (QN λa1 w1=>a1.defers=a.defers/\∃r1,Nx r s.h w r1 s1.h w1/\SR P G r1 s1 a1 w1) a w
def Zcol (P:Program) (G:Nat) (K:KF) (D:RF) (top:Bool):Nat->Code->St->Option (Exit×St)
 | 0,_,_=>none
 | n+1,c,s=>match c with
  | .skip=>some (.normal,s)
  | .label _=>some (.normal,s)
  | .ret=>some (.ret,s)
  | .exit i=>some (.exit i,s)
  | .seq x y=>match Zcol P G K D top n x s with
   | some (.normal,s1)=>Zcol P G K D top n y s1
   | q=>q
  | .cond x t e=>match evC G s.e.t x with
   | some (.bool true)=>Zcol P G K D top n t s
   | some (.bool false)=>Zcol P G K D top n e s
   | _=>none
  | .block id body=>match Zcol P G K D top n body s with
   | some (.exit i,s1)=>bif Nat.beq i id then some (.normal,s1)else some (.exit i,s1)
   | q=>q
  | .loop body=>match Zcol P G K D top n body s with
   | some (.normal,s1)=>Zcol P G K D top n (.loop body) s1
   | q=>q
  | .region _ ops true=>match D ops s with
   | some s1=>some (.normal,s1)
   | none=>none
  | .region _ ops false=>bif noDS ops then match regL P G K ops ops.toList s with
   | some s1=>some (.normal,s1)
   | none=>none else none
  | .rangeFunc g ps asg body=>bif top then match Zcud P G K g ps asg body s with
   | some (none,s1)=>some (.normal,s1)
   | some (some c,s1)=>Zcol P G K D top n c s1
   | none=>none else none
  | _=>none
def PX (P:Program) (G:Nat) (r:Ren) (s:St) (a:Act) (w:World) (x:Exit) (s1:St):Exit->Act->World->Prop:=
 λy a1 w1=>y=x/\∃bs r1,a1.defers=bs.map mark++a.defers/\Nx r s.h w r1 s1.h w1/\SR P G r1 s1 a1 w1/\MS w r1 s1.h w1 bs
theorem PX.of {r c:Ren} {s d:St} {a b:Act} {w w1:World} {x:Exit} (f:b.defers=a.defers) (g:Nx r s.h w c d.h w1) (e:SR P G c d b w1):PX P G r s a w x d x b w1:=
 ⟨rfl,[],c,f,g,e,MS.nil⟩
theorem PX.trans {r c:Ren} {s d j:St} {a f:Act} {w w1:World} {y:Exit} {bs:List Nat} (l:f.defers=bs.map mark++a.defers) (g:Nx r s.h w c d.h w1) (m:MS w c d.h w1 bs):∀e b w2,PX P G c d f w1 y j e b w2->PX P G r s a w y j e b w2:=
 λe b w2 ⟨n,k,t,o,i,p,q⟩=>⟨n,k++bs,t,by rw[o,l];simp,g.trans i,p,m.append g.size i q⟩
theorem Zcun {F:Fence} {c:Code} {Q b:Exit->Act->World->Prop} (d:∀e a w,Q e a w->b e a w):∀(m:Nat) (a:Act) (w:World),Code.roundsIn F 0 P c Q m a w->Code.roundsIn F 0 P c b m a w
 | 0,_,_,h=>h
 | m+1,_,_,h=>wpIn_mono h λe a w q=>by
  cases e<;>first|exact Zcun d m _ _ q|exact d _ _ _ q
theorem Zcom {F:Fence} (O:FF F) {K:KF} (T:KS P G K) (W:Zcmj P) {D:RF} (Z:RS P G D) {H:Bool} (X:H=true->F.round=none):∀(n:Nat) (c:Code) (s:St) (x:Exit) (E:St),Zcol P G K D H n c s=some (x,E)->∀(r:Ren) (a:Act) (w:World),SR P G r s a w->
  c.wpIn F 0 P (PX P G r s a w x E) a w/\∀f,c = .loop f->Code.roundsIn F 0 P f (PX P G r s a w x E) n a w:=by
 intro n
 induction n with
 | zero=>intro c s x E d;cases d
 | succ n u=>
  intro c s x E d r a w k;have l:PX P G r s a w x s x a w:=PX.of rfl (Nx.refl _ _ _) k;unfold Zcol at d;split at d
  ·cases d;exact⟨wpIn_skip l,λb e=>by cases e⟩
  ·cases d;exact⟨wpIn_label l,λb e=>by cases e⟩
  ·cases d;exact⟨wpIn_ret l,λb e=>by cases e⟩
  ·cases d;exact⟨wpIn_exit l,λb e=>by cases e⟩
  ·rename_i c1 c2
   refine⟨?_,λb e=>by cases e⟩;refine wpIn_seq ?_;split at d
   ·rename_i I m
    refine wpIn_mono (u _ _ _ _ m r a w k).1 ?_;rintro e A o ⟨rfl,bs,C,B,y,z,V⟩;exact wpIn_mono (u _ _ _ _ d C A o z).1 (PX.trans B y V)
   ·rename_i p
    refine wpIn_mono (u _ _ _ _ d r a w k).1 ?_;rintro e A o ⟨rfl,q⟩
    cases e<;>first|exact⟨rfl,q⟩|exact absurd d (p _)
  ·rename_i xx t e0
   refine⟨?_,λb e=>by cases e⟩;have J:=λv hv=>Zcpi (x:=xx) (v:=v) k.1 k.2 hv
   split at d
   ·rename_i hx
    exact wpIn_cond_true (Zcna rfl (J _ hx)) (u _ _ _ _ d r a w k).1
   ·rename_i hx
    exact wpIn_cond_false (Zcna rfl (J _ hx)) (u _ _ _ _ d r a w k).1
   ·cases d
  ·rename_i S f
   refine⟨?_,λb e=>by cases e⟩;refine wpIn_block ?_;split at d
   ·rename_i i I m
    refine wpIn_mono (u _ _ _ _ m r a w k).1 ?_;rintro e A o ⟨rfl,q⟩
    cases R:Nat.beq i S with
    | true=>rw[R]at d;cases d;simp only[Exit.inBlock,Zcnc.1 R,if_true];exact⟨rfl,q⟩
    | false=>rw[R]at d;cases d;simp only[Exit.inBlock,if_neg (Zcnd.1 R)];exact⟨rfl,q⟩
   ·rename_i p
    refine wpIn_mono (u _ _ _ _ d r a w k).1 ?_;rintro e A o ⟨rfl,q⟩
    cases e<;>first|exact⟨rfl,q⟩|exact absurd d (p _ _)
  ·rename_i f
   have L:Code.roundsIn F 0 P f (PX P G r s a w x E) (n+1) a w:=by
    rw[roundsIn_succ];split at d
    ·rename_i I m
     refine wpIn_mono (u _ _ _ _ m r a w k).1 ?_;rintro e A o ⟨rfl,bs,C,B,y,z,V⟩;have:=(u _ _ _ _ d C A o z).2 f rfl;exact Zcun (PX.trans B y V) _ _ _ this
    ·rename_i p
     refine wpIn_mono (u _ _ _ _ d r a w k).1 ?_;rintro e A o ⟨rfl,q⟩
     cases e<;>first|exact⟨rfl,q⟩|exact absurd d (p _)
   exact⟨wpIn_loop_rounds _ L,λb e=>by cases e;exact L⟩
  ·rename_i S M
   refine⟨?_,λb e=>by cases e⟩;split at d
   case h_2=>cases d
   rename_i I m
   cases d
   exact wpIn_mono (Z F O _ _ _ m S r a w k) (λe A o q=>q.1▸let ⟨C,y,z⟩:=q.2.2;PX.of q.2.1 y z)
  ·rename_i S M
   refine⟨?_,λb e=>by cases e⟩
   cases U:noDS M with
   | false=>rw[U]at d;cases d
   | true=>
    rw[U]at d;simp only[cond_true]at d;split at d
    case h_2=>cases d
    rename_i I m
    cases d
    refine wpIn_region ?_;have:=Zcug (Q:=PX P G r s a w .normal E) O T U (pre:=[]) (by simp) k m (λC A o B y z=>PX.of B y z);rw[List.range_eq_range'];simpa using this
  ·rename_i g ps Y f
   refine⟨?_,λb e=>by cases e⟩
   cases j:H with
   | false=>rw[j]at d;cases d
   | true=>
    rw[j]at d;simp only[cond_true]at d;split at d
    case h_3=>cases d
    ·rename_i I m
     cases d
     exact Zcue O (X j) T W k m λC o b B y z=>⟨rfl,[b],C,rfl,B,y,z⟩
    ·rename_i c I m
     refine Zcue O (X j) T W k m λC o b B y z=>?_
     refine wpIn_mono (u _ _ _ _ (by rw[j];exact d) C _ o y).1 (PX.trans (bs:=[b]) rfl B z)
  ·cases d
end
section
open Go
variable {P:Program} {G:Nat} {r:Ren} {h:Hp} {w:World}
def Zczq (P:Program) (k:Nat) (ev:Ev) (o:Op):Option (Value×CO):=match o with
 | .alloc t=>match Zcwh P t with
  | some z=>some (.pointer (some ⟨2*k,0,none⟩),.cells z.cells.toList t 0 false)
  | none=>none
 | .buildSlice t n ps=>match evP ev ps.toList with
  | some vs=>match Zcvg P k [] t n vs with
   | some (some v,(_,c)::_)=>some (v,c)
   | _=>none
  | none=>none
 | _=>none
def Zcwn (P:Program) (r:Ren) (k:Nat) (v:Value) (c:CO) (s:Sem Next):Prop:=
 ∃(S:Nat) (t:TypeId) (o':Obj) (val:Nat->Value),(∀b,ObjR (Zp P) r (2*k) ⟨b,0,S,t⟩ c o')/\(∀b,ValR (Zp P) (set1 r (2*k) ⟨b,0,S,t⟩) v (val b))/\∀w:World,s.run P w = .ok (.value (val w.heap.size)) (w.alloc o')
theorem Zdiv {k:Nat} {t:TypeId} {len:Nat} {ps C:List (Nat×Value)} (J:Zcmi P r ps C) {v:Value} {n:Nat} {c:CO} {s:Hp} (f:Zcvg P k [] t len ps=some (some v,(n,c)::s)):
  Zcwn P r k v c (do pure (.value (<-Instr.buildSlice t len C.toArray))):=by
 unfold Zcvg at f;split at f
 case h_2=>cases f
 rename_i y K
 split at f
 case h_2=>cases f
 rename_i z L
 cases o:Nat.ble (len*z) 100000 with
 | false=>rw[o]at f;cases f
 | true=>
  rw[o]at f;simp only[cond_true]at f;have I:=Nat.le_of_ble_eq_true o;split at f
  case h_2=>cases f
  rename_i x d
  split at f
  case h_2=>cases f
  rename_i M E
  cases f
  have m:ArrR P r ((Array.range (len*z)).map (x[· % x.size]!)) ((Array.range (len*z)).map (x[· % x.size]!)):=by
   refine⟨rfl,λi a b g o=>?_⟩;obtain rfl:=Option.some.inj (g.symm.trans o)
   cases l:Nat.beq (len*z) 0 with
   | true=>
    have:=Zcnc.1 l;rw[this]at g;simp at g
   | false=>
    rw[l]at d;simp only[cond_false]at d;split at d
    ·rename_i v A
     cases d
     have B:=(Zcql (Z:=Zp P) (r:=r) 4 (Zcwi A)).cells;have H:i<len*z:=by
      have:=(Array.getElem?_eq_some_iff.1 g).1;simpa using this
     simp[H]at g
     by_cases u:i % v.cells.size<v.cells.size
     ·rw[getElem!_pos v.cells _ u]at g
      subst g;exact B.2 (i % v.cells.size) _ _ (by simp[u]) (by simp[u])
     ·rw[getElem!_neg v.cells _ u]at g
      subst g;exact .same rfl
    ·cases d
  obtain⟨j,s,D⟩:=Zcqd J m E;refine⟨j.size,y,.cells j y (0,0),λb=> .slice (some ⟨b,0,none⟩) len len,λb=>Zcst D.list,λb=>?_,λw=>?_⟩
  ·refine .slice (e:=⟨b,0,j.size,y⟩) (by simp[set1]) (Nat.le_refl _) (λ_=>rfl) (λq=>?_)
   have:exN (2*k)=true:=by simp[exN]
   rw[this]at q;cases q
  ·have p:¬(len*z>2^24):=by omega
   simp only[Instr.buildSlice,Sem.run_bind,run_underlying K,Result.andThen_ok,Zcvp L,if_neg p]
   by_cases l:len*z=0
   ·rw[show Nat.beq (len*z) 0=true from Zcnc.2 l]at d
    cases d
    rw[if_pos l];simp only[Sem.run_bind,Sem.run_pure,Result.andThen_ok,s,Zcus]
   ·rw[show Nat.beq (len*z) 0=false from Zcnd.2 l]at d
    simp only[cond_false]at d;split at d
    ·rename_i v A
     cases d
     rw[if_neg l];simp only[Sem.run_bind,Zcwj A,Sem.run_pure,Result.andThen_ok,s,Zcus]
    ·cases d
theorem Zczr {k:Nat} {l:Ev} {f:Operand->Value} (y:EvR P r l f) {o:Oper} {v:Value} {c:CO} (a:Zczq P k l o.op=some (v,c)):Zcwn P r k v c (execOp f o):=by
 obtain⟨s,D,H,A,d,g⟩:=o
 dsimp only at a
 unfold Zczq at a;split at a
 ·rename_i t
  split at a
  case h_2=>cases a
  rename_i z m
  cases a
  have i:=(Zcql (Z:=Zp P) (r:=r) 4 (Zcwi m)).cells.list;refine⟨z.cells.size,t,.cells z.cells t (0,0),λb=> .pointer (some ⟨b,0,none⟩),λb=>Zcst i,λb=> .ptr (e:=⟨b,0,z.cells.size,t⟩) (by simp[set1]),λw=>?_⟩;show Sem.run P (do pure (Next.value (<-Instr.alloc t true (.tuple #[]))):Sem Next) w=_;simp[Instr.alloc,Zcwj m,Zcut]
 ·rename_i t n q
  split at a
  case h_2=>cases a
  rename_i J j
  split at a
  case h_2=>cases a
  rename_i I C B E u
  cases a
  have:=Zdiv (Zcpl y j) u;have e:(q.toList.map λp=>(p.1,f p.2)).toArray=q.map λx=>(x.1,f x.2):=by apply Array.ext';simp
  rw[e]at this;exact this
 ·cases a
theorem Rep.name {Z:TypeId->Nat} {k:Nat} (j:Rep (Zcmd k) Z G r h w) {nm b S:Nat} {t:TypeId} {o:CO} {o':Obj} (C:2*k<=nm) (L:nm<2*(k+1)) (E:b<w.heap.size) (u:¬Live r h b) (I:w.heap[b]? =some o')
  (D:ObjR Z r nm ⟨b,0,S,t⟩ o o'):Rep (Zcmd (k+1)) Z G (set1 r nm ⟨b,0,S,t⟩) ((nm,o)::h) w:=by
 have hx:=Zcuy j (n:=nm) C ⟨b,0,S,t⟩;refine⟨λn p v=>?_,λn m p q B A l s a f c=>?_,λn e d=>?_,λn l=>?_,λg H=>?_⟩
 ·rw[Zcrv]at v
  split at v
  ·rename_i e;subst e;cases v
   exact⟨_,by simp[set1],o',I,D.mono hx⟩
  ·obtain⟨e,d,K,z,y⟩:=j.obj n p v
   exact⟨e,hx _ _ d,K,z,y.mono hx⟩
 ·rw[Zcrv]at l s
  unfold set1 at a f;split at l
  ·rename_i x;subst x;simp at a;subst a
   split at s
   ·rename_i i;exact i.symm
   ·rename_i i
    rw[if_neg i]at f;exact absurd ⟨m,q,A,s,f,c.symm⟩ u
  ·rename_i x
   rw[if_neg x]at a;split at s
   ·rename_i i;subst i;simp at f;subst f
    exact absurd ⟨n,p,B,l,a,c⟩ u
   ·rename_i i
    rw[if_neg i]at f;exact j.inj n m p q B A l s a f c
 ·unfold set1 at d
  split at d
  ·cases d;exact E
  ·exact j.low _ _ d
 ·unfold set1
  unfold Zcmd at l;rw[if_neg (by omega)];exact j.new n (by unfold Zcmd;omega)
 ·obtain⟨e,d,c,J⟩:=j.glo g H
  exact⟨e,hx _ _ d,c,J⟩
theorem Nx.name {Z:TypeId->Nat} {r0:Ren} {h0:Hp} {w0:World} {k:Nat} (q:Rep (Zcmd k) Z G r h w) (d:Nx r0 h0 w0 r h w) {nm b S:Nat} {t:TypeId} {o:CO} (m:2*k<=nm) (s:w0.heap.size<=b):
  Nx r0 h0 w0 (set1 r nm ⟨b,0,S,t⟩) ((nm,o)::h) w:=by
 have hx:=Zcuy q (n:=nm) m ⟨b,0,S,t⟩;refine⟨d.ext.trans hx,d.size,d.frame,λc i j=>?_,λc i j=>?_,d.os,d.tape,d.output⟩
 ·obtain⟨n,p,e,g,l,a,rfl⟩:=j
  rw[Zcrv]at g;unfold set1 at a;split at g
  ·rename_i f;subst f;simp at a;subst a;simp only at i;omega
  ·rename_i f;rw[if_neg f]at a
   exact d.own _ i ⟨n,p,e,g,l,a,rfl⟩
 ·obtain⟨n,p,e,g,a,rfl⟩:=j
  rw[Zcrv]at g;unfold set1 at a;split at g
  ·rename_i f;subst f;simp at a;subst a;simp only at i;omega
  ·rename_i f;rw[if_neg f]at a
   exact d.live _ i ⟨n,p,e,g,a,rfl⟩
section
variable {F:Fence} {ops:Array Oper} {R:Act->World->Prop}
def SE (_P:Program) (ops:Array Oper) (oi:Oper) (S0:Sem Next) (a:Act):Prop:=execOp a.eval oi=S0/\Region.wanted oi (yielded ops a.tmps)=true
theorem Zdjy {t:Sem Next} {j:Nat} {oi k:Oper} {v:Value} (D:∀f,F.fn f) (E:ops[j]? =some k) (z:oi.apart ops k=true)
  (o:∀y b,oi.op≠.select y b) (A:∀y b,k.op≠.select y b) (n:∀c,k.op≠.defer c) {K:Act->World->Prop} {a:Act} {w:World}
  (s:SE P ops oi t a) (h:wpOpIn F 0 P ops (QN R) j (λa' w'=>SE P ops oi t a'->K (a'.put oi.dst v) w') a w):
  wpOpIn F 0 P ops (QN R) j K (a.put oi.dst v) w:=by
 obtain⟨C,m,q⟩:=Oper.apart_spec z;have g:∀u,SE P ops oi t (a.put k.dst u):=λu=>
  ⟨(execOp_put oi o a k.dst u q).trans s.1,(wanted_put oi a k.dst u q).trans s.2⟩
 unfold Go.wpOpIn at *;simp only[E]at *;rw[wanted_put k a oi.dst v C];split
 ·rename_i B
  simp only[B,if_true]at h;unfold Oper.wpIn at *;refine⟨λf _=>D f,?_⟩;have h:=h.2;rw[Oper.semAt_eq F.round _ k n]at h;rw[Oper.semAt_eq F.round _ k n,execOp_put k A a oi.dst v C];generalize (execOp a.eval k).run P w=r at *
  cases r with
  | ok x w'=>
   cases x<;>simp only[Oper.uponIn]at h⊢
   case value u=>rw[Act.put_comm a v u m];exact h (g u)
   case skip=>rw[Act.put_comm a v undef m];exact h (g _)
   case defer d=>
    rw[Act.put_defers,Act.put_comm _ v undef m];exact h ⟨(execOp_put oi o _ k.dst _ q).trans s.1,(wanted_put oi _ k.dst _ q).trans s.2⟩
   case enter f args=>
    refine⟨h.1,CallsIn.mono h.2 λe p i=>?_⟩
    cases e with
    | returned u=>dsimp only at i⊢;rw[Act.put_comm a v u m];exact i (g u)
    | panicked c=>exact absurd i.1 (by simp)
    | outgrown=>obtain⟨a',w',i,_⟩:=i;cases i
   case row row args=>exact⟨h.1,RowsIn.mono h.2 λu p i=>by rw[Act.put_comm a v u m];exact i (g u)⟩
   case round l f tmps assign body=>
    refine⟨h.1,RoundIn.mono h.2 λe p i=>?_⟩
    cases e with
    | returned u=>dsimp only at i⊢;rw[Act.put_comm a v u m];exact i (g u)
    | panicked c=>exact absurd i.1 (by simp)
    | outgrown=>obtain⟨a',w',i,_⟩:=i;cases i
  | halt x w'=>
   cases x<;>simp only[Oper.uponIn]at h⊢
   case panic u=>exact absurd h.1 (by simp)
 ·rename_i B
  simp only[B]at h;exact⟨λf _=>D f,by rw[Act.put_comm a v undef m];exact h.2 (g _)⟩
end
end
section
open Go
variable {P:Program} {G:Nat} {r:Ren} {h:Hp} {w:World}
def memB:List Nat->Nat->Bool
 | [],_=>false
 | x::xs,n=>bif Nat.beq x n then true else memB xs n
def CO.setRo (b:Bool):CO->CO
 | .cells cs t hi _=> .cells cs t hi b
 | .map es k _=> .map es k b
 | .loop a c d e f g _=> .loop a c d e f g b
theorem Zcvd (b:Bool) (o:CO):(o.setRo b).ro=b:=by cases o<;>rfl
theorem Zcvc {Z:TypeId->Nat} {n:Nat} {e:Ent} {o:CO} {o':Obj} (b:Bool):ObjR Z r n e (o.setRo b) o'↔ObjR Z r n e o o':=by cases o<;>cases o'<;>exact Iff.rfl
def roMap (b:Bool) (ns:List Nat):Hp->Hp
 | []=>[]
 | (k,o)::h=>(k,bif memB ns k then o.setRo b else o)::roMap b ns h
theorem Zcsa (b:Bool) (ns:List Nat) (h:Hp) (n:Nat):look (roMap b ns h) n=(look h n).map λo=>bif memB ns n then o.setRo b else o:=by
 induction h with
 | nil=>rfl
 | cons p h c=>
  obtain⟨k,o⟩:=p;simp only[roMap,look]
  cases a:Nat.beq k n with
  | true=>simp_all
  | false=>grind
theorem Zcsb {b:Bool} {ns:List Nat} {n:Nat} {o:CO} (a:look (roMap b ns h) n=some o):∃o0,look h n=some o0/\o=bif memB ns n then o0.setRo b else o0:=by
 rw[Zcsa]at a
 cases c:look h n with
 | none=>grind
 | some o0=>grind
theorem Rep.roMap {N:Nat->Prop} {Z:TypeId->Nat} (f:Rep N Z G r h w) (b:Bool) (ns:List Nat):Rep N Z G r (roMap b ns h) w:=by
 refine⟨λn o q=>?_,λn m o p k j a b c d e=>?_,f.low,f.new,f.glo⟩
 ·obtain⟨i,g,rfl⟩:=Zcsb q
  obtain⟨e,v,x,s,u⟩:=f.obj n i g
  cases memB ns n with
  | true=>grind [Zcvc]
  | false=>grind
 ·obtain⟨i,g,_⟩:=Zcsb a
  obtain⟨t,l,_⟩:=Zcsb b;exact f.inj n m i t k j g l c d e
def Zcqp (h:Hp):List Nat->List Nat
 | []=>[]
 | n::ns=>match look h n with
  | some o=>bif o.ro then Zcqp h ns else n::Zcqp h ns
  | none=>Zcqp h ns
def Zcmo (h:Hp):List Nat->Bool
 | []=>true
 | n::ns=>match look h n with
  | some _=>Zcmo h ns
  | none=>false
theorem Zcso {ns:List Nat} {n:Nat}:memB ns n=true↔n∈ns:=by
 induction ns with
 | nil=>simp[memB]
 | cons x b a=>
  simp only[memB]
  cases hx:Nat.beq x n with
  | true=>simp_all
  | false=>grind [Zcnd]
theorem Zcqq {ns:List Nat} {n:Nat}:n∈Zcqp h ns↔n∈ns/\∃o,look h n=some o/\o.ro=false:=by
 induction ns with
 | nil=>simp[Zcqp]
 | cons x b a=>
  simp only[Zcqp]
  grind
theorem Zcmp {ns:List Nat} (a:Zcmo h ns=true):∀n∈ns,∃o,look h n=some o:=by
 induction ns with
 | nil=>grind
 | cons x c b=>
  simp only[Zcmo]at a
  grind
def opRO (P:Program) (G:Nat) (K:KF) (ops:Array Oper) (o:Oper) (ns:List Nat) (s:St):Option St:=
 match Zcqp s.h ns with
 | []=>bif Zcmo s.h ns then opX P G K ops o s else none
 | fs=>bif Zcmo s.h ns then match opX P G K ops o ⟨s.e,s.k,roMap true fs s.h⟩with
  | some s1=>some ⟨s1.e,s1.k,roMap false fs s1.h⟩
  | none=>none else none
theorem Zctk {F:Fence} (hF:FF F) {K:KF} (hK:KS P G K) {ops:Array Oper} {o:Oper} {i:Nat} (hi:ops[i]? =some o) (hd:∀c,o.op≠.defer c) {ns:List Nat} {s s1:St} {a:Act} (y:SR P G r s a w) (u:opRO P G K ops o ns s=some s1) {Q:Exit->Act->World->Prop}:
  wpOpIn F 0 P ops Q i (λl w1=>(∀n∈ns,∀e,r n=some e->w1.heap[e.b]? =w.heap[e.b]?)/\l.defers=a.defers/\∃j,Nx r s.h w j s1.h w1/\SR P G j s1 l w1) a w:=by
 unfold opRO at u;have f:∀ {B:Hp} {j:Ren} {q:Hp} {w1:World},(∀n∈ns,∃o,look B n=some o/\o.ro=true)->(∀n m o p Y R,look B n=some o->look B m=some p->r n=some Y->r m=some R->Y.b=R.b->n=m)->Nx r B w j q w1->
   ∀n∈ns,∀e,r n=some e->w1.heap[e.b]? =w.heap[e.b]?:=by
  intro B j q w1 af aa hN n U e he;refine hN.frame _ (y.1.low _ _ he) ?_;rintro⟨m,p,R,H,hp,ab,A⟩
  grind
 split at u
 ·rename_i hf
  cases L:Zcmo s.h ns with
  | false=>grind
  | true=>
   rw[L]at u;refine wpOpIn_mono ?_ (Zctl hF hK hi hd y u);rintro l w1 ⟨X,j,d,M⟩;refine⟨f (λn U=>?_) y.1.inj d,X,j,d,M⟩;obtain⟨W,ad⟩:=Zcmp L n U
   cases ae:W.ro with
   | true=>grind
   | false=>
    have:n∈Zcqp s.h ns:=by grind [Zcqq]
    grind
 ·rename_i fs ac
  obtain⟨g,E⟩:∃g,g=Zcqp s.h ns:=⟨_,rfl⟩
  cases L:Zcmo s.h ns with
  | false=>grind
  | true=>
   rw[L]at u;rw[<-E]at u;split at u
   case h_2=>grind
   rename_i s2 h2
   cases u
   have C:SR P G r ⟨s.e,s.k,roMap true g s.h⟩ a w:=⟨y.1.roMap true g,y.2⟩;refine wpOpIn_mono ?_ (Zctl hF hK hi hd C h2);rintro l w1 ⟨X,j,d,M⟩;have t:∀b,Own r (roMap true g s.h) b->Own r s.h b:=by
    rintro b ⟨n,W,e,l,v,x,J⟩;obtain⟨I,q,rfl⟩:=Zcsb l
    cases H:memB g n with
    | true=>grind [Zcvd]
    | false=>rw[H]at v;exact⟨n,I,e,q,v,x,J⟩
   refine⟨f (λn U=>?_) C.1.inj d,X,j,⟨d.ext,d.size,λb A V=>d.frame b A (λk=>V (t b k)),λb A S=>?_,λb A S=>?_,d.os,d.tape,d.output⟩,M.1.roMap false g,M.2⟩
   ·grind [Zcmp,Zcsa,Zcvd,Zcqq,Zcso]
   ·obtain⟨n,W,e,O,v,x,J⟩:=S
    obtain⟨I,q,rfl⟩:=Zcsb O
    cases H:memB g n with
    | true=>
     have:=Zcso.1 H;rw[E]at this;obtain⟨_,o3,Z,h4⟩:=Zcqq.1 this;obtain⟨e',D,_⟩:=y.1.obj n o3 Z;have:=d.ext _ _ D;rw[x]at this;cases this;exact⟨n,o3,e,Z,h4,D,J⟩
    | false=>
     rw[H]at v;exact t b (d.own b A ⟨n,I,e,q,v,x,J⟩)
   ·have hL:∀ {r:Ren} {h:Hp} {z:Bool},Live r (roMap z g h) b->Live r h b:=by
     rintro r h z ⟨n,o,e,l,v,x⟩;obtain⟨I,q,_⟩:=Zcsb l;exact⟨n,I,e,q,v,x⟩
    exact hL (d.live b A (hL S))
def Zcvs (P:Program) (G:Nat) (ops:Array Oper) (s:St) (o:Oper):Option (Option Nat×Value):=
 bif Zcvx ops s.e.t o then Zcty P s.h (evC G s.e.t) o.op else some (none,undef)
def Zcjs (ops:Array Oper) (l:Array Bool):List Nat->Option Nat
 | []=>none
 | i::is=>match ops[i]? with
  | some o=>match Zcro o.op with
   | 0=>bif Region.free .any ops l i then some i else Zcjs ops l is
   | _=>Zcjs ops l is
  | none=>none
def oneB:List Nat->Nat->Bool
 | [x],j=>Nat.beq x j
 | _,_=>false
theorem Zdfm {l:List Nat} {j:Nat} (h:oneB l j=true):l = [j]:=by
 unfold oneB at h;split at h
 ·rw[Zcnc.1 h]
 ·cases h
def Zczu (ops:Array Oper) (l:Array Bool) (i j:Nat):Bool:=match ops[i]?,ops[j]? with
 | some oi,some oj=>(match oi.op with | .alloc _=>true | .buildSlice .. =>true|_=>false)&&oi.apart ops oj&&oneB (Region.ready .any ops (l.setIfInBounds i true)) j
 | _,_=>false
def sch (ops:Array Oper):Nat->Option Nat->Array Bool->Option (List (Nat×Nat))
 | 0,none,l=>match Region.ready .any ops l with
  | []=>some []
  | _=>none
 | 0,some _,_=>none
 | f+1,none,l=>match Region.ready .any ops l with
  | []=>some []
  | rs=>match Zcjs ops l rs with
   | some i=>match sch ops f none (l.setIfInBounds i true)with
    | some q=>some ((i,0)::q)
    | none=>none
   | none=>match rs with
    | [j]=>match sch ops f none (l.setIfInBounds j true)with
     | some q=>some ((j,1)::q)
     | none=>none
    | [x,y]=>bif Nat.beq x y then none else bif Zczu ops l x y then match sch ops f (some x) (l.setIfInBounds y true)with
      | some q=>some ((y,x+3)::q)
      | none=>none
     else bif Zczu ops l y x then match sch ops f (some y) (l.setIfInBounds x true)with
      | some q=>some ((x,y+3)::q)
      | none=>none
     else none
    | _=>none
 | f+1,some i,l=>match Region.ready .any ops l with
  | [x]=>bif Nat.beq x i then match sch ops f none (l.setIfInBounds i true)with
    | some q=>some ((i,2)::q)
    | none=>none
   else none
  | [x,y]=>bif Nat.beq x i then bif Zczu ops l i y then match sch ops f (some i) (l.setIfInBounds y true)with
      | some q=>some ((y,i+3)::q)
      | none=>none
     else none
    else bif Nat.beq y i then bif Zczu ops l i x then match sch ops f (some i) (l.setIfInBounds x true)with
      | some q=>some ((x,i+3)::q)
      | none=>none
     else none
    else none
  | _=>none
theorem Zcts {ops:Array Oper} {l:Array Bool}:∀ {is:List Nat} {i},Zcjs ops l is=some i->i∈is/\Region.free .any ops l i=true:=by
 intro is
 induction is with
 | nil=>intro i a;cases a
 | cons j is b=>
  intro i a;simp only[Zcjs]at a
  grind
def Zcml (T:List Nat) (j:Nat):List (Nat×Nat)->List Nat
 | []=>[]
 | (i,n)::g=>bif depB T j i then Zcml T j g else n::Zcml T j g
def actG (T:List Nat) (j:Nat):List (Nat×Nat)->List (Nat×Nat)
 | []=>[]
 | (i,n)::g=>bif depB T j i then actG T j g else(i,n)::actG T j g
def addG (i:Nat):Option Nat->List (Nat×Nat)->List (Nat×Nat)
 | some n,g=>(i,n)::g
 | none,g=>g
def Zczw (P:Program) (G:Nat) (ops:Array Oper) (o:Oper) (s:St):Option St:=
 bif Zcvx ops s.e.t o then match Zczq P s.k (evC G s.e.t) o.op with
  | some (v,c)=>some ⟨s.e.put o.dst v,s.k+1,(2*s.k,c)::s.h⟩
  | none=>none else none
def regS (P:Program) (G:Nat) (K:KF) (ops:Array Oper) (T:List Nat):List (Nat×Nat)->List (Nat×Nat)->St->Option St
 | [],_,s=>some s
 | (i,m)::q,g,s=>match ops[i]? with
  | some o=>match m with
   | 0=>match Zcvs P G ops s o with
    | some (rd,v)=>regS P G K ops T q (addG i rd g) ⟨s.e.put o.dst v,s.k,s.h⟩
    | none=>none
   | 1=>match opRO P G K ops o (Zcml T i g) s with
    | some s1=>regS P G K ops T q (actG T i g) s1
    | none=>none
   | 2=>match Zczw P G ops o s with
    | some s1=>regS P G K ops T q (actG T i g) s1
    | none=>none
   | m+3=>match ops[m]? with
    | some oi=>match Zczw P G ops oi s with
     | some _=>match opRO P G K ops o (Zcml T i g) s with
      | some s1=>regS P G K ops T q (actG T i g) s1
      | none=>none
     | none=>none
    | none=>none
  | none=>none
def GR (r:Ren) (w:World) (g:List (Nat×Nat)) (Gs:Gd):Prop:=∀p∈Gs,p.2 w/\((∀w',p.2 w')\/∃n e,(p.1,n)∈g/\r n=some e/\∀w',w'.heap[e.b]? =w.heap[e.b]? ->p.2 w')
theorem Zcmk {T:List Nat} {j:Nat} {g:List (Nat×Nat)} {p:Nat×Nat}:p∈actG T j g↔p∈g/\depB T j p.1=false:=by
 induction g with
 | nil=>simp[actG]
 | cons q g b=>
  obtain⟨i,n⟩:=q;simp only[actG]
  cases a:depB T j i with
  | true=>
   grind
  | false=>
   grind
theorem Zcmm {T:List Nat} {j:Nat} {g:List (Nat×Nat)} {i n:Nat} (a:(i,n)∈g) (b:depB T j i=false):n∈Zcml T j g:=by
 induction g with
 | nil=>grind
 | cons q g c=>
  simp only[Zcml]
  grind
theorem Zdii (l:Array Bool) (i j:Nat):(l.setIfInBounds i true).setIfInBounds j true=(l.setIfInBounds j true).setIfInBounds i true:=by
 grind
theorem Zdgh {F:Fence} (d:FF F) {ops:Array Oper} {Q:Exit->Act->World->Prop} {K:Act->World->Prop} {i:Nat} {oi:Oper} {a:Act} {w w':World} {v:Value} (hi:ops[i]? =some oi) (e:∀c,oi.op≠.defer c) (g:Region.wanted oi (yielded ops a.tmps)=true)
  (b:(execOp a.eval oi).run P w = .ok (.value v) w') (h:K (a.put oi.dst v) w'):wpOpIn F 0 P ops Q i K a w:=by
 unfold Go.wpOpIn;simp only[hi,g,if_true,Oper.wpIn,Oper.semAt_eq F.round _ oi e,b,Oper.uponIn];exact⟨λf _=>d.fn f,h⟩
theorem Zczv {ops:Array Oper} {l:Array Bool} {i j:Nat} (h:Zczu ops l i j=true):∃oi a,ops[i]? =some oi/\ops[j]? =some a/\oi.apart ops a=true/\Region.ready .any ops (l.setIfInBounds i true) = [j]:=by
 unfold Zczu at h;split at h
 ·rename_i oi a b c
  grind [Zdfm]
 ·grind
theorem Zczy {ops:Array Oper} {o:Oper} {s s1:St} (h:Zczw P G ops o s=some s1):Zcvx ops s.e.t o=true/\∃v c,Zczq P s.k (evC G s.e.t) o.op=some (v,c)/\s1=⟨s.e.put o.dst v,s.k+1,(2*s.k,c)::s.h⟩:=by
 unfold Zczw at h
 cases a:Zcvx ops s.e.t o with
 | false=>grind
 | true=>
  grind
theorem Zdhc {K:KF} {ops:Array Oper} {T:List Nat} {i:Nat} {q g:List (Nat×Nat)} {s s1:St} (h:regS P G K ops T ((i,0)::q) g s=some s1):∃o,ops[i]? =some o/\∃a v,Zcvs P G ops s o=some (a,v)/\regS P G K ops T q (addG i a g) ⟨s.e.put o.dst v,s.k,s.h⟩=some s1:=by
 simp only[regS]at h;split at h
 case h_2=>grind
 grind
theorem Zdhd {K:KF} {ops:Array Oper} {T:List Nat} {i:Nat} {q g:List (Nat×Nat)} {s s1:St} (h:regS P G K ops T ((i,1)::q) g s=some s1):∃o,ops[i]? =some o/\∃a,opRO P G K ops o (Zcml T i g) s=some a/\regS P G K ops T q (actG T i g) a=some s1:=by
 simp only[regS]at h;split at h
 case h_2=>grind
 grind
theorem Zdhe {K:KF} {ops:Array Oper} {T:List Nat} {i:Nat} {q g:List (Nat×Nat)} {s s1:St} (h:regS P G K ops T ((i,2)::q) g s=some s1):∃o,ops[i]? =some o/\∃a,Zczw P G ops o s=some a/\regS P G K ops T q (actG T i g) a=some s1:=by
 simp only[regS]at h;split at h
 case h_2=>grind
 grind
theorem Zdhf {K:KF} {ops:Array Oper} {T:List Nat} {i m:Nat} {q g:List (Nat×Nat)} {s s1:St} (h:regS P G K ops T ((i,m+3)::q) g s=some s1):∃o oi b,ops[i]? =some o/\ops[m]? =some oi/\Zczw P G ops oi s=some b/\∃a,opRO P G K ops o (Zcml T i g) s=some a/\regS P G K ops T q (actG T i g) a=some s1:=by
 simp only[regS]at h;split at h
 case h_2=>grind
 split at h
 case h_2=>grind
 split at h
 case h_2=>grind
 grind
theorem Zczx {ops:Array Oper} {oi:Oper} {s g:St} (h:Zczw P G ops oi s=some g) {a:Act} (d:SR P G r s a w):Region.wanted oi (yielded ops a.tmps)=true/\∃v c,Zczq P s.k (evC G s.e.t) oi.op=some (v,c)/\g=⟨s.e.put oi.dst v,s.k+1,(2*s.k,c)::s.h⟩/\Zcwn P r s.k v c (execOp a.eval oi):=by
 obtain⟨i,v,c,f,j⟩:=Zczy h;have b:EvR P r (evC G s.e.t) a.eval:=λx v l=>Zcpi d.1 d.2 l
 exact⟨by rw[Zcvy d.2,i],v,c,f,j,Zczr b f⟩
section
variable {F:Fence} {K:KF} {ops:Array Oper} {T:List Nat} {s0:St} {r0:Ren} {w0:World} {ds:List Deferred} {s1:St}
abbrev Rfin (P:Program) (G:Nat) (s0:St) (r0:Ren) (w0:World) (ds:List Deferred) (s1:St):Act->World->Prop:=λa1 w1=>a1.defers=ds/\∃r1,Nx r0 s0.h w0 r1 s1.h w1/\SR P G r1 s1 a1 w1
def PN1 (F:Fence) (P:Program) (G:Nat) (ops:Array Oper) (T:List Nat) (s0:St) (r0:Ren) (w0:World) (ds:List Deferred) (s1:St) (f:Nat) (l:Array Bool) (g:List (Nat×Nat)) (s:St):Prop:=
 ∀(r:Ren) (a:Act) (w:World) (Gs:Gd),Cl ops l->SR P G r s a w->a.defers=ds->Nx r0 s0.h w0 r s.h w->GR r w g Gs->wpG F 0 P ops (Rfin P G s0 r0 w0 ds s1) T f Gs l a w
def PE1 (F:Fence) (P:Program) (G:Nat) (ops:Array Oper) (T:List Nat) (s0:St) (r0:Ren) (w0:World) (ds:List Deferred) (s1:St) (i f:Nat) (l:Array Bool) (g:List (Nat×Nat)) (s:St):Prop:=
 ∀(r:Ren) (a:Act) (w wf:World) (Gs:Gd) (oi:Oper) (S0:Sem Next) (v:Value) (b:Nat) (o':Obj),ops[i]? =some oi->Cl ops (l.setIfInBounds i true)->SR P G r s a w->a.defers=ds->Nx r0 s0.h w0 r s.h w->GR r w g Gs->
  (∀p∈Gs,depB T i p.1=false)->w0.heap.size<=b->b<w.heap.size->¬Live r s.h b->w.heap[b]? =some o'->SE P ops oi S0 a->S0.run P wf = .ok (.value v) (wf.alloc o')->wf.heap.size=b->
  wpG F 0 P ops (Rfin P G s0 r0 w0 ds s1) T f Gs (l.setIfInBounds i true) (a.put oi.dst v) w
theorem put_defers (a:Act) (d:Option Tmp) (v:Value):(a.put d v).defers=a.defers:=by cases d<;>rfl
theorem Zcwz {w:World} {o o':Obj} (h:w.alloc o=w.alloc o'):o=o':=by
 have a:(w.alloc o).heap[w.heap.size]? =some o:=by show(w.heap.push o)[_]? =_;simp
 have b:(w.alloc o').heap[w.heap.size]? =some o':=by show(w.heap.push o')[_]? =_;simp
 grind
theorem Zdjh (C:FF F) (E:KS P G K) (I:noDS ops=true) {j:Nat} {o:Oper} (v:ops[j]? =some o) {g:List (Nat×Nat)} {s t:St} (B:opRO P G K ops o (Zcml T j g) s=some t) {r:Ren} {a:Act} {w:World} {k:Gd} (H:SR P G r s a w) (D:GR r w g k) {Q:Exit->Act->World->Prop}:
  wpOpIn F 0 P ops Q j (λm w1=>(∀p∈k,depB T j p.1=false->p.2 w1)/\m.defers=a.defers/\∃i,Nx r s.h w i t.h w1/\SR P G i t m w1/\GR i w1 (actG T j g) (k.filter λg=> !depB T j g.1)) a w:=by
 refine wpOpIn_mono ?_ (Zctk C E v (Zcsw I v).2 H B);rintro m w1 ⟨M,J,i,x,L⟩;have c:∀p∈k,depB T j p.1=false->p.2 w1/\((∀l,p.2 l)\/∃n e,(p.1,n)∈g/\r n=some e/\∀l,l.heap[e.b]? =w1.heap[e.b]? ->p.2 l):=by
  intro p d f;obtain⟨u,q⟩:=D p d
  grind [Zcmm]
 refine⟨λp d f=>(c p d f).1,J,i,x,L,?_⟩;intro p d;simp only[List.mem_filter,Bool.not_eq_true']at d;obtain⟨u,q⟩:=c p d.1 d.2;refine⟨u,?_⟩
 rcases q with q|⟨n,e,y,z,A⟩
 ·grind
 ·exact .inr ⟨n,e,Zcmk.2 ⟨y,d.2⟩,x.ext _ _ z,A⟩
theorem GR.alloc {N:Nat->Prop} {Z:TypeId->Nat} {h:Hp} {r:Ren} {w:World} {g:List (Nat×Nat)} {Gs:Gd} (i:Rep N Z G r h w) (f:GR r w g Gs) (o:Obj):GR r (w.alloc o) g Gs:=by
 intro p j;obtain⟨k,a⟩:=f p j
 rcases a with a|⟨n,e,l,d,m⟩
 ·grind
 ·have c:(w.alloc o).heap[e.b]? =w.heap[e.b]?:=by
   have:=i.low _ _ d;show(w.heap.push o)[e.b]? =_
   grind
  grind
theorem GR.act {r c:Ren} {w:World} {g:List (Nat×Nat)} {Gs:Gd} {i:Nat} (l:GR r w g Gs) (hx:Ext r c) (m:∀p∈Gs,depB T i p.1=false):GR c w (actG T i g) Gs:=by
 intro p b;obtain⟨d,a⟩:=l p b;refine⟨d,?_⟩
 rcases a with a|⟨n,e,f,j,k⟩
 ·grind
 ·exact .inr ⟨n,e,Zcmk.2 ⟨f,m p b⟩,hx _ _ j,k⟩
theorem GR.less {r:Ren} {w:World} {g:List (Nat×Nat)} {a:Gd} (b:GR r w g a) (q:Nat×(World->Prop)->Bool):GR r w g (a.filter q):=λp c=>b p (List.mem_filter.1 c).1
theorem Zczz (hF:FF F) (hK:KS P G K) (hn:noDS ops=true) {f:Nat} (ih:∀(p:Option Nat) (l:Array Bool) (q:List (Nat×Nat)) (g:List (Nat×Nat)) (s:St),sch ops f p l=some q->regS P G K ops T q g s=some s1->
   (∀i,p=some i->∀O,f=O+1->PE1 F P G ops T s0 r0 w0 ds s1 i O l g s)/\PN1 F P G ops T s0 r0 w0 ds s1 f l g s)
  {i:Nat} {l:Array Bool} {q:List (Nat×Nat)} {g:List (Nat×Nat)} {s:St} (m:sch ops (f+1) (some i) l=some q) (hc:regS P G K ops T q g s=some s1):
  PE1 F P G ops T s0 r0 w0 ds s1 i f l g s/\PN1 F P G ops T s0 r0 w0 ds s1 (f+1) l g s:=by
 have X:∀j I,(Region.ready .any ops l = [i,j]\/Region.ready .any ops l = [j,i])->Zczu ops l i j=true->sch ops f (some i) (l.setIfInBounds j true)=some I->q=(j,i+3)::I->
   PE1 F P G ops T s0 r0 w0 ds s1 i f l g s/\PN1 F P G ops T s0 r0 w0 ds s1 (f+1) l g s:=by
  rintro j I d B A rfl;obtain⟨H,oj,C,E,aq,al⟩:=Zczv B;obtain⟨o,oi1,sf,ho,ak,au,s2,h2,ac⟩:=Zdhf hc;obtain rfl:H=oi1:=by rw[C]at ak;exact Option.some.inj ak
  obtain rfl:oj=o:=by rw[E]at ho;exact Option.some.inj ho
  obtain⟨av,V⟩:=ih _ _ _ _ _ A ac;obtain⟨O,rfl⟩:∃O,f=O+1:=by
   cases f with
   | zero=>simp[sch]at A
   | succ O=>exact⟨O,rfl⟩
  have hE:PE1 F P G ops T s0 r0 w0 ds s1 i (O+1) l g s:=by
   intro r a w wf Gs oi S0 v b J hi D z W Q M Z ab L R af aa u ah;obtain rfl:H=oi:=by rw[C]at hi;exact Option.some.inj hi
   refine Zcwc al ?_;refine Zdjy hF.fn E aq (Zcsw hn hi).1 (Zcsw hn E).1 (Zcsw hn E).2 aa ?_;refine wpOpIn_mono ?_ (Zdjh hF hK hn E h2 z M);rintro a1 w1 ⟨q1,q2,r1,q3,q4,q5⟩ ai;refine⟨q1,?_⟩;rw[Zdii];have ae:j∈Region.ready .any ops (l.setIfInBounds i true):=by rw[al];simp
   have aj:Cl ops ((l.setIfInBounds j true).setIfInBounds i true):=by rw[Zdii];exact D.set ae
   refine av i rfl O rfl r1 a1 w1 wf _ H S0 v b J hi aj q4 (q2.trans W) (Q.trans q3) q5 (λp U=>Z p (List.mem_filter.1 U).1) ab (Nat.lt_of_lt_of_le L q3.size) (λk=>R (q3.live b L k)) ?_ ai u ah;rw[q3.frame b L (λk=>R k.live)];exact af
  refine⟨hE,?_⟩;intro r a w Gs D z W Q M;refine⟨λe=>?_,λk hk=>?_⟩
  ·rcases d with d|d<;>rw[d]at e<;>cases e
  ·have ad:i∈Region.ready .any ops l:=by rcases d with d|d<;>rw[d]<;>simp
   have ae:j∈Region.ready .any ops l:=by rcases d with d|d<;>rw[d]<;>simp
   have ar:k=i\/k=j:=by rcases d with d|d<;>rw[d]at hk<;>simp at hk<;>omega
   rcases ar with rfl|rfl
   ·
    obtain⟨hw,_,_,_,_,S,t,J,am,_,_,u⟩:=Zczx au z;refine Zdgh hF C (Zcsw hn C).2 hw (u w) ⟨λp U _=>((M.alloc z.1 J) p U).1,?_⟩;have ap:SR P G r s a (w.alloc J):=⟨(z.1.bump J).1,z.2⟩;exact hE r a (w.alloc J) w _ H _ _ w.heap.size J C (D.set ad) ap W (Q.trans (z.1.bump J).2) ((M.alloc z.1 J).less _) (λp U=>by simpa using(List.mem_filter.1 U).2) Q.size (by show _<(w.heap.push J).size;simp)
     (λ⟨n,p,e,_,he,hb⟩=>by have:=z.1.low n e he;omega) (World.alloc_heap_new w J) ⟨rfl,hw⟩ (u w) rfl
   ·refine wpOpIn_mono ?_ (Zdjh hF hK hn E h2 z M)
    rintro a1 w1 ⟨q1,q2,r1,q3,q4,q5⟩;exact⟨q1,V r1 a1 w1 _ (D.set ae) q4 (q2.trans W) (Q.trans q3) q5⟩
 have Y:∀I,Region.ready .any ops l = [i]->sch ops f none (l.setIfInBounds i true)=some I->q=(i,2)::I->
   PE1 F P G ops T s0 r0 w0 ds s1 i f l g s/\PN1 F P G ops T s0 r0 w0 ds s1 (f+1) l g s:=by
  rintro I d A rfl;obtain⟨H,C,s2,h2,ac⟩:=Zdhe hc;obtain⟨_,V⟩:=ih _ _ _ _ _ A ac;constructor
  ·intro r a w wf Gs oi S0 v b J hi D z W Q M Z ab L R af aa u ah
   obtain rfl:H=oi:=by rw[C]at hi;exact Option.some.inj hi
   obtain⟨_,vn,c,_,rfl,S,t,o2,am,hO,hV,ag⟩:=Zczx h2 z;have e:=ag wf;rw[aa.1,u]at e;injection e with e1 e2
   injection e1 with e1
   obtain rfl:=Zcwz e2;subst e1;rw[ah];have ao:=z.1.name (nm:=2*s.k) (by omega) (by omega) L R af (hO b);have an:=Nx.name z.1 Q (nm:=2*s.k) (S:=S) (t:=t) (o:=c) (Nat.le_refl _) ab;have hx:Ext r (set1 r (2*s.k) ⟨b,0,S,t⟩):=Zcuy z.1 (n:=2*s.k) (Nat.le_refl _) _;exact V _ _ w Gs D ⟨ao,(z.2.mono hx).put (hV b) _⟩ ((put_defers _ _ _).trans W) an (M.act hx Z)
  ·intro r a w Gs D z W Q M
   obtain⟨hw,vn,c,_,rfl,S,t,o2,am,hO,hV,u⟩:=Zczx h2 z;refine Zcwc d ?_;refine Zdgh hF C (Zcsw hn C).2 hw (u w) ⟨λp U _=>((M.alloc z.1 o2) p U).1,?_⟩;obtain⟨y1,y2⟩:=z.1.alloc (nm:=2*s.k) (by omega) (by omega) (hO w.heap.size);have ad:i∈Region.ready .any ops l:=by rw[d];simp
   refine V _ _ _ _ (D.set ad) ⟨y1,(z.2.mono y2.ext).put (hV w.heap.size) _⟩ ((put_defers _ _ _).trans W) (Q.trans y2) ?_;exact((M.alloc z.1 o2).less _).act y2.ext (λp U=>by simpa using(List.mem_filter.1 U).2)
 simp only[sch]at m;split at m
 ·rename_i x d
  cases hx:Nat.beq x i with
  | false=>rw[hx]at m;cases m
  | true=>
   rw[hx]at m;obtain rfl:=Zcnc.1 hx;simp only[cond_true]at m;split at m
   case h_2=>cases m
   rename_i I A
   cases m
   exact Y I d A rfl
 ·rename_i x y d
  cases hx:Nat.beq x i with
  | true=>
   rw[hx]at m;obtain rfl:=Zcnc.1 hx;simp only[cond_true]at m
   cases B:Zczu ops l x y with
   | false=>rw[B]at m;cases m
   | true=>
    rw[B]at m;simp only[cond_true]at m;split at m
    case h_2=>cases m
    rename_i I A
    cases m
    exact X y I (.inl d) B A rfl
  | false=>
   rw[hx]at m;simp only[cond_false]at m
   cases hy:Nat.beq y i with
   | false=>rw[hy]at m;cases m
   | true=>
    rw[hy]at m;obtain rfl:=Zcnc.1 hy;simp only[cond_true]at m
    cases B:Zczu ops l y x with
    | false=>rw[B]at m;cases m
    | true=>
     rw[B]at m;simp only[cond_true]at m;split at m
     case h_2=>cases m
     rename_i I A
     cases m
     exact X x I (.inr d) B A rfl
 ·cases m
theorem Zdhg (hF:FF F) (hK:KS P G K) (hn:noDS ops=true) (hT:okT ops T=true):∀(f:Nat) (p:Option Nat) (l:Array Bool) (q:List (Nat×Nat)) (g:List (Nat×Nat)) (s:St),sch ops f p l=some q->regS P G K ops T q g s=some s1->
   (∀i,p=some i->∀f',f=f'+1->PE1 F P G ops T s0 r0 w0 ds s1 i f' l g s)/\PN1 F P G ops T s0 r0 w0 ds s1 f l g s:=by
 intro f
 induction f with
 | zero=>
  intro p l q g s c B;refine⟨λi _ f' e=>(by cases e),?_⟩;intro r a w Z k d D A M
  cases p with
  | some i=>simp[sch]at c
  | none=>
   simp only[sch]at c;split at c
   ·rename_i hr;cases c;cases B;exact Zcwa hr ⟨D,r,A,d⟩
   ·cases c
 | succ f ih=>
  intro p l q g s c B
  cases p with
  | some i=>
   obtain⟨h1,h2⟩:=Zczz hF hK hn ih c B;exact⟨λi' e f' e'=>by cases e;cases e';exact h1,h2⟩
  | none=>
   refine⟨λi e=>(by cases e),?_⟩;have ag:=c;simp only[sch]at c;split at c
   ·rename_i hr;cases c;cases B;intro r a w Z k d D A M;exact Zcwa hr ⟨D,r,A,d⟩
   ·rename_i rs af
    obtain⟨R,O⟩:∃R,R=Region.ready .any ops l:=⟨_,rfl⟩;rw[<-O]at c;split at c
    ·rename_i i ac
     split at c
     case h_2=>cases c
     rename_i q' J
     cases c
     intro r a w Z k d D A M;obtain⟨o,ho,rd,v,V,C⟩:=Zdhc B;obtain⟨hm,H⟩:=Zcts ac;have aa:EvR P r (evC G s.e.t) a.eval:=λx v W=>Zcpi d.1 d.2 W
     have ae:∃Y,ValR (Zp P) r v Y/\YF P ops (λw1=>∀n e,rd=some n->r n=some e->w1.heap[e.b]? =w.heap[e.b]?) o Y a:=by
      unfold Zcvs at V
      cases hw:Zcvx ops s.e.t o with
      | false=>
       rw[hw]at V;cases V;exact⟨undef,.undef,.inr ⟨by rw[Zcvy d.2,hw],rfl⟩⟩
      | true=>
       rw[hw]at V;obtain⟨Y,W,U⟩:=Zctz d.1 aa V;exact⟨Y,W,.inl ⟨by rw[Zcvy d.2,hw],U⟩⟩
     obtain⟨Y,W,hY⟩:=ae;rw[O]at hm;refine Zcwd hF.fn hn hT ho f Z l a w k (Region.free_spec ho H) hm hY (λ_ _ _ _=>rfl) (λp Q=>(M p Q).1) ?_;refine(ih _ _ _ _ _ J C).2 r _ w _ (k.set hm) ⟨d.1,d.2.put W o.dst⟩ ((put_defers _ _ _).trans D) A ?_;intro p Q;simp only[List.mem_cons]at Q
     rcases Q with rfl|Q
     ·refine⟨λ_ _ _ _=>rfl,?_⟩
      cases rd with
      | none=>exact .inl (λw' n e hx=>by cases hx)
      | some n=>
       by_cases hx:∃e,r n=some e
       ·obtain⟨e,he⟩:=hx
        refine .inr ⟨n,e,by simp[addG],he,λw' ad m e' I z=>?_⟩
        cases I
        rw[he]at z;cases z;exact ad
       ·exact .inl (λw' m e I z=>by cases I;exact absurd ⟨e,z⟩ hx)
     ·obtain⟨q1,X⟩:=M p Q
      refine⟨q1,?_⟩
      rcases X with X|⟨n,e,a1,a2,a3⟩
      ·exact .inl X
      ·refine .inr ⟨n,e,?_,a2,a3⟩
       cases rd with
       | none=>exact a1
       | some m=>exact List.mem_cons_of_mem _ a1
    ·split at c
     ·rename_i j ab
      split at c
      case h_2=>cases c
      rename_i q' J
      cases c
      intro r a w Z k d D A M;obtain⟨o,ho,s2,h2,C⟩:=Zdhd B;refine Zcwc O.symm ?_;refine wpOpIn_mono ?_ (Zdjh hF hK hn ho h2 d M);rintro a1 w1 ⟨q1,X,r1,q3,q4,q5⟩;have hj:j∈Region.ready .any ops l:=by rw[<-O];simp
      exact⟨q1,(ih _ _ _ _ _ J C).2 r1 a1 w1 _ (k.set hj) q4 (X.trans D) (A.trans q3) q5⟩
     ·rename_i x y ab
      have S:∀i,sch ops (f+1) (some i) l=some q->PN1 F P G ops T s0 r0 w0 ds s1 (f+1) l g s:=λi hi=>(Zczz hF hK hn ih hi B).2
      cases L:Nat.beq x y with
      | true=>rw[L]at c;cases c
      | false=>
       rw[L]at c;simp only[cond_false]at c
       cases E:Zczu ops l x y with
       | true=>
        rw[E]at c;simp only[cond_true]at c;refine S x ?_;simp only[sch,<-O,Nat.beq_refl,cond_true,E,c]
       | false=>
        rw[E]at c;simp only[cond_false]at c
        cases u:Zczu ops l y x with
        | false=>rw[u]at c;cases c
        | true=>
         rw[u]at c;simp only[cond_true]at c;refine S y ?_;simp only[sch,<-O,L,cond_false,Nat.beq_refl,cond_true,u,c]
     ·cases c
