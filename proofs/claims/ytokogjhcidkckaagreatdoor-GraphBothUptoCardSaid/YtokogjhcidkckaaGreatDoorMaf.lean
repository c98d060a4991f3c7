import Derived.Test.YtokogjhcidkckaaGreatDoorMae
namespace Go.Proofs.YtokogjhcidkckaaGreatDoor.Exe
open Go
variable {P:Program} {G:Nat} {r:Ren} {h:Hp} {w:World}
def plainName (fn:Func):Prop:=(fn.name == "runtime.NumGoroutine")=false
def Zcmj (P:Program):Prop:=∀(f:FuncId) fn c,P.funcs[f]? =some fn->fn.body=some c->plainName fn
def Zcqx (P:Program) (f:FuncId):Bool:=match P.funcs[f]? with
 | some fn=>match fn.body with
  | some _=>true
  | none=>false
 | none=>false
theorem Zcuq {f:FuncId} {fn:Func} {c:Code} (hN:Zcmj P) (hfn:P.funcs[f]? =some fn) (hb:fn.body=some c) (args:Array Value) (w:World):(callFunc f args).run P w = .ok (.enter f args) w:=by
 have hname:=hN f fn c hfn hb;unfold plainName at hname;have hname2:¬fn.name = "runtime.NumGoroutine" :=by simpa using hname
 simp[callFunc,program,Sem.run,hfn,hname2,hb]
theorem Zcqy {f:FuncId} (hN:Zcmj P) (hb:Zcqx P f=true) (args:Array Value) (w:World):(callFunc f args).run P w = .ok (.enter f args) w:=by
 unfold Zcqx at hb;split at hb
 ·rename_i fn hfn
  split at hb
  ·rename_i c hc;exact Zcuq hN hfn hc args w
  ·cases hb
 ·cases hb
def endX (e:Env) (k1:Nat) (h1:Hp) (nm:Nat):Option CO->Option (Option Code×St)
 | some (.loop .ready pend _ _ _ _ false)=>some (pend,⟨e,k1,del h1 nm⟩)
 | some (.loop .done pend _ _ _ _ false)=>some (pend,⟨e,k1,del h1 nm⟩)
 | _=>none
theorem Zcpd {e:Env} {k1:Nat} {h1:Hp} {nm:Nat} {o:Option CO} {pend s1} (hc:endX e k1 h1 nm o=some (pend,s1)):
  ∃st en ps asg body,o=some (.loop st pend en ps asg body false)/\st≠.busy/\s1=⟨e,k1,del h1 nm⟩:=by
 unfold endX at hc;split at hc
 ·cases hc;exact⟨_,_,_,_,_,rfl,by simp,rfl⟩
 ·cases hc;exact⟨_,_,_,_,_,rfl,by simp,rfl⟩
 ·cases hc
def Zcud (P:Program) (G:Nat) (K:KF) (g:Operand) (ps:Array Tmp) (asg body:Code) (s:St):Option (Option Code×St):=match evC G s.e.t g with
 | some (.func (.func f) fs cs)=>bif Zcqx P f then
   match K (.fn f) (fs.toList ++ [.func (.yield (2*s.k)) #[] #[]]++cs.toList) (s.k+1) ((2*s.k,.loop .ready none s.e ps asg body false)::s.h)with
   | some (_,k1,h1)=>endX s.e k1 h1 (2*s.k) (look h1 (2*s.k))
   | none=>none
  else none
 | _=>none
def Zctr (F:Fence) (P:Program) (Q:Exit->Act->World->Prop) (a:Act) (w:World):Option Code->Prop
 | none=>Q .normal a w
 | some c=>c.wpIn F 0 P Q a w
theorem Zcsf {N:Nat->Prop} {Z:TypeId->Nat} (hR:Rep N Z G r h w) {n:Nat} {e:Ent} (he:r n=some e) {st pend en ps asg body ro} (hl:look h n=some (.loop st pend en ps asg body ro)):
  ∃L:Loop,w.heap[e.b]? =some (.loop L)/\(L.state=st/\L.pending=pend/\L.params=ps/\L.assign=asg/\L.body=body)/\L.tmps.size=en.n/\en.n<16000000/\∀k,ValR Z r (en.t.get k) (L.tmps.getD k undef):=by
 obtain⟨e',he',o',ho',hO⟩:=hR.obj n _ hl;rw[he]at he';cases he'
 cases o' with
 | loop L=>exact⟨L,ho',hO⟩
 | _=>exact hO.elim
theorem Zcsg {N:Nat->Prop} {Z:TypeId->Nat} (hR:Rep N Z G r h w) {n:Nat} {e:Ent} (he:r n=some e) {o1:CO} {st pend en ps asg body} (hl:look h n=some (.loop st pend en ps asg body false)) {o1':Obj} (hro:o1.ro=false) (hO:ObjR Z r n e o1 o1'):
  Rep N Z G r (upd h n o1) (w.putObj e.b o1')/\Nx r h w r (upd h n o1) (w.putObj e.b o1'):=
 hR.write (n:=n) hl rfl hro he (World.putObj_heap_same (hR.low _ _ he)) (λ_ hb=>World.putObj_heap_other hb) World.putObj_size hO rfl rfl rfl
theorem Zcue {F:Fence} (hF:FF F) (hro:F.round=none) {K:KF} (hK:KS P G K) (hN:Zcmj P) {g ps asg body} {s s1:St} {a:Act} {pend:Option Code} (hS:SR P G r s a w) (hc:Zcud P G K g ps asg body s=some (pend,s1)) {Q:Exit->Act->World->Prop}
  (hQ:∀r1 w1 b,Nx r s.h w r1 s1.h w1->SR P G r1 s1 { a with defers:=[mark b]++a.defers } w1->MS w r1 s1.h w1 [b]->Zctr F P Q { a with defers:=[mark b]++a.defers } w1 pend):(Code.rangeFunc g ps asg body).wpIn F 0 P Q a w:=by
 obtain⟨hR,hE⟩:=hS;unfold Zcud at hc;split at hc
 case h_2=>cases hc
 rename_i f fs cs hg
 cases hb:Zcqx P f with
 | false=>rw[hb]at hc;cases hc
 | true=>
  rw[hb]at hc;simp only[cond_true]at hc;split at hc
  case h_2=>cases hc
  rename_i v k1 h1 hk
  obtain⟨st,en,ps',asg',body',hlk,hst,rfl⟩:=Zcpd hc;have hv:=Zcpi hR hE hg;refine wpIn_rangeFunc λfn _=>?_
  obtain⟨hR1,hN1⟩:=hR.bump (.deferred (some []));have hmk:=hR.mk_bump;obtain⟨hR2,hN2⟩:=hR1.alloc (k:=s.k) (nm:=2*s.k) (S:=0) (t:=0) (o:= .loop .ready none s.e ps asg body false)
   (o':= .loop { state:= .ready,pending:=none,fn:=fn,tmps:=a.tmps,params:=ps,assign:=asg,body:=body,defers:=w.heap.size }) (by omega) (by omega) ⟨⟨rfl,rfl,rfl,rfl,rfl⟩,hE.1,hE.2.1,hE.2.2⟩
  have hsz1:(w.alloc (.deferred (some []))).heap.size=w.heap.size+1:=by show(w.heap.push _).size=_;simp
  rw[hsz1]at hR2 hN2;generalize hrA:set1 r (2*s.k) ⟨w.heap.size+1,0,0,0⟩=rA at hR2 hN2;have hnm:rA (2*s.k)=some ⟨w.heap.size+1,0,0,0⟩:=by rw[<-hrA];simp[set1]
  have key:∀gv,ValR (Zp P) r (.func (.func f) fs cs) gv->gv=a.eval g->∃ys zs:Array Value,a.eval g = .func (.func f) ys zs/\ValsR (Zp P) r fs.toList ys.toList/\ValsR (Zp P) r cs.toList zs.toList:=by
   intro gv hgv he
   cases hgv with
   | same ha=>simp[atom]at ha
   | @func _ _ ys _ zs a1 a2 a3 a4=>exact⟨ys,zs,he.symm,ArrR.list (P:=P) ⟨a1,a2⟩,ArrR.list (P:=P) ⟨a3,a4⟩⟩
  obtain⟨ys,zs,hev,hys,hzs⟩:=key _ hv rfl;have hx:=hN1.ext.trans hN2.ext;have hvs:ValsR (Zp P) rA (fs.toList ++ [.func (.yield (2*s.k)) #[] #[]]++cs.toList) (ys.toList ++ [.func (.yield (w.heap.size+1)) #[] #[]]++zs.toList):=
   ((hys.mono hx).append (.cons (.yield hnm) .nil)).append (hzs.mono hx)
  have hcall:=hK _ _ _ _ _ _ _ hk rA _ _ hR2 hvs;have hrun:=Zcqy hN hb (ys.toList ++ [Value.func (.yield (w.heap.size+1)) #[] #[]]++zs.toList).toArray ((w.alloc (.deferred (some []))).alloc (.loop { state:= .ready,pending:=none,fn:=fn,tmps:=a.tmps,params:=ps,assign:=asg,body:=body,defers:=w.heap.size }));have hcall2:=hcall.resolve_left (by rintro⟨r1,v',w1,q,_⟩;rw[hrun]at q;cases q);refine⟨w.heap.size+1,[mark w.heap.size],_,⟨.fn (.func f) zs,ys ++ #[Value.func (.yield (w.heap.size+1)) #[] #[]]⟩,((w.alloc (.deferred (some []))).alloc (.loop { state:= .ready,pending:=none,fn:=fn,tmps:=a.tmps,params:=ps,assign:=asg,body:=body,defers:=w.heap.size })),f,_,_,by rw[hro];exact run_enterLoop_outer ..,?_,λf' _=>hF.fn f',?_,λhx=>(by rw[hF.depth]at hx;cases hx),(hF.lift hcall2.2).mono ?_⟩
  ·simp only[resolve,hev,List.map_toArray,List.map];rfl
  ·have:(ys.toList ++ [Value.func (.yield (w.heap.size+1)) #[] #[]]++zs.toList).toArray=ys ++ #[Value.func (.yield (w.heap.size+1)) #[] #[]]++zs:=by apply Array.ext';simp
   simp only[invoke];rw[<-this];exact hrun
  ·rintro e w3 ⟨r3,v',rfl,hN3,hR3,_⟩
   have he3:=hN3.ext _ _ hnm;obtain⟨L,hL,⟨l1,l2,l3,l4,l5⟩,l6,l7,l8⟩:=Zcsf hR3 he3 hlk;obtain⟨hR4,hN4⟩:=Zcsg hR3 he3 (o1:= .loop .exhausted pend en ps' asg' body' false) (o1':= .loop { L with state:= .exhausted }) hlk rfl ⟨⟨rfl,l2,l3,l4,l5⟩,l6,l7,l8⟩;have hsub:∀n o,look (del h1 (2*s.k)) n=some o->look (upd h1 (2*s.k) (.loop .exhausted pend en ps' asg' body' false)) n=some o:=by
    intro n o hn;rw[Zcrw]at hn;rw[Zcsc];split at hn
    ·cases hn
    ·rename_i hne;rw[if_neg hne];exact hn
   have hNx:=(((hN1.trans hN2).trans hN3).trans hN4).trans (Nx.sub r3 _ hsub);have hmk4:=(((hmk.nx hN2).nx hN3).nx hN4).nx (Nx.sub r3 _ hsub);have:=hQ r3 _ w.heap.size hNx ⟨hR4.sub hsub,hE.mono hNx.ext⟩ ⟨by simp,λb hb=>by simp at hb;subst hb;exact⟨Nat.le_refl _,hmk4⟩⟩;refine⟨pend,_,by rw[<-l2];exact run_endLoop hL (by rw[l1];exact hst),?_⟩
   cases pend with
   | none=>exact this
   | some c=>exact this
end Go.Proofs.YtokogjhcidkckaaGreatDoor.Exe
namespace Go.Proofs.YtokogjhcidkckaaGreatDoor.Exe
open Go
variable {P:Program} {G:Nat} {r:Ren} {h:Hp} {w:World}
abbrev RF:=Array Oper->St->Option St
def RS (P:Program) (G:Nat) (D:RF):Prop:=∀(F:Fence),FF F->∀ops s s1,D ops s=some s1->∀(id:Nat) (r:Ren) (a:Act) (w:World),SR P G r s a w->
 (Code.region id ops true).wpIn F 0 P (QN λa1 w1=>a1.defers=a.defers/\∃r1,Nx r s.h w r1 s1.h w1/\SR P G r1 s1 a1 w1) a w
def Zcol (P:Program) (G:Nat) (K:KF) (D:RF) (top:Bool):Nat->Code->St->Option (Exit×St)
 | 0,_,_=>none
 | n+1,c,s=>match c with
  | .skip=>some (.normal,s)
  | .label _=>some (.normal,s)
  | .ret=>some (.ret,s)
  | .exit i=>some (.exit i,s)
  | .seq x y=>match Zcol P G K D top n x s with
   | some (.normal,s1)=>Zcol P G K D top n y s1
   | q=>q
  | .cond x t e=>match evC G s.e.t x with
   | some (.bool true)=>Zcol P G K D top n t s
   | some (.bool false)=>Zcol P G K D top n e s
   | _=>none
  | .block id body=>match Zcol P G K D top n body s with
   | some (.exit i,s1)=>bif Nat.beq i id then some (.normal,s1)else some (.exit i,s1)
   | q=>q
  | .loop body=>match Zcol P G K D top n body s with
   | some (.normal,s1)=>Zcol P G K D top n (.loop body) s1
   | q=>q
  | .region _ ops true=>match D ops s with
   | some s1=>some (.normal,s1)
   | none=>none
  | .region _ ops false=>bif noDS ops then match regL P G K ops ops.toList s with
   | some s1=>some (.normal,s1)
   | none=>none else none
  | .rangeFunc g ps asg body=>bif top then match Zcud P G K g ps asg body s with
   | some (none,s1)=>some (.normal,s1)
   | some (some c,s1)=>Zcol P G K D top n c s1
   | none=>none else none
  | _=>none
def PX (P:Program) (G:Nat) (r:Ren) (s:St) (a:Act) (w:World) (x:Exit) (s1:St):Exit->Act->World->Prop:=
 λy a1 w1=>y=x/\∃bs r1,a1.defers=bs.map mark++a.defers/\Nx r s.h w r1 s1.h w1/\SR P G r1 s1 a1 w1/\MS w r1 s1.h w1 bs
theorem PX.of {r r1:Ren} {s s1:St} {a a1:Act} {w w1:World} {x:Exit} (hd:a1.defers=a.defers) (hn:Nx r s.h w r1 s1.h w1) (hS:SR P G r1 s1 a1 w1):PX P G r s a w x s1 x a1 w1:=
 ⟨rfl,[],r1,hd,hn,hS,MS.nil⟩
theorem PX.trans {r r1:Ren} {s s1 s2:St} {a a1:Act} {w w1:World} {y:Exit} {bs:List Nat} (hd:a1.defers=bs.map mark++a.defers) (hn:Nx r s.h w r1 s1.h w1) (hm:MS w r1 s1.h w1 bs):∀e a2 w2,PX P G r1 s1 a1 w1 y s2 e a2 w2->PX P G r s a w y s2 e a2 w2:=
 λe a2 w2 ⟨p1,cs,r2,p2,p3,p4,p5⟩=>⟨p1,cs++bs,r2,by rw[p2,hd];simp,hn.trans p3,p4,hm.append hn.size p3 p5⟩
theorem Zcun {F:Fence} {c:Code} {Q Q':Exit->Act->World->Prop} (hq:∀e a w,Q e a w->Q' e a w):∀(m:Nat) (a:Act) (w:World),Code.roundsIn F 0 P c Q m a w->Code.roundsIn F 0 P c Q' m a w
 | 0,_,_,h=>h
 | m+1,_,_,h=>wpIn_mono h λe a w q=>by
  cases e<;>first|exact Zcun hq m _ _ q|exact hq _ _ _ q
theorem Zcom {F:Fence} (hF:FF F) {K:KF} (hK:KS P G K) (hN:Zcmj P) {D:RF} (hD:RS P G D) {top:Bool} (ht:top=true->F.round=none):∀(n:Nat) (c:Code) (s:St) (x:Exit) (s1:St),Zcol P G K D top n c s=some (x,s1)->∀(r:Ren) (a:Act) (w:World),SR P G r s a w->
  c.wpIn F 0 P (PX P G r s a w x s1) a w/\∀body,c = .loop body->Code.roundsIn F 0 P body (PX P G r s a w x s1) n a w:=by
 intro n
 induction n with
 | zero=>intro c s x s1 hc;cases hc
 | succ n ih=>
  intro c s x s1 hc r a w hS;have here:PX P G r s a w x s x a w:=PX.of rfl (Nx.refl _ _ _) hS;unfold Zcol at hc;split at hc
  ·cases hc;exact⟨wpIn_skip here,λb e=>by cases e⟩
  ·cases hc;exact⟨wpIn_label here,λb e=>by cases e⟩
  ·cases hc;exact⟨wpIn_ret here,λb e=>by cases e⟩
  ·cases hc;exact⟨wpIn_exit here,λb e=>by cases e⟩
  ·rename_i c1 c2
   refine⟨?_,λb e=>by cases e⟩;refine wpIn_seq ?_;split at hc
   ·rename_i s2 h1
    refine wpIn_mono (ih _ _ _ _ h1 r a w hS).1 ?_;rintro e a1 w1 ⟨rfl,bs,r1,q1,q2,q3,q4⟩;exact wpIn_mono (ih _ _ _ _ hc r1 a1 w1 q3).1 (PX.trans q1 q2 q4)
   ·rename_i hne
    refine wpIn_mono (ih _ _ _ _ hc r a w hS).1 ?_;rintro e a1 w1 ⟨rfl,q⟩
    cases e<;>first|exact⟨rfl,q⟩|exact absurd hc (hne _)
  ·rename_i xx t e0
   refine⟨?_,λb e=>by cases e⟩;have hEv:=λv hv=>Zcpi (x:=xx) (v:=v) hS.1 hS.2 hv
   split at hc
   ·rename_i hx
    exact wpIn_cond_true (Zcna rfl (hEv _ hx)) (ih _ _ _ _ hc r a w hS).1
   ·rename_i hx
    exact wpIn_cond_false (Zcna rfl (hEv _ hx)) (ih _ _ _ _ hc r a w hS).1
   ·cases hc
  ·rename_i id body
   refine⟨?_,λb e=>by cases e⟩;refine wpIn_block ?_;split at hc
   ·rename_i i s2 h1
    refine wpIn_mono (ih _ _ _ _ h1 r a w hS).1 ?_;rintro e a1 w1 ⟨rfl,q⟩
    cases hb:Nat.beq i id with
    | true=>rw[hb]at hc;cases hc;simp only[Exit.inBlock,Zcnc.1 hb,if_true];exact⟨rfl,q⟩
    | false=>rw[hb]at hc;cases hc;simp only[Exit.inBlock,if_neg (Zcnd.1 hb)];exact⟨rfl,q⟩
   ·rename_i hne
    refine wpIn_mono (ih _ _ _ _ hc r a w hS).1 ?_;rintro e a1 w1 ⟨rfl,q⟩
    cases e<;>first|exact⟨rfl,q⟩|exact absurd hc (hne _ _)
  ·rename_i body
   have key:Code.roundsIn F 0 P body (PX P G r s a w x s1) (n+1) a w:=by
    rw[roundsIn_succ];split at hc
    ·rename_i s2 h1
     refine wpIn_mono (ih _ _ _ _ h1 r a w hS).1 ?_;rintro e a1 w1 ⟨rfl,bs,r1,q1,q2,q3,q4⟩;have:=(ih _ _ _ _ hc r1 a1 w1 q3).2 body rfl;exact Zcun (PX.trans q1 q2 q4) _ _ _ this
    ·rename_i hne
     refine wpIn_mono (ih _ _ _ _ hc r a w hS).1 ?_;rintro e a1 w1 ⟨rfl,q⟩
     cases e<;>first|exact⟨rfl,q⟩|exact absurd hc (hne _)
   exact⟨wpIn_loop_rounds _ key,λb e=>by cases e;exact key⟩
  ·rename_i id ops
   refine⟨?_,λb e=>by cases e⟩;split at hc
   case h_2=>cases hc
   rename_i s2 h1
   cases hc
   exact wpIn_mono (hD F hF _ _ _ h1 id r a w hS) (λe a1 w1 q=>q.1▸let ⟨r1,q2,q3⟩:=q.2.2;PX.of q.2.1 q2 q3)
  ·rename_i id ops
   refine⟨?_,λb e=>by cases e⟩
   cases hn:noDS ops with
   | false=>rw[hn]at hc;cases hc
   | true=>
    rw[hn]at hc;simp only[cond_true]at hc;split at hc
    case h_2=>cases hc
    rename_i s2 h1
    cases hc
    refine wpIn_region ?_;have:=Zcug (Q:=PX P G r s a w .normal s1) hF hK hn (pre:=[]) (by simp) hS h1 (λr1 a1 w1 q1 q2 q3=>PX.of q1 q2 q3);rw[List.range_eq_range'];simpa using this
  ·rename_i g ps asg body
   refine⟨?_,λb e=>by cases e⟩
   cases htop:top with
   | false=>rw[htop]at hc;cases hc
   | true=>
    rw[htop]at hc;simp only[cond_true]at hc;split at hc
    case h_3=>cases hc
    ·rename_i s2 h1
     cases hc
     exact Zcue hF (ht htop) hK hN hS h1 λr1 w1 b q1 q2 q3=>⟨rfl,[b],r1,rfl,q1,q2,q3⟩
    ·rename_i c s2 h1
     refine Zcue hF (ht htop) hK hN hS h1 λr1 w1 b q1 q2 q3=>?_
     refine wpIn_mono (ih _ _ _ _ (by rw[htop];exact hc) r1 _ w1 q2).1 (PX.trans (bs:=[b]) rfl q1 q3)
  ·cases hc
end Go.Proofs.YtokogjhcidkckaaGreatDoor.Exe
namespace Go.Proofs.YtokogjhcidkckaaGreatDoor.Exe
open Go
variable {P:Program} {G:Nat} {r:Ren} {h:Hp} {w:World}
def Zczq (P:Program) (k:Nat) (ev:Ev) (o:Op):Option (Value×CO):=match o with
 | .alloc t=>match Zcwh P t with
  | some z=>some (.pointer (some ⟨2*k,0,none⟩),.cells z.cells.toList t 0 false)
  | none=>none
 | .buildSlice t n ps=>match evP ev ps.toList with
  | some vs=>match Zcvg P k [] t n vs with
   | some (some v,(_,c)::_)=>some (v,c)
   | _=>none
  | none=>none
 | _=>none
def Zcwn (P:Program) (r:Ren) (k:Nat) (v:Value) (c:CO) (s:Sem Next):Prop:=
 ∃(S:Nat) (t:TypeId) (o':Obj) (val:Nat->Value),(∀b,ObjR (Zp P) r (2*k) ⟨b,0,S,t⟩ c o')/\(∀b,ValR (Zp P) (set1 r (2*k) ⟨b,0,S,t⟩) v (val b))/\∀w:World,s.run P w = .ok (.value (val w.heap.size)) (w.alloc o')
theorem Zdiv {k:Nat} {t:TypeId} {len:Nat} {ps qs:List (Nat×Value)} (hp:Zcmi P r ps qs) {v:Value} {n:Nat} {c:CO} {h1:Hp} (hc:Zcvg P k [] t len ps=some (some v,(n,c)::h1)):
  Zcwn P r k v c (do pure (.value (<-Instr.buildSlice t len qs.toArray))):=by
 unfold Zcvg at hc;split at hc
 case h_2=>cases hc
 rename_i el hu
 split at hc
 case h_2=>cases hc
 rename_i z hz
 cases hb:Nat.ble (len*z) 100000 with
 | false=>rw[hb]at hc;cases hc
 | true=>
  rw[hb]at hc;simp only[cond_true]at hc;have hle:=Nat.le_of_ble_eq_true hb;split at hc
  case h_2=>cases hc
  rename_i zs hzs
  split at hc
  case h_2=>cases hc
  rename_i cs hf
  cases hc
  have hflat:ArrR P r ((Array.range (len*z)).map (zs[· % zs.size]!)) ((Array.range (len*z)).map (zs[· % zs.size]!)):=by
   refine⟨rfl,λi a b ha hb=>?_⟩;obtain rfl:=Option.some.inj (ha.symm.trans hb)
   cases h0:Nat.beq (len*z) 0 with
   | true=>
    have:=Zcnc.1 h0;rw[this]at ha;simp at ha
   | false=>
    rw[h0]at hzs;simp only[cond_false]at hzs;split at hzs
    ·rename_i v hv
     cases hzs
     have hvc:=(Zcql (Z:=Zp P) (r:=r) 4 (Zcwi hv)).cells;have hi:i<len*z:=by
      have:=(Array.getElem?_eq_some_iff.1 ha).1;simpa using this
     simp[hi]at ha
     by_cases hm:i % v.cells.size<v.cells.size
     ·rw[getElem!_pos v.cells _ hm]at ha
      subst ha;exact hvc.2 (i % v.cells.size) _ _ (by simp[hm]) (by simp[hm])
     ·rw[getElem!_neg v.cells _ hm]at ha
      subst ha;exact .same rfl
    ·cases hzs
  obtain⟨cs',h1,h2⟩:=Zcqd hp hflat hf;refine⟨cs'.size,el,.cells cs' el (0,0),λb=> .slice (some ⟨b,0,none⟩) len len,λb=>Zcst h2.list,λb=>?_,λw=>?_⟩
  ·refine .slice (e:=⟨b,0,cs'.size,el⟩) (by simp[set1]) (Nat.le_refl _) (λ_=>rfl) (λhne=>?_)
   have:exN (2*k)=true:=by simp[exN]
   rw[this]at hne;cases hne
  ·have hlim:¬(len*z>2^24):=by omega
   simp only[Instr.buildSlice,Sem.run_bind,run_underlying hu,Result.andThen_ok,Zcvp hz,if_neg hlim]
   by_cases h0:len*z=0
   ·rw[show Nat.beq (len*z) 0=true from Zcnc.2 h0]at hzs
    cases hzs
    rw[if_pos h0];simp only[Sem.run_bind,Sem.run_pure,Result.andThen_ok,h1,Zcus]
   ·rw[show Nat.beq (len*z) 0=false from Zcnd.2 h0]at hzs
    simp only[cond_false]at hzs;split at hzs
    ·rename_i v hv
     cases hzs
     rw[if_neg h0];simp only[Sem.run_bind,Zcwj hv,Sem.run_pure,Result.andThen_ok,h1,Zcus]
    ·cases hzs
theorem Zczr {k:Nat} {ev:Ev} {f:Operand->Value} (hE:EvR P r ev f) {o:Oper} {v:Value} {c:CO} (hc:Zczq P k ev o.op=some (v,c)):Zcwn P r k v c (execOp f o):=by
 obtain⟨dst,op,ty,pos,after,guard⟩:=o
 dsimp only at hc
 unfold Zczq at hc;split at hc
 ·rename_i t
  split at hc
  case h_2=>cases hc
  rename_i z hz
  cases hc
  have hcl:=(Zcql (Z:=Zp P) (r:=r) 4 (Zcwi hz)).cells.list;refine⟨z.cells.size,t,.cells z.cells t (0,0),λb=> .pointer (some ⟨b,0,none⟩),λb=>Zcst hcl,λb=> .ptr (e:=⟨b,0,z.cells.size,t⟩) (by simp[set1]),λw=>?_⟩;show Sem.run P (do pure (Next.value (<-Instr.alloc t true (.tuple #[]))):Sem Next) w=_;simp[Instr.alloc,Zcwj hz,Zcut]
 ·rename_i t n ps
  split at hc
  case h_2=>cases hc
  rename_i vs hvs
  split at hc
  case h_2=>cases hc
  rename_i v1 n1 c1 t1 h1
  cases hc
  have:=Zdiv (Zcpl hE hvs) h1;have e:(ps.toList.map λp=>(p.1,f p.2)).toArray=ps.map λx=>(x.1,f x.2):=by apply Array.ext';simp
  rw[e]at this;exact this
 ·cases hc
theorem Rep.name {Z:TypeId->Nat} {k:Nat} (hR:Rep (Zcmd k) Z G r h w) {nm b S:Nat} {t:TypeId} {o:CO} {o':Obj} (h1:2*k<=nm) (h2:nm<2*(k+1)) (hb:b<w.heap.size) (hno:¬Live r h b) (ho:w.heap[b]? =some o')
  (hO:ObjR Z r nm ⟨b,0,S,t⟩ o o'):Rep (Zcmd (k+1)) Z G (set1 r nm ⟨b,0,S,t⟩) ((nm,o)::h) w:=by
 have hx:=Zcuy hR (n:=nm) h1 ⟨b,0,S,t⟩;refine⟨λn p hl=>?_,λn m p q en em hn hm a b' hb'=>?_,λn e he=>?_,λn hn=>?_,λg hg=>?_⟩
 ·rw[Zcrv]at hl
  split at hl
  ·rename_i e;subst e;cases hl
   exact⟨_,by simp[set1],o',ho,hO.mono hx⟩
  ·obtain⟨e,he,p',hp',hOp⟩:=hR.obj n p hl
   exact⟨e,hx _ _ he,p',hp',hOp.mono hx⟩
 ·rw[Zcrv]at hn hm
  unfold set1 at a b';split at hn
  ·rename_i e1;subst e1;simp at a;subst a
   split at hm
   ·rename_i e2;exact e2.symm
   ·rename_i e2
    rw[if_neg e2]at b';exact absurd ⟨m,q,em,hm,b',hb'.symm⟩ hno
  ·rename_i e1
   rw[if_neg e1]at a;split at hm
   ·rename_i e2;subst e2;simp at b';subst b'
    exact absurd ⟨n,p,en,hn,a,hb'⟩ hno
   ·rename_i e2
    rw[if_neg e2]at b';exact hR.inj n m p q en em hn hm a b' hb'
 ·unfold set1 at he
  split at he
  ·cases he;exact hb
  ·exact hR.low _ _ he
 ·unfold set1
  unfold Zcmd at hn;rw[if_neg (by omega)];exact hR.new n (by unfold Zcmd;omega)
 ·obtain⟨e,he,hb',hs⟩:=hR.glo g hg
  exact⟨e,hx _ _ he,hb',hs⟩
theorem Nx.name {Z:TypeId->Nat} {r0:Ren} {h0:Hp} {w0:World} {k:Nat} (hR:Rep (Zcmd k) Z G r h w) (hN:Nx r0 h0 w0 r h w) {nm b S:Nat} {t:TypeId} {o:CO} (h1:2*k<=nm) (hb:w0.heap.size<=b):
  Nx r0 h0 w0 (set1 r nm ⟨b,0,S,t⟩) ((nm,o)::h) w:=by
 have hx:=Zcuy hR (n:=nm) h1 ⟨b,0,S,t⟩;refine⟨hN.ext.trans hx,hN.size,hN.frame,λc hc hO=>?_,λc hc hO=>?_,hN.os,hN.tape,hN.output⟩
 ·obtain⟨n,p,e,hl,hro,he,rfl⟩:=hO
  rw[Zcrv]at hl;unfold set1 at he;split at hl
  ·rename_i e1;subst e1;simp at he;subst he;simp only at hc;omega
  ·rename_i e1;rw[if_neg e1]at he
   exact hN.own _ hc ⟨n,p,e,hl,hro,he,rfl⟩
 ·obtain⟨n,p,e,hl,he,rfl⟩:=hO
  rw[Zcrv]at hl;unfold set1 at he;split at hl
  ·rename_i e1;subst e1;simp at he;subst he;simp only at hc;omega
  ·rename_i e1;rw[if_neg e1]at he
   exact hN.live _ hc ⟨n,p,e,hl,he,rfl⟩
section
variable {F:Fence} {ops:Array Oper} {R:Act->World->Prop}
def SE (_P:Program) (ops:Array Oper) (oi:Oper) (S0:Sem Next) (a:Act):Prop:=execOp a.eval oi=S0/\Region.wanted oi (yielded ops a.tmps)=true
theorem Zdjy {S0:Sem Next} {j:Nat} {oi oj:Oper} {v:Value} (hF:∀f,F.fn f) (hj:ops[j]? =some oj) (hap:oi.apart ops oj=true)
  (hsi:∀cs b,oi.op≠.select cs b) (hsj:∀cs b,oj.op≠.select cs b) (hdj:∀c,oj.op≠.defer c) {K:Act->World->Prop} {a:Act} {w:World}
  (hy:SE P ops oi S0 a) (h:wpOpIn F 0 P ops (QN R) j (λa' w'=>SE P ops oi S0 a'->K (a'.put oi.dst v) w') a w):
  wpOpIn F 0 P ops (QN R) j K (a.put oi.dst v) w:=by
 obtain⟨h1,h2,h3⟩:=Oper.apart_spec hap;have keep:∀u,SE P ops oi S0 (a.put oj.dst u):=λu=>
  ⟨(execOp_put oi hsi a oj.dst u h3).trans hy.1,(wanted_put oi a oj.dst u h3).trans hy.2⟩
 unfold Go.wpOpIn at *;simp only[hj]at *;rw[wanted_put oj a oi.dst v h1];split
 ·rename_i hw
  simp only[hw,if_true]at h;unfold Oper.wpIn at *;refine⟨λf _=>hF f,?_⟩;have h:=h.2;rw[Oper.semAt_eq F.round _ oj hdj]at h;rw[Oper.semAt_eq F.round _ oj hdj,execOp_put oj hsj a oi.dst v h1];generalize (execOp a.eval oj).run P w=r at *
  cases r with
  | ok x w'=>
   cases x<;>simp only[Oper.uponIn]at h⊢
   case value u=>rw[Act.put_comm a v u h2];exact h (keep u)
   case skip=>rw[Act.put_comm a v undef h2];exact h (keep _)
   case defer d=>
    rw[Act.put_defers,Act.put_comm _ v undef h2];exact h ⟨(execOp_put oi hsi _ oj.dst _ h3).trans hy.1,(wanted_put oi _ oj.dst _ h3).trans hy.2⟩
   case enter f args=>
    refine⟨h.1,CallsIn.mono h.2 λe w'' he=>?_⟩
    cases e with
    | returned u=>dsimp only at he⊢;rw[Act.put_comm a v u h2];exact he (keep u)
    | panicked c=>exact absurd he.1 (by simp)
    | outgrown=>obtain⟨a',w',he,_⟩:=he;cases he
   case row row args=>exact⟨h.1,RowsIn.mono h.2 λu w'' he=>by rw[Act.put_comm a v u h2];exact he (keep u)⟩
   case round l f tmps assign body=>
    refine⟨h.1,RoundIn.mono h.2 λe w'' he=>?_⟩
    cases e with
    | returned u=>dsimp only at he⊢;rw[Act.put_comm a v u h2];exact he (keep u)
    | panicked c=>exact absurd he.1 (by simp)
    | outgrown=>obtain⟨a',w',he,_⟩:=he;cases he
  | halt x w'=>
   cases x<;>simp only[Oper.uponIn]at h⊢
   case panic u=>exact absurd h.1 (by simp)
 ·rename_i hw
  simp only[hw]at h;exact⟨λf _=>hF f,by rw[Act.put_comm a v undef h2];exact h.2 (keep _)⟩
end
end Go.Proofs.YtokogjhcidkckaaGreatDoor.Exe
