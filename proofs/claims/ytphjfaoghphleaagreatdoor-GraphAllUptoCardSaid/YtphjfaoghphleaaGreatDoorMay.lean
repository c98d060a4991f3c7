import Derived.Test.YtphjfaoghphleaaGreatDoorMax
set_option maxRecDepth 100000
set_option maxHeartbeats 8000000
namespace Go.Proofs.YtphjfaoghphleaaGreatDoor
open Go.Lib (hid)
open Go.Proofs.Tryz
theorem Zcn:∀ {ks L:List ByteArray},(addS L ks).length=L.length+ks.length->ks.Nodup/\∀k∈ks,k∉L
 | [],L,_=>⟨List.nodup_nil,λk c=>by simp at c⟩
 | k::ks,L,h=>by
  have e:addS L (k::ks)=addS (insS L k) ks:=rfl;rw[e]at h;have g:=Zco ks (insS L k);have l:=Ztb L k;simp only[List.length_cons]at h;have c:k∉L:=by
   intro b;have:insS L k=L:=by unfold insS;rw[if_pos (Zsj.2 b)]
   rw[this]at g h;omega
  have i:insS L k=L ++ [k]:=by unfold insS;rw[if_neg (λh=>c (Zsj.1 h))]
  obtain⟨j,f⟩:=Zcn (ks:=ks) (L:=insS L k) (by omega);rw[i]at f;refine⟨List.nodup_cons.2 ⟨λb=>f k b (by simp),j⟩,λa d=>?_⟩
  rcases List.mem_cons.1 d with rfl|d
  ·exact c
  ·exact λb=>f a d (by simp[b])
theorem Zpk {rs:List RuleS} {a:ByteArray}:a∈foS rs↔∃r∈rs,a∈r.outs:=by
 have h:∀(rs:List RuleS) (L:List ByteArray),a∈rs.foldl (λL r=>addS L r.outs) L↔a∈L\/∃r∈rs,a∈r.outs:=by
  intro rs
  induction rs with
  | nil=>grind
  | cons r rs b=>grind [Zcp]
 grind [foS]
theorem Zbbb {rs:List RuleS} {a:ByteArray}:a∈nmS rs↔∃r∈rs,a=r.name:=by
 have h:∀(rs:List RuleS) (L:List ByteArray),a∈rs.foldl (λL r=>addS L [r.name]) L↔a∈L\/∃r∈rs,a=r.name:=by
  intro rs
  induction rs with
  | nil=>grind
  | cons r rs b=>grind [Zcp]
 grind [nmS]
structure OkTog (rs:List RuleS):Prop where
 each:∀r∈rs,Zbip r=0
 few:rs.length<=40
 names:∀(i j:Nat) x y,rs[i]? =some x->rs[j]? =some y->i<j->x.name≠y.name
 own:∀r∈rs,r.outs.Nodup
 files:∀(i j:Nat) x y,rs[i]? =some x->rs[j]? =some y->i<j->∀a∈x.outs,a∉y.outs
 after:∀r∈rs,∀a∈r.after,∃x∈rs,a=x.name
theorem Zbgg {n:Nat} {p:Nat->Bool} (h:(List.range n).find? p=none) {k:Nat} (a:k<n):p k=false:=by
 grind
theorem Zbcj {rs:List RuleS} (h:(Zet rs).1=0):OkTog rs:=by
 unfold Zet at h
 cases f:rs.find? (λr=> !decide (Zbip r=0))with
 | some r=>
  grind
 | none=>
  rw[f]at h;simp only at h;split at h
  ·omega
  cases g:(List.range rs.length).find? (takP rs)with
  | some k=>grind
  | none=>
   cases l:(List.range rs.length).find? (astP rs)with
   | some k=>grind
   | none=>
    have p:∀(k:Nat) x,rs[k]? =some x->x.name∉nmS (rs.take k)/\x.outs.Nodup/\∀a∈x.outs,a∉foS (rs.take k):=by
     intro k x hx;have:=Zbgg g (List.getElem?_eq_some_iff.1 hx).1;unfold takP at this;rw[hx]at this;unfold takB at this
     grind [Zsj,Zcn]
    have d:∀ {i j:Nat} {x:RuleS},rs[i]? =some x->i<j->x∈rs.take j:=fun {i j x} hx b=>List.mem_of_getElem? (i:=i) (by rw[List.getElem?_take,if_pos b];exact hx)
    refine⟨λr c=>?_,by omega,λi j x y hx o b e=>?_,λr c=>?_,λi j x y hx o b a m q=>?_,λr c a m=>?_⟩
    ·grind
    ·grind [Zbbb]
    ·grind [List.getElem?_of_mem]
    ·grind [Zpk]
    ·obtain⟨k,n⟩:=List.getElem?_of_mem c
     have:=Zbgg l (List.getElem?_eq_some_iff.1 n).1
     simp_all[Option.map_some,Option.getD_some,List.all_eq_true,Zbbb,Zsj,astP]
theorem Zbry {ks:List ByteArray} {i j:Nat} {x:ByteArray}:∀ {f:ByteArray->Option Nat},Zbru f ks i x=some j->(x∈ks/\j=i)\/(x∉ks/\f x=some j):=by
 induction ks with
 | nil=>intro f h;exact .inr ⟨by simp,h⟩
 | cons k ks c=>
  intro f h
  rcases c h with⟨b,a⟩|⟨b,a⟩
  ·grind
  ·unfold updF at a
   grind
theorem Zbrv {ks:List ByteArray} {i:Nat} {x:ByteArray} (f:ByteArray->Option Nat) (h:x∈ks):Zbru f ks i x=some i:=by
 cases e:Zbru f ks i x with
 | some j=>grind [Zbry]
 | none=>
  have:∀(ks:List ByteArray) (f:ByteArray->Option Nat),(x∈ks\/(f x).isSome=true)->(Zbru f ks i x).isSome=true:=by
   intro ks
   induction ks with
   | nil=>
       intro f h;rcases h with h|h
       ·grind
       ·exact h
   | cons k ks a=>
    intro f h;apply a
    by_cases b:k=x
    ·grind [updF]
    ·rcases h with h|h
     ·grind
     ·grind [updF]
  grind
theorem Zbrx {ks:List ByteArray} {i:Nat} {x:ByteArray} (f:ByteArray->Option Nat) (h:x∉ks):Zbru f ks i x=f x:=by
 induction ks generalizing f with
 | nil=>rfl
 | cons k ks a=>
  show Zbru (updF f k i) ks i x=f x
  grind [updF]
theorem Zzi {rs:List RuleS} {x:ByteArray}:∀ {n j:Nat},mkrN rs n x=some j->j<n/\x∈Zbdg rs j
 | 0,j,h=>by simp[mkrN]at h
 | n+1,j,h=>by
  rw[mkrN]at h
  rcases Zbry h with⟨a,rfl⟩|⟨_,b⟩
  ·exact⟨Nat.lt_succ_self _,a⟩
  ·have:=Zzi b;exact⟨by omega,this.2⟩
theorem Zbfe {rs:List RuleS} {x:ByteArray}:∀ {n j:Nat},plcN rs n x=some j->j<n/\x=nmAt rs j
 | 0,j,h=>by simp[plcN]at h
 | n+1,j,h=>by
  rw[plcN]at h;unfold updF at h;split at h
  ·rename_i e
   obtain rfl:=Option.some.inj h;exact⟨Nat.lt_succ_self _,e.symm⟩
  ·have:=Zbfe h;exact⟨by omega,this.2⟩
theorem Zbdh {rs:List RuleS} {k:Nat} {r:RuleS} (h:rs[k]? =some r):Zbdg rs k=r.outs:=by unfold Zbdg;rw[h];rfl
theorem Zzh {rs:List RuleS} (b:OkTog rs) {k:Nat} {r:RuleS} {x:ByteArray} (a:rs[k]? =some r) (hx:x∈r.outs):∀ {n:Nat},k<n->n<=rs.length->mkrN rs n x=some k
 | 0,h,_=>by omega
 | n+1,h,hn=>by
  rw[mkrN]
  by_cases e:k=n
  ·subst e
   rw[Zbdh a];exact Zbrv _ hx
  ·obtain⟨y,c⟩:∃y,rs[n]? =some y:=⟨rs[n]'(by omega),List.getElem?_eq_getElem _⟩
   rw[Zbdh c,Zbrx _ (b.files k n r y a c (by omega) x hx)];exact Zzh b a hx (by omega) (by omega)
theorem Zbfd {rs:List RuleS} (b:OkTog rs) {k:Nat} {r:RuleS} (a:rs[k]? =some r):∀ {n:Nat},k<n->n<=rs.length->plcN rs n r.name=some k
 | 0,h,_=>by omega
 | n+1,h,hn=>by
  rw[plcN]
  by_cases e:k=n
  ·subst e
   unfold updF nmAt;rw[a];simp
  ·obtain⟨y,c⟩:∃y,rs[n]? =some y:=⟨rs[n]'(by omega),List.getElem?_eq_getElem _⟩
   unfold updF nmAt;rw[c];simp only[Option.map_some,Option.getD_some];rw[if_neg (λe=>b.names k n r y a c (by omega) e.symm)];exact Zbfd b a (by omega) (by omega)
theorem Zbar {rs:List RuleS} {k j:Nat}:j∈Zban rs k↔(∃a∈Zta rs k,mkrN rs rs.length a=some j)\/∃a∈Zcs rs k,plcN rs rs.length a=some j:=by
 simp_all[Zban,srtN]
theorem Zbaq {rs:List RuleS} {k j:Nat} (h:j∈Zban rs k):j<rs.length:=by
 rcases Zbar.1 h with⟨a,_,h⟩|⟨a,_,h⟩
 ·exact(Zzi h).1
 ·exact(Zbfe h).1
def fcL (nd:Nat->List Nat) (N:Nat):List Nat->List Nat
 | []=>[]
 | s::l=>if Zbhz s nd N = []then fcL nd N l else Zbhz s nd N
def Zot (rs:List RuleS):List ByteArray:=(fcL (Zban rs) rs.length (List.range rs.length)).map (nmAt rs)
theorem Znj {nd:Nat->List Nat} {N:Nat}:∀ {l:List Nat},fcL nd N l = []->∀s∈l,Zbhz s nd N = []
 | [],_,s,b=>by simp at b
 | a::l,h,s,b=>by
  unfold fcL at h;split at h
  ·rename_i c
   rcases List.mem_cons.1 b with rfl|b
   ·exact c
   ·exact Znj h s b
  ·rename_i c;exact absurd h c
theorem Zov {rs:List RuleS} (h:Zot rs = []):∀s,s<rs.length->¬Rch (Zban rs) s s:=by
 have a:fcL (Zban rs) rs.length (List.range rs.length) = []:=by simpa[Zot]using h
 grind [Zbia,Zbaq,Znj]
theorem Zbay {s N:Nat} {nd:Nat->List Nat} {y:List Nat}:∀ {xs:List Nat} {q:List (List Nat)} {r:List Bool} {e:List (List Nat)} {r':List Bool},WaysOk s nd N q r->y.length+cntF r<=N+1->(∀z∈y,z<N)->(∀x∈xs,x<N)->Zbax s y xs q r=some (e,r')->WaysOk s nd N e r'
 | [],q,r,e,r',hW,_,_,_,h=>by
  obtain⟨rfl,rfl⟩:q=e/\r=r':=by simpa[Zbax]using h
  exact hW
 | x::xs,q,r,e,r',hW,hy,hz,hx,h=>by
  unfold Zbax at h;split at h
  ·cases h
  have d:=hx x (by simp)
  by_cases b:r[x]? =some true
  ·rw[if_pos b]at h
   exact Zbay hW hy hz (λz a=>hx z (by simp[a])) h
  ·rw[if_neg b]at h
   have c:r[x]? =some false:=by
    have g:x<r.length:=by rw[hW.size];exact d
    rw[List.getElem?_eq_getElem g]at b⊢
    cases f:r[x]with
    | true=>rw[f]at b;exact absurd rfl b
    | false=>rfl
   have:=Zkb c;exact Zbay (hW.push hy hz d c) (by omega) hz (λz a=>hx z (by simp[a])) h
theorem Zfr {s N:Nat} {nd:Nat->List Nat} (a:∀x<N,∀y∈nd x,y<N):∀(n:Nat) (q:List (List Nat)) (r:List Bool),WaysOk s nd N q r->(∀x∈bfsF s nd n q r,x<N)/\(bfsF s nd n q r).length<=N+1
 | 0,_,_,_=>by simp[bfsF]
 | _+1,[],_,_=>by simp[bfsF]
 | n+1,w::q,r,hW=>by
  rw[Zfp]
  cases hx:Zbax s w (nd (w.getLastD 0)) q r with
  | none=>exact⟨hW.lt w (by simp),by have:=hW.len w (by simp);show w.length<=N+1;omega⟩
  | some p=>
   obtain⟨d,e⟩:=p;have b:=hW.ne w (by simp);have c:w.getLastD 0<N:=by
    rw[List.getLastD_eq_getLast?,List.getLast?_eq_some_getLast b];exact hW.lt w (by simp) _ (List.getLast_mem b)
   exact Zfr a n d e (Zbay hW.tail (hW.len w (by simp)) (hW.lt w (by simp)) (a _ c) hx)
theorem Zbib {s N:Nat} {nd:Nat->List Nat} (a:∀x<N,∀y∈nd x,y<N) (b:s<N):(∀x∈Zbhz s nd N,x<N)/\(Zbhz s nd N).length<=N+1:=Zfr a _ _ _ (Zbsq b)
def nmLe (x y:RuleS):Bool:=decide (Go.Lib.compareBytes x.name.data.toList y.name.data.toList<=0)
def Zbng (rs:List RuleS):List RuleS:=rs.mergeSort nmLe
open Go.RowKit
def QRow (w:World) (base:Nat) (e:TypeId) (v:Value) (xs:List Value):Prop:=
 (v = .slice none 0 0/\xs = [])\/∃g o cap cur,v = .slice (some ⟨g,o,none⟩) xs.length cap/\base<=g/\w.heap[g]? =some (.cells cur e (0,0))/\xs.length<=cap/\cap<=maxLen/\o+cap<=cur.size/\∀(j:Nat) x,xs[j]? =some x->cur[o+j]? =some x
theorem QRow.shape {w:World} {base:Nat} {e:TypeId} {v:Value} {xs:List Value} (h:QRow w base e v xs):∃a c,v = .slice a xs.length c/\xs.length<=c/\c<=maxLen/\∀(j:Nat) x,xs[j]? =some x->∃b o,a=some ⟨b,o,none⟩/\base<=b/\w.cell? ⟨b,o+j,none⟩=some x:=by
 rcases h with⟨rfl,rfl⟩|⟨g,o,d,f,rfl,m,n,i,k,p,l⟩
 ·exact⟨_,_,rfl,Nat.le_refl _,Nat.zero_le _,λj x hx=>by simp at hx⟩
 ·refine⟨_,_,rfl,i,k,λj x hx=>⟨g,o,rfl,m,?_⟩⟩
  simp only[World.cell?,n,Option.isSome_none,Bool.false_eq_true,if_false];exact l j x hx
theorem QRow.lt {w:World} {base:Nat} {e:TypeId} {v:Value} {xs:List Value} (h:QRow w base e v xs):∀k,v.ownBlock=some k->base<=k/\k<w.heap.size:=by
 rcases h with⟨rfl,rfl⟩|⟨g,o,b,c,rfl,d,f,i,j,l,m⟩
 ·intro k a;cases a
 ·intro k a
  obtain rfl:g=k:=by simpa[Value.ownBlock]using a
  exact⟨d,(Array.getElem?_eq_some_iff.1 f).1⟩
theorem QRow.heap {w w':World} {base:Nat} {e:TypeId} {v:Value} {xs:List Value} (h:QRow w base e v xs) (f:∀k,v.ownBlock=some k->w'.heap[k]? =w.heap[k]?):QRow w' base e v xs:=by
 rcases h with h|⟨g,o,a,b,rfl,c,i,d⟩
 ·exact .inl h
 ·exact .inr ⟨g,o,a,b,rfl,c,(f g rfl).trans i,d⟩
theorem QRow.drop {w:World} {base:Nat} {e:TypeId} {a:Option Addr} {n c:Nat} {x:Value} {xs:List Value} (h:QRow w base e (.slice a n c) (x::xs)):QRow w base e (.slice (if c=1 then a else a.map (·.add (1*1))) (n-1) (c-1)) xs:=by
 rcases h with⟨_,h⟩|⟨g,o,k,b,q,d,i,l,u,v,m⟩
 ·cases h
 ·injection q with r s t
  subst r s t;rw[List.length_cons]at l⊢
  by_cases f:c=1
  ·subst f
   obtain rfl:xs = []:=List.eq_nil_of_length_eq_zero (by omega);exact .inr ⟨g,o,0,b,by simp,d,i,by simp,by omega,by omega,λj x hx=>by simp at hx⟩
  ·refine .inr ⟨g,o+1,c-1,b,by rw[if_neg f];simp[Addr.add_lit],d,i,by omega,by omega,by omega,λj y p=>?_⟩
   have:=m (j+1) y (by simpa using p);rw[show o+1+j=o+(j+1) by omega];exact this
theorem Zbkd {P:Program} {w:World} (base:Nat) (t ty e:TypeId) (i:TypeInfo) (z:Value) (bytes:Nat) (M:P.underlying t=some (.slice e)) (hi:P.info? e=some i) (Y:i.zero=some z) (a:i.size=1) (H:i.bytes=bytes) (O:z.cells.size=1)
  {v:Value} {xs:List Value} (h:QRow w base e v xs) (y:Addr) (c:Nat) (x:Value) (hx:w.cell? y=some x) (T:x.oneCell'=true) (A:xs.length+1<=maxLen) (m:(xs.length+1)*bytes<=140737488355328) (r:base<=w.heap.size):
  ∃v' w',(Builtin.append_ #[t,t] ty #[v,.slice (some y) 1 c]).run P w = .ok v' w'/\QRow w' base e v' (xs ++ [x])/\w.grownBy w' v.ownBlock/\(v'.ownBlock=v.ownBlock\/v'.ownBlock=some w.heap.size)/\v'.ownBlock≠none:=by
 have S:Src P i.size t (.slice (some y) 1 c) 1 [x] w:=Src.ofSlice w M y 1 c [x] (by rw[a];rfl) (λj u b=>by
  match j,b with
  | 0,b=>
      obtain rfl:x=u:=by simpa using b
      simpa[Addr.add]using hx) (λu b=>by
       obtain rfl:u=x:=by simpa using b
       exact T)
 have G:xs.length+1<=9223372036854775807:=by simp only[maxLen]at A;omega
 have n:∀(E:Option Addr) (q:Nat),v = .slice E xs.length q->q<xs.length+1->(Builtin.firstCells i.size xs.length (.slice E xs.length q)).run P w.drew = .ok xs.toArray w.drew->
   ∃v' w',(Builtin.append_ #[t,t] ty #[v,.slice (some y) 1 c]).run P w = .ok v' w'/\QRow w' base e v' (xs ++ [x])/\w.grownBy w' v.ownBlock/\(v'.ownBlock=v.ownBlock\/v'.ownBlock=some w.heap.size)/\v'.ownBlock≠none:=by
  rintro E q rfl p C;have D:=run_append_grow_src (P:=P) w t t ty e i z M hi Y E xs.length q xs C _ 1 [x] S p (by omega) (growslice_fits p (by rw[H];exact m));have J:=grownCap_ge w (xs.length+1) q e;have I:=grownCap_le_maxLen w (xs.length+1) q e A;refine⟨_,_,D,.inr ⟨w.heap.size,0,grownCap w (xs.length+1) q e,_,by rw[List.length_append];rfl,r,heap_alloc_new w.drew _,by rw[List.length_append];exact J,I,?_,λj u b=>?_⟩,⟨rfl,rfl,rfl,by simp,λk R _=>Below.heap_alloc w.drew _ k R⟩,.inr rfl,by simp[Value.ownBlock]⟩
  ·rw[Array.size_append,List.size_toArray,size_zeroCells,O,List.length_append]
   simp only[List.length_cons,List.length_nil];omega
  ·rw[Nat.zero_add,Array.getElem?_append_left (by rw[List.size_toArray];exact(List.getElem?_eq_some_iff.1 b).1),List.getElem?_toArray]
   exact b
 rcases h with⟨rfl,rfl⟩|⟨g,o,d,l,rfl,W,p,Z,U,V,Q⟩
 ·exact n none 0 rfl (by simp) (run_firstCells_none _ _ _ _ _)
 ·by_cases f:xs.length+1<=d
  ·have B:o+xs.length<l.size:=by omega
   have X:=run_append_room_src (P:=P) w t t ty e i M hi g o xs.length d _ 1 [x] S f
    (λj F=>by
     obtain rfl:j=0:=by simpa using F
     simp only[a,World.cell?,p,Option.isSome_none,Bool.false_eq_true,if_false,Nat.mul_one,Nat.add_zero];rw[Array.getElem?_eq_getElem B];rfl)
    (λj F=>by simp[World.frozen?,p])
   refine⟨_,_,X,.inr ⟨g,o,d,l.setIfInBounds (o+xs.length) x,by rw[List.length_append];rfl,W,?_,by rw[List.length_append];exact f,U,by rw[Array.size_setIfInBounds];exact V,λj u b=>?_⟩,?_,.inl rfl,by simp[Value.ownBlock]⟩
   ·rw[a,Nat.mul_one]
    show(w.setCell ⟨g,o+xs.length,none⟩ x).heap[g]? =_;rw[setCell_eq_setRow w g _ l e (0,0) x p];exact setRow_heap w g l _ e (0,0) p
   ·by_cases F:j<xs.length
    ·rw[List.getElem?_append_left F]at b
     rw[Array.getElem?_setIfInBounds_ne (by omega)];exact Q j u b
    ·rw[List.getElem?_append_right (by omega)]at b
     have K:=(List.getElem?_eq_some_iff.1 b).1;obtain rfl:j=xs.length:=by simp at K;omega
     obtain rfl:x=u:=by simpa using b
     rw[Array.getElem?_setIfInBounds_self_of_lt B]
   ·exact⟨rfl,rfl,rfl,by simp[World.setCells,World.setCell],λk R L=>by
     show(w.setCell ⟨g,_,none⟩ x).heap[k]? =_;exact Below.heap_setCell w _ _ k (λe=>L (by rw[e];rfl))⟩
  ·have s:∀j u,xs[j]? =some u->w.cell? ((⟨g,o,none⟩:Addr).add j)=some u:=λj u b=>by
    rw[Addr.add_lit];simp only[World.cell?,p,Option.isSome_none,Bool.false_eq_true,if_false];exact Q j u b
   exact n (some ⟨g,o,none⟩) d rfl (by omega) (by
    have:=run_firstCells_some (P:=P) w.drew i.size xs.length ⟨g,o,none⟩ xs.length d xs (by rw[a];omega) (by simpa using s);exact this)
theorem Zbug {P:Program} {w:World} {n:Array Oper} {g:List Oper} {o:Oper} {a:Act} {Q:Exit->Act->World->Prop} (B:o.guard=none) (s x:Operand) (t:TypeId)
  (J:o.op = .call { callee:= .builtin .append,args:=#[s,x],argTypes:=#[t,t] })
  (d:Nat) (e:TypeId) (i:TypeInfo) (z:Value) (b:Nat) (O:P.underlying t=some (.slice e)) (I:P.info? e=some i) (S:i.zero=some z) (k:i.size=1) (A:i.bytes=b) (C:z.cells.size=1)
  (v:Value) (q:List Value) (M:a.eval s=v) (m:QRow w d e v q)
  (r:Addr) (c:Nat) (u:Value) (hx:a.eval x = .slice (some r) 1 c) (R:w.cell? r=some u) (D:u.oneCell'=true)
  (y:q.length+1<=maxLen) (f:(q.length+1)*b<=140737488355328) (j:d<=w.heap.size)
  (h:∀l p,QRow p d e l (q ++ [u])->w.grownBy p v.ownBlock->(l.ownBlock=v.ownBlock\/l.ownBlock=some w.heap.size)->wpList P n Q g (a.put o.dst l) p):
  wpList P n Q (o::g) a w:=by
 refine wpList_plain B λK H=>?_
 obtain⟨l,p,L,E,F,G,_⟩:=Zbkd (P:=P) d t o.type e i z b O I S k A C m r c u R D y f j;unfold Oper.wp execOp;simp only[J,resolve,invoke,builtin,Sem.run_bind,Sem.run_pure,Result.andThen_ok,List.map_toArray,List.map_cons,List.map_nil,M,hx,L];exact H _ _ (h l p E F G)
open Go.Shelf Go.Maps
def Zag (w:World) (xs:List Nat) (e:Ending) (w':World):Prop:=∃v,e = .returned v/\OwnInts w.heap.size w' v xs/\Below w.heap.size w w'
theorem Zjg (v:Value) (xs:List Nat) (w:World) (h:IsInts w v xs) (M:xs.length<=8796093022208):
  Calls prog 179 #[v] w (Zag w xs):=by
 obtain⟨a,c,rfl,L,C,p⟩:=h;obtain⟨J,F,s,t,y⟩:=info_parts Zsn
 cases a with
 | none=>
  have r:xs = []:=by
   rcases xs with _|⟨f,K⟩
   ·rfl
   ·obtain⟨b,o,q,_⟩:=p (by simp)
    cases q
  subst r;have I:∀w,(Go.binOp .eql 131 (.slice none 0 c) (.slice none 0 0)).run prog w = .ok (.bool true) w:=λw=>Lib.run_eql_slice_nil w 131 3 none 0 c 0 0 underlying131
  go_enter func179,ntmps179
  go_wp2;go_ret;exact⟨_,rfl,World.ownsRow_nil _ _ _ _,Below.refl _ _⟩
 | some B=>
  obtain⟨m,n,e⟩:=B;have I:∀w,(Go.binOp .eql 131 (.slice (some ⟨m,n,e⟩) xs.length c) (.slice none 0 0)).run prog w = .ok (.bool false) w:=λw=>Lib.run_eql_slice_nil w 131 3 _ _ _ _ _ underlying131
  have d:∀j u,(xs.map intV)[j]? =some u->w.cell? ((⟨m,n,e⟩:Addr).add j)=some u:=by
   intro j u l;rw[List.getElem?_map]at l;obtain⟨x,hx,rfl⟩:=Option.map_eq_some_iff.1 l;obtain⟨b,o,q,_,E⟩:=p (by rintro rfl;simp at hx)
   cases q
   rw[Addr.add_lit];exact E j x hx
  have A:=hid d;clear d p
  go_enter func179,ntmps179
  go_wp2_with (at_builtin;refine wpList_append_own _ rfl _ _ 131 rfl w.heap.size 3 J _ 1 8 underlying131 F s t y rfl (by decide) _ _ _ rfl (World.ownsRow_made w #[] 0 (Nat.le_refl _) (Nat.zero_le _) (by simp)) ⟨m,n,e⟩ xs.length c (xs.map intV) rfl ?qc1 ?qc2 ?qc3 ?qc4 ?qc5 ?qc6 ?_)
  case qc1=>simp
  case qc2=>
   intro j u G;exact Lib.cell?_alloc_some _ (A.out j u G)
  case qc3=>
   intro u l;obtain⟨x,_,rfl⟩:=List.mem_map.1 l;rfl
  case qc4=>unfold maxLen;omega
  case qc5=>omega
  case qc6=>simp
  intro O w1 i g z;go_wp2;go_ret;have D:Below w.heap.size w w1:=((Below.refl _ w).alloc (Nat.le_refl _) _).grown g (by simp) (by intro k H;simp[Value.ownBlock]at H;omega);exact⟨_,rfl,by unfold OwnInts;simpa using i,D⟩
structure RouS (w0:World) (n:Nat) (qv:Value) (q:List (List Nat)) (r:List Bool) (W:World):Prop where
 row:∃us:List Value,QRow W (n+1) 131 qv us/\us.length=q.length/\∀(j:Nat) u x,us[j]? =some u->q[j]? =some x->OwnInts (n+1) W u x
 marks:BoolR W n r
 below:Below n w0 W
 size:n+1<=W.heap.size
theorem Zbdo {B:Nat} {w w':World} {v:Value} {xs:List Nat} {row:Option Nat} (h:OwnInts B w v xs) (a:w.grownBy w' row) (c:∀k,row=some k->v.ownBlock≠some k):OwnInts B w' v xs:=by
 refine World.ownsRow.kept h a ?_
 cases d:v.ownBlock with
 | none=>grind
 | some b=>grind
theorem below_grown {B:Nat} {w w':World} (h:Below B w w') (a:w.heap.size<=B):w.grownBy w' none:=⟨h.os,h.tape,h.output,h.size,λk b _=>h.block k (by omega)⟩
theorem QRow.type {w:World} {base:Nat} {e:TypeId} {v:Value} {xs:List Value} (h:QRow w base e v xs) {b:Nat} (d:v.ownBlock=some b):∃a,w.heap[b]? =some (.cells a e (0,0)):=by
 rcases h with⟨rfl,rfl⟩|⟨g,o,c,a,rfl,_,f,_⟩
 all_goals (grind [Value.ownBlock])
theorem OwnInts.type {B:Nat} {w:World} {v:Value} {xs:List Nat} (h:OwnInts B w v xs) {b:Nat} (e:v.ownBlock=some b):B<=b/\∃a,w.heap[b]? =some (.cells a 3 (0,0)):=by
 rcases h.2 with⟨rfl,_⟩|⟨g,c,a,rfl,d,f,_⟩
 all_goals (grind [Value.ownBlock])
theorem BoolR.heap {w w':World} {g:Nat} {ms:List Bool} (h:BoolR w g ms) (a:w'.heap[g]? =w.heap[g]?):BoolR w' g ms:=by unfold BoolR at h⊢;rw[a];exact h
theorem Zbrj:(3:TypeId)≠131:=by decide
theorem RouS.mark {w0:World} {n x:Nat} {g:Value} {q:List (List Nat)} {r:List Bool} {W:World} (h:RouS w0 n g q r W):RouS w0 n g q (r.set x true) (W.setCell ⟨n,x,none⟩ (.bool true)):=by
 obtain⟨o,b,l,d⟩:=h.row;have c:W.grownBy (W.setCell ⟨n,x,none⟩ (.bool true)) (some n):=⟨rfl,rfl,rfl,by simp[World.setCell],λk _ a=>Below.heap_setCell W _ _ k (λe=>a (by rw[e]))⟩;refine⟨⟨o,b.heap λk a=>c.block k (b.lt k a).2 (λe=>by have:=(b.lt k a).1;have:=Option.some.inj e;omega),l,λj u i f hx=>Zbdo (d j u i f hx) c λk e m=>?_⟩,h.marks.set x true,h.below.setCell (p:=⟨n,x,none⟩) (Nat.le_refl _) _,by have:=h.size;have:=c.size;omega⟩;have:=(d j u i f hx).type m;have:=Option.some.inj e;omega
theorem RouS.later {w0:World} {n:Nat} {c:Value} {q:List (List Nat)} {r:List Bool} {W W':World} (h:RouS w0 n c q r W) (a:W.grownBy W' none):RouS w0 n c q r W':=by
 obtain⟨i,b,d,e⟩:=h.row;refine⟨⟨i,b.heap λk f=>a.block k (b.lt k f).2 (by simp),d,λj u l g hx=>Zbdo (e j u l g hx) a (by simp)⟩,h.marks.heap (a.block n (by have:=h.size;omega) (by simp)),?_,by have:=h.size;have:=a.size;omega⟩;exact h.below.grown a (by have:=h.size;omega) (by simp)
theorem q_ne {B:Nat} {W:World} {c u:Value} {us:List Value} {y:List Nat} (h:QRow W B 131 c us) (j:OwnInts B W u y):∀k,c.ownBlock=some k->u.ownBlock≠some k:=by
 intro k g e;obtain⟨d,f⟩:=h.type g;obtain⟨_,b,a⟩:=j.type e;rw[f]at a;injection a with a
 injection a with _ i
 exact Zbrj i.symm
theorem RouS.push {w0:World} {n:Nat} {m f v:Value} {q:List (List Nat)} {us:List Value} {x:List Nat} {r:List Bool} {W W':World} (h:RouS w0 n m q r W) (g:QRow W (n+1) 131 m us) (d:us.length=q.length) (o:∀(j:Nat) u x,us[j]? =some u->q[j]? =some x->OwnInts (n+1) W u x) (hx:OwnInts (n+1) W v x)
  (l:QRow W' (n+1) 131 f (us ++ [v])) (c:W.grownBy W' m.ownBlock):RouS w0 n f (q ++ [x]) r W':=by
 have s:=h.size;refine⟨⟨us ++ [v],l,by rw[List.length_append,List.length_append,d];rfl,λj u y a b=>?_⟩,h.marks.heap (c.block n (by omega) (λe=>by have:=(g.lt n e.symm).1;omega)),h.below.grown c (by omega) (λk e=>by have:=(g.lt k e).1;omega),by have:=c.size;omega⟩
 by_cases p:j<us.length
 ·rw[List.getElem?_append_left p]at a
  rw[List.getElem?_append_left (by omega)]at b;exact Zbdo (o j u y a b) c (q_ne g (o j u y a b))
 ·rw[List.getElem?_append_right (by omega)]at a b
  have i:=(List.getElem?_eq_some_iff.1 a).1;simp only[List.length_cons,List.length_nil]at i;obtain rfl:j=us.length:=by omega
  rw[Nat.sub_self]at a;rw[d,Nat.sub_self]at b;obtain rfl:v=u:=by simpa using a
  obtain rfl:x=y:=by simpa using b
  exact Zbdo hx c (q_ne g hx)
theorem RouS.pop {w0:World} {n:Nat} {a:Option Addr} {m c:Nat} {y:List Nat} {q:List (List Nat)} {r:List Bool} {W:World} (h:RouS w0 n (.slice a m c) (y::q) r W):RouS w0 n (.slice (if c=1 then a else a.map (·.add (1*1))) (m-1) (c-1)) q r W:=by
 obtain⟨b,e,d,f⟩:=h.row
 cases b with
 | nil=>simp at d
 | cons u b=>
  exact⟨⟨b,e.drop,by simpa using d,λj i k g hx=>f (j+1) i k (by simpa using g) (by simpa using hx)⟩,h.marks,h.below,h.size⟩
def lenV:Value->Nat
 | .slice _ n _=>n
 | _=>0
def cntW (w:World) (g:Nat):Nat:=match w.heap[g]? with
 | some (.cells cs _ _)=>cs.toList.countP λv=>match v with
  | .bool b=>b==false
  | _=>false
 | _=>0
theorem Zkc {w:World} {g:Nat} {r:List Bool} (h:BoolR w g r):cntW w g=cntF r:=by
 unfold cntW cntF;rw[show w.heap[g]? =some (.cells (r.map Value.bool).toArray 4 (0,0))from h];simp only[List.countP_map];rfl
theorem Zso:(prog.info? 131).map (λi=>(i.zero,i.size,i.bytes))=some (some (.slice none 0 0),1,24):=by kernel_rfl
def ndOf (ns:List (List Nat)) (k:Nat):List Nat:=(ns[k]?).getD []
theorem Zbhy (s:Nat) (nv:Value) (ns:List (List Nat)) (w:World) (hN:NeedsIs w nv ns) (U:∀x∈ns,∀y∈x,y<ns.length) (hs:s<ns.length) (hn:ns.length<=1000) (hl:∀x∈ns,x.length<=100000000):
  Calls prog 127 #[.int .i64 (s:Int),nv] w λe w'=>∃u,e = .returned u/\IsInts w' u (Zbhz s (ndOf ns) ns.length)/\Below w.heap.size w w':=by
 have mixed:prog.follows .mixedOrders=true:=by kernel_rfl
 obtain⟨i0,bw,K,b5,b6⟩:=info_parts Zsn;obtain⟨i1,aN,al,aT,b3⟩:=info_parts Zso;obtain⟨g,rfl,hg,hc⟩:=hN;obtain⟨N,bt⟩:∃N,ns.length=N:=⟨_,rfl⟩;rw[bt]at U hs hn⊢;have bM:=Zyd N (by omega);obtain⟨n,d⟩:∃n,w.heap.size=n:=⟨_,rfl⟩;have HC:Hid (∀(k:Nat) x,ns[k]? =some x->∃a c,x.length<=c/\c<=maxLen/\(∀W,Below n w W->W.cell? ⟨g,k,none⟩=some (.slice a x.length c))/\∀(j:Nat) y,x[j]? =some y->∃b o,a=some ⟨b,o,none⟩/\∀W,Below n w W->W.cell? ⟨b,o+j,none⟩=some (.int .i64 (y:Int))):=by
  show ∀(k:Nat) x,_;intro k x hx;obtain⟨u,i,hI⟩:=hc k x hx;obtain⟨a,c,rfl,h1,h2,h3⟩:=hI.at;rw[d]at h3;exact⟨a,c,h1,h2,λW t=>(t.cell (p:=⟨g,k,none⟩) (by rw[<-d];exact hg)).trans i,h3⟩
 have bc:Hid (∀(k:Nat) x,ns[k]? =some x->∀y∈x,y<N):=hid λk x hx=>U x (List.mem_of_getElem? hx)
 have a5:Hid (∀(k:Nat) x,ns[k]? =some x->x.length<=100000000):=hid λk x hx=>hl x (List.mem_of_getElem? hx)
 obtain⟨W3,D⟩:∃W,((w.alloc (.cells (madeCells #[.bool false] N) 4)).alloc (.cells #[.int .i64 (s:Int)] 3)).alloc (.cells #[.slice (some ⟨n+1,0,none⟩) 1 1] 131)=W:=⟨_,rfl⟩;have I:RouS w n (.slice (some ⟨n+2,0,none⟩) 1 1) [[s]] (List.replicate N false) W3:=by
  have e1:((w.alloc (.cells (madeCells #[.bool false] N) 4)).alloc (.cells #[.int .i64 (s:Int)] 3)).heap.size=n+2:=by simp[d]
  have q2:=alloc_at ((w.alloc (.cells (madeCells #[.bool false] N) 4)).alloc (.cells #[.int .i64 (s:Int)] 3)) (.cells #[.slice (some ⟨n+1,0,none⟩) 1 1] 131);rw[e1]at q2;have M:=alloc_at (w.alloc (.cells (madeCells #[.bool false] N) 4)) (.cells #[.int .i64 (s:Int)] 3);rw[World.size_alloc,d]at M;have q0:=Zgc w N;rw[d]at q0;rw[D]at q2;have aK:Below (n+1) (w.alloc (.cells (madeCells #[.bool false] N) 4)) W3:=by rw[<-D];exact((Below.refl _ _).alloc (by simp[d]) _).alloc (by simp[d]<;>omega) _
  have ah:Below (n+2) ((w.alloc (.cells (madeCells #[.bool false] N) 4)).alloc (.cells #[.int .i64 (s:Int)] 3)) W3:=by rw[<-D];exact(Below.refl _ _).alloc (by simp[d]) _
  refine⟨⟨[.slice (some ⟨n+1,0,none⟩) 1 1],.inr ⟨n+2,0,1,_,rfl,by omega,q2,by simp,by decide,by simp,λj x hx=>?_⟩,rfl,λj u x i hx=>?_⟩,q0.heap (aK.block n (by omega)),?_,?_⟩
  ·have ay:=(List.getElem?_eq_some_iff.1 hx).1
   simp only[List.length_cons,List.length_nil]at ay;obtain rfl:j=0:=by omega
   simpa using hx
  ·have ay:=(List.getElem?_eq_some_iff.1 i).1
   simp only[List.length_cons,List.length_nil]at ay;obtain rfl:j=0:=by omega
   obtain rfl:Value.slice (some ⟨n+1,0,none⟩) 1 1=u:=by simpa using i
   obtain rfl:[s]=x:=by simpa using hx
   exact⟨rfl,.inr ⟨n+1,1,_,rfl,Nat.le_refl _,(ah.block (n+1) (by omega)).trans M,Nat.le_refl _,by decide,rfl,rfl⟩⟩
  ·rw[<-D,<-d];exact(((Below.refl _ _).alloc (Nat.le_refl _) _).alloc (by simp) _).alloc (by simp<;>omega) _
  ·have:=aK.size;rw[World.size_alloc,d]at this;exact this
 obtain⟨si,a1⟩:∃si:Int,(s:Int)=si:=⟨_,rfl⟩;rw[a1]at D⊢;have aB:=hid a1;have bh:=hid I;have bo:=hid D;have bH:=hid d;have bp:=hid (Zbsq (nd:=ndOf ns) hs);obtain⟨RES,Q⟩:∃R,Zbhz s (ndOf ns) N=R:=⟨_,rfl⟩;have a9:Hid (bfsF s (ndOf ns) (N+2) [[s]] (List.replicate N false)=RES):=Q;rw[Q,d];clear hc U hl I D Q a1
 go_enter func127,ntmps127
 go_wp2_with fail
 rw[bo.out]
 go_loopw [6] (λqv wr=>∃(q:List (List Nat)) (r:List Bool) (m:Nat),bfsF s (ndOf ns) m q r=RES/\q.length+cntF r<m/\WaysOk s (ndOf ns) N q r/\RouS w n qv q r wr) (λqv wr=>lenV qv+cntW wr n)
 case atStart=>exact⟨_,_,N+2,a9.out,by rw[Zka];simp;omega,bp.out,bh.out⟩
 case round=>
  obtain⟨q,r,m,hE,hm,t,A⟩:=hrel;obtain⟨us,hq,ab,Y⟩:=id A.row;obtain⟨qa,qc,rfl,aQ,b0,v⟩:=hq.shape;obtain⟨m,rfl⟩:∃m',m=m'+1:=⟨m-1,by omega⟩;unfold maxLen at b0
  cases q with
  | nil=>
   obtain rfl:us = []:=List.eq_nil_of_length_eq_zero (by simpa using ab);have HB:=hid A.below;have aI:[]=RES:=by rw[<-hE];rfl
   have aZ:Hid (IsInts wr (.slice none 0 0) RES):=hid (by rw[<-aI];exact⟨none,0,rfl,Nat.le_refl _,Nat.zero_le _,λh=>absurd rfl h⟩);simp only[List.length_nil]at aQ⊢;clear hE aI hm t A hq ab Y v;go_wp2;go_ret;exact⟨_,rfl,aZ.out,HB.out⟩
  | cons y q=>
   cases us with
   | nil=>simp at ab
   | cons u us=>
   have al:=t.ne y (by simp);have ac:=t.len y (by simp);have a3:∀z∈y,z<N:=t.lt y (by simp);have i:=Y 0 u y rfl rfl;obtain⟨G,ai⟩:∃G,y.length=G+1:=⟨y.length-1,by have:=List.length_pos_iff.2 al;omega⟩;obtain⟨ub,uk,aX,eu,b2,aS,aj,b1,ak,aR⟩:∃b uk P,u = .slice (some ⟨b,0,none⟩) (G+1) uk/\n+1<=b/\wr.heap[b]? =some (.cells P 3 (0,0))/\G+1<=uk/\uk<=maxLen/\P.size=uk*1/\P.toList.take ((G+1)*1)=y.map intV:=by
    rcases i.2 with⟨_,h0⟩|⟨b,uk,P,e1,e2,e3,e4,e5,e6,e7⟩
    ·omega
    ·rw[ai]at e1 e4 e7
     exact⟨b,uk,P,e1,e2,e3,e4,e5,e6,e7⟩
   subst eu;obtain⟨z0,K⟩:∃z,y[G]? =some z:=⟨y[G]'(by omega),List.getElem?_eq_getElem _⟩;have T:y.getLastD 0=z0:=by rw[List.getLastD_eq_getLast?,List.getLast?_eq_getElem?,ai,Nat.add_sub_cancel,K];rfl
   have bB:=a3 z0 (List.mem_of_getElem? K);obtain⟨x,hx⟩:∃x,ns[z0]? =some x:=⟨ns[z0]'(by omega),List.getElem?_eq_getElem _⟩;obtain⟨a2,c2,bJ,br,E,aL⟩:=HC.out z0 x hx;have cN:=E wr A.below;have cU:wr.cell? ⟨ub,G,none⟩=some (.int .i64 (z0:Int)):=by
    simp only[World.cell?,aS,Option.isSome_none,Bool.false_eq_true,if_false];have:(aX.toList.take ((G+1)*1))[G]? =(y.map intV)[G]?:=by rw[aR]
    rw[List.getElem?_take,if_pos (by omega),List.getElem?_map,K]at this;simpa[intV]using this
   obtain⟨qb,qo,eq,bN,cQ⟩:=v 0 _ rfl;subst eq;simp only[Nat.add_zero]at cQ;obtain⟨L,hL⟩:∃L,us.length=L:=⟨_,rfl⟩;have F:=A.pop;simp only[List.length_cons,hL,Option.map_some,Addr.add_lit,Nat.add_sub_cancel]at F aQ⊢;obtain⟨V6,aw⟩:∃V,Value.slice (if qc=1 then some ⟨qb,qo,none⟩else some ⟨qb,qo+1*1,none⟩) L (qc-1)=V:=⟨_,rfl⟩;rw[aw]at F;have b9:∀W:World,(Instr.sliceAt 173 (.slice (some ⟨qb,qo,none⟩) (L+1) qc) (some (.int .i64 1)) none none).run prog W = .ok V6 W:=by
    intro W;have e1:¬(L:Int)+1<1:=by omega
    rw[<-aw];simp[Instr.sliceAt,Instr.slice,run_underlying underlying173,sizeOf,typeInfo,aN,aT,Instr.sliceBounds,go_sem,e1]
   have bL:(0:Int)<(L:Int)+1:=by omega
   have bP:(z0:Int)<(N:Int):=by omega
   have bC:(0:Int)<=(z0:Int):=by omega
   obtain⟨X,B⟩:∃X,Zbax s y x q r=X:=⟨_,rfl⟩;have aH:Zkm s (ndOf ns) m y X=RES:=by
    rw[<-hE,Zfp,T,show ndOf ns z0=x by unfold ndOf;rw[hx];rfl,B]
   have HE:=hid aH;have HX:=hid B;have am:=hid F;have HW:=hid t.tail;have HM:=hid hm;have HU:=hid i;have bb:=hid aL;have bG:=hid ai;have aE:=hid (bc.out z0 x hx);have bI:=a5.out z0 x hx;have bq:=hid a3;have aF:=hid ac;have bj:=hid A.marks;have bf:Hid (L=q.length):=hid (by rw[<-hL];simpa using ab);clear ai hE aH B F t hm i aL A hq ab Y v E aw a3 ac aS ak aR K T hx al b2;unfold maxLen at b1 br;have a4:=hid (Zkc bj.out);obtain⟨WR,aJ⟩:∃V,V=wr:=⟨_,rfl⟩;rw[<-aJ]at a4 am HU;subst aJ
   go_wp2_with fail
   go_loopw [6,34] (λqv jv wq=>∃(j:Nat) (M:List (List Nat)) (C:List Bool),j<=x.length/\jv = .int .i64 (j:Int)/\Zbax s y (x.drop j) M C=X/\M.length+cntF C=q.length+cntF r/\y.length+cntF C<=N+1/\WaysOk s (ndOf ns) N M C/\RouS w n qv M C wq/\OwnInts (n+1) wq (.slice (some ⟨ub,0,none⟩) (G+1) uk) y) (λ_ jv _=>x.length-(intOf jv).toNat)
   case atStart=>exact⟨0,q,r,Nat.zero_le _,rfl,by rw[List.drop_zero];exact HX.out,rfl,aF.out,HW.out,am.out,HU.out⟩
   case round=>
    obtain⟨j,M,C,hj,rfl,B,f,J,t,A,i⟩:=hrel
    by_cases U:j<x.length
    ·obtain⟨z,hz⟩:∃z,x[j]? =some z:=⟨x[j],List.getElem?_eq_getElem U⟩
     obtain⟨eb,eo,ea,hc⟩:=bb.out j z hz;subst ea;have cz:=hc wr A.below;have aW:=aE.out z (List.mem_of_getElem? hz);rw[Zma hz,Zbax]at B;have bx:(j:Int)<(x.length:Int):=by omega
     have bK:(0:Int)<=(j:Int):=by omega
     have bO:(z:Int)<(N:Int):=by omega
     have bD:(0:Int)<=(z:Int):=by omega
     by_cases ad:z=s
     ·rw[if_pos ad]at B
      subst B;have HR:Hid (IsInts wr (.slice (some ⟨ub,0,none⟩) (G+1) uk) RES):=hid (by rw[<-HE.out];exact i.isInts);have HB:=hid A.below;have aV:(z:Int)=si:=by have:=aB.out;omega
      clear f J t A i hc hz ad;go_wp2;go_ret;exact⟨_,rfl,HR.out,HB.out⟩
     ·rw[if_neg ad]at B
      have aV:¬(z:Int)=si:=by have:=aB.out;omega
      obtain⟨b,hb⟩:∃b,C[z]? =some b:=⟨C[z]'(by rw[t.size];exact aW),List.getElem?_eq_getElem _⟩;obtain⟨cm,cf⟩:=A.marks.cell hb
      cases b
      ·rw[if_neg (by rw[hb];simp)]at B
       have aa:=t.push J bq.out aW hb;have bv:=Zkb hb;have b4:=aF.out;have bu:cntF C<=N:=by have:=List.countP_le_length (p:=λx=>x==false) (l:=C);rw[t.size]at this;exact this
       obtain⟨W1,ag⟩:∃W,wr.setCell ⟨n,z,none⟩ (.bool true)=W:=⟨_,rfl⟩;have af:=A.mark (x:=z);have aj:OwnInts (n+1) W1 (.slice (some ⟨ub,0,none⟩) (G+1) uk) y:=by
        rw[<-ag];refine Zbdo i (row:=some n) ⟨rfl,rfl,rfl,by simp[World.setCell],λk _ hk=>Below.heap_setCell wr _ _ k (λe=>hk (by rw[e]))⟩ λk e hb=>?_
        have:=(i.type hb).1;have:=Option.some.inj e;omega
       rw[ag]at af;have aq:y.length<=1001:=by omega
       have CC:=hid (Zjg _ y W1 aj.isInts (by omega));have bg:=hid af;have bk:=hid aj;have bn:=hid ag;have au:=hid B;have H:Hid ((M ++ [y ++ [z]]).length+cntF (C.set z true)=q.length+cntF r):=hid (by rw[List.length_append];simp only[List.length_cons,List.length_nil];omega);have av:Hid (y.length+cntF (C.set z true)<=N+1):=hid (by omega);have O:=hid aa;have an:=hid aq;have be:Hid (M.length<=1001):=hid (by have:=t.many;omega);have a6:Hid (n+1<=W1.heap.size):=hid af.size;clear B f J t A i hc hz hb ad aa bv b4 bu af aj ag aq
       go_wp2_with (first|(go_at_call 179;rw[bn.out];(with_reducible refine CC.out.mono ?_);rintro e w2 ⟨v2,rfl,az,ah⟩;obtain⟨p2,k2,rfl⟩:=Zbeb az;have a7:=hid (show w2.ownsRow W1.heap.size 3 1 _ _ _ from az);have ae:=hid ah;clear az ah)|(at_builtin;(refine wpList_append_own _ rfl _ _ 131 rfl W1.heap.size 3 i0 _ 1 8 underlying131 bw K b5 b6 rfl (by decide) _ _ _ rfl (World.ownsRow.alloc a7.out _) ⟨w2.heap.size,0,none⟩ 1 1 [.int .i64 (z:Int)] rfl rfl (cell_one_new _ _ _) ?qc3 ?qc4 ?qc5 ?qc6 ?_)))
       case qc3=>intro u i;simp at i;subst i;rfl
       case qc4=>have:=an.out;unfold maxLen;omega
       case qc5=>have:=an.out;omega
       case qc6=>have:=ae.out.size;simp;omega
       intro v3 w3 a0 aM _;obtain⟨p3,k3,rfl⟩:=Zbeb a0;have S:Below W1.heap.size W1 w3:=(ae.out.alloc ae.out.size _).grown aM (by have:=ae.out.size;simp;omega) (λk e=>((World.ownsRow.alloc a7.out (.cells #[.int .i64 (z:Int)] 3)).lt k e).1);have aU:=S.size;have I:=bg.out.later (below_grown (S.alloc aU (.cells #[.slice p3 (y.length+1) k3] 131)) (Nat.le_refl _));have ak:=Zbdo bk.out (below_grown (S.alloc aU (.cells #[.slice p3 (y.length+1) k3] 131)) (Nat.le_refl _)) (by simp);have ao:OwnInts (n+1) (w3.alloc (.cells #[.slice p3 (y.length+1) k3] 131)) (.slice p3 (y.length+1) k3) (y ++ [z]):=by
        have h:w3.ownsRow (n+1) 3 1 (.slice p3 (y.length+1) k3) (y.length+1) (y.map intV ++ [.int .i64 (z:Int)]):=Zbdt a0 a6.out;unfold OwnInts;rw[List.length_append,List.map_append];exact World.ownsRow.alloc h _
       obtain⟨aY,aO,ap,Z⟩:=id I.row;have b8:aY.length<=1001:=by have:=be.out;omega
       have aA:=hid I;have aC:=hid ak;have bd:=hid ao;have ar:=hid aO;have aD:=hid ap;have a8:=hid Z;have bE:=hid S;clear a0 aM S I ak ao aO ap Z
       go_wp2_with (at_builtin;refine Zbug rfl _ _ 173 rfl (n+1) 131 i1 _ 24 underlying173 aN al aT b3 rfl _ aY rfl ar.out ⟨w3.heap.size,0,none⟩ 1 (.slice p3 (y.length+1) k3) rfl ?qd1 rfl ?qd3 ?qd4 ?qd5 ?_)
       case qd1=>exact cell_one_new _ _ _ 0 _ rfl
       case qd3=>unfold maxLen;omega
       case qd4=>omega
       case qd5=>have:=a6.out;simp;omega
       intro v5 w5 aP ax _;have bi:=hid (aA.out.push ar.out aD.out a8.out bd.out aP ax);have bm:=hid (Zbdo aC.out ax (q_ne ar.out aC.out));clear aP ax;go_wp2;go_roundw
       case rel=>exact⟨j+1,_,_,by omega,by go_num,au.out,H.out,av.out,O.out,bi.out,bm.out⟩
       case measure=>simp[intOf];omega
      ·rw[if_pos hb]at B
       have au:=hid B;have H:=hid f;have av:=hid J;have O:=hid t;have HS:=hid A;have bl:=hid i;clear B f J t A i hc hz hb ad;go_wp2;go_roundw
       case rel=>exact⟨j+1,M,C,by omega,by go_num,au.out,H.out,av.out,O.out,HS.out,bl.out⟩
       case measure=>simp[intOf];omega
    ·obtain rfl:j=x.length:=by omega
     rw[List.drop_length,Zbax]at B;subst B;have ba:Hid (bfsF s (ndOf ns) m M C=RES):=HE.out;have bx:¬(x.length:Int)<(x.length:Int):=by omega
     have H:=hid f;have O:=hid t;have HS:=hid A;clear f J t A i;go_wp2;go_roundw
     case rel=>
      refine⟨M,C,m,ba.out,?_,O.out,HS.out⟩;have h1:=HM.out;rw[List.length_cons]at h1;have h2:=H.out;omega
     case measure=>
      obtain⟨b7,bz,bA,_⟩:=HS.out.row;obtain⟨_,_,e2,_⟩:=bz.shape;rw[e2,a4.out,Zkc HS.out.marks];show b7.length+cntF C<L+1+cntF r;have h1:=H.out;have h2:=bf.out;omega
theorem Zjp:∀(a b:List UInt8),Lib.compareBytes a b=0->a=b
 | [],[],_=>rfl
 | [],_::_,h=>by simp[Lib.compareBytes]at h
 | _::_,[],h=>by simp[Lib.compareBytes]at h
 | a::xs,b::ys,h=>by
  have e:Lib.compareBytes (a::xs) (b::ys)=if a<b then -1 else if b<a then 1 else Lib.compareBytes xs ys:=by rw[Lib.compareBytes]
  rw[e]at h;split at h
  ·omega
  rename_i c
  split at h
  ·omega
  rename_i d
  rw[UInt8.le_antisymm (UInt8.not_lt.1 d) (UInt8.not_lt.1 c),Zjp xs ys h]
theorem Zbnh {rs ys:List RuleS} (f:∀(i j:Nat) x y,rs[i]? =some x->rs[j]? =some y->i<j->x.name≠y.name) (s:ys.Perm rs) (u:Zac ys):ys=Zbng rs:=by
 have d:∀x∈rs,∀y∈rs,x.name=y.name->x=y:=by
  intro x hx y v e;obtain⟨i,m⟩:=List.getElem?_of_mem hx;obtain⟨j,k⟩:=List.getElem?_of_mem v
  rcases Nat.lt_trichotomy i j with h|h|h
  ·exact absurd e (f i j x y m k h)
  ·subst h;rw[m]at k;exact Option.some.inj k
  ·exact absurd e.symm (f j i y x k m h)
 have g:(Zbng rs).Perm rs:=List.mergeSort_perm _ _;have p:∀(a b c:RuleS),nmLe a b=true->nmLe b c=true->nmLe a c=true:=by
  intro a b c q r;have:=pre5.2 (a.name,(none,0,0),(none,0,0),(none,0,0),(none,0,0)) (b.name,(none,0,0),(none,0,0),(none,0,0),(none,0,0)) (c.name,(none,0,0),(none,0,0),(none,0,0),(none,0,0)) q r;exact this
 have o:∀(a b:RuleS),(nmLe a b||nmLe b a)=true:=by
  intro a b;unfold nmLe;have:=Zjv a.name.data.toList b.name.data.toList;rw[Bool.or_eq_true,decide_eq_true_eq,decide_eq_true_eq];omega
 have n:(Zbng rs).Pairwise λx y=>Lib.compareBytes x.name.data.toList y.name.data.toList<=0:=(List.pairwise_mergeSort p o rs).imp λh=>of_decide_eq_true h
 refine List.Perm.eq_of_pairwise (λa b t l q r=>?_) u n (s.trans g.symm);refine d a (s.mem_iff.1 t) b (g.mem_iff.1 l) (Zgy (Zjp _ _ ?_));have:=Zjv a.name.data.toList b.name.data.toList;omega
theorem Zkf (y:Nat) (v:Value) (rs:List RuleS) (w:World) (A:Boxed w y 22 v) (I:RulesI w v rs) (hn:rs.length<=1000000):
  Calls prog 172 #[.func (.func 174) #[] #[.pointer (some ⟨y,0,none⟩)]] w λe w'=>∃u d,e = .returned u/\AllA (RuleI w) d rs/\w'.ownsRow w.heap.size 50 5 u d.length d.flatten/\Below w.heap.size w w':=by
 obtain⟨d,k,f⟩:=I;obtain⟨a,c,rfl,G,F,i⟩:=id k;have z:∀r∈d,∃s S O J T P K U Q L V R M,r = [.string s,.slice S O J,.slice T P K,.slice U Q L,.slice V R M]:=by
  intro r H;obtain⟨j,B⟩:=List.getElem?_of_mem H;obtain⟨x,hx⟩:∃x,rs[j]? =some x:=⟨rs[j]'(by rw[<-f.1];exact(List.getElem?_eq_some_iff.1 B).1),List.getElem?_eq_getElem _⟩;obtain⟨⟨n,⟨W,b1,c1⟩,⟨X,b2,c2⟩,⟨Y,b3,c3⟩,⟨Z,b4,c4⟩⟩,e,_⟩:=Zbit (f.2 j r x B hx);exact⟨_,_,_,_,_,_,_,_,_,_,_,_,_,e⟩
 have D:=hid ((callsIn_wide (n:=5)).1 (Zdo 5 y (by omega) a c d w A k z (if d = []then none else a) (λh=>by rw[if_neg h]) (λg p=>by
  by_cases h:d = []
  ·rw[if_pos h]at p;cases p
  ·rw[if_neg h]at p
   obtain⟨b,o,rfl,t,_⟩:=i h;obtain rfl:b=g:=by simpa using p
   exact t) (by rw[f.1];omega)))
 have l:=hid f;clear A k f i z
 go_enter func172,ntmps172
 go_wp2_with (go_at_call 223;(with_reducible refine D.out.mono ?_);rintro e w2 ⟨u,rfl,C,m⟩;have E:=hid C;have q:=hid m;clear C m)
 go_ret;exact⟨_,d,rfl,l.out,E.out,q.out⟩
theorem Zbmn (k:Nat) (v:Value) (rs:List RuleS) (w:World) (l:Boxed w k 22 v) (p:RulesI w v rs) (m:rs.length<=1000000):
  Calls prog 122 #[.func (.func 174) #[] #[.pointer (some ⟨k,0,none⟩)],.func (.func 124) #[] #[]] w λe w'=>∃u ys,e = .returned u/\ys.Perm rs/\Zac ys/\RulesI w' u ys/\Below w.heap.size w w':=by
 have q:=hid (Zkf k v rs w l p m);clear l p
 go_enter func122,ntmps122
 go_wp2_with (first
  | (go_at_call 172;(with_reducible refine q.out.mono ?_);rintro e t ⟨u,g,rfl,a,n,b⟩;have r:=hid (Zbmh w.heap.size u rs g w t rfl b n a m);clear a n b)
  | (go_at_call 173;(with_reducible refine r.out.mono ?_);rintro e x ⟨rfl,ys,o,d,f,c⟩;have s:=hid o;have i:=hid d;have j:=hid f;have h:=hid c;clear o d f c))
 go_ret;exact⟨_,ys,rfl,s.out,i.out,j.out,h.out⟩
theorem Zbaj (ys:List RuleS):ndOf ((List.range ys.length).map (Zban ys))=Zban ys:=by
 funext k
 unfold ndOf
 by_cases h:k<ys.length
 ·rw[List.getElem?_map,List.getElem?_range h];rfl
 ·rw[List.getElem?_eq_none (by simp;omega)]
  unfold Zban Zta Zcs;rw[List.getElem?_eq_none (by omega)];simp[srtN]
theorem Zbap {ys:List RuleS} (a:∀r∈ys,SmallR r 1048576) (k:Nat):(Zban ys k).length<=2097152:=by
 unfold Zban;rw[Zbnf,List.length_append];have b:(Zta ys k).length<=1048576:=by
  unfold Zta
  cases h:ys[k]? with
  | none=>simp
  | some x=>exact(a x (List.mem_of_getElem? h)).ins.1
 have c:(Zcs ys k).length<=1048576:=by
  unfold Zcs
  cases h:ys[k]? with
  | none=>simp
  | some x=>exact(a x (List.mem_of_getElem? h)).after.1
 have d:=List.length_filterMap_le (mkrN ys ys.length) (Zta ys k);have e:=List.length_filterMap_le (plcN ys ys.length) (Zcs ys k);omega
theorem NeedsIs.below {w w':World} {v:Value} {ns:List (List Nat)} (h:NeedsIs w v ns) (a:Below w.heap.size w w'):NeedsIs w' v ns:=by
 obtain⟨g,e,b,d⟩:=h;refine⟨g,e,Nat.lt_of_lt_of_le b a.size,λk x hx=>?_⟩;obtain⟨u,f,c⟩:=d k x hx;exact⟨u,(a.cell (p:=⟨g,k,none⟩) b).trans f,c.below a⟩
theorem Zbso (a:Option Addr) (n c:Nat) (w:World):Calls prog 123 #[.slice a n c] w λe w'=>e = .returned (.func (.func 174) #[] #[.pointer (some ⟨w.heap.size,0,none⟩)])/\w'=w.alloc (.cells #[.slice a n c] 22):=by
 go_enter func123,ntmps123
 go_wp2;go_ret;exact⟨rfl,rfl⟩
theorem Zow (v:Value) (rs:List RuleS) (w:World) (hv:RulesI w v rs) (hs:∀r∈rs,SmallR r 1048576) (hn:rs.length<=1000) (ad:∀(i j:Nat) x y,rs[i]? =some x->rs[j]? =some y->i<j->x.name≠y.name):
  Calls prog 87 #[v] w λe w'=>∃u,e = .returned u/\IsStrs w' u (Zot (Zbng rs))/\Below w.heap.size w w':=by
 obtain⟨va,vc,rfl,_,_⟩:=Zbjn hv;have B:Below w.heap.size w (w.alloc (.cells #[.slice va rs.length vc] 22)):=(Below.refl _ _).alloc (Nat.le_refl _) _;have CV:=hid (Zbso va rs.length vc w);have CS:=hid (Zbmn w.heap.size (.slice va rs.length vc) rs _ (Boxed.new w 22 (.slice va rs.length vc)) (hv.below B) (by omega));obtain⟨YS,m⟩:∃Y,Zbng rs=Y:=⟨_,rfl⟩;have Z:∀ys:List RuleS,ys.Perm rs->Zac ys->YS=ys:=λys h1 h2=>by rw[<-m];exact(Zbnh ad h1 h2).symm
 have A:YS.Perm rs:=by rw[<-m];exact List.mergeSort_perm _ _
 have z:YS.length<=1000:=by rw[A.length_eq];exact hn
 have aa:∀r∈YS,SmallR r 1048576:=λr hr=>hs r (A.mem_iff.1 hr)
 rw[m];have ao:=hid Z;have V:=hid aa;have J:=hid B;obtain⟨N,hN⟩:∃N,YS.length=N:=⟨_,rfl⟩;obtain⟨t,hR⟩:∃R,Zot YS=R:=⟨_,rfl⟩;have HR:Hid ((fcL (Zban YS) YS.length (List.range YS.length)).map (nmAt YS)=t):=hR;rw[hR];have d:=hid hN;rw[hN]at z;clear hv hs ad Z aa B m A hR hN
 go_enter func87,ntmps87
 go_wp2_with (first
  | (go_at_call 123;(with_reducible refine CV.out.mono ?_);rintro e w1 ⟨rfl,rfl⟩)
  | (go_at_call 122;(with_reducible refine CS.out.mono ?_);rintro e w2 ⟨u,ys,rfl,hp,ac,G,ab⟩;have eY:=ao.out ys hp ac;subst eY;obtain⟨ua,uc,rfl,ar,av⟩:=Zbjn G;have T:=hid G;have K:=hid (J.out.trans (ab.mono J.out.size));clear hp ac G ab;rw[d.out]at ar⊢;have CN:=hid (Zbau (.slice ua N uc) _ w2 (by rw[<-d.out];exact T.out) V.out (by rw[d.out];exact z)))
  | (go_at_call 126;(with_reducible refine CN.out.mono ?_);rintro e w3 ⟨nv,rfl,ae,C⟩;have al:=hid ae;have M:=hid (K.out.trans (C.mono K.out.size));have U:=hid (T.out.below C);clear ae C))
 have O:Hid (∀W,Below w3.heap.size w3 W->Below w.heap.size w W):=hid λW hW=>M.out.trans (hW.mono M.out.size)
 have af:((List.range YS.length).map (Zban YS)).length=N:=by rw[List.length_map,List.length_range,d.out]
 have o:ndOf ((List.range YS.length).map (Zban YS))=Zban YS:=Zbaj YS;have g:=hid af;have P:=hid o;clear af o
 go_loopw [13] (λiv wr=>∃k:Nat,k<=N/\iv = .int .i64 (k:Int)/\fcL (Zban YS) N ((List.range N).drop k)=fcL (Zban YS) N (List.range N)/\Below w3.heap.size w3 wr) (λiv _=>N-(intOf iv).toNat)
 case atStart=>exact⟨0,Nat.zero_le _,rfl,by rw[List.drop_zero],Below.refl _ _⟩
 case round=>
  obtain⟨k,hk,rfl,I,hb⟩:=hrel
  by_cases D:k<N
  ·have hd:(List.range N).drop k=k::(List.range N).drop (k+1):=Zma (List.getElem?_range D)
   rw[hd,fcL]at I;have H:=Zbhy k nv _ wr (al.out.below hb) (λx hx y hy=>by
    obtain⟨j,_,rfl⟩:=List.mem_map.1 hx;rw[g.out,<-d.out];exact Zbaq hy) (by rw[g.out];exact D) (by rw[g.out];exact z) (λx hx=>by
    obtain⟨j,_,rfl⟩:=List.mem_map.1 hx;have:=Zbap V.out j;omega)
   rw[P.out,g.out]at H;have E:=Zbib (nd:=Zban YS) (N:=N) (λx _ y hy=>by rw[<-d.out];exact Zbaq hy) D;obtain⟨X,hP⟩:∃Q,Zbhz k (Zban YS) N=Q:=⟨_,rfl⟩;rw[hP]at H I E;have H:=hid H;have n:=hid hb;have HF:=hid I;have S:=hid E;have ap:(k:Int)<(N:Int):=by omega
   clear hb I E hP hd
   by_cases l:X = []
   ·subst l
    have s:Hid (fcL (Zban YS) N ((List.range N).drop (k+1))=fcL (Zban YS) N (List.range N)):=hid (by have:=HF.out;rwa [if_pos rfl]at this)
    go_wp2_with (go_at_call 127;(with_reducible refine H.out.mono ?_);rintro e w4 ⟨pv,rfl,c,b⟩;obtain⟨pa,pc,rfl,F,aq,a⟩:=c.at;simp only[List.length_nil]at F⊢;have f:=hid (n.out.trans (b.mono n.out.size));clear c b a)
    go_roundw
    case rel=>exact⟨k+1,by omega,by go_num,s.out,f.out⟩
    case measure=>simp[intOf];omega
   ·have s:Hid (X.map (nmAt YS)=t):=hid (by have:=HF.out;rw[if_neg l]at this;rw[<-HR.out,d.out,<-this])
    have ag:0<X.length:=List.length_pos_iff.2 l;obtain⟨L,hL⟩:∃L,X.length=L:=⟨_,rfl⟩;rw[hL]at ag;have au:(0:Int)<(L:Int):=by omega
    have HL:=hid hL;clear l hL
    go_wp2_with (first
     | (go_at_call 127;(with_reducible refine H.out.mono ?_);rintro e w4 ⟨pv,rfl,c,b⟩;have q:=c;obtain⟨pa,pc,rfl,F,aq,a⟩:=c.at;rw[HL.out]at F⊢;have f:=hid (n.out.trans (b.mono n.out.size));have aj:=hid (Zzy (.slice ua N uc) (.slice pa L pc) YS X w4 (by rw[<-d.out];exact U.out.below (n.out.trans (b.mono n.out.size))) (by rw[<-HL.out];exact q) (λp hp=>by rw[d.out];exact S.out.1 p hp) (by rw[d.out];omega) (by have:=S.out.2;omega));clear c q b a)
     | (go_at_call 128;(with_reducible refine aj.out.mono ?_);rintro e w5 ⟨uv,rfl,ai,hb5⟩;have an:=hid ai;have ak:=hid (f.out.trans (hb5.mono f.out.size));clear ai hb5))
    go_ret;exact⟨_,rfl,by rw[<-s.out];exact an.out,O.out _ ak.out⟩
  ·obtain rfl:k=N:=by omega
   have ap:¬(k:Int)<(k:Int):=by omega
   have ah:t = []:=by
    rw[<-HR.out,d.out,<-I,List.drop_of_length_le (by simp)];rfl
   have am:=hid ah;have n:=hid hb;clear ah I hb;go_wp2;go_ret;exact⟨_,rfl,by rw[am.out];exact⟨none,0,rfl,Nat.le_refl _,Nat.zero_le _,λh=>absurd rfl h⟩,O.out _ n.out⟩
