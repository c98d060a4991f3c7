import Derived.Test.YtphjfaoghphleaaGreatDoorMay
import Derived.Test.YtphjfaoghphleaaGreatDoorMas
set_option maxRecDepth 100000
set_option maxHeartbeats 8000000
namespace Go.Proofs.YtphjfaoghphleaaGreatDoor
open Go.Lib (hid)
open Go.Proofs.Tryz Go.RowKit Go.Shelf Go.Maps
theorem Zni (v:Value) (rs:List RuleS) (w:World) (d:RulesI w v rs) (c:∀r∈rs,SmallR r 1048576) (h0:(Zet rs).1=0):Zar v w (Zot (Zbng rs)):=by
 intro W b;have a:=Zbcj h0;exact Zow v rs W (d.below b) c (by have:=a.few;omega) a.names
theorem Zou (ys:List RuleS):(Zot ys).length<=ys.length+1:=by
 unfold Zot;rw[List.length_map];have:∀l:List Nat,(∀s∈l,s<ys.length)->(fcL (Zban ys) ys.length l).length<=ys.length+1:=by
  intro l
  induction l with
  | nil=>intro _;simp[fcL]
  | cons s l d=>
   intro h;unfold fcL;split
   ·exact d λt b=>h t (by simp[b])
   ·exact(Zbib (λx _ y c=>Zbaq c) (h s (by simp))).2
 exact this _ λs a=>by simpa using a
theorem Zja (v:Value) (rs:List RuleS) (w:World) (b:RulesI w v rs) (a:∀r∈rs,SmallR r 1048576) (d:rs.length<=1000) (c:MayW w):
  Calls prog 50 #[v] w λe w'=>e = .returned (.tuple #[.int .i64 (allB rs (Zot (Zbng rs))).1,.string (allB rs (Zot (Zbng rs))).2])/\Below w.heap.size w w':=
 Ziq v rs _ w b a (by omega) c (Zni v rs w b a) (by have:=Zou (Zbng rs);have:(Zbng rs).length=rs.length:=List.length_mergeSort _;omega)
theorem Zbet {α:Type} {R:α->α->Prop} {l:List α}:l.Pairwise R↔∀(i j:Nat) x y,l[i]? =some x->l[j]? =some y->i<j->R x y:=by
 grind [List.pairwise_iff_getElem]
theorem OkTog.perm {rs ys:List RuleS} (h:OkTog rs) (b:ys.Perm rs):OkTog ys:=by
 refine⟨λr c=>h.each r (b.mem_iff.1 c),by rw[b.length_eq];exact h.few,?_,λr c=>h.own r (b.mem_iff.1 c),?_,λr c a d=>?_⟩
 ·exact Zbet.1 ((b.pairwise_iff (R:=λx y:RuleS=>x.name≠y.name) (λh e=>h e.symm)).2 (Zbet.2 h.names))
 ·exact Zbet.1 ((b.pairwise_iff (R:=λx y:RuleS=>∀a∈x.outs,a∉y.outs) (λh a d f=>h a f d)).2 (Zbet.2 h.files))
 ·obtain⟨x,hx,e⟩:=h.after r (b.mem_iff.1 c) a d
  grind
def Zbl (x y:RuleS):Prop:=(∃a∈x.ins,a∈y.outs)\/y.name∈x.after
theorem Zbao {rs:List RuleS} (h:OkTog rs) {i j:Nat}:j∈Zban rs i↔∃x y,rs[i]? =some x/\rs[j]? =some y/\Zbl x y:=by
 rw[Zbar];constructor
 ·intro f
  have hx:∃x,rs[i]? =some x:=by
   cases e:rs[i]? with
   | some x=>grind
   | none=>
    simp_all[Zta,Zcs]
  obtain⟨x,hx⟩:=hx
  rcases f with⟨a,b,k⟩|⟨a,b,k⟩
  ·obtain⟨g,d⟩:=Zzi k
   have c:=List.getElem?_eq_getElem g;rw[Zbdh c]at d;unfold Zta at b;rw[hx]at b;exact⟨x,_,hx,c,.inl ⟨a,b,d⟩⟩
  ·obtain⟨g,d⟩:=Zbfe k
   have c:=List.getElem?_eq_getElem g;unfold nmAt at d;rw[c]at d;unfold Zcs at b;rw[hx]at b;simp only[Option.map_some,Option.getD_some]at d b;exact⟨x,_,hx,c,.inr (by rw[<-d];exact b)⟩
 ·rintro⟨x,y,hx,c,f⟩
  have l:=(List.getElem?_eq_some_iff.1 c).1
  rcases f with⟨a,b,m⟩|f
  ·exact .inl ⟨a,by unfold Zta;rw[hx];exact b,Zzh h c m l (Nat.le_refl _)⟩
  ·exact .inr ⟨_,by unfold Zcs;rw[hx];exact f,Zbfd h c l (Nat.le_refl _)⟩
inductive RchR (rs:List RuleS):RuleS->RuleS->Prop
 | one {x y:RuleS}:x∈rs->y∈rs->Zbl x y->RchR rs x y
 | more {x y z:RuleS}:RchR rs x y->z∈rs->Zbl y z->RchR rs x z
theorem RchR.mem {rs:List RuleS} {x y:RuleS} (h:RchR rs x y):y∈rs:=by cases h<;>assumption
theorem Zbgu {rs:List RuleS} (h:OkTog rs) {i j:Nat} (g:Rch (Zban rs) i j):∃x y,rs[i]? =some x/\rs[j]? =some y/\RchR rs x y:=by
 induction g with
 | one c=>
  obtain⟨x,y,hx,b,d⟩:=(Zbao h).1 c;exact⟨x,y,hx,b,.one (List.mem_of_getElem? hx) (List.mem_of_getElem? b) d⟩
 | more _ c k=>
  obtain⟨x,y,hx,b,d⟩:=k;obtain⟨l,z,a,f,e⟩:=(Zbao h).1 c;rw[b]at a;obtain rfl:=Option.some.inj a;exact⟨x,z,hx,f,.more d (List.mem_of_getElem? f) e⟩
theorem Zbjw {rs:List RuleS} (h:OkTog rs) {x y:RuleS} (d:RchR rs x y):∀i j,rs[i]? =some x->rs[j]? =some y->Rch (Zban rs) i j:=by
 induction d with
 | one _ _ a=>intro i j hx e;exact .one ((Zbao h).2 ⟨_,_,hx,e,a⟩)
 | more c _ a g=>
  intro i j hx f;obtain⟨k,b⟩:=List.getElem?_of_mem c.mem;exact .more (g i k hx b) ((Zbao h).2 ⟨_,_,b,f,a⟩)
theorem RchR.perm {rs ys:List RuleS} (c:ys.Perm rs) {x y:RuleS} (h:RchR rs x y):RchR ys x y:=by
 induction h with
 | one d a b=>exact .one (c.mem_iff.2 d) (c.mem_iff.2 a) b
 | more _ a b e=>exact .more e (c.mem_iff.2 a) b
theorem Zcm {rs ys:List RuleS} (h:OkTog rs) (b:ys.Perm rs) (d:∀s,s<ys.length->¬Rch (Zban ys) s s):∀s,s<rs.length->¬Rch (Zban rs) s s:=by
 intro s _ f;obtain⟨x,y,hx,c,e⟩:=Zbgu h f;rw[hx]at c;obtain rfl:=Option.some.inj c;obtain⟨i,a⟩:=List.getElem?_of_mem (b.mem_iff.2 (List.mem_of_getElem? hx));exact d i (List.getElem?_eq_some_iff.1 a).1 (Zbjw (h.perm b) (e.perm b) i i a a)
theorem Zcl {rs:List RuleS} (h:OkTog rs) (a:Zot (Zbng rs) = []):∀s,s<rs.length->¬Rch (Zban rs) s s:=
 Zcm h (List.mergeSort_perm _ _) (Zov a)
theorem Zbwe {n:Nat} {p:Nat->Bool} (h:∀k,k<n->p k=false):(List.range n).find? p=none:=by
 rw[List.find?_eq_none];intro k a;rw[h k (by simpa using a)];decide
theorem Zbvb:∀ {ks L:List ByteArray},ks.Nodup->(∀k∈ks,k∉L)->(addS L ks).length=L.length+ks.length
 | [],L,_,_=>by simp[addS]
 | k::ks,L,hn,hd=>by
  have e:addS L (k::ks)=addS (insS L k) ks:=rfl;have d:insS L k=L ++ [k]:=by unfold insS;rw[if_neg (λh=>hd k (by simp) (Zsj.1 h))]
  obtain⟨f,g⟩:=List.nodup_cons.1 hn;rw[e,Zbvb g (λa c b=>?_),d]
  ·simp only[List.length_append,List.length_cons,List.length_nil];omega
  ·rw[d]at b
   rcases List.mem_append.1 b with b|b
   ·exact hd a (by simp[c]) b
   ·obtain rfl:a=k:=by simpa using b
    exact f c
theorem Zbya {rs:List RuleS} {k:Nat} {x:RuleS} (h:x∈rs.take k):∃i,i<k/\rs[i]? =some x:=by
 obtain⟨i,a⟩:=List.getElem?_of_mem h;rw[List.getElem?_take]at a;split at a
 ·exact⟨i,by assumption,a⟩
 ·cases a
theorem Zbxz {rs:List RuleS} (n:∀(i j:Nat) x y,rs[i]? =some x->rs[j]? =some y->i<j->x.name≠y.name) (o:∀r∈rs,r.outs.Nodup) (h:∀(i j:Nat) x y,rs[i]? =some x->rs[j]? =some y->i<j->∀a∈x.outs,a∉y.outs):(List.range rs.length).find? (takP rs)=none:=by
 refine Zbwe λk l=>?_
 have hx:=List.getElem?_eq_getElem l;unfold takP;rw[hx];simp only[Option.map_some,Option.getD_some];unfold takB;rw[Bool.or_eq_false_iff];constructor
 ·cases e:inS (nmS (rs.take k)) rs[k].name with
  | false=>rfl
  | true=>
   obtain⟨y,f,c⟩:=Zbbb.1 (Zsj.1 e);obtain⟨i,b,d⟩:=Zbya f;exact absurd c.symm (n i k y _ d hx b)
 ·rw[Zbvb (o _ (List.getElem_mem _)) (λa g m=>?_)]
  ·simp
  ·obtain⟨y,f,c⟩:=Zpk.1 m
   obtain⟨i,b,d⟩:=Zbya f;exact h i k y _ d hx b a c g
theorem Zbxq {rs:List RuleS} (h:∀r∈rs,Zbip r=0):rs.find? (λr=> !decide (Zbip r=0))=none:=by
 rw[List.find?_eq_none];intro r a;simp[h r a]
theorem OkTog.before {rs:List RuleS} (h:OkTog rs):Zet rs=(0,⟨#[]⟩):=by
 unfold Zet;rw[Zbxq h.each];simp only;rw[if_neg (by have:=h.few;omega),Zbxz h.names h.own h.files];simp only;have b:(List.range rs.length).find? (astP rs)=none:=by
  refine Zbwe λk c=>?_
  unfold astP;rw[List.getElem?_eq_getElem c];simp only[Option.map_some,Option.getD_some,Bool.not_eq_false',List.all_eq_true];intro a d;exact Zsj.2 (Zbbb.2 (h.after _ (List.getElem_mem _) a d))
 rw[b]
theorem Zbxe {rs:List RuleS}:(Zet rs).1=0↔OkTog rs:=⟨Zbcj,λh=>by rw[h.before]⟩
theorem Zbxp (r:RuleS):Zbip r=0\/Zbip r=1\/Zbip r=2\/Zbip r=4:=by
 unfold Zbip
 repeat' split
 all_goals simp
theorem Zbve (rs:List RuleS):(Zet rs).1=0\/(Zet rs).1=1\/(Zet rs).1=2\/(Zet rs).1=4:=by
 unfold Zet;split
 ·exact Zbxp _
 ·split
  ·exact .inr (.inr (.inr rfl))
  ·split
   ·exact .inr (.inr (.inl rfl))
   ·split
    ·exact .inr (.inr (.inl rfl))
    ·exact .inl rfl
def Zbvn (rs:List RuleS):Int:=(allB rs (Zot (Zbng rs))).1
theorem Zbvp {rs:List RuleS} (h:(Zet rs).1≠0):allB rs (Zot (Zbng rs))=Zet rs:=by
 unfold allB;rw[if_neg h]
theorem Zbvr {rs:List RuleS} (h:OkTog rs):Zbvn rs=if Zot (Zbng rs) = []then 0 else 3:=by
 unfold Zbvn allB;rw[if_pos (Zbxe.2 h)]
 cases Zot (Zbng rs)with
 | nil=>rfl
 | cons x l=>rfl
theorem Zbvq (rs:List RuleS):(OkTog rs/\(Zbvn rs=0\/Zbvn rs=3))\/(¬OkTog rs/\Zbvn rs≠0/\Zbvn rs≠3):=by
 by_cases h:OkTog rs
 ·refine .inl ⟨h,?_⟩
  rw[Zbvr h];split<;>simp
 ·have a:(Zet rs).1≠0:=λe=>h (Zbxe.1 e)
  refine .inr ⟨h,?_⟩;unfold Zbvn;rw[Zbvp a];have:=Zbve rs;omega
theorem Zbxb {s:Nat} {a:List Nat}:∀ {xs:List Nat} {q:List (List Nat)} {r:List Bool},Zbax s a xs q r=none->s∈xs
 | [],_,_,h=>by simp[Zbax]at h
 | x::xs,q,r,h=>by
  unfold Zbax at h;split at h
  ·rename_i e;exact e▸List.mem_cons_self
  ·split at h<;>exact List.mem_cons_of_mem _ (Zbxb h)
theorem Zbxc {s:Nat} {a:List Nat} {P:Nat->Prop}:∀ {xs:List Nat} {q:List (List Nat)} {r:List Bool} {c:List (List Nat)} {e:List Bool},Zbax s a xs q r=some (c,e)->(∀x∈xs,P x)->(∀w∈q,P (w.getLastD 0))->∀w∈c,P (w.getLastD 0)
 | [],q,r,c,e,h,_,hq=>by
  simp only[Zbax,Option.some.injEq,Prod.mk.injEq]at h;rw[<-h.1];exact hq
 | x::xs,q,r,c,e,h,hx,hq=>by
  unfold Zbax at h;split at h
  ·cases h
  ·split at h
   ·exact Zbxc h (λy d=>hx y (by simp[d])) hq
   ·refine Zbxc h (λy d=>hx y (by simp[d])) (λw b=>?_)
    rcases List.mem_append.1 b with b|b
    ·exact hq w b
    ·obtain rfl:w=a ++ [x]:=by simpa using b
     have:(a ++ [x]).getLastD 0=x:=by simp
     rw[this];exact hx x (by simp)
theorem Zbvf {s:Nat} {nd:Nat->List Nat}:∀(n:Nat) (q:List (List Nat)) (r:List Bool),(∀w∈q,w.getLastD 0=s\/Rch nd s (w.getLastD 0))->bfsF s nd n q r≠[]->Rch nd s s
 | 0,_,_,_,h=>absurd (by simp[bfsF]) h
 | _+1,[],_,_,h=>absurd (by simp[bfsF]) h
 | n+1,w::q,r,hq,h=>by
  rw[Zfp]at h;have a:=hq w (by simp);have d:∀x∈nd (w.getLastD 0),x=s\/Rch nd s x:=by
   intro x hx
   rcases a with e|e
   ·rw[e]at hx;exact .inr (.one hx)
   ·exact .inr (.more e hx)
  cases e:Zbax s w (nd (w.getLastD 0)) q r with
  | none=>
   have c:=Zbxb e
   rcases a with b|b
   ·rw[b]at c;exact .one c
   ·exact .more b c
  | some p=>
   rw[e]at h;obtain⟨f,g⟩:=p;exact Zbvf n f g (Zbxc (P:=λx=>x=s\/Rch nd s x) e d (λw a=>hq w (by simp[a]))) h
theorem Zbxn {s N:Nat} {nd:Nat->List Nat} (h:Zbhz s nd N≠[]):Rch nd s s:=by
 refine Zbvf _ _ _ (λw a=>?_) h;obtain rfl:w = [s]:=by simpa using a
 exact .inl rfl
theorem Zbwc {nd:Nat->List Nat} {N:Nat}:∀ {l:List Nat},(∀s∈l,Zbhz s nd N = [])->fcL nd N l = []
 | [],_=>rfl
 | a::l,h=>by
  unfold fcL;rw[if_pos (h a (by simp))];exact Zbwc λs b=>h s (by simp[b])
theorem Zbwf {rs:List RuleS} (h:∀s,s<rs.length->¬Rch (Zban rs) s s):Zot rs = []:=by
 unfold Zot;rw[Zbwc (λs b=>?_)]
 ·rfl
 ·exact Classical.byContradiction λa=>h s (by simpa using b) (Zbxn a)
theorem Zbvs {rs:List RuleS}:Zbvn rs=0↔OkTog rs/\∀s,s<rs.length->¬Rch (Zban rs) s s:=by
 constructor
 ·intro h
  rcases Zbvq rs with⟨a,_⟩|⟨_,c,_⟩
  ·refine⟨a,Zcl a ?_⟩
   rw[Zbvr a]at h;split at h
   ·assumption
   ·omega
  ·exact absurd h c
 ·rintro⟨a,d⟩
  have b:(Zbng rs).Perm rs:=List.mergeSort_perm _ _;rw[Zbvr a,if_pos];exact Zbwf (Zcm (a.perm b) b.symm d)
theorem Zbcl {l:List ByteArray}:Zbck l=true↔l.Nodup:=by
 unfold Zbck;constructor
 ·grind [Zcn]
 ·intro h
  have:∀(l L:List ByteArray),l.Nodup->(∀k∈l,k∉L)->(addS L l).length=L.length+l.length:=by
   intro l
   induction l with
   | nil=>intro L _ _;simp[addS]
   | cons k ks d=>
    intro L a b;have c:insS L k=L ++ [k]:=by simp_all[Zsj,insS]
    have e:addS L (k::ks)=addS (insS L k) ks:=rfl
    grind
  grind
theorem Zbrq {l:List ByteArray}:Zch l↔¬l.Nodup:=by
 constructor
 ·rintro⟨i,j,b,a,e⟩ d
  grind [List.pairwise_iff_getElem]
 ·intro h
  refine Classical.byContradiction λhx=>h ?_
  refine List.pairwise_iff_getElem.2 λj i c a b e=>hx ⟨i,j,b,a,?_⟩
  grind
theorem Zpq (x:RuleS):Zpo x=true↔Zav x:=by
 unfold Zpo Zav nmsR nmsS;simp only[Bool.and_eq_true,List.all_eq_true,decide_eq_true_eq,Zbnm,Zyt,List.mem_append,List.mem_singleton,List.mem_flatten,List.mem_map,okN]
 grind [List.getElem?_of_mem]
theorem Zfs (x:RuleS):Zbkx x=true↔¬BigX x:=by
 grind [Zbkx,BigX]
theorem Zpn (c:List ByteArray):∀(l:List StepS) (T M:List ByteArray),Zpm c T M l=true↔
  (∀(k:Nat) y,l[k]? =some y->(∀a∈y.args,a∈T\/a∈(l.take k).map StepS.out)/\y.out∉T/\y.out∉(l.take k).map StepS.out)/\∀a∈c,a∈M\/a∈l.map StepS.out
 | [],T,M=>by
  unfold Zpm;simp only[List.all_eq_true,Zsj,List.getElem?_nil,reduceCtorEq,false_implies,implies_true,true_and,List.map_nil,List.not_mem_nil,or_false]
 | s::r,T,M=>by
  have g:∀a,a∈addS T [s.out]↔a∈T\/a=s.out:=λa=>by rw[Zcp];simp
  have p:∀a,a∈addS M [s.out]↔a∈M\/a=s.out:=λa=>by rw[Zcp];simp
  unfold Zpm
  by_cases h:s.args.all (inS T)=true/\inS T s.out=false
  ·rw[if_pos h,Zpn c r]
   obtain⟨q,t⟩:=h;simp only[List.all_eq_true,Zsj]at q;have o:s.out∉T:=λd=>by rw[Zsj.2 d]at t;cases t
   constructor
   ·rintro⟨i,n⟩
    refine⟨λk y m=>?_,λa b=>?_⟩
    ·cases k with
     | zero=>
          obtain rfl:s=y:=by simpa using m
          exact⟨λa b=> .inl (q a b),o,by simp⟩
     | succ k=>
      obtain⟨e,f,j⟩:=i k y (by simpa using m);refine⟨λa b=>?_,λd=>f ((g _).2 (.inl d)),?_⟩
      ·rcases e a b with h|h
       ·rcases(g a).1 h with h|h
        ·exact .inl h
        ·right;rw[List.take_succ_cons,List.map_cons];simp[h]
       ·right;rw[List.take_succ_cons,List.map_cons];exact List.mem_cons_of_mem _ h
      ·rw[List.take_succ_cons,List.map_cons]
       intro d
       rcases List.mem_cons.1 d with h|h
       ·exact f ((g _).2 (.inr h))
       ·exact j h
    ·rcases n a b with h|h
     ·rcases(p a).1 h with h|h
      ·exact .inl h
      ·right;simp[h]
     ·right;rw[List.map_cons];exact List.mem_cons_of_mem _ h
   ·rintro⟨i,n⟩
    refine⟨λk y m=>?_,λa b=>?_⟩
    ·obtain⟨e,f,j⟩:=i (k+1) y (by simpa using m)
     rw[List.take_succ_cons,List.map_cons]at e j;refine⟨λa b=>?_,λd=>?_,λd=>j (List.mem_cons_of_mem _ d)⟩
     ·rcases e a b with h|h
      ·exact .inl ((g a).2 (.inl h))
      ·rcases List.mem_cons.1 h with h|h
       ·exact .inl ((g a).2 (.inr h))
       ·exact .inr h
     ·rcases(g _).1 d with h|h
      ·exact f h
      ·exact j (by rw[h];simp)
    ·rcases n a b with h|h
     ·exact .inl ((p a).2 (.inl h))
     ·rw[List.map_cons]at h
      rcases List.mem_cons.1 h with h|h
      ·exact .inl ((p a).2 (.inr h))
      ·exact .inr h
  ·rw[if_neg h]
   refine⟨λh=>absurd h (by decide),λ⟨i,_⟩=>absurd ?_ h⟩;obtain⟨e,f,_⟩:=i 0 s rfl;refine⟨?_,?_⟩
   ·simp only[List.all_eq_true,Zsj]
    intro a b
    rcases e a b with h|h
    ·exact h
    ·simp at h
   ·cases u:inS T s.out with
    | false=>rfl
    | true=>exact absurd (Zsj.1 u) f
theorem Zbaf (x:RuleS):Zbac x=true↔Zbj x:=by
 have i:∀(l:List ByteArray) a,a∈addS [] l↔a∈l:=by grind [Zcp]
 unfold Zbac Zbj Zcd Zbdi;simp only[Bool.and_eq_true,Zbcl,Zbrq,Classical.not_not,Zok,Zpn,Bool.not_eq_true',Zoj,List.take_length];have f:inS (addS [] x.after) x.name=false↔x.name∉x.after:=by grind [Zsj]
 rw[f];constructor
 ·rintro⟨⟨⟨⟨b,c⟩,d⟩,e⟩,g,h⟩
  refine⟨b,c,d,e,λk y n=>?_,λa j=>?_⟩
  ·grind
  ·have m:a∈x.steps.map StepS.out:=by
    grind
   grind [List.getElem?_of_mem]
 ·grind
theorem Zbiq (x:RuleS):RuleC x (Zbip x):=by
 unfold Zbip RuleC;have f:=Zpq x;have s:=Zfs x;have n:=Zbaf x
 cases a:Zpo x with
 | false=>grind
 | true=>grind
theorem Zclk {w:World} {g o n c:Nat} {a:List (List Value)} (h:IsRow w (.slice (some ⟨g,o,none⟩) n c) 5 a) (H:∀r∈a,r.length=5) {i j:Nat} {r:List Value} (hi:a[i]? =some r) (G:j<5) (u:Value):
  IsRow (w.setCell ⟨g,o+i*5+j,none⟩ u) (.slice (some ⟨g,o,none⟩) n c) 5 (a.set i (r.set j u)):=by
 obtain⟨E,F,q,s,t,v⟩:=h;injection q with B C D
 subst B D;have f:i<a.length:=by grind
 obtain⟨b,I,e,x,y⟩:=v (by rintro rfl;simp at f);injection e with e
 injection e with k l
 subst k l;have z:r.length=5:=by grind
 refine⟨_,c,by rw[List.length_set,C],by rw[List.length_set];exact s,t,λ_=>⟨g,o,rfl,by simp[World.setCell];exact x,λp J d m K A=>?_⟩⟩
 by_cases k:p=i
 ·subst k
  rw[List.getElem?_set_self f]at d;injection d with d
  by_cases l:m=j
  ·subst l
   have:=y p r hi m (r[m]'(by omega)) (List.getElem?_eq_getElem _)
   grind [World.cell?_setCell_same]
  ·grind [World.cell?_setCell_other]
 ·rw[List.getElem?_set_ne (Ne.symm k)]at d
  grind [World.cell?_setCell_other]
def OutQ (g o tc:Nat) (V:World) (ws:List RuleS):Prop:=(∃rows,IsRow V (.slice (some ⟨g,o,none⟩) ws.length tc) 5 rows/\AllA (RuleA (λb=>b=g) V) rows ws)/\∀p,V.frozen? ⟨g,p,none⟩=false
theorem OutQ.rulesI {g o b:Nat} {V:World} {ws:List RuleS} (h:OutQ g o b V ws):RulesI V (.slice (some ⟨g,o,none⟩) ws.length b) ws:=by
 obtain⟨⟨a,c,d⟩,_⟩:=h;exact⟨a,c,d.imp λ_ _ k=>k.ruleI⟩
theorem OutQ.lt {g o j:Nat} {V:World} {d:List RuleS} (h:OutQ g o j V d) (r:0<d.length):g<V.heap.size:=by
 obtain⟨⟨c,⟨k,l,q,m,n,f⟩,a⟩,_⟩:=h;have i:=a.1;obtain⟨b,s,e,p,_⟩:=f (by rintro rfl;simp at i;omega)
 grind
theorem Zckv {V a:World} {g:Nat} (h:a.heap[g]? =V.heap[g]?) (p:Nat):a.frozen? ⟨g,p,none⟩=V.frozen? ⟨g,p,none⟩:=by
 simp[World.frozen?,h]
theorem OutQ.below {g o d:Nat} {V c:World} {ws:List RuleS} (h:OutQ g o d V ws) (l:0<ws.length) (b:Below V.heap.size V c):OutQ g o d c ws:=by
 have j:=h.lt l;obtain⟨⟨a,e,f⟩,i⟩:=h;exact⟨⟨a,e.below b,f.imp λ_ _ k=>k.keep (Zpv b)⟩,λp=>(Zckv (b.block g j) p).trans (i p)⟩
theorem OutQ.at {g o T:Nat} {V:World} {H:List RuleS} (h:OutQ g o T V H) {i:Nat} {x:RuleS} (hx:H[i]? =some x):∃s D k t E l u F m v G n,RuleI V [.string x.name,.slice s D k,.slice t E l,.slice u F m,.slice v G n] x/\
  ∀a:World,a.heap[g]? =V.heap[g]? ->a.cell? ⟨g,o+i*5,none⟩=some (.string x.name)/\a.cell? ⟨g,o+i*5+1,none⟩=some (.slice s D k)/\a.cell? ⟨g,o+i*5+2,none⟩=some (.slice t E l)/\a.cell? ⟨g,o+i*5+3,none⟩=some (.slice u F m)/\a.cell? ⟨g,o+i*5+4,none⟩=some (.slice v G n)/\∀p,a.frozen? ⟨g,p,none⟩=false:=by
 obtain⟨⟨d,⟨U,W,q,M,O,y⟩,c⟩,R⟩:=h;injection q with q1 q2 q3
 have hi:=(List.getElem?_eq_some_iff.1 hx).1;have S:=c.1;obtain⟨b,o',e,hb,j⟩:=y (by rintro rfl;simp at S;omega);obtain⟨r,f⟩:∃r,d[i]? =some r:=⟨d[i]'(by omega),List.getElem?_eq_getElem _⟩;have P:=c.2 i r x f hx;have w:=P.ruleI;obtain⟨vi,vo,vf,vs,rfl,z,A,B,C⟩:=w;obtain⟨s,k,I⟩:=Zue z;obtain⟨t,l,J⟩:=Zue A;obtain⟨u,m,K⟩:=Zue B;obtain⟨v,n,L⟩:=Zbov C;subst I J K L;refine⟨s,_,k,t,_,l,u,_,m,v,_,n,⟨_,_,_,_,rfl,z,A,B,C⟩,λa Q=>?_⟩;have X:∀p,a.cell? ⟨g,p,none⟩=V.cell? ⟨g,p,none⟩:=λp=>by simp[World.cell?,Q]
 have Y:=j i _ f 0 _ rfl;have M:=j i _ f 1 _ rfl;have O:=j i _ f 2 _ rfl;have y:=j i _ f 3 _ rfl;have Z:=j i _ f 4 _ rfl
 grind [Zckv]
def putR (V:World) (g o i:Nat) (u0 u1 u2 u3 u4:Value):World:=((((V.setCell ⟨g,o+i*5,none⟩ u0).setCell ⟨g,o+i*5+1,none⟩ u1).setCell ⟨g,o+i*5+2,none⟩ u2).setCell ⟨g,o+i*5+3,none⟩ u3).setCell ⟨g,o+i*5+4,none⟩ u4
theorem Zcle (V:World) (g o i:Nat) (u0 u1 u2 u3 u4:Value):Fr (λb=>b=g) V (putR V g o i u0 u1 u2 u3 u4):=by
 exact(Zpy (Av:=λb=>b=g) (a:=⟨g,_,none⟩) rfl _).trans ((Zpy (Av:=λb=>b=g) (a:=⟨g,_,none⟩) rfl _).trans ((Zpy (Av:=λb=>b=g) (a:=⟨g,_,none⟩) rfl _).trans ((Zpy (Av:=λb=>b=g) (a:=⟨g,_,none⟩) rfl _).trans (Zpy (Av:=λb=>b=g) (a:=⟨g,_,none⟩) rfl _))))
def CpW (N:Nat) (V1:World) (x:RuleS) (vi vo vf vs:Value):Prop:=∃rs B0,StrsW (λb=>b<N) V1 vi x.ins/\StrsW (λb=>b<N) V1 vo x.outs/\StrsW (λb=>b<N) V1 vf x.after/\Ap3 vi vo vf/\N<=B0/\(∀b,vi.ownBlock=some b\/vo.ownBlock=some b\/vf.ownBlock=some b->b<B0)/\V1.ownsRow B0 58 5 vs rs.length rs.flatten/\AllA (StepA (AvOf B0 vs) V1) rs x.steps
theorem CpW.ins {N g o i:Nat} {a:World} {x:RuleS} {c j f vs u0 u1 u2 u3 u4:Value} (h:CpW N a x c j f vs) (k:g<N):StrsO (λb=>b<N) (putR a g o i u0 u1 u2 u3 u4) c x.ins:=by
 obtain⟨_,_,d,_⟩:=h;exact d.1.keep ((Zcle _ _ _ _ _ _ _ _ _).mono λb _ e=>by show b<N;omega)
theorem CpW.outs {N g o i:Nat} {c l:World} {x:RuleS} {f j r vs u0 u1 u2 u3 u4:Value} (h:CpW N c x f j r vs) (t:g<N) (p:Fr (λk=>f.ownBlock=some k) (putR c g o i u0 u1 u2 u3 u4) l):StrsO (λb=>b<N) l j x.outs:=by
 obtain⟨_,_,s,a,_,d,_⟩:=h;have q:StrsO (λb=>b<N\/f.ownBlock=some b) c j x.outs:=⟨⟨a.1.1.1,λb e=>⟨(a.1.1.2 b e).1,λn=>n.elim (a.1.1.2 b e).2 λm=>((d b).1 m).1 e⟩⟩,a.1.2⟩;exact(q.keep (((Zcle _ _ _ _ _ _ _ _ _).mono λb _ e=> .inl (by omega)).trans (p.mono λb _ e=> .inr e))).mono λb _ e=> .inl e
structure ClS (w:World) (nm:ByteArray) (u1 u2 u3 u4:Value) (W:World):Prop where
 bx:W.heap[w.heap.size]? =some (.cells #[.string nm,u1,u2,u3,u4] 50)
 rs:W.heap[w.heap.size+1]? =some (.cells #[.string ⟨#[]⟩,.slice none 0 0,.slice none 0 0,.slice none 0 0,.slice none 0 0] 50)
 b:Below w.heap.size w W
section
variable {w W V:World} {nm:ByteArray} {u1 u2 u3 u4:Value}
theorem ClS.size (h:ClS w nm u1 u2 u3 u4 W):w.heap.size+2<=W.heap.size:=(Array.getElem?_eq_some_iff.1 h.rs).1
theorem ClS.call (h:ClS w nm u1 u2 u3 u4 W) (a:Below W.heap.size W V):ClS w nm u1 u2 u3 u4 V:=by
 have:=h.size;exact⟨(a.block _ (by omega)).trans h.bx,(a.block _ (by omega)).trans h.rs,h.b.trans (a.mono h.b.size)⟩
theorem ClS.fr (h:ClS w nm u1 u2 u3 u4 W) (a:Fr (λb=>w.heap.size+2<=b) W V):ClS w nm u1 u2 u3 u4 V:=by
 have:=h.size;exact⟨(a.block _ (by omega) (by omega)).trans h.bx,(a.block _ (by omega) (by omega)).trans h.rs,h.b.trans (a.below (by omega) λk c=>by omega)⟩
theorem ClS.cells (h:ClS w nm u1 u2 u3 u4 W):(W.cell? { block:=w.heap.size,off:=0 } =some (.string nm)/\W.cell? { block:=w.heap.size,off:=1 } =some u1/\W.cell? { block:=w.heap.size,off:=2 } =some u2/\W.cell? { block:=w.heap.size,off:=3 } =some u3/\W.cell? { block:=w.heap.size,off:=4 } =some u4)/\(∀p,W.frozen? { block:=w.heap.size,off:=p } =false):=by
 have a:=h.bx;exact⟨⟨by simp[World.cell?,a],by simp[World.cell?,a],by simp[World.cell?,a],by simp[World.cell?,a],by simp[World.cell?,a]⟩,λp=>by simp[World.frozen?,a]⟩
theorem ClS.set1 (h:ClS w nm u1 u2 u3 u4 W) (u:Value):ClS w nm u u2 u3 u4 (W.setCell { block:=w.heap.size,off:=1 } u):=
 ⟨by have:=heap_set 1 u h.bx;simpa using this,(Below.heap_setCell _ _ _ _ (by simp)).trans h.rs,h.b.setCell (p:=⟨w.heap.size,1,none⟩) (Nat.le_refl _) _⟩
theorem ClS.set2 (h:ClS w nm u1 u2 u3 u4 W) (u:Value):ClS w nm u1 u u3 u4 (W.setCell { block:=w.heap.size,off:=2 } u):=
 ⟨by have:=heap_set 2 u h.bx;simpa using this,(Below.heap_setCell _ _ _ _ (by simp)).trans h.rs,h.b.setCell (p:=⟨w.heap.size,2,none⟩) (Nat.le_refl _) _⟩
theorem ClS.set3 (h:ClS w nm u1 u2 u3 u4 W) (u:Value):ClS w nm u1 u2 u u4 (W.setCell { block:=w.heap.size,off:=3 } u):=
 ⟨by have:=heap_set 3 u h.bx;simpa using this,(Below.heap_setCell _ _ _ _ (by simp)).trans h.rs,h.b.setCell (p:=⟨w.heap.size,3,none⟩) (Nat.le_refl _) _⟩
theorem ClS.set4 (h:ClS w nm u1 u2 u3 u4 W) (u:Value):ClS w nm u1 u2 u3 u (W.setCell { block:=w.heap.size,off:=4 } u):=
 ⟨by have:=heap_set 4 u h.bx;simpa using this,(Below.heap_setCell _ _ _ _ (by simp)).trans h.rs,h.b.setCell (p:=⟨w.heap.size,4,none⟩) (Nat.le_refl _) _⟩
end
abbrev Old (w:World):Nat->Prop:=λb=>b<w.heap.size+2
theorem Zdac {w W:World} {i:Nat} (u:Value):Fr (Old w) W (W.setCell { block:=w.heap.size,off:=i } u):=Zpy (a:=⟨w.heap.size,i,none⟩) (show w.heap.size<w.heap.size+2 by omega) u
abbrev Av1 (w:World) (g:Nat):Nat->Prop:=λb=>b<w.heap.size+2\/b=g
def ClR (w:World) (g:Nat) (r:RuleS) (rows:List (List Value)) (d4 k:Nat) (R:List (List Value)) (wr:World):Prop:=
 IsRow wr (.slice (some ⟨g,0,none⟩) r.steps.length d4) 5 R/\(∀q∈R,q.length=5)/\R.length=r.steps.length/\∀(j:Nat) q x,R[j]? =some q->r.steps[j]? =some x->(j<k->StepA (Av1 w g) wr q x)/\(k<=j->rows[j]? =some q)
theorem Zdho {w:World} {g n c k:Nat} {R:List (List Value)} {a b c' d e:Value} (h:IsRow w (.slice (some ⟨g,0,none⟩) n c) 5 R) (j:R[k]? =some [a,b,c',d,e]):
  w.cell? { block:=g,off:=k*5 } =some a/\w.cell? { block:=g,off:=k*5+1 } =some b/\w.cell? { block:=g,off:=k*5+2 } =some c'/\w.cell? { block:=g,off:=k*5+3 } =some d/\w.cell? { block:=g,off:=k*5+4 } =some e:=by
 obtain⟨z,A,q,_,_,t⟩:=h;injection q with y D E
 subst y;obtain⟨B,C,s,_,v⟩:=t (by rintro rfl;simp at j)
 cases s
 have f:∀(i:Nat) u,[a,b,c',d,e][i]? =some u->w.cell? ⟨g,0+k*5+i,none⟩=some u:=λi u x=>v k _ j i u x
 have l:=f 0 a rfl;have m:=f 1 b rfl;have o:=f 2 c' rfl;have p:=f 3 d rfl;have r:=f 4 e rfl;simp only[Nat.zero_add,Nat.add_zero]at l m o p r;exact⟨l,m,o,p,r⟩
theorem Zdfv {w:World} {B n b:Nat} {T:TypeId} {a:Option Addr} {c:Nat} {xs:List Value} (h:w.ownsRow B T b (.slice a n c) n xs):∀g,Value.ownBlock (.slice a n c)=some g->∀p,w.frozen? ⟨g,p,none⟩=false:=by
 intro g d p
 rcases h.2 with⟨e,_⟩|⟨k,f,i,e,_,j,_⟩
 ·rw[e]at d;cases d
 ·rw[e]at d
  cases d
  simp[World.frozen?,j]
theorem Zdhi {W:World} {g:Nat} {t:TypeId} {z0 b c d e:Value} (a:W.heap[g]? =some (.cells #[z0,b,c,d,e] t)):(W.cell? { block:=g,off:=0 } =some z0/\W.cell? { block:=g,off:=1 } =some b/\W.cell? { block:=g,off:=2 } =some c/\W.cell? { block:=g,off:=3 } =some d/\W.cell? { block:=g,off:=4 } =some e)/\(∀p,W.frozen? { block:=g,off:=p } =false):=
 ⟨⟨by simp[World.cell?,a],by simp[World.cell?,a],by simp[World.cell?,a],by simp[World.cell?,a],by simp[World.cell?,a]⟩,λp=>by simp[World.frozen?,a]⟩
theorem Zdbi {w:World} {g:Nat} {t:TypeId} {z0 b c d e:Value} (a:w.heap[g]? =some (.cells #[z0,b,c,d,e] t)) (u0 u1 u2 u3 u4:Value):
  (((((w.setCell ⟨g,0,none⟩ u0).setCell ⟨g,1,none⟩ u1).setCell ⟨g,2,none⟩ u2).setCell ⟨g,3,none⟩ u3).setCell ⟨g,4,none⟩ u4).heap[g]? =some (.cells #[u0,u1,u2,u3,u4] t):=
 heap_set 4 u4 (heap_set 3 u3 (heap_set 2 u2 (heap_set 1 u1 (heap_set 0 u0 a))))
theorem Zdad {Av:Nat->Prop} {w:World} {g:Nat} (b:Av g) (u0 u1 u2 u3 u4:Value):Fr Av w (((((w.setCell ⟨g,0,none⟩ u0).setCell ⟨g,1,none⟩ u1).setCell ⟨g,2,none⟩ u2).setCell ⟨g,3,none⟩ u3).setCell ⟨g,4,none⟩ u4):=
 ((((Zpy (a:=⟨g,0,none⟩) b u0).trans (Zpy (a:=⟨g,1,none⟩) b u1)).trans (Zpy (a:=⟨g,2,none⟩) b u2)).trans (Zpy (a:=⟨g,3,none⟩) b u3)).trans (Zpy (a:=⟨g,4,none⟩) b u4)
theorem Zcxx (r:RuleS) (a1 a2 a3 a4:Option Addr) (n1 c1 n2 c2 n3 c3 n4 c4:Nat) (w:World) (h1:IsStrs w (.slice a1 n1 c1) r.ins) (m:IsStrs w (.slice a2 n2 c2) r.outs) (h3:IsStrs w (.slice a3 n3 c3) r.after) (h4:StepsI w (.slice a4 n4 c4) r.steps)
  (b5:r.ins.length<=1000000) (b6:r.outs.length<=1000000) (b7:r.after.length<=1000000) (b8:r.steps.length<=1000000) (A:∀x∈r.steps,x.args.length<=1000000/\x.lits.length<=1000000):
  Calls prog 52 #[.agg #[.string r.name,.slice a1 n1 c1,.slice a2 n2 c2,.slice a3 n3 c3,.slice a4 n4 c4]] w λe w'=>Zbu w w' r e/\Below w.heap.size w w':=by
 have H1:=hid h1;have H2:=hid m;have H3:=hid h3;have H4:=hid h4;have bo:=hid A;obtain⟨W0,X⟩:∃V,V=(w.alloc (.cells #[.string r.name,.slice a1 n1 c1,.slice a2 n2 c2,.slice a3 n3 c3,.slice a4 n4 c4] 50)).alloc (.cells #[.string ⟨#[]⟩,.slice none 0 0,.slice none 0 0,.slice none 0 0,.slice none 0 0] 50):=⟨_,rfl⟩;have c0:ClS w r.name (.slice a1 n1 c1) (.slice a2 n2 c2) (.slice a3 n3 c3) (.slice a4 n4 c4) W0:=by
  refine⟨?_,?_,?_⟩
  ·rw[X]
   show((w.alloc _).heap.push _)[_]? =_;rw[Array.getElem?_push_lt (by simp)];exact Array.getElem?_eq_some_iff.1 (alloc_at w _) |>.2▸rfl
  ·rw[X]
   have:=alloc_at (w.alloc (.cells #[.string r.name,.slice a1 n1 c1,.slice a2 n2 c2,.slice a3 n3 c3,.slice a4 n4 c4] 50)) (.cells #[.string ⟨#[]⟩,.slice none 0 0,.slice none 0 0,.slice none 0 0,.slice none 0 0] 50);rw[World.size_alloc]at this;exact this
  ·rw[X];exact((Below.refl _ _).alloc (Nat.le_refl _) _).alloc (by simp) _
 have C:=hid c0;clear h1 m h3 h4 A c0
 go_enter func52,ntmps52
 go_wp2_with fail
 rw[<-X];clear X;have bw:=hid C.out.size;refine(Zjh _ r.ins W0 (H1.out.below C.out.b) (by omega)).mono ?_;intro e V1 G;obtain⟨L,O,M,rfl,hA,d⟩:=Zjj G;clear G;obtain⟨⟨k0,k1,k2,k3,k4⟩,kf⟩:=(C.out.call d).cells;have F:=kf 1;obtain⟨W1,ab⟩:∃V,V=V1.setCell { block:=w.heap.size,off:=1 } (.slice L O M):=⟨_,rfl⟩;have c:Fr (Old w) V1 W1:=by rw[ab];exact Zdac _
 have s:ClS w r.name (.slice L O M) (.slice a2 n2 c2) (.slice a3 n3 c3) (.slice a4 n4 c4) W1:=by rw[ab];exact(C.out.call d).set1 _
 have A1:Hid (StrsA (Old w) W1 (.slice L O M) r.ins):=hid (RowA.keep (RowA.mono hA (λb _ (h:b<w.heap.size+2)=>Nat.lt_of_lt_of_le h C.out.size)) c);replace C:=hid s;clear hA d c s
 go_wp2_with fail
 rw[<-ab];clear ab k0 k1 k2 k3 k4 kf F;refine(Zjh _ r.outs W1 (H2.out.below C.out.b) (by omega)).mono ?_;intro e V2 G;obtain⟨Q,m2,T,rfl,hA,d⟩:=Zjj G;clear G;obtain⟨⟨k0,k1,k2,k3,k4⟩,kf⟩:=(C.out.call d).cells;have F:=kf 2;obtain⟨W2,ac⟩:∃V,V=V2.setCell { block:=w.heap.size,off:=2 } (.slice Q m2 T):=⟨_,rfl⟩;have c:Fr (Old w) V2 W2:=by rw[ac];exact Zdac _
 have s:ClS w r.name (.slice L O M) (.slice Q m2 T) (.slice a3 n3 c3) (.slice a4 n4 c4) W2:=by rw[ac];exact(C.out.call d).set2 _
 replace A1:=hid (RowA.keep (RowA.keep A1.out (Zpv d)) c);have A2:Hid (StrsA (Old w) W2 (.slice Q m2 T) r.outs):=hid (RowA.keep (RowA.mono hA (λb _ (h:b<w.heap.size+2)=>Nat.lt_of_lt_of_le h C.out.size)) c);replace C:=hid s;clear hA d c s
 go_wp2_with fail
 rw[<-ac];clear ac k0 k1 k2 k3 k4 kf F;refine(Zjh _ r.after W2 (H3.out.below C.out.b) (by omega)).mono ?_;intro e V3 G;obtain⟨b3,m3,d3,rfl,hA,d⟩:=Zjj G;clear G;obtain⟨⟨k0,k1,k2,k3,k4⟩,kf⟩:=(C.out.call d).cells;have F:=kf 3;obtain⟨W3,ad⟩:∃V,V=V3.setCell { block:=w.heap.size,off:=3 } (.slice b3 m3 d3):=⟨_,rfl⟩;have c:Fr (Old w) V3 W3:=by rw[ad];exact Zdac _
 have s:ClS w r.name (.slice L O M) (.slice Q m2 T) (.slice b3 m3 d3) (.slice a4 n4 c4) W3:=by rw[ad];exact(C.out.call d).set3 _
 replace A1:=hid (RowA.keep (RowA.keep A1.out (Zpv d)) c);replace A2:=hid (RowA.keep (RowA.keep A2.out (Zpv d)) c);have A3:Hid (StrsA (Old w) W3 (.slice b3 m3 d3) r.after):=hid (RowA.keep (RowA.mono hA (λb _ (h:b<w.heap.size+2)=>Nat.lt_of_lt_of_le h C.out.size)) c);replace C:=hid s;clear hA d c s
 go_wp2_with fail
 rw[<-ad];clear ad k0 k1 k2 k3 k4 kf F;have aH:=hid C.out.size;have bd:Hid (∀b,Value.ownBlock (.slice L O M)=some b->b<W3.heap.size):=hid λb e=>(A1.out.2 b e).1
 have be:Hid (∀b,Value.ownBlock (.slice Q m2 T)=some b->b<W3.heap.size):=hid λb e=>(A2.out.2 b e).1
 have bf:Hid (∀b,Value.ownBlock (.slice b3 m3 d3)=some b->b<W3.heap.size):=hid λb e=>(A3.out.2 b e).1
 obtain⟨f,ao,t⟩:=H4.out;have a6:∀q∈f,q.length=5:=t.len λq x h=>by obtain⟨_,_,rfl,_⟩:=h;rfl
 have an:∀q∈f,∀u∈q,u.oneCell'=true:=by
  intro q z u hu;obtain⟨j,hj⟩:=List.getElem?_of_mem z;have a5:j<r.steps.length:=by rw[<-t.1];exact(List.getElem?_eq_some_iff.1 hj).1
  obtain⟨va,vl,rfl,ha,hl⟩:=t.2 j q _ hj (List.getElem?_eq_getElem a5);obtain⟨_,_,rfl,_⟩:=ha;obtain⟨_,_,rfl,_⟩:=hl;simp only[List.mem_cons,List.not_mem_nil,or_false]at hu
  rcases hu with rfl|rfl|rfl|rfl|rfl<;>rfl
 have Y:=t.1;refine(Zcxy _ f W3 (ao.below C.out.b) a6 an (by omega)).mono ?_;rintro e V4 ⟨v4,rfl,ho,d⟩;obtain⟨b4,D,rfl,a0,bq,br⟩:=Zbea ho;obtain⟨⟨k0,k1,k2,k3,k4⟩,kf⟩:=(C.out.call d).cells;have F:=kf 4;obtain⟨W4,H⟩:∃V,V=V4.setCell { block:=w.heap.size,off:=4 } (.slice b4 f.length D):=⟨_,rfl⟩;have c:Fr (Old w) V4 W4:=by rw[H];exact Zdac _
 have s:ClS w r.name (.slice L O M) (.slice Q m2 T) (.slice b3 m3 d3) (.slice b4 f.length D) W4:=by rw[H];exact(C.out.call d).set4 _
 replace A1:=hid (RowA.keep (RowA.keep A1.out (Zpv d)) c);replace A2:=hid (RowA.keep (RowA.keep A2.out (Zpv d)) c);replace A3:=hid (RowA.keep (RowA.keep A3.out (Zpv d)) c);have bx:=C.out.size;have O4:=hid (World.ownsRow.kept (row:=some w.heap.size) ho ⟨c.os,c.tape,c.output,c.size,λk hk bu=>by rw[H];exact Below.heap_setCell _ _ _ _ (by simpa using bu)⟩ (by
  cases e:Value.ownBlock (.slice b4 f.length D)with
  | none=>exact .inl rfl
  | some b=>right;intro e2;cases e2;have:=(World.ownsRow.lt ho _ e).1;omega))
 replace C:=hid s;have HR:=hid (And.intro t a6);clear ho d c s ao t a6 an;have ax:=Zbij O4.out HR.out.2;have aw:=Zdfv O4.out;have Z:∀b,Value.ownBlock (.slice b4 f.length D)=some b->W3.heap.size<=b/\b<W4.heap.size:=λb e=>World.ownsRow.lt O4.out b e
 rw[Y]at H C a0 bq ax aw Z⊢;have bm:=hid ax;have bj:=hid aw;have aD:=hid Z;have a9:=hid a0;have aC:=hid Y;clear ax aw Z a0 Y O4
 go_upto_block 0 with fail
 rw[<-H];clear H k0 k1 k2 k3 k4 kf F
 go_cut [] (λwx=>ClS w r.name (.slice L O M) (.slice Q m2 T) (.slice b3 m3 d3) (.slice b4 r.steps.length D) wx/\StrsA (Old w) wx (.slice L O M) r.ins/\StrsA (Old w) wx (.slice Q m2 T) r.outs/\StrsA (Old w) wx (.slice b3 m3 d3) r.after/\StepsA (Old w) wx (.slice b4 r.steps.length D) r.steps)
 case first=>
  go_wp2_with fail
  rcases Nat.eq_zero_or_pos r.steps.length with h0|h0
  ·have hi:¬(0:Int)<(r.steps.length:Int):=by omega
   have A:StepsA (Old w) W4 (.slice b4 r.steps.length D) r.steps:=by
    have e0:r.steps = []:=List.eq_nil_of_length_eq_zero h0;refine⟨[],⟨⟨b4,D,by rw[h0];rfl,by simp,br,λh=>absurd rfl h⟩,λb e=>?_⟩,⟨by rw[e0];rfl,λj q x h=>by simp at h⟩⟩;have h1:=aD.out b e;exact⟨h1.2,λ(h:b<w.heap.size+2)=>by have:=aH.out;omega⟩
   have aI:=hid A;clear A h0
   go_loopw [24] (λiv wr=>iv = .int .i64 0/\wr=W4) (λ_ _=>0)
   case atStart=>exact⟨rfl,rfl⟩
   case round=>
    obtain⟨rfl,rfl⟩:=hrel
    go_wp2_with fail
    go_meet;exact⟨C.out,A1.out,A2.out,A3.out,aI.out⟩
  ·obtain⟨g,hg⟩:=a9.out (by omega)
   subst hg;obtain⟨az,aY⟩:=aD.out g rfl;have bb:w.heap.size+2<=g:=Nat.le_trans aH.out az;have af:∀ {v:Value} {xs:List ByteArray},StrsA (Old w) W4 v xs->(∀b,v.ownBlock=some b->b<W3.heap.size)->StrsA (Av1 w g) W4 v xs:=λh d=>⟨h.1,λb e=>⟨(h.2 b e).1,λm=>m.elim (h.2 b e).2 (λe2=>by have:=d b e;omega)⟩⟩
   have B1:=hid (af A1.out bd.out);have B2:=hid (af A2.out be.out);have B3:=hid (af A3.out bf.out);have HG:=hid (And.intro az (And.intro aY bb));clear af az aY bb A1 A2 A3 a9
   go_loopw [24] (λiv wr=>∃k:Nat,k<=r.steps.length/\iv = .int .i64 (k:Int)/\ClS w r.name (.slice L O M) (.slice Q m2 T) (.slice b3 m3 d3) (.slice (some ⟨g,0,none⟩) r.steps.length D) wr/\StrsA (Av1 w g) wr (.slice L O M) r.ins/\StrsA (Av1 w g) wr (.slice Q m2 T) r.outs/\StrsA (Av1 w g) wr (.slice b3 m3 d3) r.after/\(∀p,wr.frozen? ⟨g,p,none⟩=false)/\g<wr.heap.size/\∃R,ClR w g r f D k R wr) (λiv _=>r.steps.length-(intOf iv).toNat)
   case atStart=>
    exact⟨0,Nat.zero_le _,rfl,C.out,B1.out,B2.out,B3.out,λp=>bj.out g rfl p,HG.out.2.1,f,bm.out,HR.out.2,aC.out,λj q x z hx=>⟨λh=>absurd h (by omega),λ_=>z⟩⟩
   case round=>
    obtain⟨k,hk,rfl,s,aN,aO,aP,aX,ba,R,hR⟩:=hrel;replace C:=hid s;replace B1:=hid aN;replace B2:=hid aO;replace B3:=hid aP;have aj:=hid aX;have P:=hid ba;have l:=hid hR;clear s aN aO aP aX ba hR
    by_cases a5:k<r.steps.length
    ·obtain⟨x,hx⟩:∃x,r.steps[k]? =some x:=⟨r.steps[k],List.getElem?_eq_getElem a5⟩
     have hi:(k:Int)<(r.steps.length:Int):=by omega
     have b0:(0:Int)<=(k:Int):=by omega
     obtain⟨q,z⟩:∃q,R[k]? =some q:=⟨R[k]'(by have:=l.out.2.2.1;omega),List.getElem?_eq_getElem _⟩;have bc:=(l.out.2.2.2 k q x z hx).2 (Nat.le_refl _);obtain⟨va,vl,rfl,ha,hl⟩:=HR.out.1.2 k q x bc hx;obtain⟨pa,ca,ea,_⟩:=id ha;obtain⟨pl,cl,el,_⟩:=id hl;subst ea;subst el;have bz:=bo.out x (List.mem_of_getElem? hx);obtain⟨s0,s1,s2,s3,s4⟩:=Zdho l.out.1 z;have HA:=hid ha;have HL:=hid hl;have HQ:=hid z;have bp:=hid hx;clear ha hl z bc hx;obtain⟨Wa,ae⟩:∃V,V=wr.alloc (.cells #[.string x.out,.int .i64 x.op,.slice pa x.args.length ca,.slice pl x.lits.length cl,.int .i64 x.n] 58):=⟨_,rfl⟩;have aW:Below wr.heap.size wr Wa:=by rw[ae];exact(Below.refl _ _).alloc (Nat.le_refl _) _
     have a8:Wa.heap[wr.heap.size]? =some (.cells #[.string x.out,.int .i64 x.op,.slice pa x.args.length ca,.slice pl x.lits.length cl,.int .i64 x.n] 58):=by rw[ae];exact alloc_at wr _
     have B:=hid aW;have C8:Hid (∀V,Fr (λb=>b=g) Wa V->ClS w r.name (.slice L O M) (.slice Q m2 T) (.slice b3 m3 d3) (.slice (some ⟨g,0,none⟩) r.steps.length D) V):=hid λV hV=>(C.out.call B.out).fr (hV.mono λb _ e=>by rw[e];exact HG.out.2.2)
     have S8:Hid (∀V,Fr (λb=>b=g) Wa V->V.heap[wr.heap.size]? =some (.cells #[.string x.out,.int .i64 x.op,.slice pa x.args.length ca,.slice pl x.lits.length cl,.int .i64 x.n] 58)):=hid λV hV=>(hV.block _ (Array.getElem?_eq_some_iff.1 a8).1 (by have:=P.out;omega)).trans a8
     have F8:Hid (∀V,Fr (λb=>b=g) Wa V->Fr (Av1 w g) wr V):=hid λV hV=>(Zpv B.out).trans (hV.mono λb _ e=> .inr e)
     have W8:=hid (show g<Wa.heap.size from Nat.lt_of_lt_of_le P.out B.out.size);clear aW a8
     go_wp2_with fail
     rw[<-ae];clear ae s0 s1 s2 s3 s4;refine wp_region_held_drew (S:=λV=>Fr (λb=>b=g) Wa V) (by kernel_rfl) ?_ (λhHeld=>?_)
     ·exact Zpv (below_drewN (Below.refl _ _) _)
     refine tkK 0 ?_
     try simp only[Act.put,sA,sZ,sS]
     refine tkH 1 (v:=?_) ?_ ?_;rotate_left
     ·intro w E;obtain⟨⟨k0,k1,k2,k3,k4⟩,_⟩:=(C8.out _ E).cells;go_simp;try with_reducible rfl
     try simp only[Act.put,sA,sZ,sS]
     refine tkK 2 ?_;refine tkK 3 ?_
     try simp only[Act.put,sA,sZ,sS]
     refine tkH 4 (v:=?_) ?_ ?_;rotate_left
     ·intro w E;obtain⟨⟨t0,t1,t2,t3,t4⟩,_⟩:=Zdhi (S8.out _ E);go_simp;try with_reducible rfl
     try simp only[Act.put,sA,sZ,sS]
     refine rdH [5] ?_;refine rcH (λK U=>?_) ?_
     ·go_simp;refine(Zjh _ x.args _ (HA.out.below (C8.out _ hHeld).b) (by omega)).mono ?_;intro e' Va G;obtain⟨pb,nb,cb,rfl,aK,d⟩:=Zjj G;clear G;dsimp only
      refine U.out _ _ ?_ (λhHeld=>?_)
      ·try dsimp only
       exact hHeld.trans (Zpv d)
      clear U K
      try simp only[Act.put,sA,sZ,sS]
      refine tkK 6 ?_;refine tkK 7 ?_
      try simp only[Act.put,sA,sZ,sS]
      refine rdH [8] ?_;refine rcH (λK U=>?_) ?_
      ·have i:=((l.out.1.below B.out.drew)).below d;obtain⟨s0,s1,s2,s3,s4⟩:=Zdho i (HQ.out);have bt:Va.frozen? { block:=g,off:=k*5+2 } =false:=(Zckv (d.block g (W8.out)) _).trans ((λp=>(Zckv (B.out.drew.block g P.out) p).trans (aj.out p)) _);clear i;go_simp
       refine U.out _ _ ?_ (λhHeld=>?_)
       ·try dsimp only
        exact hHeld.trans (Zpy (Av:=λb=>b=g) (a:=⟨g,k*5+2,none⟩) rfl _)
       clear U K
       try simp only[Act.put,sA,sZ,sS]
       refine wpAnyH_done (by kernel_rfl) ?_ _;obtain⟨Wb,I⟩:∃V,V=Va.setCell { block:=g,off:=k*5+2 } (.slice pb nb cb):=⟨_,rfl⟩;have i:=(l.out.1.below B.out.drew).below d;have aR:IsRow Wb (.slice (some ⟨g,0,none⟩) r.steps.length D) 5 (R.set k [.string x.out,.int .i64 x.op,.slice pb nb cb,.slice pl x.lits.length cl,.int .i64 x.n]):=by
        rw[I];have:=Zclk (o:=0) i l.out.2.1 HQ.out (show 2<5 by omega) (.slice pb nb cb);simpa using this
       have al:∀p,Wb.frozen? ⟨g,p,none⟩=false:=by
        rw[I];intro p;rw[World.frozen?_setCell];exact(Zckv (d.block g W8.out) p).trans ((Zckv (B.out.drew.block g P.out) p).trans (aj.out p))
       have aL:StrsA (Av1 w g) Wb (.slice pb nb cb) x.args:=by
        rw[I];exact RowA.keep (RowA.mono aK (λb _ m=>by have h6:=W8.out;have h7:=HG.out.2.2;show b<Wa.heap.size;rcases(show b<w.heap.size+2\/b=g from m)with m|m<;>omega)) (Zpy (a:=⟨g,k*5+2,none⟩) (.inr rfl) _)
       rw[<-I];rw[<-I]at hHeld;have ah:k<R.length:=(List.getElem?_eq_some_iff.1 HQ.out).1;have aE:Hid ((R.set k [.string x.out,.int .i64 x.op,.slice pb nb cb,.slice pl x.lits.length cl,.int .i64 x.n])[k]? =some [.string x.out,.int .i64 x.op,.slice pb nb cb,.slice pl x.lits.length cl,.int .i64 x.n]):=hid (List.getElem?_set_self ah);have aB:Hid (∀q∈R.set k [.string x.out,.int .i64 x.op,.slice pb nb cb,.slice pl x.lits.length cl,.int .i64 x.n],q.length=5):=hid λq z=>by
        rcases List.mem_or_eq_of_mem_set z with h|h
        ·exact l.out.2.1 q h
        ·rw[h];rfl
       have aA:=hid aR;have ak:=hid al;have bg:=hid aL;have bl:=hid hHeld;have ap:=hid (show g<Wb.heap.size from Nat.lt_of_lt_of_le W8.out hHeld.size);clear I i aR al aL hHeld d aK ah
       go_wp2_with fail
       refine wp_region_held_drew (S:=λV=>Fr (λb=>b=g) Wa V) (by kernel_rfl) ?_ (λhHeld=>?_)
       ·exact bl.out.trans (Zpv (below_drewN (Below.refl _ _) _))
       refine tkK 0 ?_
       try simp only[Act.put,sA,sZ,sS]
       refine tkH 1 (v:=?_) ?_ ?_;rotate_left
       ·intro w E;obtain⟨⟨k0,k1,k2,k3,k4⟩,_⟩:=(C8.out _ E).cells;go_simp;try with_reducible rfl
       try simp only[Act.put,sA,sZ,sS]
       refine tkK 2 ?_;refine tkK 3 ?_
       try simp only[Act.put,sA,sZ,sS]
       refine tkH 4 (v:=?_) ?_ ?_;rotate_left
       ·intro w E;obtain⟨⟨t0,t1,t2,t3,t4⟩,_⟩:=Zdhi (S8.out _ E);go_simp;try with_reducible rfl
       try simp only[Act.put,sA,sZ,sS]
       refine rdH [5] ?_;refine rcH (λK U=>?_) ?_
       ·go_simp;refine(Zjh _ x.lits _ (HL.out.below (C8.out _ hHeld).b) (by omega)).mono ?_;intro e' Vb G;obtain⟨pc,nc,cc,rfl,aT,d⟩:=Zjj G;clear G;dsimp only
        refine U.out _ _ ?_ (λhHeld=>?_)
        ·try dsimp only
         exact hHeld.trans (Zpv d)
        clear U K
        try simp only[Act.put,sA,sZ,sS]
        refine tkK 6 ?_;refine tkK 7 ?_
        try simp only[Act.put,sA,sZ,sS]
        refine rdH [8] ?_;refine rcH (λK U=>?_) ?_
        ·have i:=((aA.out.below (Below.refl Wb.heap.size Wb).drew)).below d;obtain⟨s0,s1,s2,s3,s4⟩:=Zdho i (aE.out);have bt:Vb.frozen? { block:=g,off:=k*5+3 } =false:=(Zckv (d.block g (ap.out)) _).trans ((λp=>ak.out p) _);clear i;go_simp
         refine U.out _ _ ?_ (λhHeld=>?_)
         ·try dsimp only
          exact hHeld.trans (Zpy (Av:=λb=>b=g) (a:=⟨g,k*5+3,none⟩) rfl _)
         clear U K
         try simp only[Act.put,sA,sZ,sS]
         refine wpAnyH_done (by kernel_rfl) ?_ _;obtain⟨Wc,J⟩:∃V,V=Vb.setCell { block:=g,off:=k*5+3 } (.slice pc nc cc):=⟨_,rfl⟩;have i:=(aA.out.below (Below.refl Wb.heap.size Wb).drew).below d;have aS:IsRow Wc (.slice (some ⟨g,0,none⟩) r.steps.length D) 5 ((R.set k [.string x.out,.int .i64 x.op,.slice pb nb cb,.slice pl x.lits.length cl,.int .i64 x.n]).set k [.string x.out,.int .i64 x.op,.slice pb nb cb,.slice pc nc cc,.int .i64 x.n]):=by
          rw[J];have:=Zclk (o:=0) i aB.out aE.out (show 3<5 by omega) (.slice pc nc cc);simpa using this
         have am:∀p,Wc.frozen? ⟨g,p,none⟩=false:=by
          rw[J];intro p;rw[World.frozen?_setCell];exact(Zckv (d.block g ap.out) p).trans (ak.out p)
         have ay:Fr (Av1 w g) Vb Wc:=by rw[J];exact Zpy (a:=⟨g,k*5+3,none⟩) (.inr rfl) _
         have aU:StrsA (Av1 w g) Wc (.slice pc nc cc) x.lits:=RowA.keep (RowA.mono aT (λb _ m=>by have h6:=ap.out;have h7:=HG.out.2.2;show b<Wb.heap.size;rcases(show b<w.heap.size+2\/b=g from m)with m|m<;>omega)) ay;have aM:StrsA (Av1 w g) Wc (.slice pb nb cb) x.args:=RowA.keep (RowA.keep (RowA.keep bg.out (Zpw _ Wb)) (Zpv d)) ay;rw[<-J];rw[<-J]at hHeld;have hF:=F8.out _ hHeld;have aQ:=C8.out _ hHeld;have aZ:g<Wc.heap.size:=Nat.lt_of_lt_of_le W8.out hHeld.size;have aF:Hid (∃R',ClR w g r f D (k+1) R' Wc):=by
          show ∃R',_;refine⟨_,aS,?_,?_,?_⟩
          ·intro q z
           rcases List.mem_or_eq_of_mem_set z with h|h
           ·exact aB.out q h
           ·rw[h];rfl
          ·rw[List.length_set,List.length_set];exact l.out.2.2.1
          ·intro j q y z hy
           have ah:k<R.length:=(List.getElem?_eq_some_iff.1 HQ.out).1
           by_cases e:j=k
           ·subst e
            rw[List.getElem?_set_self (by rw[List.length_set];exact ah)]at z
            cases z
            have bv:x=y:=by have:=bp.out.symm.trans hy;cases this;rfl
            subst bv;exact⟨λ_=>⟨_,_,rfl,aM,aU⟩,λh=>absurd h (by omega)⟩
           ·rw[List.getElem?_set_ne (Ne.symm e),List.getElem?_set_ne (Ne.symm e)]at z
            have:=l.out.2.2.2 j q y z hy;exact⟨λh=>(this.1 (by omega)).keep hF,λh=>this.2 (by omega)⟩
         have D1:=hid (RowA.keep B1.out hF);have D2:=hid (RowA.keep B2.out hF);have D3:=hid (RowA.keep B3.out hF);have bh:=hid aQ;have bi:=hid am;have bk:=hid aZ;clear J i aS am ay aU aM hF aQ aZ hHeld d aT;go_wp2;go_roundw
         case rel=>exact⟨k+1,by omega,by go_num,bh.out,D1.out,D2.out,D3.out,bi.out,bk.out,aF.out⟩
         case measure=>simp only[intOf];omega
        exact AllReadyH.nil
       exact AllReadyH.nil
      exact AllReadyH.nil
     exact AllReadyH.nil
    ·obtain rfl:k=r.steps.length:=by omega
     have hi:¬(r.steps.length:Int)<(r.steps.length:Int):=by omega
     have aa:∀ {v:Value} {xs:List ByteArray},StrsA (Av1 w g) wr v xs->StrsA (Old w) wr v xs:=λh=>RowA.mono h λb _ m=> .inl m
     have A:StepsA (Old w) wr (.slice (some ⟨g,0,none⟩) r.steps.length D) r.steps:=by
      obtain⟨h1,m,h3,h4⟩:=l.out;refine⟨R,⟨h1,λb e=>by cases e;exact⟨P.out,λ(h:g<w.heap.size+2)=>by have:=HG.out;omega⟩⟩,h3,λj q x z hx=>?_⟩;have hj:=(List.getElem?_eq_some_iff.1 hx).1;obtain⟨va,vl,rfl,s1,s2⟩:=(h4 j q x z hx).1 hj;exact⟨va,vl,rfl,aa s1,aa s2⟩
     have aJ:=hid A;clear A aa
     go_wp2_with fail
     go_meet;exact⟨C.out,RowA.mono B1.out λb _ m=> .inl m,RowA.mono B2.out λb _ m=> .inl m,RowA.mono B3.out λb _ m=> .inl m,aJ.out⟩
 case rest=>
  obtain⟨s,aq,ar,au,av⟩:=hcut;obtain⟨W5,aV⟩:∃V,wc=V:=⟨_,rfl⟩;rw[aV]at s aq ar au av⊢;obtain⟨⟨k0,k1,k2,k3,k4⟩,_⟩:=s.cells;have CC:=hid s;have Q1:=hid aq;have Q2:=hid ar;have Q3:=hid au;have Q4:=hid av;have a7:=s.rs;have bn:=hid a7;clear aV s aq ar au av;obtain⟨⟨z0,z1,z2,z3,z4⟩,zf⟩:=Zdhi a7;have b9:=zf 0;have bA:=zf 1;have bB:=zf 2;have bC:=zf 3;have bD:=zf 4;clear zf a7;go_wp2;refine bodyPost_ret (Zbhl rfl _ _ (w.heap.size+1) _ _ _ _ rfl (Zdbi bn.out _ _ _ _ _) underlying50 rfl (by kernel_rfl)) rfl ?_;have ag:=Zdad (Av:=Old w) (w:=W5) (g:=w.heap.size+1) (by show w.heap.size+1<w.heap.size+2;omega);have ai:∀(b:Nat),b<w.heap.size->Old w b:=λb h=>by show b<w.heap.size+2;omega
  refine⟨⟨_,_,_,_,rfl,RowA.mono (RowA.keep Q1.out (ag _ _ _ _ _)) (λb _=>ai b),RowA.mono (RowA.keep Q2.out (ag _ _ _ _ _)) (λb _=>ai b),RowA.mono (RowA.keep Q3.out (ag _ _ _ _ _)) (λb _=>ai b),(Q4.out.keep (ag _ _ _ _ _)).mono (λb _=>ai b)⟩,?_⟩;exact CC.out.b.trans ((Zdad (Av:=λb=>w.heap.size<=b) (w:=W5) (g:=w.heap.size+1) (by omega) _ _ _ _ _).below CC.out.b.size (λk hk=>by omega))
