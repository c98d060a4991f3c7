import Derived.Test.YtmgcaldphpnfgaaGreatDoorMbm
namespace Go.Proofs.YtmgcaldphpnfgaaGreatDoor
open Go.Lib (hid)
theorem Zbwe {n:Nat} {p:Nat->Bool} (h:∀k,k<n->p k=false):(List.range n).find? p=none:=by
 rw[List.find?_eq_none];intro k hk;rw[h k (by simpa using hk)];decide
theorem Zbvb:∀ {ks L:List ByteArray},ks.Nodup->(∀k∈ks,k∉L)->(addS L ks).length=L.length+ks.length
 | [],L,_,_=>by simp[addS]
 | k::ks,L,hn,hd=>by
  have e:addS L (k::ks)=addS (insS L k) ks:=rfl;have hi:insS L k=L ++ [k]:=by unfold insS;rw[if_neg (λh=>hd k (by simp) (Zsj.1 h))]
  obtain⟨h1,h2⟩:=List.nodup_cons.1 hn;rw[e,Zbvb h2 (λa ha hm=>?_),hi]
  ·simp only[List.length_append,List.length_cons,List.length_nil];omega
  ·rw[hi]at hm
   rcases List.mem_append.1 hm with hm|hm
   ·exact hd a (by simp[ha]) hm
   ·obtain rfl:a=k:=by simpa using hm
    exact h1 ha
theorem Zbya {rs:List RuleS} {k:Nat} {x:RuleS} (h:x∈rs.take k):∃i,i<k/\rs[i]? =some x:=by
 obtain⟨i,hi⟩:=List.getElem?_of_mem h;rw[List.getElem?_take]at hi;split at hi
 ·exact⟨i,by assumption,hi⟩
 ·cases hi
theorem Zbxz {rs:List RuleS} (hn:∀(i j:Nat) x y,rs[i]? =some x->rs[j]? =some y->i<j->x.name≠y.name) (ho:∀r∈rs,r.outs.Nodup) (hf:∀(i j:Nat) x y,rs[i]? =some x->rs[j]? =some y->i<j->∀a∈x.outs,a∉y.outs):(List.range rs.length).find? (takP rs)=none:=by
 refine Zbwe λk hk=>?_
 have hx:=List.getElem?_eq_getElem hk;unfold takP;rw[hx];simp only[Option.map_some,Option.getD_some];unfold takB;rw[Bool.or_eq_false_iff];constructor
 ·cases e:inS (nmS (rs.take k)) rs[k].name with
  | false=>rfl
  | true=>
   obtain⟨y,hy,he⟩:=Zbbb.1 (Zsj.1 e);obtain⟨i,hik,hi⟩:=Zbya hy;exact absurd he.symm (hn i k y _ hi hx hik)
 ·rw[Zbvb (ho _ (List.getElem_mem _)) (λa ha hm=>?_)]
  ·simp
  ·obtain⟨y,hy,he⟩:=Zpk.1 hm
   obtain⟨i,hik,hi⟩:=Zbya hy;exact hf i k y _ hi hx hik a he ha
theorem Zbxq {rs:List RuleS} (h:∀r∈rs,Zbip r=0):rs.find? (λr=> !decide (Zbip r=0))=none:=by
 rw[List.find?_eq_none];intro r hr;simp[h r hr]
theorem OkTog.before {rs:List RuleS} (h:OkTog rs):Zet rs=(0,⟨#[]⟩):=by
 unfold Zet;rw[Zbxq h.each];simp only;rw[if_neg (by have:=h.few;omega),Zbxz h.names h.own h.files];simp only;have ha:(List.range rs.length).find? (astP rs)=none:=by
  refine Zbwe λk hk=>?_
  unfold astP;rw[List.getElem?_eq_getElem hk];simp only[Option.map_some,Option.getD_some,Bool.not_eq_false',List.all_eq_true];intro a hm;exact Zsj.2 (Zbbb.2 (h.after _ (List.getElem_mem _) a hm))
 rw[ha]
theorem Zbxe {rs:List RuleS}:(Zet rs).1=0↔OkTog rs:=⟨Zbcj,λh=>by rw[h.before]⟩
theorem Zbxp (r:RuleS):Zbip r=0∨Zbip r=1∨Zbip r=2∨Zbip r=4:=by
 unfold Zbip
 repeat' split
 all_goals simp
theorem Zbve (rs:List RuleS):(Zet rs).1=0∨(Zet rs).1=1∨(Zet rs).1=2∨(Zet rs).1=4:=by
 unfold Zet;split
 ·exact Zbxp _
 ·split
  ·exact .inr (.inr (.inr rfl))
  ·split
   ·exact .inr (.inr (.inl rfl))
   ·split
    ·exact .inr (.inr (.inl rfl))
    ·exact .inl rfl
def Zbvn (rs:List RuleS):Int:=(allB rs (Zot (Zbng rs))).1
theorem Zbvp {rs:List RuleS} (h:(Zet rs).1≠0):allB rs (Zot (Zbng rs))=Zet rs:=by
 unfold allB;rw[if_neg h]
theorem Zbvr {rs:List RuleS} (h:OkTog rs):Zbvn rs=if Zot (Zbng rs) = []then 0 else 3:=by
 unfold Zbvn allB;rw[if_pos (Zbxe.2 h)]
 cases Zot (Zbng rs)with
 | nil=>rfl
 | cons x l=>rfl
theorem Zbvq (rs:List RuleS):(OkTog rs/\(Zbvn rs=0∨Zbvn rs=3))∨(¬OkTog rs/\Zbvn rs≠0/\Zbvn rs≠3):=by
 by_cases h:OkTog rs
 ·refine .inl ⟨h,?_⟩
  rw[Zbvr h];split<;>simp
 ·have h0:(Zet rs).1≠0:=λe=>h (Zbxe.1 e)
  refine .inr ⟨h,?_⟩;unfold Zbvn;rw[Zbvp h0];have:=Zbve rs;omega
theorem Zbxb {s:Nat} {way:List Nat}:∀ {xs:List Nat} {q:List (List Nat)} {r:List Bool},Zbax s way xs q r=none->s∈xs
 | [],_,_,h=>by simp[Zbax]at h
 | x::xs,q,r,h=>by
  unfold Zbax at h;split at h
  ·rename_i e;exact e▸List.mem_cons_self
  ·split at h<;>exact List.mem_cons_of_mem _ (Zbxb h)
theorem Zbxc {s:Nat} {way:List Nat} {P:Nat->Prop}:∀ {xs:List Nat} {q:List (List Nat)} {r:List Bool} {q':List (List Nat)} {r':List Bool},Zbax s way xs q r=some (q',r')->(∀x∈xs,P x)->(∀w∈q,P (w.getLastD 0))->∀w∈q',P (w.getLastD 0)
 | [],q,r,q',r',h,_,hq=>by
  simp only[Zbax,Option.some.injEq,Prod.mk.injEq]at h;rw[<-h.1];exact hq
 | x::xs,q,r,q',r',h,hx,hq=>by
  unfold Zbax at h;split at h
  ·cases h
  ·split at h
   ·exact Zbxc h (λy hy=>hx y (by simp[hy])) hq
   ·refine Zbxc h (λy hy=>hx y (by simp[hy])) (λw hw=>?_)
    rcases List.mem_append.1 hw with hw|hw
    ·exact hq w hw
    ·obtain rfl:w=way ++ [x]:=by simpa using hw
     have:(way ++ [x]).getLastD 0=x:=by simp
     rw[this];exact hx x (by simp)
theorem Zbvf {s:Nat} {nd:Nat->List Nat}:∀(n:Nat) (q:List (List Nat)) (r:List Bool),(∀w∈q,w.getLastD 0=s∨Rch nd s (w.getLastD 0))->bfsF s nd n q r≠[]->Rch nd s s
 | 0,_,_,_,h=>absurd (by simp[bfsF]) h
 | _+1,[],_,_,h=>absurd (by simp[bfsF]) h
 | n+1,w::q,r,hq,h=>by
  rw[Zfp]at h;have hw:=hq w (by simp);have hn:∀x∈nd (w.getLastD 0),x=s∨Rch nd s x:=by
   intro x hx
   rcases hw with e|e
   ·rw[e]at hx;exact .inr (.one hx)
   ·exact .inr (.more e hx)
  cases e:Zbax s w (nd (w.getLastD 0)) q r with
  | none=>
   have hs:=Zbxb e
   rcases hw with e2|e2
   ·rw[e2]at hs;exact .one hs
   ·exact .more e2 hs
  | some p=>
   rw[e]at h;obtain⟨q',r'⟩:=p;exact Zbvf n q' r' (Zbxc (P:=λx=>x=s∨Rch nd s x) e hn (λw hw=>hq w (by simp[hw]))) h
theorem Zbxn {s N:Nat} {nd:Nat->List Nat} (h:Zbhz s nd N≠[]):Rch nd s s:=by
 refine Zbvf _ _ _ (λw hw=>?_) h;obtain rfl:w = [s]:=by simpa using hw
 exact .inl rfl
theorem Zbwc {nd:Nat->List Nat} {N:Nat}:∀ {l:List Nat},(∀s∈l,Zbhz s nd N = [])->fcL nd N l = []
 | [],_=>rfl
 | a::l,h=>by
  unfold fcL;rw[if_pos (h a (by simp))];exact Zbwc λs hs=>h s (by simp[hs])
theorem Zbwf {rs:List RuleS} (h:∀s,s<rs.length->¬Rch (Zban rs) s s):Zot rs = []:=by
 unfold Zot;rw[Zbwc (λs hs=>?_)]
 ·rfl
 ·exact Classical.byContradiction λhn=>h s (by simpa using hs) (Zbxn hn)
theorem Zbvs {rs:List RuleS}:Zbvn rs=0↔OkTog rs/\∀s,s<rs.length->¬Rch (Zban rs) s s:=by
 constructor
 ·intro h
  rcases Zbvq rs with⟨hT,_⟩|⟨_,h0,_⟩
  ·refine⟨hT,Zcl hT ?_⟩
   rw[Zbvr hT]at h;split at h
   ·assumption
   ·omega
  ·exact absurd h h0
 ·rintro⟨hT,ha⟩
  have hp:(Zbng rs).Perm rs:=List.mergeSort_perm _ _;rw[Zbvr hT,if_pos];exact Zbwf (Zcm (hT.perm hp) hp.symm ha)
theorem Zcih {fs:List F2} (h:FOk fs) (x:ByteArray):(Zbgv fs x).1.size<=100000000:=by
 unfold Zbgv;split
 ·cases hp:fs[Zbff fs x]? with
  | none=>exact Nat.zero_le _
  | some f=>exact Nat.le_trans (h f (List.mem_of_getElem? hp)).2 (by decide)
 ·exact Nat.zero_le _
open Go.RowKit Go.Shelf
set_option maxRecDepth 100000 in
theorem Zcjd (a:Bool) (s:ByteArray) (w:World):(Go.binOp .neq 28 (.agg #[.bool a,.string s]) (.agg #[.bool a,.string s])).run Tryz.prog w = .ok (.bool false) w:=by
 have h1:=Tryz.underlying4;have h2:=Tryz.underlying9;have z1:=Tryz.sizeOf4;have z2:=Tryz.sizeOf9;rw[run_neq_struct,run_equalIn_agg w 9999 _ _ _ Zbsf Zbse];simp only[Program.fieldsOf,Tryz.underlying28]
 cases a<;>go_simp
open Go.Maps
theorem Zcjm {w:World} {v:Value} {xs:List ValT} (h:Zbb w v xs):∃a c,v = .slice a xs.length c/\xs.length<=c/\c<=maxLen/\∀(k:Nat) x,xs[k]? =some x->∃b o,a=some ⟨b,o,none⟩/\∀W,Below w.heap.size w W->W.cell? ⟨b,o+k*2,none⟩=some (.bool x.1)/\W.cell? ⟨b,o+k*2+1,none⟩=some (.string x.2):=by
 obtain⟨a,c,rfl,h1,h2,h3⟩:=h;refine⟨a,c,rfl,h1,h2,λk x hx=>?_⟩;obtain⟨b,o,e,hb,hc⟩:=h3 (by rintro rfl;simp at hx);obtain⟨c1,c2⟩:=hc k x hx;exact⟨b,o,e,λW hW=>⟨(hW.cell (p:=⟨b,o+k*2,none⟩) hb).trans c1,(hW.cell (p:=⟨b,o+k*2+1,none⟩) hb).trans c2⟩⟩
set_option maxHeartbeats 4000000
set_option maxRecDepth 100000
theorem Zckt (v1 v2:Value) (xs:List ValT) (w:World) (h1:Zbb w v1 xs) (h2:Zbb w v2 xs):
  Calls Tryz.prog 34 #[v1,v2] w λe w'=>e = .returned (.bool true)/\Below w.heap.size w w':=by
 have mixed:Tryz.prog.follows .mixedOrders=true:=by kernel_rfl
 obtain⟨a1,d1,rfl,hl1,hm1,hc1⟩:=Zcjm h1;obtain⟨a2,d2,rfl,hl2,hm2,hc2⟩:=Zcjm h2;have HC1:=hid hc1;have HC2:=hid hc2;obtain⟨n,hnn⟩:∃n,xs.length=n:=⟨_,rfl⟩;have HNN:=hid hnn;rw[hnn]at hl1 hl2⊢;have hm1:n<=9223372036854775807:=by unfold maxLen at hm1;omega
 clear h1 h2 hc1 hc2 hl1 hl2 hm2 hnn
 go_enter Tryz.func34,Tryz.ntmps34
 go_wp2
 go_loopw [13] (λiv wr=>∃k:Nat,k<=n/\iv = .int .i64 (k:Int)/\Below w.heap.size w wr) (λiv _=>n-(intOf iv).toNat)
 case atStart=>exact⟨0,Nat.zero_le _,rfl,Below.refl _ _⟩
 case round=>
  obtain⟨k,hk,rfl,hnx⟩:=hrel;obtain⟨WR,rfl⟩:∃V,V=wr:=⟨_,rfl⟩
  by_cases hlt:k<n
  ·obtain⟨x,hx⟩:∃x,xs[k]? =some x:=⟨xs[k]'(by rw[HNN.out];exact hlt),List.getElem?_eq_getElem _⟩
   obtain⟨b1,o1,q1,g1⟩:=HC1.out k x hx;obtain⟨b2,o2,q2,g2⟩:=HC2.out k x hx;subst q1 q2;obtain⟨p0,p1⟩:=g1 _ hnx;obtain⟨r0,r1⟩:=g2 _ hnx;obtain⟨ok,s⟩:=x;simp only at p0 p1 r0 r1;have hk0:(0:Int)<=(k:Int):=by omega
   have hk1:(k:Int)<(n:Int):=by omega
   have hq:=Zcjd ok s;have hgd:=Zcit;have HNX:=hid hnx;clear hx g1 g2 hnx
   go_wp2_with fail
   go_quiet (fail)
   go_wp2;go_roundw
   case rel=>exact⟨k+1,by omega,by go_num,below_drewN HNX.out _⟩
   case measure=>simp[intOf];omega
  ·have hi1:¬(k:Int)<(n:Int):=by omega
   have HNX:=hid hnx;clear hnx;go_wp2;go_ret;exact⟨rfl,HNX.out⟩
theorem AllA.take {α:Type} {P:List Value->α->Prop} {rows:List (List Value)} {xs:List α} (h:AllA P rows xs) (m:Nat):AllA P (rows.take m) (xs.take m):=
 ⟨by rw[List.length_take,List.length_take,h.1],λj r x hr hx=>by
  rw[List.getElem?_take]at hr hx;split at hr
  ·rename_i hj;rw[if_pos hj]at hx;exact h.2 j r x hr hx
  ·cases hr⟩
theorem AllA.drop {α:Type} {P:List Value->α->Prop} {rows:List (List Value)} {xs:List α} (h:AllA P rows xs) (m:Nat):AllA P (rows.drop m) (xs.drop m):=
 ⟨by rw[List.length_drop,List.length_drop,h.1],λj r x hr hx=>by
  rw[List.getElem?_drop]at hr hx;exact h.2 _ r x hr hx⟩
theorem Zbxl {a:Option Addr} {n c n' c' b:Nat} (h:(Value.slice a n c).ownBlock=some b):(Value.slice a n' c').ownBlock=some b:=by cases a<;>exact h
theorem Zbxr {Av:Nat->Prop} {w:World} {a:Option Addr} {n c:Nat} {xs:List RuleS} (h:RulesA Av w (.slice a n c) xs) {m:Nat} (hm:m<=n):RulesA Av w (Zly 5 m a n c) (xs.drop m):=by
 obtain⟨rows,⟨h1,h2⟩,hall⟩:=h;refine⟨rows.drop m,⟨h1.drop hm,λb e=>h2 b ?_⟩,hall.drop m⟩;unfold Zly at e;split at e
 ·exact Zbxl e
 ·cases a with
  | none=>simp[Value.ownBlock]at e
  | some ad=>
   obtain⟨x,y,z⟩:=ad;simp only[Value.ownBlock,Option.map_some,Option.some.injEq,Addr.add]at e⊢;split at e<;>exact e
theorem Zbxs {Av:Nat->Prop} {w:World} {a:Option Addr} {n c:Nat} {xs:List RuleS} (h:RulesA Av w (.slice a n c) xs) {m:Nat} (hm:m<=n):RulesA Av w (.slice a m c) (xs.take m):=by
 obtain⟨rows,⟨h1,h2⟩,hall⟩:=h;exact⟨rows.take m,⟨h1.take hm,λb e=>h2 b (Zbxl e)⟩,hall.take m⟩
theorem Zbxy {ops:Array Oper} {o:Oper} {a:Act} {w:World} {K:Act->World->Prop} {Q:Exit->Act->World->Prop} {E:Prop} (hgd:o.guard=none) (s x:Operand) (t:TypeId)
  (ho:o.op = .call { callee:= .builtin .append,args:=#[s,x],argTypes:=#[t,t] }) {v0 vx v':Value} {w':World} (hs:a.eval s=v0) (hx:a.eval x=vx)
  (hr:(Builtin.append_ #[t,t] o.type #[v0,vx]).run Tryz.prog w = .ok v' w') (h:K (a.put o.dst v') w'):
  if Region.wanted o (yielded ops a.tmps)=true then Oper.wp Tryz.prog o a w K Q else E:=by
 have hw:Region.wanted o (yielded ops a.tmps)=true:=by simp[Region.wanted,hgd]
 rw[if_pos hw];unfold Oper.wp execOp;simp only[ho,resolve,invoke,builtin,Sem.run_bind,Sem.run_pure,Result.andThen_ok,List.map_toArray,List.map_cons,List.map_nil,hs,hx,hr];exact h
theorem Zckw (w:World) (p q:Addr) (u:Value):(w.setCell p u).frozen? q=w.frozen? q:=World.frozen?_setCell _ _ _ _
theorem Zclo {Av:Nat->Prop} {w:World} {b o n c k:Nat} {xs:List ByteArray} (h:StrsO Av w (.slice (some ⟨b,o,none⟩) n c) xs) (hk:k<xs.length) (s:ByteArray):StrsO Av (w.setCell ⟨b,o+k,none⟩ (.string s)) (.slice (some ⟨b,o,none⟩) n c) (xs.set k s):=by
 obtain⟨⟨⟨a',c',q,h1,h2,h3⟩,hb⟩,ho⟩:=h;injection q with q1 q2 q3
 subst q1 q3;refine⟨⟨⟨_,c,by rw[Zbpo,List.length_set];rw[Zbpo]at q2;rw[q2],by rw[Zbpo,List.length_set];rw[Zbpo]at h1;exact h1,h2,λhne=>?_⟩,λb' e=>⟨by simp[World.setCell];exact(hb b' e).1,(hb b' e).2⟩⟩,λb' e i=>by rw[Zckw];exact ho b' e i⟩;obtain⟨b',o',ha,hbl,hc⟩:=h3 (by intro e;have:=congrArg List.length e;rw[Zbpo]at this;simp at this;rw[this]at hk;simp at hk)
 cases ha
 refine⟨b,o,rfl,by simp[World.setCell];exact hbl,λj r hr i u hu=>?_⟩;unfold Zbpk at hr hc;rw[List.getElem?_map]at hr;obtain⟨y,hy,rfl⟩:=Option.map_eq_some_iff.1 hr;have hi:i=0:=by
  have:=(List.getElem?_eq_some_iff.1 hu).1;simpa using this
 subst hi;simp at hu;subst hu
 by_cases hj:j=k
 ·subst hj
  rw[List.getElem?_set_self hk]at hy;injection hy with hy
  subst hy;have h4:=hc j [.string xs[j]] (by rw[List.getElem?_map,List.getElem?_eq_getElem hk];rfl) 0 _ rfl;simp only[Nat.mul_one,Nat.add_zero]at h4⊢;exact World.cell?_setCell_same _ _ _ h4
 ·rw[List.getElem?_set_ne (Ne.symm hj)]at hy
  have h4:=hc j [.string y] (by rw[List.getElem?_map,hy];rfl) 0 _ rfl;simp only[Nat.mul_one,Nat.add_zero]at h4⊢;rw[World.cell?_setCell_other _ _ _ _ (by intro e;injection e with _ e;omega)];exact h4
def Zclu (r:RuleS):RuleS:={ r with ins:=r.ins.reverse,outs:=r.outs.reverse }
theorem Zcku {xs:List ByteArray} {a:ByteArray}:Zoi xs.reverse a<0↔Zoi xs a<0:=by
 rw[Zok,Zok,List.mem_reverse]
theorem Zcla {l:List ByteArray}:l.reverse.Nodup↔l.Nodup:=by
 unfold List.Nodup;rw[List.pairwise_reverse];exact⟨λh=>h.imp λg e=>g e.symm,λh=>h.imp λg e=>g e.symm⟩
theorem Zclw {r:RuleS} (h:Zbj r):Zbj (Zclu r):=by
 obtain⟨h1,h2,h3,h4,h5,h6⟩:=h;have hr:∀ {l:List ByteArray},¬Zch l->¬Zch l.reverse:=by
  intro l hl ht;rw[Zbrq]at hl ht;exact ht (Zcla.2 (Classical.byContradiction hl))
 refine⟨hr h1,hr h2,h3,h4,λk y hy=>?_,λa ha=>?_⟩
 ·obtain⟨a1,a2,a3⟩:=h5 k y hy
  exact⟨Zcku.2 a1,a2,λa ha hc=>a3 a ha ⟨Zcku.1 hc.1,hc.2⟩⟩
 ·have ha:a∈r.outs.reverse:=ha
  obtain⟨b1,b2⟩:=h6 a (List.mem_reverse.1 ha);exact⟨Zcku.2 b1,b2⟩
theorem Zclz {r:RuleS} (h:Zbip r=0):Zbip (Zclu r)=0:=by
 unfold Zbip at h⊢;split at h
 ·cases h
 rename_i h1
 split at h
 ·cases h
 rename_i h2
 split at h
 ·cases h
 rename_i h3
 have e1:Zpo (Zclu r)=Zpo r:=by
  unfold Zpo Zclu;simp only[List.all_reverse,List.length_reverse]
 have e2:Zbkx (Zclu r)=Zbkx r:=by
  unfold Zbkx Zclu;simp only[List.length_reverse]
 have e3:Zbac (Zclu r)=true:=(Zbaf _).2 (Zclw ((Zbaf _).1 (by simpa using h3)));rw[e1,e2,e3,if_neg h1,if_neg h2,if_neg (by decide)]
theorem Zcmb {rs:List RuleS} (h:OkTog rs):OkTog (rs.map Zclu):=by
 have hget:∀ {i:Nat} {x:RuleS},(rs.map Zclu)[i]? =some x->∃y,rs[i]? =some y/\x=Zclu y:=by
  intro i x hx;rw[List.getElem?_map]at hx
  cases hy:rs[i]? with
  | none=>rw[hy]at hx;cases hx
  | some y=>rw[hy]at hx;exact⟨y,rfl,(Option.some.inj hx).symm⟩
 refine⟨λr hr=>?_,by rw[List.length_map];exact h.few,?_,λr hr=>?_,?_,λr hr a ha=>?_⟩
 ·obtain⟨y,hy,rfl⟩:=List.mem_map.1 hr
  exact Zclz (h.each y hy)
 ·intro i j x y hx hy hij
  obtain⟨a,ha,rfl⟩:=hget hx;obtain⟨b,hb,rfl⟩:=hget hy;exact h.names i j a b ha hb hij
 ·obtain⟨y,hy,rfl⟩:=List.mem_map.1 hr
  exact Zcla.2 (h.own y hy)
 ·intro i j x y hx hy hij a ha hb
  obtain⟨p,hp,rfl⟩:=hget hx;obtain⟨q,hq,rfl⟩:=hget hy;exact h.files i j p q hp hq hij a (List.mem_reverse.1 ha) (List.mem_reverse.1 hb)
 ·obtain⟨y,hy,rfl⟩:=List.mem_map.1 hr
  obtain⟨x,hx,e⟩:=h.after y hy a ha;exact⟨Zclu x,List.mem_map_of_mem hx,e⟩
theorem Zclx {x y:RuleS} (h:Zbl (Zclu x) (Zclu y)):Zbl x y:=by
 rcases h with⟨a,h1,h2⟩|h
 ·exact .inl ⟨a,List.mem_reverse.1 h1,List.mem_reverse.1 h2⟩
 ·exact .inr h
theorem Zcly {rs:List RuleS} {x y:RuleS} (h:RchR (rs.map Zclu) x y):∃p q,p∈rs/\q∈rs/\x=Zclu p/\y=Zclu q/\∀p'∈rs,x=Zclu p'->∃q'∈rs,y=Zclu q'/\RchR rs p' q':=by
 induction h with
 | one h1 h2 hn=>
  obtain⟨p,hp,rfl⟩:=List.mem_map.1 h1;obtain⟨q,hq,rfl⟩:=List.mem_map.1 h2;exact⟨p,q,hp,hq,rfl,rfl,λp' hp' e=>⟨q,hq,rfl,.one hp' hq (Zclx (e▸hn))⟩⟩
 | more _ h2 hn ih=>
  obtain⟨p,q,hp,_,rfl,_,ih⟩:=ih;obtain⟨z,hz,rfl⟩:=List.mem_map.1 h2;refine⟨p,z,hp,hz,rfl,rfl,λp' hp' e=>?_⟩;obtain⟨q',hq',e',hr⟩:=ih p' hp' e;exact⟨z,hz,rfl,.more hr hz (Zclx (e'▸hn))⟩
theorem Zclv {rs:List RuleS} (h:OkTog rs) (ha:∀s,s<rs.length->¬Rch (Zban rs) s s):∀s,s<(rs.map Zclu).length->¬Rch (Zban (rs.map Zclu)) s s:=by
 intro s hl hs;obtain⟨x,y,hx,hy,hr⟩:=Zbgu (Zcmb h) hs;rw[hx]at hy;obtain rfl:=Option.some.inj hy;rw[List.length_map]at hl;have hr0:=List.getElem?_eq_getElem hl;have ex:x=Zclu rs[s]:=by
  rw[List.getElem?_map,hr0]at hx;exact(Option.some.inj hx).symm
 obtain⟨_,_,_,_,_,_,hall⟩:=Zcly hr;obtain⟨q,hq,e,hr'⟩:=hall _ (List.getElem_mem hl) ex;have en:rs[s].name=q.name:=by
  have:=congrArg RuleS.name (ex.symm.trans e);exact this
 obtain⟨j,hj⟩:=List.getElem?_of_mem hq;have:s=j:=by
  rcases Nat.lt_trichotomy s j with g|g|g
  ·exact absurd en (h.names s j _ q hr0 hj g)
  ·exact g
  ·exact absurd en.symm (h.names j s q _ hj hr0 g)
 subst this;exact ha s hl (Zbjw h hr' s s hr0 hj)
theorem Zckr (V:ByteArray->ValT):∀(ks:List ByteArray) (e:ByteArray->ValT) (n:ByteArray),n∈ks->byE ks (ks.map V) e n=V n
 | [],_,_,h=>by simp at h
 | k::ks,e,n,h=>by
  rw[List.map_cons,byE]
  by_cases g:n∈ks
  ·exact Zckr V ks _ n g
  ·rw[Zcks _ _ _ _ g]
   obtain rfl:n=k:=by
    rcases List.mem_cons.1 h with h|h
    ·exact h
    ·exact absurd h g
   unfold setE;rw[if_pos rfl]
theorem Zclm {r:RuleS} {vs:List ValT} {x:ByteArray} (hl:vs.length=r.ins.length) (hx:x∈r.outs):(runP r vs).getD (Zoi r.outs x).toNat noV=Zbbt (Zbom r.steps (byE r.ins vs λ_=>noV) x):=by
 unfold runP;rw[if_neg (by omega)];have h:=(Zcdy (Zoj.2 hx)).1;rw[List.getD_eq_getElem?_getD,List.getElem?_map,h];rfl
theorem Zcma {r:RuleS} {V:ByteArray->ValT} {x:ByteArray} (hx:x∈r.outs):(runP (Zclu r) ((Zclu r).ins.map V)).getD (Zoi (Zclu r).outs x).toNat noV=(runP r (r.ins.map V)).getD (Zoi r.outs x).toNat noV:=by
 rw[Zclm (by simp) hx,Zclm (by simp) (show x∈r.outs.reverse from List.mem_reverse.2 hx)];have e:byE (Zclu r).ins ((Zclu r).ins.map V) (λ_=>noV)=byE r.ins (r.ins.map V) λ_=>noV:=by
  funext n
  by_cases g:n∈r.ins
  ·exact(Zckr V _ _ n (show n∈(Zclu r).ins from List.mem_reverse.2 g)).trans (Zckr V _ _ n g).symm
  ·exact(Zcks _ _ _ _ (show n∉(Zclu r).ins from λh=>g (List.mem_reverse.1 h))).trans (Zcks r.ins (r.ins.map V) (λ_=>noV) n g).symm
 rw[e];rfl
theorem Zcky {rs:List RuleS} (h:OkTog rs) {x:ByteArray}:mkrN rs rs.length x=none↔∀r∈rs,x∉r.outs:=by
 constructor
 ·intro e r hr hx
  obtain⟨k,hk⟩:=List.getElem?_of_mem hr;rw[Zzh h hk hx (List.getElem?_eq_some_iff.1 hk).1 (Nat.le_refl _)]at e
  cases e
 ·intro hn
  cases e:mkrN rs rs.length x with
  | none=>rfl
  | some j=>
   obtain⟨hj,hm⟩:=Zzi e;have:=List.getElem?_eq_getElem hj;rw[Zbdh this]at hm;exact absurd hm (hn _ (List.getElem_mem hj))
theorem Zckz {rs:List RuleS} {x:ByteArray} {k:Nat} (e:mkrN rs rs.length x=some k):∃r,rs[k]? =some r/\x∈r.outs:=by
 obtain⟨hj,hm⟩:=Zzi e;have:=List.getElem?_eq_getElem hj;rw[Zbdh this]at hm;exact⟨_,this,hm⟩
theorem Zcmc {rs os:List RuleS} (hT:OkTog rs) (hO:OkTog os) (h1:∀r∈rs,Zclu r∈os) (h2:∀q∈os,∃r∈rs,q=Zclu r) (f:ByteArray->ByteArray×Bool):∀(d:Nat) (x:ByteArray),valF os f d x=valF rs f d x
 | 0,_=>rfl
 | d+1,x=>by
  rw[valF,valF]
  cases hm:mkrN rs rs.length x with
  | none=>
   have:mkrN os os.length x=none:=(Zcky hO).2 λq hq hx=>by
    obtain⟨r,hr,rfl⟩:=h2 q hq;exact(Zcky hT).1 hm r hr (List.mem_reverse.1 hx)
   rw[this]
  | some k=>
   obtain⟨r,hr,hx⟩:=Zckz hm;obtain⟨j,hj⟩:=List.getElem?_of_mem (h1 r (List.mem_of_getElem? hr));have hj':mkrN os os.length x=some j:=Zzh hO hj (show x∈r.outs.reverse from List.mem_reverse.2 hx) (List.getElem?_eq_some_iff.1 hj).1 (Nat.le_refl _);rw[hj'];simp only;rw[hr,hj];simp only;rw[Zcma hx,List.map_congr_left (λa _=>Zcmc hT hO h1 h2 f d a)]
theorem Zclb {rs os:List RuleS} (h0:Zbvn rs=0) (hp:os.Perm (rs.map Zclu)):Zbvn os=0/\∀f x,Zob os f x=Zob rs f x:=by
 obtain⟨hT,hA⟩:=Zbvs.1 h0;have hT2:=Zcmb hT;have hO:=hT2.perm hp;refine⟨Zbvs.2 ⟨hO,Zcm hO hp.symm (Zclv hT hA)⟩,λf x=>?_⟩;unfold Zob;rw[hp.length_eq,List.length_map];exact Zcmc hT hO (λr hr=>hp.mem_iff.2 (List.mem_map_of_mem hr)) (λq hq=>by
  obtain⟨r,hr,e⟩:=List.mem_map.1 (hp.mem_iff.1 hq);exact⟨r,hr,e.symm⟩) f _ x
def RevQ (a:Nat) (xs L:List ByteArray):Prop:=L.length=xs.length/\∀j,j<xs.length->L[j]? =if j<a∨xs.length<=j+a then xs[xs.length-1-j]? else xs[j]?
theorem Zclj (xs:List ByteArray):RevQ 0 xs xs:=⟨rfl,λj hj=>by rw[if_neg (by omega)]⟩
theorem Zclg {a j:Nat} {xs L:List ByteArray} (h:RevQ a xs L) (hj:j<xs.length) (h1:¬j<a) (h2:¬xs.length<=j+a):L[j]? =xs[j]?:=by
 rw[h.2 j hj,if_neg (by omega)]
theorem Zcli {a j:Nat} {xs L:List ByteArray} {x y:ByteArray} (h:RevQ a xs L) (hj:j+1+a=xs.length) (ha:a<j) (hx:L[a]? =some x) (hy:L[j]? =some y):RevQ (a+1) xs ((L.set a y).set j x):=by
 have hx':=(Zclg h (by omega) (by omega) (by omega)).symm.trans hx;have hy':=(Zclg h (j:=j) (by omega) (by omega) (by omega)).symm.trans hy;have hl:=h.1;refine⟨by simp[hl],λq hq=>?_⟩
 by_cases e1:q=j
 ·subst e1
  rw[List.getElem?_set_self (by simp;omega),if_pos (by omega),show xs.length-1-q=a by omega,hx']
 rw[List.getElem?_set_ne (Ne.symm e1)]
 by_cases e2:q=a
 ·subst e2
  rw[List.getElem?_set_self (by omega),if_pos (by omega),show xs.length-1-q=j by omega,hy']
 rw[List.getElem?_set_ne (Ne.symm e2),h.2 q hq]
 by_cases c:q<a∨xs.length<=q+a
 ·rw[if_pos c,if_pos (by omega)]
 ·rw[if_neg c,if_neg (by omega)]
theorem Zclh {a:Nat} {xs L:List ByteArray} (h:RevQ a xs L) (ha:xs.length<=2*a+1):L=xs.reverse:=by
 apply List.ext_getElem?;intro j
 rcases Nat.lt_or_ge j xs.length with hj|hj
 ·rw[List.getElem?_reverse hj,h.2 j hj]
  by_cases c:j<a∨xs.length<=j+a
  ·rw[if_pos c]
  ·rw[if_neg c,show xs.length-1-j=j by omega]
 ·rw[List.getElem?_eq_none (by rw[h.1];exact hj),List.getElem?_eq_none (by rw[List.length_reverse];exact hj)]
theorem Zclk {w:World} {g o n c:Nat} {rows:List (List Value)} (h:IsRow w (.slice (some ⟨g,o,none⟩) n c) 5 rows) (hk:∀r∈rows,r.length=5) {i j:Nat} {r:List Value} (hi:rows[i]? =some r) (hj:j<5) (u:Value):
  IsRow (w.setCell ⟨g,o+i*5+j,none⟩ u) (.slice (some ⟨g,o,none⟩) n c) 5 (rows.set i (r.set j u)):=by
 obtain⟨a',c',q,h1,h2,h3⟩:=h;injection q with q1 q2 q3
 subst q1 q3;have hil:i<rows.length:=(List.getElem?_eq_some_iff.1 hi).1;obtain⟨b,o',e,hb,hc⟩:=h3 (by rintro rfl;simp at hil);injection e with e
 injection e with e1 e2
 subst e1 e2;have hrl:r.length=5:=hk r (List.mem_of_getElem? hi);refine⟨_,c,by rw[List.length_set,q2],by rw[List.length_set];exact h1,h2,λ_=>⟨g,o,rfl,by simp[World.setCell];exact hb,λj' r' hr' i' u' hu'=>?_⟩⟩
 by_cases e1:j'=i
 ·subst e1
  rw[List.getElem?_set_self hil]at hr';injection hr' with hr'
  subst hr'
  by_cases e2:i'=j
  ·subst e2
   rw[List.getElem?_set_self (by omega)]at hu';injection hu' with hu'
   subst hu';have:=hc j' r hi i' (r[i']'(by omega)) (List.getElem?_eq_getElem _);exact World.cell?_setCell_same _ _ _ this
  ·rw[List.getElem?_set_ne (Ne.symm e2)]at hu'
   rw[World.cell?_setCell_other _ _ _ _ (by intro e;injection e with _ e;omega)];exact hc j' r hi i' u' hu'
 ·rw[List.getElem?_set_ne (Ne.symm e1)]at hr'
  have hi':i'<5:=by
   have:=hk r' (List.mem_of_getElem? hr');have:=(List.getElem?_eq_some_iff.1 hu').1;omega
  rw[World.cell?_setCell_other _ _ _ _ (by intro e;injection e with _ e;omega)];exact hc j' r' hr' i' u' hu'
theorem Zcll {w:World} {g o n c:Nat} {rows:List (List Value)} (h:IsRow w (.slice (some ⟨g,o,none⟩) n c) 5 rows) (hk:∀r∈rows,r.length=5) {i:Nat} (hi:i<rows.length) (u0 u1 u2 u3 u4:Value):
  IsRow (((((w.setCell ⟨g,o+i*5,none⟩ u0).setCell ⟨g,o+i*5+1,none⟩ u1).setCell ⟨g,o+i*5+2,none⟩ u2).setCell ⟨g,o+i*5+3,none⟩ u3).setCell ⟨g,o+i*5+4,none⟩ u4) (.slice (some ⟨g,o,none⟩) n c) 5 (rows.set i [u0,u1,u2,u3,u4]):=by
 obtain⟨r,hr⟩:∃r,rows[i]? =some r:=⟨rows[i],List.getElem?_eq_getElem hi⟩;have hl:=hk r (List.mem_of_getElem? hr);have key:∀ {R:List (List Value)} (s:List Value),(∀r∈R,r.length=5)->s.length=5->∀r∈R.set i s,r.length=5:=λs h hs r hr=>by
  rcases List.mem_or_eq_of_mem_set hr with h'|h'
  ·exact h r h'
  ·rw[h'];exact hs
 have at':∀ {R:List (List Value)} {s:List Value},i<R.length->(R.set i s)[i]? =some s:=λh=>List.getElem?_set_self h
 have a0:=Zclk h hk hr (show 0<5 by omega) u0;have k0:=key (r.set 0 u0) hk (by simp[hl]);have a1:=Zclk a0 k0 (at' hi) (show 1<5 by omega) u1;have k1:=key ((r.set 0 u0).set 1 u1) k0 (by simp[hl]);have a2:=Zclk a1 k1 (at' (by simp[hi])) (show 2<5 by omega) u2;have k2:=key (((r.set 0 u0).set 1 u1).set 2 u2) k1 (by simp[hl]);have a3:=Zclk a2 k2 (at' (by simp[hi])) (show 3<5 by omega) u3;have k3:=key ((((r.set 0 u0).set 1 u1).set 2 u2).set 3 u3) k2 (by simp[hl]);have a4:=Zclk a3 k3 (at' (by simp[hi])) (show 4<5 by omega) u4;simp only[List.set_set,Nat.add_zero]at a4;have e:((((r.set 0 u0).set 1 u1).set 2 u2).set 3 u3).set 4 u4 = [u0,u1,u2,u3,u4]:=by
  match r,hl with
  | [_,_,_,_,_],_=>rfl
 rw[e]at a4;exact a4
def OutQ (g o tc:Nat) (V:World) (ws:List RuleS):Prop:=(∃rows,IsRow V (.slice (some ⟨g,o,none⟩) ws.length tc) 5 rows/\AllA (RuleA (λb=>b=g) V) rows ws)/\∀p,V.frozen? ⟨g,p,none⟩=false
theorem OutQ.rulesI {g o tc:Nat} {V:World} {ws:List RuleS} (h:OutQ g o tc V ws):RulesI V (.slice (some ⟨g,o,none⟩) ws.length tc) ws:=by
 obtain⟨⟨rows,h1,h2⟩,_⟩:=h;exact⟨rows,h1,h2.imp λ_ _ k=>k.ruleI⟩
theorem OutQ.lt {g o tc:Nat} {V:World} {ws:List RuleS} (h:OutQ g o tc V ws) (hn:0<ws.length):g<V.heap.size:=by
 obtain⟨⟨rows,⟨a',c',q,h1,h2,h3⟩,hall⟩,_⟩:=h;have hl:=hall.1;obtain⟨b,o',e,hb,_⟩:=h3 (by rintro rfl;simp at hl;omega);injection q with q1 q2 q3
 rw[<-q1]at e;injection e with e
 injection e with e1 e2
 rw[e1];exact hb
theorem Zckv {V V':World} {g:Nat} (h:V'.heap[g]? =V.heap[g]?) (p:Nat):V'.frozen? ⟨g,p,none⟩=V.frozen? ⟨g,p,none⟩:=by
 simp[World.frozen?,h]
theorem OutQ.below {g o tc:Nat} {V V':World} {ws:List RuleS} (h:OutQ g o tc V ws) (hn:0<ws.length) (hb:Below V.heap.size V V'):OutQ g o tc V' ws:=by
 have hg:=h.lt hn;obtain⟨⟨rows,h1,h2⟩,h3⟩:=h;exact⟨⟨rows,h1.below hb,h2.imp λ_ _ k=>k.keep (Zpv hb)⟩,λp=>(Zckv (hb.block g hg) p).trans (h3 p)⟩
theorem OutQ.at {g o tc:Nat} {V:World} {ws:List RuleS} (h:OutQ g o tc V ws) {i:Nat} {x:RuleS} (hx:ws[i]? =some x):∃p1 n1 m1 p2 n2 m2 p3 n3 m3 p4 n4 m4,RuleI V [.string x.name,.slice p1 n1 m1,.slice p2 n2 m2,.slice p3 n3 m3,.slice p4 n4 m4] x/\
  ∀V':World,V'.heap[g]? =V.heap[g]? ->V'.cell? ⟨g,o+i*5,none⟩=some (.string x.name)/\V'.cell? ⟨g,o+i*5+1,none⟩=some (.slice p1 n1 m1)/\V'.cell? ⟨g,o+i*5+2,none⟩=some (.slice p2 n2 m2)/\V'.cell? ⟨g,o+i*5+3,none⟩=some (.slice p3 n3 m3)/\V'.cell? ⟨g,o+i*5+4,none⟩=some (.slice p4 n4 m4)/\∀p,V'.frozen? ⟨g,p,none⟩=false:=by
 obtain⟨⟨rows,⟨a',c',q,h1,h2,h3⟩,hall⟩,hfz⟩:=h;injection q with q1 q2 q3
 have hi:=(List.getElem?_eq_some_iff.1 hx).1;have hl:=hall.1;obtain⟨b,o',e,hb,hc⟩:=h3 (by rintro rfl;simp at hl;omega);rw[<-q1]at e;injection e with e
 injection e with e1 e2
 subst e1 e2;obtain⟨r,hr⟩:∃r,rows[i]? =some r:=⟨rows[i]'(by omega),List.getElem?_eq_getElem _⟩;have hR:=hall.2 i r x hr hx;have hRI:=hR.ruleI;obtain⟨vi,vo,vf,vs,rfl,k1,k2,k3,k4⟩:=hRI;obtain⟨p1,m1,e1⟩:=Zue k1;obtain⟨p2,m2,e2⟩:=Zue k2;obtain⟨p3,m3,e3⟩:=Zue k3;obtain⟨p4,m4,e4⟩:=Zbov k4;subst e1 e2 e3 e4;refine⟨p1,_,m1,p2,_,m2,p3,_,m3,p4,_,m4,⟨_,_,_,_,rfl,k1,k2,k3,k4⟩,λV' hV=>?_⟩;have cc:∀p,V'.cell? ⟨g,p,none⟩=V.cell? ⟨g,p,none⟩:=λp=>by simp[World.cell?,hV]
 have h0:=hc i _ hr 0 _ rfl;have h1:=hc i _ hr 1 _ rfl;have h2:=hc i _ hr 2 _ rfl;have h3:=hc i _ hr 3 _ rfl;have h4:=hc i _ hr 4 _ rfl;exact⟨(cc _).trans h0,(cc _).trans h1,(cc _).trans h2,(cc _).trans h3,(cc _).trans h4,λp=>(Zckv hV p).trans (hfz p)⟩
def putR (V:World) (g o i:Nat) (u0 u1 u2 u3 u4:Value):World:=((((V.setCell ⟨g,o+i*5,none⟩ u0).setCell ⟨g,o+i*5+1,none⟩ u1).setCell ⟨g,o+i*5+2,none⟩ u2).setCell ⟨g,o+i*5+3,none⟩ u3).setCell ⟨g,o+i*5+4,none⟩ u4
theorem Zcle (V:World) (g o i:Nat) (u0 u1 u2 u3 u4:Value):Fr (λb=>b=g) V (putR V g o i u0 u1 u2 u3 u4):=by
 unfold putR;exact(Zpy (Av:=λb=>b=g) (a:=⟨g,_,none⟩) rfl _).trans ((Zpy (Av:=λb=>b=g) (a:=⟨g,_,none⟩) rfl _).trans ((Zpy (Av:=λb=>b=g) (a:=⟨g,_,none⟩) rfl _).trans ((Zpy (Av:=λb=>b=g) (a:=⟨g,_,none⟩) rfl _).trans (Zpy (Av:=λb=>b=g) (a:=⟨g,_,none⟩) rfl _))))
theorem Zclf (V:World) (g o i:Nat) (u0 u1 u2 u3 u4:Value) (p:Addr):(putR V g o i u0 u1 u2 u3 u4).frozen? p=V.frozen? p:=by
 unfold putR;simp only[Zckw]
theorem OutQ.turn {g o tc S:Nat} {V V1 V2:World} {ws:List RuleS} {i:Nat} {x:RuleS} {vi vo vf vs:Value} (h:OutQ g o tc V ws) (hx:ws[i]? =some x) (hS:V.heap.size=S) (hb:Below S V V1) (hf:Fr (λb=>S<=b) (putR V1 g o i (.string x.name) vi vo vf vs) V2)
  (h1:StrsA (λb=>b<S) V2 vi x.ins.reverse) (h2:StrsA (λb=>b<S) V2 vo x.outs.reverse) (h3:StrsA (λb=>b<S) V2 vf x.after) (h4:StepsA (λb=>b<S) V2 vs x.steps):OutQ g o tc V2 (ws.set i (Zclu x)):=by
 have hi:=(List.getElem?_eq_some_iff.1 hx).1;have hg:=h.lt (by omega);rw[hS]at hg;obtain⟨⟨rows,r1',r2⟩,r3'⟩:=h;have hbV:Below V.heap.size V V1:=by rw[hS];exact hb
 have r1:=r1'.below hbV;have r3:∀p,V1.frozen? ⟨g,p,none⟩=false:=λp=>(Zckv (hb.block g hg) p).trans (r3' p)
 have hs1:S<=V1.heap.size:=by have:=hb.size;omega
 have hl:∀r∈rows,r.length=5:=r2.len λ_ _ k=>k.len
 have s5:=Zcll r1 hl (i:=i) (by rw[r2.1];exact hi) (.string x.name) vi vo vf vs;have hput:=Zcle V1 g o i (.string x.name) vi vo vf vs;have hps:S<=(putR V1 g o i (.string x.name) vi vo vf vs).heap.size:=Nat.le_trans hs1 hput.size;have hgb:V2.heap[g]? =(putR V1 g o i (.string x.name) vi vo vf vs).heap[g]?:=hf.block g (by omega) (by omega);have hall:Fr (λb=>b=g∨S<=b) V V2:=(Zpv hbV).trans ((hput.mono λ_ _ e=> .inl e).trans (hf.mono λ_ _ e=> .inr e));refine⟨⟨rows.set i [.string x.name,vi,vo,vf,vs],?_,?_⟩,λp=>(Zckv hgb p).trans ((Zclf _ _ _ _ _ _ _ _ _ _).trans (r3 p))⟩
 ·rw[List.length_set]
  obtain⟨a',c',q,q1,q2,q3⟩:=s5;refine⟨a',c',q,q1,q2,λhne=>?_⟩;obtain⟨b,o',e,hb',hc⟩:=q3 hne;injection q with e1 e2 e3
  rw[<-e1]at e;injection e with e
  injection e with e4 e5
  subst e4 e5;exact⟨g,o,e1.symm,Nat.lt_of_lt_of_le hb' hf.size,λj r hr k u hu=>(World.cell?_of_block (w:=putR V1 g o i (.string x.name) vi vo vf vs) hgb).trans (hc j r hr k u hu)⟩
 ·refine⟨by rw[List.length_set,List.length_set,r2.1],λj r y hr hy=>?_⟩
  by_cases hj:j=i
  ·subst hj
   rw[List.getElem?_set_self (by rw[r2.1];exact hi)]at hr;rw[List.getElem?_set_self hi]at hy;injection hr with hr
   injection hy with hy
   subst hr hy;have m:∀b,b<V2.heap.size->b=g->b<S:=λb _ e=>by omega
   exact⟨vi,vo,vf,vs,rfl,RowA.mono h1 m,RowA.mono h2 m,RowA.mono h3 m,h4.mono m⟩
  ·rw[List.getElem?_set_ne (by omega)]at hr hy
   have k1:=(r2.2 j r y hr hy).mono (Av':=λb=>b=g∨S<=b) λb hb' e=>e.elim id λe=>by omega
   exact(k1.keep hall).mono λb _ e=> .inl e
theorem Zcld {V:World} {g o i:Nat} {u0 u1 u2 u3 u4 y0 y1 y2 y3 y4:Value} (h0:V.cell? ⟨g,o+i*5,none⟩=some y0) (h1:V.cell? ⟨g,o+i*5+1,none⟩=some y1) (h2:V.cell? ⟨g,o+i*5+2,none⟩=some y2) (h3:V.cell? ⟨g,o+i*5+3,none⟩=some y3) (h4:V.cell? ⟨g,o+i*5+4,none⟩=some y4):
  ∀V':World,V'.heap[g]? =(putR V g o i u0 u1 u2 u3 u4).heap[g]? ->V'.cell? ⟨g,o+i*5,none⟩=some u0/\V'.cell? ⟨g,o+i*5+1,none⟩=some u1/\V'.cell? ⟨g,o+i*5+2,none⟩=some u2/\V'.cell? ⟨g,o+i*5+3,none⟩=some u3/\V'.cell? ⟨g,o+i*5+4,none⟩=some u4:=by
 intro V' hV;have cc:∀p,V'.cell? ⟨g,p,none⟩=(putR V g o i u0 u1 u2 u3 u4).cell? ⟨g,p,none⟩:=λp=>by simp[World.cell?,hV]
 have ne:∀ {p q:Nat},p≠q->(⟨g,p,none⟩:Addr)≠⟨g,q,none⟩:=λh e=>by injection e with _ e;exact h e
 have o0:∀ {W:World} {p q:Nat} {u y:Value},p≠q->W.cell? ⟨g,q,none⟩=some y->(W.setCell ⟨g,p,none⟩ u).cell? ⟨g,q,none⟩=some y:=λh k=>(World.cell?_setCell_other _ _ _ _ (by intro e;injection e with _ e;omega)).trans k
 simp only[cc];unfold putR;refine⟨?_,?_,?_,?_,?_⟩
 ·exact o0 (by omega) (o0 (by omega) (o0 (by omega) (o0 (by omega) (World.cell?_setCell_same _ _ _ h0))))
 ·exact o0 (by omega) (o0 (by omega) (o0 (by omega) (World.cell?_setCell_same _ _ _ (o0 (by omega) h1))))
 ·exact o0 (by omega) (o0 (by omega) (World.cell?_setCell_same _ _ _ (o0 (by omega) (o0 (by omega) h2))))
 ·exact o0 (by omega) (World.cell?_setCell_same _ _ _ (o0 (by omega) (o0 (by omega) (o0 (by omega) h3))))
 ·exact World.cell?_setCell_same _ _ _ (o0 (by omega) (o0 (by omega) (o0 (by omega) (o0 (by omega) h4))))
theorem Zckq {α:Type} {P:List Value->α->Prop} {rows rows2:List (List Value)} {xs ys:List α} (h:AllA P rows xs) (h2:AllA P rows2 ys):AllA P (rows++rows2) (xs++ys):=by
 refine⟨by rw[List.length_append,List.length_append,h.1,h2.1],λj r x hr hx=>?_⟩
 rcases Nat.lt_or_ge j rows.length with hj|hj
 ·rw[List.getElem?_append_left hj]at hr
  rw[List.getElem?_append_left (by rw[<-h.1];exact hj)]at hx;exact h.2 j r x hr hx
 ·rw[List.getElem?_append_right hj]at hr
  rw[List.getElem?_append_right (by rw[<-h.1];exact hj),<-h.1]at hx;exact h2.2 _ r x hr hx
theorem Zclc {S:Nat} {w w1 w2:World} {v1:Value} {g tc n:Nat} {xs ys:List RuleS} {r1 r2:List (List Value)} (hS:S<=w.heap.size) (hall1:AllA (RuleA (λb=>S<=b) w) r1 xs) (hall2:AllA (RuleA (λb=>S<=b) w1) r2 ys) (hg1:w.grownBy w1 none) (hg2:w1.grownBy w2 v1.ownBlock)
  (hv1:∀b,v1.ownBlock=some b->S<=b) (ho2:w2.ownsRow w.heap.size 25 5 (.slice (some ⟨g,0,none⟩) n tc) n (r1.flatten++r2.flatten)) (hn:xs.length+ys.length=n):OutQ g 0 tc w2 (xs++ys):=by
 have f1:Fr (λb=>S<=b) w w1:=Zpx hg1 λk e=>by cases e
 have f2:Fr (λb=>S<=b) w1 w2:=Zpx hg2 λk e=>hv1 k e
 have hgS:S<=g:=Nat.le_trans hS (ho2.lt g rfl).1;have hb:AllA (RuleA (λb=>b=g) w2) (r1++r2) (xs++ys):=(Zckq (hall1.imp λr x h=>h.keep (f1.trans f2)) (hall2.imp λr x h=>h.keep f2)).imp λr x h=>h.mono λb _ e=>by rw[e];exact hgS
 have hl:(r1++r2).length=n:=by rw[hb.1,List.length_append];exact hn
 refine⟨⟨r1++r2,?_,hb⟩,λp=>Zbcv ho2 g rfl p⟩;rw[List.length_append,hn];refine Zbij (t:=25) (B:=w.heap.size) ?_ (hb.len λr x h=>h.len);rw[hl,List.flatten_append];exact ho2
def Zckp (zs:List RuleS) (i:Nat):List RuleS:=(zs.take i).map Zclu++zs.drop i
theorem Zclt (zs:List RuleS):Zckp zs 0=zs:=by simp[Zckp]
theorem Zclr (zs:List RuleS) (i:Nat):(Zckp zs i).length=zs.length:=by simp[Zckp];omega
theorem Zclp {zs:List RuleS} {i:Nat} {x:RuleS} (h:zs[i]? =some x):(Zckp zs i)[i]? =some x:=by
 have hi:=(List.getElem?_eq_some_iff.1 h).1;unfold Zckp;rw[List.getElem?_append_right (by simp;omega),List.length_map,List.length_take,Nat.min_eq_left (by omega),Nat.sub_self,List.getElem?_drop];exact h
theorem Zcls {zs:List RuleS} {i:Nat} {x:RuleS} (h:zs[i]? =some x):(Zckp zs i).set i (Zclu x)=Zckp zs (i+1):=by
 obtain⟨hi,hx⟩:=List.getElem?_eq_some_iff.1 h;unfold Zckp;have hl:((zs.take i).map Zclu).length=i:=by rw[List.length_map,List.length_take];omega
 rw[List.set_append_right _ _ (by omega),hl,Nat.sub_self,List.drop_eq_getElem_cons hi,List.set_cons_zero,List.take_succ_eq_append_getElem hi,List.map_append,hx];simp
theorem Zclq {zs:List RuleS} {i:Nat} (h:zs.length<=i):Zckp zs i=zs.map Zclu:=by
 unfold Zckp;rw[List.take_of_length_le h,List.drop_of_length_le h,List.append_nil]
theorem Zcln {x:RuleS} {m:Nat} (h:SmallR x m):SmallR (Zclu x) m:=
 ⟨h.name,⟨by show x.ins.reverse.length<=m;rw[List.length_reverse];exact h.ins.1,λz hz=>h.ins.2 z (List.mem_reverse.1 hz)⟩,⟨by show x.outs.reverse.length<=m;rw[List.length_reverse];exact h.outs.1,λz hz=>h.outs.2 z (List.mem_reverse.1 hz)⟩,h.after,h.few,h.steps⟩
def CpW (N:Nat) (V1:World) (x:RuleS) (vi vo vf vs:Value):Prop:=∃rs B0,StrsW (λb=>b<N) V1 vi x.ins/\StrsW (λb=>b<N) V1 vo x.outs/\StrsW (λb=>b<N) V1 vf x.after/\Ap3 vi vo vf/\N<=B0/\(∀b,vi.ownBlock=some b∨vo.ownBlock=some b∨vf.ownBlock=some b->b<B0)/\V1.ownsRow B0 42 5 vs rs.length rs.flatten/\AllA (StepA (AvOf B0 vs) V1) rs x.steps
theorem CpW.ins {N g o i:Nat} {V1:World} {x:RuleS} {vi vo vf vs u0 u1 u2 u3 u4:Value} (h:CpW N V1 x vi vo vf vs) (hg:g<N):StrsO (λb=>b<N) (putR V1 g o i u0 u1 u2 u3 u4) vi x.ins:=by
 obtain⟨_,_,h1,_⟩:=h;exact h1.1.keep ((Zcle _ _ _ _ _ _ _ _ _).mono λb _ e=>by show b<N;omega)
theorem CpW.outs {N g o i:Nat} {V1 V3:World} {x:RuleS} {vi vo vf vs u0 u1 u2 u3 u4:Value} (h:CpW N V1 x vi vo vf vs) (hg:g<N) (hf:Fr (λk=>vi.ownBlock=some k) (putR V1 g o i u0 u1 u2 u3 u4) V3):StrsO (λb=>b<N) V3 vo x.outs:=by
 obtain⟨_,_,h1,h2,_,hap,_⟩:=h;have k1:StrsO (λb=>b<N∨vi.ownBlock=some b) V1 vo x.outs:=⟨⟨h2.1.1.1,λb e=>⟨(h2.1.1.2 b e).1,λh'=>h'.elim (h2.1.1.2 b e).2 λe'=>((hap b).1 e').1 e⟩⟩,h2.1.2⟩;exact(k1.keep (((Zcle _ _ _ _ _ _ _ _ _).mono λb _ e=> .inl (by omega)).trans (hf.mono λb _ e=> .inr e))).mono λb _ e=> .inl e
theorem CpW.turn {g o tc N i:Nat} {WR V1 V3 V4:World} {ws:List RuleS} {x:RuleS} {vi vo vf vs:Value} (h:CpW N V1 x vi vo vf vs) (hq:OutQ g o tc WR ws) (hx:ws[i]? =some x) (hN:WR.heap.size=N) (hb1:Below N WR V1) (c1:StrsO (λb=>b<N) V3 vi x.ins.reverse)
  (f1:Fr (λk=>vi.ownBlock=some k) (putR V1 g o i (.string x.name) vi vo vf vs) V3) (c2:StrsO (λb=>b<N) V4 vo x.outs.reverse) (f2:Fr (λk=>vo.ownBlock=some k) V3 V4):OutQ g o tc V4 (ws.set i (Zclu x))/\Fr (λb=>b=g∨N<=b) V1 V4:=by
 obtain⟨rs,B0,h1,h2,h3,hap,hle,hlo,hown,hall⟩:=h;have hg:g<N:=by rw[<-hN];exact hq.lt (by have:=(List.getElem?_eq_some_iff.1 hx).1;omega)
 have hp:=Zcle V1 g o i (.string x.name) vi vo vf vs;have lo1:∀k,vi.ownBlock=some k->N<=k:=λk e=>by have:=(h1.1.1.2 k e).2;have:¬k<N:=this;omega
 have lo2:∀k,vo.ownBlock=some k->N<=k:=λk e=>by have:=(h2.1.1.2 k e).2;have:¬k<N:=this;omega
 have f14:Fr (λb=>N<=b) (putR V1 g o i (.string x.name) vi vo vf vs) V4:=(f1.mono λk _ e=>lo1 k e).trans (f2.mono λk _ e=>lo2 k e);have fall:Fr (λb=>b<N∨(vi.ownBlock=some b∨vo.ownBlock=some b)) V1 V4:=(hp.mono λb _ e=> .inl (by omega)).trans ((f1.mono λb _ e=> .inr (.inl e)).trans (f2.mono λb _ e=> .inr (.inr e)));refine⟨hq.turn hx hN hb1 f14 ?_ c2.1 ?_ ?_,(hp.mono λb _ e=> .inl e).trans (f14.mono λb _ e=> .inr e)⟩
 ·have k1:StrsA (λb=>b<N∨vo.ownBlock=some b) V3 vi x.ins.reverse:=⟨c1.1.1,λb e=>⟨(c1.1.2 b e).1,λh'=>h'.elim (c1.1.2 b e).2 λe'=>((hap b).1 e).1 e'⟩⟩
  exact RowA.mono (RowA.keep k1 (f2.mono λb _ e=> .inr e)) λb _ e=> .inl e
 ·have k1:StrsA (λb=>b<N∨(vi.ownBlock=some b∨vo.ownBlock=some b)) V1 vf x.after:=⟨h3.1.1.1,λb e=>⟨(h3.1.1.2 b e).1,λh'=>h'.elim (h3.1.1.2 b e).2 λe'=>e'.elim (λe'=>((hap b).1 e').2 e) λe'=>(hap b).2 e' e⟩⟩
  exact RowA.mono (RowA.keep k1 fall) λb _ e=> .inl e
 ·have k1:StepsA (λb=>b<B0) V1 vs x.steps:=⟨rs,Zbif hown (hall.len λ_ _ h=>h.len),hall.imp λ_ _ h=>h.mono λb _ hb=> .inl hb⟩
  refine(k1.keep (fall.mono λb _ e=>?_)).mono λb _ e=>by omega
  rcases e with e|e|e
  ·show b<B0;omega
  ·exact hlo b (.inl e)
  ·exact hlo b (.inr (.inl e))
end Go.Proofs.YtmgcaldphpnfgaaGreatDoor
