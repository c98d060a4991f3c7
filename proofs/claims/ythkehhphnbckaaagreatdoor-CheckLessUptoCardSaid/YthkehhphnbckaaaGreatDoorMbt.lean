import Derived.Test.YthkehhphnbckaaaGreatDoorMbl
namespace Go.Proofs.YthkehhphnbckaaaGreatDoor
open Go.RowKit Go.Shelf
set_option maxHeartbeats 2000000 in
theorem Zbwb (v1 v2:Value) (xs:List ByteArray) (w:World) (h1:IsStrs w v1 xs) (h2:IsStrs w v2 xs):
  Calls Tryz.prog 28 #[v1,v2] w fun e w'=>e = .returned (.bool true)∧Below w.heap.size w w':=by
 obtain⟨a1,c1,rfl,_,hm1,hc1⟩:=h1
 obtain⟨a2,c2,rfl,_,hm2,hc2⟩:=h2
 have hlm:xs.length≤maxLen:=by omega
 unfold maxLen at hlm
 have HC1:=Lib.hid hc1
 have HC2:=Lib.hid hc2
 clear hc1 hc2
 go_enter Tryz.func28,Tryz.ntmps28
 go_wp2
 go_loopw [5] (fun i wr=>∃k:Nat,k≤xs.length∧i = .int .i64 k∧Below w.heap.size w wr)
  (fun i _=>xs.length-(intOf i).toNat)
 case atStart=>exact⟨0,Nat.zero_le _,rfl,Below.refl _ _⟩
 case round=>
  obtain⟨k,hk,rfl,hnx⟩:=hrel
  have HNX:=Lib.hid hnx
  clear hnx
  by_cases hlt:k<xs.length
  ·obtain⟨x,hx⟩:∃x,xs[k]? =some x:=⟨xs[k],List.getElem?_eq_getElem hlt⟩
   obtain⟨b1,o1,q1,hb1,hk1⟩:=HC1.out (by rintro e;rw[e]at hlt;simp at hlt)
   obtain⟨b2,o2,q2,hb2,hk2⟩:=HC2.out (by rintro e;rw[e]at hlt;simp at hlt)
   subst q1 q2
   have e1:wr.cell? ⟨b1,o1+k,none⟩=some (.string x):=(HNX.out.cell (p:=⟨b1,o1+k,none⟩) hb1).trans (hk1 k x hx)
   have e2:wr.cell? ⟨b2,o2+k,none⟩=some (.string x):=(HNX.out.cell (p:=⟨b2,o2+k,none⟩) hb2).trans (hk2 k x hx)
   have hi1:(k:Int)<(xs.length:Int):=by omega
   have hi0:(0:Int)≤(k:Int):=by omega
   have hN:Hid (∀n,Below w.heap.size w (wr.drewN n)):=by show ∀n,_;exact fun n=>below_drewN HNX.out n
   clear hk1 hk2 hx
   go_wp2_with fail
   go_quiet (fail)
   all_goals go_wp2
   all_goals go_roundw
   case rel=>exact⟨k+1,by omega,by go_num,hN.out _⟩
   case measure=>simp[intOf];omega
  ·have hi1:¬(k:Int)<(xs.length:Int):=by omega
   go_wp2
   go_ret
   exact⟨rfl,HNX.out⟩
end Go.Proofs.YthkehhphnbckaaaGreatDoor
namespace Go.Proofs.YthkehhphnbckaaaGreatDoor
open Go.RowKit Go.Shelf
theorem AllA.take {α:Type} {P:List Value→α→Prop} {rows:List (List Value)} {xs:List α} (h:AllA P rows xs) (m:Nat):AllA P (rows.take m) (xs.take m):=
 ⟨by rw[List.length_take,List.length_take,h.1],fun j r x hr hx=>by
  rw[List.getElem?_take]at hr hx
  split at hr
  ·rename_i hj;rw[if_pos hj]at hx;exact h.2 j r x hr hx
  ·cases hr⟩
theorem AllA.drop {α:Type} {P:List Value→α→Prop} {rows:List (List Value)} {xs:List α} (h:AllA P rows xs) (m:Nat):AllA P (rows.drop m) (xs.drop m):=
 ⟨by rw[List.length_drop,List.length_drop,h.1],fun j r x hr hx=>by
  rw[List.getElem?_drop]at hr hx
  exact h.2 _ r x hr hx⟩
end Go.Proofs.YthkehhphnbckaaaGreatDoor
namespace Go.Proofs.YthkehhphnbckaaaGreatDoor
open Go.RowKit Go.Shelf
theorem Zbxl {a:Option Addr} {n c n' c' b:Nat} (h:(Value.slice a n c).ownBlock=some b):(Value.slice a n' c').ownBlock=some b:=by cases a<;>exact h
theorem Zbxr {Av:Nat→Prop} {w:World} {a:Option Addr} {n c:Nat} {xs:List RuleS} (h:RulesA Av w (.slice a n c) xs) {m:Nat} (hm:m≤n):RulesA Av w (Zly 5 m a n c) (xs.drop m):=by
 obtain⟨rows,⟨h1,h2⟩,hall⟩:=h
 refine⟨rows.drop m,⟨h1.drop hm,fun b e=>h2 b ?_⟩,hall.drop m⟩
 unfold Zly at e
 split at e
 ·exact Zbxl e
 ·cases a with
  | none=>simp[Value.ownBlock]at e
  | some ad=>
   obtain⟨x,y,z⟩:=ad
   simp only[Value.ownBlock,Option.map_some,Option.some.injEq,Addr.add]at e⊢
   split at e<;>exact e
theorem Zbxs {Av:Nat→Prop} {w:World} {a:Option Addr} {n c:Nat} {xs:List RuleS} (h:RulesA Av w (.slice a n c) xs) {m:Nat} (hm:m≤n):RulesA Av w (.slice a m c) (xs.take m):=by
 obtain⟨rows,⟨h1,h2⟩,hall⟩:=h
 exact⟨rows.take m,⟨h1.take hm,fun b e=>h2 b (Zbxl e)⟩,hall.take m⟩
theorem Zbxy {ops:Array Oper} {o:Oper} {a:Act} {w:World} {K:Act→World→Prop} {Q:Exit→Act→World→Prop} {E:Prop} (hgd:o.guard=none) (s x:Operand) (t:TypeId)
  (ho:o.op = .call { callee:= .builtin .append,args:=#[s,x],argTypes:=#[t,t] }) {v0 vx v':Value} {w':World} (hs:a.eval s=v0) (hx:a.eval x=vx)
  (hr:(Builtin.append_ #[t,t] o.type #[v0,vx]).run Tryz.prog w = .ok v' w') (h:K (a.put o.dst v') w'):
  if Region.wanted o (yielded ops a.tmps)=true then Oper.wp Tryz.prog o a w K Q else E:=by
 have hw:Region.wanted o (yielded ops a.tmps)=true:=by simp[Region.wanted,hgd]
 rw[if_pos hw]
 unfold Oper.wp execOp
 simp only[ho,resolve,invoke,builtin,Sem.run_bind,Sem.run_pure,Result.andThen_ok,List.map_toArray,List.map_cons,List.map_nil,hs,hx,hr]
 exact h
end Go.Proofs.YthkehhphnbckaaaGreatDoor
namespace Go.Proofs.YthkehhphnbckaaaGreatDoor
theorem Zbwe {n:Nat} {p:Nat→Bool} (h:∀k,k<n→p k=false):(List.range n).find? p=none:=by
 rw[List.find?_eq_none]
 intro k hk
 rw[h k (by simpa using hk)];decide
theorem Zbvb:∀ {ks L:List ByteArray},ks.Nodup→(∀k∈ks,k∉L)→(addS L ks).length=L.length+ks.length
 | [],L,_,_=>by simp[addS]
 | k::ks,L,hn,hd=>by
  have e:addS L (k::ks)=addS (insS L k) ks:=rfl
  have hi:insS L k=L ++ [k]:=by unfold insS;rw[if_neg (fun h=>hd k (by simp) (Zsj.1 h))]
  obtain⟨h1,h2⟩:=List.nodup_cons.1 hn
  rw[e,Zbvb h2 (fun a ha hm=>?_),hi]
  ·simp only[List.length_append,List.length_cons,List.length_nil];omega
  ·rw[hi]at hm
   rcases List.mem_append.1 hm with hm|hm
   ·exact hd a (by simp[ha]) hm
   ·obtain rfl:a=k:=by simpa using hm
    exact h1 ha
theorem Zbya {rs:List RuleS} {k:Nat} {x:RuleS} (h:x∈rs.take k):∃i,i<k∧rs[i]? =some x:=by
 obtain⟨i,hi⟩:=List.getElem?_of_mem h
 rw[List.getElem?_take]at hi
 split at hi
 ·exact⟨i,by assumption,hi⟩
 ·cases hi
theorem Zbxz {rs:List RuleS} (hn:∀(i j:Nat) x y,rs[i]? =some x→rs[j]? =some y→i<j→x.name≠y.name) (ho:∀r∈rs,r.outs.Nodup) (hf:∀(i j:Nat) x y,rs[i]? =some x→rs[j]? =some y→i<j→∀a∈x.outs,a∉y.outs):(List.range rs.length).find? (takP rs)=none:=by
 refine Zbwe fun k hk=>?_
 have hx:=List.getElem?_eq_getElem hk
 unfold takP
 rw[hx]
 simp only[Option.map_some,Option.getD_some]
 unfold takB
 rw[Bool.or_eq_false_iff]
 constructor
 ·cases e:inS (nmS (rs.take k)) rs[k].name with
  | false=>rfl
  | true=>
   obtain⟨y,hy,he⟩:=Zbbb.1 (Zsj.1 e)
   obtain⟨i,hik,hi⟩:=Zbya hy
   exact absurd he.symm (hn i k y _ hi hx hik)
 ·rw[Zbvb (ho _ (List.getElem_mem _)) (fun a ha hm=>?_)]
  ·simp
  ·obtain⟨y,hy,he⟩:=Zpk.1 hm
   obtain⟨i,hik,hi⟩:=Zbya hy
   exact hf i k y _ hi hx hik a he ha
theorem Zbxq {rs:List RuleS} (h:∀r∈rs,Zbip r=0):rs.find? (fun r=> !decide (Zbip r=0))=none:=by
 rw[List.find?_eq_none]
 intro r hr
 simp[h r hr]
theorem OkTog.before {rs:List RuleS} (h:OkTog rs):Zet rs=(0,⟨#[]⟩):=by
 unfold Zet
 rw[Zbxq h.each]
 simp only
 rw[if_neg (by have:=h.few;omega),Zbxz h.names h.own h.files]
 simp only
 have ha:(List.range rs.length).find? (astP rs)=none:=by
  refine Zbwe fun k hk=>?_
  unfold astP
  rw[List.getElem?_eq_getElem hk]
  simp only[Option.map_some,Option.getD_some,Bool.not_eq_false',List.all_eq_true]
  intro a hm
  exact Zsj.2 (Zbbb.2 (h.after _ (List.getElem_mem _) a hm))
 rw[ha]
theorem Zbxe {rs:List RuleS}:(Zet rs).1=0↔OkTog rs:=⟨Zbcj,fun h=>by rw[h.before]⟩
theorem Zbxp (r:RuleS):Zbip r=0∨Zbip r=1∨Zbip r=2∨Zbip r=4:=by
 unfold Zbip
 repeat' split
 all_goals simp
theorem Zbve (rs:List RuleS):(Zet rs).1=0∨(Zet rs).1=1∨(Zet rs).1=2∨(Zet rs).1=4:=by
 unfold Zet
 split
 ·exact Zbxp _
 ·split
  ·exact .inr (.inr (.inr rfl))
  ·split
   ·exact .inr (.inr (.inl rfl))
   ·split
    ·exact .inr (.inr (.inl rfl))
    ·exact .inl rfl
theorem Zbxv (rs:List RuleS):Zac (Zbng rs):=by
 have htr:∀(a b c:RuleS),nmLe a b=true→nmLe b c=true→nmLe a c=true:=by
  intro a b c h1 h2
  exact pre5.2 (a.name,(none,0,0),(none,0,0),(none,0,0),(none,0,0)) (b.name,(none,0,0),(none,0,0),(none,0,0),(none,0,0)) (c.name,(none,0,0),(none,0,0),(none,0,0),(none,0,0)) h1 h2
 have hto:∀(a b:RuleS),(nmLe a b||nmLe b a)=true:=by
  intro a b
  unfold nmLe
  have:=Zjv a.name.data.toList b.name.data.toList
  rw[Bool.or_eq_true,decide_eq_true_eq,decide_eq_true_eq]
  omega
 exact(List.pairwise_mergeSort htr hto rs).imp fun h=>of_decide_eq_true h
theorem Zbxw {rs ys:List RuleS} (h:OkTog rs) (hp:ys.Perm rs):Zbng ys=Zbng rs:=
 Zbnh h.names ((List.mergeSort_perm _ _).trans hp) (Zbxv ys)
def Zbvn (rs:List RuleS):Int:=(allB rs (Zot (Zbng rs))).1
theorem Zbvp {rs:List RuleS} (h:(Zet rs).1≠0):allB rs (Zot (Zbng rs))=Zet rs:=by
 unfold allB;rw[if_neg h]
theorem Zbvr {rs:List RuleS} (h:OkTog rs):Zbvn rs=if Zot (Zbng rs) = []then 0 else 3:=by
 unfold Zbvn allB
 rw[if_pos (Zbxe.2 h)]
 cases Zot (Zbng rs)with
 | nil=>rfl
 | cons x l=>rfl
theorem Zbvq (rs:List RuleS):(OkTog rs∧(Zbvn rs=0∨Zbvn rs=3))∨(¬OkTog rs∧Zbvn rs≠0∧Zbvn rs≠3):=by
 by_cases h:OkTog rs
 ·refine .inl ⟨h,?_⟩
  rw[Zbvr h]
  split<;>simp
 ·have h0:(Zet rs).1≠0:=fun e=>h (Zbxe.1 e)
  refine .inr ⟨h,?_⟩
  unfold Zbvn
  rw[Zbvp h0]
  have:=Zbve rs
  omega
theorem Zbvu {rs ys:List RuleS} (hp:ys.Perm rs):(Zbvn rs=0↔Zbvn ys=0)∧(Zbvn rs=3↔Zbvn ys=3)∧(Zbvn rs=3→Zot (Zbng ys)=Zot (Zbng rs)):=by
 rcases Zbvq rs with⟨h,hc⟩|⟨h,h0,h3⟩
 ·have h':=h.perm hp
  have e:=Zbxw h hp
  have:Zbvn ys=Zbvn rs:=by rw[Zbvr h,Zbvr h',e]
  rw[this,e]
  exact⟨Iff.rfl,Iff.rfl,fun _=>rfl⟩
 ·rcases Zbvq ys with⟨h',_⟩|⟨_,k0,k3⟩
  ·exact absurd (h'.perm hp.symm) h
  ·exact⟨⟨fun e=>absurd e h0,fun e=>absurd e k0⟩,⟨fun e=>absurd e h3,fun e=>absurd e k3⟩,fun e=>absurd e h3⟩
theorem Zbxb {s:Nat} {way:List Nat}:∀ {xs:List Nat} {q:List (List Nat)} {r:List Bool},Zbax s way xs q r=none→s∈xs
 | [],_,_,h=>by simp[Zbax]at h
 | x::xs,q,r,h=>by
  unfold Zbax at h
  split at h
  ·rename_i e;exact e▸List.mem_cons_self
  ·split at h<;>exact List.mem_cons_of_mem _ (Zbxb h)
theorem Zbxc {s:Nat} {way:List Nat} {P:Nat→Prop}:∀ {xs:List Nat} {q:List (List Nat)} {r:List Bool} {q':List (List Nat)} {r':List Bool},Zbax s way xs q r=some (q',r')→(∀x∈xs,P x)→(∀w∈q,P (w.getLastD 0))→∀w∈q',P (w.getLastD 0)
 | [],q,r,q',r',h,_,hq=>by
  simp only[Zbax,Option.some.injEq,Prod.mk.injEq]at h
  rw[←h.1];exact hq
 | x::xs,q,r,q',r',h,hx,hq=>by
  unfold Zbax at h
  split at h
  ·cases h
  ·split at h
   ·exact Zbxc h (fun y hy=>hx y (by simp[hy])) hq
   ·refine Zbxc h (fun y hy=>hx y (by simp[hy])) (fun w hw=>?_)
    rcases List.mem_append.1 hw with hw|hw
    ·exact hq w hw
    ·obtain rfl:w=way ++ [x]:=by simpa using hw
     have:(way ++ [x]).getLastD 0=x:=by simp
     rw[this]
     exact hx x (by simp)
theorem Zbvf {s:Nat} {nd:Nat→List Nat}:∀(n:Nat) (q:List (List Nat)) (r:List Bool),(∀w∈q,w.getLastD 0=s∨Rch nd s (w.getLastD 0))→bfsF s nd n q r≠[]→Rch nd s s
 | 0,_,_,_,h=>absurd (by simp[bfsF]) h
 | _+1,[],_,_,h=>absurd (by simp[bfsF]) h
 | n+1,w::q,r,hq,h=>by
  rw[Zfp]at h
  have hw:=hq w (by simp)
  have hn:∀x∈nd (w.getLastD 0),x=s∨Rch nd s x:=by
   intro x hx
   rcases hw with e|e
   ·rw[e]at hx;exact .inr (.one hx)
   ·exact .inr (.more e hx)
  cases e:Zbax s w (nd (w.getLastD 0)) q r with
  | none=>
   have hs:=Zbxb e
   rcases hw with e2|e2
   ·rw[e2]at hs;exact .one hs
   ·exact .more e2 hs
  | some p=>
   rw[e]at h
   obtain⟨q',r'⟩:=p
   exact Zbvf n q' r' (Zbxc (P:=fun x=>x=s∨Rch nd s x) e hn (fun w hw=>hq w (by simp[hw]))) h
theorem Zbxn {s N:Nat} {nd:Nat→List Nat} (h:Zbhz s nd N≠[]):Rch nd s s:=by
 refine Zbvf _ _ _ (fun w hw=>?_) h
 obtain rfl:w = [s]:=by simpa using hw
 exact .inl rfl
theorem Zbwc {nd:Nat→List Nat} {N:Nat}:∀ {l:List Nat},(∀s∈l,Zbhz s nd N = [])→fcL nd N l = []
 | [],_=>rfl
 | a::l,h=>by
  unfold fcL
  rw[if_pos (h a (by simp))]
  exact Zbwc fun s hs=>h s (by simp[hs])
theorem Zbwf {rs:List RuleS} (h:∀s,s<rs.length→¬Rch (Zban rs) s s):Zot rs = []:=by
 unfold Zot
 rw[Zbwc (fun s hs=>?_)]
 ·rfl
 ·exact Classical.byContradiction fun hn=>h s (by simpa using hs) (Zbxn hn)
theorem Zbvs {rs:List RuleS}:Zbvn rs=0↔OkTog rs∧∀s,s<rs.length→¬Rch (Zban rs) s s:=by
 constructor
 ·intro h
  rcases Zbvq rs with⟨hT,_⟩|⟨_,h0,_⟩
  ·refine⟨hT,Zcl hT ?_⟩
   rw[Zbvr hT]at h
   split at h
   ·assumption
   ·omega
  ·exact absurd h h0
 ·rintro⟨hT,ha⟩
  have hp:(Zbng rs).Perm rs:=List.mergeSort_perm _ _
  rw[Zbvr hT,if_pos]
  exact Zbwf (Zcm (hT.perm hp) hp.symm ha)
theorem Zbxm {rs ys:List RuleS} (hs:∀r∈ys,r∈rs) {x y:RuleS} (h:RchR ys x y):RchR rs x y:=by
 induction h with
 | one h1 h2 h3=>exact .one (hs _ h1) (hs _ h2) h3
 | more _ h2 h3 ih=>exact .more ih (hs _ h2) h3
theorem Zbva {rs ys:List RuleS} (h:OkTog rs) (hy:OkTog ys) (hs:∀r∈ys,r∈rs) (ha:∀s,s<rs.length→¬Rch (Zban rs) s s):∀s,s<ys.length→¬Rch (Zban ys) s s:=by
 intro s hl hr
 obtain⟨x,y,hx,hx',hc⟩:=Zbgu hy hr
 rw[hx]at hx'
 obtain rfl:=Option.some.inj hx'
 obtain⟨i,hi⟩:=List.getElem?_of_mem (hs x (List.mem_of_getElem? hx))
 exact ha i (List.getElem?_eq_some_iff.1 hi).1 (Zbjw h (Zbxm hs hc) i i hi hi)
theorem Zbvt {rs:List RuleS} {k:Nat} {x:RuleS} (h0:Zbvn rs=0) (hx:rs[k]? =some x) (hna:∀r∈rs.take k++rs.drop (k+1),x.name∉r.after):Zbvn (rs.take k++rs.drop (k+1))=0:=by
 obtain⟨hT,ha⟩:=Zbvs.1 h0
 have hsub:(rs.take k++rs.drop (k+1)).Sublist rs:=by
  have:=List.Sublist.append (List.Sublist.refl (rs.take k)) (List.drop_sublist_drop_left rs (Nat.le_succ k))
  rwa [List.take_append_drop]at this
 have hm:∀r∈rs.take k++rs.drop (k+1),r∈rs:=fun r hr=>hsub.mem hr
 have hT':OkTog (rs.take k++rs.drop (k+1)):=by
  refine⟨fun r hr=>hT.each r (hm r hr),Nat.le_trans hsub.length_le hT.few,?_,fun r hr=>hT.own r (hm r hr),?_,fun r hr a hra=>?_⟩
  ·exact Zbet.1 ((Zbet.2 hT.names).sublist hsub)
  ·exact Zbet.1 ((Zbet (R:=fun x y:RuleS=>∀a∈x.outs,a∉y.outs).2 hT.files).sublist hsub)
  ·obtain⟨y,hy,e⟩:=hT.after r (hm r hr) a hra
   refine⟨y,?_,e⟩
   obtain⟨j,hj⟩:=List.getElem?_of_mem hy
   have hjl:=(List.getElem?_eq_some_iff.1 hj).1
   rcases Nat.lt_trichotomy j k with hlt|rfl|hgt
   ·exact List.mem_append_left _ (List.mem_of_getElem? (i:=j) (by rw[List.getElem?_take,if_pos hlt];exact hj))
   ·rw[hx]at hj
    obtain rfl:=Option.some.inj hj
    exact absurd (e▸hra) (hna r hr)
   ·refine List.mem_append_right _ (List.mem_of_getElem? (i:=j-(k+1)) ?_)
    rw[List.getElem?_drop,show k+1+(j-(k+1))=j by omega];exact hj
 exact Zbvs.2 ⟨hT',Zbva hT hT' hm ha⟩
theorem Zbwn {rs:List RuleS} {k:Nat} {y:RuleS} (h:y∈rs.take k++rs.drop (k+1)):∃j,j≠k∧rs[j]? =some y:=by
 rcases List.mem_append.1 h with h|h
 ·obtain⟨i,h1,h2⟩:=Zbya h
  exact⟨i,by omega,h2⟩
 ·obtain⟨i,hi⟩:=List.getElem?_of_mem h
  rw[List.getElem?_drop]at hi
  exact⟨k+1+i,by omega,hi⟩
theorem Zbxa {r:RuleS} (h:Zbip r=0):r.name.size≠0:=by
 intro e
 have hd:r.name.data.toList = []:=by rw[←List.length_eq_zero_iff,←Lib.size_eq];exact e
 have hf:Zpo r=false:=by
  unfold Zpo
  have:okN r.name=false:=by unfold okN;rw[hd];kernel_rfl
  rw[this]
  simp
 unfold Zbip at h
 rw[if_pos hf]at h
 exact absurd h (by decide)
theorem Zbwm {rs:List RuleS} {k:Nat} {x:RuleS} (h0:Zbvn rs=0) (hx:rs[k]? =some x) (hna:∃r∈rs.take k++rs.drop (k+1),x.name∈r.after):∃nm,allB (rs.take k++rs.drop (k+1)) (Zot (Zbng (rs.take k++rs.drop (k+1))))=(2,nm)∧nm.size≠0:=by
 obtain⟨hT,_⟩:=Zbvs.1 h0
 have hsub:(rs.take k++rs.drop (k+1)).Sublist rs:=by
  have:=List.Sublist.append (List.Sublist.refl (rs.take k)) (List.drop_sublist_drop_left rs (Nat.le_succ k))
  rwa [List.take_append_drop]at this
 have hm:∀r∈rs.take k++rs.drop (k+1),r∈rs:=fun r hr=>hsub.mem hr
 obtain⟨r,hr,hra⟩:=hna
 have hxn:x.name∉nmS (rs.take k++rs.drop (k+1)):=by
  intro hn
  obtain⟨y,hy,e⟩:=Zbbb.1 hn
  obtain⟨j,hj,hjy⟩:=Zbwn hy
  rcases Nat.lt_or_gt_of_ne hj with h|h
  ·exact hT.names j k y x hjy hx h e.symm
  ·exact hT.names k j x y hx hjy h e
 obtain⟨out,hout⟩:∃o,rs.take k++rs.drop (k+1)=o:=⟨_,rfl⟩
 rw[hout]at hsub hm hr hxn⊢
 have hex:∃j,(List.range out.length).find? (astP out)=some j∧j<out.length:=by
  cases e:(List.range out.length).find? (astP out)with
  | some j=>exact⟨j,rfl,by simpa using List.mem_of_find?_eq_some e⟩
  | none=>
   obtain⟨i,hi⟩:=List.getElem?_of_mem hr
   have:=Zbgg e (List.getElem?_eq_some_iff.1 hi).1
   unfold astP at this
   rw[hi]at this
   simp only[Option.map_some,Option.getD_some,Bool.not_eq_false',List.all_eq_true]at this
   exact absurd (Zsj.1 (this _ hra)) hxn
 obtain⟨j,hj,hjl⟩:=hex
 have hb:Zet out=(2,nmAt out j):=by
  unfold Zet
  rw[Zbxq fun r hr=>hT.each r (hm r hr)]
  simp only
  rw[if_neg (by have:=hsub.length_le;have:=hT.few;omega),Zbxz (Zbet.1 ((Zbet (R:=fun x y:RuleS=>x.name≠y.name).2 hT.names).sublist hsub)) (fun r hr=>hT.own r (hm r hr)) (Zbet.1 ((Zbet (R:=fun x y:RuleS=>∀a∈x.outs,a∉y.outs).2 hT.files).sublist hsub)),hj]
 refine⟨nmAt out j,by rw[Zbvp (by rw[hb];exact(by decide:(2:Int)≠0)),hb],?_⟩
 have hg:=List.getElem?_eq_getElem hjl
 unfold nmAt
 rw[hg]
 exact Zbxa (hT.each _ (hm _ (List.getElem_mem _)))
end Go.Proofs.YthkehhphnbckaaaGreatDoor
