import Derived.Test.YtcpjfpdecklkgaaGreatDoorMbg
import Derived.Deep.RegionHeld3
namespace Go.Proofs.YtcpjfpdecklkgaaGreatDoor
open Go.Lib (hid)
open Go.Proofs.Tryz
theorem Zcn:∀ {ks L:List ByteArray},(addS L ks).length=L.length+ks.length->ks.Nodup/\∀k∈ks,k∉L
 | [],L,_=>⟨List.nodup_nil,λk hk=>by simp at hk⟩
 | k::ks,L,h=>by
  have e:addS L (k::ks)=addS (insS L k) ks:=rfl;rw[e]at h;have h1:=Zco ks (insS L k);have h2:=Ztb L k;simp only[List.length_cons]at h;have hk:k∉L:=by
   intro hm;have:insS L k=L:=by unfold insS;rw[if_pos (Zsj.2 hm)]
   rw[this]at h1 h;omega
  have hi:insS L k=L ++ [k]:=by unfold insS;rw[if_neg (λh=>hk (Zsj.1 h))]
  obtain⟨i1,i2⟩:=Zcn (ks:=ks) (L:=insS L k) (by omega);rw[hi]at i2;refine⟨List.nodup_cons.2 ⟨λhm=>i2 k hm (by simp),i1⟩,λa ha=>?_⟩
  rcases List.mem_cons.1 ha with rfl|ha
  ·exact hk
  ·exact λhm=>i2 a ha (by simp[hm])
theorem Zpk {rs:List RuleS} {a:ByteArray}:a∈foS rs↔∃r∈rs,a∈r.outs:=by
 have h:∀(rs:List RuleS) (L:List ByteArray),a∈rs.foldl (λL r=>addS L r.outs) L↔a∈L∨∃r∈rs,a∈r.outs:=by
  intro rs
  induction rs with
  | nil=>intro L;simp
  | cons r rs ih=>intro L;rw[List.foldl_cons,ih,Zcp];simp[or_assoc]
 unfold foS;rw[h];simp
theorem Zbbb {rs:List RuleS} {a:ByteArray}:a∈nmS rs↔∃r∈rs,a=r.name:=by
 have h:∀(rs:List RuleS) (L:List ByteArray),a∈rs.foldl (λL r=>addS L [r.name]) L↔a∈L∨∃r∈rs,a=r.name:=by
  intro rs
  induction rs with
  | nil=>intro L;simp
  | cons r rs ih=>intro L;rw[List.foldl_cons,ih,Zcp];simp[or_assoc]
 unfold nmS;rw[h];simp
structure OkTog (rs:List RuleS):Prop where
 each:∀r∈rs,Zbip r=0
 few:rs.length<=40
 names:∀(i j:Nat) x y,rs[i]? =some x->rs[j]? =some y->i<j->x.name≠y.name
 own:∀r∈rs,r.outs.Nodup
 files:∀(i j:Nat) x y,rs[i]? =some x->rs[j]? =some y->i<j->∀a∈x.outs,a∉y.outs
 after:∀r∈rs,∀a∈r.after,∃x∈rs,a=x.name
theorem Zbgg {n:Nat} {p:Nat->Bool} (h:(List.range n).find? p=none) {k:Nat} (hk:k<n):p k=false:=by
 have:=List.find?_eq_none.1 h k (by simpa using hk);simpa using this
theorem Zbcj {rs:List RuleS} (h:(Zet rs).1=0):OkTog rs:=by
 unfold Zet at h
 cases h1:rs.find? (λr=> !decide (Zbip r=0))with
 | some r=>
  rw[h1]at h;have:=List.find?_some h1;simp only[Bool.not_eq_true',decide_eq_false_iff_not]at this;exact absurd h this
 | none=>
  rw[h1]at h;simp only at h;split at h
  ·exact absurd h (by decide)
  rename_i hf
  cases h2:(List.range rs.length).find? (takP rs)with
  | some k=>rw[h2]at h;exact absurd (show(2:Int)=0 from h) (by decide)
  | none=>
   rw[h2]at h;simp only at h
   cases h3:(List.range rs.length).find? (astP rs)with
   | some k=>rw[h3]at h;exact absurd (show(2:Int)=0 from h) (by decide)
   | none=>
    have hT:∀(k:Nat) x,rs[k]? =some x->x.name∉nmS (rs.take k)/\x.outs.Nodup/\∀a∈x.outs,a∉foS (rs.take k):=by
     intro k x hx;have:=Zbgg h2 (List.getElem?_eq_some_iff.1 hx).1;unfold takP at this;rw[hx]at this;simp only[Option.map_some,Option.getD_some]at this;unfold takB at this;rw[Bool.or_eq_false_iff]at this;obtain⟨t1,t2⟩:=this;simp only[Bool.not_eq_false',decide_eq_true_eq]at t2;exact⟨λhm=>(by rw[Zsj.2 hm]at t1;exact absurd t1 (by decide)),Zcn t2⟩
    have hlow:∀ {i j:Nat} {x:RuleS},rs[i]? =some x->i<j->x∈rs.take j:=fun {i j x} hx hij=>List.mem_of_getElem? (i:=i) (by rw[List.getElem?_take,if_pos hij];exact hx)
    refine⟨λr hr=>?_,by omega,λi j x y hx hy hij e=>?_,λr hr=>?_,λi j x y hx hy hij a ha hb=>?_,λr hr a ha=>?_⟩
    ·have:=List.find?_eq_none.1 h1 r hr
     simpa using this
    ·exact(hT j y hy).1 (Zbbb.2 ⟨x,hlow hx hij,e.symm⟩)
    ·obtain⟨k,hk⟩:=List.getElem?_of_mem hr
     exact(hT k r hk).2.1
    ·exact(hT j y hy).2.2 a hb (Zpk.2 ⟨x,hlow hx hij,ha⟩)
    ·obtain⟨k,hk⟩:=List.getElem?_of_mem hr
     have:=Zbgg h3 (List.getElem?_eq_some_iff.1 hk).1;unfold astP at this;rw[hk]at this;simp only[Option.map_some,Option.getD_some,Bool.not_eq_false',List.all_eq_true]at this;exact Zbbb.1 (Zsj.1 (this a ha))
theorem Zbry {ks:List ByteArray} {i j:Nat} {x:ByteArray}:∀ {f:ByteArray->Option Nat},Zbru f ks i x=some j->(x∈ks/\j=i)∨(x∉ks/\f x=some j):=by
 induction ks with
 | nil=>intro f h;exact .inr ⟨by simp,h⟩
 | cons k ks ih=>
  intro f h;have e:Zbru f (k::ks) i=Zbru (updF f k i) ks i:=rfl;rw[e]at h
  rcases ih h with⟨h1,h2⟩|⟨h1,h2⟩
  ·exact .inl ⟨by simp[h1],h2⟩
  ·unfold updF at h2
   by_cases hk:k=x
   ·subst hk
    simp only[if_true]at h2;exact .inl ⟨by simp,(Option.some.inj h2).symm⟩
   ·rw[if_neg hk]at h2
    exact .inr ⟨by simp[h1];exact λe=>hk e.symm,h2⟩
theorem Zbrv {ks:List ByteArray} {i:Nat} {x:ByteArray} (f:ByteArray->Option Nat) (h:x∈ks):Zbru f ks i x=some i:=by
 cases e:Zbru f ks i x with
 | some j=>
       rcases Zbry e with⟨_,rfl⟩|⟨h1,_⟩
       · rfl
       · exact absurd h h1
 | none=>
  exfalso
  have:∀(ks:List ByteArray) (f:ByteArray->Option Nat),(x∈ks∨(f x).isSome=true)->(Zbru f ks i x).isSome=true:=by
   intro ks
   induction ks with
   | nil=>
        intro f h;rcases h with h|h
        · simp at h
        · exact h
   | cons k ks ih=>
    intro f h;show(Zbru (updF f k i) ks i x).isSome=true;apply ih
    by_cases hk:k=x
    ·right;unfold updF;rw[if_pos hk];rfl
    ·rcases h with h|h
     ·rcases List.mem_cons.1 h with rfl|h
      ·exact absurd rfl hk
      ·exact .inl h
     ·right;unfold updF;rw[if_neg hk];exact h
  have:=this ks f (.inl h);rw[e]at this;cases this
theorem Zbrx {ks:List ByteArray} {i:Nat} {x:ByteArray} (f:ByteArray->Option Nat) (h:x∉ks):Zbru f ks i x=f x:=by
 induction ks generalizing f with
 | nil=>rfl
 | cons k ks ih=>
  show Zbru (updF f k i) ks i x=f x;rw[ih _ (λh'=>h (by simp[h']))];unfold updF;rw[if_neg (λe=>h (by simp[e]))]
theorem Zzi {rs:List RuleS} {x:ByteArray}:∀ {n j:Nat},mkrN rs n x=some j->j<n/\x∈Zbdg rs j
 | 0,j,h=>by simp[mkrN]at h
 | n+1,j,h=>by
  rw[mkrN]at h
  rcases Zbry h with⟨h1,rfl⟩|⟨_,h2⟩
  ·exact⟨Nat.lt_succ_self _,h1⟩
  ·have:=Zzi h2;exact⟨by omega,this.2⟩
theorem Zbfe {rs:List RuleS} {x:ByteArray}:∀ {n j:Nat},plcN rs n x=some j->j<n/\x=nmAt rs j
 | 0,j,h=>by simp[plcN]at h
 | n+1,j,h=>by
  rw[plcN]at h;unfold updF at h;split at h
  ·rename_i e
   obtain rfl:=Option.some.inj h;exact⟨Nat.lt_succ_self _,e.symm⟩
  ·have:=Zbfe h;exact⟨by omega,this.2⟩
theorem Zbdh {rs:List RuleS} {k:Nat} {r:RuleS} (h:rs[k]? =some r):Zbdg rs k=r.outs:=by unfold Zbdg;rw[h];rfl
theorem Zzh {rs:List RuleS} (hT:OkTog rs) {k:Nat} {r:RuleS} {x:ByteArray} (hr:rs[k]? =some r) (hx:x∈r.outs):∀ {n:Nat},k<n->n<=rs.length->mkrN rs n x=some k
 | 0,h,_=>by omega
 | n+1,h,hn=>by
  rw[mkrN]
  by_cases e:k=n
  ·subst e
   rw[Zbdh hr];exact Zbrv _ hx
  ·obtain⟨y,hy⟩:∃y,rs[n]? =some y:=⟨rs[n]'(by omega),List.getElem?_eq_getElem _⟩
   rw[Zbdh hy,Zbrx _ (hT.files k n r y hr hy (by omega) x hx)];exact Zzh hT hr hx (by omega) (by omega)
theorem Zbfd {rs:List RuleS} (hT:OkTog rs) {k:Nat} {r:RuleS} (hr:rs[k]? =some r):∀ {n:Nat},k<n->n<=rs.length->plcN rs n r.name=some k
 | 0,h,_=>by omega
 | n+1,h,hn=>by
  rw[plcN]
  by_cases e:k=n
  ·subst e
   unfold updF nmAt;rw[hr];simp
  ·obtain⟨y,hy⟩:∃y,rs[n]? =some y:=⟨rs[n]'(by omega),List.getElem?_eq_getElem _⟩
   unfold updF nmAt;rw[hy];simp only[Option.map_some,Option.getD_some];rw[if_neg (λe=>hT.names k n r y hr hy (by omega) e.symm)];exact Zbfd hT hr (by omega) (by omega)
theorem Zbar {rs:List RuleS} {k j:Nat}:j∈Zban rs k↔(∃a∈Zta rs k,mkrN rs rs.length a=some j)∨∃a∈Zcs rs k,plcN rs rs.length a=some j:=by
 unfold Zban srtN;rw[(List.mergeSort_perm _ _).mem_iff,List.mem_append,List.mem_filterMap,List.mem_filterMap]
theorem Zbaq {rs:List RuleS} {k j:Nat} (h:j∈Zban rs k):j<rs.length:=by
 rcases Zbar.1 h with⟨a,_,h⟩|⟨a,_,h⟩
 ·exact(Zzi h).1
 ·exact(Zbfe h).1
def fcL (nd:Nat->List Nat) (N:Nat):List Nat->List Nat
 | []=>[]
 | s::l=>if Zbhz s nd N = []then fcL nd N l else Zbhz s nd N
def Zot (rs:List RuleS):List ByteArray:=(fcL (Zban rs) rs.length (List.range rs.length)).map (nmAt rs)
theorem Znj {nd:Nat->List Nat} {N:Nat}:∀ {l:List Nat},fcL nd N l = []->∀s∈l,Zbhz s nd N = []
 | [],_,s,hs=>by simp at hs
 | a::l,h,s,hs=>by
  unfold fcL at h;split at h
  ·rename_i h1
   rcases List.mem_cons.1 hs with rfl|hs
   ·exact h1
   ·exact Znj h s hs
  ·rename_i h1;exact absurd h h1
theorem Zov {rs:List RuleS} (h:Zot rs = []):∀s,s<rs.length->¬Rch (Zban rs) s s:=by
 intro s hs;have h1:fcL (Zban rs) rs.length (List.range rs.length) = []:=by simpa[Zot]using h
 exact Zbia (λx _ y hy=>Zbaq hy) hs (Znj h1 s (by simpa using hs))
def valF (rs:List RuleS) (f:ByteArray->ByteArray×Bool):Nat->ByteArray->ValT
 | 0,_=>noV
 | d+1,x=>match mkrN rs rs.length x with
  | none=>((f x).2,(f x).1)
  | some k=>match rs[k]? with
   | none=>noV
   | some r=>(runP r (r.ins.map (valF rs f d))).getD (Zoi r.outs x).toNat noV
def Zob (rs:List RuleS) (f:ByteArray->ByteArray×Bool):ByteArray->ValT:=valF rs f (rs.length+2)
structure IsMean (rs:List RuleS) (f:ByteArray->ByteArray×Bool) (V:ByteArray->ValT) (rk:Nat->Nat):Prop where
 src:∀x,mkrN rs rs.length x=none->V x=((f x).2,(f x).1)
 out:∀(k:Nat) r,rs[k]? =some r->∀(i:Nat) o,r.outs[i]? =some o->V o=(runP r (r.ins.map V)).getD i noV
 down:∀(k:Nat) r,rs[k]? =some r->∀a∈r.ins,∀j,mkrN rs rs.length a=some j->rk j<rk k
theorem Zbsb {rs:List RuleS} {f:ByteArray->ByteArray×Bool} {rk:Nat->Nat} (hd:∀(k:Nat) r,rs[k]? =some r->∀a∈r.ins,∀j,mkrN rs rs.length a=some j->rk j<rk k):
  ∀(d D:Nat) (x:ByteArray),d<=D->1<=d->(∀k,mkrN rs rs.length x=some k->rk k+1<d)->valF rs f d x=valF rs f D x
 | 0,_,_,_,h,_=>by omega
 | d+1,0,_,h,_,_=>by omega
 | d+1,D+1,x,hD,_,hk=>by
  rw[valF,valF]
  cases hm:mkrN rs rs.length x with
  | none=>rfl
  | some k=>
   simp only
   cases hr:rs[k]? with
   | none=>rfl
   | some r=>
    simp only;have h1:=hk k hm;have:r.ins.map (valF rs f d)=r.ins.map (valF rs f D):=by
     apply List.map_congr_left;intro a ha;exact Zbsb hd d D a (by omega) (by omega) (λj hj=>by have:=hd k r hr a ha j hj;omega)
    rw[this]
theorem Ztt {rs:List RuleS} {f:ByteArray->ByteArray×Bool} (hT:OkTog rs) (hC:∀s,s<rs.length->¬Rch (Zban rs) s s):IsMean rs f (Zob rs f) (Zbgh (Zban rs) rs.length):=by
 have hd:∀(k:Nat) r,rs[k]? =some r->∀a∈r.ins,∀j,mkrN rs rs.length a=some j->Zbgh (Zban rs) rs.length j<Zbgh (Zban rs) rs.length k:=by
  intro k r hr a ha j hj;refine Zbgi (λx hx=>hC x hx) (Zzi hj).1 (Zbar.2 (.inl ⟨a,?_,hj⟩));unfold Zta;rw[hr];exact ha
 have hle:∀k,Zbgh (Zban rs) rs.length k<=rs.length:=by
  intro k;unfold Zbgh;have:=List.countP_le_length (p:=λy=>@decide (Rch (Zban rs) k y) (Classical.propDecidable _)) (l:=List.range rs.length);rw[List.length_range]at this;exact this
 refine⟨λx hx=>?_,λk r hr i o ho=>?_,hd⟩
 ·unfold Zob;rw[valF,hx]
 ·have hm:=Zzh hT hr (List.mem_of_getElem? ho) (List.getElem?_eq_some_iff.1 hr).1 (Nat.le_refl _)
  have hi:Zoi r.outs o=(i:Int):=Zol ho λj hj e=>by
   have hn:=hT.own r (List.mem_of_getElem? hr);obtain⟨h1,e1⟩:=List.getElem?_eq_some_iff.1 ho;obtain⟨h2,e2⟩:=List.getElem?_eq_some_iff.1 e;have:=List.pairwise_iff_getElem.1 hn j i h2 h1 hj;exact this (e2.trans e1.symm)
  have e:Zob rs f o=(runP r (r.ins.map (valF rs f (rs.length+1)))).getD i noV:=by
   unfold Zob;rw[valF,hm];simp only;rw[hr];simp only;rw[hi];rfl
  rw[e];have:r.ins.map (valF rs f (rs.length+1))=r.ins.map (Zob rs f):=by
   apply List.map_congr_left;intro a ha;exact Zbsb hd _ _ a (by omega) (by omega) (λj hj=>by have:=hd k r hr a ha j hj;have:=hle k;omega)
  rw[this]
open Go.RowKit Go.Shelf Go.Maps
def eqV (a b:ValT):Bool:=(a.1==b.1)&&(!a.1||(a.2.toList==b.2.toList))
set_option maxHeartbeats 4000000
set_option maxRecDepth 100000
theorem Zls (a b:ValT) (w:World):Calls prog 24 #[.agg #[.bool a.1,.string a.2],.agg #[.bool b.1,.string b.2]] w λe w'=>e = .returned (.bool (eqV a b))/\Below w.heap.size w w':=by
 obtain⟨p,x⟩:=a;obtain⟨q,y⟩:=b;unfold eqV;simp only
 cases p<;>cases q
 all_goals
  go_enter func24,ntmps24
  go_wp2;go_ret;exact⟨by first|rfl|simp|(simp;rfl),((Below.refl _ _).alloc (Nat.le_refl _) _).alloc (by simp) _⟩
def MapF (w:World) (b:Nat) (N:Nat) (f:ByteArray->Option Nat) (V:Nat->Value) (z:Value):Prop:=∃m,MapIs prog 9 w b m/\(∀k,hasM m k=(f k).isSome)/\(∀k,getM m k z=((f k).map V).getD z)/\m.length<=N
theorem MapF.lt {w:World} {b N:Nat} {f:ByteArray->Option Nat} {V:Nat->Value} {z:Value} (h:MapF w b N f V z):b<w.heap.size:=by obtain⟨m,h1,_⟩:=h;exact h1.lt
theorem MapF.heap {w w':World} {b N:Nat} {f:ByteArray->Option Nat} {V:Nat->Value} {z:Value} (h:MapF w b N f V z) (hb:w'.heap[b]? =w.heap[b]?):MapF w' b N f V z:=by obtain⟨m,h1,r⟩:=h;exact⟨m,h1.heap hb,r⟩
theorem MapF.more {w:World} {b N N':Nat} {f:ByteArray->Option Nat} {V:Nat->Value} {z:Value} (h:MapF w b N f V z) (hn:N<=N'):MapF w b N' f V z:=by obtain⟨m,h1,h2,h3,h4⟩:=h;exact⟨m,h1,h2,h3,by omega⟩
theorem Zyi (w:World) (V:Nat->Value) (z:Value):MapF (w.alloc (.map #[] 0)) w.heap.size 0 (λ_=>none) V z:=⟨[],Zyj w _ _,λ_=>rfl,λ_=>rfl,Nat.le_refl _⟩
theorem MapF.put {w:World} {b N:Nat} {f:ByteArray->Option Nat} {V:Nat->Value} {z:Value} {t e:TypeId} (h:MapF w b N f V z) (ht:prog.underlying t=some (.map 9 e)) (hn:N<=4000000000000000) (k:ByteArray) (hs:k.size<=maxLen) (i:Nat):
  ∃w',(Instr.mapUpdate t (.map (some b)) (.string k) (V i)).run prog w = .ok () w'/\MapF w' b (N+1) (updF f k i) V z/\w.mapTurned w' b:=by
 obtain⟨m,h1,h2,h3,h4⟩:=h;obtain⟨w',r,hm,ht'⟩:=h1.put underlying9 ht (by unfold maxLen;omega) k hs (V i);refine⟨w',r,⟨_,hm,λk'=>?_,λk'=>?_,?_⟩,ht'⟩
 ·rw[Zrm,h2]
  unfold updF
  by_cases hk:k=k'
  ·simp[hk]
  ·simp[hk]
 ·unfold updF
  by_cases hk:k=k'
  ·subst hk;rw[Zqj,if_pos rfl];rfl
  ·rw[Zqi _ _ _ hk,if_neg hk];exact h3 k'
 ·obtain⟨D,_,_,_,_,hK⟩:=h1
  rw[Zbfq hK];split<;>omega
theorem MapF.look {w:World} {b N:Nat} {f:ByteArray->Option Nat} {V:Nat->Value} {z:Value} {t e:TypeId} (h:MapF w b N f V z) (ht:prog.underlying t=some (.map 9 e)) (hz:(zeroValue e).run prog w = .ok z w) (k:ByteArray) (hs:k.size<=maxLen):
  (Instr.lookup t (.map (some b)) (.string k) true).run prog w = .ok (.tuple #[((f k).map V).getD z,.bool (f k).isSome]) w:=by
 obtain⟨m,h1,h2,h3,h4⟩:=h;rw[h1.look_ok underlying9 ht hz k hs,h2,h3]
def Zbus:Value:= .agg #[.string ⟨#[]⟩,.slice none 0 0,.slice none 0 0,.slice none 0 0,.slice none 0 0]
def RvIs (w:World) (v:Value) (rs:List RuleS) (V:Nat->Value):Prop:=∀(k:Nat) x,rs[k]? =some x->∃a1 c1 a2 c2 a3 c3 a4 c4,V k = .agg (Zbiz x a1 a2 a3 a4 c1 c2 c3 c4)/\RuleI w [.string x.name,.slice a1 x.ins.length c1,.slice a2 x.outs.length c2,.slice a3 x.after.length c3,.slice a4 x.steps.length c4] x/\∃g o cap,v = .slice (some ⟨g,o,none⟩) rs.length cap/\g<w.heap.size/\∀w',Below w.heap.size w w'->
 w'.cell? ⟨g,o+k*5,none⟩=some (.string x.name)/\w'.cell? ⟨g,o+k*5+1,none⟩=some (.slice a1 x.ins.length c1)/\w'.cell? ⟨g,o+k*5+2,none⟩=some (.slice a2 x.outs.length c2)/\w'.cell? ⟨g,o+k*5+3,none⟩=some (.slice a3 x.after.length c3)/\w'.cell? ⟨g,o+k*5+4,none⟩=some (.slice a4 x.steps.length c4)
theorem Zbkm {w:World} {v:Value} {rs:List RuleS} (hv:RulesI w v rs):∃V,RvIs w v rs V:=by
 have h:∀k:Nat,∃u:Value,∀x,rs[k]? =some x->∃a1 c1 a2 c2 a3 c3 a4 c4,u = .agg (Zbiz x a1 a2 a3 a4 c1 c2 c3 c4)/\RuleI w [.string x.name,.slice a1 x.ins.length c1,.slice a2 x.outs.length c2,.slice a3 x.after.length c3,.slice a4 x.steps.length c4] x/\∃g o cap,v = .slice (some ⟨g,o,none⟩) rs.length cap/\g<w.heap.size/\∀w',Below w.heap.size w w'->
   w'.cell? ⟨g,o+k*5,none⟩=some (.string x.name)/\w'.cell? ⟨g,o+k*5+1,none⟩=some (.slice a1 x.ins.length c1)/\w'.cell? ⟨g,o+k*5+2,none⟩=some (.slice a2 x.outs.length c2)/\w'.cell? ⟨g,o+k*5+3,none⟩=some (.slice a3 x.after.length c3)/\w'.cell? ⟨g,o+k*5+4,none⟩=some (.slice a4 x.steps.length c4):=by
  intro k
  cases hx:rs[k]? with
  | none=>exact⟨undef,λx h=>by cases h⟩
  | some x=>
   obtain⟨g,o,cap,a1,c1,a2,c2,a3,c3,a4,c4,e,hg,hri,hyc⟩:=Zbjm hv hx;refine⟨.agg (Zbiz x a1 a2 a3 a4 c1 c2 c3 c4),λx' h=>?_⟩
   ·cases h
    exact⟨a1,c1,a2,c2,a3,c3,a4,c4,rfl,hri,g,o,cap,e,hg,hyc⟩
 obtain⟨V,hV⟩:=Classical.skolem.1 h;exact⟨V,hV⟩
set_option maxHeartbeats 8000000
set_option maxRecDepth 100000
theorem Zzd (v tv:Value) (rs:List RuleS) (V:Nat->Value) (w:World) (hv:RulesI w v rs) (hV:RvIs w v rs V) (hs:∀r∈rs,SmallR r 1048576) (hn:rs.length<=1000) (ht:∃a,tv = .pointer a):
  Calls prog 38 #[v,tv] w λe w'=>∃n,e = .returned (.agg #[tv,.map (some n),.map (some (n+1))])/\w.heap.size<=n/\MapF w' n (rs.length*1048576) (mkrN rs rs.length) V Zbus/\MapIs prog 9 w' (n+1) []/\Below w.heap.size w w':=by
 have mixed:prog.follows .mixedOrders=true:=by kernel_rfl
 have hmm:=@run_makeMap prog;obtain⟨ta,rfl⟩:=ht;obtain⟨va,vc,rfl,hvl,hvm⟩:=Zbjn hv;obtain⟨n,hnn⟩:∃n,w.heap.size=n:=⟨_,rfl⟩;have HV:=hid hV;have HS:=hid hs;have HNN:=hid hnn;unfold maxLen at hvm;rw[hnn];clear hv hV hs
 go_enter func38,ntmps38
 obtain⟨W4,hW4⟩:∃W,(((w.alloc (.cells #[.pointer none,.map none,.map none] 75)).alloc (.map #[] 0)).alloc (.map #[] 0)).alloc (.cells #[.pointer ta,.map (some (n+1)),.map (some (n+2))] 75)=W:=⟨_,rfl⟩;have hs4:W4.heap.size=n+4:=by rw[<-hW4];simp[hnn]
 have h4:MapF W4 (n+1) (0) (mkrN rs 0) V Zbus/\MapIs prog 9 W4 (n+2) []/\W4.heap[n+3]? =some (.cells #[.pointer ta,.map (some (n+1)),.map (some (n+2))] 75)/\W4.heap[n]? =some (.cells #[.pointer none,.map none,.map none] 75)/\Below n w W4:=by
  refine⟨?_,?_,?_,?_,?_⟩
  ·have:=Zyi (w.alloc (.cells #[.pointer none,.map none,.map none] 75)) V Zbus
   rw[World.size_alloc,hnn]at this;rw[<-hW4];exact this.heap ((Below.heap_alloc _ _ _ (by simp[hnn]<;>omega)).trans (Below.heap_alloc _ _ _ (by simp[hnn])))
  ·have:=Zyj ((w.alloc (.cells #[.pointer none,.map none,.map none] 75)).alloc (.map #[] 0)) prog 9
   rw[World.size_alloc,World.size_alloc,hnn]at this;rw[<-hW4];exact this.heap (Below.heap_alloc _ _ _ (by simp[hnn]))
  ·have:=alloc_at (((w.alloc (.cells #[.pointer none,.map none,.map none] 75)).alloc (.map #[] 0)).alloc (.map #[] 0)) (.cells #[.pointer ta,.map (some (n+1)),.map (some (n+2))] 75)
   rw[World.size_alloc,World.size_alloc,World.size_alloc,hnn]at this;rw[<-hW4];exact this
  ·rw[<-hW4,Below.heap_alloc _ _ _ (by simp[hnn]<;>omega),Below.heap_alloc _ _ _ (by simp[hnn]<;>omega),Below.heap_alloc _ _ _ (by simp[hnn]),<-hnn];exact alloc_at w _
  ·rw[<-hW4,<-hnn];exact((((Below.refl _ _).alloc (Nat.le_refl _) _).alloc (by simp) _).alloc (by simp<;>omega) _).alloc (by simp<;>omega) _
 have H4:=hid h4;have HS4:=hid hs4;have HW4:=hid hW4;clear h4 hs4 hW4
 go_wp2_with fail
 rw[HW4.out]
 go_loopw [7,9,16,17,18,19,20,21,22,23,24,25,26,27,28,29,30,31,32] (λ_ _ iv _ _ _ _ _ _ _ _ _ _ _ _ _ _ _ _ wr=>∃k:Nat,k<=rs.length/\iv = .int .i64 (k:Int)/\(MapF wr (n+1) (k*1048576) (mkrN rs k) V Zbus/\MapIs prog 9 wr (n+2) []/\wr.heap[n+3]? =some (.cells #[.pointer ta,.map (some (n+1)),.map (some (n+2))] 75)/\wr.heap[n]? =some (.cells #[.pointer none,.map none,.map none] 75)/\Below n w wr)/\n+4<=wr.heap.size) (λ_ _ iv _ _ _ _ _ _ _ _ _ _ _ _ _ _ _ _ _=>rs.length-(intOf iv).toNat)
 case atStart=>exact⟨0,Nat.zero_le _,rfl,by simpa using H4.out,by rw[HS4.out];exact Nat.le_refl _⟩
 case round=>
  obtain⟨k,hk,rfl,⟨hm,hd,hbm,hbz,hb⟩,hz⟩:=hrel
  by_cases hlt:k<rs.length
  ·obtain⟨y,hy⟩:∃y,rs[k]? =some y:=⟨rs[k],List.getElem?_eq_getElem hlt⟩
   have hbw:Below w.heap.size w wr:=by rw[HNN.out];exact hb
   obtain⟨a1,c1,a2,c2,a3,c3,a4,c4,hVk,hri,g,o,cap,e,hg,hyc⟩:=HV.out k y hy;obtain⟨e1,_,e3⟩:=Value.slice.inj e;subst e1 e3;obtain⟨e0,e1,e2,e3,e4⟩:=hyc wr hbw;have hi1:(k:Int)<(rs.length:Int):=by omega
   have hi0:(0:Int)<=(k:Int):=by omega
   have hsy:=HS.out y (List.mem_of_getElem? hy);have hnm2:mkrN rs (k+1)=Zbru (mkrN rs k) y.outs k:=by rw[mkrN];unfold Zbdg;rw[hy];rfl
   obtain⟨oa,oc,eo,hol,hom,hocc⟩:=Zua (Zbiv hri);obtain⟨eo1,_,eo3⟩:=Value.slice.inj eo;subst eo1 eo3;have HOC:Hid (∀(j:Nat) x,y.outs[j]? =some x->∃b' o',a2=some ⟨b',o',none⟩/\∀w',Below n w w'->w'.cell? ⟨b',o'+j,none⟩=some (.string x)):=by
    show ∀(j:Nat) x,_;intro j x hx;obtain⟨b',o',e,hc⟩:=hocc j x hx;exact⟨b',o',e,λw' hw=>hc w' (by rw[HNN.out];exact hw)⟩
   have HOS:=hid (Zblx hsy.outs);have hol1:=hsy.outs.1;unfold maxLen at hom;obtain⟨bs,hbs⟩:∃bs,wr.heap.size=bs:=⟨_,rfl⟩;obtain⟨WB,hWB⟩:∃W,wr.alloc (.cells #[.string y.name,.slice a1 y.ins.length c1,.slice a2 y.outs.length c2,.slice a3 y.after.length c3,.slice a4 y.steps.length c4] 37)=W:=⟨_,rfl⟩;have hkp:∀i,i<bs->WB.heap[i]? =wr.heap[i]?:=λi hi=>by rw[<-hWB];exact Below.heap_alloc _ _ _ (by omega)
   have hxB:WB.heap[bs]? =some (.cells #[.string y.name,.slice a1 y.ins.length c1,.slice a2 y.outs.length c2,.slice a3 y.after.length c3,.slice a4 y.steps.length c4] 37):=by rw[<-hWB,<-hbs];exact alloc_at wr _
   have hI0:(MapF WB (n+1) (k*1048576) (mkrN rs k) V Zbus/\MapIs prog 9 WB (n+2) []/\WB.heap[n+3]? =some (.cells #[.pointer ta,.map (some (n+1)),.map (some (n+2))] 75)/\WB.heap[n]? =some (.cells #[.pointer none,.map none,.map none] 75)/\Below n w WB)/\WB.heap[bs]? =some (.cells #[.string y.name,.slice a1 y.ins.length c1,.slice a2 y.outs.length c2,.slice a3 y.after.length c3,.slice a4 y.steps.length c4] 37)/\bs+1<=WB.heap.size:=⟨⟨hm.heap (hkp _ (by omega)),hd.heap (hkp _ (by omega)),(hkp _ (by omega)).trans hbm,(hkp _ (by omega)).trans hbz,by rw[<-hWB];exact hb.alloc (by omega) _⟩,hxB,by rw[<-hWB,World.size_alloc];omega⟩;have HI0:=hid hI0;have HWB:=hid hWB;have HBS:=hid hbs;have HNM2:=hid hnm2;have HVK:=hid hVk;have hbz4:n+4<=bs:=by omega
   clear hm hd hbm hbz hb hz hbw hri hyc hg hsy hnm2 hocc hy eo e hkp hxB hI0 hWB hbs hVk
   go_wp2_with fail
   rw[HWB.out,HBS.out]
   go_loopw [9,23,24,25,26,27,28,29,30,31] (λ_ jv _ _ _ _ _ _ _ _ wq=>∃j:Nat,j<=y.outs.length/\jv = .int .i64 (j:Int)/\(MapF wq (n+1) (k*1048576+j) (Zbru (mkrN rs k) (y.outs.take j) k) V Zbus/\MapIs prog 9 wq (n+2) []/\wq.heap[n+3]? =some (.cells #[.pointer ta,.map (some (n+1)),.map (some (n+2))] 75)/\wq.heap[n]? =some (.cells #[.pointer none,.map none,.map none] 75)/\Below n w wq)/\wq.heap[bs]? =some (.cells #[.string y.name,.slice a1 y.ins.length c1,.slice a2 y.outs.length c2,.slice a3 y.after.length c3,.slice a4 y.steps.length c4] 37)/\bs+1<=wq.heap.size) (λ_ jv _ _ _ _ _ _ _ _ _=>y.outs.length-(intOf jv).toNat)
   case atStart=>exact⟨0,Nat.zero_le _,rfl,by have:=HI0.out.1;simpa[Zbru]using this,HI0.out.2⟩
   case round=>
    obtain⟨j,hj,rfl,⟨hm,hd,hbm,hbz,hb⟩,hx',hz⟩:=hrel
    by_cases hlt2:j<y.outs.length
    ·obtain⟨x,hx⟩:∃x,y.outs[j]? =some x:=⟨y.outs[j],List.getElem?_eq_getElem hlt2⟩
     obtain⟨b',o',q1,hc⟩:=HOC.out j x hx;subst q1;have cx:=hc _ hb;obtain⟨d0,d1,d2,d3,d4,_⟩:=cells5 hx';obtain⟨m0,m1,m2,_⟩:=cells3 hbm;have hj1:(j:Int)<(y.outs.length:Int):=by omega
     have hj0:(0:Int)<=(j:Int):=by omega
     obtain⟨w4,hput4,hm4,ht4⟩:=hm.put underlying73 (Zbfm (by omega) (by omega)) x (HOS.out x (List.mem_of_getElem? hx)) k;rw[<-Zbrw _ _ hx]at hm4;rw[HVK.out]at hput4;unfold Zbiz at hput4;have hg4:=ht4.grown;have hsz4:=hg4.size;have hk4:∀i,i<bs+1->i≠n+1->w4.heap[i]? =wr.heap[i]?:=λi hi hne=>hg4.block i (by omega) (λe=>hne (by have:=Option.some.inj e;omega))
     have HFIN:=hid (show(MapF w4 (n+1) (k*1048576+j+1) (Zbru (mkrN rs k) (y.outs.take (j+1)) k) V Zbus/\MapIs prog 9 w4 (n+2) []/\w4.heap[n+3]? =some (.cells #[.pointer ta,.map (some (n+1)),.map (some (n+2))] 75)/\w4.heap[n]? =some (.cells #[.pointer none,.map none,.map none] 75)/\Below n w w4)/\w4.heap[bs]? =wr.heap[bs]? /\bs+1<=w4.heap.size from⟨⟨hm4,hd.heap (hk4 _ (by omega) (by omega)),(hk4 _ (by omega) (by omega)).trans hbm,(hk4 _ (by omega) (by omega)).trans hbz,hb.grown hg4 (by omega) (λj e=>by cases e;omega)⟩,hk4 _ (by omega) (by omega),by omega⟩);have HX5:=hid hx';clear hm hd hbm hbz hb hz hc hx hm4 ht4 hg4 hsz4 hk4 hx';go_wp2;go_roundw
     case rel=>exact⟨j+1,by omega,by go_num,by have:=HFIN.out.1;rwa [Nat.add_assoc]at this,HFIN.out.2.1.trans HX5.out,HFIN.out.2.2⟩
     case measure=>simp[intOf];omega
    ·have hj1:¬(j:Int)<(y.outs.length:Int):=by omega
     have hfull:y.outs.take j=y.outs:=List.take_of_length_le (by omega);rw[hfull,<-HNM2.out]at hm;have HFIN:=hid (And.intro (hm.more (Zbfn k hol1 hj)) (And.intro hd (And.intro hbm (And.intro hbz hb))));have HZ5:=hid hz;clear hm hd hbm hbz hb hz hx' hfull;go_wp2;go_roundw
     case rel=>exact⟨k+1,by omega,by go_num,HFIN.out,by have:=HZ5.out;omega⟩
     case measure=>simp[intOf];omega
  ·have hi1:¬(k:Int)<(rs.length:Int):=by omega
   obtain rfl:k=rs.length:=by omega
   obtain⟨m0,m1,m2,_⟩:=cells3 hbm;obtain⟨z0,z1,z2,_⟩:=cells3 hbz;have HM:=hid hm;have HD:=hid hd;have HBZ:=hid hbz;have HB:=hid hb;have HZ:=hid hz;clear hm hd hbm hbz hb hz;go_wp2;refine bodyPost_ret (Zbhl rfl _ _ n _ _ _ _ rfl (heap_set _ _ (heap_set _ _ (heap_set _ _ HBZ.out))) underlying75 rfl (by kernel_rfl)) rfl ?_;have hz:=HZ.out;have hk:∀i,i≠n->(((wr.setCell ⟨n,0,none⟩ (.pointer ta)).setCell ⟨n,1,none⟩ (.map (some (n+1)))).setCell ⟨n,2,none⟩ (.map (some (n+2)))).heap[i]? =wr.heap[i]?:=λi hi=>(Below.heap_setCell _ _ _ i hi).trans ((Below.heap_setCell _ _ _ i hi).trans (Below.heap_setCell _ _ _ i hi))
   exact⟨n+1,rfl,by omega,HM.out.heap (hk _ (by omega)),HD.out.heap (hk _ (by omega)),((HB.out.setCell (p:=⟨n,0,none⟩) (Nat.le_refl _) _).setCell (p:=⟨n,1,none⟩) (Nat.le_refl _) _).setCell (p:=⟨n,2,none⟩) (Nat.le_refl _) _⟩
def Zbs (tv:Value) (w:World) (f:ByteArray->ByteArray×Bool):Prop:=∀x W,x.size<=maxLen->Below w.heap.size w W->Calls prog 164 #[tv,.string x] W λe w'=>e = .returned (.tuple #[.string (f x).1,.bool (f x).2])/\Below W.heap.size W w'
set_option maxHeartbeats 8000000
set_option maxRecDepth 100000
theorem Zbmv (tv v1 v2:Value) (x:ByteArray) (f:ByteArray->ByteArray×Bool) (w:World) (ht:∃a,tv = .pointer a) (h1:∃b,v1 = .map b) (h2:∃b,v2 = .map b) (hR:Zbs tv w f) (hx:x.size<=maxLen):
  Calls prog 121 #[.agg #[tv,v1,v2],.string x] w λe w'=>e = .returned (.agg #[.bool (f x).2,.string (f x).1])/\Below w.heap.size w w':=by
 have mixed:prog.follows .mixedOrders=true:=by kernel_rfl
 obtain⟨ta,rfl⟩:=ht;obtain⟨b1,rfl⟩:=h1;obtain⟨b2,rfl⟩:=h2;obtain⟨n,hnn⟩:∃n,w.heap.size=n:=⟨_,rfl⟩;obtain⟨W2,hW2⟩:∃W,(w.alloc (.cells #[.pointer ta,.map b1,.map b2] 75)).alloc (.cells #[.bool false,.string ⟨#[]⟩] 46)=W:=⟨_,rfl⟩;have hb2:Below n w W2:=by rw[<-hW2,<-hnn];exact((Below.refl _ _).alloc (Nat.le_refl _) _).alloc (by simp) _
 have hs2:W2.heap.size=n+2:=by rw[<-hW2];simp[hnn]
 have hr2:W2.heap[n+1]? =some (.cells #[.bool false,.string ⟨#[]⟩] 46):=by
  have:=alloc_at (w.alloc (.cells #[.pointer ta,.map b1,.map b2] 75)) (.cells #[.bool false,.string ⟨#[]⟩] 46);rw[World.size_alloc,hnn]at this;rw[<-hW2];exact this
 have CR:=hid (hR x W2 hx (by rw[hnn];exact hb2));have HR2:=hid hr2;have HB2:=hid hb2;have HS2:=hid hs2;have HW2:=hid hW2;obtain⟨c,hc⟩:∃c,f x=c:=⟨_,rfl⟩;obtain⟨c1,c2⟩:=c;rw[hc]at CR⊢;rw[hnn];simp only at CR⊢;clear hR hb2 hs2 hr2 hW2 hc
 go_enter func121,ntmps121
 go_wp2_with (go_at_call 164;rw[HW2.out];(with_reducible refine CR.out.mono ?_);rintro e w3 ⟨rfl,hb3⟩;have HB3:=hid (HB2.out.trans (hb3.mono (by have:=HS2.out;omega)));have HR3:=hid ((hb3.block (n+1) (by have:=HS2.out;omega)).trans HR2.out);clear hb3;obtain⟨r0,r1⟩:=Zih HR3.out)
 refine bodyPost_ret (Zbhl rfl _ _ (n+1) _ _ _ _ rfl (heap_set _ _ (heap_set _ _ HR3.out)) underlying46 rfl (by kernel_rfl)) rfl ?_;exact⟨rfl,(HB3.out.setCell (p:=⟨n+1,0,none⟩) (Nat.le_succ _) _).setCell (p:=⟨n+1,1,none⟩) (Nat.le_succ _) _⟩
theorem Zqh {m:MapL} {k:ByteArray} {z:Value} (h:hasM m k=false):getM m k z=z:=by
 unfold getM;rw[show(m.find? λp=>decide (p.1=k))=none from List.find?_eq_none.2 λp hp=>by
  intro e;unfold hasM at h;rw[List.any_eq_false]at h;exact h p hp e]
 rfl
theorem Zws:∀ {m:MapL} {L:List ByteArray},KeysN m->(∀p∈m,p.1∈L)->m.length<=L.length
 | [],_,_,_=>Nat.zero_le _
 | p::m,L,h,hm=>by
  obtain⟨h1,h2⟩:=List.pairwise_cons.1 h;have hp:=hm p (by simp);have:=Zws (m:=m) (L:=L.filter λx=>decide (x≠p.1)) h2 λq hq=>List.mem_filter.2 ⟨hm q (by simp[hq]),by simpa using λe=>h1 q hq e.symm⟩
  have:=List.length_filter_lt_length_iff_exists (p:=λx=>decide (x≠p.1)) |>.2 ⟨p.1,hp,by simp⟩
  rw[List.length_cons];omega
theorem Zph:∀(rs:List RuleS),(∀r∈rs,r.outs.length<=1048576)->(rs.flatMap (·.outs)).length<=rs.length*1048576
 | [],_=>by simp
 | r::rs,h=>by
  rw[List.flatMap_cons,List.length_append,List.length_cons,Nat.succ_mul];have:=Zph rs λx hx=>h x (by simp[hx])
  have:=h r (by simp);omega
structure DenI (w0:World) (n nm bm:Nat) (rs:List RuleS) (RV:Nat->Value) (VV:ByteArray->ValT) (P:List ByteArray) (W:World):Prop where
 below:Below n w0 W
 mks:MapF W nm (rs.length*1048576) (mkrN rs rs.length) RV Zbus
 made:∃m,MapIs prog 9 W bm m/\(∀k,hasM m k=true->∀z,getM m k z=valE (VV k))/\(∀p∈m,p.1∈rs.flatMap (·.outs))/\∀o∈P,hasM m o=true
structure DenH (w0:World) (n nm bm:Nat) (rs:List RuleS) (RV:Nat->Value) (VV:ByteArray->ValT) (rk:Nat->Nat) (tv:Value) (f:ByteArray->ByteArray×Bool):Prop where
 hn:w0.heap.size=n
 hnm:n<=nm
 hbm:n<=bm
 hne:nm≠bm
 few:rs.length<=1000
 small:∀r∈rs,SmallR r 1048576
 rv:∀(k:Nat) x,rs[k]? =some x->∃a1 c1 a2 c2 a3 c3 a4 c4,RV k = .agg (Zbiz x a1 a2 a3 a4 c1 c2 c3 c4)/\RuleI w0 [.string x.name,.slice a1 x.ins.length c1,.slice a2 x.outs.length c2,.slice a3 x.after.length c3,.slice a4 x.steps.length c4] x
 mean:IsMean rs f VV rk
 size:∀x,(VV x).2.size<=100000000
 tree:∃a,tv = .pointer a
 read:Zbs tv w0 f
 glob:Glob w0
section
variable {w0:World} {n nm bm:Nat} {rs:List RuleS} {RV:Nat->Value} {VV:ByteArray->ValT} {P:List ByteArray} {W W':World} {rk:Nat->Nat} {tv:Value} {f:ByteArray->ByteArray×Bool}
theorem DenI.bml (h:DenI w0 n nm bm rs RV VV P W):bm<W.heap.size:=by obtain⟨m,h1,_⟩:=h.made;exact h1.lt
theorem DenI.nml (h:DenI w0 n nm bm rs RV VV P W):nm<W.heap.size:=h.mks.lt
theorem DenI.isMap (h:DenI w0 n nm bm rs RV VV P W):∃es c,W.heap[bm]? =some (.map es c):=by
 obtain⟨m,⟨D,⟨es,c,h1,_⟩,_⟩,_⟩:=h.made;exact⟨es,c,h1⟩
theorem DenI.kept {row:Option Nat} (h:DenI w0 n nm bm rs RV VV P W) (hH:DenH w0 n nm bm rs RV VV rk tv f) (hg:W.grownBy W' row) (hr:∀j,row=some j->n<=j/\j≠nm/\j≠bm):DenI w0 n nm bm rs RV VV P W':=by
 have hb:=hH.hbm;have e1:=h.bml;have e2:=h.nml;refine⟨h.below.grown hg (by omega) λj e=>(hr j e).1,h.mks.heap (hg.block nm e2 λe=>(hr nm e.symm).2.1 rfl),?_⟩;obtain⟨m,h1,h2⟩:=h.made;exact⟨m,h1.heap (hg.block bm e1 λe=>(hr bm e.symm).2.2 rfl),h2⟩
theorem DenI.less {P':List ByteArray} (h:DenI w0 n nm bm rs RV VV P W) (hP:∀o∈P',o∈P):DenI w0 n nm bm rs RV VV P' W:=by
 obtain⟨m,h1,h2,h3,h4⟩:=h.made;exact⟨h.below,h.mks,m,h1,h2,h3,λo ho=>h4 o (hP o ho)⟩
theorem DenI.put (h:DenI w0 n nm bm rs RV VV P W) (hH:DenH w0 n nm bm rs RV VV rk tv f) {k:ByteArray} (hk:k∈rs.flatMap (·.outs)) (hs:k.size<=maxLen):
  ∃W',(Instr.mapUpdate 65 (.map (some bm)) (.string k) (valE (VV k))).run prog W = .ok () W'/\DenI w0 n nm bm rs RV VV (P ++ [k]) W'/\W.grownBy W' (some bm):=by
 obtain⟨m,h1,h2,h3,h4⟩:=h.made;have hK:KeysN m:=by obtain⟨D,_,_,_,_,hK⟩:=h1;exact hK
 have hfl:=Zph rs λr hr=>(hH.small r hr).outs.1
 have hkl:=Zws hK h3;have hfew:=hH.few;have hle:rs.length*1048576<=1000*1048576:=Nat.mul_le_mul_right _ hfew;obtain⟨W',hr,hm,ht⟩:=h1.put underlying9 underlying65 (by unfold maxLen;omega) k hs (valE (VV k));have hg:=ht.grown;refine⟨W',hr,⟨h.below.grown hg (by have:=h.bml;have:=hH.hbm;omega) (λj e=>by have:=hH.hbm;have:=Option.some.inj e;omega),h.mks.heap (hg.block nm h.nml λe=>hH.hne (Option.some.inj e)),_,hm,λk' hk' z=>?_,λp hp=>?_,λo ho=>?_⟩,hg⟩
 ·by_cases e:k=k'
  ·subst e;exact Zqj _ _ _ _
  ·rw[Zrm,decide_eq_false e,Bool.false_or]at hk'
   rw[Zqi _ _ _ e];exact h2 k' hk' z
 ·unfold putM at hp
  rcases List.mem_cons.1 hp with rfl|hp
  ·exact hk
  ·exact h3 p (List.mem_filter.1 hp).1
 ·rw[Zrm]
  rcases List.mem_append.1 ho with ho|ho
  ·rw[h4 o ho,Bool.or_true]
  ·obtain rfl:o=k:=by simpa using ho
   simp
end
def Zbo (w0:World) (n nm bm:Nat) (rs:List RuleS) (RV:Nat->Value) (VV:ByteArray->ValT) (rk:Nat->Nat) (tv:Value) (D:Nat):Prop:=
 ∀(x:ByteArray) (P:List ByteArray) (W:World),x.size<=maxLen->(∀k,mkrN rs rs.length x=some k->rk k<D)->DenI w0 n nm bm rs RV VV P W->
  Calls prog 71 #[.agg #[tv,.map (some nm),.map (some bm)],.string x] W λe w'=>e = .returned (valE (VV x))/\W.grownBy w' (some bm)/\DenI w0 n nm bm rs RV VV P w'
end Go.Proofs.YtcpjfpdecklkgaaGreatDoor
