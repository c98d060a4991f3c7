import Derived.Test.YtmgcaldphpnfgaaGreatDoorMaq
import Derived.BigRegion
import Derived.Lib.ItoaLen
import Derived.Deep.RegionHeld3
import Derived.Lib.SlBytesRow
import Derived.Lib.ItoaNum
import Derived.Lib.AtoiAllCases
import Derived.Test.YtmgcaldphpnfgaaGreatDoorMap
import Derived.Deep.CutBlock
import Derived.Deep.DeepCutAuto
namespace Go.Proofs.YtmgcaldphpnfgaaGreatDoor
open Go.Lib (hid)
open Go.RowKit Go.Shelf
theorem Zid (w:World) (a:Addr):w.drew.cell? a=w.cell? a:=rfl
theorem Zqb (w:World) (a:Addr):w.drew.frozen? a=w.frozen? a:=rfl
def cutS (y:StepS):StepS:={ y with args:=y.args.take 8,lits:=y.lits.take 3 }
def cutQ (x:RuleS):RuleS:={ x with ins:=x.ins.take 10,outs:=x.outs.take 6,after:=x.after.take 10,steps:=x.steps.take 14 }
def cutR (x:RuleS):RuleS:={ cutQ x with steps:=(x.steps.take 14).map cutS }
theorem take_len (n m:Nat) (k:Int) (hk:k=(m:Int)):(min (n:Int) k).toNat=min m n:=by omega
theorem Zuf {w:World} {a:Option Addr} {xs:List ByteArray} {c:Nat} (h:IsStrs w (.slice a xs.length c) xs) (m:Nat):IsStrs w (.slice a (min m xs.length) c) (xs.take m):=by
 obtain⟨a',c',q,h1,h2,h3⟩:=h;injection q with q1 q2 q3
 subst q1 q3;refine⟨a,c,by rw[List.length_take],by rw[List.length_take];omega,h2,λhne=>?_⟩;obtain⟨b,o,ha,hb,hc⟩:=h3 (by rintro rfl;simp at hne);refine⟨b,o,ha,hb,λj x hx=>hc j x ?_⟩;rw[List.getElem?_take]at hx;split at hx
 ·exact hx
 ·cases hx
theorem Zbow {w:World} {a:Option Addr} {xs:List StepS} {n c:Nat} (h:StepsI w (.slice a n c) xs) (m:Nat):StepsI w (.slice a (min m n) c) (xs.take m):=by
 obtain⟨rows,⟨a',c',q,h1,h2,h3⟩,hall⟩:=h;injection q with q1 q2 q3
 subst q1 q3;have hrl:=hall.1;refine⟨rows.take m,⟨a,c,by rw[List.length_take,q2],by rw[List.length_take];omega,h2,λhne=>?_⟩,⟨by rw[List.length_take,List.length_take,hall.1],λj r y hr hy=>?_⟩⟩
 ·obtain⟨b,o,ha,hb,hc⟩:=h3 (by rintro rfl;simp at hne)
  refine⟨b,o,ha,hb,λj x hx=>hc j x ?_⟩;rw[List.getElem?_take]at hx;split at hx
  ·exact hx
  ·cases hx
 ·rw[List.getElem?_take]at hr hy
  split at hr
  ·rename_i hj
   rw[if_pos hj]at hy;exact hall.2 j r y hr hy
  ·cases hr
theorem Zbqi {Av:Nat->Prop} {w:World} {a:Option Addr} {n:Nat} {xs:List ByteArray} {c:Nat} (h:StrsA Av w (.slice a n c) xs) (m:Nat):StrsA Av w (.slice a (min m n) c) (xs.take m):=by
 obtain⟨⟨a',c',q,h1,h2,h3⟩,hb⟩:=h;injection q with q1 q2 q3
 subst q1 q3;rw[Zbpo]at h1 q2;refine⟨⟨a,c,by rw[Zbpo,List.length_take,q2],by rw[Zbpo,List.length_take];omega,h2,λhne=>?_⟩,λb e=>hb b (by rcases a with _|⟨_,_,_|_⟩<;>exact e)⟩;obtain⟨b,o,ha,hbl,hc⟩:=h3 (by rintro e;apply hne;cases xs with
  | nil=>simp[Zbpk]
  | cons x xs=>simp[Zbpk]at e)
 refine⟨b,o,ha,hbl,λj r hr i u hu=>hc j r ?_ i u hu⟩;unfold Zbpk at hr⊢;rw[List.getElem?_map,List.getElem?_take]at hr;rw[List.getElem?_map];split at hr
 ·exact hr
 ·simp at hr
theorem Zbqg {Av:Nat->Prop} {w:World} {v:Value} {xs:List ByteArray} {p:Addr} {u0:Value} (h:StrsA Av w v xs) (hp:w.cell? p=some u0) (hu:∀s,u0≠.string s) (u:Value):StrsA Av (w.setCell p u) v xs:=by
 obtain⟨⟨a,c,rfl,h1,h2,h3⟩,hb⟩:=h;refine⟨⟨a,c,rfl,h1,h2,λhne=>?_⟩,λb e=>⟨by simp[World.setCell];exact(hb b e).1,(hb b e).2⟩⟩;obtain⟨b,o,ha,hbl,hc⟩:=h3 hne;refine⟨b,o,ha,by simp[World.setCell];exact hbl,λj r hr i x hx=>?_⟩;have h4:=hc j r hr i x hx;rw[World.cell?_setCell_other]
 ·exact h4
 ·intro e
  rw[<-e,hp]at h4;injection h4 with h4
  unfold Zbpk at hr;rw[List.getElem?_map]at hr;obtain⟨s,_,rfl⟩:=Option.map_eq_some_iff.1 hr
  match i,hx with
  | 0,hx=>simp at hx;exact hu s (h4.trans hx.symm)
theorem Zbok {Av:Nat->Prop} {w:World} {b o n c k:Nat} {xs:List StepS} {y:StepS} {p1 q1:Option Addr} {c1 d1:Nat} (h:StepsA Av w (.slice (some ⟨b,o,none⟩) n c) xs) (hy:xs[k]? =some y)
  (z2:w.cell? ⟨b,o+k*5+2,none⟩=some (.slice p1 y.args.length c1)) (z3:w.cell? ⟨b,o+k*5+3,none⟩=some (.slice q1 y.lits.length d1)) (m1 m2:Nat):
  StepsA Av ((w.setCell ⟨b,o+k*5+2,none⟩ (.slice p1 (min m1 y.args.length) c1)).setCell ⟨b,o+k*5+3,none⟩ (.slice q1 (min m2 y.lits.length) d1)) (.slice (some ⟨b,o,none⟩) n c) (xs.set k { y with args:=y.args.take m1,lits:=y.lits.take m2 }):=by
 obtain⟨rows,⟨⟨a',c',q,h1,h2,h3⟩,hb⟩,hall⟩:=h;injection q with q1' q2' q3'
 subst q1' q3';have hk:k<xs.length:=(List.getElem?_eq_some_iff.1 hy).1;have hkr:k<rows.length:=by rw[hall.1];exact hk
 obtain⟨va,vl,er,ha,hl⟩:=hall.2 k rows[k] y (List.getElem?_eq_getElem hkr) hy;obtain⟨b',o',e',hbl,hc⟩:=h3 (by rintro e;rw[e]at hkr;simp at hkr)
 cases e'
 have hrow:rows[k]? =some [.string y.out,.int .i64 y.op,va,vl,.int .i64 y.n]:=by rw[List.getElem?_eq_getElem hkr,er]
 obtain rfl:va = .slice p1 y.args.length c1:=by
  have:=hc k _ hrow 2 va rfl;rw[z2]at this;injection this with this;exact this.symm
 obtain rfl:vl = .slice q1 y.lits.length d1:=by
  have:=hc k _ hrow 3 vl rfl;rw[z3]at this;injection this with this;exact this.symm
 have hlen:∀r∈rows,r.length=5:=hall.len λr x h=>h.len
 have z3':(w.setCell ⟨b,o+k*5+2,none⟩ (.slice p1 (min m1 y.args.length) c1)).cell? ⟨b,o+k*5+3,none⟩=some (.slice q1 y.lits.length d1):=by
  rw[World.cell?_setCell_other _ _ _ _ (by simp)];exact z3
 have keep:∀ {v:Value} {zs:List ByteArray},StrsA Av w v zs->StrsA Av ((w.setCell ⟨b,o+k*5+2,none⟩ (.slice p1 (min m1 y.args.length) c1)).setCell ⟨b,o+k*5+3,none⟩ (.slice q1 (min m2 y.lits.length) d1)) v zs:=
  λh=>Zbqg (Zbqg h z2 (by intro s e;cases e) _) z3' (by intro s e;cases e) _
 refine⟨rows.set k [.string y.out,.int .i64 y.op,.slice p1 (min m1 y.args.length) c1,.slice q1 (min m2 y.lits.length) d1,.int .i64 y.n],⟨⟨_,c,by rw[List.length_set,q2'],by rw[List.length_set];exact h1,h2,λhne=>⟨b,o,rfl,by simp[World.setCell];exact hbl,λj r hr i u hu=>?_⟩⟩,λb e=>⟨by simp[World.setCell];exact(hb b e).1,(hb b e).2⟩⟩,⟨by rw[List.length_set,List.length_set,hall.1],λj r x hr hx=>?_⟩⟩
 ·by_cases hj:j=k
  ·subst hj
   rw[List.getElem?_set_self hkr]at hr;injection hr with hr
   subst hr
   match i,hu with
   | 0,hu=>simp at hu;subst hu;rw[World.cell?_setCell_other _ _ _ _ (by simp),World.cell?_setCell_other _ _ _ _ (by simp)];exact hc j _ hrow 0 _ rfl
   | 1,hu=>simp at hu;subst hu;rw[World.cell?_setCell_other _ _ _ _ (by simp),World.cell?_setCell_other _ _ _ _ (by simp)];exact hc j _ hrow 1 _ rfl
   | 2,hu=>simp at hu;subst hu;rw[World.cell?_setCell_other _ _ _ _ (by simp)];exact World.cell?_setCell_same _ _ _ z2
   | 3,hu=>simp at hu;subst hu;exact World.cell?_setCell_same _ _ _ z3'
   | 4,hu=>simp at hu;subst hu;rw[World.cell?_setCell_other _ _ _ _ (by simp),World.cell?_setCell_other _ _ _ _ (by simp)];exact hc j _ hrow 4 _ rfl
  ·rw[List.getElem?_set_ne (Ne.symm hj)]at hr
   have hi:i<5:=by
    have:=hlen r (List.mem_of_getElem? hr);have:=(List.getElem?_eq_some_iff.1 hu).1;omega
   have e1:(⟨b,o+k*5+2,none⟩:Addr)≠⟨b,o+j*5+i,none⟩:=by intro e;injection e with _ e;omega
   have e2:(⟨b,o+k*5+3,none⟩:Addr)≠⟨b,o+j*5+i,none⟩:=by intro e;injection e with _ e;omega
   rw[World.cell?_setCell_other _ _ _ _ e2,World.cell?_setCell_other _ _ _ _ e1];exact hc j r hr i u hu
 ·by_cases hj:j=k
  ·subst hj
   rw[List.getElem?_set_self hkr]at hr;rw[List.getElem?_set_self hk]at hx;injection hr with hr;injection hx with hx
   subst hr hx;exact⟨_,_,rfl,Zbqi (keep ha) m1,Zbqi (keep hl) m2⟩
  ·rw[List.getElem?_set_ne (Ne.symm hj)]at hr hx
   obtain⟨va,vl,rfl,h1,h2⟩:=hall.2 j r x hr hx;exact⟨va,vl,rfl,keep h1,keep h2⟩
theorem Zbog {Av:Nat->Prop} {w:World} {v:Value} {xs:List StepS} (h:StepsA Av w v xs):∀b,v.ownBlock=some b->b<w.heap.size/\¬Av b:=by
 obtain⟨rows,⟨_,hb⟩,_⟩:=h;exact hb
theorem Zbpz {Av:Nat->Prop} {w:World} {v:Value} {xs:List ByteArray} (h:StrsA Av w v xs):∃a c,v = .slice a xs.length c/\xs.length<=c/\c<=maxLen:=by
 obtain⟨⟨a,c,rfl,h1,h2,_⟩,_⟩:=h;rw[Zbpo]at h1⊢;exact⟨a,c,rfl,h1,h2⟩
theorem Zbof {Av:Nat->Prop} {w:World} {s1:Option Addr} {n s3:Nat} {xs:List StepS} (h:StepsA Av w (.slice s1 n s3) xs) {k:Nat} {y:StepS} (hy:xs[k]? =some y):
  ∃b o p1 c1 q1 d1,s1=some ⟨b,o,none⟩/\n=xs.length/\¬Av b/\b<w.heap.size/\y.args.length<=c1/\c1<=maxLen/\y.lits.length<=d1/\d1<=maxLen/\n<=s3/\s3<=maxLen/\
   w.cell? ⟨b,o+k*5+2,none⟩=some (.slice p1 y.args.length c1)/\w.cell? ⟨b,o+k*5+3,none⟩=some (.slice q1 y.lits.length d1):=by
 obtain⟨rows,⟨⟨a',c',q,h1,h2,h3⟩,hb⟩,hall⟩:=h;injection q with q1' q2' q3'
 subst q1' q3';have hk:k<xs.length:=(List.getElem?_eq_some_iff.1 hy).1;have hkr:k<rows.length:=by rw[hall.1];exact hk
 obtain⟨va,vl,er,ha,hl⟩:=hall.2 k rows[k] y (List.getElem?_eq_getElem hkr) hy;obtain⟨b,o,rfl,hbl,hc⟩:=h3 (by rintro e;rw[e]at hkr;simp at hkr);have hrow:rows[k]? =some [.string y.out,.int .i64 y.op,va,vl,.int .i64 y.n]:=by rw[List.getElem?_eq_getElem hkr,er]
 obtain⟨p1,c1,rfl,g1,g2⟩:=Zbpz ha;obtain⟨q1,d1,rfl,g3,g4⟩:=Zbpz hl;exact⟨b,o,p1,c1,q1,d1,rfl,by rw[q2',hall.1],(hb b rfl).2,hbl,g1,g2,g3,g4,by omega,h2,hc k _ hrow 2 _ rfl,hc k _ hrow 3 _ rfl⟩
def mixS (k:Nat) (ys:List StepS):List StepS:=(ys.take k).map cutS++ys.drop k
theorem Zze {k:Nat} (ys:List StepS) (h:ys.length<=k):mixS k ys=ys.map cutS:=by
 unfold mixS;rw[List.take_of_length_le h,List.drop_eq_nil_of_le h,List.append_nil]
theorem Zzf {k:Nat} {ys:List StepS} {y:StepS} (h:ys[k]? =some y):(mixS k ys)[k]? =some y:=by
 have hk:=(List.getElem?_eq_some_iff.1 h).1;unfold mixS;have hl:((ys.take k).map cutS).length=k:=by rw[List.length_map,List.length_take];omega
 rw[List.getElem?_append_right (by omega),hl,Nat.sub_self,List.getElem?_drop,Nat.add_zero];exact h
theorem Zzg {k:Nat} {ys:List StepS} {y:StepS} (h:ys[k]? =some y):(mixS k ys).set k (cutS y)=mixS (k+1) ys:=by
 have hk:=(List.getElem?_eq_some_iff.1 h).1;have he:=(List.getElem?_eq_some_iff.1 h).2;unfold mixS;have hl:((ys.take k).map cutS).length=k:=by rw[List.length_map,List.length_take];omega
 rw[List.set_append_right _ _ (by omega),hl,Nat.sub_self,List.drop_eq_getElem_cons hk,List.set_cons_zero,List.take_succ_eq_append_getElem hk,List.map_append,he];simp
def Zau (xs:List ByteArray) (s:ByteArray) (r:Int):Prop:=(r = -1/\∀k:Nat,xs[k]? ≠some s)∨∃k:Nat,r=(k:Int)/\xs[k]? =some s/\∀j<k,xs[j]? ≠some s
theorem Zgx {x s:ByteArray} (h:(x.toList==s.toList)=true):x=s:=by
 rw[ByteArray.toList_eq,ByteArray.toList_eq]at h;have:=eq_of_beq h;exact ByteArray.ext (Array.toList_inj.1 this)
theorem Zgz {x s:ByteArray} (h:(x.toList==s.toList)=false):x≠s:=by
 rintro rfl;simp at h
theorem Zua {w:World} {v:Value} {xs:List ByteArray} (h:IsStrs w v xs):∃a c,v = .slice a xs.length c/\xs.length<=c/\c<=maxLen/\∀(k:Nat) x,xs[k]? =some x->∃b o,a=some ⟨b,o,none⟩/\∀w',Below w.heap.size w w'->w'.cell? ⟨b,o+k,none⟩=some (.string x):=by
 obtain⟨a,c,rfl,hlc,hcm,hcell⟩:=h;refine⟨a,c,rfl,hlc,hcm,λk x hx=>?_⟩;obtain⟨b,o,e,hb,hc⟩:=hcell (by rintro rfl;simp at hx);exact⟨b,o,e,λw' hw=>(hw.cell (p:=⟨b,o+k,none⟩) hb).trans (hc k x hx)⟩
def Zon (s:ByteArray):List ByteArray->Nat->Int
 | [],_=> -1
 | y::r,k=>if y.toList==s.toList then(k:Int)else Zon s r (k+1)
def Zoi (xs:List ByteArray) (s:ByteArray):Int:=Zon s xs 0
theorem Zoo (s:ByteArray):∀(xs:List ByteArray) (k:Nat),(Zon s xs k = -1/\∀j:Nat,xs[j]? ≠some s)∨∃j:Nat,Zon s xs k=((k+j:Nat):Int)/\xs[j]? =some s/\∀i<j,xs[i]? ≠some s
 | [],k=> .inl ⟨rfl,λj=>by simp⟩
 | y::r,k=>by
  unfold Zon
  by_cases h:(y.toList==s.toList)=true
  ·rw[if_pos h]
   exact .inr ⟨0,rfl,by rw[Zgx h];rfl,λi hi=>absurd hi (by omega)⟩
  ·rw[if_neg h]
   have hne:y≠s:=Zgz (by simpa using h)
   rcases Zoo s r (k+1)with⟨h1,h2⟩|⟨j,h1,h2,h3⟩
   ·refine .inl ⟨h1,λj=>?_⟩
    cases j with
    | zero=>intro e;exact hne (by simpa using e)
    | succ j=>simpa using h2 j
   ·refine .inr ⟨j+1,by rw[h1];congr 1;omega,by simpa using h2,λi hi=>?_⟩
    cases i with
    | zero=>intro e;exact hne (by simpa using e)
    | succ i=>simpa using h3 i (by omega)
theorem Zom (xs:List ByteArray) (s:ByteArray):Zau xs s (Zoi xs s):=by
 rcases Zoo s xs 0 with h|⟨j,h1,h2,h3⟩
 ·exact .inl h
 ·exact .inr ⟨j,by unfold Zoi;rw[h1];congr 1;omega,h2,h3⟩
theorem Zop {xs:List ByteArray} {s:ByteArray} {r t:Int} (h:Zau xs s r) (h':Zau xs s t):r=t:=by
 rcases h with⟨rfl,h1⟩|⟨k,rfl,h1,h2⟩<;>rcases h' with⟨rfl,h3⟩|⟨j,rfl,h3,h4⟩
 ·rfl
 ·exact absurd h3 (h1 j)
 ·exact absurd h1 (h3 k)
 ·rcases Nat.lt_trichotomy k j with h|h|h
  ·exact absurd h1 (h4 k h)
  ·rw[h]
  ·exact absurd h3 (h2 j h)
def Zly (size k:Nat) (a:Option Addr) (n c:Nat):Value:= .slice (if c=k then a else a.map (·.add (k*size))) (n-k) (c-k)
theorem IsRow.take {w:World} {a:Option Addr} {n c k:Nat} {rows:List (List Value)} (h:IsRow w (.slice a n c) k rows) {m:Nat} (hm:m<=n):IsRow w (.slice a m c) k (rows.take m):=by
 obtain⟨a',c',q,h1,h2,h3⟩:=h;injection q with q1 q2 q3
 subst q1 q3;refine⟨a,c,by rw[List.length_take];congr 1;omega,by rw[List.length_take];omega,h2,λhne=>?_⟩;obtain⟨b,o,ha,hb,hc⟩:=h3 (by rintro rfl;simp at hne);refine⟨b,o,ha,hb,λj x hx=>hc j x ?_⟩;rw[List.getElem?_take]at hx;split at hx
 ·exact hx
 ·cases hx
theorem IsRow.drop {w:World} {a:Option Addr} {n c k:Nat} {rows:List (List Value)} (h:IsRow w (.slice a n c) k rows) {m:Nat} (hm:m<=n):IsRow w (Zly k m a n c) k (rows.drop m):=by
 obtain⟨a',c',q,h1,h2,h3⟩:=h;injection q with q1 q2 q3
 subst q1 q3;refine⟨_,c-m,by unfold Zly;rw[List.length_drop,q2],by rw[List.length_drop];omega,by omega,λhne=>?_⟩;have hlt:m<rows.length:=by
  rcases Nat.lt_or_ge m rows.length with h|h
  ·exact h
  ·rw[List.drop_eq_nil_of_le h]at hne;exact absurd rfl hne
 obtain⟨b,o,ha,hb,hc⟩:=h3 (by rintro rfl;simp at hlt);subst ha;refine⟨b,o+m*k,by rw[if_neg (by omega),Option.map_some,Addr.add_lit],hb,λj r hr i u hu=>?_⟩;rw[List.getElem?_drop]at hr;have:=hc (m+j) r hr i u hu;rw[Nat.add_mul]at this;rw[<-this]
 congr 2
 omega
section
variable {w:World} {ops:Array Oper} {o:Oper} {a:Act} {K:Act->World->Prop} {Q:Exit->Act->World->Prop} {E:Prop}
end
theorem OwnStrs.below {B:Nat} {w w':World} {v:Value} {xs:List ByteArray} (h:OwnStrs B w v xs) (hb:Below w.heap.size w w'):OwnStrs B w' v xs:=World.ownsRow.kept (row:=none) h ⟨hb.os,hb.tape,hb.output,hb.size,λk hk _=>hb.block k hk⟩ (by cases Value.ownBlock _<;>simp)
end Go.Proofs.YtmgcaldphpnfgaaGreatDoor
namespace Go.Proofs.YtmgcaldphpnfgaaGreatDoor
open Go.Lib (hid)
open Go.RowKit
theorem Zbkw (c:UInt8) (w:World):
  Calls Tryz.prog 148 #[.int .u8 c.toNat] w λe w'=>e = .returned (.bool (Zbce c))/\w=w':=by
 have hb:c.toNat<256:=c.toNat_lt
 go_enter Tryz.func148,Tryz.ntmps148
 go_wp2
 all_goals go_ret
 all_goals exact⟨Zbho (by rw[Bool.eq_iff_iff];simp[Zbce];omega),rfl⟩
theorem Zlk (d:UInt8) (t:List UInt8):cutAt d (t ++ [d])=cutAt d t ++ [[]]:=by
 rw[Zkw];rfl
theorem Zln (d c:UInt8) (h:c≠d):∀t:List UInt8,∃pre last,cutAt d t=pre ++ [last]/\cutAt d (t ++ [c])=pre ++ [last ++ [c]]
 | []=>⟨[],[],rfl,by simp[cutAt,h]⟩
 | a::r=>by
  obtain⟨pre,last,h1,h2⟩:=Zln d c h r
  by_cases ha:a=d
  ·refine⟨[]::pre,last,?_,?_⟩
   ·rw[cutAt,if_pos ha,h1];rfl
   ·rw[List.cons_append,cutAt,if_pos ha,h2];rfl
  ·cases pre with
   | nil=>
    refine⟨[],a::last,?_,?_⟩
    ·rw[cutAt,if_neg ha,h1];rfl
    ·rw[List.cons_append,cutAt,if_neg ha,h2];rfl
   | cons p ps=>
    refine⟨(a::p)::ps,last,?_,?_⟩
    ·rw[cutAt,if_neg ha,h1];rfl
    ·rw[List.cons_append,cutAt,if_neg ha,h2];rfl
theorem Zbec {w:World} {B g c:Nat} {pre:List ByteArray} {x y:ByteArray}
  (h:w.ownsRow B 9 1 (.slice (some ⟨g,0,none⟩) (pre.length+1) c) (pre.length+1) ((pre ++ [x]).map Value.string)):
  (w.setCell ⟨g,pre.length,none⟩ (.string y)).ownsRow B 9 1 (.slice (some ⟨g,0,none⟩) (pre.length+1) c) (pre.length+1) ((pre ++ [y]).map Value.string):=by
 obtain⟨hl,⟨hv,_⟩|⟨g',c',cur,hv,hgB,hg,hnc,hcm,hcs,htk⟩⟩:=h
 ·cases hv
 ·cases hv
  rw[setCell_eq_setRow w g pre.length cur _ (0,0) _ hg];refine⟨by simp,.inr ⟨g,c,cur.setIfInBounds pre.length (.string y),rfl,hgB,setRow_heap w g _ _ _ _ hg,hnc,hcm,by simpa using hcs,?_⟩⟩;rw[Array.toList_setIfInBounds,List.take_set,htk];simp
def Zbq (w:World) (ls:List (List UInt8)) (e:Ending) (w':World):Prop:=
 ∃xs:List ByteArray,∃v,e = .returned v/\IsStrs w' v xs/\xs.map (·.data.toList)=ls/\Below w.heap.size w w'
def PartsAt (L:List UInt8) (k:Nat) (xs:List ByteArray):Prop:=xs.map (·.data.toList)=cutAt 47 (L.take k)
theorem PartsAt.hit {L:List UInt8} {k:Nat} {xs:List ByteArray} (h:PartsAt L k xs) (hk:k<L.length) (hc:L[k]=47):PartsAt L (k+1) (xs ++ [(⟨#[]⟩:ByteArray)]):=by
 unfold PartsAt at h⊢;rw[List.take_succ_eq_append_getElem hk,hc,Zlk,<-h];simp
theorem PartsAt.miss {L:List UInt8} {k:Nat} {xs:List ByteArray} (h:PartsAt L k xs) (hk:k<L.length) (hc:L[k]≠47):
  ∃pre x,xs=pre ++ [x]/\∀y:ByteArray,y.data.toList=x.data.toList ++ [L[k]]->PartsAt L (k+1) (pre ++ [y]):=by
 obtain⟨p,l,h1,h2⟩:=Zln 47 L[k] hc (L.take k);unfold PartsAt at h;rw[h1]at h;have hne:xs≠[]:=by rintro rfl;simp at h
 refine⟨xs.dropLast,xs.getLast hne,(List.dropLast_concat_getLast hne).symm,λy hy=>?_⟩;rw[<-List.dropLast_concat_getLast hne,List.map_append]at h;obtain⟨h3,h4⟩:=List.append_inj' h rfl;unfold PartsAt;rw[List.take_succ_eq_append_getElem hk,h2,List.map_append,h3]
 congr 1
 simp only[List.map_cons,List.map_nil,List.cons.injEq,and_true]at h4⊢;rw[hy,h4]
set_option maxHeartbeats 4000000 in
set_option maxRecDepth 100000 in
theorem Zbew (s:ByteArray) (w:World) (hs:s.size<=1000):
  Calls Tryz.prog 147 #[.string s] w (Zbq w (cutAt 47 s.data.toList)):=by
 obtain⟨i0,hi,hz0,hz1,hz2⟩:=info_parts Zsy;obtain⟨L,hL⟩:∃L,s.data.toList=L:=⟨_,rfl⟩;have hsz:s.size=L.length:=by rw[<-hL];exact Lib.size_eq s
 rw[hL];have HL:=hid hL;have HSZ:=hid hsz;have hown0:(w.alloc (.cells #[.string ⟨#[]⟩] 9)).ownsRow w.heap.size 9 1 (.slice (some ⟨w.heap.size,0,none⟩) 1 1) 1 (([⟨#[]⟩]:List ByteArray).map Value.string):=
  ⟨by simp,.inr ⟨w.heap.size,1,#[.string ⟨#[]⟩],rfl,Nat.le_refl _,heap_alloc_new w _,Nat.le_refl _,by simp[maxLen],rfl,rfl⟩⟩
 have HOWN0:=hid hown0;have HP0:Hid (PartsAt L 0 [⟨#[]⟩]):=by show PartsAt _ _ _;simp[PartsAt,cutAt]
 clear hL hsz hown0
 go_enter Tryz.func147,Tryz.ntmps147
 go_wp2
 go_loopw [3,4] (λv i wr=>∃(k g c:Nat) (xs:List ByteArray),k<=s.size/\i = .int .i64 k/\v = .slice (some ⟨g,0,none⟩) xs.length c/\xs.length<=k+1/\1<=xs.length/\c<=maxLen/\xs.length<=c/\
   wr.ownsRow w.heap.size 9 1 (.slice (some ⟨g,0,none⟩) xs.length c) xs.length (xs.map Value.string)/\PartsAt L k xs/\(∀x∈xs,x.size<=k)/\Below w.heap.size w wr)
  (λ_ i _=>s.size-(intOf i).toNat)
 case atStart=>exact⟨0,w.heap.size,1,[⟨#[]⟩],Nat.zero_le _,rfl,rfl,by simp,by simp,by simp[maxLen],by simp,HOWN0.out,HP0.out,(by intro x hx;simp at hx;subst hx;decide),(Below.refl _ _).alloc (Nat.le_refl _) _⟩
 case round=>
  obtain⟨k,g,c,xs,hk,rfl,rfl,hxk,hx1,hcm,hxc,hown,hat,hxz,hnx⟩:=hrel;have HOWN:=hid hown;have HAT:=hid hat;have HXZ:=hid hxz;have HNX:=hid hnx;have hs1:=hnx.size;unfold maxLen at hcm;clear hown hat hxz hnx HOWN0 HP0
  by_cases hlt:k<s.size
  ·have hlt':k<L.length:=by rw[<-HSZ.out];exact hlt
   have hget:L[k]=s[k]:=by
    have:=HL.out;subst this;rfl
   have HGET:=hid hget;clear hget
   by_cases h47:(s[k].toNat:Int)=47
   ·have hn47:s[k].toNat=47:=by omega
    have hc47:L[k]=47:=by rw[HGET.out];exact UInt8.toNat_inj.1 (by rw[hn47];rfl)
    have HN:=hid (HAT.out.hit hlt' hc47);clear hc47 hn47;have hown2:=HOWN.out
    go_wp2_with (at_builtin;refine wpList_append_own _ rfl _ _ 22 rfl w.heap.size 9 i0 (.string ByteArray.empty) 1 16 Tryz.underlying22 hi hz0 hz1 hz2 rfl (by decide) _ _ _ rfl (hown2.alloc _) ⟨wr.heap.size,0,none⟩ 1 1 [.string ⟨#[]⟩] rfl rfl ?c1 ?c2 ?c3 ?c4 ?c5 ?_)
    case c1=>
     intro j u hj
     match j,hj with
     | 0,hj=>simp at hj;subst hj;simp[Addr.add]
    case c2=>intro u hu;simp at hu;subst hu;rfl
    case c3=>unfold maxLen;omega
    case c4=>omega
    case c5=>simp;omega
    intro v' w3 hown' hgrow _;have hnx':Below w.heap.size w w3:=(HNX.out.alloc hs1 _).grown hgrow (by simp;omega) (λg hg=>(hown2.lt g hg).1);obtain⟨a',c',hv,hg',hc1',hc2'⟩:=Zbea hown';obtain⟨g',rfl⟩:=hg' (by omega);subst hv;have HO:Hid (w3.ownsRow w.heap.size 9 1 (.slice (some ⟨g',0,none⟩) (xs ++ [(⟨#[]⟩:ByteArray)]).length c') (xs ++ [(⟨#[]⟩:ByteArray)]).length ((xs ++ [(⟨#[]⟩:ByteArray)]).map Value.string)):=by
     show w3.ownsRow _ _ _ _ _ _;simpa using hown'
    clear hgrow hown2 hown';go_wp2;go_roundw
    case rel=>exact⟨k+1,g',c',xs ++ [(⟨#[]⟩:ByteArray)],by omega,by go_num,by simp,by simp;omega,by simp,hc2',by simpa using hc1',HO.out,HN.out,(by
     intro x hx
     rcases List.mem_append.1 hx with h|h
     ·have:=HXZ.out x h;omega
     ·simp at h;subst h;simp[ByteArray.size]),hnx'⟩
    case measure=>simp[intOf];omega
   ·have hc47:L[k]≠47:=by rw[HGET.out];intro e;exact h47 (by rw[e];rfl)
    obtain⟨pre,x,rfl,hnext⟩:=HAT.out.miss hlt' hc47;have HNEXT:=hid hnext;have hxsz:=HXZ.out x (by simp);obtain⟨m,hm⟩:∃m,pre.length=m:=⟨_,rfl⟩;have hpl:(pre ++ [x]).length=m+1:=by simp[hm]
    have hownx:wr.ownsRow w.heap.size 9 1 (.slice (some ⟨g,0,none⟩) (pre.length+1) c) (pre.length+1) ((pre ++ [x]).map Value.string):=by simpa using HOWN.out
    have HOX:=hid hownx;have hcell:wr.cell? ⟨g,m,none⟩=some (.string x):=by
     obtain⟨_,⟨hv,_⟩|⟨g',cap,cur,hv,hgB,hgh,hnc,hcm,hcs,htk⟩⟩:=hownx
     ·cases hv
     ·cases hv
      have:(cur.toList.take ((pre.length+1)*1))[m]? =some (.string x):=by rw[htk];simp[<-hm]
      rw[List.getElem?_take]at this;split at this
      ·simp only[World.cell?,hgh];simpa using this
      ·cases this
    have hfz:wr.frozen? ⟨g,m,none⟩=false:=by
     obtain⟨_,⟨hv,_⟩|⟨g',cap,cur,hv,hgB,hgh,hnc,hcm,hcs,htk⟩⟩:=hownx
     ·cases hv
     ·cases hv;simp[World.frozen?,hgh]
    have hgB:w.heap.size<=g:=(hownx.lt g rfl).1;have HM:=hid hm;rw[hpl]at hxk hx1 hxc⊢;have hm0:(0:Int)<=(m:Int):=by omega
    have hm1:(m:Int)<((m+1:Nat):Int):=by omega
    have hk0:(0:Int)<=(k:Int):=by omega
    have hk1:(k:Int)+1<=(s.size:Int):=by omega
    have hkw:IntKind.i64.wrap ((k:Int)+1)=(k:Int)+1:=IntWalk.i64_in _ (by omega);have hcat:(Op.stringOp .add x (s.extract k (k+1))).run Tryz.prog wr.drew = .ok (.string (x++s.extract k (k+1))) wr.drew:=run_string_add_sum _ _ _ (by rw[ByteArray.size_extract];omega);clear hnext hm hpl hownx hc47
    go_wp2_with fail
    go_region
    have HCELL:=hid hcell;clear hcat hkw hcell hfz;have hy:(x++s.extract k (k+1)).data.toList=x.data.toList ++ [L[k]]:=by
     rw[ByteArray.data_append,Array.toList_append,Lib.extract_eq,HL.out]
     congr 1
     rw[List.drop_eq_getElem_cons hlt',show k+1-k=1 by omega];rfl
    have hat':=HNEXT.out _ hy;have hysz:(x++s.extract k (k+1)).size<=k+1:=by rw[ByteArray.size_append,ByteArray.size_extract];omega
    obtain⟨y,hyd⟩:∃y,x++s.extract k (k+1)=y:=⟨_,rfl⟩;rw[hyd]at hat' hysz;have hown':((wr.setCell ⟨g,m,none⟩ (.string y)).drew).ownsRow w.heap.size 9 1 (.slice (some ⟨g,0,none⟩) (pre ++ [y]).length c) (pre ++ [y]).length ((pre ++ [y]).map Value.string):=by
     have h:=Zbec (y:=y) HOX.out;rw[HM.out]at h;have e:(pre ++ [y]).length=m+1:=by simp[HM.out]
     rw[e];exact h.drew
    have HO:=hid hown';have HA:=hid hat';have hnx':Below w.heap.size w (wr.setCell ⟨g,m,none⟩ (.string y)).drew:=(HNX.out.setCell hgB _).drew;have HYD:=hid hyd;have hpy:(pre ++ [y]).length=m+1:=by simp[HM.out]
    have HPY:=hid hpy;clear hy hat' hyd hown' hpy;rw[HYD.out];go_wp2;go_roundw
    case rel=>exact⟨k+1,g,c,pre ++ [y],by omega,by go_num,by rw[HPY.out],by rw[HPY.out];omega,by rw[HPY.out];omega,by unfold maxLen;omega,by rw[HPY.out];omega,HO.out,HA.out,(by
     intro z hz
     rcases List.mem_append.1 hz with h|h
     ·have:=HXZ.out z (by simp[h]);omega
     ·simp at h;subst h;exact hysz),hnx'⟩
    case measure=>simp[intOf];omega
  ·have hkk:k=s.size:=by omega
   have hfull:xs.map (·.data.toList)=cutAt 47 L:=by have:=HAT.out;unfold PartsAt at this;rw[List.take_of_length_le (by have:=HSZ.out;omega)]at this;exact this
   have HFU:=hid hfull;have HI:=hid (Zbqq HOWN.out);clear hfull hkk;go_wp2;go_ret;exact⟨xs,_,rfl,HI.out,HFU.out,HNX.out⟩
theorem Zbcg:Zbcf []=false:=by decide +kernel
set_option maxHeartbeats 4000000 in
set_option maxRecDepth 100000 in
theorem Zyw (s:ByteArray) (w:World) (hs:s.size<=maxLen):
  Calls Tryz.prog 99 #[.string s] w λe w'=>e = .returned (.bool (Zbcf s.data.toList))/\Below w.heap.size w w':=by
 unfold maxLen at hs;obtain⟨r,hr⟩:∃r,r=Zbcf s.data.toList:=⟨_,rfl⟩;rw[<-hr];have HR:=hid hr;clear hr;have hsz:=hid (Lib.size_eq s)
 by_cases h1:s.size<1
 ·have hf:r=false:=by
   rw[HR.out,List.eq_nil_of_length_eq_zero (show s.data.toList.length=0 by rw[<-hsz.out];omega),Zbcg]
  subst hf
  go_enter Tryz.func99,Tryz.ntmps99
  go_wp2;go_ret;exact⟨rfl,Below.refl _ _⟩
 ·by_cases h40:40<s.size
  ·have hf:r=false:=by rw[HR.out,Zbcf,decide_eq_false (by rw[<-hsz.out];omega)];rfl
   subst hf
   go_enter Tryz.func99,Tryz.ntmps99
   go_wp2;go_ret;exact⟨rfl,Below.refl _ _⟩
  ·by_cases hcl:isCl s.data.toList=true
   ·have hf:r=false:=by rw[HR.out,Zbcf,hcl];simp
    subst hf;have hcl':s.toList = [114,117,108,101]∨s.toList = [105,110]∨s.toList = [111,117,116]∨s.toList = [97,102,116,101,114]:=by
     rw[<-Lib.toList_data]at hcl;simp[isCl]at hcl
     rcases hcl with((h|h)|h)|h
     ·exact .inl h
     ·exact .inr (.inl h)
     ·exact .inr (.inr (.inl h))
     ·exact .inr (.inr (.inr h))
    clear hcl HR
    rcases hcl' with h|h|h|h
    all_goals
     go_enter Tryz.func99,Tryz.ntmps99
     go_wp2;go_ret;exact⟨rfl,Below.refl _ _⟩
   ·have hn:(s.toList == [114,117,108,101])=false/\(s.toList == [105,110])=false/\(s.toList == [111,117,116])=false/\(s.toList == [97,102,116,101,114])=false:=by
     rw[<-Lib.toList_data]at hcl;simp[isCl]at hcl;obtain⟨⟨⟨a1,a2⟩,a3⟩,a4⟩:=hcl;exact⟨by simpa using a1,by simpa using a2,by simpa using a3,by simpa using a4⟩
    obtain⟨n1,n2,n3,n4⟩:=hn;have hcf:isCl s.data.toList=false:=by simpa using hcl
    have cP:=Zbew s w (by omega);have HRR:Hid (∀xs:List ByteArray,xs.map (·.data.toList)=cutAt 47 s.data.toList->r=xs.all λx=>Zbch x.data.toList):=by
     show ∀xs:List ByteArray,_;intro xs hx;rw[HR.out,Zbcf,hcf,<-hx,Zdf,decide_eq_true (by rw[<-hsz.out];omega)];rfl
    have HSM:Hid (∀xs:List ByteArray,xs.map (·.data.toList)=cutAt 47 s.data.toList->xs.length<=41/\∀(k:Nat) x,xs[k]? =some x->x.size<=40):=by
     show ∀xs:List ByteArray,_;intro xs hx;have h1:=congrArg List.length hx;rw[List.length_map]at h1;have h2:=Zkz 47 s.data.toList;rw[<-hsz.out]at h2;refine⟨by omega,λk x hk=>?_⟩;have h3:x.data.toList∈cutAt 47 s.data.toList:=by rw[<-hx];exact List.mem_map_of_mem (List.mem_of_getElem? hk)
     have h4:=Zky 47 s.data.toList _ h3;rw[<-hsz.out]at h4;rw[Lib.size_eq x];omega
    have CP:=hid cP;clear hcl hcf HR cP
    go_enter Tryz.func99,Tryz.ntmps99
    go_wp2_with fail
    refine CP.out.mono ?_;rintro e w1 ⟨xs,v,rfl,hI,hx,hb1⟩;obtain⟨ad,cp,rfl,hc1,hc2,hcs⟩:=hI;have HCS:=hid hcs;have hRR:=HRR.out xs hx;obtain⟨hl41,hsm⟩:=HSM.out xs hx;have HREQ:=hid hRR;have HSMX:=hid hsm;have HX1:=hid hb1;clear hcs hx hRR hsm hb1 HRR HSM n1 n2 n3 n4 CP
    go_wp2_with fail
    go_loop [4] (λi=>∃k:Nat,k<=xs.length/\i = .int .i64 k/\((xs.take k).all λx=>Zbch x.data.toList)=true) (λi=>xs.length-(intOf i).toNat)
    case atStart=>exact⟨0,by omega,rfl,by simp⟩
    case round=>
     obtain⟨k,hk,rfl,hall⟩:=hrel;have HALL:=hid hall;clear hall
     by_cases hlt:k<xs.length
     ·obtain⟨x,hx⟩:∃x,xs[k]? =some x:=⟨xs[k],List.getElem?_eq_getElem hlt⟩
      obtain⟨bb,bo,rfl,hbb,hbc⟩:=HCS.out (by rintro rfl;simp at hlt);have hcx:=hbc k x hx;have hxs:=HSMX.out k x hx;have HA:=hid (Zdg xs (λx=>Zbch x.data.toList) k x hx);have HB:=hid (Zdd xs (λx=>Zbch x.data.toList) k x hx);have hk0:(0:Int)<=(k:Int):=by omega
      have hk1:(k:Int)<(xs.length:Int):=by omega
      clear hbc hx
      by_cases hsp:x.toList = []∨x.toList = [46]∨x.toList = [46,46]
      ·have hbad:Zbch x.data.toList=false:=by
        rw[<-Lib.toList_data]
        rcases hsp with h|h|h<;>simp[Zbch,h]
       have hrf:r=false:=by rw[HREQ.out,HB.out hbad]
       subst hrf;clear hbad
       rcases hsp with h|h|h
       all_goals
        go_wp2;go_ret;exact⟨rfl,HX1.out⟩
      ·have e1:x.toList.isEmpty=false:=by rw[Bool.eq_false_iff];intro h;exact hsp (.inl (by simpa using h))
       have e2:(x.toList == [46])=false:=by rw[Bool.eq_false_iff];intro h;exact hsp (.inr (.inl (by simpa using h)))
       have e3:(x.toList == [46,46])=false:=by rw[Bool.eq_false_iff];intro h;exact hsp (.inr (.inr (by simpa using h)))
       have e0:¬x.toList = []:=λh=>hsp (.inl h)
       have HOP:=hid (Zbci (l:=x.data.toList) (by rw[<-Lib.toList_data];exact hsp));have hxl:=hid (Lib.size_eq x);clear hsp
       go_wp2_with fail
       go_loop [5] (λi=>∃j:Nat,j<=x.size/\i = .int .i64 j/\(x.data.toList.take j).all Zbce=true) (λi=>x.size-(intOf i).toNat)
       case atStart=>exact⟨0,by omega,rfl,by simp⟩
       case round=>
        obtain⟨j,hj,rfl,hja⟩:=hrel;have HJA:=hid hja;clear hja
        by_cases hjlt:j<x.size
        ·have hjlt':j<x.data.toList.length:=by rw[<-Lib.size_eq];exact hjlt
         have hsucc:=hid (Zbra x.data.toList Zbce j hjlt');have hfalse:=hid (Zde x.data.toList Zbce j hjlt');have hget:=hid (show x[j]=x.data.toList[j]from rfl);obtain⟨ok,hok⟩:∃ok,Zbce x[j]=ok:=⟨_,rfl⟩;have cS:=λw=>Zbkw x[j] w
         simp only[hok]at cS;have HOK:=hid hok;have CS:=hid cS;clear hok cS
         go_wp2_with fail
         refine(CS.out _).mono ?_;rintro e w2 ⟨rfl,rfl⟩
         cases ok
         ·have hrf:r=false:=by rw[HREQ.out,HB.out (by rw[HOP.out];exact hfalse.out (by rw[<-hget.out];exact HOK.out))]
          subst hrf;go_wp2;go_ret;exact⟨rfl,HX1.out⟩
         ·go_wp2
          go_round
          case rel=>exact⟨j+1,by omega,by go_num,by rw[hsucc.out,HJA.out,<-hget.out,HOK.out];rfl⟩
          case measure=>simp[intOf];omega
        ·have hpart:Zbch x.data.toList=true:=by
          have h:=HJA.out;rw[List.take_of_length_le (by rw[<-hxl.out];omega)]at h;rw[HOP.out,h]
         have HPART:=hid hpart;clear hpart;go_wp2
         go_round
         case rel=>exact⟨k+1,by omega,by go_num,by rw[HA.out,HALL.out,HPART.out];rfl⟩
         case measure=>simp[intOf];omega
     ·have hrt:r=true:=by rw[HREQ.out];have:=HALL.out;rw[List.take_of_length_le (by omega)]at this;exact this
      have HRT:=hid hrt;clear hrt;go_wp2;go_ret;exact⟨Zbho (by rw[HRT.out]),HX1.out⟩
open Go.Shelf
def nmsS (ys:List StepS):List ByteArray:=(ys.map λy=>y.out::y.args).flatten
def nmsR (x:RuleS) (k:Nat):List ByteArray:=[x.name]++x.ins++x.outs++x.after++nmsS (x.steps.take k)
theorem flat5 {rows:List (List Value)} (h:∀r∈rows,r.length=5):rows.flatten.length=rows.length*5:=by
 induction rows with
 | nil=>rfl
 | cons r rs ih=>
  rw[List.flatten_cons,List.length_append,ih λr' hr=>h r' (List.mem_cons_of_mem _ hr),h r (List.mem_cons_self ..),List.length_cons];omega
theorem Zbxo {Av:Nat->Prop} {w:World} {r:List Value} {x:RuleS} (h:RuleA Av w r x):∀u∈r,u.oneCell'=true:=by
 obtain⟨vi,vo,vf,vs,rfl,h1,h2,h3,h4⟩:=h;obtain⟨a1,n1,c1,q1⟩:=Zbig h1;obtain⟨a2,n2,c2,q2⟩:=Zbig h2;obtain⟨a3,n3,c3,q3⟩:=Zbig h3;obtain⟨a4,n4,c4,q4⟩:=Zbol h4;subst q1 q2 q3 q4;intro u hu;simp only[List.mem_cons,List.not_mem_nil,or_false]at hu
 rcases hu with rfl|rfl|rfl|rfl|rfl<;>rfl
theorem Zbxu {w:World} {ty:TypeId} {Av:Nat->Prop} {B:Nat} {v0 v:Value} {n:Nat} {xs:List Value} {ys:List RuleS} (hown:w.ownsRow B 25 5 v0 n xs) (h:RulesA Av w v ys) (hB:B<=w.heap.size) (hn:n+ys.length<=1000000):
  ∃rows v' w',(Builtin.append_ #[49,49] ty #[v0,v]).run Tryz.prog w = .ok v' w'/\w'.ownsRow B 25 5 v' (n+ys.length) (xs++rows.flatten)/\w.grownBy w' v0.ownBlock/\rows.length=ys.length/\AllA (RuleA Av w) rows ys:=by
 obtain⟨i0,hi,hz0,hz1,hz2⟩:=Zsv Zsw;obtain⟨rows,hrow,hall⟩:=h;obtain⟨⟨a,c,rfl,hlc,hcm,hcell⟩,_⟩:=hrow;have h5:=hall.len λr x h=>h.len
 have hlen:=hall.1
 by_cases he:rows = []
 ·subst he
  have hys:ys = []:=by simpa using hlen.symm
  subst hys
  cases a with
  | none=>
   refine⟨[],v0,w,?_,by simpa using hown,?_,rfl,hall⟩
   ·rcases hown.2 with⟨rfl,rfl⟩|⟨g,cap,cur,rfl,_,_,hnc,_⟩
    ·simp[Builtin.append_,run_underlying Tryz.underlying49,sizeOf,typeInfo,hi,Builtin.lenOf,Builtin.firstCells]
    ·simp[Builtin.append_,run_underlying Tryz.underlying49,sizeOf,typeInfo,hi,Builtin.lenOf,Builtin.firstCells,hnc,storeCells]
   ·exact⟨rfl,rfl,rfl,Nat.le_refl _,λ_ _ _=>rfl⟩
  | some ad=>
   obtain⟨v',w',hr,h2,h3,_⟩:=run_append_own (P:=Tryz.prog) w B 49 ty 25 i0 (.agg #[.string ByteArray.empty,.slice none 0 0,.slice none 0 0,.slice none 0 0,.slice none 0 0]) 5 112 Tryz.underlying49 hi hz0 hz1 hz2 rfl (by decide) v0 n xs hown ad 0 c [] rfl (by simp) (by simp) (by unfold maxLen;omega) (by omega) hB;exact⟨[],v',w',hr,by simpa using h2,h3,rfl,hall⟩
 ·obtain⟨b,o,rfl,hb,hc⟩:=hcell he
  have hnews:∀(j:Nat) u,rows.flatten[j]? =some u->w.cell? ((⟨b,o,none⟩:Addr).add j)=some u:=by
   intro j u hj;have:=Zpf h5 hj;obtain⟨r,hr,hu⟩:=this;have h0:=hc (j/5) r hr (j % 5) u hu;simp only[Addr.add];split
   ·rename_i hj0
    rw[hj0]at h0;simpa using h0
   ·rw[show o+j=o+j/5*5+j % 5 by omega]
    exact h0
  have hone:∀u∈rows.flatten,u.oneCell'=true:=by
   intro u hu;obtain⟨r,hr,hu⟩:=List.mem_flatten.1 hu;obtain⟨j,hj⟩:=List.getElem?_of_mem hr;have hlt:j<ys.length:=by rw[<-hlen];exact(List.getElem?_eq_some_iff.1 hj).1
   exact Zbxo (hall.2 j r _ hj (List.getElem?_eq_getElem hlt)) u hu
  obtain⟨v',w',hr,h2,h3,_⟩:=run_append_own (P:=Tryz.prog) w B 49 ty 25 i0 (.agg #[.string ByteArray.empty,.slice none 0 0,.slice none 0 0,.slice none 0 0,.slice none 0 0]) 5 112 Tryz.underlying49 hi hz0 hz1 hz2 rfl (by decide) v0 n xs hown ⟨b,o,none⟩ rows.length c rows.flatten (flat5 h5) hnews hone (by unfold maxLen;omega) (by omega) hB;exact⟨rows,v',w',hr,by rw[hlen]at h2;exact h2,h3,hlen,hall⟩
where
 Zpf {rows:List (List Value)} (h:∀r∈rows,r.length=5) {j:Nat} {u:Value} (hj:rows.flatten[j]? =some u):∃r,rows[j/5]? =some r/\r[j % 5]? =some u:=by
  induction rows generalizing j with
  | nil=>simp at hj
  | cons r rs ih=>
   have hr:=h r (List.mem_cons_self ..);rw[List.flatten_cons]at hj
   rcases Nat.lt_or_ge j 5 with hlt|hge
   ·rw[List.getElem?_append_left (by omega)]at hj
    exact⟨r,by rw[Nat.div_eq_of_lt hlt];rfl,by rw[Nat.mod_eq_of_lt hlt];exact hj⟩
   ·rw[List.getElem?_append_right (by omega),hr]at hj
    obtain⟨r',h1,h2⟩:=ih (λr' hr'=>h r' (List.mem_cons_of_mem _ hr')) hj;refine⟨r',?_,?_⟩
    ·rw[show j/5=(j-5)/5+1 by omega,List.getElem?_cons_succ];exact h1
    ·rw[show j % 5=(j-5) % 5 by omega];exact h2
def Zch (xs:List ByteArray):Prop:=∃i j:Nat,j<i/\i<xs.length/\xs[j]? =xs[i]?
def naF (op:Int) (len:Nat):Int:=if op=5 then min (len:Int) 6 else if op=6 then 0 else 1
def nlF (op:Int):Int:=if op=6∨op=7 then 1 else if op=8 then 2 else 0
def MayX (x:StepS):Prop:=(1<=x.op/\x.op<=9)/\(x.args.length:Int)=naF x.op x.args.length/\(x.lits.length:Int)=nlF x.op/\(x.op=8->∀y,x.lits[0]? =some y->(y.toList==([]:List UInt8))=false)/\0<=x.n/\x.n<=2000/\(x.op=9∨x.n=0)/\∀l∈x.lits,l.size<=100
def Zav (x:RuleS):Prop:=(∀y∈nmsR x x.steps.length,Zbcf y.data.toList=true)/\(∀(j:Nat) y,x.steps[j]? =some y->MayX y)/\(0:Int)<(x.outs.length:Int)
def Zbdi (x:RuleS) (k:Nat):List ByteArray:=(x.steps.take k).map StepS.out
def BigX (x:RuleS):Prop:=(8:Int)<(x.ins.length:Int)∨(4:Int)<(x.outs.length:Int)∨(8:Int)<(x.after.length:Int)∨(12:Int)<(x.steps.length:Int)
def Zcd (x:RuleS) (k:Nat) (y:StepS):Prop:=Zoi x.ins y.out<0/\Zoi (Zbdi x k) y.out<0/\∀a∈y.args,¬(Zoi x.ins a<0/\Zoi (Zbdi x k) a<0)
def Zbj (x:RuleS):Prop:=¬Zch x.ins/\¬Zch x.outs/\¬Zch x.after/\Zoi x.after x.name<0/\(∀(k:Nat) y,x.steps[k]? =some y->Zcd x k y)/\∀a∈x.outs,Zoi x.ins a<0/\0<=Zoi (Zbdi x x.steps.length) a
def RuleC (x:RuleS) (c:Int):Prop:=(¬Zav x/\c=1)∨(Zav x/\BigX x/\c=4)∨(Zav x/\¬BigX x/\¬Zbj x/\c=2)∨(Zav x/\¬BigX x/\Zbj x/\c=0)
theorem RuleC.one {x:RuleS} {c d:Int} (h:RuleC x c) (h':RuleC x d):c=d:=by
 rcases h with⟨a,rfl⟩|⟨a,b,rfl⟩|⟨a,b,e,rfl⟩|⟨a,b,e,rfl⟩<;>rcases h' with⟨a',rfl⟩|⟨a',b',rfl⟩|⟨a',b',e',rfl⟩|⟨a',b',e',rfl⟩<;>first|rfl|contradiction
end Go.Proofs.YtmgcaldphpnfgaaGreatDoor
