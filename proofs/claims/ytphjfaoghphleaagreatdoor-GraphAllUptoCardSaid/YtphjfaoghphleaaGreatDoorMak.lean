import Derived.Test.YtphjfaoghphleaaGreatDoorMaj
import Derived.Deep.AppendLies
import Derived.Deep.DeepCutAuto
namespace Go.Proofs.YtphjfaoghphleaaGreatDoor
open Go.Proofs.Tryz Go.RowKit Go.Shelf
def OwnRules (B:Nat) (w:World) (v:Value) (xs:List RuleS):Prop:=∃rows,w.ownsRow B 50 5 v rows.length rows.flatten/\AllA (RuleA (AvOf B v) w) rows xs
theorem Zbxk (B:Nat) (w:World):OwnRules B w (.slice none 0 0) []:=⟨[],⟨rfl,.inl ⟨rfl,rfl⟩⟩,AllA.nil _⟩
theorem OwnRules.below {B:Nat} {w w':World} {v:Value} {xs:List RuleS} (h:OwnRules B w v xs) (a:Below w.heap.size w w'):OwnRules B w' v xs:=by
 obtain⟨b,c,d⟩:=h;exact⟨b,World.ownsRow.kept (row:=none) c ⟨a.os,a.tape,a.output,a.size,λk e _=>a.block k e⟩ (by cases h:Value.ownBlock _<;>simp),d.imp λr x h=>h.keep (Zpv a)⟩
theorem OwnRules.fr {B:Nat} {w w':World} {v:Value} {xs:List RuleS} {Av:Nat->Prop} (h:OwnRules B w v xs) (i:Fr Av w w') (l:∀b,Av b->AvOf B v b) (m:∀b,v.ownBlock=some b->¬Av b):OwnRules B w' v xs:=by
 obtain⟨c,k,n⟩:=h;refine⟨c,?_,n.imp λr x h=>h.keep (i.mono λb _ e=>l b e)⟩;refine⟨k.1,?_⟩
 rcases k.2 with p|⟨g,d,f,rfl,o,j,a⟩
 ·exact .inl p
 ·exact .inr ⟨g,d,f,rfl,o,(i.block g (Array.getElem?_eq_some_iff.1 j).1 (m g rfl)).trans j,a⟩
theorem OwnRules.len {B:Nat} {w:World} {v:Value} {xs:List RuleS} (h:OwnRules B w v xs):∃a c,v = .slice a xs.length c:=by
 obtain⟨e,j,d⟩:=h
 rcases j.2 with⟨rfl,i⟩|⟨g,b,f,rfl,_⟩
 ·exact⟨none,0,by rw[<-d.1,i]⟩
 ·exact⟨_,b,by rw[d.1]⟩
theorem OwnRules.rulesA {B:Nat} {w:World} {v:Value} {xs:List RuleS} (h:OwnRules B w v xs):RulesA (λb=>b<B) w v xs:=by
 obtain⟨a,d,c⟩:=h;exact⟨a,Zbif d (c.len λr x h=>h.len),c.imp λr x h=>h.mono λb _ e=> .inl e⟩
theorem OwnRules.lt {B:Nat} {w:World} {v:Value} {xs:List RuleS} (h:OwnRules B w v xs):∀b,v.ownBlock=some b->B<=b/\b<w.heap.size:=by
 obtain⟨a,c,_⟩:=h;exact λb e=>c.lt b e
theorem Zbuh {w:World} {I:Array Oper} {g:List Oper} {o:Oper} {a:Act} {Q:Exit->Act->World->Prop} (M:o.guard=none) (s x:Operand)
  (ho:o.op = .call { callee:= .builtin .append,args:=#[s,x],argTypes:=#[22,22] })
  (B:Nat) (v:Value) (J:List RuleS) (y:RuleS) (l m n p:Option Addr) (E q F t G z H A:Nat) (hs:a.eval s=v) (D:OwnRules B w v J) (hB:B<=w.heap.size) (hn:J.length<=1000000000)
  (R:RuleA (AvOf B v) w [.string y.name,.slice l E q,.slice m F t,.slice n G z,.slice p H A] y)
  (V:Nat) (hx:a.eval x = .slice (some ⟨V,0,none⟩) 1 1) (O:V=w.heap.size)
  (h:∀v' i,OwnRules B i v' (J ++ [y])->Below B w i->Fr (λb=>v.ownBlock=some b) w i->(∀b,v'.ownBlock=some b->v.ownBlock=some b\/w.heap.size<=b)->wpList prog I Q g (a.put o.dst v') i):
  wpList prog I Q (o::g) a (w.alloc (.cells #[.string y.name,.slice l E q,.slice m F t,.slice n G z,.slice p H A] 50)):=by
 subst O;obtain⟨i0,hi,S,T,U⟩:=Zsv Zsw;obtain⟨d,W,X⟩:=D;have Y:=X.1;have K:=Zpu (AvOf B v) w (.cells #[.string y.name,.slice l E q,.slice m F t,.slice n G z,.slice p H A] 50);refine Zbue _ M s x 22 ho B 50 i0 (.agg #[.string ByteArray.empty,.slice none 0 0,.slice none 0 0,.slice none 0 0,.slice none 0 0]) 5 112 underlying22 hi S T U rfl (by decide) v d.length d.flatten hs (W.alloc _) ⟨w.heap.size,0,none⟩ 1 1 [.string y.name,.slice l E q,.slice m F t,.slice n G z,.slice p H A] hx rfl ?_ ?_ (by decide) ?_ ?_ ?_ ?_
 ·intro j u c
  match j,c with
  | 0,c=>simp at c;subst c;simp[Addr.add]
  | 1,c=>simp at c;subst c;simp[Addr.add]
  | 2,c=>simp at c;subst c;simp[Addr.add]
  | 3,c=>simp at c;subst c;simp[Addr.add]
  | 4,c=>simp at c;subst c;simp[Addr.add]
 ·intro u Z;simp at Z;rcases Z with rfl|rfl|rfl|rfl|rfl<;>rfl
 ·unfold maxLen;omega
 ·omega
 ·simp;omega
 ·intro v' i P L f
  have h3:AllA (RuleA (AvOf B v) w) (d ++ [[.string y.name,.slice l E q,.slice m F t,.slice n G z,.slice p H A]]) (J ++ [y]):=X.snoc R;have h4:=Zqx (B:=B) (v':=v') (h3.imp λr x h=>h.keep K) L (λb C=>(f b C).imp id λe=>Nat.le_trans (by simp) e);refine h v' i ⟨_,?_,h4⟩ (((Below.refl B w).alloc hB _).grown L (by simp;omega) (λb C=>(W.lt b C).1)) ((Zpu _ w _).trans (Zpx L λk e=>e)) (λb C=>(f b C).imp id λe=>Nat.le_trans (by simp) e);rw[List.length_append,List.flatten_append];simpa using P
def Zbz (w:World) (ys:List RuleS) (e:Ending) (w':World):Prop:=∃a n c,e = .returned (.slice a n c)/\OwnRules w.heap.size w' (.slice a n c) ys/\Below w.heap.size w w'
open Go.Lib
theorem Zjz:∀a b:List UInt8,compareBytes a b=0->a=b
 | [],[],_=>rfl
 | [],_::_,h=>by simp[compareBytes]at h
 | _::_,[],h=>by simp[compareBytes]at h
 | a::az,b::bs,h=>by
  unfold compareBytes at h;split at h
  ·cases h
  ·split at h
   ·cases h
   ·rename_i c d
    have:a=b:=UInt8.toNat_inj.1 (by rw[UInt8.lt_iff_toNat_lt]at c d;omega);rw[this,Zjz az bs h]
theorem Zjv:∀a b:List UInt8,compareBytes b a = -compareBytes a b
 | [],[]=>rfl
 | [],_::_=>rfl
 | _::_,[]=>rfl
 | a::az,b::bs=>by
  unfold compareBytes
  by_cases c:a<b
  ·have d:¬b<a:=by rw[UInt8.lt_iff_toNat_lt]at c⊢;omega
   rw[if_pos c,if_neg d,if_pos c];rfl
  ·by_cases d:b<a
   ·rw[if_pos d,if_neg c,if_pos d]
   ·rw[if_neg d,if_neg c,if_neg c,if_neg d,Zjv az bs]
theorem Zjy:∀a b c:List UInt8,compareBytes a b<0->compareBytes b c<0->compareBytes a c<0
 | [],[],_,h,_=>by simp[compareBytes]at h
 | [],_::_,[],_,h=>by simp[compareBytes]at h
 | [],_::_,_::_,_,_=>by simp[compareBytes]
 | _::_,[],_,h,_=>by simp[compareBytes]at h
 | _::_,_::_,[],_,h=>by simp[compareBytes]at h
 | a::az,b::bs,c::cs,h1,h2=>by
  unfold compareBytes at h1 h2⊢;simp only[UInt8.lt_iff_toNat_lt]at h1 h2⊢
  by_cases g:a.toNat<b.toNat
  ·by_cases e:b.toNat<c.toNat
   ·rw[if_pos (by omega)];decide
   ·rw[if_neg e]at h2
    by_cases d:c.toNat<b.toNat
    ·rw[if_pos d]at h2;exact absurd h2 (by decide)
    ·rw[if_pos (by omega)];decide
  ·rw[if_neg g]at h1
   by_cases f:b.toNat<a.toNat
   ·rw[if_pos f]at h1;exact absurd h1 (by decide)
   ·rw[if_neg f]at h1
    by_cases e:b.toNat<c.toNat
    ·rw[if_pos (by omega)];decide
    ·rw[if_neg e]at h2
     by_cases d:c.toNat<b.toNat
     ·rw[if_pos d]at h2;exact absurd h2 (by decide)
     ·rw[if_neg d]at h2
      rw[if_neg (by omega),if_neg (by omega)];exact Zjy az bs cs h1 h2
def cmpF (f:ByteArray×ByteArray) (x:ByteArray):Int:=compareBytes f.1.data.toList x.data.toList
def Zcwl (fs:List (ByteArray×ByteArray)):Prop:=fs.Pairwise λf g=>cmpF f g.1<0
def IsFiles (w:World) (v:Value) (fs:List F2):Prop:=
 ∃a c,v = .slice a fs.length c/\fs.length<=c/\c<=maxLen/\(fs≠[]->∃b o,a=some ⟨b,o,none⟩/\b<w.heap.size/\∀(j:Nat) x,fs[j]? =some x->w.cell? ⟨b,o+j*2,none⟩=some (.string x.1)/\w.cell? ⟨b,o+j*2+1,none⟩=some (.string x.2))
theorem IsFiles.below {w w':World} {v:Value} {fs:List F2} (h:IsFiles w v fs) (f:Below w.heap.size w w'):IsFiles w' v fs:=by
 obtain⟨a,c,rfl,k,d,l⟩:=h;refine⟨a,c,rfl,k,d,λg=>?_⟩;obtain⟨b,o,rfl,e,i⟩:=l g;exact⟨b,o,rfl,Nat.lt_of_lt_of_le e f.size,λj x hx=>⟨(f.cell e).trans (i j x hx).1,(f.cell e).trans (i j x hx).2⟩⟩
theorem Zno (a:List F2):∀(j:Nat) (x:F2),a[j]? =some x->(Znm a)[j*2]? =some (.string x.1)/\(Znm a)[j*2+1]? =some (.string x.2):=by
 induction a with
 | nil=>intro j x h;simp at h
 | cons f a b=>
  intro j x h;rw[Znp]
  cases j with
  | zero=>simp at h;subst h;simp
  | succ j=>rw[Nat.add_mul];simpa using b j x (by simpa using h)
theorem OwnF.files {w:World} {B:Nat} {r:Option Nat} {v:Value} {fs:List F2} (h:OwnF w B r v fs):IsFiles w v fs:=by
 rcases h with⟨b,rfl⟩|⟨rfl,rfl,a,rfl⟩
 ·obtain⟨q,⟨rfl,n⟩|⟨g,c,m,rfl,p,i,k,f,o,l⟩⟩:=b
  ·obtain rfl:=List.eq_nil_of_length_eq_zero n
   exact⟨none,0,rfl,by simp,by simp[maxLen],λh=>absurd rfl h⟩
  ·refine⟨_,c,rfl,k,f,λ_=>⟨g,0,rfl,?_,λj x hx=>?_⟩⟩
   ·rcases Nat.lt_or_ge g w.heap.size with h|h
    ·exact h
    ·rw[Array.getElem?_eq_none h]at i;cases i
   ·have d:∀(t:Nat) u,(Znm fs)[t]? =some u->w.cell? ⟨g,t,none⟩=some u:=by
     intro t u e;rw[<-l,List.getElem?_take]at e;split at e
     ·simp only[World.cell?,i];simpa using e
     ·cases e
    have:=Zno fs j x hx;rw[Nat.zero_add];exact⟨d _ _ this.1,d _ _ this.2⟩
 ·exact⟨a,0,rfl,by simp,by simp[maxLen],λh=>absurd rfl h⟩
theorem Zkg (a b:ByteArray) (w:World):Calls prog 125 #[.string a,.string b] w λe w'=>e = .returned (.int .i64 (Lib.compareBytes a.data.toList b.data.toList))/\w'=w:=
 Any.strings_Compare lLays_n106 a b w
def IsTree (w:World) (B b:Nat) (r:Option Nat) (fs:List F2):Prop:=
 B<=b/\Zcwl fs/\fs.length<=60/\∃v,w.heap[b]? =some (.cells #[v] 188 (0,0))/\OwnF w B r v fs
theorem OwnF.kept {w w':World} {B:Nat} {r row:Option Nat} {v:Value} {fs:List F2} (h:OwnF w B r v fs) (d:w.grownBy w' row) (c:r=none\/r≠row):OwnF w' B r v fs:=by
 rcases h with⟨b,rfl⟩|⟨rfl,rfl,a,rfl⟩
 ·exact .inl ⟨b.kept d c,rfl⟩
 ·exact .inr ⟨rfl,rfl,a,rfl⟩
theorem OwnF.shape {w:World} {B:Nat} {r:Option Nat} {v:Value} {b:List F2} (h:OwnF w B r v b):∃a c,v = .slice a b.length c/\b.length<=c/\c<=maxLen:=by
 obtain⟨a,c,f,d,e,_⟩:=h.files;exact⟨a,c,f,d,e⟩
theorem OwnF.lt {w:World} {B:Nat} {r:Option Nat} {v:Value} {d:List F2} (h:OwnF w B r v d) {k:Nat} (c:r=some k):B<=k/\k<w.heap.size:=by
 rcases h with⟨b,rfl⟩|⟨rfl,rfl,a,rfl⟩
 ·exact b.lt k c
 ·cases c
theorem block_lt {w:World} {b:Nat} {o:Obj} (h:w.heap[b]? =some o):b<w.heap.size:=by
 rcases Nat.lt_or_ge b w.heap.size with a|a
 ·exact a
 ·rw[Array.getElem?_eq_none a]at h;cases h
theorem Zrc {w w':World} (h:Below w.heap.size w w') (row:Option Nat):w.grownBy w' row:=⟨h.os,h.tape,h.output,h.size,λk a _=>h.block k a⟩
theorem IsTree.below {w w':World} {B b:Nat} {r:Option Nat} {fs:List F2} (h:IsTree w B b r fs) (c:Below w.heap.size w w'):IsTree w' B b r fs:=by
 obtain⟨d,e,f,v,a,g⟩:=h;exact⟨d,e,f,v,(c.block b (block_lt a)).trans a,g.kept (Zrc c none) (by cases r<;>simp)⟩
theorem IsTree.ptr {w:World} {B b:Nat} {r:Option Nat} {d:List F2} (h:IsTree w B b r d):∃a c,w.heap[b]? =some (.cells #[.slice a d.length c] 188 (0,0))/\OwnF w B r (.slice a d.length c) d/\d.length<=c/\c<=maxLen:=by
 obtain⟨_,_,_,v,f,e⟩:=h;obtain⟨a,c,rfl,g,i⟩:=e.shape;exact⟨a,c,f,e,g,i⟩
theorem Zda (b n c:Nat) (a:Option Addr) (w:World) (h:w.heap[b]? =some (.cells #[.slice a n c] 188 (0,0))):
  Calls prog 238 #[.pointer (some ⟨b,0,none⟩)] w λe w'=>e = .returned (.slice a n c)/\w=w':=by
 have d:w.cell? ⟨b,0,none⟩=some (.slice a n c):=by simp[World.cell?,h]
 clear h
 go_enter func238,ntmps238
 go_wp2;go_ret;exact⟨rfl,rfl⟩
def GB (B:Nat):Prop:=0<B/\2<B/\3<B/\4<B
theorem GB.mono {B B':Nat} (h:GB B) (e:B<=B'):GB B':=by
 obtain⟨a,b,c,d⟩:=h;exact⟨by omega,by omega,by omega,by omega⟩
theorem Glob.low {w w':World} {B:Nat} (h:Glob w) (c:GB B) (a:Below B w w'):Glob w':=by
 obtain⟨⟨m,f⟩,g,b,⟨k,i,d⟩,⟨l,j,e⟩⟩:=h;exact⟨⟨m,(a.cell c.1).trans f⟩,var?_below a (by kernel_rfl) c.2.1 g,Nat.lt_of_lt_of_le b a.size,⟨k,i,(a.cell c.2.2.1).trans d⟩,⟨l,j,(a.cell c.2.2.2).trans e⟩⟩
structure Frame2 (w w':World) (b:Nat) (r:Option Nat):Prop where
 os:w'.os=w.os
 tape:w'.tape=w.tape
 output:w'.output=w.output
 size:w.heap.size<=w'.heap.size
 block:∀k,k<w.heap.size->k≠b->some k≠r->w'.heap[k]? =w.heap[k]?
theorem Frame2.of_below {w w':World} (h:Below w.heap.size w w') (b:Nat) (r:Option Nat):Frame2 w w' b r:=⟨h.os,h.tape,h.output,h.size,λk a _ _=>h.block k a⟩
theorem Frame2.trans {a b c:World} {k:Nat} {r f:Option Nat} (h:Frame2 a b k r) (d:Frame2 b c k f) (n:f=r\/∃g,f=some g/\a.heap.size<=g):Frame2 a c k r:=by
 refine⟨d.os.trans h.os,d.tape.trans h.tape,d.output.trans h.output,Nat.le_trans h.size d.size,λj m i l=>?_⟩;refine(d.block j (Nat.lt_of_lt_of_le m h.size) i ?_).trans (h.block j m i l)
 rcases n with rfl|⟨g,rfl,o⟩
 ·exact l
 ·intro e;injection e with e;omega
theorem Frame2.below {w w':World} {b B:Nat} {r:Option Nat} (h:Frame2 w w' b r) (c:B<=w.heap.size) (d:B<=b) (a:∀k,r=some k->B<=k):Below B w w':=
 ⟨h.os,h.tape,h.output,h.size,λk f=>h.block k (by omega) (by omega) (λe=>by have:=a k e.symm;omega)⟩
theorem OwnF.ne {w:World} {B b:Nat} {r:Option Nat} {v:Value} {i:List F2} {d:Array Value} (h:OwnF w B r v i) (j:w.heap[b]? =some (.cells d 188 (0,0))):r≠some b:=by
 rcases h with⟨⟨_,⟨rfl,_⟩|⟨g,c,f,rfl,_,a,_⟩⟩,rfl⟩|⟨_,rfl,_⟩
 ·simp[Value.ownBlock]
 ·intro e
  injection e with e
  subst e;rw[j]at a;simp at a
 ·simp
theorem IsTree.rlt {w:World} {B b:Nat} {r:Option Nat} {a:List F2} (h:IsTree w B b r a):(∀k,r=some k->B<=k/\k<w.heap.size)/\B<=b/\b<w.heap.size:=by
 obtain⟨c,_,_,v,d,e⟩:=h;exact⟨λk f=>e.lt f,c,block_lt d⟩
theorem IsTree.low {w:World} {B c b:Nat} {r:Option Nat} {fs:List F2} (h:IsTree w B b r fs) (d:c<=B):IsTree w c b r fs:=by
 obtain⟨e,f,g,v,i,a⟩:=h;refine⟨Nat.le_trans d e,f,g,v,i,?_⟩
 rcases a with⟨a,j⟩|a
 ·exact .inl ⟨Zbdv a d,j⟩
 ·exact .inr a
def AllIs (p:Value) (a:Option Addr) (c:Nat) (fs:List F2) (w:World):Prop:=
 ∀w',Below w.heap.size w w'->Calls prog 238 #[p] w' λe w''=>e = .returned (.slice a fs.length c)/\w'=w''
theorem IsTree.all {w:World} {B b:Nat} {r:Option Nat} {fs:List F2} (h:IsTree w B b r fs):∃a c,AllIs (.pointer (some ⟨b,0,none⟩)) a c fs w/\IsFiles w (.slice a fs.length c) fs:=by
 obtain⟨a,c,e,d,j,f⟩:=h.ptr;exact⟨a,c,λi g=>Zda b fs.length c a i ((g.block b (block_lt e)).trans e),d.files⟩
theorem AllIs.below {p:Value} {a:Option Addr} {c:Nat} {e:List F2} {w w':World} (h:AllIs p a c e w) (f:Below w.heap.size w w'):AllIs p a c e w':=
 λd b=>h d (f.trans (b.mono f.size))
def Zld (s:List UInt8):Option (List UInt8×List UInt8):=
 if (Lib.cut s [58]).2.2 then
  if (Zqk (Lib.cut s [58]).1 (Lib.cut s [58]).2.1.length).2 then
   some ((Lib.cut s [58]).2.1.take (Zqk (Lib.cut s [58]).1 (Lib.cut s [58]).2.1.length).1.toNat,(Lib.cut s [58]).2.1.drop (Zqk (Lib.cut s [58]).1 (Lib.cut s [58]).2.1.length).1.toNat)
  else none
 else none
theorem Zlm {s:List UInt8} {d:UInt8} (h:d∉s):Lib.cut s [d]=(s,[],false):=by
 unfold Lib.cut;rw[Zsl h,if_neg (by decide)]
theorem Zlj {a b:List UInt8} {d:UInt8} (h:d∉a):Lib.cut (a++d::b) [d]=(a,b,true):=by
 unfold Lib.cut;rw[index_hit h,if_pos (Int.natCast_nonneg _)];simp only[Int.toNat_natCast,List.length_cons,List.length_nil,Nat.zero_add,Zmb];simp
theorem Zlg {s:List UInt8} (h:58∉s):Zld s=none:=by
 unfold Zld;rw[Zlm h];rfl
theorem Zle {a b:List UInt8} (h:58∉a):Zld (a++58::b)=if (Zqk a b.length).2 then some (b.take (Zqk a b.length).1.toNat,b.drop (Zqk a b.length).1.toNat)else none:=by
 unfold Zld;rw[Zlj h];rfl
theorem Zlf {s p q:List UInt8} (h:Zld s=some (p,q)):q.length<s.length:=by
 rcases Zoz 58 s with e|⟨a,b,rfl,d⟩
 ·rw[Zlg e]at h;cases h
 ·rw[Zle d]at h
  split at h
  ·injection h with h
   injection h with f c
   rw[<-c];simp;omega
  ·cases h
def getF:Nat->List UInt8->Option (List (List UInt8))
 | 0,_=>none
 | f+1,s=>if s = []then some []else match Zld s with
  | none=>none
  | some (p,q)=>(getF f q).map (p :: ·)
theorem Zqg:∀(f:Nat) (s:List UInt8),s.length<f->∀a,s.length<a->getF f s=getF a s
 | 0,s,h,_,_=>absurd h (by omega)
 | f+1,s,h,0,h'=>absurd h' (by omega)
 | f+1,s,h,a+1,h'=>by
  unfold getF;split
  ·rfl
  ·cases b:Zld s with
   | none=>rfl
   | some c=>
    obtain⟨p,q⟩:=c;have:=Zlf b;simp only;rw[Zqg f q (by omega) a (by omega)]
def getS (s:List UInt8):Option (List (List UInt8)):=getF (s.length+1) s
theorem Zqn:getS []=some []:=rfl
theorem Zqo {s:List UInt8} (h0:s≠[]) (h:Zld s=none):getS s=none:=by
 rw[getS,getF,if_neg h0,h]
theorem Zqp {s p q:List UInt8} (h0:s≠[]) (h:Zld s=some (p,q)):getS s=(getS q).map (p :: ·):=by
 rw[getS,getF,if_neg h0,h];have:=Zlf h;simp only;rw[Zqg s.length q (by omega) (q.length+1) (by omega)];rfl
def GetAt (s cur:List UInt8) (done:List ByteArray):Prop:=
 getS s=(getS cur).map (done.map (·.data.toList) ++ ·)/\done.length+cur.length<=s.length
theorem GetAt.none {s a:List UInt8} {done:List ByteArray} (h:GetAt s a done) (h0:a≠[]) (b:Zld a=none):getS s=none:=by
 rw[h.1,Zqo h0 b];rfl
theorem GetAt.next {s a p q:List UInt8} {done:List ByteArray} (h:GetAt s a done) (h0:a≠[]) (b:Zld a=some (p,q)):GetAt s q (done ++ [⟨p.toArray⟩]):=by
 have c:=h.1;have d:=h.2;have e:=Zlf b;refine⟨?_,by simp;omega⟩;rw[c,Zqp h0 b,Option.map_map]
 congr 1
 funext l
 simp
theorem GetAt.done {s:List UInt8} {done:List ByteArray} (h:GetAt s [] done):getS s=some (done.map (·.data.toList)):=by
 rw[h.1,Zqn];simp
def RowAt (w:World) (B:Nat) (v:Value) (fs:List F2):Prop:=w.ownsRow B 148 2 v fs.length (Znm fs)
def Apart (v:Value) (b:Nat) (r:Option Nat):Prop:=∀g,v.ownBlock=some g->g≠b/\r≠some g
theorem RowAt.below {w w':World} {B:Nat} {v:Value} {fs:List F2} (h:RowAt w B v fs) (a:Below w.heap.size w w'):RowAt w' B v fs:=World.ownsRow.kept h (Zrc a none) (by cases Value.ownBlock v<;>simp)
theorem RowAt.files {w:World} {B:Nat} {v:Value} {fs:List F2} (h:RowAt w B v fs):IsFiles w v fs:=OwnF.files (.inl ⟨h,rfl⟩)
theorem RowAt.new {w:World} {B b:Nat} {v:Value} {a T:List F2} {r:Option Nat} (h:RowAt w B v a) (w':World) (f:IsTree w' w.heap.size b r T):Apart v b r:=by
 intro g d;have:=World.ownsRow.lt h g d;obtain⟨c,i,_⟩:=f.rlt;exact⟨by omega,λe=>by have:=(c g e).1;omega⟩
theorem IsTree.grown {w w':World} {B b:Nat} {r row:Option Nat} {fs:List F2} (h:IsTree w B b r fs) (c:w.grownBy w' row) (i:some b≠row) (j:r=none\/r≠row):IsTree w' B b r fs:=by
 obtain⟨d,e,f,v,a,g⟩:=h;exact⟨d,e,f,v,(c.block b (block_lt a) i).trans a,g.kept c j⟩
theorem RowAt.after {w w':World} {B b:Nat} {r:Option Nat} {v:Value} {d T:List F2} (h:RowAt w' w.heap.size v d) (c:IsTree w B b r T) (i:w.grownBy w' none):IsTree w' B b r T/\Apart v b r:=by
 refine⟨c.grown i (by simp) (by cases r<;>simp),λg a=>?_⟩;have:=World.ownsRow.lt h g a;obtain⟨f,j,k⟩:=c.rlt;exact⟨by omega,λe=>by have:=(f g e).2;omega⟩
theorem Apart.tree {w w':World} {B b:Nat} {r:Option Nat} {v:Value} {T:List F2} (h:Apart v b r) (c:IsTree w B b r T) (a:w.grownBy w' v.ownBlock):IsTree w' B b r T:=by
 refine c.grown a (λe=>(h b e.symm).1 rfl) ?_
 cases r with
 | none=>exact .inl rfl
 | some g=>exact .inr λe=>(h g e.symm).2 rfl
def BothT (wr w:World) (b1 b2:Nat) (r1 r2:Option Nat) (T U:List F2):Prop:=
 ∃B1 B2,IsTree w B1 b1 r1 T/\IsTree w B2 b2 r2 U/\b1<B2/\(∀k,r1=some k->k<B2)/\Below wr.heap.size wr w/\wr.heap.size<=B1/\wr.heap.size<=B2
theorem BothT.below {wr w w':World} {b c:Nat} {e f:Option Nat} {T U:List F2} (h:BothT wr w b c e f T U) (a:Below w.heap.size w w'):BothT wr w' b c e f T U:=by
 obtain⟨g,i,j,k,l,m,d,n⟩:=h;exact⟨g,i,j.below a,k.below a,l,m,d.trans (a.mono d.size),n⟩
def SmallL (xs:List ByteArray) (m:Nat):Prop:=xs.length<=m/\∀x∈xs,x.size<=m
theorem SmallL.mono {xs:List ByteArray} {m m':Nat} (h:SmallL xs m) (a:m<=m'):SmallL xs m':=⟨by have:=h.1;omega,λx hx=>by have:=h.2 x hx;omega⟩
def Zcc (w:World) (r:List Value) (x:StepS):Prop:=∃va vl,r = [.string x.out,.int .i64 x.op,va,vl,.int .i64 x.n]/\IsStrs w va x.args/\IsStrs w vl x.lits
def StepsI (w:World) (v:Value) (xs:List StepS):Prop:=∃rows,IsRow w v 5 rows/\AllA (Zcc w) rows xs
def RuleI (w:World) (r:List Value) (x:RuleS):Prop:=∃vi vo vf vs,r = [.string x.name,vi,vo,vf,vs]/\IsStrs w vi x.ins/\IsStrs w vo x.outs/\IsStrs w vf x.after/\StepsI w vs x.steps
def RulesI (w:World) (v:Value) (xs:List RuleS):Prop:=∃rows,IsRow w v 5 rows/\AllA (RuleI w) rows xs
def Zba (n:Int):Prop:= -9223372036854775808<=n/\n<=9223372036854775807
structure SmallS (x:StepS) (m:Nat):Prop where
 out:x.out.size<=m
 args:SmallL x.args m
 lits:SmallL x.lits m
 op:Zba x.op
 n:Zba x.n
structure SmallR (x:RuleS) (m:Nat):Prop where
 name:x.name.size<=m
 ins:SmallL x.ins m
 outs:SmallL x.outs m
 after:SmallL x.after m
 few:x.steps.length<=m
 steps:∀y∈x.steps,SmallS y m
theorem SmallS.mono {x:StepS} {m m':Nat} (h:SmallS x m) (a:m<=m'):SmallS x m':=⟨Nat.le_trans h.out a,h.args.mono a,h.lits.mono a,h.op,h.n⟩
theorem SmallR.mono {x:RuleS} {m m':Nat} (h:SmallR x m) (a:m<=m'):SmallR x m':=⟨Nat.le_trans h.name a,h.ins.mono a,h.outs.mono a,h.after.mono a,Nat.le_trans h.few a,λy b=>(h.steps y b).mono a⟩
theorem StepsI.below {w w':World} {v:Value} {xs:List StepS} (h:StepsI w v xs) (b:Below w.heap.size w w'):StepsI w' v xs:=by
 obtain⟨a,c,d⟩:=h;exact⟨a,c.below b,d.imp λr x h=>by obtain⟨g,i,rfl,e,f⟩:=h;exact⟨g,i,rfl,e.below b,f.below b⟩⟩
theorem RuleI.below {w w':World} {r:List Value} {x:RuleS} (h:RuleI w r x) (a:Below w.heap.size w w'):RuleI w' r x:=by
 obtain⟨g,i,f,j,rfl,b,c,d,e⟩:=h;exact⟨g,i,f,j,rfl,b.below a,c.below a,d.below a,e.below a⟩
theorem RuleA.ruleI {Av:Nat->Prop} {w:World} {r:List Value} {x:RuleS} (h:RuleA Av w r x):RuleI w r x:=by
 obtain⟨l,n,k,o,rfl,b,c,d,a,e,f⟩:=h;exact⟨l,n,k,o,rfl,b.isStrs,c.isStrs,d.isStrs,a,e.1,f.imp λr x h=>by obtain⟨j,m,rfl,g,i⟩:=h;exact⟨j,m,rfl,g.isStrs,i.isStrs⟩⟩
theorem RulesA.rulesI {Av:Nat->Prop} {w:World} {v:Value} {xs:List RuleS} (h:RulesA Av w v xs):RulesI w v xs:=by
 obtain⟨a,b,c⟩:=h;exact⟨a,b.1,c.imp λr x h=>h.ruleI⟩
theorem RulesI.below {w w':World} {v:Value} {xs:List RuleS} (h:RulesI w v xs) (b:Below w.heap.size w w'):RulesI w' v xs:=by
 obtain⟨a,c,d⟩:=h;exact⟨a,c.below b,d.imp λr x h=>h.below b⟩
theorem Zue {w:World} {v:Value} {xs:List ByteArray} (h:IsStrs w v xs):∃a c,v = .slice a xs.length c:=by
 obtain⟨a,c,rfl,_⟩:=h;exact⟨a,c,rfl⟩
theorem Zbov {w:World} {v:Value} {xs:List StepS} (h:StepsI w v xs):∃a c,v = .slice a xs.length c:=by
 obtain⟨d,⟨a,c,rfl,_⟩,b⟩:=h;exact⟨a,c,by rw[b.1]⟩
theorem Zbjn {w:World} {v:Value} {xs:List RuleS} (h:RulesI w v xs):∃a c,v = .slice a xs.length c/\xs.length<=c/\c<=maxLen:=by
 obtain⟨d,⟨a,c,rfl,e,f,_⟩,b⟩:=h;rw[<-b.1];exact⟨a,c,rfl,e,f⟩
theorem Zbjm {w:World} {v:Value} {xs:List RuleS} (h:RulesI w v xs) {k:Nat} {x:RuleS} (hx:xs[k]? =some x):
  ∃g o cap l r m s n t q y,v = .slice (some ⟨g,o,none⟩) xs.length cap/\g<w.heap.size/\RuleI w [.string x.name,.slice l x.ins.length r,.slice m x.outs.length s,.slice n x.after.length t,.slice q x.steps.length y] x/\∀w',Below w.heap.size w w'->
   w'.cell? ⟨g,o+k*5,none⟩=some (.string x.name)/\w'.cell? ⟨g,o+k*5+1,none⟩=some (.slice l x.ins.length r)/\w'.cell? ⟨g,o+k*5+2,none⟩=some (.slice m x.outs.length s)/\w'.cell? ⟨g,o+k*5+3,none⟩=some (.slice n x.after.length t)/\w'.cell? ⟨g,o+k*5+4,none⟩=some (.slice q x.steps.length y):=by
 obtain⟨j,⟨a,c,rfl,_,_,z⟩,f⟩:=h;have B:k<j.length:=by rw[f.1];exact(List.getElem?_eq_some_iff.1 hx).1
 have A:=f.2 k _ x (List.getElem?_eq_getElem B) hx;obtain⟨b,o,rfl,C,G⟩:=z (by rintro rfl;simp at B);obtain⟨P,Q,O,R,e,D,z,E,F⟩:=id A;obtain⟨l,r,J⟩:=Zue D;obtain⟨m,s,K⟩:=Zue z;obtain⟨n,t,L⟩:=Zue E;obtain⟨q,y,M⟩:=Zbov F;subst J K L M;rw[e]at A;refine⟨b,o,c,l,r,m,s,n,t,q,y,by rw[f.1],C,A,λw' I=>?_⟩;have d:∀(i:Nat) u,j[k][i]? =some u->w'.cell? ⟨b,o+k*5+i,none⟩=some u:=λi u H=>(I.cell (p:=⟨b,o+k*5+i,none⟩) C).trans (G k _ (List.getElem?_eq_getElem B) i u H)
 rw[e]at d;exact⟨d 0 _ rfl,d 1 _ rfl,d 2 _ rfl,d 3 _ rfl,d 4 _ rfl⟩
structure ShortR (x:RuleS):Prop where
 ins:x.ins.length<=10
 outs:x.outs.length<=6
 after:x.after.length<=10
 steps:x.steps.length<=14
 each:∀y∈x.steps,y.args.length<=8/\y.lits.length<=3
theorem Zbou {w:World} {v:Value} {xs:List StepS} (h:StepsI w v xs) {k:Nat} {y:StepS} (q:xs[k]? =some y):
  ∃b o cap j l,v = .slice (some ⟨b,o,none⟩) xs.length cap/\IsStrs w j y.args/\IsStrs w l y.lits/\
   ∀w',Below w.heap.size w w'->w'.cell? ⟨b,o+k*5,none⟩=some (.string y.out)/\w'.cell? ⟨b,o+k*5+1,none⟩=some (.int .i64 y.op)/\w'.cell? ⟨b,o+k*5+2,none⟩=some j/\w'.cell? ⟨b,o+k*5+3,none⟩=some l/\w'.cell? ⟨b,o+k*5+4,none⟩=some (.int .i64 y.n):=by
 obtain⟨g,⟨a,c,rfl,_,_,r⟩,f⟩:=h;have m:k<g.length:=by rw[f.1];exact(List.getElem?_eq_some_iff.1 q).1
 obtain⟨j,l,e,s,z⟩:=f.2 k _ y (List.getElem?_eq_getElem m) q;obtain⟨b,o,rfl,t,x⟩:=r (by rintro rfl;simp at m);refine⟨b,o,c,j,l,by rw[f.1],s,z,λw' B=>?_⟩;have d:∀(i:Nat) u,g[k][i]? =some u->w'.cell? ⟨b,o+k*5+i,none⟩=some u:=λi u A=>(B.cell (p:=⟨b,o+k*5+i,none⟩) t).trans (x k _ (List.getElem?_eq_getElem m) i u A)
 rw[e]at d;exact⟨d 0 _ rfl,d 1 _ rfl,d 2 _ rfl,d 3 _ rfl,d 4 _ rfl⟩
def OpenV (w:World) (v:Value):Prop:=∀b,v.ownBlock=some b->∀i,w.frozen? ⟨b,i,none⟩=false
theorem Zbcv {w:World} {B e a:Nat} {v:Value} {n:Nat} {xs:List Value} (h:w.ownsRow B e a v n xs):OpenV w v:=by
 intro b c i
 rcases h.2 with⟨rfl,_⟩|⟨g,d,f,rfl,_,j,_⟩
 ·cases c
 ·cases c
  simp[World.frozen?,j]
theorem Zbcu (w:World) (n c:Nat):OpenV w (.slice none n c):=λb a=>by cases a
theorem OpenV.keep {Av:Nat->Prop} {w w':World} {v:Value} (h:OpenV w v) (a:∀b,v.ownBlock=some b->b<w.heap.size/\¬Av b) (c:Fr Av w w'):OpenV w' v:=
 λb e i=>(World.frozen?_of_block (c.block b (a b e).1 (a b e).2)).trans (h b e i)
def StrsO (Av:Nat->Prop) (w:World) (v:Value) (xs:List ByteArray):Prop:=StrsA Av w v xs/\OpenV w v
theorem StrsO.keep {Av:Nat->Prop} {w w':World} {v:Value} {xs:List ByteArray} (h:StrsO Av w v xs) (a:Fr Av w w'):StrsO Av w' v xs:=⟨RowA.keep h.1 a,h.2.keep h.1.2 a⟩
def StrsW (Av:Nat->Prop) (w:World) (v:Value) (xs:List ByteArray):Prop:=StrsO Av w v xs/\w.ownsRow 0 9 1 v xs.length (xs.map Value.string)
theorem Zckk {w w':World} {B e a:Nat} {v:Value} {n:Nat} {xs:List Value} (h:w.ownsRow B e a v n xs) (i:∀b,v.ownBlock=some b->w'.heap[b]? =w.heap[b]?):w'.ownsRow B e a v n xs:=by
 obtain⟨k,h⟩:=h;refine⟨k,?_⟩
 rcases h with h|⟨g,c,d,rfl,f,j,r⟩
 ·exact .inl h
 ·exact .inr ⟨g,c,d,rfl,f,(i g rfl).trans j,r⟩
theorem Zckl {w:World} {B e a:Nat} {v:Value} {n:Nat} {xs:List Value} (h:w.ownsRow B e a v n xs):w.ownsRow 0 e a v n xs:=Zbdt h (Nat.zero_le _)
theorem StrsW.keep {Av:Nat->Prop} {w w':World} {v:Value} {xs:List ByteArray} (h:StrsW Av w v xs) (a:Fr Av w w'):StrsW Av w' v xs:=⟨StrsO.keep h.1 a,Zckk h.2 λb e=>a.block b (h.1.1.2 b e).1 (h.1.1.2 b e).2⟩
theorem StrsO.mono {Av Av':Nat->Prop} {w:World} {v:Value} {xs:List ByteArray} (h:StrsO Av w v xs) (a:∀b,b<w.heap.size->Av' b->Av b):StrsO Av' w v xs:=⟨RowA.mono h.1 a,h.2⟩
theorem StrsW.mono {Av Av':Nat->Prop} {w:World} {v:Value} {xs:List ByteArray} (h:StrsW Av w v xs) (a:∀b,b<w.heap.size->Av' b->Av b):StrsW Av' w v xs:=⟨StrsO.mono h.1 a,h.2⟩
theorem Zbkf {w:World} {ty:TypeId} {v:Value} {xs:List ByteArray} (h:IsStrs w v xs) (G:xs.length<=1048576):
  ∃a n c w',(Builtin.append_ #[47,47] ty #[.slice none 0 0,v]).run prog w = .ok (.slice a n c) w'/\StrsW (λb=>b<w.heap.size) w' (.slice a n c) xs/\w.grownBy w' none:=by
 obtain⟨y,p,f,g,i⟩:=Zsv Zsy;obtain⟨a,c,rfl,C,B,e⟩:=h
 by_cases s:xs = []
 ·subst s
  cases a with
  | none=>
   refine⟨none,0,0,w,?_,⟨⟨Zbqd _ _,Zbcu _ _ _⟩,World.ownsRow_nil _ _ _ _⟩,⟨rfl,rfl,rfl,Nat.le_refl _,λ_ _ _=>rfl⟩⟩;simp[Builtin.append_,run_underlying underlying47,sizeOf,typeInfo,p,Builtin.lenOf,Builtin.firstCells]
  | some z=>
   obtain⟨E,w',r,d,m,_⟩:=run_append_own (P:=prog) w w.heap.size 47 ty 9 y (.string ByteArray.empty) 1 16 underlying47 p f g i rfl (by decide) (.slice none 0 0) 0 [] (World.ownsRow_nil _ _ _ _) z 0 c [] rfl (by simp) (by simp) (by unfold maxLen;omega) (by omega) (Nat.le_refl _);obtain⟨k,l,rfl,_⟩:=Zbea d;exact⟨k,_,l,w',r,⟨⟨Zbqf (xs:=[]) (by simpa using d),Zbcv d⟩,Zckl (by simpa using d)⟩,m⟩
 ·obtain⟨b,o,rfl,F,A⟩:=e s
  obtain⟨E,w',r,d,m,_⟩:=run_append_own (P:=prog) w w.heap.size 47 ty 9 y (.string ByteArray.empty) 1 16 underlying47 p f g i rfl (by decide) (.slice none 0 0) 0 [] (World.ownsRow_nil _ _ _ _) ⟨b,o,none⟩ xs.length c (xs.map Value.string) (by simp) (λj u t=>by
   rw[List.getElem?_map]at t;obtain⟨x,hx,rfl⟩:=Option.map_eq_some_iff.1 t;have:=A j x hx;simp only[Addr.add];split
   ·rename_i q;rw[q]at this;simpa using this
   ·exact this) (λu D=>by obtain⟨x,_,rfl⟩:=List.mem_map.1 D;rfl) (by unfold maxLen;omega) (by omega) (Nat.le_refl _)
  obtain⟨k,l,rfl,_⟩:=Zbea d;exact⟨k,_,l,w',r,⟨⟨Zbqf (by simpa using d),Zbcv d⟩,Zckl (by simpa using d)⟩,m⟩
theorem Zbod {d:Array Oper} {o:Oper} {a:Act} {w:World} {K:Act->World->Prop} {Q:Exit->Act->World->Prop} {E:Prop} (g:o.guard=none) (s x:Operand)
  (p:o.op = .call { callee:= .builtin .append,args:=#[s,x],argTypes:=#[47,47] }) {v:Value} {i:List ByteArray} (r:a.eval s = .slice none 0 0) (hx:a.eval x=v) (l:IsStrs w v i) (m:i.length<=1048576)
  (h:∀f n c e,StrsW (λb=>b<w.heap.size) e (.slice f n c) i->w.grownBy e none->K (a.put o.dst (.slice f n c)) e):
  if Region.wanted o (yielded d a.tmps)=true then Oper.wp prog o a w K Q else E:=by
 have t:Region.wanted o (yielded d a.tmps)=true:=by simp[Region.wanted,g]
 rw[if_pos t];obtain⟨f,n,c,e,q,j,k⟩:=Zbkf (ty:=o.type) l m;unfold Oper.wp execOp;simp only[p,resolve,invoke,builtin,Sem.run_bind,Sem.run_pure,Result.andThen_ok,List.map_toArray,List.map_cons,List.map_nil,r,hx,q];exact h f n c e j k
theorem Zfj {B:Nat} {w0 w w':World} (h:Below B w0 w) (b:w.grownBy w' none) (a:B<=w.heap.size):Below B w0 w':=h.grown b a (λk e=>by cases e)
def Zbsp (md:Region.Mode) (ops:Array Oper) (i:Nat):Nat->Nat->Bool
 | 0,_=>false
 | f+1,j=>match ops[j]? with
  | none=>false
  | some o=>o.after.any λe=>Region.binds md e&&(e.on==i||Zbsp md ops i f e.on)
def Zaj (md:Region.Mode) (ops:Array Oper) (L:Array Bool):Prop:=∀(j:Nat) (o:Oper),ops[j]? =some o->L.getD j false=true->∀e∈o.after,Region.binds md e=true->L.getD e.on false=true
def Zjk (md:Region.Mode) (ops:Array Oper) (L:Array Bool):Bool:=(List.range ops.size).all λj=> !L.getD j false||match ops[j]? with
 | some o=>o.after.all λe=> !Region.binds md e||L.getD e.on false
 | none=>true
section
variable {P:Program} {ops:Array Oper} {Q:Exit->Act->World->Prop} {md:Region.Mode} {S:Bool->World->Prop} {st:Nat}
theorem Zjl {L:Array Bool} (h:Zjk md ops L=true):Zaj md ops L:=by
 intro j o c b e f d;have a:j<ops.size:=by grind
 have:=List.all_eq_true.1 h j (List.mem_range.2 a);simp only[b,Bool.not_true,Bool.false_or,c,Array.all_eq_true_iff_forall_mem]at this
 grind
theorem Zqf {L:Array Bool} {i:Nat} (h:L.getD i true=false):L.getD i false=false:=by
 rw[Array.getD_eq_getD_getElem?]at h⊢
 cases a:L[i]? with
 | none=>rfl
 | some b=>grind
theorem Zjn {L:Array Bool} {i:Nat} (h:Zaj md ops L):∀(f j:Nat),Zbsp md ops i f j=true->L.getD j false=true->L.getD i false=true
 | 0,_,hw,_=>by simp[Zbsp]at hw
 | f+1,j,hw,hl=>by
  unfold Zbsp at hw
  cases b:ops[j]? with
  | none=>rw[b]at hw;cases hw
  | some o=>
   rw[b]at hw
   dsimp only at hw
   rw[<-Array.any_toList]at hw;obtain⟨e,a,g⟩:=List.any_eq_true.1 hw;simp only[Bool.and_eq_true,Bool.or_eq_true,beq_iff_eq]at g;have a:=Array.mem_toList_iff.1 a;obtain⟨d,c|c⟩:=g
   ·rw[<-c];exact h j o b hl e a d
   ·exact Zjn h f e.on c (h j o b hl e a d)
theorem Zjm {L:Array Bool} {i:Nat} (h:Zaj md ops L) (hi:i∈Region.ready md ops L):Zaj md ops (L.setIfInBounds i true):=by
 intro j o g c e f d;refine getD_set_true ?_;obtain⟨l,m,k,b⟩:=mem_ready.1 hi
 by_cases a:j=i
 ·grind
 ·rw[getD_set_ne false (Ne.symm a)]at c
  exact h j o g c e f d
def wpAnyS (P:Program) (md:Region.Mode) (ops:Array Oper) (Q:Exit->Act->World->Prop) (S:Bool->World->Prop) (st:Nat):Nat->Array Bool->Act->World->Prop
 | 0,listed,a,w=>Region.ready md ops listed = []/\Q .normal a w
 | fuel+1,listed,a,w=>
  (Region.ready md ops listed = []->Q .normal a w)/\
  ∀i∈Region.ready md ops listed,wpOp P ops Q i (λa' w'=>S ((listed.setIfInBounds i true).getD st false) w'/\wpAnyS P md ops Q S st fuel (listed.setIfInBounds i true) a' w') a w
theorem Zbua:∀(b:Nat) (c:Array Bool) (a:Act) (w:World),wpAnyS P md ops Q S st b c a w->wpAny P md ops Q b c a w
 | 0,_,_,_,h=>h
 | b+1,_,_,_,h=>⟨h.1,λi hi=>wpOp_mono (λa' w' d=>Zbua b _ a' w' d.2) (h.2 i hi)⟩
theorem wpAnyS_first {i:Nat} {oi:Oper} {v:Value} (hi:ops[i]? =some oi) (n:∀(j:Nat) (o:Oper) t b,ops[j]? =some o->o.op≠.select t b)
  (O:∀c a w,Q (.panic c) (a.put oi.dst v) w->Q (.panic c) a w) (p:i≠st) (f:Nat) (W:Zbsp md ops i f st=true):
  ∀(g:Nat) (d:Array Bool) (a:Act) (w:World),Zaj md ops d->
   (∀j r,ops[j]? =some r->j≠i->d.getD j true=false->(∀e∈r.after,Region.binds md e=true->e.on≠i)->oi.apart ops r=true)->
   i∈Region.ready md ops d->YieldsIf P ops (S false) oi v a->S false w->d.getD st false=false->
   wpAnyS P md ops Q S st g (d.setIfInBounds i true) (a.put oi.dst v) w->wpAnyS P md ops Q S st (g+1) d a w:=by
 intro g
 induction g with
 | zero=>
  intro d a w _ _ s C u D H;refine⟨λh=>(by rw[h]at s;cases s),λj x=>?_⟩
  by_cases l:j=i
  ·subst l;exact C.wpOp hi u ⟨by rw[getD_set_ne false p,D];exact u,H⟩
  ·have:=ready_mono x l
   rw[H.1]at this
   grind
 | succ g Y=>
  intro d a w E m s C u D H;refine⟨λh=>(by rw[h]at s;cases s),λj x=>?_⟩
  by_cases l:j=i
  ·subst l;exact C.wpOp hi u ⟨by rw[getD_set_ne false p,D];exact u,H⟩
  ·have M:=H.2 j (ready_mono x l)
   obtain⟨y,r,q,J⟩:=mem_ready.1 x;have z:∀e∈r.after,Region.binds md e=true->e.on≠i:=by grind [mem_ready]
   have X:=wpOp_putIf q (m j r q l y z) (λt b=>n i oi t b hi) (λt b=>n j r t b q) O C M;have B:∀k A,ops[k]? =some A->k≠i->(d.setIfInBounds j true).getD k true=false->
     (∀e∈A.after,Region.binds md e=true->e.on≠i)->oi.apart ops A=true:=λk A T F V G=>by
    refine m k A T F ?_ G
    by_cases R:j=k
    all_goals (simp_all)
   have K:=Zjm E x;have U:i∈Region.ready md ops (d.setIfInBounds j true):=ready_mono s (Ne.symm l);have I:(d.setIfInBounds j true).getD st false=false:=by grind [Zjn,Zqf,mem_ready]
   have L:((d.setIfInBounds i true).setIfInBounds j true).getD st false=false:=by
    rw[Array.setIfInBounds_comm _ _ (Ne.symm l),getD_set_ne false p];exact I
   grind [wpOp_mono,Array.setIfInBounds_comm]
theorem Zbtw {i:Nat} {oi:Oper} {v:Value} (hi:ops[i]? =some oi) (m:∀(j:Nat) (o:Oper) s b,ops[j]? =some o->o.op≠.select s b)
  (I:∀c a w,Q (.panic c) (a.put oi.dst v) w->Q (.panic c) a w) (n:i≠st):
  ∀(f:Nat) (d:Array Bool) (a:Act) (w:World),S (d.getD st false) w->
   (∀j q,ops[j]? =some q->j≠i->d.getD j true=false->(∀e∈q.after,Region.binds md e=true->e.on≠i)->oi.apart ops q=true)->
   i∈Region.ready md ops d->YieldsIf P ops (λw=>∃b,S b w) oi v a->
   wpAnyS P md ops Q S st f (d.setIfInBounds i true) (a.put oi.dst v) w->wpAnyS P md ops Q S st (f+1) d a w:=by
 intro f
 induction f with
 | zero=>
  intro d a w t _ r B H;refine⟨λh=>(by rw[h]at r;cases r),λj A=>?_⟩
  by_cases g:j=i
  ·subst g;exact B.wpOp hi ⟨_,t⟩ ⟨by rw[getD_set_ne false n];exact t,H⟩
  ·have:=ready_mono A g
   rw[H.1]at this
   grind
 | succ f R=>
  intro d a w t l r B H;refine⟨λh=>(by rw[h]at r;cases r),λj A=>?_⟩
  by_cases g:j=i
  ·subst g;exact B.wpOp hi ⟨_,t⟩ ⟨by rw[getD_set_ne false n];exact t,H⟩
  ·have G:=H.2 j (ready_mono A g)
   obtain⟨u,q,p,E⟩:=mem_ready.1 A;have x:∀e∈q.after,Region.binds md e=true->e.on≠i:=by grind [mem_ready]
   have O:=wpOp_putIf p (l j q p g u x) (λs b=>m i oi s b hi) (λs b=>m j q s b p) I B G;have z:∀k y,ops[k]? =some y->k≠i->(d.setIfInBounds j true).getD k true=false->
     (∀e∈y.after,Region.binds md e=true->e.on≠i)->oi.apart ops y=true:=λk y K C M D=>by
    refine l k y K C ?_ D
    by_cases J:j=k
    all_goals (simp_all)
   have L:i∈Region.ready md ops (d.setIfInBounds j true):=ready_mono r (Ne.symm g);have F:((d.setIfInBounds i true).setIfInBounds j true).getD st false=(d.setIfInBounds j true).getD st false:=by
    rw[Array.setIfInBounds_comm _ _ (Ne.symm g),getD_set_ne false n]
   grind [wpOp_mono,Array.setIfInBounds_comm]
theorem Zbty {i f:Nat} {oi:Oper} {v:Value} {d:Nat} {b:Array Bool} {a:Act} {w:World} (hi:ops[i]? =some oi)
  (p:Region.noSelect ops=true) (e:Zjk md ops b=true) (j:Zbsp md ops i f st=true) (g:(i==st)=false) (n:Region.free md ops b i=true) (o:(Region.ready md ops b).contains i=true)
  (l:∀c a w,Q (.panic c) (a.put oi.dst v) w->Q (.panic c) a w) (k:b.getD st false=false) (q:YieldsIf P ops (S false) oi v a) (m:S false w)
  (h:wpAnyS P md ops Q S st d (b.setIfInBounds i true) (a.put oi.dst v) w):wpAnyS P md ops Q S st (d+1) b a w:=
 wpAnyS_first hi (Region.noSelect_spec p) l (by simpa using g) f j d b a w (Zjl e) (Region.free_spec hi n) (by simpa using o) q m k h
theorem Zbtz {i:Nat} {oi:Oper} {v:Value} {e:Nat} {d:Array Bool} {a:Act} {w:World} (hi:ops[i]? =some oi)
  (n:Region.noSelect ops=true) (f:(i==st)=false) (l:Region.free md ops d i=true) (m:(Region.ready md ops d).contains i=true)
  (g:∀c a w,Q (.panic c) (a.put oi.dst v) w->Q (.panic c) a w) {b:Bool} (k:d.getD st false=b) (o:YieldsIf P ops (λw=>∃b,S b w) oi v a) (j:S b w)
  (h:wpAnyS P md ops Q S st e (d.setIfInBounds i true) (a.put oi.dst v) w):wpAnyS P md ops Q S st (e+1) d a w:=
 Zbtw hi (Region.noSelect_spec n) g (by simpa using f) e d a w (k▸j) (Region.free_spec hi l) (by simpa using m) o h
theorem Zbtu {b:Array Bool} {a:Act} {w:World} (d:Region.ready md ops b = []) (h:Q .normal a w):∀c,wpAnyS P md ops Q S st c b a w
 | 0=>⟨d,h⟩
 | _+1=>⟨λ_=>h,by rw[d];simp⟩
theorem Zbuk {d:Nat} {a:Act} {w:World} (c:P.follows .mixedOrders=true) (b:S false w.drew)
  (h:S false w.drew->wpAnyS P .any ops Q S st ops.size (Array.replicate ops.size false) a w.drew):(Code.region d ops true).wp P Q a w:=
 wp_region_any c (Zbua _ _ _ _ (h b))
def AllReadyS (P:Program) (md:Region.Mode) (ops:Array Oper) (Q:Exit->Act->World->Prop) (S:Bool->World->Prop) (st fuel:Nat) (listed:Array Bool) (a:Act) (w:World) (rs:List Nat):Prop:=
 ∀i∈rs,wpOp P ops Q i (λa' w'=>S ((listed.setIfInBounds i true).getD st false) w'/\wpAnyS P md ops Q S st fuel (listed.setIfInBounds i true) a' w') a w
theorem AllReadyS.nil {c:Nat} {b:Array Bool} {a:Act} {w:World}:AllReadyS P md ops Q S st c b a w []:=λ_ h=>by cases h
theorem AllReadyS.cons {d:Nat} {c:Array Bool} {a:Act} {w:World} {i:Nat} {o:Oper} {rs:List Nat} {b:Bool} (n:ops[i]? =some o) (m:(c.setIfInBounds i true).getD st false=b)
  (h:∀e:Act->World->Prop,Shut (∀a w,S b w->(S b w->wpAnyS P md ops Q S st d (c.setIfInBounds i true) a w)->e a w)->if Region.wanted o (yielded ops a.tmps)=true then Oper.wp P o a w e Q else e (a.put o.dst undef) w)
  (p:AllReadyS P md ops Q S st d c a w rs):AllReadyS P md ops Q S st d c a w (i::rs):=λj f=>by
 rcases List.mem_cons.1 f with rfl|f
 ·exact wpOp_step n (λe k=>h e (λa w g l=>k a w ⟨by rw[m];exact g,l g⟩))
 ·exact p j f
theorem Zbtx {rs:List Nat} {c:Nat} {b:Array Bool} {a:Act} {w:World} (e:Region.ready md ops b=rs) (d:rs≠[])
  (h:AllReadyS P md ops Q S st c b a w rs):wpAnyS P md ops Q S st (c+1) b a w:=
 ⟨λf=>absurd (e▸f) d,e▸h⟩
end
theorem Zid (w:World) (a:Addr):w.drew.cell? a=w.cell? a:=rfl
theorem Zqb (w:World) (a:Addr):w.drew.frozen? a=w.frozen? a:=rfl
def cutS (y:StepS):StepS:={ y with args:=y.args.take 8,lits:=y.lits.take 3 }
def cutQ (x:RuleS):RuleS:={ x with ins:=x.ins.take 10,outs:=x.outs.take 6,after:=x.after.take 10,steps:=x.steps.take 14 }
def cutR (x:RuleS):RuleS:={ cutQ x with steps:=(x.steps.take 14).map cutS }
theorem take_len (n m:Nat) (k:Int) (a:k=(m:Int)):(min (n:Int) k).toNat=min m n:=by omega
theorem Zuf {w:World} {a:Option Addr} {xs:List ByteArray} {c:Nat} (h:IsStrs w (.slice a xs.length c) xs) (m:Nat):IsStrs w (.slice a (min m xs.length) c) (xs.take m):=by
 obtain⟨j,k,q,l,e,f⟩:=h;injection q with g s i
 subst g i;refine⟨a,c,by rw[List.length_take],by rw[List.length_take];omega,e,λd=>?_⟩;obtain⟨b,o,n,p,r⟩:=f (by rintro rfl;simp at d)
 grind
theorem Zbow {w:World} {a:Option Addr} {xs:List StepS} {n c:Nat} (h:StepsI w (.slice a n c) xs) (m:Nat):StepsI w (.slice a (min m n) c) (xs.take m):=by
 obtain⟨e,⟨v,x,q,z,k,l⟩,d⟩:=h;injection q with s t u
 subst s u;refine⟨e.take m,⟨a,c,by rw[List.length_take,t],by rw[List.length_take];omega,k,λf=>?_⟩,⟨by rw[List.length_take,List.length_take,d.1],λj r y g i=>?_⟩⟩
 ·obtain⟨b,o,A,B,C⟩:=l (by rintro rfl;simp at f)
  grind
 ·rw[List.getElem?_take]at g i
  split at g
  ·rename_i p
   rw[if_pos p]at i;exact d.2 j r y g i
  ·grind
theorem Zbqi {Av:Nat->Prop} {w:World} {a:Option Addr} {n:Nat} {xs:List ByteArray} {c:Nat} (h:StrsA Av w (.slice a n c) xs) (m:Nat):StrsA Av w (.slice a (min m n) c) (xs.take m):=by
 obtain⟨⟨s,t,q,g,i,j⟩,k⟩:=h;injection q with p f r
 subst p r;rw[Zbpo]at g f;refine⟨⟨a,c,by rw[Zbpo,List.length_take,f],by rw[Zbpo,List.length_take];omega,i,λd=>?_⟩,λb e=>k b (by rcases a with _|⟨_,_,_|_⟩<;>exact e)⟩;obtain⟨b,o,u,l,v⟩:=j (by rintro e;apply d;cases xs with
  | nil=>grind
  | cons x xs=>simp[Zbpk]at e)
 grind [Zbpk]
theorem Zbqg {Av:Nat->Prop} {w:World} {v:Value} {xs:List ByteArray} {p:Addr} {u0:Value} (h:StrsA Av w v xs) (z:w.cell? p=some u0) (A:∀s,u0≠.string s) (u:Value):StrsA Av (w.setCell p u) v xs:=by
 obtain⟨⟨a,c,rfl,l,m,n⟩,k⟩:=h;refine⟨⟨a,c,rfl,l,m,λg=>?_⟩,λb e=>⟨by simp[World.setCell];exact(k b e).1,(k b e).2⟩⟩;obtain⟨b,o,q,f,t⟩:=n g;refine⟨b,o,q,by simp[World.setCell];exact f,λj r d i x hx=>?_⟩;have y:=t j r d i x hx;rw[World.cell?_setCell_other]
 ·omega
 ·intro e
  unfold Zbpk at d;rw[List.getElem?_map]at d;obtain⟨s,_,rfl⟩:=Option.map_eq_some_iff.1 d
  match i,hx with
  | 0,hx=>grind
theorem Zbok {Av:Nat->Prop} {w:World} {b o n c k:Nat} {xs:List StepS} {y:StepS} {t z:Option Addr} {c1 d1:Nat} (h:StepsA Av w (.slice (some ⟨b,o,none⟩) n c) xs) (W:xs[k]? =some y)
  (X:w.cell? ⟨b,o+k*5+2,none⟩=some (.slice t y.args.length c1)) (z3:w.cell? ⟨b,o+k*5+3,none⟩=some (.slice z y.lits.length d1)) (p C:Nat):
  StepsA Av ((w.setCell ⟨b,o+k*5+2,none⟩ (.slice t (min p y.args.length) c1)).setCell ⟨b,o+k*5+3,none⟩ (.slice z (min C y.lits.length) d1)) (.slice (some ⟨b,o,none⟩) n c) (xs.set k { y with args:=y.args.take p,lits:=y.lits.take C }):=by
 obtain⟨d,⟨⟨Y,c',q,F,G,R⟩,M⟩,a⟩:=h;injection q with I J K
 subst I K;have O:k<xs.length:=by grind
 have l:k<d.length:=by rw[a.1];exact O
 obtain⟨D,E,er,S,U⟩:=a.2 k d[k] y (List.getElem?_eq_getElem l) W;obtain⟨Z,o',Q,H,T⟩:=R (by rintro e;rw[e]at l;simp at l)
 cases Q
 have B:d[k]? =some [.string y.out,.int .i64 y.op,D,E,.int .i64 y.n]:=by grind
 obtain rfl:D = .slice t y.args.length c1:=by
  simp_all
 obtain rfl:E = .slice z y.lits.length d1:=by
  simp_all
 have P:∀r∈d,r.length=5:=a.len λr x h=>h.len
 have L:(w.setCell ⟨b,o+k*5+2,none⟩ (.slice t (min p y.args.length) c1)).cell? ⟨b,o+k*5+3,none⟩=some (.slice z y.lits.length d1):=by
  grind [World.cell?_setCell_other]
 have f:∀ {v:Value} {zs:List ByteArray},StrsA Av w v zs->StrsA Av ((w.setCell ⟨b,o+k*5+2,none⟩ (.slice t (min p y.args.length) c1)).setCell ⟨b,o+k*5+3,none⟩ (.slice z (min C y.lits.length) d1)) v zs:=
  λh=>Zbqg (Zbqg h X (by intro s e;cases e) _) L (by intro s e;cases e) _
 refine⟨d.set k [.string y.out,.int .i64 y.op,.slice t (min p y.args.length) c1,.slice z (min C y.lits.length) d1,.int .i64 y.n],⟨⟨_,c,by rw[List.length_set,J],by rw[List.length_set];exact F,G,λV=>⟨b,o,rfl,by simp[World.setCell];exact H,λj r g i u m=>?_⟩⟩,λb e=>⟨by simp[World.setCell];exact(M b e).1,(M b e).2⟩⟩,⟨by rw[List.length_set,List.length_set,a.1],λj r x g hx=>?_⟩⟩
 ·by_cases A:j=k
  ·subst A
   rw[List.getElem?_set_self l]at g;injection g with g
   subst g
   match i,m with
   | 0,m=>simp at m;subst m;rw[World.cell?_setCell_other _ _ _ _ (by simp),World.cell?_setCell_other _ _ _ _ (by simp)];exact T j _ B 0 _ rfl
   | 1,m=>simp_all[World.cell?_setCell_other]
   | 2,m=>grind [World.cell?_setCell_other,World.cell?_setCell_same]
   | 3,m=>grind [World.cell?_setCell_same]
   | 4,m=>simp_all[World.cell?_setCell_other]
  ·rw[List.getElem?_set_ne (Ne.symm A)]at g
   have hi:i<5:=by
    grind
   simp_all[World.cell?_setCell_other]
 ·by_cases A:j=k
  ·subst A
   rw[List.getElem?_set_self l]at g;rw[List.getElem?_set_self O]at hx;injection g with g;injection hx with hx
   subst g hx;exact⟨_,_,rfl,Zbqi (f S) p,Zbqi (f U) C⟩
  ·rw[List.getElem?_set_ne (Ne.symm A)]at g hx
   obtain⟨D,E,rfl,F,G⟩:=a.2 j r x g hx;exact⟨D,E,rfl,f F,f G⟩
theorem Zbog {Av:Nat->Prop} {w:World} {v:Value} {xs:List StepS} (h:StepsA Av w v xs):∀b,v.ownBlock=some b->b<w.heap.size/\¬Av b:=by
 obtain⟨a,⟨_,c⟩,_⟩:=h;exact c
theorem Zbpz {Av:Nat->Prop} {w:World} {v:Value} {xs:List ByteArray} (h:StrsA Av w v xs):∃a c,v = .slice a xs.length c/\xs.length<=c/\c<=maxLen:=by
 obtain⟨⟨a,c,rfl,b,d,_⟩,_⟩:=h;rw[Zbpo]at b⊢
 grind
theorem Zbof {Av:Nat->Prop} {w:World} {v:Option Addr} {n t:Nat} {xs:List StepS} (h:StepsA Av w (.slice v n t) xs) {k:Nat} {y:StepS} (I:xs[k]? =some y):
  ∃b o l g m i,v=some ⟨b,o,none⟩/\n=xs.length/\¬Av b/\b<w.heap.size/\y.args.length<=g/\g<=maxLen/\y.lits.length<=i/\i<=maxLen/\n<=t/\t<=maxLen/\
   w.cell? ⟨b,o+k*5+2,none⟩=some (.slice l y.args.length g)/\w.cell? ⟨b,o+k*5+3,none⟩=some (.slice m y.lits.length i):=by
 obtain⟨c,⟨⟨L,M,q,P,C,D⟩,F⟩,a⟩:=h;injection q with p r s
 subst p s;have G:k<xs.length:=by grind
 have f:k<c.length:=by rw[a.1];exact G
 obtain⟨J,K,O,E,H⟩:=a.2 k c[k] y (List.getElem?_eq_getElem f) I;obtain⟨b,o,rfl,j,u⟩:=D (by rintro e;rw[e]at f;simp at f);have d:c[k]? =some [.string y.out,.int .i64 y.op,J,K,.int .i64 y.n]:=by grind
 obtain⟨l,g,rfl,x,z⟩:=Zbpz E;obtain⟨m,i,rfl,A,B⟩:=Zbpz H;exact⟨b,o,l,g,m,i,rfl,by rw[r,a.1],(F b rfl).2,j,x,z,A,B,by omega,C,u k _ d 2 _ rfl,u k _ d 3 _ rfl⟩
def mixS (k:Nat) (ys:List StepS):List StepS:=(ys.take k).map cutS++ys.drop k
theorem Zze {k:Nat} (ys:List StepS) (h:ys.length<=k):mixS k ys=ys.map cutS:=by
 grind [List.take_of_length_le,List.drop_eq_nil_of_le,mixS]
theorem Zzf {k:Nat} {ys:List StepS} {y:StepS} (h:ys[k]? =some y):(mixS k ys)[k]? =some y:=by
 grind [mixS]
theorem Zzg {k:Nat} {ys:List StepS} {y:StepS} (h:ys[k]? =some y):(mixS k ys).set k (cutS y)=mixS (k+1) ys:=by
 have a:=(List.getElem?_eq_some_iff.1 h).1;unfold mixS;have b:((ys.take k).map cutS).length=k:=by grind
 simp_all[List.set_append_right,Nat.sub_self,List.drop_eq_getElem_cons,List.set_cons_zero,List.take_succ_eq_append_getElem,List.map_append]
