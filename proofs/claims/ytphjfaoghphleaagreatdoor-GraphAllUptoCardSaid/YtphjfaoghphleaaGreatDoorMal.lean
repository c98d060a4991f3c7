import Derived.Test.YtphjfaoghphleaaGreatDoorMak
import Derived.Lib.ItoaLen
import Derived.Deep.CutBlock
set_option maxRecDepth 100000
set_option maxHeartbeats 4000000
namespace Go.Proofs.YtphjfaoghphleaaGreatDoor
open Go.Lib (hid)
open Go.Proofs.Tryz Go.RowKit Go.Shelf
def Zau (xs:List ByteArray) (s:ByteArray) (r:Int):Prop:=(r = -1/\∀k:Nat,xs[k]? ≠some s)\/∃k:Nat,r=(k:Int)/\xs[k]? =some s/\∀j<k,xs[j]? ≠some s
def Zat (xs:List ByteArray) (s:ByteArray) (e:Ending):Prop:=∃r:Int,e = .returned (.int .i64 r)/\Zau xs s r/\-1<=r/\r<(xs.length:Int)
theorem Zoh {xs:List ByteArray} {s:ByteArray} {k:Nat} (h:xs[k]? =some s) (a:∀j<k,xs[j]? ≠some s):Zat xs s (.returned (.int .i64 (k:Int))):=
 ⟨k,rfl,.inr ⟨k,rfl,h,a⟩,by omega,by have:=(List.getElem?_eq_some_iff.1 h).1;omega⟩
theorem Zog {xs:List ByteArray} {s:ByteArray} {k:Nat} (b:xs.length<=k) (a:∀j<k,xs[j]? ≠some s):Zat xs s (.returned (.int .i64 (-1))):=
 ⟨-1,rfl,.inl ⟨rfl,λj e=>a j (by have:=(List.getElem?_eq_some_iff.1 e).1;omega) e⟩,by omega,by omega⟩
theorem Zgx {x s:ByteArray} (h:(x.toList==s.toList)=true):x=s:=by
 rw[ByteArray.toList_eq,ByteArray.toList_eq]at h;have:=eq_of_beq h;exact ByteArray.ext (Array.toList_inj.1 this)
theorem Zgz {x s:ByteArray} (h:(x.toList==s.toList)=false):x≠s:=by
 rintro rfl;simp at h
theorem Zua {w:World} {v:Value} {xs:List ByteArray} (h:IsStrs w v xs):∃a c,v = .slice a xs.length c/\xs.length<=c/\c<=maxLen/\∀(k:Nat) x,xs[k]? =some x->∃b o,a=some ⟨b,o,none⟩/\∀w',Below w.heap.size w w'->w'.cell? ⟨b,o+k,none⟩=some (.string x):=by
 obtain⟨a,c,rfl,g,f,d⟩:=h;refine⟨a,c,rfl,g,f,λk x hx=>?_⟩;obtain⟨b,o,e,i,j⟩:=d (by rintro rfl;simp at hx);exact⟨b,o,e,λw' l=>(l.cell (p:=⟨b,o+k,none⟩) i).trans (j k x hx)⟩
theorem Zhd (v:Value) (xs:List ByteArray) (s:ByteArray) (w:World) (h:IsStrs w v xs):
  Calls prog 64 #[v,.string s] w λe w'=>Zat xs s e/\w=w':=by
 obtain⟨B,D,rfl,_,y,b⟩:=Zua h;have n:xs.length<=maxLen:=by omega
 unfold maxLen at n;have f:=hid b;clear b h
 go_enter func64,ntmps64
 go_wp2
 go_loopw [5] (λi wr=>∃k:Nat,k<=xs.length/\i = .int .i64 k/\(∀j<k,xs[j]? ≠some s)/\w=wr)
  (λi _=>xs.length-(intOf i).toNat)
 case atStart=>exact⟨0,Nat.zero_le _,rfl,λj t=>absurd t (by omega),rfl⟩
 case round=>
  obtain⟨k,F,rfl,d,rfl⟩:=hrel;have l:=hid (Below.refl w.heap.size w);have a:=hid d;clear d
  by_cases o:k<xs.length
  ·obtain⟨x,hx⟩:∃x,xs[k]? =some x:=⟨xs[k],List.getElem?_eq_getElem o⟩
   obtain⟨C,G,A,c⟩:=f.out k x hx;subst A;have r:=hid hx;have E:=c _ l.out;have m:(k:Int)<(xs.length:Int):=by omega
   have u:(0:Int)<=(k:Int):=by omega
   obtain⟨q,z⟩:∃q,(x.toList==s.toList)=q:=⟨_,rfl⟩;have p:=hid z;clear c hx
   cases q
   ·go_wp2
    all_goals go_roundw
    case rel=>exact⟨k+1,by omega,by go_num,λj t=>by
     rcases Nat.lt_or_ge j k with h|h
     ·exact a.out j h
     ·obtain rfl:j=k:=by omega
      rw[r.out];exact λe=>Zgz p.out (Option.some.inj e),trivial⟩
    case measure=>simp[intOf];omega
   ·go_wp2
    go_ret;exact⟨Zoh (by rw[r.out,Zgx p.out]) a.out,rfl⟩
  ·have m:¬(k:Int)<(xs.length:Int):=by omega
   have g:=hid (show xs.length<=k by omega);go_wp2;go_ret;exact⟨Zog g.out a.out,rfl⟩
def Zon (s:ByteArray):List ByteArray->Nat->Int
 | [],_=> -1
 | y::r,k=>if y.toList==s.toList then(k:Int)else Zon s r (k+1)
def Zoi (xs:List ByteArray) (s:ByteArray):Int:=Zon s xs 0
theorem Zoo (s:ByteArray):∀(xs:List ByteArray) (k:Nat),(Zon s xs k = -1/\∀j:Nat,xs[j]? ≠some s)\/∃j:Nat,Zon s xs k=((k+j:Nat):Int)/\xs[j]? =some s/\∀i<j,xs[i]? ≠some s
 | [],k=> .inl ⟨rfl,λj=>by simp⟩
 | y::r,k=>by
  unfold Zon
  by_cases h:(y.toList==s.toList)=true
  ·rw[if_pos h]
   exact .inr ⟨0,rfl,by rw[Zgx h];rfl,λi hi=>absurd hi (by omega)⟩
  ·rw[if_neg h]
   have a:y≠s:=Zgz (by simpa using h)
   rcases Zoo s r (k+1)with⟨b,c⟩|⟨j,b,c,d⟩
   ·refine .inl ⟨b,λj=>?_⟩
    cases j with
    | zero=>intro e;exact a (by simpa using e)
    | succ j=>simpa using c j
   ·refine .inr ⟨j+1,by rw[b];congr 1;omega,by simpa using c,λi hi=>?_⟩
    cases i with
    | zero=>intro e;exact a (by simpa using e)
    | succ i=>simpa using d i (by omega)
theorem Zom (xs:List ByteArray) (s:ByteArray):Zau xs s (Zoi xs s):=by
 rcases Zoo s xs 0 with h|⟨j,a,b,c⟩
 ·exact .inl h
 ·exact .inr ⟨j,by unfold Zoi;rw[a];congr 1;omega,b,c⟩
theorem Zop {xs:List ByteArray} {s:ByteArray} {r t:Int} (h:Zau xs s r) (c:Zau xs s t):r=t:=by
 rcases h with⟨rfl,a⟩|⟨k,rfl,a,d⟩<;>rcases c with⟨rfl,b⟩|⟨j,rfl,b,e⟩
 ·rfl
 ·exact absurd b (a j)
 ·exact absurd a (b k)
 ·rcases Nat.lt_trichotomy k j with h|h|h
  ·exact absurd a (e k h)
  ·rw[h]
  ·exact absurd b (d j h)
theorem Zcdz (xs:List ByteArray) (s:ByteArray): -1<=Zoi xs s/\Zoi xs s<(xs.length:Int):=by
 rcases Zom xs s with⟨h,_⟩|⟨k,h,a,_⟩
 ·omega
 ·have:=(List.getElem?_eq_some_iff.1 a).1
  omega
theorem Zhe (v:Value) (xs:List ByteArray) (s:ByteArray) (w:World) (h:IsStrs w v xs):
  Calls prog 64 #[v,.string s] w λe w'=>e = .returned (.int .i64 (Zoi xs s))/\w'=w:=by
 refine(Zhd v xs s w h).mono ?_;rintro e w' ⟨⟨r,rfl,a,_⟩,rfl⟩;exact⟨by rw[Zop a (Zom xs s)],rfl⟩
theorem Zor {xs:List ByteArray} {s:ByteArray} {r:Int} (h:Zau xs s r) (h0:0<=r):s∈xs:=by
 rcases h with⟨rfl,_⟩|⟨k,_,h,_⟩
 ·omega
 ·exact List.mem_of_getElem? h
theorem Zos {xs:List ByteArray} {s:ByteArray} {r:Int} (h:Zau xs s r) (h0:r<0):s∉xs:=by
 rcases h with⟨_,h⟩|⟨k,h,_⟩
 ·intro b
  obtain⟨i,a⟩:=List.getElem?_of_mem b;exact h i a
 ·omega
theorem Zbkb {P:Program} (w:World) (base:Nat) (t ty e:TypeId) (i:TypeInfo) (z:Value) (a bytes:Nat) (A:P.underlying t=some (.slice e)) (B:P.info? e=some i) (H:i.zero=some z) (C:i.size=a) (I:i.bytes=bytes) (J:z.cells.size=a) (K:0<a)
  (v:Value) (n:Nat) (xs:List Value) (h:w.ownsRow base e a v n xs)
  (q:Addr) (m c:Nat) (d:List Value) (E:d.length=m*a) (D:∀j u,d[j]? =some u->w.cell? (q.add j)=some u) (r:∀u∈d,u.oneCell'=true)
  (F:n+m<=maxLen) (G:(n+m)*bytes<=140737488355328) (f:base<=w.heap.size):
  ∃v' w',(Builtin.append_ #[t,t] ty #[v,.slice (some q) m c]).run P w = .ok v' w'/\w'.ownsRow base e a v' (n+m) (xs++d)/\w.grownBy w' v.ownBlock/\∀b,v'.ownBlock=some b->v.ownBlock=some b\/w.heap.size<=b:=by
 obtain⟨L,⟨rfl,O⟩|⟨g,o,M,rfl,S,T,V,Q,R,W⟩⟩:=id h
 ·subst O
  obtain rfl:xs = []:=List.eq_nil_of_length_eq_zero (by simpa using L);obtain⟨v',w',y,p,l,_⟩:=run_append_own (P:=P) w w.heap.size t ty e i z a bytes A B H C I J K (.slice none 0 0) 0 [] (World.ownsRow_nil w _ e a) q m c d E D r F G (Nat.le_refl _);exact⟨v',w',y,Zbdt p f,l,λb s=> .inr (p.lt b s).1⟩
 ·by_cases x:n+m<=o
  ·obtain⟨w',y,p,l⟩:=run_append_fits (P:=P) w base t ty e i a A B C g n o xs h q m c d E D r x
   exact⟨_,w',y,p,l,λb s=> .inl s⟩
  ·obtain⟨v',w',y,p,l⟩:=run_append_arg_grows (P:=P) w t ty e i z a bytes A B H C I J K ⟨g,0,none⟩ n o xs L (h.cells rfl) q m c d E D (by omega) F G
   exact⟨v',w',y,Zbdt p f,⟨l.os,l.tape,l.output,l.size,λk U _=>l.block k U (by simp)⟩,λb s=> .inr (p.lt b s).1⟩
def Zly (size k:Nat) (a:Option Addr) (n c:Nat):Value:= .slice (if c=k then a else a.map (·.add (k*size))) (n-k) (c-k)
theorem IsRow.take {w:World} {a:Option Addr} {n c k:Nat} {d:List (List Value)} (h:IsRow w (.slice a n c) k d) {m:Nat} (v:m<=n):IsRow w (.slice a m c) k (d.take m):=by
 obtain⟨l,p,q,r,f,g⟩:=h;injection q with i x j
 subst i j;refine⟨a,c,by rw[List.length_take];congr 1;omega,by rw[List.length_take];omega,f,λe=>?_⟩;obtain⟨b,o,s,t,u⟩:=g (by rintro rfl;simp at e)
 grind
theorem IsRow.drop {w:World} {a:Option Addr} {n c k:Nat} {d:List (List Value)} (h:IsRow w (.slice a n c) k d) {m:Nat} (C:m<=n):IsRow w (Zly k m a n c) k (d.drop m):=by
 obtain⟨x,y,q,z,A,f⟩:=h;injection q with s t v
 subst s v;refine⟨_,c-m,by unfold Zly;rw[List.length_drop,t],by rw[List.length_drop];omega,by omega,λp=>?_⟩;have e:m<d.length:=by
  grind
 obtain⟨b,o,g,l,B⟩:=f (by rintro rfl;simp at e);subst g;refine⟨b,o+m*k,by rw[if_neg (by omega),Option.map_some,Addr.add_lit],l,λj r D i u F=>?_⟩
 grind
theorem Zbii {w:World} {b o c n k:Nat} {d:List (List Value)} (h:IsRow w (.slice (some ⟨b,o,none⟩) n c) k d) (B:∀r∈d,r.length=k) (h0:0<k):∀j u,d.flatten[j]? =some u->w.cell? ((⟨b,o,none⟩:Addr).add j)=some u:=by
 intro j u i;obtain⟨t,x,q,l,y,g⟩:=h;injection q with H s I
 have p:d.flatten.length=d.length*k:=by
  clear i l g s
  induction d with
  | nil=>simp
  | cons r d F=>grind
 have f:=(List.getElem?_eq_some_iff.1 i).1;rw[p]at f;have m:j/k<d.length:=(Nat.div_lt_iff_lt_mul h0).2 f;have C:j % k<k:=Nat.mod_lt _ h0;obtain⟨v,G,e,z,A⟩:=g (by rintro rfl;simp at m);have D:d[j/k]? =some d[j/k]:=by grind
 grind [List.getElem_mem,List.getElem?_eq_getElem,Zpf,Nat.mul_comm,Nat.div_add_mod,Addr.add_lit]
theorem Zdkl {ρ:Operand->Value} {o:Oper} {t e:TypeId} {x l:Operand} {a:Option Addr} {n c k:Nat} {i:TypeInfo} {b:Nat} {w:World} (h:o.op = .slice t x (some l) none none) (j:prog.underlying t=some (.slice e)) (hi:prog.info? e=some i) (d:i.size=b)
  (hx:ρ x = .slice a n c) (g:ρ l = .int .i64 (k:Int)) (m:k<=n):(execOp ρ o).run prog w = .ok (.value (Zly b k a n c)) w:=by
 subst d;have f:(k:Int)<=(n:Int):=by omega
 unfold execOp Zly;simp only[h,hx,g,Option.map_some,Option.map_none];simp[Instr.sliceAt,Instr.slice,run_underlying j,sizeOf,typeInfo,hi,Instr.sliceBounds,go_sem,f]
section
variable {w:World} {ops:Array Oper} {o:Oper} {a:Act} {K:Act->World->Prop} {Q:Exit->Act->World->Prop} {E:Prop}
theorem run_append_nothing {P:Program} (t ty e:TypeId) (i:TypeInfo) (f:P.underlying t=some (.slice e)) (hi:P.info? e=some i) (b:Option Addr) (n cap c:Nat) (d:n<=cap):
  (Builtin.append_ #[t,t] ty #[.slice b n cap,.slice none 0 c]).run P w = .ok (.slice b n cap) w:=by
 cases b with
 | none=>simp[Builtin.append_,run_underlying f,sizeOf,typeInfo,hi,Builtin.lenOf,Builtin.firstCells,d]
 | some b=>simp[Builtin.append_,run_underlying f,sizeOf,typeInfo,hi,Builtin.lenOf,Builtin.firstCells,d,storeCells]
theorem Zbke {P:Program} (t ty e:TypeId) (i:TypeInfo) (z:Value) (size bytes:Nat) (q:P.underlying t=some (.slice e)) (s:P.info? e=some i) (F:i.zero=some z) (G:i.size=size) (H:i.bytes=bytes) (I:z.cells.size=size) (x:0<size)
  {B:Nat} {v L:Value} {d c:List (List Value)} (f:w.ownsRow B e size v d.length d.flatten) (g:IsRow w L size c) (j:∀r∈c,r.length=size) (h:∀r∈c,∀u∈r,u.oneCell'=true)
  (l:d.length+c.length<=maxLen) (m:(d.length+c.length)*bytes<=140737488355328) (J:B<=w.heap.size):
  ∃v' w',(Builtin.append_ #[t,t] ty #[v,L]).run P w = .ok v' w'/\w'.ownsRow B e size v' (d++c).length (d++c).flatten/\w.grownBy w' v.ownBlock/\(∀b,v'.ownBlock=some b->v.ownBlock=some b\/w.heap.size<=b):=by
 obtain⟨M,n,rfl,T,X,D⟩:=id g;rw[List.length_append,List.flatten_append];have y:c.flatten.length=c.length*size:=by
  clear g T D l m h
  induction c with
  | nil=>simp
  | cons r d Y=>grind
 cases M with
 | none=>
  have A:c = []:=by
   grind
  subst A;obtain⟨R,S,rfl,_,V,_⟩:=Zbea f;refine⟨_,w,run_append_nothing t ty e i q s R d.length S n V,by simpa using f,⟨rfl,rfl,rfl,Nat.le_refl _,λ_ _ _=>rfl⟩,λb U=> .inl U⟩
 | some O=>
  by_cases k:c = []
  ·subst k
   exact Zbkb w B t ty e i z size bytes q s F G H I x v d.length d.flatten f O 0 n [] (by simp) (by simp) (by simp) (by simpa using l) (by simpa using m) J
  ·obtain⟨b,o,p,_,_⟩:=D k
   injection p with p
   subst p;exact Zbkb w B t ty e i z size bytes q s F G H I x v d.length d.flatten f ⟨b,o,none⟩ c.length n c.flatten y (Zbii g j x) (λu C=>by
    obtain⟨r,W,C⟩:=List.mem_flatten.1 C;exact h r W u C) l m J
theorem Zboc (y:o.guard=none) (s x:Operand) (t:TypeId) (R:o.op = .call { callee:= .builtin .append,args:=#[s,x],argTypes:=#[t,t] })
  (e:TypeId) (i:TypeInfo) (z:Value) (d g:Nat) (F:prog.underlying t=some (.slice e)) (G:prog.info? e=some i) (H:i.zero=some z) (I:i.size=d) (J:i.bytes=g) (L:z.cells.size=d) (M:0<d)
  (B:Nat) (v A:Value) (f c:List (List Value)) (T:a.eval s=v) (hx:a.eval x=A) (l:w.ownsRow B e d v f.length f.flatten) (m:IsRow w A d c) (j:∀r∈c,r.length=d) (k:∀r∈c,∀u∈r,u.oneCell'=true)
  (C:f.length+c.length<=1000000000) (D:g<=1000) (O:B<=w.heap.size)
  (h:∀n p,p.ownsRow B e d n (f++c).length (f++c).flatten->w.grownBy p v.ownBlock->(∀b,n.ownBlock=some b->v.ownBlock=some b\/w.heap.size<=b)->K (a.put o.dst n) p):
  if Region.wanted o (yielded ops a.tmps)=true then Oper.wp prog o a w K Q else E:=by
 have U:Region.wanted o (yielded ops a.tmps)=true:=by simp[Region.wanted,y]
 rw[if_pos U];have q:(f.length+c.length)*g<=140737488355328:=Nat.le_trans (Nat.mul_le_mul C D) (by decide);obtain⟨n,p,S,V,W,X⟩:=Zbke (P:=prog) t o.type e i z d g F G H I J L M l m j k (by unfold maxLen;omega) q O;unfold Oper.wp execOp;simp only[R,resolve,invoke,builtin,Sem.run_bind,Sem.run_pure,Result.andThen_ok,List.map_toArray,List.map_cons,List.map_nil,T,hx,S];exact h n p V W X
end
theorem Zbpp (xs:List ByteArray):∀r∈Zbpk xs,∀u∈r,u.oneCell'=true:=by
 intro r c u b;obtain⟨x,_,rfl⟩:=List.mem_map.1 c;simp at b;subst b;rfl
theorem Zbpl (xs ys:List ByteArray):Zbpk xs++Zbpk ys=Zbpk (xs++ys):=by unfold Zbpk;rw[List.map_append]
theorem Zty {w:World} {g k:Nat} {r:List Value} (c:g<w.heap.size) (d:∀(i:Nat) u,r[i]? =some u->w.cell? ⟨g,i,none⟩=some u):IsRow w (.slice (some ⟨g,0,none⟩) 1 1) k [r]:=
 ⟨_,1,rfl,by simp,by unfold maxLen;omega,λ_=>⟨g,0,rfl,c,λj f b i u e=>by
  match j,b with
  | 0,b=>
   simp at b;subst b;have:=d i u e;simpa using this⟩⟩
theorem Zbdl {B:Nat} {w:World} {v:Value} {xs:List ByteArray}:OwnStrs B w v xs↔w.ownsRow B 9 1 v (Zbpk xs).length (Zbpk xs).flatten:=by
 unfold OwnStrs;rw[Zbpo,Zbpm]
theorem Zbob {w:World} {ops:Array Oper} {o:Oper} {a:Act} {K:Act->World->Prop} {Q:Exit->Act->World->Prop} {E:Prop} (i:o.guard=none) (s x:Operand) (z:o.op = .call { callee:= .builtin .append,args:=#[s,x],argTypes:=#[47,47] })
  (B:Nat) (v m:Value) (g c:List ByteArray) (A:a.eval s=v) (hx:a.eval x=m) (d:OwnStrs B w v g) (u:IsRow w m 1 (Zbpk c)) (p:g.length+c.length<=1000000000) (t:B<=w.heap.size)
  (h:∀e f,OwnStrs B f e (g++c)->w.grownBy f v.ownBlock->(∀b,e.ownBlock=some b->v.ownBlock=some b\/w.heap.size<=b)->K (a.put o.dst e) f):
  if Region.wanted o (yielded ops a.tmps)=true then Oper.wp prog o a w K Q else E:=by
 obtain⟨C,y,j,k,l⟩:=Zsv Zsy;refine Zboc i s x 47 z 9 C (.string ByteArray.empty) 1 16 underlying47 y j k l rfl (by decide) B v m (Zbpk g) (Zbpk c) A hx (Zbdl.1 d) u (Zbpn c) (Zbpp c) (by rw[Zbpo,Zbpo];exact p) (by decide) t ?_;intro e f n q r;rw[Zbpl]at n;exact h e f (Zbdl.2 n) q r
theorem Zbdk (B:Nat) (w:World):OwnStrs B w (.slice none 0 0) []:=World.ownsRow_nil _ _ _ _
theorem OwnStrs.strsA {B:Nat} {w:World} {v:Value} {xs:List ByteArray} (h:OwnStrs B w v xs):StrsA (λb=>b<B) w v xs:=Zbqf h
theorem OwnStrs.below {B:Nat} {w w':World} {v:Value} {xs:List ByteArray} (h:OwnStrs B w v xs) (b:Below w.heap.size w w'):OwnStrs B w' v xs:=World.ownsRow.kept (row:=none) h ⟨b.os,b.tape,b.output,b.size,λk c _=>b.block k c⟩ (by cases Value.ownBlock _<;>simp)
theorem Zfl {B:Nat} {w0 w w':World} {v:Value} (h:Below B w0 w) (c:w.grownBy w' v.ownBlock) (b:B<=w.heap.size) (d:∀k,v.ownBlock=some k->B<=k):Below B w0 w':=h.grown c b d
theorem Zfy {w:World} {g:Nat} {o:Obj} (h:w.heap[g]? =some o):g<w.heap.size:=by
 grind
theorem Zbik {w:World} {g:Nat} {x:ByteArray} {t:TypeId} (h:w.heap[g]? =some (.cells #[.string x] t)):IsRow w (.slice (some ⟨g,0,none⟩) 1 1) 1 (Zbpk [x]):=by
 have c:g<w.heap.size:=by
  grind
 refine Zty (r:=[.string x]) c λi u b=>?_
 match i,b with
 | 0,b=>grind [World.cell?]
theorem Zdlm {α:Type} (p:α->Bool):∀l:List α,(l.takeWhile p).length<=l.length
 | []=>Nat.le_refl _
 | a::l=>by
  rw[List.takeWhile_cons];split
  ·have:=Zdlm p l;simp only[List.length_cons];omega
  ·simp
theorem Zdln {α:Type} (p:α->Bool):∀(l:List α) (k:Nat) (y:α),k<=(l.takeWhile p).length->l[k]? =some y->p y=true->k+1<=(l.takeWhile p).length
 | [],k,y,_,h,_=>by simp at h
 | a::l,0,y,_,h,hp=>by
  simp at h;subst h;rw[List.takeWhile_cons,if_pos hp];simp
 | a::l,k+1,y,hk,h,hp=>by
  rw[List.takeWhile_cons]at hk⊢;split
  ·rename_i b
   rw[if_pos b]at hk;have:=Zdln p l k y (by simpa using hk) (by simpa using h) hp;simp only[List.length_cons];omega
  ·rename_i b
   rw[if_neg b]at hk;simp at hk
theorem Zdlo {α:Type} (p:α->Bool):∀(l:List α) (k:Nat) (y:α),k<=(l.takeWhile p).length->l[k]? =some y->p y=false->(l.takeWhile p).length=k
 | [],k,y,_,h,_=>by simp at h
 | a::l,0,y,_,h,hp=>by
  simp at h;subst h;rw[List.takeWhile_cons,if_neg (by rw[hp];decide)];rfl
 | a::l,k+1,y,hk,h,hp=>by
  rw[List.takeWhile_cons]at hk⊢;split
  ·rename_i b
   rw[if_pos b]at hk;have:=Zdlo p l k y (by simpa using hk) (by simpa using h) hp;simp only[List.length_cons];omega
  ·rename_i b
   rw[if_neg b]at hk;simp at hk
theorem Zbkw (c:UInt8) (w:World):
  Calls prog 166 #[.int .u8 c.toNat] w λe w'=>e = .returned (.bool (Zbce c))/\w=w':=by
 have a:c.toNat<256:=c.toNat_lt
 go_enter func166,ntmps166
 go_wp2
 all_goals go_ret
 all_goals exact⟨Zbho (by rw[Bool.eq_iff_iff];simp[Zbce];omega),rfl⟩
theorem Zlk (d:UInt8) (t:List UInt8):cutAt d (t ++ [d])=cutAt d t ++ [[]]:=by
 rw[Zkw];rfl
theorem Zln (d c:UInt8) (h:c≠d):∀t:List UInt8,∃pre b,cutAt d t=pre ++ [b]/\cutAt d (t ++ [c])=pre ++ [b ++ [c]]
 | []=>⟨[],[],rfl,by simp[cutAt,h]⟩
 | a::r=>by
  obtain⟨pre,b,f,g⟩:=Zln d c h r
  by_cases e:a=d
  ·refine⟨[]::pre,b,?_,?_⟩
   ·rw[cutAt,if_pos e,f];rfl
   ·rw[List.cons_append,cutAt,if_pos e,g];rfl
  ·cases pre with
   | nil=>
    refine⟨[],a::b,?_,?_⟩
    ·rw[cutAt,if_neg e,f];rfl
    ·rw[List.cons_append,cutAt,if_neg e,g];rfl
   | cons p i=>
    refine⟨(a::p)::i,b,?_,?_⟩
    ·rw[cutAt,if_neg e,f];rfl
    ·rw[List.cons_append,cutAt,if_neg e,g];rfl
theorem Zbec {w:World} {B g c:Nat} {pre:List ByteArray} {x y:ByteArray}
  (h:w.ownsRow B 9 1 (.slice (some ⟨g,0,none⟩) (pre.length+1) c) (pre.length+1) ((pre ++ [x]).map Value.string)):
  (w.setCell ⟨g,pre.length,none⟩ (.string y)).ownsRow B 9 1 (.slice (some ⟨g,0,none⟩) (pre.length+1) c) (pre.length+1) ((pre ++ [y]).map Value.string):=by
 obtain⟨n,⟨j,_⟩|⟨m,l,a,j,e,k,f,b,d,i⟩⟩:=h
 ·cases j
 ·cases j
  rw[setCell_eq_setRow w g pre.length a _ (0,0) _ k];refine⟨by simp,.inr ⟨g,c,a.setIfInBounds pre.length (.string y),rfl,e,setRow_heap w g _ _ _ _ k,f,b,by simpa using d,?_⟩⟩;rw[Array.toList_setIfInBounds,List.take_set,i];simp
def Zbq (w:World) (ls:List (List UInt8)) (e:Ending) (w':World):Prop:=
 ∃xs:List ByteArray,∃v,e = .returned v/\IsStrs w' v xs/\xs.map (·.data.toList)=ls/\Below w.heap.size w w'
def PartsAt (L:List UInt8) (k:Nat) (xs:List ByteArray):Prop:=xs.map (·.data.toList)=cutAt 47 (L.take k)
theorem PartsAt.hit {L:List UInt8} {k:Nat} {xs:List ByteArray} (h:PartsAt L k xs) (b:k<L.length) (a:L[k]=47):PartsAt L (k+1) (xs ++ [(⟨#[]⟩:ByteArray)]):=by
 unfold PartsAt at h⊢;rw[List.take_succ_eq_append_getElem b,a,Zlk,<-h];simp
theorem PartsAt.miss {L:List UInt8} {k:Nat} {xs:List ByteArray} (h:PartsAt L k xs) (g:k<L.length) (f:L[k]≠47):
  ∃pre x,xs=pre ++ [x]/\∀y:ByteArray,y.data.toList=x.data.toList ++ [L[k]]->PartsAt L (k+1) (pre ++ [y]):=by
 obtain⟨p,l,c,d⟩:=Zln 47 L[k] f (L.take k);unfold PartsAt at h;rw[c]at h;have a:xs≠[]:=by rintro rfl;simp at h
 refine⟨xs.dropLast,xs.getLast a,(List.dropLast_concat_getLast a).symm,λy i=>?_⟩;rw[<-List.dropLast_concat_getLast a,List.map_append]at h;obtain⟨e,b⟩:=List.append_inj' h rfl;unfold PartsAt;rw[List.take_succ_eq_append_getElem g,d,List.map_append,e]
 congr 1
 simp only[List.map_cons,List.map_nil,List.cons.injEq,and_true]at b⊢;rw[i,b]
theorem Zbew (s:ByteArray) (w:World) (hs:s.size<=1000):
  Calls prog 165 #[.string s] w (Zbq w (cutAt 47 s.data.toList)):=by
 obtain⟨i0,hi,a2,a3,a4⟩:=info_parts Zsy;obtain⟨L,hL⟩:∃L,s.data.toList=L:=⟨_,rfl⟩;have ag:s.size=L.length:=by rw[<-hL];exact Lib.size_eq s
 rw[hL];have HL:=hid hL;have Y:=hid ag;have E:(w.alloc (.cells #[.string ⟨#[]⟩] 9)).ownsRow w.heap.size 9 1 (.slice (some ⟨w.heap.size,0,none⟩) 1 1) 1 (([⟨#[]⟩]:List ByteArray).map Value.string):=
  ⟨by simp,.inr ⟨w.heap.size,1,#[.string ⟨#[]⟩],rfl,Nat.le_refl _,heap_alloc_new w _,Nat.le_refl _,by simp[maxLen],rfl,rfl⟩⟩
 have p:=hid E;have X:Hid (PartsAt L 0 [⟨#[]⟩]):=by show PartsAt _ _ _;simp[PartsAt,cutAt]
 clear hL ag E
 go_enter func165,ntmps165
 go_wp2
 go_loopw [3,4] (λv i wr=>∃(k g c:Nat) (l:List ByteArray),k<=s.size/\i = .int .i64 k/\v = .slice (some ⟨g,0,none⟩) l.length c/\l.length<=k+1/\1<=l.length/\c<=maxLen/\l.length<=c/\
   wr.ownsRow w.heap.size 9 1 (.slice (some ⟨g,0,none⟩) l.length c) l.length (l.map Value.string)/\PartsAt L k l/\(∀x∈l,x.size<=k)/\Below w.heap.size w wr)
  (λ_ i _=>s.size-(intOf i).toNat)
 case atStart=>exact⟨0,w.heap.size,1,[⟨#[]⟩],Nat.zero_le _,rfl,rfl,by simp,by simp,by simp[maxLen],by simp,p.out,X.out,(by intro x hx;simp at hx;subst hx;decide),(Below.refl _ _).alloc (Nat.le_refl _) _⟩
 case round=>
  obtain⟨k,g,c,l,hk,rfl,rfl,a1,az,S,a0,K,aa,ai,V⟩:=hrel;have o:=hid K;have O:=hid aa;have R:=hid ai;have Q:=hid V;have ay:=V.size;unfold maxLen at S;clear K aa ai V p X
  by_cases aw:k<s.size
  ·have B:k<L.length:=by rw[<-Y.out];exact aw
   have I:L[k]=s[k]:=by
    have:=HL.out;subst this;rfl
   have H:=hid I;clear I
   by_cases ao:(s[k].toNat:Int)=47
   ·have J:s[k].toNat=47:=by omega
    have f:L[k]=47:=by rw[H.out];exact UInt8.toNat_inj.1 (by rw[J];rfl)
    have HN:=hid (O.out.hit B f);clear f J;have n:=o.out
    go_wp2_with (at_builtin;refine wpList_append_own _ rfl _ _ 47 rfl w.heap.size 9 i0 (.string ByteArray.empty) 1 16 underlying47 hi a2 a3 a4 rfl (by decide) _ _ _ rfl (n.alloc _) ⟨wr.heap.size,0,none⟩ 1 1 [.string ⟨#[]⟩] rfl rfl ?c1 ?c2 ?c3 ?c4 ?c5 ?_)
    case c1=>
     intro j u hj
     match j,hj with
     | 0,hj=>simp at hj;subst hj;simp[Addr.add]
    case c2=>intro u hu;simp at hu;subst hu;rfl
    case c3=>unfold maxLen;omega
    case c4=>omega
    case c5=>simp;omega
    intro v' w3 a A _;have D:Below w.heap.size w w3:=(Q.out.alloc ay _).grown A (by simp;omega) (λg hg=>(n.lt g hg).1);obtain⟨a',c',G,ar,ab,ac⟩:=Zbea a;obtain⟨g',rfl⟩:=ar (by omega);subst G;have HO:Hid (w3.ownsRow w.heap.size 9 1 (.slice (some ⟨g',0,none⟩) (l ++ [(⟨#[]⟩:ByteArray)]).length c') (l ++ [(⟨#[]⟩:ByteArray)]).length ((l ++ [(⟨#[]⟩:ByteArray)]).map Value.string)):=by
     show w3.ownsRow _ _ _ _ _ _;simpa using a
    clear A n a;go_wp2;go_roundw
    case rel=>exact⟨k+1,g',c',l ++ [(⟨#[]⟩:ByteArray)],by omega,by go_num,by simp,by simp;omega,by simp,ac,by simpa using ab,HO.out,HN.out,(by
     intro x hx
     rcases List.mem_append.1 hx with h|h
     ·have:=R.out x h;omega
     ·simp at h;subst h;simp[ByteArray.size]),D⟩
    case measure=>simp[intOf];omega
   ·have f:L[k]≠47:=by rw[H.out];intro e;exact ao (by rw[e];rfl)
    obtain⟨b,x,rfl,C⟩:=O.out.miss B f;have P:=hid C;have a5:=R.out x (by simp);obtain⟨m,hm⟩:∃m,b.length=m:=⟨_,rfl⟩;have ae:(b ++ [x]).length=m+1:=by simp[hm]
    have d:wr.ownsRow w.heap.size 9 1 (.slice (some ⟨g,0,none⟩) (b.length+1) c) (b.length+1) ((b ++ [x]).map Value.string):=by simpa using o.out
    have al:=hid d;have r:wr.cell? ⟨g,m,none⟩=some (.string x):=by
     obtain⟨_,⟨G,_⟩|⟨g',an,Z,G,T,U,ax,S,ap,ah⟩⟩:=d
     ·cases G
     ·cases G
      have:(Z.toList.take ((b.length+1)*1))[m]? =some (.string x):=by rw[ah];simp[<-hm]
      rw[List.getElem?_take]at this;split at this
      ·simp only[World.cell?,U];simpa using this
      ·cases this
    have aq:wr.frozen? ⟨g,m,none⟩=false:=by
     obtain⟨_,⟨G,_⟩|⟨g',an,Z,G,T,U,ax,S,ap,ah⟩⟩:=d
     ·cases G
     ·cases G;simp[World.frozen?,U]
    have T:w.heap.size<=g:=(d.lt g rfl).1;have HM:=hid hm;rw[ae]at a1 az a0⊢;have a8:(0:Int)<=(m:Int):=by omega
    have a9:(m:Int)<((m+1:Nat):Int):=by omega
    have a6:(0:Int)<=(k:Int):=by omega
    have a7:(k:Int)+1<=(s.size:Int):=by omega
    have av:IntKind.i64.wrap ((k:Int)+1)=(k:Int)+1:=IntWalk.i64_in _ (by omega);have ad:(Op.stringOp .add x (s.extract k (k+1))).run prog wr.drew = .ok (.string (x++s.extract k (k+1))) wr.drew:=run_string_add_sum _ _ _ (by rw[ByteArray.size_extract];omega);clear C hm ae d f
    go_wp2_with fail
    go_region
    have aj:=hid r;clear ad av r aq;have hy:(x++s.extract k (k+1)).data.toList=x.data.toList ++ [L[k]]:=by
     rw[ByteArray.data_append,Array.toList_append,Lib.extract_eq,HL.out]
     congr 1
     rw[List.drop_eq_getElem_cons B,show k+1-k=1 by omega];rfl
    have q:=P.out _ hy;have M:(x++s.extract k (k+1)).size<=k+1:=by rw[ByteArray.size_append,ByteArray.size_extract];omega
    obtain⟨y,W⟩:∃y,x++s.extract k (k+1)=y:=⟨_,rfl⟩;rw[W]at q M;have a:((wr.setCell ⟨g,m,none⟩ (.string y)).drew).ownsRow w.heap.size 9 1 (.slice (some ⟨g,0,none⟩) (b ++ [y]).length c) (b ++ [y]).length ((b ++ [y]).map Value.string):=by
     have h:=Zbec (y:=y) al.out;rw[HM.out]at h;have e:(b ++ [y]).length=m+1:=by simp[HM.out]
     rw[e];exact h.drew
    have HO:=hid a;have HA:=hid q;have D:Below w.heap.size w (wr.setCell ⟨g,m,none⟩ (.string y)).drew:=(Q.out.setCell T _).drew;have am:=hid W;have af:(b ++ [y]).length=m+1:=by simp[HM.out]
    have F:=hid af;clear hy q W a af;rw[am.out];go_wp2;go_roundw
    case rel=>exact⟨k+1,g,c,b ++ [y],by omega,by go_num,by rw[F.out],by rw[F.out];omega,by rw[F.out];omega,by unfold maxLen;omega,by rw[F.out];omega,HO.out,HA.out,(by
     intro z hz
     rcases List.mem_append.1 hz with h|h
     ·have:=R.out z (by simp[h]);omega
     ·simp at h;subst h;exact M),D⟩
    case measure=>simp[intOf];omega
  ·have au:k=s.size:=by omega
   have t:l.map (·.data.toList)=cutAt 47 L:=by have:=O.out;unfold PartsAt at this;rw[List.take_of_length_le (by have:=Y.out;omega)]at this;exact this
   have ak:=hid t;have HI:=hid (Zbqq o.out);clear t au;go_wp2;go_ret;exact⟨l,_,rfl,HI.out,ak.out,Q.out⟩
theorem Zbcg:Zbcf []=false:=by decide +kernel
theorem Zyw (s:ByteArray) (w:World) (hs:s.size<=maxLen):
  Calls prog 119 #[.string s] w λe w'=>e = .returned (.bool (Zbcf s.data.toList))/\Below w.heap.size w w':=by
 unfold maxLen at hs;obtain⟨r,Z⟩:∃r,r=Zbcf s.data.toList:=⟨_,rfl⟩;rw[<-Z];have C:=hid Z;clear Z;have m:=hid (Lib.size_eq s)
 by_cases h1:s.size<1
 ·have Q:r=false:=by
   rw[C.out,List.eq_nil_of_length_eq_zero (show s.data.toList.length=0 by rw[<-m.out];omega),Zbcg]
  subst Q
  go_enter func119,ntmps119
  go_wp2;go_ret;exact⟨rfl,Below.refl _ _⟩
 ·by_cases ac:40<s.size
  ·have Q:r=false:=by rw[C.out,Zbcf,decide_eq_false (by rw[<-m.out];omega)];rfl
   subst Q
   go_enter func119,ntmps119
   go_wp2;go_ret;exact⟨rfl,Below.refl _ _⟩
  ·by_cases b:isCl s.data.toList=true
   ·have Q:r=false:=by rw[C.out,Zbcf,b];simp
    subst Q;have O:s.toList = [114,117,108,101]\/s.toList = [105,110]\/s.toList = [111,117,116]\/s.toList = [97,102,116,101,114]:=by
     rw[<-Lib.toList_data]at b;simp[isCl]at b
     rcases b with((h|h)|h)|h
     ·exact .inl h
     ·exact .inr (.inl h)
     ·exact .inr (.inr (.inl h))
     ·exact .inr (.inr (.inr h))
    clear b C
    rcases O with h|h|h|h
    all_goals
     go_enter func119,ntmps119
     go_wp2;go_ret;exact⟨rfl,Below.refl _ _⟩
   ·have hn:(s.toList == [114,117,108,101])=false/\(s.toList == [105,110])=false/\(s.toList == [111,117,116])=false/\(s.toList == [97,102,116,101,114])=false:=by
     rw[<-Lib.toList_data]at b;simp[isCl]at b;obtain⟨⟨⟨a1,a2⟩,a3⟩,a4⟩:=b;exact⟨by simpa using a1,by simpa using a2,by simpa using a3,by simpa using a4⟩
    obtain⟨n1,n2,n3,n4⟩:=hn;have M:isCl s.data.toList=false:=by simpa using b
    have cP:=Zbew s w (by omega);have G:Hid (∀a:List ByteArray,a.map (·.data.toList)=cutAt 47 s.data.toList->r=a.all λx=>Zbch x.data.toList):=by
     show ∀a:List ByteArray,_;intro a hx;rw[C.out,Zbcf,M,<-hx,Zdf,decide_eq_true (by rw[<-m.out];omega)];rfl
    have H:Hid (∀a:List ByteArray,a.map (·.data.toList)=cutAt 47 s.data.toList->a.length<=41/\∀(k:Nat) x,a[k]? =some x->x.size<=40):=by
     show ∀a:List ByteArray,_;intro a hx;have h1:=congrArg List.length hx;rw[List.length_map]at h1;have h2:=Zkz 47 s.data.toList;rw[<-m.out]at h2;refine⟨by omega,λk x hk=>?_⟩;have h3:x.data.toList∈cutAt 47 s.data.toList:=by rw[<-hx];exact List.mem_map_of_mem (List.mem_of_getElem? hk)
     have h4:=Zky 47 s.data.toList _ h3;rw[<-m.out]at h4;rw[Lib.size_eq x];omega
    have CP:=hid cP;clear b M C cP
    go_enter func119,ntmps119
    go_wp2_with fail
    refine CP.out.mono ?_;rintro e w1 ⟨a,v,rfl,hI,hx,K⟩;obtain⟨ad,cp,rfl,af,ag,P⟩:=hI;have W:=hid P;have J:=G.out a hx;obtain⟨ab,V⟩:=H.out a hx;have d:=hid J;have I:=hid V;have y:=hid K;clear P hx J V K G H n1 n2 n3 n4 CP
    go_wp2_with fail
    go_loop [4] (λi=>∃k:Nat,k<=a.length/\i = .int .i64 k/\((a.take k).all λx=>Zbch x.data.toList)=true) (λi=>a.length-(intOf i).toNat)
    case atStart=>exact⟨0,by omega,rfl,by simp⟩
    case round=>
     obtain⟨k,hk,rfl,p⟩:=hrel;have o:=hid p;clear p
     by_cases T:k<a.length
     ·obtain⟨x,hx⟩:∃x,a[k]? =some x:=⟨a[k],List.getElem?_eq_getElem T⟩
      obtain⟨bb,bo,rfl,ae,L⟩:=W.out (by rintro rfl;simp at T);have ah:=L k x hx;have ak:=I.out k x hx;have HA:=hid (Zdg a (λx=>Zbch x.data.toList) k x hx);have HB:=hid (Zdd a (λx=>Zbch x.data.toList) k x hx);have ai:(0:Int)<=(k:Int):=by omega
      have aj:(k:Int)<(a.length:Int):=by omega
      clear L hx
      by_cases c:x.toList = []\/x.toList = [46]\/x.toList = [46,46]
      ·have q:Zbch x.data.toList=false:=by
        rw[<-Lib.toList_data]
        rcases c with h|h|h<;>simp[Zbch,h]
       have A:r=false:=by rw[d.out,HB.out q]
       subst A;clear q
       rcases c with h|h|h
       all_goals
        go_wp2;go_ret;exact⟨rfl,y.out⟩
      ·have e1:x.toList.isEmpty=false:=by rw[Bool.eq_false_iff];intro h;exact c (.inl (by simpa using h))
       have e2:(x.toList == [46])=false:=by rw[Bool.eq_false_iff];intro h;exact c (.inr (.inl (by simpa using h)))
       have e3:(x.toList == [46,46])=false:=by rw[Bool.eq_false_iff];intro h;exact c (.inr (.inr (by simpa using h)))
       have e0:¬x.toList = []:=λh=>c (.inl h)
       have F:=hid (Zbci (l:=x.data.toList) (by rw[<-Lib.toList_data];exact c));have aa:=hid (Lib.size_eq x);clear c
       go_wp2_with fail
       go_loop [5] (λi=>∃j:Nat,j<=x.size/\i = .int .i64 j/\(x.data.toList.take j).all Zbce=true) (λi=>x.size-(intOf i).toNat)
       case atStart=>exact⟨0,by omega,rfl,by simp⟩
       case round=>
        obtain⟨j,hj,rfl,R⟩:=hrel;have D:=hid R;clear R
        by_cases S:j<x.size
        ·have f:j<x.data.toList.length:=by rw[<-Lib.size_eq];exact S
         have B:=hid (Zbra x.data.toList Zbce j f);have n:=hid (Zde x.data.toList Zbce j f);have t:=hid (show x[j]=x.data.toList[j]from rfl);obtain⟨ok,z⟩:∃ok,Zbce x[j]=ok:=⟨_,rfl⟩;have Y:=λw=>Zbkw x[j] w
         simp only[z]at Y;have E:=hid z;have CS:=hid Y;clear z Y
         go_wp2_with fail
         refine(CS.out _).mono ?_;rintro e w2 ⟨rfl,rfl⟩
         cases ok
         ·have A:r=false:=by rw[d.out,HB.out (by rw[F.out];exact n.out (by rw[<-t.out];exact E.out))]
          subst A;go_wp2;go_ret;exact⟨rfl,y.out⟩
         ·go_wp2
          go_round
          case rel=>exact⟨j+1,by omega,by go_num,by rw[B.out,D.out,<-t.out,E.out];rfl⟩
          case measure=>simp[intOf];omega
        ·have g:Zbch x.data.toList=true:=by
          have h:=D.out;rw[List.take_of_length_le (by rw[<-aa.out];omega)]at h;rw[F.out,h]
         have u:=hid g;clear g;go_wp2
         go_round
         case rel=>exact⟨k+1,by omega,by go_num,by rw[HA.out,o.out,u.out];rfl⟩
         case measure=>simp[intOf];omega
     ·have U:r=true:=by rw[d.out];have:=o.out;rw[List.take_of_length_le (by omega)]at this;exact this
      have X:=hid U;clear U;go_wp2;go_ret;exact⟨Zbho (by rw[X.out]),y.out⟩
theorem Zbdx {w:World} {g B:Nat} {x:ByteArray} (h:w.heap[g]? =some (.cells #[.string x] 9)) (a:B<=g):OwnStrs B w (.slice (some ⟨g,0,none⟩) 1 1) [x]:=
 ⟨rfl,.inr ⟨g,1,#[.string x],rfl,a,h,Nat.le_refl _,by decide,rfl,rfl⟩⟩
theorem Zud {w:World} {v:Value} {xs:List ByteArray} (h:IsStrs w v xs):IsRow w v 1 (Zbpk xs):=by
 obtain⟨a,c,rfl,k,l,m⟩:=h;refine⟨a,c,by rw[Zbpo],by rw[Zbpo];exact k,l,λf=>?_⟩;obtain⟨b,o,e,n,p⟩:=m (by rintro rfl;exact f rfl);refine⟨b,o,e,n,λj r g i u d=>?_⟩;unfold Zbpk at g;rw[List.getElem?_map]at g;obtain⟨y,q,rfl⟩:=Option.map_eq_some_iff.1 g
 match i,d with
 | 0,d=>
  simp at d;subst d;have:=p j y q;simpa using this
theorem Zbpc {w:World} {v:Value} {xs:List StepS} (h:StepsI w v xs):∃a c,v = .slice a xs.length c/\xs.length<=c/\c<=maxLen/\∀(k:Nat) y,xs[k]? =some y->∃b o j l m q,a=some ⟨b,o,none⟩/\Zcc w [.string y.out,.int .i64 y.op,.slice j y.args.length l,.slice m y.lits.length q,.int .i64 y.n] y/\IsStrs w (.slice j y.args.length l) y.args/\∀w',Below w.heap.size w w'->
  w'.cell? ⟨b,o+k*5,none⟩=some (.string y.out)/\w'.cell? ⟨b,o+k*5+1,none⟩=some (.int .i64 y.op)/\w'.cell? ⟨b,o+k*5+2,none⟩=some (.slice j y.args.length l)/\w'.cell? ⟨b,o+k*5+3,none⟩=some (.slice m y.lits.length q)/\w'.cell? ⟨b,o+k*5+4,none⟩=some (.int .i64 y.n):=by
 obtain⟨g,⟨a,c,rfl,z,A,B⟩,d⟩:=h;refine⟨a,c,by rw[d.1],by rw[<-d.1];exact z,A,λk y x=>?_⟩;have s:k<g.length:=by rw[d.1];exact(List.getElem?_eq_some_iff.1 x).1
 have r:=d.2 k _ y (List.getElem?_eq_getElem s) x;obtain⟨b,o,rfl,C,D⟩:=B (by rintro rfl;simp at s);obtain⟨J,K,e,t,E⟩:=id r;obtain⟨j,l,H⟩:=Zue t;obtain⟨m,q,I⟩:=Zue E;subst H I;rw[e]at r;refine⟨b,o,j,l,m,q,rfl,r,t,λw' G=>?_⟩;have f:∀(i:Nat) u,g[k][i]? =some u->w'.cell? ⟨b,o+k*5+i,none⟩=some u:=λi u F=>(G.cell (p:=⟨b,o+k*5+i,none⟩) C).trans (D k _ (List.getElem?_eq_getElem s) i u F)
 rw[e]at f;exact⟨f 0 _ rfl,f 1 _ rfl,f 2 _ rfl,f 3 _ rfl,f 4 _ rfl⟩
def nmsS (ys:List StepS):List ByteArray:=(ys.map λy=>y.out::y.args).flatten
def nmsR (x:RuleS) (k:Nat):List ByteArray:=[x.name]++x.ins++x.outs++x.after++nmsS (x.steps.take k)
theorem Zbbh:∀ys:List StepS,(∀y∈ys,y.args.length<=8)->(nmsS ys).length<=9*ys.length
 | [],_=>by simp[nmsS]
 | y::ys,h=>by
  have a:=Zbbh ys λz b=>h z (by simp[b])
  have c:=h y (by simp);simp only[nmsS,List.map_cons,List.flatten_cons,List.length_append,List.length_cons]at a⊢;omega
theorem Zbbg (x:RuleS):nmsR x 0 = [x.name]++x.ins++x.outs++x.after:=by simp[nmsR,nmsS]
theorem Zbbe {x:RuleS} {k:Nat} {y:StepS} (h:x.steps[k]? =some y):nmsR x (k+1)=nmsR x k ++ [y.out]++y.args:=by
 unfold nmsR nmsS;rw[List.take_add_one,h];simp
theorem Zbbd {x:RuleS} (h:ShortR x) (k:Nat):(nmsR x k).length<=200:=by
 have a:=Zbbh (x.steps.take k) λy b=>(h.each y (List.mem_of_mem_take b)).1
 have c:=h.ins;have d:=h.outs;have e:=h.after;have f:=h.steps;rw[List.length_take]at a;unfold nmsR;simp only[List.length_append,List.length_cons,List.length_nil];omega
theorem Zbbf {x:RuleS} (h:SmallR x 1048576) (k:Nat):∀y∈nmsR x k,y.size<=1048576:=by
 intro y a;unfold nmsR nmsS at a;simp only[List.mem_append,List.mem_cons,List.not_mem_nil,or_false,List.mem_flatten,List.mem_map]at a
 rcases a with(((rfl|a)|a)|a)|⟨l,⟨z,b,rfl⟩,a⟩
 ·exact h.name
 ·exact h.ins.2 y a
 ·exact h.outs.2 y a
 ·exact h.after.2 y a
 ·have b:=h.steps z (List.mem_of_mem_take b)
  rcases List.mem_cons.1 a with rfl|a
  ·exact b.out
  ·exact b.args.2 y a
theorem Zih {w:World} {b:Nat} {x y:Value} {T:TypeId} (h:w.heap[b]? =some (.cells #[x,y] T)):
  w.cell? ⟨b,0,none⟩=some x/\w.cell? ⟨b,1,none⟩=some y/\w.frozen? ⟨b,0,none⟩=false/\w.frozen? ⟨b,1,none⟩=false:=by
 simp[World.cell?,World.frozen?,h]
theorem GP.up {p b:Nat} {w:World} (h:GP p w) (a:p<=b):GP b w:=⟨h.glob,h.ops,Nat.lt_of_lt_of_le h.l1 a,Nat.lt_of_lt_of_le h.l2 a,Nat.lt_of_lt_of_le h.l3 a,Nat.lt_of_lt_of_le h.l4 a,Nat.lt_of_lt_of_le h.l5 a,h.gx⟩
theorem flat5 {a:List (List Value)} (h:∀r∈a,r.length=5):a.flatten.length=a.length*5:=by
 induction a with
 | nil=>rfl
 | cons r e c=>
  rw[List.flatten_cons,List.length_append,c λd b=>h d (List.mem_cons_of_mem _ b),h r (List.mem_cons_self ..),List.length_cons];omega
theorem Zbxo {Av:Nat->Prop} {w:World} {r:List Value} {x:RuleS} (h:RuleA Av w r x):∀u∈r,u.oneCell'=true:=by
 obtain⟨B,C,A,D,rfl,b,c,d,e⟩:=h;obtain⟨k,t,o,f⟩:=Zbig b;obtain⟨l,v,p,g⟩:=Zbig c;obtain⟨m,y,q,i⟩:=Zbig d;obtain⟨n,z,s,j⟩:=Zbol e;subst f g i j;intro u a;simp only[List.mem_cons,List.not_mem_nil,or_false]at a
 rcases a with rfl|rfl|rfl|rfl|rfl<;>rfl
theorem Zczn {a:List (List Value)} (h:∀r∈a,r.length=5) {j:Nat} {u:Value} (b:a.flatten[j]? =some u):∃r,a[j/5]? =some r/\r[j % 5]? =some u:=by
 induction a generalizing j with
 | nil=>simp at b
 | cons r m l=>
  have k:=h r (List.mem_cons_self ..);rw[List.flatten_cons]at b
  rcases Nat.lt_or_ge j 5 with c|i
  ·rw[List.getElem?_append_left (by omega)]at b
   exact⟨r,by rw[Nat.div_eq_of_lt c];rfl,by rw[Nat.mod_eq_of_lt c];exact b⟩
  ·rw[List.getElem?_append_right (by omega),k]at b
   obtain⟨e,f,g⟩:=l (λe d=>h e (List.mem_cons_of_mem _ d)) b;refine⟨e,?_,?_⟩
   ·rw[show j/5=(j-5)/5+1 by omega,List.getElem?_cons_succ];exact f
   ·rw[show j % 5=(j-5) % 5 by omega];exact g
theorem Zbxu {w:World} {ty:TypeId} {Av:Nat->Prop} {B:Nat} {v0 v:Value} {n:Nat} {xs:List Value} {ys:List RuleS} (i:w.ownsRow B 50 5 v0 n xs) (h:RulesA Av w v ys) (L:B<=w.heap.size) (X:n+ys.length<=1000000):
  ∃d v' w',(Builtin.append_ #[22,22] ty #[v0,v]).run prog w = .ok v' w'/\w'.ownsRow B 50 5 v' (n+ys.length) (xs++d.flatten)/\w.grownBy w' v0.ownBlock/\d.length=ys.length/\AllA (RuleA Av w) d ys:=by
 obtain⟨O,C,t,y,z⟩:=Zsv Zsw;obtain⟨d,q,e⟩:=h;obtain⟨⟨a,c,rfl,V,U,k⟩,_⟩:=q;have K:=e.len λr x h=>h.len
 have f:=e.1
 by_cases M:d = []
 ·subst M
  have J:ys = []:=by simpa using f.symm
  subst J
  cases a with
  | none=>
   refine⟨[],v0,w,?_,by simpa using i,?_,rfl,e⟩
   ·rcases i.2 with⟨rfl,rfl⟩|⟨g,R,S,rfl,_,_,I,_⟩
    ·simp[Builtin.append_,run_underlying underlying22,sizeOf,typeInfo,C,Builtin.lenOf,Builtin.firstCells]
    ·simp[Builtin.append_,run_underlying underlying22,sizeOf,typeInfo,C,Builtin.lenOf,Builtin.firstCells,I,storeCells]
   ·exact⟨rfl,rfl,rfl,Nat.le_refl _,λ_ _ _=>rfl⟩
  | some Q=>
   obtain⟨v',w',m,A,F,_⟩:=run_append_own (P:=prog) w B 22 ty 50 O (.agg #[.string ByteArray.empty,.slice none 0 0,.slice none 0 0,.slice none 0 0,.slice none 0 0]) 5 112 underlying22 C t y z rfl (by decide) v0 n xs i Q 0 c [] rfl (by simp) (by simp) (by unfold maxLen;omega) (by omega) L;exact⟨[],v',w',m,by simpa using A,F,rfl,e⟩
 ·obtain⟨b,o,rfl,W,T⟩:=k M
  have l:∀(j:Nat) u,d.flatten[j]? =some u->w.cell? ((⟨b,o,none⟩:Addr).add j)=some u:=by
   intro j u D;have:=Zczn K D;obtain⟨r,m,s⟩:=this;have E:=T (j/5) r m (j % 5) u s;simp only[Addr.add];split
   ·rename_i G
    rw[G]at E;simpa using E
   ·rw[show o+j=o+j/5*5+j % 5 by omega]
    exact E
  have p:∀u∈d.flatten,u.oneCell'=true:=by
   intro u s;obtain⟨r,m,s⟩:=List.mem_flatten.1 s;obtain⟨j,D⟩:=List.getElem?_of_mem m;have H:j<ys.length:=by rw[<-f];exact(List.getElem?_eq_some_iff.1 D).1
   exact Zbxo (e.2 j r _ D (List.getElem?_eq_getElem H)) u s
  obtain⟨v',w',m,A,F,_⟩:=run_append_own (P:=prog) w B 22 ty 50 O (.agg #[.string ByteArray.empty,.slice none 0 0,.slice none 0 0,.slice none 0 0,.slice none 0 0]) 5 112 underlying22 C t y z rfl (by decide) v0 n xs i ⟨b,o,none⟩ d.length c d.flatten (flat5 K) l p (by unfold maxLen;omega) (by omega) L;exact⟨d,v',w',m,by rw[f]at A;exact A,F,f,e⟩
theorem Zbud {P:Program} {w:World} {c:Array Oper} {b:List Oper} {o:Oper} {a:Act} {Q:Exit->Act->World->Prop} (j:Region.wanted o (yielded c a.tmps)=true) (s x:Operand) (t:TypeId)
  (k:o.op = .call { callee:= .builtin .append,args:=#[s,x],argTypes:=#[t,t] }) {e f d:Value} {g:World} (m:a.eval s=e) (hx:a.eval x=f)
  (l:(Builtin.append_ #[t,t] o.type #[e,f]).run P w = .ok d g) (h:wpList P c Q b (a.put o.dst d) g):wpList P c Q (o::b) a w:=by
 refine wpList_step λK i=>?_
 rw[if_pos j];unfold Oper.wp execOp;simp only[k,resolve,invoke,builtin,Sem.run_bind,Sem.run_pure,Result.andThen_ok,List.map_toArray,List.map_cons,List.map_nil,m,hx,l];exact i _ _ h
theorem Zbxt {w w1 w2:World} {y s:Value} {xs ys:List RuleS} {c i:List (List Value)} {Av:Nat->Prop} (d:AllA (RuleA Av w) c xs) (f:AllA (RuleA Av w1) i ys) (o:w.grownBy w1 none)
  (p:w1.grownBy w2 y.ownBlock) (q:w2.ownsRow w.heap.size 50 5 s (xs.length+ys.length) (c.flatten++i.flatten)) (n:∀b,y.ownBlock=some b->Av b):
  RulesA (λ_=>False) w2 s (xs++ys):=by
 have z:Fr Av w w1:=Zpx o λk e=>by cases e
 have u:Fr Av w1 w2:=Zpx p λk e=>n k e
 have a:AllA (RuleA (λ_=>False) w2) c xs:=d.imp λr x h=>((h.keep (z.trans u)).mono λ_ _ e=>e.elim)
 have g:AllA (RuleA (λ_=>False) w2) i ys:=f.imp λr x h=>((h.keep u).mono λ_ _ e=>e.elim)
 have v:AllA (RuleA (λ_=>False) w2) (c++i) (xs++ys):=by
  refine⟨by simp[a.1,g.1],λj r x m hx=>?_⟩
  rcases Nat.lt_or_ge j c.length with h|h
  ·rw[List.getElem?_append_left h]at m
   rw[List.getElem?_append_left (by rw[<-a.1];exact h)]at hx;exact a.2 j r x m hx
  ·rw[List.getElem?_append_right h]at m
   rw[List.getElem?_append_right (by rw[<-a.1];exact h),<-a.1]at hx;exact g.2 _ r x m hx
 refine⟨c++i,?_,v⟩;have A:(c++i).length=xs.length+ys.length:=by rw[List.length_append,a.1,g.1]
 have l:RowA (λb=>b<w.heap.size) w2 s 5 (c++i):=by
  refine Zbif (t:=50) ?_ (v.len λr x h=>h.len);rw[A,List.flatten_append];exact q
 exact l.mono λ_ _ e=>e.elim
theorem Zbka {w:World} {ty:TypeId} {B:Nat} {v f:Value} {xs ys:List ByteArray} (a:OwnStrs B w v xs) (i:IsRow w f 1 (Zbpk ys)) (m:xs.length+ys.length<=1000000000) (h:B<=w.heap.size):
  ∃v' w',(Builtin.append_ #[47,47] ty #[v,f]).run prog w = .ok v' w'/\OwnStrs B w' v' (xs++ys)/\w.grownBy w' v.ownBlock:=by
 obtain⟨l,j,b,c,d⟩:=Zsv Zsy;obtain⟨v',w',k,e,g,_⟩:=Zbke (P:=prog) (w:=w) 47 ty 9 l (.string ByteArray.empty) 1 16 underlying47 j b c d rfl (by decide) (Zbdl.1 a) i (Zbpn ys) (Zbpp ys) (by rw[Zbpo,Zbpo];unfold maxLen;omega) (by rw[Zbpo,Zbpo];omega) h;rw[Zbpl]at e;exact⟨v',w',k,Zbdl.2 e,g⟩
def Zch (xs:List ByteArray):Prop:=∃i j:Nat,j<i/\i<xs.length/\xs[j]? =xs[i]?
def Zcg (xs:List ByteArray) (e:Ending):Prop:=∃b,e = .returned (.bool b)/\(b=true↔Zch xs)
theorem Zbcm {xs:List ByteArray} {k:Nat} {x:ByteArray} (hx:xs[k]? =some x) (h:∀i<k,∀j<i,xs[j]? ≠xs[i]?) (c:Zoi (xs.take k) x<0):∀i<k+1,∀j<i,xs[j]? ≠xs[i]?:=by
 intro i d j a
 rcases Nat.lt_or_ge i k with b|b
 ·exact h i b j a
 ·obtain rfl:i=k:=by omega
  rw[hx];intro e;exact Zos (Zom _ _) c (List.mem_of_getElem? (i:=j) (by rw[List.getElem?_take,if_pos a];exact e))
theorem Zbrs {xs:List ByteArray} {k:Nat} {x:ByteArray} (hx:xs[k]? =some x) (c:0<=Zoi (xs.take k) x):Zcg xs (.returned (.bool true)):=by
 refine⟨true,rfl,λ_=>?_,λ_=>rfl⟩;obtain⟨j,a⟩:=List.getElem?_of_mem (Zor (Zom _ _) c);rw[List.getElem?_take]at a;split at a
 ·rename_i b
  exact⟨k,j,b,(List.getElem?_eq_some_iff.1 hx).1,by rw[a,hx]⟩
 ·cases a
theorem Zbrr {xs:List ByteArray} {k:Nat} (d:xs.length<=k) (h:∀i<k,∀j<i,xs[j]? ≠xs[i]?):Zcg xs (.returned (.bool false)):=
 ⟨false,rfl,(λe=>by cases e),λ⟨i,j,a,c,b⟩=>absurd b (h i (by omega) j a)⟩
theorem Zhm (v:Value) (xs:List ByteArray) (w:World) (h:IsStrs w v xs):
  Calls prog 83 #[v] w λe w'=>Zcg xs e/\Below w.heap.size w w':=by
 obtain⟨I,z,rfl,O,P,g⟩:=Zua h;have B:xs.length<=maxLen:=by omega
 have H:Hid (∀(k:Nat) (s:ByteArray) w',Below w.heap.size w w'->k<=xs.length->Calls prog 64 #[.slice I k z,.string s] w' λe b=>e = .returned (.int .i64 (Zoi (xs.take k) s))/\b=w'):=by
  show ∀(k:Nat) (s:ByteArray) w',_;intro k s w' J F;have:=Zuf (h.below J) k;rw[Nat.min_eq_left F]at this;exact Zhe _ _ s w' this
 unfold maxLen at B;have u:=hid g;clear g h
 go_enter func83,ntmps83
 go_wp2
 go_loopw [3] (λi wr=>∃k:Nat,k<=xs.length/\i = .int .i64 k/\(∀i<k,∀j<i,xs[j]? ≠xs[i]?)/\Below w.heap.size w wr)
  (λi _=>xs.length-(intOf i).toNat)
 case atStart=>exact⟨0,Nat.zero_le _,rfl,λi K=>absurd K (by omega),Below.refl _ _⟩
 case round=>
  obtain⟨k,F,rfl,p,o⟩:=hrel;have a:=hid o;have d:=hid p;clear o p
  by_cases C:k<xs.length
  ·obtain⟨x,hx⟩:∃x,xs[k]? =some x:=⟨xs[k],List.getElem?_eq_getElem C⟩
   obtain⟨E,G,Q,l⟩:=u.out k x hx;subst Q;have R:∀n,(wr.drewN n).cell? ⟨E,G+k,none⟩=some (.string x):=λn=>l _ (below_drewN a.out n)
   have A:(k:Int)<(xs.length:Int):=by omega
   have L:(0:Int)<=(k:Int):=by omega
   have M:(k:Int)<=(z:Int):=by omega
   obtain⟨r,q⟩:∃r,Zoi (xs.take k) x=r:=⟨_,rfl⟩;have t:Hid (∀n,Calls prog 64 #[.slice (some ⟨E,G,none⟩) k z,.string x] (wr.drewN n) λe b=>e = .returned (.int .i64 r)/\b=wr.drewN n):=by show ∀n,_;rw[<-q];exact λn=>H.out k x (wr.drewN n) (below_drewN a.out n) (by omega)
   have D:Hid (∀n,Below w.heap.size w (wr.drewN n)):=by show ∀n,_;exact λn=>below_drewN a.out n
   have f:Hid (0<=r->Zcg xs (.returned (.bool true))):=hid λh=>Zbrs hx (by rw[q];exact h)
   have c:Hid (r<0->∀i<k+1,∀j<i,xs[j]? ≠xs[i]?):=hid λh=>Zbcm hx d.out (by rw[q];exact h)
   clear l hx q
   go_wp2_with fail
   go_quiet ((go_at_call 64;refine Calls.quiet_of_same (t.out _)))
   all_goals by_cases m:0<=r
   all_goals go_wp2
   all_goals first|(go_ret;exact⟨f.out m,D.out _⟩)|skip
   all_goals go_roundw
   case rel=>exact⟨k+1,by omega,by go_num,c.out (by omega),D.out _⟩
   case measure=>simp[intOf];omega
  ·have A:¬(k:Int)<(xs.length:Int):=by omega
   have y:Hid (Zcg xs (.returned (.bool false))):=hid (Zbrr (by omega) d.out);go_wp2;go_ret;exact⟨y.out,a.out⟩
