import Derived.Deep.CutBlock
import Derived.Deep.DeepCutAuto
import Derived.Deep.RegionLaw
import Derived.Test.YtokogjhcidkckaaGreatDoorMbe
import Derived.Laws.MakeOwn
namespace Go.Proofs.YtokogjhcidkckaaGreatDoor
open Go.Lib (hid)
open Go.Proofs.Tryz
open Go.RowKit Go.Shelf
def MatF (w:World) (g n:Nat) (rb rc:Nat->Nat) (M:Nat->Nat->Bool):Prop:=∀i<n,w.cell? ⟨g,i,none⟩=some (.slice (some ⟨rb i,0,none⟩) n (rc i))/\n<=rc i/\rc i<=9223372036854775807/\∀k<n,w.cell? ⟨rb i,k,none⟩=some (.bool (M i k))
theorem Mat.fix {B:Nat} {w:World} {g n:Nat} (h:Mat B w g n n):∃rb rc M,∀w',Below w.heap.size w w'->MatF w' g n rb rc M:=by
 have hg:=h.lt;have h1:∀i:Nat,∃x:Nat×Nat×(Nat->Bool),i<n->w.cell? ⟨g,i,none⟩=some (.slice (some ⟨x.1,0,none⟩) n x.2.1)/\n<=x.2.1/\x.2.1<=9223372036854775807/\x.1<w.heap.size/\∀k<n,w.cell? ⟨x.1,k,none⟩=some (.bool (x.2.2 k)):=by
  intro i
  by_cases hi:i<n
  ·obtain⟨b,c,e,e1,e2,_,hr⟩:=h.cell hi
   have h2:∀k:Nat,∃x:Bool,k<n->w.cell? ⟨b,k,none⟩=some (.bool x):=by
    intro k
    by_cases hk:k<n
    ·obtain⟨x,hx,_⟩:=hr.cell hk
     exact⟨x,λ_=>hx⟩
    ·exact⟨true,λh=>absurd h hk⟩
   obtain⟨f,hf⟩:=Classical.skolem.1 h2;exact⟨(b,c,f),λ_=>⟨e,e1,by unfold maxLen at e2;omega,hr.lt,λk hk=>hf k hk⟩⟩
  ·exact⟨(0,0,λ_=>true),λh=>absurd h hi⟩
 obtain⟨f,hf⟩:=Classical.skolem.1 h1;refine⟨λi=>(f i).1,λi=>(f i).2.1,λi=>(f i).2.2,λw' hw i hi=>?_⟩;obtain⟨e,e1,e2,e3,e4⟩:=hf i hi;exact⟨(hw.cell (p:=⟨g,i,none⟩) hg).trans e,e1,e2,λk hk=>(hw.cell (p:=⟨(f i).1,k,none⟩) e3).trans (e4 k hk)⟩
def FarI (w:World) (g n:Nat) (F:Nat->Int):Prop:=∃cur:Array Value,w.heap[g]? =some (.cells cur 3 (0,0))/\cur.size=n/\∀k<n,cur[k]? =some (.int .i64 (F k))
theorem FarI.lt {w:World} {g n:Nat} {F:Nat->Int} (h:FarI w g n F):g<w.heap.size:=by
 obtain⟨cur,h1,_⟩:=h;exact Zfy h1
theorem FarI.keep {w w':World} {g n:Nat} {F:Nat->Int} (h:FarI w g n F) (hk:w'.heap[g]? =w.heap[g]?):FarI w' g n F:=by
 obtain⟨cur,h1,h2⟩:=h;exact⟨cur,hk.trans h1,h2⟩
theorem FarI.below {w w':World} {g n:Nat} {F:Nat->Int} (h:FarI w g n F) (hb:Below w.heap.size w w'):FarI w' g n F:=h.keep (hb.block g h.lt)
theorem FarI.set {w:World} {g n k:Nat} {F:Nat->Int} (h:FarI w g n F) (v:Int):FarI (w.setCell ⟨g,k,none⟩ (.int .i64 v)) g n (λj=>if j=k then v else F j):=by
 obtain⟨cur,h1,h2,h3⟩:=h;refine⟨_,heap_set k _ h1,by simpa using h2,λj hj=>?_⟩;rw[Array.getElem?_setIfInBounds]
 by_cases e:j=k
 ·subst e
  rw[if_pos rfl,if_pos (by omega)];simp
 ·rw[if_neg (λh=>e h.symm)]
  simp only[if_neg e];exact h3 j hj
theorem FarI.cell {w:World} {g n k:Nat} {F:Nat->Int} (h:FarI w g n F) (hk:k<n):w.cell? ⟨g,k,none⟩=some (.int .i64 (F k))/\w.frozen? ⟨g,k,none⟩=false:=by
 obtain⟨cur,h1,h2,h3⟩:=h;exact⟨by simp[World.cell?,h1,h3 k hk],by simp[World.frozen?,h1]⟩
theorem Zcdl {w:World} {n:Nat}:FarI (w.alloc (.cells (madeCells #[.int .i64 0] n) 3)) w.heap.size n (λ_=>0):=by
 refine⟨_,alloc_at w _,size_madeCells _ _,λk hk=>?_⟩;have h1:k % 1=0:=Nat.mod_one k;simp[madeCells,hk,h1]
theorem Zcfc:(prog.info? 3).map (λi=>(i.zero,i.size,i.bytes))=some (some (.int .i64 0),1,8):=by kernel_rfl
theorem Zcfm (n:Nat) (hn:n<=1000) (w:World):(Instr.makeSlice 131 (.int .i64 (n:Int)) (.int .i64 (n:Int))).run prog w = .ok (.slice (some ⟨w.heap.size,0,none⟩) n n) (w.alloc (.cells (madeCells #[.int .i64 0] n) 3)):=by
 obtain⟨i0,hi,hz,hs,hb⟩:=Zsv Zcfc;have:=run_make (P:=prog) w 131 3 i0 (.int .i64 0) underlying131 hi hz .i64 .i64 n n (by omega) (Int.le_refl _) (by rw[hb];omega) (by omega);rw[hs,show(Value.int .i64 0).cells = #[.int .i64 0]from rfl]at this;simpa using this
def FarOk (n:Nat) (M:Nat->Nat->Bool) (F:Nat->Int):Prop:=∀k<n,-1<=F k/\F k<=n/\(0<F k->∃l<n,M k l=true/\F l=F k-1)
theorem FarOk.set {n:Nat} {M:Nat->Nat->Bool} {F:Nat->Int} (h:FarOk n M F) {i k:Nat} {d:Int} (hk:k<n) (hi:F i<0) (hm:M i k=true) (hf:F k=d-1) (h1:1<=d) (hn:d<=n):FarOk n M (λj=>if j=i then d else F j):=by
 intro j hj;show -1<=(if j=i then d else F j)/\(if j=i then d else F j)<=n/\(0<(if j=i then d else F j)->∃l<n,M j l=true/\(if l=i then d else F l)=(if j=i then d else F j)-1)
 by_cases e:j=i
 ·subst e
  rw[if_pos rfl];refine⟨by omega,hn,λ_=>⟨k,hk,hm,?_⟩⟩;rw[if_neg (by rintro rfl;omega)];exact hf
 ·rw[if_neg e]
  obtain⟨a,b,c⟩:=h j hj;refine⟨a,b,λhp=>?_⟩;obtain⟨l,hl,hml,hfl⟩:=c hp;refine⟨l,hl,hml,?_⟩;rw[if_neg (by rintro rfl;omega)];exact hfl
theorem Zcgl {B:Nat} {w:World} {v:Value} {xs:List ByteArray} {g n:Nat} {F:Nat->Int} (h:OwnStrs B w v xs) (hf:FarI w g n F):some g≠v.ownBlock:=by
 intro e;obtain⟨cur,h1,_⟩:=hf
 rcases h.2 with⟨rfl,_⟩|⟨g2,cap,cur2,rfl,_,h2,_⟩
 ·simp[Value.ownBlock]at e
 ·simp only[Value.ownBlock,Option.some.injEq]at e
  subst e;rw[h1]at h2;injection h2 with h2
  injection h2 with _ h2 _
  exact absurd h2 (by decide)
theorem Zccu (v:Value) (xs:List RuleS) (s:ByteArray) (w:World) (h:RulesI w v xs):
  Calls prog 23 #[v,.string s] w λe w'=>e = .returned (.int .i64 (Zoi (xs.map (·.name)) s))/\w'=w:=by
 refine(Zcct v xs s w h).mono ?_;rintro e w' ⟨⟨r,rfl,hr,_⟩,rfl⟩;exact⟨by rw[Zop hr (Zom _ s)],rfl⟩
set_option maxHeartbeats 2000000 in
theorem Zccy (v:Value) (xs:List RuleS) (s:ByteArray) (w:World) (h:RulesI w v xs):
  Calls prog 21 #[v,.string s] w λe w'=>(∃r:Int,e = .returned (.int .i64 r)/\MakR xs s r)/\w=w':=by
 obtain⟨a1,c1,rfl,_,hm1,hc1⟩:=Zcgz h;have hlm:xs.length<=maxLen:=by omega
 unfold maxLen at hlm;have HC1:=hid hc1;clear hc1 h
 go_enter func21,ntmps21
 go_wp2
 go_loopw [5] (λi wr=>∃k:Nat,k<=xs.length/\i = .int .i64 k/\(∀j<k,∀x,xs[j]? =some x->s∉x.outs)/\w=wr)
  (λi _=>xs.length-(intOf i).toNat)
 case atStart=>exact⟨0,Nat.zero_le _,rfl,λj hj=>absurd hj (by omega),rfl⟩
 case round=>
  obtain⟨k,hk,rfl,hno,rfl⟩:=hrel;have HNX:=hid (Below.refl w.heap.size w);have HNO:=hid hno;clear hno
  by_cases hlt:k<xs.length
  ·obtain⟨x,hx⟩:∃x,xs[k]? =some x:=⟨xs[k],List.getElem?_eq_getElem hlt⟩
   obtain⟨b1,o1,_,_,a2,c2,_,_,_,_,q1,hr,hk1⟩:=HC1.out k x hx;subst q1;have HX:=hid hx;obtain⟨_,_,e1,_⟩:=hk1 _ HNX.out;have hstr:IsStrs w (.slice a2 x.outs.length c2) x.outs:=by
    obtain⟨vi,vo,vf,vs,q,_,h2,_,_⟩:=hr;simp only[List.cons.injEq,and_true]at q;obtain⟨_,rfl,rfl,rfl,rfl⟩:=q;exact h2
   have cF:=Zhd _ x.outs s w hstr;have hi1:(k:Int)<(xs.length:Int):=by omega
   have hi0:(0:Int)<=(k:Int):=by omega
   have CF:=hid cF;clear hk1 hx hr hstr cF
   go_wp2_with fail
   refine CF.out.mono ?_;rintro e w1 ⟨⟨r,rfl,hr,hr0,hr1⟩,rfl⟩;have HR:=hid hr;clear hr hr1
   by_cases hneg:0<=r
   ·go_wp2
    go_ret;exact⟨⟨k,rfl,.inr ⟨k,x,rfl,HX.out,Zor HR.out hneg,HNO.out⟩⟩,rfl⟩
   ·have HNI:=hid (Zos HR.out (by omega))
    go_wp2
    all_goals go_roundw
    case rel=>exact⟨k+1,by omega,by go_num,λj hj y hy=>by
     rcases Nat.lt_or_ge j k with h|h
     ·exact HNO.out j h y hy
     ·obtain rfl:j=k:=by omega
      rw[HX.out]at hy;injection hy with hy
      rw[<-hy];exact HNI.out,trivial⟩
    case measure=>simp[intOf];omega
  ·have hi1:¬(k:Int)<(xs.length:Int):=by omega
   have HKL:=hid (show xs.length<=k by omega);go_wp2;go_ret;exact⟨⟨-1,rfl,.inl ⟨rfl,λx hx=>by
    obtain⟨i,hi⟩:=List.getElem?_of_mem hx;exact HNO.out i (by have:=(List.getElem?_eq_some_iff.1 hi).1;have:=HKL.out;omega) x hi⟩⟩,rfl⟩
theorem Zccx (v:Value) (xs:List RuleS) (s:ByteArray) (w:World) (h:RulesI w v xs):
  Calls prog 21 #[v,.string s] w λe w'=>e = .returned (.int .i64 (Zcfo xs s))/\w'=w:=by
 refine(Zccy v xs s w h).mono ?_;rintro e w' ⟨⟨r,rfl,hr⟩,rfl⟩;exact⟨by rw[Zcft hr (Zcfq xs s)],rfl⟩
def RowX (w:World) (b n:Nat) (f:Nat->Bool):Prop:=∃cur:Array Value,w.heap[b]? =some (.cells cur 4 (0,0))/\n<=cur.size/\∀k<n,cur[k]? =some (.bool (f k))
def upd (M:Nat->Nat->Bool) (q k:Nat) (x:Bool):Nat->Nat->Bool:=λa b=>if a=q/\b=k then x else M a b
def MatX (B:Nat) (w:World) (g n i:Nat) (M:Nat->Nat->Bool):Prop:=B<=g/\∃(cur:Array Value) (bs:Nat->Nat),w.heap[g]? =some (.cells cur 94 (0,0))/\cur.size=n/\(∀j<i,∀j'<j,bs j'≠bs j)/\
 ∀j<i,∃c,cur[j]? =some (.slice (some ⟨bs j,0,none⟩) n c)/\n<=c/\c<=maxLen/\B<=bs j/\RowX w (bs j) n (M j)
theorem RowX.row {w:World} {b n:Nat} {f:Nat->Bool} (h:RowX w b n f):BoolRow w b n:=by
 obtain⟨cur,h1,h2,h3⟩:=h;exact⟨cur,h1,h2,λk hk=>⟨_,h3 k hk⟩⟩
theorem RowX.lt {w:World} {b n:Nat} {f:Nat->Bool} (h:RowX w b n f):b<w.heap.size:=h.row.lt
theorem RowX.keep {w w':World} {b n:Nat} {f:Nat->Bool} (h:RowX w b n f) (hk:w'.heap[b]? =w.heap[b]?):RowX w' b n f:=by
 obtain⟨cur,h1,h2⟩:=h;exact⟨cur,hk.trans h1,h2⟩
theorem RowX.set {w:World} {b n k:Nat} {f:Nat->Bool} (x:Bool) (h:RowX w b n f):RowX (w.setCell ⟨b,k,none⟩ (.bool x)) b n (λj=>if j=k then x else f j):=by
 obtain⟨cur,h1,h2,h3⟩:=h;refine⟨_,heap_set k (.bool x) h1,by simpa using h2,λj hj=>?_⟩;rw[Array.getElem?_setIfInBounds]
 by_cases e:k=j
 ·subst e
  dsimp only
  rw[if_pos rfl,if_pos (by omega),if_pos rfl]
 ·dsimp only
  rw[if_neg e,if_neg (λq:j=k=>e q.symm)];exact h3 j hj
theorem RowX.cell {w:World} {b n k:Nat} {f:Nat->Bool} (h:RowX w b n f) (hk:k<n):w.cell? ⟨b,k,none⟩=some (.bool (f k))/\w.frozen? ⟨b,k,none⟩=false:=by
 obtain⟨cur,h1,h2,h3⟩:=h;exact⟨by simp[World.cell?,h1,h3 k hk],by simp[World.frozen?,h1]⟩
theorem RowX.congr {w:World} {b n:Nat} {f f':Nat->Bool} (h:RowX w b n f) (e:∀k<n,f k=f' k):RowX w b n f':=by
 obtain⟨cur,h1,h2,h3⟩:=h;exact⟨cur,h1,h2,λk hk=>by rw[<-e k hk];exact h3 k hk⟩
theorem Zcgy {w:World} {n:Nat}:RowX (w.alloc (.cells (madeCells #[.bool false] n) 4)) w.heap.size n (λ_=>false):=by
 refine⟨_,alloc_at w _,by rw[size_madeCells];exact Nat.le_refl _,λk hk=>?_⟩;have h1:k % 1=0:=Nat.mod_one k;simp[madeCells,hk,h1]
theorem MatX.mat {B:Nat} {w:World} {g n i:Nat} {M:Nat->Nat->Bool} (h:MatX B w g n i M):Mat B w g n i:=by
 obtain⟨h0,cur,bs,h1,h2,_,h3⟩:=h;refine⟨h0,cur,h1,h2,λj hj=>?_⟩;obtain⟨c,e,e1,e2,e3,e4⟩:=h3 j hj;exact⟨bs j,c,e,e1,e2,e3,e4.row⟩
theorem MatX.congr {B:Nat} {w:World} {g n i:Nat} {M M':Nat->Nat->Bool} (h:MatX B w g n i M) (e:∀j<i,∀k<n,M j k=M' j k):MatX B w g n i M':=by
 obtain⟨h0,cur,bs,h1,h2,hd,h3⟩:=h;refine⟨h0,cur,bs,h1,h2,hd,λj hj=>?_⟩;obtain⟨c,e0,e1,e2,e3,e4⟩:=h3 j hj;exact⟨c,e0,e1,e2,e3,e4.congr (e j hj)⟩
theorem MatX.keep {B:Nat} {w w':World} {g n i:Nat} {M:Nat->Nat->Bool} (h:MatX B w g n i M) (hk:∀k,k<w.heap.size->w'.heap[k]? =w.heap[k]?):MatX B w' g n i M:=by
 have hg:=h.mat.lt;obtain⟨h0,cur,bs,h1,h2,hd,h3⟩:=h;refine⟨h0,cur,bs,(hk g hg).trans h1,h2,hd,λj hj=>?_⟩;obtain⟨c,e,e1,e2,e3,e4⟩:=h3 j hj;exact⟨c,e,e1,e2,e3,e4.keep (hk _ e4.lt)⟩
theorem MatX.below {B:Nat} {w w':World} {g n i:Nat} {M:Nat->Nat->Bool} (h:MatX B w g n i M) (hb:Below w.heap.size w w'):MatX B w' g n i M:=h.keep λk hk=>hb.block k hk
theorem MatX.cell {B:Nat} {w:World} {g n i j:Nat} {M:Nat->Nat->Bool} (h:MatX B w g n i M) (hj:j<i):∃b c,w.cell? ⟨g,j,none⟩=some (.slice (some ⟨b,0,none⟩) n c)/\n<=c/\c<=maxLen/\B<=b/\RowX w b n (M j)/\
  ∀k x,MatX B (w.setCell ⟨b,k,none⟩ (.bool x)) g n i (upd M j k x):=by
 have hne:∀b m,BoolRow w b m->g≠b:=λb m hb=>h.mat.ne hb
 obtain⟨h0,cur,bs,h1,h2,hd,h3⟩:=h;obtain⟨c,e,e1,e2,e3,e4⟩:=h3 j hj;refine⟨bs j,c,by simp[World.cell?,h1,e],e1,e2,e3,e4,λk x=>⟨h0,cur,bs,(Below.heap_setCell _ _ _ _ (hne _ _ e4.row)).trans h1,h2,hd,λq hq=>?_⟩⟩;obtain⟨c',f,f1,f2,f3,f4⟩:=h3 q hq;refine⟨c',f,f1,f2,f3,?_⟩
 by_cases eq:q=j
 ·subst eq
  exact(f4.set x).congr λa _=>by unfold upd;simp
 ·have hb:bs q≠bs j:=by
   rcases Nat.lt_or_ge q j with h|h
   ·exact hd j hj q h
   ·exact λe=>hd q hq j (by omega) e.symm
  exact(f4.keep (Below.heap_setCell _ _ _ _ hb)).congr λa _=>by unfold upd;simp[eq]
theorem MatX.setRow {B:Nat} {w w':World} {g n i b c:Nat} {M:Nat->Nat->Bool} {f:Nat->Bool} (h:MatX B w g n i M) (hk:∀k,k<w.heap.size->w'.heap[k]? =w.heap[k]?) (hb:RowX w' b n f) (hnew:w.heap.size<=b) (hB:B<=b) (hc:n<=c) (hm:c<=maxLen) (hi:i<n):
  MatX B (w'.setCell ⟨g,i,none⟩ (.slice (some ⟨b,0,none⟩) n c)) g n (i+1) (λj=>if j=i then f else M j):=by
 have h':=h.keep hk;have hgb:∀b' m,BoolRow w' b' m->b'≠g:=λb' m q=>(h'.mat.ne q).symm
 obtain⟨h0,cur,bs,h1,h2,hd,h3⟩:=h;have hg:=Zfy h1;refine⟨h0,_,λj=>if j=i then b else bs j,heap_set i _ ((hk g hg).trans h1),by simpa using h2,?_,λj hj=>?_⟩
 ·intro j hj j' hj'
  show(if j'=i then b else bs j')≠(if j=i then b else bs j);rw[if_neg (show ¬j'=i by omega)]
  by_cases e:j=i
  ·rw[if_pos e]
   obtain⟨_,_,_,_,_,q⟩:=h3 j' (by omega);have:=q.lt;omega
  ·rw[if_neg e]
   exact hd j (by omega) j' hj'
 ·rw[Array.getElem?_setIfInBounds]
  by_cases e:i=j
  ·subst e
   dsimp only
   rw[if_pos rfl,if_pos (by omega)];simp only[if_true];exact⟨c,rfl,hc,hm,hB,hb.keep (Below.heap_setCell _ _ _ _ (hgb _ _ hb.row))⟩
  ·dsimp only
   have e':¬j=i:=λq=>e q.symm
   simp only[if_neg e,if_neg e'];obtain⟨c',e0,e1,e2,e3,e4⟩:=h3 j (by omega);have e5:=e4.keep (hk _ e4.lt);exact⟨c',e0,e1,e2,e3,e5.keep (Below.heap_setCell _ _ _ _ (hgb _ _ e5.row))⟩
theorem MatX.begin {B:Nat} {w:World} {cur:Array Value} {n:Nat} (M:Nat->Nat->Bool) (hB:B<=w.heap.size) (hc:cur.size=n):MatX B (w.alloc (.cells cur 94)) w.heap.size n 0 M:=
 ⟨hB,cur,λ_=>0,alloc_at w _,hc,λj hj=>absurd hj (by omega),λj hj=>absurd hj (by omega)⟩
def rowM (xs:List RuleS) (i:Nat) (f:Nat->Bool):Nat->Nat->Bool:=λa b=>if a=i then f b else Zcfw xs a b
theorem Zcfe {xs:List RuleS} {l:List ByteArray} {j:Nat} {s:ByteArray} (h:l[j]? =some s) (k:Nat):Zcfd xs (l.take (j+1)) k=(Zcfd xs (l.take j) k||Zcfo xs s==(k:Int)):=by
 unfold Zcfd;rw[List.take_add_one,h,List.any_append];simp
theorem Zcce {xs:List RuleS} {l:List ByteArray} {j:Nat} {s:ByteArray} (h:l[j]? =some s) (k:Nat):Zccd xs (l.take (j+1)) k=(Zccd xs (l.take j) k||Zoi (xs.map (·.name)) s==(k:Int)):=by
 unfold Zccd;rw[List.take_add_one,h,List.any_append];simp
theorem Zcgx {xs:List RuleS} {i k:Nat} {f f':Nat->Bool} (h:∀b,f' b=(f b||((k:Int)==(b:Int)))):∀(a b:Nat),upd (rowM xs i f) i k true a b=rowM xs i f' a b:=by
 intro a b;unfold upd rowM
 by_cases ha:a=i
 ·by_cases hb:b=k
  ·simp[ha,hb,h]
  ·have:((k:Int)==(b:Int))=false:=by simp;omega
   simp[ha,hb,h,this]
 ·simp[ha]
theorem Zcgw {xs:List RuleS} {i:Nat} {f f':Nat->Bool} (h:∀b,f' b=f b) (a b:Nat):rowM xs i f a b=rowM xs i f' a b:=by
 unfold rowM;rw[h]
theorem Zcgv {xs:List RuleS} {i:Nat} {x:RuleS} {f:Nat->Bool} (hx:xs[i]? =some x) (h:∀b,f b=(Zcfd xs x.ins b||Zccd xs x.after b)) (a b:Nat):rowM xs i f a b=Zcfw xs a b:=by
 unfold rowM
 by_cases ha:a=i
 ·rw[if_pos ha,ha,h]
  unfold Zcfw;rw[hx]
 ·rw[if_neg ha]
set_option maxHeartbeats 8000000 in
set_option maxRecDepth 100000 in
theorem Zccz (v:Value) (xs:List RuleS) (w:World) (h:RulesI w v xs) (hn:xs.length<=1000):
  Calls prog 85 #[v,.bool false] w λe w'=>(∃g,e = .returned (.slice (some ⟨g,0,none⟩) xs.length xs.length)/\MatX w.heap.size w' g xs.length xs.length (Zcfw xs))/\Below w.heap.size w w':=by
 have HI:=hid h;obtain⟨a1,c1,rfl,_,hm1,hc1⟩:=Zcgz h;have hmk1:=Zcfn xs.length hn;have hmk2:=Zcfl xs.length hn;have HRU:Hid (∀(k:Nat) x,xs[k]? =some x->∃b o a1' c1' a3 c3,a1=some ⟨b,o,none⟩/\(∀w',Below w.heap.size w w'->w'.cell? ⟨b,o+k*5+1,none⟩=some (.slice a1' x.ins.length c1')/\w'.cell? ⟨b,o+k*5+3,none⟩=some (.slice a3 x.after.length c3))/\
   x.ins.length<=maxLen/\x.after.length<=maxLen/\(∀(j:Nat) s,x.ins[j]? =some s->∃b' o',a1'=some ⟨b',o',none⟩/\∀w',Below w.heap.size w w'->w'.cell? ⟨b',o'+j,none⟩=some (.string s))/\(∀(j:Nat) s,x.after[j]? =some s->∃b' o',a3=some ⟨b',o',none⟩/\∀w',Below w.heap.size w w'->w'.cell? ⟨b',o'+j,none⟩=some (.string s))):=by
  show ∀(k:Nat) x,_;intro k x hx;obtain⟨b,o,p1,q1,p2,q2,p3,q3,p4,q4,ha,hr,hc⟩:=hc1 k x hx;obtain⟨vi,vo,vf,vs,q,h1,h2,h3,h4⟩:=hr;simp only[List.cons.injEq,and_true]at q;obtain⟨_,rfl,rfl,rfl,rfl⟩:=q;obtain⟨_,_,e1,l1,m1,s1⟩:=Zua h1;obtain⟨_,_,e3,l3,m3,s3⟩:=Zua h3;injection e1 with e1 _ e1'
  injection e3 with e3 _ e3'
  subst e1 e1' e3 e3';exact⟨b,o,p1,q1,p3,q3,ha,λw' hw=>by obtain⟨_,y1,_,y3,_⟩:=hc w' hw;exact⟨y1,y3⟩,by omega,by omega,s1,s3⟩
 have CMK:Hid (∀s w',Below w.heap.size w w'->Calls prog 21 #[.slice a1 xs.length c1,.string s] w' λe w''=>(∃r:Int,e = .returned (.int .i64 r)/\Zcfo xs s=r/\-1<=r/\r<(xs.length:Int))/\w'=w''):=by
  show ∀s w',_;exact λs w' hw=>(Zccx _ _ s w' (HI.out.below hw)).mono (by rintro e w2 ⟨rfl,rfl⟩;exact⟨⟨_,rfl,rfl,Zcfp xs s⟩,rfl⟩)
 have CAT:Hid (∀s w',Below w.heap.size w w'->Calls prog 23 #[.slice a1 xs.length c1,.string s] w' λe w''=>(∃r:Int,e = .returned (.int .i64 r)/\Zoi (xs.map (·.name)) s=r/\-1<=r/\r<((xs.map (·.name)).length:Int))/\w'=w''):=by
  show ∀s w',_;exact λs w' hw=>(Zccu _ _ s w' (HI.out.below hw)).mono (by rintro e w2 ⟨rfl,rfl⟩;exact⟨⟨_,rfl,rfl,Zcdz _ s⟩,rfl⟩)
 have HM0:Hid (∀cur:Array Value,cur.size=xs.length->MatX w.heap.size (w.alloc (.cells cur 94)) w.heap.size xs.length 0 (Zcfw xs)):=by show ∀cur:Array Value,_;exact λcur hc=>MatX.begin _ (Nat.le_refl _) hc
 have HB0:Hid (∀o,Below w.heap.size w (w.alloc o)):=by show ∀o,_;exact λo=>(Below.refl _ _).alloc (Nat.le_refl _) o
 unfold maxLen at hm1;clear h hc1
 go_enter func85,ntmps85
 go_wp2_with fail
 go_loopw [6] (λiv wr=>∃i:Nat,i<=xs.length/\iv = .int .i64 (i:Int)/\MatX w.heap.size wr w.heap.size xs.length i (Zcfw xs)/\Below w.heap.size w wr) (λiv _=>xs.length-(intOf iv).toNat)
 case atStart=>exact⟨0,Nat.zero_le _,rfl,HM0.out _ (size_madeCells _ _),HB0.out _⟩
 case round=>
  obtain⟨i,hi,rfl,hmat,hbr⟩:=hrel;obtain⟨WR,hWR⟩:∃V,wr=V:=⟨_,rfl⟩;rw[hWR]at hmat hbr⊢;clear hWR;have HMAT:=hid hmat;have HBR:=hid hbr
  by_cases hlt:i<xs.length
  ·obtain⟨x,hx⟩:∃x,xs[i]? =some x:=⟨xs[i],List.getElem?_eq_getElem hlt⟩
   obtain⟨b,o,p1,q1,p3,q3,hab,hc,hl1,hl3,s1,s3⟩:=HRU.out i x hx;have HX:=hid hx;have HC:=hid hc;have HS1:=hid s1;have HS3:=hid s3;have hi1:(i:Int)<(xs.length:Int):=by omega
   have hi0:(0:Int)<=(i:Int):=by omega
   obtain⟨u0,hu0,hf0⟩:=(hmat.mat.below ((Below.refl _ _).alloc (Nat.le_refl _) (.cells (madeCells #[.bool false] xs.length) 4))).slot hlt;subst hab;unfold maxLen at hl1 hl3;clear hmat hbr hx hc s1 s3
   go_upto_region 6 with fail
   obtain⟨W3,hW3⟩:∃V,(WR.alloc (.cells (madeCells #[.bool false] xs.length) 4)).setCell ⟨w.heap.size,i,none⟩ (.slice (some ⟨WR.heap.size,0,none⟩) xs.length xs.length)=V:=⟨_,rfl⟩;have hm3:MatX w.heap.size W3 w.heap.size xs.length (i+1) (rowM xs i (Zcfd xs (x.ins.take 0))):=by
    rw[<-hW3];exact HMAT.out.setRow (λk hk=>((Below.refl WR.heap.size WR).alloc (Nat.le_refl _) _).block k hk) Zcgy (Nat.le_refl _) HBR.out.size (Nat.le_refl _) (by unfold maxLen;omega) hlt |>.congr (λa _ b _=>by unfold rowM Zcfd;by_cases h:a=i<;>simp[h])
   have hb3:Below w.heap.size w W3:=by
    rw[<-hW3];exact(HBR.out.alloc HBR.out.size _).setCell (Nat.le_refl _) _
   rw[hW3];have HM3:=hid hm3;have HB3:=hid hb3;obtain⟨y1,_⟩:=HC.out _ hb3;clear hW3 hm3 hb3 hu0 hf0
   go_wp2_with fail
   go_loopw [34] (λjv wr=>∃j:Nat,j<=x.ins.length/\jv = .int .i64 (j:Int)/\MatX w.heap.size wr w.heap.size xs.length (i+1) (rowM xs i (Zcfd xs (x.ins.take j)))/\Below w.heap.size w wr) (λjv _=>x.ins.length-(intOf jv).toNat)
   case atStart=>exact⟨0,Nat.zero_le _,rfl,HM3.out,HB3.out⟩
   case round=>
    obtain⟨j,hj,rfl,hmj,hbj⟩:=hrel;obtain⟨WJ,hWJ⟩:∃V,wr=V:=⟨_,rfl⟩;rw[hWJ]at hmj hbj⊢;clear hWJ;have HMJ:=hid hmj;have HBJ:=hid hbj
    by_cases hjl:j<x.ins.length
    ·obtain⟨s,hs⟩:∃s,x.ins[j]? =some s:=⟨x.ins[j],List.getElem?_eq_getElem hjl⟩
     obtain⟨sb,so,hsb,hsc⟩:=HS1.out j s hs;have z0:=hsc _ hbj;subst hsb;have hj1:(j:Int)<(x.ins.length:Int):=by omega
     have hj0:(0:Int)<=(j:Int):=by omega
     have CM:=hid (CMK.out s WJ hbj);have HSJ:=hid hs;clear hsc hs hmj hbj
     go_wp2_with fail
     refine CM.out.mono ?_;rintro e w7 ⟨⟨r,rfl,hr,hr0,hr1⟩,rfl⟩;have HR:=hid hr;clear hr
     by_cases hneg:0<=r
     ·obtain⟨k,rfl⟩:∃k:Nat,r=(k:Int):=⟨r.toNat,by omega⟩
      obtain⟨rb,rc,hrc,hrl,hrm,hrB,hrow,hset⟩:=HMJ.out.cell (Nat.lt_succ_self i);obtain⟨hx0,hfx⟩:=hrow.cell (show k<xs.length by omega);have HSET:=hid hset;have HRB:=hid hrB;unfold maxLen at hrm;clear hrow hrB hset;go_wp2;go_roundw
      case rel=>exact⟨j+1,by omega,by go_num,(HSET.out k true).congr (λa _ b _=>Zcgx (λb=>by rw[Zcfe HSJ.out,HR.out]) a b),HBJ.out.setCell HRB.out _⟩
      case measure=>simp[intOf];omega
     ·go_wp2
      go_roundw
      case rel=>exact⟨j+1,by omega,by go_num,HMJ.out.congr (λa _ b _=>Zcgw (λb=>by rw[Zcfe HSJ.out,HR.out,show(r==(b:Int))=false by simp;omega];simp) a b),HBJ.out⟩
      case measure=>simp[intOf];omega
    ·have hj1:¬(j:Int)<(x.ins.length:Int):=by omega
     have HM5:Hid (MatX w.heap.size WJ w.heap.size xs.length (i+1) (rowM xs i λb=>Zcfd xs x.ins b||Zccd xs (x.after.take 0) b)):=hid (hmj.congr λa _ b _=>Zcgw (λb=>by rw[List.take_of_length_le (l:=x.ins) (by omega)];simp[Zccd]) a b);have HB5:=hid hbj;obtain⟨_,y3⟩:=HC.out _ hbj;clear hmj hbj
     go_wp2_with fail
     go_loopw [56] (λjv wr=>∃j:Nat,j<=x.after.length/\jv = .int .i64 (j:Int)/\MatX w.heap.size wr w.heap.size xs.length (i+1) (rowM xs i λb=>Zcfd xs x.ins b||Zccd xs (x.after.take j) b)/\Below w.heap.size w wr) (λjv _=>x.after.length-(intOf jv).toNat)
     case atStart=>exact⟨0,Nat.zero_le _,rfl,HM5.out,HB5.out⟩
     case round=>
      obtain⟨j,hj,rfl,hmj,hbj⟩:=hrel;obtain⟨WJ,hWJ⟩:∃V,wr=V:=⟨_,rfl⟩;rw[hWJ]at hmj hbj⊢;clear hWJ;have HMJ:=hid hmj;have HBJ:=hid hbj
      by_cases hjl:j<x.after.length
      ·obtain⟨s,hs⟩:∃s,x.after[j]? =some s:=⟨x.after[j],List.getElem?_eq_getElem hjl⟩
       obtain⟨sb,so,hsb,hsc⟩:=HS3.out j s hs;have z0:=hsc _ hbj;subst hsb;have hj1:(j:Int)<(x.after.length:Int):=by omega
       have hj0:(0:Int)<=(j:Int):=by omega
       have CM:=hid (CAT.out s WJ hbj);have HSJ:=hid hs;clear hsc hs hmj hbj
       go_wp2_with fail
       refine CM.out.mono ?_;rintro e w7 ⟨⟨r,rfl,hr,hr0,hr1⟩,rfl⟩;rw[List.length_map]at hr1;have HR:=hid hr;clear hr
       by_cases hneg:0<=r
       ·obtain⟨k,rfl⟩:∃k:Nat,r=(k:Int):=⟨r.toNat,by omega⟩
        obtain⟨rb,rc,hrc,hrl,hrm,hrB,hrow,hset⟩:=HMJ.out.cell (Nat.lt_succ_self i);obtain⟨hx0,hfx⟩:=hrow.cell (show k<xs.length by omega);have HSET:=hid hset;have HRB:=hid hrB;unfold maxLen at hrm;clear hrow hrB hset;go_wp2;go_roundw
        case rel=>exact⟨j+1,by omega,by go_num,(HSET.out k true).congr (λa _ b _=>Zcgx (λb=>by rw[Zcce HSJ.out,HR.out];simp[Bool.or_assoc]) a b),HBJ.out.setCell HRB.out _⟩
        case measure=>simp[intOf];omega
       ·go_wp2
        go_roundw
        case rel=>exact⟨j+1,by omega,by go_num,HMJ.out.congr (λa _ b _=>Zcgw (λb=>by rw[Zcce HSJ.out,HR.out,show(r==(b:Int))=false by simp;omega];simp) a b),HBJ.out⟩
        case measure=>simp[intOf];omega
      ·have hj1:¬(j:Int)<(x.after.length:Int):=by omega
       clear hmj hbj;go_wp2;go_roundw
       case rel=>exact⟨i+1,by omega,by go_num,HMJ.out.congr (λa _ b _=>Zcgv HX.out (λb=>by rw[List.take_of_length_le (l:=x.after) (by omega)]) a b),HBJ.out⟩
       case measure=>simp[intOf];omega
  ·obtain rfl:i=xs.length:=by omega
   have hi1:¬(xs.length:Int)<(xs.length:Int):=by omega
   clear hmat hbr;go_wp2;go_ret;exact⟨⟨_,rfl,HMAT.out⟩,HBR.out⟩
def fwJ (M:Nat->Nat->Bool) (k q j:Nat):Nat->Nat->Bool:=λa b=>if a<q∨(a=q/\b<j)then M a b||(M a k&&M k b)else M a b
theorem Zceo (M:Nat->Nat->Bool) (k q j:Nat):fwJ M k q j q k=M q k:=by
 unfold fwJ;split
 ·cases M q k<;>simp
 ·rfl
theorem Zcen (M:Nat->Nat->Bool) (k q j:Nat):fwJ M k q j q j=M q j:=by
 unfold fwJ;rw[if_neg (by omega)]
theorem Zcem (M:Nat->Nat->Bool) (k q j:Nat):fwJ M k q j k j=M k j:=by
 unfold fwJ;split
 ·cases M k j<;>simp
 ·rfl
theorem Zcer (M:Nat->Nat->Bool) (k a b:Nat):M a b=fwJ M k 0 0 a b:=by
 unfold fwJ;rw[if_neg (by omega)]
theorem Zceq {M:Nat->Nat->Bool} {k q j:Nat} {x:Bool} (h:M q k=true) (hx:x=(M q j||M k j)) (a b:Nat):upd (fwJ M k q j) q j x a b=fwJ M k q (j+1) a b:=by
 unfold upd
 by_cases e:a=q/\b=j
 ·obtain⟨rfl,rfl⟩:=e
  rw[if_pos ⟨rfl,rfl⟩];unfold fwJ;rw[if_pos (by omega),h,hx];simp
 ·rw[if_neg e]
  unfold fwJ
  by_cases g:a<q∨(a=q/\b<j)
  ·rw[if_pos g,if_pos (by omega)]
  ·rw[if_neg g,if_neg (by omega)]
theorem Zcep {M:Nat->Nat->Bool} {k q j:Nat} (h:M q k=false) (a b:Nat):fwJ M k q j a b=fwJ M k (q+1) 0 a b:=by
 unfold fwJ
 by_cases e:a=q
 ·subst e
  rw[if_pos (show a<a+1∨(a=a+1/\b<0) by omega),h];simp
 ·by_cases g:a<q
  ·rw[if_pos (by omega),if_pos (by omega)]
  ·rw[if_neg (by omega),if_neg (by omega)]
theorem Zcel {M:Nat->Nat->Bool} {k q n:Nat} (a b:Nat) (hb:b<n):fwJ M k q n a b=fwJ M k (q+1) 0 a b:=by
 unfold fwJ
 by_cases g:a<q+1
 ·rw[if_pos (by omega),if_pos (by omega)]
 ·rw[if_neg (by omega),if_neg (by omega)]
theorem Zcek {M:Nat->Nat->Bool} {k n:Nat} (a b:Nat) (ha:a<n):fwJ (fwK M k) k n 0 a b=fwK M (k+1) a b:=by
 unfold fwJ;rw[if_pos (by omega)];rfl
set_option maxRecDepth 100000 in
theorem Zcch {w:World} {ty:TypeId} {b n c:Nat} {f:Nat->Bool} (h:RowX w b n f) (h0:0<n) (hn:n<=1000):
  ∃g2 cap w',(Builtin.append_ #[94,94] ty #[.slice none 0 0,.slice (some ⟨b,0,none⟩) n c]).run prog w = .ok (.slice (some ⟨g2,0,none⟩) n cap) w'/\RowX w' g2 n f/\n<=cap/\cap<=maxLen/\w.heap.size<=g2/\w.grownBy w' none:=by
 obtain⟨i0,hi,hz,hs,hb⟩:=Zsv Zcfa;obtain⟨cur,h1,h2,h3⟩:=h;have hlen:(cur.toList.take n).length=n*1:=by rw[List.length_take,Array.length_toList];omega
 obtain⟨v',w',hr,ho,hg,_⟩:=run_append_own (P:=prog) w w.heap.size 94 ty 4 i0 (.bool false) 1 1 underlying94 hi hz hs hb rfl (by decide) (.slice none 0 0) 0 [] (World.ownsRow_nil w _ _ 1) ⟨b,0,none⟩ n c (cur.toList.take n) hlen
  (λj u hj=>by
   rw[List.getElem?_take]at hj;split at hj
   ·rw[Addr.add_lit]
    simp only[Nat.zero_add];rw[Array.getElem?_toList]at hj;simp[World.cell?,h1,hj]
   ·cases hj)
  (λu hu=>by
   obtain⟨k,hk⟩:=List.getElem?_of_mem hu;rw[List.getElem?_take]at hk;split at hk
   ·rename_i hkn
    have hx:=h3 k hkn;rw[Array.getElem?_toList,hx]at hk;injection hk with hk
    rw[<-hk];rfl
   ·cases hk)
  (by unfold maxLen;omega) (by omega) (Nat.le_refl _)
 rw[Nat.zero_add]at ho
 rcases ho.2 with⟨_,hz⟩|⟨g2,cap,cur2,rfl,hB,hg2,hnc,hcm,hcs,htk⟩
 ·omega
 ·refine⟨g2,cap,w',hr,⟨cur2,hg2,by omega,λk hk=>?_⟩,hnc,hcm,hB,hg⟩
  have hx:=h3 k hk;have e:=congrArg (λl:List Value=>l[k]?) htk;simp only[List.nil_append]at e;rw[List.getElem?_take,if_pos (by omega),List.getElem?_take,if_pos hk,Array.getElem?_toList,Array.getElem?_toList,hx]at e;exact e
set_option maxHeartbeats 8000000 in
set_option maxRecDepth 100000 in
theorem Zccv (g n B:Nat) (M:Nat->Nat->Bool) (w:World) (h:MatX B w g n n M) (hn:n<=1000):
  Calls prog 86 #[.slice (some ⟨g,0,none⟩) n n] w λe w'=>(∃g',e = .returned (.slice (some ⟨g',0,none⟩) n n)/\MatX w.heap.size w' g' n n (fwK M n))/\Below w.heap.size w w':=by
 have HM:=hid h;have hmk1:=Zcfn n hn;have HM0:Hid (∀cur:Array Value,cur.size=n->MatX w.heap.size (w.alloc (.cells cur 94)) w.heap.size n 0 M):=by show ∀cur:Array Value,_;exact λcur hc=>MatX.begin _ (Nat.le_refl _) hc
 have HB0:Hid (∀o,Below w.heap.size w (w.alloc o)):=by show ∀o,_;exact λo=>(Below.refl _ _).alloc (Nat.le_refl _) o
 clear h
 go_enter func86,ntmps86
 go_wp2_with fail
 go_loopw [5] (λiv wr=>∃i:Nat,i<=n/\iv = .int .i64 (i:Int)/\MatX w.heap.size wr w.heap.size n i M/\Below w.heap.size w wr) (λiv _=>n-(intOf iv).toNat)
 case atStart=>exact⟨0,Nat.zero_le _,rfl,HM0.out _ (size_madeCells _ _),HB0.out _⟩
 case round=>
  obtain⟨i,hi,rfl,hmat,hbr⟩:=hrel;obtain⟨WR,hWR⟩:∃V,wr=V:=⟨_,rfl⟩;rw[hWR]at hmat hbr⊢;clear hWR;have HMAT:=hid hmat;have HBR:=hid hbr
  by_cases hlt:i<n
  ·obtain⟨b,c,hc0,_,hcm,_,hrow,_⟩:=(HM.out.below hbr).cell hlt
   obtain⟨g2,cap,W2,hrun,hrow2,hcap,hcapm,hg2,hgr⟩:=Zcch (ty:=94) (c:=c) hrow (by omega) hn;have hk2:∀k,k<WR.heap.size->W2.heap[k]? =WR.heap[k]?:=λk hk=>hgr.block k hk (by simp)
   have hm2:MatX w.heap.size W2 w.heap.size n i M:=hmat.keep λk hk=>hgr.block k hk (by simp)
   obtain⟨u0,hu0,hf0⟩:=hm2.mat.slot hlt;have HR:=hid hrun;have HMN:Hid (MatX w.heap.size (W2.setCell ⟨w.heap.size,i,none⟩ (.slice (some ⟨g2,0,none⟩) n cap)) w.heap.size n (i+1) M):=hid ((hmat.setRow hk2 hrow2 hg2 (by have:=hbr.size;omega) hcap hcapm hlt).congr (λa _ b _=>by by_cases e:a=i<;>simp[e]));have HBN:Hid (Below w.heap.size w (W2.setCell ⟨w.heap.size,i,none⟩ (.slice (some ⟨g2,0,none⟩) n cap))):=hid ((Zfj hbr hgr hbr.size).setCell (Nat.le_refl _) _);have hi1:(i:Int)<(n:Int):=by omega
   have hi0:(0:Int)<=(i:Int):=by omega
   clear hmat hbr hrow hrun hrow2 hgr hm2 hk2
   go_wp2_with (at_builtin;refine Zbud (by rfl) _ _ 94 (by rfl) (by rfl) (by rfl) HR.out ?_)
   go_roundw
   case rel=>exact⟨i+1,by omega,by go_num,HMN.out,HBN.out⟩
   case measure=>simp[intOf];omega
  ·obtain rfl:i=n:=by omega
   have hi1:¬(i:Int)<(i:Int):=by omega
   clear hmat hbr
   go_wp2_with fail
   go_loopw [6] (λkv wr=>∃k:Nat,k<=i/\kv = .int .i64 (k:Int)/\MatX w.heap.size wr w.heap.size i i (fwK M k)/\Below w.heap.size w wr) (λkv _=>i-(intOf kv).toNat)
   case atStart=>exact⟨0,Nat.zero_le _,rfl,HMAT.out,HBR.out⟩
   case round=>
    obtain⟨k,hk,rfl,hmk,hbk⟩:=hrel;have HMK:=hid hmk;have HBK:=hid hbk;clear hmk hbk;obtain⟨C,hC⟩:∃C,fwK M k=C:=⟨_,rfl⟩;have HC:=hid hC
    by_cases hkl:k<i
    ·rw[hC]at HMK
     clear hC;have hk1:(k:Int)<(i:Int):=by omega
     have hk0:(0:Int)<=(k:Int):=by omega
     go_wp2_with fail
     go_loopw [7] (λqv wr=>∃q:Nat,q<=i/\qv = .int .i64 (q:Int)/\MatX w.heap.size wr w.heap.size i i (fwJ C k q 0)/\Below w.heap.size w wr) (λqv _=>i-(intOf qv).toNat)
     case atStart=>exact⟨0,Nat.zero_le _,rfl,HMK.out.congr (λa _ b _=>Zcer C k a b),HBK.out⟩
     case round=>
      obtain⟨q,hq,rfl,hmq,hbq⟩:=hrel;have HMQ:=hid hmq;have HBQ:=hid hbq;clear hmq hbq
      by_cases hql:q<i
      ·have hq1:(q:Int)<(i:Int):=by omega
       have hq0:(0:Int)<=(q:Int):=by omega
       go_wp2_with fail
       go_loopw [8] (λjv wr=>∃j:Nat,j<=i/\jv = .int .i64 (j:Int)/\MatX w.heap.size wr w.heap.size i i (fwJ C k q j)/\Below w.heap.size w wr) (λjv _=>i-(intOf jv).toNat)
       case atStart=>exact⟨0,Nat.zero_le _,rfl,HMQ.out,HBQ.out⟩
       case round=>
        obtain⟨j,hj,rfl,hmj,hbj⟩:=hrel;obtain⟨WJ,hWJ⟩:∃V,wr=V:=⟨_,rfl⟩;rw[hWJ]at hmj hbj⊢;clear hWJ;have HMJ:=hid hmj;have HBJ:=hid hbj
        by_cases hjl:j<i
        ·have hj1:(j:Int)<(i:Int):=by omega
         have hj0:(0:Int)<=(j:Int):=by omega
         have hd:decide ((j:Int)<(i:Int))=true:=decide_eq_true hj1;have hd':decide (j<i)=true:=decide_eq_true hjl;obtain⟨b1,c1,e1,l1,m1,B1,r1,s1⟩:=hmj.cell hql;obtain⟨b2,c2,e2,l2,m2,B2,r2,_⟩:=hmj.cell hkl;obtain⟨z1,f1⟩:=r1.cell hkl;obtain⟨z2,f2⟩:=r1.cell hjl;obtain⟨z3,f3⟩:=r2.cell hjl;rw[Zceo]at z1;rw[Zcen]at z2;rw[Zcem]at z3;obtain⟨x1,hx1⟩:∃x,C q k=x:=⟨_,rfl⟩;obtain⟨x2,hx2⟩:∃x,C q j=x:=⟨_,rfl⟩;obtain⟨x3,hx3⟩:∃x,C k j=x:=⟨_,rfl⟩;rw[hx1]at z1;rw[hx2]at z2;rw[hx3]at z3;have HX1:=hid hx1;have HX2:=hid hx2;have HX3:=hid hx3;have HS1:=hid s1;have HB1:=hid B1;unfold maxLen at m1 m2;clear hmj hbj r1 r2 s1 B1 B2 hx1 hx2 hx3
         cases x1
         ·go_wp2
          go_roundw
          case rel=>exact⟨q+1,by omega,by go_num,HMJ.out.congr (λa _ b _=>Zcep HX1.out a b),HBJ.out⟩
          case measure=>simp[intOf];omega
         ·have HST:Hid (∀x,x=(x2||x3)->MatX w.heap.size (WJ.setCell ⟨b1,j,none⟩ (.bool x)).drew w.heap.size i i (fwJ C k q (j+1))/\Below w.heap.size w (WJ.setCell ⟨b1,j,none⟩ (.bool x)).drew):=by
           show ∀x,_;intro x hx;exact⟨((HS1.out j x).congr (λa _ b _=>Zceq HX1.out (by rw[HX2.out,HX3.out];exact hx) a b)).below (Below.refl _ _).drew,(HBJ.out.setCell HB1.out _).drew⟩
          cases x2
          all_goals go_wp2_with fail
          all_goals go_region
          all_goals go_wp2
          all_goals go_roundw
          case rel=>exact⟨j+1,by omega,by go_num,(HST.out _ (by simp)).1,(HST.out _ (by simp)).2⟩
          case measure=>simp[intOf];omega
          case rel=>exact⟨j+1,by omega,by go_num,(HST.out _ (by simp)).1,(HST.out _ (by simp)).2⟩
          case measure=>simp[intOf];omega
        ·have hj1:¬(j:Int)<(i:Int):=by omega
         have hd:decide ((j:Int)<(i:Int))=false:=decide_eq_false hj1;have hd':decide (j<i)=false:=decide_eq_false hjl;clear hmj hbj;go_wp2;go_roundw
         case rel=>exact⟨q+1,by omega,by go_num,(HMJ.out.congr (λa _ b hb=>by rw[show j=i by omega];exact Zcel a b hb)),HBJ.out⟩
         case measure=>simp[intOf];omega
      ·have hq1:¬(q:Int)<(i:Int):=by omega
       go_wp2;go_roundw
       case rel=>exact⟨k+1,by omega,by go_num,(HMQ.out.congr (λa ha b _=>by rw[show q=i by omega,<-HC.out];exact Zcek a b ha)),HBQ.out⟩
       case measure=>simp[intOf];omega
    ·have hk1:¬(k:Int)<(i:Int):=by omega
     go_wp2;go_ret;exact⟨⟨_,rfl,by have:=HMK.out;rw[show k=i by omega]at this;exact this⟩,HBK.out⟩
end Go.Proofs.YtokogjhcidkckaaGreatDoor
