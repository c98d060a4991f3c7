import Derived.RangeFuncNested
import Derived.RangeFuncBound
import Derived.Test.YtphjfaoghphleaaGreatDoorMan
import Derived.StillTailTactics
set_option maxRecDepth 100000
set_option maxHeartbeats 4000000
namespace Go.Proofs.YtphjfaoghphleaaGreatDoor
section
open Go.Lib (hid)
open Go.Proofs.Tryz Go.RowKit
variable {F:Fence} {n:Nat} {P:Program}
def Zbw {α:Type} (F:Fence) (n:Nat) (P:Program) (g:Nat) (lb:Array Value) (encs:α->Array Value) (R Kp:World->World->Prop) (xs:List α) (w:World):Prop:=
 ∀(l:Nat) (J:List α->World->Prop) (W:World),Below w.heap.size w W->(∀s A B,J s A->R A B->J s B)->
  (∀(pre:List α) (x:α) (post:List α) (W1:World),xs=pre++x::post->J pre W1->YieldAt F (n-1) P l (encs x) W1 λe W'=>e = .returned (.bool true)/\J (pre ++ [x]) W'/\Kp W1 W')->
  J [] W->CallsIn F n P g (#[.func (.yield l) #[] #[]]++lb) W λe W'=>(∃v,e = .returned v)/\J xs W'
def Zqs (B:Nat) (Kp:World->World->Prop) (I:World->Prop) (W:World):Exit->Act->World->Prop
 | .normal,_,W'=>KeepsFrom B W W'/\Kp W W'/\I W'
 | _,_,_=>False
theorem KeepsFrom.at {B l:Nat} {o:Obj} {W a:World} (h:KeepsFrom B W a) (b:B<=l) (c:W.heap[l]? =some o) (d:o.isCells=false):a.heap[l]? =some o:=h.same l o b c d
theorem Zbuc {α:Type} {g:Operand} {ps:Array Tmp} {assign body:Code} {Q:Exit->Act->World->Prop} {a:Act} {w:World}
  (ax:F.round=none) (h1:1<=n) {gf:Nat} {lb:Array Value} (hg:a.eval g = .func (.func gf) #[] lb) (ac:F.fn gf) (eg:∀args w,(callFunc gf args).run P w = .ok (.enter gf args) w)
  {f:α->Array Value} {R k:World->World->Prop} {xs:List α} {w0:World} (Z:Zbw F (n-1) P gf lb f R k xs w0) (M:Below w0.heap.size w0 w) (aw:∀x,(f x).size=ps.size)
  (hR:∀A B,R A B->KeepsOthers A B) (m:∀A B C,k A B->k B C->k A C)
  (H:∀(W:World) (l:Nat) (o o':Obj),w.heap.size<=l->W.heap[l]? =some o->o.isCells=false->o.isWalk=false->k W (W.putObj l o'))
  (I:List α->World->Prop) (ad:∀s A B,I s A->R A B->I s B) (hI:OwnFrom w.heap.size I) (h0:I [] w) (E:α->Act->World->Prop)
  (ab:∀(x:α) (a':Act) (W:World) (l:Nat) (o o':Obj),E x a' W->w.heap.size<=l->W.heap[l]? =some o->o.isCells=false->E x a' (W.putObj l o'))
  (h:∀(l:Nat) (pre:List α) (x:α) (c:List α) (W:World) (K:Act->World->Prop),xs=pre++x::c->I pre W->(∀(a':Act) (G:World),KeepsFrom w.heap.size W G->k W G->I pre G->E x a' G->K a' G)->
   assign.wpIn (F.inRound l) (n-1-1) P (Exit.then K (λ_ _ _=>False)) { tmps:=(ps.zip (f x)).foldl (λt (p,v)=>t.setIfInBounds p v) a.tmps,defers:=[] } W)
  (q:∀(l:Nat) (pre:List α) (x:α) (c:List α) (a':Act) (W:World),xs=pre++x::c->I pre W->E x a' W->body.wpIn (F.inRound l) (n-1-1) P (Zqs w.heap.size k (I (pre ++ [x])) W) a' W)
  (r:∀(D:Nat) (W:World),w.heap.size<=D->I xs W->W.heap[D]? =some (.deferred (some []))->Q .normal { a with defers:={ target:= .collected D,args:=#[] } ::a.defers } W):
  (Code.rangeFunc g ps assign body).wpIn F n P Q a w:=by
 refine wpIn_rangeFunc λfn ap=>?_
 rw[ax]
 let D:=w.heap.size
 let L:=w.heap.size+1
 let b:LoopState->Loop:=λst=>{ state:=st,pending:=none,fn,tmps:=a.tmps,params:=ps,assign,body,defers:=D }
 obtain⟨V,J⟩:∃V,(w.alloc (.deferred (some []))).alloc (.loop (b .ready))=V:=⟨_,rfl⟩;have al:V.heap[L]? =some (.loop (b .ready)):=by
  have:=World.alloc_heap_new (w.alloc (.deferred (some []))) (.loop (b .ready));rw[World.size_alloc]at this;rw[<-J];exact this
 have aj:V.heap[D]? =some (.deferred (some [])):=by
  rw[<-J];exact(Below.heap_alloc _ _ _ (by simp[D])).trans (World.alloc_heap_new w _)
 have ak:I [] V:=by rw[<-J];exact hI.alloc _ (hI.alloc _ h0)
 have am:Below w0.heap.size w0 V:=by
  rw[<-J];exact M.trans ((((Below.refl _ w).alloc (Nat.le_refl _) _).alloc (by simp) _).mono M.size)
 have i:∀ {s:List α} {W:World} {o o':Obj},I s W->W.heap[L]? =some o->o.isCells=false->I s (W.putObj L o'):=λu d ho=>hI.putObj _ u (by simp[L]) d ho
 refine⟨L,[{ target:= .collected D,args:=#[] }],V,{ target:= .fn (.func gf) lb,args:=#[.func (.yield L) #[] #[]] },V,gf,#[.func (.yield L) #[] #[]]++lb,V,?_,?_,?_,?_,λ_=>h1,?_⟩
 ·rw[<-J];exact run_enterLoop_outer _ _ _ _ _
 ·simp only[resolve,hg]
  simp[go_sem]
 ·intro f' S;simp[Target.leads]at S;subst S;exact ac
 ·simp[invoke,go_sem,eg]
 refine(Z L (λs W=>I s W/\W.heap[L]? =some (.loop (b .ready))/\W.heap[D]? =some (.deferred (some []))) V am ?_ ?_ ⟨ak,al,aj⟩).mono ?_
 ·rintro s A B ⟨u,d,O⟩ hr
  exact⟨ad s A B u hr,(hR A B hr).same _ _ d rfl,(hR A B hr).same _ _ O rfl⟩
 ·rintro pre x c W0 hx ⟨aq,Y,ao⟩
  refine⟨fn,_,assign,body,run_yield Y (aw x),roundIn_of_wpIn ap (h L pre x c W0 _ hx aq λa' W T X u an=>?_)⟩;have d:=KeepsFrom.at T (by simp[L]) Y rfl;have O:=KeepsFrom.at T (by simp[D]) ao rfl;have av:L<W.heap.size:=(Array.getElem?_eq_some_iff.1 d).1;obtain⟨U,y⟩:∃U,W.putObj L (.loop (b .busy))=U:=⟨_,rfl⟩;have ai:U.heap[L]? =some (.loop (b .busy)):=by rw[<-y];exact World.putObj_heap_same av
  have af:U.heap[D]? =some (.deferred (some [])):=by rw[<-y];exact(World.putObj_heap_other (by simp[L,D])).trans O
  have ag:I pre U:=by rw[<-y];exact i u d rfl
  have ae:E x a' U:=by rw[<-y];exact ab _ _ _ _ _ _ an (by simp[L]) d rfl
  have ah:k W0 U:=by rw[<-y];exact m _ _ _ X (H _ _ _ _ (by simp[L]) d rfl rfl)
  refine⟨U,by rw[<-y];exact run_beginRound d rfl,wpIn_mono (q L pre x c a' U hx ag ae) ?_⟩;rintro e a3 W3 z
  cases e with
  | normal=>
   obtain⟨hk,au,ar⟩:=z;have j:=KeepsFrom.at hk (by simp[L]) ai rfl;have aa:=KeepsFrom.at hk (by simp[D]) af rfl;exact⟨_,_,run_endRound none j,rfl,⟨i ar j rfl,World.putObj_heap_same (Array.getElem?_eq_some_iff.1 j).1,(World.putObj_heap_other (by simp[L,D])).trans aa⟩,m _ _ _ (m _ _ _ ah au) (H _ _ _ _ (by simp[L]) j rfl rfl)⟩
  | ret=>exact z.elim
  | exit id=>exact z.elim
  | goto t=>exact z.elim
  | panic ch=>exact z.elim
  | outgrown=>exact z.elim
 ·rintro e W2 ⟨⟨v,rfl⟩,u,d,O⟩
  exact⟨none,_,run_endLoop d (by simp[b]),r D _ (Nat.le_refl _) (i u d rfl) ((World.putObj_heap_other (by simp[L,D])).trans O)⟩
theorem Zgj {W w1:World} {f B:Nat} {t e:TypeId} {b:Nat} {v v':Value} {k m:Nat} {xs ys:List Value} {c:Obj}
  (I:Boxed W B t v) (a:W.ownsRow f e b v k xs) (J:B<f) (K:f<=W.heap.size) (q:w1.ownsRow f e b v' m ys) (y:(W.alloc c).grownBy w1 v.ownBlock):
  Boxed w1 B t v/\Boxed (w1.setCell ⟨B,0,none⟩ v') B t v'/\(w1.setCell ⟨B,0,none⟩ v').ownsRow f e b v' m ys/\KeepsOthers W (w1.setCell ⟨B,0,none⟩ v')/\Below B W (w1.setCell ⟨B,0,none⟩ v')/\
   ∀j,j<f->j≠B->(w1.setCell ⟨B,0,none⟩ v').heap[j]? =W.heap[j]?:=by
 have d:∀ {X:World} {u:Value} {i:Nat} {E:List Value},X.ownsRow f e b u i E->∀j,u.ownBlock=some j->f<=j:=by
  intro X u i E h j l
  rcases h.2 with⟨rfl,_⟩|⟨g,z,A,rfl,G,_⟩
  ·simp[Value.ownBlock]at l
  ·obtain rfl:g=j:=by simpa[Value.ownBlock]using l
   exact G
 have w:Boxed w1 B t v:=(I.alloc c).kept y λs=>by have:=d a B s.symm;omega
 have r:∀j,j<f->w1.heap[j]? =W.heap[j]?:=λj l=>(y.block j (by simp;omega) λs=>by have:=d a j s.symm;omega).trans (Below.heap_alloc W c j (by omega))
 refine⟨w,w.set v',q.kept (grownBy_setCell' w1 B v') ?_,?_,?_,λj l D=>(Below.heap_setCell w1 _ _ j D).trans (r j l)⟩
 ·cases H:v'.ownBlock with
  | none=>exact .inl rfl
  | some j=>exact .inr λs=>by have:=d q j H;simp at s;omega
 ·refine((KeepsOthers.alloc W c).trans (KeepsOthers.of_grownBy y λj o x l=>?_)).trans (KeepsOthers.setCell _ _ _)
  rcases(a.alloc c).2 with⟨rfl,_⟩|⟨g,z,A,rfl,_,C,_⟩
  ·simp[Value.ownBlock]at x
  ·obtain rfl:g=j:=by simpa[Value.ownBlock]using x
   rw[C]at l;cases l;rfl
 ·exact(((Below.refl B W).alloc (by omega) c).grown y (by simp;omega) λj x=>by have:=d a j x;omega).setCell (p:=⟨B,0,none⟩) (Nat.le_refl _) v'
end
open Go.Lib (hid)
open Go.Proofs.Tryz Go.RowKit Go.Shelf
structure Rs (sb:Nat) (A B:World):Prop where
 os:B.os=A.os
 tape:B.tape=A.tape
 output:B.output=A.output
 size:B.heap.size=A.heap.size
 same:∀k,k≠sb->B.heap[k]? =A.heap[k]?
 kind:∀o,A.heap[sb]? =some o->o.isCells=false->B.heap[sb]? =some o
theorem Rs.below {b c:Nat} {W A B:World} (h:Rs c A B) (a:Below b W A) (e:b<=c):Below b W B:=
 ⟨h.os.trans a.os,h.tape.trans a.tape,h.output.trans a.output,by rw[h.size];exact a.size,λk d=>(h.same k (by omega)).trans (a.block k d)⟩
section
attribute [local go_sem] Oper.semAt_some
end
def valE (v:ValT):Value:= .agg #[.bool v.1,.string v.2]
theorem Zsr:(prog.info? 9).map (λi=>(i.zero,i.size,i.bytes))=some (some (.string ⟨#[]⟩),1,16):=by kernel_rfl
open Go.Sort
structure ChgB (w:World) (x:StepS) (a1 a2:Option Addr) (c1 c2:Nat) (W1:World):Prop where
 size:W1.heap.size=w.heap.size+1+1
 below:Below w.heap.size w W1
 cells:∀W,Below W1.heap.size W1 W->W.cell? ⟨w.heap.size,0,none⟩=some (.string x.out)/\W.cell? ⟨w.heap.size,1,none⟩=some (.int .i64 x.op)/\W.cell? ⟨w.heap.size,2,none⟩=some (.slice a1 x.args.length c1)/\W.cell? ⟨w.heap.size,3,none⟩=some (.slice a2 x.lits.length c2)/\W.cell? ⟨w.heap.size,4,none⟩=some (.int .i64 x.n)
 res:∀W,Below W1.heap.size W1 W->W.heap[w.heap.size+1]? =some (.cells #[.bool false,.string ⟨#[]⟩] 143)
theorem ChgB.val {w:World} {x:StepS} {b c:Option Addr} {d e:Nat} {a:World} (h:ChgB w x b c d e a) {W:World} (f:Below a.heap.size a W):W.cell? ⟨w.heap.size+1,0,none⟩=some (.bool false)/\W.cell? ⟨w.heap.size+1,1,none⟩=some (.string ⟨#[]⟩)/\W.frozen? ⟨w.heap.size+1,0,none⟩=false/\W.frozen? ⟨w.heap.size+1,1,none⟩=false:=Zih (h.res W f)
open Go.Maps
def EnvIs (w:World) (b n:Nat) (e:ByteArray->ValT):Prop:=∃m,MapIs prog 9 w b m/\(∀k,getM m k (valE noV)=valE (e k))/\m.length<=n
theorem EnvIs.below {B b n:Nat} {w w':World} {e:ByteArray->ValT} (h:EnvIs w b n e) (g:Below B w w') (a:b<B):EnvIs w' b n e:=by
 obtain⟨m,c,d,f⟩:=h;exact⟨m,c.below g a,d,f⟩
theorem EnvIs.heap {b n:Nat} {w w':World} {e:ByteArray->ValT} (h:EnvIs w b n e) (f:w'.heap[b]? =w.heap[b]?):EnvIs w' b n e:=by
 obtain⟨m,a,c,d⟩:=h;exact⟨m,a.heap f,c,d⟩
theorem EnvIs.lt {b n:Nat} {w:World} {e:ByteArray->ValT} (h:EnvIs w b n e):b<w.heap.size:=by obtain⟨m,a,_⟩:=h;exact a.lt
theorem EnvIs.put {b n:Nat} {w:World} {e:ByteArray->ValT} (h:EnvIs w b n e) (p:n<=1000000000) (k:ByteArray) (j:k.size<=maxLen) (v:ValT):
  ∃w',(Instr.mapUpdate 182 (.map (some b)) (.string k) (valE v)).run prog w = .ok () w'/\EnvIs w' b (n+1) (setE e k v)/\w.mapTurned w' b:=by
 obtain⟨m,c,f,o⟩:=h;obtain⟨w',r,i,l⟩:=c.put underlying9 underlying182 (by unfold maxLen;omega) k j (valE v);refine⟨w',r,⟨_,i,λd=>?_,?_⟩,l⟩
 ·unfold setE
  by_cases a:d=k
  ·subst a;rw[if_pos rfl,Zqj]
  ·rw[if_neg a,Zqi _ _ _ (λe=>a e.symm)];exact f d
 ·obtain⟨D,_,_,_,_,g⟩:=c
  rw[Zbfq g];split<;>omega
theorem Zbux (w:World):(zeroValue 143).run prog w = .ok (.agg #[.bool false,.string ⟨#[]⟩]) w:=zeroValue143 w
theorem EnvIs.look {b n:Nat} {w:World} {e:ByteArray->ValT} (h:EnvIs w b n e) (k:ByteArray) (d:k.size<=maxLen):
  (Instr.lookup 182 (.map (some b)) (.string k) false).run prog w = .ok (valE (e k)) w:=by
 obtain⟨m,a,c,_⟩:=h;rw[<-c k];exact a.look underlying9 underlying182 (Zbux w) k d
def ValRow (w:World) (g:Nat) (vs:List ValT):Prop:=∃cur,w.heap[g]? =some (.cells cur 143 (0,0))/\cur.size=vs.length*2/\∀(j:Nat) x,vs[j]? =some x->cur[j*2]? =some (.bool x.1)/\cur[j*2+1]? =some (.string x.2)
theorem ValRow.heap {w w':World} {g:Nat} {vs:List ValT} (h:ValRow w g vs) (b:w'.heap[g]? =w.heap[g]?):ValRow w' g vs:=by
 obtain⟨a,c,r⟩:=h;exact⟨a,b.trans c,r⟩
theorem ValRow.cells {w:World} {g:Nat} {vs:List ValT} (h:ValRow w g vs) {j:Nat} {x:ValT} (hx:vs[j]? =some x):w.cell? ⟨g,j*2,none⟩=some (.bool x.1)/\w.cell? ⟨g,j*2+1,none⟩=some (.string x.2)/\w.frozen? ⟨g,j*2,none⟩=false/\w.frozen? ⟨g,j*2+1,none⟩=false:=by
 obtain⟨b,a,f,e⟩:=h;obtain⟨c,d⟩:=e j x hx;refine⟨?_,?_,?_,?_⟩
 ·simp only[World.cell?,a,Option.isSome_none,Bool.false_eq_true,if_false];exact c
 ·simp only[World.cell?,a,Option.isSome_none,Bool.false_eq_true,if_false];exact d
 ·simp[World.frozen?,a]
 ·simp[World.frozen?,a]
theorem ValRow.set {w:World} {g:Nat} {vs:List ValT} (h:ValRow w g vs) (k:Nat) (u:ValT) (l:k<vs.length):ValRow ((w.setCell ⟨g,k*2,none⟩ (.bool u.1)).setCell ⟨g,k*2+1,none⟩ (.string u.2)) g (vs.set k u):=by
 obtain⟨c,i,a,f⟩:=h;refine⟨_,heap_set _ _ (heap_set _ _ i),by simp[a],λj x hx=>?_⟩;rw[List.getElem?_set]at hx
 by_cases b:k=j
 ·subst b
  rw[if_pos rfl,if_pos l]at hx;obtain rfl:=Option.some.inj hx;constructor
  ·rw[Array.getElem?_setIfInBounds_ne (by omega),Array.getElem?_setIfInBounds_self_of_lt (by rw[a];omega)]
  ·rw[Array.getElem?_setIfInBounds_self_of_lt (by simp[a];omega)]
 ·rw[if_neg b]at hx
  obtain⟨d,e⟩:=f j x hx;constructor
  ·rw[Array.getElem?_setIfInBounds_ne (by omega),Array.getElem?_setIfInBounds_ne (by omega)];exact d
  ·rw[Array.getElem?_setIfInBounds_ne (by omega),Array.getElem?_setIfInBounds_ne (by omega)];exact e
theorem Ztz {w:World} {a:Option Addr} {n c:Nat} {xs:List ByteArray} (h:IsStrs w (.slice a n c) xs):xs≠[]->∃b o,a=some ⟨b,o,none⟩/\b<w.heap.size/\True:=by
 obtain⟨i,j,e,_,_,h⟩:=h;intro d;obtain⟨b,o,f,g,_⟩:=h d;exact⟨b,o,(Value.slice.inj e).1.trans f,g,trivial⟩
def IdxPost (n:Nat) (p:Nat->Bool) (J:Nat->World->Prop) (e:Ending) (w':World):Prop:=∃k,k<=n/\(∀j,j<k->p j=false)/\((k=n/\e = .returned (.int .i64 (-1))/\J n w')\/(k<n/\p k=true/\e = .returned (.int .i64 (k:Int))/\J (k+1) w'))
def ConPost (n:Nat) (p:Nat->Bool) (J:Nat->World->Prop) (e:Ending) (w':World):Prop:=∃k,k<=n/\(∀j,j<k->p j=false)/\((k=n/\e = .returned (.bool false)/\J n w')\/(k<n/\p k=true/\e = .returned (.bool true)/\J (k+1) w'))
theorem IdxPost.con {n:Nat} {p:Nat->Bool} {J:Nat->World->Prop} {e:Ending} {w':World} (h:IdxPost n p J e w'):∃i:Int,e = .returned (.int .i64 i)/\ConPost n p J (.returned (.bool (decide (0<=i)))) w':=by
 obtain⟨k,a,b,⟨rfl,rfl,c⟩|⟨d,f,rfl,g⟩⟩:=h
 ·exact⟨-1,rfl,k,a,b,.inl ⟨rfl,rfl,c⟩⟩
 ·exact⟨k,rfl,k,a,b,.inr ⟨d,f,by rw[decide_eq_true (Int.natCast_nonneg k)],g⟩⟩
theorem ConPost.any {n:Nat} {p:Nat->Bool} {J:Nat->World->Prop} {e:Ending} {w':World} (h:ConPost n p J e w'):e = .returned (.bool ((List.range n).any p))/\((∃k,k<=n/\J k w')):=by
 obtain⟨k,g,b,⟨rfl,rfl,c⟩|⟨a,d,rfl,f⟩⟩:=h
 ·refine⟨?_,k,Nat.le_refl _,c⟩
  rw[show(List.range k).any p=false by rw[List.any_eq_false];intro x hx;rw[b x (List.mem_range.1 hx)];decide]
 ·refine⟨?_,k+1,a,f⟩
  rw[show(List.range n).any p=true by rw[List.any_eq_true];exact⟨k,List.mem_range.2 a,d⟩]
section
theorem Zsi (d:Nat) (i:Array Value) (Q:∀h w,(callFunc d h).run prog w = .ok (.enter d h) w) (a:Option Addr) (n c:Nat) (M:n<=maxLen) (x:Nat->ByteArray) (p:Nat->Bool) (J:Nat->World->Prop) (w:World)
  (A:∀k W,k<n->J k W->∃b o,a=some ⟨b,o,none⟩/\W.cell? ⟨b,o+k,none⟩=some (.string (x k))) (B:∀k W,k<n->(∀j,j<k->p j=false)->J k W->Calls prog d (#[.string (x k)]++i) W λe H=>e = .returned (.bool (p k))/\J (k+1) H) (h0:J 0 w):
  Calls prog 114 #[.slice a n c,.func (.func d) #[] i] w (IdxPost n p J):=by
 have E:=hid A;have F:=hid B;have D:=hid h0;unfold maxLen at M;clear A B h0
 go_enter func114,ntmps114
 go_wp2
 go_loopw [5,8] (λ_ z wr=>∃k:Nat,k<=n/\z = .int .i64 (k:Int)/\(∀j,j<k->p j=false)/\J k wr) (λ_ z _=>n-(intOf z).toNat)
 case atStart=>exact⟨0,Nat.zero_le _,rfl,λj C=>absurd C (Nat.not_lt_zero _),D.out⟩
 case round=>
  obtain⟨k,L,rfl,g,s⟩:=hrel;have m:=hid g;have G:=hid s
  by_cases q:k<n
  ·obtain⟨b,o,I,P⟩:=E.out k wr q s
   subst I;have r:=F.out k wr q g s;have y:(k:Int)<(n:Int):=by omega
   have K:(0:Int)<=(k:Int):=by omega
   cases t:p k with
   | true=>
    rw[t]at r;have v:=hid t;have u:=hid r;clear g s r t
    go_wp2_with (go_at_fn d;refine u.out.mono ?_;rintro e O ⟨rfl,f⟩;have l:=hid f;clear f)
    go_ret;exact⟨k,L,m.out,.inr ⟨q,v.out,rfl,l.out⟩⟩
   | false=>
    rw[t]at r;have v:=hid t;have u:=hid r;clear g s r t
    go_wp2_with (go_at_fn d;refine u.out.mono ?_;rintro e O ⟨rfl,f⟩;have l:=hid f;clear f)
    go_roundw
    case rel=>
     refine⟨k+1,by omega,by go_num,λj C=>?_,l.out⟩
     by_cases e:j=k
     ·subst e;exact v.out
     ·exact m.out j (by omega)
    case measure=>simp[intOf];omega
  ·have y:¬(k:Int)<(n:Int):=by omega
   obtain rfl:k=n:=by omega
   clear g s;go_wp2;go_ret;exact⟨k,Nat.le_refl _,m.out,.inl ⟨rfl,rfl,G.out⟩⟩
theorem Zsh (d:Nat) (i:Array Value) (Y:∀h w,(callFunc d h).run prog w = .ok (.enter d h) w) (a:Option Addr) (n c:Nat) (Q:n<=maxLen) (v0 C D E F:Nat->Value) (p:Nat->Bool) (J:Nat->World->Prop) (w:World)
  (z:∀k W,k<n->J k W->∃b o,a=some ⟨b,o,none⟩/\W.cell? ⟨b,o+k*5,none⟩=some (v0 k)/\W.cell? ⟨b,o+k*5+1,none⟩=some (C k)/\W.cell? ⟨b,o+k*5+2,none⟩=some (D k)/\W.cell? ⟨b,o+k*5+3,none⟩=some (E k)/\W.cell? ⟨b,o+k*5+4,none⟩=some (F k)) (A:∀k W,k<n->(∀j,j<k->p j=false)->J k W->Calls prog d (#[.agg #[v0 k,C k,D k,E k,F k]]++i) W λe L=>e = .returned (.bool (p k))/\J (k+1) L) (h0:J 0 w):
  Calls prog 264 #[.slice a n c,.func (.func d) #[] i] w (IdxPost n p J):=by
 have H:=hid z;have I:=hid A;have G:=hid h0;unfold maxLen at Q;clear z A h0
 go_enter func264,ntmps264
 go_wp2
 go_loopw [5,8] (λ_ y wr=>∃k:Nat,k<=n/\y = .int .i64 (k:Int)/\(∀j,j<k->p j=false)/\J k wr) (λ_ y _=>n-(intOf y).toNat)
 case atStart=>exact⟨0,Nat.zero_le _,rfl,λj B=>absurd B (Nat.not_lt_zero _),G.out⟩
 case round=>
  obtain⟨k,P,rfl,g,s⟩:=hrel;have m:=hid g;have K:=hid s
  by_cases q:k<n
  ·obtain⟨b,o,M,S,T,U,V,X⟩:=H.out k wr q s
   subst M;have r:=I.out k wr q g s;have x:(k:Int)<(n:Int):=by omega
   have O:(0:Int)<=(k:Int):=by omega
   cases t:p k with
   | true=>
    rw[t]at r;have v:=hid t;have u:=hid r;clear g s r t
    go_wp2_with (go_at_fn d;refine u.out.mono ?_;rintro e R ⟨rfl,f⟩;have l:=hid f;clear f)
    go_ret;exact⟨k,P,m.out,.inr ⟨q,v.out,rfl,l.out⟩⟩
   | false=>
    rw[t]at r;have v:=hid t;have u:=hid r;clear g s r t
    go_wp2_with (go_at_fn d;refine u.out.mono ?_;rintro e R ⟨rfl,f⟩;have l:=hid f;clear f)
    go_roundw
    case rel=>
     refine⟨k+1,by omega,by go_num,λj B=>?_,l.out⟩
     by_cases e:j=k
     ·subst e;exact v.out
     ·exact m.out j (by omega)
    case measure=>simp[intOf];omega
  ·have x:¬(k:Int)<(n:Int):=by omega
   obtain rfl:k=n:=by omega
   clear g s;go_wp2;go_ret;exact⟨k,Nat.le_refl _,m.out,.inl ⟨rfl,rfl,K.out⟩⟩
theorem Zsg (d:Nat) (i:Array Value) (Y:∀h w,(callFunc d h).run prog w = .ok (.enter d h) w) (a:Option Addr) (n c:Nat) (Q:n<=maxLen) (v0 C D E F:Nat->Value) (p:Nat->Bool) (J:Nat->World->Prop) (w:World)
  (z:∀k W,k<n->J k W->∃b o,a=some ⟨b,o,none⟩/\W.cell? ⟨b,o+k*5,none⟩=some (v0 k)/\W.cell? ⟨b,o+k*5+1,none⟩=some (C k)/\W.cell? ⟨b,o+k*5+2,none⟩=some (D k)/\W.cell? ⟨b,o+k*5+3,none⟩=some (E k)/\W.cell? ⟨b,o+k*5+4,none⟩=some (F k)) (A:∀k W,k<n->(∀j,j<k->p j=false)->J k W->Calls prog d (#[.agg #[v0 k,C k,D k,E k,F k]]++i) W λe L=>e = .returned (.bool (p k))/\J (k+1) L) (h0:J 0 w):
  Calls prog 167 #[.slice a n c,.func (.func d) #[] i] w (IdxPost n p J):=by
 have H:=hid z;have I:=hid A;have G:=hid h0;unfold maxLen at Q;clear z A h0
 go_enter func167,ntmps167
 go_wp2
 go_loopw [5,8] (λ_ y wr=>∃k:Nat,k<=n/\y = .int .i64 (k:Int)/\(∀j,j<k->p j=false)/\J k wr) (λ_ y _=>n-(intOf y).toNat)
 case atStart=>exact⟨0,Nat.zero_le _,rfl,λj B=>absurd B (Nat.not_lt_zero _),G.out⟩
 case round=>
  obtain⟨k,P,rfl,g,s⟩:=hrel;have m:=hid g;have K:=hid s
  by_cases q:k<n
  ·obtain⟨b,o,M,S,T,U,V,X⟩:=H.out k wr q s
   subst M;have r:=I.out k wr q g s;have x:(k:Int)<(n:Int):=by omega
   have O:(0:Int)<=(k:Int):=by omega
   cases t:p k with
   | true=>
    rw[t]at r;have v:=hid t;have u:=hid r;clear g s r t
    go_wp2_with (go_at_fn d;refine u.out.mono ?_;rintro e R ⟨rfl,f⟩;have l:=hid f;clear f)
    go_ret;exact⟨k,P,m.out,.inr ⟨q,v.out,rfl,l.out⟩⟩
   | false=>
    rw[t]at r;have v:=hid t;have u:=hid r;clear g s r t
    go_wp2_with (go_at_fn d;refine u.out.mono ?_;rintro e R ⟨rfl,f⟩;have l:=hid f;clear f)
    go_roundw
    case rel=>
     refine⟨k+1,by omega,by go_num,λj B=>?_,l.out⟩
     by_cases e:j=k
     ·subst e;exact v.out
     ·exact m.out j (by omega)
    case measure=>simp[intOf];omega
  ·have x:¬(k:Int)<(n:Int):=by omega
   obtain rfl:k=n:=by omega
   clear g s;go_wp2;go_ret;exact⟨k,Nat.le_refl _,m.out,.inl ⟨rfl,rfl,K.out⟩⟩
theorem Zkk (f:Nat) (d:Array Value) (m:∀g w,(callFunc f g).run prog w = .ok (.enter f g) w) (a:Option Addr) (n c:Nat) (s:n<=maxLen) (x:Nat->ByteArray) (p:Nat->Bool) (J:Nat->World->Prop) (w:World)
  (q:∀k W,k<n->J k W->∃b o,a=some ⟨b,o,none⟩/\W.cell? ⟨b,o+k,none⟩=some (.string (x k))) (r:∀k W,k<n->(∀j,j<k->p j=false)->J k W->Calls prog f (#[.string (x k)]++d) W λe t=>e = .returned (.bool (p k))/\J (k+1) t) (h0:J 0 w):
  Calls prog 131 #[.slice a n c,.func (.func f) #[] d] w (ConPost n p J):=by
 have C:=hid (Zsi f d m a n c s x p J w q r h0);clear q r h0 s m
 go_enter func131,ntmps131
 go_wp2_with (go_at_call 114;refine C.out.mono ?_;rintro e v u;obtain⟨i,rfl,h⟩:=u.con;have l:=hid h;clear h)
 go_ret;exact l.out
theorem Zkj (f:Nat) (d:Array Value) (t:∀g w,(callFunc f g).run prog w = .ok (.enter f g) w) (a:Option Addr) (n c:Nat) (x:n<=maxLen) (v0 m q r s:Nat->Value) (p:Nat->Bool) (J:Nat->World->Prop) (w:World)
  (u:∀k W,k<n->J k W->∃b o,a=some ⟨b,o,none⟩/\W.cell? ⟨b,o+k*5,none⟩=some (v0 k)/\W.cell? ⟨b,o+k*5+1,none⟩=some (m k)/\W.cell? ⟨b,o+k*5+2,none⟩=some (q k)/\W.cell? ⟨b,o+k*5+3,none⟩=some (r k)/\W.cell? ⟨b,o+k*5+4,none⟩=some (s k)) (v:∀k W,k<n->(∀j,j<k->p j=false)->J k W->Calls prog f (#[.agg #[v0 k,m k,q k,r k,s k]]++d) W λe y=>e = .returned (.bool (p k))/\J (k+1) y) (h0:J 0 w):
  Calls prog 209 #[.slice a n c,.func (.func f) #[] d] w (ConPost n p J):=by
 have C:=hid (Zsh f d t a n c x v0 m q r s p J w u v h0);clear u v h0 x t
 go_enter func209,ntmps209
 go_wp2_with (go_at_call 264;refine C.out.mono ?_;rintro e A z;obtain⟨i,rfl,h⟩:=z.con;have l:=hid h;clear h)
 go_ret;exact l.out
end
def Zae (w:World) (b:Nat) (L ks:List ByteArray) (e:Ending) (w':World):Prop:=e = .returned (.bool (decide ((addS L ks).length=L.length+ks.length)))/\SetIs w' b (addS L ks)/\w.grownBy w' (some b)/\w'.heap.size=w.heap.size
theorem Zha (b:Nat) (L:List ByteArray) (J:Value) (ks:List ByteArray) (w:World) (D:SetIs w b L) (O:IsStrs w J ks) (r:∀g o c,ks≠[]->J = .slice (some ⟨g,o,none⟩) ks.length c->g≠b) (hn:L.length+ks.length<=4000000000000000) (Q:∀k∈ks,k.size<=maxLen):
  Calls prog 169 #[.map (some b),J] w (Zae w b L ks):=by
 obtain⟨ka,kc,rfl,Y,F,s⟩:=O;have S:Hid (∀(k:Nat) x,ks[k]? =some x->∃g o,ka=some ⟨g,o,none⟩/\∀K,w.grownBy K (some b)->K.cell? ⟨g,o+k,none⟩=some (.string x)):=by
  show ∀(k:Nat) x,_;intro k x hx;have t:ks≠[]:=by rintro rfl;simp at hx
  obtain⟨g,o,rfl,W,V⟩:=s t;exact⟨g,o,rfl,λK Z=>(World.cell?_of_block (Z.block g W (λe=>r g o kc t rfl (by cases e;rfl)))).trans (V k x hx)⟩
 have U:=hid Q;have A:=hid D;have i:=D.len underlying216 3;unfold maxLen at F;clear s Q D r
 go_enter func169,ntmps169
 go_wp2
 go_loopw [7,12,13,14,15,16,17,18,19] (λ_ I _ _ _ _ _ _ _ wr=>∃k:Nat,k<=ks.length/\I = .int .i64 (k:Int)/\SetIs wr b (addS L (ks.take k))/\w.grownBy wr (some b)/\wr.heap.size=w.heap.size) (λ_ I _ _ _ _ _ _ _ _=>ks.length-(intOf I).toNat)
 case atStart=>exact⟨0,Nat.zero_le _,rfl,by simpa[addS]using A.out,Zrh _ _,rfl⟩
 case round=>
  obtain⟨k,O,rfl,a,j,n⟩:=hrel;have M:=hid n;have y:=hid j
  by_cases G:k<ks.length
  ·obtain⟨x,hx⟩:∃x,ks[k]? =some x:=⟨ks[k],List.getElem?_eq_getElem G⟩
   obtain⟨g,o,q1,p⟩:=S.out k x hx;subst q1;have cx:=p _ y.out;have E:(k:Int)<(ks.length:Int):=by omega
   have X:(0:Int)<=(k:Int):=by omega
   have u:=Zco (ks.take k) L;rw[List.length_take]at u;obtain⟨w3,P,f,h⟩:=a.put underlying216 (by omega) x (U.out x (List.mem_of_getElem? hx));rw[<-Zcq L hx]at f;have B:=hid f;have z:=hid (y.out.trans h.grown);have C:Hid (w3.heap.size=w.heap.size):=hid (by obtain⟨_,_,_,_,_,e⟩:=h;rw[e];show(wr.heap.setIfInBounds b _).size=_;rw[Array.size_setIfInBounds];exact M.out);clear a j p hx u f h n i;go_wp2;go_roundw
   case rel=>exact⟨k+1,by omega,by go_num,B.out,z.out,C.out⟩
   case measure=>simp[intOf];omega
  ·have E:¬(k:Int)<(ks.length:Int):=by omega
   have d:SetIs wr b (addS L ks):=by rw[List.take_of_length_le (by omega)]at a;exact a
   have u:=Zco ks L;have l:=d.len underlying216 3;have R:=hid d;obtain⟨m,H⟩:∃m,(addS L ks).length=m:=⟨_,rfl⟩;rw[H]at l u;have T:=hid H;have q:((m:Int)==(L.length:Int)+(ks.length:Int))=decide (m=L.length+ks.length):=by rw[Bool.eq_iff_iff,beq_iff_eq,decide_eq_true_eq];omega
   have v:=hid q;clear a j n d H i q;go_wp2;go_ret;exact⟨by rw[T.out];exact congrArg (λb=>Ending.returned (.bool b)) v.out,R.out,y.out,M.out⟩
theorem Zbuw (w:World):(zeroValue 111).run prog w = .ok (.agg #[]) w:=zeroValue111 w
theorem Zhg (b c:Nat) (L:List ByteArray) (k:ByteArray) (w:World) (f:Boxed w c 216 (.map (some b))) (g:SetIs w b L) (j:k.size<=maxLen):
  Calls prog 222 #[.string k,.pointer (some ⟨c,0,none⟩)] w λe w'=>e = .returned (.bool (!inS L k))/\Below w.heap.size w w':=by
 have a:=λW (h:Below w.heap.size w W)=>(g.below h g.lt).look underlying216 (Zbuw W) k j
 have d:=λW (h:Below w.heap.size w W)=>Boxed.cell (show Boxed W c 216 (.map (some b))from(h.block c f.lt).trans f)
 obtain⟨r,i⟩:∃r,inS L k=r:=⟨_,rfl⟩;rw[i]at a⊢;have mixed:prog.follows .mixedOrders=true:=by kernel_rfl
 have m:=a w (Below.refl _ _);have l:=d w (Below.refl _ _);clear i
 go_enter func222,ntmps222
 go_wp2;go_ret;exact⟨rfl,by first|exact(Below.refl _ _).alloc (Nat.le_refl _) _|exact below_drewN ((Below.refl _ _).alloc (Nat.le_refl _) _) 1⟩
theorem Zdm (xs:List ByteArray) (q:ByteArray->Bool):(List.range xs.length).any (λk=>q (xs.getD k ⟨#[]⟩))=xs.any q:=by
 rw[Bool.eq_iff_iff,List.any_eq_true,List.any_eq_true];constructor
 ·rintro⟨k,a,h⟩
  have a:=List.mem_range.1 a;refine⟨xs[k],List.getElem_mem a,?_⟩
  rwa [List.getD_eq_getElem?_getD,List.getElem?_eq_getElem a]at h
 ·rintro⟨x,hx,h⟩
  obtain⟨k,a,e⟩:=List.getElem_of_mem hx;refine⟨k,List.mem_range.2 a,?_⟩
  rwa [List.getD_eq_getElem?_getD,List.getElem?_eq_getElem a,e]
theorem getD_at {xs:List ByteArray} {k:Nat} (h:k<xs.length):xs[k]? =some (xs.getD k ⟨#[]⟩):=by
 rw[List.getD_eq_getElem?_getD,List.getElem?_eq_getElem h];rfl
theorem Zqe {xs:List ByteArray} {k:Nat} (h:k<xs.length):xs.getD k ⟨#[]⟩∈xs:=List.mem_of_getElem? (getD_at h)
theorem Zki (f:Nat) (d:Array Value) (r:∀g w,(callFunc f g).run prog w = .ok (.enter f g) w) (v:Value) (xs:List ByteArray) (q:ByteArray->Bool) (B:Nat) (w:World) (u:B<=w.heap.size) (p:∀W,Below B w W->IsStrs W v xs)
  (z:∀x∈xs,∀W,Below B w W->Calls prog f (#[.string x]++d) W λe m=>e = .returned (.bool (q x))/\Below W.heap.size W m):
  Calls prog 131 #[v,.func (.func f) #[] d] w λe w'=>e = .returned (.bool (xs.any q))/\Below B w w':=by
 obtain⟨a,c,rfl,s,t,n⟩:=p w (Below.refl _ _);refine(Zkk f d r a xs.length c (Nat.le_trans s t) (λk=>xs.getD k ⟨#[]⟩) (λk=>q (xs.getD k ⟨#[]⟩)) (λ_ W=>Below B w W) w (λk W l i=>?_) (λk W l _ i=>?_) (Below.refl _ _)).mono ?_
 ·obtain⟨A,C,e,_,_,n⟩:=p W i
  cases e
  have hx:=getD_at l;obtain⟨b,o,rfl,j,y⟩:=n (by rintro rfl;simp at l);exact⟨b,o,rfl,y k _ hx⟩
 ·refine(z _ (Zqe l) W i).mono ?_
  rintro e m ⟨rfl,j⟩;exact⟨rfl,i.trans (j.mono (Nat.le_trans u i.size))⟩
 ·intro e w' h
  obtain⟨rfl,k,_,j⟩:=h.any;exact⟨by rw[Zdm],j⟩
theorem Zhh (b:Nat) (L:List ByteArray) (v:Value) (ks:List ByteArray) (w:World) (m:SetIs w b L) (o:IsStrs w v ks) (q:∀k∈ks,k.size<=maxLen):
  Calls prog 171 #[.map (some b),v] w λe w'=>e = .returned (.bool (ks.all (inS L)))/\Below w.heap.size w w':=by
 obtain⟨W1,d⟩:∃W,w.alloc (.cells #[.map (some b)] 216)=W:=⟨_,rfl⟩;have c:Below w.heap.size w W1:=by rw[<-d];exact(Below.refl _ _).alloc (Nat.le_refl _) _
 have f:Boxed W1 w.heap.size 216 (.map (some b)):=by rw[<-d];exact Boxed.new w _ _
 have h:=f.lt;have a:=m.below c m.lt;have l:=Zki 222 #[.pointer (some ⟨w.heap.size,0,none⟩)] (enters_of func222 (by kernel_rfl) rfl) v ks (λx=> !inS L x) W1.heap.size W1 (Nat.le_refl _) (λW i=>o.below (c.trans (i.mono c.size))) (λx hx W i=>Zhg b w.heap.size L x W ((i.block _ h).trans f) (a.below i a.lt) (q x hx));have e:(!ks.any λx=> !inS L x)=ks.all (inS L):=by rw[<-List.not_all_eq_any_not];simp
 obtain⟨r,p⟩:∃r,(ks.any λx=> !inS L x)=r:=⟨_,rfl⟩;rw[p]at l e;rw[<-e];have s:=hid l;have g:=hid c;have j:=hid d;clear m o q c f h a l e p d
 go_enter func171,ntmps171
 go_wp2_with (go_at_call 131;rw[j.out];refine s.out.mono ?_;rintro e t ⟨rfl,n⟩)
 go_ret;exact⟨rfl,g.out.trans (n.mono g.out.size)⟩
theorem Zdiy {xs ys:List ByteArray} (g:xs.Perm ys):srtB xs=srtB ys:=by
 have f:∀l:List (List UInt8),(srtL l).Pairwise λx y=>decide (x<=y)=true:=λl=>by
  unfold srtL;exact List.pairwise_mergeSort (λa b c d e=>by simp only[decide_eq_true_eq]at *;exact List.le_trans d e) (λa b=>by simp only[Bool.or_eq_true,decide_eq_true_eq];exact List.le_total a b) l
 unfold srtB
 congr 1
 refine List.Perm.eq_of_pairwise (le:=λx y=>decide (x<=y)=true) (λa b _ _ d e=>?_) (f _) (f _) ?_
 ·exact List.le_antisymm (of_decide_eq_true d) (of_decide_eq_true e)
 ·unfold srtL
  exact(List.mergeSort_perm _ _).trans ((g.map _).trans (List.mergeSort_perm _ _).symm)
abbrev NE:=ByteArray×Value×List ByteArray
def nkv (L:List NE):List KV:=L.map λe=>(.string e.1,e.2.1)
def hasN (L:List NE) (x:ByteArray):Bool:=L.any λe=>decide (e.1=x)
def Zdae (L:List NE) (e:NE):Bool:= !(e.2.2.any (hasN L))
def Zdgw (L:List NE):List ByteArray:=(L.filter (Zdae L)).map (·.1)
theorem Zcxh (a b:ByteArray):(a==b)=decide (a=b):=by
 cases a;cases b
 rename_i x y
 show(x==y)=_;rw[Bool.eq_iff_iff];simp
theorem Zczi (x:ByteArray):∀(b:List MapEntry) (L:List NE) (i:Nat),b.map kvE=nkv L->∃q,Instr.findNow .string (.string x) b i=some q/\q.isSome=hasN L x
 | [],L,i,h=>by
  have:L = []:=by cases L with
   | nil=>rfl
   | cons _ _=>simp[nkv]at h
  subst this;exact⟨none,rfl,rfl⟩
 | e::b,L,i,h=>by
  cases L with
  | nil=>simp[nkv]at h
  | cons a L=>
   simp only[nkv,List.map_cons,List.cons.injEq]at h;obtain⟨d,f⟩:=h;have g:e.key = .string a.1:=congrArg Prod.fst d;obtain⟨q,j,c⟩:=Zczi x b L (i+1) f;simp only[Instr.findNow,g,Instr.sameNow];unfold hasN at c⊢;rw[List.any_cons]
   by_cases hx:a.1=x
   ·subst hx
    refine⟨some (i,e.val),?_,by simp⟩;rw[Zcxh,decide_eq_true rfl]
   ·refine⟨q,?_,by rw[decide_eq_false hx,Bool.false_or];exact c⟩
    rw[Zcxh,decide_eq_false (λe=>hx e.symm)];exact j
theorem RM.look_str {P:Program} {w:World} {b:Nat} {L:List NE} (h:RM w b (nkv L)) {t d e:TypeId} (i:P.underlying t=some (.map d e)) (c:P.underlying d=some .string) {z:Value} (n:∀w,(zeroValue e).run P w = .ok z w) (x:ByteArray):
  ∃u,(Instr.lookup t (.map (some b)) (.string x) true).run P w = .ok (.tuple #[u,.bool (hasN L x)]) w:=by
 obtain⟨l,o,g,m,_⟩:=h;obtain⟨q,j,k⟩:=Zczi x l.toList L 0 m;have a:∀f,(Instr.checkKey f 10000 d (.string x)).run P w = .ok () w:=λf=>by
  have:(10000:Nat)=9999+1:=rfl;rw[this];generalize 9999=D;simp[Instr.checkKey,run_underlying c]
 cases q with
 | none=>
  refine⟨z,?_⟩;rw[<-k];simp[Instr.lookup,run_underlying i,MapKept.run_getObj_map g,a,Instr.findKey,run_underlying c,j,n]
 | some p=>
  refine⟨p.2,?_⟩;rw[<-k];simp[Instr.lookup,run_underlying i,MapKept.run_getObj_map g,a,Instr.findKey,run_underlying c,j]
theorem Zdkd:∀w,(zeroValue 47).run prog w = .ok (.slice none 0 0) w:=zeroValue47
theorem Zcxa (f a:Nat) (L:List NE) (x:ByteArray) (w:World) (b:Boxed w a 108 (.map (some f))) (c:RM w f (nkv L)):
  Calls prog 132 #[.string x,.pointer (some ⟨a,0,none⟩)] w λe w'=>e = .returned (.bool (hasN L x))/\Below w.heap.size w w':=by
 have h:=Boxed.cell b;obtain⟨u,g⟩:=c.look_str (P:=prog) underlying108 underlying9 Zdkd x;obtain⟨r,d⟩:∃r,hasN L x=r:=⟨_,rfl⟩;rw[d]at g⊢;have mixed:prog.follows .mixedOrders=true:=by kernel_rfl
 clear d c b
 go_enter func132,ntmps132
 go_wp2;go_ret;exact⟨rfl,by first|exact Below.refl _ _|exact(Below.refl _ _).alloc (Nat.le_refl _) _⟩
theorem Zcxb (h:Nat) (L:List NE) (v:Value) (xs:List ByteArray) (w:World) (m:RM w h (nkv L)) (o:IsStrs w v xs):
  Calls prog 94 #[.map (some h),v] w λe w'=>e = .returned (.bool (xs.any (hasN L)))/\Below w.heap.size w w':=by
 have mixed:prog.follows .mixedOrders=true:=by kernel_rfl
 obtain⟨W1,b⟩:∃W,w.alloc (.cells #[.map (some h)] 108)=W:=⟨_,rfl⟩;have a:Below w.heap.size w W1:=by rw[<-b];exact(Below.refl _ _).alloc (Nat.le_refl _) _
 have c:Boxed W1 w.heap.size 108 (.map (some h)):=by rw[<-b];exact Boxed.new w _ _
 have g:=c.lt;have d:=m.below a m.lt;have k:=Zki 132 #[.pointer (some ⟨w.heap.size,0,none⟩)] (enters_of func132 (by kernel_rfl) rfl) v xs (hasN L) W1.heap.size W1 (Nat.le_refl _) (λW i=>o.below (a.trans (i.mono a.size))) (λx hx W i=>Zcxa h w.heap.size L x W ((i.block _ g).trans c) (d.below i d.lt));obtain⟨r,n⟩:∃r,xs.any (hasN L)=r:=⟨_,rfl⟩;rw[n]at k⊢;have p:=hid k;have f:=hid a;have j:=hid b;clear m o a c g d k n b
 go_enter func94,ntmps94
 go_wp2_with (go_at_call 131;rw[j.out];refine p.out.mono ?_;rintro e q ⟨rfl,l⟩)
 go_ret;exact⟨rfl,f.out.trans (l.mono f.out.size)⟩
theorem Zdbn:(prog.info? 9).map (λi=>(i.zero,i.size,i.bytes))=some (some (.string ⟨#[]⟩),1,16):=by kernel_rfl
theorem Zdey {L:List NE} {k v:Value} (h:(k,v)∈nkv L):∃e∈L,k = .string e.1/\v=e.2.1:=by
 obtain⟨x,hx,e⟩:=List.mem_map.1 h
 cases e
 exact⟨x,hx,rfl,rfl⟩
theorem Zdeo {L:List NE} (c:(L.map (·.1)).Nodup) {x y:NE} (hx:x∈L) (d:y∈L) (h:x.1=y.1):x=y:=by
 induction L with
 | nil=>cases hx
 | cons e g f=>
  rw[List.map_cons,List.nodup_cons]at c
  rcases List.mem_cons.1 hx with rfl|a<;>rcases List.mem_cons.1 d with rfl|b
  ·rfl
  ·exact absurd (by rw[h];exact List.mem_map_of_mem b) c.1
  ·exact absurd (by rw[<-h];exact List.mem_map_of_mem a) c.1
  ·exact f c.2 a b
theorem Zdez {S L:List NE} (c:(L.map (·.1)).Nodup) (f:∀e∈S,e∈L) (k:(nkv S).Perm (nkv L)):S.Perm L:=by
 have a:∀M:List NE,(nkv M).map (λp:KV=>match p.1 with | .string s=>s|_=>(⟨#[]⟩:ByteArray))=M.map (·.1):=λM=>by
  unfold nkv;rw[List.map_map];rfl
 have b:(S.map (·.1)).Perm (L.map (·.1)):=by
  have:=k.map (λp:KV=>match p.1 with | .string s=>s|_=>(⟨#[]⟩:ByteArray))
  rwa [a,a]at this
 have j:(S.map (·.1)).Nodup:=b.nodup_iff.2 c;have i:∀ {M:List NE},(M.map (·.1)).Nodup->M.Nodup:=λh=>List.Pairwise.of_map (·.1) (λ_ _ d e=>d (congrArg _ e)) h
 refine(List.perm_ext_iff_of_nodup (i j) (i c)).2 λx=>⟨f x,λhx=>?_⟩
 have:x.1∈S.map (·.1):=b.mem_iff.2 (List.mem_map_of_mem hx);obtain⟨y,g,e⟩:=List.mem_map.1 this;obtain rfl:=Zdeo c (f y g) hx e;exact g
def seenN (w:World) (r:Nat):Nat:=match w.heap[r]? with
 | some (.mapIter _ _ seen _)=>seen.size
 | _=>0
theorem RI.seenN {w:World} {b r:Nat} {f ss:List KV} (h:RI w b r f ss):seenN w r=ss.length:=by
 obtain⟨k,j,c,d,i,g,_,_,_,_,e,_,_,_,_,a,_,rfl⟩:=h;unfold Go.Proofs.YtphjfaoghphleaaGreatDoor.seenN;rw[e];have:=congrArg List.length a;simpa using this
def Zcwq (w:World) (xs:List ByteArray) (e:Ending) (w':World):Prop:=∃v,e = .returned v/\OwnStrs w.heap.size w' v xs/\(xs = []->v = .slice none 0 0)/\Below w.heap.size w w'
theorem Zdha (mb:Nat) (L:List NE) (w:World) (hm:RM w mb (nkv L)) (hv:∀e∈L,IsStrs w e.2.1 e.2.2) (az:(L.map (·.1)).Nodup) (hn:L.length<=1000000):
  Calls prog 70 #[.map (some mb)] w (Zcwq w (srtB (Zdgw L))):=by
 have mixed:prog.follows .mixedOrders=true:=by kernel_rfl
 obtain⟨i0,hi,aN,aO,aP⟩:=info_parts Zdbn;obtain⟨ob,aR,f⟩:=hm.range (P:=prog) underlying108;have aU:=hm.lt;have ar:Below w.heap.size w (w.alloc ob):=(Below.refl _ _).alloc (Nat.le_refl _) ob;have aD:=hid f;have a5:=hid ar;have HV:=hid hv;have a9:=hid az;have ak:=hid hn;clear hm f ar hv az hn
 go_enter func70,ntmps70
 go_wp2
 go_loopw [3] (λv wr=>∃S:List NE,(∀e∈S,e∈L)/\v.ownBlock≠some w.heap.size/\(v = .slice none 0 0\/(S.filter (Zdae L)).map (·.1)≠[])/\OwnStrs w.heap.size wr v ((S.filter (Zdae L)).map (·.1))/\RI wr mb w.heap.size (nkv L) (nkv S)/\Below w.heap.size w wr) (λ_ wr=>L.length-seenN wr w.heap.size)
 case atStart=>exact⟨[],by simp,by simp[Value.ownBlock],.inl rfl,World.ownsRow_nil _ _ _ _,aD.out,a5.out⟩
 case round=>
  obtain⟨S,D,F,y,b,f,o⟩:=hrel;obtain⟨WR,rfl⟩:∃V,V=wr:=⟨_,rfl⟩;have af:=f.seenN
  rcases f.next (P:=prog) 0 with⟨s,M⟩|⟨k,v,W2,aw,E,M,d,ac,aK,aH⟩
  ·have ad:=Zdez a9.out D s
   have a1:((S.filter (Zdae L)).map (·.1)).Perm (Zdgw L):=(ad.filter _).map _;have t:=Zdiy a1;obtain⟨xs,ah⟩:∃xs,(S.filter (Zdae L)).map (·.1)=xs:=⟨_,rfl⟩;have aM:xs.length<=8796093022208:=by
    rw[<-ah,List.length_map];have h1:=List.length_filter_le (Zdae L) S;have h2:=ad.length_eq;have:=ak.out;omega
   rw[ah]at b t y;have Y:=hid t;have W:=hid o;have Z:=hid y;clear f s o ad a1 af F D t ah y
   rcases b.2 with⟨rfl,h0⟩|⟨g,aF,aT,rfl,au,ae⟩
   ·have aL:=List.eq_nil_of_length_eq_zero h0
    subst aL;clear b
    go_wp2_with fail
    refine(Zbmj _ _ _).mono ?_;rintro e w3 ⟨rfl,rfl⟩;go_wp2;go_ret;refine⟨_,rfl,?_,λ_=>rfl,W.out⟩;rw[<-Y.out,show srtB [] = [] by simp[srtB,Go.Proofs.YtphjfaoghphleaaGreatDoor.srtL]];exact World.ownsRow_nil _ _ _ _
   ·have cS:=Zbmi w.heap.size g aF xs WR b aM
    have CS:=hid cS;have a6:=hid au;clear b cS ae au
    go_wp2_with fail
    refine CS.out.mono ?_;rintro e w3 ⟨rfl,q1,q2⟩;have Q1:=hid q1;have Q2:=hid q2;clear q1 q2;go_wp2;go_ret;refine⟨_,rfl,?_,λh0=>?_,W.out.grown Q2.out W.out.size (λk e=>by cases e;exact a6.out)⟩;rotate_left
    ·rw[<-Y.out]at h0
     have ax:=congrArg List.length h0;rw[Zbnb]at ax
     rcases Z.out with hq|hq
     ·cases hq
     ·exact absurd (List.eq_nil_of_length_eq_zero ax) hq
    rw[<-Y.out];have:=Q1.out;unfold OwnStrs at this⊢
    rwa [Zbnb]at this⊢
  ·obtain⟨e,he,rfl,rfl⟩:=Zdey aw
   have q:OwnStrs w.heap.size W2 u3 ((S.filter (Zdae L)).map (·.1)):=World.ownsRow.kept b ac (.inr F);have aV:w.heap.size<WR.heap.size:=f.lt;have l:Below w.heap.size w W2:=o.grown ac o.size (λk e=>by cases e;exact Nat.le_refl _);rw[show nkv S ++ [(Value.string e.1,e.2.1)]=nkv (S ++ [e]) by simp[nkv]]at d;have aq:∀x∈S ++ [e],x∈L:=λx hx=>by
    rcases List.mem_append.1 hx with hx|hx
    ·exact D x hx
    ·simp at hx;subst hx;exact he
   have R:=d.seenN;have ay:(S ++ [e]).length<=L.length:=by simp only[nkv,List.length_map]at E;simp;omega
   have aa:=Zcxb mb L e.2.1 e.2.2 W2 d.rm ((HV.out e he).below l);have av:(S ++ [e]).filter (Zdae L)=if Zdae L e then S.filter (Zdae L) ++ [e]else S.filter (Zdae L):=by
    rw[List.filter_append]
    cases hf:Zdae L e<;>simp[hf]
   have ab:Zdae L e = !(e.2.2.any (hasN L)):=rfl;obtain⟨rr,a2⟩:∃rr,e.2.2.any (hasN L)=rr:=⟨_,rfl⟩;rw[a2]at aa ab;obtain⟨en,ev,n⟩:=e;have aJ:=l.size;have a3:=d.lt;have an:=hid d;have al:=hid l;have ao:=hid aq;have ai:=hid aa;have A:=hid av;have z:=hid ab;have aB:=hid q;have C:=hid F;have Z:=hid y;have HM:Hid (L.length-seenN W2 w.heap.size<L.length-seenN WR w.heap.size):=by
    show _<_;rw[af,R];simp only[nkv,List.length_map]at E⊢;simp;omega
   have aQ:S.length<=1000000:=by simp only[nkv,List.length_map]at E;have:=ak.out;omega
   clear f o b aw E d l af R ay aa av ab a2 aq q F y ac aK he D
   dsimp only at ai M aH
   go_wp2_with fail
   refine ai.out.mono ?_;rintro e3 w3 ⟨rfl,c⟩;have aS:=c.size;have J:=an.out.below c (by omega) a3;have a:OwnStrs w.heap.size w3 u3 ((S.filter (Zdae L)).map (·.1)):=World.ownsRow.kept (row:=none) aB.out ⟨c.os,c.tape,c.output,c.size,λi hi _=>c.block i hi⟩ (by cases u3.ownBlock<;>simp);have H:Below w.heap.size w w3:=al.out.trans (c.mono aJ);have O:seenN w3 w.heap.size=seenN W2 w.heap.size:=by unfold seenN;rw[c.block _ a3]
   have X:=hid J;have am:=hid a;have B:=hid H;have aj:=hid O;clear c J a H O
   cases rr with
   | true=>
    go_wp2;go_roundw
    case rel=>
     refine⟨S ++ [(en,ev,n)],ao.out,C.out,?_,?_,X.out,B.out⟩
     ·rw[A.out,z.out]
      exact Z.out
     ·rw[A.out,z.out]
      exact am.out
    case measure=>rw[aj.out];exact HM.out
   | false=>
    have a:=am.out
    go_wp2_with (at_builtin;refine wpList_append_own_at _ rfl _ _ 47 rfl w.heap.size 9 i0 _ 1 16 underlying47 hi aN aO aP rfl (by decide) _ _ _ rfl (World.ownsRow.alloc a _) ⟨w3.heap.size,0,none⟩ 1 1 [.string en] rfl rfl ?c1 ?c2 ?c3 ?c4 ?c5 ?_)
    case c1=>
     intro j u hj
     match j,hj with
     | 0,hj=>simp at hj;subst hj;simp[Addr.add]
    case c2=>intro u hu;simp at hu;subst hu;rfl
    case c3=>have:=List.length_filter_le (Zdae L) S;rw[List.length_map];unfold maxLen;omega
    case c4=>have:=List.length_filter_le (Zdae L) S;rw[List.length_map];omega
    case c5=>have:=B.out.size;simp;omega
    intro v' w4 p h a0 G;have a4:=B.out.size;have I:Below w.heap.size w w4:=(B.out.alloc a4 _).grown h (by simp;omega) (λg hg=>(a.lt g hg).1);have ag:w.heap.size<w3.heap.size:=X.out.lt;have T:v'.ownBlock≠some w.heap.size:=by
     rcases G with hq|hq<;>rw[hq]
     ·exact C.out
     ·intro e2
      have:=Option.some.inj e2;omega
    have m:∀k,k<w3.heap.size->some k≠u3.ownBlock->w4.heap[k]? =w3.heap[k]?:=λk hk aI=>by
     rw[h.block k (by simp;omega) aI,(MapKept.heap_alloc _ _).2 k hk]
    have K:RI w4 mb w.heap.size (nkv L) (nkv (S ++ [(en,ev,n)])):=by
     refine X.out.heap (m _ (by omega) ?_) (m _ ag ?_)
     ·intro e2
      have:=(a.lt mb e2.symm).1;omega
     ·intro e2;exact C.out e2.symm
    have Q:seenN w4 w.heap.size=seenN w3 w.heap.size:=by
     unfold seenN;rw[m _ ag (λe2=>C.out e2.symm)]
    have r:OwnStrs w.heap.size w4 v' (((S ++ [(en,ev,n)]).filter (Zdae L)).map (·.1)):=by
     rw[A.out,z.out];unfold OwnStrs;simpa using p
    have U:v' = .slice none 0 0\/((S ++ [(en,ev,n)]).filter (Zdae L)).map (·.1)≠[]:=by
     rw[A.out,z.out];exact .inr (by simp)
    have ap:=hid U;have aC:=hid K;have a8:=hid I;have aE:=hid T;have a7:=hid Q;have aA:=hid r;clear p h a0 G I ag T m K Q r a U;go_wp2;go_roundw
    case rel=>exact⟨S ++ [(en,ev,n)],ao.out,aE.out,ap.out,aA.out,aC.out,a8.out⟩
    case measure=>rw[a7.out,aj.out];exact HM.out
