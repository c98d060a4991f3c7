import Derived.Test.YtcpjfpdecklkgaaGreatDoorMbl
namespace Go.Proofs.YtcpjfpdecklkgaaGreatDoor
open Go.Lib (hid)
open Go.Proofs.Tryz
open Go.RowKit Go.Shelf Go.Maps
theorem Zdl:∀(l:List Obj) (w:World) (k:Nat),k<w.heap.size->(l.foldl World.alloc w).heap[k]? =w.heap[k]?
 | [],_,_,_=>rfl
 | o::l,w,k,h=>(Zdl l (w.alloc o) k (by rw[World.size_alloc];omega)).trans (Below.heap_alloc w o k h)
theorem Zdk:∀(l:List Obj) (w:World) (i:Nat) o,l[i]? =some o->(l.foldl World.alloc w).heap[w.heap.size+i]? =some o
 | [],_,_,_,h=>by simp at h
 | o0::l,w,0,o,h=>by
  obtain rfl:o0=o:=by simpa using h
  exact(Zdl l (w.alloc o0) w.heap.size (by rw[World.size_alloc];omega)).trans (World.alloc_heap_new w o0)
 | o0::l,w,i+1,o,h=>by
  have:=Zdk l (w.alloc o0) i o (by simpa using h);rw[World.size_alloc]at this;rw[List.foldl_cons,show w.heap.size+(i+1)=w.heap.size+1+i by omega];exact this
theorem Zbsm {w:World} {v:Value} {x y:ValT} (h:Zbb w v [x,y]):∃b o c,v = .slice (some ⟨b,o,none⟩) 2 c/\2<=c/\c<=maxLen/\∀W,Below w.heap.size w W->W.cell? ⟨b,o,none⟩=some (.bool x.1)/\W.cell? ⟨b,o+1,none⟩=some (.string x.2)/\W.cell? ⟨b,o+2,none⟩=some (.bool y.1)/\W.cell? ⟨b,o+3,none⟩=some (.string y.2):=by
 obtain⟨a,c,rfl,h1,h2,h3⟩:=h;obtain⟨b,o,rfl,hb,hc⟩:=h3 (by simp);obtain⟨p0,p1⟩:=hc 0 x rfl;obtain⟨q0,q1⟩:=hc 1 y rfl;simp only[Nat.zero_mul,Nat.add_zero]at p0 p1;exact⟨b,o,c,rfl,h1,h2,λW hW=>⟨(hW.cell (p:=⟨b,_,none⟩) hb).trans p0,(hW.cell (p:=⟨b,_,none⟩) hb).trans p1,(hW.cell (p:=⟨b,_,none⟩) hb).trans q0,(hW.cell (p:=⟨b,_,none⟩) hb).trans q1⟩⟩
theorem Zbsg {w:World} {b:Nat} {xs:List ValT} (h:w.heap[b]? =some (.cells (xs.flatMap λx=>[Value.bool x.1,.string x.2]).toArray 46 (0,0))) (hn:xs.length<=maxLen):Zbb w (.slice (some ⟨b,0,none⟩) xs.length xs.length) xs:=by
 refine⟨_,_,rfl,Nat.le_refl _,hn,λ_=>⟨b,0,rfl,(Array.getElem?_eq_some_iff.1 h).1,λj x hx=>?_⟩⟩;have key:∀(xs:List ValT) (j:Nat) x,xs[j]? =some x->(xs.flatMap λx=>[Value.bool x.1,.string x.2])[j*2]? =some (.bool x.1)/\(xs.flatMap λx=>[Value.bool x.1,.string x.2])[j*2+1]? =some (.string x.2):=by
  intro xs
  induction xs with
  | nil=>intro j x hx;simp at hx
  | cons y ys ih=>
   intro j x hx
   cases j with
   | zero=>
     obtain rfl:y=x:=by simpa using hx
     exact⟨rfl,rfl⟩
   | succ j=>
    obtain⟨h1,h2⟩:=ih j x (by simpa using hx);rw[List.flatMap_cons,Nat.succ_mul];exact⟨h1,h2⟩
 obtain⟨h1,h2⟩:=key xs j x hx;simp only[World.cell?,h,Option.isSome_none,Bool.false_eq_true,if_false,List.getElem?_toArray,Nat.zero_add];exact⟨h1,h2⟩
theorem Zbqj {w:World} {b:Nat} {xs:List ByteArray} (h:w.heap[b]? =some (.cells (xs.map Value.string).toArray 9 (0,0))) (hn:xs.length<=maxLen):IsStrs w (.slice (some ⟨b,0,none⟩) xs.length xs.length) xs:=ValRw.strs h hn
theorem Zbil {w:World} {b k:Nat} {t:TypeId} {rows:List (List Value)} (h:w.heap[b]? =some (.cells rows.flatten.toArray t (0,0))) (hk:∀r∈rows,r.length=k) (hn:rows.length<=maxLen):IsRow w (.slice (some ⟨b,0,none⟩) rows.length rows.length) k rows:=by
 have hl:rows.flatten.length=rows.length*k:=by
  clear h hn
  induction rows with
  | nil=>simp
  | cons r rows ih=>rw[List.flatten_cons,List.length_append,ih (λr hr=>hk r (by simp[hr])),hk r (by simp),List.length_cons,Nat.succ_mul];omega
 exact Zbij (B:=0) ⟨hl,.inr ⟨b,rows.length,_,rfl,Nat.zero_le _,h,Nat.le_refl _,hn,by rw[List.size_toArray,hl],by rw[List.toList_toArray,<-hl,List.take_length]⟩⟩ hk
theorem Zbqk (w:World):IsStrs w (.slice none 0 0) []:=⟨none,0,rfl,Nat.le_refl _,Nat.zero_le _,λh=>absurd rfl h⟩
def begO (n:Nat):List Obj:=[.cells #[.string ⟨#[97]⟩,.string ⟨#[98]⟩] 9,.cells #[.string ⟨#[120]⟩,.string ⟨#[121]⟩] 9,.cells #[.string ⟨#[97]⟩] 9,.cells #[.string ⟨#[116]⟩] 9,.cells #[.string ⟨#[98]⟩] 9,.cells #[.string ⟨#[116]⟩,.int .i64 3,.slice (some ⟨n+1+1,0,none⟩) 1 1,.slice none 0 0,.int .i64 0,.string ⟨#[120]⟩,.int .i64 4,.slice (some ⟨n+1+1+1,0,none⟩) 1 1,.slice none 0 0,.int .i64 0,.string ⟨#[121]⟩,.int .i64 2,.slice (some ⟨n+1+1+1+1,0,none⟩) 1 1,.slice none 0 0,.int .i64 0] 34,.cells #[.string ⟨#[114]⟩,.slice (some ⟨n,0,none⟩) 2 2,.slice (some ⟨n+1,0,none⟩) 2 2,.slice none 0 0,.slice (some ⟨n+1+1+1+1+1,0,none⟩) 3 3] 37]
def begW (w:World) (n:Nat):World:=(begO n).foldl World.alloc w
structure BegR (n:Nat) (W:World):Prop where
 rule:RuleI W [.string ⟨#[114]⟩,.slice (some ⟨n,0,none⟩) 2 2,.slice (some ⟨n+1,0,none⟩) 2 2,.slice none 0 0,.slice (some ⟨n+1+1+1+1+1,0,none⟩) 3 3] rB
 box:W.heap[n+1+1+1+1+1+1]? =some (.cells #[.string ⟨#[114]⟩,.slice (some ⟨n,0,none⟩) 2 2,.slice (some ⟨n+1,0,none⟩) 2 2,.slice none 0 0,.slice (some ⟨n+1+1+1+1+1,0,none⟩) 3 3] 37 (0,0))
 steps:W.heap[n+1+1+1+1+1]? =some (.cells #[.string ⟨#[116]⟩,.int .i64 3,.slice (some ⟨n+1+1,0,none⟩) 1 1,.slice none 0 0,.int .i64 0,.string ⟨#[120]⟩,.int .i64 4,.slice (some ⟨n+1+1+1,0,none⟩) 1 1,.slice none 0 0,.int .i64 0,.string ⟨#[121]⟩,.int .i64 2,.slice (some ⟨n+1+1+1+1,0,none⟩) 1 1,.slice none 0 0,.int .i64 0] 34 (0,0))
 args:IsStrs W (.slice (some ⟨n+1+1,0,none⟩) 1 1) [⟨#[97]⟩]
theorem Zey (w:World) (n:Nat) (h:w.heap.size=n):(begW w n).heap.size=n+7:=by unfold begW begO;simp[h]
theorem Zex (w:World) (n:Nat) (h:w.heap.size=n):Below n w (begW w n):=by
 unfold begW begO;simp only[List.foldl_cons,List.foldl_nil];rw[<-h];exact(((((((Below.refl _ _).alloc (Nat.le_refl _) _).alloc (by simp) _).alloc (by simp<;>omega) _).alloc (by simp<;>omega) _).alloc (by simp<;>omega) _).alloc (by simp<;>omega) _).alloc (by simp<;>omega) _
theorem Zew (w:World) (n:Nat) (h:w.heap.size=n) (W:World) (hW:Below (n+7) (begW w n) W):BegR n W:=by
 have hk:∀k,k<n+7->W.heap[k]? =(begW w n).heap[k]?:=λk hk=>hW.block k hk
 have b0:W.heap[n]? =some (.cells ([⟨#[97]⟩,⟨#[98]⟩].map Value.string).toArray 9 (0,0)):=(hk _ (by omega)).trans (by have:=Zdk (begO n) w 0 _ rfl;rw[h]at this;exact this);have b1:W.heap[n+1]? =some (.cells ([⟨#[120]⟩,⟨#[121]⟩].map Value.string).toArray 9 (0,0)):=(hk _ (by omega)).trans (by have:=Zdk (begO n) w 1 _ rfl;rw[h]at this;exact this);have b2:W.heap[n+1+1]? =some (.cells ([⟨#[97]⟩].map Value.string).toArray 9 (0,0)):=(hk _ (by omega)).trans (by have:=Zdk (begO n) w 2 _ rfl;rw[h]at this;exact this);have b3:W.heap[n+1+1+1]? =some (.cells ([⟨#[116]⟩].map Value.string).toArray 9 (0,0)):=(hk _ (by omega)).trans (by have:=Zdk (begO n) w 3 _ rfl;rw[h]at this;exact this);have b4:W.heap[n+1+1+1+1]? =some (.cells ([⟨#[98]⟩].map Value.string).toArray 9 (0,0)):=(hk _ (by omega)).trans (by have:=Zdk (begO n) w 4 _ rfl;rw[h]at this;exact this);have b5:W.heap[n+1+1+1+1+1]? =some (.cells #[.string ⟨#[116]⟩,.int .i64 3,.slice (some ⟨n+1+1,0,none⟩) 1 1,.slice none 0 0,.int .i64 0,.string ⟨#[120]⟩,.int .i64 4,.slice (some ⟨n+1+1+1,0,none⟩) 1 1,.slice none 0 0,.int .i64 0,.string ⟨#[121]⟩,.int .i64 2,.slice (some ⟨n+1+1+1+1,0,none⟩) 1 1,.slice none 0 0,.int .i64 0] 34 (0,0)):=(hk _ (by omega)).trans (by have:=Zdk (begO n) w 5 _ rfl;rw[h]at this;exact this);have b6:W.heap[n+1+1+1+1+1+1]? =some (.cells #[.string ⟨#[114]⟩,.slice (some ⟨n,0,none⟩) 2 2,.slice (some ⟨n+1,0,none⟩) 2 2,.slice none 0 0,.slice (some ⟨n+1+1+1+1+1,0,none⟩) 3 3] 37 (0,0)):=(hk _ (by omega)).trans (by have:=Zdk (begO n) w 6 _ rfl;rw[h]at this;exact this);have s0:=Zbqj b0 (by decide);have s1:=Zbqj b1 (by decide);have s2:=Zbqj b2 (by decide);have s3:=Zbqj b3 (by decide);have s4:=Zbqj b4 (by decide);have hrow:IsRow W (.slice (some ⟨n+1+1+1+1+1,0,none⟩) 3 3) 5 [[.string ⟨#[116]⟩,.int .i64 3,.slice (some ⟨n+1+1,0,none⟩) 1 1,.slice none 0 0,.int .i64 0],[.string ⟨#[120]⟩,.int .i64 4,.slice (some ⟨n+1+1+1,0,none⟩) 1 1,.slice none 0 0,.int .i64 0],[.string ⟨#[121]⟩,.int .i64 2,.slice (some ⟨n+1+1+1+1,0,none⟩) 1 1,.slice none 0 0,.int .i64 0]]:=Zbil (rows:=[[.string ⟨#[116]⟩,.int .i64 3,.slice (some ⟨n+1+1,0,none⟩) 1 1,.slice none 0 0,.int .i64 0],[.string ⟨#[120]⟩,.int .i64 4,.slice (some ⟨n+1+1+1,0,none⟩) 1 1,.slice none 0 0,.int .i64 0],[.string ⟨#[121]⟩,.int .i64 2,.slice (some ⟨n+1+1+1+1,0,none⟩) 1 1,.slice none 0 0,.int .i64 0]]) b5 (by simp) (show 3<=maxLen by decide);refine⟨⟨_,_,_,_,rfl,s0,s1,Zbqk _,_,hrow,rfl,λj r x hr hx=>?_⟩,b6,b5,s2⟩
 match j,hr,hx with
 | 0,hr,hx=>cases hr;cases hx;exact⟨_,_,rfl,s2,Zbqk _⟩
 | 1,hr,hx=>cases hr;cases hx;exact⟨_,_,rfl,s3,Zbqk _⟩
 | 2,hr,hx=>cases hr;cases hx;exact⟨_,_,rfl,s4,Zbqk _⟩
abbrev rBv (n:Nat):Value:= .agg #[.string ⟨#[114]⟩,.slice (some ⟨n,0,none⟩) 2 2,.slice (some ⟨n+1,0,none⟩) 2 2,.slice none 0 0,.slice (some ⟨n+1+1+1+1+1,0,none⟩) 3 3]
abbrev rBc (n:Nat):List Value:=[.string ⟨#[114]⟩,.slice (some ⟨n,0,none⟩) 2 2,.slice (some ⟨n+1,0,none⟩) 2 2,.slice none 0 0,.slice (some ⟨n+1+1+1+1+1,0,none⟩) 3 3]
structure BegCalls (n:Nat) (W:World):Prop where
 of:∀vv,Zbb W vv [(true,⟨#[113,10,112]⟩),(true,⟨#[]⟩)]->Calls prog 15 #[rBv n,vv] W λe w'=>∃v,e = .returned v/\Zbb w' v [(true,⟨#[50,10]⟩),noV]/\Below W.heap.size W w'
 named:∀nv vv,IsStrs W nv [⟨#[98]⟩]->Zbb W vv [(true,⟨#[122]⟩)]->Calls prog 16 #[rBv n,nv,vv] W λe w'=>∃v,e = .returned v/\Zbb w' v [noV,(true,⟨#[122]⟩)]/\Below W.heap.size W w'
 all1:∀v,RulesI W v [rB]->Calls prog 7 #[v] W λe w'=>e = .returned (.tuple #[.int .i64 0,.string ⟨#[]⟩])/\Below W.heap.size W w'
 all2:∀v,RulesI W v [rS,rB]->Calls prog 7 #[v] W λe w'=>e = .returned (.tuple #[.int .i64 3,.string ⟨#[114]⟩])/\Below W.heap.size W w'
 files:∀v tv nv,RulesI W v [rB]->(∃a,tv = .pointer a)->Zbs tv W (Zbgv trB)->IsStrs W nv [⟨#[120]⟩,⟨#[97]⟩,⟨#[121]⟩]->Calls prog 18 #[v,tv,nv] W λe w'=>∃g,e = .returned (.slice (some ⟨g,0,none⟩) 3 3)/\ValRow w' g [(true,⟨#[50,10]⟩),(true,⟨#[50,10,49]⟩),noV]/\Below W.heap.size W w'
 beg4:Calls prog 19 #[] W λe w'=>e = .returned (.bool true)/\Below W.heap.size W w'
 steps:Calls prog 20 #[rBv n,.string ⟨#[120]⟩] W λe w'=>∃a c,e = .returned (.slice a 2 c)/\Below W.heap.size W w'
 reads:Calls prog 21 #[rBv n,.string ⟨#[120]⟩] W λe w'=>∃a c,e = .returned (.slice a 1 c)/\Below W.heap.size W w'
 readsAll:Calls prog 22 #[rBv n] W λe w'=>∃a c,e = .returned (.slice a 2 c)/\Below W.heap.size W w'
 dead:Calls prog 23 #[rBv n] W λe w'=>∃a c,e = .returned (.slice a 0 c)/\Below W.heap.size W w'
 eq:Calls prog 24 #[.agg #[.bool false,.string ⟨#[]⟩],.agg #[.bool false,.string ⟨#[63]⟩]] W λe w'=>e = .returned (.bool true)/\Below W.heap.size W w'
 rule:Calls prog 25 #[rBv n] W λe w'=>e = .returned (.int .i64 0)/\Below W.heap.size W w'
 may:Calls prog 26 #[.agg #[.string ⟨#[116]⟩,.int .i64 3,.slice (some ⟨n+1+1,0,none⟩) 1 1,.slice none 0 0,.int .i64 0]] W λe w'=>e = .returned (.bool true)/\Below W.heap.size W w'
 lines:Calls prog 27 #[.string ⟨#[97,10,10,98]⟩] W λe w'=>∃a c,e = .returned (.slice a 3 c)/\Below W.heap.size W w'
theorem Zuc {w:World} {v:Value} {xs:List ByteArray} {k:Nat} (h:IsStrs w v xs) (hk:xs.length=k):∃a c,v = .slice a k c:=by obtain⟨a,c,rfl,_⟩:=h;exact⟨a,c,by rw[hk]⟩
theorem Ztq {w:World} {v:Value} {xs:List Nat} {k:Nat} (h:IsInts w v xs) (hk:xs.length=k):∃a c,v = .slice a k c:=by obtain⟨a,c,rfl,_⟩:=h;exact⟨a,c,by rw[hk]⟩
theorem Zfa (w:World) (hg:GP w.heap.size w):Calls prog 19 #[] w λe w'=>e = .returned (.bool true)/\Below w.heap.size w w':=by
 have c:=Zfb w hg;clear hg
 go_enter func19,ntmps19
 go_wp2_with fail
 refine c.mono ?_;rintro e w2 ⟨rfl,hb2⟩;go_wp2;go_ret;exact⟨rfl,hb2⟩
theorem Zev (n:Nat) (W:World) (hR:BegR n W) (hG:GP W.heap.size W):BegCalls n W:=by
 have hM:MayW W:=hG.glob.max;have hr:=hR.rule;have hr':RuleI W [.string rB.name,.slice (some ⟨n,0,none⟩) rB.ins.length 2,.slice (some ⟨n+1,0,none⟩) rB.outs.length 2,.slice none rB.after.length 0,.slice (some ⟨n+1+1+1+1+1,0,none⟩) rB.steps.length 3] rB:=hr;have s1:∀r∈[rB],SmallR r 1048576:=λr h=>by rw[show r=rB by simpa using h];exact Zvv
 have s2:∀r∈[rS,rB],SmallR r 1048576:=λr h=>by
  rcases List.mem_cons.1 h with h|h
  ·rw[h];exact Zvw
  ·rw[show r=rB by simpa using h];exact Zvv
 refine⟨λvv hv=>?_,λnv vv hn hv=>?_,λv hv=>?_,λv hv=>?_,λv tv nv hv ht hRd hn=>?_,Zfa W hG,?_,?_,?_,?_,?_,?_,?_,?_⟩
 ·refine(Zbcd rB _ _ _ _ _ _ _ _ vv _ W hr' Zvv hv (by decide) (by intro v hv;simp at hv;rcases hv with rfl|rfl<;>decide) hG.glob).mono ?_
  rintro e w' ⟨v,rfl,h,hb⟩;rw[Zvt]at h;exact⟨v,rfl,h,hb⟩
 ·refine(Zzx rB _ _ _ _ _ _ _ _ nv vv _ _ W hr' Zvv hn (by decide) (by intro k hk;simp at hk;subst hk;decide) hv (by decide) (by intro v hv;simp at hv;subst hv;decide) hG.glob).mono ?_
  rintro e w' ⟨v,rfl,h,hb⟩;rw[Zvn]at h;exact⟨v,rfl,h,hb⟩
 ·have:=Zja v [rB] W hv s1 (by decide) hM
  rw[Zvd]at this;exact this
 ·have:=Zja v [rS,rB] W hv s2 (by decide) hM
  rw[Zve]at this;exact this
 ·refine(Zoe v tv nv [rB] (Zbgv trB) _ W hv s1 (by decide) ht hRd (λx=>?_) hn (by intro x hx;simp at hx;rcases hx with rfl|rfl|rfl<;>decide) (by decide) hG.glob hM).mono ?_
  ·unfold Zbgv
   split
   ·split
    ·rename_i f hf
     have:f=(⟨#[97]⟩,⟨#[50,10,49]⟩):=by have:=List.mem_of_getElem? hf;simpa[trB]using this
     rw[this];decide
    ·decide
   ·decide
  ·rintro e w' ⟨g,rfl,h,_,hb⟩
   rw[Zvk]at h;exact⟨g,rfl,h,hb⟩
 ·refine(Zblu rB _ _ _ _ _ _ _ _ ⟨#[120]⟩ W hr' Zvv (by decide)).mono ?_
  rintro e w' ⟨v,rfl,h,hb⟩;obtain⟨a,c,rfl⟩:=Ztq h (by rw[Zwe];rfl:_=2);exact⟨a,c,rfl,hb⟩
 ·refine(Zblt rB _ _ _ _ _ _ _ _ ⟨#[120]⟩ W hr' Zvv (by decide)).mono ?_
  rintro e w' ⟨v,rfl,h,hb⟩;obtain⟨a,c,rfl⟩:=Zuc h Zvq;exact⟨a,c,rfl,hb⟩
 ·refine(Zblq rB _ _ _ _ _ _ _ _ W hr' Zvv).mono ?_
  rintro e w' ⟨v,rfl,h,hb⟩;obtain⟨a,c,rfl⟩:=Zuc h Zvr;exact⟨a,c,rfl,hb⟩
 ·refine(Zblr rB _ _ _ _ _ _ _ _ W hr' Zvv).mono ?_
  rintro e w' ⟨v,rfl,h,hb⟩;obtain⟨a,c,rfl⟩:=Ztq h (by rw[Zvh];rfl:_=0);exact⟨a,c,rfl,hb⟩
 ·have:=Zls noV (false,⟨#[63]⟩) W
  rw[k_eq]at this;exact this
 ·have:=Zir rB _ _ _ _ _ _ _ _ W hr' Zvv hM
  rw[Zvs]at this;exact this
 ·have:=Zbnr ⟨⟨#[116]⟩,3,[⟨#[97]⟩],[],0⟩ (some ⟨n+1+1,0,none⟩) none 1 0 W hR.args (Zbqk W)
  rw[Zvm]at this;exact this
 ·refine(Zbnp ⟨#[97,10,10,98]⟩ W (by decide)).mono ?_
  rintro e w' ⟨v,rfl,h,_,hb⟩;obtain⟨h1,h2|⟨g,cap,cur,rfl,_⟩⟩:=h
  ·rw[Zvl]at h2;exact absurd h2.2 (by decide)
  ·exact⟨_,_,by rw[Zvl],hb⟩
theorem Zbjv {n:Nat} {W:World} (hR:BegR n W) {b:Nat} (h:W.heap[b]? =some (.cells (rBc n).toArray 37 (0,0))):RulesI W (.slice (some ⟨b,0,none⟩) 1 1) [rB]:=by
 refine⟨[rBc n],Zbil (rows:=[rBc n]) (k:=5) h (by simp) (show 1<=maxLen by decide),rfl,λj r x hr hx=>?_⟩
 match j,hr,hx with
 | 0,hr,hx=>cases hr;cases hx;exact hR.rule
abbrev rSc (a b c:Nat):List Value:=[.string ⟨#[115]⟩,.slice (some ⟨b,0,none⟩) 1 1,.slice (some ⟨a,0,none⟩) 1 1,.slice none 0 0,.slice (some ⟨c,0,none⟩) 1 1]
theorem Zbjx {n a b c d g:Nat} {W:World} (hR:BegR n W) (ha:W.heap[a]? =some (.cells #[.string ⟨#[97]⟩] 9 (0,0))) (hb:W.heap[b]? =some (.cells #[.string ⟨#[120]⟩] 9 (0,0))) (hc:W.heap[c]? =some (.cells #[.string ⟨#[120]⟩] 9 (0,0))) (hd:W.heap[d]? =some (.cells #[.string ⟨#[97]⟩,.int .i64 1,.slice (some ⟨c,0,none⟩) 1 1,.slice none 0 0,.int .i64 0] 34 (0,0)))
  (h:W.heap[g]? =some (.cells (rSc a b d++rBc n).toArray 37 (0,0))):RulesI W (.slice (some ⟨g,0,none⟩) 2 2) [rS,rB]:=by
 have s0:=Zbqj (xs:=[⟨#[97]⟩]) ha (by decide);have s1:=Zbqj (xs:=[⟨#[120]⟩]) hb (by decide);have s2:=Zbqj (xs:=[⟨#[120]⟩]) hc (by decide);refine⟨[rSc a b d,rBc n],Zbil (rows:=[rSc a b d,rBc n]) (k:=5) h (by simp) (show 2<=maxLen by decide),rfl,λj r x hr hx=>?_⟩
 match j,hr,hx with
 | 0,hr,hx=>
  cases hr;cases hx
  refine⟨_,_,_,_,rfl,s1,s0,Zbqk _,[[.string ⟨#[97]⟩,.int .i64 1,.slice (some ⟨c,0,none⟩) 1 1,.slice none 0 0,.int .i64 0]],Zbil (rows:=[[.string ⟨#[97]⟩,.int .i64 1,.slice (some ⟨c,0,none⟩) 1 1,.slice none 0 0,.int .i64 0]]) (k:=5) hd (by simp) (show 1<=maxLen by decide),rfl,λj r x hr hx=>?_⟩
  match j,hr,hx with
  | 0,hr,hx=>cases hr;cases hx;exact⟨_,_,rfl,s2,Zbqk _⟩
 | 1,hr,hx=>cases hr;cases hx;exact hR.rule
structure BegX (n vb vo wb wo dg:Nat) (W:World):Prop where
 v0:W.cell? ⟨vb,vo,none⟩=some (.bool true)
 v1:W.cell? ⟨vb,vo+1,none⟩=some (.string ⟨#[50,10]⟩)
 v2:W.cell? ⟨vb,vo+2,none⟩=some (.bool false)
 w0:W.cell? ⟨wb,wo,none⟩=some (.bool false)
 w3:W.cell? ⟨wb,wo+3,none⟩=some (.string ⟨#[122]⟩)
 d1:W.cell? ⟨dg,1,none⟩=some (.string ⟨#[50,10]⟩)
 d3:W.cell? ⟨dg,3,none⟩=some (.string ⟨#[50,10,49]⟩)
 d4:W.cell? ⟨dg,4,none⟩=some (.bool false)
 d5:W.cell? ⟨dg,5,none⟩=some (.string ⟨#[]⟩)
 r0:W.cell? ⟨n+1+1+1+1+1+1,0,none⟩=some (.string ⟨#[114]⟩)
 r1:W.cell? ⟨n+1+1+1+1+1+1,1,none⟩=some (.slice (some ⟨n,0,none⟩) 2 2)
 r2:W.cell? ⟨n+1+1+1+1+1+1,2,none⟩=some (.slice (some ⟨n+1,0,none⟩) 2 2)
 r3:W.cell? ⟨n+1+1+1+1+1+1,3,none⟩=some (.slice none 0 0)
 r4:W.cell? ⟨n+1+1+1+1+1+1,4,none⟩=some (.slice (some ⟨n+1+1+1+1+1,0,none⟩) 3 3)
 s0:W.cell? ⟨n+1+1+1+1+1,0,none⟩=some (.string ⟨#[116]⟩)
 s1:W.cell? ⟨n+1+1+1+1+1,1,none⟩=some (.int .i64 3)
 s2:W.cell? ⟨n+1+1+1+1+1,2,none⟩=some (.slice (some ⟨n+1+1,0,none⟩) 1 1)
 s3:W.cell? ⟨n+1+1+1+1+1,3,none⟩=some (.slice none 0 0)
 s4:W.cell? ⟨n+1+1+1+1+1,4,none⟩=some (.int .i64 0)
set_option maxHeartbeats 32000000
set_option maxRecDepth 100000
theorem Zfc (w:World) (hg:GP w.heap.size w):Calls prog 5 #[] w λe w'=>e = .returned (.bool true)/\Below w.heap.size w w':=by
 have mixed:prog.follows .mixedOrders=true:=by kernel_rfl
 obtain⟨n,hnn⟩:∃n,w.heap.size=n:=⟨_,rfl⟩;obtain⟨W1,hW1⟩:∃V,begW w n=V:=⟨_,rfl⟩;have hs1:W1.heap.size=n+7:=by rw[<-hW1];exact Zey w n hnn
 have hup:∀W,Below (n+7) W1 W->Below n w W:=λW hW=>by
  have h1:=Zex w n hnn;rw[hW1]at h1;exact h1.trans (hW.mono (by omega))
 have hB:∀W,Below (n+7) W1 W->BegR n W/\BegCalls n W:=λW hW=>by
  have hR:=Zew w n hnn W (by rw[hW1];exact hW);have hu:=hup W hW;refine⟨hR,Zev n W hR ((hg.below (by rw[hnn];exact hu)).up hu.size)⟩
 have hGl:∀W,Below (n+7) W1 W->Glob W:=λW hW=>(hg.below (by rw[hnn];exact hup W hW)).glob
 have hcB:∀W:World,BegR n W->W.cell? ⟨n+1+1+1+1+1+1,0,none⟩=some (.string ⟨#[114]⟩)/\W.cell? ⟨n+1+1+1+1+1+1,1,none⟩=some (.slice (some ⟨n,0,none⟩) 2 2)/\W.cell? ⟨n+1+1+1+1+1+1,2,none⟩=some (.slice (some ⟨n+1,0,none⟩) 2 2)/\W.cell? ⟨n+1+1+1+1+1+1,3,none⟩=some (.slice none 0 0)/\W.cell? ⟨n+1+1+1+1+1+1,4,none⟩=some (.slice (some ⟨n+1+1+1+1+1,0,none⟩) 3 3):=λW hR=>by
  obtain⟨q0,q1,q2,q3,q4,_⟩:=cells5 hR.box;exact⟨q0,q1,q2,q3,q4⟩
 have HZ:Hid (∀W,Below (n+7) W1 W->n+7<=W.heap.size):=hid λW hW=>by have:=hW.size;omega
 have HB1:Hid (Below (n+7) W1 W1):=hid (Below.refl _ _);unfold begW begO at hW1;simp only[List.foldl_cons,List.foldl_nil]at hW1;have HB:=hid hB;have HUP:=hid hup;have HW1:=hid hW1;have HS1:=hid hs1;have HGL:=hid hGl;have HCB:=hid hcB;rw[hnn];obtain⟨f0,f1,f2,f3,f4⟩:=hcB W1 (hB W1 (Below.refl _ _)).1;clear hg hB hup hW1 hs1 hGl hcB
 go_enter func5,ntmps5
 go_upto_region 2 with fail
 rw[HW1.out];obtain⟨V2,hV2⟩:∃V,W1.alloc (.cells #[.bool true,.string ⟨#[113,10,112]⟩,.bool true,.string ⟨#[]⟩] 46)=V:=⟨_,rfl⟩;have hB2:Below (n+7) W1 V2:=by rw[<-hV2];exact(Below.refl _ _).alloc (by rw[HS1.out];exact Nat.le_refl _) _
 have c2:=(HB.out V2 hB2).2.of (.slice (some ⟨W1.heap.size,0,none⟩) 2 2) (Zbsg (xs:=[(true,⟨#[113,10,112]⟩),(true,⟨#[]⟩)]) (by rw[<-hV2];exact alloc_at W1 _) (by decide));have HV2:=hid hV2;have HB2:=hid hB2;have C2:=hid c2;clear hV2 hB2 c2
 go_upto_region 3 with(go_at_call 15;rw[HV2.out];(with_reducible refine C2.out.mono ?_);rintro e w2 ⟨v2,rfl,hv2,hb2⟩;obtain⟨vb,vo,vc,rfl,hvc,hvm,hvx⟩:=Zbsm hv2;have HVX:=hid hvx;have HB3:=hid (HB2.out.trans (hb2.mono (HZ.out _ HB2.out)));clear hv2 hb2 hvx)
 have hB3:=HB3.out;obtain⟨f0,f1,f2,f3,f4⟩:=HCB.out w2 (HB.out w2 hB3).1;obtain⟨V3,hV3⟩:∃V,(w2.alloc (.cells #[.string ⟨#[98]⟩] 9)).alloc (.cells #[.bool true,.string ⟨#[122]⟩] 46)=V:=⟨_,rfl⟩;have hz2:=HZ.out w2 hB3;have hBV3:Below (n+7) W1 V3:=by rw[<-hV3];exact(hB3.alloc hz2 _).alloc (by rw[World.size_alloc];omega) _
 have c3:=(HB.out V3 hBV3).2.named (.slice (some ⟨w2.heap.size,0,none⟩) 1 1) (.slice (some ⟨w2.heap.size+1,0,none⟩) 1 1) (Zbqj (xs:=[⟨#[98]⟩]) (by rw[<-hV3];exact Zdk [_,_] w2 0 _ rfl) (by decide)) (Zbsg (xs:=[(true,⟨#[122]⟩)]) (by rw[<-hV3];exact Zdk [_,_] w2 1 _ rfl) (by decide));have h23:Below w2.heap.size w2 V3:=by rw[<-hV3];exact((Below.refl _ _).alloc (Nat.le_refl _) _).alloc (by simp) _
 have HV3:=hid hV3;have HBV3:=hid hBV3;have C3:=hid c3;have H23:=hid h23;clear hV3 hBV3 c3 hB3 hz2 h23
 go_upto_region 4 with(go_at_call 16;rw[HV3.out];(with_reducible refine C3.out.mono ?_);rintro e w3 ⟨v3,rfl,hv3,hb3⟩;obtain⟨wb,wo,wc,rfl,hwc,hwm,hwx⟩:=Zbsm hv3;have HWX:=hid hwx;have HB4:=hid (HBV3.out.trans (hb3.mono (HZ.out _ HBV3.out)));have H23':Hid (Below w2.heap.size w2 w3):=hid (H23.out.trans (hb3.mono H23.out.size));clear hv3 hb3 hwx)
 have hB4:=HB4.out;have hz3:=HZ.out w3 hB4;obtain⟨V4,hV4⟩:∃V,w3.alloc (.cells #[.string ⟨#[97]⟩,.string ⟨#[50,10,49]⟩] 51)=V:=⟨_,rfl⟩;have hBV4:Below (n+7) W1 V4:=by rw[<-hV4];exact hB4.alloc hz3 _
 have c4:=Zbaw (.slice (some ⟨w3.heap.size,0,none⟩) 1 1) [(⟨#[97]⟩,⟨#[50,10,49]⟩)] V4 (by rw[<-hV4];exact Zof w3 [(⟨#[97]⟩,⟨#[50,10,49]⟩)] _ rfl (by decide)) (HGL.out V4 hBV4) (by intro x hx;rw[show x=(⟨#[97]⟩,⟨#[50,10,49]⟩) by simpa using hx];exact⟨by decide,by decide⟩);rw[Zwf]at c4;have h34:Below w3.heap.size w3 V4:=by rw[<-hV4];exact(Below.refl _ _).alloc (Nat.le_refl _) _
 have HV4:=hid hV4;have HBV4:=hid hBV4;have C4:=hid c4;have H34:=hid h34;clear hV4 hBV4 c4 hB4 hz3 h34 f0 f1 f2 f3 f4
 go_upto_region 5 with(go_at_call 17;rw[HV4.out];(with_reducible refine C4.out.mono ?_);rintro e w4 ⟨tb,tr,rfl,hT,hb4⟩;have HT:=hid hT;have HB5:=hid (HBV4.out.trans (hb4.mono (HZ.out _ HBV4.out)));have H34':Hid (Below w3.heap.size w3 w4):=hid (H34.out.trans (hb4.mono H34.out.size));clear hT hb4)
 go_upto_region 7 with fail
 have hB5:=HB5.out;have hz4:=HZ.out w4 hB5;obtain⟨f0,f1,f2,f3,f4⟩:=HCB.out w4 (HB.out w4 hB5).1;obtain⟨V5,hV5⟩:∃V,w4.alloc (.cells (rBc n).toArray 37)=V:=⟨_,rfl⟩;have hBV5:Below (n+7) W1 V5:=by rw[<-hV5];exact hB5.alloc hz4 _
 have c5:=(HB.out V5 hBV5).2.all1 (.slice (some ⟨w4.heap.size,0,none⟩) 1 1) (Zbjv (HB.out V5 hBV5).1 (by rw[<-hV5];exact alloc_at w4 _));have h45:Below w4.heap.size w4 V5:=by rw[<-hV5];exact(Below.refl _ _).alloc (Nat.le_refl _) _
 have HV5:=hid hV5;have HBV5:=hid hBV5;have C5:=hid c5;have H45:=hid h45;clear hV5 hBV5 c5 hB5 hz4 h45
 go_upto_region 8 with(go_at_call 7;rw[HV5.out];(with_reducible refine C5.out.mono ?_);rintro e w5 ⟨rfl,hb5⟩;have HB6:=hid (HBV5.out.trans (hb5.mono (HZ.out _ HBV5.out)));have H45':Hid (Below w4.heap.size w4 w5):=hid (H45.out.trans (hb5.mono H45.out.size));clear hb5)
 have hB6:=HB6.out;have hz5:=HZ.out w5 hB6;clear f0 f1 f2 f3 f4;obtain⟨m,hm⟩:∃m,w5.heap.size=m:=⟨_,rfl⟩;obtain⟨V6,hV6⟩:∃V,((((w5.alloc (.cells #[.string ⟨#[97]⟩] 9)).alloc (.cells #[.string ⟨#[120]⟩] 9)).alloc (.cells #[.string ⟨#[120]⟩] 9)).alloc (.cells #[.string ⟨#[97]⟩,.int .i64 1,.slice (some ⟨m+1+1,0,none⟩) 1 1,.slice none 0 0,.int .i64 0] 34)).alloc (.cells (rSc m (m+1) (m+1+1+1)++rBc n).toArray 37)=V:=⟨_,rfl⟩;obtain⟨V6',hV6'⟩:∃V,(((w5.alloc (.cells #[.string ⟨#[97]⟩] 9)).alloc (.cells #[.string ⟨#[120]⟩] 9)).alloc (.cells #[.string ⟨#[120]⟩] 9)).alloc (.cells #[.string ⟨#[97]⟩,.int .i64 1,.slice (some ⟨m+1+1,0,none⟩) 1 1,.slice none 0 0,.int .i64 0] 34)=V:=⟨_,rfl⟩;have h56':Below w5.heap.size w5 V6':=by rw[<-hV6'];exact((((Below.refl _ _).alloc (Nat.le_refl _) _).alloc (by simp) _).alloc (by simp<;>omega) _).alloc (by simp<;>omega) _
 have hBV6':Below (n+7) W1 V6':=hB6.trans (h56'.mono hz5);obtain⟨f0,f1,f2,f3,f4⟩:=HCB.out V6' (HB.out V6' hBV6').1;have hz6':=HZ.out V6' hBV6';have e6:V6'.alloc (.cells (rSc m (m+1) (m+1+1+1)++rBc n).toArray 37)=V6:=by rw[<-hV6',hV6]
 have hBV6:Below (n+7) W1 V6:=by rw[<-e6];exact hBV6'.alloc hz6' _
 have hg6:∀i o,[(.cells #[.string ⟨#[97]⟩] 9:Obj),.cells #[.string ⟨#[120]⟩] 9,.cells #[.string ⟨#[120]⟩] 9,.cells #[.string ⟨#[97]⟩,.int .i64 1,.slice (some ⟨m+1+1,0,none⟩) 1 1,.slice none 0 0,.int .i64 0] 34,.cells (rSc m (m+1) (m+1+1+1)++rBc n).toArray 37][i]? =some o->V6.heap[m+i]? =some o:=λi o ho=>by
  have:=Zdk [(.cells #[.string ⟨#[97]⟩] 9:Obj),.cells #[.string ⟨#[120]⟩] 9,.cells #[.string ⟨#[120]⟩] 9,.cells #[.string ⟨#[97]⟩,.int .i64 1,.slice (some ⟨m+1+1,0,none⟩) 1 1,.slice none 0 0,.int .i64 0] 34,.cells (rSc m (m+1) (m+1+1+1)++rBc n).toArray 37] w5 i o ho;rw[hm]at this;rw[<-hV6];exact this
 have c6:=(HB.out V6 hBV6).2.all2 (.slice (some ⟨m+1+1+1+1,0,none⟩) 2 2) (Zbjx (HB.out V6 hBV6).1 (hg6 0 _ rfl) (hg6 1 _ rfl) (hg6 2 _ rfl) (hg6 3 _ rfl) (hg6 4 _ rfl));have h56:Below w5.heap.size w5 V6:=by rw[<-e6];exact h56'.alloc h56'.size _
 have HE6:Hid (V6'.alloc (.cells #[.string ⟨#[115]⟩,.slice (some ⟨m+1,0,none⟩) 1 1,.slice (some ⟨m,0,none⟩) 1 1,.slice none 0 0,.slice (some ⟨m+1+1+1,0,none⟩) 1 1,.string ⟨#[114]⟩,.slice (some ⟨n,0,none⟩) 2 2,.slice (some ⟨n+1,0,none⟩) 2 2,.slice none 0 0,.slice (some ⟨n+1+1+1+1+1,0,none⟩) 3 3] 37)=V6):=hid e6;have HV6':=hid hV6';have HBV6:=hid hBV6;have C6:=hid c6;have H56:=hid h56;have HM:=hid hm;have hs6:V6'.heap.size=m+4:=by rw[<-hV6'];simp[hm]
 have HS6:=hid hs6;clear hV6 hV6' e6 hBV6 hBV6' c6 hB6 hz5 h56 h56' hg6 hz6' hs6;rw[<-HV6'.out]at f0 f1 f2 f3 f4
 go_upto_region 9 with(go_at_call 7;rw[HV6'.out];(try rw[HE6.out]);(with_reducible refine C6.out.mono ?_);rintro e w6 ⟨rfl,hb6⟩;have HB7:=hid (HBV6.out.trans (hb6.mono (HZ.out _ HBV6.out)));have H56':Hid (Below w5.heap.size w5 w6):=hid (H56.out.trans (hb6.mono H56.out.size));clear hb6)
 have hB7:=HB7.out;have hz6:=HZ.out w6 hB7;clear f0 f1 f2 f3 f4;obtain⟨f0,f1,f2,f3,f4⟩:=HCB.out w6 (HB.out w6 hB7).1;obtain⟨V7,hV7⟩:∃V,(w6.alloc (.cells (rBc n).toArray 37)).alloc (.cells #[.string ⟨#[120]⟩,.string ⟨#[97]⟩,.string ⟨#[121]⟩] 9)=V:=⟨_,rfl⟩;have hBV7:Below (n+7) W1 V7:=by rw[<-hV7];exact(hB7.alloc hz6 _).alloc (by rw[World.size_alloc];omega) _
 have h67:Below w6.heap.size w6 V7:=by rw[<-hV7];exact((Below.refl _ _).alloc (Nat.le_refl _) _).alloc (by simp) _
 have h46:Below w4.heap.size w4 w6:=H45'.out.trans (H56'.out.mono H45'.out.size);have h47:Below w4.heap.size w4 V7:=h46.trans (h67.mono h46.size);have c7:=(HB.out V7 hBV7).2.files (.slice (some ⟨w6.heap.size,0,none⟩) 1 1) (.pointer (some ⟨tb,0,none⟩)) (.slice (some ⟨w6.heap.size+1,0,none⟩) 3 3) (Zbjv (HB.out V7 hBV7).1 (by rw[<-hV7];exact Zdk [_,_] w6 0 _ rfl)) ⟨_,rfl⟩ (λx V _ hV=>Zbgx _ tb tr trB x V (HT.out.below (h47.trans (hV.mono h47.size)))) (Zbqj (xs:=[⟨#[120]⟩,⟨#[97]⟩,⟨#[121]⟩]) (by rw[<-hV7];exact Zdk [_,_] w6 1 _ rfl) (by decide));have h26:Below w2.heap.size w2 V7:=by
  have h24:=H23'.out.trans (H34'.out.mono H23'.out.size);exact h24.trans (h47.mono h24.size)
 have h37:Below w3.heap.size w3 V7:=H34'.out.trans (h47.mono H34'.out.size);have HV7:=hid hV7;have HBV7:=hid hBV7;have C7:=hid c7;have H27:=hid h26;have H37:=hid h37;clear hV7 hBV7 c7 hB7 hz6 h67 h46 h47 h26 h37
 go_upto_region 10 with(go_at_call 18;rw[HV7.out];(with_reducible refine C7.out.mono ?_);rintro e w7 ⟨dg,rfl,hdr,hb7⟩;have HDR:=hid hdr;have HB8:=hid (HBV7.out.trans (hb7.mono (HZ.out _ HBV7.out)));have H27':Hid (Below w2.heap.size w2 w7):=hid (H27.out.trans (hb7.mono H27.out.size));have H37':Hid (Below w3.heap.size w3 w7):=hid (H37.out.trans (hb7.mono H37.out.size));clear hdr hb7)
 clear f0 f1 f2 f3 f4;have hX:∀W,Below w7.heap.size w7 W->BegX n vb vo wb wo dg W/\BegCalls n W/\Below n w W:=λW hW=>by
  have hz7:=HZ.out w7 HB8.out;have hBW:Below (n+7) W1 W:=HB8.out.trans (hW.mono hz7);obtain⟨hR,hC⟩:=HB.out W hBW;obtain⟨p0,p1,p2,_⟩:=HVX.out W (H27'.out.trans (hW.mono H27'.out.size));obtain⟨q0,_,_,q3⟩:=HWX.out W (H37'.out.trans (hW.mono H37'.out.size));have hD:=HDR.out.heap (hW.block dg (by obtain⟨_,h,_⟩:=HDR.out;exact(Array.getElem?_eq_some_iff.1 h).1));obtain⟨_,d1,_,_⟩:=hD.cells (j:=0) rfl;obtain⟨_,d3,_,_⟩:=hD.cells (j:=1) rfl;obtain⟨d4,d5,_,_⟩:=hD.cells (j:=2) rfl;obtain⟨r0,r1,r2,r3,r4,_⟩:=cells5 hR.box;have hst:∀k u,#[Value.string ⟨#[116]⟩,.int .i64 3,.slice (some ⟨n+1+1,0,none⟩) 1 1,.slice none 0 0,.int .i64 0,.string ⟨#[120]⟩,.int .i64 4,.slice (some ⟨n+1+1+1,0,none⟩) 1 1,.slice none 0 0,.int .i64 0,.string ⟨#[121]⟩,.int .i64 2,.slice (some ⟨n+1+1+1+1,0,none⟩) 1 1,.slice none 0 0,.int .i64 0][k]? =some u->W.cell? ⟨n+1+1+1+1+1,k,none⟩=some u:=λk u hu=>by
   simp only[World.cell?,hR.steps,Option.isSome_none,Bool.false_eq_true,if_false];exact hu
  exact⟨⟨p0,p1,p2,q0,q3,d1,d3,d4,d5,r0,r1,r2,r3,r4,hst 0 _ rfl,hst 1 _ rfl,hst 2 _ rfl,hst 3 _ rfl,hst 4 _ rfl⟩,hC,HUP.out W hBW⟩
 have he1:=Zmw true true ⟨#[50,10]⟩ ⟨#[50,10]⟩;simp only[beq_self_eq_true,Bool.and_self]at he1;have HX:=hid hX;have HK7:Hid (Below w7.heap.size w7 w7):=hid (Below.refl _ _);obtain⟨⟨x1,x2,x3,x4,x5,x6,x7,x8,x9,y0,y1,y2,y3,y4,z0,z1,z2,z3,z4⟩,_,_⟩:=hX w7 (Below.refl _ _);clear hX
 go_wp2_with fail
 refine((HX.out w7 HK7.out).2.1.beg4).mono ?_;rintro e w8 ⟨rfl,hb⟩;have HK8:Hid (Below w7.heap.size w7 w8):=hid (HK7.out.trans (hb.mono HK7.out.size));clear hb x1 x2 x3 x4 x5 x6 x7 x8 x9 y0 y1 y2 y3 y4 z0 z1 z2 z3 z4;obtain⟨⟨x1,x2,x3,x4,x5,x6,x7,x8,x9,y0,y1,y2,y3,y4,z0,z1,z2,z3,z4⟩,_,_⟩:=HX.out w8 HK8.out
 go_wp2_with fail
 refine((HX.out w8 HK8.out).2.1.steps).mono ?_;rintro e w9 ⟨a9,c9,rfl,hb⟩;have HK9:Hid (Below w7.heap.size w7 w9):=hid (HK8.out.trans (hb.mono HK8.out.size));clear hb x1 x2 x3 x4 x5 x6 x7 x8 x9 y0 y1 y2 y3 y4 z0 z1 z2 z3 z4;obtain⟨⟨x1,x2,x3,x4,x5,x6,x7,x8,x9,y0,y1,y2,y3,y4,z0,z1,z2,z3,z4⟩,_,_⟩:=HX.out w9 HK9.out
 go_wp2_with fail
 refine((HX.out w9 HK9.out).2.1.reads).mono ?_;rintro e w10 ⟨a10,c10,rfl,hb⟩;have HK10:Hid (Below w7.heap.size w7 w10):=hid (HK9.out.trans (hb.mono HK9.out.size));clear hb x1 x2 x3 x4 x5 x6 x7 x8 x9 y0 y1 y2 y3 y4 z0 z1 z2 z3 z4;obtain⟨⟨x1,x2,x3,x4,x5,x6,x7,x8,x9,y0,y1,y2,y3,y4,z0,z1,z2,z3,z4⟩,_,_⟩:=HX.out w10 HK10.out
 go_wp2_with fail
 refine((HX.out w10 HK10.out).2.1.readsAll).mono ?_;rintro e w11 ⟨a11,c11,rfl,hb⟩;have HK11:Hid (Below w7.heap.size w7 w11):=hid (HK10.out.trans (hb.mono HK10.out.size));clear hb x1 x2 x3 x4 x5 x6 x7 x8 x9 y0 y1 y2 y3 y4 z0 z1 z2 z3 z4;obtain⟨⟨x1,x2,x3,x4,x5,x6,x7,x8,x9,y0,y1,y2,y3,y4,z0,z1,z2,z3,z4⟩,_,_⟩:=HX.out w11 HK11.out
 go_wp2_with fail
 refine((HX.out w11 HK11.out).2.1.dead).mono ?_;rintro e w12 ⟨a12,c12,rfl,hb⟩;have HK12:Hid (Below w7.heap.size w7 w12):=hid (HK11.out.trans (hb.mono HK11.out.size));clear hb x1 x2 x3 x4 x5 x6 x7 x8 x9 y0 y1 y2 y3 y4 z0 z1 z2 z3 z4;obtain⟨⟨x1,x2,x3,x4,x5,x6,x7,x8,x9,y0,y1,y2,y3,y4,z0,z1,z2,z3,z4⟩,_,_⟩:=HX.out w12 HK12.out
 go_wp2_with fail
 refine((HX.out w12 HK12.out).2.1.eq).mono ?_;rintro e w13 ⟨rfl,hb⟩;have HK13:Hid (Below w7.heap.size w7 w13):=hid (HK12.out.trans (hb.mono HK12.out.size));clear hb x1 x2 x3 x4 x5 x6 x7 x8 x9 y0 y1 y2 y3 y4 z0 z1 z2 z3 z4;obtain⟨⟨x1,x2,x3,x4,x5,x6,x7,x8,x9,y0,y1,y2,y3,y4,z0,z1,z2,z3,z4⟩,_,_⟩:=HX.out w13 HK13.out
 go_wp2_with fail
 refine((HX.out w13 HK13.out).2.1.rule).mono ?_;rintro e w14 ⟨rfl,hb⟩;have HK14:Hid (Below w7.heap.size w7 w14):=hid (HK13.out.trans (hb.mono HK13.out.size));clear hb x1 x2 x3 x4 x5 x6 x7 x8 x9 y0 y1 y2 y3 y4 z0 z1 z2 z3 z4;obtain⟨⟨x1,x2,x3,x4,x5,x6,x7,x8,x9,y0,y1,y2,y3,y4,z0,z1,z2,z3,z4⟩,_,_⟩:=HX.out w14 HK14.out
 go_wp2_with fail
 refine((HX.out w14 HK14.out).2.1.may).mono ?_;rintro e w15 ⟨rfl,hb⟩;have HK15:Hid (Below w7.heap.size w7 w15):=hid (HK14.out.trans (hb.mono HK14.out.size));clear hb x1 x2 x3 x4 x5 x6 x7 x8 x9 y0 y1 y2 y3 y4 z0 z1 z2 z3 z4;obtain⟨⟨x1,x2,x3,x4,x5,x6,x7,x8,x9,y0,y1,y2,y3,y4,z0,z1,z2,z3,z4⟩,_,_⟩:=HX.out w15 HK15.out
 go_wp2_with fail
 refine((HX.out w15 HK15.out).2.1.lines).mono ?_;rintro e w16 ⟨a16,c16,rfl,hb⟩;have HK16:Hid (Below w7.heap.size w7 w16):=hid (HK15.out.trans (hb.mono HK15.out.size));clear hb x1 x2 x3 x4 x5 x6 x7 x8 x9 y0 y1 y2 y3 y4 z0 z1 z2 z3 z4;go_wp2;go_ret;exact⟨rfl,(HX.out w16 HK16.out).2.2⟩
section
variable {P:Program} {ops:Array Oper} {Q:Exit->Act->World->Prop} {md:Region.Mode} {S:Bool->World->Prop} {st:Nat}
theorem tkS (i:Nat) {oi:Oper} {v:Value} {fuel:Nat} {listed:Array Bool} {a:Act} {w:World}
  (h:wpAnyS P md ops Q S st fuel (listed.setIfInBounds i true) (a.put oi.dst v) w)
  (hi:ops[i]? =some oi:=by simp only[List.getElem?_toArray,List.getElem?_cons_succ,List.getElem?_cons_zero];rfl)
  (y:∀w,S false w->(execOp a.eval oi).run P w = .ok (.value v) w:=by intro w hSw;obtain⟨hw1,_⟩:=hSw;obtain rfl:=hw1 rfl;clear hw1;go_simp;try with_reducible rfl)
  (hs:Region.noSelect ops=true:=by kernel_rfl) (hcl:Zjk md ops listed=true:=by kernel_rfl) (hwt:Zbsp md ops i 20 st=true:=by kernel_rfl) (hne:(i==st)=false:=by kernel_rfl) (hf:Region.free md ops listed i=true:=by kernel_rfl) (hr:(Region.ready md ops listed).contains i=true:=by kernel_rfl)
  (hQ:∀c a w,Q (.panic c) (a.put oi.dst v) w->Q (.panic c) a w:=by exact λ_ _ _ h=>h) (hL:listed.getD st false=false:=by kernel_rfl) (hw:Region.wanted oi (yielded ops a.tmps)=true:=by rfl) (hS:S false w:=by assumption):wpAnyS P md ops Q S st (fuel+1) listed a w:=
 Zbty hi hs hcl hwt hne hf hr hQ hL (Or.inl ⟨hw,y⟩) hS h
theorem tkZ (i:Nat) {oi:Oper} {v:Value} {fuel:Nat} {listed:Array Bool} {a:Act} {w:World} {b:Bool}
  (h:wpAnyS P md ops Q S st fuel (listed.setIfInBounds i true) (a.put oi.dst v) w)
  (hi:ops[i]? =some oi:=by simp only[List.getElem?_toArray,List.getElem?_cons_succ,List.getElem?_cons_zero];rfl)
  (y:∀w,(∃b,S b w)->(execOp a.eval oi).run P w = .ok (.value v) w:=by intro w hSw;obtain⟨_,_,hw2⟩:=hSw;go_simp;try with_reducible rfl)
  (hs:Region.noSelect ops=true:=by kernel_rfl) (hne:(i==st)=false:=by kernel_rfl) (hf:Region.free md ops listed i=true:=by kernel_rfl) (hr:(Region.ready md ops listed).contains i=true:=by kernel_rfl)
  (hQ:∀c a w,Q (.panic c) (a.put oi.dst v) w->Q (.panic c) a w:=by exact λ_ _ _ h=>h) (hb:listed.getD st false=b:=by kernel_rfl) (hw:Region.wanted oi (yielded ops a.tmps)=true:=by rfl) (hS:S b w:=by assumption):wpAnyS P md ops Q S st (fuel+1) listed a w:=
 Zbtz hi hs hne hf hr hQ hb (Or.inl ⟨hw,y⟩) hS h
end
end Go.Proofs.YtcpjfpdecklkgaaGreatDoor
