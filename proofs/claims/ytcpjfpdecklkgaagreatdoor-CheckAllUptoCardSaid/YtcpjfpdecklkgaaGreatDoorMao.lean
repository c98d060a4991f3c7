import Derived.Test.YtcpjfpdecklkgaaGreatDoorMan
import Derived.Lib.AppendStr
namespace Go.Proofs.YtcpjfpdecklkgaaGreatDoor
open Go.Lib (hid)
open Go.Proofs.Tryz
open Go.RowKit Go.Shelf
def OwnRules (B:Nat) (w:World) (v:Value) (xs:List RuleS):Prop:=∃rows,w.ownsRow B 37 5 v rows.length rows.flatten/\AllA (RuleA (AvOf B v) w) rows xs
theorem Zbxk (B:Nat) (w:World):OwnRules B w (.slice none 0 0) []:=⟨[],⟨rfl,.inl ⟨rfl,rfl⟩⟩,AllA.nil _⟩
theorem OwnRules.below {B:Nat} {w w':World} {v:Value} {xs:List RuleS} (h:OwnRules B w v xs) (hb:Below w.heap.size w w'):OwnRules B w' v xs:=by
 obtain⟨rows,h1,h2⟩:=h;exact⟨rows,World.ownsRow.kept (row:=none) h1 ⟨hb.os,hb.tape,hb.output,hb.size,λk hk _=>hb.block k hk⟩ (by cases h:Value.ownBlock _<;>simp),h2.imp λr x h=>h.keep (Zpv hb)⟩
theorem OwnRules.fr {B:Nat} {w w':World} {v:Value} {xs:List RuleS} {Av:Nat->Prop} (h:OwnRules B w v xs) (hf:Fr Av w w') (h1:∀b,Av b->AvOf B v b) (h2:∀b,v.ownBlock=some b->¬Av b):OwnRules B w' v xs:=by
 obtain⟨rows,hr,ha⟩:=h;refine⟨rows,?_,ha.imp λr x h=>h.keep (hf.mono λb _ e=>h1 b e)⟩;refine⟨hr.1,?_⟩
 rcases hr.2 with hn|⟨g,cap,cur,rfl,hb,hg,rest⟩
 ·exact .inl hn
 ·exact .inr ⟨g,cap,cur,rfl,hb,(hf.block g (Array.getElem?_eq_some_iff.1 hg).1 (h2 g rfl)).trans hg,rest⟩
theorem OwnRules.len {B:Nat} {w:World} {v:Value} {xs:List RuleS} (h:OwnRules B w v xs):∃a c,v = .slice a xs.length c:=by
 obtain⟨rows,h1,h2⟩:=h
 rcases h1.2 with⟨rfl,h0⟩|⟨g,cap,cur,rfl,_⟩
 ·exact⟨none,0,by rw[<-h2.1,h0]⟩
 ·exact⟨_,cap,by rw[h2.1]⟩
theorem OwnRules.rulesA {B:Nat} {w:World} {v:Value} {xs:List RuleS} (h:OwnRules B w v xs):RulesA (λb=>b<B) w v xs:=by
 obtain⟨rows,h1,h2⟩:=h;exact⟨rows,Zbif h1 (h2.len λr x h=>h.len),h2.imp λr x h=>h.mono λb _ e=> .inl e⟩
theorem OwnRules.lt {B:Nat} {w:World} {v:Value} {xs:List RuleS} (h:OwnRules B w v xs):∀b,v.ownBlock=some b->B<=b/\b<w.heap.size:=by
 obtain⟨rows,h1,_⟩:=h;exact λb e=>h1.lt b e
theorem Zbuh {w:World} {ops:Array Oper} {rest:List Oper} {o:Oper} {a:Act} {Q:Exit->Act->World->Prop} (hgd:o.guard=none) (s x:Operand)
  (ho:o.op = .call { callee:= .builtin .append,args:=#[s,x],argTypes:=#[22,22] })
  (B:Nat) (v:Value) (xs:List RuleS) (y:RuleS) (a1 a2 a3 a4:Option Addr) (n1 c1 n2 c2 n3 c3 n4 c4:Nat) (hs:a.eval s=v) (hown:OwnRules B w v xs) (hB:B<=w.heap.size) (hn:xs.length<=1000000000)
  (hrl:RuleA (AvOf B v) w [.string y.name,.slice a1 n1 c1,.slice a2 n2 c2,.slice a3 n3 c3,.slice a4 n4 c4] y)
  (gx:Nat) (hx:a.eval x = .slice (some ⟨gx,0,none⟩) 1 1) (hgx:gx=w.heap.size)
  (h:∀v' w',OwnRules B w' v' (xs ++ [y])->Below B w w'->Fr (λb=>v.ownBlock=some b) w w'->(∀b,v'.ownBlock=some b->v.ownBlock=some b∨w.heap.size<=b)->wpList prog ops Q rest (a.put o.dst v') w'):
  wpList prog ops Q (o::rest) a (w.alloc (.cells #[.string y.name,.slice a1 n1 c1,.slice a2 n2 c2,.slice a3 n3 c3,.slice a4 n4 c4] 37)):=by
 subst hgx;obtain⟨i0,hi,hz0,hz1,hz2⟩:=Zsv Zsw;obtain⟨rows,h1,h2⟩:=hown;have hrl2:=h2.1;have hfa:=Zpu (AvOf B v) w (.cells #[.string y.name,.slice a1 n1 c1,.slice a2 n2 c2,.slice a3 n3 c3,.slice a4 n4 c4] 37);refine Zbue _ hgd s x 22 ho B 37 i0 (.agg #[.string ByteArray.empty,.slice none 0 0,.slice none 0 0,.slice none 0 0,.slice none 0 0]) 5 112 underlying22 hi hz0 hz1 hz2 rfl (by decide) v rows.length rows.flatten hs (h1.alloc _) ⟨w.heap.size,0,none⟩ 1 1 [.string y.name,.slice a1 n1 c1,.slice a2 n2 c2,.slice a3 n3 c3,.slice a4 n4 c4] hx rfl ?_ ?_ (by decide) ?_ ?_ ?_ ?_
 ·intro j u hj
  match j,hj with
  | 0,hj=>simp at hj;subst hj;simp[Addr.add]
  | 1,hj=>simp at hj;subst hj;simp[Addr.add]
  | 2,hj=>simp at hj;subst hj;simp[Addr.add]
  | 3,hj=>simp at hj;subst hj;simp[Addr.add]
  | 4,hj=>simp at hj;subst hj;simp[Addr.add]
 ·intro u hu;simp at hu;rcases hu with rfl|rfl|rfl|rfl|rfl<;>rfl
 ·unfold maxLen;omega
 ·omega
 ·simp;omega
 ·intro v' w' ho' hg hnew
  have h3:AllA (RuleA (AvOf B v) w) (rows ++ [[.string y.name,.slice a1 n1 c1,.slice a2 n2 c2,.slice a3 n3 c3,.slice a4 n4 c4]]) (xs ++ [y]):=h2.snoc hrl;have h4:=Zqx (B:=B) (v':=v') (h3.imp λr x h=>h.keep hfa) hg (λb hb=>(hnew b hb).imp id λe=>Nat.le_trans (by simp) e);refine h v' w' ⟨_,?_,h4⟩ (((Below.refl B w).alloc hB _).grown hg (by simp;omega) (λb hb=>(h1.lt b hb).1)) ((Zpu _ w _).trans (Zpx hg λk e=>e)) (λb hb=>(hnew b hb).imp id λe=>Nat.le_trans (by simp) e);rw[List.length_append,List.flatten_append];simpa using ho'
set_option maxHeartbeats 2000000 in
theorem Ztj (v:Value) (n:Nat) (f:Value) (w:World) (hn:n<=1):
  Calls prog 206 #[v,.int .i64 0,.int .i64 n,f] w λe w'=>e = .returned (.tuple #[])/\w=w':=by
 have h1:¬(1:Int)<(n:Int):=by omega
 go_enter func206,ntmps206
 go_wp2
 go_loop [8] (λi=>i = .int .i64 1) (λ_=>0)
 case atStart=>rfl
 case round=>
  subst hrel;go_wp2
  go_end0
  exact⟨rfl,rfl⟩
set_option maxHeartbeats 2000000 in
theorem Zbni (v:Value) (n:Nat) (f:Value) (w:World) (hn:n<=1):
  Calls prog 191 #[v,.int .i64 n,f] w λe w'=>e = .returned (.tuple #[])/\w=w':=by
 have h1:¬(20:Int)<=(n:Int):=by omega
 have h2:¬(20:Int)<(n:Int):=by omega
 go_enter func191,ntmps191
 go_wp2
 go_loop [7,8] (λa b=>a = .int .i64 0/\b = .int .i64 20) (λ_ _=>0)
 case atStart=>exact⟨rfl,rfl⟩
 case round=>
  obtain⟨rfl,rfl⟩:=hrel
  go_wp2_with fail
  refine(Ztj _ _ _ _ hn).mono ?_;rintro e w2 ⟨rfl,rfl⟩;go_wp2
  go_loop [6] (λa=>a = .int .i64 20) (λ_=>0)
  case atStart=>rfl
  case round=>
   subst hrel;go_wp2
   go_end0
   exact⟨rfl,rfl⟩
theorem Zbmk (a:Option Addr) (n c:Nat) (f:Value) (w:World) (hn:n<=1):
  Calls prog 136 #[.slice a n c,f] w λe w'=>e = .returned (.tuple #[])/\w=w':=by
 go_enter func136,ntmps136
 go_wp2_with fail
 refine(Zbni _ _ _ _ hn).mono ?_;rintro e w2 ⟨rfl,rfl⟩;go_wp2
 go_end0
 exact⟨rfl,rfl⟩
def Zbx (B:Nat) (W:World) (v:Value) (ys:List RuleS) (e:Ending) (W':World):Prop:=e = .returned (.tuple #[])/\OwnRules B W' v ys/\Below B W W'
def Zca (B:Nat) (xs ys:List RuleS):Prop:=∀a n c W,OwnRules B W (.slice a n c) xs->B<=W.heap.size->Calls prog 136 #[.slice a n c,.func (.func 137) #[] #[]] W (Zbx B W (.slice a n c) ys)
theorem Zbmu (B:Nat) (xs:List RuleS) (h:xs.length<=1):Zca B xs xs:=by
 intro a n c W hO _;obtain⟨a',c',e⟩:=hO.len
 cases e
 refine(Zbmk _ _ _ _ _ h).mono ?_;rintro e w' ⟨rfl,rfl⟩;exact⟨rfl,hO,Below.refl _ _⟩
theorem Zbjs {Av:Nat->Prop} {w:World} {v:Value} {xs:List RuleS} (h:RulesA Av w v xs) {k:Nat} {x:RuleS} (hx:xs[k]? =some x):
  ∃g o cap a1 n1 c1 a2 n2 c2 a3 n3 c3 a4 n4 c4,v = .slice (some ⟨g,o,none⟩) xs.length cap/\g<w.heap.size/\RuleA Av w [.string x.name,.slice a1 n1 c1,.slice a2 n2 c2,.slice a3 n3 c3,.slice a4 n4 c4] x/\∀w',Below w.heap.size w w'->
   w'.cell? ⟨g,o+k*5,none⟩=some (.string x.name)/\w'.cell? ⟨g,o+k*5+1,none⟩=some (.slice a1 n1 c1)/\w'.cell? ⟨g,o+k*5+2,none⟩=some (.slice a2 n2 c2)/\w'.cell? ⟨g,o+k*5+3,none⟩=some (.slice a3 n3 c3)/\w'.cell? ⟨g,o+k*5+4,none⟩=some (.slice a4 n4 c4):=by
 obtain⟨rows,hrow,hall⟩:=h;have hk:k<rows.length:=by rw[hall.1];exact(List.getElem?_eq_some_iff.1 hx).1
 have hR:=hall.2 k _ x (List.getElem?_eq_getElem hk) hx;obtain⟨vi,vo,vf,vs,e,h1,h2,h3,h4⟩:=id hR;obtain⟨g,o,cap,hv,hg',hc⟩:=Zbic hrow (k:=k) (by rw[List.getElem?_eq_getElem hk,e]);obtain⟨a1,n1,c1,q1⟩:=Zbig h1;obtain⟨a2,n2,c2,q2⟩:=Zbig h2;obtain⟨a3,n3,c3,q3⟩:=Zbig h3;obtain⟨a4,c4,q4,_,_⟩:=Zboi h4;rw[e]at hR;subst q1 q2 q3 q4;exact⟨g,o,cap,a1,n1,c1,a2,n2,c2,a3,n3,c3,a4,_,c4,by rw[hv,hall.1],hg',hR,hc⟩
theorem Zbji {Av:Nat->Prop} {w:World} {v:Value} {xs:List RuleS} (h:RulesA Av w v xs):∃a c,v = .slice a xs.length c/\xs.length<=c/\c<=maxLen:=by
 obtain⟨rows,hrow,hall⟩:=h;rw[<-hall.1];exact Zbid hrow
def Zbz (w:World) (ys:List RuleS) (e:Ending) (w':World):Prop:=∃a n c,e = .returned (.slice a n c)/\OwnRules w.heap.size w' (.slice a n c) ys/\Below w.heap.size w w'
set_option maxHeartbeats 8000000 in
set_option maxRecDepth 100000 in
theorem Zbmr (v:Value) (xs ys:List RuleS) (Av:Nat->Prop) (w:World) (h:RulesA Av w v xs) (hn:xs.length<=1000000) (hfew:∀x∈xs,FewR x) (hsort:Zca w.heap.size (xs.map Zbmg) ys):
  Calls prog 80 #[v] w (Zbz w ys):=by
 obtain⟨sa,sc,hv,hs1,hs2⟩:=Zbji h;subst hv;have hcs:∀(k:Nat) x,xs[k]? =some x->_:=λk x hx=>Zbjs h hx
 have HCS:=hid hcs;have HFEW:=hid hfew;have HSO:=hid hsort;obtain⟨i0,hi,hz0,hz1,hz2⟩:=Zsv Zsw;clear hcs h hfew hsort
 go_enter func80,ntmps80
 go_wp2_with (refine wpList_make_own _ rfl _ _ 22 rfl w.heap.size 37 i0 (.agg #[.string ByteArray.empty,.slice none 0 0,.slice none 0 0,.slice none 0 0,.slice none 0 0]) 5 underlying22 hi hz0 hz1 .i64 .i64 (xs.length:Int) xs.length rfl rfl rfl (by rw[hz2];omega) (by unfold maxLen;omega) (Nat.le_refl _) ?_)
 intro w1 hown1 hg1;have hb1:Below w.heap.size w w1:=⟨hg1.os,hg1.tape,hg1.output,hg1.size,λk hk=>hg1.block k hk (by simp)⟩;have HO1:Hid (OwnRules w.heap.size w1 (.slice (some ⟨w.heap.size,0,none⟩) 0 xs.length) []):=⟨[],hown1,AllA.nil _⟩;have HN1:=hid hb1;clear hown1 hg1 hb1;go_wp2
 go_loopw [3,11] (λvv i wr=>∃k:Nat,k<=xs.length/\i = .int .i64 k/\OwnRules w.heap.size wr vv ((xs.take k).map Zbmg)/\Below w.heap.size w wr)
  (λ_ i _=>xs.length-(intOf i).toNat)
 case atStart=>exact⟨0,Nat.zero_le _,rfl,by simpa using HO1.out,HN1.out⟩
 case round=>
  obtain⟨k,hk,rfl,hown,hnx⟩:=hrel;have hsz:=hnx.size;have HO:=hid hown;have HNX:=hid hnx;clear hown hnx
  by_cases hlt:k<xs.length
  ·obtain⟨x,hx⟩:∃x,xs[k]? =some x:=⟨xs[k],List.getElem?_eq_getElem hlt⟩
   obtain⟨g,o,cap,a1,n1,c1,a2,n2,c2,a3,n3,c3,a4,n4,c4,hv,hg,hR,hc⟩:=HCS.out k x hx;have hi1:(k:Int)<(xs.length:Int):=by omega
   have hfx:=HFEW.out x (List.mem_of_getElem? hx);have htk:(xs.take (k+1)).map Zbmg=(xs.take k).map Zbmg ++ [Zbmg x]:=by rw[List.take_add_one,hx,List.map_append];rfl
   obtain⟨d0,d1,d2,d3,d4⟩:=hc _ HNX.out;have HTK:=hid htk;have HRX:=hid hR;have HFX:=hid hfx
   cases hv
   clear hc hx htk hR hfx;obtain⟨ob,hob⟩:∃ob:Obj,ob = .cells #[.string x.name,.slice a1 n1 c1,.slice a2 n2 c2,.slice a3 n3 c3,.slice a4 n4 c4] 37:=⟨_,rfl⟩;have hnA:Below wr.heap.size wr (wr.alloc ob):=(Below.refl _ _).alloc (Nat.le_refl _) _;have hup:∀W,Below wr.heap.size wr W->Below w.heap.size w W:=λW h=>HNX.out.trans (h.mono hsz)
   have cA:=Zbmm x (.slice a1 n1 c1) (.slice a2 n2 c2) (.slice a3 n3 c3) (.slice a4 n4 c4) Av (wr.alloc ob) (HRX.out.keep (Zpv (hup _ hnA))) HFX.out;have HNA:=hid hnA;have HUP:=hid hup;have CA:=hid cA;clear hnA cA hup;subst hob
   go_wp2_with fail
   refine CA.out.mono ?_;intro e w2 hpost;obtain⟨b1,m1,e1,b2,m2,e2,b3,m3,e3,b4,m4,e4,rfl,hra,hb2⟩:=hpost;have hn2:Below wr.heap.size wr w2:=HNA.out.trans (hb2.mono (by simp));have hO2:=HO.out.below hn2;have hlow:=λb hb=>(HO.out.lt b hb).2
   have hra2:=RuleA.mono (Av':=AvOf w.heap.size _) hra λb _ e=>by
    rcases e with e|e
    ·simp;omega
    ·have:=hlow b e;simp;omega
   have HO2:=hid hO2;have HR2:=hid hra2;have HN2:=hid hn2;have HTL:Hid (((xs.take k).map Zbmg).length<=1000000000):=by show _<=_;rw[List.length_map,List.length_take];omega
   have HS2:=hid (Nat.le_trans hsz hn2.size);clear hra hb2 hn2 hO2 hlow hra2 d0 d1 d2 d3 d4
   go_wp2_with (at_builtin;refine Zbuh (by rfl) _ _ (by rfl) w.heap.size _ ((xs.take k).map Zbmg) (Zbmg x) b1 b2 b3 b4 m1 e1 m2 e2 m3 e3 m4 e4 (by rfl) HO2.out HS2.out HTL.out HR2.out _ (by rfl) (by simp) ?_)
   intro v' w6 hown6 hb6 _ _;have HO6:Hid (OwnRules w.heap.size w6 v' ((xs.take (k+1)).map Zbmg)):=by show OwnRules _ _ _ _;rw[HTK.out,List.map_take];exact hown6
   have HN6:=hid ((HUP.out _ HN2.out).trans hb6);clear hown6 hb6;go_wp2;go_roundw
   case rel=>exact⟨k+1,by omega,by go_num,HO6.out,HN6.out⟩
   case measure=>simp[intOf];omega
  ·have hfull:xs.take k=xs:=List.take_of_length_le (by omega)
   have hi1:¬(k:Int)<(xs.length:Int):=by omega
   have hO:=HO.out;rw[hfull]at hO;obtain⟨ra,rc,hr⟩:=hO.len;rw[List.length_map]at hr;subst hr;have HO:=hid hO;clear hfull hO
   go_wp2_with fail
   refine(HSO.out _ _ _ _ HO.out hsz).mono ?_;rintro e w7 ⟨rfl,hO7,hb7⟩;go_wp2;go_ret;exact⟨_,_,_,rfl,hO7,HNX.out.trans hb7⟩
def Bld (B b:Nat) (l:List UInt8) (w:World):Prop:=
 b<B/\∃p v,(p = .pointer none∨p = .pointer (some ⟨b,0,none⟩))/\w.heap[b]? =some (.cells #[p,v] 161)/\w.ownsRow B 5 1 v l.length (Lib.byteCells l)
theorem Bld.is {B b:Nat} {l:List UInt8} {w:World} (h:Bld B b l w):Lib.IsBuilder 161 5 b b (Lib.byteCells l) w:=by
 obtain⟨hb,p,v,hp,hbk,hown⟩:=h;have ho:=Zbdt hown (Nat.le_of_lt hb);have hne:v.ownBlock≠some b:=λe=>by have:=(hown.lt b e).1;omega
 have hl:(Lib.byteCells l).length=l.length:=by simp[Lib.byteCells]
 rw[<-hl]at ho
 rcases hp with rfl|rfl
 ·exact .inl ⟨Nat.le_refl _,v,hbk,ho,hne⟩
 ·exact .inr ⟨Nat.le_refl _,v,hbk,ho,hne⟩
abbrev BAv (B b:Nat) (k:Nat):Prop:=k=b∨B<=k
theorem Bld.below {B b:Nat} {l:List UInt8} {w w':World} (h:Bld B b l w) (hb:Below w.heap.size w w'):Bld B b l w':=by
 obtain⟨h1,p,v,hp,hbk,hown⟩:=h;refine⟨h1,p,v,hp,(hb.block _ (Array.getElem?_eq_some_iff.1 hbk).1).trans hbk,World.ownsRow.kept (row:=none) hown ⟨hb.os,hb.tape,hb.output,hb.size,λk hk _=>hb.block k hk⟩ (by cases h:Value.ownBlock _<;>simp)⟩
theorem Zfu (w w1:World) (hb:Below (w.heap.size+1) (w.alloc (.cells #[.pointer none,.slice none 0 0] 161)) w1) (hs:w.heap.size+1<=w1.heap.size):Bld w1.heap.size w.heap.size [] w1:=by
 refine⟨by omega,_,_,.inl rfl,(hb.block _ (by omega)).trans (alloc_at w _),⟨rfl,.inl ⟨rfl,rfl⟩⟩⟩
theorem Zst:(prog.info? 5).map (λi=>(i.zero,i.size,i.bytes))=some (some (.int .u8 0),1,1):=by kernel_rfl
set_option maxHeartbeats 4000000 in
set_option maxRecDepth 100000 in
theorem Zfw (B b:Nat) (l t:List UInt8) (s:ByteArray) (hst:s=⟨t.toArray⟩) (w:World) (h:Bld B b l w) (hlen:l.length+t.length<=140737488351232) (hB:B<=w.heap.size):
  Calls prog 129 #[.pointer (some ⟨b,0,none⟩),.string s] w λe w'=>(∃x y,e = .returned (.tuple #[x,y]))/\Bld B b (l++t) w'/\Fr (BAv B b) w w':=by
 obtain⟨i0,hi,hz0,hz1,hz2⟩:=Zsv Zst;have hss:s.size=t.length:=by rw[hst];exact Zbkz t
 obtain⟨hbB,p,v,hp,hbk,hown⟩:=h;have hcc:Calls prog 183 #[.pointer (some ⟨b,0,none⟩)] w λe w'=>e = .returned (.tuple #[])/\w'.heap[b]? =some (.cells #[.pointer (some ⟨b,0,none⟩),v] 161)/\w'.ownsRow B 5 1 v l.length (Lib.byteCells l)/\Fr (BAv B b) w w':=by
  rcases hp with rfl|rfl
  ·refine(Any.Builder_copyCheck_fresh { lLays_n166 with } { lExtra with } b w (by simp[World.cell?,hbk]) (by simp[World.shape?,hbk];kernel_rfl) (by simp[World.frozen?,hbk])).mono ?_
   rintro e w' ⟨rfl,rfl⟩;refine⟨rfl,heap_set 0 _ hbk,?_,Zpy (a:=⟨b,0,none⟩) (Av:=BAv B b) (.inl rfl) _⟩;exact World.ownsRow.kept (row:=some b) hown (Zpy (a:=⟨b,0,none⟩) (Av:=λk=>k=b) rfl _).grownBy (by
    cases hv:v.ownBlock with
    | none=>exact .inl rfl
    | some k=>exact .inr (by intro e;injection e with e;have:=(hown.lt k hv).1;omega))
  ·refine(Any.Builder_copyCheck_used { lLays_n166 with } { lExtra with } b w (by simp[World.cell?,hbk])).mono ?_
   rintro e w' ⟨rfl,rfl⟩;exact⟨rfl,hbk,hown,Fr.refl _ _⟩
 have hmax:l.length+s.size<=140737488355328:=by omega
 have HSS:=hid hss;have HST:=hid hst;clear hbk hown hp hst hss hlen
 go_enter func129,ntmps129
 go_wp2_with fail
 refine hcc.mono ?_;rintro e w1 ⟨rfl,hbk1,hown1,hf1⟩;obtain⟨e0,e1,f0,f1⟩:=Zih hbk1;have HBK1:=hid hbk1;have HO1:=hid hown1;have HF1:=hid hf1;have hs1:B<=w1.heap.size:=Nat.le_trans hB hf1.size;clear hcc hbk1 hown1 hf1
 go_wp2_with (at_builtin;refine Lib.wpList_append_own_string _ (by rfl) _ _ 64 9 (by rfl) B 5 i0 underlying64 underlying9 hi hz0 hz1 hz2 _ _ _ (by rfl) HO1.out s (by rfl) (by unfold maxLen;omega) hmax hs1 ?_)
 intro v' w2 hown2 hg2 _;obtain⟨va,vn,vc,hv'⟩:∃a n c,v' = .slice a n c:=by
  rcases hown2.2 with⟨hv,_⟩|⟨g,cap,cur,hv,_⟩
  ·exact⟨_,_,_,hv⟩
  ·exact⟨_,_,_,hv⟩
 subst hv';have hne:v.ownBlock≠some b:=λe=>by have:=(HO1.out.lt b e).1;omega
 have hbk2:=(hg2.block b (Array.getElem?_eq_some_iff.1 HBK1.out).1 (λe=>hne e.symm)).trans HBK1.out;obtain⟨q0,q1,r0,r1⟩:=Zih hbk2;have hf2:Fr (BAv B b) w1 w2:=Zpx hg2 λk e=> .inr (HO1.out.lt k e).1
 have hown3:w2.ownsRow B 5 1 (.slice va vn vc) (l++t).length (Lib.byteCells (l++t)):=by
  have e1:(l++t).length=l.length+s.size:=by rw[List.length_append,HSS.out]
  have e2:Lib.byteCells (l++t)=Lib.byteCells l++Lib.strCells s:=by rw[HST.out];simp[Lib.byteCells,Lib.strCells]
  rw[e1,e2];exact hown2
 have hset:(w2.setCell ⟨b,1,none⟩ (.slice va vn vc)).heap[b]? =some (.cells #[.pointer (some ⟨b,0,none⟩),.slice va vn vc] 161):=heap_set 1 (.slice va vn vc) hbk2;have hown4:(w2.setCell ⟨b,1,none⟩ (.slice va vn vc)).ownsRow B 5 1 (.slice va vn vc) (l++t).length (Lib.byteCells (l++t)):=
  World.ownsRow.kept (row:=some b) hown3 (Zpy (a:=⟨b,1,none⟩) (Av:=λk=>k=b) rfl _).grownBy (by
   cases hv:(Value.slice va vn vc).ownBlock with
   | none=>exact .inl rfl
   | some k=>exact .inr (by intro e;injection e with e;have:=(hown3.lt k hv).1;omega))
 have hf4:=(HF1.out.trans hf2).trans (Zpy (w:=w2) (a:=⟨b,1,none⟩) (Av:=BAv B b) (.inl rfl) (.slice va vn vc));have HB4:Hid (Bld B b (l++t) (w2.setCell ⟨b,1,none⟩ (.slice va vn vc))):=⟨hbB,_,_,.inr rfl,hset,hown4⟩;have HF4:=hid hf4;clear hown2 hg2 hne hbk2 hf2 hown3 hset hown4 hf4 e0 e1 f0 f1;go_wp2
 go_ret2
 exact⟨⟨_,_,rfl⟩,HB4.out,HF4.out⟩
theorem Zfv (B b:Nat) (l:List UInt8) (w:World) (h:Bld B b l w) (hB:B<=w.heap.size):
  Calls prog 131 #[.pointer (some ⟨b,0,none⟩)] w λe w'=>e = .returned (.string ⟨l.toArray⟩)/\Below b w w':=
 Zgk b b l w h.is (by have:=h.1;omega)
def Zbjp (ys:List RuleS):List UInt8:=(ys.map Zbix).flatten
theorem Zbjr (xs:List RuleS) (k:Nat) (x:RuleS) (h:xs[k]? =some x):Zbjp (xs.take (k+1))=Zbjp (xs.take k)++Zbix x:=by
 unfold Zbjp;rw[List.take_add_one,h,List.map_append,List.flatten_append];simp
theorem Zbjq (xs:List RuleS) (k:Nat):(Zbjp (xs.take k)).length<=(Zbjp xs).length:=by
 conv=>rhs;rw[<-List.take_append_drop k xs]
 unfold Zbjp;rw[List.map_append,List.flatten_append,List.length_append];omega
set_option maxHeartbeats 8000000 in
set_option maxRecDepth 100000 in
theorem Zbez (v:Value) (xs ys:List RuleS) (Av:Nat->Prop) (p:Nat) (w:World) (hg:GP p w) (hp:p<=w.heap.size) (h:RulesA Av w v xs) (hn:xs.length<=1000000) (hny:ys.length<=1000000) (hfew:∀x∈xs,FewR x) (hfit:∀y∈ys,RuleFit y) (hlen:(Zbjp ys).length<=140737488351232)
  (hsort:Zca (w.heap.size+1) (xs.map Zbmg) ys):
  Calls prog 76 #[v] w λe w'=>e = .returned (.string ⟨(Zbjp ys).toArray⟩)/\Below w.heap.size w w':=by
 obtain⟨sa,sc,hv,hs1,hs2⟩:=Zbji h;subst hv;have hb0:Below w.heap.size w (w.alloc (.cells #[.pointer none,.slice none 0 0] 161)):=(Below.refl _ _).alloc (Nat.le_refl _) _;have hB0:=Lib.fresh_isBuilder 161 5 w;have cS:=Zbmr (.slice sa xs.length sc) xs ys Av (w.alloc (.cells #[.pointer none,.slice none 0 0] 161)) (h.keep (Zpv hb0)) hn hfew (by simpa using hsort);have HB0:=hid hB0;have HN0:=hid hb0;have CS:=hid cS;have HFIT:=hid hfit;have HLEN:=hid hlen;have HG:=hid hg;clear h hb0 hB0 cS hfit hlen hg hfew hsort
 go_enter func76,ntmps76
 go_wp2_with fail
 refine CS.out.mono ?_;rintro e w1 ⟨ya,yn,yc,rfl,hO,hb1⟩;obtain⟨_,_,hl⟩:=hO.len
 cases hl
 have hn1:Below w.heap.size w w1:=HN0.out.trans (hb1.mono (by simp));have hs1':w.heap.size+1<=w1.heap.size:=by have:=hb1.size;simpa using this
 have hbld:Bld w1.heap.size w.heap.size [] w1:=Zfu w w1 (by simpa using hb1) hs1';have hrl:RulesA (BAv w1.heap.size w.heap.size) w1 _ ys:=RulesA.mono hO.rulesA λb hb e=>by
  rcases e with e|e
  ·simp;omega
  ·omega
 have HB1:=hid hbld;have HR1:=hid hrl;have HN1:=hid hn1;clear hO hb1 hn1 hrl hbld;go_wp2
 go_loopw [9] (λi wr=>∃k:Nat,k<=ys.length/\i = .int .i64 k/\Bld w1.heap.size w.heap.size (Zbjp (ys.take k)) wr/\Below w.heap.size w wr/\Fr (BAv w1.heap.size w.heap.size) w1 wr)
  (λi _=>ys.length-(intOf i).toNat)
 case atStart=>exact⟨0,Nat.zero_le _,rfl,HB1.out,HN1.out,Fr.refl _ _⟩
 case round=>
  obtain⟨k,hk,rfl,hbu,hnx,hfr⟩:=hrel;have hsz:=hfr.size;have hle:=Zbjq ys k;have hall:=HLEN.out;have hR:=HR1.out.keep hfr;have HBU:=hid hbu;have HNX:=hid hnx;have HFR:=hid hfr;clear hbu hnx hfr
  by_cases hlt:k<ys.length
  ·obtain⟨y,hy⟩:∃y,ys[k]? =some y:=⟨ys[k],List.getElem?_eq_getElem hlt⟩
   obtain⟨g,o,cap,a1,n1,c1,a2,n2,c2,a3,n3,c3,a4,n4,c4,hv,hg,hRu,hc⟩:=Zbjs hR hy
   cases hv
   have hnext:=Zbjr ys k y hy;have hle2:=Zbjq ys (k+1);rw[hnext,List.length_append]at hle2;have hi1:(k:Int)<(ys.length:Int):=by omega
   have hfy:=HFIT.out y (List.mem_of_getElem? hy);obtain⟨d0,d1,d2,d3,d4⟩:=hc _ (Below.refl _ _);obtain⟨ob,hob⟩:∃ob:Obj,ob = .cells #[.string y.name,.slice a1 n1 c1,.slice a2 n2 c2,.slice a3 n3 c3,.slice a4 n4 c4] 37:=⟨_,rfl⟩;have hnA:Below wr.heap.size wr (wr.alloc ob):=(Below.refl _ _).alloc (Nat.le_refl _) _;have hgA:GP p (wr.alloc ob):=HG.out.below ((HNX.out.trans (hnA.mono HNX.out.size)).mono hp);obtain⟨q1,q2,q3,q4,qe,h1,h2,h3,h4⟩:=hRu
   cases qe
   have cR:=Zbje y (.slice a1 n1 c1) (.slice a2 n2 c2) (.slice a3 n3 c3) (.slice a4 n4 c4) (BAv w1.heap.size w.heap.size) p (wr.alloc ob) hgA (Nat.le_trans hp (Nat.le_trans HNX.out.size hnA.size)) (RowA.keep h1 (Zpv hnA)) (RowA.keep h2 (Zpv hnA)) (RowA.keep h3 (Zpv hnA)) (h4.keep (Zpv hnA)) hfy;have HNEXT:=hid hnext;have CR:=hid cR;have HNA:=hid hnA;have HC:=hid hc;clear hnext hnA hgA cR hc hfy h1 h2 h3 h4 hR hy;subst hob
   go_wp2_with fail
   refine CR.out.mono ?_;rintro e w2 ⟨rfl,hb2⟩;have hn2:Below wr.heap.size wr w2:=HNA.out.trans (hb2.mono (by simp));have HB2:=hid (HBU.out.below hn2);have HN2:=hid (HNX.out.trans (hn2.mono HNX.out.size));have HF2:=hid (HFR.out.trans (Zpv hn2));have hs2:=hn2.size;clear hb2 hn2 d0 d1 d2 d3 d4
   go_wp2_with fail
   refine(Zfw w1.heap.size w.heap.size (Zbjp (ys.take k)) (Zbix y) _ rfl _ HB2.out (by omega) (by omega)).mono ?_;rintro e w3 ⟨⟨x3,y3,rfl⟩,hbl3,hf3⟩;have HB3:=hid hbl3;have HF3:=hid (HF2.out.trans hf3);have HN3:=hid (HN2.out.trans (hf3.below HN2.out.size λk hk e=>by rcases e with e|e<;>omega));clear hbl3 hf3;go_wp2;go_roundw
   case rel=>exact⟨k+1,by omega,by go_num,by rw[HNEXT.out];exact HB3.out,HN3.out,HF3.out⟩
   case measure=>simp[intOf];omega
  ·have hfull:ys.take k=ys:=List.take_of_length_le (by omega)
   have hbu:=HBU.out;rw[hfull]at hbu;have HBU:=hid hbu;have hi1:¬(k:Int)<(ys.length:Int):=by omega
   clear hfull hbu hR
   go_wp2_with fail
   refine(Zfv w1.heap.size w.heap.size (Zbjp ys) wr HBU.out (by omega)).mono ?_;rintro e w2 ⟨rfl,hb2⟩;go_wp2;go_ret;exact⟨rfl,HNX.out.trans hb2⟩
def Zblb:Bool->List UInt8->Nat
 | _,[]=>0
 | false,c::r=>if Zft c then Zblb false r+1 else if c=35 then Zblb true r+1 else 0
 | true,c::r=>if c=10 then Zblb false r+1 else Zblb true r+1
theorem Zblc:∀(l:List UInt8) (b:Bool),Zbld b l=Zblb b l
 | [],b=>by simp[Zblj,Zblb]
 | c::r,false=>by
  rw[Zblb,Zbld,Zblc r false,Zblc r true]
 | c::r,true=>by
  rw[Zblb]
  by_cases h:c=10
  ·rw[Zblk r h,if_pos h,Zble r (by rw[h];decide),Zblc r false]
  ·rw[Zblg r h,if_neg h,Zblc r true]
def allG:Nat->Nat->List UInt8->Except Nat (List Zcj)
 | 0,at',_=> .error at'
 | f+1,at',l=>
  if l.drop (Zblb false l) = []then .ok [(4,at'+Zblb false l,[])]else
   match Zbtj (l.drop (Zblb false l))with
   | none=> .error (at'+Zblb false l)
   | some (k,t,n)=>match allG f (at'+Zblb false l+n) ((l.drop (Zblb false l)).drop n)with
    | .error e=> .error e
    | .ok ws=> .ok ((k,at'+Zblb false l,t)::ws)
theorem Zcy:∀(f a:Nat) (l:List UInt8),allF f a l=allG f a l
 | 0,_,_=>rfl
 | f+1,a,l=>by
  rw[Zcx,Zblc];show _=allG (f+1) a l;rw[allG]
  by_cases hd:l.drop (Zblb false l) = []
  ·rw[if_pos hd,if_pos hd]
  ·rw[if_neg hd,if_neg hd]
   cases Zbtj (l.drop (Zblb false l))with
   | none=>rfl
   | some x=>
    obtain⟨k,t,n⟩:=x;have h:=Zcy f (a+Zblb false l+n) ((l.drop (Zblb false l)).drop n);simp only[h]
    cases allG f (a+Zblb false l+n) ((l.drop (Zblb false l)).drop n)<;>rfl
theorem Zcz (l:List UInt8):allS l=allG (l.length+1) 0 l:=Zcy _ _ _
def Zny (l:List UInt8):Except (Int×Int) (List RuleS):=
 if 20000<l.length then .error (4,-1)else
  match allG (l.length+1) 0 l with
  | .error p=> .error (1,p)
  | .ok ws=>let r:=Zbjo ws (0,false);if r.2.2 then .error (1,((wAt ws r.2.1).2.1:Int))else .ok r.1
theorem Zoa (l:List UInt8):Znz l=Zny l:=by
 unfold Znz Zny;rw[Zcz];split
 ·rfl
 ·cases allG (l.length+1) 0 l<;>rfl
def t1:List UInt8:=[97,32,34,92,120,52,49,34,32,59]
def t2:List UInt8:=[114,117,108,101,32,114,32,123,32,105,110,32,98,44,32,97,59,32,111,117,116,32,120,59,32,35,32,110,111,10,32,120,32,61,32,115,101,108,101,99,116,32,34,113,92,110,34,32,97,59,32,125]
def t3:List UInt8:=[114,117,108,101,32,105,110,32,123]
def rl2:RuleS:=⟨⟨#[114]⟩,[⟨#[98]⟩,⟨#[97]⟩],[⟨#[120]⟩],[],[⟨⟨#[120]⟩,7,[⟨#[97]⟩],[⟨#[113,10]⟩],0⟩]⟩
theorem Zhn:allS t1 = .ok [(1,0,[97]),(2,2,[65]),(3,9,[59]),(4,10,[])]:=by rw[Zcz];kernel_rfl
theorem Zho:Znz t2 = .ok [rl2]:=by rw[Zoa];kernel_rfl
theorem Zhp:Znz t3 = .error (1,5):=by rw[Zoa];kernel_rfl
theorem Zhr:Zbfx [97,34,10] = [34,97,92,34,92,110,34]:=by kernel_rfl
theorem Zhx:srtB [⟨#[98]⟩,⟨#[97]⟩] = [⟨#[97]⟩,⟨#[98]⟩]:=by
 have h:srtL [[98],[97]] = [[97],[98]]:=by
  unfold srtL;simp[List.mergeSort,List.MergeSort.Internal.splitInTwo,List.merge]
  decide
 unfold srtB;rw[show([⟨#[98]⟩,⟨#[97]⟩]:List ByteArray).map (·.data.toList) = [[98],[97]]from rfl,h];rfl
theorem Zhw:srtB [⟨#[120]⟩] = [⟨#[120]⟩]:=by
 unfold srtB srtL;simp
theorem Zhv:srtB [] = []:=by
 unfold srtB srtL;simp
def rl3:RuleS:=⟨⟨#[114]⟩,[⟨#[97]⟩,⟨#[98]⟩],[⟨#[120]⟩],[],[⟨⟨#[120]⟩,7,[⟨#[97]⟩],[⟨#[113,10]⟩],0⟩]⟩
theorem Zhu:Zbmg rl2=rl3:=by
 unfold Zbmg rl2 rl3;simp only[Zhx,Zhw,Zhv]
def t4:List UInt8:=[114,117,108,101,32,114,32,123,10,32,32,105,110,32,97,44,32,98,59,10,32,32,111,117,116,32,120,59,10,32,32,120,32,61,32,115,101,108,101,99,116,32,34,113,92,110,34,32,97,59,10,125,10]
theorem Zhz:srtL [[97],[98]] = [[97],[98]]:=by
 unfold srtL;simp[List.mergeSort,List.MergeSort.Internal.splitInTwo,List.merge]
 decide
theorem Zhy:srtL [[120]] = [[120]]:=by
 unfold srtL;simp
theorem Zhs:Zbix rl3=t4:=by
 unfold Zbix upTx Zjc;rw[show rl3.ins.map (·.data.toList) = [[97],[98]]from rfl,show rl3.outs.map (·.data.toList) = [[120]]from rfl,Zhz,Zhy]
 kernel_rfl
theorem Zht:Zbjp [Zbmg rl2]=t4:=by
 unfold Zbjp;rw[Zhu];simp[Zhs]
def st2:StepS:=⟨⟨#[120]⟩,7,[⟨#[97]⟩],[⟨#[113,10]⟩],0⟩
theorem Zia:Zbnw st2 = [120,32,61,32,115,101,108,101,99,116,32,34,113,92,110,34,32,97,59]:=by kernel_rfl
theorem c_op:Zbcq [99,111,117,110,116]=4:=by kernel_rfl
theorem Zhq:opTx 4 = [99,111,117,110,116]:=by kernel_rfl
end Go.Proofs.YtcpjfpdecklkgaaGreatDoor
