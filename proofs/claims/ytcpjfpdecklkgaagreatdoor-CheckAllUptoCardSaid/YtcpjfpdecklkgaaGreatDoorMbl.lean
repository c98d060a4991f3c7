import Derived.Test.YtcpjfpdecklkgaaGreatDoorMbk
import Derived.Test.YtcpjfpdecklkgaaGreatDoorMbi
namespace Go.Proofs.YtcpjfpdecklkgaaGreatDoor
open Go.Lib (hid)
open Go.Proofs.Tryz
open Go.RowKit Go.Shelf Go.Maps
theorem Zbaj (ys:List RuleS):ndOf ((List.range ys.length).map (Zban ys))=Zban ys:=by
 funext k
 unfold ndOf
 by_cases h:k<ys.length
 ·rw[List.getElem?_map,List.getElem?_range h];rfl
 ·rw[List.getElem?_eq_none (by simp;omega)]
  unfold Zban Zta Zcs;rw[List.getElem?_eq_none (by omega)];simp[srtN]
theorem Zbap {ys:List RuleS} (hs:∀r∈ys,SmallR r 1048576) (k:Nat):(Zban ys k).length<=2097152:=by
 unfold Zban;rw[Zbnf,List.length_append];have h1:(Zta ys k).length<=1048576:=by
  unfold Zta
  cases h:ys[k]? with
  | none=>simp
  | some x=>exact(hs x (List.mem_of_getElem? h)).ins.1
 have h2:(Zcs ys k).length<=1048576:=by
  unfold Zcs
  cases h:ys[k]? with
  | none=>simp
  | some x=>exact(hs x (List.mem_of_getElem? h)).after.1
 have h3:=List.length_filterMap_le (mkrN ys ys.length) (Zta ys k);have h4:=List.length_filterMap_le (plcN ys ys.length) (Zcs ys k);omega
theorem NeedsIs.below {w w':World} {v:Value} {ns:List (List Nat)} (h:NeedsIs w v ns) (hb:Below w.heap.size w w'):NeedsIs w' v ns:=by
 obtain⟨g,e,hg,hc⟩:=h;refine⟨g,e,Nat.lt_of_lt_of_le hg hb.size,λk x hx=>?_⟩;obtain⟨u,hu,hI⟩:=hc k x hx;exact⟨u,(hb.cell (p:=⟨g,k,none⟩) hg).trans hu,hI.below hb⟩
set_option maxRecDepth 100000
set_option maxHeartbeats 8000000
theorem Zbso (a:Option Addr) (n c:Nat) (w:World):Calls prog 57 #[.slice a n c] w λe w'=>e = .returned (.func (.func 103) #[] #[.pointer (some ⟨w.heap.size,0,none⟩)])/\w'=w.alloc (.cells #[.slice a n c] 22):=by
 go_enter func57,ntmps57
 go_wp2;go_ret;exact⟨rfl,rfl⟩
theorem Zow (v:Value) (rs:List RuleS) (w:World) (hv:RulesI w v rs) (hs:∀r∈rs,SmallR r 1048576) (hn:rs.length<=1000) (hnd:∀(i j:Nat) x y,rs[i]? =some x->rs[j]? =some y->i<j->x.name≠y.name):
  Calls prog 30 #[v] w λe w'=>∃u,e = .returned u/\IsStrs w' u (Zot (Zbng rs))/\Below w.heap.size w w':=by
 obtain⟨va,vc,rfl,_,_⟩:=Zbjn hv;have hb1:Below w.heap.size w (w.alloc (.cells #[.slice va rs.length vc] 22)):=(Below.refl _ _).alloc (Nat.le_refl _) _;have CV:=hid (Zbso va rs.length vc w);have CS:=hid (Zbmn w.heap.size (.slice va rs.length vc) rs _ (Boxed.new w 22 (.slice va rs.length vc)) (hv.below hb1) (by omega));obtain⟨YS,hYS⟩:∃Y,Zbng rs=Y:=⟨_,rfl⟩;have hY1:∀ys:List RuleS,ys.Perm rs->Zac ys->YS=ys:=λys h1 h2=>by rw[<-hYS];exact(Zbnh hnd h1 h2).symm
 have hYp:YS.Perm rs:=by rw[<-hYS];exact List.mergeSort_perm _ _
 have hYl:YS.length<=1000:=by rw[hYp.length_eq];exact hn
 have hYs:∀r∈YS,SmallR r 1048576:=λr hr=>hs r (hYp.mem_iff.1 hr)
 rw[hYS];have HY1:=hid hY1;have HYS:=hid hYs;have HB1:=hid hb1;obtain⟨N,hN⟩:∃N,YS.length=N:=⟨_,rfl⟩;obtain⟨RES,hR⟩:∃R,Zot YS=R:=⟨_,rfl⟩;have HR:Hid ((fcL (Zban YS) YS.length (List.range YS.length)).map (nmAt YS)=RES):=hR;rw[hR];have HN:=hid hN;rw[hN]at hYl;clear hv hs hnd hY1 hYs hb1 hYS hYp hR hN
 go_enter func30,ntmps30
 go_wp2_with (first
  | (go_at_call 57;(with_reducible refine CV.out.mono ?_);rintro e w1 ⟨rfl,rfl⟩)
  | (go_at_call 56;(with_reducible refine CS.out.mono ?_);rintro e w2 ⟨u,ys,rfl,hp,hby,hri,hb2⟩;have eY:=HY1.out ys hp hby;subst eY;obtain⟨ua,uc,rfl,hul,hum⟩:=Zbjn hri;have HRI:=hid hri;have HB2:=hid (HB1.out.trans (hb2.mono HB1.out.size));clear hp hby hri hb2;rw[HN.out]at hul⊢;have CN:=hid (Zbau (.slice ua N uc) _ w2 (by rw[<-HN.out];exact HRI.out) HYS.out (by rw[HN.out];exact hYl)))
  | (go_at_call 60;(with_reducible refine CN.out.mono ?_);rintro e w3 ⟨nv,rfl,hni,hb3⟩;have HNI:=hid hni;have HB3:=hid (HB2.out.trans (hb3.mono HB2.out.size));have HRI3:=hid (HRI.out.below hb3);clear hni hb3))
 have HBW:Hid (∀W,Below w3.heap.size w3 W->Below w.heap.size w W):=hid λW hW=>HB3.out.trans (hW.mono HB3.out.size)
 have hnl:((List.range YS.length).map (Zban YS)).length=N:=by rw[List.length_map,List.length_range,HN.out]
 have hnd2:ndOf ((List.range YS.length).map (Zban YS))=Zban YS:=Zbaj YS;have HNL:=hid hnl;have HND2:=hid hnd2;clear hnl hnd2
 go_loopw [13] (λiv wr=>∃k:Nat,k<=N/\iv = .int .i64 (k:Int)/\fcL (Zban YS) N ((List.range N).drop k)=fcL (Zban YS) N (List.range N)/\Below w3.heap.size w3 wr) (λiv _=>N-(intOf iv).toNat)
 case atStart=>exact⟨0,Nat.zero_le _,rfl,by rw[List.drop_zero],Below.refl _ _⟩
 case round=>
  obtain⟨k,hk,rfl,hf,hb⟩:=hrel
  by_cases hlt:k<N
  ·have hd:(List.range N).drop k=k::(List.range N).drop (k+1):=Zma (List.getElem?_range hlt)
   rw[hd,fcL]at hf;have CR:=Zbhy k nv _ wr (HNI.out.below hb) (λx hx y hy=>by
    obtain⟨j,_,rfl⟩:=List.mem_map.1 hx;rw[HNL.out,<-HN.out];exact Zbaq hy) (by rw[HNL.out];exact hlt) (by rw[HNL.out];exact hYl) (λx hx=>by
    obtain⟨j,_,rfl⟩:=List.mem_map.1 hx;have:=Zbap HYS.out j;omega)
   rw[HND2.out,HNL.out]at CR;have hok:=Zbib (nd:=Zban YS) (N:=N) (λx _ y hy=>by rw[<-HN.out];exact Zbaq hy) hlt;obtain⟨Pw,hP⟩:∃Q,Zbhz k (Zban YS) N=Q:=⟨_,rfl⟩;rw[hP]at CR hf hok;have CR:=hid CR;have HB:=hid hb;have HF:=hid hf;have HOK:=hid hok;have hi1:(k:Int)<(N:Int):=by omega
   clear hb hf hok hP hd
   by_cases hPe:Pw = []
   ·subst hPe
    have HF2:Hid (fcL (Zban YS) N ((List.range N).drop (k+1))=fcL (Zban YS) N (List.range N)):=hid (by have:=HF.out;rwa [if_pos rfl]at this)
    go_wp2_with (go_at_call 61;(with_reducible refine CR.out.mono ?_);rintro e w4 ⟨pv,rfl,hpi,hb4⟩;obtain⟨pa,pc,rfl,hpl,hpm,hpcell⟩:=hpi.at;simp only[List.length_nil]at hpl⊢;have HB4:=hid (HB.out.trans (hb4.mono HB.out.size));clear hpi hb4 hpcell)
    go_roundw
    case rel=>exact⟨k+1,by omega,by go_num,HF2.out,HB4.out⟩
    case measure=>simp[intOf];omega
   ·have HF2:Hid (Pw.map (nmAt YS)=RES):=hid (by have:=HF.out;rw[if_neg hPe]at this;rw[<-HR.out,HN.out,<-this])
    have hpos:0<Pw.length:=List.length_pos_iff.2 hPe;obtain⟨L,hL⟩:∃L,Pw.length=L:=⟨_,rfl⟩;rw[hL]at hpos;have hpi0:(0:Int)<(L:Int):=by omega
    have HL:=hid hL;clear hPe hL
    go_wp2_with (first
     | (go_at_call 61;(with_reducible refine CR.out.mono ?_);rintro e w4 ⟨pv,rfl,hpi,hb4⟩;have hpi':=hpi;obtain⟨pa,pc,rfl,hpl,hpm,hpcell⟩:=hpi.at;rw[HL.out]at hpl⊢;have HB4:=hid (HB.out.trans (hb4.mono HB.out.size));have CNA:=hid (Zzy (.slice ua N uc) (.slice pa L pc) YS Pw w4 (by rw[<-HN.out];exact HRI3.out.below (HB.out.trans (hb4.mono HB.out.size))) (by rw[<-HL.out];exact hpi') (λp hp=>by rw[HN.out];exact HOK.out.1 p hp) (by rw[HN.out];omega) (by have:=HOK.out.2;omega));clear hpi hpi' hb4 hpcell)
     | (go_at_call 62;(with_reducible refine CNA.out.mono ?_);rintro e w5 ⟨uv,rfl,hus,hb5⟩;have HUS:=hid hus;have HB5:=hid (HB4.out.trans (hb5.mono HB4.out.size));clear hus hb5))
    go_ret;exact⟨_,rfl,by rw[<-HF2.out];exact HUS.out,HBW.out _ HB5.out⟩
  ·obtain rfl:k=N:=by omega
   have hi1:¬(k:Int)<(k:Int):=by omega
   have hre:RES = []:=by
    rw[<-HR.out,HN.out,<-hf,List.drop_of_length_le (by simp)];rfl
   have HRE:=hid hre;have HB:=hid hb;clear hre hf hb;go_wp2;go_ret;exact⟨_,rfl,by rw[HRE.out];exact⟨none,0,rfl,Nat.le_refl _,Nat.zero_le _,λh=>absurd rfl h⟩,HBW.out _ HB.out⟩
theorem Zni (v:Value) (rs:List RuleS) (w:World) (hv:RulesI w v rs) (hs:∀r∈rs,SmallR r 1048576) (h0:(Zet rs).1=0):Zar v w (Zot (Zbng rs)):=by
 intro W hW;have hT:=Zbcj h0;exact Zow v rs W (hv.below hW) hs (by have:=hT.few;omega) hT.names
theorem Zou (ys:List RuleS):(Zot ys).length<=ys.length+1:=by
 unfold Zot;rw[List.length_map];have:∀l:List Nat,(∀s∈l,s<ys.length)->(fcL (Zban ys) ys.length l).length<=ys.length+1:=by
  intro l
  induction l with
  | nil=>intro _;simp[fcL]
  | cons s l ih=>
   intro h;unfold fcL;split
   ·exact ih λt ht=>h t (by simp[ht])
   ·exact(Zbib (λx _ y hy=>Zbaq hy) (h s (by simp))).2
 exact this _ λs hs=>by simpa using hs
theorem Zja (v:Value) (rs:List RuleS) (w:World) (hv:RulesI w v rs) (hs:∀r∈rs,SmallR r 1048576) (hn:rs.length<=1000) (hm:MayW w):
  Calls prog 7 #[v] w λe w'=>e = .returned (.tuple #[.int .i64 (allB rs (Zot (Zbng rs))).1,.string (allB rs (Zot (Zbng rs))).2])/\Below w.heap.size w w':=
 Ziq v rs _ w hv hs (by omega) hm (Zni v rs w hv hs) (by have:=Zou (Zbng rs);have:(Zbng rs).length=rs.length:=List.length_mergeSort _;omega)
theorem Zbvm (v:Value) (rs:List RuleS) (w:World) (hv:RulesI w v rs) (hs:∀r∈rs,SmallR r 1048576) (hn:rs.length<=1000) (hm:MayW w):
  Calls prog 10 #[v] w λe w'=>∃u,e = .returned u/\IsStrs w' u (if (Zet rs).1=0 then Zot (Zbng rs)else [])/\Below w.heap.size w w':=
 Zbvl v rs _ w hv hs (by omega) hm (Zni v rs w hv hs)
theorem Zbet {α:Type} {R:α->α->Prop} {l:List α}:l.Pairwise R↔∀(i j:Nat) x y,l[i]? =some x->l[j]? =some y->i<j->R x y:=by
 rw[List.pairwise_iff_getElem];constructor
 ·intro h i j x y hx hy hij
  obtain⟨h1,rfl⟩:=List.getElem?_eq_some_iff.1 hx;obtain⟨h2,rfl⟩:=List.getElem?_eq_some_iff.1 hy;exact h i j h1 h2 hij
 ·intro h i j hi hj hij
  exact h i j _ _ (List.getElem?_eq_getElem hi) (List.getElem?_eq_getElem hj) hij
theorem OkTog.perm {rs ys:List RuleS} (h:OkTog rs) (hp:ys.Perm rs):OkTog ys:=by
 refine⟨λr hr=>h.each r (hp.mem_iff.1 hr),by rw[hp.length_eq];exact h.few,?_,λr hr=>h.own r (hp.mem_iff.1 hr),?_,λr hr a ha=>?_⟩
 ·exact Zbet.1 ((hp.pairwise_iff (R:=λx y:RuleS=>x.name≠y.name) (λh e=>h e.symm)).2 (Zbet.2 h.names))
 ·exact Zbet.1 ((hp.pairwise_iff (R:=λx y:RuleS=>∀a∈x.outs,a∉y.outs) (λh a ha hb=>h a hb ha)).2 (Zbet.2 h.files))
 ·obtain⟨x,hx,e⟩:=h.after r (hp.mem_iff.1 hr) a ha
  exact⟨x,hp.mem_iff.2 hx,e⟩
def Zbl (x y:RuleS):Prop:=(∃a∈x.ins,a∈y.outs)∨y.name∈x.after
theorem Zbao {rs:List RuleS} (h:OkTog rs) {i j:Nat}:j∈Zban rs i↔∃x y,rs[i]? =some x/\rs[j]? =some y/\Zbl x y:=by
 rw[Zbar];constructor
 ·intro hn
  have hx:∃x,rs[i]? =some x:=by
   cases e:rs[i]? with
   | some x=>exact⟨x,rfl⟩
   | none=>
    unfold Zta Zcs at hn;rw[e]at hn;simp at hn
  obtain⟨x,hx⟩:=hx
  rcases hn with⟨a,ha,hm⟩|⟨a,ha,hm⟩
  ·obtain⟨h1,h2⟩:=Zzi hm
   have hy:=List.getElem?_eq_getElem h1;rw[Zbdh hy]at h2;unfold Zta at ha;rw[hx]at ha;exact⟨x,_,hx,hy,.inl ⟨a,ha,h2⟩⟩
  ·obtain⟨h1,h2⟩:=Zbfe hm
   have hy:=List.getElem?_eq_getElem h1;unfold nmAt at h2;rw[hy]at h2;unfold Zcs at ha;rw[hx]at ha;simp only[Option.map_some,Option.getD_some]at h2 ha;exact⟨x,_,hx,hy,.inr (by rw[<-h2];exact ha)⟩
 ·rintro⟨x,y,hx,hy,hn⟩
  have hj:=(List.getElem?_eq_some_iff.1 hy).1
  rcases hn with⟨a,ha,hb⟩|hn
  ·exact .inl ⟨a,by unfold Zta;rw[hx];exact ha,Zzh h hy hb hj (Nat.le_refl _)⟩
  ·exact .inr ⟨_,by unfold Zcs;rw[hx];exact hn,Zbfd h hy hj (Nat.le_refl _)⟩
inductive RchR (rs:List RuleS):RuleS->RuleS->Prop
 | one {x y:RuleS}:x∈rs->y∈rs->Zbl x y->RchR rs x y
 | more {x y z:RuleS}:RchR rs x y->z∈rs->Zbl y z->RchR rs x z
theorem RchR.mem {rs:List RuleS} {x y:RuleS} (h:RchR rs x y):y∈rs:=by cases h<;>assumption
theorem Zbgu {rs:List RuleS} (h:OkTog rs) {i j:Nat} (hr:Rch (Zban rs) i j):∃x y,rs[i]? =some x/\rs[j]? =some y/\RchR rs x y:=by
 induction hr with
 | one h1=>
  obtain⟨x,y,hx,hy,hn⟩:=(Zbao h).1 h1;exact⟨x,y,hx,hy,.one (List.mem_of_getElem? hx) (List.mem_of_getElem? hy) hn⟩
 | more _ h1 ih=>
  obtain⟨x,y,hx,hy,hn⟩:=ih;obtain⟨y',z,hy',hz,hn'⟩:=(Zbao h).1 h1;rw[hy]at hy';obtain rfl:=Option.some.inj hy';exact⟨x,z,hx,hz,.more hn (List.mem_of_getElem? hz) hn'⟩
theorem Zbjw {rs:List RuleS} (h:OkTog rs) {x y:RuleS} (hr:RchR rs x y):∀i j,rs[i]? =some x->rs[j]? =some y->Rch (Zban rs) i j:=by
 induction hr with
 | one _ _ hn=>intro i j hx hy;exact .one ((Zbao h).2 ⟨_,_,hx,hy,hn⟩)
 | more h1 _ hn ih=>
  intro i j hx hz;obtain⟨k,hk⟩:=List.getElem?_of_mem h1.mem;exact .more (ih i k hx hk) ((Zbao h).2 ⟨_,_,hk,hz,hn⟩)
theorem RchR.perm {rs ys:List RuleS} (hp:ys.Perm rs) {x y:RuleS} (h:RchR rs x y):RchR ys x y:=by
 induction h with
 | one h1 h2 hn=>exact .one (hp.mem_iff.2 h1) (hp.mem_iff.2 h2) hn
 | more _ h2 hn ih=>exact .more ih (hp.mem_iff.2 h2) hn
theorem Zcm {rs ys:List RuleS} (h:OkTog rs) (hp:ys.Perm rs) (ha:∀s,s<ys.length->¬Rch (Zban ys) s s):∀s,s<rs.length->¬Rch (Zban rs) s s:=by
 intro s _ hs;obtain⟨x,y,hx,hy,hr⟩:=Zbgu h hs;rw[hx]at hy;obtain rfl:=Option.some.inj hy;obtain⟨i,hi⟩:=List.getElem?_of_mem (hp.mem_iff.2 (List.mem_of_getElem? hx));exact ha i (List.getElem?_eq_some_iff.1 hi).1 (Zbjw (h.perm hp) (hr.perm hp) i i hi hi)
theorem Zcl {rs:List RuleS} (h:OkTog rs) (hc:Zot (Zbng rs) = []):∀s,s<rs.length->¬Rch (Zban rs) s s:=
 Zcm h (List.mergeSort_perm _ _) (Zov hc)
theorem Zbjz (r:RuleS) (ins:List ValT) (h:∀v∈ins,v.2.size<=100000000):∀v∈runP r ins,v.2.size<=100000000:=by
 unfold runP;split
 ·intro v hv;simp at hv
 ·intro v hv
  obtain⟨o,_,rfl⟩:=List.mem_map.1 hv;exact Zbbu (Zboo _ _ (ShortE.by _ _ _ (λ_=>by show(0:Nat)<=_;omega) h) o)
theorem Zbsa (rs:List RuleS) (f:ByteArray->ByteArray×Bool) (hf:∀x,(f x).1.size<=100000000):∀(d:Nat) (x:ByteArray),(valF rs f d x).2.size<=100000000
 | 0,_=>by show(0:Nat)<=_;omega
 | d+1,x=>by
  rw[valF];split
  ·exact hf x
  ·split
   ·show(0:Nat)<=_;omega
   ·rename_i r _
    rw[List.getD_eq_getElem?_getD]
    cases h:(runP r (r.ins.map (valF rs f d)))[(Zoi r.outs x).toNat]? with
    | none=>show(0:Nat)<=_;omega
    | some v=>exact Zbjz _ _ (λu hu=>by obtain⟨a,_,rfl⟩:=List.mem_map.1 hu;exact Zbsa rs f hf d a) v (List.mem_of_getElem? h)
def Zkd (rs:List RuleS):Int:=(allB rs (Zot (Zbng rs))).1
theorem Zke {rs:List RuleS} (h:Zkd rs=0):(Zet rs).1=0/\Zot (Zbng rs) = []:=by
 unfold Zkd allB at h
 by_cases hb:(Zet rs).1=0
 ·rw[if_pos hb]at h
  cases hc:Zot (Zbng rs)with
  | nil=>exact⟨hb,rfl⟩
  | cons x l=>rw[hc]at h;exact absurd (show(3:Int)=0 from h) (by decide)
 ·rw[if_neg hb]at h;exact absurd h hb
def Zod (rs:List RuleS) (f:ByteArray->ByteArray×Bool) (names:List ByteArray):List ValT:=if Zkd rs=0 then names.map (Zob rs f)else List.replicate names.length noV
set_option maxHeartbeats 8000000
set_option maxRecDepth 100000
theorem Zoe (v tv nv:Value) (rs:List RuleS) (f:ByteArray->ByteArray×Bool) (names:List ByteArray) (w:World) (hv:RulesI w v rs) (hs:∀r∈rs,SmallR r 1048576) (hn:rs.length<=1000) (ht:∃a,tv = .pointer a) (hR:Zbs tv w f) (hf:∀x,(f x).1.size<=100000000) (hN:IsStrs w nv names) (hns:∀x∈names,x.size<=maxLen) (hnl:names.length<=1000000000) (hG:Glob w) (hM:MayW w):
  Calls prog 18 #[v,tv,nv] w λe w'=>∃g,e = .returned (.slice (some ⟨g,0,none⟩) names.length names.length)/\ValRow w' g (Zod rs f names)/\w.heap.size<=g/\Below w.heap.size w w':=by
 have CA:=hid (Zja v rs w hv hs hn hM);obtain⟨ta,rfl⟩:=ht;obtain⟨va,vc,rfl,_,_⟩:=Zbjn hv;obtain⟨na,nc,rfl,hnlc,hnm,_⟩:=Zua hN;have hmk:=Zyh names.length hnl;obtain⟨cs,hc⟩:∃c,Zkd rs=c:=⟨_,rfl⟩;have hc':(allB rs (Zot (Zbng rs))).1=cs:=hc;obtain⟨st,hst⟩:∃c,(allB rs (Zot (Zbng rs))).2=c:=⟨_,rfl⟩;rw[hc',hst]at CA;unfold Zod;rw[hc];unfold maxLen at hnm
 by_cases h0:cs=0
 ·subst h0
  rw[if_pos rfl];obtain⟨hb0,hcy⟩:=Zke hc;have hT:=Zbcj hb0;have hmean:=Ztt (f:=f) hT (Zcl hT hcy);have CM:Hid (∀W,Below w.heap.size w W->Calls prog 38 #[.slice va rs.length vc,.pointer ta] W λe w'=>∃n,e = .returned (.agg #[.pointer ta,.map (some n),.map (some (n+1))])/\W.heap.size<=n/\Below W.heap.size W w'/\Calls prog 39 #[.agg #[.pointer ta,.map (some n),.map (some (n+1))],.slice na names.length nc] w' λe w''=>∃g,e = .returned (.slice (some ⟨g,0,none⟩) names.length names.length)/\ValRow w'' g (names.map (Zob rs f))/\w'.heap.size<=g/\Below W.heap.size W w''):=by
   show ∀W,_;intro W hW;have hvW:=hv.below hW;obtain⟨V,hV⟩:=Zbkm hvW;refine(Zzd _ (.pointer ta) rs V W hvW hV hs hn ⟨_,rfl⟩).mono ?_;rintro e w' ⟨n,rfl,hln,hmk',hmd,hb⟩;have hH:DenH W W.heap.size n (n+1) rs V (Zob rs f) (Zbgh (Zban rs) rs.length) (.pointer ta) f:=
    ⟨rfl,hln,by omega,by omega,hn,hs,λk x hx=>by
     obtain⟨a1,c1,a2,c2,a3,c3,a4,c4,h1,h2,_⟩:=hV k x hx;exact⟨a1,c1,a2,c2,a3,c3,a4,c4,h1,h2⟩,hmean,λx=>Zbsa rs f hf _ x,⟨_,rfl⟩,λx X hx hX=>hR x X hx (hW.trans (hX.mono hW.size)),hG.below hW⟩
   have hI:DenI W W.heap.size n (n+1) rs V (Zob rs f) [] w':=⟨hb,hmk',[],hmd,λk hk=>by simp[hasM]at hk,λp hp=>by simp at hp,λo ho=>by simp at ho⟩;refine⟨n,rfl,hln,hb,?_⟩;refine(Zlr hH (rs.length+1) (Zbco hH _) _ names [] w' (hN.below (hW.trans (hb.mono hW.size))) hns hnl (λx _ k hk=>?_) hI).mono ?_
   ·unfold Zbgh
    have:=List.countP_le_length (p:=λy=>@decide (Rch (Zban rs) k y) (Classical.propDecidable _)) (l:=List.range rs.length);rw[List.length_range]at this;exact Nat.lt_succ_of_le this
   ·rintro e w'' ⟨g,rfl,hrow,hg,_,hI'⟩
    exact⟨g,rfl,hrow,hg,hI'.below⟩
  clear hv hs hR hf hN hns hG hM hc hc' hst hb0 hcy hT hmean hnlc
  go_enter func18,ntmps18
  go_wp2_with (first
   | (go_at_call 7;(with_reducible refine CA.out.mono ?_);rintro e w2 ⟨rfl,hb2⟩;have HB2:=hid hb2;clear hb2)
   | (go_at_call 38;(with_reducible refine(CM.out _ HB2.out).mono ?_);rintro e w3 ⟨n,rfl,hln,hb3,hall⟩;have HLN:=hid hln;have HB3:=hid hb3;have CAL:=hid hall;clear hln hb3 hall)
   | (go_at_call 39;(with_reducible refine CAL.out.mono ?_);rintro e w4 ⟨g,rfl,hrow,hg,hb4⟩;have HROW:=hid hrow;have HG:=hid hg;have HB4:=hid hb4;clear hrow hg hb4))
  go_ret;exact⟨g,rfl,HROW.out,by have h1:=HG.out;have h2:=HB3.out.size;have h3:=HB2.out.size;omega,HB2.out.trans (HB4.out.mono HB2.out.size)⟩
 ·rw[if_neg h0]
  clear hv hs hR hf hN hns hG hM hc hc' hst hnlc
  go_enter func18,ntmps18
  go_wp2_with (go_at_call 7;(with_reducible refine CA.out.mono ?_);rintro e w2 ⟨rfl,hb2⟩;have HB2:=hid hb2;clear hb2)
  go_ret;exact⟨_,rfl,Zbsc _ _,HB2.out.size,HB2.out.alloc HB2.out.size _⟩
set_option maxHeartbeats 8000000
set_option maxRecDepth 100000
theorem Zgu (ks:List ByteArray) (vs:List ValT) (h:∀v∈vs,v.2.size<=100000000):ShortE (byE ks vs λ_=>noV):=ShortE.by _ _ _ (λ_=>by show(0:Nat)<=_;omega) h
def Zzw (r:RuleS) (ks:List ByteArray) (vs:List ValT):List ValT:=runP r (r.ins.map λk=>Zbbt (byE ks vs (λ_=>noV) k))
def Zbh (r:RuleS) (ks:List ByteArray) (vs:List ValT) (w:World) (e:Ending) (w':World):Prop:=∃v,e = .returned v/\Zbb w' v (Zzw r ks vs)/\Below w.heap.size w w'
theorem Zzx (r:RuleS) (a1 a2 a3 a4:Option Addr) (c1 c2 c3 c4:Nat) (nv vv:Value) (ks:List ByteArray) (vs:List ValT) (w:World) (hr:RuleI w [.string r.name,.slice a1 r.ins.length c1,.slice a2 r.outs.length c2,.slice a3 r.after.length c3,.slice a4 r.steps.length c4] r) (hs:SmallR r 1048576) (hk:IsStrs w nv ks) (hkn:ks.length<=1000000) (hks:∀k∈ks,k.size<=maxLen) (hv:Zbb w vv vs) (hn:vs.length<=1048576) (hi:∀v∈vs,v.2.size<=100000000) (hG:Glob w):
  Calls prog 16 #[.agg (Zbiz r a1 a2 a3 a4 c1 c2 c3 c4),nv,vv] w (Zbh r ks vs w):=by
 have hri:=hr;obtain⟨vi,vo,vf,vst,q,h1,h2,h3,h4⟩:=hr;simp only[List.cons.injEq,and_true,true_and]at q;obtain⟨rfl,rfl,rfl,rfl⟩:=q;have hsi:=hs.ins;have hb0:Below w.heap.size w (w.alloc (.cells (Zbiz r a1 a2 a3 a4 c1 c2 c3 c4) 37)):=(Below.refl _ _).alloc (Nat.le_refl _) _;have hx:=alloc_at w (.cells (Zbiz r a1 a2 a3 a4 c1 c2 c3 c4) 37);obtain⟨W1,hW1⟩:∃W1,w.alloc (.cells (Zbiz r a1 a2 a3 a4 c1 c2 c3 c4) 37)=W1:=⟨_,rfl⟩;have hs1:W1.heap.size=w.heap.size+1:=by rw[<-hW1];simp
 rw[hW1]at hb0 hx;have HD:Hid (∀W,Below W1.heap.size W1 W->W.cell? ⟨w.heap.size,0,none⟩=some (.string r.name)/\W.cell? ⟨w.heap.size,1,none⟩=some (.slice a1 r.ins.length c1)/\W.cell? ⟨w.heap.size,2,none⟩=some (.slice a2 r.outs.length c2)/\W.cell? ⟨w.heap.size,3,none⟩=some (.slice a3 r.after.length c3)/\W.cell? ⟨w.heap.size,4,none⟩=some (.slice a4 r.steps.length c4)):=by
  show ∀W,_;intro W hW;obtain⟨e0,e1,e2,e3,e4,_⟩:=cells5 ((hW.block w.heap.size (by omega)).trans hx);exact⟨e0,e1,e2,e3,e4⟩
 have hW0:=hb0.size;have UP:Hid (∀W,Below W1.heap.size W1 W->Below w.heap.size w W):=by show ∀W,_;exact λW h=>hb0.trans (h.mono hW0)
 have CB:=hid (Zgv nv vv ks vs W1.drew (hk.below (UP.out _ (below_drewN (Below.refl _ _) 1))) (Zbsi hv (UP.out _ (below_drewN (Below.refl _ _) 1))) (by omega) (by omega) hks);obtain⟨E0,hE0⟩:∃E0,(byE ks vs λ_=>noV)=E0:=⟨_,rfl⟩;have HSH:Hid (ShortE E0):=hid (by rw[<-hE0];exact Zgu ks vs hi);have HE0:=hid hE0;have CP:Hid (∀(b n:Nat) W,EnvIs W b n E0->Below W1.heap.size W1 W->Calls prog 36 #[.map (some b),.slice a1 r.ins.length c1] W (Zbr W r.ins E0)):=by
  show ∀(b n:Nat) W,_;exact λb n W he hb=>Zbfa b n E0 _ r.ins W he (h1.below (UP.out W hb)) (by have:=hsi.1;omega) (λx hx=>by have:=hsi.2 x hx;unfold maxLen;omega)
 have CO:Hid (∀W v,Below W1.heap.size W1 W->Zbb W v (r.ins.map λk=>Zbbt (E0 k))->Calls prog 15 #[.agg (Zbiz r a1 a2 a3 a4 c1 c2 c3 c4),v] W (Zbn r (r.ins.map λk=>Zbbt (E0 k)) W)):=by
  show ∀W v,_;intro W v hb hv';have hbw:=UP.out W hb;exact Zbcd r a1 a2 a3 a4 c1 c2 c3 c4 v _ W (hri.below hbw) hs hv' (by rw[List.length_map];exact hsi.1) (λu hu=>by
   obtain⟨k,_,rfl⟩:=List.mem_map.1 hu;exact Zbbu (HSH.out k)) (hG.below hbw)
 have hnn:Hid (r.ins.length<=maxLen):=hid (by have:=hsi.1;unfold maxLen;omega);have HP:Hid (Zzw r ks vs=runP r (r.ins.map λk=>Zbbt (E0 k))):=hid (by unfold Zzw;rw[hE0]);have HW:=hid hW1;have HS1:=hid hs1;have mixed:prog.follows .mixedOrders=true:=by kernel_rfl
 obtain⟨d0,d1,d2,d3,d4⟩:=HD.out W1 (Below.refl _ _);obtain⟨rname,rins,routs,rafter,rsteps⟩:=r;simp only[Zbiz]at d0 d1 d2 d3 d4 HD CP CO HP HW hnn⊢;clear hri h1 h2 h3 h4 hs hsi hk hv hG hb0 hx hW1 hs1 hW0 hE0 hi hkn hks
 go_enter func16,ntmps16
 go_wp2;rw[HW.out];refine wp_region_held_drew (S:=(λw'=>w'.cell? ⟨w.heap.size,0,none⟩=some (.string rname)/\w'.cell? ⟨w.heap.size,1,none⟩=some (.slice a1 rins.length c1)/\w'.cell? ⟨w.heap.size,2,none⟩=some (.slice a2 routs.length c2)/\w'.cell? ⟨w.heap.size,3,none⟩=some (.slice a3 rafter.length c3)/\w'.cell? ⟨w.heap.size,4,none⟩=some (.slice a4 rsteps.length c4))) (by kernel_rfl) ?_ (λhHeld=>?_)
 ·exact HD.out _ (below_drewN (Below.refl _ _) 1)
 refine tkH 0 (v:=?_) ?_ ?_;rotate_left
 ·intro w hSw;obtain⟨q0,q1,q2,q3,q4⟩:=hSw;go_simp;try with_reducible rfl
 try simp only[Act.put,List.setIfInBounds_toArray,List.set_cons_zero,List.set_cons_succ]
 refine tkH 1 (v:=?_) ?_ ?_;rotate_left
 ·intro w hSw;obtain⟨q0,q1,q2,q3,q4⟩:=hSw;go_simp;try with_reducible rfl
 try simp only[Act.put,List.setIfInBounds_toArray,List.set_cons_zero,List.set_cons_succ]
 refine tkH 2 (v:=?_) ?_ ?_;rotate_left
 ·intro w hSw;obtain⟨q0,q1,q2,q3,q4⟩:=hSw;go_simp;try with_reducible rfl
 try simp only[Act.put,List.setIfInBounds_toArray,List.set_cons_zero,List.set_cons_succ]
 refine tkH 4 (v:=?_) ?_ ?_;rotate_left
 ·intro w hSw;obtain⟨q0,q1,q2,q3,q4⟩:=hSw;go_simp;try with_reducible rfl
 try simp only[Act.put,List.setIfInBounds_toArray,List.set_cons_zero,List.set_cons_succ]
 refine tkH 5 (v:=?_) ?_ ?_;rotate_left
 ·intro w hSw;obtain⟨q0,q1,q2,q3,q4⟩:=hSw;go_simp;try with_reducible rfl
 try simp only[Act.put,List.setIfInBounds_toArray,List.set_cons_zero,List.set_cons_succ]
 refine rdH [3] ?_;refine rcH (λK hK=>?_) ?_
 ·go_simp;refine CB.out.mono ?_;rintro e w3 ⟨b,rfl,henv,hbs,hb3⟩;rw[HE0.out]at henv;have HE3:=hid henv;have HB3:=hid ((below_drewN (Below.refl W1.heap.size W1) 1).trans hb3);clear henv hbs hb3;dsimp only
  refine hK.out _ _ ?_ (λhHeld=>?_)
  ·try dsimp only
   exact HD.out _ HB3.out
  clear hK K
  try simp only[Act.put,List.setIfInBounds_toArray,List.set_cons_zero,List.set_cons_succ]
  refine rdH [6] ?_;refine rcH (λK hK=>?_) ?_
  ·go_simp;refine(CP.out _ _ _ HE3.out HB3.out).mono ?_;rintro e w4 ⟨g,rfl,hrow,hgs,hb4⟩;have HB4:=hid (HB3.out.trans (hb4.mono HB3.out.size));have hV4:=hrow.vals (by rw[List.length_map];exact hnn.out);rw[List.length_map]at hV4;have HV4:=hid hV4;clear hrow hgs hb4 hV4;dsimp only
   refine hK.out _ _ ?_ (λhHeld=>?_)
   ·try dsimp only
    exact HD.out _ HB4.out
   clear hK K
   try simp only[Act.put,List.setIfInBounds_toArray,List.set_cons_zero,List.set_cons_succ]
   refine rdH [7] ?_;refine rcH (λK hK=>?_) ?_
   ·go_simp;refine(CO.out _ _ HB4.out HV4.out).mono ?_;rintro e w5 ⟨v5,rfl,hv5,hb5⟩;have HB5:=hid (HB4.out.trans (hb5.mono HB4.out.size));have HV5:=hid hv5;clear hv5 hb5;dsimp only
    refine hK.out _ _ ?_ (λhHeld=>?_)
    ·try dsimp only
     exact HD.out _ HB5.out
    clear hK K
    try simp only[Act.put,List.setIfInBounds_toArray,List.set_cons_zero,List.set_cons_succ]
    refine rdH [8] ?_;refine rcH (λK hK=>?_) ?_
    ·go_simp
     refine hK.out _ _ ?_ (λhHeld=>?_)
     ·try dsimp only
      exact HD.out _ HB5.out
     clear hK K
     try simp only[Act.put,List.setIfInBounds_toArray,List.set_cons_zero,List.set_cons_succ]
     refine wpAnyH_done (by kernel_rfl) ?_ _;go_wp2;go_ret;exact⟨_,rfl,by rw[HP.out];exact HV5.out,UP.out _ HB5.out⟩
    exact AllReadyH.nil
   exact AllReadyH.nil
  exact AllReadyH.nil
 exact AllReadyH.nil
def rB:RuleS:=⟨⟨#[114]⟩,[⟨#[97]⟩,⟨#[98]⟩],[⟨#[120]⟩,⟨#[121]⟩],[],[⟨⟨#[116]⟩,3,[⟨#[97]⟩],[],0⟩,⟨⟨#[120]⟩,4,[⟨#[116]⟩],[],0⟩,⟨⟨#[121]⟩,2,[⟨#[98]⟩],[],0⟩]⟩
def rS:RuleS:=⟨⟨#[115]⟩,[⟨#[120]⟩],[⟨#[97]⟩],[],[⟨⟨#[97]⟩,1,[⟨#[120]⟩],[],0⟩]⟩
def trB:List F2:=[(⟨#[97]⟩,⟨#[50,10,49]⟩)]
theorem Zwc:srtL [[113],[112]] = [[112],[113]]:=by
 unfold srtL;simp[List.mergeSort,List.MergeSort.Internal.splitInTwo,List.merge]
 decide
theorem Zwd:srtL [[50],[49]] = [[49],[50]]:=by
 unfold srtL;simp[List.mergeSort,List.MergeSort.Internal.splitInTwo,List.merge]
 decide
def sB:StepS:=⟨⟨#[116]⟩,3,[⟨#[97]⟩],[],0⟩
theorem Zvx:doV sB [(true,⟨#[113,10,112]⟩)]=(true,⟨#[112,10,113,10]⟩):=by
 unfold doV;rw[if_pos (by kernel_rfl),show doT sB ([(true,(⟨#[113,10,112]⟩:ByteArray))].map (·.2.data.toList))=some (Zul (srtL (Zxl [113,10,112]))) by kernel_rfl,show Zxl [113,10,112] = [[113],[112]] by kernel_rfl,Zwc]
 kernel_rfl
theorem Zvy:doV sB [(true,⟨#[50,10,49]⟩)]=(true,⟨#[49,10,50,10]⟩):=by
 unfold doV;rw[if_pos (by kernel_rfl),show doT sB ([(true,(⟨#[50,10,49]⟩:ByteArray))].map (·.2.data.toList))=some (Zul (srtL (Zxl [50,10,49]))) by kernel_rfl,show Zxl [50,10,49] = [[50],[49]] by kernel_rfl,Zwd]
 kernel_rfl
theorem Zvz:doV sB [noV]=noV:=by kernel_rfl
def envB (x y:ValT):ByteArray->ValT:=byE [⟨#[97]⟩,⟨#[98]⟩] [x,y] λ_=>noV
theorem Zvu (x y t:ValT) (h:doV sB [Zbbt x]=t):runP rB [x,y] = [⟨#[120]⟩,⟨#[121]⟩].map λo=>Zbbt (Zbom [⟨⟨#[120]⟩,4,[⟨#[116]⟩],[],0⟩,⟨⟨#[121]⟩,2,[⟨#[98]⟩],[],0⟩] (setE (envB x y) ⟨#[116]⟩ t) o):=by
 unfold runP;rw[if_neg (by simp[rB])];show([⟨#[120]⟩,⟨#[121]⟩].map λo=>Zbbt (Zbom [⟨⟨#[120]⟩,4,[⟨#[116]⟩],[],0⟩,⟨⟨#[121]⟩,2,[⟨#[98]⟩],[],0⟩] (setE (envB x y) ⟨#[116]⟩ (doV sB [Zbbt (envB x y ⟨#[97]⟩)])) o))=_;rw[show envB x y ⟨#[97]⟩=x by rfl,h]
theorem Zvt:runP rB [(true,⟨#[113,10,112]⟩),(true,⟨#[]⟩)] = [(true,⟨#[50,10]⟩),noV]:=by
 rw[Zvu (true,⟨#[113,10,112]⟩) (true,⟨#[]⟩) _ Zvx]
 kernel_rfl
theorem Zvn:Zzw rB [⟨#[98]⟩] [(true,⟨#[122]⟩)] = [noV,(true,⟨#[122]⟩)]:=by
 show runP rB [noV,(true,⟨#[122]⟩)]=_;rw[Zvu noV (true,⟨#[122]⟩) _ Zvz]
 kernel_rfl
theorem Zvs:Zbip rB=0:=by kernel_rfl
theorem Zvm:mayB ⟨⟨#[116]⟩,3,[⟨#[97]⟩],[],0⟩=true:=by kernel_rfl
theorem Zvl:(Zxi ⟨#[97,10,10,98]⟩).length=3:=by kernel_rfl
theorem Zwe:whL true 0 (Zbak [⟨#[120]⟩] rB.steps).1 = [0,1]:=by kernel_rfl
theorem Zvh:whL false 0 (Zbak rB.outs rB.steps).1 = []:=by kernel_rfl
theorem Zwf:newF [(⟨#[97]⟩,⟨#[50,10,49]⟩)]=trB:=by kernel_rfl
theorem Zvp:Zbgv trB ⟨#[98]⟩=(⟨#[]⟩,false):=by kernel_rfl
theorem Zvo:Zbgv trB ⟨#[97]⟩=(⟨#[50,10,49]⟩,true):=by kernel_rfl
theorem Zvf:Zet [rB]=(0,⟨#[]⟩):=by kernel_rfl
theorem Zvg:Zet [rS,rB]=(0,⟨#[]⟩):=by kernel_rfl
theorem k_eq:eqV noV (false,⟨#[63]⟩)=true:=by kernel_rfl
theorem Zwa:Zbng [rB] = [rB]:=by simp[Zbng]
theorem Zwb:Zbng [rS,rB] = [rB,rS]:=by
 have h:nmLe rS rB=false:=by kernel_rfl
 unfold Zbng;simp[List.mergeSort,List.MergeSort.Internal.splitInTwo,h]
theorem k_n1:Zban [rB] 0 = []:=by
 unfold Zban;rw[show(Zta [rB] 0).filterMap (mkrN [rB] [rB].length)++(Zcs [rB] 0).filterMap (plcN [rB] [rB].length) = [] by kernel_rfl];simp[srtN]
theorem k_n2:Zban [rB,rS] 0 = [1]:=by
 unfold Zban;rw[show(Zta [rB,rS] 0).filterMap (mkrN [rB,rS] [rB,rS].length)++(Zcs [rB,rS] 0).filterMap (plcN [rB,rS] [rB,rS].length) = [1] by kernel_rfl];simp[srtN]
theorem k_n3:Zban [rB,rS] 1 = [0]:=by
 unfold Zban;rw[show(Zta [rB,rS] 1).filterMap (mkrN [rB,rS] [rB,rS].length)++(Zcs [rB,rS] 1).filterMap (plcN [rB,rS] [rB,rS].length) = [0] by kernel_rfl];simp[srtN]
theorem Zvi:Zot [rB] = []:=by
 unfold Zot;rw[show List.range [rB].length = [0]from rfl];simp[fcL,Zbhz,bfsF,Zbax,k_n1]
theorem Zvj:Zot [rB,rS] = [⟨#[114]⟩,⟨#[115]⟩]:=by
 have e:Zbhz 0 (Zban [rB,rS]) [rB,rS].length = [0,1]:=by
  show bfsF 0 (Zban [rB,rS]) 4 [[0]] [false,false] = [0,1];simp[bfsF,Zbax,k_n2,k_n3]
 unfold Zot;rw[show List.range [rB,rS].length = [0,1]from rfl,fcL,e,if_neg (by simp)];rfl
theorem Zvd:allB [rB] (Zot (Zbng [rB]))=(0,⟨#[]⟩):=by rw[Zwa,Zvi];unfold allB;rw[Zvf];rfl
theorem Zve:allB [rS,rB] (Zot (Zbng [rS,rB]))=(3,⟨#[114]⟩):=by rw[Zwb,Zvj];unfold allB;rw[Zvg];rfl
theorem Zvk:Zod [rB] (Zbgv trB) [⟨#[120]⟩,⟨#[97]⟩,⟨#[121]⟩] = [(true,⟨#[50,10]⟩),(true,⟨#[50,10,49]⟩),noV]:=by
 unfold Zod;rw[if_pos (by unfold Zkd;rw[Zvd])];have ha:∀d,valF [rB] (Zbgv trB) (d+1) ⟨#[97]⟩=(true,⟨#[50,10,49]⟩):=λd=>by rw[valF,show mkrN [rB] [rB].length ⟨#[97]⟩=none by kernel_rfl];show((Zbgv trB ⟨#[97]⟩).2,(Zbgv trB ⟨#[97]⟩).1)=_;rw[Zvo]
 have hb:∀d,valF [rB] (Zbgv trB) (d+1) ⟨#[98]⟩=noV:=λd=>by rw[valF,show mkrN [rB] [rB].length ⟨#[98]⟩=none by kernel_rfl];show((Zbgv trB ⟨#[98]⟩).2,(Zbgv trB ⟨#[98]⟩).1)=_;rw[Zvp];rfl
 have hr:runP rB (rB.ins.map (valF [rB] (Zbgv trB) 2)) = [(true,⟨#[50,10]⟩),noV]:=by
  rw[show rB.ins.map (valF [rB] (Zbgv trB) 2) = [(true,⟨#[50,10,49]⟩),noV] by show [valF _ _ _ _,valF _ _ _ _]=_;rw[ha 1,hb 1],Zvu (true,⟨#[50,10,49]⟩) noV _ Zvy]
  kernel_rfl
 have hx:Zob [rB] (Zbgv trB) ⟨#[120]⟩=(true,⟨#[50,10]⟩):=by
  show valF [rB] (Zbgv trB) 3 ⟨#[120]⟩=_;rw[valF,show mkrN [rB] [rB].length ⟨#[120]⟩=some 0 by kernel_rfl];show(runP rB (rB.ins.map (valF [rB] (Zbgv trB) 2))).getD (Zoi rB.outs ⟨#[120]⟩).toNat noV=_;rw[hr];kernel_rfl
 have hy:Zob [rB] (Zbgv trB) ⟨#[121]⟩=noV:=by
  show valF [rB] (Zbgv trB) 3 ⟨#[121]⟩=_;rw[valF,show mkrN [rB] [rB].length ⟨#[121]⟩=some 0 by kernel_rfl];show(runP rB (rB.ins.map (valF [rB] (Zbgv trB) 2))).getD (Zoi rB.outs ⟨#[121]⟩).toNat noV=_;rw[hr];kernel_rfl
 show [Zob _ _ _,Zob _ _ _,Zob _ _ _]=_;rw[hx,hy];show [_,valF [rB] (Zbgv trB) 3 ⟨#[97]⟩,_]=_;rw[ha 2]
theorem Zvq:(Zbgw rB [⟨#[120]⟩]).length=1:=by
 unfold Zbgw;rw[show rB.ins.filter (λa=>decide (0<=Zoi (Zdr rB.steps (Zbak [⟨#[120]⟩] rB.steps).1) a)) = [⟨#[97]⟩] by kernel_rfl];unfold srtB;rw[List.length_map];unfold srtL;rw[List.length_mergeSort];rfl
theorem Zvr:(Zbgw rB rB.outs).length=2:=by
 unfold Zbgw;rw[show rB.ins.filter (λa=>decide (0<=Zoi (Zdr rB.steps (Zbak rB.outs rB.steps).1) a)) = [⟨#[97]⟩,⟨#[98]⟩] by kernel_rfl];unfold srtB;rw[List.length_map];unfold srtL;rw[List.length_mergeSort];rfl
def Zblv (l:List ByteArray):Bool:=decide (l.length<=1048576)&&l.all λx=>decide (x.size<=1048576)
theorem Zblw {l:List ByteArray} (h:Zblv l=true):SmallL l 1048576:=by
 unfold Zblv at h;rw[Bool.and_eq_true,decide_eq_true_eq,List.all_eq_true]at h;exact⟨h.1,λx hx=>by simpa using h.2 x hx⟩
def Zbly (r:RuleS):Bool:=decide (r.name.size<=1048576)&&Zblv r.ins&&Zblv r.outs&&Zblv r.after&&decide (r.steps.length<=1048576)&&r.steps.all λs=>decide (s.out.size<=1048576)&&Zblv s.args&&Zblv s.lits&&decide (-9223372036854775808<=s.op/\s.op<=9223372036854775807)&&decide (-9223372036854775808<=s.n/\s.n<=9223372036854775807)
theorem Zblz {r:RuleS} (h:Zbly r=true):SmallR r 1048576:=by
 unfold Zbly at h;simp only[Bool.and_eq_true,decide_eq_true_eq,List.all_eq_true]at h;obtain⟨⟨⟨⟨⟨h1,h2⟩,h3⟩,h4⟩,h5⟩,h6⟩:=h;exact⟨h1,Zblw h2,Zblw h3,Zblw h4,h5,λs hs=>by obtain⟨⟨⟨⟨a,b⟩,c⟩,d⟩,e⟩:=h6 s hs;exact⟨a,Zblw b,Zblw c,d,e⟩⟩
theorem Zvv:SmallR rB 1048576:=Zblz (by kernel_rfl)
theorem Zvw:SmallR rS 1048576:=Zblz (by kernel_rfl)
theorem Zbsf:prog.underlying 46=some (.struct (prog.fieldsOf 46)):=by kernel_rfl
theorem Zbse:prog.stoodInHeld 46=false:=by kernel_rfl
set_option maxRecDepth 100000 in
theorem Zmw (a b:Bool) (s t:ByteArray) (w:World):(Go.binOp .eql 46 (.agg #[.bool a,.string s]) (.agg #[.bool b,.string t])).run prog w = .ok (.bool ((a==b)&&(s.toList==t.toList))) w:=by
 have h1:=underlying4;have h2:=underlying9;have z1:=sizeOf4;have z2:=sizeOf9;rw[run_eql_struct,run_equalIn_agg w 9999 _ _ _ Zbsf Zbse];simp only[Program.fieldsOf,underlying46]
 cases a<;>cases b<;>go_simp
 all_goals (by_cases h:s.toList=t.toList<;>simp[h])
end Go.Proofs.YtcpjfpdecklkgaaGreatDoor
