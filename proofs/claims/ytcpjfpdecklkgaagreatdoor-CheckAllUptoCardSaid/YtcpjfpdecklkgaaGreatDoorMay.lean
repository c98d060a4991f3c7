import Derived.Test.YtcpjfpdecklkgaaGreatDoorMax
namespace Go.Proofs.YtcpjfpdecklkgaaGreatDoor
open Go.Lib (hid)
open Go.Proofs.Tryz
open Go.RowKit Go.Shelf Go.Sort
set_option maxHeartbeats 4000000
set_option maxRecDepth 100000
theorem Zpg (bs:List ByteArray) (k m:Nat) (hk:bs.length<=k) (hm:∀b∈bs,b.size<=m):(bs.map (·.data.toList)).flatten.length<=k*m:=by
 have:(bs.map (·.data.toList)).flatten.length<=bs.length*m:=by
  clear hk
  induction bs with
  | nil=>simp
  | cons b l ih=>
   have h1:=hm b (by simp);have h2:=ih λc hc=>hm c (by simp[hc])
   rw[Lib.size_eq]at h1;rw[List.map_cons,List.flatten_cons,List.length_append,List.length_cons,Nat.add_mul];omega
 exact Nat.le_trans this (Nat.mul_le_mul_right _ hk)
theorem Zis (x:StepS) (a1 a2:Option Addr) (c1 c2:Nat) (s:ByteArray) (w:World) (hmay:mayB x=true) (h5:x.op≠5) (h6:x.op≠6) (hs:s.size<=900000000) (hl:IsStrs w (.slice a2 x.lits.length c2) x.lits) (hG:Glob w):
  Calls prog 112 #[.agg (Zbny x a1 a2 c1 c2),.string s] w (Zaf x s w):=by
 obtain⟨⟨o1,o9⟩,_,hnl,hfo,n0,n1,_,h100⟩:=(Zyt x).1 hmay;obtain⟨m,hm⟩:=hG.max;have hgb:=Zie hm;unfold nlF at hnl;have hop:x.op=1∨x.op=2∨x.op=3∨x.op=4∨x.op=7∨x.op=8∨x.op=9:=by omega
 rcases hop with h|h|h|h|h|h|h
 ·exact Zit x a1 a2 c1 c2 s w h hs
 ·exact Ziv x a1 a2 c1 c2 s w h hs
 ·exact Ziz x a1 a2 c1 c2 s w h hs
 ·exact Ziu x a1 a2 c1 c2 s w h hs hG
 ·rw[if_pos (.inr h)]at hnl
  exact Ziy x a1 a2 c1 c2 s m w h hs hl (by omega) hgb hm
 ·rw[if_neg (by omega),if_pos h]at hnl
  refine Zix x a1 a2 c1 c2 s m w h hs hl (by omega) h100 ?_ hgb hm
  cases hx:x.lits with
  | nil=>rfl
  | cons y r=>
   have:=hfo h y (by rw[hx];rfl);unfold Zox;simp only;rw[this];rfl
 ·exact Ziw x a1 a2 c1 c2 s w h hs n0 n1
def Zck (x:StepS) (bs:List ByteArray) (w:World) (e:Ending) (w':World):Prop:=e = .returned (valE (outV (doT x (bs.map (·.data.toList)))))/\Below w.heap.size w w'
theorem Zbuq (x:StepS) (a1 a2:Option Addr) (c1 c2:Nat) (v:Value) (bs:List ByteArray) (w:World) (hmay:mayB x=true) (hn:bs.length=x.args.length) (hb:∀b∈bs,b.size<=100000000) (hv:IsStrs w v bs) (hl:IsStrs w (.slice a2 x.lits.length c2) x.lits) (hG:Glob w):
  Calls prog 67 #[.agg (Zbny x a1 a2 c1 c2),v] w (Zck x bs w):=by
 have hmx:=(Zyt x).1 hmay;obtain⟨⟨o1,o9⟩,hna,hnl,hfo,n0,n1,_,h100⟩:=hmx;have hB:=chgB w x a1 a2 c1 c2;obtain⟨R,hR⟩:∃R,outV (doT x (bs.map (·.data.toList)))=R:=⟨_,rfl⟩;unfold Zck;rw[hR];obtain⟨W1,hW1⟩:∃W1,(w.alloc (.cells (Zbny x a1 a2 c1 c2) 34)).alloc (.cells #[.bool false,.string ⟨#[]⟩] 46)=W1:=⟨_,rfl⟩;obtain⟨d0,d1,d2,d3,d4⟩:=hB.cells _ (Below.refl _ _);rw[hW1]at hB;have hv1:=hv.below hB.below;have hl1:=hl.below hB.below;have hG1:=hG.below hB.below;obtain⟨ok,t,e1,e2⟩:=Zbrz (v:=R);have HE:=hid e1;have HB:=hid hB;have HW:=hid hW1
 by_cases h5:x.op=5
 ·have hbl:bs.length<=6:=by
   unfold naF at hna;rw[if_pos h5]at hna;omega
  have cW:=Zbsx v bs W1 hv1 (by omega) (Nat.le_trans (Zpg bs 6 100000000 hbl hb) (by decide));have e:outV (doT x (bs.map (·.data.toList)))=capV (bs.map (·.data.toList)).flatten:=by
   unfold doT;rw[if_neg (by omega),if_neg (by omega),if_neg (by omega),if_pos h5];rfl
  rw[<-e,hR,e2]at cW;have CW:=hid cW;clear cW e hv1 hl1 hG1 hB hW1 hR e1 e2 hmay hn hb hv hl hG hna hnl hfo h100 hbl;obtain⟨out,op,args,lits,n⟩:=x;simp only[Zbny]at d0 d1 d2 d3 d4 h5⊢;subst h5
  go_enter func67,ntmps67
  go_wp2_with fail
  rw[HW.out];refine CW.out.mono ?_;rintro e w2 ⟨rfl,hb2⟩;have H2:=hid hb2;clear hb2 d0 d1 d2 d3 d4;obtain⟨g0,g1,g2,g3⟩:=HB.out.val H2.out;have HX:=hid (HB.out.res _ H2.out);go_wp2;refine bodyPost_ret (Zbhl rfl _ _ (w.heap.size+1) _ _ _ _ rfl (heap_set _ _ (heap_set _ _ HX.out)) underlying46 rfl (by kernel_rfl)) rfl ?_;exact⟨by rw[HE.out];rfl,((HB.out.below.trans (H2.out.mono HB.out.below.size)).setCell (p:=⟨w.heap.size+1,0,none⟩) (Nat.le_succ _) _).setCell (p:=⟨w.heap.size+1,1,none⟩) (Nat.le_succ _) _⟩
 by_cases h6:x.op=6
 ·have hll:x.lits.length=1:=by unfold nlF at hnl;rw[if_pos (.inl h6)]at hnl;omega
  have cW:=Zbsx _ x.lits W1 hl1 (by omega) (Nat.le_trans (Zpg x.lits 1 100 (by omega) h100) (by decide));have e:outV (doT x (bs.map (·.data.toList)))=capV (x.lits.map (·.data.toList)).flatten:=by
   unfold doT;rw[if_neg (by omega),if_neg (by omega),if_neg (by omega),if_neg h5,if_pos h6];show capV (litT x 0)=_;unfold litT
   match hx:x.lits,hll with
   | [y],_=>simp
  rw[<-e,hR,e2]at cW;have CW:=hid cW;clear cW e hv1 hl1 hG1 hB hW1 hR e1 e2 hmay hn hb hv hl hG hna hnl hfo h100 hll;obtain⟨out,op,args,lits,n⟩:=x;simp only[Zbny]at d0 d1 d2 d3 d4 h6⊢;subst h6;clear h5
  go_enter func67,ntmps67
  go_wp2_with fail
  rw[HW.out];refine CW.out.mono ?_;rintro e w2 ⟨rfl,hb2⟩;have H2:=hid hb2;clear hb2 d0 d1 d2 d3 d4;obtain⟨g0,g1,g2,g3⟩:=HB.out.val H2.out;have HX:=hid (HB.out.res _ H2.out);go_wp2;refine bodyPost_ret (Zbhl rfl _ _ (w.heap.size+1) _ _ _ _ rfl (heap_set _ _ (heap_set _ _ HX.out)) underlying46 rfl (by kernel_rfl)) rfl ?_;exact⟨by rw[HE.out];rfl,((HB.out.below.trans (H2.out.mono HB.out.below.size)).setCell (p:=⟨w.heap.size+1,0,none⟩) (Nat.le_succ _) _).setCell (p:=⟨w.heap.size+1,1,none⟩) (Nat.le_succ _) _⟩
 ·have hal:bs.length=1:=by
   unfold naF at hna;rw[if_neg h5,if_neg h6]at hna;omega
  obtain⟨s,rfl⟩:∃s,bs = [s]:=by
   match bs,hal with
   | [s],_=>exact⟨s,rfl⟩
  have hs:=hb s (by simp);obtain⟨va,vc,rfl,hvl,hvm,hvc⟩:=Zua hv1;obtain⟨vb,vo,hva,hvcell⟩:=hvc 0 s rfl;have q0:=hvcell W1.drew (below_drewN (Below.refl _ _) 1);simp only[Nat.add_zero]at q0;subst hva;have cC:=Zis x a1 a2 c1 c2 s W1.drew hmay h5 h6 (by omega) (hl1.below (below_drewN (Below.refl _ _) 1)) (hG1.below (below_drewN (Below.refl _ _) 1));unfold Zaf at cC;rw[show [s].map (·.data.toList) = [s.data.toList]from rfl]at hR;rw[hR,e2]at cC;have CC:=hid cC;have D1:=(below_drewN (Below.refl W1.heap.size W1) 1);obtain⟨d0',d1',d2',d3',d4'⟩:=hB.cells W1.drew D1;unfold maxLen at hvm;clear cC hv1 hl1 hG1 hB hW1 hR e1 e2 hmay hn hb hv hl hG hna hnl hfo h100 hal hvc hvcell;obtain⟨out,op,args,lits,n⟩:=x;simp only[Zbny]at d0 d1 d2 d3 d4 d0' d1' d2' d3' d4' h5 h6 CC⊢;simp only[List.length_singleton]at *
  go_enter func67,ntmps67
  go_wp2_with fail
  rw[HW.out]
  go_region_with (go_at_call 112;refine CC.out.mono ?_;rintro e w2 ⟨rfl,hb2⟩;have H2:=hid (D1.trans hb2);obtain⟨g0,g1,g2,g3⟩:=HB.out.val H2.out)
  all_goals have HX:=hid (HB.out.res _ H2.out)
  all_goals go_wp2
  all_goals refine bodyPost_ret (Zbhl rfl _ _ (w.heap.size+1) _ _ _ _ rfl (heap_set _ _ (heap_set _ _ HX.out)) underlying46 rfl (by kernel_rfl)) rfl ?_
  all_goals exact⟨by rw[HE.out];rfl,((HB.out.below.trans (H2.out.mono HB.out.below.size)).setCell (p:=⟨w.heap.size+1,0,none⟩) (Nat.le_succ _) _).setCell (p:=⟨w.heap.size+1,1,none⟩) (Nat.le_succ _) _⟩
theorem Zbsi {w w':World} {v:Value} {vs:List ValT} (h:Zbb w v vs) (hb:Below w.heap.size w w'):Zbb w' v vs:=by
 obtain⟨a,c,rfl,h1,h1m,h2⟩:=h;refine⟨a,c,rfl,h1,h1m,λhne=>?_⟩;obtain⟨b,o,rfl,h3,h4⟩:=h2 hne;exact⟨b,o,rfl,Nat.lt_of_lt_of_le h3 hb.size,λj x hx=>⟨(hb.cell (p:=⟨b,o+j*2,none⟩) h3).trans (h4 j x hx).1,(hb.cell (p:=⟨b,o+j*2+1,none⟩) h3).trans (h4 j x hx).2⟩⟩
def Zan (x:StepS) (vs:List ValT) (w:World) (e:Ending) (w':World):Prop:=e = .returned (valE (doV x vs))/\Below w.heap.size w w'
theorem Zlw (x:StepS) (a1 a2:Option Addr) (c1 c2:Nat) (v:Value) (vs:List ValT) (w:World) (ha:IsStrs w (.slice a1 x.args.length c1) x.args) (hl:IsStrs w (.slice a2 x.lits.length c2) x.lits) (hv:Zbb w v vs) (hn:vs.length<=1000000000) (hb:∀u∈vs,u.2.size<=100000000) (hG:Glob w):
  Calls prog 35 #[.agg (Zbny x a1 a2 c1 c2),v] w (Zan x vs w):=by
 have hB:=chgB w x a1 a2 c1 c2;obtain⟨R,hR⟩:∃R,doV x vs=R:=⟨_,rfl⟩;unfold Zan;rw[hR];obtain⟨W1,hW1⟩:∃W1,(w.alloc (.cells (Zbny x a1 a2 c1 c2) 34)).alloc (.cells #[.bool false,.string ⟨#[]⟩] 46)=W1:=⟨_,rfl⟩;obtain⟨d0,d1,d2,d3,d4⟩:=hB.cells _ (Below.refl _ _);rw[hW1]at hB;have cM:=Zbnr x a1 a2 c1 c2 W1 (ha.below hB.below) (hl.below hB.below);have HB:=hid hB;have HW:=hid hW1;have CM:=hid cM;obtain⟨va,vc,rfl,hvl,hvm,_⟩:=id hv;obtain⟨_,_,ea,hal,ham,_⟩:=Zua ha
 cases ea
 have ham':x.args.length<=maxLen:=Nat.le_trans hal ham;have hbw:=hB.below;have HC:Hid (∀W,Below W1.heap.size W1 W->Calls prog 66 #[.slice va vs.length vc] W (Zak W vs)):=by
  show ∀W,_;exact λW h=>Zko _ vs W (Zbsi hv (hbw.trans (h.mono hbw.size))) hn
 have HY:Hid (mayB x=true->vs.length=x.args.length->∀v' W,Below W1.heap.size W1 W->IsStrs W v' (Zbrm vs)->Calls prog 67 #[.agg (Zbny x a1 a2 c1 c2),v'] W (Zck x (Zbrm vs) W)):=by
  show mayB x=true->vs.length=x.args.length->∀v' W,_;intro hm hlen v' W h hs;have hbW:=hbw.trans (h.mono hbw.size);exact Zbuq x a1 a2 c1 c2 v' (Zbrm vs) W hm (by unfold Zbrm;rw[List.length_map];exact hlen) (λb hb'=>by
   obtain⟨u,hu,rfl⟩:=List.mem_map.1 hb';exact hb u hu) hs (hl.below hbW) (hG.below hbW)
 have HR:=hid hR;unfold maxLen at hvm ham';clear hB hW1 cM hv ha hl hG hbw hR hb;obtain⟨q,hq⟩:∃q,mayB x=q:=⟨_,rfl⟩;have CM':=CM.out;rw[hq]at CM';have CM2:=hid CM';have HQ:=hid hq;clear CM' CM hq;have HNO:Hid ((mayB x&&decide (vs.length=x.args.length)&&vs.all (·.1))=false->R=(false,⟨#[]⟩)):=by
  show _->_;intro h;rw[<-HR.out];unfold doV;rw[h];rfl
 have HY':=hid HY.out;obtain⟨out,op,args,lits,n⟩:=x;simp only[Zbny]at d0 d1 d2 d3 d4 CM2 HC HY HW HNO HR ham' HQ⊢;have fin:∀(w2:World) (ok:Bool) (t:ByteArray),Below W1.heap.size W1 w2->Below w.heap.size w ((w2.setCell ⟨w.heap.size+1,0,none⟩ (.bool ok)).setCell ⟨w.heap.size+1,1,none⟩ (.string t)):=λw2 ok t h=>
  ((HB.out.below.trans (h.mono HB.out.below.size)).setCell (p:=⟨w.heap.size+1,0,none⟩) (Nat.le_succ _) _).setCell (p:=⟨w.heap.size+1,1,none⟩) (Nat.le_succ _) _
 have FIN:=hid fin;clear fin
 cases q
 ·have HRR:=hid (HNO.out (by rw[HQ.out];rfl))
  go_enter func35,ntmps35
  go_wp2_with fail
  rw[HW.out];refine CM2.out.mono ?_;rintro e w2 ⟨rfl,hb2⟩;have H2:=hid hb2;clear hb2 d0 d1 d2 d3 d4;obtain⟨g0,g1,g2,g3⟩:=HB.out.val H2.out;have HX:=hid (HB.out.res _ H2.out);go_wp2;refine bodyPost_ret (Zbhl rfl _ _ (w.heap.size+1) _ _ _ _ rfl (heap_set _ _ (heap_set _ _ HX.out)) underlying46 rfl (by kernel_rfl)) rfl ?_;exact⟨by rw[HRR.out];rfl,FIN.out _ _ _ H2.out⟩
 by_cases hlen:vs.length=args.length
 ·have HLEN:=hid hlen
  have hle:(vs.length:Int)=(args.length:Int):=by omega
  clear hlen
  go_enter func35,ntmps35
  go_wp2_with fail
  rw[HW.out];refine CM2.out.mono ?_;rintro e w2 ⟨rfl,hb2⟩;have H2:=hid hb2;clear hb2 d0 d1 d2 d3 d4;obtain⟨d0,d1,d2,d3,d4⟩:=HB.out.cells w2 H2.out
  go_wp2_with fail
  refine(HC.out _ H2.out).mono ?_;rintro e w3 ⟨v',rfl,hst,hb3⟩;have H3:=hid (H2.out.trans (hb3.mono H2.out.size));have HST:=hid hst;clear hb3 hst d0 d1 d2 d3 d4 hle;obtain⟨al,hal⟩:∃b,(vs.all (·.1))=b:=⟨_,rfl⟩;have HAL:=hid hal;rw[hal];clear hal;obtain⟨d0,d1,d2,d3,d4⟩:=HB.out.cells w3 H3.out
  cases al
  ·have HRR:=hid (HNO.out (by rw[HAL.out,Bool.and_false]))
   obtain⟨g0,g1,g2,g3⟩:=HB.out.val H3.out;have HX:=hid (HB.out.res _ H3.out);go_wp2;refine bodyPost_ret (Zbhl rfl _ _ (w.heap.size+1) _ _ _ _ rfl (heap_set _ _ (heap_set _ _ HX.out)) underlying46 rfl (by kernel_rfl)) rfl ?_;exact⟨by rw[HRR.out];rfl,FIN.out _ _ _ H3.out⟩
  ·have cY:=HY.out HQ.out HLEN.out v' w3 H3.out (HST.out HAL.out)
   unfold Zck at cY;have e:outV (doT ⟨out,op,args,lits,n⟩ ((Zbrm vs).map (·.data.toList)))=R:=by
    rw[<-HR.out];unfold doV;rw[HQ.out,decide_eq_true HLEN.out,HAL.out];unfold Zbrm;rw[List.map_map];rfl
   rw[e]at cY;obtain⟨ok,t,e1,e2⟩:=Zbrz (v:=R);rw[e2]at cY;have CY:=hid cY;have HE:=hid e1;clear cY e e1 e2
   go_wp2_with fail
   refine CY.out.mono ?_;rintro e w4 ⟨rfl,hb4⟩;have H4:=hid (H3.out.trans (hb4.mono H3.out.size));clear hb4;obtain⟨g0,g1,g2,g3⟩:=HB.out.val H4.out;have HX:=hid (HB.out.res _ H4.out);go_wp2;refine bodyPost_ret (Zbhl rfl _ _ (w.heap.size+1) _ _ _ _ rfl (heap_set _ _ (heap_set _ _ HX.out)) underlying46 rfl (by kernel_rfl)) rfl ?_;exact⟨by rw[HE.out];rfl,FIN.out _ _ _ H4.out⟩
 ·have HRR:=hid (HNO.out (by rw[HQ.out,decide_eq_false hlen];rfl))
  have hle:¬(vs.length:Int)=(args.length:Int):=by omega
  go_enter func35,ntmps35
  go_wp2_with fail
  rw[HW.out];refine CM2.out.mono ?_;rintro e w2 ⟨rfl,hb2⟩;have H2:=hid hb2;clear hb2 d0 d1 d2 d3 d4;obtain⟨d0,d1,d2,d3,d4⟩:=HB.out.cells w2 H2.out;obtain⟨g0,g1,g2,g3⟩:=HB.out.val H2.out;have HX:=hid (HB.out.res _ H2.out);go_wp2;refine bodyPost_ret (Zbhl rfl _ _ (w.heap.size+1) _ _ _ _ rfl (heap_set _ _ (heap_set _ _ HX.out)) underlying46 rfl (by kernel_rfl)) rfl ?_;exact⟨by rw[HRR.out];rfl,FIN.out _ _ _ H2.out⟩
open Go.Maps
def EnvIs (w:World) (b n:Nat) (e:ByteArray->ValT):Prop:=∃m,MapIs prog 9 w b m/\(∀k,getM m k (valE noV)=valE (e k))/\m.length<=n
theorem EnvIs.below {B b n:Nat} {w w':World} {e:ByteArray->ValT} (h:EnvIs w b n e) (hb:Below B w w') (hlt:b<B):EnvIs w' b n e:=by
 obtain⟨m,h1,h2,h3⟩:=h;exact⟨m,h1.below hb hlt,h2,h3⟩
theorem EnvIs.heap {b n:Nat} {w w':World} {e:ByteArray->ValT} (h:EnvIs w b n e) (hb:w'.heap[b]? =w.heap[b]?):EnvIs w' b n e:=by
 obtain⟨m,h1,h2,h3⟩:=h;exact⟨m,h1.heap hb,h2,h3⟩
theorem EnvIs.lt {b n:Nat} {w:World} {e:ByteArray->ValT} (h:EnvIs w b n e):b<w.heap.size:=by obtain⟨m,h1,_⟩:=h;exact h1.lt
theorem Zmu (w:World):EnvIs (w.alloc (.map #[] 0)) w.heap.size 0 (λ_=>noV):=⟨[],Zyj w _ _,λ_=>rfl,Nat.le_refl _⟩
theorem EnvIs.put {b n:Nat} {w:World} {e:ByteArray->ValT} (h:EnvIs w b n e) (hn:n<=1000000000) (k:ByteArray) (hs:k.size<=maxLen) (v:ValT):
  ∃w',(Instr.mapUpdate 65 (.map (some b)) (.string k) (valE v)).run prog w = .ok () w'/\EnvIs w' b (n+1) (setE e k v)/\w.mapTurned w' b:=by
 obtain⟨m,h1,h2,h3⟩:=h;obtain⟨w',r,hm,ht⟩:=h1.put underlying9 underlying65 (by unfold maxLen;omega) k hs (valE v);refine⟨w',r,⟨_,hm,λk'=>?_,?_⟩,ht⟩
 ·unfold setE
  by_cases hk:k'=k
  ·subst hk;rw[if_pos rfl,Zqj]
  ·rw[if_neg hk,Zqi _ _ _ (λe=>hk e.symm)];exact h2 k'
 ·obtain⟨D,_,_,_,_,hK⟩:=h1
  rw[Zbfq hK];split<;>omega
theorem Zbux (w:World):(zeroValue 46).run prog w = .ok (.agg #[.bool false,.string ⟨#[]⟩]) w:=zeroValue46 w
theorem EnvIs.look {b n:Nat} {w:World} {e:ByteArray->ValT} (h:EnvIs w b n e) (k:ByteArray) (hs:k.size<=maxLen):
  (Instr.lookup 65 (.map (some b)) (.string k) false).run prog w = .ok (valE (e k)) w:=by
 obtain⟨m,h1,h2,_⟩:=h;rw[<-h2 k];exact h1.look underlying9 underlying65 (Zbux w) k hs
theorem Zgt:∀(ks:List ByteArray) (vs:List ValT) (e:ByteArray->ValT) (i:Nat) (k:ByteArray) (v:ValT),ks[i]? =some k->vs[i]? =some v->byE (ks.take (i+1)) (vs.take (i+1)) e=setE (byE (ks.take i) (vs.take i) e) k v
 | [],_,_,_,_,_,h,_=>by simp at h
 | _::_,[],_,_,_,_,_,h=>by simp at h
 | k0::ks,v0::vs,e,0,k,v,hk,hv=>by
  obtain rfl:k0=k:=by simpa using hk
  obtain rfl:v0=v:=by simpa using hv
  simp[byE]
 | k0::ks,v0::vs,e,i+1,k,v,hk,hv=>by
  rw[List.take_succ_cons,List.take_succ_cons,List.take_succ_cons,List.take_succ_cons,byE,byE];exact Zgt ks vs _ i k v (by simpa using hk) (by simpa using hv)
theorem Zgs:∀(ks:List ByteArray) (vs:List ValT) (e:ByteArray->ValT) (i:Nat),min ks.length vs.length<=i->byE (ks.take i) (vs.take i) e=byE ks vs e
 | [],vs,e,i,_=>by rw[List.take_nil];cases vs.take i<;>cases vs<;>simp[byE]
 | k::ks,[],e,i,_=>by rw[List.take_nil];cases (k::ks).take i<;>simp[byE]
 | k::ks,v::vs,e,0,h=>by simp at h
 | k::ks,v::vs,e,i+1,h=>by
  rw[List.take_succ_cons,List.take_succ_cons,byE,byE];exact Zgs ks vs _ i (by simp at h;omega)
theorem Zbki {P:Program} (t kt e:TypeId) (ht:P.underlying t=some (.map kt e)) (n:Int) (w:World):(Instr.makeMap t (some (.int .i64 n))).run P w = .ok (.map (some w.heap.size)) (w.alloc (.map #[] 0)):=by
 simp[Instr.makeMap,run_underlying ht,asInt,asIntOf,go_sem]
set_option maxHeartbeats 4000000
set_option maxRecDepth 100000
def Zad (w:World) (ks:List ByteArray) (vs:List ValT) (e:Ending) (w':World):Prop:=∃b,e = .returned (.map (some b))/\EnvIs w' b (min ks.length vs.length) (byE ks vs λ_=>noV)/\w.heap.size<=b/\Below w.heap.size w w'
theorem Zgv (nv vv:Value) (ks:List ByteArray) (vs:List ValT) (w:World) (hk:IsStrs w nv ks) (hv:Zbb w vv vs) (hn:ks.length<=1000000000) (hm:vs.length<=1000000000) (hs:∀k∈ks,k.size<=maxLen):
  Calls prog 34 #[nv,vv] w (Zad w ks vs):=by
 obtain⟨ka,kc,rfl,hkl,hkm,hkc⟩:=Zua hk;obtain⟨va,vc,rfl,hvl,hvm,hv2⟩:=id hv;have HK:=hid hkc;have HV:Hid (∀(j:Nat) x,vs[j]? =some x->∃b o,va=some ⟨b,o,none⟩/\∀w',Below w.heap.size w w'->w'.cell? ⟨b,o+j*2,none⟩=some (.bool x.1)/\w'.cell? ⟨b,o+j*2+1,none⟩=some (.string x.2)):=by
  show ∀(j:Nat) x,_;intro j x hx;obtain⟨b,o,ha,hb,hc⟩:=hv2 (by rintro rfl;simp at hx);obtain⟨c1,c2⟩:=hc j x hx;exact⟨b,o,ha,λw' hw=>⟨(hw.cell (p:=⟨b,o+j*2,none⟩) hb).trans c1,(hw.cell (p:=⟨b,o+j*2+1,none⟩) hb).trans c2⟩⟩
 have HS:=hid hs;have hmm:=Zbki (P:=prog) 65 _ _ underlying65 (ks.length:Int);have mixed:prog.follows .mixedOrders=true:=by kernel_rfl
 obtain⟨N,hN⟩:∃N:Nat,min (ks.length:Int) (vs.length:Int)=(N:Int):=⟨(min (ks.length:Int) (vs.length:Int)).toNat,by omega⟩;have hNn:N=min ks.length vs.length:=by omega
 have HN:=hid hNn;have hN1:N<=ks.length:=by omega
 have hN2:N<=vs.length:=by omega
 have hN3:(N:Int)<=(vc:Int):=by omega
 unfold maxLen at hkm hvm;clear hk hv hkc hv2 hs hNn
 go_enter func34,ntmps34
 go_wp2
 go_loopw [19] (λiv wr=>∃k:Nat,k<=N/\iv = .int .i64 (k:Int)/\EnvIs wr w.heap.size k (byE (ks.take k) (vs.take k) λ_=>noV)/\Below w.heap.size w wr) (λiv _=>N-(intOf iv).toNat)
 case atStart=>exact⟨0,Nat.zero_le _,rfl,by simpa[byE]using Zmu w,(Below.refl _ _).alloc (Nat.le_refl _) _⟩
 case round=>
  obtain⟨k,hk,rfl,henv,hnx⟩:=hrel;have HE:=hid henv;have HNX:=hid hnx;clear henv hnx
  by_cases hlt:k<N
  ·obtain⟨x,hx⟩:∃x,ks[k]? =some x:=⟨ks[k],List.getElem?_eq_getElem (by omega)⟩
   obtain⟨u,hu⟩:∃u,vs[k]? =some u:=⟨vs[k],List.getElem?_eq_getElem (by omega)⟩;obtain⟨b1,o1,q1,hc1⟩:=HK.out k x hx;obtain⟨b2,o2,q2,hc2⟩:=HV.out k u hu;subst q1 q2;obtain⟨cu1,cu2⟩:=hc2 _ HNX.out;obtain⟨ok,t⟩:=u;simp only at cu1 cu2;have hw2:Below w.heap.size w (wr.alloc (.cells #[.bool ok,.string t] 46)).drew:=below_drewN (HNX.out.alloc HNX.out.size _) 1;have cx:=hc1 _ hw2;have hbx:=alloc_at wr (.cells #[.bool ok,.string t] 46);obtain⟨b0,b1',_,_⟩:=Zih hbx;have b0d:(wr.alloc (.cells #[.bool ok,.string t] 46)).drew.cell? ⟨wr.heap.size,0,none⟩=some (.bool ok):=b0;have b1d:(wr.alloc (.cells #[.bool ok,.string t] 46)).drew.cell? ⟨wr.heap.size,1,none⟩=some (.string t):=b1';have henv2:EnvIs (wr.alloc (.cells #[.bool ok,.string t] 46)).drew w.heap.size k (byE (ks.take k) (vs.take k) λ_=>noV):=HE.out.heap (Below.heap_alloc _ _ _ HE.out.lt);obtain⟨w3,hput,henv3,hturn⟩:=henv2.put (by omega) x (HS.out x (List.mem_of_getElem? hx)) (ok,t);rw[<-Zgt ks vs _ k x (ok,t) hx hu]at henv3;rw[show valE (ok,t) = .agg #[.bool ok,.string t]from rfl]at hput;have HE3:=hid henv3;have HB3:Hid (Below w.heap.size w w3):=hid (hw2.grown hturn.grown hw2.size (λj e=>by cases e;exact Nat.le_refl _));have hi1:(k:Int)<(N:Int):=by omega
   have hi0:(0:Int)<=(k:Int):=by omega
   have hi2:(k:Int)<(ks.length:Int):=by omega
   clear henv2 henv3 hturn hw2 hbx hc1 hc2 hx hu;go_wp2
   go_region
   all_goals go_wp2
   all_goals go_roundw
   case rel=>exact⟨k+1,by omega,by go_num,HE3.out,HB3.out⟩
   case measure=>simp[intOf];omega
  ·have hi1:¬(k:Int)<(N:Int):=by omega
   have hfull:byE (ks.take k) (vs.take k) (λ_=>noV)=byE ks vs λ_=>noV:=Zgs ks vs _ k (by have:=HN.out;omega)
   have HF:=hid (show EnvIs wr w.heap.size (min ks.length vs.length) (byE ks vs λ_=>noV) by rw[<-hfull,<-HN.out,show N=k by omega];exact HE.out);clear hfull;go_wp2;go_ret;exact⟨_,rfl,HF.out,Nat.le_refl _,HNX.out⟩
def ValRow (w:World) (g:Nat) (vs:List ValT):Prop:=∃cur,w.heap[g]? =some (.cells cur 46 (0,0))/\cur.size=vs.length*2/\∀(j:Nat) x,vs[j]? =some x->cur[j*2]? =some (.bool x.1)/\cur[j*2+1]? =some (.string x.2)
theorem ValRow.vals {w:World} {g:Nat} {vs:List ValT} (h:ValRow w g vs) (hn:vs.length<=maxLen):Zbb w (.slice (some ⟨g,0,none⟩) vs.length vs.length) vs:=by
 obtain⟨cur,hg,hs,hc⟩:=h;refine⟨_,_,rfl,Nat.le_refl _,hn,λ_=>⟨g,0,rfl,(Array.getElem?_eq_some_iff.1 hg).1,λj x hx=>?_⟩⟩;obtain⟨h1,h2⟩:=hc j x hx;simp only[World.cell?,hg,Nat.zero_add,Option.isSome_none,Bool.false_eq_true,if_false];exact⟨h1,h2⟩
theorem ValRow.heap {w w':World} {g:Nat} {vs:List ValT} (h:ValRow w g vs) (hb:w'.heap[g]? =w.heap[g]?):ValRow w' g vs:=by
 obtain⟨cur,hg,r⟩:=h;exact⟨cur,hb.trans hg,r⟩
theorem ValRow.cells {w:World} {g:Nat} {vs:List ValT} (h:ValRow w g vs) {j:Nat} {x:ValT} (hx:vs[j]? =some x):w.cell? ⟨g,j*2,none⟩=some (.bool x.1)/\w.cell? ⟨g,j*2+1,none⟩=some (.string x.2)/\w.frozen? ⟨g,j*2,none⟩=false/\w.frozen? ⟨g,j*2+1,none⟩=false:=by
 obtain⟨cur,hg,hs,hc⟩:=h;obtain⟨h1,h2⟩:=hc j x hx;refine⟨?_,?_,?_,?_⟩
 ·simp only[World.cell?,hg,Option.isSome_none,Bool.false_eq_true,if_false];exact h1
 ·simp only[World.cell?,hg,Option.isSome_none,Bool.false_eq_true,if_false];exact h2
 ·simp[World.frozen?,hg]
 ·simp[World.frozen?,hg]
theorem ValRow.set {w:World} {g:Nat} {vs:List ValT} (h:ValRow w g vs) (k:Nat) (u:ValT) (hk:k<vs.length):ValRow ((w.setCell ⟨g,k*2,none⟩ (.bool u.1)).setCell ⟨g,k*2+1,none⟩ (.string u.2)) g (vs.set k u):=by
 obtain⟨cur,hg,hs,hc⟩:=h;refine⟨_,heap_set _ _ (heap_set _ _ hg),by simp[hs],λj x hx=>?_⟩;rw[List.getElem?_set]at hx
 by_cases hj:k=j
 ·subst hj
  rw[if_pos rfl,if_pos hk]at hx;obtain rfl:=Option.some.inj hx;constructor
  ·rw[Array.getElem?_setIfInBounds_ne (by omega),Array.getElem?_setIfInBounds_self_of_lt (by rw[hs];omega)]
  ·rw[Array.getElem?_setIfInBounds_self_of_lt (by simp[hs];omega)]
 ·rw[if_neg hj]at hx
  obtain⟨h1,h2⟩:=hc j x hx;constructor
  ·rw[Array.getElem?_setIfInBounds_ne (by omega),Array.getElem?_setIfInBounds_ne (by omega)];exact h1
  ·rw[Array.getElem?_setIfInBounds_ne (by omega),Array.getElem?_setIfInBounds_ne (by omega)];exact h2
theorem Zss:(prog.info? 46).map (λi=>(i.zero,i.size,i.bytes))=some (some (.agg #[.bool false,.string ⟨#[]⟩]),2,24):=by kernel_rfl
theorem Zyh (n:Nat) (hn:n<=1000000000) (w:World):(Instr.makeSlice 43 (.int .i64 (n:Int)) (.int .i64 (n:Int))).run prog w = .ok (.slice (some ⟨w.heap.size,0,none⟩) n n) (w.alloc (.cells (madeCells #[.bool false,.string ⟨#[]⟩] (n*2)) 46)):=by
 obtain⟨i0,hi,hz,hs,hb⟩:=info_parts Zss;have:=run_make (P:=prog) w 43 46 i0 _ underlying43 hi hz .i64 .i64 n n (by omega) (Int.le_refl _) (by rw[hb];omega) (by omega);rw[hs,show(Value.agg #[.bool false,.string ⟨#[]⟩]).cells = #[.bool false,.string ⟨#[]⟩]from rfl]at this;simpa using this
theorem Zbsc (w:World) (n:Nat):ValRow (w.alloc (.cells (madeCells #[.bool false,.string ⟨#[]⟩] (n*2)) 46)) w.heap.size (List.replicate n noV):=by
 refine⟨_,alloc_at w _,by simp[size_madeCells],λj x hx=>?_⟩;have hj:j<n:=by have:=(List.getElem?_eq_some_iff.1 hx).1;simpa using this
 have:x=noV:=by rw[List.getElem?_replicate,if_pos hj]at hx;exact(Option.some.inj hx).symm
 subst this;unfold madeCells;constructor
 ·rw[Array.getElem?_map,Array.getElem?_range,if_pos (by omega)]
  simp[noV]
 ·rw[Array.getElem?_map,Array.getElem?_range,if_pos (by omega)]
  simp[noV]
theorem set_self {α:Type} {l:List α} {k:Nat} {x:α} (h:l[k]? =some x):l.set k x=l:=by
 apply List.ext_getElem?;intro j;rw[List.getElem?_set]
 by_cases hj:k=j
 ·subst hj
  rw[if_pos rfl,if_pos (List.getElem?_eq_some_iff.1 h).1,h]
 ·rw[if_neg hj]
def Zbr (w:World) (ks:List ByteArray) (f:ByteArray->ValT) (e:Ending) (w':World):Prop:=∃g,e = .returned (.slice (some ⟨g,0,none⟩) ks.length ks.length)/\ValRow w' g (ks.map λk=>Zbbt (f k))/\w.heap.size<=g/\Below w.heap.size w w'
theorem Zbfa (b n:Nat) (f:ByteArray->ValT) (nv:Value) (ks:List ByteArray) (w:World) (hE:EnvIs w b n f) (hk:IsStrs w nv ks) (hn:ks.length<=1000000000) (hs:∀k∈ks,k.size<=maxLen):
  Calls prog 36 #[.map (some b),nv] w (Zbr w ks f):=by
 obtain⟨ka,kc,rfl,hkl,hkm,hkc⟩:=Zua hk;have HK:=hid hkc;have HS:=hid hs;have HE:=hid hE;have hmk:=Zyh ks.length hn;have hbl:=hE.lt;unfold maxLen at hkm;have HM:=hid (Zbsc w ks.length);clear hk hkc hs hE
 go_enter func36,ntmps36
 go_wp2
 go_loopw [14] (λiv wr=>∃k:Nat,k<=ks.length/\iv = .int .i64 (k:Int)/\ValRow wr w.heap.size ((ks.take k).map (λk=>Zbbt (f k))++List.replicate (ks.length-k) noV)/\Below w.heap.size w wr) (λiv _=>ks.length-(intOf iv).toNat)
 case atStart=>exact⟨0,Nat.zero_le _,rfl,by simpa using HM.out,(Below.refl _ _).alloc (Nat.le_refl _) _⟩
 case round=>
  obtain⟨k,hk,rfl,hrow,hnx⟩:=hrel;have HR:=hid hrow;have HNX:=hid hnx;have hsz:=hnx.size;have hgl:w.heap.size<wr.heap.size:=by obtain⟨cur,hg,_⟩:=hrow;exact(Array.getElem?_eq_some_iff.1 hg).1
  clear hrow hnx
  by_cases hlt:k<ks.length
  ·obtain⟨x,hx⟩:∃x,ks[k]? =some x:=⟨ks[k],List.getElem?_eq_getElem hlt⟩
   obtain⟨b1,o1,q1,hc1⟩:=HK.out k x hx;subst q1;have cx:=hc1 _ HNX.out;have hlook:=(HE.out.below HNX.out hbl).look x (HS.out x (List.mem_of_getElem? hx));obtain⟨ok,t,e1,e2⟩:=Zbrz (v:=f x);rw[e2]at hlook;have hi1:(k:Int)<(ks.length:Int):=by omega
   have hi0:(0:Int)<=(k:Int):=by omega
   have hrow2:ValRow (wr.alloc (.cells #[.bool ok,.string t] 46)) w.heap.size ((ks.take k).map (λk=>Zbbt (f k))++List.replicate (ks.length-k) noV):=HR.out.heap (Below.heap_alloc _ _ _ hgl);have hat:((ks.take k).map (λk=>Zbbt (f k))++List.replicate (ks.length-k) noV)[k]? =some noV:=by
    rw[List.getElem?_append_right (by rw[List.length_map,List.length_take];omega),List.length_map,List.length_take,Nat.min_eq_left hk,Nat.sub_self,List.getElem?_replicate,if_pos (by omega)]
   obtain⟨p0,p1,p2,p3⟩:=HR.out.cells hat;have hset:=HR.out.set k (ok,t) (by rw[List.length_append,List.length_map,List.length_take,List.length_replicate];omega);have hb2:=HNX.out.alloc hsz (.cells #[.bool ok,.string t] 46);have HB2:=hid hb2;have hlen:((ks.take k).map (λk=>Zbbt (f k))).length=k:=by simp;omega
   have hnext:∀u,Zbbt (f x)=u->((ks.take k).map (λk=>Zbbt (f k))++List.replicate (ks.length-k) noV).set k u=(ks.take (k+1)).map (λk=>Zbbt (f k))++List.replicate (ks.length-(k+1)) noV:=by
    intro u hu;rw[List.take_add_one,hx,List.set_append_right _ _ (by rw[hlen];exact Nat.le_refl _),hlen,Nat.sub_self,show ks.length-k=(ks.length-(k+1))+1 by omega,List.replicate_succ,List.set_cons_zero];simp[hu]
   cases ok
   ·have hnv:Zbbt (f x)=noV:=by rw[e1];rfl
    have h0:((ks.take k).map (λk=>Zbbt (f k))++List.replicate (ks.length-k) noV)=(ks.take (k+1)).map (λk=>Zbbt (f k))++List.replicate (ks.length-(k+1)) noV:=by
     rw[<-hnext noV hnv];exact(set_self hat).symm
    rw[h0]at hrow2;have HR2:=hid hrow2;clear hrow2 h0 hnv hset hnext hat hb2 hc1 hx e1 e2 p0 p1 p2 p3 hlen;go_wp2;go_roundw
    case rel=>exact⟨k+1,by omega,by go_num,HR2.out,HB2.out⟩
    case measure=>simp[intOf];omega
   ·have hnv:Zbbt (f x)=(true,t):=by rw[e1];rfl
    rw[hnext _ hnv]at hset;have HR2:=hid (ValRow.heap (w':=((wr.setCell ⟨w.heap.size,k*2,none⟩ (.bool true)).setCell ⟨w.heap.size,k*2+1,none⟩ (.string t)).alloc (.cells #[.bool true,.string t] 46)) hset (Below.heap_alloc _ _ _ (by simp[World.setCell];exact hgl)));have HB3:=hid (((HNX.out.setCell (p:=⟨w.heap.size,k*2,none⟩) (Nat.le_refl _) (.bool true)).setCell (p:=⟨w.heap.size,k*2+1,none⟩) (Nat.le_refl _) (.string t)).alloc (by simp[World.setCell];omega) (.cells #[.bool true,.string t] 46));clear hrow2 hnv hset hnext hat hb2 hc1 hx e1 e2 hlen;simp only[noV]at p0 p1;go_wp2;go_roundw
    case rel=>exact⟨k+1,by omega,by go_num,HR2.out,HB3.out⟩
    case measure=>simp[intOf];omega
  ·have hi1:¬(k:Int)<(ks.length:Int):=by omega
   have hfull:(ks.take k).map (λk=>Zbbt (f k))++List.replicate (ks.length-k) noV=ks.map λk=>Zbbt (f k):=by
    rw[List.take_of_length_le (by omega),show ks.length-k=0 by omega];simp
   have HF:=hid (show ValRow wr w.heap.size (ks.map λk=>Zbbt (f k)) by rw[<-hfull];exact HR.out);clear hfull;go_wp2;go_ret;exact⟨_,rfl,HF.out,Nat.le_refl _,HNX.out⟩
set_option maxHeartbeats 4000000
set_option maxRecDepth 100000
theorem Ztz {w:World} {a:Option Addr} {n c:Nat} {xs:List ByteArray} (h:IsStrs w (.slice a n c) xs):xs≠[]->∃b o,a=some ⟨b,o,none⟩/\b<w.heap.size/\True:=by
 obtain⟨a',c',e,_,_,h⟩:=h;intro hne;obtain⟨b,o,e2,hb,_⟩:=h hne;exact⟨b,o,(Value.slice.inj e).1.trans e2,hb,trivial⟩
def Zaa (w:World) (b:Nat) (L ks:List ByteArray) (e:Ending) (w':World):Prop:=e = .returned (.tuple #[])/\SetIs w' b (addS L ks)/\w.grownBy w' (some b)/\w'.heap.size=w.heap.size
theorem Zblo (b:Nat) (L:List ByteArray) (nv:Value) (ks:List ByteArray) (w:World) (hS:SetIs w b L) (hk:IsStrs w nv ks) (hkb:∀g o c,ks≠[]->nv = .slice (some ⟨g,o,none⟩) ks.length c->g≠b) (hn:L.length+ks.length<=4000000000000000) (hs:∀k∈ks,k.size<=maxLen):
  Calls prog 82 #[.map (some b),nv] w (Zaa w b L ks):=by
 obtain⟨ka,kc,rfl,hkl,hkm,hkc⟩:=hk;have HK:Hid (∀(k:Nat) x,ks[k]? =some x->∃g o,ka=some ⟨g,o,none⟩/\∀w',w.grownBy w' (some b)->w'.cell? ⟨g,o+k,none⟩=some (.string x)):=by
  show ∀(k:Nat) x,_;intro k x hx;have hne:ks≠[]:=by rintro rfl;simp at hx
  obtain⟨g,o,rfl,hg,hc⟩:=hkc hne;exact⟨g,o,rfl,λw' hw=>(World.cell?_of_block (hw.block g hg (λe=>hkb g o kc hne rfl (by cases e;rfl)))).trans (hc k x hx)⟩
 have HS:=hid hs;have HS0:=hid hS;unfold maxLen at hkm;clear hkc hs hS hkb
 go_enter func82,ntmps82
 go_wp2
 go_loopw [8] (λiv wr=>∃k:Nat,k<=ks.length/\iv = .int .i64 (k:Int)/\SetIs wr b (addS L (ks.take k))/\w.grownBy wr (some b)/\wr.heap.size=w.heap.size) (λiv _=>ks.length-(intOf iv).toNat)
 case atStart=>exact⟨0,Nat.zero_le _,rfl,by simpa[addS]using HS0.out,Zrh _ _,rfl⟩
 case round=>
  obtain⟨k,hk,rfl,hset,hgr,hsz⟩:=hrel;have HZ:=hid hsz;have HG:=hid hgr
  by_cases hlt:k<ks.length
  ·obtain⟨x,hx⟩:∃x,ks[k]? =some x:=⟨ks[k],List.getElem?_eq_getElem hlt⟩
   obtain⟨g,o,q1,hc1⟩:=HK.out k x hx;subst q1;have cx:=hc1 _ HG.out;have hi1:(k:Int)<(ks.length:Int):=by omega
   have hi0:(0:Int)<=(k:Int):=by omega
   have hl:=Zco (ks.take k) L;rw[List.length_take]at hl;obtain⟨w3,hput,hset3,hturn⟩:=hset.put underlying123 (by omega) x (HS.out x (List.mem_of_getElem? hx));rw[<-Zcq L hx]at hset3;have HS3:=hid hset3;have HG3:=hid (HG.out.trans hturn.grown);have HZ3:Hid (w3.heap.size=w.heap.size):=hid (by obtain⟨_,_,_,_,_,e⟩:=hturn;rw[e];show(wr.heap.setIfInBounds b _).size=_;rw[Array.size_setIfInBounds];exact HZ.out);clear hset hgr hc1 hx hl hset3 hturn hsz;go_wp2;go_roundw
   case rel=>exact⟨k+1,by omega,by go_num,HS3.out,HG3.out,HZ3.out⟩
   case measure=>simp[intOf];omega
  ·have hi1:¬(k:Int)<(ks.length:Int):=by omega
   have HF:=hid (show SetIs wr b (addS L ks) by rw[List.take_of_length_le (by omega)]at hset;exact hset);clear hset hgr hsz;go_wp2
   go_end0
   exact⟨rfl,HF.out,HG.out,HZ.out⟩
theorem Zbuv (w:World):(zeroValue 174).run prog w = .ok (.agg #[]) w:=zeroValue174 w
theorem Zblp (b:Nat) (L:List ByteArray) (k:ByteArray) (w:World) (hS:SetIs w b L) (hs:k.size<=maxLen):
  Calls prog 84 #[.map (some b),.string k] w λe w'=>e = .returned (.bool (inS L k))/\Below w.heap.size w w':=by
 have hlook:=hS.look underlying123 (Zbuv w) k hs;obtain⟨r,hr⟩:∃r,inS L k=r:=⟨_,rfl⟩;rw[hr]at hlook⊢;clear hS hr
 go_enter func84,ntmps84
 go_wp2;go_ret;exact⟨rfl,by first|exact(Below.refl _ _).alloc (Nat.le_refl _) _|exact below_drewN ((Below.refl _ _).alloc (Nat.le_refl _) _) 1⟩
end Go.Proofs.YtcpjfpdecklkgaaGreatDoor
