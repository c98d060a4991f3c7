import Derived.Deep.RegionHeld3
import Derived.Test.YtmgcaldphpnfgaaGreatDoorMaw
namespace Go.Proofs.YtmgcaldphpnfgaaGreatDoor
open Go.Lib (hid)
open Go.RowKit Go.Shelf Go.Maps
theorem Zib (t:List UInt8):(capV t).2.size<=2000:=by
 unfold capV;split
 ·show t.toArray.size<=2000;rw[List.size_toArray];assumption
 ·show(0:Nat)<=2000;omega
theorem Zlv (x:StepS) (vs:List ValT):(doV x vs).2.size<=2000:=by
 unfold doV;split
 ·cases doT x (vs.map (·.2.data.toList))with
  | none=>show(0:Nat)<=2000;omega
  | some t=>exact Zib t
 ·show(0:Nat)<=2000;omega
def ShortE (e:ByteArray->ValT):Prop:=∀k,(e k).2.size<=100000000
theorem ShortE.set {e:ByteArray->ValT} (h:ShortE e) (k:ByteArray) {v:ValT} (hv:v.2.size<=100000000):ShortE (setE e k v):=λk'=>by
 unfold setE;split
 ·exact hv
 ·exact h k'
theorem ShortE.by:∀(ks:List ByteArray) (vs:List ValT) (e:ByteArray->ValT),ShortE e->(∀v∈vs,v.2.size<=100000000)->ShortE (byE ks vs e)
 | [],_,e,h,_=>by rw[byE];exact h;intros;simp_all
 | _::_,[],e,h,_=>by rw[byE];exact h;intros;simp_all
 | k::ks,v::vs,e,h,hv=>by rw[byE];exact ShortE.by ks vs _ (h.set k (hv v (by simp))) λu hu=>hv u (by simp[hu])
theorem Zbon:∀(l:List StepS) (e:ByteArray->ValT) (i:Nat) (s:StepS),l[i]? =some s->Zbom (l.take (i+1)) e=setE (Zbom (l.take i) e) s.out (doV s (s.args.map λa=>Zbbt (Zbom (l.take i) e a)))
 | [],_,_,_,h=>by simp at h
 | s0::l,e,0,s,h=>by
  obtain rfl:s0=s:=by simpa using h
  simp[Zbom]
 | s0::l,e,i+1,s,h=>by
  rw[List.take_succ_cons,List.take_succ_cons,Zbom,Zbom];exact Zbon l _ i s (by simpa using h)
theorem Zboo:∀(l:List StepS) (e:ByteArray->ValT),ShortE e->ShortE (Zbom l e)
 | [],_,h=>h
 | s::l,e,h=>by rw[Zbom];exact Zboo l _ (h.set _ (Nat.le_trans (Zlv _ _) (by decide)))
theorem Zbbu {v:ValT} (h:v.2.size<=100000000):(Zbbt v).2.size<=100000000:=by
 unfold Zbbt;split
 ·exact h
 ·show(0:Nat)<=_;omega
theorem Zbsk (w:World):Zbb w (.slice none 0 0) []:=⟨none,0,rfl,by simp,by simp[maxLen],λh=>absurd rfl h⟩
set_option maxHeartbeats 8000000
set_option maxRecDepth 100000
abbrev Zbiz (r:RuleS) (a1 a2 a3 a4:Option Addr) (c1 c2 c3 c4:Nat):Array Value:=#[.string r.name,.slice a1 r.ins.length c1,.slice a2 r.outs.length c2,.slice a3 r.after.length c3,.slice a4 r.steps.length c4]
def Zbn (r:RuleS) (ins:List ValT) (w:World) (e:Ending) (w':World):Prop:=∃v,e = .returned v/\Zbb w' v (runP r ins)/\Below w.heap.size w w'
theorem Zbcd (r:RuleS) (a1 a2 a3 a4:Option Addr) (c1 c2 c3 c4:Nat) (vv:Value) (ins:List ValT) (w:World) (hr:RuleI w [.string r.name,.slice a1 r.ins.length c1,.slice a2 r.outs.length c2,.slice a3 r.after.length c3,.slice a4 r.steps.length c4] r) (hs:SmallR r 1048576) (hv:Zbb w vv ins) (hn:ins.length<=1048576) (hi:∀v∈ins,v.2.size<=100000000) (hG:Glob w):
  Calls Tryz.prog 16 #[.agg (Zbiz r a1 a2 a3 a4 c1 c2 c3 c4),vv] w (Zbn r ins w):=by
 obtain⟨vi,vo,vf,vs,q,h1,h2,h3,h4⟩:=hr;simp only[List.cons.injEq,and_true,true_and]at q;obtain⟨rfl,rfl,rfl,rfl⟩:=q;obtain⟨va,vc,rfl,hvl,hvm,_⟩:=id hv;have hsi:=hs.ins;have hso:=hs.outs;have hss:=hs.steps;have hfew:=hs.few;have hb0:Below w.heap.size w (w.alloc (.cells (Zbiz r a1 a2 a3 a4 c1 c2 c3 c4) 25)):=(Below.refl _ _).alloc (Nat.le_refl _) _;have hx:=alloc_at w (.cells (Zbiz r a1 a2 a3 a4 c1 c2 c3 c4) 25);obtain⟨W1,hW1⟩:∃W1,w.alloc (.cells (Zbiz r a1 a2 a3 a4 c1 c2 c3 c4) 25)=W1:=⟨_,rfl⟩;obtain⟨d0,d1,d2,d3,d4,_⟩:=cells5 hx;have hs1:W1.heap.size=w.heap.size+1:=by rw[<-hW1];simp
 rw[hW1]at hb0 hx;have HD:Hid (∀W,Below W1.heap.size W1 W->W.cell? ⟨w.heap.size,0,none⟩=some (.string r.name)/\W.cell? ⟨w.heap.size,1,none⟩=some (.slice a1 r.ins.length c1)/\W.cell? ⟨w.heap.size,2,none⟩=some (.slice a2 r.outs.length c2)/\W.cell? ⟨w.heap.size,3,none⟩=some (.slice a3 r.after.length c3)/\W.cell? ⟨w.heap.size,4,none⟩=some (.slice a4 r.steps.length c4)):=by
  show ∀W,_;intro W hW;obtain⟨e0,e1,e2,e3,e4,_⟩:=cells5 ((hW.block w.heap.size (by omega)).trans hx);exact⟨e0,e1,e2,e3,e4⟩
 have hml:∀x∈r.ins,x.size<=maxLen:=λx hx=>by have:=hsi.2 x hx;unfold maxLen;omega
 have hmo:∀x∈r.outs,x.size<=maxLen:=λx hx=>by have:=hso.2 x hx;unfold maxLen;omega
 have cB:=Zgv (.slice a1 r.ins.length c1) (.slice va ins.length vc) r.ins ins W1 (h1.below hb0) (Zbsi hv hb0) (by have:=hsi.1;omega) (by omega) hml;have hW0:=hb0.size;have UP:Hid (∀W,Below W1.heap.size W1 W->Below w.heap.size w W):=by show ∀W,_;exact λW h=>hb0.trans (h.mono hW0)
 have CP:Hid (∀(b n:Nat) f W,EnvIs W b n f->Below W1.heap.size W1 W->Calls Tryz.prog 54 #[.map (some b),.slice a2 r.outs.length c2] W (Zbr W r.outs f)):=by
  show ∀(b n:Nat) f W,_;exact λb n f W he hb=>Zbfa b n f _ r.outs W he (h2.below (UP.out W hb)) (by have:=hso.1;omega) hmo
 have HST:Hid (∀(k:Nat) y,r.steps[k]? =some y->∃b o b1 m1 b2 m2,a4=some ⟨b,o,none⟩/\SmallS y 1048576/\(∀W,Below w.heap.size w W->IsStrs W (.slice b1 y.args.length m1) y.args/\IsStrs W (.slice b2 y.lits.length m2) y.lits)/\
   ∀W,Below w.heap.size w W->W.cell? ⟨b,o+k*5,none⟩=some (.string y.out)/\W.cell? ⟨b,o+k*5+1,none⟩=some (.int .i64 y.op)/\W.cell? ⟨b,o+k*5+2,none⟩=some (.slice b1 y.args.length m1)/\W.cell? ⟨b,o+k*5+3,none⟩=some (.slice b2 y.lits.length m2)/\W.cell? ⟨b,o+k*5+4,none⟩=some (.int .i64 y.n)):=by
  show ∀(k:Nat) y,_;intro k y hy;obtain⟨b,o,cap,va,vl,e,ha,hl,hc⟩:=Zbou h4 hy;obtain⟨b1,m1,rfl⟩:=Zue ha;obtain⟨b2,m2,rfl⟩:=Zue hl;injection e with e1 _ _
  exact⟨b,o,b1,m1,b2,m2,e1,hss y (List.mem_of_getElem? hy),λW hW=>⟨ha.below hW,hl.below hW⟩,hc⟩
 have HGL:Hid (∀W,Below w.heap.size w W->Glob W):=by show ∀W,_;exact λW h=>hG.below h
 have hml4:r.steps.length<=maxLen:=by unfold maxLen;omega
 have HW:=hid hW1;have HS1:=hid hs1;obtain⟨E0,hE0⟩:∃E0,(byE r.ins ins λ_=>noV)=E0:=⟨_,rfl⟩;have HSH:Hid (ShortE E0):=hid (by rw[<-hE0];exact ShortE.by _ _ _ (λ_=>by show(0:Nat)<=_;omega) hi);have HE0:=hid hE0;have CB:Hid (Calls Tryz.prog 52 #[.slice a1 r.ins.length c1,.slice va ins.length vc] W1 λe w'=>∃b,e = .returned (.map (some b))/\EnvIs w' b 1048576 E0/\W1.heap.size<=b/\Below W1.heap.size W1 w'):=by
  show Calls _ _ _ _ _;refine cB.mono ?_;rintro e w' ⟨b,rfl,⟨m,m1,m2,m3⟩,hbb,hbw⟩;rw[hE0]at m2;exact⟨b,rfl,⟨m,m1,m2,by omega⟩,hbb,hbw⟩
 have HRUN:Hid (ins.length=r.ins.length->runP r ins=r.outs.map λo=>Zbbt (Zbom r.steps E0 o)):=by
  show _->_;intro h;unfold runP;rw[if_neg (by omega),hE0]
 have HRN:Hid (¬ins.length=r.ins.length->runP r ins = []):=by show _->_;intro h;unfold runP;rw[if_pos h]
 have hN:Hid (r.outs.length<=maxLen):=hid (by have:=hso.1;unfold maxLen;omega);obtain⟨name,insN,outs,after,steps⟩:=r;simp only[Zbiz]at d0 d1 d2 d3 d4 HD CP HST HRUN HRN hml4 hfew HW CB hN⊢;have mixed:Tryz.prog.follows .mixedOrders=true:=by kernel_rfl
 unfold maxLen at hvm hml4;clear h1 h2 h3 h4 hs hsi hso hss hv hG hb0 hx hW1 hs1 hml hmo cB hW0 hE0 hi
 by_cases hlen:ins.length=insN.length
 ·have HLEN:=hid hlen
  have hle:(ins.length:Int)=(insN.length:Int):=by omega
  clear hlen
  go_enter Tryz.func16,Tryz.ntmps16
  go_wp2_with fail
  rw[HW.out];clear hle d0 d1 d2 d3 d4;refine CB.out.mono ?_;rintro e w2 ⟨b,rfl,henv,hbb,hb2⟩;have HENV:=hid henv;have HBB:=hid hbb;have H2:=hid hb2;clear henv hbb hb2;obtain⟨d0,d1,d2,d3,d4⟩:=HD.out w2 H2.out
  go_wp2_with fail
  go_loopw [21] (λiv wr=>∃k:Nat,k<=steps.length/\iv = .int .i64 (k:Int)/\EnvIs wr b (1048576+k) (Zbom (steps.take k) E0)/\Below W1.heap.size W1 wr) (λiv _=>steps.length-(intOf iv).toNat)
  case atStart=>exact⟨0,Nat.zero_le _,rfl,by simpa[Zbom]using HENV.out,H2.out⟩
  case round=>
   obtain⟨k,hk,rfl,henv,hnx⟩:=hrel;have HE:=hid henv;have HNX:=hid hnx;clear henv hnx d0 d1 d2 d3 d4
   by_cases hlt:k<steps.length
   ·obtain⟨y,hy⟩:∃y,steps[k]? =some y:=⟨steps[k],List.getElem?_eq_getElem hlt⟩
    obtain⟨sb,so,b1,m1,b2,m2,e4,hsm,hst,hcs⟩:=HST.out k y hy;subst e4;obtain⟨e0,e1,e2,e3,e4⟩:=hcs wr (UP.out wr HNX.out);have hi1:(k:Int)<(steps.length:Int):=by omega
    have hi0:(0:Int)<=(k:Int):=by omega
    have hsbW:W1.heap.size<=wr.heap.size:=HNX.out.size;obtain⟨WS,hWS⟩:∃WS,wr.alloc (.cells (Zbny y b1 b2 m1 m2) 42)=WS:=⟨_,rfl⟩;have hbx:=alloc_at wr (.cells (Zbny y b1 b2 m1 m2) 42);have hss:WS.heap.size=wr.heap.size+1:=by rw[<-hWS];simp
    rw[hWS]at hbx;have hwS:Below W1.heap.size W1 WS:=by rw[<-hWS];exact HNX.out.alloc hsbW _
    have HCS:Hid (∀w':World,w'.heap[wr.heap.size]? =WS.heap[wr.heap.size]? ->w'.cell? ⟨wr.heap.size,0,none⟩=some (.string y.out)/\w'.cell? ⟨wr.heap.size,1,none⟩=some (.int .i64 y.op)/\w'.cell? ⟨wr.heap.size,2,none⟩=some (.slice b1 y.args.length m1)/\w'.cell? ⟨wr.heap.size,3,none⟩=some (.slice b2 y.lits.length m2)/\w'.cell? ⟨wr.heap.size,4,none⟩=some (.int .i64 y.n)):=by
     show ∀w',_;intro w' h;obtain⟨f0,f1,f2,f3,f4,_⟩:=cells5 (h.trans hbx);exact⟨f0,f1,f2,f3,f4⟩
    have HEV:Hid (∀w',Below WS.heap.size WS w'->EnvIs w' b (1048576+k) (Zbom (steps.take k) E0)):=by
     show ∀w',_;intro w' h;have hbl:=HE.out.lt;refine HE.out.heap ((h.block b (by omega)).trans ?_);rw[<-hWS];exact Below.heap_alloc _ _ _ hbl
    have HPK:Hid (∀w',Below WS.heap.size WS w'->Calls Tryz.prog 54 #[.map (some b),.slice b1 y.args.length m1] w' (Zbr w' y.args (Zbom (steps.take k) E0))):=by
     show ∀w',_;intro w' h;exact Zbfa b (1048576+k) _ _ y.args w' (HEV.out w' h) (hst w' (UP.out w' (hwS.trans (h.mono hwS.size)))).1 (by have:=hsm.args.1;omega) (λx hx=>by have:=hsm.args.2 x hx;unfold maxLen;omega)
    have HDO:Hid (∀w' v,Below WS.heap.size WS w'->Zbb w' v (y.args.map λa=>Zbbt (Zbom (steps.take k) E0 a))->Calls Tryz.prog 53 #[.agg (Zbny y b1 b2 m1 m2),v] w' (Zan y (y.args.map λa=>Zbbt (Zbom (steps.take k) E0 a)) w')):=by
     show ∀w' v,_;intro w' v h hv;have hbw:=UP.out w' (hwS.trans (h.mono hwS.size));exact Zlw y b1 b2 m1 m2 v _ w' (hst w' hbw).1 (hst w' hbw).2 hv (by rw[List.length_map];have:=hsm.args.1;omega) (λu hu=>by
      obtain⟨a,_,rfl⟩:=List.mem_map.1 hu;exact Zbbu (Zboo _ _ HSH.out a)) (HGL.out w' hbw)
    have HYO:Hid (y.out.size<=maxLen):=hid (by have:=hsm.out;unfold maxLen;omega);have HNE:=hid (Zbon steps E0 k y hy);have HAN:Hid (y.args.length<=maxLen):=hid (by have:=hsm.args.1;unfold maxLen;omega);have HWS:=hid hWS;have HWB:=hid hwS;have HSS:=hid hss;have HBL:=hid HE.out.lt;clear hst hcs hsm hy hbx hwS hss hWS;obtain⟨yout,yop,yargs,ylits,yn⟩:=y;simp only[Zbny]at e0 e1 e2 e3 e4 HCS HPK HDO HYO HNE HAN HWS;go_wp2;rw[HWS.out];refine wp_region_held_drew (S:=(λw'=>w'.cell? ⟨wr.heap.size,0,none⟩=some (.string yout)/\w'.cell? ⟨wr.heap.size,1,none⟩=some (.int .i64 yop)/\w'.cell? ⟨wr.heap.size,2,none⟩=some (.slice b1 yargs.length m1)/\w'.cell? ⟨wr.heap.size,3,none⟩=some (.slice b2 ylits.length m2)/\w'.cell? ⟨wr.heap.size,4,none⟩=some (.int .i64 yn))) (by kernel_rfl) ?_ (λhHeld=>?_)
    ·exact HCS.out _ rfl
    refine tkH 0 (v:=?_) ?_ ?_;rotate_left
    ·intro w hSw;obtain⟨q0,q1,q2,q3,q4⟩:=hSw;go_simp;try with_reducible rfl
    try simp only[Act.put,List.setIfInBounds_toArray,List.set_cons_zero,List.set_cons_succ]
    refine tkH 1 (v:=?_) ?_ ?_;rotate_left
    ·intro w hSw;obtain⟨q0,q1,q2,q3,q4⟩:=hSw;go_simp;try with_reducible rfl
    try simp only[Act.put,List.setIfInBounds_toArray,List.set_cons_zero,List.set_cons_succ]
    refine tkH 2 (v:=?_) ?_ ?_;rotate_left
    ·intro w hSw;obtain⟨q0,q1,q2,q3,q4⟩:=hSw;go_simp;try with_reducible rfl
    try simp only[Act.put,List.setIfInBounds_toArray,List.set_cons_zero,List.set_cons_succ]
    refine tkH 3 (v:=?_) ?_ ?_;rotate_left
    ·intro w hSw;obtain⟨q0,q1,q2,q3,q4⟩:=hSw;go_simp;try with_reducible rfl
    try simp only[Act.put,List.setIfInBounds_toArray,List.set_cons_zero,List.set_cons_succ]
    refine tkH 4 (v:=?_) ?_ ?_;rotate_left
    ·intro w hSw;obtain⟨q0,q1,q2,q3,q4⟩:=hSw;go_simp;try with_reducible rfl
    try simp only[Act.put,List.setIfInBounds_toArray,List.set_cons_zero,List.set_cons_succ]
    refine tkH 5 (v:=?_) ?_ ?_;rotate_left
    ·intro w hSw;obtain⟨q0,q1,q2,q3,q4⟩:=hSw;go_simp;try with_reducible rfl
    try simp only[Act.put,List.setIfInBounds_toArray,List.set_cons_zero,List.set_cons_succ]
    refine tkH 6 (v:=?_) ?_ ?_;rotate_left
    ·intro w hSw;obtain⟨q0,q1,q2,q3,q4⟩:=hSw;go_simp;try with_reducible rfl
    try simp only[Act.put,List.setIfInBounds_toArray,List.set_cons_zero,List.set_cons_succ]
    refine rdH [7] ?_;refine rcH (λK hK=>?_) ?_
    ·go_simp;refine(HPK.out _ (below_drewN (Below.refl _ _) 1)).mono ?_;rintro e w3 ⟨g,rfl,hrow,hgs,hb3⟩;have HB3:Hid (Below WS.heap.size WS w3):=hid ((below_drewN (Below.refl _ _) 1).trans hb3);have hV3:=hrow.vals (by rw[List.length_map];exact HAN.out);rw[List.length_map]at hV3;have HV3:=hid hV3;clear hrow hgs hb3 hV3;dsimp only
     refine hK.out _ _ ?_ (λhHeld=>?_)
     ·try dsimp only
      exact HCS.out _ (HB3.out.block wr.heap.size (by have:=HSS.out;omega))
     clear hK K
     try simp only[Act.put,List.setIfInBounds_toArray,List.set_cons_zero,List.set_cons_succ]
     refine rdH [8] ?_;refine rcH (λK hK=>?_) ?_
     ·go_simp;refine(HDO.out _ _ HB3.out HV3.out).mono ?_;rintro e w4 ⟨rfl,hb4⟩;have HB4:=hid (HB3.out.trans (hb4.mono HB3.out.size));obtain⟨w5,hput,henv5,hturn⟩:=(HEV.out w4 HB4.out).put (by omega) yout HYO.out (doV ⟨yout,yop,yargs,ylits,yn⟩ (yargs.map λa=>Zbbt (Zbom (steps.take k) E0 a)));rw[<-HNE.out]at henv5;have HEN:=hid henv5;have HBX:Hid (w5.heap[wr.heap.size]? =WS.heap[wr.heap.size]?):=hid ((hturn.grown.block wr.heap.size (by have:=HB4.out.size;have:=HSS.out;omega) (λe=>by have:=HBL.out;cases e;omega)).trans (HB4.out.block wr.heap.size (by have:=HSS.out;omega)));have HB5:Hid (Below W1.heap.size W1 w5):=hid ((HWB.out.trans (HB4.out.mono HWB.out.size)).grown hturn.grown (Nat.le_trans HWB.out.size HB4.out.size) (λj e=>by cases e;exact HBB.out));clear hb4 henv5 hturn;dsimp only
      refine hK.out _ _ ?_ (λhHeld=>?_)
      ·try dsimp only
       exact HCS.out _ (HB4.out.block wr.heap.size (by have:=HSS.out;omega))
      clear hK K
      try simp only[Act.put,List.setIfInBounds_toArray,List.set_cons_zero,List.set_cons_succ]
      refine rdH [9] ?_;refine rcH (λK hK=>?_) ?_
      ·go_simp;first|done|skip
       refine hK.out _ _ ?_ (λhHeld=>?_)
       ·try dsimp only
        exact HCS.out _ HBX.out
       clear hK K
       try simp only[Act.put,List.setIfInBounds_toArray,List.set_cons_zero,List.set_cons_succ]
       refine wpAnyH_done (by kernel_rfl) ?_ _;go_wp2;go_roundw
       case rel=>exact⟨k+1,by omega,by go_num,HEN.out,HB5.out⟩
       case measure=>simp[intOf];omega
      exact AllReadyH.nil
     exact AllReadyH.nil
    exact AllReadyH.nil
   ·have hi1:¬(k:Int)<(steps.length:Int):=by omega
    have hfull:steps.take k=steps:=List.take_of_length_le (by omega);have hE:=HE.out;rw[hfull]at hE;have CPP:=hid (CP.out b _ _ wr hE HNX.out);obtain⟨d0,d1,d2,d3,d4⟩:=HD.out wr HNX.out;clear hfull hE
    go_wp2_with fail
    refine CPP.out.mono ?_;rintro e w3 ⟨g,rfl,hrow,hgs,hb3⟩;have hV:=hrow.vals (by rw[List.length_map];exact hN.out);rw[List.length_map,<-HRUN.out HLEN.out]at hV;have HV:=hid hV;have HB3:=hid (UP.out w3 (HNX.out.trans (hb3.mono HNX.out.size)));clear hrow hgs hb3 hV;go_wp2;go_ret;exact⟨_,rfl,HV.out,HB3.out⟩
 ·have hle:¬(ins.length:Int)=(insN.length:Int):=by omega
  have HB1:=hid (UP.out W1 (Below.refl _ _));have hr0:=HRN.out hlen;have HR0:=hid hr0;clear hr0
  go_enter Tryz.func16,Tryz.ntmps16
  go_wp2;rw[HW.out];go_ret;exact⟨_,rfl,by rw[HR0.out];exact Zbsk _,HB1.out⟩
def okN (x:ByteArray):Bool:=Zbcf x.data.toList
def Zbnm (x:StepS):Bool:=mayB x&&okN x.out&&x.args.all okN
def Zpo (r:RuleS):Bool:=okN r.name&&r.ins.all okN&&decide (0<r.outs.length)&&r.outs.all okN&&r.after.all okN&&r.steps.all Zbnm
def Zbkx (r:RuleS):Bool:=decide (r.ins.length<=8)&&decide (r.outs.length<=4)&&decide (r.after.length<=8)&&decide (r.steps.length<=12)
def MayW (w:World):Prop:=∃m,w.cell? ⟨1,0,none⟩=some (.int .i64 m)
theorem Zic {w:World} {b k:Nat} {v:Value} (h:w.cell? ⟨b,k,none⟩=some v):b<w.heap.size:=by
 cases hb:w.heap[b]? with
 | none=>simp[World.cell?,hb]at h
 | some o=>exact(Array.getElem?_eq_some_iff.1 hb).1
theorem Zblx {ks:List ByteArray} (h:SmallL ks 1048576):∀k∈ks,k.size<=maxLen:=λk hk=>by have:=h.2 k hk;unfold maxLen;omega
theorem MayW.below {w w':World} (h:MayW w) (hb:Below w.heap.size w w'):MayW w':=by
 obtain⟨m,h⟩:=h;exact⟨m,(hb.cell (p:=⟨_,0,none⟩) (Zic h)).trans h⟩
set_option maxHeartbeats 4000000
set_option maxRecDepth 100000
theorem Zyx (s:ByteArray) (w:World) (hs:s.size<=maxLen) (hm:MayW w):Calls Tryz.prog 66 #[.string s] w λe w'=>e = .returned (.bool (okN s))/\Below w.heap.size w w':=by
 obtain⟨m,h⟩:=hm;exact Zzb s m w hs h
theorem Zyr (s:ByteArray) (w:World) (hs:s.size<=maxLen) (hm:MayW w):Calls Tryz.prog 144 #[.string s] w λe w'=>e = .returned (.bool (!okN s))/\Below w.heap.size w w':=by
 have C:=hid (Zyx s w hs hm);clear hs hm
 go_enter Tryz.func144,Tryz.ntmps144
 go_wp2_with (go_at_call 66;refine C.out.mono ?_;rintro e w2 ⟨rfl,hb2⟩)
 go_ret;exact⟨rfl,hb2⟩
theorem Zys (v:Value) (xs:List ByteArray) (w:World) (hv:IsStrs w v xs) (hs:∀x∈xs,x.size<=maxLen) (hm:MayW w):Calls Tryz.prog 91 #[v] w λe w'=>e = .returned (.bool (xs.all okN))/\Below w.heap.size w w':=by
 have cC:=Zki 144 #[] (enters_of Tryz.func144 (by kernel_rfl) rfl) v xs (λx=> !okN x) w.heap.size w (Nat.le_refl _) (λW hW=>hv.below hW) (λx hx W hW=>Zyr x W (hs x hx) (hm.below hW));have e:(!xs.any λx=> !okN x)=xs.all okN:=by rw[<-List.not_all_eq_any_not];simp
 obtain⟨r,hr⟩:∃r,(xs.any λx=> !okN x)=r:=⟨_,rfl⟩;rw[hr]at cC e;rw[<-e];have CC:=hid cC;clear hv hs hm cC e hr
 go_enter Tryz.func91,Tryz.ntmps91
 go_wp2_with (go_at_call 134;refine CC.out.mono ?_;rintro e w2 ⟨rfl,hb2⟩)
 go_ret;exact⟨rfl,hb2⟩
theorem Zbnn (x:StepS) (a1 a2:Option Addr) (c1 c2:Nat) (w:World) (ha:IsStrs w (.slice a1 x.args.length c1) x.args) (hl:IsStrs w (.slice a2 x.lits.length c2) x.lits) (hs:SmallS x 1048576) (hm:MayW w):
  Calls Tryz.prog 94 #[.agg #[.string x.out,.int .i64 x.op,.slice a1 x.args.length c1,.slice a2 x.lits.length c2,.int .i64 x.n]] w λe w'=>e = .returned (.bool (Zbnm x))/\Below w.heap.size w w':=by
 obtain⟨W1,hW1⟩:∃W1,w.alloc (.cells #[.string x.out,.int .i64 x.op,.slice a1 x.args.length c1,.slice a2 x.lits.length c2,.int .i64 x.n] 42)=W1:=⟨_,rfl⟩;have hb:Below w.heap.size w W1:=by rw[<-hW1];exact(Below.refl _ _).alloc (Nat.le_refl _) _
 have hc:W1.heap[w.heap.size]? =some (.cells #[.string x.out,.int .i64 x.op,.slice a1 x.args.length c1,.slice a2 x.lits.length c2,.int .i64 x.n] 42):=by rw[<-hW1];exact alloc_at w _
 have hs1:W1.heap.size=w.heap.size+1:=by rw[<-hW1];simp
 have hD:∀W,Below W1.heap.size W1 W->W.heap[w.heap.size]? =some (.cells #[.string x.out,.int .i64 x.op,.slice a1 x.args.length c1,.slice a2 x.lits.length c2,.int .i64 x.n] 42):=λW h=>(h.block _ (by omega)).trans hc
 have q0:∀W,Below W1.heap.size W1 W->Calls Tryz.prog 49 #[.agg #[.string x.out,.int .i64 x.op,.slice a1 x.args.length c1,.slice a2 x.lits.length c2,.int .i64 x.n]] W λe w'=>e = .returned (.bool (mayB x))/\Below W1.heap.size W1 w':=λW h=>(Zbnr x a1 a2 c1 c2 W (ha.below (hb.trans (h.mono hb.size))) (hl.below (hb.trans (h.mono hb.size)))).mono λe w' r=>⟨r.1,h.trans (r.2.mono h.size)⟩
 have q1:∀W,Below W1.heap.size W1 W->Calls Tryz.prog 66 #[.string x.out] W λe w'=>e = .returned (.bool (okN x.out))/\Below W1.heap.size W1 w':=λW h=>(Zyx x.out W (by have:=hs.out;unfold maxLen;omega) (hm.below (hb.trans (h.mono hb.size)))).mono λe w' r=>⟨r.1,h.trans (r.2.mono h.size)⟩
 have q2:∀W,Below W1.heap.size W1 W->Calls Tryz.prog 91 #[.slice a1 x.args.length c1] W λe w'=>e = .returned (.bool (x.args.all okN))/\Below W1.heap.size W1 w':=λW h=>(Zys _ x.args W (ha.below (hb.trans (h.mono hb.size))) (Zblx hs.args) (hm.below (hb.trans (h.mono hb.size)))).mono λe w' r=>⟨r.1,h.trans (r.2.mono h.size)⟩
 unfold Zbnm;obtain⟨b0,h0⟩:∃b,mayB x=b:=⟨_,rfl⟩;obtain⟨b1,h1⟩:∃b,okN x.out=b:=⟨_,rfl⟩;obtain⟨b2,h2⟩:∃b,x.args.all okN=b:=⟨_,rfl⟩;rw[h0]at q0;rw[h1]at q1;rw[h2]at q2;rw[h0,h1,h2];obtain⟨out,op,args,lits,n⟩:=x;simp only at q0 q1 q2 hD hb hW1⊢;have Q0:=hid q0;have Q1:=hid q1;have Q2:=hid q2;have HB:=hid hb;have HD:=hid hD;have HW:=hid hW1;clear q0 q1 q2 hb hD hW1 h0 h1 h2 ha hl hs hm hc hs1
 go_enter Tryz.func94,Tryz.ntmps94
 go_wp2_with fail
 rw[HW.out];have R1:Hid (Below W1.heap.size W1 W1):=hid (Below.refl _ _);obtain⟨d0,d1,d2,d3,d4,_⟩:=cells5 (HD.out W1 R1.out)
 cases b0
 ·go_wp2_with (first
   | (go_at_call 49;(with_reducible refine(Q0.out _ R1.out).mono ?_);rintro e w2 ⟨rfl,hb2⟩;have HB2:=hid hb2;obtain⟨d0,d1,d2,d3,d4,_⟩:=cells5 <| HD.out _ HB2.out;clear hb2))
  go_ret;exact⟨rfl,HB.out.trans (HB2.out.mono HB.out.size)⟩
 cases b1
 ·go_wp2_with (first
   | (go_at_call 49;(with_reducible refine(Q0.out _ R1.out).mono ?_);rintro e w2 ⟨rfl,hb2⟩;have HB2:=hid hb2;obtain⟨d0,d1,d2,d3,d4,_⟩:=cells5 <| HD.out _ HB2.out;clear hb2)
   | (go_at_call 66;(with_reducible refine(Q1.out _ HB2.out).mono ?_);rintro e w3 ⟨rfl,hb3⟩;have HB3:=hid hb3;obtain⟨d0,d1,d2,d3,d4,_⟩:=cells5 <| HD.out _ HB3.out;clear hb3))
  go_ret;exact⟨rfl,HB.out.trans (HB3.out.mono HB.out.size)⟩
 cases b2
 ·go_wp2_with (first
   | (go_at_call 49;(with_reducible refine(Q0.out _ R1.out).mono ?_);rintro e w2 ⟨rfl,hb2⟩;have HB2:=hid hb2;obtain⟨d0,d1,d2,d3,d4,_⟩:=cells5 <| HD.out _ HB2.out;clear hb2)
   | (go_at_call 66;(with_reducible refine(Q1.out _ HB2.out).mono ?_);rintro e w3 ⟨rfl,hb3⟩;have HB3:=hid hb3;obtain⟨d0,d1,d2,d3,d4,_⟩:=cells5 <| HD.out _ HB3.out;clear hb3)
   | (go_at_call 91;(with_reducible refine(Q2.out _ HB3.out).mono ?_);rintro e w4 ⟨rfl,hb4⟩;have HB4:=hid hb4;obtain⟨d0,d1,d2,d3,d4,_⟩:=cells5 <| HD.out _ HB4.out;clear hb4))
  go_ret;exact⟨rfl,HB.out.trans (HB4.out.mono HB.out.size)⟩
 go_wp2_with (first
  | (go_at_call 49;(with_reducible refine(Q0.out _ R1.out).mono ?_);rintro e w2 ⟨rfl,hb2⟩;have HB2:=hid hb2;obtain⟨d0,d1,d2,d3,d4,_⟩:=cells5 <| HD.out _ HB2.out;clear hb2)
  | (go_at_call 66;(with_reducible refine(Q1.out _ HB2.out).mono ?_);rintro e w3 ⟨rfl,hb3⟩;have HB3:=hid hb3;obtain⟨d0,d1,d2,d3,d4,_⟩:=cells5 <| HD.out _ HB3.out;clear hb3)
  | (go_at_call 91;(with_reducible refine(Q2.out _ HB3.out).mono ?_);rintro e w4 ⟨rfl,hb4⟩;have HB4:=hid hb4;obtain⟨d0,d1,d2,d3,d4,_⟩:=cells5 <| HD.out _ HB4.out;clear hb4))
 go_ret;exact⟨rfl,HB.out.trans (HB4.out.mono HB.out.size)⟩
theorem Zbnl (x:StepS) (a1 a2:Option Addr) (c1 c2:Nat) (w:World) (ha:IsStrs w (.slice a1 x.args.length c1) x.args) (hl:IsStrs w (.slice a2 x.lits.length c2) x.lits) (hs:SmallS x 1048576) (hm:MayW w):
  Calls Tryz.prog 93 #[.agg #[.string x.out,.int .i64 x.op,.slice a1 x.args.length c1,.slice a2 x.lits.length c2,.int .i64 x.n]] w λe w'=>e = .returned (.bool (!Zbnm x))/\Below w.heap.size w w':=by
 obtain⟨W1,hW1⟩:∃W1,w.alloc (.cells #[.string x.out,.int .i64 x.op,.slice a1 x.args.length c1,.slice a2 x.lits.length c2,.int .i64 x.n] 42)=W1:=⟨_,rfl⟩;have hb:Below w.heap.size w W1:=by rw[<-hW1];exact(Below.refl _ _).alloc (Nat.le_refl _) _
 have hc:W1.heap[w.heap.size]? =some (.cells #[.string x.out,.int .i64 x.op,.slice a1 x.args.length c1,.slice a2 x.lits.length c2,.int .i64 x.n] 42):=by rw[<-hW1];exact alloc_at w _
 obtain⟨d0,d1,d2,d3,d4,_⟩:=cells5 hc;have C:=hid (Zbnn x a1 a2 c1 c2 W1 (ha.below hb) (hl.below hb) hs (hm.below hb));obtain⟨b0,h0⟩:∃b,Zbnm x=b:=⟨_,rfl⟩;rw[h0]at C⊢;obtain⟨out,op,args,lits,n⟩:=x;simp only at C d0 d1 d2 d3 d4 hW1⊢;have HB:=hid hb;have HW:=hid hW1;clear hb hW1 hc ha hl hs hm h0
 go_enter Tryz.func93,Tryz.ntmps93
 go_wp2_with (go_at_call 94;rw[HW.out];(with_reducible refine C.out.mono ?_);rintro e w2 ⟨rfl,hb2⟩)
 go_ret;exact⟨rfl,HB.out.trans (hb2.mono HB.out.size)⟩
theorem Zdn (xs:List StepS) (q:StepS->Bool) (p:Nat->Bool) (h:∀(k:Nat) x,xs[k]? =some x->p k=q x):(List.range xs.length).any p=xs.any q:=by
 rw[Bool.eq_iff_iff,List.any_eq_true,List.any_eq_true];constructor
 ·rintro⟨k,hk,hp⟩
  have hk:=List.mem_range.1 hk;exact⟨xs[k],List.getElem_mem hk,by rw[<-h k _ (List.getElem?_eq_getElem hk)];exact hp⟩
 ·rintro⟨x,hx,hp⟩
  obtain⟨k,hk,e⟩:=List.getElem_of_mem hx;exact⟨k,List.mem_range.2 hk,by rw[h k x (by rw[List.getElem?_eq_getElem hk,e])];exact hp⟩
theorem Zkh (fid:Nat) (caps:Array Value) (eg:∀args w,(callFunc fid args).run Tryz.prog w = .ok (.enter fid args) w) (v:Value) (xs:List StepS) (q:StepS->Bool) (w:World) (hv:StepsI w v xs)
  (hf:∀x∈xs,∀(a1 a2:Option Addr) (c1 c2:Nat) W,Below w.heap.size w W->IsStrs W (.slice a1 x.args.length c1) x.args->IsStrs W (.slice a2 x.lits.length c2) x.lits->Calls Tryz.prog fid (#[.agg #[.string x.out,.int .i64 x.op,.slice a1 x.args.length c1,.slice a2 x.lits.length c2,.int .i64 x.n]]++caps) W λe W'=>e = .returned (.bool (q x))/\Below W.heap.size W W'):
  Calls Tryz.prog 92 #[v,.func (.func fid) #[] caps] w λe w'=>e = .returned (.bool (xs.any q))/\Below w.heap.size w w':=by
 obtain⟨rows,hrow,hall⟩:=hv;obtain⟨a,c,rfl,h1,h2,h3⟩:=id hrow;have hq:∀(k:Nat) x,xs[k]? =some x->∃r,rows[k]? =some r/\Zcc w r x:=by
  intro k x hx;have hk:k<rows.length:=by rw[hall.1];exact(List.getElem?_eq_some_iff.1 hx).1
  exact⟨rows[k],List.getElem?_eq_getElem hk,hall.2 k _ x (List.getElem?_eq_getElem hk) hx⟩
 have hx:∀(k:Nat),k<rows.length->∃x,xs[k]? =some x:=λk hk=>⟨xs[k]'(by rw[<-hall.1];exact hk),List.getElem?_eq_getElem _⟩
 refine(Zkj fid caps eg a rows.length c (Nat.le_trans h1 h2) (λk=>(rows.getD k []).getD 0 undef) (λk=>(rows.getD k []).getD 1 undef) (λk=>(rows.getD k []).getD 2 undef) (λk=>(rows.getD k []).getD 3 undef) (λk=>(rows.getD k []).getD 4 undef) (λk=>(xs[k]?.map q).getD false) (λ_ W=>Below w.heap.size w W) w (λk W hk hW=>?_) (λk W hk _ hW=>?_) (Below.refl _ _)).mono ?_
 ·obtain⟨x,hkx⟩:=hx k hk
  obtain⟨r,hr,va,vl,e5,_,_⟩:=hq k x hkx;obtain⟨b,o,rfl,hb,hc⟩:=h3 (by rintro rfl;simp at hk);refine⟨b,o,rfl,?_⟩;have hgd:rows.getD k []=r:=by rw[List.getD_eq_getElem?_getD,hr];rfl
  have hcc:∀(i:Nat) u,r[i]? =some u->W.cell? ⟨b,o+k*5+i,none⟩=some u:=λi u hu=>(hW.cell (p:=⟨b,_,none⟩) hb).trans (hc k r hr i u hu)
  simp only[hgd];subst e5;exact⟨hcc 0 _ rfl,hcc 1 _ rfl,hcc 2 _ rfl,hcc 3 _ rfl,hcc 4 _ rfl⟩
 ·obtain⟨x,hkx⟩:=hx k hk
  obtain⟨r,hr,va,vl,e5,hA,hL⟩:=hq k x hkx;obtain⟨b1,m1,rfl⟩:=Zue hA;obtain⟨b2,m2,rfl⟩:=Zue hL;have hgd:rows.getD k []=r:=by rw[List.getD_eq_getElem?_getD,hr];rfl
  simp only[hgd];subst e5;refine(hf x (List.mem_of_getElem? hkx) b1 b2 m1 m2 W hW (hA.below hW) (hL.below hW)).mono ?_;rintro e W' ⟨rfl,hb⟩;exact⟨by rw[hkx];rfl,hW.trans (hb.mono hW.size)⟩
 ·intro e w' h
  obtain⟨rfl,k,_,hb⟩:=h.any;exact⟨by rw[hall.1,Zdn xs q _ (λk x hkx=>by rw[hkx];rfl)],hb⟩
theorem Zpp (r:RuleS) (a1 a2 a3 a4:Option Addr) (c1 c2 c3 c4:Nat) (w:World) (hr:RuleI w [.string r.name,.slice a1 r.ins.length c1,.slice a2 r.outs.length c2,.slice a3 r.after.length c3,.slice a4 r.steps.length c4] r) (hs:SmallR r 1048576) (hm:MayW w):
  Calls Tryz.prog 58 #[.agg (Zbiz r a1 a2 a3 a4 c1 c2 c3 c4)] w λe w'=>e = .returned (.bool (Zpo r))/\Below w.heap.size w w':=by
 obtain⟨vi,vo,vf,vst,qe,h1,h2,h3,h4⟩:=hr;simp only[List.cons.injEq,and_true,true_and]at qe;obtain⟨rfl,rfl,rfl,rfl⟩:=qe;obtain⟨W1,hW1⟩:∃W1,w.alloc (.cells (Zbiz r a1 a2 a3 a4 c1 c2 c3 c4) 25)=W1:=⟨_,rfl⟩;have hb:Below w.heap.size w W1:=by rw[<-hW1];exact(Below.refl _ _).alloc (Nat.le_refl _) _
 have hc:W1.heap[w.heap.size]? =some (.cells (Zbiz r a1 a2 a3 a4 c1 c2 c3 c4) 25):=by rw[<-hW1];exact alloc_at w _
 have hs1:W1.heap.size=w.heap.size+1:=by rw[<-hW1];simp
 have hD:∀W,Below W1.heap.size W1 W->W.heap[w.heap.size]? =some (.cells (Zbiz r a1 a2 a3 a4 c1 c2 c3 c4) 25):=λW h=>(h.block _ (by omega)).trans hc
 have q0:∀W,Below W1.heap.size W1 W->Calls Tryz.prog 66 #[.string r.name] W λe w'=>e = .returned (.bool (okN r.name))/\Below W1.heap.size W1 w':=λW h=>(Zyx r.name W (by have:=hs.name;unfold maxLen;omega) (hm.below (hb.trans (h.mono hb.size)))).mono λe w' r=>⟨r.1,h.trans (r.2.mono h.size)⟩
 have q1:∀W,Below W1.heap.size W1 W->Calls Tryz.prog 91 #[.slice a1 r.ins.length c1] W λe w'=>e = .returned (.bool (r.ins.all okN))/\Below W1.heap.size W1 w':=λW h=>(Zys _ r.ins W (h1.below (hb.trans (h.mono hb.size))) (Zblx hs.ins) (hm.below (hb.trans (h.mono hb.size)))).mono λe w' r=>⟨r.1,h.trans (r.2.mono h.size)⟩
 have q3:∀W,Below W1.heap.size W1 W->Calls Tryz.prog 91 #[.slice a2 r.outs.length c2] W λe w'=>e = .returned (.bool (r.outs.all okN))/\Below W1.heap.size W1 w':=λW h=>(Zys _ r.outs W (h2.below (hb.trans (h.mono hb.size))) (Zblx hs.outs) (hm.below (hb.trans (h.mono hb.size)))).mono λe w' r=>⟨r.1,h.trans (r.2.mono h.size)⟩
 have q4:∀W,Below W1.heap.size W1 W->Calls Tryz.prog 91 #[.slice a3 r.after.length c3] W λe w'=>e = .returned (.bool (r.after.all okN))/\Below W1.heap.size W1 w':=λW h=>(Zys _ r.after W (h3.below (hb.trans (h.mono hb.size))) (Zblx hs.after) (hm.below (hb.trans (h.mono hb.size)))).mono λe w' r=>⟨r.1,h.trans (r.2.mono h.size)⟩
 have q5:∀W,Below W1.heap.size W1 W->Calls Tryz.prog 92 #[.slice a4 r.steps.length c4,.func (.func 93) #[] #[]] W λe w'=>e = .returned (.bool (r.steps.any λx=> !Zbnm x))/\Below W1.heap.size W1 w':=λW h=>(Zkh 93 #[] (enters_of Tryz.func93 (by kernel_rfl) rfl) _ r.steps (λx=> !Zbnm x) W (h4.below (hb.trans (h.mono hb.size))) (λx hx a1 a2 c1 c2 W2 hW2 hA hL=>Zbnl x a1 a2 c1 c2 W2 hA hL (hs.steps x hx) ((hm.below (hb.trans (h.mono hb.size))).below hW2))).mono λe w' r=>⟨r.1,h.trans (r.2.mono h.size)⟩
 have e5:(!r.steps.any λx=> !Zbnm x)=r.steps.all Zbnm:=by rw[<-List.not_all_eq_any_not];simp
 have houts:r.outs.length<=1048576:=hs.outs.1;unfold Zpo;rw[<-e5];obtain⟨b0,h0⟩:∃b,okN r.name=b:=⟨_,rfl⟩;obtain⟨b1,g1⟩:∃b,r.ins.all okN=b:=⟨_,rfl⟩;obtain⟨b2,g2⟩:∃b,decide (0<r.outs.length)=b:=⟨_,rfl⟩;obtain⟨b3,g3⟩:∃b,r.outs.all okN=b:=⟨_,rfl⟩;obtain⟨b4,g4⟩:∃b,r.after.all okN=b:=⟨_,rfl⟩;obtain⟨b5,g5⟩:∃b,(r.steps.any λx=> !Zbnm x)=b:=⟨_,rfl⟩;rw[h0]at q0;rw[g1]at q1;rw[g3]at q3;rw[g4]at q4;rw[g5]at q5;rw[h0,g1,g2,g3,g4,g5];obtain⟨name,insN,outsN,after,steps⟩:=r;simp only[Zbiz]at q0 q1 q3 q4 q5 hD hb hW1 houts g2⊢;have Q0:=hid q0;have Q1:=hid q1;have Q3:=hid q3;have Q4:=hid q4;have Q5:=hid q5;have HB:=hid hb;have HD:=hid hD;have HW:=hid hW1;clear q0 q1 q3 q4 q5 hb hD hW1 h0 g1 g3 g4 g5 h1 h2 h3 h4 hs hm hc hs1 e5;have hmf:∀(fn:Fn) (first cap:Array Value) (w:World),(Instr.makeFunc fn first cap).run Tryz.prog w = .ok (.func fn first cap) w:=λ_ _ _ _=>rfl
 go_enter Tryz.func58,Tryz.ntmps58
 go_wp2_with fail
 rw[HW.out];have R1:Hid (Below W1.heap.size W1 W1):=hid (Below.refl _ _);obtain⟨d0,d1,d2,d3,d4,_⟩:=cells5 (HD.out W1 R1.out)
 cases b0
 ·go_wp2_with (first
   | (go_at_call 66;(with_reducible refine(Q0.out _ R1.out).mono ?_);rintro e w2 ⟨rfl,hb2⟩;have HB2:=hid hb2;obtain⟨d0,d1,d2,d3,d4,_⟩:=cells5 <| HD.out _ HB2.out;clear hb2))
  go_ret;exact⟨rfl,HB.out.trans (HB2.out.mono HB.out.size)⟩
 cases b1
 ·go_wp2_with (first
   | (go_at_call 66;(with_reducible refine(Q0.out _ R1.out).mono ?_);rintro e w2 ⟨rfl,hb2⟩;have HB2:=hid hb2;obtain⟨d0,d1,d2,d3,d4,_⟩:=cells5 <| HD.out _ HB2.out;clear hb2)
   | (go_at_call 91;(with_reducible refine(Q1.out _ HB2.out).mono ?_);rintro e w3 ⟨rfl,hb3⟩;have HB3:=hid hb3;obtain⟨d0,d1,d2,d3,d4,_⟩:=cells5 <| HD.out _ HB3.out;clear hb3))
  go_ret;exact⟨rfl,HB.out.trans (HB3.out.mono HB.out.size)⟩
 cases b2
 ·have hzi:¬(0:Int)<(outsN.length:Int):=by have:=of_decide_eq_false g2;omega
  go_wp2_with (first
   | (go_at_call 66;(with_reducible refine(Q0.out _ R1.out).mono ?_);rintro e w2 ⟨rfl,hb2⟩;have HB2:=hid hb2;obtain⟨d0,d1,d2,d3,d4,_⟩:=cells5 <| HD.out _ HB2.out;clear hb2)
   | (go_at_call 91;(with_reducible refine(Q1.out _ HB2.out).mono ?_);rintro e w3 ⟨rfl,hb3⟩;have HB3:=hid hb3;obtain⟨d0,d1,d2,d3,d4,_⟩:=cells5 <| HD.out _ HB3.out;clear hb3))
  go_ret;exact⟨rfl,HB.out.trans (HB3.out.mono HB.out.size)⟩
 have hzi:(0:Int)<(outsN.length:Int):=by have:=of_decide_eq_true g2;omega
 cases b3
 ·go_wp2_with (first
   | (go_at_call 66;(with_reducible refine(Q0.out _ R1.out).mono ?_);rintro e w2 ⟨rfl,hb2⟩;have HB2:=hid hb2;obtain⟨d0,d1,d2,d3,d4,_⟩:=cells5 <| HD.out _ HB2.out;clear hb2)
   | (go_at_call 91;(with_reducible refine(Q1.out _ HB2.out).mono ?_);rintro e w3 ⟨rfl,hb3⟩;have HB3:=hid hb3;obtain⟨d0,d1,d2,d3,d4,_⟩:=cells5 <| HD.out _ HB3.out;clear hb3)
   | (go_at_call 91;(with_reducible refine(Q3.out _ HB3.out).mono ?_);rintro e w5 ⟨rfl,hb5⟩;have HB5:=hid hb5;obtain⟨d0,d1,d2,d3,d4,_⟩:=cells5 <| HD.out _ HB5.out;clear hb5))
  go_ret;exact⟨rfl,HB.out.trans (HB5.out.mono HB.out.size)⟩
 cases b4
 ·go_wp2_with (first
   | (go_at_call 66;(with_reducible refine(Q0.out _ R1.out).mono ?_);rintro e w2 ⟨rfl,hb2⟩;have HB2:=hid hb2;obtain⟨d0,d1,d2,d3,d4,_⟩:=cells5 <| HD.out _ HB2.out;clear hb2)
   | (go_at_call 91;(with_reducible refine(Q1.out _ HB2.out).mono ?_);rintro e w3 ⟨rfl,hb3⟩;have HB3:=hid hb3;obtain⟨d0,d1,d2,d3,d4,_⟩:=cells5 <| HD.out _ HB3.out;clear hb3)
   | (go_at_call 91;(with_reducible refine(Q3.out _ HB3.out).mono ?_);rintro e w5 ⟨rfl,hb5⟩;have HB5:=hid hb5;obtain⟨d0,d1,d2,d3,d4,_⟩:=cells5 <| HD.out _ HB5.out;clear hb5)
   | (go_at_call 91;(with_reducible refine(Q4.out _ HB5.out).mono ?_);rintro e w6 ⟨rfl,hb6⟩;have HB6:=hid hb6;obtain⟨d0,d1,d2,d3,d4,_⟩:=cells5 <| HD.out _ HB6.out;clear hb6))
  go_ret;exact⟨rfl,HB.out.trans (HB6.out.mono HB.out.size)⟩
 cases b5
 ·go_wp2_with (first
   | (go_at_call 66;(with_reducible refine(Q0.out _ R1.out).mono ?_);rintro e w2 ⟨rfl,hb2⟩;have HB2:=hid hb2;obtain⟨d0,d1,d2,d3,d4,_⟩:=cells5 <| HD.out _ HB2.out;clear hb2)
   | (go_at_call 91;(with_reducible refine(Q1.out _ HB2.out).mono ?_);rintro e w3 ⟨rfl,hb3⟩;have HB3:=hid hb3;obtain⟨d0,d1,d2,d3,d4,_⟩:=cells5 <| HD.out _ HB3.out;clear hb3)
   | (go_at_call 91;(with_reducible refine(Q3.out _ HB3.out).mono ?_);rintro e w5 ⟨rfl,hb5⟩;have HB5:=hid hb5;obtain⟨d0,d1,d2,d3,d4,_⟩:=cells5 <| HD.out _ HB5.out;clear hb5)
   | (go_at_call 91;(with_reducible refine(Q4.out _ HB5.out).mono ?_);rintro e w6 ⟨rfl,hb6⟩;have HB6:=hid hb6;obtain⟨d0,d1,d2,d3,d4,_⟩:=cells5 <| HD.out _ HB6.out;clear hb6)
   | (go_at_call 92;(with_reducible refine(Q5.out _ HB6.out).mono ?_);rintro e w7 ⟨rfl,hb7⟩;have HB7:=hid hb7;obtain⟨d0,d1,d2,d3,d4,_⟩:=cells5 <| HD.out _ HB7.out;clear hb7))
  go_ret;exact⟨rfl,HB.out.trans (HB7.out.mono HB.out.size)⟩
 go_wp2_with (first
  | (go_at_call 66;(with_reducible refine(Q0.out _ R1.out).mono ?_);rintro e w2 ⟨rfl,hb2⟩;have HB2:=hid hb2;obtain⟨d0,d1,d2,d3,d4,_⟩:=cells5 <| HD.out _ HB2.out;clear hb2)
  | (go_at_call 91;(with_reducible refine(Q1.out _ HB2.out).mono ?_);rintro e w3 ⟨rfl,hb3⟩;have HB3:=hid hb3;obtain⟨d0,d1,d2,d3,d4,_⟩:=cells5 <| HD.out _ HB3.out;clear hb3)
  | (go_at_call 91;(with_reducible refine(Q3.out _ HB3.out).mono ?_);rintro e w5 ⟨rfl,hb5⟩;have HB5:=hid hb5;obtain⟨d0,d1,d2,d3,d4,_⟩:=cells5 <| HD.out _ HB5.out;clear hb5)
  | (go_at_call 91;(with_reducible refine(Q4.out _ HB5.out).mono ?_);rintro e w6 ⟨rfl,hb6⟩;have HB6:=hid hb6;obtain⟨d0,d1,d2,d3,d4,_⟩:=cells5 <| HD.out _ HB6.out;clear hb6)
  | (go_at_call 92;(with_reducible refine(Q5.out _ HB6.out).mono ?_);rintro e w7 ⟨rfl,hb7⟩;have HB7:=hid hb7;obtain⟨d0,d1,d2,d3,d4,_⟩:=cells5 <| HD.out _ HB7.out;clear hb7))
 go_ret;exact⟨rfl,HB.out.trans (HB7.out.mono HB.out.size)⟩
theorem Zbky (r:RuleS) (a1 a2 a3 a4:Option Addr) (c1 c2 c3 c4:Nat) (w:World) (hs:SmallR r 1048576):
  Calls Tryz.prog 59 #[.agg (Zbiz r a1 a2 a3 a4 c1 c2 c3 c4)] w λe w'=>e = .returned (.bool (Zbkx r))/\Below w.heap.size w w':=by
 have hl1:=hs.ins.1;have hl2:=hs.outs.1;have hl3:=hs.after.1;have hl4:=hs.few;unfold Zbkx;obtain⟨b1,g1⟩:∃b,decide (r.ins.length<=8)=b:=⟨_,rfl⟩;obtain⟨b2,g2⟩:∃b,decide (r.outs.length<=4)=b:=⟨_,rfl⟩;obtain⟨b3,g3⟩:∃b,decide (r.after.length<=8)=b:=⟨_,rfl⟩;obtain⟨b4,g4⟩:∃b,decide (r.steps.length<=12)=b:=⟨_,rfl⟩;rw[g1,g2,g3,g4];obtain⟨name,insN,outsN,after,steps⟩:=r;simp only[Zbiz]at g1 g2 g3 g4 hl1 hl2 hl3 hl4⊢;clear hs
 cases b1
 ·have h1:¬(insN.length:Int)<=8:=by have:=of_decide_eq_false g1;omega
  go_enter Tryz.func59,Tryz.ntmps59
  go_wp2;go_ret;exact⟨rfl,(Below.refl _ _).alloc (Nat.le_refl _) _⟩
 have h1:(insN.length:Int)<=8:=by have:=of_decide_eq_true g1;omega
 cases b2
 ·have h2:¬(outsN.length:Int)<=4:=by have:=of_decide_eq_false g2;omega
  go_enter Tryz.func59,Tryz.ntmps59
  go_wp2;go_ret;exact⟨rfl,(Below.refl _ _).alloc (Nat.le_refl _) _⟩
 have h2:(outsN.length:Int)<=4:=by have:=of_decide_eq_true g2;omega
 cases b3
 ·have h3:¬(after.length:Int)<=8:=by have:=of_decide_eq_false g3;omega
  go_enter Tryz.func59,Tryz.ntmps59
  go_wp2;go_ret;exact⟨rfl,(Below.refl _ _).alloc (Nat.le_refl _) _⟩
 have h3:(after.length:Int)<=8:=by have:=of_decide_eq_true g3;omega
 have h4:decide ((steps.length:Int)<=12)=b4:=by rw[<-g4,Bool.eq_iff_iff,decide_eq_true_eq,decide_eq_true_eq];omega
 have H4:=hid h4;clear h4 g4
 go_enter Tryz.func59,Tryz.ntmps59
 go_wp2;go_ret;exact⟨congrArg (λb=>Ending.returned (.bool b)) H4.out,(Below.refl _ _).alloc (Nat.le_refl _) _⟩
end Go.Proofs.YtmgcaldphpnfgaaGreatDoor
