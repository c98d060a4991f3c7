import Derived.Test.YtcpjfpdecklkgaaGreatDoorMah
import Derived.Laws.AppendOwn
import Derived.OwnWalk
namespace Go.Proofs.YtcpjfpdecklkgaaGreatDoor
open Go.Lib (hid)
open Go.Proofs.Tryz
open Go.RowKit
theorem Zbhv {a b:Bool} (h:a=b):Ending.returned (.bool a) = .returned (.bool b):=by rw[h]
set_option maxHeartbeats 1000000 in
set_option maxRecDepth 100000 in
theorem Zbef (p:Nat) (v:Value) (ws:List Zcj) (s:PS) (key:ByteArray) (w:World) (h:PSt w p v ws s):
  Calls prog 235 #[.pointer (some ⟨p,0,none⟩),.string key] w λe w'=>e = .returned (.bool (Ztr ws key s))/\Below w.heap.size w w':=by
 obtain⟨r,hr⟩:∃r,Ztr ws key s=r:=⟨_,rfl⟩;rw[hr];unfold Ztr at hr;have cW:=λw' (hb:Below w.heap.size w w')=>Zbtl p v ws s w' (h.below hb)
 unfold wVal at cW;obtain⟨kd,hkd⟩:∃kd,(wAt ws s.1).1=kd:=⟨_,rfl⟩;obtain⟨tx,htx⟩:∃tx,wTx ws s.1=tx:=⟨_,rfl⟩;rw[hkd,htx]at hr;simp only[hkd,htx]at cW;have CW:=hid cW;have F0:=fld0;have F2:=fld2;clear cW h hkd htx
 by_cases h1:kd=1
 ·subst h1
  have hr2:(tx.toList==key.toList)=r:=by rw[<-hr];simp
  clear hr
  go_enter func235,ntmps235
  go_wp2_with fail
  refine(CW.out _ (Below.refl _ _)).mono ?_;rintro e w2 ⟨rfl,hb2⟩;have HB2:=hid hb2;clear hb2
  go_wp2_with fail
  refine(CW.out _ HB2.out).mono ?_;rintro e w3 ⟨rfl,hb3⟩;have HB3:=hid (HB2.out.trans (hb3.mono HB2.out.size));clear hb3;go_wp2;go_ret;exact⟨rfl,HB3.out⟩
 ·have hk:(kd==1)=false:=by simpa using h1
  have hr2:false=r:=by rw[<-hr,hk];rfl
  subst hr2;clear hr
  go_enter func235,ntmps235
  go_wp2_with fail
  refine(CW.out _ (Below.refl _ _)).mono ?_;rintro e w2 ⟨rfl,hb2⟩;have HB2:=hid hb2;clear hb2;go_wp2;go_ret;exact⟨rfl,HB2.out⟩
set_option maxHeartbeats 1000000 in
set_option maxRecDepth 100000 in
theorem Zbeg (p:Nat) (v:Value) (ws:List Zcj) (s:PS) (key:ByteArray) (w:World) (h:PSt w p v ws s):
  Calls prog 268 #[.pointer (some ⟨p,0,none⟩),.string key] w λe w'=>e = .returned (.bool (Zts ws key s))/\Below w.heap.size w w':=by
 obtain⟨r,hr⟩:∃r,Zts ws key s=r:=⟨_,rfl⟩;rw[hr];unfold Zts at hr;have cW:=λw' (hb:Below w.heap.size w w')=>Zbtl p v ws s w' (h.below hb)
 unfold wVal at cW;obtain⟨kd,hkd⟩:∃kd,(wAt ws s.1).1=kd:=⟨_,rfl⟩;obtain⟨tx,htx⟩:∃tx,wTx ws s.1=tx:=⟨_,rfl⟩;rw[hkd,htx]at hr;simp only[hkd,htx]at cW;have CW:=hid cW;have F0:=fld0;have F2:=fld2;clear cW h hkd htx
 by_cases h1:kd=3
 ·subst h1
  have hr2:(tx.toList==key.toList)=r:=by rw[<-hr];simp
  clear hr
  go_enter func268,ntmps268
  go_wp2_with fail
  refine(CW.out _ (Below.refl _ _)).mono ?_;rintro e w2 ⟨rfl,hb2⟩;have HB2:=hid hb2;clear hb2
  go_wp2_with fail
  refine(CW.out _ HB2.out).mono ?_;rintro e w3 ⟨rfl,hb3⟩;have HB3:=hid (HB2.out.trans (hb3.mono HB2.out.size));clear hb3;go_wp2;go_ret;exact⟨rfl,HB3.out⟩
 ·have hk:(kd==3)=false:=by simpa using h1
  have hr2:false=r:=by rw[<-hr,hk];rfl
  subst hr2;clear hr
  go_enter func268,ntmps268
  go_wp2_with fail
  refine(CW.out _ (Below.refl _ _)).mono ?_;rintro e w2 ⟨rfl,hb2⟩;have HB2:=hid hb2;clear hb2;go_wp2;go_ret;exact⟨rfl,HB2.out⟩
set_option maxHeartbeats 1000000 in
set_option maxRecDepth 100000 in
theorem Zbee (p:Nat) (v:Value) (ws:List Zcj) (s:PS) (w:World) (h:PSt w p v ws s):
  Calls prog 171 #[.pointer (some ⟨p,0,none⟩)] w λe w'=>e = .returned (.bool (Ztp ws s))/\Below w.heap.size w w':=by
 have cW:=Zbtl p v ws s w h;unfold wVal at cW;unfold Ztp;have F0:=fld0;clear h
 go_enter func171,ntmps171
 go_wp2_with fail
 refine cW.mono ?_;rintro e w2 ⟨rfl,hb2⟩;go_wp2;go_ret;exact⟨rfl,hb2⟩
set_option maxHeartbeats 1000000 in
set_option maxRecDepth 100000 in
theorem Zbeh (p:Nat) (v:Value) (ws:List Zcj) (s:PS) (w:World) (h:PSt w p v ws s) (hg:GP p w) (hsz:∀k,k<ws.length->(wTx ws k).size<=maxLen):
  Calls prog 267 #[.pointer (some ⟨p,0,none⟩)] w λe w'=>e = .returned (.bool (Ztu ws s))/\Below w.heap.size w w':=by
 obtain⟨r,hr⟩:∃r,Ztu ws s=r:=⟨_,rfl⟩;rw[hr];unfold Ztu at hr;have cW:=λw' (hb:Below w.heap.size w w')=>Zbtl p v ws s w' (h.below hb)
 have hs:=hsz _ h.lt;have hp:=h.p_lt;have cM:=λw' (hb:Below w.heap.size w w')=>(hg.below (hb.mono (Nat.le_of_lt hp))).glob.max.elim λm hm=>Zzb (wTx ws s.1) m w' hs hm
 unfold wVal at cW;obtain⟨kd,hkd⟩:∃kd,(wAt ws s.1).1=kd:=⟨_,rfl⟩;obtain⟨tx,htx⟩:∃tx,wTx ws s.1=tx:=⟨_,rfl⟩;rw[hkd,htx]at hr;simp only[hkd,htx]at cW cM;have CW:=hid cW;have CM:=hid cM;have F0:=fld0;have F2:=fld2;clear cW h hkd htx cM hg hsz hs hp
 by_cases h1:kd=1
 ·subst h1
  have hr2:Zbcf tx.data.toList=r:=by rw[<-hr];simp
  have HR:=hid hr2;clear hr hr2
  go_enter func267,ntmps267
  go_wp2_with fail
  refine(CW.out _ (Below.refl _ _)).mono ?_;rintro e w2 ⟨rfl,hb2⟩;have HB2:=hid hb2;clear hb2
  go_wp2_with fail
  refine(CW.out _ HB2.out).mono ?_;rintro e w3 ⟨rfl,hb3⟩;have HB3:=hid (HB2.out.trans (hb3.mono HB2.out.size));clear hb3
  go_wp2_with fail
  refine(CM.out _ HB3.out).mono ?_;rintro e w4 ⟨rfl,hb4⟩;have HB4:=hid (HB3.out.trans (hb4.mono HB3.out.size));clear hb4;go_wp2;go_ret;exact⟨Zbhv HR.out,HB4.out⟩
 ·have hk:(kd==1)=false:=by simpa using h1
  have hr2:false=r:=by rw[<-hr,hk];rfl
  subst hr2;clear hr
  go_enter func267,ntmps267
  go_wp2_with fail
  refine(CW.out _ (Below.refl _ _)).mono ?_;rintro e w2 ⟨rfl,hb2⟩;have HB2:=hid hb2;clear hb2;go_wp2;go_ret;exact⟨rfl,HB2.out⟩
structure RS (w:World) (p:Nat) (v:Value) (ws:List Zcj) (s:PS):Prop where
 st:PSt w p v ws s
 gp:GP p w
 sz:∀k,k<ws.length->(wTx ws k).size<=1048576
 few:ws.length<=2097152
theorem RS.after {w w':World} {p:Nat} {v:Value} {ws:List Zcj} {s s':PS} (h:RS w p v ws s) (ha:After w w' p v ws s'):RS w' p v ws s':=
 ⟨ha.1,h.gp.fr (Nat.le_of_lt h.st.p_lt) ha.2,h.sz,h.few⟩
theorem RS.szM {w:World} {p:Nat} {v:Value} {ws:List Zcj} {s:PS} (h:RS w p v ws s):∀k,k<ws.length->(wTx ws k).size<=maxLen:=λk hk=>by have:=h.sz k hk;unfold maxLen;omega
theorem RS.below {w w':World} {p:Nat} {v:Value} {ws:List Zcj} {s:PS} (h:RS w p v ws s) (hb:Below w.heap.size w w'):RS w' p v ws s:=h.after (After.of_below h.st hb)
set_option maxHeartbeats 1000000 in
set_option maxRecDepth 100000 in
theorem Zbei (p:Nat) (v:Value) (ws:List Zcj) (s:PS) (key:ByteArray) (w:World) (h:RS w p v ws s):
  Calls prog 232 #[.pointer (some ⟨p,0,none⟩),.string key] w λe w'=>e = .returned (.tuple #[])/\After w w' p v ws (keyP ws key s):=by
 have cI:=Zbef p v ws s key w h.st;have cT:=λw' (hb:Below w.heap.size w w')=>Zbrb p v ws s (Ztr ws key s) w' (h.st.below hb) (λh=>Zwq h)
 have HS:=hid h.st;unfold keyP;clear h
 go_enter func232,ntmps232
 go_wp2_with fail
 refine cI.mono ?_;rintro e w2 ⟨rfl,hb2⟩;have cT2:=cT w2 hb2;clear cT
 go_wp2_with fail
 refine cT2.mono ?_;rintro e w3 ⟨rfl,ha3⟩;go_wp2
 go_end0
 exact⟨rfl,(After.of_below HS.out hb2).trans ha3⟩
set_option maxHeartbeats 1000000 in
set_option maxRecDepth 100000 in
theorem Zbej (p:Nat) (v:Value) (ws:List Zcj) (s:PS) (key:ByteArray) (w:World) (h:RS w p v ws s):
  Calls prog 234 #[.pointer (some ⟨p,0,none⟩),.string key] w λe w'=>e = .returned (.tuple #[])/\After w w' p v ws (Zyk ws key s):=by
 have cI:=Zbeg p v ws s key w h.st;have cT:=λw' (hb:Below w.heap.size w w')=>Zbrb p v ws s (Zts ws key s) w' (h.st.below hb) (λh=>Zyq h)
 have HS:=hid h.st;unfold Zyk;clear h
 go_enter func234,ntmps234
 go_wp2_with fail
 refine cI.mono ?_;rintro e w2 ⟨rfl,hb2⟩;have cT2:=cT w2 hb2;clear cT
 go_wp2_with fail
 refine cT2.mono ?_;rintro e w3 ⟨rfl,ha3⟩;go_wp2
 go_end0
 exact⟨rfl,(After.of_below HS.out hb2).trans ha3⟩
set_option maxHeartbeats 1000000 in
set_option maxRecDepth 100000 in
theorem Zbek (p:Nat) (v:Value) (ws:List Zcj) (s:PS) (w:World) (h:RS w p v ws s):
  Calls prog 233 #[.pointer (some ⟨p,0,none⟩)] w λe w'=>e = .returned (.string (Zzr ws s).1)/\After w w' p v ws (Zzr ws s).2:=by
 have cI:=Zbeh p v ws s w h.st h.gp h.szM;have cT:=λw' (hb:Below w.heap.size w w')=>Zbrb p v ws s (Ztu ws s) w' (h.st.below hb) (λh=>Zzv h)
 have HS:=hid h.st;unfold Zzr;clear h
 go_enter func233,ntmps233
 go_wp2_with fail
 refine cI.mono ?_;rintro e w2 ⟨rfl,hb2⟩;have cT2:=cT w2 hb2;clear cT
 go_wp2_with fail
 refine cT2.mono ?_;rintro e w3 ⟨rfl,ha3⟩;go_wp2;go_ret;exact⟨rfl,(After.of_below HS.out hb2).trans ha3⟩
set_option maxHeartbeats 1000000 in
set_option maxRecDepth 100000 in
theorem Zbes (p:Nat) (v:Value) (ws:List Zcj) (s:PS) (w:World) (h:RS w p v ws s):
  Calls prog 286 #[.pointer (some ⟨p,0,none⟩)] w λe w'=>e = .returned (.string (Zbrk ws s).1)/\After w w' p v ws (Zbrk ws s).2:=by
 have cW:=Zbtl p v ws s w h.st;have cT:=λw' (hb:Below w.heap.size w w')=>Zbrb p v ws s ((wAt ws s.1).1==2) w' (h.st.below hb) (λh e=>by rw[e]at h;cases h)
 have HS:=hid h.st;unfold Zbrk;unfold wVal at cW;obtain⟨kd,hkd⟩:∃kd,(wAt ws s.1).1=kd:=⟨_,rfl⟩;simp only[hkd]at cW cT;rw[hkd];have F0:=fld0;clear h hkd
 go_enter func286,ntmps286
 go_wp2_with fail
 refine cW.mono ?_;rintro e w2 ⟨rfl,hb2⟩;have cT2:=cT w2 hb2;clear cT
 go_wp2_with fail
 refine cT2.mono ?_;rintro e w3 ⟨rfl,ha3⟩;go_wp2;go_ret;exact⟨rfl,(After.of_below HS.out hb2).trans ha3⟩
set_option maxHeartbeats 1000000 in
set_option maxRecDepth 100000 in
theorem Zbem (p:Nat) (v:Value) (ws:List Zcj) (s:PS) (w:World) (h:RS w p v ws s):
  Calls prog 287 #[.pointer (some ⟨p,0,none⟩)] w λe w'=>e = .returned (.int .i64 (Zbbz ws s).1)/\After w w' p v ws (Zbbz ws s).2:=by
 have cW:=λw' (hb:Below w.heap.size w w')=>Zbtl p v ws s w' (h.st.below hb)
 have cG:=λw' (hb:Below w.heap.size w w')=>Zqm (wTx ws s.1) 2000 (by have:=h.sz _ h.st.lt;omega) w' (h.below hb).gp.glob
 have cT:=λw' (hb:Below w.heap.size w w')=>Zbrb p v ws s ((numP ws s).2&&(wAt ws s.1).1==1) w' (h.st.below hb) (λh e=>by rw[e]at h;simp at h)
 have HS:=hid h.st;unfold Zbbz;unfold wVal at cW
 change ∀w',Below w.heap.size w w'->Calls prog 175 #[.string (wTx ws s.1),.int .i64 2000] w' λe w''=>e = .returned (.tuple #[.int .i64 (numP ws s).1,.bool (numP ws s).2])/\Below w'.heap.size w' w'' at cG
 obtain⟨kd,hkd⟩:∃kd,(wAt ws s.1).1=kd:=⟨_,rfl⟩;obtain⟨n,hn⟩:∃n,numP ws s=n:=⟨_,rfl⟩;obtain⟨n,ok⟩:=n;simp only[hkd,hn]at cW cT cG;rw[hkd,hn];have CW:=hid cW;have CG:=hid cG;have CT:=hid cT;have F0:=fld0;have F2:=fld2;clear h hkd hn cW cG cT
 cases ok
 ·have CT':Hid (∀w',Below w.heap.size w w'->Calls prog 266 #[.pointer (some ⟨p,0,none⟩),.bool false] w' λe w''=>e = .returned (.string (Zbqz ws false s).1)/\After w' w'' p v ws (Zbqz ws false s).2):=CT.out
  go_enter func287,ntmps287
  go_wp2_with fail
  refine(CW.out _ (Below.refl _ _)).mono ?_;rintro e w2 ⟨rfl,hb2⟩;have HB2:=hid hb2;clear hb2
  go_wp2_with fail
  refine(CG.out _ HB2.out).mono ?_;rintro e w3 ⟨rfl,hb3⟩;have HB3:=hid (HB2.out.trans (hb3.mono HB2.out.size));clear hb3
  go_wp2_with fail
  refine(CT'.out _ HB3.out).mono ?_;rintro e w4 ⟨rfl,ha4⟩;go_wp2;go_ret;exact⟨rfl,(After.of_below HS.out HB3.out).trans ha4⟩
 ·have CT':Hid (∀w',Below w.heap.size w w'->Calls prog 266 #[.pointer (some ⟨p,0,none⟩),.bool (kd==1)] w' λe w''=>e = .returned (.string (Zbqz ws (kd==1) s).1)/\After w' w'' p v ws (Zbqz ws (kd==1) s).2):=by
   have:=CT.out;simp only[Bool.true_and]at this;exact this
  go_enter func287,ntmps287
  go_wp2_with fail
  refine(CW.out _ (Below.refl _ _)).mono ?_;rintro e w2 ⟨rfl,hb2⟩;have HB2:=hid hb2;clear hb2
  go_wp2_with fail
  refine(CG.out _ HB2.out).mono ?_;rintro e w3 ⟨rfl,hb3⟩;have HB3:=hid (HB2.out.trans (hb3.mono HB2.out.size));clear hb3
  go_wp2_with fail
  refine(CW.out _ HB3.out).mono ?_;rintro e w4 ⟨rfl,hb4⟩;have HB4:=hid (HB3.out.trans (hb4.mono HB3.out.size));clear hb4
  go_wp2_with fail
  refine(CT'.out _ HB4.out).mono ?_;rintro e w5 ⟨rfl,ha5⟩;go_wp2;go_ret;exact⟨rfl,by simpa using(After.of_below HS.out HB4.out).trans ha5⟩
set_option maxHeartbeats 1000000 in
set_option maxRecDepth 100000 in
theorem Zben (p:Nat) (v:Value) (ws:List Zcj) (s:PS) (w:World) (h:RS w p v ws s):
  Calls prog 284 #[.pointer (some ⟨p,0,none⟩)] w λe w'=>e = .returned (.int .i64 (opP ws s).1)/\After w w' p v ws (opP ws s).2:=by
 have cW:=λw' (hb:Below w.heap.size w w')=>Zbtl p v ws s w' (h.st.below hb)
 have cG:=λw' (hb:Below w.heap.size w w')=>Zbcs (wTx ws s.1) p w' (h.below hb).gp
 have cT:=λw' (hb:Below w.heap.size w w')=>Zbrb p v ws s (decide (Zbcq (wTx ws s.1).data.toList≠0)&&(wAt ws s.1).1==1) w' (h.st.below hb) (λh e=>by rw[e]at h;simp at h)
 have HS:=hid h.st;unfold opP;unfold wVal at cW;obtain⟨kd,hkd⟩:∃kd,(wAt ws s.1).1=kd:=⟨_,rfl⟩;obtain⟨n,hn⟩:∃n,Zbcq (wTx ws s.1).data.toList=n:=⟨_,rfl⟩;simp only[hkd,hn]at cW cT cG;rw[hkd,hn];have CW:=hid cW;have CG:=hid cG;have CT:=hid cT;have F0:=fld0;have F2:=fld2;clear h hkd hn cW cG cT
 by_cases h0:n=0
 ·subst h0
  have CT':Hid (∀w',Below w.heap.size w w'->Calls prog 266 #[.pointer (some ⟨p,0,none⟩),.bool false] w' λe w''=>e = .returned (.string (Zbqz ws false s).1)/\After w' w'' p v ws (Zbqz ws false s).2):=CT.out
  go_enter func284,ntmps284
  go_wp2_with fail
  refine(CW.out _ (Below.refl _ _)).mono ?_;rintro e w2 ⟨rfl,hb2⟩;have HB2:=hid hb2;clear hb2
  go_wp2_with fail
  refine(CG.out _ HB2.out).mono ?_;rintro e w3 ⟨rfl,rfl⟩
  go_wp2_with fail
  refine(CT'.out _ HB2.out).mono ?_;rintro e w4 ⟨rfl,ha4⟩;go_wp2;go_ret;exact⟨rfl,(After.of_below HS.out HB2.out).trans ha4⟩
 ·have hn0:((n:Int) != 0)=true:=by simpa using h0
  have hn1:¬((n:Int)=0):=by omega
  have CT':Hid (∀w',Below w.heap.size w w'->Calls prog 266 #[.pointer (some ⟨p,0,none⟩),.bool (kd==1)] w' λe w''=>e = .returned (.string (Zbqz ws (kd==1) s).1)/\After w' w'' p v ws (Zbqz ws (kd==1) s).2):=by
   have:=CT.out;rw[show(decide (n≠0)&&kd==1)=(kd==1) by simp[h0]]at this;exact this
  have HD:=hid (show(decide (n≠0)&&kd==1)=(kd==1) by simp[h0]);clear h0
  go_enter func284,ntmps284
  go_wp2_with fail
  refine(CW.out _ (Below.refl _ _)).mono ?_;rintro e w2 ⟨rfl,hb2⟩;have HB2:=hid hb2;clear hb2
  go_wp2_with fail
  refine(CG.out _ HB2.out).mono ?_;rintro e w3 ⟨rfl,rfl⟩
  go_wp2_with fail
  refine(CW.out _ HB2.out).mono ?_;rintro e w4 ⟨rfl,hb4⟩;have HB4:=hid (HB2.out.trans (hb4.mono HB2.out.size));clear hb4
  go_wp2_with fail
  refine(CT'.out _ HB4.out).mono ?_;rintro e w5 ⟨rfl,ha5⟩;go_wp2;go_ret;exact⟨rfl,by rw[HD.out];exact(After.of_below HS.out HB4.out).trans ha5⟩
theorem Fr.grownBy {p:Nat} {w w':World} (h:Fr (λb=>b=p) w w'):w.grownBy w' (some p):=⟨h.os,h.tape,h.output,h.size,λk hk hn=>h.block k hk λe=>hn (by rw[e])⟩
theorem Zbdm {w w':World} {B p e size n:Nat} {v:Value} {xs:List Value} (h:w.ownsRow B e size v n xs) (hf:Fr (λb=>b=p) w w') (hp:p<B):w'.ownsRow B e size v n xs:=
 h.kept (row:=some p) hf.grownBy (by
  cases hv:v.ownBlock with
  | none=>exact .inl rfl
  | some k=>exact .inr (by intro e;injection e with e;have:=(h.lt k hv).1;omega))
theorem After.grown {w w1 w2:World} {p:Nat} {v:Value} {ws:List Zcj} {s0 s:PS} {r:Option Nat} (h0:PSt w p v ws s0) (h:After w w1 p v ws s) (hg:w1.grownBy w2 r) (hr:∀k,r=some k->w.heap.size<=k):After w w2 p v ws s:=by
 refine⟨h.1.fr (Av:=λb=>some b=r) (Zpx hg λk e=>e.symm) (λe=>?_) (λb hb e=>?_),?_⟩
 ·have:=hr p e.symm;have:=h0.p_lt;omega
 ·have:=hr b e.symm;have:=(h0.row.2 b hb).1;omega
 ·refine⟨hg.os.trans h.2.os,hg.tape.trans h.2.tape,hg.output.trans h.2.output,Nat.le_trans h.2.size hg.size,λk hk hn=>?_⟩
  rw[hg.block k (Nat.lt_of_lt_of_le hk h.2.size) (λe=>by have:=hr k e.symm;omega)];exact h.2.block k hk hn
theorem After.alloc {w w1:World} {p:Nat} {v:Value} {ws:List Zcj} {s:PS} (h:After w w1 p v ws s) (o:Obj):After w (w1.alloc o) p v ws s:=⟨h.1.alloc o,h.2.trans (Zpu _ _ _)⟩
theorem After.drew {w w1:World} {p:Nat} {v:Value} {ws:List Zcj} {s:PS} (h:After w w1 p v ws s):After w w1.drew p v ws s:=⟨h.1.below (Below.refl _ _).drew,h.2.trans (Zpw _ _)⟩
theorem After.refl {w:World} {p:Nat} {v:Value} {ws:List Zcj} {s:PS} (h:PSt w p v ws s):After w w p v ws s:=⟨h,Fr.refl _ _⟩
def Zbfk (w:World) (p:Nat):Nat:=(intOf ((w.cell? ⟨p,1,none⟩).getD (.int .i64 0))).toNat
theorem PSt.pos {w:World} {p:Nat} {v:Value} {ws:List Zcj} {s:PS} (h:PSt w p v ws s):Zbfk w p=s.1:=by
 unfold Zbfk;rw[h.cells.2.1];simp[intOf]
theorem Zbaa {ws:List Zcj} {f:Nat} {acc:List ByteArray} {s:PS} (h0:s.2=false) (h1:Ztu ws s=true):Zzz ws (f+1) acc s=Zzz ws f (acc ++ [(Zzr ws s).1]) (Zzr ws s).2:=by
 simp[Zzz,h0,h1]
theorem Zbab {ws:List Zcj} {f:Nat} {acc:List ByteArray} {s:PS} (h:s.2=true∨Ztu ws s=false):Zzz ws (f+1) acc s=(acc,s):=by
 rcases h with h|h<;>simp[Zzz,h]
theorem Zzu {ws:List Zcj} {s:PS} (h0:s.2=false) (h1:Ztu ws s=true):(Zzr ws s).2.1=s.1+1:=by
 unfold Zzr;rw[Zbrg h0 h1]
set_option maxHeartbeats 2000000 in
set_option maxRecDepth 100000 in
theorem Zbel (p:Nat) (v:Value) (ws:List Zcj) (s:PS) (w:World) (h:RS w p v ws s):
  Calls prog 285 #[.pointer (some ⟨p,0,none⟩)] w λe w'=>∃vv,e = .returned vv/\StrsA (λb=>b<w.heap.size) w' vv (Zbae ws s).1/\After w w' p v ws (Zbae ws s).2:=by
 obtain⟨i0,hi,hz0,hz1,hz2⟩:=Zsv Zsy;obtain⟨R,hR⟩:∃R,Zbae ws s=R:=⟨_,rfl⟩;have H:=hid h;have HR:=hid hR;rw[hR];have hfew:=h.few;have hpl:=h.st.p_lt;clear hR h
 go_enter func285,ntmps285
 go_wp2
 go_loopw [3] (λvv wr=>∃(f:Nat) (acc:List ByteArray) (s':PS),ws.length-s'.1<f/\Zzz ws f acc s'=R/\acc.length<=s'.1/\wr.ownsRow w.heap.size 9 1 vv acc.length (acc.map Value.string)/\After w wr p v ws s')
  (λ_ wr=>ws.length-Zbfk wr p)
 case atStart=>exact⟨ws.length+1,[],s,by omega,HR.out,by simp,⟨rfl,.inl ⟨rfl,rfl⟩⟩,After.refl H.out.st⟩
 case round=>
  obtain⟨f,acc,s',hf,hj,hal,hown,ha⟩:=hrel;obtain⟨f,rfl⟩:∃g,f=g+1:=⟨f-1,by omega⟩;have HA:=hid ha;have HJ:=hid hj;have HO:=hid hown;have hlt:=ha.1.lt;have hrs:=H.out.after ha;obtain⟨c0,c1,c2,f0,f1,f2⟩:=ha.1.cells;have cI:=Zbeh p v ws s' wr hrs.st hrs.gp hrs.szM;have cN:=λw' (hb:Below wr.heap.size wr w')=>Zbek p v ws s' w' (hrs.below hb)
  have CN:=hid cN;have hsz:=ha.2.size;obtain⟨k,fl⟩:=s';clear ha hj hown hrs cN c0 f0
  cases fl
  ·obtain⟨q,hq⟩:∃q,Ztu ws (k,false)=q:=⟨_,rfl⟩
   rw[hq]at cI;have HQ:=hid hq;clear hq
   cases q
   ·have hres:=HJ.out
    rw[Zbab (.inr HQ.out)]at hres;have HRES:=hid hres;clear hres
    go_wp2_with fail
    refine cI.mono ?_;rintro e w2 ⟨rfl,hb2⟩;go_wp2;go_ret;have:=HA.out.trans (After.of_below HA.out.1 hb2);exact⟨_,rfl,by rw[<-HRES.out];exact Zbqf (Zbdm HO.out (p:=p) (Zpv hb2) hpl),by rw[<-HRES.out];exact this⟩
   ·have hres:=HJ.out
    rw[Zbaa rfl HQ.out]at hres;have hadv:=Zzu (ws:=ws) (s:=(k,false)) rfl HQ.out;have HRES:=hid hres;have HADV:=hid hadv;clear hres hadv
    go_wp2_with fail
    refine cI.mono ?_;rintro e w2 ⟨rfl,hb2⟩;have cN2:=CN.out w2 hb2;have HB2:=hid hb2;clear hb2 cI
    go_wp2_with fail
    refine cN2.mono ?_;rintro e w3 ⟨rfl,ha3⟩;have hA3:=(HA.out.trans (After.of_below HA.out.1 HB2.out)).trans ha3;have HO3:=hid (Zbdm (Zbdm HO.out (Zpv HB2.out) hpl) ha3.2 hpl);have HA3:=hid hA3;have hs3:=hA3.2.size;clear ha3 hA3 cN2
    go_wp2_with (at_builtin;refine wpList_append_own _ rfl _ _ 29 rfl w.heap.size 9 i0 (.string ByteArray.empty) 1 16 underlying29 hi hz0 hz1 hz2 rfl (by decide) _ _ _ rfl (HO3.out.alloc _) ⟨w3.heap.size,0,none⟩ 1 1 [.string (Zzr ws (k,false)).1] rfl rfl ?c1 ?c2 ?c3 ?c4 ?c5 ?_)
    case c1=>
     intro j u hj
     match j,hj with
     | 0,hj=>simp at hj;subst hj;simp[Addr.add]
    case c2=>intro u hu;simp at hu;subst hu;rfl
    case c3=>unfold maxLen;have h1:k<ws.length:=hlt;have h2:acc.length<=k:=hal;omega
    case c4=>have h1:k<ws.length:=hlt;have h2:acc.length<=k:=hal;omega
    case c5=>simp;omega
    intro v' w4 hown' hgrow _;have hA4:=(HA3.out.alloc (.cells #[.string (Zzr ws (k,false)).1] 9)).grown H.out.st hgrow (λb hb=>(HO3.out.lt b hb).1);have HO4:Hid (w4.ownsRow w.heap.size 9 1 v' (acc ++ [(Zzr ws (k,false)).1]).length ((acc ++ [(Zzr ws (k,false)).1]).map Value.string)):=by
     show w4.ownsRow _ _ _ _ _ _;rw[List.length_append,List.map_append];simpa using hown'
    have HA4:=hid hA4;clear hgrow hown' hA4;go_wp2;go_roundw
    case rel=>exact⟨f,acc ++ [(Zzr ws (k,false)).1],(Zzr ws (k,false)).2,by have h0:_=k+1:=HADV.out;have h1:k<ws.length:=hlt;have h2:ws.length-k<f+1:=hf;omega,HRES.out,by have h0:_=k+1:=HADV.out;have h2:acc.length<=k:=hal;rw[List.length_append];simp only[List.length_cons,List.length_nil];omega,HO4.out,HA4.out⟩
    case measure=>rw[HA4.out.1.pos,HA.out.1.pos,HADV.out];have h1:k<ws.length:=hlt;show ws.length-(k+1)<ws.length-k;omega
  ·have hres:=HJ.out
   rw[Zbab (.inl rfl)]at hres;have HRES:=hid hres;clear hres cI;go_wp2;go_ret;exact⟨_,rfl,by rw[<-HRES.out];exact Zbqf HO.out,by rw[<-HRES.out];exact HA.out⟩
theorem Zzk {ws:List Zcj} {f:Nat} {acc:List ByteArray} {s:PS} (h0:s.2=false) (h1:Zts ws Zhc s=true):Zzj ws (f+1) acc s=Zzj ws f (acc ++ [(Zzr ws (Zyk ws Zhc s)).1]) (Zzr ws (Zyk ws Zhc s)).2:=by
 simp[Zzj,h0,h1]
theorem Zzl {ws:List Zcj} {f:Nat} {acc:List ByteArray} {s:PS} (h:s.2=true∨Zts ws Zhc s=false):Zzj ws (f+1) acc s=(acc,s):=by
 rcases h with h|h<;>simp[Zzj,h]
theorem Zyp {ws:List Zcj} {c:ByteArray} {s:PS} (h0:s.2=false) (h1:Zts ws c s=true):(Zyk ws c s).1=s.1+1:=by
 unfold Zyk;rw[Zbrg h0 h1]
theorem Zzt (ws:List Zcj) (s:PS):s.1<=(Zzr ws s).2.1:=Zbrd ws _ s
theorem Zyo (ws:List Zcj) (c:ByteArray) (s:PS):s.1<=(Zyk ws c s).1:=Zbrd ws _ s
theorem Zwp (ws:List Zcj) (c:ByteArray) (s:PS):s.1<=(keyP ws c s).1:=Zbrd ws _ s
set_option maxHeartbeats 2000000 in
set_option maxRecDepth 100000 in
theorem Zbed (p:Nat) (v:Value) (ws:List Zcj) (s:PS) (key:ByteArray) (w:World) (h:RS w p v ws s):
  Calls prog 236 #[.pointer (some ⟨p,0,none⟩),.string key] w λe w'=>∃vv,e = .returned vv/\StrsA (λb=>b<w.heap.size) w' vv (Zjb ws key s).1/\After w w' p v ws (Zjb ws key s).2:=by
 obtain⟨i0,hi,hz0,hz1,hz2⟩:=Zsv Zsy;have H:=hid h;have hfew:=h.few;have hpl:=h.st.p_lt;have cK:=Zbei p v ws s key w h;have C2:Hid (∀w',After w w' p v ws (keyP ws key s)->Calls prog 233 #[.pointer (some ⟨p,0,none⟩)] w' λe w''=>e = .returned (.string (Zzr ws (keyP ws key s)).1)/\After w' w'' p v ws (Zzr ws (keyP ws key s)).2):=
  λw' ha=>Zbek p v ws _ w' (h.after ha)
 obtain⟨s1,hs1⟩:∃s1,keyP ws key s=s1:=⟨_,rfl⟩;rw[hs1]at cK C2;obtain⟨x,hx⟩:∃x,Zzr ws s1=x:=⟨_,rfl⟩;rw[hx]at C2;obtain⟨R,hR⟩:∃R,Zzm ws x.1 x.2=R:=⟨_,rfl⟩;have HR:=hid hR;have hres:Zjb ws key s=(R.1,Zyk ws Zhl R.2):=by rw[<-hR,<-hx,<-hs1];rfl
 rw[hres];clear hR h hx hs1 hres;obtain⟨x,s2⟩:=x;simp only at C2 HR
 go_enter func236,ntmps236
 go_wp2_with fail
 refine cK.mono ?_;rintro e w2 ⟨rfl,ha2⟩;have cN2:=C2.out w2 ha2;have HA2:=hid ha2;clear ha2 cK
 go_wp2_with fail
 refine cN2.mono ?_;rintro e w3 ⟨rfl,ha3⟩;have ha4:=(HA2.out.trans ha3).alloc (.cells #[.string x] 9);have hs3:=(HA2.out.trans ha3).2.size;have hown0:=World.ownsRow_lit (base:=w.heap.size) (e:=9) (size:=1) w3 #[.string x] 1 hs3 (by unfold maxLen;omega) rfl;have HA4:=hid ha4;have HO0:=hid hown0;clear ha3 ha4 hown0 cN2;go_wp2
 go_loopw [5] (λvv wr=>∃(f:Nat) (acc:List ByteArray) (s':PS),ws.length-s'.1<f/\Zzj ws f acc s'=R/\acc.length<=s'.1+1/\wr.ownsRow w.heap.size 9 1 vv acc.length (acc.map Value.string)/\After w wr p v ws s')
  (λ_ wr=>ws.length-Zbfk wr p)
 case atStart=>exact⟨ws.length+1,[x],s2,by omega,HR.out,by simp,HO0.out,HA4.out⟩
 case round=>
  obtain⟨f,acc,s',hf,hj,hal,hown,ha⟩:=hrel;obtain⟨f,rfl⟩:∃g,f=g+1:=⟨f-1,by omega⟩;have HA:=hid ha;have HJ:=hid hj;have HO:=hid hown;have hlt:=ha.1.lt;have hrs:=H.out.after ha;obtain⟨c0,c1,c2,f0,f1,f2⟩:=ha.1.cells;have cI:=Zbeg p v ws s' Zhc wr hrs.st;have CMK:Hid (∀w',Below wr.heap.size wr w'->Calls prog 234 #[.pointer (some ⟨p,0,none⟩),.string Zhc] w' λe w''=>e = .returned (.tuple #[])/\After w' w'' p v ws (Zyk ws Zhc s')):=
   λw' hb=>Zbej p v ws s' Zhc w' (hrs.below hb)
  have CN:Hid (∀w',After wr w' p v ws (Zyk ws Zhc s')->Calls prog 233 #[.pointer (some ⟨p,0,none⟩)] w' λe w''=>e = .returned (.string (Zzr ws (Zyk ws Zhc s')).1)/\After w' w'' p v ws (Zzr ws (Zyk ws Zhc s')).2):=
   λw' ha=>Zbek p v ws _ w' (hrs.after ha)
  have CSE:Hid (∀w',After wr w' p v ws s'->Calls prog 234 #[.pointer (some ⟨p,0,none⟩),.string Zhl] w' λe w''=>e = .returned (.tuple #[])/\After w' w'' p v ws (Zyk ws Zhl s')):=
   λw' ha=>Zbej p v ws s' Zhl w' (hrs.after ha)
  have hsz:=ha.2.size;obtain⟨k,fl⟩:=s';clear ha hj hown hrs c0 f0
  cases fl
  ·obtain⟨q,hq⟩:∃q,Zts ws Zhc (k,false)=q:=⟨_,rfl⟩
   rw[hq]at cI;have HQ:=hid hq;clear hq
   cases q
   ·have hres:=HJ.out
    rw[Zzl (.inr HQ.out)]at hres;subst hres
    go_wp2_with fail
    refine cI.mono ?_;rintro e w5 ⟨rfl,hb5⟩;have ha5:=After.of_below HA.out.1 hb5;have cS:=CSE.out _ ha5;have HA5:=hid ha5;have HO5:=hid (Zbdm HO.out (p:=p) (Zpv hb5) hpl);clear ha5 hb5 cI
    go_wp2_with fail
    refine cS.mono ?_;rintro e w6 ⟨rfl,ha6⟩;go_wp2;go_ret;exact⟨_,rfl,Zbqf (Zbdm HO5.out ha6.2 hpl),(HA.out.trans HA5.out).trans ha6⟩
   ·have hres:=HJ.out
    rw[Zzk rfl HQ.out]at hres;have hadv:=Zyp (ws:=ws) (s:=(k,false)) rfl HQ.out;obtain⟨s5,hs5⟩:∃s5,Zyk ws Zhc (k,false)=s5:=⟨_,rfl⟩;have hge:=Zzt ws s5;rw[hs5]at hres hadv CMK CN;obtain⟨y,hy⟩:∃y,Zzr ws s5=y:=⟨_,rfl⟩;rw[hy]at hres CN hge;obtain⟨y,s6⟩:=y;have HRES:=hid hres;have hadv2:k+1<=s6.1:=by have h1:s5.1=k+1:=hadv;have h2:s5.1<=s6.1:=hge;omega
    clear hres hadv hge hs5 hy;simp only at CN HRES
    go_wp2_with fail
    refine cI.mono ?_;rintro e w5 ⟨rfl,hb5⟩;have cM:=CMK.out _ hb5;have HA5:=hid (After.of_below HA.out.1 hb5);have HO5:=hid (Zbdm HO.out (p:=p) (Zpv hb5) hpl);clear hb5 cI
    go_wp2_with fail
    refine cM.mono ?_;rintro e w6 ⟨rfl,ha6⟩;have cN:=CN.out _ (HA5.out.trans ha6);have HA6:=hid (HA5.out.trans ha6);have HO6:=hid (Zbdm HO5.out ha6.2 hpl);clear ha6 cM
    go_wp2_with fail
    refine cN.mono ?_;rintro e w7 ⟨rfl,ha7⟩;have hA7:=(HA.out.trans HA6.out).trans ha7;have HO7:=hid (Zbdm HO6.out ha7.2 hpl);have HA7:=hid hA7;have hs7:=hA7.2.size;clear ha7 hA7 cN
    go_wp2_with (at_builtin;refine wpList_append_own _ rfl _ _ 29 rfl w.heap.size 9 i0 (.string ByteArray.empty) 1 16 underlying29 hi hz0 hz1 hz2 rfl (by decide) _ _ _ rfl (HO7.out.alloc _) ⟨w7.heap.size,0,none⟩ 1 1 [.string y] rfl rfl ?c1 ?c2 ?c3 ?c4 ?c5 ?_)
    case c1=>
     intro j u hj
     match j,hj with
     | 0,hj=>simp at hj;subst hj;simp[Addr.add]
    case c2=>intro u hu;simp at hu;subst hu;rfl
    case c3=>unfold maxLen;have h1:k<ws.length:=hlt;have h2:acc.length<=k+1:=hal;omega
    case c4=>have h1:k<ws.length:=hlt;have h2:acc.length<=k+1:=hal;omega
    case c5=>simp;omega
    intro v' w8 hown' hgrow _;have hA8:=(HA7.out.alloc (.cells #[.string y] 9)).grown H.out.st hgrow (λb hb=>(HO7.out.lt b hb).1);have HO8:Hid (w8.ownsRow w.heap.size 9 1 v' (acc ++ [y]).length ((acc ++ [y]).map Value.string)):=by
     show w8.ownsRow _ _ _ _ _ _;rw[List.length_append,List.map_append];simpa using hown'
    have HA8:=hid hA8;clear hgrow hown' hA8;go_wp2;go_roundw
    case rel=>exact⟨f,acc ++ [y],s6,by have h1:k<ws.length:=hlt;have h2:ws.length-k<f+1:=hf;omega,HRES.out,by have h2:acc.length<=k+1:=hal;rw[List.length_append];simp only[List.length_cons,List.length_nil];omega,HO8.out,HA8.out⟩
    case measure=>rw[HA8.out.1.pos,HA.out.1.pos];have h1:k<ws.length:=hlt;show ws.length-s6.1<ws.length-k;omega
  ·have hres:=HJ.out
   rw[Zzl (.inl rfl)]at hres;subst hres;have cS:=CSE.out _ (After.refl HA.out.1);clear cI
   go_wp2_with fail
   refine cS.mono ?_;rintro e w6 ⟨rfl,ha6⟩;go_wp2;go_ret;exact⟨_,rfl,Zbqf (Zbdm HO.out ha6.2 hpl),HA.out.trans ha6⟩
end Go.Proofs.YtcpjfpdecklkgaaGreatDoor
