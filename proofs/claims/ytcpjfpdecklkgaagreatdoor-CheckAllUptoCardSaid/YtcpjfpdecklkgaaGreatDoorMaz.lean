import Derived.Test.YtcpjfpdecklkgaaGreatDoorMay
import Derived.Deep.RegionHeld3
namespace Go.Proofs.YtcpjfpdecklkgaaGreatDoor
open Go.Lib (hid)
open Go.Proofs.Tryz
open Go.RowKit Go.Shelf
def IdxPost (n:Nat) (p:Nat->Bool) (J:Nat->World->Prop) (e:Ending) (w':World):Prop:=∃k,k<=n/\(∀j,j<k->p j=false)/\((k=n/\e = .returned (.int .i64 (-1))/\J n w')∨(k<n/\p k=true/\e = .returned (.int .i64 (k:Int))/\J (k+1) w'))
def ConPost (n:Nat) (p:Nat->Bool) (J:Nat->World->Prop) (e:Ending) (w':World):Prop:=∃k,k<=n/\(∀j,j<k->p j=false)/\((k=n/\e = .returned (.bool false)/\J n w')∨(k<n/\p k=true/\e = .returned (.bool true)/\J (k+1) w'))
theorem IdxPost.con {n:Nat} {p:Nat->Bool} {J:Nat->World->Prop} {e:Ending} {w':World} (h:IdxPost n p J e w'):∃i:Int,e = .returned (.int .i64 i)/\ConPost n p J (.returned (.bool (decide (0<=i)))) w':=by
 obtain⟨k,h1,h2,⟨rfl,rfl,h3⟩|⟨h4,h5,rfl,h6⟩⟩:=h
 ·exact⟨-1,rfl,k,h1,h2,.inl ⟨rfl,rfl,h3⟩⟩
 ·exact⟨k,rfl,k,h1,h2,.inr ⟨h4,h5,by rw[decide_eq_true (Int.natCast_nonneg k)],h6⟩⟩
theorem ConPost.any {n:Nat} {p:Nat->Bool} {J:Nat->World->Prop} {e:Ending} {w':World} (h:ConPost n p J e w'):e = .returned (.bool ((List.range n).any p))/\((∃k,k<=n/\J k w')):=by
 obtain⟨k,h1,h2,⟨rfl,rfl,h3⟩|⟨h4,h5,rfl,h6⟩⟩:=h
 ·refine⟨?_,k,Nat.le_refl _,h3⟩
  rw[show(List.range k).any p=false by rw[List.any_eq_false];intro x hx;rw[h2 x (List.mem_range.1 hx)];decide]
 ·refine⟨?_,k+1,h4,h6⟩
  rw[show(List.range n).any p=true by rw[List.any_eq_true];exact⟨k,List.mem_range.2 h4,h5⟩]
set_option maxHeartbeats 4000000
set_option maxRecDepth 100000
section
theorem Zsi (fid:Nat) (caps:Array Value) (eg:∀args w,(callFunc fid args).run prog w = .ok (.enter fid args) w) (a:Option Addr) (n c:Nat) (hn:n<=maxLen) (x:Nat->ByteArray) (p:Nat->Bool) (J:Nat->World->Prop) (w:World)
  (hc:∀k W,k<n->J k W->∃b o,a=some ⟨b,o,none⟩/\W.cell? ⟨b,o+k,none⟩=some (.string (x k))) (hf:∀k W,k<n->(∀j,j<k->p j=false)->J k W->Calls prog fid (#[.string (x k)]++caps) W λe W'=>e = .returned (.bool (p k))/\J (k+1) W') (h0:J 0 w):
  Calls prog 146 #[.slice a n c,.func (.func fid) #[] caps] w (IdxPost n p J):=by
 have HC:=hid hc;have HF:=hid hf;have H0:=hid h0;unfold maxLen at hn;clear hc hf h0
 go_enter func146,ntmps146
 go_wp2
 go_loopw [5,8] (λ_ iv wr=>∃k:Nat,k<=n/\iv = .int .i64 (k:Int)/\(∀j,j<k->p j=false)/\J k wr) (λ_ iv _=>n-(intOf iv).toNat)
 case atStart=>exact⟨0,Nat.zero_le _,rfl,λj hj=>absurd hj (Nat.not_lt_zero _),H0.out⟩
 case round=>
  obtain⟨k,hk,rfl,hno,hJ⟩:=hrel;have HNO:=hid hno;have HJ:=hid hJ
  by_cases hlt:k<n
  ·obtain⟨b,o,ea,e0⟩:=HC.out k wr hlt hJ
   subst ea;have cF:=HF.out k wr hlt hno hJ;have hi1:(k:Int)<(n:Int):=by omega
   have hi0:(0:Int)<=(k:Int):=by omega
   cases hq:p k with
   | true=>
    rw[hq]at cF;have HQ:=hid hq;have CF:=hid cF;clear hno hJ cF hq
    go_wp2_with (go_at_fn fid;refine CF.out.mono ?_;rintro e w' ⟨rfl,hj2⟩;have HJ2:=hid hj2;clear hj2)
    go_ret;exact⟨k,hk,HNO.out,.inr ⟨hlt,HQ.out,rfl,HJ2.out⟩⟩
   | false=>
    rw[hq]at cF;have HQ:=hid hq;have CF:=hid cF;clear hno hJ cF hq
    go_wp2_with (go_at_fn fid;refine CF.out.mono ?_;rintro e w' ⟨rfl,hj2⟩;have HJ2:=hid hj2;clear hj2)
    go_roundw
    case rel=>
     refine⟨k+1,by omega,by go_num,λj hj=>?_,HJ2.out⟩
     by_cases e:j=k
     ·subst e;exact HQ.out
     ·exact HNO.out j (by omega)
    case measure=>simp[intOf];omega
  ·have hi1:¬(k:Int)<(n:Int):=by omega
   obtain rfl:k=n:=by omega
   clear hno hJ;go_wp2;go_ret;exact⟨k,Nat.le_refl _,HNO.out,.inl ⟨rfl,rfl,HJ.out⟩⟩
theorem Zsh (fid:Nat) (caps:Array Value) (eg:∀args w,(callFunc fid args).run prog w = .ok (.enter fid args) w) (a:Option Addr) (n c:Nat) (hn:n<=maxLen) (v0 v1 v2 v3 v4:Nat->Value) (p:Nat->Bool) (J:Nat->World->Prop) (w:World)
  (hc:∀k W,k<n->J k W->∃b o,a=some ⟨b,o,none⟩/\W.cell? ⟨b,o+k*5,none⟩=some (v0 k)/\W.cell? ⟨b,o+k*5+1,none⟩=some (v1 k)/\W.cell? ⟨b,o+k*5+2,none⟩=some (v2 k)/\W.cell? ⟨b,o+k*5+3,none⟩=some (v3 k)/\W.cell? ⟨b,o+k*5+4,none⟩=some (v4 k)) (hf:∀k W,k<n->(∀j,j<k->p j=false)->J k W->Calls prog fid (#[.agg #[v0 k,v1 k,v2 k,v3 k,v4 k]]++caps) W λe W'=>e = .returned (.bool (p k))/\J (k+1) W') (h0:J 0 w):
  Calls prog 144 #[.slice a n c,.func (.func fid) #[] caps] w (IdxPost n p J):=by
 have HC:=hid hc;have HF:=hid hf;have H0:=hid h0;unfold maxLen at hn;clear hc hf h0
 go_enter func144,ntmps144
 go_wp2
 go_loopw [5,8] (λ_ iv wr=>∃k:Nat,k<=n/\iv = .int .i64 (k:Int)/\(∀j,j<k->p j=false)/\J k wr) (λ_ iv _=>n-(intOf iv).toNat)
 case atStart=>exact⟨0,Nat.zero_le _,rfl,λj hj=>absurd hj (Nat.not_lt_zero _),H0.out⟩
 case round=>
  obtain⟨k,hk,rfl,hno,hJ⟩:=hrel;have HNO:=hid hno;have HJ:=hid hJ
  by_cases hlt:k<n
  ·obtain⟨b,o,ea,e0,e1,e2,e3,e4⟩:=HC.out k wr hlt hJ
   subst ea;have cF:=HF.out k wr hlt hno hJ;have hi1:(k:Int)<(n:Int):=by omega
   have hi0:(0:Int)<=(k:Int):=by omega
   cases hq:p k with
   | true=>
    rw[hq]at cF;have HQ:=hid hq;have CF:=hid cF;clear hno hJ cF hq
    go_wp2_with (go_at_fn fid;refine CF.out.mono ?_;rintro e w' ⟨rfl,hj2⟩;have HJ2:=hid hj2;clear hj2)
    go_ret;exact⟨k,hk,HNO.out,.inr ⟨hlt,HQ.out,rfl,HJ2.out⟩⟩
   | false=>
    rw[hq]at cF;have HQ:=hid hq;have CF:=hid cF;clear hno hJ cF hq
    go_wp2_with (go_at_fn fid;refine CF.out.mono ?_;rintro e w' ⟨rfl,hj2⟩;have HJ2:=hid hj2;clear hj2)
    go_roundw
    case rel=>
     refine⟨k+1,by omega,by go_num,λj hj=>?_,HJ2.out⟩
     by_cases e:j=k
     ·subst e;exact HQ.out
     ·exact HNO.out j (by omega)
    case measure=>simp[intOf];omega
  ·have hi1:¬(k:Int)<(n:Int):=by omega
   obtain rfl:k=n:=by omega
   clear hno hJ;go_wp2;go_ret;exact⟨k,Nat.le_refl _,HNO.out,.inl ⟨rfl,rfl,HJ.out⟩⟩
theorem Zsg (fid:Nat) (caps:Array Value) (eg:∀args w,(callFunc fid args).run prog w = .ok (.enter fid args) w) (a:Option Addr) (n c:Nat) (hn:n<=maxLen) (v0 v1 v2 v3 v4:Nat->Value) (p:Nat->Bool) (J:Nat->World->Prop) (w:World)
  (hc:∀k W,k<n->J k W->∃b o,a=some ⟨b,o,none⟩/\W.cell? ⟨b,o+k*5,none⟩=some (v0 k)/\W.cell? ⟨b,o+k*5+1,none⟩=some (v1 k)/\W.cell? ⟨b,o+k*5+2,none⟩=some (v2 k)/\W.cell? ⟨b,o+k*5+3,none⟩=some (v3 k)/\W.cell? ⟨b,o+k*5+4,none⟩=some (v4 k)) (hf:∀k W,k<n->(∀j,j<k->p j=false)->J k W->Calls prog fid (#[.agg #[v0 k,v1 k,v2 k,v3 k,v4 k]]++caps) W λe W'=>e = .returned (.bool (p k))/\J (k+1) W') (h0:J 0 w):
  Calls prog 98 #[.slice a n c,.func (.func fid) #[] caps] w (IdxPost n p J):=by
 have HC:=hid hc;have HF:=hid hf;have H0:=hid h0;unfold maxLen at hn;clear hc hf h0
 go_enter func98,ntmps98
 go_wp2
 go_loopw [5,8] (λ_ iv wr=>∃k:Nat,k<=n/\iv = .int .i64 (k:Int)/\(∀j,j<k->p j=false)/\J k wr) (λ_ iv _=>n-(intOf iv).toNat)
 case atStart=>exact⟨0,Nat.zero_le _,rfl,λj hj=>absurd hj (Nat.not_lt_zero _),H0.out⟩
 case round=>
  obtain⟨k,hk,rfl,hno,hJ⟩:=hrel;have HNO:=hid hno;have HJ:=hid hJ
  by_cases hlt:k<n
  ·obtain⟨b,o,ea,e0,e1,e2,e3,e4⟩:=HC.out k wr hlt hJ
   subst ea;have cF:=HF.out k wr hlt hno hJ;have hi1:(k:Int)<(n:Int):=by omega
   have hi0:(0:Int)<=(k:Int):=by omega
   cases hq:p k with
   | true=>
    rw[hq]at cF;have HQ:=hid hq;have CF:=hid cF;clear hno hJ cF hq
    go_wp2_with (go_at_fn fid;refine CF.out.mono ?_;rintro e w' ⟨rfl,hj2⟩;have HJ2:=hid hj2;clear hj2)
    go_ret;exact⟨k,hk,HNO.out,.inr ⟨hlt,HQ.out,rfl,HJ2.out⟩⟩
   | false=>
    rw[hq]at cF;have HQ:=hid hq;have CF:=hid cF;clear hno hJ cF hq
    go_wp2_with (go_at_fn fid;refine CF.out.mono ?_;rintro e w' ⟨rfl,hj2⟩;have HJ2:=hid hj2;clear hj2)
    go_roundw
    case rel=>
     refine⟨k+1,by omega,by go_num,λj hj=>?_,HJ2.out⟩
     by_cases e:j=k
     ·subst e;exact HQ.out
     ·exact HNO.out j (by omega)
    case measure=>simp[intOf];omega
  ·have hi1:¬(k:Int)<(n:Int):=by omega
   obtain rfl:k=n:=by omega
   clear hno hJ;go_wp2;go_ret;exact⟨k,Nat.le_refl _,HNO.out,.inl ⟨rfl,rfl,HJ.out⟩⟩
theorem Zkk (fid:Nat) (caps:Array Value) (eg:∀args w,(callFunc fid args).run prog w = .ok (.enter fid args) w) (a:Option Addr) (n c:Nat) (hn:n<=maxLen) (x:Nat->ByteArray) (p:Nat->Bool) (J:Nat->World->Prop) (w:World)
  (hc:∀k W,k<n->J k W->∃b o,a=some ⟨b,o,none⟩/\W.cell? ⟨b,o+k,none⟩=some (.string (x k))) (hf:∀k W,k<n->(∀j,j<k->p j=false)->J k W->Calls prog fid (#[.string (x k)]++caps) W λe W'=>e = .returned (.bool (p k))/\J (k+1) W') (h0:J 0 w):
  Calls prog 93 #[.slice a n c,.func (.func fid) #[] caps] w (ConPost n p J):=by
 have C:=hid (Zsi fid caps eg a n c hn x p J w hc hf h0);clear hc hf h0 hn eg
 go_enter func93,ntmps93
 go_wp2_with (go_at_call 146;refine C.out.mono ?_;rintro e w' hi;obtain⟨i,rfl,hcon⟩:=hi.con;have HCON:=hid hcon;clear hcon)
 go_ret;exact HCON.out
theorem Zkj (fid:Nat) (caps:Array Value) (eg:∀args w,(callFunc fid args).run prog w = .ok (.enter fid args) w) (a:Option Addr) (n c:Nat) (hn:n<=maxLen) (v0 v1 v2 v3 v4:Nat->Value) (p:Nat->Bool) (J:Nat->World->Prop) (w:World)
  (hc:∀k W,k<n->J k W->∃b o,a=some ⟨b,o,none⟩/\W.cell? ⟨b,o+k*5,none⟩=some (v0 k)/\W.cell? ⟨b,o+k*5+1,none⟩=some (v1 k)/\W.cell? ⟨b,o+k*5+2,none⟩=some (v2 k)/\W.cell? ⟨b,o+k*5+3,none⟩=some (v3 k)/\W.cell? ⟨b,o+k*5+4,none⟩=some (v4 k)) (hf:∀k W,k<n->(∀j,j<k->p j=false)->J k W->Calls prog fid (#[.agg #[v0 k,v1 k,v2 k,v3 k,v4 k]]++caps) W λe W'=>e = .returned (.bool (p k))/\J (k+1) W') (h0:J 0 w):
  Calls prog 87 #[.slice a n c,.func (.func fid) #[] caps] w (ConPost n p J):=by
 have C:=hid (Zsh fid caps eg a n c hn v0 v1 v2 v3 v4 p J w hc hf h0);clear hc hf h0 hn eg
 go_enter func87,ntmps87
 go_wp2_with (go_at_call 144;refine C.out.mono ?_;rintro e w' hi;obtain⟨i,rfl,hcon⟩:=hi.con;have HCON:=hid hcon;clear hcon)
 go_ret;exact HCON.out
end
open Go.Maps
set_option maxHeartbeats 4000000
set_option maxRecDepth 100000
def Zae (w:World) (b:Nat) (L ks:List ByteArray) (e:Ending) (w':World):Prop:=e = .returned (.bool (decide ((addS L ks).length=L.length+ks.length)))/\SetIs w' b (addS L ks)/\w.grownBy w' (some b)/\w'.heap.size=w.heap.size
theorem Zha (b:Nat) (L:List ByteArray) (nv:Value) (ks:List ByteArray) (w:World) (hS:SetIs w b L) (hk:IsStrs w nv ks) (hkb:∀g o c,ks≠[]->nv = .slice (some ⟨g,o,none⟩) ks.length c->g≠b) (hn:L.length+ks.length<=4000000000000000) (hs:∀k∈ks,k.size<=maxLen):
  Calls prog 90 #[.map (some b),nv] w (Zae w b L ks):=by
 obtain⟨ka,kc,rfl,hkl,hkm,hkc⟩:=hk;have HK:Hid (∀(k:Nat) x,ks[k]? =some x->∃g o,ka=some ⟨g,o,none⟩/\∀w',w.grownBy w' (some b)->w'.cell? ⟨g,o+k,none⟩=some (.string x)):=by
  show ∀(k:Nat) x,_;intro k x hx;have hne:ks≠[]:=by rintro rfl;simp at hx
  obtain⟨g,o,rfl,hg,hc⟩:=hkc hne;exact⟨g,o,rfl,λw' hw=>(World.cell?_of_block (hw.block g hg (λe=>hkb g o kc hne rfl (by cases e;rfl)))).trans (hc k x hx)⟩
 have HS:=hid hs;have HS0:=hid hS;have hlen:=hS.len underlying130 3;unfold maxLen at hkm;clear hkc hs hS hkb
 go_enter func90,ntmps90
 go_wp2
 go_loopw [7,12,13,14,15,16,17,18,19] (λ_ iv _ _ _ _ _ _ _ wr=>∃k:Nat,k<=ks.length/\iv = .int .i64 (k:Int)/\SetIs wr b (addS L (ks.take k))/\w.grownBy wr (some b)/\wr.heap.size=w.heap.size) (λ_ iv _ _ _ _ _ _ _ _=>ks.length-(intOf iv).toNat)
 case atStart=>exact⟨0,Nat.zero_le _,rfl,by simpa[addS]using HS0.out,Zrh _ _,rfl⟩
 case round=>
  obtain⟨k,hk,rfl,hset,hgr,hsz⟩:=hrel;have HZ:=hid hsz;have HG:=hid hgr
  by_cases hlt:k<ks.length
  ·obtain⟨x,hx⟩:∃x,ks[k]? =some x:=⟨ks[k],List.getElem?_eq_getElem hlt⟩
   obtain⟨g,o,q1,hc1⟩:=HK.out k x hx;subst q1;have cx:=hc1 _ HG.out;have hi1:(k:Int)<(ks.length:Int):=by omega
   have hi0:(0:Int)<=(k:Int):=by omega
   have hl:=Zco (ks.take k) L;rw[List.length_take]at hl;obtain⟨w3,hput,hset3,hturn⟩:=hset.put underlying130 (by omega) x (HS.out x (List.mem_of_getElem? hx));rw[<-Zcq L hx]at hset3;have HS3:=hid hset3;have HG3:=hid (HG.out.trans hturn.grown);have HZ3:Hid (w3.heap.size=w.heap.size):=hid (by obtain⟨_,_,_,_,_,e⟩:=hturn;rw[e];show(wr.heap.setIfInBounds b _).size=_;rw[Array.size_setIfInBounds];exact HZ.out);clear hset hgr hc1 hx hl hset3 hturn hsz hlen;go_wp2;go_roundw
   case rel=>exact⟨k+1,by omega,by go_num,HS3.out,HG3.out,HZ3.out⟩
   case measure=>simp[intOf];omega
  ·have hi1:¬(k:Int)<(ks.length:Int):=by omega
   have hset':SetIs wr b (addS L ks):=by rw[List.take_of_length_le (by omega)]at hset;exact hset
   have hl:=Zco ks L;have hlen2:=hset'.len underlying130 3;have HF:=hid hset';obtain⟨m,hm⟩:∃m,(addS L ks).length=m:=⟨_,rfl⟩;rw[hm]at hlen2 hl;have HM:=hid hm;have hd2:((m:Int)==(L.length:Int)+(ks.length:Int))=decide (m=L.length+ks.length):=by rw[Bool.eq_iff_iff,beq_iff_eq,decide_eq_true_eq];omega
   have HD2:=hid hd2;clear hset hgr hsz hset' hm hlen hd2;go_wp2;go_ret;exact⟨by rw[HM.out];exact congrArg (λb=>Ending.returned (.bool b)) HD2.out,HF.out,HG.out,HZ.out⟩
theorem Zbuw (w:World):(zeroValue 174).run prog w = .ok (.agg #[]) w:=zeroValue174 w
theorem Zhg (b bn:Nat) (L:List ByteArray) (k:ByteArray) (w:World) (hB:Boxed w bn 130 (.map (some b))) (hS:SetIs w b L) (hs:k.size<=maxLen):
  Calls prog 145 #[.string k,.pointer (some ⟨bn,0,none⟩)] w λe w'=>e = .returned (.bool (!inS L k))/\Below w.heap.size w w':=by
 have hlook:=λW (h:Below w.heap.size w W)=>(hS.below h hS.lt).look underlying130 (Zbuw W) k hs
 have hbc:=λW (h:Below w.heap.size w W)=>Boxed.cell (show Boxed W bn 130 (.map (some b))from(h.block bn hB.lt).trans hB)
 obtain⟨r,hr⟩:∃r,inS L k=r:=⟨_,rfl⟩;rw[hr]at hlook⊢;have mixed:prog.follows .mixedOrders=true:=by kernel_rfl
 have l0:=hlook w (Below.refl _ _);have c0:=hbc w (Below.refl _ _);clear hr
 go_enter func145,ntmps145
 go_wp2;go_ret;exact⟨rfl,by first|exact(Below.refl _ _).alloc (Nat.le_refl _) _|exact below_drewN ((Below.refl _ _).alloc (Nat.le_refl _) _) 1⟩
theorem Zdm (xs:List ByteArray) (q:ByteArray->Bool):(List.range xs.length).any (λk=>q (xs.getD k ⟨#[]⟩))=xs.any q:=by
 rw[Bool.eq_iff_iff,List.any_eq_true,List.any_eq_true];constructor
 ·rintro⟨k,hk,h⟩
  have hk:=List.mem_range.1 hk;refine⟨xs[k],List.getElem_mem hk,?_⟩
  rwa [List.getD_eq_getElem?_getD,List.getElem?_eq_getElem hk]at h
 ·rintro⟨x,hx,h⟩
  obtain⟨k,hk,e⟩:=List.getElem_of_mem hx;refine⟨k,List.mem_range.2 hk,?_⟩
  rwa [List.getD_eq_getElem?_getD,List.getElem?_eq_getElem hk,e]
theorem getD_at {xs:List ByteArray} {k:Nat} (h:k<xs.length):xs[k]? =some (xs.getD k ⟨#[]⟩):=by
 rw[List.getD_eq_getElem?_getD,List.getElem?_eq_getElem h];rfl
theorem Zqe {xs:List ByteArray} {k:Nat} (h:k<xs.length):xs.getD k ⟨#[]⟩∈xs:=List.mem_of_getElem? (getD_at h)
theorem Zki (fid:Nat) (caps:Array Value) (eg:∀args w,(callFunc fid args).run prog w = .ok (.enter fid args) w) (v:Value) (xs:List ByteArray) (q:ByteArray->Bool) (B:Nat) (w:World) (hB:B<=w.heap.size) (hv:∀W,Below B w W->IsStrs W v xs)
  (hf:∀x∈xs,∀W,Below B w W->Calls prog fid (#[.string x]++caps) W λe W'=>e = .returned (.bool (q x))/\Below W.heap.size W W'):
  Calls prog 93 #[v,.func (.func fid) #[] caps] w λe w'=>e = .returned (.bool (xs.any q))/\Below B w w':=by
 obtain⟨a,c,rfl,h1,h2,h3⟩:=hv w (Below.refl _ _);refine(Zkk fid caps eg a xs.length c (Nat.le_trans h1 h2) (λk=>xs.getD k ⟨#[]⟩) (λk=>q (xs.getD k ⟨#[]⟩)) (λ_ W=>Below B w W) w (λk W hk hW=>?_) (λk W hk _ hW=>?_) (Below.refl _ _)).mono ?_
 ·obtain⟨a',c',e,_,_,h3⟩:=hv W hW
  cases e
  have hx:=getD_at hk;obtain⟨b,o,rfl,hb,hc⟩:=h3 (by rintro rfl;simp at hk);exact⟨b,o,rfl,hc k _ hx⟩
 ·refine(hf _ (Zqe hk) W hW).mono ?_
  rintro e W' ⟨rfl,hb⟩;exact⟨rfl,hW.trans (hb.mono (Nat.le_trans hB hW.size))⟩
 ·intro e w' h
  obtain⟨rfl,k,_,hb⟩:=h.any;exact⟨by rw[Zdm],hb⟩
theorem Zhh (b:Nat) (L:List ByteArray) (v:Value) (ks:List ByteArray) (w:World) (hS:SetIs w b L) (hk:IsStrs w v ks) (hs:∀k∈ks,k.size<=maxLen):
  Calls prog 91 #[.map (some b),v] w λe w'=>e = .returned (.bool (ks.all (inS L)))/\Below w.heap.size w w':=by
 obtain⟨W1,hW1⟩:∃W,w.alloc (.cells #[.map (some b)] 130)=W:=⟨_,rfl⟩;have hb1:Below w.heap.size w W1:=by rw[<-hW1];exact(Below.refl _ _).alloc (Nat.le_refl _) _
 have hbx:Boxed W1 w.heap.size 130 (.map (some b)):=by rw[<-hW1];exact Boxed.new w _ _
 have hlt:=hbx.lt;have hset1:=hS.below hb1 hS.lt;have cC:=Zki 145 #[.pointer (some ⟨w.heap.size,0,none⟩)] (enters_of func145 (by kernel_rfl) rfl) v ks (λx=> !inS L x) W1.heap.size W1 (Nat.le_refl _) (λW hW=>hk.below (hb1.trans (hW.mono hb1.size))) (λx hx W hW=>Zhg b w.heap.size L x W ((hW.block _ hlt).trans hbx) (hset1.below hW hset1.lt) (hs x hx));have e:(!ks.any λx=> !inS L x)=ks.all (inS L):=by rw[<-List.not_all_eq_any_not];simp
 obtain⟨r,hr⟩:∃r,(ks.any λx=> !inS L x)=r:=⟨_,rfl⟩;rw[hr]at cC e;rw[<-e];have CC:=hid cC;have HB1:=hid hb1;have HW1:=hid hW1;clear hS hk hs hb1 hbx hlt hset1 cC e hr hW1
 go_enter func91,ntmps91
 go_wp2_with (go_at_call 93;rw[HW1.out];refine CC.out.mono ?_;rintro e w2 ⟨rfl,hb2⟩)
 go_ret;exact⟨rfl,HB1.out.trans (hb2.mono HB1.out.size)⟩
theorem Zib (t:List UInt8):(capV t).2.size<=2000:=by
 unfold capV;split
 ·show t.toArray.size<=2000;rw[List.size_toArray];assumption
 ·show(0:Nat)<=2000;omega
theorem Zlv (x:StepS) (vs:List ValT):(doV x vs).2.size<=2000:=by
 unfold doV;split
 ·cases doT x (vs.map (·.2.data.toList))with
  | none=>show(0:Nat)<=2000;omega
  | some t=>exact Zib t
 ·show(0:Nat)<=2000;omega
def ShortE (e:ByteArray->ValT):Prop:=∀k,(e k).2.size<=100000000
theorem ShortE.set {e:ByteArray->ValT} (h:ShortE e) (k:ByteArray) {v:ValT} (hv:v.2.size<=100000000):ShortE (setE e k v):=λk'=>by
 unfold setE;split
 ·exact hv
 ·exact h k'
theorem ShortE.by:∀(ks:List ByteArray) (vs:List ValT) (e:ByteArray->ValT),ShortE e->(∀v∈vs,v.2.size<=100000000)->ShortE (byE ks vs e)
 | [],_,e,h,_=>by rw[byE];exact h;intros;simp_all
 | _::_,[],e,h,_=>by rw[byE];exact h;intros;simp_all
 | k::ks,v::vs,e,h,hv=>by rw[byE];exact ShortE.by ks vs _ (h.set k (hv v (by simp))) λu hu=>hv u (by simp[hu])
theorem Zbon:∀(l:List StepS) (e:ByteArray->ValT) (i:Nat) (s:StepS),l[i]? =some s->Zbom (l.take (i+1)) e=setE (Zbom (l.take i) e) s.out (doV s (s.args.map λa=>Zbbt (Zbom (l.take i) e a)))
 | [],_,_,_,h=>by simp at h
 | s0::l,e,0,s,h=>by
  obtain rfl:s0=s:=by simpa using h
  simp[Zbom]
 | s0::l,e,i+1,s,h=>by
  rw[List.take_succ_cons,List.take_succ_cons,Zbom,Zbom];exact Zbon l _ i s (by simpa using h)
theorem Zboo:∀(l:List StepS) (e:ByteArray->ValT),ShortE e->ShortE (Zbom l e)
 | [],_,h=>h
 | s::l,e,h=>by rw[Zbom];exact Zboo l _ (h.set _ (Nat.le_trans (Zlv _ _) (by decide)))
theorem Zbbu {v:ValT} (h:v.2.size<=100000000):(Zbbt v).2.size<=100000000:=by
 unfold Zbbt;split
 ·exact h
 ·show(0:Nat)<=_;omega
theorem Zbsk (w:World):Zbb w (.slice none 0 0) []:=⟨none,0,rfl,by simp,by simp[maxLen],λh=>absurd rfl h⟩
set_option maxHeartbeats 8000000
set_option maxRecDepth 100000
abbrev Zbiz (r:RuleS) (a1 a2 a3 a4:Option Addr) (c1 c2 c3 c4:Nat):Array Value:=#[.string r.name,.slice a1 r.ins.length c1,.slice a2 r.outs.length c2,.slice a3 r.after.length c3,.slice a4 r.steps.length c4]
def Zbn (r:RuleS) (ins:List ValT) (w:World) (e:Ending) (w':World):Prop:=∃v,e = .returned v/\Zbb w' v (runP r ins)/\Below w.heap.size w w'
theorem Zbcd (r:RuleS) (a1 a2 a3 a4:Option Addr) (c1 c2 c3 c4:Nat) (vv:Value) (ins:List ValT) (w:World) (hr:RuleI w [.string r.name,.slice a1 r.ins.length c1,.slice a2 r.outs.length c2,.slice a3 r.after.length c3,.slice a4 r.steps.length c4] r) (hs:SmallR r 1048576) (hv:Zbb w vv ins) (hn:ins.length<=1048576) (hi:∀v∈ins,v.2.size<=100000000) (hG:Glob w):
  Calls prog 15 #[.agg (Zbiz r a1 a2 a3 a4 c1 c2 c3 c4),vv] w (Zbn r ins w):=by
 obtain⟨vi,vo,vf,vs,q,h1,h2,h3,h4⟩:=hr;simp only[List.cons.injEq,and_true,true_and]at q;obtain⟨rfl,rfl,rfl,rfl⟩:=q;obtain⟨va,vc,rfl,hvl,hvm,_⟩:=id hv;have hsi:=hs.ins;have hso:=hs.outs;have hss:=hs.steps;have hfew:=hs.few;have hb0:Below w.heap.size w (w.alloc (.cells (Zbiz r a1 a2 a3 a4 c1 c2 c3 c4) 37)):=(Below.refl _ _).alloc (Nat.le_refl _) _;have hx:=alloc_at w (.cells (Zbiz r a1 a2 a3 a4 c1 c2 c3 c4) 37);obtain⟨W1,hW1⟩:∃W1,w.alloc (.cells (Zbiz r a1 a2 a3 a4 c1 c2 c3 c4) 37)=W1:=⟨_,rfl⟩;obtain⟨d0,d1,d2,d3,d4,_⟩:=cells5 hx;have hs1:W1.heap.size=w.heap.size+1:=by rw[<-hW1];simp
 rw[hW1]at hb0 hx;have HD:Hid (∀W,Below W1.heap.size W1 W->W.cell? ⟨w.heap.size,0,none⟩=some (.string r.name)/\W.cell? ⟨w.heap.size,1,none⟩=some (.slice a1 r.ins.length c1)/\W.cell? ⟨w.heap.size,2,none⟩=some (.slice a2 r.outs.length c2)/\W.cell? ⟨w.heap.size,3,none⟩=some (.slice a3 r.after.length c3)/\W.cell? ⟨w.heap.size,4,none⟩=some (.slice a4 r.steps.length c4)):=by
  show ∀W,_;intro W hW;obtain⟨e0,e1,e2,e3,e4,_⟩:=cells5 ((hW.block w.heap.size (by omega)).trans hx);exact⟨e0,e1,e2,e3,e4⟩
 have hml:∀x∈r.ins,x.size<=maxLen:=λx hx=>by have:=hsi.2 x hx;unfold maxLen;omega
 have hmo:∀x∈r.outs,x.size<=maxLen:=λx hx=>by have:=hso.2 x hx;unfold maxLen;omega
 have cB:=Zgv (.slice a1 r.ins.length c1) (.slice va ins.length vc) r.ins ins W1 (h1.below hb0) (Zbsi hv hb0) (by have:=hsi.1;omega) (by omega) hml;have hW0:=hb0.size;have UP:Hid (∀W,Below W1.heap.size W1 W->Below w.heap.size w W):=by show ∀W,_;exact λW h=>hb0.trans (h.mono hW0)
 have CP:Hid (∀(b n:Nat) f W,EnvIs W b n f->Below W1.heap.size W1 W->Calls prog 36 #[.map (some b),.slice a2 r.outs.length c2] W (Zbr W r.outs f)):=by
  show ∀(b n:Nat) f W,_;exact λb n f W he hb=>Zbfa b n f _ r.outs W he (h2.below (UP.out W hb)) (by have:=hso.1;omega) hmo
 have HST:Hid (∀(k:Nat) y,r.steps[k]? =some y->∃b o b1 m1 b2 m2,a4=some ⟨b,o,none⟩/\SmallS y 1048576/\(∀W,Below w.heap.size w W->IsStrs W (.slice b1 y.args.length m1) y.args/\IsStrs W (.slice b2 y.lits.length m2) y.lits)/\
   ∀W,Below w.heap.size w W->W.cell? ⟨b,o+k*5,none⟩=some (.string y.out)/\W.cell? ⟨b,o+k*5+1,none⟩=some (.int .i64 y.op)/\W.cell? ⟨b,o+k*5+2,none⟩=some (.slice b1 y.args.length m1)/\W.cell? ⟨b,o+k*5+3,none⟩=some (.slice b2 y.lits.length m2)/\W.cell? ⟨b,o+k*5+4,none⟩=some (.int .i64 y.n)):=by
  show ∀(k:Nat) y,_;intro k y hy;obtain⟨b,o,cap,va,vl,e,ha,hl,hc⟩:=Zbou h4 hy;obtain⟨b1,m1,rfl⟩:=Zue ha;obtain⟨b2,m2,rfl⟩:=Zue hl;injection e with e1 _ _
  exact⟨b,o,b1,m1,b2,m2,e1,hss y (List.mem_of_getElem? hy),λW hW=>⟨ha.below hW,hl.below hW⟩,hc⟩
 have HGL:Hid (∀W,Below w.heap.size w W->Glob W):=by show ∀W,_;exact λW h=>hG.below h
 have hml4:r.steps.length<=maxLen:=by unfold maxLen;omega
 have HW:=hid hW1;have HS1:=hid hs1;obtain⟨E0,hE0⟩:∃E0,(byE r.ins ins λ_=>noV)=E0:=⟨_,rfl⟩;have HSH:Hid (ShortE E0):=hid (by rw[<-hE0];exact ShortE.by _ _ _ (λ_=>by show(0:Nat)<=_;omega) hi);have HE0:=hid hE0;have CB:Hid (Calls prog 34 #[.slice a1 r.ins.length c1,.slice va ins.length vc] W1 λe w'=>∃b,e = .returned (.map (some b))/\EnvIs w' b 1048576 E0/\W1.heap.size<=b/\Below W1.heap.size W1 w'):=by
  show Calls _ _ _ _ _;refine cB.mono ?_;rintro e w' ⟨b,rfl,⟨m,m1,m2,m3⟩,hbb,hbw⟩;rw[hE0]at m2;exact⟨b,rfl,⟨m,m1,m2,by omega⟩,hbb,hbw⟩
 have HRUN:Hid (ins.length=r.ins.length->runP r ins=r.outs.map λo=>Zbbt (Zbom r.steps E0 o)):=by
  show _->_;intro h;unfold runP;rw[if_neg (by omega),hE0]
 have HRN:Hid (¬ins.length=r.ins.length->runP r ins = []):=by show _->_;intro h;unfold runP;rw[if_pos h]
 have hN:Hid (r.outs.length<=maxLen):=hid (by have:=hso.1;unfold maxLen;omega);obtain⟨name,insN,outs,after,steps⟩:=r;simp only[Zbiz]at d0 d1 d2 d3 d4 HD CP HST HRUN HRN hml4 hfew HW CB hN⊢;have mixed:prog.follows .mixedOrders=true:=by kernel_rfl
 unfold maxLen at hvm hml4;clear h1 h2 h3 h4 hs hsi hso hss hv hG hb0 hx hW1 hs1 hml hmo cB hW0 hE0 hi
 by_cases hlen:ins.length=insN.length
 ·have HLEN:=hid hlen
  have hle:(ins.length:Int)=(insN.length:Int):=by omega
  clear hlen
  go_enter func15,ntmps15
  go_wp2_with fail
  rw[HW.out];clear hle d0 d1 d2 d3 d4;refine CB.out.mono ?_;rintro e w2 ⟨b,rfl,henv,hbb,hb2⟩;have HENV:=hid henv;have HBB:=hid hbb;have H2:=hid hb2;clear henv hbb hb2;obtain⟨d0,d1,d2,d3,d4⟩:=HD.out w2 H2.out
  go_wp2_with fail
  go_loopw [21] (λiv wr=>∃k:Nat,k<=steps.length/\iv = .int .i64 (k:Int)/\EnvIs wr b (1048576+k) (Zbom (steps.take k) E0)/\Below W1.heap.size W1 wr) (λiv _=>steps.length-(intOf iv).toNat)
  case atStart=>exact⟨0,Nat.zero_le _,rfl,by simpa[Zbom]using HENV.out,H2.out⟩
  case round=>
   obtain⟨k,hk,rfl,henv,hnx⟩:=hrel;have HE:=hid henv;have HNX:=hid hnx;clear henv hnx d0 d1 d2 d3 d4
   by_cases hlt:k<steps.length
   ·obtain⟨y,hy⟩:∃y,steps[k]? =some y:=⟨steps[k],List.getElem?_eq_getElem hlt⟩
    obtain⟨sb,so,b1,m1,b2,m2,e4,hsm,hst,hcs⟩:=HST.out k y hy;subst e4;obtain⟨e0,e1,e2,e3,e4⟩:=hcs wr (UP.out wr HNX.out);have hi1:(k:Int)<(steps.length:Int):=by omega
    have hi0:(0:Int)<=(k:Int):=by omega
    have hsbW:W1.heap.size<=wr.heap.size:=HNX.out.size;obtain⟨WS,hWS⟩:∃WS,wr.alloc (.cells (Zbny y b1 b2 m1 m2) 34)=WS:=⟨_,rfl⟩;have hbx:=alloc_at wr (.cells (Zbny y b1 b2 m1 m2) 34);have hss:WS.heap.size=wr.heap.size+1:=by rw[<-hWS];simp
    rw[hWS]at hbx;have hwS:Below W1.heap.size W1 WS:=by rw[<-hWS];exact HNX.out.alloc hsbW _
    have HCS:Hid (∀w':World,w'.heap[wr.heap.size]? =WS.heap[wr.heap.size]? ->w'.cell? ⟨wr.heap.size,0,none⟩=some (.string y.out)/\w'.cell? ⟨wr.heap.size,1,none⟩=some (.int .i64 y.op)/\w'.cell? ⟨wr.heap.size,2,none⟩=some (.slice b1 y.args.length m1)/\w'.cell? ⟨wr.heap.size,3,none⟩=some (.slice b2 y.lits.length m2)/\w'.cell? ⟨wr.heap.size,4,none⟩=some (.int .i64 y.n)):=by
     show ∀w',_;intro w' h;obtain⟨f0,f1,f2,f3,f4,_⟩:=cells5 (h.trans hbx);exact⟨f0,f1,f2,f3,f4⟩
    have HEV:Hid (∀w',Below WS.heap.size WS w'->EnvIs w' b (1048576+k) (Zbom (steps.take k) E0)):=by
     show ∀w',_;intro w' h;have hbl:=HE.out.lt;refine HE.out.heap ((h.block b (by omega)).trans ?_);rw[<-hWS];exact Below.heap_alloc _ _ _ hbl
    have HPK:Hid (∀w',Below WS.heap.size WS w'->Calls prog 36 #[.map (some b),.slice b1 y.args.length m1] w' (Zbr w' y.args (Zbom (steps.take k) E0))):=by
     show ∀w',_;intro w' h;exact Zbfa b (1048576+k) _ _ y.args w' (HEV.out w' h) (hst w' (UP.out w' (hwS.trans (h.mono hwS.size)))).1 (by have:=hsm.args.1;omega) (λx hx=>by have:=hsm.args.2 x hx;unfold maxLen;omega)
    have HDO:Hid (∀w' v,Below WS.heap.size WS w'->Zbb w' v (y.args.map λa=>Zbbt (Zbom (steps.take k) E0 a))->Calls prog 35 #[.agg (Zbny y b1 b2 m1 m2),v] w' (Zan y (y.args.map λa=>Zbbt (Zbom (steps.take k) E0 a)) w')):=by
     show ∀w' v,_;intro w' v h hv;have hbw:=UP.out w' (hwS.trans (h.mono hwS.size));exact Zlw y b1 b2 m1 m2 v _ w' (hst w' hbw).1 (hst w' hbw).2 hv (by rw[List.length_map];have:=hsm.args.1;omega) (λu hu=>by
      obtain⟨a,_,rfl⟩:=List.mem_map.1 hu;exact Zbbu (Zboo _ _ HSH.out a)) (HGL.out w' hbw)
    have HYO:Hid (y.out.size<=maxLen):=hid (by have:=hsm.out;unfold maxLen;omega);have HNE:=hid (Zbon steps E0 k y hy);have HAN:Hid (y.args.length<=maxLen):=hid (by have:=hsm.args.1;unfold maxLen;omega);have HWS:=hid hWS;have HWB:=hid hwS;have HSS:=hid hss;have HBL:=hid HE.out.lt;clear hst hcs hsm hy hbx hwS hss hWS;obtain⟨yout,yop,yargs,ylits,yn⟩:=y;simp only[Zbny]at e0 e1 e2 e3 e4 HCS HPK HDO HYO HNE HAN HWS;go_wp2;rw[HWS.out];refine wp_region_held_drew (S:=(λw'=>w'.cell? ⟨wr.heap.size,0,none⟩=some (.string yout)/\w'.cell? ⟨wr.heap.size,1,none⟩=some (.int .i64 yop)/\w'.cell? ⟨wr.heap.size,2,none⟩=some (.slice b1 yargs.length m1)/\w'.cell? ⟨wr.heap.size,3,none⟩=some (.slice b2 ylits.length m2)/\w'.cell? ⟨wr.heap.size,4,none⟩=some (.int .i64 yn))) (by kernel_rfl) ?_ (λhHeld=>?_)
    ·exact HCS.out _ rfl
    refine tkH 0 (v:=?_) ?_ ?_;rotate_left
    ·intro w hSw;obtain⟨q0,q1,q2,q3,q4⟩:=hSw;go_simp;try with_reducible rfl
    try simp only[Act.put,List.setIfInBounds_toArray,List.set_cons_zero,List.set_cons_succ]
    refine tkH 1 (v:=?_) ?_ ?_;rotate_left
    ·intro w hSw;obtain⟨q0,q1,q2,q3,q4⟩:=hSw;go_simp;try with_reducible rfl
    try simp only[Act.put,List.setIfInBounds_toArray,List.set_cons_zero,List.set_cons_succ]
    refine tkH 2 (v:=?_) ?_ ?_;rotate_left
    ·intro w hSw;obtain⟨q0,q1,q2,q3,q4⟩:=hSw;go_simp;try with_reducible rfl
    try simp only[Act.put,List.setIfInBounds_toArray,List.set_cons_zero,List.set_cons_succ]
    refine tkH 3 (v:=?_) ?_ ?_;rotate_left
    ·intro w hSw;obtain⟨q0,q1,q2,q3,q4⟩:=hSw;go_simp;try with_reducible rfl
    try simp only[Act.put,List.setIfInBounds_toArray,List.set_cons_zero,List.set_cons_succ]
    refine tkH 4 (v:=?_) ?_ ?_;rotate_left
    ·intro w hSw;obtain⟨q0,q1,q2,q3,q4⟩:=hSw;go_simp;try with_reducible rfl
    try simp only[Act.put,List.setIfInBounds_toArray,List.set_cons_zero,List.set_cons_succ]
    refine tkH 5 (v:=?_) ?_ ?_;rotate_left
    ·intro w hSw;obtain⟨q0,q1,q2,q3,q4⟩:=hSw;go_simp;try with_reducible rfl
    try simp only[Act.put,List.setIfInBounds_toArray,List.set_cons_zero,List.set_cons_succ]
    refine tkH 6 (v:=?_) ?_ ?_;rotate_left
    ·intro w hSw;obtain⟨q0,q1,q2,q3,q4⟩:=hSw;go_simp;try with_reducible rfl
    try simp only[Act.put,List.setIfInBounds_toArray,List.set_cons_zero,List.set_cons_succ]
    refine rdH [7] ?_;refine rcH (λK hK=>?_) ?_
    ·go_simp;refine(HPK.out _ (below_drewN (Below.refl _ _) 1)).mono ?_;rintro e w3 ⟨g,rfl,hrow,hgs,hb3⟩;have HB3:Hid (Below WS.heap.size WS w3):=hid ((below_drewN (Below.refl _ _) 1).trans hb3);have hV3:=hrow.vals (by rw[List.length_map];exact HAN.out);rw[List.length_map]at hV3;have HV3:=hid hV3;clear hrow hgs hb3 hV3;dsimp only
     refine hK.out _ _ ?_ (λhHeld=>?_)
     ·try dsimp only
      exact HCS.out _ (HB3.out.block wr.heap.size (by have:=HSS.out;omega))
     clear hK K
     try simp only[Act.put,List.setIfInBounds_toArray,List.set_cons_zero,List.set_cons_succ]
     refine rdH [8] ?_;refine rcH (λK hK=>?_) ?_
     ·go_simp;refine(HDO.out _ _ HB3.out HV3.out).mono ?_;rintro e w4 ⟨rfl,hb4⟩;have HB4:=hid (HB3.out.trans (hb4.mono HB3.out.size));obtain⟨w5,hput,henv5,hturn⟩:=(HEV.out w4 HB4.out).put (by omega) yout HYO.out (doV ⟨yout,yop,yargs,ylits,yn⟩ (yargs.map λa=>Zbbt (Zbom (steps.take k) E0 a)));rw[<-HNE.out]at henv5;have HEN:=hid henv5;have HBX:Hid (w5.heap[wr.heap.size]? =WS.heap[wr.heap.size]?):=hid ((hturn.grown.block wr.heap.size (by have:=HB4.out.size;have:=HSS.out;omega) (λe=>by have:=HBL.out;cases e;omega)).trans (HB4.out.block wr.heap.size (by have:=HSS.out;omega)));have HB5:Hid (Below W1.heap.size W1 w5):=hid ((HWB.out.trans (HB4.out.mono HWB.out.size)).grown hturn.grown (Nat.le_trans HWB.out.size HB4.out.size) (λj e=>by cases e;exact HBB.out));clear hb4 henv5 hturn;dsimp only
      refine hK.out _ _ ?_ (λhHeld=>?_)
      ·try dsimp only
       exact HCS.out _ (HB4.out.block wr.heap.size (by have:=HSS.out;omega))
      clear hK K
      try simp only[Act.put,List.setIfInBounds_toArray,List.set_cons_zero,List.set_cons_succ]
      refine rdH [9] ?_;refine rcH (λK hK=>?_) ?_
      ·go_simp;first|done|skip
       refine hK.out _ _ ?_ (λhHeld=>?_)
       ·try dsimp only
        exact HCS.out _ HBX.out
       clear hK K
       try simp only[Act.put,List.setIfInBounds_toArray,List.set_cons_zero,List.set_cons_succ]
       refine wpAnyH_done (by kernel_rfl) ?_ _;go_wp2;go_roundw
       case rel=>exact⟨k+1,by omega,by go_num,HEN.out,HB5.out⟩
       case measure=>simp[intOf];omega
      exact AllReadyH.nil
     exact AllReadyH.nil
    exact AllReadyH.nil
   ·have hi1:¬(k:Int)<(steps.length:Int):=by omega
    have hfull:steps.take k=steps:=List.take_of_length_le (by omega);have hE:=HE.out;rw[hfull]at hE;have CPP:=hid (CP.out b _ _ wr hE HNX.out);obtain⟨d0,d1,d2,d3,d4⟩:=HD.out wr HNX.out;clear hfull hE
    go_wp2_with fail
    refine CPP.out.mono ?_;rintro e w3 ⟨g,rfl,hrow,hgs,hb3⟩;have hV:=hrow.vals (by rw[List.length_map];exact hN.out);rw[List.length_map,<-HRUN.out HLEN.out]at hV;have HV:=hid hV;have HB3:=hid (UP.out w3 (HNX.out.trans (hb3.mono HNX.out.size)));clear hrow hgs hb3 hV;go_wp2;go_ret;exact⟨_,rfl,HV.out,HB3.out⟩
 ·have hle:¬(ins.length:Int)=(insN.length:Int):=by omega
  have HB1:=hid (UP.out W1 (Below.refl _ _));have hr0:=HRN.out hlen;have HR0:=hid hr0;clear hr0
  go_enter func15,ntmps15
  go_wp2;rw[HW.out];go_ret;exact⟨_,rfl,by rw[HR0.out];exact Zbsk _,HB1.out⟩
end Go.Proofs.YtcpjfpdecklkgaaGreatDoor
