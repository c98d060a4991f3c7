import Derived.Lib.SlBytesRow
import Derived.Test.YthkehhphnbckaaaGreatDoorMbm
import Derived.Test.YthkehhphnbckaaaGreatDoorMby
namespace Go.Proofs.YthkehhphnbckaaaGreatDoor.lawCheckMany
open Go.RowKit Go.Shelf
theorem Zbwo {Av:Nat→Prop} {w:World} {b k:Nat} {t:TypeId} {rows:List (List Value)} (h:w.heap[b]? =some (.cells rows.flatten.toArray t (0,0))) (hk:∀r∈rows,r.length=k) (hn:rows.length≤maxLen) (hb:¬Av b):RowA Av w (.slice (some ⟨b,0,none⟩) rows.length rows.length) k rows:=
 ⟨Zbil h hk hn,fun c e=>by
  obtain rfl:b=c:=by simpa[Value.ownBlock]using e
  exact⟨(Array.getElem?_eq_some_iff.1 h).1,hb⟩⟩
theorem nilA (Av:Nat→Prop) (w:World):StrsA Av w (.slice none 0 0) []:=⟨⟨none,0,rfl,Nat.le_refl _,Nat.zero_le _,fun h=>absurd rfl h⟩,fun b e=>by simp[Value.ownBlock]at e⟩
theorem Zbwy (n:Nat):∀r∈Zbwr n,SmallR r 1048576:=by
 intro r hr
 obtain⟨i,_,rfl⟩:=Zbwu hr
 have h3:(nmM i).size≤1048576:=by show(3:Nat)≤_;omega
 have h5:(fnM i).size≤1048576:=by show(5:Nat)≤_;omega
 have one:∀x:ByteArray,x.size≤1048576→SmallL [x] 1048576:=fun x hx=>⟨by show(1:Nat)≤_;omega,fun y hy=>by
  obtain rfl:y=x:=by simpa using hy
  exact hx⟩
 have nil:SmallL [] 1048576:=⟨by show(0:Nat)≤_;omega,fun y hy=>by simp at hy⟩
 refine⟨h3,nil,one _ h5,nil,by show(1:Nat)≤_;omega,fun y hy=>?_⟩
 obtain rfl:y=⟨fnM i,6,[],[nmM i],0⟩:=by simpa[mkM]using hy
 exact⟨h5,nil,one _ h3,(show Zba 6 by constructor<;>decide),(show Zba 0 by constructor<;>decide)⟩
def mkV (F S:ByteArray):RuleS:=⟨S,[],[F],[],[⟨F,6,[],[S],0⟩]⟩
def mO (m:Nat) (F S:ByteArray):List Obj:=[.cells #[.string F] 9,.cells #[.string S] 9,.cells #[.string F,.int .i64 6,.slice none 0 0,.slice (some ⟨m+1,0,none⟩) 1 1,.int .i64 0] 39]
def mW (w:World) (F S:ByteArray):World:=(mO w.heap.size F S).foldl World.alloc w
theorem Zbwq {B:Nat} {v:Value} {w:World} {F S:ByteArray} {m:Nat} (hm:w.heap.size=m) (hv:∀b,v.ownBlock=some b→b<m) (hB:B≤m):
  RuleA (AvOf B v) (mW w F S) [.string (mkV F S).name,.slice none 0 0,.slice (some ⟨m,0,none⟩) 1 1,.slice none 0 0,.slice (some ⟨m+1+1,0,none⟩) 1 1] (mkV F S):=by
 have g:=fun k o h=>Zdk (mO w.heap.size F S) w k o h
 unfold mW
 rw[hm]at g⊢
 have hA:∀b,m≤b→¬AvOf B v b:=fun b hb h=>by
  rcases h with h|h
  ·omega
  ·have:=hv b h;omega
 refine⟨_,_,_,_,rfl,nilA _ _,Zbwo (rows:=Zbpk [F]) (g 0 _ rfl) (by simp[Zbpk]) (by show 1≤maxLen;decide) (hA _ (Nat.le_refl _)),nilA _ _,[_],Zbwo (rows:=[[.string F,.int .i64 6,.slice none 0 0,.slice (some ⟨m+1,0,none⟩) 1 1,.int .i64 0]]) (g 2 _ rfl) (by simp) (by show 1≤maxLen;decide) (hA _ (by omega)),rfl,fun j r x hr hx=>?_⟩
 match j,hr,hx with
 | 0,hr,hx=>
  obtain rfl:_=r:=by simpa using hr
  obtain rfl:_=x:=Option.some.inj hx
  exact⟨_,_,rfl,nilA _ _,Zbwo (rows:=Zbpk [S]) (g 1 _ rfl) (by simp[Zbpk]) (by show 1≤maxLen;decide) (hA _ (by omega))⟩
 | j+1,hr,hx=>simp at hr
theorem Zbwp (w:World) (F S:ByteArray):Below w.heap.size w (mW w F S):=by
 unfold mW mO
 simp only[List.foldl_cons,List.foldl_nil]
 exact(((Below.refl _ _).alloc (Nat.le_refl _) _).alloc (by simp) _).alloc (by simp<;>omega) _
theorem Zbvv (w:World) (k q m:Nat) (hq:k/10=q) (hm:k % 10=m) (hk:k<43):(convert 60 9 (.slice (some ⟨w.heap.size,0,none⟩) 3 3)).run Tryz.prog (w.alloc (.cells #[.int .u8 114,.int .u8 (97+(q:Int)),.int .u8 (97+(m:Int))] 5)) = .ok (.string (nmM k)) (w.alloc (.cells #[.int .u8 114,.int .u8 (97+(q:Int)),.int .u8 (97+(m:Int))] 5)):=by
 subst hq hm
 have h:=Lib.run_convert_whole (P:=Tryz.prog) (w.alloc (.cells #[.int .u8 114,.int .u8 (97+((k/10:Nat):Int)),.int .u8 (97+((k % 10:Nat):Int))] 5)) 60 5 9 Tryz.underlying60 Tryz.underlying5 Tryz.underlying9 w.heap.size 0 (nmM k) (fun i hi=>by
  have hi3:i<3:=hi
  have e1:(UInt8.ofNat (97+k/10)).toNat=97+k/10:=by rw[UInt8.toNat_ofNat'];omega
  have e2:(UInt8.ofNat (97+k % 10)).toNat=97+k % 10:=by rw[UInt8.toNat_ofNat'];omega
  rw[Nat.zero_add,World.cell?_alloc_at _ _ _ _ rfl]
  match i,hi3 with
  | 0,_=>rfl
  | 1,_=>
   show some (Value.int .u8 (97+((k/10:Nat):Int)))=some (Value.int .u8 ((UInt8.ofNat (97+k/10)).toNat:Int))
   rw[e1];rfl
  | 2,_=>
   show some (Value.int .u8 (97+((k % 10:Nat):Int)))=some (Value.int .u8 ((UInt8.ofNat (97+k % 10)).toNat:Int))
   rw[e2];rfl) 3
 exact h
set_option maxHeartbeats 8000000
set_option maxRecDepth 100000
theorem law (n0:Int) (w:World) (hG:GP w.heap.size w):
  Calls Tryz.prog 9 #[.int .i64 n0] w fun e w'=>e = .returned (.bool true)∧Below w.heap.size w w':=by
 have mixed:Tryz.prog.follows .mixedOrders=true:=by kernel_rfl
 have C0:=Lib.hid (Zfc w hG)
 have HMW:Hid (∀V,Below w.heap.size w V→MayW V):=Lib.hid fun V hV=>(hG.below hV).glob.max
 obtain⟨N,hN,hN1,hN2⟩:∃N:Nat,36+n0.tmod 8 % 8=(N:Int)∧36≤N∧N≤43:=⟨(36+n0.tmod 8 % 8).toNat,by omega,by omega,by omega⟩
 have h1:=Int.tmod_lt_of_pos n0 (show(0:Int)<8 by omega)
 have h2:=Int.lt_tmod_of_pos n0 (show(0:Int)<8 by omega)
 clear hG
 go_enter Tryz.func9,Tryz.ntmps9
 go_wp2_with fail
 refine C0.out.mono ?_
 rintro e w1 ⟨rfl,hb1⟩
 have HB1:=Lib.hid hb1
 clear hb1
 go_upto_region 5 with fail
 obtain⟨B,hB⟩:∃k,w1.heap.size=k:=⟨_,rfl⟩
 have HBB:=Lib.hid hB
 have HO1:Hid (OwnRules B w1 (.slice none 0 0) (Zbwr 0)):=Lib.hid (Zbxk _ _)
 clear hN h1 h2 hB
 go_wp2
 generalize (n0.tmod 8+8) % 8=x8
 go_loopw [4,5] (fun vv iv wr=>∃k:Nat,k≤N∧iv = .int .i64 (k:Int)∧OwnRules B wr vv (Zbwr k)∧Below B w1 wr) (fun _ iv _=>N-(intOf iv).toNat)
 case atStart=>exact⟨0,Nat.zero_le _,rfl,HO1.out,Below.refl _ _⟩
 case round=>
  obtain⟨k,hk,rfl,hown,hb⟩:=hrel
  by_cases hlt:k<N
  ·have hi1:(k:Int)<(N:Int):=by omega
   obtain⟨q,hq,hq4⟩:∃q:Nat,k/10=q∧q≤4:=⟨_,rfl,by omega⟩
   obtain⟨m,hm,hm9⟩:∃m:Nat,k % 10=m∧m≤9:=⟨_,rfl,by omega⟩
   have e1:(k:Int).tdiv 10=(q:Int):=by rw[Int.tdiv_eq_ediv_of_nonneg (by omega)];omega
   have e2:(k:Int).tmod 10=(m:Int):=by rw[Int.tmod_eq_emod_of_nonneg (by omega)];omega
   have hcv:=Zbvv wr k q m hq hm (by omega)
   obtain⟨S,hS⟩:∃S,nmM k=S:=⟨_,rfl⟩
   have hF:(⟨#[102,46]⟩:ByteArray)++S=fnM k:=by
    rw[←hS]
    apply Zgy
    rw[ByteArray.data_append,Array.toList_append]
    rfl
   have hmk:mkM k=mkV (fnM k) S:=by rw[←hS];rfl
   obtain⟨F,hFF⟩:∃F,fnM k=F:=⟨_,rfl⟩
   rw[hFF]at hF hmk
   rw[hS]at hcv
   have hss:S.size=3:=by rw[←hS];rfl
   have hg:¬9223372036854775807<2+S.size:=by omega
   have HMK:Hid (Zbwr (k+1)=Zbwr k ++ [mkV F S]):=Lib.hid (by rw[Zbwv,hmk])
   obtain⟨W1,hW1⟩:∃V,wr.alloc (.cells #[.int .u8 114,.int .u8 (97+(q:Int)),.int .u8 (97+(m:Int))] 5)=V:=⟨_,rfl⟩
   have hb1:Below wr.heap.size wr W1:=by rw[←hW1];exact(Below.refl _ _).alloc (Nat.le_refl _) _
   have hs1:W1.heap.size=wr.heap.size+1:=by rw[←hW1];simp
   have hlow:=fun b hb=>(hown.lt b hb).2
   have hra:=Zbwq (F:=F) (S:=S) (w:=W1) (v:=u4) (B:=B) rfl (fun b e=>by have:=hlow b e;omega) (by have:=hb.size;have:=HBB.out;omega)
   have hO2:OwnRules B (mW W1 F S) u4 (Zbwr k):=(hown.below hb1).below (by have:=Zbwp W1 F S;exact this)
   have HO:=Lib.hid hO2;have HRA:=Lib.hid hra
   have HB3:=Lib.hid (hb.trans ((hb1.trans ((Zbwp W1 F S).mono hb1.size)).mono (by have:=hb.size;have:=HBB.out;omega)))
   have HS1:=Lib.hid hs1;have HW1:=Lib.hid hW1
   have HTL:Hid ((Zbwr k).length≤1000000000):=Lib.hid (by rw[Zbwt];omega)
   clear hown hb hq hm hS hFF hmk hlow hra hO2 hb1 hs1 hW1
   obtain⟨W2,hW2⟩:∃V,mW W1 F S=V:=⟨_,rfl⟩
   have HS2:Hid (B≤W2.heap.size):=Lib.hid (by have h1:=HB3.out.size;have h2:=HBB.out;rw[hW2]at h1;omega)
   rw[hW2]at HO HRA HB3
   unfold mW mO at hW2
   simp only[List.foldl_cons,List.foldl_nil]at hW2
   have HW2:=Lib.hid hW2
   clear hW2
   go_upto_region 10 with fail
   rw[HW1.out]
   clear hcv
   go_wp2_with (at_builtin;rw[HW2.out];refine Zbuh (by rfl) _ _ (by rfl) B _ (Zbwr k) (mkV F S) none (some ⟨W1.heap.size,0,none⟩) none (some ⟨W1.heap.size+1+1,0,none⟩) 0 0 1 1 0 0 1 1 (by rfl) HO.out HS2.out HTL.out HRA.out _ (by rfl) (by first|rfl|(rw[←HW2.out];simp)) ?_)
   intro v' w6 hown6 hb6 _ _
   have HO6:Hid (OwnRules B w6 v' (Zbwr (k+1))):=Lib.hid (by rw[HMK.out];exact hown6)
   have HN6:=Lib.hid (HB3.out.trans hb6)
   clear hown6 hb6
   go_wp2
   go_roundw
   case rel=>exact⟨k+1,by omega,by go_num,HO6.out,HN6.out⟩
   case measure=>simp[intOf];omega
  ·obtain rfl:k=N:=by omega
   have hi1:¬(k:Int)<(k:Int):=by omega
   obtain⟨a,c,q⟩:=hown.len
   subst q
   have hri:=hown.rulesA.rulesI
   have hbw:Below w.heap.size w wr:=HB1.out.trans (hb.mono (by have:=HBB.out;have:=HB1.out.size;omega))
   have hsm:∀r∈Zbwr k,SmallR r 1048576:=Zbwy k
   have hall:=Zja _ (Zbwr k) wr hri hsm (by rw[Zbwt];omega) (HMW.out _ hbw)
   rw[Zbwt]at hall⊢
   have hcode:=Zbww (n:=k) (by omega)
   obtain⟨d,hd⟩:∃d,allB (Zbwr k) (Zot (Zbng (Zbwr k)))=d:=⟨_,rfl⟩
   obtain⟨c1,s1⟩:=d
   rw[hd]at hall hcode
   have HA:=Lib.hid hall;have HC:=Lib.hid hcode;have HBW:=Lib.hid hbw
   clear hall hcode hd hown hb hri hbw hsm
   go_wp2_with fail
   refine HA.out.mono ?_
   rintro e w3 ⟨rfl,hb3⟩
   have HB3:=Lib.hid (HBW.out.trans (hb3.mono HBW.out.size))
   clear hb3
   rcases HC.out with⟨h1,h2⟩|⟨h1,h2⟩
   ·obtain rfl:c1=0:=h2
    have hk40:(k:Int)≤40:=by omega
    go_wp2
    go_ret
    exact⟨rfl,HB3.out⟩
   ·injection h2 with h2 h3
    subst h2 h3
    have hk40:¬(k:Int)≤40:=by omega
    have hd40:decide ((k:Int)≤40)=false:=decide_eq_false hk40
    go_wp2
    go_ret
    exact⟨rfl,HB3.out⟩
end Go.Proofs.YthkehhphnbckaaaGreatDoor.lawCheckMany
