import Derived.Test.YthkehhphnbckaaaGreatDoorMbo
import Derived.Test.YthkehhphnbckaaaGreatDoorMbh
namespace Go.Proofs.YthkehhphnbckaaaGreatDoor
open Go.RowKit Go.Shelf
theorem Zbir {w w':World} {x:RuleS} {e:Ending} (h:Zbu w w' x e):∃b1 m1 e1 b2 m2 e2 b3 m3 e3 b4 m4 e4,e = .returned (.agg #[.string x.name,.slice b1 m1 e1,.slice b2 m2 e2,.slice b3 m3 e3,.slice b4 m4 e4])∧
  RuleA (fun b=>b<w.heap.size) w' [.string x.name,.slice b1 m1 e1,.slice b2 m2 e2,.slice b3 m3 e3,.slice b4 m4 e4] x:=by
 obtain⟨vi,vo,vf,vs,rfl,h1,h2,h3,h4⟩:=h
 obtain⟨b1,m1,e1,q1⟩:=Zbig h1
 obtain⟨b2,m2,e2,q2⟩:=Zbig h2
 obtain⟨b3,m3,e3,q3⟩:=Zbig h3
 obtain⟨b4,e4,q4,_,_⟩:=Zboi h4
 subst q1 q2 q3 q4
 exact⟨b1,m1,e1,b2,m2,e2,b3,m3,e3,b4,_,e4,rfl,⟨_,_,_,_,rfl,h1,h2,h3,h4⟩⟩
def Zbvw (k:Nat) (xs:List RuleS):List RuleS:=(xs.take k).map cutR
theorem Zbvz {xs:List RuleS} {k:Nat} {x:RuleS} (h:xs[k]? =some x):Zbvw (k+1) xs=Zbvw k xs ++ [cutR x]:=by
 unfold Zbvw;rw[List.take_add_one,h,List.map_append];rfl
theorem Zbvy (k:Nat) (xs:List RuleS):(Zbvw k xs).length=min k xs.length:=by unfold Zbvw;rw[List.length_map,List.length_take]
theorem Zbvx {k m:Nat} {xs:List RuleS} (h:xs.length≤k) (h2:xs.length≤m):Zbvw k xs=Zbvw m xs:=by
 unfold Zbvw;rw[List.take_of_length_le h,List.take_of_length_le h2]
set_option maxHeartbeats 8000000 in
set_option maxRecDepth 100000 in
theorem Zbwl (v:Value) (xs:List RuleS) (w:World) (h:RulesI w v xs) (hs:∀x∈xs,SmallR x 1048576):
  Calls Tryz.prog 26 #[v] w (Zbz w (Zbvw 42 xs)):=by
 obtain⟨sa,sc,hv,hs1,hs2⟩:=Zbjn h
 subst hv
 have HCS:Hid (∀(k:Nat) x,xs[k]? =some x→_):=Lib.hid (fun k x hx=>Zbjm h (k:=k) (x:=x) hx)
 have HSM:=Lib.hid hs
 unfold maxLen at hs2
 have HO1:Hid (OwnRules w.heap.size w (.slice none 0 0) []):=Zbxk _ _
 clear h hs
 go_enter Tryz.func26,Tryz.ntmps26
 go_wp2
 go_loopw [3,4] (fun vv i wr=>∃k:Nat,k≤xs.length∧k≤42∧i = .int .i64 k∧OwnRules w.heap.size wr vv (Zbvw k xs)∧Below w.heap.size w wr)
  (fun _ i _=>xs.length-(intOf i).toNat)
 case atStart=>exact⟨0,Nat.zero_le _,Nat.zero_le _,rfl,HO1.out,Below.refl _ _⟩
 case round=>
  obtain⟨k,hk,hk42,rfl,hown,hnx⟩:=hrel
  have hsz:=hnx.size
  have HO:=Lib.hid hown
  have HNX:=Lib.hid hnx
  clear hown hnx
  by_cases hlt:k<xs.length
  ·by_cases h42:k<42
   ·obtain⟨x,hx⟩:∃x,xs[k]? =some x:=⟨xs[k],List.getElem?_eq_getElem hlt⟩
    obtain⟨g,o,cap,a1,c1,a2,c2,a3,c3,a4,c4,hv,hg,hR,hc⟩:=HCS.out k x hx
    have hi1:(k:Int)<(xs.length:Int):=by omega
    have hi2:(k:Int)<42:=by omega
    have hi0:(0:Int)≤(k:Int):=by omega
    have hfx:=HSM.out x (List.mem_of_getElem? hx)
    have htk:=Zbvz hx
    obtain⟨d0,d1,d2,d3,d4⟩:=hc _ HNX.out
    have HTK:=Lib.hid htk
    cases hv
    have cA:=Zwx x _ _ _ _ wr (hR.below HNX.out) hfx
    have CA:=Lib.hid cA
    clear hc hx htk hR hfx cA
    go_wp2_with fail
    refine CA.out.mono ?_
    rintro e w2 ⟨hpost,hb2⟩
    obtain⟨b1,m1,e1,b2,m2,e2,b3,m3,e3,b4,m4,e4,rfl,hra⟩:=Zbir hpost
    have hO2:=HO.out.below hb2
    have hlow:=fun b hb=>(HO.out.lt b hb).2
    have hra2:=RuleA.mono (Av':=AvOf w.heap.size _) hra fun b _ e=>by
     rcases e with e|e
     ·show b<wr.heap.size;omega
     ·exact hlow b e
    have HO2:=Lib.hid hO2
    have HR2:=Lib.hid hra2
    have HN2:=Lib.hid (HNX.out.trans (hb2.mono hsz))
    have HTL:Hid ((Zbvw k xs).length≤1000000000):=by show _≤_;rw[Zbvy];omega
    have HS2:=Lib.hid (Nat.le_trans hsz hb2.size)
    clear hra hb2 hO2 hlow hra2 d0 d1 d2 d3 d4 hpost
    go_wp2_with (at_builtin;refine Zbuh (by rfl) _ _ (by rfl) w.heap.size _ (Zbvw k xs) (cutR x) b1 b2 b3 b4 m1 e1 m2 e2 m3 e3 m4 e4 (by rfl) HO2.out HS2.out HTL.out HR2.out _ (by rfl) (by simp) ?_)
    intro v' w6 hown6 hb6 _ _
    have HO6:Hid (OwnRules w.heap.size w6 v' (Zbvw (k+1) xs)):=by show OwnRules _ _ _ _;rw[HTK.out];exact hown6
    have HN6:=Lib.hid (HN2.out.trans hb6)
    clear hown6 hb6
    go_wp2
    go_roundw
    case rel=>exact⟨k+1,by omega,by omega,by go_num,HO6.out,HN6.out⟩
    case measure=>simp[intOf];omega
   ·obtain rfl:k=42:=by omega
    have hi1:(42:Int)<(xs.length:Int):=by omega
    have hi2:((42:Nat):Int)<(xs.length:Int):=by omega
    obtain⟨a,c,q⟩:=HO.out.len
    subst q
    go_wp2
    go_ret
    exact⟨_,_,_,rfl,HO.out,HNX.out⟩
  ·have hfull:Zbvw k xs=Zbvw 42 xs:=Zbvx (by omega) (by omega)
   have hi1:¬(k:Int)<(xs.length:Int):=by omega
   have hO3:=HO.out
   rw[hfull]at hO3
   obtain⟨a,c,q⟩:=hO3.len
   subst q
   have HO3:=Lib.hid hO3
   clear hfull hO3
   go_wp2
   go_ret
   exact⟨_,_,_,rfl,HO3.out,HNX.out⟩
end Go.Proofs.YthkehhphnbckaaaGreatDoor
namespace Go.Proofs.YthkehhphnbckaaaGreatDoor
end Go.Proofs.YthkehhphnbckaaaGreatDoor
namespace Go.Proofs.YthkehhphnbckaaaGreatDoor
open Go.RowKit
theorem Zbma {x:RuleS} {m:Nat} (h:SmallR x m):SmallR (cutR x) m:=by
 have tk:∀ {l:List ByteArray} (k:Nat),SmallL l m→SmallL (l.take k) m:=fun k h=>⟨by rw[List.length_take];have:=h.1;omega,fun z hz=>h.2 z (List.mem_of_mem_take hz)⟩
 exact⟨h.name,tk 10 h.ins,tk 6 h.outs,tk 10 h.after,by show((x.steps.take 14).map cutS).length≤m;rw[List.length_map,List.length_take];have:=h.few;omega,fun y hy=>by
  obtain⟨z,hz,rfl⟩:=List.mem_map.1 (show y∈(x.steps.take 14).map cutS from hy)
  have:=h.steps z (List.mem_of_mem_take hz)
  exact⟨this.out,tk 8 this.args,tk 3 this.lits,this.op,this.n⟩⟩
end Go.Proofs.YthkehhphnbckaaaGreatDoor
namespace Go.Proofs.YthkehhphnbckaaaGreatDoor
open Go.RowKit
end Go.Proofs.YthkehhphnbckaaaGreatDoor
