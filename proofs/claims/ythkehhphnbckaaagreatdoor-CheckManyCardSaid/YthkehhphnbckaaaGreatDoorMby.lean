import Derived.Test.YthkehhphnbckaaaGreatDoorMbt
namespace Go.Proofs.YthkehhphnbckaaaGreatDoor
def nmM (i:Nat):ByteArray:=⟨#[114,UInt8.ofNat (97+i/10),UInt8.ofNat (97+i % 10)]⟩
def fnM (i:Nat):ByteArray:=⟨#[102,46,114,UInt8.ofNat (97+i/10),UInt8.ofNat (97+i % 10)]⟩
def mkM (i:Nat):RuleS:=⟨nmM i,[],[fnM i],[],[⟨fnM i,6,[],[nmM i],0⟩]⟩
def Zbwr (n:Nat):List RuleS:=(List.range n).map mkM
theorem Zbwv (n:Nat):Zbwr (n+1)=Zbwr n ++ [mkM n]:=by unfold Zbwr;rw[List.range_succ,List.map_append];rfl
theorem Zbwt (n:Nat):(Zbwr n).length=n:=by simp[Zbwr]
theorem Zbwx:∀i<43,Zbip (mkM i)=0:=by
 have h:((List.range 43).all fun i=>decide (Zbip (mkM i)=0))=true:=by kernel_rfl
 intro i hi
 exact of_decide_eq_true (List.all_eq_true.1 h i (by simpa using hi))
theorem Zbyc {i j:Nat} (hi:i<43) (hj:j<43) (h1:UInt8.ofNat (97+i/10)=UInt8.ofNat (97+j/10)) (h2:UInt8.ofNat (97+i % 10)=UInt8.ofNat (97+j % 10)):i=j:=by
 have e1:=congrArg UInt8.toNat h1
 have e2:=congrArg UInt8.toNat h2
 rw[UInt8.toNat_ofNat',UInt8.toNat_ofNat']at e1 e2
 omega
theorem Zbxd {i j:Nat} (hi:i<43) (hj:j<43) (h:nmM i=nmM j):i=j:=by
 unfold nmM at h
 simp only[ByteArray.mk.injEq,Array.mk.injEq,List.cons.injEq,and_true,true_and]at h
 exact Zbyc hi hj h.1 h.2
theorem Zbwi {i j:Nat} (hi:i<43) (hj:j<43) (h:fnM i=fnM j):i=j:=by
 unfold fnM at h
 simp only[ByteArray.mk.injEq,Array.mk.injEq,List.cons.injEq,and_true,true_and]at h
 exact Zbyc hi hj h.1 h.2
theorem Zbws {n i:Nat} {x:RuleS} (h:(Zbwr n)[i]? =some x):i<n∧x=mkM i:=by
 unfold Zbwr at h
 rw[List.getElem?_map]at h
 rcases Nat.lt_or_ge i n with hi|hi
 ·rw[List.getElem?_range hi]at h
  exact⟨hi,(by simpa using h.symm)⟩
 ·rw[List.getElem?_eq_none (by simpa using hi)]at h;simp at h
theorem Zbwu {n:Nat} {x:RuleS} (h:x∈Zbwr n):∃i,i<n∧x=mkM i:=by
 obtain⟨i,hi⟩:=List.getElem?_of_mem h
 exact⟨i,Zbws hi⟩
theorem Zbww {n:Nat} (h:n≤43):(n≤40∧(allB (Zbwr n) (Zot (Zbng (Zbwr n)))).1=0)∨(40<n∧allB (Zbwr n) (Zot (Zbng (Zbwr n)))=(4,⟨#[]⟩)):=by
 have he:∀r∈Zbwr n,Zbip r=0:=fun r hr=>by
  obtain⟨i,hi,rfl⟩:=Zbwu hr
  exact Zbwx i (by omega)
 rcases Nat.lt_or_ge 40 n with hn|hn
 ·have hb:Zet (Zbwr n)=(4,⟨#[]⟩):=by
   unfold Zet
   rw[Zbxq he]
   simp only
   rw[if_pos (by rw[Zbwt];exact hn)]
  exact .inr ⟨hn,by rw[Zbvp (by rw[hb];exact(by decide:(4:Int)≠0)),hb]⟩
 ·refine .inl ⟨hn,Zbvo ⟨he,by rw[Zbwt];exact hn,fun i j x y hx hy hij e=>?_,fun r hr=>?_,fun i j x y hx hy hij a ha hb=>?_,fun r hr a ha=>?_⟩ (fun r hr=>?_) (fun r hr=>?_)⟩
  ·obtain⟨h1,rfl⟩:=Zbws hx
   obtain⟨h2,rfl⟩:=Zbws hy
   have:=Zbxd (by omega) (by omega) e
   omega
  ·obtain⟨i,hi,rfl⟩:=Zbwu hr
   show [fnM i].Nodup
   simp
  ·obtain⟨h1,rfl⟩:=Zbws hx
   obtain⟨h2,rfl⟩:=Zbws hy
   obtain rfl:a=fnM i:=by simpa[mkM]using ha
   have:=Zbwi (by omega) (by omega) (show fnM i=fnM j by simpa[mkM]using hb)
   omega
  ·obtain⟨i,hi,rfl⟩:=Zbwu hr
   simp[mkM]at ha
  ·obtain⟨i,hi,rfl⟩:=Zbwu hr;rfl
  ·obtain⟨i,hi,rfl⟩:=Zbwu hr;rfl
end Go.Proofs.YthkehhphnbckaaaGreatDoor
