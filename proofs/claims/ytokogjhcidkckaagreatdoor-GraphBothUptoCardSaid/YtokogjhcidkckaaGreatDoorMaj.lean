import Derived.Test.YtokogjhcidkckaaGreatDoorMai
import Derived.ArgAppend
import Derived.KernelRfl
import Derived.Shelf.SlSortCmp.WholeK
import Derived.Maps.RangeWalk
namespace Go.Proofs.YtokogjhcidkckaaGreatDoor
open Go.Lib (hid)
open Go.Proofs.Tryz
open Go.RowKit
def OwnF (w:World) (B:Nat) (r:Option Nat) (v:Value) (fs:List F2):Prop:=
 (w.ownsRow B 148 2 v fs.length (Znm fs)/\r=v.ownBlock)∨(fs = []/\r=none/\∃a,v = .slice a 0 0)
def Zaz (w:World) (B:Nat) (r:Option Nat) (fs:List F2) (e:Ending) (w':World):Prop:=
 ∃v' r',e = .returned v'/\OwnF w' B r' v' fs/\w.grownBy w' r/\(r'=r∨∃k,r'=some k/\w.heap.size<=k)
theorem Zbdv {w:World} {B B' e size:Nat} {v:Value} {n:Nat} {xs:List Value} (h:w.ownsRow B e size v n xs) (hB:B'<=B):w.ownsRow B' e size v n xs:=by
 obtain⟨h1,h2|⟨g,cap,cur,hv,hg,hr⟩⟩:=h
 ·exact⟨h1,.inl h2⟩
 ·exact⟨h1,.inr ⟨g,cap,cur,hv,Nat.le_trans hB hg,hr⟩⟩
theorem Zbdn {w:World} {B e size:Nat} {v:Value} {n:Nat} {xs:List Value} (h:w.ownsRow B e size v n xs) (hn:n≠0):∃k,v.ownBlock=some k/\B<=k:=by
 obtain⟨h1,⟨_,h2⟩|⟨g,cap,cur,hv,hg,hr⟩⟩:=h
 ·exact absurd h2 hn
 ·exact⟨g,by rw[hv];rfl,hg⟩
set_option maxHeartbeats 4000000 in
set_option maxRecDepth 100000 in
theorem Ztg (B vb g c:Nat) (fs:List F2) (f:F2) (w:World) (_hn:fs.length<=1000) (hc:fs.length+1<=c)
  (hown:w.ownsRow B 148 2 (.slice (some ⟨g,0,none⟩) fs.length c) fs.length (Znm fs))
  (hv:w.heap[vb]? =some (.cells #[.string f.1,.string f.2] 148 (0,0))):
  Calls prog 194 #[.slice (some ⟨g,0,none⟩) fs.length c,.int .i64 fs.length,.slice (some ⟨vb,0,none⟩) 1 1] w (Zaz w B (some g) (fs ++ [f])):=by
 obtain⟨i0,hi0,hz0,hz1,hz2⟩:=info_parts Zsu;have hcm:=(Zbea hown);obtain⟨a',c',hv',_,hnc,hcm⟩:=hcm
 cases hv'
 unfold maxLen at hcm;have hne:¬(c=fs.length):=by omega
 go_enter func194,ntmps194
 go_wp2_with (at_builtin;refine wpList_append_fits _ rfl _ _ 186 rfl B 148 i0 2 underlying186 hi0 hz1 g _ _ _ rfl hown ⟨vb,0,none⟩ 1 1 [.string f.1,.string f.2] rfl rfl ?c1 ?c2 hc ?_)
 case c1=>exact λj u hj=>Zbih hv 0 j u (by simpa using hj)
 case c2=>intro u hu;simp at hu;rcases hu with rfl|rfl<;>rfl
 intro w' hown' hgrow;have HO:Hid (OwnF w' B (some g) (.slice (some ⟨g,0,none⟩) (fs.length+1) c) (fs ++ [f])):=by
  refine .inl ⟨?_,rfl⟩;rw[Znn,Znp,Zns];simpa using hown'
 clear hown';go_wp2;go_ret;exact⟨_,_,rfl,HO.out,hgrow,.inl rfl⟩
set_option maxHeartbeats 4000000 in
set_option maxRecDepth 100000 in
theorem Ztf (B vb c:Nat) (a:Option Addr) (r:Option Nat) (fs:List F2) (f:F2) (w:World) (hn:fs.length<=1000) (hc:c=fs.length) (hB:B<=w.heap.size) (hnone:a=none->fs.length=0)
  (hcs:∀b,a=some b->∀j u,(Znm fs)[j]? =some u->w.cell? (b.add j)=some u)
  (hv:w.heap[vb]? =some (.cells #[.string f.1,.string f.2] 148 (0,0))):
  Calls prog 194 #[.slice a fs.length c,.int .i64 fs.length,.slice (some ⟨vb,0,none⟩) 1 1] w (Zaz w B r (fs ++ [f])):=by
 obtain⟨i0,hi0,hz0,hz1,hz2⟩:=info_parts Zsu;subst hc;have HCS:=hid hcs;clear hcs
 go_enter func194,ntmps194
 go_wp2_with (at_builtin;refine wpList_append_grows _ rfl _ _ 186 rfl 148 i0 _ 2 32 underlying186 hi0 hz0 hz1 hz2 rfl (by decide) a fs.length fs.length (Znm fs) rfl ?c0 ?cl ?cs ⟨vb,0,none⟩ 1 1 [.string f.1,.string f.2] rfl rfl ?c1 ?c2 ?c3 ?c4 ?c5 ?_)
 case c0=>exact λh=>⟨hnone h,hnone h⟩
 case cl=>exact Znr fs
 case cs=>exact HCS.out
 case c1=>exact λj u hj=>Zbih hv 0 j u (by simpa using hj)
 case c2=>intro u hu;simp at hu;rcases hu with rfl|rfl<;>rfl
 case c3=>omega
 case c4=>unfold maxLen;omega
 case c5=>omega
 all_goals
  intro v' w' hown' hgrow;obtain⟨k,hk,hkB⟩:=Zbdn hown' (by omega);have HO:Hid (OwnF w' B (some k) v' (fs ++ [f])):=by
   refine .inl ⟨?_,hk.symm⟩;rw[Znn,Znp,Zns];simpa using Zbdv hown' hB
  have HG:Hid (w.grownBy w' r):=⟨hgrow.os,hgrow.tape,hgrow.output,hgrow.size,λk hk _=>hgrow.block k hk (by simp)⟩;clear hown' hgrow;go_wp2;go_ret;exact⟨_,_,rfl,HO.out,HG.out,.inr ⟨k,rfl,hkB⟩⟩
theorem grown_of {w w':World} {r:Option Nat} (h:w.grownBy w' none):w.grownBy w' r:=⟨h.os,h.tape,h.output,h.size,λk hk _=>h.block k hk (by simp)⟩
theorem Ztd (B vb i:Nat) (r:Option Nat) (v:Value) (fs:List F2) (f:F2) (w:World) (hi:i<=fs.length) (hn:fs.length<=1000) (hB:B<=w.heap.size)
  (hown:OwnF w B r v fs) (hvb:some vb≠r)
  (hv:w.heap[vb]? =some (.cells #[.string f.1,.string f.2] 148 (0,0))):
  Calls prog 194 #[v,.int .i64 i,.slice (some ⟨vb,0,none⟩) 1 1] w (Zaz w B r (fs.take i++f::fs.drop i)):=by
 rcases hown with⟨hown,rfl⟩|⟨rfl,rfl,a,rfl⟩
 ·obtain⟨hl,⟨rfl,h0⟩|⟨g,c,cur,rfl,hgB,hg,hnc,hcm,hcs,htk⟩⟩:=id hown
  ·obtain rfl:=List.eq_nil_of_length_eq_zero h0
   obtain rfl:i=0:=by simpa using hi
   exact Ztf B vb 0 none _ [] f w hn rfl hB (λ_=>rfl) (λb hb=>by cases hb) hv
  ·by_cases he:i=fs.length
   ·subst he
    rw[List.take_length,List.drop_length]
    by_cases hc:fs.length+1<=c
    ·exact Ztg B vb g c fs f w hn hc hown hv
    ·exact Ztf B vb c (some ⟨g,0,none⟩) _ fs f w hn (by omega) hB (λh=>by cases h) (λb hb j u hj=>by
      cases hb
      refine Zbih hg 0 j u ?_;rw[<-htk,List.getElem?_take]at hj;split at hj
      ·simpa using hj
      ·cases hj) hv
   ·by_cases hc:fs.length+1<=c
    ·refine(Zti g fs.length c i vb fs f cur w (by omega) hc hn (by unfold maxLen at hcm;omega) (λe=>hvb (by rw[e];rfl)) rfl hg hcs htk hv).mono ?_
     rintro e w' ⟨rfl,cur',hg',hcs',htk',hgrow⟩;refine⟨_,_,rfl,.inl ⟨⟨by rw[Znr],.inr ⟨g,c,cur',?_,hgB,hg',?_,hcm,hcs',?_⟩⟩,rfl⟩,hgrow,.inl rfl⟩
     ·congr 1;simp;omega
     ·simp;omega
     ·rw[show(fs.take i++f::fs.drop i).length=fs.length+1 from by simp;omega];exact htk'
    ·refine(Zth g fs.length c i vb fs f cur w (by omega) (by omega) hn hnc rfl hg hcs htk hv).mono ?_
     rintro e w' ⟨G,rfl,hG,hGm,cur',hg',hcs',htk',hgrow⟩;refine⟨_,_,rfl,.inl ⟨⟨by rw[Znr],.inr ⟨w.heap.size,G,cur',?_,hB,hg',?_,hGm,hcs',?_⟩⟩,rfl⟩,grown_of hgrow,.inr ⟨w.heap.size,rfl,Nat.le_refl _⟩⟩
     ·congr 1;simp;omega
     ·simp;omega
     ·rw[show(fs.take i++f::fs.drop i).length=fs.length+1 from by simp;omega];exact htk'
 ·obtain rfl:i=0:=by simpa using hi
  exact Ztf B vb 0 a _ [] f w hn rfl hB (λ_=>rfl) (λb hb j u hj=>by simp[Znm]at hj) hv
end Go.Proofs.YtokogjhcidkckaaGreatDoor
namespace Go.Proofs.YtokogjhcidkckaaGreatDoor.Exe
open Go.Lib (hid)
open Go.Proofs.Tryz
open Go Go.RowKit
set_option maxRecDepth 1000000
theorem mixed:prog.follows .mixedOrders=true:=by kernel_rfl
def Zbfb (P:Program):Bool:=P.funcs.toList.all λfn=>match fn.body with
 | some _=> !(fn.name == "runtime.NumGoroutine")
 | none=>true
theorem Zctv {P:Program} (h:Zbfb P=true):Zcmj P:=by
 intro f fn c hf hb;unfold Zbfb at h;have hm:fn∈P.funcs.toList:=by
  have:=Array.mem_of_getElem? hf;simpa using this
 have:=List.all_eq_true.1 h fn hm;rw[hb]at this;unfold plainName;simpa using this
theorem Zctu:Zcmj prog:=Zctv (by kernel_rfl)
theorem hz51:Zp prog 148=2:=by kernel_rfl
theorem hz5:Zp prog 5=1:=by kernel_rfl
theorem hb70:Zcqx prog 194=true:=by kernel_rfl
theorem ins:InsH prog 194 148:=λvb i R v fs f w h1 h2 h3 h4 h5=>Ztd 0 vb i R v fs f w h1 h2 (Nat.zero_le _) h3 h4 h5
abbrev exts:ExtT:=[(226,Extern.BytealgCompare.compare),(327,Extern.BytealgIndexByte.indexByte),(362,Extern.BytealgCount.count),(396,Extern.BytealgIndex.index)]
theorem Zcpo:∀p∈exts,Ext0 prog p.1 p.2:=by
 intro p hp;simp only[exts,List.mem_cons,List.not_mem_nil,or_false]at hp
 rcases hp with rfl|rfl|rfl|rfl
 ·exact run_callFunc_extern func226 (by kernel_rfl) (by kernel_rfl) (by kernel_rfl) (by kernel_rfl)
 ·exact run_callFunc_extern func327 (by kernel_rfl) (by kernel_rfl) (by kernel_rfl) (by kernel_rfl)
 ·exact run_callFunc_extern func362 (by kernel_rfl) (by kernel_rfl) (by kernel_rfl) (by kernel_rfl)
 ·exact run_callFunc_extern func396 (by kernel_rfl) (by kernel_rfl) (by kernel_rfl) (by kernel_rfl)
theorem Zcre:∀f∈[354],∀v (w:World),(callFunc f #[v]).run prog w = .ok (.value v) w:=by
 intro f hf v w;obtain rfl:f=354:=by simpa using hf
 rw[run_callFunc_extern func354 (by kernel_rfl) (by kernel_rfl) (by kernel_rfl) (e:=Extern.AbiNoEscape.same) (by kernel_rfl)];rfl
theorem Zctb:KS prog 5 (onFn (nzK 378 5)):=
 Zcta (ps:=#[3]) (rs:=#[290]) (t:=290) rfl (by kernel_rfl) hz5 (run_callFunc_extern func378 (by kernel_rfl) (by kernel_rfl) (by kernel_rfl) (by kernel_rfl))
noncomputable def K0a:KF:=orK (onFn (nzK 378 5)) (orK (onFn (idK [354])) (orK (onFn (insK 194 148)) (onFn (extK prog exts))))
theorem Zcme:KS prog 5 K0a:=Zctm Zctb (Zctm (Zcrd Zcre) (Zctm (Zcrj Zctu hb70 hz51 ins) (Zcpn Zcpo)))
theorem hb74:Zcqx prog 198=true:=by kernel_rfl
theorem hb19:Zcqx prog 101=true:=by kernel_rfl
theorem hb5:Zcqx prog 72=true:=by kernel_rfl
theorem run1:okV (KX prog 5 100000 K0a 60 (.fn 198) [] 100 (hx 301 opNames))=true:=by kernel_rfl
theorem beg1 {w:World} (hw:GX 5 301 opNames w):Calls prog 198 #[] w λe w'=>e = .returned (.bool true)/\Below w.heap.size w w':=
 Zcuu (Zcmh Zcme mixed Zctu 100000 60) Zctu hb74 (by decide) (by decide) run1 hw
noncomputable def K0b:KF:=orK (onFn (Zcsp [198] 301 opNames)) K0a
theorem Zcmf:KS prog 5 K0b:=by
 refine Zctm (Zcsq Zctu (by decide) ?_) Zcme;intro f hf;have e:f=198:=by simpa using hf
 rw[e];exact⟨hb74,λw hw=>beg1 hw⟩
theorem run4:okV (KX prog 5 100000 K0b 60 (.fn 101) [] 100 (hx 301 opNames))=true:=by kernel_rfl
theorem beg4 {w:World} (hw:GX 5 301 opNames w):Calls prog 101 #[] w λe w'=>e = .returned (.bool true)/\Below w.heap.size w w':=
 Zcuu (Zcmh Zcmf mixed Zctu 100000 60) Zctu hb19 (by decide) (by decide) run4 hw
end Go.Proofs.YtokogjhcidkckaaGreatDoor.Exe
namespace Go.Proofs.YtokogjhcidkckaaGreatDoor.Exe
open Go.Lib (hid)
open Go.Proofs.Tryz
open Go
variable {P:Program} {G:Nat}
def runM (P:Program) (G:Nat) (K:KF) (D:RF) (top:Bool):Nat->Nat->Code->St->Option (Nat×Code×St)
 | n,0,c,s=>some (n,c,s)
 | 0,_+1,_,_=>none
 | n+1,m+1,c,s=>match c with
  | .seq a b=>match Zcol P G K D top n a s with
   | some (.normal,s1)=>runM P G K D top n m b s1
   | _=>none
  | _=>none
theorem Zcup {K:KF} {D:RF} {top:Bool}:∀ {n m:Nat} {c:Code} {s:St} {n':Nat} {c':Code} {s':St},runM P G K D top n m c s=some (n',c',s')->Zcol P G K D top n c s=Zcol P G K D top n' c' s'
 | n,0,c,s,n',c',s',h=>by simp only[runM,Option.some.injEq,Prod.mk.injEq]at h;obtain⟨rfl,rfl,rfl⟩:=h;rfl
 | 0,m+1,c,s,n',c',s',h=>by simp[runM]at h
 | n+1,m+1,c,s,n',c',s',h=>by
  simp only[runM]at h;split at h
  ·split at h
   ·rename_i a b s1 h1
    rw[<-Zcup h];simp only[Zcol,h1]
   ·cases h
  ·cases h
def Zcox:Nat->Code->Code
 | 0,c=>c
 | m+1,c=>match c with
  | .seq _ b=>Zcox m b
  | c=>c
def outX (P:Program) (fn:Func) (k:Nat):Option (Exit×St)->Option (Value×Nat×Hp)
 | some (.normal,s)=>finX P fn k s
 | some (.ret,s)=>finX P fn k s
 | _=>none
theorem Zcoh {K:KF} {fuel:Nat} {f:FuncId} {fn:Func} {c:Code} (hf:P.funcs[f]? =some fn) (hb:fn.body=some c) {k:Nat} {h:Hp} (hl:Nat.blt fn.ntmps 16000000=true):
  Zcog P G fuel K f [] k h=outX P fn k (Zcol P G K (Zcov P G K) true fuel c ⟨⟨.lf,fn.ntmps⟩,k,h⟩):=by
 unfold Zcog;simp only[hf,hb,List.length_nil,Nat.zero_add,hl,cond_true,ini,Nat.sub_zero];unfold outX;split<;>simp_all
theorem Zcur {K0:KF} {fuel N:Nat} {f:FuncId} {fn:Func} {c:Code} {h:Hp} {k:Nat} (h0:K0 (.fn f) [] k h=none) (hf:P.funcs[f]? =some fn) (hb:fn.body=some c) (hl:Nat.blt fn.ntmps 16000000=true) {n':Nat} {c':Code} {s':St}
  (hc:Zcol P G (KX P G fuel K0 N) (Zcov P G (KX P G fuel K0 N)) true fuel c ⟨⟨.lf,fn.ntmps⟩,k,h⟩=Zcol P G (KX P G fuel K0 N) (Zcov P G (KX P G fuel K0 N)) true n' c' s')
  (ho:okV (outX P fn k (Zcol P G (KX P G fuel K0 N) (Zcov P G (KX P G fuel K0 N)) true n' c' s'))=true):okV (KX P G fuel K0 (N+1) (.fn f) [] k h)=true:=by
 simp only[KX,h0,Zcoh hf hb hl,hc,ho]
def regM (P:Program) (G:Nat) (K:KF) (ops:Array Oper) (T:List Nat):Nat->List (Nat×Nat)->List (Nat×Nat)->St->Option (List (Nat×Nat)×List (Nat×Nat)×St)
 | 0,q,g,s=>some (q,g,s)
 | _+1,[],_,_=>none
 | n+1,(i,m)::q,g,s=>match ops[i]? with
  | some o=>match m with
   | 0=>match Zcvs P G ops s o with
    | some (rd,v)=>regM P G K ops T n q (addG i rd g) ⟨s.e.put o.dst v,s.k,s.h⟩
    | none=>none
   | 1=>match opRO P G K ops o (Zcml T i g) s with
    | some s1=>regM P G K ops T n q (actG T i g) s1
    | none=>none
   | 2=>match Zczw P G ops o s with
    | some s1=>regM P G K ops T n q (actG T i g) s1
    | none=>none
   | m+3=>match ops[m]? with
    | some oi=>match Zczw P G ops oi s with
     | some _=>match opRO P G K ops o (Zcml T i g) s with
      | some s1=>regM P G K ops T n q (actG T i g) s1
      | none=>none
     | none=>none
    | none=>none
  | none=>none
theorem Zdhb {K:KF} {ops:Array Oper} {T:List Nat}:∀ {n:Nat} {q g:List (Nat×Nat)} {s:St} {q' g':List (Nat×Nat)} {s':St},regM P G K ops T n q g s=some (q',g',s')->regS P G K ops T q g s=regS P G K ops T q' g' s'
 | 0,q,g,s,q',g',s',h=>by simp only[regM,Option.some.injEq,Prod.mk.injEq]at h;obtain⟨rfl,rfl,rfl⟩:=h;rfl
 | n+1,[],g,s,q',g',s',h=>by simp[regM]at h
 | n+1,(i,m)::q,g,s,q',g',s',h=>by
  match m,h with
  | 0,h=>
   simp only[regM]at h;split at h
   case h_2=>cases h
   rename_i o ho
   split at h
   case h_2=>cases h
   rename_i h1
   rw[<-Zdhb h];simp only[regS,ho,h1]
  | 1,h=>
   simp only[regM]at h;split at h
   case h_2=>cases h
   rename_i o ho
   split at h
   case h_2=>cases h
   rename_i h1
   rw[<-Zdhb h];simp only[regS,ho,h1]
  | 2,h=>
   simp only[regM]at h;split at h
   case h_2=>cases h
   rename_i o ho
   split at h
   case h_2=>cases h
   rename_i h1
   rw[<-Zdhb h];simp only[regS,ho,h1]
  | m+3,h=>
   simp only[regM]at h;split at h
   case h_2=>cases h
   rename_i o ho
   split at h
   case h_2=>cases h
   rename_i oi hoi
   split at h
   case h_2=>cases h
   rename_i h0
   split at h
   case h_2=>cases h
   rename_i h1
   rw[<-Zdhb h];simp only[regS,ho,hoi,h0,h1]
theorem Zdhh {K:KF} {top:Bool} {n id:Nat} {ops:Array Oper} {c:Code} {q:List (Nat×Nat)} {s s1:St} (hp:Zdga ops=some q) (hr:regS P G K ops [] q [] s=some s1):
  Zcol P G K (Zcov P G K) top (n+2) (.seq (.region id ops true) c) s=Zcol P G K (Zcov P G K) top (n+1) c s1:=by
 simp only[Zcol,Zcov,hp,hr]
end Go.Proofs.YtokogjhcidkckaaGreatDoor.Exe
namespace Go.Proofs.YtokogjhcidkckaaGreatDoor.Exe
open Go.Lib (hid)
open Go.Proofs.Tryz
open Go Go.RowKit
set_option maxRecDepth 1000000
noncomputable def K0c:KF:=orK (onFn (Zcsp [101] 301 opNames)) K0a
theorem Zcmg:KS prog 5 K0c:=by
 refine Zctm (Zcsq Zctu (by decide) ?_) Zcme;intro f hf;have e:f=101:=by simpa using hf
 rw[e];exact⟨hb19,λw hw=>beg4 hw⟩
abbrev bT:Value:= .bool true
abbrev bF:Value:= .bool false
abbrev pP (n:Nat):Value:= .pointer (some ⟨n,0,none⟩)
abbrev sL (n a b:Nat):Value:= .slice (some ⟨n,0,none⟩) a b
abbrev sT (l:List UInt8):Value:= .string ⟨⟨l⟩⟩
abbrev aG (l:List Value):Value:= .agg ⟨l⟩
abbrev nI (n:Int):Value:= .int .i64 n
abbrev mP (n:Nat):Value:= .map (some n)
abbrev fL (l:List UInt8):Value:=aG [bF,sT l]
abbrev fR (l:List UInt8):Value:=aG [bT,sT l]
abbrev z0:Value:= .slice none 0 0
abbrev tO:Tr:= .lf
abbrev tN (v:Value) (a b:Tr):Tr:= .nd v a b
abbrev tL (v:Value):Tr:= .nd v .lf .lf
abbrev tT:Tr:=tL bT
def litA:St:=⟨⟨(tN bF (tN (pP 212) (tN (sL 676 2 2) (tN (nI 3) (tN (aG [(sT [120]),(nI 4),(sL 206 1 1),z0,(nI 0)]) (tL (sL 688 1 1)) (tL (sL 706 1 1))) (tN (sL 216 2 2) (tL bF) (tN (aG [(sT [97]),(nI 1),(sL 994 1 1),z0,(nI 0)]) tO tO))) (tN (sL 202 2 2) (tN (aG [(sT [114]),(sL 200 2 2),(sL 202 2 2),z0,(sL 210 3 3)]) (tL bF) (tN (.tuple ⟨[(nI 3),(sT [114])]⟩) tO tO)) (tN (fR [122]) (tL bF) (tL (sL 998 2 2))))) (tN (nI 0) (tN (.tuple ⟨[]⟩) (tN (aG [(sT [121]),(nI 2),(sL 208 1 1),z0,(nI 0)]) (tL (sL 498 2 2)) (tL (nI 0))) (tN (aG [(sT [114]),(sL 200 2 2),(sL 202 2 2),z0,(sL 210 3 3)]) (tL bF) (tN (aG [(sT [115]),(sL 992 1 1),(sL 990 1 1),z0,(sL 996 1 1)]) tO tO))) (tN (aG [(sT [116]),(nI 3),(sL 204 1 1),z0,(nI 0)]) (tN (fR [113,10,112]) (tL (sL 676 2 2)) (tL (sL 992 1 1))) (tN (sL 676 2 2) (tN (.tuple ⟨[(nI 0),(sT [])]⟩) tO tO) (tL (nI 3)))))) (tN (sL 498 2 2) (tN (pP 690) (tN (sT [114]) (tN (sL 208 1 1) (tL (pP 690)) (tN (.tuple ⟨[(nI 0),(sT [])]⟩) tO tO)) (tN (sL 498 2 2) (tL bF) (tL (sL 996 1 1)))) (tN (sL 204 1 1) (tN (aG [(sT [114]),(sL 200 2 2),(sL 202 2 2),z0,(sL 210 3 3)]) (tL bF) (tL (sL 990 1 1))) (tN (sL 512 1 1) (tL bF) (tN (.tuple ⟨[(nI 3),(sT [114])]⟩) tO tO)))) (tN (sT []) (tN (sL 200 2 2) (tN (sL 210 3 3) (tL (nI 2)) (tL (sT []))) (tN (sL 510 1 1) (tL (pP 690)) (tN (aG [(sT [114]),(sL 200 2 2),(sL 202 2 2),z0,(sL 210 3 3)]) tO tO))) (tN (sL 206 1 1) (tN (fR []) (tL (nI 2)) (tL (sL 994 1 1))) (tN (aG [(sT [97]),(sT [50,10,49])]) (tN (aG [(sT [114]),(sL 200 2 2),(sL 202 2 2),z0,(sL 210 3 3)]) tO tO) (tL (sT [114]))))))),181⟩,735,[(998,.cells [(sT [115]),(sL 992 1 1),(sL 990 1 1),z0,(sL 996 1 1),(sT [114]),(sL 200 2 2),(sL 202 2 2),z0,(sL 210 3 3)] 50 0 false),(996,.cells [(sT [97]),(nI 1),(sL 994 1 1),z0,(nI 0)] 60 0 false),(994,.cells [(sT [120])] 9 0 false),(992,.cells [(sT [120])] 9 0 false),(990,.cells [(sT [97])] 9 0 false),(706,.cells [(sT [114]),(sL 200 2 2),(sL 202 2 2),z0,(sL 210 3 3)] 50 0 false),(703,.cells [(sT [97]),(sT [50,10,49])] 148 0 false),(700,.cells [(sT [97]),(sT [50,10,49])] 148 0 false),(696,.cells [(sT [97])] 9 0 false),(692,.cells [(sT [97]),(sT [50,10,49])] 148 0 false),(690,.cells [(sL 703 1 1)] 188 0 false),(688,.cells [(sT [97]),(sT [50,10,49])] 148 0 false),(676,.cells [bF,(sT []),bT,(sT [122])] 143 0 false),(512,.cells [bT,(sT [122])] 143 0 false),(510,.cells [(sT [98])] 9 0 false),(498,.cells [bT,(sT [50,10]),bF,(sT [])] 143 0 false),(216,.cells [bT,(sT [113,10,112]),bT,(sT [])] 143 0 false),(212,.cells [(sT [114]),(sL 200 2 2),(sL 202 2 2),z0,(sL 210 3 3)] 50 0 false),(210,.cells [(sT [116]),(nI 3),(sL 204 1 1),z0,(nI 0),(sT [120]),(nI 4),(sL 206 1 1),z0,(nI 0),(sT [121]),(nI 2),(sL 208 1 1),z0,(nI 0)] 60 0 false),(208,.cells [(sT [98])] 9 0 false),(206,.cells [(sT [116])] 9 0 false),(204,.cells [(sT [97])] 9 0 false),(202,.cells [(sT [120]),(sT [121])] 9 0 false),(200,.cells [(sT [97]),(sT [98])] 9 0 false),(2,.cells [(sT []),(sT [99,111,112,121]),(sT [110,101,101,100]),(sT [115,111,114,116]),(sT [99,111,117,110,116]),(sT [99,111,110,99,97,116]),(sT [108,105,116,101,114,97,108]),(sT [115,101,108,101,99,116]),(sT [114,101,112,108,97,99,101]),(sT [112,114,101,102,105,120])] 301 9223372036854775808 true)]⟩
noncomputable def Zcxl:Code:=match prog.funcs[72]? with
 | some fn=>match fn.body with
  | some c=>c
  | none=> .skip
 | none=> .skip
noncomputable def KA:KF:=KX prog 5 100000 K0c 59
noncomputable def fnA:Func:=match prog.funcs[72]? with
 | some fn=>fn
 | none=>default
theorem Zdaa:prog.funcs[72]? =some fnA:=by kernel_rfl
theorem Zcxm:fnA.body=some Zcxl:=by kernel_rfl
theorem Zdfg:fnA.ntmps=181:=by kernel_rfl
theorem Zdfe:K0c (.fn 72) [] 100 (hx 301 opNames)=none:=by kernel_rfl
theorem runA:runM prog 5 KA (Zcov prog 5 KA) true 100000 8 Zcxl ⟨⟨.lf,181⟩,100,hx 301 opNames⟩=some (99992,Zcox 8 Zcxl,litA):=by kernel_rfl
theorem runB:okV (outX prog fnA 100 (Zcol prog 5 KA (Zcov prog 5 KA) true 99992 (Zcox 8 Zcxl) litA))=true:=by kernel_rfl
theorem run7:okV (KX prog 5 100000 K0c 60 (.fn 72) [] 100 (hx 301 opNames))=true:=
 Zcur Zdfe Zdaa Zcxm (by rw[Zdfg];rfl) (by rw[Zdfg];exact Zcup runA) runB
theorem beg7 {w:World} (hw:GX 5 301 opNames w):Calls prog 72 #[] w λe w'=>e = .returned (.bool true)/\Below w.heap.size w w':=
 Zcuu (Zcmh Zcmg mixed Zctu 100000 60) Zctu hb5 (by decide) (by decide) run7 hw
end Go.Proofs.YtokogjhcidkckaaGreatDoor.Exe
namespace Go.Proofs.YtokogjhcidkckaaGreatDoor
open Go.Lib (hid)
open Go.Proofs.Tryz
open Go.RowKit Go.Shelf
abbrev Lb:=Bool×ByteArray
def lv (l:Lb):Value:= .agg #[.bool l.1,.string l.2]
def lc (l:Lb):List Value:=[.bool l.1,.string l.2]
def ltL (a b:Lb):Bool:=if a.1=b.1 then decide (a.2.data.toList<b.2.data.toList)else b.1
def leL (a b:Lb):Bool:= !ltL b a
theorem Zdcj {a b:ByteArray} (h:a.data.toList=b.data.toList):a=b:=by
 cases a;cases b;simp only[ByteArray.mk.injEq]at h⊢;exact Array.ext' h
theorem Zddp (a:Lb):ltL a a=false:=by
 unfold ltL;rw[if_pos rfl,decide_eq_false_iff_not];exact List.lt_irrefl _
theorem Zddr {a b c:Lb} (h1:ltL a b=true) (h2:ltL b c=true):ltL a c=true:=by
 obtain⟨a1,a2⟩:=a;obtain⟨b1,b2⟩:=b;obtain⟨c1,c2⟩:=c;unfold ltL at *
 cases a1<;>cases b1<;>cases c1<;>simp_all
 all_goals exact List.lt_trans h1 h2
theorem Zdct {a b:Lb} (h1:leL a b=true) (h2:leL b a=true):a=b:=by
 obtain⟨a1,a2⟩:=a;obtain⟨b1,b2⟩:=b;unfold leL ltL at *
 cases a1<;>cases b1<;>simp_all
 all_goals exact Zdcj (List.le_antisymm h1 h2)
theorem Zdcu {a b c:Lb} (h1:leL a b=true) (h2:leL b c=true):leL a c=true:=by
 obtain⟨a1,a2⟩:=a;obtain⟨b1,b2⟩:=b;obtain⟨c1,c2⟩:=c;unfold leL ltL at *
 cases a1<;>cases b1<;>cases c1<;>simp_all
 all_goals exact List.le_trans h1 h2
theorem Zddq {a b:Lb} (h:leL a b=true) (hne:a≠b):ltL a b=true:=by
 cases h2:ltL a b with
 | true=>rfl
 | false=>exact absurd (Zdct h (by unfold leL;rw[h2];rfl)) hne
def ilb (x:Lb):List Lb->List Lb
 | []=>[x]
 | y::ys=>if ltL y x then y::ilb x ys else x::y::ys
def slb:List Lb->List Lb
 | []=>[]
 | x::xs=>ilb x (slb xs)
theorem Zdbj (x:Lb):∀l:List Lb,(ilb x l).Perm (x::l)
 | []=>List.Perm.refl _
 | y::ys=>by
  unfold ilb;split
  ·exact((Zdbj x ys).cons y).trans (List.Perm.swap x y ys)
  ·exact List.Perm.refl _
theorem Zdit:∀l:List Lb,(slb l).Perm l
 | []=>List.Perm.refl _
 | x::xs=>(Zdbj x _).trans ((Zdit xs).cons x)
abbrev Slb (l:List Lb):Prop:=l.Pairwise λa b=>leL a b=true
theorem Zdbk (x:Lb):∀ {l:List Lb},Slb l->Slb (ilb x l)
 | [],_=>List.pairwise_singleton _ _
 | y::ys,h=>by
  have h':=List.pairwise_cons.1 h;unfold ilb;split
  ·rename_i hlt
   refine List.pairwise_cons.2 ⟨λz hz=>?_,Zdbk x h'.2⟩
   rcases List.mem_cons.1 ((Zdbj x ys).mem_iff.1 hz)with rfl|hz
   ·unfold leL
    cases h2:ltL z y with
    | false=>rfl
    | true=>have:=Zddr h2 hlt;rw[Zddp]at this;cases this
   ·exact h'.1 z hz
  ·rename_i hlt
   have hxy:leL x y=true:=by unfold leL;simpa using hlt
   refine List.pairwise_cons.2 ⟨λz hz=>?_,h⟩
   rcases List.mem_cons.1 hz with rfl|hz
   ·exact hxy
   ·exact Zdcu hxy (h'.1 z hz)
theorem Zdiu:∀l:List Lb,Slb (slb l)
 | []=>List.Pairwise.nil
 | x::xs=>Zdbk x (Zdiu xs)
theorem Zdis {l l':List Lb} (hp:l.Perm l') (h:Slb l) (h':Slb l'):l=l':=
 List.Perm.eq_of_pairwise (le:=λa b=>leL a b=true) (λ_ _ _ _ h1 h2=>Zdct h1 h2) h h' hp
theorem Zdir {l m:List Lb} (hp:l.Perm m) (h:Slb l):l=slb m:=Zdis (hp.trans (Zdit m).symm) h (Zdiu m)
theorem Zdip {l m:List Lb} (hp:l.Perm m):slb l=slb m:=Zdir ((Zdit l).trans hp) (Zdiu l)
def cfL (a b:Lb):Int:=if ltL a b then -1 else if ltL b a then 1 else 0
theorem Zcxu (a b:Lb):(cfL a b<0)↔ltL a b=true:=by
 unfold cfL;split
 ·rename_i h;simp[h]
 ·rename_i h
  split<;>simp[h]
def lcs (l:List Lb):List Value:=(l.map lc).flatten
theorem Zdcq (x:Lb) (l:List Lb):lcs (x::l) = .bool x.1 :: .string x.2::lcs l:=rfl
theorem Zdcs:∀l:List Lb,(lcs l).length=l.length*2
 | []=>rfl
 | x::l=>by rw[Zdcq];simp only[List.length_cons,Zdcs l];omega
theorem Zdco (l m:List Lb):lcs (l++m)=lcs l++lcs m:=by unfold lcs;rw[List.map_append,List.flatten_append]
open Go.Sort
def Zdin:Go.Shelf.Ren:=⟨fun|0=>0|1=>1|2=>2|6=>73|14=>110|15=>111|18=>334|20=>154|21=>155|22=>156|23=>157|24=>158|25=>159|26=>160|27=>161|28=>162|29=>163|46=>218|47=>219|48=>220|49=>221|50=>222|57=>268|60=>408|61=>409|62=>410|63=>411|64=>412|65=>413|66=>414|67=>415|68=>416|69=>417|70=>418|71=>419|72=>420|73=>421|74=>422|75=>428|n=>n,fun|0=>0|1=>1|2=>2|3=>3|4=>4|5=>5|6=>6|7=>7|8=>8|9=>9|10=>10|11=>11|12=>12|13=>13|14=>14|15=>15|16=>16|17=>17|18=>18|19=>19|20=>20|21=>21|22=>35|23=>113|24=>24|25=>114|26=>126|27=>131|30=>224|37=>157|38=>158|39=>159|40=>69|42=>197|44=>202|45=>203|46=>204|47=>205|48=>206|49=>207|50=>208|51=>209|52=>210|53=>211|54=>212|55=>213|66=>258|67=>259|68=>260|69=>261|70=>262|71=>263|76=>307|77=>308|78=>309|81=>299|82=>403|83=>404|84=>405|85=>406|86=>407|87=>75|88=>408|89=>409|90=>410|91=>335|92=>411|93=>412|94=>413|95=>414|96=>356|n=>n,fun|n=>n⟩
theorem lSl:Go.Proofs.SlLaysF0.n6 prog Zdin:={
 mixed:=by kernel_rfl
 f6:=⟨"slices.SortFunc[[]shipwright/api.Label,shipwright/api.Label]",by decide,func73.trans (congrArg some (by kernel_rfl))⟩
 f14:=⟨"slices.pdqsortCmpFunc[shipwright/api.Label]",by decide,func110.trans (congrArg some (by kernel_rfl))⟩
 f15:=func111.trans (congrArg some (by kernel_rfl))
 f20:=⟨"slices.insertionSortCmpFunc[shipwright/api.Label]",by decide,func154.trans (congrArg some (by kernel_rfl))⟩
 f21:=⟨"slices.heapSortCmpFunc[shipwright/api.Label]",by decide,func155.trans (congrArg some (by kernel_rfl))⟩
 f22:=⟨"slices.breakPatternsCmpFunc[shipwright/api.Label]",by decide,func156.trans (congrArg some (by kernel_rfl))⟩
 f23:=⟨"slices.choosePivotCmpFunc[shipwright/api.Label]",by decide,func157.trans (congrArg some (by kernel_rfl))⟩
 f24:=⟨"slices.reverseRangeCmpFunc[shipwright/api.Label]",by decide,func158.trans (congrArg some (by kernel_rfl))⟩
 f25:=⟨"slices.partialInsertionSortCmpFunc[shipwright/api.Label]",by decide,func159.trans (congrArg some (by kernel_rfl))⟩
 f26:=⟨"slices.partitionEqualCmpFunc[shipwright/api.Label]",by decide,func160.trans (congrArg some (by kernel_rfl))⟩
 f27:=⟨"slices.partitionCmpFunc[shipwright/api.Label]",by decide,func161.trans (congrArg some (by kernel_rfl))⟩
 f28:=func162.trans (congrArg some (by kernel_rfl))
 f29:=func163.trans (congrArg some (by kernel_rfl))
 f46:=⟨"slices.siftDownCmpFunc[shipwright/api.Label]",by decide,func218.trans (congrArg some (by kernel_rfl))⟩
 f47:=func219.trans (congrArg some (by kernel_rfl))
 f48:=func220.trans (congrArg some (by kernel_rfl))
 f49:=⟨"slices.medianAdjacentCmpFunc[shipwright/api.Label]",by decide,func221.trans (congrArg some (by kernel_rfl))⟩
 f50:=⟨"slices.medianCmpFunc[shipwright/api.Label]",by decide,func222.trans (congrArg some (by kernel_rfl))⟩
 f57:=⟨"slices.order2CmpFunc[shipwright/api.Label]",by decide,func268.trans (congrArg some (by kernel_rfl))⟩
 t0:=underlying0
 a0:=isAgg0
 z0:=sizeOf0
 v0:=zeroValue0
 t3:=underlying3
 a3:=isAgg3
 z3:=sizeOf3
 v3:=zeroValue3
 t4:=underlying4
 a4:=isAgg4
 z4:=sizeOf4
 v4:=zeroValue4
 t5:=underlying5
 a5:=isAgg5
 z5:=sizeOf5
 v5:=zeroValue5
 t9:=underlying9
 a9:=isAgg9
 z9:=sizeOf9
 v9:=zeroValue9
 t22:=underlying35
 a22:=isAgg35
 z22:=sizeOf35
 v22:=zeroValue35
 t25:=underlying114
 a25:=isAgg114
 z25:=sizeOf114
 v25:=zeroValue114
 t39:=underlying159
 a39:=isAgg159
 z39:=sizeOf159
 v39:=zeroValue159
 t45:=underlying203
 a45:=isAgg203
 z45:=sizeOf203
 v45:=zeroValue203
 t46:=underlying204
 a46:=isAgg204
 z46:=sizeOf204
 v46:=zeroValue204
 t50:=underlying208
 a50:=isAgg208
 z50:=sizeOf208
 v50:=zeroValue208
 t53:=underlying211
 a53:=isAgg211
 z53:=sizeOf211
 v53:=zeroValue211
 t55:=underlying213
 a55:=isAgg213
 z55:=sizeOf213
 v55:=zeroValue213
 t66:=underlying258
 a66:=isAgg258
 z66:=sizeOf258
 v66:=zeroValue258
 t70:=underlying262
 a70:=isAgg262
 z70:=sizeOf262
 v70:=zeroValue262
 t76:=underlying307
 a76:=isAgg307
 z76:=sizeOf307
 v76:=zeroValue307
 t77:=underlying308
 a77:=isAgg308
 z77:=sizeOf308
 v77:=zeroValue308 }
set_option maxHeartbeats 4000000 in
set_option maxRecDepth 100000 in
theorem Zdcv (x y:Lb) (w:World):
  Calls prog 39 #[lv x,lv y] w λe w'=>e = .returned (.bool (ltL x y))/\w'=(w.alloc (.cells (lc x).toArray 24)).alloc (.cells (lc y).toArray 24):=by
 obtain⟨a,s⟩:=x;obtain⟨b,t⟩:=y;unfold lv lc ltL;have hb:∀s t:ByteArray,Op.bytesLess s.toList t.toList=decide (s.data.toList<t.data.toList):=λs t=>by rw[ByteArray.toList_eq,ByteArray.toList_eq,bytesLess_eq]
 cases a<;>cases b<;>simp only[Bool.false_eq_true,Bool.true_eq_false,if_true,if_false,<-hb]
 all_goals
  clear hb
  go_enter func39,ntmps39
  go_wp2;go_ret;exact⟨rfl,rfl⟩
set_option maxHeartbeats 4000000 in
set_option maxRecDepth 100000 in
theorem Zcya (x y:Lb) (w:World):
  Calls prog 74 #[lv x,lv y] w λe w'=>e = .returned (.int .i64 (cfL x y))/\∃os:Array Obj,w'=grow w os:=by
 have h1:=λw'=>Zdcv x y w'
 have h2:=λw'=>Zdcv y x w'
 obtain⟨b1,e1⟩:∃b,ltL x y=b:=⟨_,rfl⟩;obtain⟨b2,e2⟩:∃b,ltL y x=b:=⟨_,rfl⟩;unfold cfL;simp only[e1]at h1⊢;simp only[e2]at h2⊢;have H1:=hid h1;have H2:=hid h2;obtain⟨xa,xs⟩:=x;obtain⟨ya,ys⟩:=y;unfold lv lc at H1 H2;unfold lv;clear h1 h2 e1 e2
 go_enter func74,ntmps74
 go_wp2_with fail
 refine(H1.out _).mono ?_;rintro e w2 ⟨rfl,rfl⟩
 cases b1
 ·go_wp2_with fail
  refine(H2.out _).mono ?_;rintro e w2 ⟨rfl,rfl⟩
  cases b2
  ·go_wp2
   go_ret;exact⟨rfl,_,(by simp only[alloc_eq_grow,grow_grow];rfl)⟩
  ·go_wp2
   go_ret;exact⟨rfl,_,(by simp only[alloc_eq_grow,grow_grow];rfl)⟩
 ·go_wp2
  go_ret;exact⟨rfl,_,(by simp only[alloc_eq_grow,grow_grow];rfl)⟩
instance:Inhabited Lb:=⟨(false,⟨#[]⟩)⟩
theorem Zdcl (x:Lb):(lc x).length=2:=rfl
theorem Zdcm (x:Lb):∀v∈lc x,v.oneCell'=true:=by
 intro v hv;unfold lc at hv;simp at hv
 rcases hv with rfl|rfl<;>rfl
theorem Zcyb (blk size:Nat) (w:World):CmpLays prog 74 #[] lc 2 cfL blk 0 size w:=by
 intro m os dk _ x y;have:=Zcya x y (sortWorldK lc 2 w blk 0 m dk os);rw[Array.append_empty];refine this.mono ?_;rintro e w' ⟨rfl,os',rfl⟩;exact⟨rfl,0,os',rfl⟩
theorem swoL:SWO (ltOf cfL):=by
 have hl:∀x y,ltOf cfL x y=ltL x y:=λx y=>by
  unfold ltOf
  cases h:ltL x y with
  | true=>exact decide_eq_true ((Zcxu x y).2 h)
  | false=>rw[decide_eq_false_iff_not,Zcxu,h];simp
 refine⟨λx=>?_,λx y z h1 h2=>?_,λx y z h1 h2=>?_⟩
 ·rw[hl];exact Zddp x
 ·rw[hl]at *;exact Zddr h1 h2
 ·rw[hl]at *
  have a1:leL y x=true:=by unfold leL;rw[h1];rfl
  have a2:leL z y=true:=by unfold leL;rw[h2];rfl
  have:=Zdcu a2 a1;unfold leL at this;simpa using this
theorem Zdiw (blk cap:Nat) (d:Array Lb) (w:World) (hH:HoldsK lc 2 w blk 0 d) (hblk:blk<w.heap.size) (hsz:d.size<4611686018427387904):
  Calls prog 73 #[.slice (some ⟨blk,0,none⟩) d.size cap,.func (.func 74) #[] #[]] w λe w'=>e = .returned (.tuple #[])/\∃d' n os,PermIn 0 d.size d d'/\SortedIn (ltOf cfL) 0 d.size d'/\w'=sortWorldK lc 2 w blk 0 n d' os:=by
 have e6:Zdin.f 6=73:=by kernel_rfl
 have:=AnyQ.slices_SortFunc lSl 2 isAgg24 sizeOf24 lc Zdcl Zdcm cfL swoL 74 #[] blk 0 cap d w (enters_of func74 (by kernel_rfl) rfl) (Zcyb blk _ w) hH hblk hsz
 rwa [e6]at this
theorem Zdcn:∀(l:List Lb) (t:Nat),t<l.length*2->(lcs l)[t]? =some (lc l[t/2]!)[t % 2]!
 | [],t,h=>by simp at h
 | x::l,t,h=>by
  by_cases h2:t<2
  ·match t,h2 with
   | 0,_=>rfl
   | 1,_=>rfl
  ·obtain⟨u,rfl⟩:∃u,t=u+2:=⟨t-2,by omega⟩
   have:=Zdcn l u (by simp at h;omega);rw[Zdcq,show(u+2)/2=u/2+1 by omega,show(u+2) % 2=u % 2 by omega];simpa using this
theorem Zdjn {w0 W:World} {blk:Nat} {d:Array Lb} (h:SWK lc 2 w0 blk 0 d W):W.os=w0.os/\W.tape=w0.tape/\W.output=w0.output/\w0.heap.size<=W.heap.size/\∀k,k<w0.heap.size->k≠blk->W.heap[k]? =w0.heap[k]?:=by
 have hle:=h.le;obtain⟨n,os,rfl⟩:=h;refine⟨rfl,rfl,rfl,hle,λk hk hne=>?_⟩;show((w0.heap.modify blk (onCells (putCells id 0 (flatK lc 2 d))))++os)[k]? =w0.heap[k]?;rw[Array.getElem?_append_left (by rw[Array.size_modify];exact hk),Array.getElem?_modify,if_neg (λe=>hne e.symm)]
theorem Zdjm {w0 W:World} {blk:Nat} {d:Array Lb} {cur:Array Value} {T:TypeId} {fz:Nat×Nat} (h:SWK lc 2 w0 blk 0 d W) (hb:w0.heap[blk]? =some (.cells cur T fz)):∃cur',W.heap[blk]? =some (.cells cur' T fz)/\cur'.size=cur.size:=by
 obtain⟨m,os,rfl⟩:=h;have hlt:=(Array.getElem?_eq_some_iff.1 hb).1;refine⟨putCells id 0 (flatK lc 2 d) cur,?_,by unfold putCells;simp⟩;show((w0.heap.modify blk (onCells (putCells id 0 (flatK lc 2 d))))++os)[blk]? =_;rw[Array.getElem?_append_left (by rw[Array.size_modify];exact hlt),Array.getElem?_modify,if_pos rfl,hb];rfl
theorem Zdjb (d d':Array Lb) (hp:PermIn 0 d.size d d') (hs:SortedIn (ltOf cfL) 0 d.size d'):d'.toList=slb d.toList:=by
 obtain⟨h1,_,h3⟩:=hp;refine Zdir ?_ ?_
 ·rw[Array.extract_size]at h3
  rwa [show d'.extract 0 d.size=d' by rw[<-h1];exact Array.extract_size]at h3
 ·refine List.pairwise_iff_getElem.2 λi j hi hj hij=>?_
  have hi':i<d'.size:=by simpa using hi
  have hj':j<d'.size:=by simpa using hj
  have:=hs i j (Nat.zero_le _) hij (by omega);rw[getElem!_pos d' j hj',getElem!_pos d' i hi']at this;unfold ltOf at this;rw[decide_eq_false_iff_not,Zcxu]at this;unfold leL;simpa using this
theorem Zdix (B g cap:Nat) (ls:List Lb) (w:World) (hown:w.ownsRow B 24 2 (.slice (some ⟨g,0,none⟩) ls.length cap) ls.length (lcs ls)) (hn:ls.length<=1000000):
  Calls prog 73 #[.slice (some ⟨g,0,none⟩) ls.length cap,.func (.func 74) #[] #[]] w λe w'=>e = .returned (.tuple #[])/\
   w'.ownsRow B 24 2 (.slice (some ⟨g,0,none⟩) ls.length cap) ls.length (lcs (slb ls))/\w'.os=w.os/\w'.tape=w.tape/\w'.output=w.output/\w.heap.size<=w'.heap.size/\∀k,k<w.heap.size->k≠g->w'.heap[k]? =w.heap[k]?:=by
 obtain⟨hlen,hcase⟩:=id hown
 rcases hcase with⟨hv,h0⟩|⟨g',cap',cur,hv,hBg,hg,hnc,hcm,hcs,hct⟩
 ·cases hv
 ·obtain⟨rfl,rfl⟩:g=g'/\cap=cap':=by
   injection hv with e1 _ e2
   injection e1 with e1
   injection e1 with e1
   exact⟨e1,e2⟩
  have hgl:=(Array.getElem?_eq_some_iff.1 hg).1;have hH:HoldsK lc 2 w g 0 ls.toArray:=by
   intro j hj;rw[size_flatK,List.size_toArray]at hj;rw[Nat.zero_add,get_flatK _ _ _ _ (by rw[List.size_toArray];exact hj)];refine⟨?_,hown.frozenAt j⟩;rw[hown.cellAt j hj,Zdcn ls j hj];simp
  have key:=Zdiw g cap ls.toArray w hH hgl (by rw[List.size_toArray];omega);rw[List.size_toArray]at key;refine key.mono ?_;rintro e w' ⟨rfl,d',m,os,hp,hs,rfl⟩;have q:=Zdjb ls.toArray d' (by rw[List.size_toArray];exact hp) (by rw[List.size_toArray];exact hs);simp only at q;have hS:SWK lc 2 w g 0 d' (sortWorldK lc 2 w g 0 m d' os):=⟨m,os,rfl⟩;obtain⟨f1,f2,f3,f4,f5⟩:=Zdjn hS;obtain⟨cur',hg',hcs'⟩:=Zdjm hS hg;have hds:d'.size=ls.length:=by have:=hp.1;simpa using this
  have hhold:=hS.holds hgl hH (by rw[List.size_toArray];exact hds);refine⟨rfl,⟨by rw[Zdcs,(Zdit ls).length_eq],.inr ⟨g,cap,cur',rfl,hBg,hg',hnc,hcm,by rw[hcs'];exact hcs,?_⟩⟩,f1,f2,f3,f4,f5⟩;have hd:d'=(slb ls).toArray:=by rw[<-q]
  have hsl:(slb ls).length=ls.length:=(Zdit ls).length_eq;refine List.ext_getElem? λj=>?_
  by_cases hj:j<ls.length*2
  ·rw[List.getElem?_take_of_lt hj,Zdcn _ j (by rw[hsl];exact hj)]
   have:=(hhold j (by rw[size_flatK,hds];exact hj)).1;rw[Nat.zero_add,get_flatK _ _ _ _ (by rw[hds];exact hj)]at this;unfold World.cell? at this;rw[hg']at this;rw[hd]at this;simpa using this
  ·rw[List.getElem?_eq_none (by rw[List.length_take];omega),List.getElem?_eq_none (by rw[Zdcs,hsl];omega)]
abbrev KV:=Value×Value
def kvE (e:MapEntry):KV:=(e.key,e.val)
def RM (w:World) (b:Nat) (kv:List KV):Prop:=∃es ck,w.heap[b]? =some (.map es ck)/\es.toList.map kvE=kv/\(es.toList.map (·.born)).Nodup/\∀e∈es.toList,e.born<ck
def RI (w:World) (b r:Nat) (kv ss:List KV):Prop:=∃(es:Array MapEntry) (ck since:Nat) (seen:Array Nat) (c0:Nat) (vis:List MapEntry),w.heap[b]? =some (.map es ck)/\es.toList.map kvE=kv/\(es.toList.map (·.born)).Nodup/\(∀e∈es.toList,e.born<ck)/\
 w.heap[r]? =some (.mapIter (some b) since seen c0)/\(∀x∈es.toList,x.born<since)/\since<=c0/\since<=ck/\(∀e∈vis,e∈es.toList)/\seen.toList=vis.map (·.born)/\(vis.map (·.born)).Nodup/\ss=vis.map kvE
variable {P:Program} {w:World} {b r:Nat} {kv ss:List KV}
theorem RM.lt (h:RM w b kv):b<w.heap.size:=by obtain⟨es,ck,h,_⟩:=h;exact(Array.getElem?_eq_some_iff.1 h).1
theorem RM.heap {w':World} (h:RM w b kv) (hb:w'.heap[b]? =w.heap[b]?):RM w' b kv:=by obtain⟨es,ck,h1,h2⟩:=h;exact⟨es,ck,hb.trans h1,h2⟩
theorem RM.below {B:Nat} {w':World} (h:RM w b kv) (hb:Below B w w') (hlt:b<B):RM w' b kv:=h.heap (hb.block b hlt)
theorem RI.rm (h:RI w b r kv ss):RM w b kv:=by obtain⟨es,ck,_,_,_,_,h1,h2,h3,h4,_⟩:=h;exact⟨es,ck,h1,h2,h3,h4⟩
theorem RI.lt (h:RI w b r kv ss):r<w.heap.size:=by obtain⟨es,ck,_,_,_,_,_,_,_,_,h,_⟩:=h;exact(Array.getElem?_eq_some_iff.1 h).1
theorem RI.ne (h:RI w b r kv ss):r≠b:=by
 obtain⟨es,ck,_,_,_,_,h1,_,_,_,h,_⟩:=h;intro e;rw[e,h1]at h;cases h
theorem RI.heap {w':World} (h:RI w b r kv ss) (hb:w'.heap[b]? =w.heap[b]?) (hr:w'.heap[r]? =w.heap[r]?):RI w' b r kv ss:=by
 obtain⟨es,ck,s,se,c,v,h1,h2,h3,h4,h5,rest⟩:=h;exact⟨es,ck,s,se,c,v,hb.trans h1,h2,h3,h4,hr.trans h5,rest⟩
theorem RI.below {B:Nat} {w':World} (h:RI w b r kv ss) (hb:Below B w w') (h1:b<B) (h2:r<B):RI w' b r kv ss:=h.heap (hb.block b h1) (hb.block r h2)
theorem RM.range {t k e:TypeId} (h:RM w b kv) (ht:P.underlying t=some (.map k e)):
  ∃o,(Instr.range t (.map (some b))).run P w = .ok (.pointer (some ⟨w.heap.size,0,none⟩)) (w.alloc o)/\RI (w.alloc o) b w.heap.size kv []:=by
 have hlt:=h.lt;obtain⟨es,ck,h1,h2,h3,h4⟩:=h;exact⟨_,run_range_map w t k e b es ck ht h1,es,ck,ck,#[],ck,[],((MapKept.heap_alloc w _).2 b hlt).trans h1,h2,h3,h4,(MapKept.heap_alloc w _).1,h4,Nat.le_refl _,Nat.le_refl _,by simp,rfl,List.nodup_nil,rfl⟩
theorem Zcxr {es:List MapEntry} (hn:(es.map (·.born)).Nodup) {x y:MapEntry} (hx:x∈es) (hy:y∈es) (h:x.born=y.born):x=y:=by
 induction es with
 | nil=>cases hx
 | cons e es ih=>
  rw[List.map_cons,List.nodup_cons]at hn
  rcases List.mem_cons.1 hx with rfl|hx1<;>rcases List.mem_cons.1 hy with rfl|hy1
  ·rfl
  ·exact absurd (by rw[h];exact List.mem_map_of_mem hy1) hn.1
  ·exact absurd (by rw[<-h];exact List.mem_map_of_mem hx1) hn.1
  ·exact ih hn.2 hx1 hy1
theorem Zdfd {es:List MapEntry} (hn:(es.map (·.born)).Nodup):es.Nodup:=List.Pairwise.of_map (·.born) (λ_ _ hne e=>hne (congrArg _ e)) hn
theorem Zdbw {α:Type}:∀ {l m:List α},l.Nodup->(∀x∈l,x∈m)->l.length<=m.length
 | [],_,_,_=>by simp
 | x::l,m,hn,hs=>by
  obtain⟨h1,h2⟩:=List.nodup_cons.1 hn;obtain⟨a,b,rfl⟩:=List.append_of_mem (hs x (by simp));have:=Zdbw (l:=l) (m:=a++b) h2 λy hy=>by
   have hy2:=hs y (by simp[hy])
   rcases List.mem_append.1 hy2 with h|h
   ·exact List.mem_append_left _ h
   ·rcases List.mem_cons.1 h with rfl|h
    ·exact absurd hy h1
    ·exact List.mem_append_right _ h
  simp only[List.length_append,List.length_cons]at this⊢;omega
theorem RI.next (h:RI w b r kv ss) (ty:TypeId):
  (ss.Perm kv/\(Instr.next (.pointer (some ⟨r,0,none⟩)) false ty).run P w = .ok (.tuple #[.bool false]) w)∨
  ∃k v w',(k,v)∈kv/\ss.length<kv.length/\(Instr.next (.pointer (some ⟨r,0,none⟩)) false ty).run P w = .ok (.tuple #[.bool true,k,v]) w'/\RI w' b r kv (ss ++ [(k,v)])/\w.grownBy w' (some r)/\w'.heap.size=w.heap.size/\
   (Instr.entry (.pointer (some ⟨r,0,none⟩))).run P w' = .ok (.tuple #[k,v]) w':=by
 have hne:=h.ne;obtain⟨es,ck,since,seen,c0,vis,hb,rfl,hn,hck,hr,hold,hsc,hsk,hv,hse,hvn,rfl⟩:=h;have hmem:∀x:MapEntry,x∈es.toList->seen.contains x.born=true->x∈vis:=λx hx hc=>by
  have:x.born∈seen.toList:=by simpa using hc
  rw[hse]at this;obtain⟨y,hy,e⟩:=List.mem_map.1 this;obtain rfl:=Zcxr hn (hv y hy) hx e;exact hy
 rcases run_next_at (P:=P) w ty r b since c0 seen es ck hr hb hold hsc with⟨h0,hrun⟩|⟨e,he,w1,hal,hrun⟩
 ·refine .inl ⟨?_,hrun⟩
  have hp:vis.Perm es.toList:=(List.perm_ext_iff_of_nodup (Zdfd hvn) (Zdfd hn)).2 λx=>⟨hv x,λhx=>hmem x hx (all_seen es seen h0 x hx)⟩
  exact hp.map kvE
 ·obtain⟨hem,hes⟩:=mem_left he
  have hr1:w1.heap[r]? =some (.mapIter (some b) since seen c0):=by rcases hal with rfl|rfl<;>exact hr
  have hb1:w1.heap[b]? =some (.map es ck):=by rcases hal with rfl|rfl<;>exact hb
  have hset:=MapKept.heap_set (o':= .mapIter (some b) since (seen.push e.born) ck) hr1;have hb':(ChangeMaps.setBlock w1 r (.mapIter (some b) since (seen.push e.born) ck)).heap[b]? =some (.map es ck):=(hset.2 b (λe1=>hne e1.symm)).trans hb1;have hnew:e.born∉vis.map (·.born):=by
   rw[<-hse];intro hx;have:seen.contains e.born=true:=by simpa using hx
   rw[hes]at this;cases this
  have hvn':((vis ++ [e]).map (·.born)).Nodup:=by
   rw[List.map_append,List.nodup_append];refine⟨hvn,by simp,λx hx y hy=>?_⟩;simp at hy;subst hy;exact λe1=>hnew (e1▸hx)
  have hv':∀x∈vis ++ [e],x∈es.toList:=λx hx=>by
   rcases List.mem_append.1 hx with hx|hx
   ·exact hv x hx
   ·simp at hx;subst hx;exact hem
  refine .inr ⟨e.key,e.val,_,List.mem_map.2 ⟨e,hem,rfl⟩,?_,hrun,⟨es,ck,since,seen.push e.born,ck,vis ++ [e],hb',rfl,hn,hck,hset.1,hold,hsk,hsk,hv',?_,hvn',?_⟩,?_,?_,run_entry_at _ r b since seen es ck e hset.1 hb' hem hn⟩
  ·have:=Zdbw (Zdfd hvn') hv'
   simp only[List.length_append,List.length_cons,List.length_nil,List.length_map]at this⊢;omega
  ·simp[hse]
  ·simp[kvE]
  ·rcases hal with rfl|rfl<;>exact⟨rfl,rfl,rfl,by simp[ChangeMaps.setBlock],λi _ hi=>hset.2 i (λe1=>hi (by rw[e1]))⟩
  ·rcases hal with rfl|rfl<;>simp[ChangeMaps.setBlock]
section
variable {ops:Array Oper} {rest:List Oper} {o:Oper} {a:Act} {Q:Exit->Act->World->Prop}
end
end Go.Proofs.YtokogjhcidkckaaGreatDoor
