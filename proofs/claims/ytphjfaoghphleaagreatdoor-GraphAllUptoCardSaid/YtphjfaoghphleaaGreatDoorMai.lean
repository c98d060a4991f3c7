import Derived.Test.YtphjfaoghphleaaGreatDoorMah
import Derived.Shelf.SlSortCmp.WholeK
set_option maxRecDepth 1000000
set_option maxHeartbeats 4000000
namespace Go.Proofs.YtphjfaoghphleaaGreatDoor
namespace Exe
open Go.Lib (hid)
open Go.Proofs.Tryz Go Go.RowKit
theorem mixed:prog.follows .mixedOrders=true:=by kernel_rfl
def Zbfb (P:Program):Bool:=P.funcs.toList.all λfn=>match fn.body with
 | some _=> !(fn.name == "runtime.NumGoroutine")
 | none=>true
theorem Zctv {P:Program} (h:Zbfb P=true):Zcmj P:=by
 intro f a c d b;unfold Zbfb at h;have e:a∈P.funcs.toList:=by
  have:=Array.mem_of_getElem? d;simpa using this
 have:=List.all_eq_true.1 h a e;rw[b]at this;unfold plainName;simpa using this
theorem Zctu:Zcmj prog:=Zctv (by kernel_rfl)
theorem hz51:Zp prog 148=2:=by kernel_rfl
theorem hz5:Zp prog 5=1:=by kernel_rfl
theorem hb70:Zcqx prog 193=true:=by kernel_rfl
theorem ins:InsH prog 193 148:=λh i R v a f w b c d e g=>Ztd 0 h i R v a f w b c (Nat.zero_le _) d e g
abbrev exts:ExtT:=[(225,Extern.BytealgCompare.compare),(326,Extern.BytealgIndexByte.indexByte),(361,Extern.BytealgCount.count),(395,Extern.BytealgIndex.index)]
theorem Zcpo:∀p∈exts,Ext0 prog p.1 p.2:=by
 intro p a;simp only[exts,List.mem_cons,List.not_mem_nil,or_false]at a
 rcases a with rfl|rfl|rfl|rfl
 ·exact run_callFunc_extern func225 (by kernel_rfl) (by kernel_rfl) (by kernel_rfl) (by kernel_rfl)
 ·exact run_callFunc_extern func326 (by kernel_rfl) (by kernel_rfl) (by kernel_rfl) (by kernel_rfl)
 ·exact run_callFunc_extern func361 (by kernel_rfl) (by kernel_rfl) (by kernel_rfl) (by kernel_rfl)
 ·exact run_callFunc_extern func395 (by kernel_rfl) (by kernel_rfl) (by kernel_rfl) (by kernel_rfl)
theorem Zcre:∀f∈[353],∀v (w:World),(callFunc f #[v]).run prog w = .ok (.value v) w:=by
 intro f a v w;obtain rfl:f=353:=by simpa using a
 rw[run_callFunc_extern func353 (by kernel_rfl) (by kernel_rfl) (by kernel_rfl) (e:=Extern.AbiNoEscape.same) (by kernel_rfl)];rfl
theorem Zctb:KS prog 5 (onFn (nzK 377 5)):=
 Zcta (ps:=#[3]) (rs:=#[290]) (t:=290) rfl (by kernel_rfl) hz5 (run_callFunc_extern func377 (by kernel_rfl) (by kernel_rfl) (by kernel_rfl) (by kernel_rfl))
noncomputable def K0a:KF:=orK (onFn (nzK 377 5)) (orK (onFn (idK [353])) (orK (onFn (insK 193 148)) (onFn (extK prog exts))))
theorem Zcme:KS prog 5 K0a:=Zctm Zctb (Zctm (Zcrd Zcre) (Zctm (Zcrj Zctu hb70 hz51 ins) (Zcpn Zcpo)))
theorem hb74:Zcqx prog 197=true:=by kernel_rfl
theorem hb19:Zcqx prog 100=true:=by kernel_rfl
theorem hb5:Zcqx prog 71=true:=by kernel_rfl
theorem run1:okV (KX prog 5 100000 K0a 60 (.fn 197) [] 100 (hx 301 opNames))=true:=by kernel_rfl
theorem beg1 {w:World} (a:GX 5 301 opNames w):Calls prog 197 #[] w λe w'=>e = .returned (.bool true)/\Below w.heap.size w w':=
 Zcuu (Zcmh Zcme mixed Zctu 100000 60) Zctu hb74 (by decide) (by decide) run1 a
noncomputable def K0b:KF:=orK (onFn (Zcsp [197] 301 opNames)) K0a
theorem Zcmf:KS prog 5 K0b:=by
 refine Zctm (Zcsq Zctu (by decide) ?_) Zcme;intro f a;have e:f=197:=by simpa using a
 rw[e];exact⟨hb74,λw b=>beg1 b⟩
theorem run4:okV (KX prog 5 100000 K0b 60 (.fn 100) [] 100 (hx 301 opNames))=true:=by kernel_rfl
theorem beg4 {w:World} (a:GX 5 301 opNames w):Calls prog 100 #[] w λe w'=>e = .returned (.bool true)/\Below w.heap.size w w':=
 Zcuu (Zcmh Zcmf mixed Zctu 100000 60) Zctu hb19 (by decide) (by decide) run4 a
section
variable {P:Program} {G:Nat}
def runM (P:Program) (G:Nat) (K:KF) (D:RF) (top:Bool):Nat->Nat->Code->St->Option (Nat×Code×St)
 | n,0,c,s=>some (n,c,s)
 | 0,_+1,_,_=>none
 | n+1,m+1,c,s=>match c with
  | .seq a b=>match Zcol P G K D top n a s with
   | some (.normal,s1)=>runM P G K D top n m b s1
   | _=>none
  | _=>none
theorem Zcup {K:KF} {D:RF} {d:Bool}:∀ {n m:Nat} {c:Code} {s:St} {n':Nat} {c':Code} {s':St},runM P G K D d n m c s=some (n',c',s')->Zcol P G K D d n c s=Zcol P G K D d n' c' s'
 | n,0,c,s,n',c',s',h=>by simp only[runM,Option.some.injEq,Prod.mk.injEq]at h;obtain⟨rfl,rfl,rfl⟩:=h;rfl
 | 0,m+1,c,s,n',c',s',h=>by simp[runM]at h
 | n+1,m+1,c,s,n',c',s',h=>by
  simp only[runM]at h;split at h
  ·split at h
   ·rename_i a b f e
    rw[<-Zcup h];simp only[Zcol,e]
   ·cases h
  ·cases h
def Zcox:Nat->Code->Code
 | 0,c=>c
 | m+1,c=>match c with
  | .seq _ b=>Zcox m b
  | c=>c
def outX (P:Program) (fn:Func) (k:Nat):Option (Exit×St)->Option (Value×Nat×Hp)
 | some (.normal,s)=>finX P fn k s
 | some (.ret,s)=>finX P fn k s
 | _=>none
theorem Zcoh {K:KF} {a:Nat} {f:FuncId} {b:Func} {c:Code} (e:P.funcs[f]? =some b) (d:b.body=some c) {k:Nat} {h:Hp} (g:Nat.blt b.ntmps 16000000=true):
  Zcog P G a K f [] k h=outX P b k (Zcol P G K (Zcov P G K) true a c ⟨⟨.lf,b.ntmps⟩,k,h⟩):=by
 unfold Zcog;simp only[e,d,List.length_nil,Nat.zero_add,g,cond_true,ini,Nat.sub_zero];unfold outX;split<;>simp_all
theorem Zcur {b:KF} {a N:Nat} {f:FuncId} {d:Func} {c:Code} {h:Hp} {k:Nat} (h0:b (.fn f) [] k h=none) (i:P.funcs[f]? =some d) (e:d.body=some c) (j:Nat.blt d.ntmps 16000000=true) {n':Nat} {c':Code} {s':St}
  (g:Zcol P G (KX P G a b N) (Zcov P G (KX P G a b N)) true a c ⟨⟨.lf,d.ntmps⟩,k,h⟩=Zcol P G (KX P G a b N) (Zcov P G (KX P G a b N)) true n' c' s')
  (l:okV (outX P d k (Zcol P G (KX P G a b N) (Zcov P G (KX P G a b N)) true n' c' s'))=true):okV (KX P G a b (N+1) (.fn f) [] k h)=true:=by
 simp only[KX,h0,Zcoh i e j,g,l]
def regM (P:Program) (G:Nat) (K:KF) (ops:Array Oper) (T:List Nat):Nat->List (Nat×Nat)->List (Nat×Nat)->St->Option (List (Nat×Nat)×List (Nat×Nat)×St)
 | 0,q,g,s=>some (q,g,s)
 | _+1,[],_,_=>none
 | n+1,(i,m)::q,g,s=>match ops[i]? with
  | some o=>match m with
   | 0=>match Zcvs P G ops s o with
    | some (rd,v)=>regM P G K ops T n q (addG i rd g) ⟨s.e.put o.dst v,s.k,s.h⟩
    | none=>none
   | 1=>match opRO P G K ops o (Zcml T i g) s with
    | some s1=>regM P G K ops T n q (actG T i g) s1
    | none=>none
   | 2=>match Zczw P G ops o s with
    | some s1=>regM P G K ops T n q (actG T i g) s1
    | none=>none
   | m+3=>match ops[m]? with
    | some oi=>match Zczw P G ops oi s with
     | some _=>match opRO P G K ops o (Zcml T i g) s with
      | some s1=>regM P G K ops T n q (actG T i g) s1
      | none=>none
     | none=>none
    | none=>none
  | none=>none
theorem Zdhb {K:KF} {c:Array Oper} {T:List Nat}:∀ {n:Nat} {q g:List (Nat×Nat)} {s:St} {e d:List (Nat×Nat)} {s':St},regM P G K c T n q g s=some (e,d,s')->regS P G K c T q g s=regS P G K c T e d s'
 | 0,q,g,s,e,d,s',h=>by simp only[regM,Option.some.injEq,Prod.mk.injEq]at h;obtain⟨rfl,rfl,rfl⟩:=h;rfl
 | n+1,[],g,s,e,d,s',h=>by simp[regM]at h
 | n+1,(i,m)::q,g,s,e,d,s',h=>by
  match m,h with
  | 0,h=>
   simp only[regM]at h;split at h
   case h_2=>cases h
   rename_i o b
   split at h
   case h_2=>cases h
   rename_i a
   rw[<-Zdhb h];simp only[regS,b,a]
  | 1,h=>
   simp only[regM]at h;split at h
   case h_2=>cases h
   rename_i o b
   split at h
   case h_2=>cases h
   rename_i a
   rw[<-Zdhb h];simp only[regS,b,a]
  | 2,h=>
   simp only[regM]at h;split at h
   case h_2=>cases h
   rename_i o b
   split at h
   case h_2=>cases h
   rename_i a
   rw[<-Zdhb h];simp only[regS,b,a]
  | m+3,h=>
   simp only[regM]at h;split at h
   case h_2=>cases h
   rename_i o b
   split at h
   case h_2=>cases h
   rename_i k f
   split at h
   case h_2=>cases h
   rename_i j
   split at h
   case h_2=>cases h
   rename_i a
   rw[<-Zdhb h];simp only[regS,b,f,j,a]
theorem Zdhh {K:KF} {b:Bool} {n f:Nat} {a:Array Oper} {c:Code} {q:List (Nat×Nat)} {s s1:St} (d:Zdga a=some q) (e:regS P G K a [] q [] s=some s1):
  Zcol P G K (Zcov P G K) b (n+2) (.seq (.region f a true) c) s=Zcol P G K (Zcov P G K) b (n+1) c s1:=by
 simp only[Zcol,Zcov,d,e]
end
noncomputable def K0c:KF:=orK (onFn (Zcsp [100] 301 opNames)) K0a
theorem Zcmg:KS prog 5 K0c:=by
 refine Zctm (Zcsq Zctu (by decide) ?_) Zcme;intro f a;have e:f=100:=by simpa using a
 rw[e];exact⟨hb19,λw b=>beg4 b⟩
abbrev bT:Value:= .bool true
abbrev bF:Value:= .bool false
abbrev pP (n:Nat):Value:= .pointer (some ⟨n,0,none⟩)
abbrev sL (n a b:Nat):Value:= .slice (some ⟨n,0,none⟩) a b
abbrev sT (l:List UInt8):Value:= .string ⟨⟨l⟩⟩
abbrev aG (l:List Value):Value:= .agg ⟨l⟩
abbrev nI (n:Int):Value:= .int .i64 n
abbrev mP (n:Nat):Value:= .map (some n)
abbrev fL (l:List UInt8):Value:=aG [bF,sT l]
abbrev fR (l:List UInt8):Value:=aG [bT,sT l]
abbrev z0:Value:= .slice none 0 0
abbrev tO:Tr:= .lf
abbrev tN (v:Value) (a b:Tr):Tr:= .nd v a b
abbrev tL (v:Value):Tr:= .nd v .lf .lf
abbrev tT:Tr:=tL bT
def litA:St:=⟨⟨(tN bF (tN (pP 212) (tN (sL 676 2 2) (tN (nI 3) (tN (aG [(sT [120]),(nI 4),(sL 206 1 1),z0,(nI 0)]) (tL (sL 688 1 1)) (tL (sL 706 1 1))) (tN (sL 216 2 2) (tL bF) (tN (aG [(sT [97]),(nI 1),(sL 994 1 1),z0,(nI 0)]) tO tO))) (tN (sL 202 2 2) (tN (aG [(sT [114]),(sL 200 2 2),(sL 202 2 2),z0,(sL 210 3 3)]) (tL bF) (tN (.tuple ⟨[(nI 3),(sT [114])]⟩) tO tO)) (tN (fR [122]) (tL bF) (tL (sL 998 2 2))))) (tN (nI 0) (tN (.tuple ⟨[]⟩) (tN (aG [(sT [121]),(nI 2),(sL 208 1 1),z0,(nI 0)]) (tL (sL 498 2 2)) (tL (nI 0))) (tN (aG [(sT [114]),(sL 200 2 2),(sL 202 2 2),z0,(sL 210 3 3)]) (tL bF) (tN (aG [(sT [115]),(sL 992 1 1),(sL 990 1 1),z0,(sL 996 1 1)]) tO tO))) (tN (aG [(sT [116]),(nI 3),(sL 204 1 1),z0,(nI 0)]) (tN (fR [113,10,112]) (tL (sL 676 2 2)) (tL (sL 992 1 1))) (tN (sL 676 2 2) (tN (.tuple ⟨[(nI 0),(sT [])]⟩) tO tO) (tL (nI 3)))))) (tN (sL 498 2 2) (tN (pP 690) (tN (sT [114]) (tN (sL 208 1 1) (tL (pP 690)) (tN (.tuple ⟨[(nI 0),(sT [])]⟩) tO tO)) (tN (sL 498 2 2) (tL bF) (tL (sL 996 1 1)))) (tN (sL 204 1 1) (tN (aG [(sT [114]),(sL 200 2 2),(sL 202 2 2),z0,(sL 210 3 3)]) (tL bF) (tL (sL 990 1 1))) (tN (sL 512 1 1) (tL bF) (tN (.tuple ⟨[(nI 3),(sT [114])]⟩) tO tO)))) (tN (sT []) (tN (sL 200 2 2) (tN (sL 210 3 3) (tL (nI 2)) (tL (sT []))) (tN (sL 510 1 1) (tL (pP 690)) (tN (aG [(sT [114]),(sL 200 2 2),(sL 202 2 2),z0,(sL 210 3 3)]) tO tO))) (tN (sL 206 1 1) (tN (fR []) (tL (nI 2)) (tL (sL 994 1 1))) (tN (aG [(sT [97]),(sT [50,10,49])]) (tN (aG [(sT [114]),(sL 200 2 2),(sL 202 2 2),z0,(sL 210 3 3)]) tO tO) (tL (sT [114]))))))),181⟩,735,[(998,.cells [(sT [115]),(sL 992 1 1),(sL 990 1 1),z0,(sL 996 1 1),(sT [114]),(sL 200 2 2),(sL 202 2 2),z0,(sL 210 3 3)] 50 0 false),(996,.cells [(sT [97]),(nI 1),(sL 994 1 1),z0,(nI 0)] 58 0 false),(994,.cells [(sT [120])] 9 0 false),(992,.cells [(sT [120])] 9 0 false),(990,.cells [(sT [97])] 9 0 false),(706,.cells [(sT [114]),(sL 200 2 2),(sL 202 2 2),z0,(sL 210 3 3)] 50 0 false),(703,.cells [(sT [97]),(sT [50,10,49])] 148 0 false),(700,.cells [(sT [97]),(sT [50,10,49])] 148 0 false),(696,.cells [(sT [97])] 9 0 false),(692,.cells [(sT [97]),(sT [50,10,49])] 148 0 false),(690,.cells [(sL 703 1 1)] 188 0 false),(688,.cells [(sT [97]),(sT [50,10,49])] 148 0 false),(676,.cells [bF,(sT []),bT,(sT [122])] 143 0 false),(512,.cells [bT,(sT [122])] 143 0 false),(510,.cells [(sT [98])] 9 0 false),(498,.cells [bT,(sT [50,10]),bF,(sT [])] 143 0 false),(216,.cells [bT,(sT [113,10,112]),bT,(sT [])] 143 0 false),(212,.cells [(sT [114]),(sL 200 2 2),(sL 202 2 2),z0,(sL 210 3 3)] 50 0 false),(210,.cells [(sT [116]),(nI 3),(sL 204 1 1),z0,(nI 0),(sT [120]),(nI 4),(sL 206 1 1),z0,(nI 0),(sT [121]),(nI 2),(sL 208 1 1),z0,(nI 0)] 58 0 false),(208,.cells [(sT [98])] 9 0 false),(206,.cells [(sT [116])] 9 0 false),(204,.cells [(sT [97])] 9 0 false),(202,.cells [(sT [120]),(sT [121])] 9 0 false),(200,.cells [(sT [97]),(sT [98])] 9 0 false),(2,.cells [(sT []),(sT [99,111,112,121]),(sT [110,101,101,100]),(sT [115,111,114,116]),(sT [99,111,117,110,116]),(sT [99,111,110,99,97,116]),(sT [108,105,116,101,114,97,108]),(sT [115,101,108,101,99,116]),(sT [114,101,112,108,97,99,101]),(sT [112,114,101,102,105,120])] 301 9223372036854775808 true)]⟩
noncomputable def Zcxl:Code:=match prog.funcs[71]? with
 | some fn=>match fn.body with
  | some c=>c
  | none=> .skip
 | none=> .skip
noncomputable def KA:KF:=KX prog 5 100000 K0c 59
noncomputable def fnA:Func:=match prog.funcs[71]? with
 | some fn=>fn
 | none=>default
theorem Zdaa:prog.funcs[71]? =some fnA:=by kernel_rfl
theorem Zcxm:fnA.body=some Zcxl:=by kernel_rfl
theorem Zdfg:fnA.ntmps=181:=by kernel_rfl
theorem Zdfe:K0c (.fn 71) [] 100 (hx 301 opNames)=none:=by kernel_rfl
theorem runA:runM prog 5 KA (Zcov prog 5 KA) true 100000 8 Zcxl ⟨⟨.lf,181⟩,100,hx 301 opNames⟩=some (99992,Zcox 8 Zcxl,litA):=by kernel_rfl
theorem runB:okV (outX prog fnA 100 (Zcol prog 5 KA (Zcov prog 5 KA) true 99992 (Zcox 8 Zcxl) litA))=true:=by kernel_rfl
theorem run7:okV (KX prog 5 100000 K0c 60 (.fn 71) [] 100 (hx 301 opNames))=true:=
 Zcur Zdfe Zdaa Zcxm (by rw[Zdfg];rfl) (by rw[Zdfg];exact Zcup runA) runB
theorem beg7 {w:World} (a:GX 5 301 opNames w):Calls prog 71 #[] w λe w'=>e = .returned (.bool true)/\Below w.heap.size w w':=
 Zcuu (Zcmh Zcmg mixed Zctu 100000 60) Zctu hb5 (by decide) (by decide) run7 a
end Exe
section
open Go.Lib (hid)
open Go.Proofs.Tryz Go.RowKit Go.Shelf
abbrev Lb:=Bool×ByteArray
def lv (l:Lb):Value:= .agg #[.bool l.1,.string l.2]
def lc (l:Lb):List Value:=[.bool l.1,.string l.2]
def ltL (a b:Lb):Bool:=if a.1=b.1 then decide (a.2.data.toList<b.2.data.toList)else b.1
def leL (a b:Lb):Bool:= !ltL b a
theorem Zdcj {a b:ByteArray} (h:a.data.toList=b.data.toList):a=b:=by
 cases a;cases b;simp only[ByteArray.mk.injEq]at h⊢;exact Array.ext' h
theorem Zddp (a:Lb):ltL a a=false:=by
 unfold ltL;rw[if_pos rfl,decide_eq_false_iff_not];exact List.lt_irrefl _
theorem Zddr {a b c:Lb} (g:ltL a b=true) (h:ltL b c=true):ltL a c=true:=by
 obtain⟨d,i⟩:=a;obtain⟨e,j⟩:=b;obtain⟨f,k⟩:=c;unfold ltL at *
 cases d<;>cases e<;>cases f<;>simp_all
 all_goals exact List.lt_trans g h
theorem Zdct {a b:Lb} (e:leL a b=true) (f:leL b a=true):a=b:=by
 obtain⟨c,g⟩:=a;obtain⟨d,h⟩:=b;unfold leL ltL at *
 cases c<;>cases d<;>simp_all
 all_goals exact Zdcj (List.le_antisymm e f)
theorem Zdcu {a b c:Lb} (g:leL a b=true) (h:leL b c=true):leL a c=true:=by
 obtain⟨d,i⟩:=a;obtain⟨e,j⟩:=b;obtain⟨f,k⟩:=c;unfold leL ltL at *
 cases d<;>cases e<;>cases f<;>simp_all
 all_goals exact List.le_trans g h
theorem Zddq {a b:Lb} (h:leL a b=true) (c:a≠b):ltL a b=true:=by
 cases d:ltL a b with
 | true=>rfl
 | false=>exact absurd (Zdct h (by unfold leL;rw[d];rfl)) c
def ilb (x:Lb):List Lb->List Lb
 | []=>[x]
 | y::ys=>if ltL y x then y::ilb x ys else x::y::ys
def slb:List Lb->List Lb
 | []=>[]
 | x::xs=>ilb x (slb xs)
theorem Zdbj (x:Lb):∀l:List Lb,(ilb x l).Perm (x::l)
 | []=>List.Perm.refl _
 | y::ys=>by
  unfold ilb;split
  ·exact((Zdbj x ys).cons y).trans (List.Perm.swap x y ys)
  ·exact List.Perm.refl _
theorem Zdit:∀l:List Lb,(slb l).Perm l
 | []=>List.Perm.refl _
 | x::xs=>(Zdbj x _).trans ((Zdit xs).cons x)
abbrev Slb (l:List Lb):Prop:=l.Pairwise λa b=>leL a b=true
theorem Zdbk (x:Lb):∀ {l:List Lb},Slb l->Slb (ilb x l)
 | [],_=>List.pairwise_singleton _ _
 | y::ys,h=>by
  have d:=List.pairwise_cons.1 h;unfold ilb;split
  ·rename_i a
   refine List.pairwise_cons.2 ⟨λz b=>?_,Zdbk x d.2⟩
   rcases List.mem_cons.1 ((Zdbj x ys).mem_iff.1 b)with rfl|b
   ·unfold leL
    cases e:ltL z y with
    | false=>rfl
    | true=>have:=Zddr e a;rw[Zddp]at this;cases this
   ·exact d.1 z b
  ·rename_i a
   have c:leL x y=true:=by unfold leL;simpa using a
   refine List.pairwise_cons.2 ⟨λz b=>?_,h⟩
   rcases List.mem_cons.1 b with rfl|b
   ·exact c
   ·exact Zdcu c (d.1 z b)
theorem Zdiu:∀l:List Lb,Slb (slb l)
 | []=>List.Pairwise.nil
 | x::xs=>Zdbk x (Zdiu xs)
theorem Zdis {l l':List Lb} (f:l.Perm l') (h:Slb l) (c:Slb l'):l=l':=
 List.Perm.eq_of_pairwise (le:=λa b=>leL a b=true) (λ_ _ _ _ d e=>Zdct d e) h c f
theorem Zdir {l m:List Lb} (a:l.Perm m) (h:Slb l):l=slb m:=Zdis (a.trans (Zdit m).symm) h (Zdiu m)
theorem Zdip {l m:List Lb} (a:l.Perm m):slb l=slb m:=Zdir ((Zdit l).trans a) (Zdiu l)
def cfL (a b:Lb):Int:=if ltL a b then -1 else if ltL b a then 1 else 0
theorem Zcxu (a b:Lb):(cfL a b<0)↔ltL a b=true:=by
 unfold cfL;split
 ·rename_i h;simp[h]
 ·rename_i h
  split<;>simp[h]
def lcs (l:List Lb):List Value:=(l.map lc).flatten
theorem Zdcq (x:Lb) (l:List Lb):lcs (x::l) = .bool x.1 :: .string x.2::lcs l:=rfl
theorem Zdcs:∀l:List Lb,(lcs l).length=l.length*2
 | []=>rfl
 | x::l=>by rw[Zdcq];simp only[List.length_cons,Zdcs l];omega
theorem Zdco (l m:List Lb):lcs (l++m)=lcs l++lcs m:=by unfold lcs;rw[List.map_append,List.flatten_append]
open Go.Sort
def Zdin:Go.Shelf.Ren:=⟨fun|0=>0|1=>1|2=>2|6=>72|14=>109|15=>110|18=>333|20=>153|21=>154|22=>155|23=>156|24=>157|25=>158|26=>159|27=>160|28=>161|29=>162|46=>217|47=>218|48=>219|49=>220|50=>221|57=>267|60=>407|61=>408|62=>409|63=>410|64=>411|65=>412|66=>413|67=>414|68=>415|69=>416|70=>417|71=>418|72=>419|73=>420|74=>421|75=>427|n=>n,fun|0=>0|1=>1|2=>2|3=>3|4=>4|5=>5|6=>6|7=>7|8=>8|9=>9|10=>10|11=>11|12=>12|13=>13|14=>14|15=>15|16=>16|17=>17|18=>18|19=>19|20=>20|21=>21|22=>35|23=>113|24=>24|25=>114|26=>126|27=>131|30=>224|37=>157|38=>158|39=>159|40=>68|42=>197|44=>202|45=>203|46=>204|47=>205|48=>206|49=>207|50=>208|51=>209|52=>210|53=>211|54=>212|55=>213|66=>258|67=>259|68=>260|69=>261|70=>262|71=>263|76=>307|77=>308|78=>309|81=>299|82=>403|83=>404|84=>405|85=>406|86=>407|87=>74|88=>408|89=>409|90=>410|91=>335|92=>411|93=>412|94=>413|95=>414|96=>356|n=>n,fun|n=>n⟩
theorem lSl:Go.Proofs.SlLaysF0.n6 prog Zdin:={
 mixed:=by kernel_rfl
 f6:=⟨"slices.SortFunc[[]shipwright/api.Label,shipwright/api.Label]",by decide,func72.trans (congrArg some (by kernel_rfl))⟩
 f14:=⟨"slices.pdqsortCmpFunc[shipwright/api.Label]",by decide,func109.trans (congrArg some (by kernel_rfl))⟩
 f15:=func110.trans (congrArg some (by kernel_rfl))
 f20:=⟨"slices.insertionSortCmpFunc[shipwright/api.Label]",by decide,func153.trans (congrArg some (by kernel_rfl))⟩
 f21:=⟨"slices.heapSortCmpFunc[shipwright/api.Label]",by decide,func154.trans (congrArg some (by kernel_rfl))⟩
 f22:=⟨"slices.breakPatternsCmpFunc[shipwright/api.Label]",by decide,func155.trans (congrArg some (by kernel_rfl))⟩
 f23:=⟨"slices.choosePivotCmpFunc[shipwright/api.Label]",by decide,func156.trans (congrArg some (by kernel_rfl))⟩
 f24:=⟨"slices.reverseRangeCmpFunc[shipwright/api.Label]",by decide,func157.trans (congrArg some (by kernel_rfl))⟩
 f25:=⟨"slices.partialInsertionSortCmpFunc[shipwright/api.Label]",by decide,func158.trans (congrArg some (by kernel_rfl))⟩
 f26:=⟨"slices.partitionEqualCmpFunc[shipwright/api.Label]",by decide,func159.trans (congrArg some (by kernel_rfl))⟩
 f27:=⟨"slices.partitionCmpFunc[shipwright/api.Label]",by decide,func160.trans (congrArg some (by kernel_rfl))⟩
 f28:=func161.trans (congrArg some (by kernel_rfl))
 f29:=func162.trans (congrArg some (by kernel_rfl))
 f46:=⟨"slices.siftDownCmpFunc[shipwright/api.Label]",by decide,func217.trans (congrArg some (by kernel_rfl))⟩
 f47:=func218.trans (congrArg some (by kernel_rfl))
 f48:=func219.trans (congrArg some (by kernel_rfl))
 f49:=⟨"slices.medianAdjacentCmpFunc[shipwright/api.Label]",by decide,func220.trans (congrArg some (by kernel_rfl))⟩
 f50:=⟨"slices.medianCmpFunc[shipwright/api.Label]",by decide,func221.trans (congrArg some (by kernel_rfl))⟩
 f57:=⟨"slices.order2CmpFunc[shipwright/api.Label]",by decide,func267.trans (congrArg some (by kernel_rfl))⟩
 t0:=underlying0
 a0:=isAgg0
 z0:=sizeOf0
 v0:=zeroValue0
 t3:=underlying3
 a3:=isAgg3
 z3:=sizeOf3
 v3:=zeroValue3
 t4:=underlying4
 a4:=isAgg4
 z4:=sizeOf4
 v4:=zeroValue4
 t5:=underlying5
 a5:=isAgg5
 z5:=sizeOf5
 v5:=zeroValue5
 t9:=underlying9
 a9:=isAgg9
 z9:=sizeOf9
 v9:=zeroValue9
 t22:=underlying35
 a22:=isAgg35
 z22:=sizeOf35
 v22:=zeroValue35
 t25:=underlying114
 a25:=isAgg114
 z25:=sizeOf114
 v25:=zeroValue114
 t39:=underlying159
 a39:=isAgg159
 z39:=sizeOf159
 v39:=zeroValue159
 t45:=underlying203
 a45:=isAgg203
 z45:=sizeOf203
 v45:=zeroValue203
 t46:=underlying204
 a46:=isAgg204
 z46:=sizeOf204
 v46:=zeroValue204
 t50:=underlying208
 a50:=isAgg208
 z50:=sizeOf208
 v50:=zeroValue208
 t53:=underlying211
 a53:=isAgg211
 z53:=sizeOf211
 v53:=zeroValue211
 t55:=underlying213
 a55:=isAgg213
 z55:=sizeOf213
 v55:=zeroValue213
 t66:=underlying258
 a66:=isAgg258
 z66:=sizeOf258
 v66:=zeroValue258
 t70:=underlying262
 a70:=isAgg262
 z70:=sizeOf262
 v70:=zeroValue262
 t76:=underlying307
 a76:=isAgg307
 z76:=sizeOf307
 v76:=zeroValue307
 t77:=underlying308
 a77:=isAgg308
 z77:=sizeOf308
 v77:=zeroValue308 }
theorem Zdcv (x y:Lb) (w:World):
  Calls prog 37 #[lv x,lv y] w λe w'=>e = .returned (.bool (ltL x y))/\w'=(w.alloc (.cells (lc x).toArray 24)).alloc (.cells (lc y).toArray 24):=by
 obtain⟨a,s⟩:=x;obtain⟨b,t⟩:=y;unfold lv lc ltL;have c:∀s t:ByteArray,Op.bytesLess s.toList t.toList=decide (s.data.toList<t.data.toList):=λs t=>by rw[ByteArray.toList_eq,ByteArray.toList_eq,bytesLess_eq]
 cases a<;>cases b<;>simp only[Bool.false_eq_true,Bool.true_eq_false,if_true,if_false,<-c]
 all_goals
  clear c
  go_enter func37,ntmps37
  go_wp2;go_ret;exact⟨rfl,rfl⟩
theorem Zcya (x y:Lb) (w:World):
  Calls prog 73 #[lv x,lv y] w λe w'=>e = .returned (.int .i64 (cfL x y))/\∃os:Array Obj,w'=grow w os:=by
 have a:=λw'=>Zdcv x y w'
 have c:=λw'=>Zdcv y x w'
 obtain⟨i,g⟩:∃b,ltL x y=b:=⟨_,rfl⟩;obtain⟨j,h⟩:∃b,ltL y x=b:=⟨_,rfl⟩;unfold cfL;simp only[g]at a⊢;simp only[h]at c⊢;have d:=hid a;have f:=hid c;obtain⟨l,m⟩:=x;obtain⟨n,o⟩:=y;unfold lv lc at d f;unfold lv;clear a c g h
 go_enter func73,ntmps73
 go_wp2_with fail
 refine(d.out _).mono ?_;rintro e k ⟨rfl,rfl⟩
 cases i
 ·go_wp2_with fail
  refine(f.out _).mono ?_;rintro e k ⟨rfl,rfl⟩
  cases j
  ·go_wp2
   go_ret;exact⟨rfl,_,(by simp only[alloc_eq_grow,grow_grow];rfl)⟩
  ·go_wp2
   go_ret;exact⟨rfl,_,(by simp only[alloc_eq_grow,grow_grow];rfl)⟩
 ·go_wp2
  go_ret;exact⟨rfl,_,(by simp only[alloc_eq_grow,grow_grow];rfl)⟩
instance:Inhabited Lb:=⟨(false,⟨#[]⟩)⟩
theorem Zdcl (x:Lb):(lc x).length=2:=rfl
theorem Zdcm (x:Lb):∀v∈lc x,v.oneCell'=true:=by
 intro v a;unfold lc at a;simp at a
 rcases a with rfl|rfl<;>rfl
theorem Zcyb (a b:Nat) (w:World):CmpLays prog 73 #[] lc 2 cfL a 0 b w:=by
 intro m f d _ x y;have:=Zcya x y (sortWorldK lc 2 w a 0 m d f);refine this.mono ?_;rintro e g ⟨rfl,c,rfl⟩;exact⟨rfl,0,c,rfl⟩
theorem swoL:SWO (ltOf cfL):=by
 have e:∀x y,ltOf cfL x y=ltL x y:=by grind [decide_eq_true,Zcxu,decide_eq_false_iff_not,ltOf]
 refine⟨λx=>?_,λx y z c d=>?_,λx y z c d=>?_⟩
 ·grind [Zddp]
 ·grind [Zddr]
 ·rw[e]at *
  have a:leL y x=true:=by grind [leL]
  have b:leL z y=true:=by grind [leL]
  have:=Zdcu b a
  grind [leL]
theorem Zdiw (a cap:Nat) (d:Array Lb) (w:World) (i:HoldsK lc 2 w a 0 d) (b:a<w.heap.size) (g:d.size<4611686018427387904):
  Calls prog 72 #[.slice (some ⟨a,0,none⟩) d.size cap,.func (.func 73) #[] #[]] w λe w'=>e = .returned (.tuple #[])/\∃c n os,PermIn 0 d.size d c/\SortedIn (ltOf cfL) 0 d.size c/\w'=sortWorldK lc 2 w a 0 n c os:=by
 have h:Zdin.f 6=72:=by kernel_rfl
 have:=AnyQ.slices_SortFunc lSl 2 isAgg24 sizeOf24 lc Zdcl Zdcm cfL swoL 73 #[] a 0 cap d w (enters_of func73 (by kernel_rfl) rfl) (Zcyb a _ w) i b g
 rwa [h]at this
theorem Zdcn:∀(l:List Lb) (t:Nat),t<l.length*2->(lcs l)[t]? =some (lc l[t/2]!)[t % 2]!
 | [],t,h=>by simp at h
 | x::l,t,h=>by
  by_cases a:t<2
  ·match t,a with
   | 0,_=>rfl
   | 1,_=>rfl
  ·obtain⟨u,rfl⟩:∃u,t=u+2:=⟨t-2,by omega⟩
   have:=Zdcn l u (by simp at h;omega);rw[Zdcq,show(u+2)/2=u/2+1 by omega,show(u+2) % 2=u % 2 by omega];simpa using this
theorem Zdjn {w0 W:World} {a:Nat} {d:Array Lb} (h:SWK lc 2 w0 a 0 d W):W.os=w0.os/\W.tape=w0.tape/\W.output=w0.output/\w0.heap.size<=W.heap.size/\∀k,k<w0.heap.size->k≠a->W.heap[k]? =w0.heap[k]?:=by
 have b:=h.le;obtain⟨n,os,rfl⟩:=h;refine⟨rfl,rfl,rfl,b,λk e c=>?_⟩;show((w0.heap.modify a (onCells (putCells id 0 (flatK lc 2 d))))++os)[k]? =w0.heap[k]?
 grind
theorem Zdjm {w0 W:World} {a:Nat} {d:Array Lb} {c:Array Value} {T:TypeId} {f:Nat×Nat} (h:SWK lc 2 w0 a 0 d W) (g:w0.heap[a]? =some (.cells c T f)):∃b,W.heap[a]? =some (.cells b T f)/\b.size=c.size:=by
 obtain⟨m,i,rfl⟩:=h;have e:=(Array.getElem?_eq_some_iff.1 g).1;refine⟨putCells id 0 (flatK lc 2 d) c,?_,by unfold putCells;simp⟩;show((w0.heap.modify a (onCells (putCells id 0 (flatK lc 2 d))))++i)[a]? =_;rw[Array.getElem?_append_left (by rw[Array.size_modify];exact e),Array.getElem?_modify,if_pos rfl,g];rfl
theorem Zdjb (d a:Array Lb) (f:PermIn 0 d.size d a) (g:SortedIn (ltOf cfL) 0 d.size a):a.toList=slb d.toList:=by
 obtain⟨h,_,k⟩:=f;refine Zdir ?_ ?_
 ·grind [Array.extract_size]
 ·refine List.pairwise_iff_getElem.2 λi j l m b=>?_
  have c:i<a.size:=by omega
  have e:j<a.size:=by omega
  have:=g i j (Nat.zero_le _) b (by omega)
  simp_all[getElem!_pos,Zcxu,ltOf,leL]
theorem Zdix (B g cap:Nat) (a:List Lb) (w:World) (b:w.ownsRow B 24 2 (.slice (some ⟨g,0,none⟩) a.length cap) a.length (lcs a)) (Q:a.length<=1000000):
  Calls prog 72 #[.slice (some ⟨g,0,none⟩) a.length cap,.func (.func 73) #[] #[]] w λe w'=>e = .returned (.tuple #[])/\
   w'.ownsRow B 24 2 (.slice (some ⟨g,0,none⟩) a.length cap) a.length (lcs (slb a))/\w'.os=w.os/\w'.tape=w.tape/\w'.output=w.output/\w.heap.size<=w'.heap.size/\∀k,k<w.heap.size->k≠g->w'.heap[k]? =w.heap[k]?:=by
 obtain⟨C,d⟩:=id b
 rcases d with⟨O,P⟩|⟨K,cap',E,O,p,A,v,s,t,L⟩
 ·grind
 ·obtain⟨rfl,rfl⟩:g=K/\cap=cap':=by
   grind
  have n:=(Array.getElem?_eq_some_iff.1 A).1;have z:HoldsK lc 2 w g 0 a.toArray:=by
   intro j c;rw[size_flatK,List.size_toArray]at c;rw[Nat.zero_add,get_flatK _ _ _ _ (by rw[List.size_toArray];exact c)];refine⟨?_,b.frozenAt j⟩;rw[b.cellAt j c,Zdcn a j c];simp
  have y:=Zdiw g cap a.toArray w z n (by rw[List.size_toArray];omega);refine y.mono ?_;rintro e w' ⟨rfl,o,m,os,D,M,rfl⟩;have q:=Zdjb a.toArray o (by rw[List.size_toArray];exact D) (by rw[List.size_toArray];exact M);have r:SWK lc 2 w g 0 o (sortWorldK lc 2 w g 0 m o os):=⟨m,os,rfl⟩;obtain⟨F,G,H,I,J⟩:=Zdjn r;obtain⟨i,u,l⟩:=Zdjm r A;have f:o.size=a.length:=by have:=D.1;simpa using this
  have h:=r.holds n z (by rw[List.size_toArray];exact f);refine⟨rfl,⟨by rw[Zdcs,(Zdit a).length_eq],.inr ⟨g,cap,i,rfl,p,u,v,s,by rw[l];exact t,?_⟩⟩,F,G,H,I,J⟩;have x:(slb a).length=a.length:=by grind
  refine List.ext_getElem? λj=>?_
  by_cases c:j<a.length*2
  ·rw[List.getElem?_take_of_lt c,Zdcn _ j (by rw[x];exact c)]
   have:=(h j (by rw[size_flatK,f];exact c)).1;rw[Nat.zero_add,get_flatK _ _ _ _ (by rw[f];exact c)]at this;unfold World.cell? at this
   grind
  ·grind [Zdcs]
abbrev KV:=Value×Value
def kvE (e:MapEntry):KV:=(e.key,e.val)
def RM (w:World) (b:Nat) (kv:List KV):Prop:=∃es ck,w.heap[b]? =some (.map es ck)/\es.toList.map kvE=kv/\(es.toList.map (·.born)).Nodup/\∀e∈es.toList,e.born<ck
def RI (w:World) (b r:Nat) (kv ss:List KV):Prop:=∃(es:Array MapEntry) (ck since:Nat) (seen:Array Nat) (c0:Nat) (vis:List MapEntry),w.heap[b]? =some (.map es ck)/\es.toList.map kvE=kv/\(es.toList.map (·.born)).Nodup/\(∀e∈es.toList,e.born<ck)/\
 w.heap[r]? =some (.mapIter (some b) since seen c0)/\(∀x∈es.toList,x.born<since)/\since<=c0/\since<=ck/\(∀e∈vis,e∈es.toList)/\seen.toList=vis.map (·.born)/\(vis.map (·.born)).Nodup/\ss=vis.map kvE
variable {P:Program} {w:World} {b r:Nat} {kv ss:List KV}
theorem RM.lt (h:RM w b kv):b<w.heap.size:=by obtain⟨d,c,h,_⟩:=h;exact(Array.getElem?_eq_some_iff.1 h).1
theorem RM.heap {w':World} (h:RM w b kv) (g:w'.heap[b]? =w.heap[b]?):RM w' b kv:=by obtain⟨d,c,e,f⟩:=h;exact⟨d,c,g.trans e,f⟩
theorem RM.below {B:Nat} {w':World} (h:RM w b kv) (d:Below B w w') (c:b<B):RM w' b kv:=h.heap (d.block b c)
theorem RI.rm (h:RI w b r kv ss):RM w b kv:=by obtain⟨d,c,_,_,_,_,e,f,g,i,_⟩:=h;exact⟨d,c,e,f,g,i⟩
theorem RI.lt (h:RI w b r kv ss):r<w.heap.size:=by obtain⟨d,c,_,_,_,_,_,_,_,_,h,_⟩:=h;exact(Array.getElem?_eq_some_iff.1 h).1
theorem RI.ne (h:RI w b r kv ss):r≠b:=by
 obtain⟨d,c,_,_,_,_,e,_,_,_,h,_⟩:=h
 grind
theorem RI.heap {w':World} (h:RI w b r kv ss) (l:w'.heap[b]? =w.heap[b]?) (m:w'.heap[r]? =w.heap[r]?):RI w' b r kv ss:=by
 obtain⟨e,d,s,n,c,v,f,g,i,j,k,rest⟩:=h;exact⟨e,d,s,n,c,v,l.trans f,g,i,j,m.trans k,rest⟩
theorem RI.below {B:Nat} {w':World} (h:RI w b r kv ss) (c:Below B w w') (d:b<B) (e:r<B):RI w' b r kv ss:=h.heap (c.block b d) (c.block r e)
theorem RM.range {t k e:TypeId} (h:RM w b kv) (m:P.underlying t=some (.map k e)):
  ∃o,(Instr.range t (.map (some b))).run P w = .ok (.pointer (some ⟨w.heap.size,0,none⟩)) (w.alloc o)/\RI (w.alloc o) b w.heap.size kv []:=by
 have d:=h.lt;obtain⟨f,c,g,j,l,i⟩:=h;exact⟨_,run_range_map w t k e b f c m g,f,c,c,#[],c,[],((MapKept.heap_alloc w _).2 b d).trans g,j,l,i,(MapKept.heap_alloc w _).1,i,Nat.le_refl _,Nat.le_refl _,by simp,rfl,List.nodup_nil,rfl⟩
theorem Zcxr {c:List MapEntry} (d:(c.map (·.born)).Nodup) {x y:MapEntry} (hx:x∈c) (f:y∈c) (h:x.born=y.born):x=y:=by
 induction c with
 | nil=>grind
 | cons e c g=>
  grind
theorem Zdfd {d:List MapEntry} (f:(d.map (·.born)).Nodup):d.Nodup:=List.Pairwise.of_map (·.born) (λ_ _ c e=>c (congrArg _ e)) f
theorem Zdbw {α:Type}:∀ {l m:List α},l.Nodup->(∀x∈l,x∈m)->l.length<=m.length
 | [],_,_,_=>by simp
 | x::l,m,hn,hs=>by
  obtain⟨e,f⟩:=List.nodup_cons.1 hn;obtain⟨a,b,rfl⟩:=List.append_of_mem (hs x (by simp));have:=Zdbw (l:=l) (m:=a++b) f λy d=>by
   have c:=hs y (by simp[d])
   rcases List.mem_append.1 c with h|h
   ·exact List.mem_append_left _ h
   ·rcases List.mem_cons.1 h with rfl|h
    ·exact absurd d e
    ·exact List.mem_append_right _ h
  simp only[List.length_append,List.length_cons]at this⊢;omega
theorem RI.next (h:RI w b r kv ss) (ty:TypeId):
  (ss.Perm kv/\(Instr.next (.pointer (some ⟨r,0,none⟩)) false ty).run P w = .ok (.tuple #[.bool false]) w)\/
  ∃k v w',(k,v)∈kv/\ss.length<kv.length/\(Instr.next (.pointer (some ⟨r,0,none⟩)) false ty).run P w = .ok (.tuple #[.bool true,k,v]) w'/\RI w' b r kv (ss ++ [(k,v)])/\w.grownBy w' (some r)/\w'.heap.size=w.heap.size/\
   (Instr.entry (.pointer (some ⟨r,0,none⟩))).run P w' = .ok (.tuple #[k,v]) w':=by
 obtain⟨m,l,c,d,C,vis,D,rfl,F,y,G,n,A,t,U,M,O,rfl⟩:=h;have E:∀x:MapEntry,x∈m.toList->d.contains x.born=true->x∈vis:=λx hx S=>by
  have:x.born∈d.toList:=by grind
  grind [Zcxr]
 rcases run_next_at (P:=P) w ty r b c C d m l G D n A with⟨R,f⟩|⟨e,J,B,j,f⟩
 ·refine .inl ⟨?_,f⟩
  have T:vis.Perm m.toList:=by grind [List.perm_ext_iff_of_nodup,Zdfd,all_seen]
  grind
 ·obtain⟨s,K⟩:=mem_left J
  have z:B.heap[r]? =some (.mapIter (some b) c d C):=by rcases j with rfl|rfl<;>exact G
  have I:B.heap[b]? =some (.map m l):=by rcases j with rfl|rfl<;>exact D
  have g:=MapKept.heap_set (o':= .mapIter (some b) c (d.push e.born) l) z;have q:(ChangeMaps.setBlock B r (.mapIter (some b) c (d.push e.born) l)).heap[b]? =some (.map m l):=by grind [ChangeMaps.setBlock]
  have p:((vis ++ [e]).map (·.born)).Nodup:=by
   grind
  have u:∀x∈vis ++ [e],x∈m.toList:=by grind
  refine .inr ⟨e.key,e.val,_,List.mem_map.2 ⟨e,s,rfl⟩,?_,f,⟨m,l,c,d.push e.born,l,vis ++ [e],q,rfl,F,y,g.1,n,t,t,u,?_,p,?_⟩,?_,?_,run_entry_at _ r b c d m l e g.1 q s F⟩
  ·have:=Zdbw (Zdfd p) u
   grind
  ·grind
  ·simp[kvE]
  ·rcases j with rfl|rfl<;>exact⟨rfl,rfl,rfl,by simp[ChangeMaps.setBlock],λi _ L=>g.2 i (λH=>L (by rw[H]))⟩
  ·rcases j with rfl|rfl<;>simp[ChangeMaps.setBlock]
section
variable {ops:Array Oper} {rest:List Oper} {o:Oper} {a:Act} {Q:Exit->Act->World->Prop}
end
end
open Go.Lib (hid)
open Go.Proofs.Tryz Go.RowKit Go.Shelf
def lkv (l:List Lb):List KV:=l.map λx=>(lv x,.agg #[])
theorem Zddd (l:List Lb):(lkv l).length=l.length:=by simp[lkv]
theorem Zddc (l m:List Lb):lkv (l++m)=lkv l++lkv m:=by simp[lkv]
theorem Zdde {l:List Lb} {k v:Value} (h:(k,v)∈lkv l):∃x∈l,k=lv x/\v = .agg #[]:=by
 obtain⟨x,hx,e⟩:=List.mem_map.1 h
 cases e
 exact⟨x,hx,rfl,rfl⟩
theorem Zddf {l m:List Lb} (h:(lkv l).Perm (lkv m)):l.Perm m:=by
 have c:=h.map (λp:KV=>match p.1 with | .agg b=>(match b.toList with | [.bool a,.string s]=>(a,s)|_=>(false,(⟨#[]⟩:ByteArray)))|_=>(false,(⟨#[]⟩:ByteArray)));have e:∀l:List Lb,(lkv l).map (λp:KV=>match p.1 with | .agg b=>(match b.toList with | [.bool a,.string s]=>(a,s)|_=>(false,(⟨#[]⟩:ByteArray)))|_=>(false,(⟨#[]⟩:ByteArray)))=l:=λl=>by
  unfold lkv;rw[List.map_map];exact(List.map_congr_left (λx _=>rfl)).trans (List.map_id l)
 rwa [e,e]at c
theorem RM.len {P:Program} {w:World} {b:Nat} {a:List KV} (h:RM w b a) {t f e:TypeId} (d:P.underlying t=some (.map f e)) (ty:TypeId):(Builtin.len_ #[t] ty #[.map (some b)]).run P w = .ok (.int .i64 (a.length:Int)) w:=by
 obtain⟨i,g,c,rfl,_⟩:=h;simp[Builtin.len_,run_underlying d,MapKept.run_getObj_map c];rfl
theorem Zdbm:(prog.info? 24).map (λi=>(i.zero,i.size,i.bytes))=some (some (.agg #[.bool false,.string ⟨#[]⟩]),2,24):=by kernel_rfl
theorem Zddt (n:Nat) (f:n<=1000000) (w:World):(Instr.makeSlice 35 (.int .i64 0) (.int .i64 (n:Int))).run prog w = .ok (.slice (some ⟨w.heap.size,0,none⟩) 0 n) (w.alloc (.cells (madeCells #[.bool false,.string ⟨#[]⟩] (n*2)) 24)):=by
 obtain⟨e,b,d,c,a⟩:=info_parts Zdbm;have:=run_make (P:=prog) w 35 24 e (.agg #[.bool false,.string ⟨#[]⟩]) underlying35 b d .i64 .i64 0 n (by omega) (by omega) (by rw[a];omega) (by omega);rw[c,show(Value.agg #[.bool false,.string ⟨#[]⟩]).cells = #[.bool false,.string ⟨#[]⟩]from rfl]at this;simpa using this
def Zcwm (w:World) (ls:List Lb) (e:Ending) (w':World):Prop:=∃g cap,e = .returned (.slice (some ⟨g,0,none⟩) ls.length cap)/\w'.ownsRow w.heap.size 24 2 (.slice (some ⟨g,0,none⟩) ls.length cap) ls.length (lcs (slb ls))/\Below w.heap.size w w'
theorem Zcxe (p:Addr) (K:Nat) (J:List Lb) (w:World) (hp:w.cell? p=some (.map (some K))) (hm:RM w K (lkv J)) (y:J.length<=1000000):
  Calls prog 35 #[.pointer (some p)] w (Zcwm w J):=by
 have mixed:prog.follows .mixedOrders=true:=by kernel_rfl
 obtain⟨i0,hi,a6,a7,a8⟩:=info_parts Zdbm;have D:=λty=>hm.len (P:=prog) underlying69 ty
 rw[Zddd]at D;have a0:=hm.lt;have ah:=Zddt J.length y w;obtain⟨pb,po,pp⟩:=p;have a2:pb<w.heap.size:=World.block_lt_of_cell? _ _ hp;have HM:=hid hm;obtain⟨n,O⟩:∃n,n=J.length:=⟨_,rfl⟩;rw[<-O]at D ah y;obtain⟨u,Q⟩:∃u,u=Obj.cells (madeCells #[.bool false,.string ⟨#[]⟩] (n*2)) 24:=⟨_,rfl⟩;rw[<-Q]at ah;have aB:(w.alloc u).cell? ⟨pb,po,pp⟩=some (.map (some K)):=((Below.refl w.heap.size w).alloc (Nat.le_refl _) u)|>.cell (p:=⟨pb,po,pp⟩) a2 |>.trans hp
 have af:RM (w.alloc u) K (lkv J):=hm.below ((Below.refl w.heap.size w).alloc (Nat.le_refl _) u) a0;have q:(w.alloc u).ownsRow w.heap.size 24 2 (.slice (some ⟨w.heap.size,0,none⟩) 0 n) 0 []:=by
  refine⟨rfl,.inr ⟨w.heap.size,n,madeCells #[.bool false,.string ⟨#[]⟩] (n*2),rfl,Nat.le_refl _,by rw[Q];exact(MapKept.heap_alloc w _).1,Nat.zero_le _,by unfold maxLen;omega,by simp[madeCells],by simp⟩⟩
 obtain⟨ob,aj,d⟩:=af.range (P:=prog) underlying69;have aa:Below w.heap.size w ((w.alloc u).alloc ob):=((Below.refl w.heap.size w).alloc (Nat.le_refl _) u).alloc (by simp) ob;rw[show(w.alloc u).heap.size=w.heap.size+1 by simp]at d aj;have ax:=hid d;have al:=hid aa;have au:=hid (q.alloc ob);have X:=hid O;clear hm af q Q O d aa
 go_enter func35,ntmps35
 go_wp2
 go_loopw [3] (λv wr=>∃(c:List Lb) (g j:Nat),g≠w.heap.size+1/\v = .slice (some ⟨g,0,none⟩) c.length j/\wr.ownsRow w.heap.size 24 2 v c.length (lcs c)/\RI wr K (w.heap.size+1) (lkv J) (lkv c)/\Below w.heap.size w wr) (λv _=>n-(match v with | .slice _ k _=>k|_=>0))
 case atStart=>exact⟨[],w.heap.size,n,by omega,rfl,au.out,ax.out,al.out⟩
 case round=>
  obtain⟨c,g,j,l,rfl,a,d,m⟩:=hrel;obtain⟨WR,rfl⟩:∃V,V=wr:=⟨_,rfl⟩
  rcases d.next (P:=prog) 0 with⟨r,I⟩|⟨k,v,W2,ad,ae,I,s,M,a5,az⟩
  ·have R:=Zddf r
   have S:=R.length_eq;have ak:=λW (hW:W=WR)=>hW▸Zdix w.heap.size g j c WR a (by rw[S];have:=X.out;omega)
   have aA:g<WR.heap.size:=by have:=(a.lt g rfl).2;exact this
   have ac:w.heap.size<=g:=(a.lt g rfl).1;have ay:=hid ak;have av:=hid R;have aq:=hid m;have an:=hid ac;have Z:=hid S;clear d r m a ak R ac S
   go_wp2_with fail
   refine(ay.out _ rfl).mono ?_;rintro e w2 ⟨rfl,q1,q2,q3,q4,q5,q6⟩;have Q1:=hid q1;have Q2:=hid q2;have Q3:=hid q3;have Q4:=hid q4;have Q5:=hid q5;have Q6:=hid q6;clear q1 q2 q3 q4 q5 q6;go_wp2;go_ret;have hs:=Zdip av.out;rw[Z.out]at Q1;refine⟨g,j,by rw[Z.out];rfl,by rw[<-hs];exact Q1.out,?_⟩;have y:=aq.out;exact⟨Q2.out.trans y.os,Q3.out.trans y.tape,Q4.out.trans y.output,Nat.le_trans y.size Q5.out,λk hk=>(Q6.out k (Nat.lt_of_lt_of_le hk y.size) (by have:=an.out;omega)).trans (y.block k hk)⟩
  ·obtain⟨x,hx,rfl,rfl⟩:=Zdde ad
   obtain⟨z,A⟩:=x;have E:c.length<n:=by simp only[Zddd]at ae;have:=X.out;omega
   have aC:w.heap.size+1<WR.heap.size:=d.lt;have b:=a.kept M (.inr (by show some g≠_;intro e;exact l (Option.some.inj e)));have o:Below w.heap.size w W2:=m.grown M m.size (λk e=>by cases e;omega);have a4:=o.size;rw[show lkv c ++ [(lv (z,A),Value.agg #[])]=lkv (c ++ [(z,A)]) by rw[Zddc];rfl]at s;have a9:c.length<=1000000:=by omega
   have B:=hid s;have Y:=hid o;have ao:=hid E;have T:=hid l;unfold lv at I az;clear d m a ad ae E s o l M a5 hx
   go_wp2_with (at_builtin;refine wpList_append_own_at _ rfl _ _ 35 rfl w.heap.size 24 i0 _ 2 24 underlying35 hi a6 a7 a8 rfl (by decide) _ _ _ rfl ((b.alloc _).alloc _) ⟨W2.heap.size+1,0,none⟩ 1 1 [.bool z,.string A] rfl rfl ?c1 ?c2 ?c3 ?c4 ?c5 ?_)
   case c2=>exact⟨rfl,rfl⟩
   case c3=>unfold maxLen;omega
   case c4=>omega
   case c5=>omega
   intro v' w3 i f ai C;obtain⟨L,cap',rfl⟩:∃L cap',v' = .slice (some ⟨L,0,none⟩) (c.length+1) cap':=by
    rcases i.2 with⟨_,h0⟩|⟨L,cap',_,h1,_⟩
    ·omega
    ·exact⟨L,cap',h1⟩
   have F:Below w.heap.size w w3:=((Y.out.alloc a4 _).alloc (by simp;omega) _).grown f (by simp;omega) (λg hg=>(b.lt g hg).1);have ab:L≠w.heap.size+1:=by
    intro e;subst e
    rcases C with e|e
    ·have e:some (w.heap.size+1)=some g:=e
     exact T.out (Option.some.inj e).symm
    ·have e:some (w.heap.size+1)=some _:=e
     have:=Option.some.inj e;simp at this;omega
   have H:RI w3 K (w.heap.size+1) (lkv J) (lkv (c ++ [(z,A)])):=by
    have ag:K<W2.heap.size:=by omega
    have a3:=B.out.lt;have G:∀k,k<W2.heap.size->some k≠(Value.slice (some ⟨g,0,none⟩) c.length j).ownBlock->w3.heap[k]? =W2.heap[k]?:=λk hk a1=>by
     rw[f.block k (by simp;omega) a1,(MapKept.heap_alloc _ _).2 k (by simp;omega),(MapKept.heap_alloc _ _).2 k hk]
    refine B.out.heap (G _ ag ?_) (G _ a3 ?_)
    ·intro e
     have:=(b.lt K e.symm).1;omega
    ·intro e
     have e:some (w.heap.size+1)=some g:=e;exact T.out (Option.some.inj e).symm
   have h:(c ++ [(z,A)]).length=c.length+1:=by simp
   have ar:Hid (w3.ownsRow w.heap.size 24 2 (.slice (some ⟨L,0,none⟩) (c ++ [(z,A)]).length cap') (c ++ [(z,A)]).length (lcs (c ++ [(z,A)]))):=by
    show w3.ownsRow _ _ _ _ _ _;rw[h,Zdco];exact i
   have aw:=hid H;have ap:=hid F;have am:=hid ab;have U:=hid h;clear i H F ab f ai C h b;go_wp2;go_roundw
   case rel=>exact⟨c ++ [(z,A)],L,cap',am.out,by rw[U.out],by have:=ar.out;rw[U.out]at this⊢;exact this,aw.out,ap.out⟩
   case measure=>have:=ao.out;simp;omega
