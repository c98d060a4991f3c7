import Derived.Deep.CutBlock
import Derived.Deep.DeepCutAuto
import Derived.Test.YtokogjhcidkckaaGreatDoorMar
import Derived.Test.YtokogjhcidkckaaGreatDoorMbh
namespace Go.Proofs.YtokogjhcidkckaaGreatDoor.lawGraphBoth
open Go.Lib (hid)
open Go.Proofs.Tryz
open Go.RowKit Go.Shelf
set_option maxHeartbeats 16000000
set_option maxRecDepth 100000
theorem Zdds (s:ByteArray) (w:World):Calls prog 26 #[.string s] w λe w'=>e = .returned (.agg #[.bool true,.string s])/\Below w.heap.size w w':=by
 go_enter func26,ntmps26
 go_wp2;refine bodyPost_ret (Zbhl rfl _ _ w.heap.size _ _ _ _ rfl (alloc_at w _) underlying24 rfl (by kernel_rfl)) rfl ?_;exact⟨rfl,(Below.refl _ _).alloc (Nat.le_refl _) _⟩
theorem law (v:Value) (xs:List RuleS) (w:World) (h:RulesI w v xs) (hs:∀x∈xs,SmallR x 1048576) (hG:GXM w):
  Calls prog 4 #[v] w λe w'=>e = .returned (.bool true)/\Below w.heap.size w w':=by
 have mixed:prog.follows .mixedOrders=true:=by kernel_rfl
 have HCB:=hid (Exe.beg12 hG.gx);have HM:=hid (show MayW w from hG.max);have HRI:=hid h;have HSM:=hid hs;obtain⟨sa,sc,hv,hs1,hs2⟩:=Zbjn h;subst hv;clear h hs hG
 go_enter func4,ntmps4
 go_wp2_with fail
 refine HCB.out.mono ?_;rintro e w0 ⟨rfl,hb0⟩;have hcut:∀x∈Zbvw 42 xs,SmallR x 1048576/\ShortR x:=by
  intro x hx;obtain⟨y,hy,rfl⟩:=List.mem_map.1 hx;exact⟨Zbma (HSM.out y (List.mem_of_mem_take hy)),Zbkv y⟩
 have cF:=Zczm _ xs w0 (HRI.out.below hb0) HSM.out hcut;have HCF:=hid cF;have HB0:=hid hb0;have HCUT:=hid hcut;clear hb0 HCB hcut cF HRI HSM
 go_wp2_with fail
 refine HCF.out.mono ?_;rintro e w1 ⟨rs,⟨ra,rn,rc,rfl,hor,hb1⟩,hfin⟩;have hrl:rs.length<=14:=hfin.few;have HT:=hid hfin.tog;have HCODE:=hid hfin.code;have HRM:=hid (λ(x:RuleS) (hx:x∈rs)=>HCUT.out x (hfin.mem x hx));clear hfin;obtain⟨_,_,q⟩:=hor.len
 cases q
 have hB1:=HB0.out.trans (hb1.mono HB0.out.size);have cN:=Zdap _ rs w1 hor.rulesA.rulesI (λr hr=>(HRM.out r hr).1) (by omega) (λr hr y hy=>by have:=(HRM.out r hr).2.each y hy;omega) (HM.out.below hB1);have HCN:=hid cN;replace HB0:=hid hB1;clear hor hb1 hB1 cN HCF
 go_wp2_with fail
 refine HCN.out.mono ?_;rintro e w2 ⟨hpost,hb2⟩
 rcases hpost with⟨_,p,rfl,hgx⟩|⟨hne,_⟩
 rotate_left
 ·exact absurd HCODE.out hne
 have hB2:=HB0.out.trans (hb2.mono HB0.out.size);have cA:=Zdah _ p rs w2 hgx HT.out;have HCA:=hid cA;have HGX:=hid hgx;replace HB0:=hid hB2;clear hgx hb2 hB2 cA HCN
 go_wp2_with fail
 refine HCA.out.mono ?_;rintro e w3 ⟨va,rfl,ho3,hb3⟩;obtain⟨aa,ac,q,hac,_,hra,_⟩:=Zdfu ho3;subst q;obtain⟨all,hall⟩:∃all,setL (rs.flatMap labR)=all:=⟨_,rfl⟩;have hallm:∀(k:Nat) (a:Lb),all[k]? =some a->a∈allG rs:=λk a h=>by
  have:=List.mem_of_getElem? h;rw[<-hall]at this;exact this
 have hal:all.length<=1000:=by
  rw[<-hall];have h1:(setL (rs.flatMap labR)).length<=(rs.flatMap labR).length:=(Zdig _);have h2:(rs.flatMap labR).length<=rs.length*13:=Zdbz (λr hr=>⟨(Zckm (HT.out.each r hr)).1,(Zckm (HT.out.each r hr)).2.1⟩);omega
 rw[hall]at hra hac⊢;have hB3:=HB0.out.trans (hb3.mono HB0.out.size);have HG3:=hid (HGX.out.below hb3);have HRA:=hid hra;have HALL:=hid hallm;replace HB0:=hid hB3;clear ho3 hb3 hra hB3 HGX HCA hall hallm
 go_wp2_with fail
 go_loopw [28] (λiv wr=>∃k:Nat,k<=all.length/\iv = .int .i64 (k:Int)/\Below w3.heap.size w3 wr) (λiv _=>all.length-(intOf iv).toNat)
 case atStart=>exact⟨0,Nat.zero_le _,rfl,Below.refl _ _⟩
 case round=>
  obtain⟨k,hk,rfl,hbw⟩:=hrel;have HBW:=hid hbw;clear hbw
  by_cases hlt:k<all.length
  ·obtain⟨a,hx⟩:∃a,all[k]? =some a:=⟨all[k],List.getElem?_eq_getElem hlt⟩
   have hi1:(k:Int)<(all.length:Int):=by omega
   have hi0:(0:Int)<=(k:Int):=by omega
   have ham:=HALL.out k a hx;obtain⟨ab,ao,rfl,hx0,hx1⟩:=HRA.out.below HBW.out (Nat.le_refl _) k a hx;obtain⟨W5,hW5⟩:∃V,V=wr.alloc (.cells #[.bool a.1,.string a.2] 24):=⟨_,rfl⟩;have hb5:Below wr.heap.size wr W5:=by rw[hW5];exact(Below.refl _ _).alloc (Nat.le_refl _) _
   have hbx:BoxL W5 wr.heap.size a:=by rw[hW5];exact alloc_at wr _
   have hB5:=HBW.out.trans (hb5.mono HBW.out.size);have cN:=Zdao _ p rs W5 a (HG3.out.below hB5) HT.out;obtain⟨d0,d1⟩:=hbx.cells;have HCN:=hid cN;have HBX:=hid hbx;have HB5:=hid hB5;have HAM:=hid ham;have HNL:=hid (Zdet HT.out a);have HUL:=hid (Zdju HT.out a);clear hx hb5 hbx hB5 cN ham HBW;unfold lv at HCN
   go_wp2_with fail
   rw[<-hW5];clear hW5;refine HCN.out.mono ?_;rintro e w6 ⟨vn,rfl,ho6,hb6⟩;obtain⟨na,nc,q,hnc,_,hrn,_⟩:=Zdfu ho6;subst q;obtain⟨ns,hns⟩:∃ns,Zdes rs a=ns:=⟨_,rfl⟩;have hnl:ns.length<=1000:=by rw[<-hns];have:=HNL.out;omega
   have HNS:=hid hns;rw[hns]at hrn hnc⊢;have HB6:=hid (HB5.out.trans (hb6.mono HB5.out.size));have HBX6:=hid (HBX.out.below hb6 (Nat.le_refl _));have HRN:=hid hrn;have HZ6:=hid (show wr.heap.size<w6.heap.size from Nat.lt_of_lt_of_le HBX.out.lt hb6.size);clear ho6 hb6 hrn hns HCN HBX HB5 hx0 hx1 d0 d1
   go_wp2_with fail
   go_loopw [36] (λjv wr=>∃j:Nat,j<=ns.length/\jv = .int .i64 (j:Int)/\Below w6.heap.size w6 wr) (λjv _=>ns.length-(intOf jv).toNat)
   case atStart=>exact⟨0,Nat.zero_le _,rfl,Below.refl _ _⟩
   case round=>
    obtain⟨j,hj,rfl,hbq⟩:=hrel;have HBQ:=hid hbq;clear hbq
    by_cases hjl:j<ns.length
    ·obtain⟨b,hy⟩:∃b,ns[j]? =some b:=⟨ns[j],List.getElem?_eq_getElem hjl⟩
     have hj1:(j:Int)<(ns.length:Int):=by omega
     have hj0:(0:Int)<=(j:Int):=by omega
     have hbm:b∈Zdes rs a:=by rw[HNS.out];exact List.mem_of_getElem? hy
     obtain⟨hau,hne⟩:=Zdew HT.out hbm;obtain⟨bb,bo,rfl,hy0,hy1⟩:=HRN.out.below HBQ.out (Nat.le_refl _) j b hy;obtain⟨W7,hW7⟩:∃V,V=(wr.alloc (.cells #[.bool b.1,.string b.2] 24)).drew:=⟨_,rfl⟩;have hb7:Below wr.heap.size wr W7:=by rw[hW7];exact((Below.refl _ _).alloc (Nat.le_refl _) _).drew
     have hbx7:BoxL W7 wr.heap.size b:=by rw[hW7];exact alloc_at wr _
     have hB7:=HBQ.out.trans (hb7.mono HBQ.out.size);have hax7:=HBX6.out.below hB7 (Nat.le_refl _);have cU:=Zdau _ p rs W7 b (HG3.out.below (HB6.out.trans (hB7.mono HB6.out.size))) HT.out;unfold lv at cU;have HCU:=hid cU;have HBX7:=hid hbx7;have HAX7:=hid hax7;have HB7:=hid hB7;have HAU:=hid hau;have HNE:=hid hne;have HUB:=hid (Zdju HT.out b);clear hy hb7 hbx7 hB7 hax7 cU hau hbm hne
     go_wp2_with fail
     refine wp_region_held_drew (S:=λV=>Below W7.heap.size W7 V) (by kernel_rfl) ?_ (λhHeld=>?_)
     ·rw[<-hW7];exact Below.refl _ _
     rw[<-hW7]at hHeld⊢;clear hW7;refine tkK 0 ?_
     try simp only[Act.put,sA,sZ,sS]
     refine tkH 1 (v:=?_) ?_ ?_;rotate_left
     ·intro w hSw;have hA:=(HAX7.out.below hSw (Nat.le_refl _)).cells;have hBc:=(HBX7.out.below hSw (Nat.le_refl _)).cells;obtain⟨q0,q1⟩:=hA;obtain⟨q2,q3⟩:=hBc;go_simp;try with_reducible rfl
     try simp only[Act.put,sA,sZ,sS]
     refine tkH 3 (v:=?_) ?_ ?_;rotate_left
     ·intro w hSw;have hA:=(HAX7.out.below hSw (Nat.le_refl _)).cells;have hBc:=(HBX7.out.below hSw (Nat.le_refl _)).cells;obtain⟨q0,q1⟩:=hA;obtain⟨q2,q3⟩:=hBc;go_simp;try with_reducible rfl
     try simp only[Act.put,sA,sZ,sS]
     refine rdH [2] ?_;refine rcH (λK hK=>?_) ?_
     ·go_simp;refine HCU.out.mono ?_;rintro e w8 ⟨v8,rfl,ho8,hb8⟩;dsimp only
      refine hK.out _ _ ?_ (λhHeld=>?_)
      ·try dsimp only
       exact hb8
      clear hK K
      try simp only[Act.put,sA,sZ,sS]
      obtain⟨ua,uc,q,_,_,hru,_⟩:=Zdfu ho8;subst q;obtain⟨us,hus⟩:∃us,Zdjt rs b=us:=⟨_,rfl⟩;have hfx:¬Zczd us a<0:=by
       have h1:=HAU.out;rw[hus]at h1;have:=Zczf.2 h1;omega
      rw[hus]at hru⊢;have cFd:=Zdgi us a ua uc w8 hru (by rw[<-hus];have:=HUB.out;omega);unfold lv at cFd;have HCF:=hid cFd;obtain⟨fd,hfd⟩:∃fd,Zczd us a=fd:=⟨_,rfl⟩;rw[hfd]at HCF hfx;have HB8:=hid hb8;clear hru ho8 hb8 cFd hus hfd;refine rdH [4] ?_;refine rcH (λK hK=>?_) ?_
      ·go_simp;refine HCF.out.mono ?_;rintro e w9 ⟨rfl,hb9⟩;dsimp only
       refine hK.out _ _ ?_ (λhHeld=>?_)
       ·try dsimp only
        exact HB8.out.trans (hb9.mono HB8.out.size)
       clear hK K
       try simp only[Act.put,sA,sZ,sS]
       refine tkK 5 ?_;refine tkK 6 ?_;refine tkK 7 ?_
       try simp only[Act.put,sA,sZ,sS]
       refine tkH 8 (v:=?_) ?_ ?_;rotate_left
       ·intro w hSw;have hA:=(HAX7.out.below hSw (Nat.le_refl _)).cells;have hBc:=(HBX7.out.below hSw (Nat.le_refl _)).cells;obtain⟨q0,q1⟩:=hA;obtain⟨q2,q3⟩:=hBc;go_simp;try with_reducible rfl
       try simp only[Act.put,sA,sZ,sS]
       refine tkK 9 ?_
       try simp only[Act.put,sA,sZ,sS]
       refine tkH 10 (v:=?_) ?_ ?_;rotate_left
       ·intro w hSw;have hA:=(HAX7.out.below hSw (Nat.le_refl _)).cells;have hBc:=(HBX7.out.below hSw (Nat.le_refl _)).cells;obtain⟨q0,q1⟩:=hA;obtain⟨q2,q3⟩:=hBc;go_simp;try with_reducible rfl
       try simp only[Act.put,sA,sZ,sS]
       refine tkH 11 (v:=?_) ?_ ?_;rotate_left
       ·intro w hSw;have hne:=HNE.out;go_simp;try with_reducible rfl
       try simp only[Act.put,sA,sZ,sS]
       refine tkK 12 ?_
       try simp only[Act.put,sA,sZ,sS]
       refine wpAnyH_done (by kernel_rfl) ?_ _;have HE:=hid (HB7.out.trans (hHeld.mono HB7.out.size));go_wp2;go_roundw
       case rel=>exact⟨j+1,by omega,by go_num,HE.out⟩
       case measure=>simp only[intOf];omega
      exact AllReadyH.nil
     exact AllReadyH.nil
    ·obtain rfl:j=ns.length:=by omega
     have hj1:¬(ns.length:Int)<(ns.length:Int):=by omega
     have HB7:=hid (HB6.out.trans (HBQ.out.mono HB6.out.size));have HBX7:=hid (HBX6.out.below HBQ.out (Nat.le_refl _));have cU:=Zdau _ p rs wr a (HG3.out.below HB7.out) HT.out;unfold lv at cU;have HCU:=hid cU;obtain⟨d0,d1⟩:=HBX7.out.cells;clear cU
     go_wp2_with fail
     refine HCU.out.mono ?_;rintro e w8 ⟨vu,rfl,ho8,hb8⟩;obtain⟨ua,uc,q,huc,_,hru,_⟩:=Zdfu ho8;subst q;obtain⟨us,hus⟩:∃us,Zdjt rs a=us:=⟨_,rfl⟩;have hul:us.length<=1000:=by rw[<-hus];have:=HUL.out;omega
     have HUS:=hid hus;rw[hus]at hru huc⊢;have HB8:=hid (HB7.out.trans (hb8.mono HB7.out.size));have HBX8:=hid (HBX7.out.below hb8 (Nat.le_refl _));have HRU:=hid hru;clear ho8 hb8 hru hus HCU HBX7 HB7 HBX6 HB6 HRN HBQ d0 d1 hjl
     go_wp2_with fail
     go_loopw [58] (λjv wr=>∃j:Nat,j<=us.length/\jv = .int .i64 (j:Int)/\Below w8.heap.size w8 wr) (λjv _=>us.length-(intOf jv).toNat)
     case atStart=>exact⟨0,Nat.zero_le _,rfl,Below.refl _ _⟩
     case round=>
      obtain⟨j,hj,rfl,hbq⟩:=hrel;have HBQ:=hid hbq;clear hbq
      by_cases hjl:j<us.length
      ·obtain⟨b,hy⟩:∃b,us[j]? =some b:=⟨us[j],List.getElem?_eq_getElem hjl⟩
       have hj1:(j:Int)<(us.length:Int):=by omega
       have hj0:(0:Int)<=(j:Int):=by omega
       have hbm:b∈Zdjt rs a:=by rw[HUS.out];exact List.mem_of_getElem? hy
       have hau:=(Zdjv HT.out).1 hbm;obtain⟨bb,bo,rfl,hy0,hy1⟩:=HRU.out.below HBQ.out (Nat.le_refl _) j b hy;obtain⟨W7,hW7⟩:∃V,V=(wr.alloc (.cells #[.bool b.1,.string b.2] 24)).drew:=⟨_,rfl⟩;have hb7:Below wr.heap.size wr W7:=by rw[hW7];exact((Below.refl _ _).alloc (Nat.le_refl _) _).drew
       have hbx7:BoxL W7 wr.heap.size b:=by rw[hW7];exact alloc_at wr _
       have hB7:=HBQ.out.trans (hb7.mono HBQ.out.size);have hax7:=HBX8.out.below hB7 (Nat.le_refl _);have cU:=Zdao _ p rs W7 b (HG3.out.below (HB8.out.trans (hB7.mono HB8.out.size))) HT.out;unfold lv at cU;have HCU:=hid cU;have HBX7:=hid hbx7;have HAX7:=hid hax7;have HB7:=hid hB7;have HAU:=hid hau;have HUB:=hid (Zdet HT.out b);clear hy hb7 hbx7 hB7 hax7 cU hau hbm
       go_wp2_with fail
       refine wp_region_held_drew (S:=λV=>Below W7.heap.size W7 V) (by kernel_rfl) ?_ (λhHeld=>?_)
       ·rw[<-hW7];exact Below.refl _ _
       rw[<-hW7]at hHeld⊢;clear hW7;refine tkK 0 ?_
       try simp only[Act.put,sA,sZ,sS]
       refine tkH 1 (v:=?_) ?_ ?_;rotate_left
       ·intro w hSw;have hA:=(HAX7.out.below hSw (Nat.le_refl _)).cells;have hBc:=(HBX7.out.below hSw (Nat.le_refl _)).cells;obtain⟨q0,q1⟩:=hA;obtain⟨q2,q3⟩:=hBc;go_simp;try with_reducible rfl
       try simp only[Act.put,sA,sZ,sS]
       refine tkH 3 (v:=?_) ?_ ?_;rotate_left
       ·intro w hSw;have hA:=(HAX7.out.below hSw (Nat.le_refl _)).cells;have hBc:=(HBX7.out.below hSw (Nat.le_refl _)).cells;obtain⟨q0,q1⟩:=hA;obtain⟨q2,q3⟩:=hBc;go_simp;try with_reducible rfl
       try simp only[Act.put,sA,sZ,sS]
       refine rdH [2] ?_;refine rcH (λK hK=>?_) ?_
       ·go_simp;refine HCU.out.mono ?_;rintro e w9 ⟨v9,rfl,ho9,hb9⟩;dsimp only
        refine hK.out _ _ ?_ (λhHeld=>?_)
        ·try dsimp only
         exact hb9
        clear hK K
        try simp only[Act.put,sA,sZ,sS]
        obtain⟨ua,uc,q,_,_,hru,_⟩:=Zdfu ho9;subst q;obtain⟨ms,hms⟩:∃ms,Zdes rs b=ms:=⟨_,rfl⟩;have hfx:¬Zczd ms a<0:=by
         have h1:=HAU.out;rw[hms]at h1;have:=Zczf.2 h1;omega
        rw[hms]at hru⊢;have cFd:=Zdgi ms a ua uc w9 hru (by rw[<-hms];have:=HUB.out;omega);unfold lv at cFd;have HCF:=hid cFd;obtain⟨fd,hfd⟩:∃fd,Zczd ms a=fd:=⟨_,rfl⟩;rw[hfd]at HCF hfx;have HB9:=hid hb9;clear hru ho9 hb9 cFd hms hfd;refine rdH [4] ?_;refine rcH (λK hK=>?_) ?_
        ·go_simp;refine HCF.out.mono ?_;rintro e w10 ⟨rfl,hb10⟩;dsimp only
         refine hK.out _ _ ?_ (λhHeld=>?_)
         ·try dsimp only
          exact HB9.out.trans (hb10.mono HB9.out.size)
         clear hK K
         try simp only[Act.put,sA,sZ,sS]
         refine tkK 5 ?_
         try simp only[Act.put,sA,sZ,sS]
         refine wpAnyH_done (by kernel_rfl) ?_ _;have HE:=hid (HB7.out.trans (hHeld.mono HB7.out.size));go_wp2;go_roundw
         case rel=>exact⟨j+1,by omega,by go_num,HE.out⟩
         case measure=>simp only[intOf];omega
        exact AllReadyH.nil
       exact AllReadyH.nil
      ·obtain rfl:j=us.length:=by omega
       have hj1:¬(us.length:Int)<(us.length:Int):=by omega
       have HB9:=hid (HB8.out.trans (HBQ.out.mono HB8.out.size));have HBX9:=hid (HBX8.out.below HBQ.out (Nat.le_refl _));have cN:=Zdao _ p rs wr a (HG3.out.below HB9.out) HT.out;rw[HNS.out]at cN;unfold lv at cN;have HCN:=hid cN;obtain⟨d0,d1⟩:=HBX9.out.cells;clear cN HBX8 HB8 HRU HBQ hjl
       go_wp2_with fail
       refine HCN.out.mono ?_;rintro e w10 ⟨vn2,rfl,ho10,hb10⟩;obtain⟨na2,nc2,q,_,_,hrn2,_⟩:=Zdfu ho10;subst q;have HB10:=hid (HB9.out.trans (hb10.mono HB9.out.size));have HBX10:=hid (HBX9.out.below hb10 (Nat.le_refl _));have cK:=Zdam _ p rs w10 a (HG3.out.below HB10.out) HT.out;unfold lv at cK;have HCK:=hid cK;obtain⟨kd,hkd⟩:∃kd,Zdbt rs a=kd:=⟨_,rfl⟩;rw[hkd]at HCK;have hkc:=Zdbv HT.out HAM.out;rw[hkd,HNS.out]at hkc;have HKC:=hid hkc;replace d0:=HBX10.out.cells.1;replace d1:=HBX10.out.cells.2;clear ho10 hb10 hrn2 cK hkc hkd HCN HBX9 HB9
       go_wp2_with fail
       refine HCK.out.mono ?_;rintro e w11 ⟨rfl,hb11⟩;have HB11:=hid (HB10.out.trans (hb11.mono HB10.out.size));have HBX11:=hid (HBX10.out.below hb11 (Nat.le_refl _));replace d0:=HBX11.out.cells.1;replace d1:=HBX11.out.cells.2;clear hb11 HCK HBX10 HB10
       rcases HKC.out with⟨rfl,hn0⟩|⟨rfl,m,hm,hn1⟩|⟨rfl,r,hr,hn2⟩
       ·subst hn0
        go_wp2;go_roundw
        case rel=>exact⟨k+1,by omega,by go_num,HB11.out⟩
        case measure=>simp only[intOf];omega
       ·subst hn1
        have cM:=Zdan _ p rs w11 a.2 (HG3.out.below HB11.out) HT.out;rw[hm]at cM;have HCM:=hid cM;clear cM
        go_wp2_with fail
        refine HCM.out.mono ?_;rintro e w12 ⟨rfl,hb12⟩;obtain⟨W12,hW12⟩:∃V,V=w12.drew:=⟨_,rfl⟩;have hd12:Below w12.heap.size w12 W12:=by rw[hW12];exact(Below.refl _ _).drew
        have hbb:=hb12.trans (hd12.mono hb12.size);have HB12:=hid (HB11.out.trans (hbb.mono HB11.out.size));have HBX12:=hid (HBX11.out.below hbb (Nat.le_refl _));have cN:=Zdao _ p rs W12 a (HG3.out.below HB12.out) HT.out;rw[HNS.out]at cN;unfold lv at cN;have HCN:=hid cN;clear hb12 hd12 hbb cN HCM
        go_wp2_with fail
        refine wp_region_held_drew (S:=λV=>Below W12.heap.size W12 V) (by kernel_rfl) ?_ (λhHeld=>?_)
        ·rw[<-hW12];exact Below.refl _ _
        rw[<-hW12]at hHeld⊢;clear hW12;refine tkK 0 ?_;refine tkK 1 ?_;refine tkK 2 ?_;refine tkK 3 ?_;refine tkK 4 ?_;refine tkK 5 ?_;refine tkK 6 ?_;refine tkK 7 ?_
        try simp only[Act.put,sA,sZ,sS]
        refine tkH 8 (v:=?_) ?_ ?_;rotate_left
        ·intro w hSw;have hA:=(HBX12.out.below hSw (Nat.le_refl _)).cells;obtain⟨q0,q1⟩:=hA;go_simp;try with_reducible rfl
        try simp only[Act.put,sA,sZ,sS]
        refine tkK 12 ?_
        try simp only[Act.put,sA,sZ,sS]
        refine rdH [9] ?_;refine rcH (λK hK=>?_) ?_
        ·go_simp;refine HCN.out.mono ?_;rintro e w13 ⟨v13,rfl,ho13,hb13⟩;dsimp only
         refine hK.out _ _ ?_ (λhHeld=>?_)
         ·try dsimp only
          exact hb13
         clear hK K
         try simp only[Act.put,sA,sZ,sS]
         obtain⟨ma,mc,q,_,_,hrm2,_⟩:=Zdfu ho13;subst q;obtain⟨gb,go,q,m0,m1⟩:=hrm2 0 (true,m) rfl;subst q;simp only[Nat.zero_mul,Nat.add_zero]at m0 m1;have HM0:=hid (λV (hV:Below w13.heap.size w13 V)=>(hV.cell (World.block_lt_of_cell? _ _ m0)).trans m0);have HM1:=hid (λV (hV:Below w13.heap.size w13 V)=>(hV.cell (World.block_lt_of_cell? _ _ m1)).trans m1);have HB13:=hid hb13;clear hrm2 m0 m1 ho13 hb13;refine tkK 10 ?_
         try simp only[Act.put,sA,sZ,sS]
         refine rdH [11,13] ?_;refine rcH (λK hK=>?_) ?_
         ·have m0:=HM0.out _ (Below.refl _ _);have m1:=HM1.out _ (Below.refl _ _);go_simp
          refine hK.out _ _ ?_ (λhHeld=>?_)
          ·try dsimp only
           exact HB13.out
          clear hK K
          try simp only[Act.put,sA,sZ,sS]
          refine rdH [13] ?_;refine rcH (λK hK=>?_) ?_
          ·go_simp;refine(Zdds m _).mono ?_;rintro e w14 ⟨rfl,hb14⟩;dsimp only
           refine hK.out _ _ ?_ (λhHeld=>?_)
           ·try dsimp only
            exact HB13.out.trans (hb14.mono HB13.out.size)
           clear hK K
           try simp only[Act.put,sA,sZ,sS]
           refine tkK 14 ?_;refine tkK 15 ?_
           try simp only[Act.put,sA,sZ,sS]
           refine wpAnyH_done (by kernel_rfl) ?_ _;have HE:=hid (HB12.out.trans (hHeld.mono HB12.out.size));go_wp2;go_roundw
           case rel=>exact⟨k+1,by omega,by go_num,HE.out⟩
           case measure=>simp only[intOf];omega
          exact AllReadyH.nil
         refine rcH (λK hK=>?_) ?_
         ·go_simp;refine(Zdds m _).mono ?_;rintro e w14 ⟨rfl,hb14⟩;dsimp only
          refine hK.out _ _ ?_ (λhHeld=>?_)
          ·try dsimp only
           exact HB13.out.trans (hb14.mono HB13.out.size)
          clear hK K
          try simp only[Act.put,sA,sZ,sS]
          refine rdH [11] ?_;refine rcH (λK hK=>?_) ?_
          ·have m0:=HM0.out _ hb14;have m1:=HM1.out _ hb14;go_simp
           refine hK.out _ _ ?_ (λhHeld=>?_)
           ·try dsimp only
            exact hHeld
           clear hK K
           try simp only[Act.put,sA,sZ,sS]
           refine tkK 14 ?_;refine tkK 15 ?_
           try simp only[Act.put,sA,sZ,sS]
           refine wpAnyH_done (by kernel_rfl) ?_ _;have HE:=hid (HB12.out.trans (hHeld.mono HB12.out.size));go_wp2;go_roundw
           case rel=>exact⟨k+1,by omega,by go_num,HE.out⟩
           case measure=>simp only[intOf];omega
          exact AllReadyH.nil
         exact AllReadyH.nil
        exact AllReadyH.nil
       ·have cR:=Zdat _ p rs w11 a.2 (HG3.out.below HB11.out) HT.out (λr hr y hy=>by have:=(HRM.out r hr).2.each y hy;omega)
        rw[hr]at cR;have HCR:=hid cR;have HN2:=hid hn2;clear cR hn2
        go_wp2_with fail
        refine HCR.out.mono ?_;rintro e w12 ⟨⟨vi,vo,vf,vs,rfl,hi,ho,hf,hst⟩,hb12⟩;obtain⟨i1,i3,q⟩:=Zue hi.isStrs;obtain⟨o1,o3,q2⟩:=Zue ho.isStrs;obtain⟨f1,f3,q3⟩:=Zue hf.isStrs;obtain⟨s1,s3,q4,_⟩:=Zboi hst;subst q q2 q3 q4;have HB12:=hid (HB11.out.trans (hb12.mono HB11.out.size));have hn3:((ns.length:Int) != (r.ins.length:Int))=false:=by rw[HN2.out];simp
        clear hi ho hf hst hb12 HCR;simp only[Option.getD_some,Option.isSome_some]at *;have HE:=hid (HB12.out.alloc HB12.out.size (.cells #[.string r.name,.slice i1 r.ins.length i3,.slice o1 r.outs.length o3,.slice f1 r.after.length f3,.slice s1 r.steps.length s3] 50));go_wp2;go_roundw
        case rel=>exact⟨k+1,by omega,by go_num,HE.out⟩
        case measure=>simp only[intOf];omega
  ·obtain rfl:k=all.length:=by omega
   have hi1:¬(all.length:Int)<(all.length:Int):=by omega
   have HE:=hid (HB0.out.trans (HBW.out.mono HB0.out.size));go_wp2;go_ret;exact⟨rfl,HE.out⟩
end Go.Proofs.YtokogjhcidkckaaGreatDoor.lawGraphBoth
