import Derived.Test.YtcpjfpdecklkgaaGreatDoorMad
namespace Go.Proofs.YtcpjfpdecklkgaaGreatDoor
open Go.Lib (hid)
open Go.Proofs.Tryz
open Go.RowKit
theorem Zbqo (w:World) (xs:List ByteArray) (cells:Array Value) (hc:cells=(xs.map Value.string).toArray) (hl:xs.length<=1000):
  IsStrs (w.alloc (.cells cells 9)) (.slice (some ⟨w.heap.size,0,none⟩) xs.length xs.length) xs:=by
 subst hc;refine⟨_,xs.length,rfl,Nat.le_refl _,by unfold maxLen;omega,λ_=>⟨w.heap.size,0,rfl,by simp,λj x hx=>?_⟩⟩;rw[Nat.zero_add];exact Zig w xs _ j x hx
theorem Zof (w:World) (fs:List F2) (cells:Array Value) (hc:cells=(Znm fs).toArray) (hl:fs.length<=1000):
  IsFiles (w.alloc (.cells cells 51)) (.slice (some ⟨w.heap.size,0,none⟩) fs.length fs.length) fs:=by
 subst hc;refine⟨_,fs.length,rfl,Nat.le_refl _,by unfold maxLen;omega,λ_=>⟨w.heap.size,0,rfl,by simp,λj x hx=>?_⟩⟩;obtain⟨h1,h2⟩:=Zno fs j x hx;rw[Nat.zero_add];exact⟨by rw[World.cell?_alloc_at _ _ _ _ rfl];simpa using h1,by rw[World.cell?_alloc_at _ _ _ _ rfl];simpa using h2⟩
theorem Zbsl (w:World) (vs:List (Bool×ByteArray)) (cells:Array Value) (hc:∀(j:Nat) x,vs[j]? =some x->cells[j*2]? =some (.bool x.1)/\cells[j*2+1]? =some (.string x.2)) (hl:vs.length<=1000):
  Zbb (w.alloc (.cells cells 46)) (.slice (some ⟨w.heap.size,0,none⟩) vs.length vs.length) vs:=by
 refine⟨_,vs.length,rfl,Nat.le_refl _,by unfold maxLen;omega,λ_=>⟨w.heap.size,0,rfl,by simp,λj x hx=>?_⟩⟩;obtain⟨h1,h2⟩:=hc j x hx;rw[Nat.zero_add];exact⟨by rw[World.cell?_alloc_at _ _ _ _ rfl];exact h1,by rw[World.cell?_alloc_at _ _ _ _ rfl];exact h2⟩
theorem chain {w a b:World} (h:Below w.heap.size w a) (h':Below a.heap.size a b):Below w.heap.size w b:=h.trans (h'.mono h.size)
set_option maxHeartbeats 4000000 in
set_option maxRecDepth 100000 in
theorem Zfd (w:World) (hG:Glob w):Calls prog 127 #[] w λe w'=>e = .returned (.bool true)/\Below w.heap.size w w':=by
 have HG:=hid hG;clear hG;have cN1:∀w,Glob w->Calls prog 173 #[.string ⟨#[97,47,47,46,47,98,47,46,46,47,99]⟩] w λe w'=>e = .returned (.tuple #[.string ⟨#[97,47,99]⟩,.bool true])/\Below w.heap.size w w':=λw hg=>by
  obtain⟨m,hm⟩:=hg.max;have h:=Zbbv ⟨#[97,47,47,46,47,98,47,46,46,47,99]⟩ m w (by decide) (Zie hm) hm;rw[show(⟨#[97,47,47,46,47,98,47,46,46,47,99]⟩:ByteArray).data.toList = [97,47,47,46,47,98,47,46,46,47,99]from rfl,Zek]at h;exact h
 have cN2:∀w,Glob w->Calls prog 173 #[.string ⟨#[46,46]⟩] w λe w'=>e = .returned (.tuple #[.string ⟨#[]⟩,.bool false])/\Below w.heap.size w w':=λw hg=>by
  obtain⟨m,hm⟩:=hg.max;have h:=Zbbv ⟨#[46,46]⟩ m w (by decide) (Zie hm) hm;rw[show(⟨#[46,46]⟩:ByteArray).data.toList = [46,46]from rfl,Zel]at h;exact h
 have cG:∀w,Glob w->Calls prog 174 #[.string ⟨#[49,58,97,48,58]⟩] w λe w'=>(∃a c,e = .returned (.tuple #[.slice a 2 c,.bool true]))/\Below w.heap.size w w':=λw hg=>by
  have h:=Zqq ⟨#[49,58,97,48,58]⟩ w (by decide) hg;rw[show(⟨#[49,58,97,48,58]⟩:ByteArray).data.toList = [49,58,97,48,58]from rfl,Zec]at h;refine h.mono ?_;rintro e w' ⟨hb,a,c,xs,hxs,rfl,_⟩;have:xs.length=2:=by rw[<-List.length_map (·.data.toList),hxs];rfl
  exact⟨⟨a,c,by rw[this]⟩,hb⟩
 have cGN:∀w,Glob w->Calls prog 175 #[.string ⟨#[49,50]⟩,.int .i64 20] w λe w'=>e = .returned (.tuple #[.int .i64 12,.bool true])/\Below w.heap.size w w':=λw hg=>by
  have h:=Zqm ⟨#[49,50]⟩ 20 (by decide) w hg;rw[show(⟨#[49,50]⟩:ByteArray).data.toList = [49,50]from rfl,Zem]at h;exact h
 have cMay:∀(l:List UInt8) (r:Bool),l.length<=40->Zbcf l=r->∀w,Glob w->Calls prog 68 #[.string ⟨l.toArray⟩] w λe w'=>e = .returned (.bool r)/\Below w.heap.size w w':=λl r hl hr w hg=>by
  obtain⟨m,hm⟩:=hg.max;have h:=Zzb ⟨l.toArray⟩ m w (by unfold maxLen;simp only[ByteArray.size,List.size_toArray];omega) hm;rw[show(⟨l.toArray⟩:ByteArray).data.toList=l from by simp,hr]at h;exact h
 have cM1:=cMay [97,47,98,46,99] true (by decide) Zeg;have cM2:=cMay [97,47,47,98] false (by decide) Zeh;have cM3:=cMay [114,117,108,101] false (by decide) Zei;have cJ:∀w,Glob w->Calls prog 176 #[.slice (some ⟨w.heap.size,0,none⟩) 3 3] (w.alloc (.cells #[.string ⟨#[97]⟩,.string ⟨#[]⟩,.string ⟨#[98]⟩] 9)) λe w'=>e = .returned (.string ⟨#[97,47,98]⟩)/\Below w.heap.size w w':=λw hg=>by
  have h:=Zux _ [⟨#[97]⟩,⟨#[]⟩,⟨#[98]⟩] _ (Zbqo w [⟨#[97]⟩,⟨#[]⟩,⟨#[98]⟩] _ rfl (by decide)) (by decide) (by show(Zus [[97],[],[98]]).length<=_;rw[Zee];decide);rw[show([⟨#[97]⟩,⟨#[]⟩,⟨#[98]⟩]:List ByteArray).map (·.data.toList) = [[97],[],[98]]from rfl,Zee]at h;exact h.mono λe w' ⟨he,hb⟩=>⟨he,chain ((Below.refl _ _).alloc (Nat.le_refl _) _) hb⟩
 have cP:∀w,Glob w->Calls prog 114 #[.string ⟨#[47]⟩] w λe w'=>(∃a c,e = .returned (.slice a 2 c))/\Below w.heap.size w w':=λw hg=>by
  obtain⟨m,hm⟩:=hg.max;refine(Zbex ⟨#[47]⟩ m w (by decide) hm).mono ?_;rintro e w' ⟨xs,hxs,rfl,rfl⟩;have:xs.length=2:=by
   rw[<-List.length_map (·.data.toList),hxs];show(cutAt 47 [47]).length=2;rw[Zeb];rfl
  exact⟨⟨_,_,by rw[this]⟩,(Below.refl _ _).alloc (Nat.le_refl _) _⟩
 have cPut:∀w,Glob w->Calls prog 177 #[.slice (some ⟨w.heap.size,0,none⟩) 2 2] (w.alloc (.cells #[.string ⟨#[97]⟩,.string ⟨#[]⟩] 9)) λe w'=>e = .returned (.string ⟨#[49,58,97,48,58]⟩)/\Below w.heap.size w w':=λw hg=>by
  have hb0:Below w.heap.size w (w.alloc (.cells #[.string ⟨#[97]⟩,.string ⟨#[]⟩] 9)):=(Below.refl _ _).alloc (Nat.le_refl _) _;have h:=Zbfu _ [⟨#[97]⟩,⟨#[]⟩] _ (Zbqo w [⟨#[97]⟩,⟨#[]⟩] _ rfl (by decide)) (by decide) (hg.below hb0) (by show(putS [[97],[]]).length<=_;rw[Zeo];decide);rw[show([⟨#[97]⟩,⟨#[]⟩]:List ByteArray).map (·.data.toList) = [[97],[]]from rfl,Zeo]at h;exact h.mono λe w' ⟨he,hb⟩=>⟨he,chain hb0 hb⟩
 have cVals:∀w,Glob w->Calls prog 178 #[.slice (some ⟨w.heap.size,0,none⟩) 2 2] (w.alloc (.cells #[.bool true,.string ⟨#[122]⟩,.bool false,.string ⟨#[]⟩] 46)) λe w'=>e = .returned (.string ⟨#[50,58,43,122,49,58,45]⟩)/\Below w.heap.size w w':=λw hg=>by
  have hb0:Below w.heap.size w (w.alloc (.cells #[.bool true,.string ⟨#[122]⟩,.bool false,.string ⟨#[]⟩] 46)):=(Below.refl _ _).alloc (Nat.le_refl _) _;have h:=Zbsh _ [(true,⟨#[122]⟩),(false,⟨#[]⟩)] _ (Zbsl w [(true,⟨#[122]⟩),(false,⟨#[]⟩)] _ (λj x hx=>by
    match j,hx with
    | 0,hx=>simp at hx;subst hx;exact⟨rfl,rfl⟩
    | 1,hx=>simp at hx;subst hx;exact⟨rfl,rfl⟩) (by decide)) (by decide) (hg.below hb0) (by intro x hx;simp at hx;rcases hx with rfl|rfl<;>decide) (by show(putS [[43,122],[45]]).length<=_;rw[Zeq];decide)
  rw[show([(true,⟨#[122]⟩),(false,⟨#[]⟩)]:List (Bool×ByteArray)).map (λx=>Zyl (x.1,x.2.data.toList)) = [[43,122],[45]]from rfl,Zeq]at h;exact h.mono λe w' ⟨he,hb⟩=>⟨he,chain hb0 hb⟩
 have cNew:∀w,Glob w->Calls prog 17 #[.slice (some ⟨w.heap.size,0,none⟩) 3 3] (w.alloc (.cells #[.string ⟨#[98]⟩,.string ⟨#[120]⟩,.string ⟨#[97]⟩,.string ⟨#[]⟩,.string ⟨#[105,110]⟩,.string ⟨#[]⟩] 51)) λe w'=>∃b B r,e = .returned (.pointer (some ⟨b,0,none⟩))/\Below w.heap.size w w'/\IsTree w' B b r Zea:=λw hg=>by
  have hb0:Below w.heap.size w (w.alloc (.cells #[.string ⟨#[98]⟩,.string ⟨#[120]⟩,.string ⟨#[97]⟩,.string ⟨#[]⟩,.string ⟨#[105,110]⟩,.string ⟨#[]⟩] 51)):=(Below.refl _ _).alloc (Nat.le_refl _) _;have h:=Zbaw _ Zdz _ (Zof w Zdz _ rfl (by decide)) (hg.below hb0) (by intro x hx;simp[Zdz]at hx;rcases hx with rfl|rfl|rfl<;>exact⟨by decide,by decide⟩);rw[Zej]at h;refine h.mono ?_;rintro e w' ⟨b,r,rfl,hT,hb⟩;exact⟨b,_,r,rfl,chain hb0 hb,hT⟩
 have HN1:=hid cN1;have HN2:=hid cN2;have HCG:=hid cG;have HGN:=hid cGN;have HM1:=hid cM1;have HM2:=hid cM2;have HM3:=hid cM3;have HJ:=hid cJ;have HP:=hid cP;have HPut:=hid cPut;have HVals:=hid cVals;have HNew:=hid cNew;clear cN1 cN2 cG cGN cMay cM1 cM2 cM3 cJ cP cPut cVals cNew
 go_enter func127,ntmps127
 go_wp2_with fail
 refine(HN1.out _ HG.out).mono ?_;rintro e w1 ⟨rfl,hb1⟩
 go_wp2_with fail
 refine(HN2.out _ (HG.out.below hb1)).mono ?_;rintro e w2 ⟨rfl,hb2⟩;replace hb2:=chain hb1 hb2;clear hb1
 go_wp2_with fail
 refine(HCG.out _ (HG.out.below hb2)).mono ?_;rintro e w3 ⟨⟨a3,c3,rfl⟩,hb3⟩;replace hb3:=chain hb2 hb3;clear hb2
 go_wp2_with fail
 refine(HGN.out _ (HG.out.below hb3)).mono ?_;rintro e w4 ⟨rfl,hb4⟩;replace hb4:=chain hb3 hb4;clear hb3
 go_wp2_with fail
 refine(HNew.out _ (HG.out.below hb4)).mono ?_;rintro e w5 ⟨b5,B5,r5,rfl,hb5,ht5⟩;replace hb5:=chain hb4 hb5;have HT5:=hid ht5;clear hb4 ht5
 go_wp2_with fail
 refine(Zbgx B5 b5 r5 Zea ⟨#[98]⟩ _ HT5.out).mono ?_;rw[Zep];rintro e w6 ⟨rfl,hb6⟩;have HT6:=hid (HT5.out.below hb6);replace hb6:=chain hb5 hb6;clear hb5 HT5
 go_wp2_with fail
 refine(HM1.out _ (HG.out.below hb6)).mono ?_;rintro e w7 ⟨rfl,hb7⟩;have HT7:=hid (HT6.out.below hb7);replace hb7:=chain hb6 hb7;clear hb6 HT6
 go_wp2_with fail
 refine(HM2.out _ (HG.out.below hb7)).mono ?_;rintro e w8 ⟨rfl,hb8⟩;have HT8:=hid (HT7.out.below hb8);replace hb8:=chain hb7 hb8;clear hb7 HT7
 go_wp2_with fail
 refine(HM3.out _ (HG.out.below hb8)).mono ?_;rintro e w9 ⟨rfl,hb9⟩;have HT9:=hid (HT8.out.below hb9);replace hb9:=chain hb8 hb9;clear hb8 HT8
 go_wp2_with fail
 refine(HJ.out _ (HG.out.below hb9)).mono ?_;rintro e w10 ⟨rfl,hb10⟩;have HT10:=hid (HT9.out.below hb10);replace hb10:=chain hb9 hb10;clear hb9 HT9
 go_wp2_with fail
 refine(HP.out _ (HG.out.below hb10)).mono ?_;rintro e w11 ⟨⟨a11,c11,rfl⟩,hb11⟩;have HT11:=hid (HT10.out.below hb11);replace hb11:=chain hb10 hb11;clear hb10 HT10
 go_wp2_with fail
 refine(HPut.out _ (HG.out.below hb11)).mono ?_;rintro e w12 ⟨rfl,hb12⟩;have HT12:=hid (HT11.out.below hb12);replace hb12:=chain hb11 hb12;clear hb11 HT11
 go_wp2_with fail
 refine(HVals.out _ (HG.out.below hb12)).mono ?_;rintro e w13 ⟨rfl,hb13⟩;have HT13:=hid (HT12.out.below hb13);replace hb13:=chain hb12 hb13;clear hb12 HT12;obtain⟨a9,c9,hA,hF⟩:=HT13.out.all;have HA:=hid hA;have HF:=hid hF;clear hA hF
 go_wp2_with fail
 refine(Zxa _ a9 c9 Zea _ HA.out).mono ?_;rintro e w14 ⟨rfl,rfl⟩
 go_wp2_with fail
 refine(Zbag _ a9 c9 Zea _ HA.out HF.out (by decide)).mono ?_;rintro e w15 ⟨a15,c15,rfl,hown15,hb15⟩;have HT15:=hid (HT13.out.below hb15);replace hb15':=chain hb13 hb15;have hn15:∃g,a15=some ⟨g,0,none⟩/\w15.cell? ⟨g,0,none⟩=some (.string ⟨#[97]⟩):=by
  have hS:=Zbqq (xs:=[⟨#[97]⟩,⟨#[98]⟩]) hown15;obtain⟨_,⟨hv,h0⟩|⟨g,cap,cur,hv,_⟩⟩:=hown15
  ·cases h0
  ·cases hv
   obtain⟨a',c',hv,_,_,hc⟩:=hS
   cases hv
   obtain⟨b',o',h1,_,h2⟩:=hc (by simp)
   cases h1
   exact⟨g,rfl,h2 0 _ rfl⟩
 obtain⟨g15,rfl,hc15⟩:=hn15;have HA15:=hid (HA.out.below hb15);have HF15:=hid (HF.out.below hb15);clear hown15 hb15 hb13 HT13 HA HF
 go_wp2_with fail
 refine(Zwn _ a9 c9 Zea _ HA15.out HF15.out (by decide) (HG.out.below hb15') (by show(putS [[97],[],[98],[120]]).length<=_;rw[Zef];decide)).mono ?_;rw[show keyL Zea = [[97],[],[98],[120]]from rfl,Zef];rintro e w16 ⟨rfl,hb16⟩;have HT16:=hid (HT15.out.below hb16);replace hb16:=chain hb15' hb16;clear hb15' HT15 hc15
 go_wp2_with fail
 refine(Zna B5 b5 r5 Zea ⟨#[99]⟩ _ HT16.out Zed).mono ?_;rintro e w17 ⟨rfl,hb17⟩;replace hb17:=chain hb16 hb17;clear hb16
 go_wp2_with fail
 go_ret;exact⟨rfl,hb17⟩
end Go.Proofs.YtcpjfpdecklkgaaGreatDoor
