/-
  The law on blobs of drawn blocks returns true, whatever is handed in, and writes nothing that was there.
-/
import Derived.Test.YtfeokafkhnbdiaaGreatDoorNRound
import Derived.Test.YtfeokafkhnbdiaaGreatDoorPkY
import Derived.Test.YtfeokafkhnbdiaaGreatDoorVarsC
set_option maxRecDepth 20000
set_option maxHeartbeats 16000000
namespace Go.Proofs.YtfeokafkhnbdiaaGreatDoor
open Go.RowKit
set_option linter.unusedVariables false
set_option linter.unusedSimpArgs false
theorem drawPacked_any (a:Option Addr) (bs:List Int) (cap:Nat) (w:World) (hb:Byt w a bs) (hl:bs.length≤maxLen) :
  Calls Tryz.prog 26 #[.slice a bs.length cap] w fun e w'=>∃ (c:Nat) (a':Option Addr) (ys:List Int) (x:Int),e=.returned (.tuple #[.slice a' ys.length c,.int .i64 x])∧ys.length≤65∧-1≤x∧x≤4∧OVB w' w.heap.size (.slice a' ys.length c) ys∧Below w.heap.size w w':=by
 go_enter Tryz.func26,Tryz.ntmps26
 go_wp2_with fail
 refine (l1New_any a bs cap w hb hl).mono ?_
 rintro e w1 ⟨rfl,hd1⟩
 have HD1:Hid (Dr w w1 w.heap.size w.heap.size a bs cap):=hd1
 have hR1:=hd1.cur.lt
 clear hd1
 have HIN:Hid (∀ T,Ins (w1.alloc (.cells #[.int .i64 64,.int .i64 64,.int .i64 64,.int .i64 64,.int .i64 63,.int .i64 65,.int .i64 0] T)) (some ⟨w1.heap.size,0,none⟩) [64,64,64,64,63,65,0]):=fun T=>by
  have:=ins_newN w1 T [64,64,64,64,63,65,0] (by intro z hz;simp at hz;omega)
  simpa using this
 have hoa:Only (fun _=>False) w1 (w1.alloc (.cells #[.int .i64 64,.int .i64 64,.int .i64 64,.int .i64 64,.int .i64 63,.int .i64 65,.int .i64 0] 3)):=(Only.refl _ _).alloc _
 go_wp2_with fail
 refine ((HD1.out.other hoa (by simp) (by simp)).pick w1.heap.size 7 [64,64,64,64,63,65,0] (HIN.out _) (by omega) (by simp) (by simp)).mono ?_
 rintro e w2 ⟨⟨z,hz,rfl⟩,hd2,ho2⟩
 have hz2:0≤z∧z≤65:=by simp at hz;omega
 obtain ⟨n,rfl⟩:=Int.eq_ofNat_of_zero_le hz2.1
 have hn:n≤65:=by omega
 have HD2:Hid (Dr w w2 w.heap.size w.heap.size a bs cap):=hd2
 clear hd2 ho2 hoa HIN HD1 hz hz2
 go_wp2_with fail
 refine (HD2.out.bytes4 n hn).mono ?_
 rintro e w3 ⟨a3,c3,ls,rfl,hll,hov,hd3,ho3⟩
 have hw2:w.heap.size≤w2.heap.size:=HD2.out.bel.size
 subst hll
 have HD3:Hid (Dr w w3 w.heap.size w.heap.size a bs cap∧OVB w3 w2.heap.size (.slice a3 ls.length c3) ls∧w.heap.size<w2.heap.size):=⟨hd3,hov,by have:=HD2.out.cur.lt;omega⟩
 clear hd3 ho3 hov HD2
 go_wp2_with fail
 refine (HD3.out.1.below 6 (by omega) (by omega)).mono ?_
 rintro e w4 ⟨⟨y,hy1,hy2,rfl⟩,hd4,ho4⟩
 have hyw:IntKind.i64.wrap (y-1)=y-1:=IntWalk.i64_in _ (by omega)
 have HR:Hid (OVB w4 w.heap.size (.slice a3 ls.length c3) ls∧Below w.heap.size w w4):=⟨(HD3.out.2.1.stay ho4 (fun k hk=>by have:=HD3.out.2.2;omega)).weak hw2,hd4.bel⟩
 clear hd4 ho4 HD3
 go_wp2
 go_ret2
 exact ⟨c3,a3,ls,y-1,rfl,hn,by omega,by omega,HR.out⟩
theorem lawFnPacked_any (a:Option Addr) (cap:Nat) (bs:List Int) (w:World) (hb:Byt w a bs) (hm:bs.length≤maxLen) (hE:SentE w) (hD:SentB w) :
  Calls Tryz.prog 6 #[.slice a bs.length cap] w fun e w'=>e=.returned (.bool true)∧Below w.heap.size w w':=by
 have HBL:Hid (∀ W,Below w.heap.size w W→Calls Tryz.prog 11 #[] W fun e w'=>e=.returned (.bool true)∧Below W.heap.size W w'):=fun W hW=>blobs_any W (hE.below hW) (hD.below hW)
 have HSN:Hid (SentE w∧SentB w):=⟨hE,hD⟩
 clear hE hD
 go_enter Tryz.func6,Tryz.ntmps6
 go_wp2_with fail
 refine (drawPacked_any a bs cap w hb hm).mono ?_
 rintro e w1 ⟨c1,a1,ys,x,rfl,hn,hx1,hx2,hov,hb1⟩
 have HB1:Hid (Byt w1 a1 ys∧Below w.heap.size w w1):=⟨hov.byt,hb1⟩
 have HPK:=implPacked_any a1 c1 ys x w1 hov.byt hov.cap.1 (HSN.out.1.below hb1)
 clear hb hov hb1
 go_wp2_with fail
 refine HPK.mono ?_
 clear HPK
 rintro e w2 ⟨⟨a2,c2,rfl,hm2⟩,hb2⟩
 cases hpo:pkO x ys with
 | none=>
  simp only [hpo,Option.getD_none,Option.isSome_none,List.length_nil] at hm2 ⊢
  have HB2:Hid (Below w.heap.size w w2):=HB1.out.2.trans (hb2.mono HB1.out.2.size)
  clear hm2 hb2 HB1 hpo
  have HC:=HBL.out w2 HB2.out
  go_wp2_with fail
  refine HC.mono ?_
  clear HC HBL
  rintro e wE ⟨rfl,hbE⟩
  have HBE:Hid (Below w.heap.size w wE):=(HB2.out).trans (hbE.mono (HB2.out).size)
  clear hbE
  go_wp2
  go_ret
  exact ⟨rfl,HBE.out⟩
 | some xs=>
  simp only [hpo,Option.getD_some,Option.isSome_some] at hm2 ⊢
  obtain ⟨hdp,hg0,hn64,h2⟩:=decP_packed HB1.out.1.1 hpo
  have hl601:=pkO_len HB1.out.1.1 hpo
  clear hn64
  have HX:Hid (DecP xs (if xs.length≤65 then some ys else none)∧xs.getD 0 0=x∧xs.length≤c2):=⟨hdp,hg0,hm2.capBl⟩
  have HB2:Hid (Byt w2 a1 ys∧Byt w2 a2 xs∧Below w.heap.size w w2):=⟨HB1.out.1.below hb2 nl,hm2.byt,HB1.out.2.trans (hb2.mono HB1.out.2.size)⟩
  have HC:=hdp.2 a2 c2 w2 hm2.capBl hm2.byt (HSN.out.2.below HB2.out.2.2)
  clear hdp hg0 hm2 hb2 HB1 hpo
  go_wp2_with fail
  refine HC.mono ?_
  clear HC
  by_cases hl:xs.length≤65
  ·have HX2:Hid (DecP xs (some ys)):=by have:=HX.out.1;rw [if_pos hl] at this;exact this
   rw [if_pos hl]
   rintro e w3 ⟨hb3,⟨zs,v,hzs,hov,rfl⟩ | ⟨hno,-⟩⟩
   ·cases hzs
    obtain ⟨va,vc,rfl⟩:=hov.form
    have hlI:¬(65:Int)<(xs.length:Int):=by omega
    have HB3:Hid (Byt w3 a1 ys∧Byt w3 a2 xs∧Byt w3 va ys∧Below w.heap.size w w3):=⟨HB2.out.1.below hb3 nl,HB2.out.2.1.below hb3 nl,hov.byt,HB2.out.2.2.trans (hb3.mono HB2.out.2.2.size)⟩
    clear hov hb3 HB2
    have HC:=same_yes va a1 vc c1 ys w3 HB3.out.2.2.1 HB3.out.1
    go_wp2_with fail
    refine HC.mono ?_
    clear HC
    rintro e w3' ⟨rfl,rfl⟩
    have HC:=implModeOfP_any xs (some ys) HX2.out a2 c2 w3' HX.out.2.2 HB3.out.2.1 (HSN.out.2.below HB3.out.2.2.2)
    rw [moP_some,HX.out.2.1] at HC
    go_wp2_with fail
    refine HC.mono ?_
    clear HC
    rintro e w4 ⟨rfl,hb4⟩
    have HB4:Hid (Below w.heap.size w w4):=HB3.out.2.2.2.trans (hb4.mono HB3.out.2.2.2.size)
    have hxx:(x == x)=true:=by simp
    clear hb4 HB3 HX HX2
    have HC:=HBL.out w4 HB4.out
    go_wp2_with fail
    refine HC.mono ?_
    clear HC HBL
    rintro e wE ⟨rfl,hbE⟩
    have HBE:Hid (Below w.heap.size w wE):=(HB4.out).trans (hbE.mono (HB4.out).size)
    clear hbE
    go_wp2
    go_ret
    exact ⟨rfl,HBE.out⟩
   ·cases hno
  ·rw [if_neg hl]
   rintro e w3 ⟨hb3,⟨zs,v,hzs,-,-⟩ | ⟨-,rfl⟩⟩
   ·cases hzs
   ·have hlI:(65:Int)<(xs.length:Int):=by omega
    have HB3:Hid (Below w.heap.size w w3):=HB2.out.2.2.trans (hb3.mono HB2.out.2.2.size)
    clear hb3 HB2 HX
    have HC:=HBL.out w3 HB3.out
    go_wp2_with fail
    refine HC.mono ?_
    clear HC HBL
    rintro e wE ⟨rfl,hbE⟩
    have HBE:Hid (Below w.heap.size w wE):=(HB3.out).trans (hbE.mono (HB3.out).size)
    clear hbE
    go_wp2
    go_ret
    exact ⟨rfl,HBE.out⟩
end Go.Proofs.YtfeokafkhnbdiaaGreatDoor
