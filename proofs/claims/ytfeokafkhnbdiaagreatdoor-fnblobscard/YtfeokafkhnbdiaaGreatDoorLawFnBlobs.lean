/-
  The law on the shortest blobs of drawn blocks returns true, whatever is handed in, and writes nothing that was there.
-/
import Derived.Test.YtfeokafkhnbdiaaGreatDoorNRound
import Derived.Test.YtfeokafkhnbdiaaGreatDoorPkY
import Derived.Test.YtfeokafkhnbdiaaGreatDoorVarsC
set_option maxRecDepth 20000
set_option maxHeartbeats 16000000
namespace Go.Proofs.YtfeokafkhnbdiaaGreatDoor
open Go.RowKit
set_option linter.unusedVariables false
set_option linter.unusedSimpArgs false
theorem drawEncode_any (a:Option Addr) (bs:List Int) (cap:Nat) (w:World) (hb:Byt w a bs) (hl:bs.length≤maxLen) :
  Calls Tryz.prog 30 #[.slice a bs.length cap] w fun e w'=>∃ (c:Nat) (a':Option Addr) (ys:List Int),e=.returned (.slice a' ys.length c)∧ys.length≤65∧OVB w' w.heap.size (.slice a' ys.length c) ys∧Below w.heap.size w w':=by
 go_enter Tryz.func30,Tryz.ntmps30
 go_wp2_with fail
 refine (l1New_any a bs cap w hb hl).mono ?_
 rintro e w1 ⟨rfl,hd1⟩
 have HD1:Hid (Dr w w1 w.heap.size w.heap.size a bs cap):=hd1
 have hR1:=hd1.cur.lt
 clear hd1
 have HIN:Hid (∀ T,Ins (w1.alloc (.cells #[.int .i64 64,.int .i64 64,.int .i64 64,.int .i64 64,.int .i64 63,.int .i64 65,.int .i64 0] T)) (some ⟨w1.heap.size,0,none⟩) [64,64,64,64,63,65,0]):=fun T=>by
  have:=ins_newN w1 T [64,64,64,64,63,65,0] (by intro z hz;simp at hz;omega)
  simpa using this
 have hoa:Only (fun _=>False) w1 (w1.alloc (.cells #[.int .i64 64,.int .i64 64,.int .i64 64,.int .i64 64,.int .i64 63,.int .i64 65,.int .i64 0] 3)):=(Only.refl _ _).alloc _
 go_wp2_with fail
 refine ((HD1.out.other hoa (by simp) (by simp)).pick w1.heap.size 7 [64,64,64,64,63,65,0] (HIN.out _) (by omega) (by simp) (by simp)).mono ?_
 rintro e w2 ⟨⟨z,hz,rfl⟩,hd2,ho2⟩
 have hz2:0≤z∧z≤65:=by simp at hz;omega
 obtain ⟨n,rfl⟩:=Int.eq_ofNat_of_zero_le hz2.1
 have hn:n≤65:=by omega
 have HD2:Hid (Dr w w2 w.heap.size w.heap.size a bs cap):=hd2
 clear hd2 ho2 hoa HIN HD1 hz hz2
 go_wp2_with fail
 refine (HD2.out.bytes4 n hn).mono ?_
 rintro e w3 ⟨a3,c3,ls,rfl,hll,hov,hd3,ho3⟩
 have hw2:w.heap.size≤w2.heap.size:=HD2.out.bel.size
 subst hll
 have HR:Hid (OVB w3 w.heap.size (.slice a3 ls.length c3) ls∧Below w.heap.size w w3):=⟨hov.weak hw2,hd3.bel⟩
 clear hd3 ho3 hov HD2
 go_wp2
 go_ret
 exact ⟨c3,a3,ls,rfl,hn,HR.out⟩
theorem lawFnBlobs_any (a:Option Addr) (cap:Nat) (bs:List Int) (w:World) (hb:Byt w a bs) (hm:bs.length≤maxLen) (hE:SentE w) (hD:SentB w) :
  Calls Tryz.prog 7 #[.slice a bs.length cap] w fun e w'=>e=.returned (.bool true)∧Below w.heap.size w w':=by
 have HBL:Hid (∀ W,Below w.heap.size w W→Calls Tryz.prog 11 #[] W fun e w'=>e=.returned (.bool true)∧Below W.heap.size W w'):=fun W hW=>blobs_any W (hE.below hW) (hD.below hW)
 have HSN:Hid (SentE w∧SentB w):=⟨hE,hD⟩
 clear hE hD
 go_enter Tryz.func7,Tryz.ntmps7
 go_wp2_with fail
 refine (drawEncode_any a bs cap w hb hm).mono ?_
 rintro e w1 ⟨c1,a1,ys,rfl,hn,hov,hb1⟩
 have hc1:=hov.cap.1
 have HB1:Hid (Byt w1 a1 ys∧Below w.heap.size w w1):=⟨hov.byt,hb1⟩
 have HEN:=implEncode_any a1 c1 ys w1 hov.byt hc1 (HSN.out.1.below hb1)
 clear hb hov hb1
 go_wp2_with fail
 refine HEN.mono ?_
 clear HEN
 rintro e w2 ⟨⟨a2,c2,rfl,hm2⟩,hb2⟩
 by_cases h64:ys.length=64
 ·have hen:enO ys=some (enK ys 3):=by unfold enO;rw [if_pos h64]
  simp only [hen,Option.getD_some,Option.isSome_some] at hm2 ⊢
  obtain ⟨k,hk,hpk⟩:=enK_is h64 3
  obtain ⟨hdp,-,-,h2⟩:=decP_packed HB1.out.1.1 hpk
  have hl65:=enK_len h64 3
  rw [if_pos hl65] at hdp
  have HLE:Hid (∀ (m:Nat),m≤3→∀ z,pkO (m:Int) ys=some z→(enK ys 3).length≤z.length):=fun m hm z hz=>enK_least h64 3 m hm z hz
  clear hpk hk hen
  generalize enK ys 3=xs at *
  have HB2:Hid (Byt w2 a1 ys∧Below w.heap.size w w2):=⟨HB1.out.1.below hb2 nl,HB1.out.2.trans (hb2.mono HB1.out.2.size)⟩
  have HC:=hdp.2 a2 c2 w2 hm2.capBl hm2.byt (HSN.out.2.below HB2.out.2)
  have HPK:Hid (∀ (m:Nat) (W:World),Byt W a1 ys→Below w.heap.size w W→Calls Tryz.prog 27 #[.slice a1 ys.length c1,.int .i64 (m:Int)] W fun e w'=>pkA W w' (pkO (m:Int) ys) e):=fun m W hW hbW=>implPacked_any a1 c1 ys (m:Int) W hW hc1 (HSN.out.1.below hbW)
  have HPO:Hid (∃ P:Nat→Option (List Int),P=fun m:Nat=>pkO (m:Int) ys):=⟨_,rfl⟩
  obtain ⟨P,hP⟩:=HPO.out
  have hPm:∀ m:Nat,pkO (m:Int) ys=P m:=fun m=>by rw [hP]
  simp only [hPm] at HPK HLE
  clear hP hPm HPO
  clear hdp hm2 hb2 HB1 h64
  go_wp2_with fail
  refine HC.mono ?_
  clear HC
  rintro e w3 ⟨hb3,⟨zs,v,hzs,hov,rfl⟩ | ⟨hno,-⟩⟩
  ·cases hzs
   obtain ⟨va,vc,rfl⟩:=hov.form
   have HB3:Hid (Byt w3 a1 ys∧Byt w3 va ys∧Below w.heap.size w w3):=⟨HB2.out.1.below hb3 nl,hov.byt,HB2.out.2.trans (hb3.mono HB2.out.2.size)⟩
   clear hov hb3 HB2
   generalize hyl:ys.length=yn at *
   have HYL:Hid (ys.length=yn):=hyl
   clear hyl
   generalize hxl:xs.length=xn at *
   clear hxl
   go_wp2
   go_loopw [8] (fun mv wr=>∃ m:Nat,m≤4∧mv=.int .i64 m∧Below w3.heap.size w3 wr) (fun mv _=>4-(intOf mv).toNat)
   case atStart=>exact ⟨0,by omega,rfl,Below.refl _ _⟩
   case round=>
    obtain ⟨m,hm4,rfl,hbr⟩:=hrel
    have HBR:Hid (Byt wr a1 ys∧Byt wr va ys∧Below w.heap.size w wr∧Below w3.heap.size w3 wr):=⟨HB3.out.1.below hbr nl,HB3.out.2.1.below hbr nl,HB3.out.2.2.trans (hbr.mono HB3.out.2.2.size),hbr⟩
    clear hbr
    by_cases hlt:m≤3
    ·have hltI:(m:Int)≤3:=by omega
     have HC:=HPK.out m wr HBR.out.1 HBR.out.2.2.1
     generalize hPm:P m=o at *
     have HPm:Hid (P m=o):=hPm
     clear hPm
     go_wp2_with fail
     refine HC.mono ?_
     clear HC
     rintro e w5 ⟨⟨a5,c5,rfl,hm5⟩,hb5⟩
     have HB5:Hid (Below w3.heap.size w3 w5):=HBR.out.2.2.2.trans (hb5.mono HBR.out.2.2.2.size)
     clear hb5 HBR hm5
     cases o with
     | none=>
      simp only [Option.getD_none,Option.isSome_none,List.length_nil]
      go_wp2
      go_roundw
      case rel=>exact ⟨m+1,by omega,by go_num,HB5.out⟩
      case measure=>simp [intOf];omega
     | some z=>
      have hge:=HLE.out m hlt z HPm.out
      simp only [Option.getD_some,Option.isSome_some]
      generalize z.length=zn at *
      have hgeI:¬(zn:Int)<(xn:Int):=by omega
      go_wp2
      go_roundw
      case rel=>exact ⟨m+1,by omega,by go_num,HB5.out⟩
      case measure=>simp [intOf];omega
    ·have hltI:¬(m:Int)≤3:=by omega
     have HC:=same_yes va a1 vc c1 ys wr HBR.out.2.1 HBR.out.1
     rw [HYL.out] at HC
     clear HPK HLE
     go_wp2_with fail
     refine HC.mono ?_
     clear HC
     rintro e w6 ⟨rfl,rfl⟩
     have hxI:(xn:Int)≤65:=by omega
     go_wp2
     go_ret
     exact ⟨rfl,HBR.out.2.2.1⟩
  ·cases hno
 ·have hen:enO ys=none:=by unfold enO;rw [if_neg h64]
  simp only [hen,Option.getD_none,Option.isSome_none,List.length_nil] at hm2 ⊢
  have HB2:Hid (Below w.heap.size w w2):=HB1.out.2.trans (hb2.mono HB1.out.2.size)
  have h64I:((ys.length:Int) != 64)=true:=by rw [bne_iff_ne];omega
  clear hm2 hb2 HB1 hen
  have HC:=HBL.out w2 HB2.out
  go_wp2_with fail
  refine HC.mono ?_
  clear HC HBL
  rintro e wE ⟨rfl,hbE⟩
  have HBE:Hid (Below w.heap.size w wE):=(HB2.out).trans (hbE.mono (HB2.out).size)
  clear hbE
  go_wp2
  go_ret
  exact ⟨rfl,HBE.out⟩
end Go.Proofs.YtfeokafkhnbdiaaGreatDoor
