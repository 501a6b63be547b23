/-
  The law on Decode of drawn bytes returns true, whatever is handed in, and writes nothing that was there.
-/
import Derived.Test.YtfeokafkhnbdiaaGreatDoorEnU
import Derived.Test.YtfeokafkhnbdiaaGreatDoorVarsC
set_option maxRecDepth 20000
set_option maxHeartbeats 16000000
namespace Go.Proofs.YtfeokafkhnbdiaaGreatDoor
open Go.RowKit
set_option linter.unusedVariables false
set_option linter.unusedSimpArgs false
theorem drawDecode_any (a:Option Addr) (bs:List Int) (cap:Nat) (w:World) (hb:Byt w a bs) (hl:bs.length≤maxLen) :
  Calls Tryz.prog 32 #[.slice a bs.length cap] w fun e w'=>∃ (a':Option Addr) (c:Nat) (zs:List Int),e=.returned (.slice a' zs.length c)∧zs.length≤602∧OVB w' w.heap.size (.slice a' zs.length c) zs∧Below w.heap.size w w':=by
 go_enter Tryz.func32,Tryz.ntmps32
 go_wp2_with fail
 refine (l1New_any a bs cap w hb hl).mono ?_
 rintro e w1 ⟨rfl,hd1⟩
 have HD1:Hid (Dr w w1 w.heap.size w.heap.size a bs cap):=hd1
 have hw1:=hd1.bel.size
 have hR1:=hd1.cur.lt
 clear hd1
 go_wp2_with fail
 refine HD1.out.blob.mono ?_
 rintro e w2 ⟨a2,c2,zs,rfl,h1,h2,hov,hd2,ho2⟩
 have HS2:Hid (OVB w2 w1.heap.size (.slice a2 zs.length c2) zs∧Dr w w2 w.heap.size w.heap.size a bs cap):=⟨hov,hd2⟩
 have hw2:w1.heap.size≤w2.heap.size:=ho2.size
 clear hov hd2 ho2 HD1
 go_wp2_with fail
 refine (HS2.out.2.once 2 (by omega) (by omega)).mono ?_
 rintro e w3 ⟨⟨b,rfl⟩,hd3,ho3⟩
 have HS3:Hid (OVB w3 w1.heap.size (.slice a2 zs.length c2) zs∧Dr w w3 w.heap.size w.heap.size a bs cap):=⟨HS2.out.1.stay ho3 (fun k hk e=>by omega),hd3⟩
 have hw3:w2.heap.size≤w3.heap.size:=ho3.size
 clear hd3 ho3 HS2
 cases b with
 | false=>
  have HF:Hid (OVB w3 w.heap.size (.slice a2 zs.length c2) zs∧Below w.heap.size w w3):=⟨HS3.out.1.weak hw1,HS3.out.2.bel⟩
  clear HS3
  go_wp2
  go_ret
  exact ⟨a2,c2,zs,rfl,by omega,HF.out⟩
 | true=>
  have HC:=HS3.out.2.spoil a2 c2 zs HS3.out.1.byt h1 h2
  go_wp2_with fail
  refine HC.mono ?_
  clear HC
  rintro e w4 ⟨a4,c4,ls,rfl,hl4,hov,hd4,ho4⟩
  have HF:Hid (OVB w4 w.heap.size (.slice a4 ls.length c4) ls∧Below w.heap.size w w4):=⟨hov.weak (by omega),hd4.bel⟩
  clear hov hd4 ho4 HS3
  go_wp2
  go_ret
  exact ⟨a4,c4,ls,rfl,hl4,HF.out⟩
theorem lawFnDecodes_any (a:Option Addr) (cap:Nat) (bs:List Int) (w:World) (hb:Byt w a bs) (hm:bs.length≤maxLen) (hE:SentE w) (hD:SentB w) :
  Calls Tryz.prog 8 #[.slice a bs.length cap] w fun e w'=>e=.returned (.bool true)∧Below w.heap.size w w':=by
 have HBL:Hid (∀ W,Below w.heap.size w W→Calls Tryz.prog 11 #[] W fun e w'=>e=.returned (.bool true)∧Below W.heap.size W w'):=fun W hW=>blobs_any W (hE.below hW) (hD.below hW)
 have HSB:Hid (∀ W,Below w.heap.size w W→SentB W):=fun W hW=>hD.below hW
 clear hE hD
 go_enter Tryz.func8,Tryz.ntmps8
 go_wp2_with fail
 refine (drawDecode_any a bs cap w hb hm).mono ?_
 rintro e w1 ⟨a1,c1,zs,rfl,hl,hov,hb1⟩
 obtain ⟨Y,hW⟩:=decP zs (by omega) hov.2
 have HB1:Hid (Byt w1 a1 zs∧Below w.heap.size w w1):=⟨hov.byt,hb1⟩
 have hcap:=hov.cap.1
 have HDC:=hW.2 a1 c1 w1 hcap hov.byt (HSB.out w1 hb1)
 have HMO:Hid (∀ W,Below w.heap.size w W→Byt W a1 zs→Calls Tryz.prog 29 #[.slice a1 zs.length c1] W fun e w'=>e=.returned (.int .i64 (moP zs Y))∧Below W.heap.size W w'):=fun W hWB hby=>implModeOfP_any zs Y hW a1 c1 W hcap hby (HSB.out W hWB)
 have HY:Hid (∀ ys,Y=some ys→ys.length=64∧0≤moP zs Y):=fun ys hy=>⟨(hW.1 ys hy).1,by
  rw [hy,moP_some]
  exact (getD_rng hov.2 0).1⟩
 have HN:Hid (Y=none→moP zs Y=-1):=fun hy=>by rw [hy];rfl
 clear hb hov hb1 hW
 generalize moP zs Y=mo at *
 go_wp2_with fail
 refine HDC.mono ?_
 clear HDC
 rintro e w2 ⟨hb2,⟨ys,v,hy,hv,rfl⟩ | ⟨hy,rfl⟩⟩
 ·obtain ⟨hl64,hmo⟩:=HY.out ys hy
  obtain ⟨a2,c2,rfl⟩:=hv.form
  have HB2:Hid (Byt w2 a1 zs∧Below w.heap.size w w2):=⟨HB1.out.1.below hb2 nl,HB1.out.2.trans (hb2.mono HB1.out.2.size)⟩
  have hmd:decide (0≤mo)=true:=decide_eq_true hmo
  rw [hl64]
  clear hy hv hb2 HB1 HY HN hl64
  have HC:=HMO.out w2 HB2.out.2 HB2.out.1
  go_wp2_with fail
  refine HC.mono ?_
  clear HC HMO
  rintro e w3 ⟨rfl,hb3⟩
  have HB3:Hid (Below w.heap.size w w3):=HB2.out.2.trans (hb3.mono HB2.out.2.size)
  clear hb3 HB2
  have HC:=HBL.out w3 HB3.out
  go_wp2_with fail
  refine HC.mono ?_
  clear HC HBL
  rintro e w4 ⟨rfl,hb4⟩
  have HB4:Hid (Below w.heap.size w w4):=HB3.out.trans (hb4.mono HB3.out.size)
  clear hb4 HB3
  go_wp2
  go_ret
  exact ⟨rfl,HB4.out⟩
 ·obtain rfl:mo=-1:=HN.out hy
  have HB2:Hid (Byt w2 a1 zs∧Below w.heap.size w w2):=⟨HB1.out.1.below hb2 nl,HB1.out.2.trans (hb2.mono HB1.out.2.size)⟩
  clear hy hb2 HB1 HY HN
  have HC:=HMO.out w2 HB2.out.2 HB2.out.1
  go_wp2_with fail
  refine HC.mono ?_
  clear HC HMO
  rintro e w3 ⟨rfl,hb3⟩
  have HB3:Hid (Below w.heap.size w w3):=HB2.out.2.trans (hb3.mono HB2.out.2.size)
  clear hb3 HB2
  have HC:=HBL.out w3 HB3.out
  go_wp2_with fail
  refine HC.mono ?_
  clear HC HBL
  rintro e w4 ⟨rfl,hb4⟩
  have HB4:Hid (Below w.heap.size w w4):=HB3.out.trans (hb4.mono HB3.out.size)
  clear hb4 HB3
  go_wp2
  go_ret
  exact ⟨rfl,HB4.out⟩
end Go.Proofs.YtfeokafkhnbdiaaGreatDoor
