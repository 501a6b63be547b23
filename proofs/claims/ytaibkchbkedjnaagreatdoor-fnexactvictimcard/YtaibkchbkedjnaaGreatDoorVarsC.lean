/- Lemmas on the way. -/
import Derived.Test.YtaibkchbkedjnaaGreatDoorPlP
import Derived.Deep.RegionHeld3
import Derived.Test.YtaibkchbkedjnaaGreatDoorOpen1
import Derived.Test.YtaibkchbkedjnaaGreatDoorElEq
import Derived.Test.YtaibkchbkedjnaaGreatDoorIParts
import Derived.Test.YtaibkchbkedjnaaGreatDoorRows
import Derived.WalkKit
import Derived.ProofKit
import Derived.OpenShut
import Derived.ShutString
import Derived.ChangeOld
import Derived.Below
import Derived.Lib.SmallJoins
import Derived.Deep.Slices
import Derived.Deep.Strs
import Derived.ChangeSame
import Derived.Test.YtaibkchbkedjnaaGreatDoorCards
import Derived.Test.YtaibkchbkedjnaaGreatDoorTie
import Derived.LaidMore
import Derived.Stop.Joined
import Derived.Stop.LaidErr
import Derived.WalkSmall
import Derived.SevenTiedAt
set_option maxRecDepth 20000
set_option maxHeartbeats 16000000
namespace Go.Proofs.YtaibkchbkedjnaaGreatDoor
open Go.RowKit
set_option linter.unusedVariables false
theorem eqPlace_yes (x y:Int) (w:World) :
  Calls Tryz.prog 143 #[.agg #[.int .i64 x,.int .i64 y],.agg #[.int .i64 x,.int .i64 y]] w fun e w'=>e=.returned (.bool true)∧Below w.heap.size w w':=by
 have hw:Below w.heap.size w ((w.alloc (Obj.cells #[.int .i64 x,.int .i64 y] 127)).alloc (Obj.cells #[.int .i64 x,.int .i64 y] 127)):=
  ((Below.refl _ _).alloc nl _).alloc (by simp) _
 have h1:(x != x)=false:=by simp
 have h2:(y != y)=false:=by simp
 go_enter Tryz.func143,Tryz.ntmps143
 go_wp2
 go_ret
 exact ⟨rfl,hw⟩
theorem eqPlaceS_yes (a b:Option Addr) (ca cb:Nat) (ps:List (Int × Int)) (w:World) (ha:Pls w a ps) (hb:Pls w b ps) (hx:ps.length≤1048576) :
  Calls Tryz.prog 99 #[.slice a ps.length ca,.slice b ps.length cb] w fun e w'=>e=.returned (.bool true)∧Below w.heap.size w w':=by
 have HA:Hid (Pls w a ps):=ha
 have HB:Hid (Pls w b ps):=hb
 clear ha hb
 generalize hlen:ps.length=n at *
 have HL:Hid (ps.length=n∧True):=⟨hlen,trivial⟩
 clear hlen
 have hnn:((n:Int) != (n:Int))=false:=by simp
 go_enter Tryz.func99,Tryz.ntmps99
 go_wp2
 go_loopw [5] (fun i wr=>∃ k:Nat,k≤n∧i=.int .i64 k∧Below w.heap.size w wr) (fun i _=>n-(intOf i).toNat)
 case atStart=>exact ⟨0,Nat.zero_le _,rfl,Below.refl _ _⟩
 case round=>
  obtain ⟨k,hk,rfl,hbel⟩:=hrel
  by_cases hlt:k<n
  ·obtain ⟨b1,o1,rfl,hb1,hc1⟩:=(HA.out.below hbel nl).len_pos k (by rw [HL.out.1];exact hlt)
   obtain ⟨b2,o2,rfl,hb2,hc2⟩:=(HB.out.below hbel nl).len_pos k (by rw [HL.out.1];exact hlt)
   obtain ⟨c0,c1⟩:=hc1 k (by rw [HL.out.1];exact hlt)
   obtain ⟨d0,d1⟩:=hc2 k (by rw [HL.out.1];exact hlt)
   clear hc1 hc2
   generalize ps.getD k dp=p at *
   obtain ⟨x,y⟩:=p
   simp only at c0 c1 d0 d1
   have HC:Hid (wr.cell? ⟨b1,o1+k*2,none⟩=some (.int .i64 x)∧wr.cell? ⟨b1,o1+k*2+1,none⟩=some (.int .i64 y)∧wr.cell? ⟨b2,o2+k*2,none⟩=some (.int .i64 x)∧wr.cell? ⟨b2,o2+k*2+1,none⟩=some (.int .i64 y)):=⟨c0,c1,d0,d1⟩
   clear c0 c1 d0 d1
   go_wp2_with fail
   go_region_held3 (fun W=>W.cell? ⟨b1,o1+k*2,none⟩=some (.int .i64 x)∧W.cell? ⟨b1,o1+k*2+1,none⟩=some (.int .i64 y)∧W.cell? ⟨b2,o2+k*2,none⟩=some (.int .i64 x)∧W.cell? ⟨b2,o2+k*2+1,none⟩=some (.int .i64 y))
    (first | exact HC.out | exact HC8.out)
    (first
     | (go_at_call 143;refine (eqPlace_yes x y _).mono ?_;rintro e w8 ⟨rfl,hb8'⟩;have HB8:Hid (Below w.heap.size w w8):=hbel.trans ((Below.drewS hb8').mono hbel.size);have HC8:Hid (w8.cell? ⟨b1,o1+k*2,none⟩=some (.int .i64 x)∧w8.cell? ⟨b1,o1+k*2+1,none⟩=some (.int .i64 y)∧w8.cell? ⟨b2,o2+k*2,none⟩=some (.int .i64 x)∧w8.cell? ⟨b2,o2+k*2+1,none⟩=some (.int .i64 y)):=⟨keep (Below.drewS hb8') hb1 HC.out.1,keep (Below.drewS hb8') hb1 HC.out.2.1,keep (Below.drewS hb8') hb2 HC.out.2.2.1,keep (Below.drewS hb8') hb2 HC.out.2.2.2⟩))
   clear HC HC8
   go_wp2
   go_roundw
   case rel=>exact ⟨k+1,by omega,by go_num,HB8.out⟩
   case measure=>simp [intOf];omega
  ·have hkn:k=n:=by omega
   subst hkn
   go_wp2
   go_ret
   exact ⟨rfl,hbel⟩
theorem eqMap_yes (a b:Option Addr) (ca cb:Nat) (ps:List (Int × Int)) (w:World) (ha:Pls w a ps) (hb:Pls w b ps) (hx:ps.length≤1048576) :
  Calls Tryz.prog 55 #[.agg #[.slice a ps.length ca],.agg #[.slice b ps.length cb]] w fun e w'=>e=.returned (.bool true)∧Below w.heap.size w w':=by
 have hw:Below w.heap.size w ((w.alloc (Obj.cells #[.slice a ps.length ca] 44)).alloc (Obj.cells #[.slice b ps.length cb] 44)):=
  ((Below.refl _ _).alloc nl _).alloc (by simp) _
 go_enter Tryz.func55,Tryz.ntmps55
 go_wp2_with fail
 refine (eqPlaceS_yes a b ca cb ps _ (ha.below hw nl) (hb.below hw nl) hx).mono ?_
 rintro e w1 ⟨rfl,hb1⟩
 go_wp2
 go_ret
 exact ⟨rfl,hw.trans (hb1.mono (by simp;omega))⟩
theorem eqIntS_any (a b:Option Addr) (ca cb:Nat) (xs ys:List Int) (w:World) (ha:Ins w a xs) (hb:Ins w b ys) (hx:xs.length≤281474976710656) (hy:ys.length≤281474976710656) :
  Calls Tryz.prog 56 #[.slice a xs.length ca,.slice b ys.length cb] w fun e w'=>e=.returned (.bool (decide (xs=ys)))∧∃ n,w'=w.drewN n:=by
 by_cases hl:xs.length=ys.length
 ·generalize hlx:xs.length=n at *
  have HX:Hid (xs.length=n):=hlx
  have HY:Hid (ys.length=n):=hl.symm
  rw [←hl]
  have hnn:((n:Int) != (n:Int))=false:=by simp
  clear hlx hl hy
  go_enter Tryz.func56,Tryz.ntmps56
  go_wp2
  go_loopw [5] (fun i wr=>∃ k m:Nat,k≤n∧i=.int .i64 k∧wr=w.drewN m∧xs.take k=ys.take k) (fun i _=>n-(intOf i).toNat)
  case atStart=>exact ⟨0,0,Nat.zero_le _,rfl,rfl,by simp⟩
  case round=>
   obtain ⟨k,m,hk,rfl,rfl,htk⟩:=hrel
   have HT:Hid (xs.take k=ys.take k):=htk
   clear htk
   by_cases hlt:k<n
   ·obtain ⟨b1,o1,rfl,hb1,hc1⟩:=ha.len_pos k (by rw [HX.out];exact hlt)
    obtain ⟨b2,o2,rfl,hb2,hc2⟩:=hb.len_pos k (by rw [HY.out];exact hlt)
    have hs1:=hc1 k (by rw [HX.out];exact hlt)
    have hs2:=hc2 k (by rw [HY.out];exact hlt)
    have g1:=getD_rngI ha.1 k
    have g2:=getD_rngI hb.1 k
    clear hc1 hc2 ha hb
    generalize hx1:xs.getD k 0=x1 at *
    generalize hy1:ys.getD k 0=y1 at *
    have HX1:Hid (xs.getD k 0=x1):=hx1
    have HY1:Hid (ys.getD k 0=y1):=hy1
    clear hx1 hy1
    by_cases hxy:x1=y1
    ·subst hxy
     have hq:(x1 != x1)=false:=by simp
     have HT':Hid (xs.take (k+1)=ys.take (k+1)):=take_eq_succ HT.out (by rw [HX.out];exact hlt) (by rw [HY.out];exact hlt) (by rw [HX1.out,HY1.out])
     go_wp2
     go_quiet (fail)
     go_wp2
     go_roundw
     case rel=>exact ⟨k+1,_,by omega,by go_num,rfl,HT'.out⟩
     case measure=>simp [intOf];omega
    ·have hq:(x1 != y1)=true:=by rw [bne_iff_ne];exact hxy
     have HN:Hid (decide (xs=ys)=false):=by
      have:xs≠ys:=ne_of_getD (k:=k) (by rw [HX1.out,HY1.out];exact hxy)
      simpa [Hid] using this
     clear hxy
     go_wp2
     go_quiet (fail)
     go_wp2
     go_ret
     exact ⟨by rw [HN.out];rfl,_,World.drewN_drewN ..⟩
   ·have HE:Hid (decide (xs=ys)=true):=by
     have h1:=HT.out
     rw [List.take_of_length_le (by rw [HX.out];omega),List.take_of_length_le (by rw [HY.out];omega)] at h1
     simpa [Hid] using h1
    go_wp2
    go_ret
    exact ⟨by rw [HE.out];rfl,_,rfl⟩
 ·have hne:decide (xs=ys)=false:=by simp;intro h;exact hl (by rw [h])
  have hl':((xs.length:Int) != (ys.length:Int))=true:=by rw [bne_iff_ne];omega
  rw [hne]
  go_enter Tryz.func56,Tryz.ntmps56
  go_wp2
  go_ret
  exact ⟨rfl,0,rfl⟩
theorem eqIntS_yes (a b:Option Addr) (ca cb:Nat) (xs:List Int) (w:World) (ha:Ins w a xs) (hb:Ins w b xs) (hx:xs.length≤281474976710656) :
  Calls Tryz.prog 56 #[.slice a xs.length ca,.slice b xs.length cb] w fun e w'=>e=.returned (.bool true)∧∃ n,w'=w.drewN n:=by
 refine (eqIntS_any a b ca cb xs xs w ha hb hx hx).mono ?_
 rintro e w' ⟨rfl,h⟩
 exact ⟨by simp,h⟩
set_option linter.unusedSimpArgs false
theorem eqRaw_ct (sa pa ta qa:Option Addr) (sc pc tc qc:Nat) (ss ps ts qs:List El) (w:World) (ha:RawI w sa pa ss ps) (hb:RawI w ta qa ts qs) (h1:ss.map El.ct=ts.map El.ct) (h2:ps.map El.ct=qs.map El.ct) (hx:Few ss ps) :
  Calls Tryz.prog 22 #[.agg #[.slice sa ss.length sc,.slice pa ps.length pc],.agg #[.slice ta ts.length tc,.slice qa qs.length qc]] w fun e w'=>e=.returned (.bool true)∧Below w.heap.size w w':=by
 rw [←len_ctE h1,←len_ctE h2]
 exact eqRaw_yes sa pa ta qa sc pc tc qc ss ps ts qs w ha hb h1 h2 hx
theorem eqPack_ct (E O E' O':Int) (a b:Option Addr) (ca cb:Nat) (ss ts:List El) (w:World) (ha:Els true w a ss) (hb:Els true w b ts) (hct:ss.map El.ct=ts.map El.ct) (hx:FewI ss) (hE:E=E') (hO:O=O') :
  Calls Tryz.prog 57 #[.agg #[.int .i64 E,.int .i64 O,.slice a ss.length ca],.agg #[.int .i64 E',.int .i64 O',.slice b ts.length cb]] w fun e w'=>e=.returned (.bool true)∧Below w.heap.size w w':=by
 subst hE hO
 rw [←len_ctE hct]
 exact eqPack_yes E O a b ca cb ss ts w ha hb hct hx
theorem eqMap_eq (a b:Option Addr) (ca cb:Nat) (ps qs:List (Int × Int)) (w:World) (ha:Pls w a ps) (hb:Pls w b qs) (h:ps=qs) (hx:ps.length≤1048576) :
  Calls Tryz.prog 55 #[.agg #[.slice a ps.length ca],.agg #[.slice b qs.length cb]] w fun e w'=>e=.returned (.bool true)∧Below w.heap.size w w':=by
 subst h
 exact eqMap_yes a b ca cb ps w ha hb hx
theorem eqIntS_eq (a b:Option Addr) (ca cb:Nat) (xs ys:List Int) (w:World) (ha:Ins w a xs) (hb:Ins w b ys) (h:xs=ys) (hx:xs.length≤1048576) :
  Calls Tryz.prog 56 #[.slice a xs.length ca,.slice b ys.length cb] w fun e w'=>e=.returned (.bool true)∧Below w.heap.size w w':=by
 subst h
 refine (eqIntS_yes a b ca cb xs w ha hb (by omega)).mono ?_
 rintro e w1 ⟨rfl,n,rfl⟩
 exact ⟨rfl,⟨rfl,rfl,rfl,Nat.le_refl _,fun _ _=>rfl⟩⟩
theorem eqDisk_yes (d e:DkV) (w:World) (hd:DkI w d) (he:DkI w e) (hs:DkS d e) (hf:DkF d) :
  Calls Tryz.prog 15 #[.agg #[.slice d.sa d.ss.length d.sc,.slice d.pa d.ps.length d.pc,.int .i64 d.E,.int .i64 d.O,.slice d.ma d.ms.length d.mc,.slice d.va d.vs.length d.vc,.slice d.ca d.cs.length d.cc,.int .i64 d.F,.int .i64 d.G,.slice d.oa d.os.length d.oc],.agg #[.slice e.sa e.ss.length e.sc,.slice e.pa e.ps.length e.pc,.int .i64 e.E,.int .i64 e.O,.slice e.ma e.ms.length e.mc,.slice e.va e.vs.length e.vc,.slice e.ca e.cs.length e.cc,.int .i64 e.F,.int .i64 e.G,.slice e.oa e.os.length e.oc]] w fun r w'=>r=.returned (.bool true)∧Below w.heap.size w w':=by
 have hw0:Below w.heap.size w (w.alloc (Obj.cells #[.slice d.sa d.ss.length d.sc,.slice d.pa d.ps.length d.pc,.int .i64 d.E,.int .i64 d.O,.slice d.ma d.ms.length d.mc,.slice d.va d.vs.length d.vc,.slice d.ca d.cs.length d.cc,.int .i64 d.F,.int .i64 d.G,.slice d.oa d.os.length d.oc] 49)):=bAw
 have hw:Below w.heap.size w ((w.alloc (Obj.cells #[.slice d.sa d.ss.length d.sc,.slice d.pa d.ps.length d.pc,.int .i64 d.E,.int .i64 d.O,.slice d.ma d.ms.length d.mc,.slice d.va d.vs.length d.vc,.slice d.ca d.cs.length d.cc,.int .i64 d.F,.int .i64 d.G,.slice d.oa d.os.length d.oc] 49)).alloc (Obj.cells #[.slice e.sa e.ss.length e.sc,.slice e.pa e.ps.length e.pc,.int .i64 e.E,.int .i64 e.O,.slice e.ma e.ms.length e.mc,.slice e.va e.vs.length e.vc,.slice e.ca e.cs.length e.cc,.int .i64 e.F,.int .i64 e.G,.slice e.oa e.os.length e.oc] 49)):=hw0.alloc (by simp) _
 have hx:=(Dk10.new w d 49).alloc (Obj.cells #[.slice e.sa e.ss.length e.sc,.slice e.pa e.ps.length e.pc,.int .i64 e.E,.int .i64 e.O,.slice e.ma e.ms.length e.mc,.slice e.va e.vs.length e.vc,.slice e.ca e.cs.length e.cc,.int .i64 e.F,.int .i64 e.G,.slice e.oa e.os.length e.oc] 49)
 have hy:=Dk10.new (w.alloc (Obj.cells #[.slice d.sa d.ss.length d.sc,.slice d.pa d.ps.length d.pc,.int .i64 d.E,.int .i64 d.O,.slice d.ma d.ms.length d.mc,.slice d.va d.vs.length d.vc,.slice d.ca d.cs.length d.cc,.int .i64 d.F,.int .i64 d.G,.slice d.oa d.os.length d.oc] 49)) e 49
 simp only [World.size_alloc] at hy
 have HB:Hid (DkI w d∧DkI w e∧DkF d∧DkS d e):=⟨hd,he,hf,hs⟩
 clear hd he hf hs hw0
 have H1:=eqRaw_ct d.sa d.pa e.sa e.pa d.sc d.pc e.sc e.pc d.ss d.ps e.ss e.ps _ (HB.out.1.raw.below hw nl) (HB.out.2.1.raw.below hw nl) HB.out.2.2.2.ss HB.out.2.2.2.ps HB.out.2.2.1.raw
 go_enter Tryz.func15,Tryz.ntmps15
 go_wp2_with fail
 generalize (w.alloc (Obj.cells #[.slice d.sa d.ss.length d.sc,.slice d.pa d.ps.length d.pc,.int .i64 d.E,.int .i64 d.O,.slice d.ma d.ms.length d.mc,.slice d.va d.vs.length d.vc,.slice d.ca d.cs.length d.cc,.int .i64 d.F,.int .i64 d.G,.slice d.oa d.os.length d.oc] 49)).alloc (Obj.cells #[.slice e.sa e.ss.length e.sc,.slice e.pa e.ps.length e.pc,.int .i64 e.E,.int .i64 e.O,.slice e.ma e.ms.length e.mc,.slice e.va e.vs.length e.vc,.slice e.ca e.cs.length e.cc,.int .i64 e.F,.int .i64 e.G,.slice e.oa e.os.length e.oc] 49)=W0 at *
 have hE:(d.E != e.E)=false:=by simp [HB.out.2.2.2.E]
 have hO:(d.O != e.O)=false:=by simp [HB.out.2.2.2.O]
 refine H1.mono ?_
 clear H1
 rintro r w1 ⟨rfl,hb1⟩
 have HW1:Hid (Below w.heap.size w w1):=hw.trans (hb1.mono hw.size)
 have hx1:=hx.step hb1
 have hy1:=hy.step hb1
 clear hb1 hw hx hy
 obtain ⟨x0,x1,x2,x3,x4,x5,x6,x7,x8,x9,xl⟩:=id hx1
 obtain ⟨y0,y1,y2,y3,y4,y5,y6,y7,y8,y9,yl⟩:=id hy1
 have H2:=eqMap_eq d.ma e.ma d.mc e.mc d.ms e.ms w1 (HB.out.1.map.below HW1.out nl) (HB.out.2.1.map.below HW1.out nl) HB.out.2.2.2.ms HB.out.2.2.1.ms
 go_wp2_with fail
 refine H2.mono ?_
 clear H2
 rintro r w2 ⟨rfl,hb2⟩
 have HW2:Hid (Below w.heap.size w w2):=HW1.out.trans (hb2.mono HW1.out.size)
 have hx2:=hx1.step hb2
 have hy2:=hy1.step hb2
 clear hb2 HW1 hx1 hy1
 clear x0 x1 x2 x3 x4 x5 x6 x7 x8 x9 xl y0 y1 y2 y3 y4 y5 y6 y7 y8 y9 yl
 obtain ⟨x0,x1,x2,x3,x4,x5,x6,x7,x8,x9,xl⟩:=id hx2
 obtain ⟨y0,y1,y2,y3,y4,y5,y6,y7,y8,y9,yl⟩:=id hy2
 have H3:=eqMap_eq d.va e.va d.vc e.vc d.vs e.vs w2 (HB.out.1.sav.below HW2.out nl) (HB.out.2.1.sav.below HW2.out nl) HB.out.2.2.2.vs HB.out.2.2.1.vs
 go_wp2_with fail
 refine H3.mono ?_
 clear H3
 rintro r w3 ⟨rfl,hb3⟩
 have HW3:Hid (Below w.heap.size w w3):=HW2.out.trans (hb3.mono HW2.out.size)
 have hx3:=hx2.step hb3
 have hy3:=hy2.step hb3
 clear hb3 HW2 hx2 hy2
 clear x0 x1 x2 x3 x4 x5 x6 x7 x8 x9 xl y0 y1 y2 y3 y4 y5 y6 y7 y8 y9 yl
 obtain ⟨x0,x1,x2,x3,x4,x5,x6,x7,x8,x9,xl⟩:=id hx3
 obtain ⟨y0,y1,y2,y3,y4,y5,y6,y7,y8,y9,yl⟩:=id hy3
 have H4:=eqIntS_eq d.ca e.ca d.cc e.cc d.cs e.cs w3 (HB.out.1.chn.below HW3.out nl) (HB.out.2.1.chn.below HW3.out nl) HB.out.2.2.2.cs HB.out.2.2.1.cs
 go_wp2_with fail
 refine H4.mono ?_
 clear H4
 rintro r w4 ⟨rfl,hb4⟩
 have HW4:Hid (Below w.heap.size w w4):=HW3.out.trans (hb4.mono HW3.out.size)
 have hx4:=hx3.step hb4
 have hy4:=hy3.step hb4
 clear hb4 HW3 hx3 hy3
 clear x0 x1 x2 x3 x4 x5 x6 x7 x8 x9 xl y0 y1 y2 y3 y4 y5 y6 y7 y8 y9 yl
 obtain ⟨x0,x1,x2,x3,x4,x5,x6,x7,x8,x9,xl⟩:=id hx4
 obtain ⟨y0,y1,y2,y3,y4,y5,y6,y7,y8,y9,yl⟩:=id hy4
 have H5:=eqPack_ct d.F d.G e.F e.G d.oa e.oa d.oc e.oc d.os e.os w4 (HB.out.1.opn.below HW4.out nl) (HB.out.2.1.opn.below HW4.out nl) HB.out.2.2.2.os HB.out.2.2.1.opn HB.out.2.2.2.F HB.out.2.2.2.G
 go_wp2_with fail
 refine H5.mono ?_
 clear H5
 rintro r w5 ⟨rfl,hb5⟩
 have HW5:Hid (Below w.heap.size w w5):=HW4.out.trans (hb5.mono HW4.out.size)
 have hx5:=hx4.step hb5
 have hy5:=hy4.step hb5
 clear hb5 HW4 hx4 hy4
 clear x0 x1 x2 x3 x4 x5 x6 x7 x8 x9 xl y0 y1 y2 y3 y4 y5 y6 y7 y8 y9 yl
 clear hx5 hy5
 go_wp2
 go_ret
 exact ⟨rfl,HW5.out⟩
theorem szIntS_left (a:Option Addr) (n cap:Nat) (left:Int) (w:World) (hm:n≤maxLen) (h0:0≤left) (h1:left≤1048576) :
  Calls Tryz.prog 42 #[.slice a n cap,.int .i64 left] w fun e w'=>(∃ z:Int,e=.returned (.int .i64 z)∧(z=-1∨(0≤z∧z≤left∧z+n=left)))∧w'=w:=by
 unfold maxLen at hm
 by_cases h:(n:Int)≤left
 ·go_enter Tryz.func42,Tryz.ntmps42
  go_wp2
  go_ret
  exact ⟨⟨left-n,by go_num,.inr ⟨by omega,by omega,by omega⟩⟩,rfl⟩
 ·go_enter Tryz.func42,Tryz.ntmps42
  go_wp2
  go_ret
  exact ⟨⟨-1,rfl,.inl rfl⟩,rfl⟩
theorem szPlaceS_left (a:Option Addr) (n cap:Nat) (left:Int) (w:World) (hm:n≤maxLen) (h0:0≤left) (h1:left≤1048576) :
  Calls Tryz.prog 74 #[.slice a n cap,.int .i64 left] w fun e w'=>(∃ z:Int,e=.returned (.int .i64 z)∧(z=-1∨(0≤z∧z≤left∧z+n=left)))∧w'=w:=by
 unfold maxLen at hm
 by_cases h:(n:Int)≤left
 ·go_enter Tryz.func74,Tryz.ntmps74
  go_wp2
  go_ret
  exact ⟨⟨left-n,by go_num,.inr ⟨by omega,by omega,by omega⟩⟩,rfl⟩
 ·go_enter Tryz.func74,Tryz.ntmps74
  go_wp2
  go_ret
  exact ⟨⟨-1,rfl,.inl rfl⟩,rfl⟩
theorem szMap_left (a:Option Addr) (n cap:Nat) (left:Int) (w:World) (hm:n≤maxLen) (h0:0≤left) (h1:left≤1048576) :
  Calls Tryz.prog 41 #[.agg #[.slice a n cap],.int .i64 left] w fun e w'=>(∃ z:Int,e=.returned (.int .i64 z)∧(z=-1∨(0≤z∧z≤left∧z+n=left)))∧Below w.heap.size w w':=by
 have hw:Below w.heap.size w (w.alloc (Obj.cells #[.slice a n cap] 28)):=bAw
 have HS:=szPlaceS_left a n cap left (w.alloc (Obj.cells #[.slice a n cap] 28)) hm h0 h1
 clear hm
 go_enter Tryz.func41,Tryz.ntmps41
 go_wp2_with fail
 refine HS.mono ?_
 clear HS
 rintro e w1 ⟨⟨z,rfl,hz⟩,rfl⟩
 rcases hz with rfl | ⟨hz0,hz1,hz2⟩
 ·go_wp2
  go_ret
  exact ⟨⟨-1,rfl,.inl rfl⟩,hw⟩
 ·have HZ:Hid (z+(n:Int)=left∧True):=⟨hz2,trivial⟩
  clear hz2
  go_wp2
  go_ret
  exact ⟨⟨z,rfl,.inr ⟨hz0,hz1,HZ.out.1⟩⟩,hw⟩
theorem szRaw_left (sa pa:Option Addr) (sc pc:Nat) (ss ps:List El) (w:World) (hb:RawI w sa pa ss ps) (hm1:ss.length≤maxLen) (hm2:ps.length≤maxLen) :
  Calls Tryz.prog 40 #[.agg #[.slice sa ss.length sc,.slice pa ps.length pc],.int .i64 1048576] w fun e w'=>(∃ z:Int,e=.returned (.int .i64 z)∧(z=-1∨(0≤z∧z≤1048576∧z+ss.length+elets ss+ps.length+elets ps=1048576)))∧Below w.heap.size w w':=by
 have HB:Hid (RawI w sa pa ss ps):=hb
 have HM:Hid (ss.length≤maxLen∧ps.length≤maxLen):=⟨hm1,hm2⟩
 unfold maxLen at hm1 hm2
 clear hb
 go_enter Tryz.func40,Tryz.ntmps40
 go_wp2_with fail
 have hw:Below w.heap.size w (w.alloc (Obj.cells #[.slice sa ss.length sc,.slice pa ps.length pc] 25)):=bAw
 refine (szByteSS_any sa sc ss 1048576 _ (HB.out.1.below hw nl) HM.out.1 (by omega) (by omega)).mono ?_
 rintro e w1 ⟨⟨z,rfl,hz⟩,rfl⟩
 rcases hz with rfl | ⟨hz0,hz1,hz2⟩
 ·go_wp2
  go_ret
  exact ⟨⟨-1,rfl,.inl rfl⟩,hw⟩
 ·have HZ:Hid (z+(ss.length:Int)+elets ss=1048576∧True):=⟨hz2,trivial⟩
  clear hz2
  go_wp2_with fail
  refine (szPendS_any pa pc ps z _ (HB.out.2.below hw nl) HM.out.2 hz0 hz1).mono ?_
  rintro e w2 ⟨⟨y,rfl,hy⟩,hb2⟩
  have HB2:Hid (Below w.heap.size w w2):=hw.trans (hb2.mono (by simp))
  clear hw hb2
  rcases hy with rfl | ⟨hy0,hy1,hy2⟩
  ·go_wp2
   go_ret
   exact ⟨⟨-1,rfl,.inl rfl⟩,HB2.out⟩
  ·have HF:Hid (y≤1048576∧y+(ss.length:Int)+elets ss+ps.length+elets ps=1048576):=by
    have:=HZ.out.1
    exact ⟨by omega,by omega⟩
   clear hy2 HZ
   go_wp2
   go_ret
   exact ⟨⟨y,rfl,.inr ⟨hy0,HF.out⟩⟩,HB2.out⟩
theorem szDisk_any (d:DkV) (w:World) (hb:DkI w d) (hm:DkM d) :
  Calls Tryz.prog 10 #[.agg #[.slice d.sa d.ss.length d.sc,.slice d.pa d.ps.length d.pc,.int .i64 d.E,.int .i64 d.O,.slice d.ma d.ms.length d.mc,.slice d.va d.vs.length d.vc,.slice d.ca d.cs.length d.cc,.int .i64 d.F,.int .i64 d.G,.slice d.oa d.os.length d.oc],.int .i64 1048576] w fun e w'=>(∃ z:Int,e=.returned (.int .i64 z)∧(z=-1∨(0≤z∧DkF d)))∧Below w.heap.size w w':=by
 have hw:Below w.heap.size w (w.alloc (Obj.cells #[.slice d.sa d.ss.length d.sc,.slice d.pa d.ps.length d.pc,.int .i64 d.E,.int .i64 d.O,.slice d.ma d.ms.length d.mc,.slice d.va d.vs.length d.vc,.slice d.ca d.cs.length d.cc,.int .i64 d.F,.int .i64 d.G,.slice d.oa d.os.length d.oc] 34)):=bAw
 have hx:=Dk10.new w d 34
 have H1:=szRaw_left d.sa d.pa d.sc d.pc d.ss d.ps _ (hb.raw.below hw nl) hm.ss hm.ps
 have HB:Hid (DkI w d∧DkM d):=⟨hb,hm⟩
 clear hb hm
 go_enter Tryz.func10,Tryz.ntmps10
 go_wp2_with fail
 generalize w.alloc (Obj.cells #[.slice d.sa d.ss.length d.sc,.slice d.pa d.ps.length d.pc,.int .i64 d.E,.int .i64 d.O,.slice d.ma d.ms.length d.mc,.slice d.va d.vs.length d.vc,.slice d.ca d.cs.length d.cc,.int .i64 d.F,.int .i64 d.G,.slice d.oa d.os.length d.oc] 34)=W0 at *
 refine H1.mono ?_
 clear H1
 rintro e w1 ⟨⟨z1,rfl,hz1⟩,hb1⟩
 have HW1:Hid (Below w.heap.size w w1):=hw.trans (hb1.mono hw.size)
 have hx1:=hx.step hb1
 clear hb1 hw hx
 rcases hz1 with rfl | hz1
 ·go_wp2
  go_ret
  exact ⟨⟨-1,rfl,.inl rfl⟩,HW1.out⟩
 have hzn1:¬z1<0:=by omega
 obtain ⟨x0,x1,x2,x3,x4,x5,x6,x7,x8,x9,xl⟩:=id hx1
 have H2:=szMap_left d.ma d.ms.length d.mc z1 w1 HB.out.2.ms hz1.1 (by omega)
 go_wp2_with fail
 refine H2.mono ?_
 clear H2
 rintro e w2 ⟨⟨z2,rfl,hz2⟩,hb2⟩
 have HW2:Hid (Below w.heap.size w w2):=HW1.out.trans (hb2.mono HW1.out.size)
 have hx2:=hx1.step hb2
 clear hb2 HW1 hx1
 clear x0 x1 x2 x3 x4 x5 x6 x7 x8 x9 xl
 rcases hz2 with rfl | hz2
 ·go_wp2
  go_ret
  exact ⟨⟨-1,rfl,.inl rfl⟩,HW2.out⟩
 have hzn2:¬z2<0:=by omega
 obtain ⟨x0,x1,x2,x3,x4,x5,x6,x7,x8,x9,xl⟩:=id hx2
 have H3:=szMap_left d.va d.vs.length d.vc z2 w2 HB.out.2.vs hz2.1 (by omega)
 go_wp2_with fail
 refine H3.mono ?_
 clear H3
 rintro e w3 ⟨⟨z3,rfl,hz3⟩,hb3⟩
 have HW3:Hid (Below w.heap.size w w3):=HW2.out.trans (hb3.mono HW2.out.size)
 have hx3:=hx2.step hb3
 clear hb3 HW2 hx2
 clear x0 x1 x2 x3 x4 x5 x6 x7 x8 x9 xl
 rcases hz3 with rfl | hz3
 ·go_wp2
  go_ret
  exact ⟨⟨-1,rfl,.inl rfl⟩,HW3.out⟩
 have hzn3:¬z3<0:=by omega
 obtain ⟨x0,x1,x2,x3,x4,x5,x6,x7,x8,x9,xl⟩:=id hx3
 have H4:=szIntS_left d.ca d.cs.length d.cc z3 w3 HB.out.2.cs hz3.1 (by omega)
 go_wp2_with fail
 refine H4.mono ?_
 clear H4
 rintro e w4 ⟨⟨z4,rfl,hz4⟩,rfl⟩
 rcases hz4 with rfl | hz4
 ·go_wp2
  go_ret
  exact ⟨⟨-1,rfl,.inl rfl⟩,HW3.out⟩
 have hzn4:¬z4<0:=by omega
 have H5:=szPack_any d.F d.G d.oa d.oc d.os _ (HB.out.1.opn.below HW3.out nl) HB.out.2.os z4 hz4.1 (by omega)
 go_wp2_with fail
 refine H5.mono ?_
 clear H5
 rintro e w5 ⟨⟨z5,rfl,hz5⟩,hb5⟩
 have HW5:Hid (Below w.heap.size w w5):=HW3.out.trans (hb5.mono HW3.out.size)
 have hx5:=hx3.step hb5
 clear hb5 HW3 hx3
 clear x0 x1 x2 x3 x4 x5 x6 x7 x8 x9 xl
 rcases hz5 with rfl | hz5
 ·go_wp2
  go_ret
  exact ⟨⟨-1,rfl,.inl rfl⟩,HW5.out⟩
 have hzn5:¬z5<0:=by omega
 have HF:Hid (DkF d):=DkF.mk' (by unfold dkN;omega)
 have h50:=hz5.1
 clear hz1 hz2 hz3 hz4 hz5
 go_wp2
 go_ret
 exact ⟨⟨z5,rfl,.inr ⟨h50,HF.out⟩⟩,HW5.out⟩
theorem MinI.capI {w:World} {B U:Nat} {a:Option Addr} {c:Nat} {zs:List Int} (h:MinI w B U a c zs):zs.length≤c:=by
 rcases h with ⟨-,rfl,rfl⟩ | ⟨g,-,-,-,h⟩
 ·simp
 ·rcases h.1.2 with ⟨e,_⟩ | ⟨g',cap',cur,e,-,-,r,-⟩
  ·simp at e
  ·simp at e
   omega
structure ArgD (w W:World) (d:DkV):Prop where
 bel:Below w.heap.size w W
 box:Dk10 W w.heap.size d
theorem ArgD.step {w W W':World} {d:DkV} (h:ArgD w W d) (hb:Below W.heap.size W W'):ArgD w W' d:=⟨h.bel.trans (hb.mono h.bel.size),h.box.step hb⟩
def AnI (R:Int→Prop) (w:World) (r:Ending) (w':World):Prop:=(∃ v,r=.returned (.int .i64 v)∧R v)∧Below w.heap.size w w'
end Go.Proofs.YtaibkchbkedjnaaGreatDoor
namespace Go.Proofs.YtaibkchbkedjnaaGreatDoor
open Go.ChangeShapes Go.WideShapes Go.ChangeAt Go.RowKit Go.Joins
set_option linter.unusedVariables false
theorem Tryz.own :ownKnob Tryz.prog.godebug=none:=by kernel_rfl
theorem Tryz.laidOut :laidOutB Tryz.prog=true:=by kernel_rfl
theorem byt_of_trod {H:Type} {enc:TypeId × Value→H} {W:World} {fuel:Nat} {v:Value} {y:DataW H × List MemPlace}
  (h:DataW.trod enc Tryz.prog W 0 (fun _=>true) true fuel 36 [v]=some y) :
  ∃ (a:Option Addr) (zs:List Int) (cap:Nat),v=.slice a zs.length cap∧Byt W a zs∧zs.length≤maxLen:=by
 rcases open_ints Tryz.underlying36 Tryz.underlying5 (by kernel_rfl) h with ⟨hcs,_⟩ | ⟨x,l,c,zs,hcs,_,hl,hm,hz,_,hcell,hwz⟩
 ·simp at hcs
  subst hcs
  exact ⟨.none,[],0,rfl,⟨by simp,by simp⟩,by simp [maxLen]⟩
 ·simp at hcs
  subst hcs
  simp only [if_true] at hz
  have hlen:(zs.take l).length=l:=by rw [List.length_take];omega
  refine ⟨some x,zs.take l,c,by rw [hlen],⟨?_,?_⟩,by rw [hlen];omega⟩
  ·intro z hz'
   have:=hwz z (List.mem_of_mem_take hz')
   simp [Lit.wf] at this
   exact bounds_u8 (hwz z (List.mem_of_mem_take hz'))
  ·intro hp
   rw [hlen] at hp
   obtain ⟨b,off,spot⟩:=x
   have hc:=hcell 0 (by omega)
   have hspot:spot=.none:=by simpa [Addr.add] using World.cell?_spot hc
   subst hspot
   refine ⟨b,off,rfl,?_,fun i hi=>?_⟩
   ·have:=World.block_lt_of_cell? _ _ hc
    simpa [Addr.add] using this
   ·rw [hlen] at hi
    have:=hcell i (by omega)
    have hadd:(⟨b,off,.none⟩:Addr).add i=⟨b,off+i,.none⟩:=by unfold Addr.add;split <;> simp_all
    rw [hadd] at this
    rw [show (zs.take l).getD i 0=zs.getD i 0 from by simp [hi]]
    exact this
theorem Tryz.cellsLItem :Tryz.prog.cellsOf 151=2:=by kernel_rfl
theorem Tryz.cellsIBs :Tryz.prog.cellsOf 36=1:=by kernel_rfl
theorem Tryz.cellsIInt :Tryz.prog.cellsOf 3=1:=by kernel_rfl
theorem item_of_trod {H:Type} {enc:TypeId × Value→H} {W:World} {n:Nat} {cs:List Value} {x:DataW H × List MemPlace} {b off:Nat} (hl:cs.length=2) (hc:∀ i,i<2→W.cell? ⟨b,off+i,none⟩=cs[i]?)
  (h:DataW.trod enc Tryz.prog W 0 (fun _=>true) true n 151 cs=some x):∃ e:El,LieE true W b off e∧rE true e∧Byt W e.a e.ls:=by
 obtain ⟨y0,y1,k,-,-,g0,g1⟩:=trod_struct2 Tryz.underlying151 h
 match cs,hl with
 | [v0,v1],_=>
  have g0':DataW.trod enc Tryz.prog W 0 (fun _=>true) true k 3 [v0]=some y0:=by
   have:=g0
   simp only [Tryz.cellsIInt] at this
   exact this
  have g1':DataW.trod enc Tryz.prog W 0 (fun _=>true) true k 36 [v1]=some y1:=by
   have:=g1
   simp only [Tryz.cellsIBs] at this
   exact this
  obtain ⟨N,e1,_,w1⟩:=DataW.trod_int Tryz.underlying3 g0'
  obtain ⟨a,zs,cap,rfl,hb,hm⟩:=byt_of_trod g1'
  simp at e1
  subst e1
  have h0:=hc 0 (by omega)
  have h1:=hc 1 (by omega)
  simp at h0 h1
  have hr:=bounds_i64 w1
  exact ⟨⟨N,a,cap,zs⟩,⟨fun _=>h0,h1⟩,⟨hr.1,hr.2,hm,by simp⟩,hb⟩
theorem its_of_trod (p:Bool) {T S:TypeId} (hT:Tryz.prog.underlying S=some (.slice T)) (hcell:Tryz.prog.cellsOf T=eW p) {H:Type} {enc:TypeId × Value→H} {W:World} {fuel:Nat} {v:Value} {y:DataW H × List MemPlace}
  (one:∀ {n:Nat} {cs:List Value} {x:DataW H × List MemPlace} {b off:Nat},cs.length=eW p→(∀ i,i<eW p→W.cell? ⟨b,off+i,none⟩=cs[i]?)→DataW.trod enc Tryz.prog W 0 (fun _=>true) true n T cs=some x→∃ e:El,LieE p W b off e∧rE p e∧Byt W e.a e.ls)
  (h:DataW.trod enc Tryz.prog W 0 (fun _=>true) true fuel S [v]=some y) :
  ∃ (a:Option Addr) (ss:List El) (cap:Nat),v=.slice a ss.length cap∧Els p W a ss∧ss.length≤maxLen:=by
 rcases Go.Deep.open_slice hT h with ⟨hcs,_⟩ | ⟨x,l,c,m,n,D,Pl,hcs,_,hl,hm,hmm,_,hx⟩
 ·simp at hcs
  subst hcs
  exact ⟨none,[],0,rfl,⟨by simp,by simp⟩,by simp⟩
 ·simp at hcs
  subst hcs
  simp only [if_true] at hmm
  subst hmm
  rw [hcell] at hx
  have hw:0<eW p:=by cases p <;> simp [eW]
  by_cases hl0:l=0
  ·subst hl0
   exact ⟨some x,[],m,rfl,⟨by simp,by simp⟩,by simp⟩
  ·obtain ⟨b,off,spot⟩:=x
   obtain ⟨cs0,h0,_⟩:=hx 0 (by omega)
   obtain ⟨_,hlen0,hcell0⟩:=World.cells?_some h0
   have hc0:=hcell0 0 (by omega)
   have hspot:spot=none:=by
    rw [List.getElem?_eq_getElem (by omega)] at hc0
    simpa [Addr.add] using World.cell?_spot hc0
   subst hspot
   have hblk:b<W.heap.size:=by
    rw [List.getElem?_eq_getElem (by omega)] at hc0
    have:=World.block_lt_of_cell? _ _ hc0
    simpa [Addr.add] using this
   have hadd:∀ o i:Nat,(⟨b,o,none⟩:Addr).add i=⟨b,o+i,none⟩:=fun o i=>by unfold Addr.add;split <;> simp_all
   have each:∀ i,i<l→∃ e:El,LieE p W b (off+i*eW p) e∧rE p e∧Byt W e.a e.ls:=by
    intro i hi
    obtain ⟨cs',h1,h2⟩:=hx i (by omega)
    obtain ⟨_,hlen,hcell⟩:=World.cells?_some h1
    refine one hlen (fun j hj=>?_) h2
    have:=hcell j hj
    rw [hadd,hadd] at this
    exact this
   haveI:Inhabited El:=⟨de⟩
   obtain ⟨f,hf⟩:=Go.Deep.choose_lt each
   have hlen:((List.range l).map f).length=l:=by simp
   refine ⟨some ⟨b,off,none⟩,(List.range l).map f,m,by rw [hlen],⟨?_,fun _=>⟨b,off,rfl,hblk,fun i hi=>?_⟩⟩,by rw [hlen];omega⟩
   ·intro s hs
    simp only [List.mem_map,List.mem_range] at hs
    obtain ⟨i,hi,rfl⟩:=hs
    exact (hf i hi).2
   ·rw [hlen] at hi
    rw [show ((List.range l).map f).getD i de=f i from by simp [List.getD_eq_getElem?_getD,hi]]
    exact (hf i hi).1
theorem items_of_trod {H:Type} {enc:TypeId × Value→H} {W:World} {fuel:Nat} {v:Value} {y:DataW H × List MemPlace} (h:DataW.trod enc Tryz.prog W 0 (fun _=>true) true fuel 30 [v]=some y) :
  ∃ (a:Option Addr) (ss:List El) (cap:Nat),v=.slice a ss.length cap∧Els true W a ss∧ss.length≤maxLen:=its_of_trod true Tryz.underlying30 Tryz.cellsLItem (fun a b c=>item_of_trod a b c) h
theorem Tryz.cellsLPend :Tryz.prog.cellsOf 149=2:=by kernel_rfl
theorem Tryz.cellsLBs :Tryz.prog.cellsOf 36=1:=by kernel_rfl
theorem Tryz.cellsLInt :Tryz.prog.cellsOf 3=1:=by kernel_rfl
theorem pen_of_trod {H:Type} {enc:TypeId × Value→H} {W:World} {n:Nat} {cs:List Value} {x:DataW H × List MemPlace} {b off:Nat} (hl:cs.length=2) (hc:∀ i,i<2→W.cell? ⟨b,off+i,none⟩=cs[i]?)
  (h:DataW.trod enc Tryz.prog W 0 (fun _=>true) true n 149 cs=some x):∃ e:El,LieE true W b off e∧rE true e∧Byt W e.a e.ls:=by
 obtain ⟨y0,y1,k,-,-,g0,g1⟩:=trod_struct2 Tryz.underlying149 h
 match cs,hl with
 | [v0,v1],_=>
  have g0':DataW.trod enc Tryz.prog W 0 (fun _=>true) true k 3 [v0]=some y0:=by
   have:=g0
   simp only [Tryz.cellsLInt] at this
   exact this
  have g1':DataW.trod enc Tryz.prog W 0 (fun _=>true) true k 36 [v1]=some y1:=by
   have:=g1
   simp only [Tryz.cellsLBs] at this
   exact this
  obtain ⟨N,e1,_,w1⟩:=DataW.trod_int Tryz.underlying3 g0'
  obtain ⟨a,zs,cap,rfl,hb,hm⟩:=byt_of_trod g1'
  simp at e1
  subst e1
  have h0:=hc 0 (by omega)
  have h1:=hc 1 (by omega)
  simp at h0 h1
  have hr:=bounds_i64 w1
  exact ⟨⟨N,a,cap,zs⟩,⟨fun _=>h0,h1⟩,⟨hr.1,hr.2,hm,by simp⟩,hb⟩
theorem sec_of_trod {H:Type} {enc:TypeId × Value→H} {W:World} {n:Nat} {cs:List Value} {x:DataW H × List MemPlace} {b off:Nat} (hl:cs.length=1) (hc:∀ i,i<1→W.cell? ⟨b,off+i,none⟩=cs[i]?)
  (h:DataW.trod enc Tryz.prog W 0 (fun _=>true) true n 36 cs=some x):∃ e:El,LieE false W b off e∧rE false e∧Byt W e.a e.ls:=by
 match cs,hl with
 | [v0],_=>
  obtain ⟨a,zs,cap,rfl,hb,hm⟩:=byt_of_trod h
  have h0:=hc 0 (by omega)
  simp at h0
  exact ⟨⟨0,a,cap,zs⟩,⟨by simp,h0⟩,⟨by simp,by simp,hm,by simp⟩,hb⟩
theorem els_of_trod (p:Bool) {T S:TypeId} (hT:Tryz.prog.underlying S=some (.slice T)) (hcell:Tryz.prog.cellsOf T=eW p) {H:Type} {enc:TypeId × Value→H} {W:World} {fuel:Nat} {v:Value} {y:DataW H × List MemPlace}
  (one:∀ {n:Nat} {cs:List Value} {x:DataW H × List MemPlace} {b off:Nat},cs.length=eW p→(∀ i,i<eW p→W.cell? ⟨b,off+i,none⟩=cs[i]?)→DataW.trod enc Tryz.prog W 0 (fun _=>true) true n T cs=some x→∃ e:El,LieE p W b off e∧rE p e∧Byt W e.a e.ls)
  (h:DataW.trod enc Tryz.prog W 0 (fun _=>true) true fuel S [v]=some y) :
  ∃ (a:Option Addr) (ss:List El) (cap:Nat),v=.slice a ss.length cap∧Els p W a ss∧ss.length≤maxLen:=by
 rcases Go.Deep.open_slice hT h with ⟨hcs,_⟩ | ⟨x,l,c,m,n,D,Pl,hcs,_,hl,hm,hmm,_,hx⟩
 ·simp at hcs
  subst hcs
  exact ⟨none,[],0,rfl,⟨by simp,by simp⟩,by simp⟩
 ·simp at hcs
  subst hcs
  simp only [if_true] at hmm
  subst hmm
  rw [hcell] at hx
  have hw:0<eW p:=by cases p <;> simp [eW]
  by_cases hl0:l=0
  ·subst hl0
   exact ⟨some x,[],m,rfl,⟨by simp,by simp⟩,by simp⟩
  ·obtain ⟨b,off,spot⟩:=x
   obtain ⟨cs0,h0,_⟩:=hx 0 (by omega)
   obtain ⟨_,hlen0,hcell0⟩:=World.cells?_some h0
   have hc0:=hcell0 0 (by omega)
   have hspot:spot=none:=by
    rw [List.getElem?_eq_getElem (by omega)] at hc0
    simpa [Addr.add] using World.cell?_spot hc0
   subst hspot
   have hblk:b<W.heap.size:=by
    rw [List.getElem?_eq_getElem (by omega)] at hc0
    have:=World.block_lt_of_cell? _ _ hc0
    simpa [Addr.add] using this
   have hadd:∀ o i:Nat,(⟨b,o,none⟩:Addr).add i=⟨b,o+i,none⟩:=fun o i=>by unfold Addr.add;split <;> simp_all
   have each:∀ i,i<l→∃ e:El,LieE p W b (off+i*eW p) e∧rE p e∧Byt W e.a e.ls:=by
    intro i hi
    obtain ⟨cs',h1,h2⟩:=hx i (by omega)
    obtain ⟨_,hlen,hcell⟩:=World.cells?_some h1
    refine one hlen (fun j hj=>?_) h2
    have:=hcell j hj
    rw [hadd,hadd] at this
    exact this
   haveI:Inhabited El:=⟨de⟩
   obtain ⟨f,hf⟩:=Go.Deep.choose_lt each
   have hlen:((List.range l).map f).length=l:=by simp
   refine ⟨some ⟨b,off,none⟩,(List.range l).map f,m,by rw [hlen],⟨?_,fun _=>⟨b,off,rfl,hblk,fun i hi=>?_⟩⟩,by rw [hlen];omega⟩
   ·intro s hs
    simp only [List.mem_map,List.mem_range] at hs
    obtain ⟨i,hi,rfl⟩:=hs
    exact (hf i hi).2
   ·rw [hlen] at hi
    rw [show ((List.range l).map f).getD i de=f i from by simp [List.getD_eq_getElem?_getD,hi]]
    exact (hf i hi).1
theorem secs_of_trod {H:Type} {enc:TypeId × Value→H} {W:World} {fuel:Nat} {v:Value} {y:DataW H × List MemPlace} (h:DataW.trod enc Tryz.prog W 0 (fun _=>true) true fuel 22 [v]=some y) :
  ∃ (a:Option Addr) (ss:List El) (cap:Nat),v=.slice a ss.length cap∧Els false W a ss∧ss.length≤maxLen:=els_of_trod false Tryz.underlying22 Tryz.cellsLBs (fun a b c=>sec_of_trod a b c) h
theorem pens_of_trod {H:Type} {enc:TypeId × Value→H} {W:World} {fuel:Nat} {v:Value} {y:DataW H × List MemPlace} (h:DataW.trod enc Tryz.prog W 0 (fun _=>true) true fuel 23 [v]=some y) :
  ∃ (a:Option Addr) (ss:List El) (cap:Nat),v=.slice a ss.length cap∧Els true W a ss∧ss.length≤maxLen:=els_of_trod true Tryz.underlying23 Tryz.cellsLPend (fun a b c=>pen_of_trod a b c) h
theorem Tryz.cellsLPl :Tryz.prog.cellsOf 168=2:=by kernel_rfl
theorem Tryz.cellsLPI :Tryz.prog.cellsOf 3=1:=by kernel_rfl
theorem plc_of_trod {H:Type} {enc:TypeId × Value→H} {W:World} {n:Nat} {cs:List Value} {x:DataW H × List MemPlace} {b off:Nat} (hl:cs.length=2) (hc:∀ i,i<2→W.cell? ⟨b,off+i,none⟩=cs[i]?)
  (h:DataW.trod enc Tryz.prog W 0 (fun _=>true) true n 168 cs=some x):∃ p:Int × Int,(W.cell? ⟨b,off,none⟩=some (.int .i64 p.1)∧W.cell? ⟨b,off+1,none⟩=some (.int .i64 p.2))∧rP p:=by
 obtain ⟨y0,y1,k,-,-,g0,g1⟩:=trod_struct2 Tryz.underlying168 h
 match cs,hl with
 | [v0,v1],_=>
  have g0':DataW.trod enc Tryz.prog W 0 (fun _=>true) true k 3 [v0]=some y0:=by
   have:=g0
   simp only [Tryz.cellsLPI] at this
   exact this
  have g1':DataW.trod enc Tryz.prog W 0 (fun _=>true) true k 3 [v1]=some y1:=by
   have:=g1
   simp only [Tryz.cellsLPI] at this
   exact this
  obtain ⟨N,e1,_,w1⟩:=DataW.trod_int Tryz.underlying3 g0'
  obtain ⟨D,e2,_,w2⟩:=DataW.trod_int Tryz.underlying3 g1'
  simp at e1 e2
  subst e1 e2
  have h0:=hc 0 (by omega)
  have h1:=hc 1 (by omega)
  simp at h0 h1
  exact ⟨(N,D),⟨h0,h1⟩,bounds_i64 w1,bounds_i64 w2⟩
theorem pls_of_trod {H:Type} {enc:TypeId × Value→H} {W:World} {fuel:Nat} {v:Value} {y:DataW H × List MemPlace}
  (h:DataW.trod enc Tryz.prog W 0 (fun _=>true) true fuel 26 [v]=some y) :
  ∃ (a:Option Addr) (ps:List (Int × Int)) (cap:Nat),v=.slice a ps.length cap∧Pls W a ps∧ps.length≤maxLen:=by
 rcases Go.Deep.open_slice Tryz.underlying26 h with ⟨hcs,_⟩ | ⟨x,l,c,m,n,D,Pl,hcs,_,hl,hm,hmm,_,hx⟩
 ·simp at hcs
  subst hcs
  exact ⟨none,[],0,rfl,⟨by simp,by simp⟩,by simp⟩
 ·simp at hcs
  subst hcs
  simp only [if_true] at hmm
  subst hmm
  rw [Tryz.cellsLPl] at hx
  by_cases hl0:l=0
  ·subst hl0
   exact ⟨some x,[],m,rfl,⟨by simp,by simp⟩,by simp⟩
  ·obtain ⟨b,off,spot⟩:=x
   obtain ⟨cs0,h0,_⟩:=hx 0 (by omega)
   obtain ⟨_,hlen0,hcell0⟩:=World.cells?_some h0
   have hc0:=hcell0 0 (by omega)
   have hspot:spot=none:=by
    rw [List.getElem?_eq_getElem (by omega)] at hc0
    simpa [Addr.add] using World.cell?_spot hc0
   subst hspot
   have hblk:b<W.heap.size:=by
    rw [List.getElem?_eq_getElem (by omega)] at hc0
    have:=World.block_lt_of_cell? _ _ hc0
    simpa [Addr.add] using this
   have hadd:∀ o i:Nat,(⟨b,o,none⟩:Addr).add i=⟨b,o+i,none⟩:=fun o i=>by unfold Addr.add;split <;> simp_all
   have each:∀ i,i<l→∃ p:Int × Int,(W.cell? ⟨b,off+i*2,none⟩=some (.int .i64 p.1)∧W.cell? ⟨b,off+i*2+1,none⟩=some (.int .i64 p.2))∧rP p:=by
    intro i hi
    obtain ⟨cs',h1,h2⟩:=hx i (by omega)
    obtain ⟨_,hlen,hcell⟩:=World.cells?_some h1
    refine plc_of_trod hlen (fun j hj=>?_) h2
    have:=hcell j hj
    rw [hadd,hadd] at this
    exact this
   haveI:Inhabited (Int × Int):=⟨dp⟩
   obtain ⟨f,hf⟩:=Go.Deep.choose_lt each
   have hlen:((List.range l).map f).length=l:=by simp
   refine ⟨some ⟨b,off,none⟩,(List.range l).map f,m,by rw [hlen],⟨?_,fun _=>⟨b,off,rfl,hblk,fun i hi=>?_⟩⟩,by rw [hlen];omega⟩
   ·intro s hs
    simp only [List.mem_map,List.mem_range] at hs
    obtain ⟨i,hi,rfl⟩:=hs
    exact (hf i hi).2
   ·rw [hlen] at hi
    rw [show ((List.range l).map f).getD i dp=f i from by simp [List.getD_eq_getElem?_getD,hi]]
    exact (hf i hi).1
theorem ins_of_trod {H:Type} {enc:TypeId × Value→H} {W:World} {fuel:Nat} {v:Value} {y:DataW H × List MemPlace}
  (h:DataW.trod enc Tryz.prog W 0 (fun _=>true) true fuel 29 [v]=some y) :
  ∃ (a:Option Addr) (zs:List Int) (cap:Nat),v=.slice a zs.length cap∧Ins W a zs∧zs.length≤maxLen:=by
 rcases open_ints Tryz.underlying29 Tryz.underlying3 (by kernel_rfl) h with ⟨hcs,_⟩ | ⟨x,l,c,zs,hcs,_,hl,hm,hz,_,hcell,hwz⟩
 ·simp at hcs
  subst hcs
  exact ⟨.none,[],0,rfl,⟨by simp,by simp⟩,by simp [maxLen]⟩
 ·simp at hcs
  subst hcs
  simp only [if_true] at hz
  have hlen:(zs.take l).length=l:=by rw [List.length_take];omega
  refine ⟨some x,zs.take l,c,by rw [hlen],⟨?_,?_⟩,by rw [hlen];omega⟩
  ·intro z hz'
   have h1:=hwz z (List.mem_of_mem_take hz')
   exact bounds_i64 h1
  ·intro hp
   rw [hlen] at hp
   obtain ⟨b,off,spot⟩:=x
   have hc:=hcell 0 (by omega)
   have hspot:spot=.none:=by simpa [Addr.add] using World.cell?_spot hc
   subst hspot
   refine ⟨b,off,rfl,?_,fun i hi=>?_⟩
   ·have:=World.block_lt_of_cell? _ _ hc
    simpa [Addr.add] using this
   ·rw [hlen] at hi
    have:=hcell i (by omega)
    have hadd:(⟨b,off,.none⟩:Addr).add i=⟨b,off+i,.none⟩:=by unfold Addr.add;split <;> simp_all
    rw [hadd] at this
    rw [show (zs.take l).getD i 0=zs.getD i 0 from by simp [hi]]
    exact this
/-- A disk that came in. -/
theorem open_disk {H:Type} {enc:TypeId × Value→H} {W:World} {r:Reach} {b0:Nat} {v:Value} {dd:DataW H} {p:List MemPlace}
  (hv:Value.okWide Tryz.prog W r b0 34 v) (h:DataW.Trod enc Tryz.prog W 0 (fun _=>true) true 34 v dd p) :
  ∃ d:DkV,v=.agg #[.slice d.sa d.ss.length d.sc,.slice d.pa d.ps.length d.pc,.int .i64 d.E,.int .i64 d.O,.slice d.ma d.ms.length d.mc,.slice d.va d.vs.length d.vc,.slice d.ca d.cs.length d.cc,.int .i64 d.F,.int .i64 d.G,.slice d.oa d.os.length d.oc]∧DkI W d∧DkM d:=by
 obtain ⟨cs,rfl,hsz⟩:=okWide_struct Tryz.underlying34 hv
 have hC:Tryz.prog.cellsOf 34=10:=by kernel_rfl
 have k1:Tryz.prog.cellsOf 25=2:=by kernel_rfl
 have k2:Tryz.prog.cellsOf 28=1:=by kernel_rfl
 have k3:Tryz.prog.cellsOf 29=1:=by kernel_rfl
 have k4:Tryz.prog.cellsOf 32=3:=by kernel_rfl
 have k5:Tryz.prog.cellsOf 3=1:=by kernel_rfl
 have k6:Tryz.prog.cellsOf 22=1:=by kernel_rfl
 have k7:Tryz.prog.cellsOf 23=1:=by kernel_rfl
 have k8:Tryz.prog.cellsOf 26=1:=by kernel_rfl
 have k9:Tryz.prog.cellsOf 30=1:=by kernel_rfl
 have hsz1:=hsz.trans hC
 obtain ⟨v0,v1,v2,v3,v4,v5,v6,v7,v8,v9,rfl⟩:∃ v0 v1 v2 v3 v4 v5 v6 v7 v8 v9,cs=#[v0,v1,v2,v3,v4,v5,v6,v7,v8,v9]:=by
  obtain ⟨l⟩:=cs
  match l,hsz1 with
  | [v0,v1,v2,v3,v4,v5,v6,v7,v8,v9],_=>exact ⟨v0,v1,v2,v3,v4,v5,v6,v7,v8,v9,rfl⟩
 obtain ⟨fuel,hf⟩:=h
 obtain ⟨xs,n,-,-,hl,hlen,hg⟩:=DataW.trod_struct Tryz.underlying34 hf
 match xs,hlen with
 | [y0,y1,y2,y3,y4,y5,y6],_=>
  have g0:DataW.trod enc Tryz.prog W 0 (fun _=>true) true n 25 [v0,v1]=some y0:=by simpa [Value.cells,k1] using hg 0 _ rfl
  have g1:DataW.trod enc Tryz.prog W 0 (fun _=>true) true n 3 [v2]=some y1:=by simpa [Value.cells,k5] using hg 1 _ rfl
  have g2:DataW.trod enc Tryz.prog W 0 (fun _=>true) true n 3 [v3]=some y2:=by simpa [Value.cells,k5] using hg 2 _ rfl
  have g3:DataW.trod enc Tryz.prog W 0 (fun _=>true) true n 28 [v4]=some y3:=by simpa [Value.cells,k2] using hg 3 _ rfl
  have g4:DataW.trod enc Tryz.prog W 0 (fun _=>true) true n 28 [v5]=some y4:=by simpa [Value.cells,k2] using hg 4 _ rfl
  have g5:DataW.trod enc Tryz.prog W 0 (fun _=>true) true n 29 [v6]=some y5:=by simpa [Value.cells,k3] using hg 5 _ rfl
  have g6:DataW.trod enc Tryz.prog W 0 (fun _=>true) true n 32 [v7,v8,v9]=some y6:=by simpa [Value.cells,k4] using hg 6 _ rfl
  obtain ⟨z0,z1,m,-,-,r0,r1⟩:=trod_struct2 Tryz.underlying25 g0
  obtain ⟨sa,ss,sc,e0,hs,hm1⟩:=secs_of_trod (v:=v0) (by simpa [k6] using r0)
  obtain ⟨pa,ps,pc,e1,hp,hm2⟩:=pens_of_trod (v:=v1) (by simpa [k6,k7] using r1)
  obtain ⟨E,e2,-,-⟩:=DataW.trod_int Tryz.underlying3 g1
  obtain ⟨O,e3,-,-⟩:=DataW.trod_int Tryz.underlying3 g2
  obtain ⟨z3,m3,-,-,r3⟩:=trod_struct1 Tryz.underlying28 g3
  obtain ⟨ma,ms,mc,e4,hms,hm3⟩:=pls_of_trod (v:=v4) (by simpa [k8] using r3)
  obtain ⟨z4,m4,-,-,r4⟩:=trod_struct1 Tryz.underlying28 g4
  obtain ⟨va,vs,vc,e5,hvs,hm4⟩:=pls_of_trod (v:=v5) (by simpa [k8] using r4)
  obtain ⟨ca,cs,cc,e6,hcs,hm5⟩:=ins_of_trod (v:=v6) g5
  obtain ⟨z6,z7,z8,m6,-,-,r6,r7,r8⟩:=Go.Deep.trod_struct3 Tryz.underlying32 g6
  obtain ⟨F,e7,-,-⟩:=DataW.trod_int Tryz.underlying3 (show DataW.trod enc Tryz.prog W 0 (fun _=>true) true m6 3 [v7]=some z6 by simpa [k5] using r6)
  obtain ⟨G,e8,-,-⟩:=DataW.trod_int Tryz.underlying3 (show DataW.trod enc Tryz.prog W 0 (fun _=>true) true m6 3 [v8]=some z7 by simpa [k5] using r7)
  obtain ⟨oa,os,oc,e9,hos,hm6⟩:=items_of_trod (v:=v9) (by simpa [k5,k9] using r8)
  simp at e2 e3 e7 e8
  subst e0 e1 e2 e3 e4 e5 e6 e7 e8 e9
  exact ⟨⟨sa,sc,ss,pa,pc,ps,E,O,ma,mc,ms,va,vc,vs,ca,cc,cs,F,G,oa,oc,os⟩,rfl,⟨⟨hs,hp⟩,hms,hvs,hcs,hos⟩,⟨hm1,hm2,hm3,hm4,hm5,hm6⟩⟩
theorem Tryz.cellsES :Tryz.prog.cellsOf 351=1:=by kernel_rfl
theorem Tryz.cellsStr :Tryz.prog.cellsOf 9=1:=by kernel_rfl
theorem Tryz.star : "*" ++ "errors.errorString" = "*errors.errorString" := by decide
theorem Tryz.rowES (u : TypeId) (h : Tryz.prog.typeName? 3 u = some "*errors.errorString") : u = 326 :=
 typeName_ptr_named (nm := "errors.errorString") (by rw [Tryz.star]; kernel_rfl) (by kernel_rfl) (by decide) u (by rw [Tryz.star]; exact h)
theorem sentinel {n : String} {text : List UInt8} {r : List (String × DataW Unit)} {W : World} {g : Nat} (h : laidMet Tryz.prog ((n, .iface "*errors.errorString" (.ptr (.agg [.lit (.string text)]))) :: r) W)
  (hg:Tryz.prog.globalNamed n=some g) (ht:(Tryz.prog.globals[g]?).map (·.type)=some 82) :
  ∃ a:Addr,W.var? Tryz.prog n=some #[.iface 326 (.pointer (some a))]∧W.cell? ⟨g,0,.none⟩=some (.iface 326 (.pointer (some a))):=by
 obtain ⟨a0,s0,hv0,hc0,hs0,hz0⟩:=laid_sentinel h hg ht Tryz.underlying82 Tryz.rowES Tryz.underlying326 Tryz.underlying351 rfl rfl Tryz.underlying9 Tryz.cellsES Tryz.cellsStr
 exact ⟨a0,hv0,by simpa using World.var?_cell hg hv0 0⟩
theorem vars_nil {H:Type} (enc:TypeId × Value→H) {P:Program} {W:World} (sp:Nat→Bool):DataW.TrodVars enc P W sp [] [] []:=rfl
theorem vars_consC {H:Type} (enc:TypeId × Value→H) {P:Program} {W:World} {n:String} {g:Nat} {t:TypeId} {ms:Array (String × TypeId)} {x:Value} {ns:List String} {ds:List (DataW H)} {ps:List MemPlace} {sp:Nat→Bool}
  (hg:P.globalNamed n=some g) (ht:(P.globals[g]?).map (·.type)=some t) (hi:P.underlying t=some (.interface ms)) (h:W.var? P n=some #[x]) (ix:IsIface x) (hr:DataW.TrodVars enc P W sp ns ds ps) :
  DataW.TrodVars enc P W sp (n :: ns) (tok enc x :: ds) (.cell g 0 :: ps):=⟨g,t,#[x],1,[],ps,hg,ht,h,trod_held hi ix 0,hr,rfl⟩
end Go.Proofs.YtaibkchbkedjnaaGreatDoor
