/-
  How big a disk is. (Typed by wip/mkdk.py.)
-/
import Derived.Test.YtaibkchbkedjnaaGreatDoorItTo
import Derived.Deep.RegionHeld3
import Derived.Test.YtaibkchbkedjnaaGreatDoorIBase
import Derived.Test.YtaibkchbkedjnaaGreatDoorOps
import Derived.Test.YtaibkchbkedjnaaGreatDoorElEq
namespace Go.Proofs.YtaibkchbkedjnaaGreatDoor
open Go.RowKit
set_option linter.unusedVariables false

set_option maxHeartbeats 800000 in
theorem eqPlace_yes (x y:Int) (w:World) :
  Calls Tryz.prog 143 #[.agg #[.int .i64 x,.int .i64 y],.agg #[.int .i64 x,.int .i64 y]] w fun e w'=>e=.returned (.bool true)∧Below w.heap.size w w':=by
 have hw:Below w.heap.size w ((w.alloc (Obj.cells #[Value.int IntKind.i64 x,Value.int IntKind.i64 y] 127)).alloc (Obj.cells #[Value.int IntKind.i64 x,Value.int IntKind.i64 y] 127)):=
  ((Below.refl _ _).alloc (Nat.le_refl _) _).alloc (by simp) _
 have h1:(x != x)=false:=by simp
 have h2:(y != y)=false:=by simp
 go_enter Tryz.func143,Tryz.ntmps143
 go_wp2
 go_ret
 exact ⟨rfl,hw⟩

set_option maxHeartbeats 1600000 in
theorem eqPlaceS_yes (a b:Option Addr) (ca cb:Nat) (ps:List (Int × Int)) (w:World) (ha:Pls w a ps) (hb:Pls w b ps) (hx:ps.length≤1048576) :
  Calls Tryz.prog 99 #[.slice a ps.length ca,.slice b ps.length cb] w fun e w'=>e=.returned (.bool true)∧Below w.heap.size w w':=by
 have HA:Hid (Pls w a ps):=ha
 have HB:Hid (Pls w b ps):=hb
 clear ha hb
 generalize hlen:ps.length=n at *
 have HL:Hid (ps.length=n∧True):=⟨hlen,trivial⟩
 clear hlen
 have hnn:((n:Int) != (n:Int))=false:=by simp
 go_enter Tryz.func99,Tryz.ntmps99
 go_wp2
 go_loopw [5] (fun i wr=>∃ k:Nat,k≤n∧i=.int .i64 k∧Below w.heap.size w wr) (fun i _=>n - (intOf i).toNat)
 case atStart=>exact ⟨0,Nat.zero_le _,rfl,Below.refl _ _⟩
 case round=>
  obtain ⟨k,hk,rfl,hbel⟩:=hrel
  by_cases hlt:k<n
  ·obtain ⟨b1,o1,rfl,hb1,hc1⟩:=(HA.out.below hbel (Nat.le_refl _)).len_pos k (by rw [HL.out.1];exact hlt)
   obtain ⟨b2,o2,rfl,hb2,hc2⟩:=(HB.out.below hbel (Nat.le_refl _)).len_pos k (by rw [HL.out.1];exact hlt)
   obtain ⟨c0,c1⟩:=hc1 k (by rw [HL.out.1];exact hlt)
   obtain ⟨d0,d1⟩:=hc2 k (by rw [HL.out.1];exact hlt)
   clear hc1 hc2
   generalize ps.getD k dp=p at *
   obtain ⟨x,y⟩:=p
   simp only at c0 c1 d0 d1
   have HC:Hid (wr.cell? ⟨b1,o1+k * 2,none⟩=some (.int .i64 x)∧wr.cell? ⟨b1,o1+k * 2+1,none⟩=some (.int .i64 y)∧wr.cell? ⟨b2,o2+k * 2,none⟩=some (.int .i64 x)∧wr.cell? ⟨b2,o2+k * 2+1,none⟩=some (.int .i64 y)):=⟨c0,c1,d0,d1⟩
   clear c0 c1 d0 d1
   go_wp2_with fail
   go_region_held3 (fun W=>W.cell? ⟨b1,o1+k * 2,none⟩=some (.int .i64 x)∧W.cell? ⟨b1,o1+k * 2+1,none⟩=some (.int .i64 y)∧W.cell? ⟨b2,o2+k * 2,none⟩=some (.int .i64 x)∧W.cell? ⟨b2,o2+k * 2+1,none⟩=some (.int .i64 y))
    (first | exact HC.out | exact HC8.out)
    (first
     | (go_at_call 143;refine (eqPlace_yes x y _).mono ?_;rintro e w8 ⟨rfl,hb8'⟩;have HB8:Hid (Below w.heap.size w w8):=hbel.trans ((Below.drewS hb8').mono hbel.size);have HC8:Hid (w8.cell? ⟨b1,o1+k * 2,none⟩=some (.int .i64 x)∧w8.cell? ⟨b1,o1+k * 2+1,none⟩=some (.int .i64 y)∧w8.cell? ⟨b2,o2+k * 2,none⟩=some (.int .i64 x)∧w8.cell? ⟨b2,o2+k * 2+1,none⟩=some (.int .i64 y)):=⟨keep (Below.drewS hb8') hb1 HC.out.1,keep (Below.drewS hb8') hb1 HC.out.2.1,keep (Below.drewS hb8') hb2 HC.out.2.2.1,keep (Below.drewS hb8') hb2 HC.out.2.2.2⟩))
   clear HC HC8
   go_wp2
   go_roundw
   case rel=>exact ⟨k+1,by omega,by go_num,HB8.out⟩
   case measure=>simp [intOf];omega
  ·have hkn:k=n:=by omega
   subst hkn
   go_wp2
   go_ret
   exact ⟨rfl,hbel⟩

set_option maxHeartbeats 800000 in
theorem eqMap_yes (a b:Option Addr) (ca cb:Nat) (ps:List (Int × Int)) (w:World) (ha:Pls w a ps) (hb:Pls w b ps) (hx:ps.length≤1048576) :
  Calls Tryz.prog 55 #[.agg #[.slice a ps.length ca],.agg #[.slice b ps.length cb]] w fun e w'=>e=.returned (.bool true)∧Below w.heap.size w w':=by
 have hw:Below w.heap.size w ((w.alloc (Obj.cells #[Value.slice a ps.length ca] 44)).alloc (Obj.cells #[Value.slice b ps.length cb] 44)):=
  ((Below.refl _ _).alloc (Nat.le_refl _) _).alloc (by simp) _
 go_enter Tryz.func55,Tryz.ntmps55
 go_wp2_with fail
 refine (eqPlaceS_yes a b ca cb ps _ (ha.below hw (Nat.le_refl _)) (hb.below hw (Nat.le_refl _)) hx).mono ?_
 rintro e w1 ⟨rfl,hb1⟩
 go_wp2
 go_ret
 exact ⟨rfl,hw.trans (hb1.mono (by simp;omega))⟩
set_option maxHeartbeats 800000 in
theorem eqIntS_any (a b:Option Addr) (ca cb:Nat) (xs ys:List Int) (w:World) (ha:Ins w a xs) (hb:Ins w b ys) (hx:xs.length≤281474976710656) (hy:ys.length≤281474976710656) :
  Calls Tryz.prog 56 #[.slice a xs.length ca,.slice b ys.length cb] w fun e w'=>e=.returned (.bool (decide (xs=ys)))∧∃ n,w'=w.drewN n:=by
 by_cases hl:xs.length=ys.length
 ·generalize hlx:xs.length=n at *
  have HX:Hid (xs.length=n):=hlx
  have HY:Hid (ys.length=n):=hl.symm
  rw [←hl]
  have hnn:((n:Int) != (n:Int))=false:=by simp
  clear hlx hl hy
  go_enter Tryz.func56,Tryz.ntmps56
  go_wp2
  go_loopw [5] (fun i wr=>∃ k m:Nat,k≤n∧i=.int .i64 k∧wr=w.drewN m∧xs.take k=ys.take k) (fun i _=>n - (intOf i).toNat)
  case atStart=>exact ⟨0,0,Nat.zero_le _,rfl,rfl,by simp⟩
  case round=>
   obtain ⟨k,m,hk,rfl,rfl,htk⟩:=hrel
   have HT:Hid (xs.take k=ys.take k):=htk
   clear htk
   by_cases hlt:k<n
   ·obtain ⟨b1,o1,rfl,hb1,hc1⟩:=ha.len_pos k (by rw [HX.out];exact hlt)
    obtain ⟨b2,o2,rfl,hb2,hc2⟩:=hb.len_pos k (by rw [HY.out];exact hlt)
    have hs1:=hc1 k (by rw [HX.out];exact hlt)
    have hs2:=hc2 k (by rw [HY.out];exact hlt)
    have g1:=getD_rngI ha.1 k
    have g2:=getD_rngI hb.1 k
    clear hc1 hc2 ha hb
    generalize hx1:xs.getD k 0=x1 at *
    generalize hy1:ys.getD k 0=y1 at *
    have HX1:Hid (xs.getD k 0=x1):=hx1
    have HY1:Hid (ys.getD k 0=y1):=hy1
    clear hx1 hy1
    by_cases hxy:x1=y1
    ·subst hxy
     have hq:(x1 != x1)=false:=by simp
     have HT':Hid (xs.take (k+1)=ys.take (k+1)):=take_eq_succ HT.out (by rw [HX.out];exact hlt) (by rw [HY.out];exact hlt) (by rw [HX1.out,HY1.out])
     go_wp2
     go_quiet (fail)
     go_wp2
     go_roundw
     case rel=>exact ⟨k+1,_,by omega,by go_num,rfl,HT'.out⟩
     case measure=>simp [intOf];omega
    ·have hq:(x1 != y1)=true:=by rw [bne_iff_ne];exact hxy
     have HN:Hid (decide (xs=ys)=false):=by
      have:xs≠ys:=ne_of_getD (k:=k) (by rw [HX1.out,HY1.out];exact hxy)
      simpa [Hid] using this
     clear hxy
     go_wp2
     go_quiet (fail)
     go_wp2
     go_ret
     exact ⟨by rw [HN.out];rfl,_,World.drewN_drewN ..⟩
   ·have HE:Hid (decide (xs=ys)=true):=by
     have h1:=HT.out
     rw [List.take_of_length_le (by rw [HX.out];omega),List.take_of_length_le (by rw [HY.out];omega)] at h1
     simpa [Hid] using h1
    go_wp2
    go_ret
    exact ⟨by rw [HE.out];rfl,_,rfl⟩
 ·have hne:decide (xs=ys)=false:=by simp;intro h;exact hl (by rw [h])
  have hl':((xs.length:Int) != (ys.length:Int))=true:=by rw [bne_iff_ne];omega
  rw [hne]
  go_enter Tryz.func56,Tryz.ntmps56
  go_wp2
  go_ret
  exact ⟨rfl,0,rfl⟩

theorem eqIntS_yes (a b:Option Addr) (ca cb:Nat) (xs:List Int) (w:World) (ha:Ins w a xs) (hb:Ins w b xs) (hx:xs.length≤281474976710656) :
  Calls Tryz.prog 56 #[.slice a xs.length ca,.slice b xs.length cb] w fun e w'=>e=.returned (.bool true)∧∃ n,w'=w.drewN n:=by
 refine (eqIntS_any a b ca cb xs xs w ha hb hx hx).mono ?_
 rintro e w' ⟨rfl,h⟩
 exact ⟨by simp,h⟩

set_option linter.unusedSimpArgs false
theorem eqRaw_ct (sa pa ta qa:Option Addr) (sc pc tc qc:Nat) (ss ps ts qs:List El) (w:World) (ha:RawI w sa pa ss ps) (hb:RawI w ta qa ts qs) (h1:ss.map El.ct=ts.map El.ct) (h2:ps.map El.ct=qs.map El.ct) (hx:Few ss ps) :
  Calls Tryz.prog 22 #[.agg #[.slice sa ss.length sc,.slice pa ps.length pc],.agg #[.slice ta ts.length tc,.slice qa qs.length qc]] w fun e w'=>e=.returned (.bool true)∧Below w.heap.size w w':=by
 rw [←len_ctE h1,←len_ctE h2]
 exact eqRaw_yes sa pa ta qa sc pc tc qc ss ps ts qs w ha hb h1 h2 hx
theorem eqPack_ct (E O E' O':Int) (a b:Option Addr) (ca cb:Nat) (ss ts:List El) (w:World) (ha:Els true w a ss) (hb:Els true w b ts) (hct:ss.map El.ct=ts.map El.ct) (hx:FewI ss) (hE:E=E') (hO:O=O') :
  Calls Tryz.prog 57 #[.agg #[.int .i64 E,.int .i64 O,.slice a ss.length ca],.agg #[.int .i64 E',.int .i64 O',.slice b ts.length cb]] w fun e w'=>e=.returned (.bool true)∧Below w.heap.size w w':=by
 subst hE hO
 rw [←len_ctE hct]
 exact eqPack_yes E O a b ca cb ss ts w ha hb hct hx
theorem eqMap_eq (a b:Option Addr) (ca cb:Nat) (ps qs:List (Int × Int)) (w:World) (ha:Pls w a ps) (hb:Pls w b qs) (h:ps=qs) (hx:ps.length≤1048576) :
  Calls Tryz.prog 55 #[.agg #[.slice a ps.length ca],.agg #[.slice b qs.length cb]] w fun e w'=>e=.returned (.bool true)∧Below w.heap.size w w':=by
 subst h
 exact eqMap_yes a b ca cb ps w ha hb hx
theorem eqIntS_eq (a b:Option Addr) (ca cb:Nat) (xs ys:List Int) (w:World) (ha:Ins w a xs) (hb:Ins w b ys) (h:xs=ys) (hx:xs.length≤1048576) :
  Calls Tryz.prog 56 #[.slice a xs.length ca,.slice b ys.length cb] w fun e w'=>e=.returned (.bool true)∧Below w.heap.size w w':=by
 subst h
 refine (eqIntS_yes a b ca cb xs w ha hb (by omega)).mono ?_
 rintro e w1 ⟨rfl,n,rfl⟩
 exact ⟨rfl,⟨rfl,rfl,rfl,Nat.le_refl _,fun _ _=>rfl⟩⟩

set_option maxRecDepth 20000 in
set_option maxHeartbeats 4000000 in
theorem eqDisk_yes (d e:DkV) (w:World) (hd:DkI w d) (he:DkI w e) (hs:DkS d e) (hf:DkF d) :
  Calls Tryz.prog 15 #[.agg #[Value.slice d.sa d.ss.length d.sc,Value.slice d.pa d.ps.length d.pc,Value.int IntKind.i64 d.E,Value.int IntKind.i64 d.O,Value.slice d.ma d.ms.length d.mc,Value.slice d.va d.vs.length d.vc,Value.slice d.ca d.cs.length d.cc,Value.int IntKind.i64 d.F,Value.int IntKind.i64 d.G,Value.slice d.oa d.os.length d.oc],.agg #[Value.slice e.sa e.ss.length e.sc,Value.slice e.pa e.ps.length e.pc,Value.int IntKind.i64 e.E,Value.int IntKind.i64 e.O,Value.slice e.ma e.ms.length e.mc,Value.slice e.va e.vs.length e.vc,Value.slice e.ca e.cs.length e.cc,Value.int IntKind.i64 e.F,Value.int IntKind.i64 e.G,Value.slice e.oa e.os.length e.oc]] w fun r w'=>r=.returned (.bool true)∧Below w.heap.size w w':=by
 have hw0:Below w.heap.size w (w.alloc (Obj.cells #[Value.slice d.sa d.ss.length d.sc,Value.slice d.pa d.ps.length d.pc,Value.int IntKind.i64 d.E,Value.int IntKind.i64 d.O,Value.slice d.ma d.ms.length d.mc,Value.slice d.va d.vs.length d.vc,Value.slice d.ca d.cs.length d.cc,Value.int IntKind.i64 d.F,Value.int IntKind.i64 d.G,Value.slice d.oa d.os.length d.oc] 49)):=(Below.refl _ _).alloc (Nat.le_refl _) _
 have hw:Below w.heap.size w ((w.alloc (Obj.cells #[Value.slice d.sa d.ss.length d.sc,Value.slice d.pa d.ps.length d.pc,Value.int IntKind.i64 d.E,Value.int IntKind.i64 d.O,Value.slice d.ma d.ms.length d.mc,Value.slice d.va d.vs.length d.vc,Value.slice d.ca d.cs.length d.cc,Value.int IntKind.i64 d.F,Value.int IntKind.i64 d.G,Value.slice d.oa d.os.length d.oc] 49)).alloc (Obj.cells #[Value.slice e.sa e.ss.length e.sc,Value.slice e.pa e.ps.length e.pc,Value.int IntKind.i64 e.E,Value.int IntKind.i64 e.O,Value.slice e.ma e.ms.length e.mc,Value.slice e.va e.vs.length e.vc,Value.slice e.ca e.cs.length e.cc,Value.int IntKind.i64 e.F,Value.int IntKind.i64 e.G,Value.slice e.oa e.os.length e.oc] 49)):=hw0.alloc (by simp) _
 have hx:=(Dk10.new w d 49).alloc (Obj.cells #[Value.slice e.sa e.ss.length e.sc,Value.slice e.pa e.ps.length e.pc,Value.int IntKind.i64 e.E,Value.int IntKind.i64 e.O,Value.slice e.ma e.ms.length e.mc,Value.slice e.va e.vs.length e.vc,Value.slice e.ca e.cs.length e.cc,Value.int IntKind.i64 e.F,Value.int IntKind.i64 e.G,Value.slice e.oa e.os.length e.oc] 49)
 have hy:=Dk10.new (w.alloc (Obj.cells #[Value.slice d.sa d.ss.length d.sc,Value.slice d.pa d.ps.length d.pc,Value.int IntKind.i64 d.E,Value.int IntKind.i64 d.O,Value.slice d.ma d.ms.length d.mc,Value.slice d.va d.vs.length d.vc,Value.slice d.ca d.cs.length d.cc,Value.int IntKind.i64 d.F,Value.int IntKind.i64 d.G,Value.slice d.oa d.os.length d.oc] 49)) e 49
 simp only [World.size_alloc] at hy
 have HB:Hid (DkI w d∧DkI w e∧DkF d∧DkS d e):=⟨hd,he,hf,hs⟩
 clear hd he hf hs hw0
 have H1:=eqRaw_ct d.sa d.pa e.sa e.pa d.sc d.pc e.sc e.pc d.ss d.ps e.ss e.ps _ (HB.out.1.raw.below hw (Nat.le_refl _)) (HB.out.2.1.raw.below hw (Nat.le_refl _)) HB.out.2.2.2.ss HB.out.2.2.2.ps HB.out.2.2.1.raw
 go_enter Tryz.func15,Tryz.ntmps15
 go_wp2_with fail
 generalize (w.alloc (Obj.cells #[Value.slice d.sa d.ss.length d.sc,Value.slice d.pa d.ps.length d.pc,Value.int IntKind.i64 d.E,Value.int IntKind.i64 d.O,Value.slice d.ma d.ms.length d.mc,Value.slice d.va d.vs.length d.vc,Value.slice d.ca d.cs.length d.cc,Value.int IntKind.i64 d.F,Value.int IntKind.i64 d.G,Value.slice d.oa d.os.length d.oc] 49)).alloc (Obj.cells #[Value.slice e.sa e.ss.length e.sc,Value.slice e.pa e.ps.length e.pc,Value.int IntKind.i64 e.E,Value.int IntKind.i64 e.O,Value.slice e.ma e.ms.length e.mc,Value.slice e.va e.vs.length e.vc,Value.slice e.ca e.cs.length e.cc,Value.int IntKind.i64 e.F,Value.int IntKind.i64 e.G,Value.slice e.oa e.os.length e.oc] 49)=W0 at *
 have hE:(d.E != e.E)=false:=by simp [HB.out.2.2.2.E]
 have hO:(d.O != e.O)=false:=by simp [HB.out.2.2.2.O]
 refine H1.mono ?_
 clear H1
 rintro r w1 ⟨rfl,hb1⟩
 have HW1:Hid (Below w.heap.size w w1):=hw.trans (hb1.mono hw.size)
 have hx1:=hx.step hb1
 have hy1:=hy.step hb1
 clear hb1 hw hx hy
 obtain ⟨x0,x1,x2,x3,x4,x5,x6,x7,x8,x9,xl⟩:=id hx1
 obtain ⟨y0,y1,y2,y3,y4,y5,y6,y7,y8,y9,yl⟩:=id hy1
 have H2:=eqMap_eq d.ma e.ma d.mc e.mc d.ms e.ms w1 (HB.out.1.map.below HW1.out (Nat.le_refl _)) (HB.out.2.1.map.below HW1.out (Nat.le_refl _)) HB.out.2.2.2.ms HB.out.2.2.1.ms
 go_wp2_with fail
 refine H2.mono ?_
 clear H2
 rintro r w2 ⟨rfl,hb2⟩
 have HW2:Hid (Below w.heap.size w w2):=HW1.out.trans (hb2.mono HW1.out.size)
 have hx2:=hx1.step hb2
 have hy2:=hy1.step hb2
 clear hb2 HW1 hx1 hy1
 clear x0 x1 x2 x3 x4 x5 x6 x7 x8 x9 xl y0 y1 y2 y3 y4 y5 y6 y7 y8 y9 yl
 obtain ⟨x0,x1,x2,x3,x4,x5,x6,x7,x8,x9,xl⟩:=id hx2
 obtain ⟨y0,y1,y2,y3,y4,y5,y6,y7,y8,y9,yl⟩:=id hy2
 have H3:=eqMap_eq d.va e.va d.vc e.vc d.vs e.vs w2 (HB.out.1.sav.below HW2.out (Nat.le_refl _)) (HB.out.2.1.sav.below HW2.out (Nat.le_refl _)) HB.out.2.2.2.vs HB.out.2.2.1.vs
 go_wp2_with fail
 refine H3.mono ?_
 clear H3
 rintro r w3 ⟨rfl,hb3⟩
 have HW3:Hid (Below w.heap.size w w3):=HW2.out.trans (hb3.mono HW2.out.size)
 have hx3:=hx2.step hb3
 have hy3:=hy2.step hb3
 clear hb3 HW2 hx2 hy2
 clear x0 x1 x2 x3 x4 x5 x6 x7 x8 x9 xl y0 y1 y2 y3 y4 y5 y6 y7 y8 y9 yl
 obtain ⟨x0,x1,x2,x3,x4,x5,x6,x7,x8,x9,xl⟩:=id hx3
 obtain ⟨y0,y1,y2,y3,y4,y5,y6,y7,y8,y9,yl⟩:=id hy3
 have H4:=eqIntS_eq d.ca e.ca d.cc e.cc d.cs e.cs w3 (HB.out.1.chn.below HW3.out (Nat.le_refl _)) (HB.out.2.1.chn.below HW3.out (Nat.le_refl _)) HB.out.2.2.2.cs HB.out.2.2.1.cs
 go_wp2_with fail
 refine H4.mono ?_
 clear H4
 rintro r w4 ⟨rfl,hb4⟩
 have HW4:Hid (Below w.heap.size w w4):=HW3.out.trans (hb4.mono HW3.out.size)
 have hx4:=hx3.step hb4
 have hy4:=hy3.step hb4
 clear hb4 HW3 hx3 hy3
 clear x0 x1 x2 x3 x4 x5 x6 x7 x8 x9 xl y0 y1 y2 y3 y4 y5 y6 y7 y8 y9 yl
 obtain ⟨x0,x1,x2,x3,x4,x5,x6,x7,x8,x9,xl⟩:=id hx4
 obtain ⟨y0,y1,y2,y3,y4,y5,y6,y7,y8,y9,yl⟩:=id hy4
 have H5:=eqPack_ct d.F d.G e.F e.G d.oa e.oa d.oc e.oc d.os e.os w4 (HB.out.1.opn.below HW4.out (Nat.le_refl _)) (HB.out.2.1.opn.below HW4.out (Nat.le_refl _)) HB.out.2.2.2.os HB.out.2.2.1.opn HB.out.2.2.2.F HB.out.2.2.2.G
 go_wp2_with fail
 refine H5.mono ?_
 clear H5
 rintro r w5 ⟨rfl,hb5⟩
 have HW5:Hid (Below w.heap.size w w5):=HW4.out.trans (hb5.mono HW4.out.size)
 have hx5:=hx4.step hb5
 have hy5:=hy4.step hb5
 clear hb5 HW4 hx4 hy4
 clear x0 x1 x2 x3 x4 x5 x6 x7 x8 x9 xl y0 y1 y2 y3 y4 y5 y6 y7 y8 y9 yl
 clear hx5 hy5
 go_wp2
 go_ret
 exact ⟨rfl,HW5.out⟩
set_option maxHeartbeats 800000 in
theorem szIntS_left (a:Option Addr) (n cap:Nat) (left:Int) (w:World) (hm:n≤maxLen) (h0:0≤left) (h1:left≤1048576) :
  Calls Tryz.prog 42 #[.slice a n cap,.int .i64 left] w fun e w'=>(∃ z:Int,e=.returned (.int .i64 z)∧(z=-1∨(0≤z∧z≤left∧z+n=left)))∧w'=w:=by
 unfold maxLen at hm
 by_cases h:(n:Int)≤left
 ·go_enter Tryz.func42,Tryz.ntmps42
  go_wp2
  go_ret
  exact ⟨⟨left - n,by go_num,.inr ⟨by omega,by omega,by omega⟩⟩,rfl⟩
 ·go_enter Tryz.func42,Tryz.ntmps42
  go_wp2
  go_ret
  exact ⟨⟨-1,rfl,.inl rfl⟩,rfl⟩

set_option maxHeartbeats 800000 in
theorem szPlaceS_left (a:Option Addr) (n cap:Nat) (left:Int) (w:World) (hm:n≤maxLen) (h0:0≤left) (h1:left≤1048576) :
  Calls Tryz.prog 74 #[.slice a n cap,.int .i64 left] w fun e w'=>(∃ z:Int,e=.returned (.int .i64 z)∧(z=-1∨(0≤z∧z≤left∧z+n=left)))∧w'=w:=by
 unfold maxLen at hm
 by_cases h:(n:Int)≤left
 ·go_enter Tryz.func74,Tryz.ntmps74
  go_wp2
  go_ret
  exact ⟨⟨left - n,by go_num,.inr ⟨by omega,by omega,by omega⟩⟩,rfl⟩
 ·go_enter Tryz.func74,Tryz.ntmps74
  go_wp2
  go_ret
  exact ⟨⟨-1,rfl,.inl rfl⟩,rfl⟩

set_option maxHeartbeats 800000 in
theorem szMap_left (a:Option Addr) (n cap:Nat) (left:Int) (w:World) (hm:n≤maxLen) (h0:0≤left) (h1:left≤1048576) :
  Calls Tryz.prog 41 #[.agg #[.slice a n cap],.int .i64 left] w fun e w'=>(∃ z:Int,e=.returned (.int .i64 z)∧(z=-1∨(0≤z∧z≤left∧z+n=left)))∧Below w.heap.size w w':=by
 have hw:Below w.heap.size w (w.alloc (Obj.cells #[Value.slice a n cap] 28)):=(Below.refl _ _).alloc (Nat.le_refl _) _
 have HS:=szPlaceS_left a n cap left (w.alloc (Obj.cells #[Value.slice a n cap] 28)) hm h0 h1
 clear hm
 go_enter Tryz.func41,Tryz.ntmps41
 go_wp2_with fail
 refine HS.mono ?_
 clear HS
 rintro e w1 ⟨⟨z,rfl,hz⟩,rfl⟩
 rcases hz with rfl | ⟨hz0,hz1,hz2⟩
 ·go_wp2
  go_ret
  exact ⟨⟨-1,rfl,.inl rfl⟩,hw⟩
 ·have HZ:Hid (z+(n:Int)=left∧True):=⟨hz2,trivial⟩
  clear hz2
  go_wp2
  go_ret
  exact ⟨⟨z,rfl,.inr ⟨hz0,hz1,HZ.out.1⟩⟩,hw⟩

set_option maxHeartbeats 1600000 in
theorem szRaw_left (sa pa:Option Addr) (sc pc:Nat) (ss ps:List El) (w:World) (hb:RawI w sa pa ss ps) (hm1:ss.length≤maxLen) (hm2:ps.length≤maxLen) :
  Calls Tryz.prog 40 #[.agg #[.slice sa ss.length sc,.slice pa ps.length pc],.int .i64 1048576] w fun e w'=>(∃ z:Int,e=.returned (.int .i64 z)∧(z=-1∨(0≤z∧z≤1048576∧z+ss.length+elets ss+ps.length+elets ps=1048576)))∧Below w.heap.size w w':=by
 have HB:Hid (RawI w sa pa ss ps):=hb
 have HM:Hid (ss.length≤maxLen∧ps.length≤maxLen):=⟨hm1,hm2⟩
 unfold maxLen at hm1 hm2
 clear hb
 go_enter Tryz.func40,Tryz.ntmps40
 go_wp2_with fail
 have hw:Below w.heap.size w (w.alloc (Obj.cells #[Value.slice sa ss.length sc,Value.slice pa ps.length pc] 25)):=(Below.refl _ _).alloc (Nat.le_refl _) _
 refine (szByteSS_any sa sc ss 1048576 _ (HB.out.1.below hw (Nat.le_refl _)) HM.out.1 (by omega) (by omega)).mono ?_
 rintro e w1 ⟨⟨z,rfl,hz⟩,rfl⟩
 rcases hz with rfl | ⟨hz0,hz1,hz2⟩
 ·go_wp2
  go_ret
  exact ⟨⟨-1,rfl,.inl rfl⟩,hw⟩
 ·have HZ:Hid (z+(ss.length:Int)+elets ss=1048576∧True):=⟨hz2,trivial⟩
  clear hz2
  go_wp2_with fail
  refine (szPendS_any pa pc ps z _ (HB.out.2.below hw (Nat.le_refl _)) HM.out.2 hz0 hz1).mono ?_
  rintro e w2 ⟨⟨y,rfl,hy⟩,hb2⟩
  have HB2:Hid (Below w.heap.size w w2):=hw.trans (hb2.mono (by simp))
  clear hw hb2
  rcases hy with rfl | ⟨hy0,hy1,hy2⟩
  ·go_wp2
   go_ret
   exact ⟨⟨-1,rfl,.inl rfl⟩,HB2.out⟩
  ·have HF:Hid (y≤1048576∧y+(ss.length:Int)+elets ss+ps.length+elets ps=1048576):=by
    have:=HZ.out.1
    exact ⟨by omega,by omega⟩
   clear hy2 HZ
   go_wp2
   go_ret
   exact ⟨⟨y,rfl,.inr ⟨hy0,HF.out⟩⟩,HB2.out⟩

set_option maxRecDepth 20000 in
set_option maxHeartbeats 4000000 in
theorem szDisk_any (d:DkV) (w:World) (hb:DkI w d) (hm:DkM d) :
  Calls Tryz.prog 10 #[.agg #[Value.slice d.sa d.ss.length d.sc,Value.slice d.pa d.ps.length d.pc,Value.int IntKind.i64 d.E,Value.int IntKind.i64 d.O,Value.slice d.ma d.ms.length d.mc,Value.slice d.va d.vs.length d.vc,Value.slice d.ca d.cs.length d.cc,Value.int IntKind.i64 d.F,Value.int IntKind.i64 d.G,Value.slice d.oa d.os.length d.oc],.int .i64 1048576] w fun e w'=>(∃ z:Int,e=.returned (.int .i64 z)∧(z=-1∨(0≤z∧DkF d)))∧Below w.heap.size w w':=by
 have hw:Below w.heap.size w (w.alloc (Obj.cells #[Value.slice d.sa d.ss.length d.sc,Value.slice d.pa d.ps.length d.pc,Value.int IntKind.i64 d.E,Value.int IntKind.i64 d.O,Value.slice d.ma d.ms.length d.mc,Value.slice d.va d.vs.length d.vc,Value.slice d.ca d.cs.length d.cc,Value.int IntKind.i64 d.F,Value.int IntKind.i64 d.G,Value.slice d.oa d.os.length d.oc] 34)):=(Below.refl _ _).alloc (Nat.le_refl _) _
 have hx:=Dk10.new w d 34
 have H1:=szRaw_left d.sa d.pa d.sc d.pc d.ss d.ps _ (hb.raw.below hw (Nat.le_refl _)) hm.ss hm.ps
 have HB:Hid (DkI w d∧DkM d):=⟨hb,hm⟩
 clear hb hm
 go_enter Tryz.func10,Tryz.ntmps10
 go_wp2_with fail
 generalize w.alloc (Obj.cells #[Value.slice d.sa d.ss.length d.sc,Value.slice d.pa d.ps.length d.pc,Value.int IntKind.i64 d.E,Value.int IntKind.i64 d.O,Value.slice d.ma d.ms.length d.mc,Value.slice d.va d.vs.length d.vc,Value.slice d.ca d.cs.length d.cc,Value.int IntKind.i64 d.F,Value.int IntKind.i64 d.G,Value.slice d.oa d.os.length d.oc] 34)=W0 at *
 refine H1.mono ?_
 clear H1
 rintro e w1 ⟨⟨z1,rfl,hz1⟩,hb1⟩
 have HW1:Hid (Below w.heap.size w w1):=hw.trans (hb1.mono hw.size)
 have hx1:=hx.step hb1
 clear hb1 hw hx
 rcases hz1 with rfl | hz1
 ·go_wp2
  go_ret
  exact ⟨⟨-1,rfl,.inl rfl⟩,HW1.out⟩
 have hzn1:¬z1<0:=by omega
 obtain ⟨x0,x1,x2,x3,x4,x5,x6,x7,x8,x9,xl⟩:=id hx1
 have H2:=szMap_left d.ma d.ms.length d.mc z1 w1 HB.out.2.ms hz1.1 (by omega)
 go_wp2_with fail
 refine H2.mono ?_
 clear H2
 rintro e w2 ⟨⟨z2,rfl,hz2⟩,hb2⟩
 have HW2:Hid (Below w.heap.size w w2):=HW1.out.trans (hb2.mono HW1.out.size)
 have hx2:=hx1.step hb2
 clear hb2 HW1 hx1
 clear x0 x1 x2 x3 x4 x5 x6 x7 x8 x9 xl
 rcases hz2 with rfl | hz2
 ·go_wp2
  go_ret
  exact ⟨⟨-1,rfl,.inl rfl⟩,HW2.out⟩
 have hzn2:¬z2<0:=by omega
 obtain ⟨x0,x1,x2,x3,x4,x5,x6,x7,x8,x9,xl⟩:=id hx2
 have H3:=szMap_left d.va d.vs.length d.vc z2 w2 HB.out.2.vs hz2.1 (by omega)
 go_wp2_with fail
 refine H3.mono ?_
 clear H3
 rintro e w3 ⟨⟨z3,rfl,hz3⟩,hb3⟩
 have HW3:Hid (Below w.heap.size w w3):=HW2.out.trans (hb3.mono HW2.out.size)
 have hx3:=hx2.step hb3
 clear hb3 HW2 hx2
 clear x0 x1 x2 x3 x4 x5 x6 x7 x8 x9 xl
 rcases hz3 with rfl | hz3
 ·go_wp2
  go_ret
  exact ⟨⟨-1,rfl,.inl rfl⟩,HW3.out⟩
 have hzn3:¬z3<0:=by omega
 obtain ⟨x0,x1,x2,x3,x4,x5,x6,x7,x8,x9,xl⟩:=id hx3
 have H4:=szIntS_left d.ca d.cs.length d.cc z3 w3 HB.out.2.cs hz3.1 (by omega)
 go_wp2_with fail
 refine H4.mono ?_
 clear H4
 rintro e w4 ⟨⟨z4,rfl,hz4⟩,rfl⟩
 rcases hz4 with rfl | hz4
 ·go_wp2
  go_ret
  exact ⟨⟨-1,rfl,.inl rfl⟩,HW3.out⟩
 have hzn4:¬z4<0:=by omega
 have H5:=szPack_any d.F d.G d.oa d.oc d.os _ (HB.out.1.opn.below HW3.out (Nat.le_refl _)) HB.out.2.os z4 hz4.1 (by omega)
 go_wp2_with fail
 refine H5.mono ?_
 clear H5
 rintro e w5 ⟨⟨z5,rfl,hz5⟩,hb5⟩
 have HW5:Hid (Below w.heap.size w w5):=HW3.out.trans (hb5.mono HW3.out.size)
 have hx5:=hx3.step hb5
 clear hb5 HW3 hx3
 clear x0 x1 x2 x3 x4 x5 x6 x7 x8 x9 xl
 rcases hz5 with rfl | hz5
 ·go_wp2
  go_ret
  exact ⟨⟨-1,rfl,.inl rfl⟩,HW5.out⟩
 have hzn5:¬z5<0:=by omega
 have HF:Hid (DkF d):=DkF.mk' (by unfold dkN;omega)
 have h50:=hz5.1
 clear hz1 hz2 hz3 hz4 hz5
 go_wp2
 go_ret
 exact ⟨⟨z5,rfl,.inr ⟨h50,HF.out⟩⟩,HW5.out⟩
end Go.Proofs.YtaibkchbkedjnaaGreatDoor
