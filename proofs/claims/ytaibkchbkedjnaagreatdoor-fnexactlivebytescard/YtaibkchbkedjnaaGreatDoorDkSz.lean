/- Lemmas on the way. -/
import Derived.Test.YtaibkchbkedjnaaGreatDoorPlP
import Derived.Test.YtaibkchbkedjnaaGreatDoorBox2
import Derived.Deep.RegionHeld3
import Derived.Test.YtaibkchbkedjnaaGreatDoorNum
set_option maxRecDepth 20000
set_option maxHeartbeats 16000000
namespace Go.Proofs.YtaibkchbkedjnaaGreatDoor
open Go.RowKit
set_option linter.unusedVariables false
theorem below_dE {w W:World} {B:Nat} (h:Below B w W) (n:Nat):Below B w (W.drewN n):=⟨h.os,h.tape,h.output,h.size,h.block⟩
theorem eqByteSS_yes (a b:Option Addr) (ca cb:Nat) (ss ts:List El) (w:World) (ha:Els false w a ss) (hb:Els false w b ts) (hct:ss.map El.ct=ts.map El.ct) (hx:ss.length≤281474976710656) (hxl:∀ s ∈ ss,s.ls.length≤281474976710656) :
  Calls Tryz.prog 29 #[.slice a ss.length ca,.slice b ss.length cb] w fun e w'=>e=.returned (.bool true)∧Below w.heap.size w w':=by
 have htl:ts.length=ss.length:=by have:=congrArg List.length hct;simpa using this.symm
 have HA:Hid (Els false w a ss):=ha
 have HB:Hid (Els false w b ts):=hb
 have HCT:Hid (ss.map El.ct=ts.map El.ct∧ts.length=ss.length):=⟨hct,htl⟩
 have HXL:Hid (∀ s ∈ ss,s.ls.length≤281474976710656):=hxl
 clear ha hb hct htl hxl
 generalize hlen:ss.length=n at *
 have HL:Hid (ss.length=n∧True):=⟨hlen,trivial⟩
 clear hlen
 have hnn:((n:Int) != (n:Int))=false:=by simp
 go_enter Tryz.func29,Tryz.ntmps29
 go_wp2
 go_loopw [5] (fun i wr=>∃ k:Nat,k≤n∧i=.int .i64 k∧Below w.heap.size w wr) (fun i _=>n-(intOf i).toNat)
 case atStart=>exact ⟨0,Nat.zero_le _,rfl,Below.refl _ _⟩
 case round=>
  obtain ⟨k,hk,rfl,hbel⟩:=hrel
  by_cases hlt:k<n
  ·obtain ⟨b1,o1,rfl,hb1,c0,hy1,-⟩:=(HA.out.below hbel nl).sec k (by rw [HL.out.1];exact hlt)
   obtain ⟨b2,o2,rfl,hb2,d0,hy2,-⟩:=(HB.out.below hbel nl).sec k (by rw [HCT.out.2];exact hlt)
   have hml:=HXL.out _ (getD_memE (k:=k) (by rw [HL.out.1];exact hlt))
   have hce:=ctE_get HCT.out.1 k
   generalize ss.getD k de=s at *
   generalize ts.getD k de=t at *
   obtain ⟨sn,sa,sc,sl⟩:=s
   obtain ⟨tn,ta,tc,tl⟩:=t
   simp only [El.ct,Prod.mk.injEq] at hce
   obtain ⟨rfl,rfl⟩:=hce
   simp only at c0 d0 hy1 hy2 hml
   have HY1:Hid (Byt wr sa sl):=hy1
   have HY2:Hid (Byt wr ta sl):=hy2
   have HML:Hid (sl.length≤281474976710656):=hml
   have HC:Hid (wr.cell? ⟨b1,o1+k,none⟩=some (.slice sa sl.length sc)∧wr.cell? ⟨b2,o2+k,none⟩=some (.slice ta sl.length tc)):=⟨c0,d0⟩
   clear hy1 hy2 hml c0 d0
   go_wp2_with fail
   go_region_held3 (fun W=>W.cell? ⟨b1,o1+k,none⟩=some (.slice sa sl.length sc)∧W.cell? ⟨b2,o2+k,none⟩=some (.slice ta sl.length tc))
    (first | exact HC.out | exact HC8.out)
    (first
     | (go_at_call 14;refine (eqByteS_yes sa ta sc tc sl _ (by exact HY1.out) (by exact HY2.out) HML.out).mono ?_;rintro e w8 ⟨rfl,n8,hw8⟩;have HB8:Hid (Below w.heap.size w w8):=(by rw [hw8];exact below_dE (below_dE hbel 1) n8);have HC8:Hid (w8.cell? ⟨b1,o1+k,none⟩=some (.slice sa sl.length sc)∧w8.cell? ⟨b2,o2+k,none⟩=some (.slice ta sl.length tc)):=(by rw [hw8];exact HC.out);clear hw8))
   clear HC HC8
   go_wp2
   go_roundw
   case rel=>exact ⟨k+1,by omega,by go_num,HB8.out⟩
   case measure=>simp [intOf];omega
  ·have hkn:k=n:=by omega
   subst hkn
   go_wp2
   go_ret
   exact ⟨rfl,hbel⟩
theorem eqPend_yes (a b:Option Addr) (ca cb:Nat) (xs:List Int) (n:Int) (w:World) (ha:Byt w a xs) (hb:Byt w b xs) (hx:xs.length≤281474976710656) :
  Calls Tryz.prog 106 #[.agg #[.int .i64 n,.slice a xs.length ca],.agg #[.int .i64 n,.slice b xs.length cb]] w fun e w'=>e=.returned (.bool true)∧Below w.heap.size w w':=by
 have hw:Below w.heap.size w ((w.alloc (Obj.cells #[.int .i64 n,.slice a xs.length ca] 141)).alloc (Obj.cells #[.int .i64 n,.slice b xs.length cb] 141)):=((Below.refl _ _).alloc nl _).alloc (by simp) _
 have hnn:(n != n)=false:=by simp
 go_enter Tryz.func106,Tryz.ntmps106
 go_wp2_with fail
 refine (eqByteS_yes a b ca cb xs _ (ha.below hw nl) (hb.below hw nl) hx).mono ?_
 rintro e w1 ⟨rfl,nq,rfl⟩
 go_wp2
 go_ret
 exact ⟨rfl,below_dE hw _⟩
theorem eqPendS_yes (a b:Option Addr) (ca cb:Nat) (ss ts:List El) (w:World) (ha:Els true w a ss) (hb:Els true w b ts) (hct:ss.map El.ct=ts.map El.ct) (hx:ss.length≤281474976710656) (hxl:∀ s ∈ ss,s.ls.length≤281474976710656) :
  Calls Tryz.prog 63 #[.slice a ss.length ca,.slice b ss.length cb] w fun e w'=>e=.returned (.bool true)∧Below w.heap.size w w':=by
 have htl:ts.length=ss.length:=by have:=congrArg List.length hct;simpa using this.symm
 have HA:Hid (Els true w a ss):=ha
 have HB:Hid (Els true w b ts):=hb
 have HCT:Hid (ss.map El.ct=ts.map El.ct∧ts.length=ss.length):=⟨hct,htl⟩
 have HXL:Hid (∀ s ∈ ss,s.ls.length≤281474976710656):=hxl
 clear ha hb hct htl hxl
 generalize hlen:ss.length=n at *
 have HL:Hid (ss.length=n∧True):=⟨hlen,trivial⟩
 clear hlen
 have hnn:((n:Int) != (n:Int))=false:=by simp
 go_enter Tryz.func63,Tryz.ntmps63
 go_wp2
 go_loopw [5] (fun i wr=>∃ k:Nat,k≤n∧i=.int .i64 k∧Below w.heap.size w wr) (fun i _=>n-(intOf i).toNat)
 case atStart=>exact ⟨0,Nat.zero_le _,rfl,Below.refl _ _⟩
 case round=>
  obtain ⟨k,hk,rfl,hbel⟩:=hrel
  by_cases hlt:k<n
  ·obtain ⟨b1,o1,rfl,hb1,c0,c1,hy1,-⟩:=(HA.out.below hbel nl).pen k (by rw [HL.out.1];exact hlt)
   obtain ⟨b2,o2,rfl,hb2,d0,d1,hy2,-⟩:=(HB.out.below hbel nl).pen k (by rw [HCT.out.2];exact hlt)
   have hml:=HXL.out _ (getD_memE (k:=k) (by rw [HL.out.1];exact hlt))
   have hce:=ctE_get HCT.out.1 k
   generalize ss.getD k de=s at *
   generalize ts.getD k de=t at *
   obtain ⟨sn,sa,sc,sl⟩:=s
   obtain ⟨tn,ta,tc,tl⟩:=t
   simp only [El.ct,Prod.mk.injEq] at hce
   obtain ⟨rfl,rfl⟩:=hce
   simp only at c0 c1 d0 d1 hy1 hy2 hml
   have HY1:Hid (Byt wr sa sl):=hy1
   have HY2:Hid (Byt wr ta sl):=hy2
   have HML:Hid (sl.length≤281474976710656):=hml
   have HC:Hid (wr.cell? ⟨b1,o1+k*2,none⟩=some (.int .i64 sn)∧wr.cell? ⟨b1,o1+k*2+1,none⟩=some (.slice sa sl.length sc)∧wr.cell? ⟨b2,o2+k*2,none⟩=some (.int .i64 sn)∧wr.cell? ⟨b2,o2+k*2+1,none⟩=some (.slice ta sl.length tc)):=⟨c0,c1,d0,d1⟩
   clear hy1 hy2 hml c0 c1 d0 d1
   go_wp2_with fail
   go_region_held3 (fun W=>W.cell? ⟨b1,o1+k*2,none⟩=some (.int .i64 sn)∧W.cell? ⟨b1,o1+k*2+1,none⟩=some (.slice sa sl.length sc)∧W.cell? ⟨b2,o2+k*2,none⟩=some (.int .i64 sn)∧W.cell? ⟨b2,o2+k*2+1,none⟩=some (.slice ta sl.length tc))
    (first | exact HC.out | exact HC8.out)
    (first
     | (go_at_call 106;refine (eqPend_yes sa ta sc tc sl sn _ (by exact HY1.out) (by exact HY2.out) HML.out).mono ?_;rintro e w8 ⟨rfl,hb8'⟩;have HB8:Hid (Below w.heap.size w w8):=hbel.trans ((Below.drewS hb8').mono hbel.size);have HC8:Hid (w8.cell? ⟨b1,o1+k*2,none⟩=some (.int .i64 sn)∧w8.cell? ⟨b1,o1+k*2+1,none⟩=some (.slice sa sl.length sc)∧w8.cell? ⟨b2,o2+k*2,none⟩=some (.int .i64 sn)∧w8.cell? ⟨b2,o2+k*2+1,none⟩=some (.slice ta sl.length tc)):=⟨keep (Below.drewS hb8') hb1 HC.out.1,keep (Below.drewS hb8') hb1 HC.out.2.1,keep (Below.drewS hb8') hb2 HC.out.2.2.1,keep (Below.drewS hb8') hb2 HC.out.2.2.2⟩;clear hb8'))
   clear HC HC8
   go_wp2
   go_roundw
   case rel=>exact ⟨k+1,by omega,by go_num,HB8.out⟩
   case measure=>simp [intOf];omega
  ·have hkn:k=n:=by omega
   subst hkn
   go_wp2
   go_ret
   exact ⟨rfl,hbel⟩
theorem eqRaw_yes (sa pa ta qa:Option Addr) (sc pc tc qc:Nat) (ss ps ts qs:List El) (w:World) (ha:RawI w sa pa ss ps) (hb:RawI w ta qa ts qs) (h1:ss.map El.ct=ts.map El.ct) (h2:ps.map El.ct=qs.map El.ct) (hx:Few ss ps) :
  Calls Tryz.prog 22 #[.agg #[.slice sa ss.length sc,.slice pa ps.length pc],.agg #[.slice ta ss.length tc,.slice qa ps.length qc]] w fun e w'=>e=.returned (.bool true)∧Below w.heap.size w w':=by
 have HA:Hid (RawI w sa pa ss ps∧RawI w ta qa ts qs):=⟨ha,hb⟩
 have HC:Hid (ss.map El.ct=ts.map El.ct∧ps.map El.ct=qs.map El.ct):=⟨h1,h2⟩
 have HX:Hid (Few ss ps):=hx
 clear ha hb h1 h2 hx
 go_enter Tryz.func22,Tryz.ntmps22
 have hw:Below w.heap.size w ((w.alloc (Obj.cells #[.slice sa ss.length sc,.slice pa ps.length pc] 41)).alloc (Obj.cells #[.slice ta ss.length tc,.slice qa ps.length qc] 41)):=((Below.refl _ _).alloc nl _).alloc (by simp) _
 have hx0:Box2 ((w.alloc (Obj.cells #[.slice sa ss.length sc,.slice pa ps.length pc] 41)).alloc (Obj.cells #[.slice ta ss.length tc,.slice qa ps.length qc] 41)) w.heap.size (.slice sa ss.length sc) (.slice pa ps.length pc):=(Box2.new w _ _ 41).alloc _
 have hx1:Box2 ((w.alloc (Obj.cells #[.slice sa ss.length sc,.slice pa ps.length pc] 41)).alloc (Obj.cells #[.slice ta ss.length tc,.slice qa ps.length qc] 41)) (w.heap.size+1) (.slice ta ss.length tc) (.slice qa ps.length qc):=by
  have h9:=Box2.new (w.alloc (Obj.cells #[.slice sa ss.length sc,.slice pa ps.length pc] 41)) (.slice ta ss.length tc) (.slice qa ps.length qc) 41
  simpa using h9
 go_wp2_with fail
 have hsz:w.heap.size+1+1=((w.alloc (Obj.cells #[.slice sa ss.length sc,.slice pa ps.length pc] 41)).alloc (Obj.cells #[.slice ta ss.length tc,.slice qa ps.length qc] 41)).heap.size:=by simp
 generalize (w.alloc (Obj.cells #[.slice sa ss.length sc,.slice pa ps.length pc] 41)).alloc (Obj.cells #[.slice ta ss.length tc,.slice qa ps.length qc] 41)=W at *
 refine (eqByteSS_yes sa ta sc tc ss ts W (HA.out.1.1.below hw nl) (HA.out.2.1.below hw nl) HC.out.1 (by have:=HX.out.n;omega) (fun s hs=>by have:=HX.out.l s hs;omega)).mono ?_
 rintro e w1 ⟨rfl,hb1⟩
 have hy0:=hx0.keep hb1 hx0.lt
 have hy1:=hx1.keep hb1 hx1.lt
 have HB1:Hid (Below w.heap.size w w1):=hw.trans (hb1.mono hw.size)
 clear hb1 hw hx0 hx1 hsz
 obtain ⟨r0,r1,-,-,rl⟩:=hy0
 obtain ⟨s0,s1,-,-,sl⟩:=hy1
 go_wp2_with fail
 refine (eqPendS_yes pa qa pc qc ps qs w1 (HA.out.1.2.below HB1.out nl) (HA.out.2.2.below HB1.out nl) HC.out.2 (by have:=HX.out.m;omega) (fun s hs=>by have:=HX.out.p s hs;omega)).mono ?_
 rintro e w2 ⟨rfl,hb2⟩
 have HB2:Hid (Below w.heap.size w w2):=HB1.out.trans (hb2.mono HB1.out.size)
 clear hb2
 go_wp2
 go_ret
 exact ⟨rfl,HB2.out⟩
theorem eqPlace_yes (x y:Int) (w:World) :
  Calls Tryz.prog 143 #[.agg #[.int .i64 x,.int .i64 y],.agg #[.int .i64 x,.int .i64 y]] w fun e w'=>e=.returned (.bool true)∧Below w.heap.size w w':=by
 have hw:Below w.heap.size w ((w.alloc (Obj.cells #[.int .i64 x,.int .i64 y] 127)).alloc (Obj.cells #[.int .i64 x,.int .i64 y] 127)):=
  ((Below.refl _ _).alloc nl _).alloc (by simp) _
 have h1:(x != x)=false:=by simp
 have h2:(y != y)=false:=by simp
 go_enter Tryz.func143,Tryz.ntmps143
 go_wp2
 go_ret
 exact ⟨rfl,hw⟩
theorem eqPlaceS_yes (a b:Option Addr) (ca cb:Nat) (ps:List (Int × Int)) (w:World) (ha:Pls w a ps) (hb:Pls w b ps) (hx:ps.length≤1048576) :
  Calls Tryz.prog 99 #[.slice a ps.length ca,.slice b ps.length cb] w fun e w'=>e=.returned (.bool true)∧Below w.heap.size w w':=by
 have HA:Hid (Pls w a ps):=ha
 have HB:Hid (Pls w b ps):=hb
 clear ha hb
 generalize hlen:ps.length=n at *
 have HL:Hid (ps.length=n∧True):=⟨hlen,trivial⟩
 clear hlen
 have hnn:((n:Int) != (n:Int))=false:=by simp
 go_enter Tryz.func99,Tryz.ntmps99
 go_wp2
 go_loopw [5] (fun i wr=>∃ k:Nat,k≤n∧i=.int .i64 k∧Below w.heap.size w wr) (fun i _=>n-(intOf i).toNat)
 case atStart=>exact ⟨0,Nat.zero_le _,rfl,Below.refl _ _⟩
 case round=>
  obtain ⟨k,hk,rfl,hbel⟩:=hrel
  by_cases hlt:k<n
  ·obtain ⟨b1,o1,rfl,hb1,hc1⟩:=(HA.out.below hbel nl).len_pos k (by rw [HL.out.1];exact hlt)
   obtain ⟨b2,o2,rfl,hb2,hc2⟩:=(HB.out.below hbel nl).len_pos k (by rw [HL.out.1];exact hlt)
   obtain ⟨c0,c1⟩:=hc1 k (by rw [HL.out.1];exact hlt)
   obtain ⟨d0,d1⟩:=hc2 k (by rw [HL.out.1];exact hlt)
   clear hc1 hc2
   generalize ps.getD k dp=p at *
   obtain ⟨x,y⟩:=p
   simp only at c0 c1 d0 d1
   have HC:Hid (wr.cell? ⟨b1,o1+k*2,none⟩=some (.int .i64 x)∧wr.cell? ⟨b1,o1+k*2+1,none⟩=some (.int .i64 y)∧wr.cell? ⟨b2,o2+k*2,none⟩=some (.int .i64 x)∧wr.cell? ⟨b2,o2+k*2+1,none⟩=some (.int .i64 y)):=⟨c0,c1,d0,d1⟩
   clear c0 c1 d0 d1
   go_wp2_with fail
   go_region_held3 (fun W=>W.cell? ⟨b1,o1+k*2,none⟩=some (.int .i64 x)∧W.cell? ⟨b1,o1+k*2+1,none⟩=some (.int .i64 y)∧W.cell? ⟨b2,o2+k*2,none⟩=some (.int .i64 x)∧W.cell? ⟨b2,o2+k*2+1,none⟩=some (.int .i64 y))
    (first | exact HC.out | exact HC8.out)
    (first
     | (go_at_call 143;refine (eqPlace_yes x y _).mono ?_;rintro e w8 ⟨rfl,hb8'⟩;have HB8:Hid (Below w.heap.size w w8):=hbel.trans ((Below.drewS hb8').mono hbel.size);have HC8:Hid (w8.cell? ⟨b1,o1+k*2,none⟩=some (.int .i64 x)∧w8.cell? ⟨b1,o1+k*2+1,none⟩=some (.int .i64 y)∧w8.cell? ⟨b2,o2+k*2,none⟩=some (.int .i64 x)∧w8.cell? ⟨b2,o2+k*2+1,none⟩=some (.int .i64 y)):=⟨keep (Below.drewS hb8') hb1 HC.out.1,keep (Below.drewS hb8') hb1 HC.out.2.1,keep (Below.drewS hb8') hb2 HC.out.2.2.1,keep (Below.drewS hb8') hb2 HC.out.2.2.2⟩))
   clear HC HC8
   go_wp2
   go_roundw
   case rel=>exact ⟨k+1,by omega,by go_num,HB8.out⟩
   case measure=>simp [intOf];omega
  ·have hkn:k=n:=by omega
   subst hkn
   go_wp2
   go_ret
   exact ⟨rfl,hbel⟩
theorem eqMap_yes (a b:Option Addr) (ca cb:Nat) (ps:List (Int × Int)) (w:World) (ha:Pls w a ps) (hb:Pls w b ps) (hx:ps.length≤1048576) :
  Calls Tryz.prog 55 #[.agg #[.slice a ps.length ca],.agg #[.slice b ps.length cb]] w fun e w'=>e=.returned (.bool true)∧Below w.heap.size w w':=by
 have hw:Below w.heap.size w ((w.alloc (Obj.cells #[.slice a ps.length ca] 44)).alloc (Obj.cells #[.slice b ps.length cb] 44)):=
  ((Below.refl _ _).alloc nl _).alloc (by simp) _
 go_enter Tryz.func55,Tryz.ntmps55
 go_wp2_with fail
 refine (eqPlaceS_yes a b ca cb ps _ (ha.below hw nl) (hb.below hw nl) hx).mono ?_
 rintro e w1 ⟨rfl,hb1⟩
 go_wp2
 go_ret
 exact ⟨rfl,hw.trans (hb1.mono (by simp;omega))⟩
theorem eqIntS_any (a b:Option Addr) (ca cb:Nat) (xs ys:List Int) (w:World) (ha:Ins w a xs) (hb:Ins w b ys) (hx:xs.length≤281474976710656) (hy:ys.length≤281474976710656) :
  Calls Tryz.prog 56 #[.slice a xs.length ca,.slice b ys.length cb] w fun e w'=>e=.returned (.bool (decide (xs=ys)))∧∃ n,w'=w.drewN n:=by
 by_cases hl:xs.length=ys.length
 ·generalize hlx:xs.length=n at *
  have HX:Hid (xs.length=n):=hlx
  have HY:Hid (ys.length=n):=hl.symm
  rw [←hl]
  have hnn:((n:Int) != (n:Int))=false:=by simp
  clear hlx hl hy
  go_enter Tryz.func56,Tryz.ntmps56
  go_wp2
  go_loopw [5] (fun i wr=>∃ k m:Nat,k≤n∧i=.int .i64 k∧wr=w.drewN m∧xs.take k=ys.take k) (fun i _=>n-(intOf i).toNat)
  case atStart=>exact ⟨0,0,Nat.zero_le _,rfl,rfl,by simp⟩
  case round=>
   obtain ⟨k,m,hk,rfl,rfl,htk⟩:=hrel
   have HT:Hid (xs.take k=ys.take k):=htk
   clear htk
   by_cases hlt:k<n
   ·obtain ⟨b1,o1,rfl,hb1,hc1⟩:=ha.len_pos k (by rw [HX.out];exact hlt)
    obtain ⟨b2,o2,rfl,hb2,hc2⟩:=hb.len_pos k (by rw [HY.out];exact hlt)
    have hs1:=hc1 k (by rw [HX.out];exact hlt)
    have hs2:=hc2 k (by rw [HY.out];exact hlt)
    have g1:=getD_rngI ha.1 k
    have g2:=getD_rngI hb.1 k
    clear hc1 hc2 ha hb
    generalize hx1:xs.getD k 0=x1 at *
    generalize hy1:ys.getD k 0=y1 at *
    have HX1:Hid (xs.getD k 0=x1):=hx1
    have HY1:Hid (ys.getD k 0=y1):=hy1
    clear hx1 hy1
    by_cases hxy:x1=y1
    ·subst hxy
     have hq:(x1 != x1)=false:=by simp
     have HT':Hid (xs.take (k+1)=ys.take (k+1)):=take_eq_succ HT.out (by rw [HX.out];exact hlt) (by rw [HY.out];exact hlt) (by rw [HX1.out,HY1.out])
     go_wp2
     go_quiet (fail)
     go_wp2
     go_roundw
     case rel=>exact ⟨k+1,_,by omega,by go_num,rfl,HT'.out⟩
     case measure=>simp [intOf];omega
    ·have hq:(x1 != y1)=true:=by rw [bne_iff_ne];exact hxy
     have HN:Hid (decide (xs=ys)=false):=by
      have:xs≠ys:=ne_of_getD (k:=k) (by rw [HX1.out,HY1.out];exact hxy)
      simpa [Hid] using this
     clear hxy
     go_wp2
     go_quiet (fail)
     go_wp2
     go_ret
     exact ⟨by rw [HN.out];rfl,_,World.drewN_drewN ..⟩
   ·have HE:Hid (decide (xs=ys)=true):=by
     have h1:=HT.out
     rw [List.take_of_length_le (by rw [HX.out];omega),List.take_of_length_le (by rw [HY.out];omega)] at h1
     simpa [Hid] using h1
    go_wp2
    go_ret
    exact ⟨by rw [HE.out];rfl,_,rfl⟩
 ·have hne:decide (xs=ys)=false:=by simp;intro h;exact hl (by rw [h])
  have hl':((xs.length:Int) != (ys.length:Int))=true:=by rw [bne_iff_ne];omega
  rw [hne]
  go_enter Tryz.func56,Tryz.ntmps56
  go_wp2
  go_ret
  exact ⟨rfl,0,rfl⟩
theorem eqIntS_yes (a b:Option Addr) (ca cb:Nat) (xs:List Int) (w:World) (ha:Ins w a xs) (hb:Ins w b xs) (hx:xs.length≤281474976710656) :
  Calls Tryz.prog 56 #[.slice a xs.length ca,.slice b xs.length cb] w fun e w'=>e=.returned (.bool true)∧∃ n,w'=w.drewN n:=by
 refine (eqIntS_any a b ca cb xs xs w ha hb hx hx).mono ?_
 rintro e w' ⟨rfl,h⟩
 exact ⟨by simp,h⟩
set_option linter.unusedSimpArgs false
theorem eqRaw_ct (sa pa ta qa:Option Addr) (sc pc tc qc:Nat) (ss ps ts qs:List El) (w:World) (ha:RawI w sa pa ss ps) (hb:RawI w ta qa ts qs) (h1:ss.map El.ct=ts.map El.ct) (h2:ps.map El.ct=qs.map El.ct) (hx:Few ss ps) :
  Calls Tryz.prog 22 #[.agg #[.slice sa ss.length sc,.slice pa ps.length pc],.agg #[.slice ta ts.length tc,.slice qa qs.length qc]] w fun e w'=>e=.returned (.bool true)∧Below w.heap.size w w':=by
 rw [←len_ctE h1,←len_ctE h2]
 exact eqRaw_yes sa pa ta qa sc pc tc qc ss ps ts qs w ha hb h1 h2 hx
theorem eqPack_ct (E O E' O':Int) (a b:Option Addr) (ca cb:Nat) (ss ts:List El) (w:World) (ha:Els true w a ss) (hb:Els true w b ts) (hct:ss.map El.ct=ts.map El.ct) (hx:FewI ss) (hE:E=E') (hO:O=O') :
  Calls Tryz.prog 57 #[.agg #[.int .i64 E,.int .i64 O,.slice a ss.length ca],.agg #[.int .i64 E',.int .i64 O',.slice b ts.length cb]] w fun e w'=>e=.returned (.bool true)∧Below w.heap.size w w':=by
 subst hE hO
 rw [←len_ctE hct]
 exact eqPack_yes E O a b ca cb ss ts w ha hb hct hx
theorem eqMap_eq (a b:Option Addr) (ca cb:Nat) (ps qs:List (Int × Int)) (w:World) (ha:Pls w a ps) (hb:Pls w b qs) (h:ps=qs) (hx:ps.length≤1048576) :
  Calls Tryz.prog 55 #[.agg #[.slice a ps.length ca],.agg #[.slice b qs.length cb]] w fun e w'=>e=.returned (.bool true)∧Below w.heap.size w w':=by
 subst h
 exact eqMap_yes a b ca cb ps w ha hb hx
theorem eqIntS_eq (a b:Option Addr) (ca cb:Nat) (xs ys:List Int) (w:World) (ha:Ins w a xs) (hb:Ins w b ys) (h:xs=ys) (hx:xs.length≤1048576) :
  Calls Tryz.prog 56 #[.slice a xs.length ca,.slice b ys.length cb] w fun e w'=>e=.returned (.bool true)∧Below w.heap.size w w':=by
 subst h
 refine (eqIntS_yes a b ca cb xs w ha hb (by omega)).mono ?_
 rintro e w1 ⟨rfl,n,rfl⟩
 exact ⟨rfl,⟨rfl,rfl,rfl,Nat.le_refl _,fun _ _=>rfl⟩⟩
theorem eqDisk_yes (d e:DkV) (w:World) (hd:DkI w d) (he:DkI w e) (hs:DkS d e) (hf:DkF d) :
  Calls Tryz.prog 15 #[.agg #[.slice d.sa d.ss.length d.sc,.slice d.pa d.ps.length d.pc,.int .i64 d.E,.int .i64 d.O,.slice d.ma d.ms.length d.mc,.slice d.va d.vs.length d.vc,.slice d.ca d.cs.length d.cc,.int .i64 d.F,.int .i64 d.G,.slice d.oa d.os.length d.oc],.agg #[.slice e.sa e.ss.length e.sc,.slice e.pa e.ps.length e.pc,.int .i64 e.E,.int .i64 e.O,.slice e.ma e.ms.length e.mc,.slice e.va e.vs.length e.vc,.slice e.ca e.cs.length e.cc,.int .i64 e.F,.int .i64 e.G,.slice e.oa e.os.length e.oc]] w fun r w'=>r=.returned (.bool true)∧Below w.heap.size w w':=by
 have hw0:Below w.heap.size w (w.alloc (Obj.cells #[.slice d.sa d.ss.length d.sc,.slice d.pa d.ps.length d.pc,.int .i64 d.E,.int .i64 d.O,.slice d.ma d.ms.length d.mc,.slice d.va d.vs.length d.vc,.slice d.ca d.cs.length d.cc,.int .i64 d.F,.int .i64 d.G,.slice d.oa d.os.length d.oc] 49)):=ba
 have hw:Below w.heap.size w ((w.alloc (Obj.cells #[.slice d.sa d.ss.length d.sc,.slice d.pa d.ps.length d.pc,.int .i64 d.E,.int .i64 d.O,.slice d.ma d.ms.length d.mc,.slice d.va d.vs.length d.vc,.slice d.ca d.cs.length d.cc,.int .i64 d.F,.int .i64 d.G,.slice d.oa d.os.length d.oc] 49)).alloc (Obj.cells #[.slice e.sa e.ss.length e.sc,.slice e.pa e.ps.length e.pc,.int .i64 e.E,.int .i64 e.O,.slice e.ma e.ms.length e.mc,.slice e.va e.vs.length e.vc,.slice e.ca e.cs.length e.cc,.int .i64 e.F,.int .i64 e.G,.slice e.oa e.os.length e.oc] 49)):=hw0.alloc (by simp) _
 have hx:=(Dk10.new w d 49).alloc (Obj.cells #[.slice e.sa e.ss.length e.sc,.slice e.pa e.ps.length e.pc,.int .i64 e.E,.int .i64 e.O,.slice e.ma e.ms.length e.mc,.slice e.va e.vs.length e.vc,.slice e.ca e.cs.length e.cc,.int .i64 e.F,.int .i64 e.G,.slice e.oa e.os.length e.oc] 49)
 have hy:=Dk10.new (w.alloc (Obj.cells #[.slice d.sa d.ss.length d.sc,.slice d.pa d.ps.length d.pc,.int .i64 d.E,.int .i64 d.O,.slice d.ma d.ms.length d.mc,.slice d.va d.vs.length d.vc,.slice d.ca d.cs.length d.cc,.int .i64 d.F,.int .i64 d.G,.slice d.oa d.os.length d.oc] 49)) e 49
 simp only [World.size_alloc] at hy
 have HB:Hid (DkI w d∧DkI w e∧DkF d∧DkS d e):=⟨hd,he,hf,hs⟩
 clear hd he hf hs hw0
 have H1:=eqRaw_ct d.sa d.pa e.sa e.pa d.sc d.pc e.sc e.pc d.ss d.ps e.ss e.ps _ (HB.out.1.raw.below hw nl) (HB.out.2.1.raw.below hw nl) HB.out.2.2.2.ss HB.out.2.2.2.ps HB.out.2.2.1.raw
 go_enter Tryz.func15,Tryz.ntmps15
 go_wp2_with fail
 generalize (w.alloc (Obj.cells #[.slice d.sa d.ss.length d.sc,.slice d.pa d.ps.length d.pc,.int .i64 d.E,.int .i64 d.O,.slice d.ma d.ms.length d.mc,.slice d.va d.vs.length d.vc,.slice d.ca d.cs.length d.cc,.int .i64 d.F,.int .i64 d.G,.slice d.oa d.os.length d.oc] 49)).alloc (Obj.cells #[.slice e.sa e.ss.length e.sc,.slice e.pa e.ps.length e.pc,.int .i64 e.E,.int .i64 e.O,.slice e.ma e.ms.length e.mc,.slice e.va e.vs.length e.vc,.slice e.ca e.cs.length e.cc,.int .i64 e.F,.int .i64 e.G,.slice e.oa e.os.length e.oc] 49)=W0 at *
 have hE:(d.E != e.E)=false:=by simp [HB.out.2.2.2.E]
 have hO:(d.O != e.O)=false:=by simp [HB.out.2.2.2.O]
 refine H1.mono ?_
 clear H1
 rintro r w1 ⟨rfl,hb1⟩
 have HW1:Hid (Below w.heap.size w w1):=hw.trans (hb1.mono hw.size)
 have hx1:=hx.step hb1
 have hy1:=hy.step hb1
 clear hb1 hw hx hy
 obtain ⟨x0,x1,x2,x3,x4,x5,x6,x7,x8,x9,xl⟩:=id hx1
 obtain ⟨y0,y1,y2,y3,y4,y5,y6,y7,y8,y9,yl⟩:=id hy1
 have H2:=eqMap_eq d.ma e.ma d.mc e.mc d.ms e.ms w1 (HB.out.1.map.below HW1.out nl) (HB.out.2.1.map.below HW1.out nl) HB.out.2.2.2.ms HB.out.2.2.1.ms
 go_wp2_with fail
 refine H2.mono ?_
 clear H2
 rintro r w2 ⟨rfl,hb2⟩
 have HW2:Hid (Below w.heap.size w w2):=HW1.out.trans (hb2.mono HW1.out.size)
 have hx2:=hx1.step hb2
 have hy2:=hy1.step hb2
 clear hb2 HW1 hx1 hy1
 clear x0 x1 x2 x3 x4 x5 x6 x7 x8 x9 xl y0 y1 y2 y3 y4 y5 y6 y7 y8 y9 yl
 obtain ⟨x0,x1,x2,x3,x4,x5,x6,x7,x8,x9,xl⟩:=id hx2
 obtain ⟨y0,y1,y2,y3,y4,y5,y6,y7,y8,y9,yl⟩:=id hy2
 have H3:=eqMap_eq d.va e.va d.vc e.vc d.vs e.vs w2 (HB.out.1.sav.below HW2.out nl) (HB.out.2.1.sav.below HW2.out nl) HB.out.2.2.2.vs HB.out.2.2.1.vs
 go_wp2_with fail
 refine H3.mono ?_
 clear H3
 rintro r w3 ⟨rfl,hb3⟩
 have HW3:Hid (Below w.heap.size w w3):=HW2.out.trans (hb3.mono HW2.out.size)
 have hx3:=hx2.step hb3
 have hy3:=hy2.step hb3
 clear hb3 HW2 hx2 hy2
 clear x0 x1 x2 x3 x4 x5 x6 x7 x8 x9 xl y0 y1 y2 y3 y4 y5 y6 y7 y8 y9 yl
 obtain ⟨x0,x1,x2,x3,x4,x5,x6,x7,x8,x9,xl⟩:=id hx3
 obtain ⟨y0,y1,y2,y3,y4,y5,y6,y7,y8,y9,yl⟩:=id hy3
 have H4:=eqIntS_eq d.ca e.ca d.cc e.cc d.cs e.cs w3 (HB.out.1.chn.below HW3.out nl) (HB.out.2.1.chn.below HW3.out nl) HB.out.2.2.2.cs HB.out.2.2.1.cs
 go_wp2_with fail
 refine H4.mono ?_
 clear H4
 rintro r w4 ⟨rfl,hb4⟩
 have HW4:Hid (Below w.heap.size w w4):=HW3.out.trans (hb4.mono HW3.out.size)
 have hx4:=hx3.step hb4
 have hy4:=hy3.step hb4
 clear hb4 HW3 hx3 hy3
 clear x0 x1 x2 x3 x4 x5 x6 x7 x8 x9 xl y0 y1 y2 y3 y4 y5 y6 y7 y8 y9 yl
 obtain ⟨x0,x1,x2,x3,x4,x5,x6,x7,x8,x9,xl⟩:=id hx4
 obtain ⟨y0,y1,y2,y3,y4,y5,y6,y7,y8,y9,yl⟩:=id hy4
 have H5:=eqPack_ct d.F d.G e.F e.G d.oa e.oa d.oc e.oc d.os e.os w4 (HB.out.1.opn.below HW4.out nl) (HB.out.2.1.opn.below HW4.out nl) HB.out.2.2.2.os HB.out.2.2.1.opn HB.out.2.2.2.F HB.out.2.2.2.G
 go_wp2_with fail
 refine H5.mono ?_
 clear H5
 rintro r w5 ⟨rfl,hb5⟩
 have HW5:Hid (Below w.heap.size w w5):=HW4.out.trans (hb5.mono HW4.out.size)
 have hx5:=hx4.step hb5
 have hy5:=hy4.step hb5
 clear hb5 HW4 hx4 hy4
 clear x0 x1 x2 x3 x4 x5 x6 x7 x8 x9 xl y0 y1 y2 y3 y4 y5 y6 y7 y8 y9 yl
 clear hx5 hy5
 go_wp2
 go_ret
 exact ⟨rfl,HW5.out⟩
theorem szIntS_left (a:Option Addr) (n cap:Nat) (left:Int) (w:World) (hm:n≤maxLen) (h0:0≤left) (h1:left≤1048576) :
  Calls Tryz.prog 42 #[.slice a n cap,.int .i64 left] w fun e w'=>(∃ z:Int,e=.returned (.int .i64 z)∧(z=-1∨(0≤z∧z≤left∧z+n=left)))∧w'=w:=by
 unfold maxLen at hm
 by_cases h:(n:Int)≤left
 ·go_enter Tryz.func42,Tryz.ntmps42
  go_wp2
  go_ret
  exact ⟨⟨left-n,by go_num,.inr ⟨by omega,by omega,by omega⟩⟩,rfl⟩
 ·go_enter Tryz.func42,Tryz.ntmps42
  go_wp2
  go_ret
  exact ⟨⟨-1,rfl,.inl rfl⟩,rfl⟩
theorem szPlaceS_left (a:Option Addr) (n cap:Nat) (left:Int) (w:World) (hm:n≤maxLen) (h0:0≤left) (h1:left≤1048576) :
  Calls Tryz.prog 74 #[.slice a n cap,.int .i64 left] w fun e w'=>(∃ z:Int,e=.returned (.int .i64 z)∧(z=-1∨(0≤z∧z≤left∧z+n=left)))∧w'=w:=by
 unfold maxLen at hm
 by_cases h:(n:Int)≤left
 ·go_enter Tryz.func74,Tryz.ntmps74
  go_wp2
  go_ret
  exact ⟨⟨left-n,by go_num,.inr ⟨by omega,by omega,by omega⟩⟩,rfl⟩
 ·go_enter Tryz.func74,Tryz.ntmps74
  go_wp2
  go_ret
  exact ⟨⟨-1,rfl,.inl rfl⟩,rfl⟩
theorem szMap_left (a:Option Addr) (n cap:Nat) (left:Int) (w:World) (hm:n≤maxLen) (h0:0≤left) (h1:left≤1048576) :
  Calls Tryz.prog 41 #[.agg #[.slice a n cap],.int .i64 left] w fun e w'=>(∃ z:Int,e=.returned (.int .i64 z)∧(z=-1∨(0≤z∧z≤left∧z+n=left)))∧Below w.heap.size w w':=by
 have hw:Below w.heap.size w (w.alloc (Obj.cells #[.slice a n cap] 28)):=ba
 have HS:=szPlaceS_left a n cap left (w.alloc (Obj.cells #[.slice a n cap] 28)) hm h0 h1
 clear hm
 go_enter Tryz.func41,Tryz.ntmps41
 go_wp2_with fail
 refine HS.mono ?_
 clear HS
 rintro e w1 ⟨⟨z,rfl,hz⟩,rfl⟩
 rcases hz with rfl | ⟨hz0,hz1,hz2⟩
 ·go_wp2
  go_ret
  exact ⟨⟨-1,rfl,.inl rfl⟩,hw⟩
 ·have HZ:Hid (z+(n:Int)=left∧True):=⟨hz2,trivial⟩
  clear hz2
  go_wp2
  go_ret
  exact ⟨⟨z,rfl,.inr ⟨hz0,hz1,HZ.out.1⟩⟩,hw⟩
theorem szRaw_left (sa pa:Option Addr) (sc pc:Nat) (ss ps:List El) (w:World) (hb:RawI w sa pa ss ps) (hm1:ss.length≤maxLen) (hm2:ps.length≤maxLen) :
  Calls Tryz.prog 40 #[.agg #[.slice sa ss.length sc,.slice pa ps.length pc],.int .i64 1048576] w fun e w'=>(∃ z:Int,e=.returned (.int .i64 z)∧(z=-1∨(0≤z∧z≤1048576∧z+ss.length+elets ss+ps.length+elets ps=1048576)))∧Below w.heap.size w w':=by
 have HB:Hid (RawI w sa pa ss ps):=hb
 have HM:Hid (ss.length≤maxLen∧ps.length≤maxLen):=⟨hm1,hm2⟩
 unfold maxLen at hm1 hm2
 clear hb
 go_enter Tryz.func40,Tryz.ntmps40
 go_wp2_with fail
 have hw:Below w.heap.size w (w.alloc (Obj.cells #[.slice sa ss.length sc,.slice pa ps.length pc] 25)):=ba
 refine (szByteSS_any sa sc ss 1048576 _ (HB.out.1.below hw nl) HM.out.1 (by omega) (by omega)).mono ?_
 rintro e w1 ⟨⟨z,rfl,hz⟩,rfl⟩
 rcases hz with rfl | ⟨hz0,hz1,hz2⟩
 ·go_wp2
  go_ret
  exact ⟨⟨-1,rfl,.inl rfl⟩,hw⟩
 ·have HZ:Hid (z+(ss.length:Int)+elets ss=1048576∧True):=⟨hz2,trivial⟩
  clear hz2
  go_wp2_with fail
  refine (szPendS_any pa pc ps z _ (HB.out.2.below hw nl) HM.out.2 hz0 hz1).mono ?_
  rintro e w2 ⟨⟨y,rfl,hy⟩,hb2⟩
  have HB2:Hid (Below w.heap.size w w2):=hw.trans (hb2.mono (by simp))
  clear hw hb2
  rcases hy with rfl | ⟨hy0,hy1,hy2⟩
  ·go_wp2
   go_ret
   exact ⟨⟨-1,rfl,.inl rfl⟩,HB2.out⟩
  ·have HF:Hid (y≤1048576∧y+(ss.length:Int)+elets ss+ps.length+elets ps=1048576):=by
    have:=HZ.out.1
    exact ⟨by omega,by omega⟩
   clear hy2 HZ
   go_wp2
   go_ret
   exact ⟨⟨y,rfl,.inr ⟨hy0,HF.out⟩⟩,HB2.out⟩
theorem szDisk_any (d:DkV) (w:World) (hb:DkI w d) (hm:DkM d) :
  Calls Tryz.prog 10 #[.agg #[.slice d.sa d.ss.length d.sc,.slice d.pa d.ps.length d.pc,.int .i64 d.E,.int .i64 d.O,.slice d.ma d.ms.length d.mc,.slice d.va d.vs.length d.vc,.slice d.ca d.cs.length d.cc,.int .i64 d.F,.int .i64 d.G,.slice d.oa d.os.length d.oc],.int .i64 1048576] w fun e w'=>(∃ z:Int,e=.returned (.int .i64 z)∧(z=-1∨(0≤z∧DkF d)))∧Below w.heap.size w w':=by
 have hw:Below w.heap.size w (w.alloc (Obj.cells #[.slice d.sa d.ss.length d.sc,.slice d.pa d.ps.length d.pc,.int .i64 d.E,.int .i64 d.O,.slice d.ma d.ms.length d.mc,.slice d.va d.vs.length d.vc,.slice d.ca d.cs.length d.cc,.int .i64 d.F,.int .i64 d.G,.slice d.oa d.os.length d.oc] 34)):=ba
 have hx:=Dk10.new w d 34
 have H1:=szRaw_left d.sa d.pa d.sc d.pc d.ss d.ps _ (hb.raw.below hw nl) hm.ss hm.ps
 have HB:Hid (DkI w d∧DkM d):=⟨hb,hm⟩
 clear hb hm
 go_enter Tryz.func10,Tryz.ntmps10
 go_wp2_with fail
 generalize w.alloc (Obj.cells #[.slice d.sa d.ss.length d.sc,.slice d.pa d.ps.length d.pc,.int .i64 d.E,.int .i64 d.O,.slice d.ma d.ms.length d.mc,.slice d.va d.vs.length d.vc,.slice d.ca d.cs.length d.cc,.int .i64 d.F,.int .i64 d.G,.slice d.oa d.os.length d.oc] 34)=W0 at *
 refine H1.mono ?_
 clear H1
 rintro e w1 ⟨⟨z1,rfl,hz1⟩,hb1⟩
 have HW1:Hid (Below w.heap.size w w1):=hw.trans (hb1.mono hw.size)
 have hx1:=hx.step hb1
 clear hb1 hw hx
 rcases hz1 with rfl | hz1
 ·go_wp2
  go_ret
  exact ⟨⟨-1,rfl,.inl rfl⟩,HW1.out⟩
 have hzn1:¬z1<0:=by omega
 obtain ⟨x0,x1,x2,x3,x4,x5,x6,x7,x8,x9,xl⟩:=id hx1
 have H2:=szMap_left d.ma d.ms.length d.mc z1 w1 HB.out.2.ms hz1.1 (by omega)
 go_wp2_with fail
 refine H2.mono ?_
 clear H2
 rintro e w2 ⟨⟨z2,rfl,hz2⟩,hb2⟩
 have HW2:Hid (Below w.heap.size w w2):=HW1.out.trans (hb2.mono HW1.out.size)
 have hx2:=hx1.step hb2
 clear hb2 HW1 hx1
 clear x0 x1 x2 x3 x4 x5 x6 x7 x8 x9 xl
 rcases hz2 with rfl | hz2
 ·go_wp2
  go_ret
  exact ⟨⟨-1,rfl,.inl rfl⟩,HW2.out⟩
 have hzn2:¬z2<0:=by omega
 obtain ⟨x0,x1,x2,x3,x4,x5,x6,x7,x8,x9,xl⟩:=id hx2
 have H3:=szMap_left d.va d.vs.length d.vc z2 w2 HB.out.2.vs hz2.1 (by omega)
 go_wp2_with fail
 refine H3.mono ?_
 clear H3
 rintro e w3 ⟨⟨z3,rfl,hz3⟩,hb3⟩
 have HW3:Hid (Below w.heap.size w w3):=HW2.out.trans (hb3.mono HW2.out.size)
 have hx3:=hx2.step hb3
 clear hb3 HW2 hx2
 clear x0 x1 x2 x3 x4 x5 x6 x7 x8 x9 xl
 rcases hz3 with rfl | hz3
 ·go_wp2
  go_ret
  exact ⟨⟨-1,rfl,.inl rfl⟩,HW3.out⟩
 have hzn3:¬z3<0:=by omega
 obtain ⟨x0,x1,x2,x3,x4,x5,x6,x7,x8,x9,xl⟩:=id hx3
 have H4:=szIntS_left d.ca d.cs.length d.cc z3 w3 HB.out.2.cs hz3.1 (by omega)
 go_wp2_with fail
 refine H4.mono ?_
 clear H4
 rintro e w4 ⟨⟨z4,rfl,hz4⟩,rfl⟩
 rcases hz4 with rfl | hz4
 ·go_wp2
  go_ret
  exact ⟨⟨-1,rfl,.inl rfl⟩,HW3.out⟩
 have hzn4:¬z4<0:=by omega
 have H5:=szPack_any d.F d.G d.oa d.oc d.os _ (HB.out.1.opn.below HW3.out nl) HB.out.2.os z4 hz4.1 (by omega)
 go_wp2_with fail
 refine H5.mono ?_
 clear H5
 rintro e w5 ⟨⟨z5,rfl,hz5⟩,hb5⟩
 have HW5:Hid (Below w.heap.size w w5):=HW3.out.trans (hb5.mono HW3.out.size)
 have hx5:=hx3.step hb5
 clear hb5 HW3 hx3
 clear x0 x1 x2 x3 x4 x5 x6 x7 x8 x9 xl
 rcases hz5 with rfl | hz5
 ·go_wp2
  go_ret
  exact ⟨⟨-1,rfl,.inl rfl⟩,HW5.out⟩
 have hzn5:¬z5<0:=by omega
 have HF:Hid (DkF d):=DkF.mk' (by unfold dkN;omega)
 have h50:=hz5.1
 clear hz1 hz2 hz3 hz4 hz5
 go_wp2
 go_ret
 exact ⟨⟨z5,rfl,.inr ⟨h50,HF.out⟩⟩,HW5.out⟩
end Go.Proofs.YtaibkchbkedjnaaGreatDoor
