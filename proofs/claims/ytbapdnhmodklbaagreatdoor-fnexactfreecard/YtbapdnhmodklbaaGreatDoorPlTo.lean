/-
  laws.toPlace, toPlaceS and toMap copy places into memory of their own; what szMap answers.
-/
import Derived.Test.YtbapdnhmodklbaaGreatDoorElSz
import Derived.Test.YtbapdnhmodklbaaGreatDoorElP
import Derived.Deep.RegionHeld3
import Derived.Test.YtbapdnhmodklbaaGreatDoorDkW
namespace Go.Proofs.YtbapdnhmodklbaaGreatDoor
open Go.RowKit
set_option linter.unusedVariables false

theorem below_dE {w W:World} {B:Nat} (h:Below B w W) (n:Nat):Below B w (W.drewN n):=⟨h.os,h.tape,h.output,h.size,h.block⟩

set_option maxHeartbeats 1600000 in
theorem eqByteSS_yes (a b:Option Addr) (ca cb:Nat) (ss ts:List El) (w:World) (ha:Els false w a ss) (hb:Els false w b ts) (hct:ss.map El.ct=ts.map El.ct) (hx:ss.length≤281474976710656) (hxl:∀ s ∈ ss,s.ls.length≤281474976710656) :
    Calls Tryz.prog 52 #[.slice a ss.length ca,.slice b ss.length cb] w fun e w'=>e=.returned (.bool true)∧Below w.heap.size w w':=by
  have htl:ts.length=ss.length:=by have:=congrArg List.length hct;simpa using this.symm
  have HA:Hid (Els false w a ss):=ha
  have HB:Hid (Els false w b ts):=hb
  have HCT:Hid (ss.map El.ct=ts.map El.ct∧ts.length=ss.length):=⟨hct,htl⟩
  have HXL:Hid (∀ s ∈ ss,s.ls.length≤281474976710656):=hxl
  clear ha hb hct htl hxl
  generalize hlen:ss.length=n at *
  have HL:Hid (ss.length=n∧True):=⟨hlen,trivial⟩
  clear hlen
  have hnn:((n:Int) != (n:Int))=false:=by simp
  go_enter Tryz.func52,Tryz.ntmps52
  go_wp2
  go_loopw [5] (fun i wr=>∃ k:Nat,k≤n∧i=.int .i64 k∧Below w.heap.size w wr) (fun i _=>n - (intOf i).toNat)
  case atStart=>exact ⟨0,Nat.zero_le _,rfl,Below.refl _ _⟩
  case round=>
    obtain ⟨k,hk,rfl,hbel⟩:=hrel
    by_cases hlt:k<n
    · obtain ⟨b1,o1,rfl,hb1,c0,hy1,-⟩:=(HA.out.below hbel (Nat.le_refl _)).sec k (by rw [HL.out.1];exact hlt)
      obtain ⟨b2,o2,rfl,hb2,d0,hy2,-⟩:=(HB.out.below hbel (Nat.le_refl _)).sec k (by rw [HCT.out.2];exact hlt)
      have hml:=HXL.out _ (getD_memE (k:=k) (by rw [HL.out.1];exact hlt))
      have hce:=ctE_get HCT.out.1 k
      generalize ss.getD k de=s at *
      generalize ts.getD k de=t at *
      obtain ⟨sn,sa,sc,sl⟩:=s
      obtain ⟨tn,ta,tc,tl⟩:=t
      simp only [El.ct,Prod.mk.injEq] at hce
      obtain ⟨rfl,rfl⟩:=hce
      simp only at c0 d0 hy1 hy2 hml
      have HY1:Hid (Byt wr sa sl):=hy1
      have HY2:Hid (Byt wr ta sl):=hy2
      have HML:Hid (sl.length≤281474976710656):=hml
      have HC:Hid (wr.cell? ⟨b1,o1+k,none⟩=some (.slice sa sl.length sc)∧wr.cell? ⟨b2,o2+k,none⟩=some (.slice ta sl.length tc)):=⟨c0,d0⟩
      clear hy1 hy2 hml c0 d0
      go_wp2_with fail
      go_region_held3 (fun W=>W.cell? ⟨b1,o1+k,none⟩=some (.slice sa sl.length sc)∧W.cell? ⟨b2,o2+k,none⟩=some (.slice ta sl.length tc))
        (first | exact HC.out | exact HC8.out)
        (first
          | (go_at_call 78; refine (eqByteS_yes sa ta sc tc sl _ (by exact HY1.out) (by exact HY2.out) HML.out).mono ?_; rintro e w8 ⟨rfl, n8, hw8⟩; have HB8 : Hid (Below w.heap.size w w8) := (by rw [hw8]; exact below_dE (below_dE hbel 1) n8); have HC8 : Hid (w8.cell? ⟨b1, o1 + k, none⟩ = some (.slice sa sl.length sc) ∧ w8.cell? ⟨b2, o2 + k, none⟩ = some (.slice ta sl.length tc)) := (by rw [hw8]; exact HC.out); clear hw8))
      clear HC HC8
      go_wp2
      go_roundw
      case rel=>exact ⟨k+1,by omega,by go_num,HB8.out⟩
      case measure=>simp [intOf];omega
    · have hkn:k=n:=by omega
      subst hkn
      go_wp2
      go_ret
      exact ⟨rfl,hbel⟩

set_option maxHeartbeats 800000 in
theorem eqPend_yes (a b:Option Addr) (ca cb:Nat) (xs:List Int) (n:Int) (w:World) (ha:Byt w a xs) (hb:Byt w b xs) (hx:xs.length≤281474976710656) :
    Calls Tryz.prog 79 #[.agg #[.int .i64 n,.slice a xs.length ca],.agg #[.int .i64 n,.slice b xs.length cb]] w fun e w'=>e=.returned (.bool true)∧Below w.heap.size w w':=by
  have hw:Below w.heap.size w ((w.alloc (Obj.cells #[Value.int IntKind.i64 n,Value.slice a xs.length ca] 106)).alloc (Obj.cells #[Value.int IntKind.i64 n,Value.slice b xs.length cb] 106)):=((Below.refl _ _).alloc (Nat.le_refl _) _).alloc (by simp) _
  have hnn:(n != n)=false:=by simp
  go_enter Tryz.func79,Tryz.ntmps79
  go_wp2_with fail
  refine (eqByteS_yes a b ca cb xs _ (ha.below hw (Nat.le_refl _)) (hb.below hw (Nat.le_refl _)) hx).mono ?_
  rintro e w1 ⟨rfl,nq,rfl⟩
  go_wp2
  go_ret
  exact ⟨rfl,below_dE hw _⟩

set_option maxHeartbeats 1600000 in
theorem eqPendS_yes (a b:Option Addr) (ca cb:Nat) (ss ts:List El) (w:World) (ha:Els true w a ss) (hb:Els true w b ts) (hct:ss.map El.ct=ts.map El.ct) (hx:ss.length≤281474976710656) (hxl:∀ s ∈ ss,s.ls.length≤281474976710656) :
    Calls Tryz.prog 53 #[.slice a ss.length ca,.slice b ss.length cb] w fun e w'=>e=.returned (.bool true)∧Below w.heap.size w w':=by
  have htl:ts.length=ss.length:=by have:=congrArg List.length hct;simpa using this.symm
  have HA:Hid (Els true w a ss):=ha
  have HB:Hid (Els true w b ts):=hb
  have HCT:Hid (ss.map El.ct=ts.map El.ct∧ts.length=ss.length):=⟨hct,htl⟩
  have HXL:Hid (∀ s ∈ ss,s.ls.length≤281474976710656):=hxl
  clear ha hb hct htl hxl
  generalize hlen:ss.length=n at *
  have HL:Hid (ss.length=n∧True):=⟨hlen,trivial⟩
  clear hlen
  have hnn:((n:Int) != (n:Int))=false:=by simp
  go_enter Tryz.func53,Tryz.ntmps53
  go_wp2
  go_loopw [5] (fun i wr=>∃ k:Nat,k≤n∧i=.int .i64 k∧Below w.heap.size w wr) (fun i _=>n - (intOf i).toNat)
  case atStart=>exact ⟨0,Nat.zero_le _,rfl,Below.refl _ _⟩
  case round=>
    obtain ⟨k,hk,rfl,hbel⟩:=hrel
    by_cases hlt:k<n
    · obtain ⟨b1,o1,rfl,hb1,c0,c1,hy1,-⟩:=(HA.out.below hbel (Nat.le_refl _)).pen k (by rw [HL.out.1];exact hlt)
      obtain ⟨b2,o2,rfl,hb2,d0,d1,hy2,-⟩:=(HB.out.below hbel (Nat.le_refl _)).pen k (by rw [HCT.out.2];exact hlt)
      have hml:=HXL.out _ (getD_memE (k:=k) (by rw [HL.out.1];exact hlt))
      have hce:=ctE_get HCT.out.1 k
      generalize ss.getD k de=s at *
      generalize ts.getD k de=t at *
      obtain ⟨sn,sa,sc,sl⟩:=s
      obtain ⟨tn,ta,tc,tl⟩:=t
      simp only [El.ct,Prod.mk.injEq] at hce
      obtain ⟨rfl,rfl⟩:=hce
      simp only at c0 c1 d0 d1 hy1 hy2 hml
      have HY1:Hid (Byt wr sa sl):=hy1
      have HY2:Hid (Byt wr ta sl):=hy2
      have HML:Hid (sl.length≤281474976710656):=hml
      have HC:Hid (wr.cell? ⟨b1,o1+k * 2,none⟩=some (.int .i64 sn)∧wr.cell? ⟨b1,o1+k * 2+1,none⟩=some (.slice sa sl.length sc)∧wr.cell? ⟨b2,o2+k * 2,none⟩=some (.int .i64 sn)∧wr.cell? ⟨b2,o2+k * 2+1,none⟩=some (.slice ta sl.length tc)):=⟨c0,c1,d0,d1⟩
      clear hy1 hy2 hml c0 c1 d0 d1
      go_wp2_with fail
      go_region_held3 (fun W=>W.cell? ⟨b1,o1+k * 2,none⟩=some (.int .i64 sn)∧W.cell? ⟨b1,o1+k * 2+1,none⟩=some (.slice sa sl.length sc)∧W.cell? ⟨b2,o2+k * 2,none⟩=some (.int .i64 sn)∧W.cell? ⟨b2,o2+k * 2+1,none⟩=some (.slice ta sl.length tc))
        (first | exact HC.out | exact HC8.out)
        (first
          | (go_at_call 79; refine (eqPend_yes sa ta sc tc sl sn _ (by exact HY1.out) (by exact HY2.out) HML.out).mono ?_; rintro e w8 ⟨rfl, hb8'⟩; have HB8 : Hid (Below w.heap.size w w8) := hbel.trans ((Below.drewS hb8').mono hbel.size); have HC8 : Hid (w8.cell? ⟨b1, o1 + k * 2, none⟩ = some (.int .i64 sn) ∧ w8.cell? ⟨b1, o1 + k * 2 + 1, none⟩ = some (.slice sa sl.length sc) ∧ w8.cell? ⟨b2, o2 + k * 2, none⟩ = some (.int .i64 sn) ∧ w8.cell? ⟨b2, o2 + k * 2 + 1, none⟩ = some (.slice ta sl.length tc)) := ⟨keep (Below.drewS hb8') hb1 HC.out.1, keep (Below.drewS hb8') hb1 HC.out.2.1, keep (Below.drewS hb8') hb2 HC.out.2.2.1, keep (Below.drewS hb8') hb2 HC.out.2.2.2⟩; clear hb8'))
      clear HC HC8
      go_wp2
      go_roundw
      case rel=>exact ⟨k+1,by omega,by go_num,HB8.out⟩
      case measure=>simp [intOf];omega
    · have hkn:k=n:=by omega
      subst hkn
      go_wp2
      go_ret
      exact ⟨rfl,hbel⟩

set_option maxHeartbeats 1600000 in
theorem eqRaw_yes (sa pa ta qa:Option Addr) (sc pc tc qc:Nat) (ss ps ts qs:List El) (w:World) (ha:RawI w sa pa ss ps) (hb:RawI w ta qa ts qs) (h1:ss.map El.ct=ts.map El.ct) (h2:ps.map El.ct=qs.map El.ct) (hx:Few ss ps) :
    Calls Tryz.prog 25 #[.agg #[.slice sa ss.length sc,.slice pa ps.length pc],.agg #[.slice ta ss.length tc,.slice qa ps.length qc]] w fun e w'=>e=.returned (.bool true)∧Below w.heap.size w w':=by
  have HA:Hid (RawI w sa pa ss ps∧RawI w ta qa ts qs):=⟨ha,hb⟩
  have HC:Hid (ss.map El.ct=ts.map El.ct∧ps.map El.ct=qs.map El.ct):=⟨h1,h2⟩
  have HX:Hid (Few ss ps):=hx
  clear ha hb h1 h2 hx
  go_enter Tryz.func25,Tryz.ntmps25
  have hw:Below w.heap.size w ((w.alloc (Obj.cells #[Value.slice sa ss.length sc,Value.slice pa ps.length pc] 39)).alloc (Obj.cells #[Value.slice ta ss.length tc,Value.slice qa ps.length qc] 39)):=((Below.refl _ _).alloc (Nat.le_refl _) _).alloc (by simp) _
  have hx0:Box2 ((w.alloc (Obj.cells #[Value.slice sa ss.length sc,Value.slice pa ps.length pc] 39)).alloc (Obj.cells #[Value.slice ta ss.length tc,Value.slice qa ps.length qc] 39)) w.heap.size (.slice sa ss.length sc) (.slice pa ps.length pc):=(Box2.new w _ _ 39).alloc _
  have hx1:Box2 ((w.alloc (Obj.cells #[Value.slice sa ss.length sc,Value.slice pa ps.length pc] 39)).alloc (Obj.cells #[Value.slice ta ss.length tc,Value.slice qa ps.length qc] 39)) (w.heap.size+1) (.slice ta ss.length tc) (.slice qa ps.length qc):=by
    have h9:=Box2.new (w.alloc (Obj.cells #[Value.slice sa ss.length sc,Value.slice pa ps.length pc] 39)) (.slice ta ss.length tc) (.slice qa ps.length qc) 39
    simpa using h9
  go_wp2_with fail
  have hsz:w.heap.size+1+1=((w.alloc (Obj.cells #[Value.slice sa ss.length sc,Value.slice pa ps.length pc] 39)).alloc (Obj.cells #[Value.slice ta ss.length tc,Value.slice qa ps.length qc] 39)).heap.size:=by simp
  generalize (w.alloc (Obj.cells #[Value.slice sa ss.length sc,Value.slice pa ps.length pc] 39)).alloc (Obj.cells #[Value.slice ta ss.length tc,Value.slice qa ps.length qc] 39)=W at *
  refine (eqByteSS_yes sa ta sc tc ss ts W (HA.out.1.1.below hw (Nat.le_refl _)) (HA.out.2.1.below hw (Nat.le_refl _)) HC.out.1 (by have:=HX.out.n;omega) (fun s hs=>by have:=HX.out.l s hs;omega)).mono ?_
  rintro e w1 ⟨rfl,hb1⟩
  have hy0:=hx0.keep hb1 hx0.lt
  have hy1:=hx1.keep hb1 hx1.lt
  have HB1:Hid (Below w.heap.size w w1):=hw.trans (hb1.mono hw.size)
  clear hb1 hw hx0 hx1 hsz
  obtain ⟨r0,r1,-,-,rl⟩:=hy0
  obtain ⟨s0,s1,-,-,sl⟩:=hy1
  go_wp2_with fail
  refine (eqPendS_yes pa qa pc qc ps qs w1 (HA.out.1.2.below HB1.out (Nat.le_refl _)) (HA.out.2.2.below HB1.out (Nat.le_refl _)) HC.out.2 (by have:=HX.out.m;omega) (fun s hs=>by have:=HX.out.p s hs;omega)).mono ?_
  rintro e w2 ⟨rfl,hb2⟩
  have HB2:Hid (Below w.heap.size w w2):=HB1.out.trans (hb2.mono HB1.out.size)
  clear hb2
  go_wp2
  go_ret
  exact ⟨rfl,HB2.out⟩
set_option maxHeartbeats 800000 in
theorem eqPlace_yes (x y:Int) (w:World) :
    Calls Tryz.prog 80 #[.agg #[.int .i64 x,.int .i64 y],.agg #[.int .i64 x,.int .i64 y]] w fun e w'=>e=.returned (.bool true)∧Below w.heap.size w w':=by
  have hw:Below w.heap.size w ((w.alloc (Obj.cells #[Value.int IntKind.i64 x,Value.int IntKind.i64 y] 92)).alloc (Obj.cells #[Value.int IntKind.i64 x,Value.int IntKind.i64 y] 92)):=
    ((Below.refl _ _).alloc (Nat.le_refl _) _).alloc (by simp) _
  have h1:(x != x)=false:=by simp
  have h2:(y != y)=false:=by simp
  go_enter Tryz.func80,Tryz.ntmps80
  go_wp2
  go_ret
  exact ⟨rfl,hw⟩

set_option maxHeartbeats 1600000 in
theorem eqPlaceS_yes (a b:Option Addr) (ca cb:Nat) (ps:List (Int × Int)) (w:World) (ha:Pls w a ps) (hb:Pls w b ps) (hx:ps.length≤1048576) :
    Calls Tryz.prog 54 #[.slice a ps.length ca,.slice b ps.length cb] w fun e w'=>e=.returned (.bool true)∧Below w.heap.size w w':=by
  have HA:Hid (Pls w a ps):=ha
  have HB:Hid (Pls w b ps):=hb
  clear ha hb
  generalize hlen:ps.length=n at *
  have HL:Hid (ps.length=n∧True):=⟨hlen,trivial⟩
  clear hlen
  have hnn:((n:Int) != (n:Int))=false:=by simp
  go_enter Tryz.func54,Tryz.ntmps54
  go_wp2
  go_loopw [5] (fun i wr=>∃ k:Nat,k≤n∧i=.int .i64 k∧Below w.heap.size w wr) (fun i _=>n - (intOf i).toNat)
  case atStart=>exact ⟨0,Nat.zero_le _,rfl,Below.refl _ _⟩
  case round=>
    obtain ⟨k,hk,rfl,hbel⟩:=hrel
    by_cases hlt:k<n
    · obtain ⟨b1,o1,rfl,hb1,hc1⟩:=(HA.out.below hbel (Nat.le_refl _)).len_pos k (by rw [HL.out.1];exact hlt)
      obtain ⟨b2,o2,rfl,hb2,hc2⟩:=(HB.out.below hbel (Nat.le_refl _)).len_pos k (by rw [HL.out.1];exact hlt)
      obtain ⟨c0,c1⟩:=hc1 k (by rw [HL.out.1];exact hlt)
      obtain ⟨d0,d1⟩:=hc2 k (by rw [HL.out.1];exact hlt)
      clear hc1 hc2
      generalize ps.getD k dp=p at *
      obtain ⟨x,y⟩:=p
      simp only at c0 c1 d0 d1
      have HC:Hid (wr.cell? ⟨b1,o1+k * 2,none⟩=some (.int .i64 x)∧wr.cell? ⟨b1,o1+k * 2+1,none⟩=some (.int .i64 y)∧wr.cell? ⟨b2,o2+k * 2,none⟩=some (.int .i64 x)∧wr.cell? ⟨b2,o2+k * 2+1,none⟩=some (.int .i64 y)):=⟨c0,c1,d0,d1⟩
      clear c0 c1 d0 d1
      go_wp2_with fail
      go_region_held3 (fun W=>W.cell? ⟨b1,o1+k * 2,none⟩=some (.int .i64 x)∧W.cell? ⟨b1,o1+k * 2+1,none⟩=some (.int .i64 y)∧W.cell? ⟨b2,o2+k * 2,none⟩=some (.int .i64 x)∧W.cell? ⟨b2,o2+k * 2+1,none⟩=some (.int .i64 y))
        (first | exact HC.out | exact HC8.out)
        (first
          | (go_at_call 80; refine (eqPlace_yes x y _).mono ?_; rintro e w8 ⟨rfl, hb8'⟩; have HB8 : Hid (Below w.heap.size w w8) := hbel.trans ((Below.drewS hb8').mono hbel.size); have HC8 : Hid (w8.cell? ⟨b1, o1 + k * 2, none⟩ = some (.int .i64 x) ∧ w8.cell? ⟨b1, o1 + k * 2 + 1, none⟩ = some (.int .i64 y) ∧ w8.cell? ⟨b2, o2 + k * 2, none⟩ = some (.int .i64 x) ∧ w8.cell? ⟨b2, o2 + k * 2 + 1, none⟩ = some (.int .i64 y)) := ⟨keep (Below.drewS hb8') hb1 HC.out.1, keep (Below.drewS hb8') hb1 HC.out.2.1, keep (Below.drewS hb8') hb2 HC.out.2.2.1, keep (Below.drewS hb8') hb2 HC.out.2.2.2⟩))
      clear HC HC8
      go_wp2
      go_roundw
      case rel=>exact ⟨k+1,by omega,by go_num,HB8.out⟩
      case measure=>simp [intOf];omega
    · have hkn:k=n:=by omega
      subst hkn
      go_wp2
      go_ret
      exact ⟨rfl,hbel⟩

set_option maxHeartbeats 800000 in
theorem eqMap_yes (a b:Option Addr) (ca cb:Nat) (ps:List (Int × Int)) (w:World) (ha:Pls w a ps) (hb:Pls w b ps) (hx:ps.length≤1048576) :
    Calls Tryz.prog 26 #[.agg #[.slice a ps.length ca],.agg #[.slice b ps.length cb]] w fun e w'=>e=.returned (.bool true)∧Below w.heap.size w w':=by
  have hw:Below w.heap.size w ((w.alloc (Obj.cells #[Value.slice a ps.length ca] 42)).alloc (Obj.cells #[Value.slice b ps.length cb] 42)):=
    ((Below.refl _ _).alloc (Nat.le_refl _) _).alloc (by simp) _
  go_enter Tryz.func26,Tryz.ntmps26
  go_wp2_with fail
  refine (eqPlaceS_yes a b ca cb ps _ (ha.below hw (Nat.le_refl _)) (hb.below hw (Nat.le_refl _)) hx).mono ?_
  rintro e w1 ⟨rfl,hb1⟩
  go_wp2
  go_ret
  exact ⟨rfl,hw.trans (hb1.mono (by simp;omega))⟩
set_option maxHeartbeats 800000 in
theorem eqIntS_any (a b:Option Addr) (ca cb:Nat) (xs ys:List Int) (w:World) (ha:Ins w a xs) (hb:Ins w b ys) (hx:xs.length≤281474976710656) (hy:ys.length≤281474976710656) :
    Calls Tryz.prog 8 #[.slice a xs.length ca,.slice b ys.length cb] w fun e w'=>e=.returned (.bool (decide (xs=ys)))∧∃ n,w'=w.drewN n:=by
  by_cases hl:xs.length=ys.length
  · generalize hlx:xs.length=n at *
    have HX:Hid (xs.length=n):=hlx
    have HY:Hid (ys.length=n):=hl.symm
    rw [← hl]
    have hnn:((n:Int) != (n:Int))=false:=by simp
    clear hlx hl hy
    go_enter Tryz.func8,Tryz.ntmps8
    go_wp2
    go_loopw [5] (fun i wr=>∃ k m:Nat,k≤n∧i=.int .i64 k∧wr=w.drewN m∧xs.take k=ys.take k) (fun i _=>n - (intOf i).toNat)
    case atStart=>exact ⟨0,0,Nat.zero_le _,rfl,rfl,by simp⟩
    case round=>
      obtain ⟨k,m,hk,rfl,rfl,htk⟩:=hrel
      have HT:Hid (xs.take k=ys.take k):=htk
      clear htk
      by_cases hlt:k<n
      · obtain ⟨b1,o1,rfl,hb1,hc1⟩:=ha.len_pos k (by rw [HX.out];exact hlt)
        obtain ⟨b2,o2,rfl,hb2,hc2⟩:=hb.len_pos k (by rw [HY.out];exact hlt)
        have hs1:=hc1 k (by rw [HX.out];exact hlt)
        have hs2:=hc2 k (by rw [HY.out];exact hlt)
        have g1:=getD_rngI ha.1 k
        have g2:=getD_rngI hb.1 k
        clear hc1 hc2 ha hb
        generalize hx1:xs.getD k 0=x1 at *
        generalize hy1:ys.getD k 0=y1 at *
        have HX1:Hid (xs.getD k 0=x1):=hx1
        have HY1:Hid (ys.getD k 0=y1):=hy1
        clear hx1 hy1
        by_cases hxy:x1=y1
        · subst hxy
          have hq:(x1 != x1)=false:=by simp
          have HT':Hid (xs.take (k+1)=ys.take (k+1)):=take_eq_succ HT.out (by rw [HX.out];exact hlt) (by rw [HY.out];exact hlt) (by rw [HX1.out,HY1.out])
          go_wp2
          go_quiet (fail)
          go_wp2
          go_roundw
          case rel=>exact ⟨k+1,_,by omega,by go_num,rfl,HT'.out⟩
          case measure=>simp [intOf];omega
        · have hq:(x1 != y1)=true:=by rw [bne_iff_ne];exact hxy
          have HN:Hid (decide (xs=ys)=false):=by
            have:xs≠ys:=ne_of_getD (k:=k) (by rw [HX1.out,HY1.out];exact hxy)
            simpa [Hid] using this
          clear hxy
          go_wp2
          go_quiet (fail)
          go_wp2
          go_ret
          exact ⟨by rw [HN.out];rfl,_,World.drewN_drewN ..⟩
      · have HE:Hid (decide (xs=ys)=true):=by
          have h1:=HT.out
          rw [List.take_of_length_le (by rw [HX.out];omega),List.take_of_length_le (by rw [HY.out];omega)] at h1
          simpa [Hid] using h1
        go_wp2
        go_ret
        exact ⟨by rw [HE.out];rfl,_,rfl⟩
  · have hne:decide (xs=ys)=false:=by simp;intro h;exact hl (by rw [h])
    have hl':((xs.length:Int) != (ys.length:Int))=true:=by rw [bne_iff_ne];omega
    rw [hne]
    go_enter Tryz.func8,Tryz.ntmps8
    go_wp2
    go_ret
    exact ⟨rfl,0,rfl⟩

theorem eqIntS_yes (a b:Option Addr) (ca cb:Nat) (xs:List Int) (w:World) (ha:Ins w a xs) (hb:Ins w b xs) (hx:xs.length≤281474976710656) :
    Calls Tryz.prog 8 #[.slice a xs.length ca,.slice b xs.length cb] w fun e w'=>e=.returned (.bool true)∧∃ n,w'=w.drewN n:=by
  refine (eqIntS_any a b ca cb xs xs w ha hb hx hx).mono ?_
  rintro e w' ⟨rfl,h⟩
  exact ⟨by simp,h⟩

set_option linter.unusedSimpArgs false
theorem eqRaw_ct (sa pa ta qa:Option Addr) (sc pc tc qc:Nat) (ss ps ts qs:List El) (w:World) (ha:RawI w sa pa ss ps) (hb:RawI w ta qa ts qs) (h1:ss.map El.ct=ts.map El.ct) (h2:ps.map El.ct=qs.map El.ct) (hx:Few ss ps) :
    Calls Tryz.prog 25 #[.agg #[.slice sa ss.length sc,.slice pa ps.length pc],.agg #[.slice ta ts.length tc,.slice qa qs.length qc]] w fun e w'=>e=.returned (.bool true)∧Below w.heap.size w w':=by
  rw [← len_ctE h1,← len_ctE h2]
  exact eqRaw_yes sa pa ta qa sc pc tc qc ss ps ts qs w ha hb h1 h2 hx
theorem eqPack_ct (E O E' O':Int) (a b:Option Addr) (ca cb:Nat) (ss ts:List El) (w:World) (ha:Els true w a ss) (hb:Els true w b ts) (hct:ss.map El.ct=ts.map El.ct) (hx:FewI ss) (hE:E=E') (hO:O=O') :
    Calls Tryz.prog 27 #[.agg #[.int .i64 E,.int .i64 O,.slice a ss.length ca],.agg #[.int .i64 E',.int .i64 O',.slice b ts.length cb]] w fun e w'=>e=.returned (.bool true)∧Below w.heap.size w w':=by
  subst hE hO
  rw [← len_ctE hct]
  exact eqPack_yes E O a b ca cb ss ts w ha hb hct hx
theorem eqMap_eq (a b:Option Addr) (ca cb:Nat) (ps qs:List (Int × Int)) (w:World) (ha:Pls w a ps) (hb:Pls w b qs) (h:ps=qs) (hx:ps.length≤1048576) :
    Calls Tryz.prog 26 #[.agg #[.slice a ps.length ca],.agg #[.slice b qs.length cb]] w fun e w'=>e=.returned (.bool true)∧Below w.heap.size w w':=by
  subst h
  exact eqMap_yes a b ca cb ps w ha hb hx
theorem eqIntS_eq (a b:Option Addr) (ca cb:Nat) (xs ys:List Int) (w:World) (ha:Ins w a xs) (hb:Ins w b ys) (h:xs=ys) (hx:xs.length≤1048576) :
    Calls Tryz.prog 8 #[.slice a xs.length ca,.slice b ys.length cb] w fun e w'=>e=.returned (.bool true)∧Below w.heap.size w w':=by
  subst h
  refine (eqIntS_yes a b ca cb xs w ha hb (by omega)).mono ?_
  rintro e w1 ⟨rfl,n,rfl⟩
  exact ⟨rfl,⟨rfl,rfl,rfl,Nat.le_refl _,fun _ _=>rfl⟩⟩

set_option maxRecDepth 20000 in
set_option maxHeartbeats 4000000 in
theorem eqDisk_yes (d e:DkV) (w:World) (hd:DkI w d) (he:DkI w e) (hs:DkS d e) (hf:DkF d) :
    Calls Tryz.prog 9 #[.agg #[Value.slice d.sa d.ss.length d.sc,Value.slice d.pa d.ps.length d.pc,Value.int IntKind.i64 d.E,Value.int IntKind.i64 d.O,Value.slice d.ma d.ms.length d.mc,Value.slice d.va d.vs.length d.vc,Value.slice d.ca d.cs.length d.cc,Value.int IntKind.i64 d.F,Value.int IntKind.i64 d.G,Value.slice d.oa d.os.length d.oc],.agg #[Value.slice e.sa e.ss.length e.sc,Value.slice e.pa e.ps.length e.pc,Value.int IntKind.i64 e.E,Value.int IntKind.i64 e.O,Value.slice e.ma e.ms.length e.mc,Value.slice e.va e.vs.length e.vc,Value.slice e.ca e.cs.length e.cc,Value.int IntKind.i64 e.F,Value.int IntKind.i64 e.G,Value.slice e.oa e.os.length e.oc]] w fun r w'=>r=.returned (.bool true)∧Below w.heap.size w w':=by
  have hw0:Below w.heap.size w (w.alloc (Obj.cells #[Value.slice d.sa d.ss.length d.sc,Value.slice d.pa d.ps.length d.pc,Value.int IntKind.i64 d.E,Value.int IntKind.i64 d.O,Value.slice d.ma d.ms.length d.mc,Value.slice d.va d.vs.length d.vc,Value.slice d.ca d.cs.length d.cc,Value.int IntKind.i64 d.F,Value.int IntKind.i64 d.G,Value.slice d.oa d.os.length d.oc] 47)):=(Below.refl _ _).alloc (Nat.le_refl _) _
  have hw:Below w.heap.size w ((w.alloc (Obj.cells #[Value.slice d.sa d.ss.length d.sc,Value.slice d.pa d.ps.length d.pc,Value.int IntKind.i64 d.E,Value.int IntKind.i64 d.O,Value.slice d.ma d.ms.length d.mc,Value.slice d.va d.vs.length d.vc,Value.slice d.ca d.cs.length d.cc,Value.int IntKind.i64 d.F,Value.int IntKind.i64 d.G,Value.slice d.oa d.os.length d.oc] 47)).alloc (Obj.cells #[Value.slice e.sa e.ss.length e.sc,Value.slice e.pa e.ps.length e.pc,Value.int IntKind.i64 e.E,Value.int IntKind.i64 e.O,Value.slice e.ma e.ms.length e.mc,Value.slice e.va e.vs.length e.vc,Value.slice e.ca e.cs.length e.cc,Value.int IntKind.i64 e.F,Value.int IntKind.i64 e.G,Value.slice e.oa e.os.length e.oc] 47)):=hw0.alloc (by simp) _
  have hx:=(Dk10.new w d 47).alloc (Obj.cells #[Value.slice e.sa e.ss.length e.sc,Value.slice e.pa e.ps.length e.pc,Value.int IntKind.i64 e.E,Value.int IntKind.i64 e.O,Value.slice e.ma e.ms.length e.mc,Value.slice e.va e.vs.length e.vc,Value.slice e.ca e.cs.length e.cc,Value.int IntKind.i64 e.F,Value.int IntKind.i64 e.G,Value.slice e.oa e.os.length e.oc] 47)
  have hy:=Dk10.new (w.alloc (Obj.cells #[Value.slice d.sa d.ss.length d.sc,Value.slice d.pa d.ps.length d.pc,Value.int IntKind.i64 d.E,Value.int IntKind.i64 d.O,Value.slice d.ma d.ms.length d.mc,Value.slice d.va d.vs.length d.vc,Value.slice d.ca d.cs.length d.cc,Value.int IntKind.i64 d.F,Value.int IntKind.i64 d.G,Value.slice d.oa d.os.length d.oc] 47)) e 47
  simp only [World.size_alloc] at hy
  have HB:Hid (DkI w d∧DkI w e∧DkF d∧DkS d e):=⟨hd,he,hf,hs⟩
  clear hd he hf hs hw0
  have H1:=eqRaw_ct d.sa d.pa e.sa e.pa d.sc d.pc e.sc e.pc d.ss d.ps e.ss e.ps _ (HB.out.1.raw.below hw (Nat.le_refl _)) (HB.out.2.1.raw.below hw (Nat.le_refl _)) HB.out.2.2.2.ss HB.out.2.2.2.ps HB.out.2.2.1.raw
  go_enter Tryz.func9,Tryz.ntmps9
  go_wp2_with fail
  generalize (w.alloc (Obj.cells #[Value.slice d.sa d.ss.length d.sc,Value.slice d.pa d.ps.length d.pc,Value.int IntKind.i64 d.E,Value.int IntKind.i64 d.O,Value.slice d.ma d.ms.length d.mc,Value.slice d.va d.vs.length d.vc,Value.slice d.ca d.cs.length d.cc,Value.int IntKind.i64 d.F,Value.int IntKind.i64 d.G,Value.slice d.oa d.os.length d.oc] 47)).alloc (Obj.cells #[Value.slice e.sa e.ss.length e.sc,Value.slice e.pa e.ps.length e.pc,Value.int IntKind.i64 e.E,Value.int IntKind.i64 e.O,Value.slice e.ma e.ms.length e.mc,Value.slice e.va e.vs.length e.vc,Value.slice e.ca e.cs.length e.cc,Value.int IntKind.i64 e.F,Value.int IntKind.i64 e.G,Value.slice e.oa e.os.length e.oc] 47)=W0 at *
  have hE:(d.E != e.E)=false:=by simp [HB.out.2.2.2.E]
  have hO:(d.O != e.O)=false:=by simp [HB.out.2.2.2.O]
  refine H1.mono ?_
  clear H1
  rintro r w1 ⟨rfl,hb1⟩
  have HW1:Hid (Below w.heap.size w w1):=hw.trans (hb1.mono hw.size)
  have hx1:=hx.step hb1
  have hy1:=hy.step hb1
  clear hb1 hw hx hy
  obtain ⟨x0,x1,x2,x3,x4,x5,x6,x7,x8,x9,xl⟩:=id hx1
  obtain ⟨y0,y1,y2,y3,y4,y5,y6,y7,y8,y9,yl⟩:=id hy1
  have H2:=eqMap_eq d.ma e.ma d.mc e.mc d.ms e.ms w1 (HB.out.1.map.below HW1.out (Nat.le_refl _)) (HB.out.2.1.map.below HW1.out (Nat.le_refl _)) HB.out.2.2.2.ms HB.out.2.2.1.ms
  go_wp2_with fail
  refine H2.mono ?_
  clear H2
  rintro r w2 ⟨rfl,hb2⟩
  have HW2:Hid (Below w.heap.size w w2):=HW1.out.trans (hb2.mono HW1.out.size)
  have hx2:=hx1.step hb2
  have hy2:=hy1.step hb2
  clear hb2 HW1 hx1 hy1
  clear x0 x1 x2 x3 x4 x5 x6 x7 x8 x9 xl y0 y1 y2 y3 y4 y5 y6 y7 y8 y9 yl
  obtain ⟨x0,x1,x2,x3,x4,x5,x6,x7,x8,x9,xl⟩:=id hx2
  obtain ⟨y0,y1,y2,y3,y4,y5,y6,y7,y8,y9,yl⟩:=id hy2
  have H3:=eqMap_eq d.va e.va d.vc e.vc d.vs e.vs w2 (HB.out.1.sav.below HW2.out (Nat.le_refl _)) (HB.out.2.1.sav.below HW2.out (Nat.le_refl _)) HB.out.2.2.2.vs HB.out.2.2.1.vs
  go_wp2_with fail
  refine H3.mono ?_
  clear H3
  rintro r w3 ⟨rfl,hb3⟩
  have HW3:Hid (Below w.heap.size w w3):=HW2.out.trans (hb3.mono HW2.out.size)
  have hx3:=hx2.step hb3
  have hy3:=hy2.step hb3
  clear hb3 HW2 hx2 hy2
  clear x0 x1 x2 x3 x4 x5 x6 x7 x8 x9 xl y0 y1 y2 y3 y4 y5 y6 y7 y8 y9 yl
  obtain ⟨x0,x1,x2,x3,x4,x5,x6,x7,x8,x9,xl⟩:=id hx3
  obtain ⟨y0,y1,y2,y3,y4,y5,y6,y7,y8,y9,yl⟩:=id hy3
  have H4:=eqIntS_eq d.ca e.ca d.cc e.cc d.cs e.cs w3 (HB.out.1.chn.below HW3.out (Nat.le_refl _)) (HB.out.2.1.chn.below HW3.out (Nat.le_refl _)) HB.out.2.2.2.cs HB.out.2.2.1.cs
  go_wp2_with fail
  refine H4.mono ?_
  clear H4
  rintro r w4 ⟨rfl,hb4⟩
  have HW4:Hid (Below w.heap.size w w4):=HW3.out.trans (hb4.mono HW3.out.size)
  have hx4:=hx3.step hb4
  have hy4:=hy3.step hb4
  clear hb4 HW3 hx3 hy3
  clear x0 x1 x2 x3 x4 x5 x6 x7 x8 x9 xl y0 y1 y2 y3 y4 y5 y6 y7 y8 y9 yl
  obtain ⟨x0,x1,x2,x3,x4,x5,x6,x7,x8,x9,xl⟩:=id hx4
  obtain ⟨y0,y1,y2,y3,y4,y5,y6,y7,y8,y9,yl⟩:=id hy4
  have H5:=eqPack_ct d.F d.G e.F e.G d.oa e.oa d.oc e.oc d.os e.os w4 (HB.out.1.opn.below HW4.out (Nat.le_refl _)) (HB.out.2.1.opn.below HW4.out (Nat.le_refl _)) HB.out.2.2.2.os HB.out.2.2.1.opn HB.out.2.2.2.F HB.out.2.2.2.G
  go_wp2_with fail
  refine H5.mono ?_
  clear H5
  rintro r w5 ⟨rfl,hb5⟩
  have HW5:Hid (Below w.heap.size w w5):=HW4.out.trans (hb5.mono HW4.out.size)
  have hx5:=hx4.step hb5
  have hy5:=hy4.step hb5
  clear hb5 HW4 hx4 hy4
  clear x0 x1 x2 x3 x4 x5 x6 x7 x8 x9 xl y0 y1 y2 y3 y4 y5 y6 y7 y8 y9 yl
  clear hx5 hy5
  go_wp2
  go_ret
  exact ⟨rfl,HW5.out⟩
set_option maxHeartbeats 800000 in
theorem toPlace_any (x y:Int) (w:World) :
    Calls Tryz.prog 68 #[.agg #[.int .i64 x,.int .i64 y]] w fun e w'=>e=.returned (.agg #[.int .i64 x,.int .i64 y])∧Below w.heap.size w w':=by
  go_enter Tryz.func68,Tryz.ntmps68
  go_wp2
  refine bodyPost_ret (v:=.agg #[.int .i64 x,.int .i64 y]) (by simp [results,Tryz.results68,go_sem]) rfl ⟨rfl,?_⟩
  repeat (refine Below.setCell ?_ (by first | (simp;done) | (simp;omega)) _)
  exact (((Below.refl _ _).alloc (Nat.le_refl _) _).alloc (by simp) _).alloc (by simp;omega) _

def partP (ps:List (Int × Int)) (k:Nat):List (Int × Int):=ps.take k++List.replicate (ps.length - k) dp
theorem partP_len (ps:List (Int × Int)) (k:Nat) (h:k≤ps.length):(partP ps k).length=ps.length:=by simp [partP];omega
theorem partP_all (ps:List (Int × Int)):partP ps ps.length=ps:=by simp [partP]
theorem partP_zero (ps:List (Int × Int)):partP ps 0=List.replicate ps.length dp:=by simp [partP]
theorem partP_set (ps:List (Int × Int)) (k:Nat) (h:k<ps.length):(partP ps k).set k (ps.getD k dp)=partP ps (k+1):=by
  unfold partP
  rw [List.set_append_right _ _ (by simp;omega),List.length_take,Nat.min_eq_left (by omega),Nat.sub_self,show ps.length - k=(ps.length - (k+1))+1 from by omega,List.replicate_succ,List.set_cons_zero,List.take_succ_eq_append_getElem h,List.append_assoc]
  simp [List.getD_eq_getElem?_getD,List.getElem?_eq_getElem h]

set_option maxHeartbeats 1600000 in
theorem toPlaceS_any (a:Option Addr) (cap:Nat) (ps:List (Int × Int)) (w:World) (hb:Pls w a ps) (hn:ps.length≤1048576) :
    Calls Tryz.prog 44 #[.slice a ps.length cap] w fun e w'=>
      e=.returned (.slice (some ⟨w.heap.size,0,none⟩) ps.length ps.length)∧OwP w' w.heap.size w.heap.size ps.length ps∧Below w.heap.size w w':=by
  obtain ⟨i0,hi,hz0,hz1,hz2⟩:=info_parts Tryz.infoPl
  have HSS:Hid (Pls w a ps):=hb
  clear hb
  generalize hlen:ps.length=n at *
  have HL:Hid (ps.length=n∧True):=⟨hlen,trivial⟩
  clear hlen
  go_enter Tryz.func44,Tryz.ntmps44
  go_wp2_with (at_make;refine wpList_make_full _ rfl _ _ 40 rfl w.heap.size 92 i0 (.agg #[.int .i64 0,.int .i64 0]) 2 Tryz.underlying40 hi hz0 hz1 .i64 .i64 _ _ n rfl rfl rfl rfl (by rw [hz2];omega) (by unfold maxLen;omega) (Nat.le_refl _) ?_;intro w1 hown hgrow)
  have hbw:Below w.heap.size w w1:=(Below.refl _ _).grown hgrow (Nat.le_refl _) (by intro k hk;cases hk)
  have H0:Hid (OwP w1 w.heap.size w.heap.size n (partP ps 0)):=by
    rw [partP_zero,HL.out.1]
    exact OwP.made hown
  clear hown hgrow hi hz0 hz1 hz2
  go_loopw [4] (fun i wr=>∃ (k:Nat),k≤n∧i=.int .i64 k∧OwP wr w.heap.size w.heap.size n (partP ps k)∧Below w.heap.size w wr) (fun i _=>n - (intOf i).toNat)
  case atStart=>exact ⟨0,Nat.zero_le _,rfl,H0.out,hbw⟩
  case round=>
    clear H0 hbw
    obtain ⟨k,hk,rfl,hown,hbel⟩:=hrel
    have HO:Hid (OwP wr w.heap.size w.heap.size n (partP ps k)):=hown
    clear hown
    by_cases hlt:k<n
    · obtain ⟨b,off,rfl,hb1,hc1⟩:=(HSS.out.below hbel (Nat.le_refl _)).len_pos k (by rw [HL.out.1];exact hlt)
      obtain ⟨c0,c1⟩:=hc1 k (by rw [HL.out.1];exact hlt)
      have HRG:Hid (rP (ps.getD k dp)):=HSS.out.rng k (by rw [HL.out.1];exact hlt)
      have HST:Hid ((partP ps k).set k (ps.getD k dp)=partP ps (k+1)∧(partP ps k).length=n):=⟨partP_set ps k (by rw [HL.out.1];exact hlt),by rw [partP_len ps k (by rw [HL.out.1];omega),HL.out.1]⟩
      clear hc1
      generalize ps.getD k dp=p at *
      obtain ⟨x,y⟩:=p
      simp only at c0 c1
      go_wp2_with fail
      refine (toPlace_any x y _).mono ?_
      rintro e w2 ⟨rfl,hb2⟩
      have hb3:=hbel.trans (hb2.mono hbel.size)
      have HO2:Hid (OwP w2 w.heap.size w.heap.size n (partP ps k)):=OVp.below HO.out hb2
      obtain ⟨d0,d1⟩:=HO2.out.cell k (by rw [HST.out.2];exact hlt)
      have f0:=HO2.out.frozen (k * 2)
      have f1:=HO2.out.frozen (k * 2+1)
      have HR:Hid (OwP ((w2.setCell ⟨w.heap.size,k * 2,none⟩ (.int .i64 x)).setCell ⟨w.heap.size,k * 2+1,none⟩ (.int .i64 y)) w.heap.size w.heap.size n (partP ps (k+1))):=by
        have:=HO2.out.store k (by rw [HST.out.2];exact hlt) (x,y) HRG.out
        rw [HST.out.1] at this
        exact this
      have HB:Hid (Below w.heap.size w ((w2.setCell ⟨w.heap.size,k * 2,none⟩ (.int .i64 x)).setCell ⟨w.heap.size,k * 2+1,none⟩ (.int .i64 y))):=(hb3.setCell (p:=⟨w.heap.size,_,none⟩) (Nat.le_refl _) _).setCell (p:=⟨w.heap.size,_,none⟩) (Nat.le_refl _) _
      generalize ((partP ps k).getD k dp).1=o0 at *
      generalize ((partP ps k).getD k dp).2=o1 at *
      clear hb2 hb3 hbel c0 c1 HO HO2
      go_wp2
      go_roundw
      case rel=>exact ⟨k+1,by omega,by go_num,HR.out,HB.out⟩
      case measure=>simp [intOf];omega
    · have hkn:k=n:=by omega
      subst hkn
      have HA:Hid (OwP wr w.heap.size w.heap.size k ps):=by
        have:=HO.out
        rw [show partP ps k=ps from by rw [← HL.out.1];exact partP_all ps] at this
        exact this
      clear HO
      go_wp2
      go_ret
      exact ⟨rfl,HA.out,hbel⟩

set_option maxHeartbeats 800000 in
theorem toMap_any (a:Option Addr) (cap:Nat) (ps:List (Int × Int)) (w:World) (hb:Pls w a ps) (hn:ps.length≤1048576) :
    Calls Tryz.prog 20 #[.agg #[.slice a ps.length cap]] w fun e w'=>
      ∃ g,e=.returned (.agg #[.slice (some ⟨g,0,none⟩) ps.length ps.length])∧OwP w' w.heap.size g ps.length ps∧Below w.heap.size w w':=by
  go_enter Tryz.func20,Tryz.ntmps20
  go_wp2_with fail
  have hw:Below w.heap.size w (((w.alloc (Obj.cells #[Value.slice a ps.length cap] 28)).alloc (Obj.cells #[Value.slice none 0 0] 42)).alloc (Obj.cells #[Value.slice none 0 0] 42)):=
    (((Below.refl _ _).alloc (Nat.le_refl _) _).alloc (by simp) _).alloc (by simp;omega) _
  refine (toPlaceS_any a cap ps _ (hb.below hw (Nat.le_refl _)) hn).mono ?_
  rintro e w1 ⟨rfl,hown,hbel⟩
  obtain ⟨hc,hf⟩:=bcell hbel
  have hz:=hbel.size
  have hb2:=hw.trans (hbel.mono (by simp;omega))
  simp at hc hf hz hown
  clear hbel hw
  go_wp2
  refine bodyPost_ret (v:=.agg #[.slice (some ⟨w.heap.size+1+1+1,0,none⟩) ps.length ps.length]) (by simp [results,Tryz.results20,go_sem,hc]) rfl ⟨_,rfl,?_,?_⟩
  · refine OVp.weak (B:=w.heap.size+1+1+1) ?_ (by omega)
    repeat (refine OwP.other ?_ (by simp) _)
    exact hown
  · repeat (refine Below.setCell ?_ (by first | (simp;done) | (simp;omega)) _)
    exact hb2

end Go.Proofs.YtbapdnhmodklbaaGreatDoor
