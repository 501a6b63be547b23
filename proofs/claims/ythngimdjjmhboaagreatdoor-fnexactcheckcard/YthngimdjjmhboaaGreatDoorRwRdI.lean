/-
  The program's RawRead.
-/
import Derived.Test.YthngimdjjmhboaaGreatDoorQueue
namespace Go.Proofs.YthngimdjjmhboaaGreatDoor
open Go.RowKit
set_option linter.unusedVariables false

structure Box1 (W:World) (b:Nat) (x:Value):Prop where
 c0:W.cell? ⟨b,0,none⟩=some x
 lt:b<W.heap.size
theorem Box1.new (w:World) (x:Value) (T:TypeId):Box1 (w.alloc (Obj.cells #[x] T)) w.heap.size x:=⟨by simp,by simp⟩
theorem Box1.keep {W W':World} {b B:Nat} {x:Value} (h:Box1 W b x) (hb:Below B W W') (hB:b<B):Box1 W' b x:=⟨Go.Proofs.YthngimdjjmhboaaGreatDoor.keep hb hB h.c0,Nat.lt_of_lt_of_le h.lt hb.size⟩
theorem rd_some {ss ps:List El} {x:Nat} {e:El} (h:lastU ps x ps.length=some e):rdE ss ps x=e:=by unfold rdE;rw [h];rfl
theorem rd_none {ss ps:List El} {x:Nat} (h:lastU ps x ps.length=none):rdE ss ps x=ss.getD x de:=by unfold rdE;rw [h,Int.toNat_natCast];rfl

set_option maxRecDepth 20000 in
set_option maxHeartbeats 4000000 in
theorem implRawRead_any (sa pa:Option Addr) (sc pc:Nat) (ss ps:List El) (x:Int) (w:World) (hb:RawI w sa pa ss ps) (hx:ss.length≤281474976710656) (hy:ps.length≤281474976710656) (hxl:∀ s ∈ ss,s.ls.length≤281474976710656) (hyl:∀ s ∈ ps,s.ls.length≤281474976710656) :
  Calls Tryz.prog 139 #[.agg #[.slice sa ss.length sc,.slice pa ps.length pc],.int .i64 x] w fun e w'=>(∃ v,e=.returned (.tuple #[v,.bool (rdB ss ps x)])∧OVB w' w.heap.size v (rdL ss ps x))∧Below w.heap.size w w':=by
 have HB:Hid (RawI w sa pa ss ps):=hb
 have HW:Hid (Below w.heap.size w ((w.alloc (Obj.cells #[Value.slice sa ss.length sc,Value.slice pa ps.length pc] 41)).alloc (Obj.cells #[.int .i64 x] 3))):=((Below.refl _ _).alloc (Nat.le_refl _) _).alloc (by simp) _
 have HX:Hid (Box2 ((w.alloc (Obj.cells #[Value.slice sa ss.length sc,Value.slice pa ps.length pc] 41)).alloc (Obj.cells #[.int .i64 x] 3)) w.heap.size (.slice sa ss.length sc) (.slice pa ps.length pc)∧Box1 ((w.alloc (Obj.cells #[Value.slice sa ss.length sc,Value.slice pa ps.length pc] 41)).alloc (Obj.cells #[.int .i64 x] 3)) (w.heap.size+1) (.int .i64 x)):=by
  refine ⟨(Box2.new _ _ _ _).alloc _,?_⟩
  have h9:=Box1.new (w.alloc (Obj.cells #[Value.slice sa ss.length sc,Value.slice pa ps.length pc] 41)) (.int .i64 x) 3
  simpa using h9
 have HSP:=implRawOk_any sa pa sc pc ss ps _ (HB.out.below HW.out (Nat.le_refl _)) hx hy hxl hyl
 clear hb hxl hyl
 cases hr:rok ss ps with
 | false=>
  rw [(rd_no (x:=x) (by rw [hr];simp)).1,(rd_no (x:=x) (by rw [hr];simp)).2]
  rw [hr] at HSP
  clear hr
  go_enter Tryz.func139,Tryz.ntmps139
  go_wp2_with fail
  refine HSP.mono ?_
  clear HSP
  rintro e w1 ⟨rfl,hb1⟩
  have HB1:Hid (Below w.heap.size w w1):=HW.out.trans (hb1.mono HW.out.size)
  clear hb1
  go_wp2
  exact bodyPost_ret (v:=.tuple #[.slice none 0 0,.bool false]) (by simp [results,Tryz.results139,go_sem]) rfl ⟨⟨_,rfl,OVB.nil _ _⟩,HB1.out⟩
 | true=>
  rw [hr] at HSP
  by_cases h:0≤x∧x<(ss.length:Int)
  ·obtain ⟨x,rfl⟩:=Int.eq_ofNat_of_zero_le h.1
   have hxs:x<ss.length:=by omega
   have h1:=rd_yes hr hxs
   rw [h1.1,h1.2]
   have hR:=rok_ok hr
   have HR:Hid (Rok ss ps∧(rdE ss ps x).ls.length=256):=⟨hR,rdE_len (x:=x) hR hxs⟩
   have HRS:Hid ((∀ e,lastU ps x ps.length=some e→rdE ss ps x=e)∧(lastU ps x ps.length=none→rdE ss ps x=ss.getD x de)):=⟨fun e h9=>rd_some h9,fun h9=>rd_none h9⟩
   have HBY:Hid (∀ W,RawI W sa pa ss ps→Byt W (rdE ss ps x).a (rdE ss ps x).ls):=fun W h9=>rdE_byt (x:=x) h9 hxs
   obtain ⟨hR1,hR2,hR3,-,-⟩:=hR
   clear h1 hr h
   generalize hrd:rdE ss ps x=R at *
   clear hrd
   go_enter Tryz.func139,Tryz.ntmps139
   go_wp2_with fail
   refine HSP.mono ?_
   clear HSP
   rintro e w1 ⟨rfl,hb1⟩
   have HX1:Hid (Box2 w1 w.heap.size (.slice sa ss.length sc) (.slice pa ps.length pc)∧Box1 w1 (w.heap.size+1) (.int .i64 x)):=⟨HX.out.1.keep hb1 HX.out.1.lt,HX.out.2.keep hb1 HX.out.2.lt⟩
   obtain ⟨x0,x1,-,-,xl⟩:=HX1.out.1
   obtain ⟨y0,yl⟩:=HX1.out.2
   have HB1:Hid (Below w.heap.size w w1):=HW.out.trans (hb1.mono HW.out.size)
   clear hb1 HX HW
   have HHS:=has_any sa pa sc pc ss.length ps.length x w1 (by omega)
   rw [decide_eq_true (show (0:Int)≤(x:Int)∧(x:Int)<(ss.length:Int) by omega)] at HHS
   go_wp2_with fail
   refine HHS.mono ?_
   clear HHS
   rintro e w2 ⟨rfl,hb2⟩
   have HX2:Hid (Box2 w2 w.heap.size (.slice sa ss.length sc) (.slice pa ps.length pc)∧Box1 w2 (w.heap.size+1) (.int .i64 x)∧Below w.heap.size w w2):=⟨HX1.out.1.keep hb2 HX1.out.1.lt,HX1.out.2.keep hb2 HX1.out.2.lt,HB1.out.trans (hb2.mono HB1.out.size)⟩
   clear hb2 HB1 HX1 x0 x1 xl y0 yl
   obtain ⟨x0,x1,-,-,xl⟩:=HX2.out.1
   obtain ⟨y0,yl⟩:=HX2.out.2.1
   have HWT:=waits_any sa pa sc pc ss.length ps w2 ((HB.out.below HX2.out.2.2 (Nat.le_refl _)).2) (by omega)
   go_wp2_with fail
   refine HWT.mono ?_
   clear HWT
   rintro e w3 ⟨⟨Q,v,rfl,hq⟩,hb3⟩
   have HX3:Hid (Box2 w3 w.heap.size (.slice sa ss.length sc) (.slice pa ps.length pc)∧Box1 w3 (w.heap.size+1) (.int .i64 x)∧Below w.heap.size w w3):=⟨HX2.out.1.keep hb3 HX2.out.1.lt,HX2.out.2.1.keep hb3 HX2.out.2.1.lt,HX2.out.2.2.trans (hb3.mono HX2.out.2.2.size)⟩
   obtain ⟨va,vc,rfl⟩:=hq.row.form
   have h2:=HB.out.below HX3.out.2.2 (Nat.le_refl _)
   have HLA:=last_any Q (w.heap.size+1) va vc ps x w3 hq.box (hq.row.els (fun e he=>h2.2.1 e he)) HX3.out.2.1.c0 (by omega)
   clear hb3 HX2 x0 x1 xl y0 yl hq h2
   go_wp2_with fail
   refine HLA.mono ?_
   clear HLA
   rintro e w4 ⟨⟨en,ea,ec,el,eb,rfl,hor⟩,hb4⟩
   have HX4:Hid (Box2 w4 w.heap.size (.slice sa ss.length sc) (.slice pa ps.length pc)∧Box1 w4 (w.heap.size+1) (.int .i64 x)∧Below w.heap.size w w4):=⟨HX3.out.1.keep hb4 HX3.out.1.lt,HX3.out.2.1.keep hb4 HX3.out.2.1.lt,HX3.out.2.2.trans (hb4.mono HX3.out.2.2.size)⟩
   clear hb4 HX3
   have HW5:Hid (Below w.heap.size w (w4.alloc (Obj.cells #[.int .i64 en,.slice ea el.length ec] 141))):=HX4.out.2.2.alloc HX4.out.2.2.size _
   rcases hor with ⟨rfl,hl⟩ | ⟨rfl,hl⟩
   ·obtain rfl:=HRS.out.1 _ hl
    have HCL:=bytesClone_any ea ec el _ (HBY.out _ (HB.out.below HW5.out (Nat.le_refl _))) (by have:=HR.out.2;simp only at this;omega)
    clear hl HRS HBY
    go_wp2_with fail
    refine HCL.mono ?_
    clear HCL
    rintro e w6 ⟨⟨v,rfl,hov⟩,hb6⟩
    have HV:Hid (OVB w6 w.heap.size v el∧Below w.heap.size w w6):=⟨hov.weak HW5.out.size,HW5.out.trans (hb6.mono HW5.out.size)⟩
    clear hov hb6
    go_wp2
    exact bodyPost_ret (v:=.tuple #[v,.bool true]) (by simp [results,Tryz.results139,go_sem]) rfl ⟨⟨_,rfl,HV.out.1⟩,HV.out.2⟩
   ·obtain rfl:=HRS.out.2 hl
    obtain ⟨x0,x1,-,-,xl⟩:=HX4.out.1
    obtain ⟨y0,yl⟩:=HX4.out.2.1
    have hb5:Below w4.heap.size w4 (w4.alloc (Obj.cells #[.int .i64 en,.slice ea el.length ec] 141)):=(Below.refl _ _).alloc (Nat.le_refl _) _
    obtain ⟨b,off,rfl,hb1,c0,hby,-⟩:=(HB.out.below HX4.out.2.2 (Nat.le_refl _)).1.sec x hxs
    have HCL:=bytesClone_any (ss.getD x de).a (ss.getD x de).c (ss.getD x de).ls _ (hby.below hb5 (Nat.le_refl _)) (by have:=HR.out.2;omega)
    clear hl HRS HBY hby hb5
    generalize hse:ss.getD x de=s at *
    have HSE:Hid (ss.getD x de=s∧True):=⟨hse,trivial⟩
    clear hse
    go_wp2_with fail
    refine HCL.mono ?_
    clear HCL
    rintro e w6 ⟨⟨v,rfl,hov⟩,hb6⟩
    have HV:Hid (OVB w6 w.heap.size v s.ls∧Below w.heap.size w w6):=⟨hov.weak HW5.out.size,HW5.out.trans (hb6.mono HW5.out.size)⟩
    clear hov hb6
    go_wp2
    exact bodyPost_ret (v:=.tuple #[v,.bool true]) (by simp [results,Tryz.results139,go_sem]) rfl ⟨⟨_,rfl,by rw [HSE.out.1];exact HV.out.1⟩,HV.out.2⟩
  ·rw [(rd_no (x:=x) (fun h9=>h h9.2)).1,(rd_no (x:=x) (fun h9=>h h9.2)).2]
   clear hr
   go_enter Tryz.func139,Tryz.ntmps139
   go_wp2_with fail
   refine HSP.mono ?_
   clear HSP
   rintro e w1 ⟨rfl,hb1⟩
   obtain ⟨x0,x1,-,-,xl⟩:=HX.out.1.keep hb1 HX.out.1.lt
   obtain ⟨y0,yl⟩:=HX.out.2.keep hb1 HX.out.2.lt
   have HB1:Hid (Below w.heap.size w w1):=HW.out.trans (hb1.mono HW.out.size)
   clear hb1
   have HHS:=has_any sa pa sc pc ss.length ps.length x w1 (by omega)
   rw [decide_eq_false h] at HHS
   go_wp2_with fail
   refine HHS.mono ?_
   clear HHS
   rintro e w2 ⟨rfl,hb2⟩
   have HB2:Hid (Below w.heap.size w w2):=HB1.out.trans (hb2.mono HB1.out.size)
   clear hb2
   go_wp2
   exact bodyPost_ret (v:=.tuple #[.slice none 0 0,.bool false]) (by simp [results,Tryz.results139,go_sem]) rfl ⟨⟨_,rfl,OVB.nil _ _⟩,HB2.out⟩
end Go.Proofs.YthngimdjjmhboaaGreatDoor
