/-
  MapGet, both.
-/
import Derived.Test.YthngimdjjmhboaaGreatDoorMpGtM
import Derived.Test.YthngimdjjmhboaaGreatDoorDkI3
import Derived.Test.YthngimdjjmhboaaGreatDoorDkS2
import Derived.BigRegion
namespace Go.Proofs.YthngimdjjmhboaaGreatDoor
open Go.RowKit
set_option linter.unusedVariables false
set_option linter.unusedSimpArgs false

set_option maxRecDepth 20000 in
set_option maxHeartbeats 4000000 in
theorem implMapGet_any (a:Option Addr) (cap:Nat) (ps:List (Int × Int)) (x:Int) (w:World) (hb:Pls w a ps) (hn:ps.length≤1048576) :
  Calls Tryz.prog 96 #[.agg #[.slice a ps.length cap],.int .i64 x] w fun e w'=>e=.returned (.tuple #[.agg #[.int .i64 (gtP ps x).1,.int .i64 (gtP ps x).2],.bool (gtB ps x)])∧Below w.heap.size w w':=by
 have hw:Below w.heap.size w ((w.alloc (Obj.cells #[Value.slice a ps.length cap] 44)).alloc (Obj.cells #[.int .i64 0,.int .i64 0] 127)):=((Below.refl _ _).alloc (Nat.le_refl _) _).alloc (by simp) _
 have e1:(w.alloc (Obj.cells #[Value.slice a ps.length cap] 44)).heap.size=w.heap.size+1:=by simp
 have t0:((w.alloc (Obj.cells #[Value.slice a ps.length cap] 44)).alloc (Obj.cells #[.int .i64 0,.int .i64 0] 127)).cell? ⟨w.heap.size+1,0,none⟩=some (.int .i64 0):=by rw [←e1];simp
 have t1:((w.alloc (Obj.cells #[Value.slice a ps.length cap] 44)).alloc (Obj.cells #[.int .i64 0,.int .i64 0] 127)).cell? ⟨w.heap.size+1,1,none⟩=some (.int .i64 0):=by rw [←e1];simp
 have f0:((w.alloc (Obj.cells #[Value.slice a ps.length cap] 44)).alloc (Obj.cells #[.int .i64 0,.int .i64 0] 127)).frozen? ⟨w.heap.size+1,0,none⟩=false:=by rw [←e1];simp
 have f1:((w.alloc (Obj.cells #[Value.slice a ps.length cap] 44)).alloc (Obj.cells #[.int .i64 0,.int .i64 0] 127)).frozen? ⟨w.heap.size+1,1,none⟩=false:=by rw [←e1];simp
 have tl:w.heap.size+1<((w.alloc (Obj.cells #[Value.slice a ps.length cap] 44)).alloc (Obj.cells #[.int .i64 0,.int .i64 0] 127)).heap.size:=by simp
 have HAT:=atlasOf_any a cap ps _ (hb.below hw (Nat.le_refl _)) hn
 clear e1
 have HB:Hid (Pls w a ps):=hb
 clear hb
 go_enter Tryz.func96,Tryz.ntmps96
 go_wp2_with fail
 refine HAT.mono ?_
 clear HAT
 generalize (w.alloc (Obj.cells #[Value.slice a ps.length cap] 44)).alloc (Obj.cells #[.int .i64 0,.int .i64 0] 127)=W at *
 rintro e w1 ⟨hr,hb1⟩
 have r0:=keep hb1 tl t0
 have r1:=keep hb1 tl t1
 have g0:=(hb1.frozen (p:=⟨w.heap.size+1,0,none⟩) tl).trans f0
 have g1:=(hb1.frozen (p:=⟨w.heap.size+1,1,none⟩) tl).trans f1
 have rl:w.heap.size+1<w1.heap.size:=Nat.lt_of_lt_of_le tl hb1.size
 have HB1:Hid (Below w.heap.size w w1):=hw.trans (hb1.mono hw.size)
 clear hb1 t0 t1 f0 f1 tl hw
 rcases hr with ⟨hm,R,M,rfl,hA,hL,-⟩ | ⟨hm,rfl⟩
 ·have a0:=hA.c0
  have HPO:=placeOf_any a cap ps x w1 (HB.out.below HB1.out (Nat.le_refl _)) hn
  have HG:Hid (gtP ps x=plcO ps x∧gtB ps x=!nwh (plcO ps x)):=⟨by unfold gtP;rw [hm];rfl,by unfold gtB;rw [hm];rfl⟩
  clear hm hA hL
  generalize plcO ps x=q at *
  obtain ⟨y,z⟩:=q
  simp only at HPO
  go_wp2_with fail
  refine HPO.mono ?_
  clear HPO
  rintro e w2 ⟨rfl,hb2⟩
  have hb3:Below w1.heap.size w1 (w2.alloc (Obj.cells #[.int .i64 y,.int .i64 z] 127)):=hb2.alloc hb2.size _
  have s0:=keep hb3 rl r0
  have s1:=keep hb3 rl r1
  have k0:=(hb3.frozen (p:=⟨w.heap.size+1,0,none⟩) rl).trans g0
  have k1:=(hb3.frozen (p:=⟨w.heap.size+1,1,none⟩) rl).trans g1
  have b0:(w2.alloc (Obj.cells #[.int .i64 y,.int .i64 z] 127)).cell? ⟨w2.heap.size,0,none⟩=some (.int .i64 y):=by simp
  have b1:(w2.alloc (Obj.cells #[.int .i64 y,.int .i64 z] 127)).cell? ⟨w2.heap.size,1,none⟩=some (.int .i64 z):=by simp
  have bl:w2.heap.size<(w2.alloc (Obj.cells #[.int .i64 y,.int .i64 z] 127)).heap.size:=by simp
  have sl:w.heap.size+1<(w2.alloc (Obj.cells #[.int .i64 y,.int .i64 z] 127)).heap.size:=Nat.lt_of_lt_of_le rl hb3.size
  have hne:w2.heap.size≠w.heap.size+1:=by have:=hb2.size;omega
  have HB3:Hid (Below w.heap.size w (w2.alloc (Obj.cells #[.int .i64 y,.int .i64 z] 127))):=HB1.out.trans (hb3.mono HB1.out.size)
  clear hb2 hb3 r0 r1 g0 g1 rl HB1 a0
  go_wp2_with fail
  generalize w2.heap.size=Q at *
  generalize w2.alloc (Obj.cells #[.int .i64 y,.int .i64 z] 127)=V at *
  have HNW:=isNowhere_any y z V.drew
  go_region_with (go_at_call 138;refine HNW.mono ?_;rintro e w8 ⟨rfl,hb8'⟩;have hb8:Below V.heap.size V w8:=Below.drewS hb8';have c0:=keep hb8 bl b0;have c1:=keep hb8 bl b1;have u0:=keep hb8 sl s0;have u1:=keep hb8 sl s1;have m0:=(hb8.frozen (p:=⟨w.heap.size+1,0,none⟩) sl).trans k0;have m1:=(hb8.frozen (p:=⟨w.heap.size+1,1,none⟩) sl).trans k1;have HB8:Hid (Below w.heap.size w w8):=HB3.out.trans (hb8.mono HB3.out.size);clear hb8 hb8')
  all_goals
   go_wp2
   refine bodyPost_ret (v:=.tuple #[.agg #[.int .i64 y,.int .i64 z],.bool (!nwh (y,z))]) (by simp [results,Tryz.results96,go_sem,u0,u1]) rfl ⟨by rw [HG.out.1,HG.out.2],?_⟩
   exact (HB8.out.setCell (p:=⟨w.heap.size+1,0,none⟩) (by simp) _).setCell (p:=⟨w.heap.size+1,1,none⟩) (by simp) _
 ·have HG:Hid (gtP ps x=dp∧gtB ps x=false):=⟨by unfold gtP;rw [hm];rfl,by unfold gtB;rw [hm];rfl⟩
  clear hm
  go_wp2
  refine bodyPost_ret (v:=.tuple #[.agg #[.int .i64 0,.int .i64 0],.bool false]) (by simp [results,Tryz.results96,go_sem,r0,r1]) rfl ⟨by rw [HG.out.1,HG.out.2];rfl,?_⟩
  exact (HB1.out.setCell (p:=⟨w.heap.size+1,0,none⟩) (by simp) _).setCell (p:=⟨w.heap.size+1,1,none⟩) (by simp) _
end Go.Proofs.YthngimdjjmhboaaGreatDoor
