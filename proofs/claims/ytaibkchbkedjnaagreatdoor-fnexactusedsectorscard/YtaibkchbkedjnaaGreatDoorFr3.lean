/-
  slices.Grow of nothing, and slices.Concat of two rows of places.
-/
import Derived.Test.YtaibkchbkedjnaaGreatDoorPlAp
import Derived.Lib.AppendZeros
namespace Go.Proofs.YtaibkchbkedjnaaGreatDoor
open Go.RowKit
set_option linter.unusedVariables false
set_option linter.unusedSimpArgs false

set_option maxRecDepth 20000 in
set_option maxHeartbeats 2000000 in
theorem growPl_nil (n:Nat) (w:World) (h0:0<n) (hn:n≤1000000) :
  Calls Tryz.prog 154 #[.slice none 0 0,.int .i64 n] w fun e w'=>(∃ c,e=.returned (.slice (some ⟨w.heap.size,0,none⟩) 0 c)∧OVp w' w.heap.size (.slice (some ⟨w.heap.size,0,none⟩) 0 c) [])∧Below w.heap.size w w':=by
 obtain ⟨i0,hi,hz0,hz1,hz2⟩:=info_parts Tryz.infoPl
 have hG:=grownCap_ge w n 0 127
 have hGm:grownCap w n 0 127≤maxLen:=grownCap_le_maxLen w n 0 127 (by unfold maxLen;omega)
 have hrun:∀ ty,(Builtin.append_ #[42,3] ty #[.slice none 0 0,.int .i64 n]).run Tryz.prog w=.ok (.slice (some ⟨w.heap.size,0,none⟩) n (grownCap w n 0 127)) (w.drew.alloc (.cells (Builtin.zeroCells (Value.agg #[.int .i64 0,.int .i64 0]).cells n++Builtin.zeroCells (Value.agg #[.int .i64 0,.int .i64 0]).cells (grownCap w n 0 127 - n)) 127)):=fun ty=>
  Lib.run_append_nil_zeros w 42 3 ty 127 i0 _ .i64 .i64 Tryz.underlying42 Tryz.underlying3 hi hz0 n h0 (by omega) (by omega) (by rw [hz2];omega)
 have HOV:Hid (OVp (w.drew.alloc (.cells (Builtin.zeroCells (Value.agg #[.int .i64 0,.int .i64 0]).cells n++Builtin.zeroCells (Value.agg #[.int .i64 0,.int .i64 0]).cells (grownCap w n 0 127 - n)) 127)) w.heap.size (.slice (some ⟨w.heap.size,0,none⟩) 0 (grownCap w n 0 127)) []):=
  ⟨⟨by simp,.inr ⟨w.heap.size,_,_,rfl,Nat.le_refl _,heap_alloc_new w.drew _,Nat.zero_le _,hGm,by
   simp only [Array.size_append,size_zeroCells,Value.cells]
   simp
   omega,by simp⟩⟩,by simp⟩
 have HBL:Hid (Below w.heap.size w (w.drew.alloc (.cells (Builtin.zeroCells (Value.agg #[.int .i64 0,.int .i64 0]).cells n++Builtin.zeroCells (Value.agg #[.int .i64 0,.int .i64 0]).cells (grownCap w n 0 127 - n)) 127))):=(Below.refl _ _).drew.alloc (Nat.le_refl _) _
 generalize grownCap w n 0 127=G at *
 generalize (w.drew.alloc (.cells (Builtin.zeroCells (Value.agg #[.int .i64 0,.int .i64 0]).cells n++Builtin.zeroCells (Value.agg #[.int .i64 0,.int .i64 0]).cells (G - n)) 127))=W at *
 have hG63:G≤9223372036854775807:=by unfold maxLen at hGm;omega
 have hn1:¬((n:Int)<0):=by omega
 have hn2:(n:Int) > 0:=by omega
 have hG0:¬G=0:=by omega
 clear hi hz0 hz1 hz2 hGm
 go_enter Tryz.func154,Tryz.ntmps154
 go_wp2_with (at_builtin;refine Lib.wpList_append_run _ rfl _ _ _ _ rfl _ _ rfl rfl _ _ (hrun _) ?_)
 go_ret
 exact ⟨⟨G,rfl,HOV.out⟩,HBL.out⟩

set_option maxRecDepth 20000 in
set_option maxHeartbeats 4000000 in
theorem concatPl_any (g:Nat) (xa ya:Addr) (xc yc:Nat) (ps qs:List (Int × Int)) (w:World) (hg:g<w.heap.size) (hc0:w.cell? ⟨g,0,none⟩=some (.slice (some xa) ps.length xc)) (hc1:w.cell? ⟨g,1,none⟩=some (.slice (some ya) qs.length yc)) (hx:Pls w (some xa) ps) (hy:Pls w (some ya) qs) (h1:0<ps.length∧ps.length≤1000) (h2:0<qs.length∧qs.length≤1000) :
  Calls Tryz.prog 111 #[.slice (some ⟨g,0,none⟩) 2 2] w fun e w'=>(∃ a c,e=.returned (.slice a (ps++qs).length c)∧OVp w' w.heap.size (.slice a (ps++qs).length c) (ps++qs))∧Below w.heap.size w w':=by
 obtain ⟨N,hN⟩:∃ N:Nat,N=ps.length+qs.length:=⟨_,rfl⟩
 have HG:=growPl_nil N w (by omega) (by omega)
 have HN:Hid (N=ps.length+qs.length∧True):=⟨hN,trivial⟩
 have hN2:(ps.length:Int)+(qs.length:Int)=(N:Int):=by omega
 have HN2:Hid ((ps.length:Int)+(qs.length:Int)=(N:Int)∧True):=⟨hN2,trivial⟩
 have HX:Hid (Pls w (some xa) ps∧Pls w (some ya) qs):=⟨hx,hy⟩
 have HL:Hid ((ps++qs).length=N∧True):=⟨by rw [List.length_append];omega,trivial⟩
 have HLP:Hid (ps.length+qs.length≤1000000):=(by omega:ps.length+qs.length≤1000000)
 rw [HL.out.1]
 have hNb:N≤2000:=by omega
 clear hN hx hy hN2
 generalize hp:ps.length=n1 at *
 generalize hq:qs.length=n2 at *
 have HP:Hid (ps.length=n1∧qs.length=n2):=⟨hp,hq⟩
 clear hp hq
 go_enter Tryz.func111,Tryz.ntmps111
 go_wp2
 go_loopw [3,11] (fun s i wr=>w=wr∧((i=.int .i64 0∧s=.int .i64 0)∨(i=.int .i64 1∧s=.int .i64 (n1:Int))∨(i=.int .i64 2∧s=.int .i64 (N:Int)))) (fun _ i _=>2 - (intOf i).toNat)
 case atStart=>exact ⟨rfl,.inl ⟨rfl,rfl⟩⟩
 case round=>
  obtain ⟨rfl,⟨rfl,rfl⟩ | ⟨rfl,rfl⟩ | ⟨rfl,rfl⟩⟩:=hrel
  ·go_wp2
   go_roundw
   case rel=>exact ⟨trivial,.inr (.inl ⟨by go_num,by go_num⟩)⟩
   case measure=>simp [intOf]
  ·have hNN:=HN2.out.1
   have hn0:¬((n1:Int)+(n2:Int)<0):=by omega
   clear hNN
   go_wp2
   go_roundw
   case rel=>exact ⟨trivial,.inr (.inr ⟨by go_num,by rw [←HN2.out.1]⟩)⟩
   case measure=>simp [intOf]
  ·go_wp2_with fail
   refine HG.mono ?_
   clear HG
   rintro e w1 ⟨⟨c,rfl,hov⟩,hb1⟩
   have d0:=keep hb1 hg hc0
   have d1:=keep hb1 hg hc1
   have HO:Hid (OVp w1 w.heap.size (.slice (some ⟨w.heap.size,0,none⟩) 0 c) []∧Below w.heap.size w w1):=⟨hov,hb1⟩
   clear hov
   go_wp2
   go_loopw [6,27] (fun v i wr=>Below w.heap.size w wr∧∃ a c',((i=.int .i64 0∧v=.slice a 0 c'∧OVp wr w.heap.size (.slice a 0 c') [])∨(i=.int .i64 1∧v=.slice a n1 c'∧OVp wr w.heap.size (.slice a n1 c') ps)∨(i=.int .i64 2∧v=.slice a N c'∧OVp wr w.heap.size (.slice a N c') (ps++qs)))) (fun _ i _=>2 - (intOf i).toNat)
   case atStart=>exact ⟨HO.out.2,_,_,.inl ⟨rfl,rfl,HO.out.1⟩⟩
   case round=>
    obtain ⟨hbel,a,c',h⟩:=hrel
    have HR:Hid (Below w.heap.size w wr):=hbel
    have e0:=keep hbel hg hc0
    have e1:=keep hbel hg hc1
    have HXY:Hid (Pls wr (some xa) ps∧Pls wr (some ya) qs):=⟨HX.out.1.below hbel (Nat.le_refl _),HX.out.2.below hbel (Nat.le_refl _)⟩
    clear hbel d0 d1 hc0 hc1
    rcases h with ⟨rfl,rfl,hov⟩ | ⟨rfl,rfl,hov⟩ | ⟨rfl,rfl,hov⟩
    ·have HOV:Hid (OVp wr w.heap.size (.slice a 0 c') []):=hov
     clear hov
     go_wp2_with (at_builtin;(refine wpList_append_pls 42 Tryz.underlying42 rfl (.tmp 31) (.tmp 32) rfl w.heap.size (.slice a 0 c') [] ps rfl HOV.out xa xc (by rw [HP.out.1];rfl) HXY.out.1 (by have:=HLP.out;have:=HP.out;simp;omega) HR.out.size ?_;intro v1 w2 hov1 hgr1;have HB1:Hid (Below w.heap.size w w2):=appP_below HR.out HR.out.size HOV.out hgr1;obtain ⟨a1,c1,hv1⟩:=hov1.form;subst hv1;rw [List.nil_append,HP.out.1] at hov1;have HV1:Hid (OVp w2 w.heap.size (.slice a1 n1 c1) ps):=hov1;rw [List.nil_append,HP.out.1];clear hov1 hgr1))
     go_roundw
     case rel=>exact ⟨HB1.out,_,_,.inr (.inl ⟨by go_num,rfl,HV1.out⟩)⟩
     case measure=>simp [intOf]
    ·have HOV:Hid (OVp wr w.heap.size (.slice a n1 c') ps):=hov
     clear hov
     go_wp2_with (at_builtin;(refine wpList_append_pls 42 Tryz.underlying42 rfl (.tmp 31) (.tmp 32) rfl w.heap.size (.slice a n1 c') ps qs rfl HOV.out ya yc (by rw [HP.out.2];rfl) HXY.out.2 (by have:=HLP.out;have:=HP.out;omega) HR.out.size ?_;intro v1 w2 hov1 hgr1;have HB1:Hid (Below w.heap.size w w2):=appP_below HR.out HR.out.size HOV.out hgr1;obtain ⟨a1,c1,hv1⟩:=hov1.form;subst hv1;rw [HL.out.1] at hov1;have HV1:Hid (OVp w2 w.heap.size (.slice a1 N c1) (ps++qs)):=hov1;rw [HL.out.1];clear hov1 hgr1))
     go_roundw
     case rel=>exact ⟨HB1.out,_,_,.inr (.inr ⟨by go_num,rfl,HV1.out⟩)⟩
     case measure=>simp [intOf]
    ·have HOV:Hid (OVp wr w.heap.size (.slice a N c') (ps++qs)):=hov
     clear hov
     go_wp2
     go_ret
     exact ⟨⟨_,_,rfl,HOV.out⟩,HR.out⟩
end Go.Proofs.YtaibkchbkedjnaaGreatDoor
