/-
  The program's reader of a sector: what is taken from it, one byte, two bytes as a number; where it is over too soon it gives up by a panic.
-/
import Derived.Test.YthngimdjjmhboaaGreatDoorElD
import Derived.WalkLawsBesides
namespace Go.Proofs.YthngimdjjmhboaaGreatDoor
open Go.RowKit
set_option linter.unusedVariables false
set_option linter.unusedSimpArgs false

structure PrR (W:World) (R b o L c p:Nat):Prop where
 c0:∃ q,W.cell? ⟨R,0,none⟩=some (.slice (some ⟨b,q,none⟩) (L - p) (c - p))∧(p<c→q=o+p)
 f0:W.frozen? ⟨R,0,none⟩=false
 lt:R<W.heap.size
 le:p≤L
 lc:L≤c
theorem PrR.keep {W W':World} {R b o L c p B:Nat} (h:PrR W R b o L c p) (hb:Below B W W') (hB:R<B):PrR W' R b o L c p:=by
 obtain ⟨⟨q,c0,hq⟩,f0,hl,hp,hc⟩:=h
 exact ⟨⟨q,Go.Proofs.YthngimdjjmhboaaGreatDoor.keep hb hB c0,hq⟩,(hb.frozen (p:=⟨R,0,none⟩) hB).trans f0,Nat.lt_of_lt_of_le hl hb.size,hp,hc⟩
theorem PrR.set {W:World} {R b o L c p k q:Nat} (h:PrR W R b o L c p) (hk:p+k≤L) (hq:p+k<c→q=o+(p+k)):PrR (W.setCell ⟨R,0,none⟩ (.slice (some ⟨b,q,none⟩) (L - p - k) (c - p - k))) R b o L c (p+k):=by
 obtain ⟨⟨q0,c0,hq0⟩,f0,hl,hp,hc⟩:=h
 refine ⟨⟨q,?_,hq⟩,by simp [go_sem,f0],by simpa using hl,hk,hc⟩
 rw [show L - (p+k)=L - p - k by omega,show c - (p+k)=c - p - k by omega]
 simp [go_sem,c0]

set_option maxHeartbeats 1600000 in
theorem takeBytes_yes (R b o L c p k:Nat) (w:World) (h:PrR w R b o L c p) (hk:p+k≤L) (hL:c≤9223372036854775807) :
  Calls Tryz.prog 206 #[.pointer (some ⟨R,0,none⟩),.int .i64 k] w fun e w'=>(∃ q,e=.returned (.slice (some ⟨b,q,none⟩) k (c - p))∧(p<c→q=o+p))∧PrR w' R b o L c (p+k)∧Only (fun x=>x=R) w w':=by
 have HR:Hid (PrR w R b o L c p):=h
 obtain ⟨⟨q,c0,hq⟩,f0,hl,hp,hc⟩:=h
 have h1:¬((k:Int) > ((L - p:Nat):Int)):=by omega
 have h2:(k:Int)≤((c - p:Nat):Int):=by omega
 have h3:k≤L - p:=by omega
 have h4:k≤c - p:=by omega
 by_cases h5:c - p - k=0
 ·have HQ:Hid ((p<c→q=o+p)∧PrR (w.setCell ⟨R,0,none⟩ (.slice (some ⟨b,q,none⟩) (L - p - k) (c - p - k))) R b o L c (p+k)):=⟨hq,HR.out.set hk (fun h=>by omega)⟩
  rw [h5] at HQ
  clear hq
  go_enter Tryz.func206,Tryz.ntmps206
  go_wp2
  go_ret
  exact ⟨⟨q,rfl,HQ.out.1⟩,HQ.out.2,(Only.refl (fun x=>x=R) w).setCell (p:=⟨R,0,none⟩) (.inl rfl) _⟩
 ·have hq1:=hq (by omega)
  subst hq1
  have HQ:Hid ((p<c→o+p=o+p)∧PrR (w.setCell ⟨R,0,none⟩ (.slice (some ⟨b,o+p+k,none⟩) (L - p - k) (c - p - k))) R b o L c (p+k)):=⟨hq,HR.out.set hk (fun h=>by omega)⟩
  clear hq
  go_enter Tryz.func206,Tryz.ntmps206
  go_wp2
  go_ret
  exact ⟨⟨o+p,rfl,fun _=>rfl⟩,HQ.out.2,(Only.refl (fun x=>x=R) w).setCell (p:=⟨R,0,none⟩) (.inl rfl) _⟩

set_option maxHeartbeats 1600000 in
theorem takeBytes_no (R b o L c p k:Nat) (T:TypeId) (x:Value) (w:World) (h:PrR w R b o L c p) (hk:L<p+k) (hL:c≤9223372036854775807) (hk2:k≤281474976710656) (hg:w.cell? ⟨16,0,none⟩=some (.iface T x)) :
  Calls Tryz.prog 206 #[.pointer (some ⟨R,0,none⟩),.int .i64 k] w fun e w'=>e=.panicked [{ v:=.iface T x,recovered:=false }]∧w'=w:=by
 obtain ⟨⟨q,c0,hq⟩,f0,hl,hp,hc⟩:=h
 have h1:((k:Int) > ((L - p:Nat):Int)):=by omega
 go_enter Tryz.func206,Tryz.ntmps206
 go_wp2
 exact ⟨rfl,rfl,rfl⟩

theorem one_yes (R b o c p:Nat) (zs:List Int) (w:World) (h:PrR w R b o zs.length c p) (hp:p<zs.length) (hL:c≤9223372036854775807) (hz:∀ i,i<zs.length→w.cell? ⟨b,o+i,none⟩=some (.int .u8 (zs.getD i 0))) (hr:0≤zs.getD p 0∧zs.getD p 0≤255) (hb:b≠R) (hbl:b<w.heap.size) :
  Calls Tryz.prog 189 #[.pointer (some ⟨R,0,none⟩)] w fun e w'=>e=.returned (.int .i64 (zs.getD p 0))∧PrR w' R b o zs.length c (p+1)∧Only (fun x=>x=R) w w':=by
 have HT:=takeBytes_yes R b o zs.length c p 1 w h (by omega) hL
 have HZ:Hid (w.cell? ⟨b,o+p,none⟩=some (.int .u8 (zs.getD p 0))∧p<c):=⟨hz p hp,by have:=h.lc;omega⟩
 clear hz h
 generalize zs.getD p 0=y at *
 go_enter Tryz.func189,Tryz.ntmps189
 go_wp2_with fail
 refine HT.mono ?_
 clear HT
 rintro e w1 ⟨⟨q,rfl,hq⟩,hR,ho⟩
 have hq1:=hq HZ.out.2
 subst hq1
 have z1:=ho.cell hbl (fun h=>hb h) HZ.out.1
 have HR:Hid (PrR w1 R b o zs.length c (p+1)∧Only (fun x=>x=R) w w1):=⟨hR,ho⟩
 clear hR ho hq HZ
 go_wp2
 go_ret
 exact ⟨by go_num,HR.out.1,HR.out.2⟩
end Go.Proofs.YthngimdjjmhboaaGreatDoor
