/-
  The model's l1put: bits put behind others, one by one, the lowest first.
-/
import Derived.Test.YtaibkchbkedjnaaGreatDoorElC
import Derived.Test.YtaibkchbkedjnaaGreatDoorOps
import Derived.BigQuiet
namespace Go.Proofs.YtaibkchbkedjnaaGreatDoor
open Go.RowKit
set_option linter.unusedVariables false

theorem widthOk_any (n:Int) (w:World):Calls Tryz.prog 221 #[.int .i64 n] w fun e w'=>e=.returned (.bool (decide (0≤n∧n≤30)))∧w'=w:=by
 by_cases h0:0≤n
 ·by_cases h1:n≤30
  ·have hE:decide (0≤n∧n≤30)=true:=by simp [h0,h1]
   rw [hE]
   clear hE
   go_enter Tryz.func221,Tryz.ntmps221
   go_wp2
   go_ret
   exact ⟨by simp,rfl⟩
  ·have hE:decide (0≤n∧n≤30)=false:=by simp [h1]
   rw [hE]
   clear hE
   go_enter Tryz.func221,Tryz.ntmps221
   go_wp2
   go_ret
   exact ⟨by simp,rfl⟩
 ·have hE:decide (0≤n∧n≤30)=false:=by simp [h0]
  rw [hE]
  clear hE
  go_enter Tryz.func221,Tryz.ntmps221
  go_wp2
  go_ret
  exact ⟨by simp,rfl⟩

def Sent (w:World) (g:Nat):Prop:=∃ T x,w.cell? ⟨g,0,none⟩=some (.iface T x)

theorem Sent.below {w w':World} {g B:Nat} (h:Sent w g) (hb:Below B w w') (hg:g<B):Sent w' g:=by
 obtain ⟨T,x,hc⟩:=h
 exact ⟨T,x,keep hb hg hc⟩

set_option maxHeartbeats 800000 in
/-- The reader lies at block R: its bits' bytes, their number, its place. -/
theorem number_any (R:Nat) (a:Option Addr) (cap:Nat) (zs:List Int) (N at0 p width:Int) (n v:Nat) (w:World) (hb:Byt w a zs) (hz:zs=enc n v) (hn:n≤4104)
  (c0:w.cell? ⟨R,0,none⟩=some (.slice a zs.length cap))
  (h0:0≤p) (h1:0≤width) (h2:width≤30) (h3:p+width≤n) :
  Calls Tryz.prog 222 #[.pointer (some ⟨R,0,none⟩),.int .i64 p,.int .i64 width] w fun e w'=>e=.returned (.int .i64 (v / 2 ^ p.toNat % 2 ^ width.toNat:Nat))∧w'=w:=by
 obtain ⟨q,rfl⟩:=Int.eq_ofNat_of_zero_le h0
 obtain ⟨m,rfl⟩:=Int.eq_ofNat_of_zero_le h1
 simp only [Int.toNat_natCast] at *
 have HZ:Hid (zs=enc n v):=hz
 have hlen:zs.length=(n+7) / 8:=by rw [hz,enc_len]
 have HL:Hid (zs.length=(n+7) / 8):=hlen
 clear hz hlen
 go_enter Tryz.func222,Tryz.ntmps222
 go_wp2
 go_loop [7,12] (fun x i=>∃ j:Nat,j≤m∧i=.int .i64 j∧x=.int .i64 (v / 2 ^ q % 2 ^ j:Nat)) (fun _ i=>m - (intOf i).toNat)
 case atStart=>exact ⟨0,Nat.zero_le _,rfl,by simp [Nat.mod_one]⟩
 case round=>
  obtain ⟨j,hj,rfl,rfl⟩:=hrel
  by_cases hlt:j<m
  ·have hx:v / 2 ^ q % 2 ^ j<2 ^ j:=Nat.mod_lt _ (Nat.pow_pos (by omega))
   have HX:=get_up v q j
   have HB:=enc_bit n v (q+j) (by omega)
   rw [←HZ.out] at HB
   have hbit:v / 2 ^ (q+j) % 2<2:=Nat.mod_lt _ (by omega)
   have hll:(q+j) / 8<zs.length:=by have:=HL.out;omega
   obtain ⟨b,off,rfl,hbl,hc⟩:=hb.len_pos ((q+j) / 8) hll
   have hs:=hc ((q+j) / 8) hll
   have hr:=getD_rng hb.1 ((q+j) / 8)
   generalize hX:v / 2 ^ q % 2 ^ j=X at *
   generalize hbt:v / 2 ^ (q+j) % 2=bt at *
   generalize zs.getD ((q+j) / 8) 0=z at *
   have HX':Hid (v / 2 ^ q % 2 ^ (j+1)=X+bt * 2 ^ j):=HX
   have HB':Hid (z.toNat / 2 ^ ((q+j) % 8) % 2=bt):=HB
   clear HX HB hX hbt hc
   go_wp2
   go_round
   case rel=>exact ⟨j+1,by omega,by go_num,by rw [or_step64 X j _ z hr hx (by omega),HB'.out,HX'.out]⟩
   case measure=>simp [intOf];omega
  ·have hj0:j=m:=by omega
   subst hj0
   go_wp2
   go_ret
   exact ⟨rfl,rfl⟩

set_option maxHeartbeats 1600000 in
theorem get_no (R:Nat) (a:Option Addr) (cap:Nat) (zs:List Int) (n:Nat) (p width:Int) (w:World) (hn:n≤4104) (pb:p≤9223372036854775807)
  (c0:w.cell? ⟨R,0,none⟩=some (.slice a zs.length cap)) (c1:w.cell? ⟨R,1,none⟩=some (.int .i64 n)) (c2:w.cell? ⟨R,2,none⟩=some (.int .i64 p))
  (s0:Sent w 17) (s2:Sent w 18)
  (h:width<0∨30<width∨p<0∨(n:Int) - width<p) :
  Calls Tryz.prog 213 #[.pointer (some ⟨R,0,none⟩),.int .i64 width] w fun e w'=>(∃ T x,e=.returned (.tuple #[.int .i64 0,.iface T x]))∧∃ m,w'=w.drewN m:=by
 obtain ⟨T0,x0,g0⟩:=s0
 obtain ⟨T2,x2,g2⟩:=s2
 have key:(width<0∨30<width)∨(0≤width∧width≤30∧p<0)∨(0≤width∧width≤30∧0≤p∧(n:Int) - width<p):=by omega
 clear h
 rcases key with hh | ⟨k1,k2,k3⟩ | ⟨k1,k2,k3,k4⟩
 ·have hd:Hid (decide (0≤width∧width≤30)=false):=by simp [Hid];omega
  go_enter Tryz.func213,Tryz.ntmps213
  go_wp2_with fail
  refine (widthOk_any width _).mono ?_
  rintro e w1 ⟨rfl,rfl⟩
  rw [hd.out]
  go_wp2_with fail
  go_quiet (fail)
  go_wp2
  go_ret2
  exact ⟨⟨_,_,rfl⟩,_,rfl⟩
 ·have hd:Hid (decide (0≤width∧width≤30)=true):=by simp [Hid];omega
  have hp:decide (p<0)=true:=by simpa using k3
  go_enter Tryz.func213,Tryz.ntmps213
  go_wp2_with fail
  refine (widthOk_any width _).mono ?_
  rintro e w1 ⟨rfl,rfl⟩
  rw [hd.out]
  go_wp2_with fail
  go_quiet (fail)
  go_wp2
  go_quiet (fail)
  go_wp2
  go_ret2
  exact ⟨⟨_,_,rfl⟩,_,World.drewN_drewN ..⟩
 ·have hd:Hid (decide (0≤width∧width≤30)=true):=by simp [Hid];omega
  have hp:decide (p<0)=false:=by simpa using k3
  go_enter Tryz.func213,Tryz.ntmps213
  go_wp2_with fail
  refine (widthOk_any width _).mono ?_
  rintro e w1 ⟨rfl,rfl⟩
  rw [hd.out]
  go_wp2_with fail
  go_quiet (fail)
  go_wp2
  go_quiet (fail)
  go_wp2
  go_ret2
  exact ⟨⟨_,_,rfl⟩,_,World.drewN_drewN ..⟩

set_option maxHeartbeats 1600000 in
/-- The bytes may hold more bits than the reader has. -/
theorem get_yesM (R:Nat) (a:Option Addr) (cap:Nat) (zs:List Int) (n M v:Nat) (p width:Int) (w:World) (hn:n≤4104) (hM:M≤4104) (hnM:n≤M) (hb:Byt w a zs) (hz:zs=enc M v)
  (c0:w.cell? ⟨R,0,none⟩=some (.slice a zs.length cap)) (c1:w.cell? ⟨R,1,none⟩=some (.int .i64 n)) (c2:w.cell? ⟨R,2,none⟩=some (.int .i64 p)) (f2:w.frozen? ⟨R,2,none⟩=false)
  (k1:0≤width) (k2:width≤30) (k3:0≤p) (k4:p≤(n:Int) - width) :
  Calls Tryz.prog 213 #[.pointer (some ⟨R,0,none⟩),.int .i64 width] w fun e w'=>
   e=.returned (.tuple #[.int .i64 (v / 2 ^ p.toNat % 2 ^ width.toNat:Nat),.nilIface])∧∃ m,w'=(w.drewN m).setCell ⟨R,2,none⟩ (.int .i64 (p+width)):=by
 have hd:Hid (decide (0≤width∧width≤30)=true):=by simp [Hid];omega
 have hp:decide (p<0)=false:=by simpa using k3
 have HZ:Hid (zs=enc M v):=hz
 clear hz
 go_enter Tryz.func213,Tryz.ntmps213
 go_wp2_with fail
 refine (widthOk_any width _).mono ?_
 rintro e w1 ⟨rfl,rfl⟩
 rw [hd.out]
 go_wp2_with fail
 go_quiet (fail)
 go_wp2_with fail
 refine (number_any R a cap zs n p p width M v _ (hb.drewN _) HZ.out hM (by simpa using c0) k3 k1 k2 (by omega)).mono ?_
 rintro e w2 ⟨rfl,rfl⟩
 go_wp2
 go_ret2
 exact ⟨rfl,_,rfl⟩

theorem get_yes (R:Nat) (a:Option Addr) (cap:Nat) (zs:List Int) (n v:Nat) (p width:Int) (w:World) (hn:n≤4104) (hb:Byt w a zs) (hz:zs=enc n v)
  (c0:w.cell? ⟨R,0,none⟩=some (.slice a zs.length cap)) (c1:w.cell? ⟨R,1,none⟩=some (.int .i64 n)) (c2:w.cell? ⟨R,2,none⟩=some (.int .i64 p)) (f2:w.frozen? ⟨R,2,none⟩=false)
  (k1:0≤width) (k2:width≤30) (k3:0≤p) (k4:p≤(n:Int) - width) :
  Calls Tryz.prog 213 #[.pointer (some ⟨R,0,none⟩),.int .i64 width] w fun e w'=>
   e=.returned (.tuple #[.int .i64 (v / 2 ^ p.toNat % 2 ^ width.toNat:Nat),.nilIface])∧∃ m,w'=(w.drewN m).setCell ⟨R,2,none⟩ (.int .i64 (p+width)):=
 get_yesM R a cap zs n n v p width w hn hn (Nat.le_refl _) hb hz c0 c1 c2 f2 k1 k2 k3 k4

def RD (w:World) (B R:Nat) (a:Option Addr) (L cap n p:Nat):Prop:=w.heap[R]?=some (.cells #[.slice a L cap,.int .i64 n,.int .i64 p] 261 (0,0))∧B≤R∧B≤w.heap.size

theorem cellRR {w:World} {R j:Nat} {cur:Array Value} {T:TypeId} {v:Value} (hR:w.heap[R]?=some (.cells cur T (0,0))) (hv:cur[j]?=some v):w.cell? ⟨R,j,none⟩=some v:=by
 rw [cell_of_row w R j cur T (0,0) hR];exact hv
theorem RD.frz {w:World} {B R:Nat} {a:Option Addr} {L cap n p:Nat} (h:RD w B R a L cap n p) (j:Nat):w.frozen? ⟨R,j,none⟩=false:=frozen_of_row w R j _ _ h.1

theorem RD.yes {w:World} {B R:Nat} {a:Option Addr} {zs:List Int} {cap n p:Nat} (h:RD w B R a zs.length cap n p) (v:Nat) (width:Int) (hn:n≤4104) (hb:Byt w a zs) (hz:zs=enc n v) (k1:0≤width) (k2:width≤30) (k4:(p:Int)≤(n:Int) - width) :
  Calls Tryz.prog 213 #[.pointer (some ⟨R,0,none⟩),.int .i64 width] w fun e w'=>
   e=.returned (.tuple #[.int .i64 (v / 2 ^ p % 2 ^ width.toNat:Nat),.nilIface])∧RD w' B R a zs.length cap n (p+width.toNat)∧Only (fun k=>k=R) w w'∧Below B w w':=by
 refine (get_yes R a cap zs n v p width w hn hb hz (cellRR (j:=0) h.1 rfl) (cellRR (j:=1) h.1 rfl) (cellRR (j:=2) h.1 rfl) (h.frz 2) k1 k2 (by omega) k4).mono ?_
 rintro e w' ⟨rfl,m,rfl⟩
 have hR:(w.drewN m).heap[R]?=some (.cells #[.slice a zs.length cap,.int .i64 n,.int .i64 p] 261 (0,0)):=h.1
 have hO:Only (fun k=>k=R) w ((w.drewN m).setCell ⟨R,2,none⟩ (.int .i64 ((p:Int)+width))):=by
  have h0:Only (fun k=>k=R) w (w.drewN m):=Only.ofBelow (S:=fun k=>k=R) (B:=w.heap.size) ⟨rfl,rfl,rfl,Nat.le_refl _,fun _ _=>rfl⟩ (Nat.le_refl _)
  exact Only.setCell h0 (p:=⟨R,2,none⟩) (.inl rfl) _
 refine ⟨by simp,⟨?_,h.2.1,Nat.le_trans h.2.2 hO.size⟩,hO,hO.below h.2.2 (fun k hk=>by rw [hk];exact h.2.1)⟩
 rw [heap_setCell_same _ R 2 _ _ _ hR]
 have e:((p:Int)+width)=((p+width.toNat:Nat):Int):=by omega
 rw [e]
 simp

theorem RD.no {w:World} {B R:Nat} {a:Option Addr} {zs:List Int} {cap n p:Nat} (h:RD w B R a zs.length cap n p) (width:Int) (hn:n≤4104) (hp:p≤4104) (s0:Sent w 17) (s2:Sent w 18) (k4:width<0∨30<width∨(n:Int) - width<p) :
  Calls Tryz.prog 213 #[.pointer (some ⟨R,0,none⟩),.int .i64 width] w fun e w'=>(∃ T x,e=.returned (.tuple #[.int .i64 0,.iface T x]))∧∃ m,w'=w.drewN m:=
 get_no R a cap zs n p width w hn (by omega) (cellRR (j:=0) h.1 rfl) (cellRR (j:=1) h.1 rfl) (cellRR (j:=2) h.1 rfl) s0 s2 (by omega)
theorem RD.only {w w':World} {B R:Nat} {a:Option Addr} {L cap n p:Nat} {S:Nat→Prop} (h:RD w B R a L cap n p) (ho:Only S w w') (hs:¬S R):RD w' B R a L cap n p:=
 ⟨(ho.block R (Array.getElem?_eq_some_iff.1 h.1).1 hs).trans h.1,h.2.1,Nat.le_trans h.2.2 ho.size⟩
set_option maxHeartbeats 800000 in
theorem RD.left {w:World} {B R:Nat} {a:Option Addr} {L cap n p:Nat} (h:RD w B R a L cap n p) (hn:n≤4104) (hp:p≤4104) :
  Calls Tryz.prog 217 #[.pointer (some ⟨R,0,none⟩)] w fun e w'=>e=.returned (.int .i64 ((n:Int) - p))∧∃ m,w'=w.drewN m:=by
 have c0:=cellRR (j:=0) h.1 rfl
 have c1:=cellRR (j:=1) h.1 rfl
 have c2:=cellRR (j:=2) h.1 rfl
 clear h
 go_enter Tryz.func217,Tryz.ntmps217
 go_wp2
 go_quiet (fail)
 go_wp2
 go_ret
 exact ⟨rfl,_,rfl⟩
set_option maxHeartbeats 800000 in
theorem left_any (R:Nat) (n p:Nat) (w:World) (hn:n≤4104) (hp:p≤4104)
  (c1:w.cell? ⟨R,1,none⟩=some (.int .i64 n)) (c2:w.cell? ⟨R,2,none⟩=some (.int .i64 p)) :
  Calls Tryz.prog 217 #[.pointer (some ⟨R,0,none⟩)] w fun e w'=>e=.returned (.int .i64 ((n:Int) - p))∧∃ m,w'=w.drewN m:=by
 go_enter Tryz.func217,Tryz.ntmps217
 go_wp2_with fail
 go_quiet (fail)
 go_wp2
 go_ret
 exact ⟨rfl,_,rfl⟩

set_option maxHeartbeats 1600000 in
theorem some_no (R:Nat) (n p:Nat) (X:Value) (w:World) (hn:n≤4104) (hp:p=n)
  (c1:w.cell? ⟨R,1,none⟩=some (.int .i64 n)) (c2:w.cell? ⟨R,2,none⟩=some (.int .i64 p)) (g0:w.cell? ⟨18,0,none⟩=some X) :
  Calls Tryz.prog 242 #[.pointer (some ⟨R,0,none⟩)] w fun e w'=>
   e=.returned (.tuple #[.int .i64 0,.int .i64 0,X])∧∃ m,w'=w.drewN m:=by
 subst hp
 have HL:=left_any R p p w hn hn c1 c2
 rw [Int.sub_self] at HL
 go_enter Tryz.func242,Tryz.ntmps242
 go_wp2_with fail
 refine HL.mono ?_
 rintro e w1 ⟨rfl,m1,rfl⟩
 go_wp2
 go_quiet (fail)
 go_wp2
 exact bodyPost_ret (v:=.tuple #[.int .i64 0,.int .i64 0,X]) (by simp [results,Tryz.results242,go_sem]) rfl ⟨rfl,_,World.drewN_drewN ..⟩

set_option maxHeartbeats 1600000 in
theorem some_yes (R:Nat) (a:Option Addr) (cap:Nat) (zs:List Int) (n M v p:Nat) (w:World) (hn:n≤4104) (hM:M≤4104) (hnM:n≤M) (hb:Byt w a zs) (hz:zs=enc M v) (hp:p<n)
  (c0:w.cell? ⟨R,0,none⟩=some (.slice a zs.length cap)) (c1:w.cell? ⟨R,1,none⟩=some (.int .i64 n)) (c2:w.cell? ⟨R,2,none⟩=some (.int .i64 p)) (f2:w.frozen? ⟨R,2,none⟩=false) :
  Calls Tryz.prog 242 #[.pointer (some ⟨R,0,none⟩)] w fun e w'=>
   e=.returned (.tuple #[.int .i64 (v / 2 ^ p % 2 ^ (min (n - p) 30):Nat),.int .i64 (min (n - p) 30:Nat),.nilIface])∧∃ m,w'=(w.drewN m).setCell ⟨R,2,none⟩ (.int .i64 ((p+min (n - p) 30:Nat):Int)):=by
 have HZ:Hid (zs=enc M v):=hz
 clear hz
 have HL:=left_any R n p w hn (by omega) c1 c2
 obtain ⟨s,hs⟩:∃ s,s=min (n - p) 30:=⟨_,rfl⟩
 rw [←hs]
 have key:(s=30∧30<(n:Int) - (p:Int))∨((n:Int) - (p:Int)=(s:Int)∧(s:Int)≤30∧0<(s:Int)):=by omega
 clear hs
 rcases key with ⟨rfl,hk⟩ | ⟨hk,hk1,hk2⟩
 ·go_enter Tryz.func242,Tryz.ntmps242
  go_wp2_with fail
  refine HL.mono ?_
  rintro e w1 ⟨rfl,m1,rfl⟩
  clear HL
  go_wp2_with fail
  all_goals try (exfalso;omega)
  refine (get_yesM R a cap zs n M v (p:Int) 30 _ hn hM hnM (hb.drewN _) HZ.out (by simpa using c0) (by simpa using c1) (by simpa using c2) (by simpa using f2) (by omega) (by omega) (by omega) (by omega)).mono ?_
  rintro e w2 ⟨rfl,m2,rfl⟩
  go_wp2
  exact bodyPost_ret (v:=.tuple #[.int .i64 (v / 2 ^ p % 2 ^ 30:Nat),.int .i64 30,.nilIface]) (by simp [results,Tryz.results242,go_sem]) rfl ⟨rfl,m1+m2,by simp⟩
 ·rw [hk] at HL
  go_enter Tryz.func242,Tryz.ntmps242
  go_wp2_with fail
  refine HL.mono ?_
  rintro e w1 ⟨rfl,m1,rfl⟩
  clear HL
  go_wp2_with fail
  all_goals try (exfalso;omega)
  refine (get_yesM R a cap zs n M v (p:Int) (s:Int) _ hn hM hnM (hb.drewN _) HZ.out (by simpa using c0) (by simpa using c1) (by simpa using c2) (by simpa using f2) (by omega) (by omega) (by omega) (by omega)).mono ?_
  rintro e w2 ⟨rfl,m2,rfl⟩
  go_wp2
  exact bodyPost_ret (v:=.tuple #[.int .i64 (v / 2 ^ p % 2 ^ s:Nat),.int .i64 s,.nilIface]) (by simp [results,Tryz.results242,go_sem]) rfl ⟨rfl,m1+m2,by simp⟩
def OwnV (w:World) (B:Nat) (v:Value) (zs:List Int):Prop:=w.ownsRow B 5 1 v zs.length (zs.map (Value.int .u8))∧∀ z ∈ zs,0≤z∧z≤255

theorem OwnV.form {w:World} {B:Nat} {v:Value} {zs:List Int} (h:OwnV w B v zs) (hp:0<zs.length):∃ g cap,v=.slice (some ⟨g,0,none⟩) zs.length cap∧Own w B g cap zs:=by
 obtain ⟨g,cap,rfl,_,_⟩:=h.1.form hp
 exact ⟨g,cap,rfl,h⟩

theorem Own.v {w:World} {B g cap:Nat} {zs:List Int} (h:Own w B g cap zs):OwnV w B (.slice (some ⟨g,0,none⟩) zs.length cap) zs:=h

theorem Own.ne {w:World} {B g cap R:Nat} {zs:List Int} {cur:Array Value} {T:TypeId} (h:Own w B g cap zs) (hR:w.heap[R]?=some (.cells cur T (0,0))) (hT:T≠5):g≠R:=by
 rintro rfl
 rcases h.1.2 with ⟨h',_⟩ | ⟨g',cap',cur',h',hg,hh,r⟩
 ·simp at h'
 ·have e:g'=g:=by simp at h';exact h'.1.symm
  subst e
  rw [hR] at hh
  simp at hh
  exact hT hh.2

theorem cellR {w:World} {R j:Nat} {cur:Array Value} {T:TypeId} {v:Value} (hR:w.heap[R]?=some (.cells cur T (0,0))) (hv:cur[j]?=some v):w.cell? ⟨R,j,none⟩=some v:=by
 rw [cell_of_row w R j cur T (0,0) hR];exact hv
theorem frozenR {w:World} {R j:Nat} {cur:Array Value} {T:TypeId} (hR:w.heap[R]?=some (.cells cur T (0,0))):w.frozen? ⟨R,j,none⟩=false:=frozen_of_row w R j cur T hR

theorem put_bit (old X k u:Nat) (hu:u<8) (ho:old<2 ^ u) (hX:X≤1073741824) :
  bits .or .u8 (old:Int) (bits .and .i64 ((X:Int) / 2 ^ k) 1 % 256 * 2 ^ u % 256)=((old+X / 2 ^ k % 2 * 2 ^ u:Nat):Int):=by
 have e:((X:Int) / 2 ^ k)=((X / 2 ^ k:Nat):Int):=by simp
 have hle:X / 2 ^ k≤X:=Nat.div_le_self _ _
 have h1:=i64_and_nat (X / 2 ^ k) 1 (by omega) (by omega)
 rw [show ((1:Nat):Int)=1 from rfl,nat_mask1] at h1
 rw [e,h1]
 have hb:X / 2 ^ k % 2≤1:=by omega
 generalize X / 2 ^ k % 2=bt at *
 have h2:2 ^ u≤2 ^ 7:=Nat.pow_le_pow_right (by omega) (by omega)
 have h3:bt * 2 ^ u≤1 * 2 ^ u:=Nat.mul_le_mul_right _ hb
 have e2:(((bt:Nat):Int) % 256 * 2 ^ u % 256)=((bt * 2 ^ u:Nat):Int):=by
  have:((bt:Nat):Int) % 256=(bt:Int):=by omega
  rw [this,show ((bt:Int) * 2 ^ u)=((bt * 2 ^ u:Nat):Int) from by simp]
  omega
 rw [e2]
 exact or_u8 old (bt * 2 ^ u) u ho (by simp) (by omega) (by omega)

theorem put_close {w W:World} {B g cap R q L:Nat} {v:Value} {Z Z':List Int} {b:Int} (hR:W.heap[R]?=some (.cells #[.slice (some ⟨g,0,none⟩) L cap,.int .i64 (q:Nat)] 155 (0,0)))
  (hZ:Z.length=L) (hown:Own W B g cap Z) (hnext:Z'=Z.set (q / 8) b) (hb:0≤b∧b≤255) (honly:Only (fun k=>k=R∨v.ownBlock=some k) w W)
  (hrow:v.ownBlock=some g∨w.heap.size≤g) :
  ((W.setCell ⟨g,q / 8,none⟩ (.int .u8 b)).setCell ⟨R,1,none⟩ (.int .i64 ((q:Int)+1))).heap[R]?=some (.cells #[.slice (some ⟨g,0,none⟩) L cap,.int .i64 ((q+1:Nat):Int)] 155 (0,0)) ∧
  OwnV ((W.setCell ⟨g,q / 8,none⟩ (.int .u8 b)).setCell ⟨R,1,none⟩ (.int .i64 ((q:Int)+1))) B (.slice (some ⟨g,0,none⟩) L cap) Z' ∧
  Only (fun k=>k=R∨v.ownBlock=some k) w ((W.setCell ⟨g,q / 8,none⟩ (.int .u8 b)).setCell ⟨R,1,none⟩ (.int .i64 ((q:Int)+1)))∧(Value.slice (some ⟨g,0,none⟩) L cap).ownBlock=some g:=by
 have hne:=hown.ne hR (by decide)
 have h1:(W.setCell ⟨g,q / 8,none⟩ (.int .u8 b)).heap[R]?=some (.cells #[.slice (some ⟨g,0,none⟩) L cap,.int .i64 (q:Nat)] 155 (0,0)):=by
  rw [Below.heap_setCell _ _ _ _ (by simpa using hne.symm)];exact hR
 have h2:=hown.store (q / 8) b hb
 have h3:=Own.setCell_other h2 (p:=⟨R,1,none⟩) (by simpa using hne.symm) (.int .i64 ((q:Int)+1))
 refine ⟨?_,?_,?_,rfl⟩
 ·rw [heap_setCell_same _ R 1 _ _ _ h1];simp
 ·rw [hnext]
  have hl:(Z.set (q / 8) b).length=L:=by rw [List.length_set];exact hZ
  have h4:=h3.v
  rw [hl] at h4
  exact h4
 ·refine Only.setCell (Only.setCell honly ?_ _) (.inl (.inl rfl)) _
  rcases hrow with h | h
  ·exact .inl (.inr h)
  ·exact .inr h

theorem app_keep {wr w1:World} {o b:Obj} {row:Option Nat} {R:Nat} (hg:(wr.alloc o).grownBy w1 row) (hR:wr.heap[R]?=some b) (hne:some R≠row):w1.heap[R]?=some b:=by
 have hlt:R<wr.heap.size:=(Array.getElem?_eq_some_iff.1 hR).1
 rw [hg.block R (by simp;omega) hne,Below.heap_alloc wr o R hlt]
 exact hR

theorem put_grown {w wr w1:World} {o:Obj} {B R q g cap:Nat} {au:Option Addr} {cu:Nat} {v:Value} {Z:List Int} (hR:wr.heap[R]?=some (.cells #[.slice au (q / 8) cu,.int .i64 (q:Nat)] 155 (0,0)))
  (hne:some R≠(Value.slice au (q / 8) cu).ownBlock) (hZ:∀ z ∈ Z,0≤z∧z≤255) (hl:Z.length=q / 8)
  (hg:(wr.alloc o).grownBy w1 (Value.slice au (q / 8) cu).ownBlock) (hown:w1.ownsRow B 5 1 (.slice (some ⟨g,0,none⟩) (q / 8+1) cap) (q / 8+1) (Z.map (Value.int .u8)++[.int .u8 0]))
  (hat:(Value.slice au (q / 8) cu).ownBlock=some g∨g=(wr.alloc o).heap.size) (honly:Only (fun k=>k=R∨v.ownBlock=some k) w wr) (hRl:R<w.heap.size)
  (hrow:(Value.slice au (q / 8) cu).ownBlock=v.ownBlock∨∃ k,(Value.slice au (q / 8) cu).ownBlock=some k∧w.heap.size≤k) :
  (w1.setCell ⟨R,0,none⟩ (.slice (some ⟨g,0,none⟩) (q / 8+1) cap)).heap[R]?=some (.cells #[.slice (some ⟨g,0,none⟩) (q / 8+1) cap,.int .i64 (q:Nat)] 155 (0,0)) ∧
  Own (w1.setCell ⟨R,0,none⟩ (.slice (some ⟨g,0,none⟩) (q / 8+1) cap)) B g cap (Z++[0]) ∧
  Only (fun k=>k=R∨v.ownBlock=some k) w (w1.setCell ⟨R,0,none⟩ (.slice (some ⟨g,0,none⟩) (q / 8+1) cap))∧(v.ownBlock=some g∨w.heap.size≤g):=by
 have hR1:=app_keep hg hR hne
 have ho:Own w1 B g cap (Z++[0]):=by
  refine ⟨?_,?_⟩
  ·have e:(Z++[0]).length=q / 8+1:=by simp [hl]
   rw [e]
   simpa using hown
  ·intro z hz
   simp only [List.mem_append,List.mem_singleton] at hz
   rcases hz with hz | rfl
   ·exact hZ z hz
   ·omega
 have hgR:=ho.ne hR1 (by decide)
 have hsz:=honly.size
 refine ⟨?_,ho.setCell_other (by simpa using hgR.symm) _,?_,?_⟩
 ·rw [heap_setCell_same _ R 0 _ _ _ hR1];simp
 ·refine Only.setCell (Only.grown (honly.alloc o) hg ?_) (.inl (.inl rfl)) _
  intro k hk
  rcases hrow with h | ⟨k',h,h'⟩
  ·exact .inl (.inr (h.symm.trans hk))
  ·right
   rw [h] at hk
   simp at hk
   omega
 ·rcases hat with h | h
  ·rcases hrow with h' | ⟨k',h',h''⟩
   ·exact .inl (h'.symm.trans h)
   ·right
    rw [h'] at h
    simp at h
    omega
  ·right
   rw [h]
   simp
   omega

set_option maxHeartbeats 2000000 in
theorem l1put_any (R B:Nat) (v:Value) (n V:Nat) (x width:Int) (w:World) (hR:w.heap[R]?=some (.cells #[v,.int .i64 n] 155 (0,0))) (hv:OwnV w B v (enc n V)) (hV:V<2 ^ n) (hB:B≤w.heap.size)
  (hx:0≤x) (hxb:x≤1073741824) (h1:0≤width) (h2:width≤30) (h3:n≤4104) :
  Calls Tryz.prog 181 #[.pointer (some ⟨R,0,none⟩),.int .i64 x,.int .i64 width] w fun e w'=>e=.returned (.tuple #[]) ∧
   ∃ v',w'.heap[R]?=some (.cells #[v',.int .i64 ((n+width.toNat:Nat):Int)] 155 (0,0))∧OwnV w' B v' (enc (n+width.toNat) (V+(x.toNat % 2 ^ width.toNat) * 2 ^ n)) ∧
    Only (fun k=>k=R∨v.ownBlock=some k) w w'∧(v'.ownBlock=v.ownBlock∨∃ k,v'.ownBlock=some k∧w.heap.size≤k):=by
 obtain ⟨X,rfl⟩:=Int.eq_ofNat_of_zero_le hx
 obtain ⟨m,rfl⟩:=Int.eq_ofNat_of_zero_le h1
 simp only [Int.toNat_natCast] at *
 have hRlt:R<w.heap.size:=(Array.getElem?_eq_some_iff.1 hR).1
 have HR:Hid (w.heap[R]?=some (.cells #[v,.int .i64 n] 155 (0,0))):=hR
 have HV:Hid (OwnV w B v (enc n V)):=hv
 clear hR hv
 obtain ⟨i0,hi,hz0,hz1,hz2⟩:=info_parts Tryz.infoU8
 go_enter Tryz.func181,Tryz.ntmps181
 go_wp2
 go_loopw [6] (fun i wr=>∃ (k:Nat) (u:Value),k≤m∧i=.int .i64 k∧wr.heap[R]?=some (.cells #[u,.int .i64 ((n+k:Nat):Int)] 155 (0,0))∧OwnV wr B u (enc (n+k) (V+(X % 2 ^ k) * 2 ^ n)) ∧
   Only (fun k=>k=R∨v.ownBlock=some k) w wr∧(u.ownBlock=v.ownBlock∨∃ k,u.ownBlock=some k∧w.heap.size≤k)) (fun i _=>m - (intOf i).toNat)
 case atStart=>exact ⟨0,v,Nat.zero_le _,rfl,HR.out,by simpa [Nat.mod_one] using HV.out,Only.refl _ _,.inl rfl⟩
 case round=>
  obtain ⟨k,u,hk,rfl,hRr,hur,honly,hrow⟩:=hrel
  by_cases hlt:k<m
  ·have hVk:V+X % 2 ^ k * 2 ^ n<2 ^ (n+k):=put_lt n V k _ hV (Nat.mod_lt _ (Nat.pow_pos (by omega)))
   have hnext:=enc_step (n+k) (V+X % 2 ^ k * 2 ^ n) 1 (X / 2 ^ k % 2) hVk (by omega) (by omega) (by omega)
   have hpart:=put_part n V X k 1
   rw [Nat.pow_one] at hpart
   rw [hpart] at hnext
   have htop:=enc_top (n+k) _ hVk
   have hlast:=enc_last (n+k) _ hVk
   have hlen:=enc_len (n+k) (V+X % 2 ^ k * 2 ^ n)
   generalize hZp:enc (n+k+1) (V+X % 2 ^ (k+1) * 2 ^ n)=Z' at *
   have HPART:Hid (enc (n+k+1) (V+X % 2 ^ (k+1) * 2 ^ n)=Z'):=hZp
   clear hZp
   generalize (V+X % 2 ^ k * 2 ^ n) / 256 ^ ((n+k) / 8)=old at *
   generalize enc (n+k) (V+X % 2 ^ k * 2 ^ n)=Z at *
   have hq4:n+k≤4134:=by omega
   generalize hq:n+k=q at *
   have HQ:Hid (n+k=q):=hq
   clear hq hVk hpart hV
   have h256:2 ^ (q % 8)≤2 ^ 7:=Nat.pow_le_pow_right (by omega) (by omega)
   have hbt:X / 2 ^ k % 2 * 2 ^ (q % 8)≤1 * 2 ^ (q % 8):=Nat.mul_le_mul_right _ (by omega)
   have hbyte:=put_bit old X k (q % 8) (by omega) htop (by omega)
   have hrng:(0:Int)≤((old+X / 2 ^ k % 2 * 2 ^ (q % 8):Nat):Int)∧((old+X / 2 ^ k % 2 * 2 ^ (q % 8):Nat):Int)≤255:=by omega
   rw [←hbyte] at hrng
   rw [←hbyte] at hnext
   have HRNG:Hid (0≤bits .or .u8 (old:Int) (bits .and .i64 ((X:Int) / 2 ^ k) 1 % 256 * 2 ^ (q % 8) % 256)∧bits .or .u8 (old:Int) (bits .and .i64 ((X:Int) / 2 ^ k) 1 % 256 * 2 ^ (q % 8) % 256)≤255):=hrng
   clear hrng hbyte hbt h256
   by_cases h8:q % 8=0
   ·rw [if_pos h8] at hnext
    have hlen':Z.length=q / 8:=by omega
    have HNEXT:Hid (Z'=(Z++[0]).set (q / 8) (bits .or .u8 (old:Int) (bits .and .i64 ((X:Int) / 2 ^ k) 1 % 256 * 2 ^ (q % 8) % 256))):=hnext
    have hold:old=0:=by rw [h8] at htop;simp at htop;exact htop
    have hRl:R<wr.heap.size:=(Array.getElem?_eq_some_iff.1 hRr).1
    have hBw:B≤wr.heap.size:=Nat.le_trans hB honly.size
    have c0:wr.cell? ⟨R,0,none⟩=some u:=cellR (j:=0) hRr rfl
    have c1:wr.cell? ⟨R,1,none⟩=some (.int .i64 (q:Nat)):=cellR (j:=1) hRr rfl
    have h8':((q:Int) % 8 == 0)=true:=by simp;omega
    have hu:=hur.1
    rw [hlen'] at hu
    obtain ⟨au,cu,rfl⟩:∃ (x:Option Addr) (c:Nat),u=.slice x (q / 8) c:=by
     rcases hu.2 with ⟨rfl,h0⟩ | ⟨g',cap',cur',rfl,_⟩
     ·exact ⟨none,0,by rw [h0]⟩
     ·exact ⟨_,_,rfl⟩
    have HRR:Hid (wr.heap[R]?=some (.cells #[.slice au (q / 8) cu,.int .i64 ((q:Nat):Int)] 155 (0,0))):=hRr
    have HZR:Hid (∀ z ∈ Z,0≤z∧z≤255):=hur.2
    have HONLY:Hid (Only (fun k=>k=R∨v.ownBlock=some k) w wr):=honly
    have HROW:Hid ((Value.slice au (q / 8) cu).ownBlock=v.ownBlock∨∃ k,(Value.slice au (q / 8) cu).ownBlock=some k∧w.heap.size≤k):=hrow
    have HZL:Hid (Z.length=q / 8):=hlen'
    have huR:Hid (some R≠(Value.slice au (q / 8) cu).ownBlock):=by
     intro he
     rcases hu.2 with ⟨h',_⟩ | ⟨g',cap',cur',h',hg',hh,r⟩
     ·simp at h'
      rw [h'.1] at he
      simp [Value.ownBlock] at he
     ·simp at h'
      rw [h'.1] at he
      simp [Value.ownBlock] at he
      subst he
      rw [hRr] at hh
      simp at hh
    clear hnext hlast honly hrow hRr hlen hlen' hur
    go_wp2_with (at_builtin;(refine wpList_append_lies _ rfl (.tmp 22) (.tmp 23) 36 rfl B 5 i0 (.int .u8 0) 1 1 Tryz.underlying36 hi hz0 hz1 hz2 rfl (by decide) (.slice au (q / 8) cu) (q / 8) (Z.map (Value.int .u8)) rfl (hu.alloc _) ⟨wr.heap.size,0,none⟩ 1 1 [.int .u8 0] rfl rfl (by intro j y hj;match j,hj with | 0,hj=>(simp at hj;subst hj;simp [Addr.add])) (by intro y hy;simp at hy;subst hy;rfl) (by omega) (by unfold maxLen;omega) (by omega) (by simp;omega) _ rfl ?_);intro g cap w1 hown hgrow hat hlt1;have hR1:=app_keep hgrow HRR.out huR.out;have d0:=cellR (j:=0) hR1 rfl;have d1:=cellR (j:=1) hR1 rfl;have e0:=frozenR (j:=0) hR1)
    have G:=put_grown (v:=v) HRR.out huR.out HZR.out HZL.out hgrow hown hat HONLY.out hRlt HROW.out
    clear hown hgrow hat hR1 d0 d1 e0 c0 c1 hu hlt1
    generalize w1.setCell ⟨R,0,none⟩ (.slice (some ⟨g,0,none⟩) (q / 8+1) cap)=W at *
    obtain ⟨hRr,hown,honly,hrow'⟩:=G
    have hlen':(Z++[0]).length=q / 8+1:=by rw [List.length_append,HZL.out];rfl
    have CL:Hid _:=put_close (v:=v) hRr hlen' hown HNEXT.out HRNG.out honly hrow'
    have HROW2:Hid (v.ownBlock=some g∨w.heap.size≤g):=hrow'
    have hne:=hown.ne hRr (by decide)
    have c0:W.cell? ⟨R,0,none⟩=some (.slice (some ⟨g,0,none⟩) (q / 8+1) cap):=cellR (j:=0) hRr rfl
    have c1:W.cell? ⟨R,1,none⟩=some (.int .i64 (q:Nat)):=cellR (j:=1) hRr rfl
    have f1:=frozenR (j:=1) hRr
    have cg:W.cell? ⟨g,q / 8,none⟩=some (.int .u8 (old:Nat)):=by
     rw [hown.cell (q / 8) (by omega),hold]
     simp [←HZL.out]
    have fg:=hown.frozen (q / 8)
    clear hown honly hrow' hRr hlen' HNEXT HRNG h8 hold HRR HZR HONLY HROW HZL huR
    go_region
    go_wp2
    go_roundw
    case rel=>
     have C:=CL.out
     refine ⟨k+1,.slice (some ⟨g,0,none⟩) (q / 8+1) cap,by omega,by go_num,?_,?_,?_,?_⟩
     ·rw [show n+(k+1)=q+1 from by have:=HQ.out;omega];exact C.1
     ·rw [show n+(k+1)=q+1 from by have:=HQ.out;omega,HPART.out];exact C.2.1
     ·exact C.2.2.1.drew
     ·rcases HROW2.out with h | h
      ·exact .inl h.symm
      ·exact .inr ⟨g,rfl,h⟩
    case measure=>simp [intOf];omega
   ·rw [if_neg h8] at hnext
    have hlen':Z.length=q / 8+1:=by omega
    obtain ⟨g,cap,rfl,hown⟩:=hur.form (by omega)
    rw [hlen'] at hRr hrow
    have HNEXT:Hid (Z'=Z.set (q / 8) (bits .or .u8 (old:Int) (bits .and .i64 ((X:Int) / 2 ^ k) 1 % 256 * 2 ^ (q % 8) % 256))):=hnext
    have hrow':v.ownBlock=some g∨w.heap.size≤g:=by
     rcases hrow with h | ⟨kk,h,h'⟩
     ·exact .inl (h.symm.trans rfl)
     ·right
      simp [Value.ownBlock] at h
      omega
    have CL:Hid _:=put_close (v:=v) hRr hlen' hown HNEXT.out HRNG.out honly hrow'
    have HROW:Hid (v.ownBlock=some g∨w.heap.size≤g):=hrow'
    have hne:=hown.ne hRr (by decide)
    have c0:wr.cell? ⟨R,0,none⟩=some (.slice (some ⟨g,0,none⟩) (q / 8+1) cap):=cellR (j:=0) hRr rfl
    have c1:wr.cell? ⟨R,1,none⟩=some (.int .i64 (q:Nat)):=cellR (j:=1) hRr rfl
    have f1:=frozenR (j:=1) hRr
    have cg:=hown.cell (q / 8) (by omega)
    have fg:=hown.frozen (q / 8)
    rw [hlast h8] at cg
    have h8':((q:Int) % 8 == 0)=false:=by simp;omega
    clear hnext hlast hown honly hrow hrow' hRr hlen hlen' hur HNEXT HRNG h8
    go_wp2
    go_region
    go_wp2
    go_roundw
    case rel=>
     have C:=CL.out
     refine ⟨k+1,.slice (some ⟨g,0,none⟩) (q / 8+1) cap,by omega,by go_num,?_,?_,?_,?_⟩
     ·rw [show n+(k+1)=q+1 from by have:=HQ.out;omega];exact C.1
     ·rw [show n+(k+1)=q+1 from by have:=HQ.out;omega,HPART.out];exact C.2.1
     ·exact C.2.2.1.drew
     ·rcases HROW.out with h | h
      ·exact .inl h.symm
      ·exact .inr ⟨g,rfl,h⟩
    case measure=>simp [intOf];omega
  ·have hkm:k=m:=by omega
   subst hkm
   have HF:Hid _:=(⟨hRr,hur,honly,hrow⟩:_∧_∧_∧_)
   clear hRr hur honly hrow
   go_wp2
   go_end0
   have F:=HF.out
   exact ⟨rfl,u,F.1,F.2.1,F.2.2.1,F.2.2.2⟩
end Go.Proofs.YtaibkchbkedjnaaGreatDoor
