/-
  PackRead of the model. (Typed by wip/mkrp6.py.)
-/
import Derived.Test.YthngimdjjmhboaaGreatDoorElD
import Derived.Test.YthngimdjjmhboaaGreatDoorRp5
import Derived.Test.YthngimdjjmhboaaGreatDoorStrB
import Derived.Test.YthngimdjjmhboaaGreatDoorBRep
namespace Go.Proofs.YthngimdjjmhboaaGreatDoor
open Go.RowKit
set_option linter.unusedVariables false
set_option linter.unusedSimpArgs false

theorem pkL_rng {E O:Int} {es:List El} (h:PbR E O es) (hr:∀ e ∈ es,∀ z ∈ e.ls,0≤z∧z≤255):∀ z ∈ pkL E O es,0≤z∧z≤255:=by
 intro z hz
 obtain ⟨hE,hO,hn,hk,hs⟩:=h
 unfold pkL pbH pbI pbB at hz
 simp only [List.mem_append,List.mem_cons,List.not_mem_nil,or_false,List.mem_replicate,List.mem_flatMap] at hz
 rcases hz with ((h1 | h1) | h1) | h1
 ·omega
 ·obtain ⟨e,he,h2⟩:=h1
  obtain ⟨k,hk1,rfl⟩:=memE_get he
  have:=hk k hk1
  omega
 ·obtain ⟨e,he,h2⟩:=h1
  exact hr e he z h2
 ·omega
structure SpS (w W:World) (E O:Int) (u:Value) (fs:List El):Prop where
 cp:CpP w W (w.heap.size+1) E O u fs
 dp:Deep W (w.heap.size+1+1) fs
 bx:Box3 W w.heap.size (.int .i64 0) (.int .i64 0) (.slice none 0 0)
theorem SpS.step {w W W':World} {E O:Int} {u:Value} {fs:List El} (h:SpS w W E O u fs) (hb:Below W.heap.size W W'):SpS w W' E O u fs:=⟨h.cp.step hb,h.dp.below hb,h.bx.step hb⟩
theorem SpS.more {w W w2 w3:World} {E O:Int} {u v':Value} {fs:List El} {e:El} {ob:Obj} (h:SpS w W E O u fs) (hb:Below W.heap.size W w2) (hm:Mine w2 W.heap.size w2.heap.size e.a e.c e.ls) (hov:OVt w3 (w.heap.size+1+1) v' (fs++[e])) (hg:(w2.alloc ob).grownBy w3 u.ownBlock) :
  SpS w (w3.setCell ⟨w.heap.size+1,2,none⟩ v') E O v' (fs++[e])∧Below (w.heap.size+1+1) W w3:=by
 obtain ⟨h1,h2⟩:=h.cp.more hb hov hg
 exact ⟨⟨h1,h.cp.deep h.dp hb hm hg,(h.bx.keep h2 (by omega)).other (by simp) _⟩,h2⟩
theorem SpS.start (w W:World) (E O:Int) (T:TypeId) (hw:Below w.heap.size w W) (hs:W.heap.size=w.heap.size+1) (hb:Box3 W w.heap.size (.int .i64 0) (.int .i64 0) (.slice none 0 0)):SpS w (W.alloc (Obj.cells #[.int .i64 E,.int .i64 O,.slice none 0 0] T)) E O (.slice none 0 0) []:=by
 have h1:=Box3.new W (.int .i64 E) (.int .i64 O) (.slice none 0 0) T
 rw [hs] at h1
 exact ⟨⟨hw.alloc hw.size _,by omega,OVt.nil _ _,h1⟩,Deep.nil _ _,hb.alloc _⟩

set_option maxRecDepth 20000 in
set_option maxHeartbeats 16000000 in
theorem specPackRead_any (f:List Int→Option (List Int)) (hf:DecF f) (a:Option Addr) (c:Nat) (zs:List Int) (w:World) (hb:Byt w a zs) (hm:zs.length≤281474976710656) (hc:zs.length≤c) (hc2:c≤9223372036854775807) :
  Calls Tryz.prog 152 #[.slice a zs.length c] w (PrA f zs w):=by
 have hw:Below w.heap.size w (w.alloc (Obj.cells #[Value.int IntKind.i64 0,Value.int IntKind.i64 0,Value.slice none 0 0] 47)):=(Below.refl _ _).alloc (Nat.le_refl _) _
 have hX:=Box3.new w (.int .i64 0) (.int .i64 0) (.slice none 0 0) 47
 have hsz:(w.alloc (Obj.cells #[Value.int IntKind.i64 0,Value.int IntKind.i64 0,Value.slice none 0 0] 47)).heap.size=w.heap.size+1:=by simp
 generalize hRP:PrA f zs w=RP
 have HRP:Hid (PrA f zs w=RP∧True):=⟨hRP,trivial⟩
 clear hRP
 by_cases h256:zs.length=256
 rotate_left 1
 ·have HF:Hid (PrA f zs w (.returned (.tuple #[.agg #[.int .i64 0,.int .i64 0,.slice none 0 0],.bool false])) (w.alloc (Obj.cells #[Value.int IntKind.i64 0,Value.int IntKind.i64 0,Value.slice none 0 0] 47))):=⟨.inr ⟨fun h=>h256 h.len,rfl⟩,hw⟩
  rw [HRP.out.1] at HF
  have hl2:((zs.length:Int) != 256)=true:=by rw [bne_iff_ne];omega
  clear hb hw hX hsz
  go_enter Tryz.func152,Tryz.ntmps152
  go_wp2
  refine bodyPost_ret (v:=.tuple #[.agg #[.int .i64 0,.int .i64 0,.slice none 0 0],.bool false]) (by simp [results,Tryz.results152,go_sem]) rfl ?_
  first | exact HF.out | (simpa using HF.out)
 obtain ⟨b,off,rfl,hbw,hcc⟩:=hb.2 (by omega)
 have HCC:Hid (∀ i,i<256→w.cell? ⟨b,off+i,none⟩=some (.int .u8 (zs.getD i 0))):=fun i hi=>hcc i (by omega)
 have HRG:Hid (∀ i,0≤zs.getD i 0∧zs.getD i 0≤255):=fun i=>getD_rng hb.1 i
 have HBR:Hid ((∀ z ∈ zs,0≤z∧z≤255)∧zs.length=256∧DecF f):=⟨hb.1,h256,hf⟩
 have HBY:Hid (Byt w (some ⟨b,off,none⟩) zs):=hb
 have HHD:Hid (rpE zs=zs.getD 1 0 * 256+zs.getD 2 0∧rpO zs=zs.getD 3 0 * 256+zs.getD 4 0∧rpM zs=(zs.getD 5 0).toNat):=⟨rfl,rfl,rfl⟩
 have c0:(w.alloc (Obj.cells #[Value.int IntKind.i64 0,Value.int IntKind.i64 0,Value.slice none 0 0] 47)).cell? ⟨b,off,none⟩=some (.int .u8 (zs.getD 0 0)):=keepA _ hbw (hcc 0 (by omega))
 have c1:(w.alloc (Obj.cells #[Value.int IntKind.i64 0,Value.int IntKind.i64 0,Value.slice none 0 0] 47)).cell? ⟨b,off+1,none⟩=some (.int .u8 (zs.getD 1 0)):=keepA _ hbw (hcc 1 (by omega))
 have c2:(w.alloc (Obj.cells #[Value.int IntKind.i64 0,Value.int IntKind.i64 0,Value.slice none 0 0] 47)).cell? ⟨b,off+2,none⟩=some (.int .u8 (zs.getD 2 0)):=keepA _ hbw (hcc 2 (by omega))
 have c3:(w.alloc (Obj.cells #[Value.int IntKind.i64 0,Value.int IntKind.i64 0,Value.slice none 0 0] 47)).cell? ⟨b,off+3,none⟩=some (.int .u8 (zs.getD 3 0)):=keepA _ hbw (hcc 3 (by omega))
 have c4:(w.alloc (Obj.cells #[Value.int IntKind.i64 0,Value.int IntKind.i64 0,Value.slice none 0 0] 47)).cell? ⟨b,off+4,none⟩=some (.int .u8 (zs.getD 4 0)):=keepA _ hbw (hcc 4 (by omega))
 have c50:w.cell? ⟨b,off+5,none⟩=some (.int .u8 (zs.getD 5 0)):=hcc 5 (by omega)
 have c5:(w.alloc (Obj.cells #[Value.int IntKind.i64 0,Value.int IntKind.i64 0,Value.slice none 0 0] 47)).cell? ⟨b,off+5,none⟩=some (.int .u8 (zs.getD 5 0)):=keepA _ hbw c50
 have r1:=HRG.out 1
 have r2:=HRG.out 2
 have r3:=HRG.out 3
 have r4:=HRG.out 4
 have r5:=HRG.out 5
 have HQ:Hid (∀ q z:Int,zs.getD 0 0=q→zs.getD 5 0=z→(q≠80∨16<z)→¬PrG f zs):=fun q z hq hz h hG=>by
  rcases h with h | h
  ·exact h (hq ▸ hG.sg)
  ·have:=hG.ok.n
   rw [itL_len] at this
   unfold rpM at this
   omega
 have HQ2:=HQ.out _ _ rfl rfl
 have HQ0:Hid (∀ q:Int,zs.getD 0 0=q→q=80→zs.getD 0 0=80):=fun q h1 h2=>h1.trans h2
 have HQ3:=HQ0.out _ rfl
 rw [h256]
 rw [h256] at hc hm
 clear hcc hb h256 HQ hf
 generalize hq0:zs.getD 0 0=q at *
 generalize zs.getD 1 0=x1 at *
 generalize zs.getD 2 0=x2 at *
 generalize zs.getD 3 0=x3 at *
 generalize zs.getD 4 0=x4 at *
 generalize zs.getD 5 0=z at *
 have HQE:Hid (zs.getD 0 0=q∧True):=⟨hq0,trivial⟩
 clear hq0 HQ0 HQ3
 by_cases hbad:q≠80∨16<z
 ·have HF:Hid (∀ W,Below w.heap.size w W→PrA f zs w (.returned (.tuple #[.agg #[.int .i64 0,.int .i64 0,.slice none 0 0],.bool false])) W):=fun W h=>⟨.inr ⟨HQ2 hbad,rfl⟩,h⟩
  rw [HRP.out.1] at HF
  have HW:Hid (Below w.heap.size w (w.alloc (Obj.cells #[Value.int IntKind.i64 0,Value.int IntKind.i64 0,Value.slice none 0 0] 47))):=hw
  have key:((q != 80)=true)∨((q != 80)=false∧16<z):=by
   by_cases h80:q=80
   ·exact .inr ⟨by rw [h80];rfl,by rcases hbad with h9 | h9 <;> omega⟩
   ·exact .inl (by rw [bne_iff_ne];exact h80)
  clear hbad HQ2 hX hsz hw HBY HBR HHD HRG HCC
  rcases key with h | ⟨h,h2⟩
  all_goals
   go_enter Tryz.func152,Tryz.ntmps152
   go_wp2
   refine bodyPost_ret (v:=.tuple #[.agg #[.int .i64 0,.int .i64 0,.slice none 0 0],.bool false]) (by simp [results,Tryz.results152,go_sem]) rfl (HF.out _ ?_)
   first | exact HW.out | exact ((HW.out.setCell (p:=⟨w.heap.size,0,none⟩) (by simp) _).setCell (p:=⟨w.heap.size,1,none⟩) (by simp) _).setCell (p:=⟨w.heap.size,2,none⟩) (by simp) _
 have hq80 : q = 80 := by rcases Classical.em (q = 80) with h | h
                          ·exact h
                          ·exact absurd (.inl h) hbad
 have hz2:¬16<z:=fun h=>hbad (.inr h)
 subst hq80
 obtain ⟨m,rfl⟩:=Int.eq_ofNat_of_zero_le r5.1
 have hm16:m≤16:=by omega
 have HHM:Hid (rpE zs=x1 * 256+x2∧rpO zs=x3 * 256+x4∧rpM zs=m):=⟨HHD.out.1,HHD.out.2.1,by rw [HHD.out.2.2];simp⟩
 clear hbad HQ2 HHD
 have hw1:IntKind.i64.wrap x1=x1:=IntWalk.i64_in _ (by omega)
 have hw2:IntKind.i64.wrap x2=x2:=IntWalk.i64_in _ (by omega)
 have hw3:IntKind.i64.wrap x3=x3:=IntWalk.i64_in _ (by omega)
 have hw4:IntKind.i64.wrap x4=x4:=IntWalk.i64_in _ (by omega)
 have hs1:IntKind.i64.wrap (x1 * 256)=x1 * 256:=IntWalk.i64_in _ (by omega)
 have hs3:IntKind.i64.wrap (x3 * 256)=x3 * 256:=IntWalk.i64_in _ (by omega)
 have ha1:IntKind.i64.wrap (x1 * 256+x2)=x1 * 256+x2:=IntWalk.i64_in _ (by omega)
 have ha3:IntKind.i64.wrap (x3 * 256+x4)=x3 * 256+x4:=IntWalk.i64_in _ (by omega)
 have hb0:b<(w.alloc (Obj.cells #[Value.int IntKind.i64 0,Value.int IntKind.i64 0,Value.slice none 0 0] 47)).heap.size:=by simp;omega
 have HST0:Hid (∀ E O,SpS w ((w.alloc (Obj.cells #[Value.int IntKind.i64 0,Value.int IntKind.i64 0,Value.slice none 0 0] 47)).alloc (Obj.cells #[.int .i64 E,.int .i64 O,.slice none 0 0] 47)).drew E O (.slice none 0 0) []):=fun E O=>(SpS.start w _ E O 47 hw hsz hX).step ((Below.refl _ _).drew)
 go_enter Tryz.func152,Tryz.ntmps152
 go_wp2_with fail
 refine wp_region_cut (S:=fun W=>W.cell? ⟨b,off+1,none⟩=some (.int .u8 x1)∧W.cell? ⟨b,off+2,none⟩=some (.int .u8 x2)∧W.cell? ⟨b,off+3,none⟩=some (.int .u8 x3)∧W.cell? ⟨b,off+4,none⟩=some (.int .u8 x4)) 23 (by kernel_rfl) (by kernel_rfl) (by exact ⟨c1,c2,c3,c4⟩) (fun hHeld=>?_)
 refine tk 0 (v:=?_) ?_ ?_
 rotate_left 1
 ·(intro w hSw;(try dsimp only at hSw);go_simp;try (with_reducible rfl))
 try simp only [tkS]
 refine tk 1 (v:=?_) ?_ ?_
 rotate_left 1
 ·(intro w hSw;(try dsimp only at hSw);go_simp;try (with_reducible rfl))
 try simp only [tkS]
 refine tk 2 (v:=?_) ?_ ?_
 rotate_left 1
 ·(intro w hSw;(try dsimp only at hSw);go_simp;try (with_reducible rfl))
 try simp only [tkS]
 refine tk 3 (v:=?_) ?_ ?_
 rotate_left 1
 ·(intro w hSw;(try dsimp only at hSw);go_simp;try (with_reducible rfl))
 try simp only [tkS]
 refine tk 4 (v:=?_) ?_ ?_
 rotate_left 1
 ·(intro w hSw;(try dsimp only at hSw);go_simp;try (with_reducible rfl))
 try simp only [tkS]
 refine tk 5 (v:=?_) ?_ ?_
 rotate_left 1
 ·(intro w hSw;(try dsimp only at hSw);go_simp;try (with_reducible rfl))
 try simp only [tkS]
 refine tk 6 (v:=?_) ?_ ?_
 rotate_left 1
 ·(intro w hSw;(try dsimp only at hSw);go_simp;try (with_reducible rfl))
 try simp only [tkS]
 refine tk 7 (v:=?_) ?_ ?_
 rotate_left 1
 ·(intro w hSw;(try dsimp only at hSw);go_simp;try (with_reducible rfl))
 try simp only [tkS]
 refine tk 8 (v:=?_) ?_ ?_
 rotate_left 1
 ·(intro w hSw;(try dsimp only at hSw);go_simp;try (with_reducible rfl))
 try simp only [tkS]
 refine tk 9 (v:=?_) ?_ ?_
 rotate_left 1
 ·(intro w hSw;(try dsimp only at hSw);go_simp;try (with_reducible rfl))
 try simp only [tkS]
 refine tk 10 (v:=?_) ?_ ?_
 rotate_left 1
 ·(intro w hSw;(try dsimp only at hSw);go_simp;try (with_reducible rfl))
 try simp only [tkS]
 refine tk 11 (v:=?_) ?_ ?_
 rotate_left 1
 ·(intro w hSw;(try dsimp only at hSw);go_simp;try (with_reducible rfl))
 try simp only [tkS]
 refine tk 12 (v:=?_) ?_ ?_
 rotate_left 1
 ·(intro w hSw;(try dsimp only at hSw);go_simp;try (with_reducible rfl))
 try simp only [tkS]
 refine tk 13 (v:=?_) ?_ ?_
 rotate_left 1
 ·(intro w hSw;(try dsimp only at hSw);go_simp;try (with_reducible rfl))
 try simp only [tkS]
 refine tk 14 (v:=?_) ?_ ?_
 rotate_left 1
 ·(intro w hSw;(try dsimp only at hSw);go_simp;try (with_reducible rfl))
 try simp only [tkS]
 refine tk 15 (v:=?_) ?_ ?_
 rotate_left 1
 ·(intro w hSw;(try dsimp only at hSw);go_simp;try (with_reducible rfl))
 try simp only [tkS]
 refine tk 16 (v:=?_) ?_ ?_
 rotate_left 1
 ·(intro w hSw;(try dsimp only at hSw);go_simp;try (with_reducible rfl))
 try simp only [tkS]
 refine tk 17 (v:=?_) ?_ ?_
 rotate_left 1
 ·(intro w hSw;(try dsimp only at hSw);go_simp;try (with_reducible rfl))
 try simp only [tkS]
 refine tk 18 (v:=?_) ?_ ?_
 rotate_left 1
 ·(intro w hSw;(try dsimp only at hSw);go_simp;try (with_reducible rfl))
 try simp only [tkS]
 refine tk 19 (v:=?_) ?_ ?_
 rotate_left 1
 ·(intro w hSw;(try dsimp only at hSw);go_simp;try (with_reducible rfl))
 try simp only [tkS]
 refine tk 20 (v:=?_) ?_ ?_
 rotate_left 1
 ·(intro w hSw;(try dsimp only at hSw);go_simp;try (with_reducible rfl))
 try simp only [tkS]
 refine wpAnyH_ready (rs:=[21]) (by kernel_rfl) (by simp) ?_
 refine AllReadyH.cons rfl (fun K hK=>?_) AllReadyH.nil
 go_simp
 refine hK.out _ _ (by exact ⟨keepA _ hb0 c1,keepA _ hb0 c2,keepA _ hb0 c3,keepA _ hb0 c4⟩) (fun hHeld=>?_)
 clear hK K
 try simp only [tkS]
 refine wpAnyH_ready (rs:=[22]) (by kernel_rfl) (by simp) ?_
 refine AllReadyH.cons rfl (fun K hK=>?_) AllReadyH.nil
 go_simp
 refine hK.out _ _ (by exact ⟨keepA _ hb0 c1,keepA _ hb0 c2,keepA _ hb0 c3,keepA _ hb0 c4⟩) (fun hHeld=>?_)
 clear hK K
 try simp only [tkS]
 refine wpAnyH_done (by kernel_rfl) ?_ _
 simp only [cutQ,List.drop_succ_cons,List.drop_zero]
 have HS0:Hid (SpS w ((w.alloc (Obj.cells #[Value.int IntKind.i64 0,Value.int IntKind.i64 0,Value.slice none 0 0] 47)).alloc (Obj.cells #[Value.int IntKind.i64 (x1 * 256+x2),Value.int IntKind.i64 (x3 * 256+x4),Value.slice none 0 0] 47)).drew (x1 * 256+x2) (x3 * 256+x4) (.slice none 0 0) []):=HST0.out _ _
 clear HST0 c0 c1 c2 c3 c4 c5 hw1 hw2 hw3 hw4 hs1 hs3 ha1 ha3 hw hX hsz hb0 hHeld
 have hE:0≤x1 * 256+x2∧x1 * 256+x2≤70000:=by omega
 have hO:0≤x3 * 256+x4∧x3 * 256+x4≤70000:=by omega
 generalize x1 * 256+x2=E at *
 generalize x3 * 256+x4=O at *
 generalize ((w.alloc (Obj.cells #[Value.int IntKind.i64 0,Value.int IntKind.i64 0,Value.slice none 0 0] 47)).alloc (Obj.cells #[Value.int IntKind.i64 E,Value.int IntKind.i64 O,Value.slice none 0 0] 47)).drew=W1 at *
 have HD5:Hid (w.cell? ⟨b,off+5,none⟩=some (.int .u8 (m:Int))):=c50
 have c5:=keep HS0.out.cp.bel hbw c50
 go_wp2
 go_loopw [5,6] (fun t i wr=>∃ (k:Nat) (u:Value) (fs:List El),k≤m∧i=.int .i64 k∧t=.int .i64 (aP zs m k:Nat)∧aP zs m k≤256∧fs.map El.ct=(itL zs m k).map El.ct∧SpS w wr E O u fs) (fun _ i _=>m - (intOf i).toNat)
 case atStart=>exact ⟨0,_,[],Nat.zero_le _,rfl,by simp only [aP];first | rfl | (congr 1;omega) | (go_num),by simp only [aP];omega,rfl,HS0.out⟩
 case round=>
  clear HS0 c5
  obtain ⟨k,u,fs,hk,rfl,rfl,ha,hct,hsp⟩:=hrel
  have HST:Hid (fs.map El.ct=(itL zs m k).map El.ct∧fs.length=k):=⟨hct,itL_ctlen hct⟩
  clear hct
  obtain ⟨fa,fc,rfl⟩:=hsp.cp.row.form
  have HSP:Hid (SpS w wr E O (.slice fa fs.length fc) fs):=hsp
  have d5:=keep hsp.cp.bel hbw c50
  obtain ⟨p0,p1,p2,f0,f1,f2,pl⟩:=hsp.cp.box
  obtain ⟨x0,x1,x2,g0,g1,g2,xl⟩:=hsp.bx
  have hbr:b<wr.heap.size:=by have:=hsp.cp.bel.size;omega
  by_cases hlt:k<m
  ·have d6:=keep hsp.cp.bel hbw (HCC.out (6+2 * k) (by omega))
   have d7:=keep hsp.cp.bel hbw (HCC.out (7+2 * k) (by omega))
   have r6:=HRG.out (6+2 * k)
   have r7:=HRG.out (7+2 * k)
   have HI:Hid (zs.getD (7+2 * k) 0=(cN zs k:Nat)∧aP zs m (k+1)=aP zs m k+cN zs k∧itL zs m (k+1)=itL zs m k++[itE zs m k]∧zs.getD (6+2 * k) 0=(itE zs m k).n):=⟨by unfold cN;omega,rfl,rfl,rfl⟩
   rw [HI.out.1] at d7 r7
   rw [HI.out.2.2.2] at d6 r6
   have HBW:Hid (Byt wr (some ⟨b,off,none⟩) zs):=HBY.out.below hsp.cp.bel (Nat.le_refl _)
   have HA:Hid (aP zs m (k+1)≤aP zs m m∧6+2 * m≤aP zs m k):=⟨aP_le zs m (by omega),aP_lo zs m k⟩
   have HBL:Hid (Below w.heap.size w wr):=hsp.cp.bel
   have hk1:fs.length≤1000:=by have:=HST.out.2;omega
   clear hsp
   generalize hy:cN zs k=y at *
   have HY:Hid (cN zs k=y∧True):=⟨hy,trivial⟩
   clear hy
   generalize hat:aP zs m k=t at *
   have HAT:Hid (aP zs m k=t∧True):=⟨hat,trivial⟩
   clear hat
   by_cases hfit:t+y≤256
   rotate_left 1
   ·have HF:Hid (∀ W,Below w.heap.size w W→PrA f zs w (.returned (.tuple #[.agg #[.int .i64 0,.int .i64 0,.slice none 0 0],.bool false])) W):=fun W h=>⟨.inr ⟨fun hG=>by have h1:=hG.fit;rw [HHM.out.2.2] at h1;have h2:=HA.out.1;have h3:=HI.out.2.1;omega,rfl⟩,h⟩
    rw [HRP.out.1] at HF
    generalize (itE zs m k).n=sn at *
    clear HA HI HBW HSP HST
    go_wp2
    refine bodyPost_ret (v:=.tuple #[.agg #[.int .i64 0,.int .i64 0,.slice none 0 0],.bool false]) (by simp [results,Tryz.results152,go_sem,x0,x1,x2]) rfl (HF.out _ ?_)
    exact ((HBL.out.setCell (p:=⟨w.heap.size,0,none⟩) (by simp) _).setCell (p:=⟨w.heap.size,1,none⟩) (by simp) _).setCell (p:=⟨w.heap.size,2,none⟩) (by simp) _
   have HEI:Hid (itE zs m k=⟨(itE zs m k).n,none,0,(itE zs m k).ls⟩∧(itE zs m k).ls=(zs.drop t).take y∧(itE zs m k).ls.length=y):=⟨rfl,by rw [←HY.out.1,←HAT.out.1];rfl,by rw [itE_len (by rw [HI.out.2.1];have:=HBR.out.2.1;omega)];exact HY.out.1⟩
   generalize hsn:(itE zs m k).n=sn at *
   generalize hsl:(itE zs m k).ls=sl at *
   clear hsn hsl
   have hyl:y=sl.length:=HEI.out.2.2.symm
   have hsl:sl.length≤255:=by omega
   subst hyl
   have HPB:Hid (∀ q,(t<c→q=off+t)→Byt wr (some ⟨b,q,none⟩) sl):=fun q hq=>by
    refine ⟨fun z hz=>HBW.out.1 z (by rw [HEI.out.2.1] at hz;exact List.mem_of_mem_drop (List.mem_of_mem_take hz)),fun h0=>?_⟩
    obtain ⟨b',o',e',hb',hz'⟩:=HBW.out.2 (by have:=HBR.out.2.1;omega)
    obtain ⟨rfl,rfl⟩:b=b'∧off=o':=by simpa using e'
    refine ⟨b,q,rfl,hb',fun i hi=>?_⟩
    have hqq:=hq (by omega)
    have:=hz' (t+i) (by have:=HBR.out.2.1;omega)
    rw [hqq,Nat.add_assoc,this,HEI.out.2.1]
    simp [List.getD_eq_getElem?_getD,List.getElem?_take,List.getElem?_drop,hi]
   have hwn:IntKind.i64.wrap sn=sn:=IntWalk.i64_in _ (by omega)
   have hk2:IntKind.i64.wrap (2 * (k:Int))=2 * (k:Int):=IntWalk.i64_in _ (by omega)
   have hk6:IntKind.i64.wrap (6+2 * (k:Int))=((6+2 * k:Nat):Int):=by rw [IntWalk.i64_in _ (by omega)];omega
   have hi6:(0:Int)≤6+2 * (k:Int)∧6+2 * (k:Int)<256:=by omega
   have ht6:(6+2 * (k:Int)).toNat=6+2 * k:=by omega
   have hn6:6+2 * k<256:=by omega
   have hts:IntKind.i64.wrap ((t:Int)+(sl.length:Int))=((t+sl.length:Nat):Int):=by rw [IntWalk.i64_in _ (by omega)];omega
   by_cases hct0:c=t
   ·subst hct0
    have hs0:(0:Int)≤(c:Int)+(sl.length:Int):=by omega
    have hs1:(c:Int)+(sl.length:Int)≤(c:Int):=by omega
    have hs2:c≤((c:Int)+(sl.length:Int)).toNat:=by omega
    have hs3:((c:Int)+(sl.length:Int)).toNat - c=sl.length:=by omega
    have hby:Byt wr (some ⟨b,off,none⟩) sl:=HPB.out (off) (fun h=>by omega)
    have HE1:Hid (OVB (wr.drew.alloc (Obj.cells #[] 5)) wr.heap.size (.slice (some ⟨wr.heap.size,0,none⟩) 0 0) []∧Byt (wr.drew.alloc (Obj.cells #[] 5)) (some ⟨b,off,none⟩) sl∧Below wr.heap.size wr (wr.drew.alloc (Obj.cells #[] 5))):=⟨OVB.empty wr.drew _ (Nat.le_refl _),(hby.drewN 1).alloc _,Below.drewS ((Below.refl wr.heap.size wr.drew).alloc (Nat.le_refl _) _)⟩
    clear hby HPB HBW
    go_wp2
    refine wp_region_cut (S:=fun W=>W.cell? ⟨w.heap.size+1,2,none⟩=some (.slice fa fs.length fc)∧W.cell? ⟨b,off+(6+2 * k),none⟩=some (.int .u8 sn)) 20 (by kernel_rfl) (by kernel_rfl) (by exact ⟨p2,d6⟩) (fun hHeld=>?_)
    refine tk 0 (v:=?_) ?_ ?_
    rotate_left 1
    ·(intro w hSw;(try dsimp only at hSw);go_simp;try (with_reducible rfl))
    try simp only [tkS]
    refine tk 1 (v:=?_) ?_ ?_
    rotate_left 1
    ·(intro w hSw;(try dsimp only at hSw);go_simp;try (with_reducible rfl))
    try simp only [tkS]
    refine tk 2 (v:=?_) ?_ ?_
    rotate_left 1
    ·(intro w hSw;(try dsimp only at hSw);go_simp;try (with_reducible rfl))
    try simp only [tkS]
    refine tk 3 (v:=?_) ?_ ?_
    rotate_left 1
    ·(intro w hSw;(try dsimp only at hSw);go_simp;try (with_reducible rfl))
    try simp only [tkS]
    refine tk 4 (v:=?_) ?_ ?_
    rotate_left 1
    ·(intro w hSw;(try dsimp only at hSw);go_simp;try (with_reducible rfl))
    try simp only [tkS]
    refine tk 5 (v:=?_) ?_ ?_
    rotate_left 1
    ·(intro w hSw;(try dsimp only at hSw);go_simp;try (with_reducible rfl))
    try simp only [tkS]
    refine tk 6 (v:=?_) ?_ ?_
    rotate_left 1
    ·(intro w hSw;(try dsimp only at hSw);go_simp;try (with_reducible rfl))
    try simp only [tkS]
    refine tk 7 (v:=?_) ?_ ?_
    rotate_left 1
    ·(intro w hSw;(try dsimp only at hSw);go_simp;try (with_reducible rfl))
    try simp only [tkS]
    refine tk 8 (v:=?_) ?_ ?_
    rotate_left 1
    ·(intro w hSw;(try dsimp only at hSw);go_simp;try (with_reducible rfl))
    try simp only [tkS]
    refine tk 10 (v:=?_) ?_ ?_
    rotate_left 1
    ·(intro w hSw;(try dsimp only at hSw);go_simp;try (with_reducible rfl))
    try simp only [tkS]
    refine tk 11 (v:=?_) ?_ ?_
    rotate_left 1
    ·(intro w hSw;(try dsimp only at hSw);go_simp;try (with_reducible rfl))
    try simp only [tkS]
    refine tk 12 (v:=?_) ?_ ?_
    rotate_left 1
    ·(intro w hSw;(try dsimp only at hSw);go_simp;try (with_reducible rfl))
    try simp only [tkS]
    refine tk 13 (v:=?_) ?_ ?_
    rotate_left 1
    ·(intro w hSw;(try dsimp only at hSw);go_simp;try (with_reducible rfl))
    try simp only [tkS]
    refine tk 14 (v:=?_) ?_ ?_
    rotate_left 1
    ·(intro w hSw;(try dsimp only at hSw);go_simp;try (with_reducible rfl))
    try simp only [tkS]
    refine tk 15 (v:=?_) ?_ ?_
    rotate_left 1
    ·(intro w hSw;(try dsimp only at hSw);go_simp;try (with_reducible rfl))
    try simp only [tkS]
    refine wpAnyH_ready (rs:=[9]) (by kernel_rfl) (by simp) ?_
    refine AllReadyH.cons rfl (fun K hK=>?_) AllReadyH.nil
    go_simp
    refine hK.out _ _ (by exact ⟨keepA _ pl p2,keepA _ hbr d6⟩) (fun hHeld=>?_)
    clear hK K
    try simp only [tkS]
    refine wpAnyH_ready (rs:=[16]) (by kernel_rfl) (by simp) ?_
    refine AllReadyH.cons rfl (fun K hK=>?_) AllReadyH.nil
    refine wanted_step rfl (wp_append_byt (.tmp 80) (.tmp 86) rfl wr.heap.size (.slice (some ⟨wr.heap.size,0,none⟩) 0 0) [] (by simp [Act.eval]) (HE1.out.1) (some ⟨b,off,none⟩) (0) sl (by simp [Act.eval]) (HE1.out.2.1) (by simp;omega) (by simp) ?_)
    intro v2 w2 hov2 hg2
    have hb2:Below wr.heap.size wr w2:=appB_below HE1.out.2.2 (by simp) HE1.out.1 hg2
    rw [List.nil_append] at hov2
    obtain ⟨ua,uc,rfl,hm2⟩:=hov2.mine
    have HM2:Hid (Mine w2 wr.heap.size w2.heap.size ua uc sl∧Below wr.heap.size wr w2):=⟨hm2,hb2⟩
    have k0:=keep hb2 pl p2
    have k2:=keep hb2 hbr d6
    have hl2:w.heap.size+1<w2.heap.size:=by have:=hb2.size;omega
    have hbl2:b<w2.heap.size:=by have:=hb2.size;omega
    clear hm2 hb2 hov2 hg2
    refine hK.out _ _ (by exact ⟨k0,k2⟩) (fun hHeld=>?_)
    clear hK K
    try simp only [tkS]
    refine tk 17 (v:=?_) ?_ ?_
    rotate_left 1
    ·(intro w hSw;(try dsimp only at hSw);go_simp;try (with_reducible rfl))
    try simp only [tkS]
    refine wpAnyH_ready (rs:=[18]) (by kernel_rfl) (by simp) ?_
    refine AllReadyH.cons rfl (fun K hK=>?_) AllReadyH.nil
    go_simp
    refine hK.out _ _ (by exact ⟨keepA _ hl2 k0,keepA _ hbl2 k2⟩) (fun hHeld=>?_)
    clear hK K
    try simp only [tkS]
    refine wpAnyH_ready (rs:=[19]) (by kernel_rfl) (by simp) ?_
    refine AllReadyH.cons rfl (fun K hK=>?_) AllReadyH.nil
    refine wanted_step rfl (wp_append_it (.tmp 72) (.tmp 89) rfl (w.heap.size+1+1) (.slice fa fs.length fc) fs (by simp [Act.eval]) (HSP.out.cp.row.below (HSP.out.cp.mid HM2.out.2).1) w2.heap.size 1 ⟨sn,ua,uc,sl⟩ (by simp [Act.eval]) (newsT w2 sn _ sl.length uc 113 _ rfl rfl rfl rfl) (by omega) (by simp;omega) ?_)
    intro v3 w3 hov3 hg3
    obtain ⟨sa3,sc3,hv3⟩:=hov3.form
    rw [List.length_append,List.length_singleton] at hv3
    subst hv3
    have HM:Hid _:=HSP.out.more (e:=⟨sn,ua,uc,sl⟩) HM2.out.2 HM2.out.1 hov3 hg3
    have e3:=keep HM.out.2 (by omega) p2
    have hne:¬(Value.slice fa fs.length fc).ownBlock=some b:=fun he=>by have:=(HSP.out.cp.row.blk he).1;omega
    have d3:=(Only.ofGrownT hg3).cell (b:=b) (o:=off+(6+2 * k)) (by simp;omega) hne (keepA _ hbl2 k2)
    have g3:=(HM.out.2.frozen (p:=⟨w.heap.size+1,2,none⟩) (by simp)).trans f2
    have hl3:w.heap.size+1<w3.heap.size:=by have:=HM.out.2.size;omega
    clear hov3 hg3
    refine hK.out _ _ (by exact ⟨e3,d3⟩) (fun hHeld=>?_)
    clear hK K
    try simp only [tkS]
    refine wpAnyH_done (by kernel_rfl) ?_ _
    simp only [cutQ,List.drop_succ_cons,List.drop_zero]
    clear HE1 k0 k2 d3
    have HCT2:Hid ((fs++[(⟨sn,ua,uc,sl⟩:El)]).map El.ct=(itL zs m (k+1)).map El.ct∧aP zs m (k+1)≤256∧aP zs m (k+1)=c+sl.length):=⟨by rw [List.map_append,HST.out.1,HI.out.2.2.1,HEI.out.1,List.map_append];rfl,by rw [HI.out.2.1];exact hfit,HI.out.2.1⟩
    have HMC:Hid (SpS w (w3.setCell ⟨w.heap.size+1,2,none⟩ (.slice sa3 (fs.length+1) sc3)) E O (.slice sa3 (fs.length+1) sc3) (fs++[⟨sn,ua,uc,sl⟩])):=HM.out.1
    clear HM HM2 HST HSP HI HEI HA p0 p1 p2 f0 f1 f2 x0 x1 x2 g0 g1 g2 hwn hk2 hk6 hi6 ht6 hn6 hts hs0 hs1 hs2 hs3
    go_wp2
    go_roundw
    case rel=>exact ⟨k+1,_,_,by omega,by go_num,by rw [HCT2.out.2.2];first | rfl | go_num,HCT2.out.2.1,HCT2.out.1,HMC.out⟩
    case measure=>simp [intOf];omega
   ·skip
    have hs0:(0:Int)≤(t:Int)+(sl.length:Int):=by omega
    have hs1:(t:Int)+(sl.length:Int)≤(c:Int):=by omega
    have hs2:t≤((t:Int)+(sl.length:Int)).toNat:=by omega
    have hs3:((t:Int)+(sl.length:Int)).toNat - t=sl.length:=by omega
    have hby:Byt wr (some ⟨b,off+t,none⟩) sl:=HPB.out (off+t) (fun _=>rfl)
    have HE1:Hid (OVB (wr.drew.alloc (Obj.cells #[] 5)) wr.heap.size (.slice (some ⟨wr.heap.size,0,none⟩) 0 0) []∧Byt (wr.drew.alloc (Obj.cells #[] 5)) (some ⟨b,off+t,none⟩) sl∧Below wr.heap.size wr (wr.drew.alloc (Obj.cells #[] 5))):=⟨OVB.empty wr.drew _ (Nat.le_refl _),(hby.drewN 1).alloc _,Below.drewS ((Below.refl wr.heap.size wr.drew).alloc (Nat.le_refl _) _)⟩
    clear hby HPB HBW
    go_wp2
    refine wp_region_cut (S:=fun W=>W.cell? ⟨w.heap.size+1,2,none⟩=some (.slice fa fs.length fc)∧W.cell? ⟨b,off+(6+2 * k),none⟩=some (.int .u8 sn)) 20 (by kernel_rfl) (by kernel_rfl) (by exact ⟨p2,d6⟩) (fun hHeld=>?_)
    refine tk 0 (v:=?_) ?_ ?_
    rotate_left 1
    ·(intro w hSw;(try dsimp only at hSw);go_simp;try (with_reducible rfl))
    try simp only [tkS]
    refine tk 1 (v:=?_) ?_ ?_
    rotate_left 1
    ·(intro w hSw;(try dsimp only at hSw);go_simp;try (with_reducible rfl))
    try simp only [tkS]
    refine tk 2 (v:=?_) ?_ ?_
    rotate_left 1
    ·(intro w hSw;(try dsimp only at hSw);go_simp;try (with_reducible rfl))
    try simp only [tkS]
    refine tk 3 (v:=?_) ?_ ?_
    rotate_left 1
    ·(intro w hSw;(try dsimp only at hSw);go_simp;try (with_reducible rfl))
    try simp only [tkS]
    refine tk 4 (v:=?_) ?_ ?_
    rotate_left 1
    ·(intro w hSw;(try dsimp only at hSw);go_simp;try (with_reducible rfl))
    try simp only [tkS]
    refine tk 5 (v:=?_) ?_ ?_
    rotate_left 1
    ·(intro w hSw;(try dsimp only at hSw);go_simp;try (with_reducible rfl))
    try simp only [tkS]
    refine tk 6 (v:=?_) ?_ ?_
    rotate_left 1
    ·(intro w hSw;(try dsimp only at hSw);go_simp;try (with_reducible rfl))
    try simp only [tkS]
    refine tk 7 (v:=?_) ?_ ?_
    rotate_left 1
    ·(intro w hSw;(try dsimp only at hSw);go_simp;try (with_reducible rfl))
    try simp only [tkS]
    refine tk 8 (v:=?_) ?_ ?_
    rotate_left 1
    ·(intro w hSw;(try dsimp only at hSw);go_simp;try (with_reducible rfl))
    try simp only [tkS]
    refine tk 10 (v:=?_) ?_ ?_
    rotate_left 1
    ·(intro w hSw;(try dsimp only at hSw);go_simp;try (with_reducible rfl))
    try simp only [tkS]
    refine tk 11 (v:=?_) ?_ ?_
    rotate_left 1
    ·(intro w hSw;(try dsimp only at hSw);go_simp;try (with_reducible rfl))
    try simp only [tkS]
    refine tk 12 (v:=?_) ?_ ?_
    rotate_left 1
    ·(intro w hSw;(try dsimp only at hSw);go_simp;try (with_reducible rfl))
    try simp only [tkS]
    refine tk 13 (v:=?_) ?_ ?_
    rotate_left 1
    ·(intro w hSw;(try dsimp only at hSw);go_simp;try (with_reducible rfl))
    try simp only [tkS]
    refine tk 14 (v:=?_) ?_ ?_
    rotate_left 1
    ·(intro w hSw;(try dsimp only at hSw);go_simp;try (with_reducible rfl))
    try simp only [tkS]
    refine tk 15 (v:=?_) ?_ ?_
    rotate_left 1
    ·(intro w hSw;(try dsimp only at hSw);go_simp;try (with_reducible rfl))
    try simp only [tkS]
    refine wpAnyH_ready (rs:=[9]) (by kernel_rfl) (by simp) ?_
    refine AllReadyH.cons rfl (fun K hK=>?_) AllReadyH.nil
    go_simp
    refine hK.out _ _ (by exact ⟨keepA _ pl p2,keepA _ hbr d6⟩) (fun hHeld=>?_)
    clear hK K
    try simp only [tkS]
    refine wpAnyH_ready (rs:=[16]) (by kernel_rfl) (by simp) ?_
    refine AllReadyH.cons rfl (fun K hK=>?_) AllReadyH.nil
    refine wanted_step rfl (wp_append_byt (.tmp 80) (.tmp 86) rfl wr.heap.size (.slice (some ⟨wr.heap.size,0,none⟩) 0 0) [] (by simp [Act.eval]) (HE1.out.1) (some ⟨b,off+t,none⟩) (c - t) sl (by simp [Act.eval]) (HE1.out.2.1) (by simp;omega) (by simp) ?_)
    intro v2 w2 hov2 hg2
    have hb2:Below wr.heap.size wr w2:=appB_below HE1.out.2.2 (by simp) HE1.out.1 hg2
    rw [List.nil_append] at hov2
    obtain ⟨ua,uc,rfl,hm2⟩:=hov2.mine
    have HM2:Hid (Mine w2 wr.heap.size w2.heap.size ua uc sl∧Below wr.heap.size wr w2):=⟨hm2,hb2⟩
    have k0:=keep hb2 pl p2
    have k2:=keep hb2 hbr d6
    have hl2:w.heap.size+1<w2.heap.size:=by have:=hb2.size;omega
    have hbl2:b<w2.heap.size:=by have:=hb2.size;omega
    clear hm2 hb2 hov2 hg2
    refine hK.out _ _ (by exact ⟨k0,k2⟩) (fun hHeld=>?_)
    clear hK K
    try simp only [tkS]
    refine tk 17 (v:=?_) ?_ ?_
    rotate_left 1
    ·(intro w hSw;(try dsimp only at hSw);go_simp;try (with_reducible rfl))
    try simp only [tkS]
    refine wpAnyH_ready (rs:=[18]) (by kernel_rfl) (by simp) ?_
    refine AllReadyH.cons rfl (fun K hK=>?_) AllReadyH.nil
    go_simp
    refine hK.out _ _ (by exact ⟨keepA _ hl2 k0,keepA _ hbl2 k2⟩) (fun hHeld=>?_)
    clear hK K
    try simp only [tkS]
    refine wpAnyH_ready (rs:=[19]) (by kernel_rfl) (by simp) ?_
    refine AllReadyH.cons rfl (fun K hK=>?_) AllReadyH.nil
    refine wanted_step rfl (wp_append_it (.tmp 72) (.tmp 89) rfl (w.heap.size+1+1) (.slice fa fs.length fc) fs (by simp [Act.eval]) (HSP.out.cp.row.below (HSP.out.cp.mid HM2.out.2).1) w2.heap.size 1 ⟨sn,ua,uc,sl⟩ (by simp [Act.eval]) (newsT w2 sn _ sl.length uc 113 _ rfl rfl rfl rfl) (by omega) (by simp;omega) ?_)
    intro v3 w3 hov3 hg3
    obtain ⟨sa3,sc3,hv3⟩:=hov3.form
    rw [List.length_append,List.length_singleton] at hv3
    subst hv3
    have HM:Hid _:=HSP.out.more (e:=⟨sn,ua,uc,sl⟩) HM2.out.2 HM2.out.1 hov3 hg3
    have e3:=keep HM.out.2 (by omega) p2
    have hne:¬(Value.slice fa fs.length fc).ownBlock=some b:=fun he=>by have:=(HSP.out.cp.row.blk he).1;omega
    have d3:=(Only.ofGrownT hg3).cell (b:=b) (o:=off+(6+2 * k)) (by simp;omega) hne (keepA _ hbl2 k2)
    have g3:=(HM.out.2.frozen (p:=⟨w.heap.size+1,2,none⟩) (by simp)).trans f2
    have hl3:w.heap.size+1<w3.heap.size:=by have:=HM.out.2.size;omega
    clear hov3 hg3
    refine hK.out _ _ (by exact ⟨e3,d3⟩) (fun hHeld=>?_)
    clear hK K
    try simp only [tkS]
    refine wpAnyH_done (by kernel_rfl) ?_ _
    simp only [cutQ,List.drop_succ_cons,List.drop_zero]
    clear HE1 k0 k2 d3
    have HCT2:Hid ((fs++[(⟨sn,ua,uc,sl⟩:El)]).map El.ct=(itL zs m (k+1)).map El.ct∧aP zs m (k+1)≤256∧aP zs m (k+1)=t+sl.length):=⟨by rw [List.map_append,HST.out.1,HI.out.2.2.1,HEI.out.1,List.map_append];rfl,by rw [HI.out.2.1];exact hfit,HI.out.2.1⟩
    have HMC:Hid (SpS w (w3.setCell ⟨w.heap.size+1,2,none⟩ (.slice sa3 (fs.length+1) sc3)) E O (.slice sa3 (fs.length+1) sc3) (fs++[⟨sn,ua,uc,sl⟩])):=HM.out.1
    clear HM HM2 HST HSP HI HEI HA p0 p1 p2 f0 f1 f2 x0 x1 x2 g0 g1 g2 hwn hk2 hk6 hi6 ht6 hn6 hts hs0 hs1 hs2 hs3
    go_wp2
    go_roundw
    case rel=>exact ⟨k+1,_,_,by omega,by go_num,by rw [HCT2.out.2.2];first | rfl | go_num,HCT2.out.2.1,HCT2.out.1,HMC.out⟩
    case measure=>simp [intOf];omega
  ·have hkn:k=m:=by omega
   subst hkn
   have HCT:Hid (fs.map El.ct=(itL zs k k).map El.ct∧aP zs k k≤256):=⟨HST.out.1,ha⟩
   have hrg:=rE_ctT HCT.out.1 (itL_rng HBR.out.1 HBR.out.2.1)
   have HCP:Hid (CopT wr (w.heap.size+1+1) (.slice fa fs.length fc) fs (itL zs k k)):=⟨HCT.out.1,hsp.cp.row,hsp.dp,hrg⟩
   have HFJ:Hid (FewJ fs):=itL_few HBR.out.2.1 (by omega) HCT.out.2 HCT.out.1
   have HBL:Hid (Below w.heap.size w wr):=hsp.cp.bel
   have HPI:Hid (PrG f zs↔PkR f E O fs∧pkL E O fs=zs):=by
    obtain ⟨e1,e2,e3⟩:=HHM.out
    have hpk:pkL E O fs=pkL (rpE zs) (rpO zs) (itL zs (rpM zs) (rpM zs)):=by rw [pkL_ct HCT.out.1,e1,e2,e3]
    have hbk:=pkL_back HBR.out.1 HBR.out.2.1 HQE.out.1 (by rw [e3];exact HCT.out.2)
    constructor
    ·intro hG
     exact ⟨by have h1:=hG.ok;rw [e1,e2,e3] at h1;exact h1.ct HCT.out.1.symm,by rw [hpk];exact hbk.2 hG.rest⟩
    ·rintro ⟨h1,h2⟩
     exact ⟨HBR.out.2.1,HQE.out.1,by rw [e3];exact HCT.out.2,by rw [e1,e2,e3];exact h1.ct HCT.out.1,hbk.1 (by rw [←hpk];exact h2)⟩
   have HOK:=specPackOk_any f HBR.out.2.2 E O fa fc fs wr.drew (HCP.out.its.below ((Below.refl _ _).drew) (Nat.le_refl _)) HFJ.out
   clear hrg hsp HST
   by_cases hpk:PkR f E O fs
   rotate_left 1
   ·have HF:Hid (∀ W,Below w.heap.size w W→PrA f zs w (.returned (.tuple #[.agg #[.int .i64 0,.int .i64 0,.slice none 0 0],.bool false])) W):=fun W h=>⟨.inr ⟨fun hG=>hpk (HPI.out.1 hG).1,rfl⟩,h⟩
    rw [HRP.out.1] at HF
    clear HCP HFJ HCT HPI
    go_wp2
    refine wp_region_cut (S:=fun W=>W.cell? ⟨w.heap.size+1,0,none⟩=some (.int .i64 E)∧W.cell? ⟨w.heap.size+1,1,none⟩=some (.int .i64 O)∧W.cell? ⟨w.heap.size+1,2,none⟩=some (.slice fa fs.length fc)) 11 (by kernel_rfl) (by kernel_rfl) (by exact ⟨p0,p1,p2⟩) (fun hHeld=>?_)
    refine tk 0 (v:=?_) ?_ ?_
    rotate_left 1
    ·(intro w hSw;(try dsimp only at hSw);go_simp;try (with_reducible rfl))
    try simp only [tkS]
    refine wpAnyH_ready (rs:=[1]) (by kernel_rfl) (by simp) ?_
    refine AllReadyH.cons rfl (fun K hK=>?_) AllReadyH.nil
    go_simp
    refine HOK.mono ?_
    clear HOK
    rintro r w9 ⟨h9,hb9'⟩
    have hb9:Below wr.heap.size wr w9:=Below.drewS hb9'
    have hS9:=HSP.out.step hb9
    have HS9:Hid (SpS w w9 E O (.slice fa fs.length fc) fs):=hS9
    obtain ⟨y0,y1,y2,-,-,-,yl⟩:=hS9.cp.box
    rcases h9 with ⟨h9,-⟩ | ⟨-,rfl⟩
    ·exact absurd h9 hpk
    clear hb9 hb9' hS9
    dsimp only
    refine hK.out _ _ (by exact ⟨y0,y1,y2⟩) (fun hHeld=>?_)
    clear hK K
    try simp only [tkS]
    refine tk 2 (v:=?_) ?_ ?_
    rotate_left 1
    ·(intro w hSw;(try dsimp only at hSw);go_simp;try (with_reducible rfl))
    try simp only [tkS]
    refine tk 3 (v:=?_) ?_ ?_
    rotate_left 1
    ·(intro w hSw;(try dsimp only at hSw);go_simp;try (with_reducible rfl))
    try simp only [tkS]
    refine tu 4 ?_
    try simp only [tkS]
    refine tu 5 ?_
    try simp only [tkS]
    refine tu 6 ?_
    try simp only [tkS]
    refine tu 7 ?_
    try simp only [tkS]
    refine tu 8 ?_
    try simp only [tkS]
    refine tu 9 ?_
    try simp only [tkS]
    refine tk 10 (v:=?_) ?_ ?_
    rotate_left 1
    ·(intro w hSw;(try dsimp only at hSw);go_simp;try (with_reducible rfl))
    try simp only [tkS]
    refine wpAnyH_done (by kernel_rfl) ?_ _
    simp only [cutQ,List.drop_succ_cons,List.drop_zero]
    have HB9:Hid (Below w.heap.size w w9):=HS9.out.cp.bel
    obtain ⟨x0,x1,x2,g0,g1,g2,xl⟩:=HS9.out.bx
    clear HS9 HSP
    go_wp2
    refine bodyPost_ret (v:=.tuple #[.agg #[.int .i64 0,.int .i64 0,.slice none 0 0],.bool false]) (by simp [results,Tryz.results152,go_sem,x0,x1,x2]) rfl (HF.out _ ?_)
    exact ((HB9.out.setCell (p:=⟨w.heap.size,0,none⟩) (by simp) _).setCell (p:=⟨w.heap.size,1,none⟩) (by simp) _).setCell (p:=⟨w.heap.size,2,none⟩) (by simp) _
   ·have hPB:PbR E O fs:=hpk.pb HBR.out.2.2 HFJ.out.l (fun e he=>(HCP.out.its.els.1 e he).2.1)
    have HL7:Hid (∀ W,Els true W fa fs→Calls Tryz.prog 175 #[.agg #[.int .i64 E,.int .i64 O,.slice fa fs.length fc]] W fun r w'=>(∃ v,r=.returned v∧OVB w' W.heap.size v (pkL E O fs))∧Below W.heap.size W w'):=fun W h=>l7bytes_any E O fa fc fs W h hPB
    have HSM:Hid (sm8 (pkL E O fs) zs=true↔pkL E O fs=zs):=sm8_iff (pkL_rng hPB (fun e he=>(HCP.out.its.els.1 e he).2.1)) HBR.out.1
    have hlen:(pkL E O fs).length=256:=pkL_len hpk.sz
    have HCV:Hid (∀ (W:World) (a:Option Addr) (c:Nat),Byt W a (pkL E O fs)→(convert 36 9 (.slice a (pkL E O fs).length c)).run Tryz.prog W=.ok (.string (strOfNums (pkL E O fs))) W):=fun W a c h=>conv_bytes8 W a c _ h
    have HCZ:Hid (∀ (W:World),Byt W (some ⟨b,off,none⟩) zs→(convert 36 9 (.slice (some ⟨b,off,none⟩) 256 c)).run Tryz.prog W=.ok (.string (strOfNums zs)) W):=fun W h=>by
     have:=conv_bytes8 W (some ⟨b,off,none⟩) c zs h
     rw [HBR.out.2.1] at this
     exact this
    have HSD:Hid (sm8 (pkL E O fs) zs=((strOfNums (pkL E O fs)).toList == (strOfNums zs).toList)∧True):=⟨rfl,trivial⟩
    have HPK:Hid (PkR f E O fs):=hpk
    clear hPB hlen hpk HFJ
    generalize strOfNums (pkL E O fs)=SS at *
    generalize strOfNums zs=TT at *
    cases hst:(SS.toList == TT.toList) with
    | false=>
     have HF:Hid (∀ W,Below w.heap.size w W→PrA f zs w (.returned (.tuple #[.agg #[.int .i64 0,.int .i64 0,.slice none 0 0],.bool false])) W):=fun W h=>⟨.inr ⟨fun hG=>by have h1:=HSM.out.2 (HPI.out.1 hG).2;rw [HSD.out.1,hst] at h1;exact absurd h1 (by decide),rfl⟩,h⟩
     rw [HRP.out.1] at HF
     clear HSM HSD HPI
     go_wp2_with fail
     go_region_with (first
      | (go_at_call 80;refine HOK.mono ?_;rintro r w9 ⟨h9,hb9'⟩;have hb9:Below wr.heap.size wr w9:=Below.drewS hb9';have HS9:Hid (SpS w w9 E O (.slice fa fs.length fc) fs):=HSP.out.step hb9;have hcz9:=HCZ.out w9 ((HBY.out.below HBL.out (Nat.le_refl _)).below hb9 (Nat.le_refl _));have HE9:Hid (Els true w9 fa fs):=(HCP.out.its.below hb9 (Nat.le_refl _)).els;obtain ⟨y0,y1,y2,-,-,-,yl⟩:=HS9.out.cp.box;clear hb9 hb9';rcases h9 with ⟨-,rfl⟩ | ⟨h9,-⟩;rotate_left 1;· exact absurd HPK.out h9)
      | (go_at_call 175;refine (HL7.out w9 HE9.out).mono ?_;rintro r w10 ⟨⟨vb,rfl,hvb⟩,hb10⟩;obtain ⟨ab,cb,rfl⟩:=hvb.form;have hcv10:=HCV.out w10 ab cb hvb.byt;have HS10:Hid (SpS w w10 E O (.slice fa fs.length fc) fs):=HS9.out.step hb10;have hcz10:=HCZ.out w10 ((HBY.out.below HS9.out.cp.bel (Nat.le_refl _)).below hb10 (Nat.le_refl _));clear hvb hb10 HS9 HE9 y0 y1 y2 yl))
     all_goals
      obtain ⟨x0,x1,x2,g0,g1,g2,xl⟩:=HS10.out.bx
      have HB10:Hid (Below w.heap.size w w10):=HS10.out.cp.bel
      clear HS10
      go_wp2
      refine bodyPost_ret (v:=.tuple #[.agg #[.int .i64 0,.int .i64 0,.slice none 0 0],.bool false]) (by simp [results,Tryz.results152,go_sem,x0,x1,x2]) rfl (HF.out _ ?_)
      first
       | exact ((HB10.out.setCell (p:=⟨w.heap.size,0,none⟩) (by simp) _).setCell (p:=⟨w.heap.size,1,none⟩) (by simp) _).setCell (p:=⟨w.heap.size,2,none⟩) (by simp) _
       | exact ((HB10.out.drew.setCell (p:=⟨w.heap.size,0,none⟩) (by simp) _).setCell (p:=⟨w.heap.size,1,none⟩) (by simp) _).setCell (p:=⟨w.heap.size,2,none⟩) (by simp) _
    | true=>
     have HG:Hid (PrG f zs):=HPI.out.2 ⟨HPK.out,HSM.out.1 (by rw [HSD.out.1,hst])⟩
     have HEQ:Hid (rpE zs=E∧rpO zs=O∧rpM zs=k):=HHM.out
     clear HSM HSD HPI
     go_wp2_with fail
     go_region_with (first
      | (go_at_call 80;refine HOK.mono ?_;rintro r w9 ⟨h9,hb9'⟩;have hb9:Below wr.heap.size wr w9:=Below.drewS hb9';have HS9:Hid (SpS w w9 E O (.slice fa fs.length fc) fs):=HSP.out.step hb9;have hcz9:=HCZ.out w9 ((HBY.out.below HBL.out (Nat.le_refl _)).below hb9 (Nat.le_refl _));have HE9:Hid (Els true w9 fa fs):=(HCP.out.its.below hb9 (Nat.le_refl _)).els;obtain ⟨y0,y1,y2,-,-,-,yl⟩:=HS9.out.cp.box;clear hb9 hb9';rcases h9 with ⟨-,rfl⟩ | ⟨h9,-⟩;rotate_left 1;· exact absurd HPK.out h9)
      | (go_at_call 175;refine (HL7.out w9 HE9.out).mono ?_;rintro r w10 ⟨⟨vb,rfl,hvb⟩,hb10⟩;obtain ⟨ab,cb,rfl⟩:=hvb.form;have hcv10:=HCV.out w10 ab cb hvb.byt;have HS10:Hid (SpS w w10 E O (.slice fa fs.length fc) fs):=HS9.out.step hb10;have hcz10:=HCZ.out w10 ((HBY.out.below HS9.out.cp.bel (Nat.le_refl _)).below hb10 (Nat.le_refl _));clear hvb hb10 HS9 HE9 y0 y1 y2 yl))
     all_goals
      obtain ⟨x0,x1,x2,g0,g1,g2,xl⟩:=HS10.out.bx
      obtain ⟨y0,y1,y2,-,-,-,yl⟩:=HS10.out.cp.box
      have hon:Only (fun k=>k=w.heap.size) w10 (((w10.setCell ⟨w.heap.size,0,none⟩ (.int .i64 E)).setCell ⟨w.heap.size,1,none⟩ (.int .i64 O)).setCell ⟨w.heap.size,2,none⟩ (.slice fa fs.length fc)):=(((Only.refl (fun k=>k=w.heap.size) w10).setCell (p:=⟨w.heap.size,0,none⟩) (.inl rfl) _).setCell (p:=⟨w.heap.size,1,none⟩) (.inl rfl) _).setCell (p:=⟨w.heap.size,2,none⟩) (.inl rfl) _
      have HF:Hid (PrA f zs w (.returned (.tuple #[.agg #[.int .i64 E,.int .i64 O,.slice fa fs.length fc],.bool true])) (((w10.setCell ⟨w.heap.size,0,none⟩ (.int .i64 E)).setCell ⟨w.heap.size,1,none⟩ (.int .i64 O)).setCell ⟨w.heap.size,2,none⟩ (.slice fa fs.length fc))):=by
       have hcp:CopT w10 (w.heap.size+1+1) (.slice fa fs.length fc) fs (itL zs k k):=⟨HCT.out.1,HS10.out.cp.row,HS10.out.dp,HCP.out.rng⟩
       refine ⟨.inl ⟨HG.out,.slice fa fs.length fc,fs,by rw [HEQ.out.1,HEQ.out.2.1],by rw [HEQ.out.2.2];exact (hcp.stay hon (fun j hj e=>by omega)).weak (by omega)⟩,HS10.out.cp.bel.trans (hon.below HS10.out.cp.bel.size (fun j hj=>by omega))⟩
      rw [HRP.out.1] at HF
      clear hon HS10 HCP HCT
      go_wp2
      refine bodyPost_ret (v:=.tuple #[.agg #[.int .i64 E,.int .i64 O,.slice fa fs.length fc],.bool true]) (by simp [results,Tryz.results152,go_sem,x0,x1,x2]) rfl ?_
      exact HF.out
end Go.Proofs.YthngimdjjmhboaaGreatDoor
