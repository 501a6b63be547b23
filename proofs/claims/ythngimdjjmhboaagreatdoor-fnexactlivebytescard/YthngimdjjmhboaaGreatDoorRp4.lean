/-
  The program's reader reads a pack, or gives up by a panic.
-/
import Derived.Test.YthngimdjjmhboaaGreatDoorRp3
import Derived.Test.YthngimdjjmhboaaGreatDoorBox2
namespace Go.Proofs.YthngimdjjmhboaaGreatDoor
open Go.RowKit
set_option linter.unusedVariables false
set_option linter.unusedSimpArgs false

structure PrG (f:List Int→Option (List Int)) (zs:List Int):Prop where
 len:zs.length=256
 sg:zs.getD 0 0=80
 fit:aP zs (rpM zs) (rpM zs)≤256
 ok:PkR f (rpE zs) (rpO zs) (itL zs (rpM zs) (rpM zs))
 rest:∀ z ∈ zs.drop (aP zs (rpM zs) (rpM zs)),z=0
structure SentR (w:World):Prop where
 b:SentB w
 ov:∃ T x,w.cell? ⟨16,0,none⟩=some (.iface T x)
 sg:∃ T x,w.cell? ⟨9,0,none⟩=some (.iface T x)
 rs:∃ T x,w.cell? ⟨10,0,none⟩=some (.iface T x)
 pk:∃ T x,w.cell? ⟨11,0,none⟩=some (.iface T x)
 sz:∃ T x,w.cell? ⟨6,0,none⟩=some (.iface T x)
 lt:16<w.heap.size∧9<w.heap.size∧10<w.heap.size∧11<w.heap.size∧6<w.heap.size
theorem SentR.below {w w':World} (h:SentR w) (hb:Below w.heap.size w w'):SentR w':=by
 obtain ⟨b,⟨T1,x1,h1⟩,⟨T2,x2,h2⟩,⟨T3,x3,h3⟩,⟨T4,x4,h4⟩,⟨T5,x5,h5⟩,l1,l2,l3,l4,l5⟩:=h
 have hs:=hb.size
 exact ⟨b.below hb,⟨T1,x1,keep hb l1 h1⟩,⟨T2,x2,keep hb l2 h2⟩,⟨T3,x3,keep hb l3 h3⟩,⟨T4,x4,keep hb l4 h4⟩,⟨T5,x5,keep hb l5 h5⟩,by omega,by omega,by omega,by omega,by omega⟩

theorem itL_mem {zs:List Int} {m k:Nat} {e:El} (h:e ∈ itL zs m k):∃ j,j<k∧e=itE zs m j:=by
 induction k with
 | zero=>simp [itL] at h
 | succ k ih=>
  rw [itL,List.mem_append,List.mem_singleton] at h
  rcases h with h | rfl
  ·obtain ⟨j,hj,rfl⟩:=ih h
   exact ⟨j,by omega,rfl⟩
  ·exact ⟨k,by omega,rfl⟩
theorem itE_small (zs:List Int) (m k:Nat):(itE zs m k).ls.length≤zs.length:=by
 simp only [itE,List.length_take,List.length_drop]
 omega
theorem itL_rng {zs:List Int} {m k:Nat} (hb:∀ z ∈ zs,0≤z∧z≤255) (hn:zs.length=256):∀ e ∈ itL zs m k,rE true e:=fun e he=>by
 obtain ⟨j,-,rfl⟩:=itL_mem he
 have h1:=getD_rng hb (6+2 * j)
 have h2:=itE_small zs m j
 exact ⟨by have : (itE zs m j).n = zs.getD (6 + 2 * j) 0 := rfl
           omega, by have : (itE zs m j).n = zs.getD (6 + 2 * j) 0 := rfl
                     omega,by unfold maxLen;omega,fun h=>by cases h⟩
theorem itL_few {zs:List Int} {m:Nat} {fs:List El} (hn:zs.length=256) (hm:m≤255) (ha:aP zs m m≤256) (h:fs.map El.ct=(itL zs m m).map El.ct):FewJ fs:=by
 have h1:=itL_ctlen h
 have h2:=elets_ct _ _ h
 have h3:=itL_lets (zs:=zs) (m:=m) (k:=m) (by omega)
 exact ⟨by omega,fun s hs=>by have:=elets_mem hs;omega,by omega⟩

theorem Box3.only {S:Nat→Prop} {W W':World} {b:Nat} {x y z:Value} (h:Box3 W b x y z) (ho:Only S W W') (hs:¬S b):Box3 W' b x y z:=
 ⟨ho.cell h.lt hs h.c0,ho.cell h.lt hs h.c1,ho.cell h.lt hs h.c2,(frozO ho h.lt hs).trans h.f0,(frozO ho h.lt hs).trans h.f1,(frozO ho h.lt hs).trans h.f2,Nat.lt_of_lt_of_le h.lt ho.size⟩
theorem Box3.set0 {W:World} {b:Nat} {x y z:Value} (h:Box3 W b x y z) (u:Value):Box3 (W.setCell ⟨b,0,none⟩ u) b u y z:=by
 obtain ⟨c0,c1,c2,f0,f1,f2,hl⟩:=h
 exact ⟨by simp [go_sem,c0],by simp [go_sem,c1],by simp [go_sem,c2],by simp [go_sem,f0],by simp [go_sem,f1],by simp [go_sem,f2],by simpa using hl⟩
theorem Box3.set1 {W:World} {b:Nat} {x y z:Value} (h:Box3 W b x y z) (u:Value):Box3 (W.setCell ⟨b,1,none⟩ u) b x u z:=by
 obtain ⟨c0,c1,c2,f0,f1,f2,hl⟩:=h
 exact ⟨by simp [go_sem,c0],by simp [go_sem,c1],by simp [go_sem,c2],by simp [go_sem,f0],by simp [go_sem,f1],by simp [go_sem,f2],by simpa using hl⟩
structure PaS (w0 w W:World) (R b o c p:Nat) (zs:List Int):Prop where
 on:Only (fun x=>x=R) w W
 rd:PrR W R b o zs.length c p
 bt:PrB W R b o zs
 bx:Box3 W w.heap.size (.int .i64 0) (.int .i64 0) (.slice none 0 0)
 rl:R<w.heap.size
 bl:b<w.heap.size
 r0:w0.heap.size≤R
theorem PaS.take {w0 w W W':World} {R b o c p q:Nat} {zs:List Int} (h:PaS w0 w W R b o c p zs) (hr:PrR W' R b o zs.length c q) (ho:Only (fun x=>x=R) W W'):PaS w0 w W' R b o c q zs:=by
 have h2:=h.rl
 exact ⟨h.on.trans ho,hr,h.bt.only ho,h.bx.only ho (by omega),h.rl,h.bl,h.r0⟩
theorem PaS.bel {w0 w W:World} {R b o c p:Nat} {zs:List Int} (h:PaS w0 w W R b o c p zs) (hw:Below w0.heap.size w0 w):Below w0.heap.size w0 W:=by
 have h1:=h.r0
 exact hw.trans (h.on.below hw.size (fun k hk=>by omega))
theorem PaS.step {w0 w W W':World} {R b o c p:Nat} {zs:List Int} (h:PaS w0 w W R b o c p zs) (hb:Below W.heap.size W W'):PaS w0 w W' R b o c p zs:=
 ⟨h.on.trans (Only.ofBelow hb (Nat.le_refl _)),h.rd.keep hb h.rd.lt,h.bt.below hb,h.bx.step hb,h.rl,h.bl,h.r0⟩
theorem PaS.put {w0 w W:World} {R b o c p:Nat} {zs:List Int} (h:PaS w0 w W R b o c p zs) {q:Addr} (hq:w.heap.size<q.block) (u:Value):PaS w0 w (W.setCell q u) R b o c p zs:=by
 have ho:Only (fun x=>x=q.block) W (W.setCell q u):=(Only.refl (fun x=>x=q.block) W).setCell (.inl rfl) u
 have h1:=h.rl
 have h2:=h.bl
 have h3:=h.on.size
 have hb:Below (w.heap.size+1) W (W.setCell q u):=ho.below (by have:=h.bx.lt;omega) (fun k hk=>by omega)
 exact ⟨h.on.thenBelow (hb.mono (by omega)),h.rd.keep hb (by omega),⟨fun i hi=>keep hb (by omega) (h.bt.z i hi),h.bt.r,h.bt.ne,Nat.lt_of_lt_of_le h.bt.lt hb.size⟩,h.bx.keep hb (by omega),h1,h2,h.r0⟩

def PkW4 (f:List Int→Option (List Int)) (zs:List Int) (R:Nat) (w:World) (e:Ending) (w':World):Prop:=
 ((PrG f zs∧∃ v fs,e=.returned (.agg #[.int .i64 (rpE zs),.int .i64 (rpO zs),v])∧CopT w' w.heap.size v fs (itL zs (rpM zs) (rpM zs)))∨(¬PrG f zs∧∃ T x,e=.panicked [{ v:=.iface T x,recovered:=false }]))∧Only (fun x=>x=R) w w'
theorem PkW4.no {f:List Int→Option (List Int)} {zs:List Int} {R:Nat} {w w':World} (h:¬PrG f zs) (ho:Only (fun x=>x=R) w w') (T:TypeId) (x:Value):PkW4 f zs R w (.panicked [{ v:=.iface T x,recovered:=false }]) w':=⟨.inr ⟨h,T,x,rfl⟩,ho⟩

set_option maxRecDepth 20000 in
set_option maxHeartbeats 8000000 in
theorem pack_any (f:List Int→Option (List Int)) (hf:DecF f) (R b o c:Nat) (zs:List Int) (w0 w:World) (hR:PrR w R b o zs.length c 0) (hB:PrB w R b o zs) (hn:zs.length=256) (hL:c≤9223372036854775807) (hS:SentR w0) (hw:Below w0.heap.size w0 w) (hR0:w0.heap.size≤R) :
  Calls Tryz.prog 172 #[.pointer (some ⟨R,0,none⟩)] w (PkW4 f zs R w):=by
 have hwa:Below w.heap.size w (w.alloc (Obj.cells #[Value.int IntKind.i64 0,Value.int IntKind.i64 0,Value.slice none 0 0] 47)):=(Below.refl _ _).alloc (Nat.le_refl _) _
 have hP0:PaS w0 w (w.alloc (Obj.cells #[Value.int IntKind.i64 0,Value.int IntKind.i64 0,Value.slice none 0 0] 47)) R b o c 0 zs:=⟨Only.ofBelow hwa (Nat.le_refl _),hR.keep hwa hR.lt,hB.below hwa,Box3.new w _ _ _ 47,hR.lt,hB.lt,hR0⟩
 have H1:=one_yes R b o c 0 zs _ hP0.rd (by omega) hL hP0.bt.z (getD_rng hP0.bt.r 0) hP0.bt.ne hP0.bt.lt
 have HS:Hid (DecF f∧SentR w0∧Below w0.heap.size w0 w∧zs.length=256):=⟨hf,hS,hw,hn⟩
 have HP0:Hid (PaS w0 w (w.alloc (Obj.cells #[Value.int IntKind.i64 0,Value.int IntKind.i64 0,Value.slice none 0 0] 47)) R b o c 0 zs):=hP0
 have HBR:Hid (∀ z ∈ zs,0≤z∧z≤255):=hB.r
 clear hR hB hwa hf hS hw hP0 hR0 hn
 obtain ⟨y0,hy0⟩:∃ y,zs.getD 0 0=y:=⟨_,rfl⟩
 have HY0:Hid (zs.getD 0 0=y0∧True):=⟨hy0,trivial⟩
 rw [hy0] at H1
 clear hy0
 obtain ⟨E,hE⟩:∃ y,rpE zs=y:=⟨_,rfl⟩
 obtain ⟨O,hO⟩:∃ y,rpO zs=y:=⟨_,rfl⟩
 have HEO:Hid (rpE zs=E∧rpO zs=O):=⟨hE,hO⟩
 clear hE hO
 generalize hRP:PkW4 f zs R w=RP
 have HRP:Hid (PkW4 f zs R w=RP∧True):=⟨hRP,trivial⟩
 clear hRP
 go_enter Tryz.func172,Tryz.ntmps172
 go_wp2_with fail
 generalize w.alloc (Obj.cells #[Value.int IntKind.i64 0,Value.int IntKind.i64 0,Value.slice none 0 0] 47)=W0 at *
 refine H1.mono ?_
 clear H1
 rintro e w1 ⟨rfl,hR1,ho1⟩
 have HP1:Hid (PaS w0 w w1 R b o c 1 zs):=HP0.out.take hR1 ho1
 clear HP0 hR1 ho1
 by_cases h80:y0=80
 rotate_left 1
 ·obtain ⟨T,x,g0⟩:=(HS.out.2.1.below (HP1.out.bel HS.out.2.2.1)).sg
  have HF:Hid (PkW4 f zs R w (.panicked [{ v:=.iface T x,recovered:=false }]) w1):=PkW4.no (fun h=>h80 (HY0.out.1.symm.trans h.sg)) HP1.out.on T x
  rw [HRP.out.1] at HF
  go_wp2
  exact ⟨rfl,HF.out⟩
 subst h80
 have hba:Below w1.heap.size w1 (w1.alloc (Obj.cells #[Value.int IntKind.i64 0,Value.int IntKind.i64 0,Value.slice none 0 0] 47)):=(Below.refl _ _).alloc (Nat.le_refl _) _
 have HP1a:Hid (PaS w0 w (w1.alloc (Obj.cells #[Value.int IntKind.i64 0,Value.int IntKind.i64 0,Value.slice none 0 0] 47)) R b o c 1 zs∧w.heap.size<w1.heap.size):=⟨HP1.out.step hba,HP1.out.bx.lt⟩
 have hY:=Box3.new w1 (.int .i64 0) (.int .i64 0) (.slice none 0 0) 47
 have H2:=two_yes R b o c 1 zs _ HP1a.out.1.rd HP1a.out.1.bt (by have:=HS.out.2.2.2;omega) hL
 rw [show zs.getD 1 0 * 256+zs.getD (1+1) 0=rpE zs from rfl,HEO.out.1] at H2
 clear hba HP1
 go_wp2_with fail
 generalize w1.alloc (Obj.cells #[Value.int IntKind.i64 0,Value.int IntKind.i64 0,Value.slice none 0 0] 47)=W1 at *
 generalize w1.heap.size=Y at *
 refine H2.mono ?_
 clear H2
 rintro e w2 ⟨rfl,hR2,ho2⟩
 have hRY:¬Y=R:=by have:=HP1a.out.1.rl;have:=HP1a.out.2;omega
 have hY2:=hY.only ho2 hRY
 have HP2:Hid (PaS w0 w w2 R b o c 3 zs∧w.heap.size<Y):=⟨HP1a.out.1.take hR2 ho2,HP1a.out.2⟩
 clear hR2 ho2 HP1a hY
 have HP2a:Hid (PaS w0 w (w2.setCell ⟨Y,0,none⟩ (.int .i64 E)) R b o c 3 zs∧w.heap.size<Y):=⟨HP2.out.1.put HP2.out.2 _,HP2.out.2⟩
 have hY2a:=hY2.set0 (.int .i64 E)
 have H3:=two_yes R b o c 3 zs _ HP2a.out.1.rd HP2a.out.1.bt (by have:=HS.out.2.2.2;omega) hL
 rw [show zs.getD 3 0 * 256+zs.getD (3+1) 0=rpO zs from rfl,HEO.out.2] at H3
 obtain ⟨c0,c1,c2,f0,f1,f2,yl⟩:=id hY2
 clear HP2
 go_wp2_with fail
 clear hY2 c0 c1 c2 f0 f1 f2 yl
 generalize w2.setCell ⟨Y,0,none⟩ (.int .i64 E)=W2 at *
 refine H3.mono ?_
 clear H3
 rintro e w3 ⟨rfl,hR3,ho3⟩
 have hY3:=hY2a.only ho3 hRY
 have HP3:Hid (PaS w0 w w3 R b o c 5 zs∧w.heap.size<Y):=⟨HP2a.out.1.take hR3 ho3,HP2a.out.2⟩
 clear hR3 ho3 HP2a hY2a
 have HP3a:Hid (PaS w0 w (w3.setCell ⟨Y,1,none⟩ (.int .i64 O)) R b o c 5 zs∧w.heap.size<Y):=⟨HP3.out.1.put HP3.out.2 _,HP3.out.2⟩
 have hY3a:=hY3.set1 (.int .i64 O)
 have H4:=one_yes R b o c 5 zs _ HP3a.out.1.rd (by have:=HS.out.2.2.2;omega) hL HP3a.out.1.bt.z (getD_rng HP3a.out.1.bt.r 5) HP3a.out.1.bt.ne HP3a.out.1.bt.lt
 have h5:=getD_rng HBR.out 5
 obtain ⟨m,hm⟩:∃ m:Nat,zs.getD 5 0=(m:Int):=⟨(zs.getD 5 0).toNat,by omega⟩
 rw [hm] at H4 h5
 have HM:Hid (rpM zs=m∧True):=⟨by unfold rpM;rw [hm];simp,trivial⟩
 have hm255:m≤255:=by omega
 clear hm h5
 obtain ⟨c0,c1,c2,f0,f1,f2,yl⟩:=id hY3
 clear HP3
 go_wp2_with fail
 clear hY3 c0 c1 c2 f0 f1 f2 yl
 generalize w3.setCell ⟨Y,1,none⟩ (.int .i64 O)=W3 at *
 refine H4.mono ?_
 clear H4
 rintro e w4 ⟨rfl,hR4,ho4⟩
 have hY4:=hY3a.only ho4 hRY
 have HP4:Hid (PaS w0 w w4 R b o c 6 zs∧w.heap.size<Y):=⟨HP3a.out.1.take hR4 ho4,HP3a.out.2⟩
 clear hR4 ho4 HP3a hY3a
 have HSW:=HS.out.2.1.below (HP4.out.1.bel HS.out.2.2.1)
 obtain ⟨T,x,g0⟩:=HSW.ov
 have H5:=items_any R b o c m zs T x w4 HP4.out.1.rd HP4.out.1.bt HS.out.2.2.2 hm255 hL g0 (by have h1:=HP4.out.1.r0;have h2:=HS.out.2.1.lt;omega) HSW.lt.1
 clear HSW g0
 go_wp2_with fail
 refine H5.mono ?_
 clear H5
 rintro e w5 h5
 rcases h5 with ⟨hfit,u,fs,rfl,hct,hps⟩ | ⟨hfit,rfl,ho5⟩
 rotate_left 1
 ·have HF:Hid (PkW4 f zs R w (.panicked [{ v:=.iface T x,recovered:=false }]) w5):=PkW4.no (fun h=>by have:=h.fit;rw [HM.out.1] at this;omega) (HP4.out.1.on.trans ho5) T x
  rw [HRP.out.1] at HF
  clear ho5
  go_wp2
  exact ⟨rfl,HF.out⟩
 obtain ⟨ua,uc,rfl⟩:=hps.row.form
 have hY5:=hY4.only hps.on hRY
 have HP5:Hid (PaS w0 w w5 R b o c (aP zs m m) zs∧w.heap.size<Y∧Y<w4.heap.size):=⟨HP4.out.1.take hps.rd hps.on,HP4.out.2,hY4.lt⟩
 have HC5:Hid (CopT w5 w4.heap.size (.slice ua fs.length uc) fs (itL zs m m)∧aP zs m m≤256):=⟨⟨hct,hps.row,hps.dp,rE_ctT hct (itL_rng HBR.out HS.out.2.2.2)⟩,hfit⟩
 clear hps hct HP4 hY4 hfit
 have HP5a:Hid (PaS w0 w (w5.setCell ⟨Y,2,none⟩ (.slice ua fs.length uc)) R b o c (aP zs m m) zs∧w.heap.size<Y∧Y<w4.heap.size):=⟨HP5.out.1.put HP5.out.2.1 _,HP5.out.2⟩
 have hY5a:=hY5.set2 (.slice ua fs.length uc)
 have hon5:Only (fun x=>x=Y) w5 (w5.setCell ⟨Y,2,none⟩ (.slice ua fs.length uc)):=(Only.refl (fun x=>x=Y) w5).setCell (p:=⟨Y,2,none⟩) (.inl rfl) _
 have HC5a:Hid (CopT (w5.setCell ⟨Y,2,none⟩ (.slice ua fs.length uc)) w4.heap.size (.slice ua fs.length uc) fs (itL zs m m)∧aP zs m m≤256):=⟨HC5.out.1.stay hon5 (fun k hk e=>by have:=HP5.out.2.2;omega),HC5.out.2⟩
 obtain ⟨q,r0,hq⟩:=HP5a.out.1.rd.c0
 have rl:=HP5a.out.1.rd.lt
 have hdl:(zs.drop (aP zs m m)).length=zs.length - aP zs m m:=by simp
 have hby:Byt (w5.setCell ⟨Y,2,none⟩ (.slice ua fs.length uc)) (some ⟨b,q,none⟩) (zs.drop (aP zs m m)):=by
  refine ⟨fun z hz=>HBR.out z (List.mem_of_mem_drop hz),fun h0=>⟨b,q,rfl,HP5a.out.1.bt.lt,fun i hi=>?_⟩⟩
  rw [hdl] at hi
  have hqq:=hq (by have:=HP5a.out.1.rd.lc;omega)
  have:=HP5a.out.1.bt.z (aP zs m m+i) (by omega)
  rw [hqq,Nat.add_assoc,this]
  simp [List.getD_eq_getElem?_getD,List.getElem?_drop]
 have H6:=containsRest_any (some ⟨b,q,none⟩) (c - aP zs m m) (zs.drop (aP zs m m)) _ hby (by have:=HS.out.2.2.2;omega)
 rw [hdl] at H6
 obtain ⟨c0,c1,c2,f0,f1,f2,yl⟩:=id hY5
 have HAZ:Hid (anyZ (zs.drop (aP zs m m))=false↔∀ z ∈ zs.drop (aP zs m m),z=0):=anyZ_no
 clear hby hdl hq hon5 HC5 HP5
 generalize anyZ (zs.drop (aP zs m m))=az at *
 go_wp2_with fail
 clear hY5 c0 c1 c2 f0 f1 f2 yl r0 rl
 generalize w5.setCell ⟨Y,2,none⟩ (.slice ua fs.length uc)=W5 at *
 refine H6.mono ?_
 clear H6
 rintro e w6 ⟨rfl,hb6⟩
 have hY6:=hY5a.step hb6
 have HP6:Hid (PaS w0 w w6 R b o c (aP zs m m) zs∧w.heap.size<Y∧Y<w4.heap.size):=⟨HP5a.out.1.step hb6,HP5a.out.2⟩
 have HC6:Hid (CopT w6 w4.heap.size (.slice ua fs.length uc) fs (itL zs m m)∧aP zs m m≤256):=⟨HC5a.out.1.below hb6,HC5a.out.2⟩
 clear hb6 HP5a HC5a hY5a
 have HSW:Hid (SentR w6):=HS.out.2.1.below (HP6.out.1.bel HS.out.2.2.1)
 cases az with
 | true=>
  obtain ⟨T,x,g0⟩:=HSW.out.rs
  have HF:Hid (PkW4 f zs R w (.panicked [{ v:=.iface T x,recovered:=false }]) w6):=PkW4.no (fun h=>by have h1:=h.rest;rw [HM.out.1] at h1;have:=HAZ.out.2 h1;cases this) HP6.out.1.on T x
  rw [HRP.out.1] at HF
  go_wp2
  exact ⟨rfl,HF.out⟩
 | false=>
  have H7:=implPackOk_any f HS.out.1 E O ua uc fs w6 HC6.out.1.its (itL_few HS.out.2.2.2 hm255 HC6.out.2 HC6.out.1.ct) HSW.out.b
  obtain ⟨c0,c1,c2,f0,f1,f2,yl⟩:=id hY6
  go_wp2_with fail
  refine H7.mono ?_
  clear H7
  rintro e w7 ⟨h7,hb7⟩
  have hY7:=hY6.step hb7
  have HP7:Hid (PaS w0 w w7 R b o c (aP zs m m) zs∧w.heap.size<Y∧Y<w4.heap.size):=⟨HP6.out.1.step hb7,HP6.out.2⟩
  have HC7:Hid (CopT w7 w4.heap.size (.slice ua fs.length uc) fs (itL zs m m)∧aP zs m m≤256):=⟨HC6.out.1.below hb7,HC6.out.2⟩
  have HSW7:Hid (SentR w7):=HSW.out.below hb7
  clear hb7 HP6 HC6 HSW hY6 c0 c1 c2 f0 f1 f2 yl
  rcases h7 with ⟨hpk,rfl⟩ | ⟨hpk,rfl⟩
  rotate_left 1
  ·obtain ⟨T,x,g0⟩:=HSW7.out.pk
   have HF:Hid (PkW4 f zs R w (.panicked [{ v:=.iface T x,recovered:=false }]) w7):=PkW4.no (fun h=>hpk (by have h1:=h.ok;rw [HM.out.1,HEO.out.1,HEO.out.2] at h1;exact h1.ct HC7.out.1.ct.symm)) HP7.out.1.on T x
   rw [HRP.out.1] at HF
   go_wp2
   exact ⟨rfl,HF.out⟩
  ·obtain ⟨c0,c1,c2,f0,f1,f2,yl⟩:=id hY7
   obtain ⟨x0,x1,x2,p0,p1,p2,xl⟩:=HP7.out.1.bx
   have hon:Only (fun x=>x=w.heap.size) w7 (((w7.setCell ⟨w.heap.size,0,none⟩ (.int .i64 E)).setCell ⟨w.heap.size,1,none⟩ (.int .i64 O)).setCell ⟨w.heap.size,2,none⟩ (.slice ua fs.length uc)):=
    (((Only.refl (fun x=>x=w.heap.size) w7).setCell (p:=⟨w.heap.size,0,none⟩) (.inl rfl) _).setCell (p:=⟨w.heap.size,1,none⟩) (.inl rfl) _).setCell (p:=⟨w.heap.size,2,none⟩) (.inl rfl) _
   have HG:Hid (PrG f zs):=⟨HS.out.2.2.2,HY0.out.1,by rw [HM.out.1];exact HC7.out.2,by rw [HM.out.1,HEO.out.1,HEO.out.2];exact hpk.ct HC7.out.1.ct,by rw [HM.out.1];exact HAZ.out.1 (by trivial)⟩
   have HF:Hid (PkW4 f zs R w (.returned (.agg #[.int .i64 E,.int .i64 O,.slice ua fs.length uc])) (((w7.setCell ⟨w.heap.size,0,none⟩ (.int .i64 E)).setCell ⟨w.heap.size,1,none⟩ (.int .i64 O)).setCell ⟨w.heap.size,2,none⟩ (.slice ua fs.length uc))):=by
    refine ⟨.inl ⟨HG.out,.slice ua fs.length uc,fs,by rw [HEO.out.1,HEO.out.2],by rw [HM.out.1];exact (HC7.out.1.stay hon (fun k hk e=>by have:=HP7.out.2;omega)).weak (by have:=HP7.out.2;omega)⟩,?_⟩
    exact HP7.out.1.on.thenBelow (hon.below HP7.out.1.on.size (fun k hk=>by omega))
   rw [HRP.out.1] at HF
   clear hon HP7 HC7 hpk hY7 HSW7
   go_wp2
   refine bodyPost_ret (v:=.agg #[.int .i64 E,.int .i64 O,.slice ua fs.length uc]) (by simp [results,Tryz.results172,go_sem,x0,x1,x2]) rfl ?_
   exact HF.out
end Go.Proofs.YthngimdjjmhboaaGreatDoor
