import Derived.Test.YtkomjdjfknpinaaGreatDoorRp3
import Derived.Defers
import Derived.Recover
set_option maxRecDepth 20000
set_option maxHeartbeats 16000000
namespace Go.Proofs.YtkomjdjfknpinaaGreatDoor
open Go.RowKit
set_option linter.unusedVariables false
set_option linter.unusedSimpArgs false
structure PrG (f:List Int->Option (List Int)) (zs:List Int):Prop where
 len:zs.length=256
 sg:zs.getD 0 0=80
 fit:aP zs (rpM zs) (rpM zs)<=256
 ok:PkR f (rpE zs) (rpO zs) (itL zs (rpM zs) (rpM zs))
 rest:∀ z ∈ zs.drop (aP zs (rpM zs) (rpM zs)),z=0
structure SentR (w:World):Prop where
 b:SentB w
 ov:∃ T x,w.cell? ⟨8,0,none⟩=some (.iface T x)
 sg:∃ T x,w.cell? ⟨2,0,none⟩=some (.iface T x)
 rs:∃ T x,w.cell? ⟨3,0,none⟩=some (.iface T x)
 pk:∃ T x,w.cell? ⟨4,0,none⟩=some (.iface T x)
 sz:∃ T x,w.cell? ⟨0,0,none⟩=some (.iface T x)
 lt:8<w.heap.size/\2<w.heap.size/\3<w.heap.size/\4<w.heap.size/\0<w.heap.size
theorem SentR.below {w w':World} (h:SentR w) (hb:Below w.heap.size w w'):SentR w':=by
 obtain ⟨b,⟨T1,x1,h1⟩,⟨T2,x2,h2⟩,⟨T3,x3,h3⟩,⟨T4,x4,h4⟩,⟨T5,x5,h5⟩,l1,l2,l3,l4,l5⟩:=h;have hs:=hb.size;exact ⟨b.below hb,⟨T1,x1,keep hb l1 h1⟩,⟨T2,x2,keep hb l2 h2⟩,⟨T3,x3,keep hb l3 h3⟩,⟨T4,x4,keep hb l4 h4⟩,⟨T5,x5,keep hb l5 h5⟩,by omega,by omega,by omega,by omega,by omega⟩
theorem zmu {zs:List Int} {m k:Nat} {e:El} (h:e ∈ itL zs m k):∃ j,j<k/\e=itE zs m j:=by
 induction k with
 | zero=>simp [itL] at h
 | succ k ih=>
  rw [itL,List.mem_append,List.mem_singleton] at h;rcases h with h | rfl
  ·obtain ⟨j,hj,rfl⟩:=ih h
   exact ⟨j,by omega,rfl⟩
  ·exact ⟨k,by omega,rfl⟩
theorem zij (zs:List Int) (m k:Nat):(itE zs m k).ls.length<=zs.length:=by
 simp only [itE,List.length_take,List.length_drop]
 omega
theorem zg1 {zs:List Int} {m k:Nat} (hb:∀ z ∈ zs,0<=z/\z<=255) (hn:zs.length=256):∀ e ∈ itL zs m k,rE true e:=fun e he=>by
 obtain ⟨j,-,rfl⟩:=zmu he;have h1:=zm hb (6+2*j);have h2:=zij zs m j;exact ⟨(by have:(itE zs m j).n=zs.getD (6+2*j) 0:=rfl;omega),(by have:(itE zs m j).n=zs.getD (6+2*j) 0:=rfl;omega),by unfold maxLen;omega,fun h=>by cases h⟩
theorem zfd {zs:List Int} {m:Nat} {fs:List El} (hn:zs.length=256) (hm:m<=255) (ha:aP zs m m<=256) (h:fs.map El.ct=(itL zs m m).map El.ct):z32 fs:=by
 have h1:=z5b h;have h2:=z24 _ _ h;have h3:=zci (zs:=zs) (m:=m) (k:=m) (by omega)
 exact ⟨by omega,fun s hs=>by have:=z0c hs;omega,by omega⟩
theorem Box3.only {S:Nat->Prop} {W W':World} {b:Nat} {x y z:Value} (h:Box3 W b x y z) (ho:Only S W W') (hs:¬S b):Box3 W' b x y z:=
 ⟨ho.cell h.lt hs h.c0,ho.cell h.lt hs h.c1,ho.cell h.lt hs h.c2,(z68 ho h.lt hs).trans h.f0,(z68 ho h.lt hs).trans h.f1,(z68 ho h.lt hs).trans h.f2,Nat.lt_of_lt_of_le h.lt ho.size⟩
theorem Box3.set0 {W:World} {b:Nat} {x y z:Value} (h:Box3 W b x y z) (u:Value):Box3 (W.setCell ⟨b,0,none⟩ u) b u y z:=by
 obtain ⟨c0,c1,c2,f0,f1,f2,hl⟩:=h;exact ⟨by simp [go_sem,c0],by simp [go_sem,c1],by simp [go_sem,c2],by simp [go_sem,f0],by simp [go_sem,f1],by simp [go_sem,f2],by simpa using hl⟩
theorem Box3.set1 {W:World} {b:Nat} {x y z:Value} (h:Box3 W b x y z) (u:Value):Box3 (W.setCell ⟨b,1,none⟩ u) b x u z:=by
 obtain ⟨c0,c1,c2,f0,f1,f2,hl⟩:=h;exact ⟨by simp [go_sem,c0],by simp [go_sem,c1],by simp [go_sem,c2],by simp [go_sem,f0],by simp [go_sem,f1],by simp [go_sem,f2],by simpa using hl⟩
structure PaS (w0 w W:World) (R b o c p:Nat) (zs:List Int):Prop where
 on:Only (fun x=>x=R) w W
 rd:PrR W R b o zs.length c p
 bt:PrB W R b o zs
 bx:Box3 W w.heap.size (.int .i64 0) (.int .i64 0) (.slice none 0 0)
 rl:R<w.heap.size
 bl:b<w.heap.size
 r0:w0.heap.size<=R
theorem PaS.take {w0 w W W':World} {R b o c p q:Nat} {zs:List Int} (h:PaS w0 w W R b o c p zs) (hr:PrR W' R b o zs.length c q) (ho:Only (fun x=>x=R) W W'):PaS w0 w W' R b o c q zs:=by
 have h2:=h.rl;exact ⟨h.on.trans ho,hr,h.bt.only ho,h.bx.only ho (by omega),h.rl,h.bl,h.r0⟩
theorem PaS.bel {w0 w W:World} {R b o c p:Nat} {zs:List Int} (h:PaS w0 w W R b o c p zs) (hw:Below w0.heap.size w0 w):Below w0.heap.size w0 W:=by
 have h1:=h.r0;exact hw.trans (h.on.below hw.size (fun k hk=>by omega))
theorem PaS.step {w0 w W W':World} {R b o c p:Nat} {zs:List Int} (h:PaS w0 w W R b o c p zs) (hb:Below W.heap.size W W'):PaS w0 w W' R b o c p zs:=
 ⟨h.on.trans (Only.ofBelow hb nl),h.rd.keep hb h.rd.lt,h.bt.below hb,h.bx.step hb,h.rl,h.bl,h.r0⟩
theorem PaS.put {w0 w W:World} {R b o c p:Nat} {zs:List Int} (h:PaS w0 w W R b o c p zs) {q:Addr} (hq:w.heap.size<q.block) (u:Value):PaS w0 w (W.setCell q u) R b o c p zs:=by
 have ho:Only (fun x=>x=q.block) W (W.setCell q u):=(Only.refl (fun x=>x=q.block) W).setCell (.inl rfl) u
 have h1:=h.rl;have h2:=h.bl;have h3:=h.on.size;have hb:Below (w.heap.size+1) W (W.setCell q u):=ho.below (by have:=h.bx.lt;omega) (fun k hk=>by omega)
 exact ⟨h.on.thenBelow (hb.mono (by omega)),h.rd.keep hb (by omega),⟨fun i hi=>keep hb (by omega) (h.bt.z i hi),h.bt.r,h.bt.ne,Nat.lt_of_lt_of_le h.bt.lt hb.size⟩,h.bx.keep hb (by omega),h1,h2,h.r0⟩
def PkW4 (f:List Int->Option (List Int)) (zs:List Int) (R:Nat) (w:World) (e:Ending) (w':World):Prop:=
 ((PrG f zs/\∃ v fs,e=.returned (.agg #[.int .i64 (rpE zs),.int .i64 (rpO zs),v])/\CopT w' w.heap.size v fs (itL zs (rpM zs) (rpM zs)))\/(¬PrG f zs/\∃ T x,e=.panicked [{ v:=.iface T x,recovered:=false }]))/\Only (fun x=>x=R) w w'
theorem PkW4.no {f:List Int->Option (List Int)} {zs:List Int} {R:Nat} {w w':World} (h:¬PrG f zs) (ho:Only (fun x=>x=R) w w') (T:TypeId) (x:Value):PkW4 f zs R w (.panicked [{ v:=.iface T x,recovered:=false }]) w':=⟨.inr ⟨h,T,x,rfl⟩,ho⟩
theorem zl5 (f:List Int->Option (List Int)) (hf:zz f) (R b o c:Nat) (zs:List Int) (w0 w:World) (hR:PrR w R b o zs.length c 0) (hB:PrB w R b o zs) (hn:zs.length=256) (hL:c<=9223372036854775807) (hS:SentR w0) (hw:Below w0.heap.size w0 w) (hR0:w0.heap.size<=R) :
  Calls Tryz.prog 131 #[.pointer (some ⟨R,0,none⟩)] w (PkW4 f zs R w):=by
 have hwa:Below w.heap.size w (w.alloc (Obj.cells #[.int .i64 0,.int .i64 0,.slice none 0 0] 46)):=ba;have hP0:PaS w0 w (w.alloc (Obj.cells #[.int .i64 0,.int .i64 0,.slice none 0 0] 46)) R b o c 0 zs:=⟨Only.ofBelow hwa nl,hR.keep hwa hR.lt,hB.below hwa,Box3.new w _ _ _ 46,hR.lt,hB.lt,hR0⟩;have H1:=z6c R b o c 0 zs _ hP0.rd (by omega) hL hP0.bt.z (zm hP0.bt.r 0) hP0.bt.ne hP0.bt.lt
 have HS:Hid (zz f/\SentR w0/\Below w0.heap.size w0 w/\zs.length=256):=⟨hf,hS,hw,hn⟩;have HP0:Hid (PaS w0 w (w.alloc (Obj.cells #[.int .i64 0,.int .i64 0,.slice none 0 0] 46)) R b o c 0 zs):=hP0;have HBR:Hid (∀ z ∈ zs,0<=z/\z<=255):=hB.r;clear hR hB hwa hf hS hw hP0 hR0 hn;obtain ⟨y0,hy0⟩:∃ y,zs.getD 0 0=y:=⟨_,rfl⟩;have HY0:Hid (zs.getD 0 0=y0/\True):=⟨hy0,trivial⟩;rw [hy0] at H1;clear hy0;obtain ⟨E,hE⟩:∃ y,rpE zs=y:=⟨_,rfl⟩
 obtain ⟨O,hO⟩:∃ y,rpO zs=y:=⟨_,rfl⟩;have HEO:Hid (rpE zs=E/\rpO zs=O):=⟨hE,hO⟩;clear hE hO;generalize hRP:PkW4 f zs R w=RP;have HRP:Hid (PkW4 f zs R w=RP/\True):=⟨hRP,trivial⟩;clear hRP
 go_enter Tryz.func131,Tryz.ntmps131
 go_wp2_with fail
 generalize w.alloc (Obj.cells #[.int .i64 0,.int .i64 0,.slice none 0 0] 46)=W0 at *;refine H1.mono ?_;clear H1;rintro e w1 ⟨rfl,hR1,ho1⟩;have HP1:Hid (PaS w0 w w1 R b o c 1 zs):=HP0.out.take hR1 ho1;clear HP0 hR1 ho1
 by_cases h80:y0=80
 rotate_left
 ·obtain ⟨T,x,g0⟩:=(HS.out.2.1.below (HP1.out.bel HS.out.2.2.1)).sg
  have HF:Hid (PkW4 f zs R w (.panicked [{ v:=.iface T x,recovered:=false }]) w1):=PkW4.no (fun h=>h80 (HY0.out.1.symm.trans h.sg)) HP1.out.on T x
  rw [HRP.out.1] at HF;go_wp2;exact ⟨rfl,HF.out⟩
 subst h80;have hba:Below w1.heap.size w1 (w1.alloc (Obj.cells #[.int .i64 0,.int .i64 0,.slice none 0 0] 46)):=ba;have HP1a:Hid (PaS w0 w (w1.alloc (Obj.cells #[.int .i64 0,.int .i64 0,.slice none 0 0] 46)) R b o c 1 zs/\w.heap.size<w1.heap.size):=⟨HP1.out.step hba,HP1.out.bx.lt⟩;have hY:=Box3.new w1 (.int .i64 0) (.int .i64 0) (.slice none 0 0) 46;have H2:=zft R b o c 1 zs _ HP1a.out.1.rd HP1a.out.1.bt (by have:=HS.out.2.2.2;omega) hL
 rw [show zs.getD 1 0*256+zs.getD (1+1) 0=rpE zs from rfl,HEO.out.1] at H2
 clear hba HP1;go_wp2_with fail
 generalize w1.alloc (Obj.cells #[.int .i64 0,.int .i64 0,.slice none 0 0] 46)=W1 at *;generalize w1.heap.size=Y at *;refine H2.mono ?_;clear H2;rintro e w2 ⟨rfl,hR2,ho2⟩;have hRY:¬Y=R:=by have:=HP1a.out.1.rl;have:=HP1a.out.2;omega
 have hY2:=hY.only ho2 hRY;have HP2:Hid (PaS w0 w w2 R b o c 3 zs/\w.heap.size<Y):=⟨HP1a.out.1.take hR2 ho2,HP1a.out.2⟩;clear hR2 ho2 HP1a hY;have HP2a:Hid (PaS w0 w (w2.setCell ⟨Y,0,none⟩ (.int .i64 E)) R b o c 3 zs/\w.heap.size<Y):=⟨HP2.out.1.put HP2.out.2 _,HP2.out.2⟩;have hY2a:=hY2.set0 (.int .i64 E);have H3:=zft R b o c 3 zs _ HP2a.out.1.rd HP2a.out.1.bt (by have:=HS.out.2.2.2;omega) hL
 rw [show zs.getD 3 0*256+zs.getD (3+1) 0=rpO zs from rfl,HEO.out.2] at H3
 obtain ⟨c0,c1,c2,f0,f1,f2,yl⟩:=id hY2;clear HP2;go_wp2_with fail
 clear hY2 c0 c1 c2 f0 f1 f2 yl;generalize w2.setCell ⟨Y,0,none⟩ (.int .i64 E)=W2 at *;refine H3.mono ?_;clear H3;rintro e w3 ⟨rfl,hR3,ho3⟩;have hY3:=hY2a.only ho3 hRY;have HP3:Hid (PaS w0 w w3 R b o c 5 zs/\w.heap.size<Y):=⟨HP2a.out.1.take hR3 ho3,HP2a.out.2⟩;clear hR3 ho3 HP2a hY2a;have HP3a:Hid (PaS w0 w (w3.setCell ⟨Y,1,none⟩ (.int .i64 O)) R b o c 5 zs/\w.heap.size<Y):=⟨HP3.out.1.put HP3.out.2 _,HP3.out.2⟩
 have hY3a:=hY3.set1 (.int .i64 O);have H4:=z6c R b o c 5 zs _ HP3a.out.1.rd (by have:=HS.out.2.2.2;omega) hL HP3a.out.1.bt.z (zm HP3a.out.1.bt.r 5) HP3a.out.1.bt.ne HP3a.out.1.bt.lt
 have h5:=zm HBR.out 5;obtain ⟨m,hm⟩:∃ m:Nat,zs.getD 5 0=(m:Int):=⟨(zs.getD 5 0).toNat,by omega⟩
 rw [hm] at H4 h5;have HM:Hid (rpM zs=m/\True):=⟨by unfold rpM;rw [hm];simp,trivial⟩
 have hm255:m<=255:=by omega
 clear hm h5;obtain ⟨c0,c1,c2,f0,f1,f2,yl⟩:=id hY3;clear HP3;go_wp2_with fail
 clear hY3 c0 c1 c2 f0 f1 f2 yl;generalize w3.setCell ⟨Y,1,none⟩ (.int .i64 O)=W3 at *;refine H4.mono ?_;clear H4;rintro e w4 ⟨rfl,hR4,ho4⟩;have hY4:=hY3a.only ho4 hRY;have HP4:Hid (PaS w0 w w4 R b o c 6 zs/\w.heap.size<Y):=⟨HP3a.out.1.take hR4 ho4,HP3a.out.2⟩;clear hR4 ho4 HP3a hY3a;have HSW:=HS.out.2.1.below (HP4.out.1.bel HS.out.2.2.1);obtain ⟨T,x,g0⟩:=HSW.ov;have H5:=zi8 R b o c m zs T x w4 HP4.out.1.rd HP4.out.1.bt HS.out.2.2.2 hm255 hL g0 (by have h1:=HP4.out.1.r0;have h2:=HS.out.2.1.lt;omega) HSW.lt.1
 clear HSW g0;go_wp2_with fail
 refine H5.mono ?_;clear H5;rintro e w5 h5;rcases h5 with ⟨hfit,u,fs,rfl,hct,hps⟩ | ⟨hfit,rfl,ho5⟩
 rotate_left
 ·have HF:Hid (PkW4 f zs R w (.panicked [{ v:=.iface T x,recovered:=false }]) w5):=PkW4.no (fun h=>by have:=h.fit;rw [HM.out.1] at this;omega) (HP4.out.1.on.trans ho5) T x
  rw [HRP.out.1] at HF;clear ho5;go_wp2;exact ⟨rfl,HF.out⟩
 obtain ⟨ua,uc,rfl⟩:=hps.row.form;have hY5:=hY4.only hps.on hRY;have HP5:Hid (PaS w0 w w5 R b o c (aP zs m m) zs/\w.heap.size<Y/\Y<w4.heap.size):=⟨HP4.out.1.take hps.rd hps.on,HP4.out.2,hY4.lt⟩;have HC5:Hid (CopT w5 w4.heap.size (.slice ua fs.length uc) fs (itL zs m m)/\aP zs m m<=256):=⟨⟨hct,hps.row,hps.dp,ziu hct (zg1 HBR.out HS.out.2.2.2)⟩,hfit⟩;clear hps hct HP4 hY4 hfit;have HP5a:Hid (PaS w0 w (w5.setCell ⟨Y,2,none⟩ (.slice ua fs.length uc)) R b o c (aP zs m m) zs/\w.heap.size<Y/\Y<w4.heap.size):=⟨HP5.out.1.put HP5.out.2.1 _,HP5.out.2⟩
 have hY5a:=hY5.set2 (.slice ua fs.length uc);have hon5:Only (fun x=>x=Y) w5 (w5.setCell ⟨Y,2,none⟩ (.slice ua fs.length uc)):=(Only.refl (fun x=>x=Y) w5).setCell (p:=⟨Y,2,none⟩) (.inl rfl) _
 have HC5a:Hid (CopT (w5.setCell ⟨Y,2,none⟩ (.slice ua fs.length uc)) w4.heap.size (.slice ua fs.length uc) fs (itL zs m m)/\aP zs m m<=256):=⟨HC5.out.1.stay hon5 (fun k hk e=>by have:=HP5.out.2.2;omega),HC5.out.2⟩
 obtain ⟨q,r0,hq⟩:=HP5a.out.1.rd.c0;have rl:=HP5a.out.1.rd.lt;have hdl:(zs.drop (aP zs m m)).length=zs.length-aP zs m m:=by simp
 have hby:Byt (w5.setCell ⟨Y,2,none⟩ (.slice ua fs.length uc)) (some ⟨b,q,none⟩) (zs.drop (aP zs m m)):=by
  refine ⟨fun z hz=>HBR.out z (List.mem_of_mem_drop hz),fun h0=>⟨b,q,rfl,HP5a.out.1.bt.lt,fun i hi=>?_⟩⟩
  rw [hdl] at hi;have hqq:=hq (by have:=HP5a.out.1.rd.lc;omega)
  have:=HP5a.out.1.bt.z (aP zs m m+i) (by omega)
  rw [hqq,Nat.add_assoc,this]
  simp [List.getD_eq_getElem?_getD,List.getElem?_drop]
 have H6:=z77 (some ⟨b,q,none⟩) (c-aP zs m m) (zs.drop (aP zs m m)) _ hby (by have:=HS.out.2.2.2;omega)
 rw [hdl] at H6;obtain ⟨c0,c1,c2,f0,f1,f2,yl⟩:=id hY5;have HAZ:Hid (z0h (zs.drop (aP zs m m))=false↔∀ z ∈ zs.drop (aP zs m m),z=0):=zmb;clear hby hdl hq hon5 HC5 HP5;generalize z0h (zs.drop (aP zs m m))=az at *;go_wp2_with fail
 clear hY5 c0 c1 c2 f0 f1 f2 yl r0 rl;generalize w5.setCell ⟨Y,2,none⟩ (.slice ua fs.length uc)=W5 at *;refine H6.mono ?_;clear H6;rintro e w6 ⟨rfl,hb6⟩;have hY6:=hY5a.step hb6;have HP6:Hid (PaS w0 w w6 R b o c (aP zs m m) zs/\w.heap.size<Y/\Y<w4.heap.size):=⟨HP5a.out.1.step hb6,HP5a.out.2⟩;have HC6:Hid (CopT w6 w4.heap.size (.slice ua fs.length uc) fs (itL zs m m)/\aP zs m m<=256):=⟨HC5a.out.1.below hb6,HC5a.out.2⟩
 clear hb6 HP5a HC5a hY5a;have HSW:Hid (SentR w6):=HS.out.2.1.below (HP6.out.1.bel HS.out.2.2.1)
 cases az with
 | true=>
  obtain ⟨T,x,g0⟩:=HSW.out.rs;have HF:Hid (PkW4 f zs R w (.panicked [{ v:=.iface T x,recovered:=false }]) w6):=PkW4.no (fun h=>by have h1:=h.rest;rw [HM.out.1] at h1;have:=HAZ.out.2 h1;cases this) HP6.out.1.on T x
  rw [HRP.out.1] at HF;go_wp2;exact ⟨rfl,HF.out⟩
 | false=>
  have H7:=z29 f HS.out.1 E O ua uc fs w6 HC6.out.1.its (zfd HS.out.2.2.2 hm255 HC6.out.2 HC6.out.1.ct) HSW.out.b;obtain ⟨c0,c1,c2,f0,f1,f2,yl⟩:=id hY6;go_wp2_with fail
  refine H7.mono ?_;clear H7;rintro e w7 ⟨h7,hb7⟩;have hY7:=hY6.step hb7;have HP7:Hid (PaS w0 w w7 R b o c (aP zs m m) zs/\w.heap.size<Y/\Y<w4.heap.size):=⟨HP6.out.1.step hb7,HP6.out.2⟩;have HC7:Hid (CopT w7 w4.heap.size (.slice ua fs.length uc) fs (itL zs m m)/\aP zs m m<=256):=⟨HC6.out.1.below hb7,HC6.out.2⟩;have HSW7:Hid (SentR w7):=HSW.out.below hb7;clear hb7 HP6 HC6 HSW hY6 c0 c1 c2 f0 f1 f2 yl
  rcases h7 with ⟨hpk,rfl⟩ | ⟨hpk,rfl⟩
  rotate_left
  ·obtain ⟨T,x,g0⟩:=HSW7.out.pk
   have HF:Hid (PkW4 f zs R w (.panicked [{ v:=.iface T x,recovered:=false }]) w7):=PkW4.no (fun h=>hpk (by have h1:=h.ok;rw [HM.out.1,HEO.out.1,HEO.out.2] at h1;exact h1.ct HC7.out.1.ct.symm)) HP7.out.1.on T x
   rw [HRP.out.1] at HF;go_wp2;exact ⟨rfl,HF.out⟩
  ·obtain ⟨c0,c1,c2,f0,f1,f2,yl⟩:=id hY7
   obtain ⟨x0,x1,x2,p0,p1,p2,xl⟩:=HP7.out.1.bx;have hon:Only (fun x=>x=w.heap.size) w7 (((w7.setCell ⟨w.heap.size,0,none⟩ (.int .i64 E)).setCell ⟨w.heap.size,1,none⟩ (.int .i64 O)).setCell ⟨w.heap.size,2,none⟩ (.slice ua fs.length uc)):=
    (((Only.refl (fun x=>x=w.heap.size) w7).setCell (p:=⟨w.heap.size,0,none⟩) (.inl rfl) _).setCell (p:=⟨w.heap.size,1,none⟩) (.inl rfl) _).setCell (p:=⟨w.heap.size,2,none⟩) (.inl rfl) _
   have HG:Hid (PrG f zs):=⟨HS.out.2.2.2,HY0.out.1,by rw [HM.out.1];exact HC7.out.2,by rw [HM.out.1,HEO.out.1,HEO.out.2];exact hpk.ct HC7.out.1.ct,by rw [HM.out.1];exact HAZ.out.1 (by trivial)⟩
   have HF:Hid (PkW4 f zs R w (.returned (.agg #[.int .i64 E,.int .i64 O,.slice ua fs.length uc])) (((w7.setCell ⟨w.heap.size,0,none⟩ (.int .i64 E)).setCell ⟨w.heap.size,1,none⟩ (.int .i64 O)).setCell ⟨w.heap.size,2,none⟩ (.slice ua fs.length uc))):=by
    refine ⟨.inl ⟨HG.out,.slice ua fs.length uc,fs,by rw [HEO.out.1,HEO.out.2],by rw [HM.out.1];exact (HC7.out.1.stay hon (fun k hk e=>by have:=HP7.out.2;omega)).weak (by have:=HP7.out.2;omega)⟩,?_⟩
    exact HP7.out.1.on.thenBelow (hon.below HP7.out.1.on.size (fun k hk=>by omega))
   rw [HRP.out.1] at HF;clear hon HP7 HC7 hpk hY7 HSW7;go_wp2;refine bodyPost_ret (v:=.agg #[.int .i64 E,.int .i64 O,.slice ua fs.length uc]) (by simp [results,Tryz.results131,go_sem,x0,x1,x2]) rfl ?_
   exact HF.out
theorem z2z (p q:Nat) (x0 x1 x2 y:Value) (u:TypeId) (pv:Value) (older:List PanicEntry) (w:World) (hp:Box3 w p x0 x1 x2) (hq:w.cell? ⟨q,0,none⟩=some y) (hz:w.frozen? ⟨q,0,none⟩=false) (hne:¬q=p) :
  CallsD Tryz.prog 130 #[.pointer (some ⟨p,0,none⟩),.pointer (some ⟨q,0,none⟩)] (.panicking ({ v:=.iface u pv,recovered:=false } :: older)) w fun e u' w'=>
   e=.returned (.tuple #[])/\u'=.panicking ({ v:=.iface u pv,recovered:=true } :: older)/\w'=(((w.setCell ⟨p,0,none⟩ (.int .i64 0)).setCell ⟨p,1,none⟩ (.int .i64 0)).setCell ⟨p,2,none⟩ (.slice none 0 0)).setCell ⟨q,0,none⟩ (.bool false):=by
 obtain ⟨c0,c1,c2,f0,f1,f2,pl⟩:=hp;refine callsD_of_wpS Tryz.func130 rfl fun c₀ cs hu=>?_
 apply wpS_seq
 apply wpS_region
 simp [wpOpsS,go_sem,recoverD,hu,Tryz.ntmps130,Exit.thenS]
 refine wpS_cond (t:=true) (by simp [Act.eval,Array.replicate]) ?_
 simp only [if_true]
 apply wpS_region
 simp [wpOpsS,go_sem,c0,c1,c2,f0,f1,f2,hq,hz,hne,bodyPostS,results,Tryz.results130]
theorem ze7 (p q:Nat) (w:World) :
  CallsD Tryz.prog 130 #[.pointer (some ⟨p,0,none⟩),.pointer (some ⟨q,0,none⟩)] .returning w fun e u' w'=>e=.returned (.tuple #[])/\u'=.returning/\w'=w:=by
 refine callsD_of_wpS Tryz.func130 rfl fun c₀ cs hu=>?_
 apply wpS_seq
 apply wpS_region
 simp [wpOpsS,go_sem,recoverD,hu,Tryz.ntmps130,Exit.thenS]
 refine wpS_cond (t:=false) (by simp [Act.eval,Array.replicate]) ?_
 simp only [Bool.false_eq_true,if_false]
 refine wpS_of_wp (wp_skip ?_)
 cases c₀
 simp_all [bodyPostS,results,Tryz.results130]
def PrA (f:List Int->Option (List Int)) (zs:List Int) (w:World) (r:Ending) (w':World):Prop:=
 ((PrG f zs/\∃ v fs,r=.returned (.tuple #[.agg #[.int .i64 (rpE zs),.int .i64 (rpO zs),v],.bool true])/\CopT w' w.heap.size v fs (itL zs (rpM zs) (rpM zs)))\/(¬PrG f zs/\r=.returned (.tuple #[.agg #[.int .i64 0,.int .i64 0,.slice none 0 0],.bool false])))/\Below w.heap.size w w'
theorem z7v (f:List Int->Option (List Int)) (hf:zz f) (a:Option Addr) (cap:Nat) (zs:List Int) (w:World) (hb:Byt w a zs) (hm:zs.length<=281474976710656) (hc:zs.length<=cap) (hc2:cap<=9223372036854775807) (hS:SentR w) :
  Calls Tryz.prog 112 #[.slice a zs.length cap] w (PrA f zs w):=by
 have hmf:∀ (fn:Fn) (first cap:Array Value) (w:World),(Instr.makeFunc fn first cap).run Tryz.prog w=.ok (.func fn first cap) w:=fun _ _ _ _=>rfl
 have hw0:Below w.heap.size w (w.alloc (Obj.cells #[.int .i64 0,.int .i64 0,.slice none 0 0] 46)):=ba;have hw:Below w.heap.size w ((w.alloc (Obj.cells #[.int .i64 0,.int .i64 0,.slice none 0 0] 46)).alloc (Obj.cells #[.bool false] 4)):=hw0.alloc (by simp) _
 have hP:=(Box3.new w (.int .i64 0) (.int .i64 0) (.slice none 0 0) 46).alloc (Obj.cells #[.bool false] 4);have q0:((w.alloc (Obj.cells #[.int .i64 0,.int .i64 0,.slice none 0 0] 46)).alloc (Obj.cells #[.bool false] 4)).cell? ⟨w.heap.size+1,0,none⟩=some (.bool false):=by simp
 have q1:((w.alloc (Obj.cells #[.int .i64 0,.int .i64 0,.slice none 0 0] 46)).alloc (Obj.cells #[.bool false] 4)).frozen? ⟨w.heap.size+1,0,none⟩=false:=by simp
 have hsz:((w.alloc (Obj.cells #[.int .i64 0,.int .i64 0,.slice none 0 0] 46)).alloc (Obj.cells #[.bool false] 4)).heap.size=w.heap.size+1+1:=by simp
 by_cases h256:zs.length=256
 rotate_left
 ·obtain ⟨T,x,g0⟩:=(hS.below hw).sz
  have HF:Hid (PrA f zs w (.returned (.tuple #[.agg #[.int .i64 0,.int .i64 0,.slice none 0 0],.bool false])) ((((((w.alloc (Obj.cells #[.int .i64 0,.int .i64 0,.slice none 0 0] 46)).alloc (Obj.cells #[.bool false] 4)).setCell ⟨w.heap.size,0,none⟩ (.int .i64 0)).setCell ⟨w.heap.size,1,none⟩ (.int .i64 0)).setCell ⟨w.heap.size,2,none⟩ (.slice none 0 0)).setCell ⟨w.heap.size+1,0,none⟩ (.bool false))):=⟨.inr ⟨fun h=>h256 h.len,rfl⟩,(((hw.setCell (by simp) _).setCell (by simp) _).setCell (by simp) _).setCell (by simp) _⟩
  obtain ⟨c0,c1,c2,f0,f1,f2,pl⟩:=id hP;clear hb hS hw0 hsz
  go_enter_defers Tryz.func112,Tryz.ntmps112
  go_wp2
  generalize (w.alloc (Obj.cells #[.int .i64 0,.int .i64 0,.slice none 0 0] 46)).alloc (Obj.cells #[.bool false] 4)=W at *;refine leaves_cons (f:=130) (args:=#[.pointer (some ⟨w.heap.size,0,none⟩),.pointer (some ⟨w.heap.size+1,0,none⟩)]) (by simp) (by simp [go_sem]) ?_
  refine (z2z w.heap.size (w.heap.size+1) _ _ _ _ T x [] W hP q0 q1 (by omega)).mono ?_
  rintro e u' w'' ⟨rfl,rfl,rfl⟩
  simp [Leaves,settle,results,Tryz.results112,go_sem,c0,c1,c2,q0]
  exact HF.out
 ·obtain ⟨b,o,rfl,hbl,hz⟩:=hb.2 (by omega)
  have key:∀ (W:World) (v:Value) (T:TypeId),(W.alloc (Obj.cells #[v] T)).cell? ⟨W.heap.size,0,none⟩=some v/\(W.alloc (Obj.cells #[v] T)).frozen? ⟨W.heap.size,0,none⟩=false:=fun W v T=>⟨by simp,by simp⟩
  have k2:=key ((w.alloc (Obj.cells #[.int .i64 0,.int .i64 0,.slice none 0 0] 46)).alloc (Obj.cells #[.bool false] 4)) (Value.slice (some ⟨b,o,none⟩) 256 cap) 192;rw [hsz] at k2;have hR:PrR (((w.alloc (Obj.cells #[.int .i64 0,.int .i64 0,.slice none 0 0] 46)).alloc (Obj.cells #[.bool false] 4)).alloc (Obj.cells #[.slice (some ⟨b,o,none⟩) 256 cap] 192)) (w.heap.size+1+1) b o zs.length cap 0:=⟨⟨o,by rw [h256];exact k2.1,fun _=>rfl⟩,k2.2,by simp,Nat.zero_le _,hc⟩
  have hw2:Below w.heap.size w (((w.alloc (Obj.cells #[.int .i64 0,.int .i64 0,.slice none 0 0] 46)).alloc (Obj.cells #[.bool false] 4)).alloc (Obj.cells #[.slice (some ⟨b,o,none⟩) 256 cap] 192)):=hw.alloc (by simp;omega) _
  have hB:PrB (((w.alloc (Obj.cells #[.int .i64 0,.int .i64 0,.slice none 0 0] 46)).alloc (Obj.cells #[.bool false] 4)).alloc (Obj.cells #[.slice (some ⟨b,o,none⟩) 256 cap] 192)) (w.heap.size+1+1) b o zs:=⟨fun i hi=>keep hw2 hbl (hz i hi),hb.1,by omega,by have:=hw2.size;omega⟩
  have H1:=zl5 f hf (w.heap.size+1+1) b o cap zs w _ hR hB h256 hc2 hS hw2 (by omega)
  have hP2:=hP.alloc (Obj.cells #[.slice (some ⟨b,o,none⟩) 256 cap] 192);have q02:=ze (Obj.cells #[.slice (some ⟨b,o,none⟩) 256 cap] 192) (by simp) q0
  have q12:(((w.alloc (Obj.cells #[.int .i64 0,.int .i64 0,.slice none 0 0] 46)).alloc (Obj.cells #[.bool false] 4)).alloc (Obj.cells #[.slice (some ⟨b,o,none⟩) 256 cap] 192)).frozen? ⟨w.heap.size+1,0,none⟩=false:=(((Below.refl _ _).alloc nl _).frozen (p:=⟨w.heap.size+1,0,none⟩) (by simp)).trans q1
  have HW2:Hid (Below w.heap.size w (((w.alloc (Obj.cells #[.int .i64 0,.int .i64 0,.slice none 0 0] 46)).alloc (Obj.cells #[.bool false] 4)).alloc (Obj.cells #[.slice (some ⟨b,o,none⟩) 256 cap] 192))/\(((w.alloc (Obj.cells #[.int .i64 0,.int .i64 0,.slice none 0 0] 46)).alloc (Obj.cells #[.bool false] 4)).alloc (Obj.cells #[.slice (some ⟨b,o,none⟩) 256 cap] 192)).heap.size=w.heap.size+1+1+1):=⟨hw2,by simp⟩
  clear hb hS hw0 hsz hw hR hB hw2 hP q0 q1 hz key k2
  go_enter_defers Tryz.func112,Tryz.ntmps112
  go_wp2_with fail
  generalize ((w.alloc (Obj.cells #[.int .i64 0,.int .i64 0,.slice none 0 0] 46)).alloc (Obj.cells #[.bool false] 4)).alloc (Obj.cells #[.slice (some ⟨b,o,none⟩) 256 cap] 192)=W at *;refine H1.mono ?_;clear H1;rintro e w1 ⟨h1,ho1⟩;have hP3:=hP2.only ho1 (by omega)
  have q03:=ho1.cell (by have:=HW2.out.2;omega) (by omega) q02
  have q13:=(z68 ho1 (b:=w.heap.size+1) (o:=0) (by have:=HW2.out.2;omega) (by omega)).trans q12
  have hbw:Below w.heap.size w w1:=HW2.out.1.trans (ho1.below HW2.out.1.size (fun k hk=>by omega))
  obtain ⟨c0,c1,c2,f0,f1,f2,pl⟩:=id hP3;have HSZ:Hid (W.heap.size=w.heap.size+1+1+1/\W.heap.size<=w1.heap.size):=⟨HW2.out.2,ho1.size⟩;clear ho1 hP2 q02 q12 HW2;rcases h1 with ⟨hG,v,fs,rfl,hcop⟩ | ⟨hG,T,x,rfl⟩
  rotate_left
  ·have HF:Hid (PrA f zs w (.returned (.tuple #[.agg #[.int .i64 0,.int .i64 0,.slice none 0 0],.bool false])) ((((w1.setCell ⟨w.heap.size,0,none⟩ (.int .i64 0)).setCell ⟨w.heap.size,1,none⟩ (.int .i64 0)).setCell ⟨w.heap.size,2,none⟩ (.slice none 0 0)).setCell ⟨w.heap.size+1,0,none⟩ (.bool false))):=⟨.inr ⟨hG,rfl⟩,(((hbw.setCell (by simp) _).setCell (by simp) _).setCell (by simp) _).setCell (by simp) _⟩
   clear hbw;go_wp2;refine leaves_cons (f:=130) (args:=#[.pointer (some ⟨w.heap.size,0,none⟩),.pointer (some ⟨w.heap.size+1,0,none⟩)]) (by simp) (by simp [go_sem]) ?_
   refine (z2z w.heap.size (w.heap.size+1) _ _ _ _ T x [] w1 hP3 q03 q13 (by omega)).mono ?_
   rintro e u' w'' ⟨rfl,rfl,rfl⟩
   simp [Leaves,settle,results,Tryz.results112,go_sem,c0,c1,c2,q03]
   exact HF.out
  ·obtain ⟨va,vc,rfl⟩:=hcop.row.form
   obtain ⟨E,hE⟩:∃ y,rpE zs=y:=⟨_,rfl⟩;obtain ⟨O,hO⟩:∃ y,rpO zs=y:=⟨_,rfl⟩;have hon:Only (fun k=>k=w.heap.size\/k=w.heap.size+1) w1 ((((w1.setCell ⟨w.heap.size,0,none⟩ (.int .i64 E)).setCell ⟨w.heap.size,1,none⟩ (.int .i64 O)).setCell ⟨w.heap.size,2,none⟩ (.slice va fs.length vc)).setCell ⟨w.heap.size+1,0,none⟩ (.bool true)):=
    ((((Only.refl _ w1).setCell (p:=⟨w.heap.size,0,none⟩) (.inl (.inl rfl)) _).setCell (p:=⟨w.heap.size,1,none⟩) (.inl (.inl rfl)) _).setCell (p:=⟨w.heap.size,2,none⟩) (.inl (.inl rfl)) _).setCell (p:=⟨w.heap.size+1,0,none⟩) (.inl (.inr rfl)) _
   have HF:Hid (PrA f zs w (.returned (.tuple #[.agg #[.int .i64 E,.int .i64 O,.slice va fs.length vc],.bool true])) ((((w1.setCell ⟨w.heap.size,0,none⟩ (.int .i64 E)).setCell ⟨w.heap.size,1,none⟩ (.int .i64 O)).setCell ⟨w.heap.size,2,none⟩ (.slice va fs.length vc)).setCell ⟨w.heap.size+1,0,none⟩ (.bool true))):=
    ⟨.inl ⟨hG,.slice va fs.length vc,fs,by rw [hE,hO],(hcop.stay hon (fun k hk e=>by have:=HSZ.out;omega)).weak (by have:=HSZ.out;omega)⟩,hbw.trans (hon.below hbw.size (fun k hk=>by omega))⟩
   rw [hE,hO];clear hbw hon hcop hG hE hO;go_wp2;refine leaves_cons (f:=130) (args:=#[.pointer (some ⟨w.heap.size,0,none⟩),.pointer (some ⟨w.heap.size+1,0,none⟩)]) (by simp) (by simp [go_sem]) ?_
   refine (ze7 w.heap.size (w.heap.size+1) _).mono ?_;rintro e u' w'' ⟨rfl,rfl,rfl⟩
   simp [Leaves,settle,results,Tryz.results112,go_sem,c0,c1,c2,q03]
   exact HF.out
theorem zm9 {E O:Int} {es:List El} (h:PbR E O es) (hr:∀ e ∈ es,∀ z ∈ e.ls,0<=z/\z<=255):∀ z ∈ pkL E O es,0<=z/\z<=255:=by
 intro z hz
 obtain ⟨hE,hO,hn,hk,hs⟩:=h;unfold pkL pbH pbI pbB at hz
 simp only [List.mem_append,List.mem_cons,List.not_mem_nil,or_false,List.mem_replicate,List.mem_flatMap] at hz
 rcases hz with ((h1 | h1) | h1) | h1
 ·omega
 ·obtain ⟨e,he,h2⟩:=h1
  obtain ⟨k,hk1,rfl⟩:=z2x he;have:=hk k hk1
  omega
 ·obtain ⟨e,he,h2⟩:=h1
  exact hr e he z h2
 ·omega
structure SpS (w W:World) (E O:Int) (u:Value) (fs:List El):Prop where
 cp:CpP w W (w.heap.size+1) E O u fs
 dp:Deep W (w.heap.size+1+1) fs
 bx:Box3 W w.heap.size (.int .i64 0) (.int .i64 0) (.slice none 0 0)
theorem SpS.step {w W W':World} {E O:Int} {u:Value} {fs:List El} (h:SpS w W E O u fs) (hb:Below W.heap.size W W'):SpS w W' E O u fs:=⟨h.cp.step hb,h.dp.below hb,h.bx.step hb⟩
theorem SpS.more {w W w2 w3:World} {E O:Int} {u v':Value} {fs:List El} {e:El} {ob:Obj} (h:SpS w W E O u fs) (hb:Below W.heap.size W w2) (hm:Mine w2 W.heap.size w2.heap.size e.a e.c e.ls) (hov:OVt w3 (w.heap.size+1+1) v' (fs++[e])) (hg:(w2.alloc ob).grownBy w3 u.ownBlock) :
  SpS w (w3.setCell ⟨w.heap.size+1,2,none⟩ v') E O v' (fs++[e])/\Below (w.heap.size+1+1) W w3:=by
 obtain ⟨h1,h2⟩:=h.cp.more hb hov hg;exact ⟨⟨h1,h.cp.deep h.dp hb hm hg,(h.bx.keep h2 (by omega)).other (by simp) _⟩,h2⟩
theorem SpS.start (w W:World) (E O:Int) (T:TypeId) (hw:Below w.heap.size w W) (hs:W.heap.size=w.heap.size+1) (hb:Box3 W w.heap.size (.int .i64 0) (.int .i64 0) (.slice none 0 0)):SpS w (W.alloc (Obj.cells #[.int .i64 E,.int .i64 O,.slice none 0 0] T)) E O (.slice none 0 0) []:=by
 have h1:=Box3.new W (.int .i64 E) (.int .i64 O) (.slice none 0 0) T;rw [hs] at h1;exact ⟨⟨hw.alloc hw.size _,by omega,OVt.nil _ _,h1⟩,Deep.nil _ _,hb.alloc _⟩
theorem z79 (f:List Int->Option (List Int)) (hf:zz f) (a:Option Addr) (c:Nat) (zs:List Int) (w:World) (hb:Byt w a zs) (hm:zs.length<=281474976710656) (hc:zs.length<=c) (hc2:c<=9223372036854775807) :
  Calls Tryz.prog 77 #[.slice a zs.length c] w (PrA f zs w):=by
 have hw:Below w.heap.size w (w.alloc (Obj.cells #[.int .i64 0,.int .i64 0,.slice none 0 0] 46)):=ba;have hX:=Box3.new w (.int .i64 0) (.int .i64 0) (.slice none 0 0) 46;have hsz:(w.alloc (Obj.cells #[.int .i64 0,.int .i64 0,.slice none 0 0] 46)).heap.size=w.heap.size+1:=by simp
 generalize hRP:PrA f zs w=RP;have HRP:Hid (PrA f zs w=RP/\True):=⟨hRP,trivial⟩;clear hRP
 by_cases h256:zs.length=256
 rotate_left
 ·have HF:Hid (PrA f zs w (.returned (.tuple #[.agg #[.int .i64 0,.int .i64 0,.slice none 0 0],.bool false])) (w.alloc (Obj.cells #[.int .i64 0,.int .i64 0,.slice none 0 0] 46))):=⟨.inr ⟨fun h=>h256 h.len,rfl⟩,hw⟩
  rw [HRP.out.1] at HF;have hl2:((zs.length:Int) != 256)=true:=by rw [bne_iff_ne];omega
  clear hb hw hX hsz
  go_enter Tryz.func77,Tryz.ntmps77
  go_wp2
  refine bodyPost_ret (v:=.tuple #[.agg #[.int .i64 0,.int .i64 0,.slice none 0 0],.bool false]) (by simp [results,Tryz.results77,go_sem]) rfl ?_
  first | exact HF.out | (simpa using HF.out)
 obtain ⟨b,off,rfl,hbw,hcc⟩:=hb.2 (by omega)
 have HCC:Hid (∀ i,i<256->w.cell? ⟨b,off+i,none⟩=some (.int .u8 (zs.getD i 0))):=fun i hi=>hcc i (by omega)
 have HRG:Hid (∀ i,0<=zs.getD i 0/\zs.getD i 0<=255):=fun i=>zm hb.1 i
 have HBR:Hid ((∀ z ∈ zs,0<=z/\z<=255)/\zs.length=256/\zz f):=⟨hb.1,h256,hf⟩;have HBY:Hid (Byt w (some ⟨b,off,none⟩) zs):=hb;have HHD:Hid (rpE zs=zs.getD 1 0*256+zs.getD 2 0/\rpO zs=zs.getD 3 0*256+zs.getD 4 0/\rpM zs=(zs.getD 5 0).toNat):=⟨rfl,rfl,rfl⟩;have c0:(w.alloc (Obj.cells #[.int .i64 0,.int .i64 0,.slice none 0 0] 46)).cell? ⟨b,off,none⟩=some (.int .u8 (zs.getD 0 0)):=ze _ hbw (hcc 0 (by omega))
 have c1:(w.alloc (Obj.cells #[.int .i64 0,.int .i64 0,.slice none 0 0] 46)).cell? ⟨b,off+1,none⟩=some (.int .u8 (zs.getD 1 0)):=ze _ hbw (hcc 1 (by omega))
 have c2:(w.alloc (Obj.cells #[.int .i64 0,.int .i64 0,.slice none 0 0] 46)).cell? ⟨b,off+2,none⟩=some (.int .u8 (zs.getD 2 0)):=ze _ hbw (hcc 2 (by omega))
 have c3:(w.alloc (Obj.cells #[.int .i64 0,.int .i64 0,.slice none 0 0] 46)).cell? ⟨b,off+3,none⟩=some (.int .u8 (zs.getD 3 0)):=ze _ hbw (hcc 3 (by omega))
 have c4:(w.alloc (Obj.cells #[.int .i64 0,.int .i64 0,.slice none 0 0] 46)).cell? ⟨b,off+4,none⟩=some (.int .u8 (zs.getD 4 0)):=ze _ hbw (hcc 4 (by omega))
 have c50:w.cell? ⟨b,off+5,none⟩=some (.int .u8 (zs.getD 5 0)):=hcc 5 (by omega)
 have c5:(w.alloc (Obj.cells #[.int .i64 0,.int .i64 0,.slice none 0 0] 46)).cell? ⟨b,off+5,none⟩=some (.int .u8 (zs.getD 5 0)):=ze _ hbw c50;have r1:=HRG.out 1;have r2:=HRG.out 2;have r3:=HRG.out 3;have r4:=HRG.out 4;have r5:=HRG.out 5;have HQ:Hid (∀ q z:Int,zs.getD 0 0=q->zs.getD 5 0=z->(q≠80\/16<z)->¬PrG f zs):=fun q z hq hz h hG=>by
  rcases h with h | h
  ·exact h (hq ▸ hG.sg)
  ·have:=hG.ok.n
   rw [z0p] at this;unfold rpM at this
   omega
 have HQ2:=HQ.out _ _ rfl rfl;have HQ0:Hid (∀ q:Int,zs.getD 0 0=q->q=80->zs.getD 0 0=80):=fun q h1 h2=>h1.trans h2
 have HQ3:=HQ0.out _ rfl;rw [h256];rw [h256] at hc hm;clear hcc hb h256 HQ hf;generalize hq0:zs.getD 0 0=q at *;generalize zs.getD 1 0=x1 at *;generalize zs.getD 2 0=x2 at *;generalize zs.getD 3 0=x3 at *;generalize zs.getD 4 0=x4 at *;generalize zs.getD 5 0=z at *;have HQE:Hid (zs.getD 0 0=q/\True):=⟨hq0,trivial⟩;clear hq0 HQ0 HQ3
 by_cases hbad:q≠80\/16<z
 ·have HF:Hid (∀ W,Below w.heap.size w W->PrA f zs w (.returned (.tuple #[.agg #[.int .i64 0,.int .i64 0,.slice none 0 0],.bool false])) W):=fun W h=>⟨.inr ⟨HQ2 hbad,rfl⟩,h⟩
  rw [HRP.out.1] at HF;have HW:Hid (Below w.heap.size w (w.alloc (Obj.cells #[.int .i64 0,.int .i64 0,.slice none 0 0] 46))):=hw;have key:((q != 80)=true)\/((q != 80)=false/\16<z):=by
   by_cases h80:q=80
   ·exact .inr ⟨by rw [h80];rfl,by rcases hbad with h9 | h9 <;> omega⟩
   ·exact .inl (by rw [bne_iff_ne];exact h80)
  clear hbad HQ2 hX hsz hw HBY HBR HHD HRG HCC;rcases key with h | ⟨h,h2⟩
  all_goals
   go_enter Tryz.func77,Tryz.ntmps77
   go_wp2
   refine bodyPost_ret (v:=.tuple #[.agg #[.int .i64 0,.int .i64 0,.slice none 0 0],.bool false]) (by simp [results,Tryz.results77,go_sem]) rfl (HF.out _ ?_)
   first | exact HW.out | exact ((HW.out.setCell (p:=⟨w.heap.size,0,none⟩) (by simp) _).setCell (p:=⟨w.heap.size,1,none⟩) (by simp) _).setCell (p:=⟨w.heap.size,2,none⟩) (by simp) _
 have hq80 : q = 80 := by rcases Classical.em (q = 80) with h | h
                          ·exact h
                          ·exact absurd (.inl h) hbad
 have hz2:¬16<z:=fun h=>hbad (.inr h)
 subst hq80;obtain ⟨m,rfl⟩:=Int.eq_ofNat_of_zero_le r5.1;have hm16:m<=16:=by omega
 have HHM:Hid (rpE zs=x1*256+x2/\rpO zs=x3*256+x4/\rpM zs=m):=⟨HHD.out.1,HHD.out.2.1,by rw [HHD.out.2.2];simp⟩
 clear hbad HQ2 HHD;have hw1:IntKind.i64.wrap x1=x1:=IntWalk.i64_in _ (by omega)
 have hw2:IntKind.i64.wrap x2=x2:=IntWalk.i64_in _ (by omega)
 have hw3:IntKind.i64.wrap x3=x3:=IntWalk.i64_in _ (by omega)
 have hw4:IntKind.i64.wrap x4=x4:=IntWalk.i64_in _ (by omega)
 have hs1:IntKind.i64.wrap (x1*256)=x1*256:=IntWalk.i64_in _ (by omega)
 have hs3:IntKind.i64.wrap (x3*256)=x3*256:=IntWalk.i64_in _ (by omega)
 have ha1:IntKind.i64.wrap (x1*256+x2)=x1*256+x2:=IntWalk.i64_in _ (by omega)
 have ha3:IntKind.i64.wrap (x3*256+x4)=x3*256+x4:=IntWalk.i64_in _ (by omega)
 have hb0:b<(w.alloc (Obj.cells #[.int .i64 0,.int .i64 0,.slice none 0 0] 46)).heap.size:=by simp;omega
 have HST0:Hid (∀ E O,SpS w ((w.alloc (Obj.cells #[.int .i64 0,.int .i64 0,.slice none 0 0] 46)).alloc (Obj.cells #[.int .i64 E,.int .i64 O,.slice none 0 0] 46)).drew E O (.slice none 0 0) []):=fun E O=>(SpS.start w _ E O 46 hw hsz hX).step ((Below.refl _ _).drew)
 go_enter Tryz.func77,Tryz.ntmps77
 go_wp2_with fail
 refine zi (S:=fun W=>W.cell? ⟨b,off+1,none⟩=some (.int .u8 x1)/\W.cell? ⟨b,off+2,none⟩=some (.int .u8 x2)/\W.cell? ⟨b,off+3,none⟩=some (.int .u8 x3)/\W.cell? ⟨b,off+4,none⟩=some (.int .u8 x4)) 23 (by kernel_rfl) (by kernel_rfl) (by exact ⟨c1,c2,c3,c4⟩) (fun hHeld=>?_)
 refine tk 0 ?_
 try simp only [tkS]
 refine tk 1 ?_
 try simp only [tkS]
 refine tk 2 ?_
 try simp only [tkS]
 refine tk 3 ?_
 try simp only [tkS]
 refine tk 4 ?_
 try simp only [tkS]
 refine tk 5 ?_
 try simp only [tkS]
 refine tk 6 ?_
 try simp only [tkS]
 refine tk 7 ?_
 try simp only [tkS]
 refine tk 8 ?_
 try simp only [tkS]
 refine tk 9 ?_
 try simp only [tkS]
 refine tk 10 ?_
 try simp only [tkS]
 refine tk 11 ?_
 try simp only [tkS]
 refine tk 12 ?_
 try simp only [tkS]
 refine tk 13 ?_
 try simp only [tkS]
 refine tk 14 ?_
 try simp only [tkS]
 refine tk 15 ?_
 try simp only [tkS]
 refine tk 16 ?_
 try simp only [tkS]
 refine tk 17 ?_
 try simp only [tkS]
 refine tk 18 ?_
 try simp only [tkS]
 refine tk 19 ?_
 try simp only [tkS]
 refine tk 20 ?_
 try simp only [tkS]
 refine wpAnyH_ready (rs:=[21]) (by kernel_rfl) (by simp) ?_
 refine AllReadyH.cons rfl (fun K hK=>?_) AllReadyH.nil
 go_simp
 refine hK.out _ _ (by exact ⟨ze _ hb0 c1,ze _ hb0 c2,ze _ hb0 c3,ze _ hb0 c4⟩) (fun hHeld=>?_)
 clear hK K
 try simp only [tkS]
 refine wpAnyH_ready (rs:=[22]) (by kernel_rfl) (by simp) ?_
 refine AllReadyH.cons rfl (fun K hK=>?_) AllReadyH.nil
 go_simp
 refine hK.out _ _ (by exact ⟨ze _ hb0 c1,ze _ hb0 c2,ze _ hb0 c3,ze _ hb0 c4⟩) (fun hHeld=>?_)
 clear hK K
 try simp only [tkS]
 refine wpAnyH_done (by kernel_rfl) ?_ _
 simp only [z0g,List.drop_succ_cons,List.drop_zero]
 have HS0:Hid (SpS w ((w.alloc (Obj.cells #[.int .i64 0,.int .i64 0,.slice none 0 0] 46)).alloc (Obj.cells #[.int .i64 (x1*256+x2),.int .i64 (x3*256+x4),.slice none 0 0] 46)).drew (x1*256+x2) (x3*256+x4) (.slice none 0 0) []):=HST0.out _ _;clear HST0 c0 c1 c2 c3 c4 c5 hw1 hw2 hw3 hw4 hs1 hs3 ha1 ha3 hw hX hsz hb0 hHeld;have hE:0<=x1*256+x2/\x1*256+x2<=70000:=by omega
 have hO:0<=x3*256+x4/\x3*256+x4<=70000:=by omega
 generalize x1*256+x2=E at *;generalize x3*256+x4=O at *;generalize ((w.alloc (Obj.cells #[.int .i64 0,.int .i64 0,.slice none 0 0] 46)).alloc (Obj.cells #[.int .i64 E,.int .i64 O,.slice none 0 0] 46)).drew=W1 at *;have HD5:Hid (w.cell? ⟨b,off+5,none⟩=some (.int .u8 (m:Int))):=c50;have c5:=keep HS0.out.cp.bel hbw c50;go_wp2
 go_loopw [5,6] (fun t i wr=>∃ (k:Nat) (u:Value) (fs:List El),k<=m/\i=.int .i64 k/\t=.int .i64 (aP zs m k:Nat)/\aP zs m k<=256/\fs.map El.ct=(itL zs m k).map El.ct/\SpS w wr E O u fs) (fun _ i _=>m-(intOf i).toNat)
 case atStart=>exact ⟨0,_,[],Nat.zero_le _,rfl,by simp only [aP];first | rfl | (congr 1;omega) | (go_num),by simp only [aP];omega,rfl,HS0.out⟩
 case round=>
  clear HS0 c5;obtain ⟨k,u,fs,hk,rfl,rfl,ha,hct,hsp⟩:=hrel;have HST:Hid (fs.map El.ct=(itL zs m k).map El.ct/\fs.length=k):=⟨hct,z5b hct⟩;clear hct;obtain ⟨fa,fc,rfl⟩:=hsp.cp.row.form;have HSP:Hid (SpS w wr E O (.slice fa fs.length fc) fs):=hsp;have d5:=keep hsp.cp.bel hbw c50;obtain ⟨p0,p1,p2,f0,f1,f2,pl⟩:=hsp.cp.box;obtain ⟨x0,x1,x2,g0,g1,g2,xl⟩:=hsp.bx;have hbr:b<wr.heap.size:=by have:=hsp.cp.bel.size;omega
  by_cases hlt:k<m
  ·have d6:=keep hsp.cp.bel hbw (HCC.out (6+2*k) (by omega))
   have d7:=keep hsp.cp.bel hbw (HCC.out (7+2*k) (by omega))
   have r6:=HRG.out (6+2*k);have r7:=HRG.out (7+2*k);have HI:Hid (zs.getD (7+2*k) 0=(cN zs k:Nat)/\aP zs m (k+1)=aP zs m k+cN zs k/\itL zs m (k+1)=itL zs m k++[itE zs m k]/\zs.getD (6+2*k) 0=(itE zs m k).n):=⟨by unfold cN;omega,rfl,rfl,rfl⟩
   rw [HI.out.1] at d7 r7;rw [HI.out.2.2.2] at d6 r6;have HBW:Hid (Byt wr (some ⟨b,off,none⟩) zs):=HBY.out.below hsp.cp.bel nl;have HA:Hid (aP zs m (k+1)<=aP zs m m/\6+2*m<=aP zs m k):=⟨zgl zs m (by omega),z83 zs m k⟩
   have HBL:Hid (Below w.heap.size w wr):=hsp.cp.bel;have hk1:fs.length<=1000:=by have:=HST.out.2;omega
   clear hsp;generalize hy:cN zs k=y at *;have HY:Hid (cN zs k=y/\True):=⟨hy,trivial⟩;clear hy;generalize hat:aP zs m k=t at *;have HAT:Hid (aP zs m k=t/\True):=⟨hat,trivial⟩;clear hat
   by_cases hfit:t+y<=256
   rotate_left
   ·have HF:Hid (∀ W,Below w.heap.size w W->PrA f zs w (.returned (.tuple #[.agg #[.int .i64 0,.int .i64 0,.slice none 0 0],.bool false])) W):=fun W h=>⟨.inr ⟨fun hG=>by have h1:=hG.fit;rw [HHM.out.2.2] at h1;have h2:=HA.out.1;have h3:=HI.out.2.1;omega,rfl⟩,h⟩
    rw [HRP.out.1] at HF;generalize (itE zs m k).n=sn at *;clear HA HI HBW HSP HST;go_wp2;refine bodyPost_ret (v:=.tuple #[.agg #[.int .i64 0,.int .i64 0,.slice none 0 0],.bool false]) (by simp [results,Tryz.results77,go_sem,x0,x1,x2]) rfl (HF.out _ ?_)
    exact ((HBL.out.setCell (p:=⟨w.heap.size,0,none⟩) (by simp) _).setCell (p:=⟨w.heap.size,1,none⟩) (by simp) _).setCell (p:=⟨w.heap.size,2,none⟩) (by simp) _
   have HEI:Hid (itE zs m k=⟨(itE zs m k).n,none,0,(itE zs m k).ls⟩/\(itE zs m k).ls=(zs.drop t).take y/\(itE zs m k).ls.length=y):=⟨rfl,by rw [<-HY.out.1,<-HAT.out.1];rfl,by rw [z6a (by rw [HI.out.2.1];have:=HBR.out.2.1;omega)];exact HY.out.1⟩
   generalize hsn:(itE zs m k).n=sn at *;generalize hsl:(itE zs m k).ls=sl at *;clear hsn hsl;have hyl:y=sl.length:=HEI.out.2.2.symm;have hsl:sl.length<=255:=by omega
   subst hyl;have HPB:Hid (∀ q,(t<c->q=off+t)->Byt wr (some ⟨b,q,none⟩) sl):=fun q hq=>by
    refine ⟨fun z hz=>HBW.out.1 z (by rw [HEI.out.2.1] at hz;exact List.mem_of_mem_drop (List.mem_of_mem_take hz)),fun h0=>?_⟩
    obtain ⟨b',o',e',hb',hz'⟩:=HBW.out.2 (by have:=HBR.out.2.1;omega)
    obtain ⟨rfl,rfl⟩:b=b'/\off=o':=by simpa using e'
    refine ⟨b,q,rfl,hb',fun i hi=>?_⟩
    have hqq:=hq (by omega)
    have:=hz' (t+i) (by have:=HBR.out.2.1;omega)
    rw [hqq,Nat.add_assoc,this,HEI.out.2.1]
    simp [List.getD_eq_getElem?_getD,List.getElem?_take,List.getElem?_drop,hi]
   have hwn:IntKind.i64.wrap sn=sn:=IntWalk.i64_in _ (by omega)
   have hk2:IntKind.i64.wrap (2*(k:Int))=2*(k:Int):=IntWalk.i64_in _ (by omega)
   have hk6:IntKind.i64.wrap (6+2*(k:Int))=((6+2*k:Nat):Int):=by rw [IntWalk.i64_in _ (by omega)];omega
   have hi6:(0:Int)<=6+2*(k:Int)/\6+2*(k:Int)<256:=by omega
   have ht6:(6+2*(k:Int)).toNat=6+2*k:=by omega
   have hn6:6+2*k<256:=by omega
   have hts:IntKind.i64.wrap ((t:Int)+(sl.length:Int))=((t+sl.length:Nat):Int):=by rw [IntWalk.i64_in _ (by omega)];omega
   by_cases hct0:c=t
   ·subst hct0
    have hs0:(0:Int)<=(c:Int)+(sl.length:Int):=by omega
    have hs1:(c:Int)+(sl.length:Int)<=(c:Int):=by omega
    have hs2:c<=((c:Int)+(sl.length:Int)).toNat:=by omega
    have hs3:((c:Int)+(sl.length:Int)).toNat-c=sl.length:=by omega
    have hby:Byt wr (some ⟨b,off,none⟩) sl:=HPB.out (off) (fun h=>by omega)
    have HE1:Hid (OVB (wr.drew.alloc (Obj.cells #[] 5)) wr.heap.size (.slice (some ⟨wr.heap.size,0,none⟩) 0 0) []/\Byt (wr.drew.alloc (Obj.cells #[] 5)) (some ⟨b,off,none⟩) sl/\Below wr.heap.size wr (wr.drew.alloc (Obj.cells #[] 5))):=⟨OVB.empty wr.drew _ nl,(hby.drewN 1).alloc _,Below.drewS ((Below.refl wr.heap.size wr.drew).alloc nl _)⟩;clear hby HPB HBW;go_wp2;refine zi (S:=fun W=>W.cell? ⟨w.heap.size+1,2,none⟩=some (.slice fa fs.length fc)/\W.cell? ⟨b,off+(6+2*k),none⟩=some (.int .u8 sn)) 20 (by kernel_rfl) (by kernel_rfl) (by exact ⟨p2,d6⟩) (fun hHeld=>?_)
    refine tk 0 ?_
    try simp only [tkS]
    refine tk 1 ?_
    try simp only [tkS]
    refine tk 2 ?_
    try simp only [tkS]
    refine tk 3 ?_
    try simp only [tkS]
    refine tk 4 ?_
    try simp only [tkS]
    refine tk 5 ?_
    try simp only [tkS]
    refine tk 6 ?_
    try simp only [tkS]
    refine tk 7 ?_
    try simp only [tkS]
    refine tk 8 ?_
    try simp only [tkS]
    refine tk 10 ?_
    try simp only [tkS]
    refine tk 11 ?_
    try simp only [tkS]
    refine tk 12 ?_
    try simp only [tkS]
    refine tk 13 ?_
    try simp only [tkS]
    refine tk 14 ?_
    try simp only [tkS]
    refine tk 15 ?_
    try simp only [tkS]
    refine wpAnyH_ready (rs:=[9]) (by kernel_rfl) (by simp) ?_
    refine AllReadyH.cons rfl (fun K hK=>?_) AllReadyH.nil
    go_simp
    refine hK.out _ _ (by exact ⟨ze _ pl p2,ze _ hbr d6⟩) (fun hHeld=>?_)
    clear hK K
    try simp only [tkS]
    refine wpAnyH_ready (rs:=[16]) (by kernel_rfl) (by simp) ?_
    refine AllReadyH.cons rfl (fun K hK=>?_) AllReadyH.nil
    refine z0i rfl (z12 (.tmp 80) (.tmp 86) rfl wr.heap.size (.slice (some ⟨wr.heap.size,0,none⟩) 0 0) [] (by simp [Act.eval]) (HE1.out.1) (some ⟨b,off,none⟩) (0) sl (by simp [Act.eval]) (HE1.out.2.1) (by simp;omega) (by simp) ?_)
    intro v2 w2 hov2 hg2
    have hb2:Below wr.heap.size wr w2:=z01 HE1.out.2.2 (by simp) HE1.out.1 hg2
    rw [List.nil_append] at hov2;obtain ⟨ua,uc,rfl,hm2⟩:=hov2.mine;have HM2:Hid (Mine w2 wr.heap.size w2.heap.size ua uc sl/\Below wr.heap.size wr w2):=⟨hm2,hb2⟩;have k0:=keep hb2 pl p2;have k2:=keep hb2 hbr d6;have hl2:w.heap.size+1<w2.heap.size:=by have:=hb2.size;omega
    have hbl2:b<w2.heap.size:=by have:=hb2.size;omega
    clear hm2 hb2 hov2 hg2;refine hK.out _ _ (by exact ⟨k0,k2⟩) (fun hHeld=>?_)
    clear hK K
    try simp only [tkS]
    refine tk 17 ?_
    try simp only [tkS]
    refine wpAnyH_ready (rs:=[18]) (by kernel_rfl) (by simp) ?_
    refine AllReadyH.cons rfl (fun K hK=>?_) AllReadyH.nil
    go_simp
    refine hK.out _ _ (by exact ⟨ze _ hl2 k0,ze _ hbl2 k2⟩) (fun hHeld=>?_)
    clear hK K
    try simp only [tkS]
    refine wpAnyH_ready (rs:=[19]) (by kernel_rfl) (by simp) ?_
    refine AllReadyH.cons rfl (fun K hK=>?_) AllReadyH.nil
    refine z0i rfl (z2t (.tmp 72) (.tmp 89) rfl (w.heap.size+1+1) (.slice fa fs.length fc) fs (by simp [Act.eval]) (HSP.out.cp.row.below (HSP.out.cp.mid HM2.out.2).1) w2.heap.size 1 ⟨sn,ua,uc,sl⟩ (by simp [Act.eval]) (zh9 w2 sn _ sl.length uc 89 _ rfl rfl rfl rfl) (by omega) (by simp;omega) ?_)
    intro v3 w3 hov3 hg3
    obtain ⟨sa3,sc3,hv3⟩:=hov3.form;rw [List.length_append,List.length_singleton] at hv3;subst hv3;have HM:Hid _:=HSP.out.more (e:=⟨sn,ua,uc,sl⟩) HM2.out.2 HM2.out.1 hov3 hg3;have e3:=keep HM.out.2 (by omega) p2
    have hne:¬(Value.slice fa fs.length fc).ownBlock=some b:=fun he=>by have:=(HSP.out.cp.row.blk he).1;omega
    have d3:=(Only.ofGrownT hg3).cell (b:=b) (o:=off+(6+2*k)) (by simp;omega) hne (ze _ hbl2 k2)
    have g3:=(HM.out.2.frozen (p:=⟨w.heap.size+1,2,none⟩) (by simp)).trans f2
    have hl3:w.heap.size+1<w3.heap.size:=by have:=HM.out.2.size;omega
    clear hov3 hg3;refine hK.out _ _ (by exact ⟨e3,d3⟩) (fun hHeld=>?_)
    clear hK K
    try simp only [tkS]
    refine wpAnyH_done (by kernel_rfl) ?_ _
    simp only [z0g,List.drop_succ_cons,List.drop_zero]
    clear HE1 k0 k2 d3;have HCT2:Hid ((fs++[(⟨sn,ua,uc,sl⟩:El)]).map El.ct=(itL zs m (k+1)).map El.ct/\aP zs m (k+1)<=256/\aP zs m (k+1)=c+sl.length):=⟨by rw [List.map_append,HST.out.1,HI.out.2.2.1,HEI.out.1,List.map_append];rfl,by rw [HI.out.2.1];exact hfit,HI.out.2.1⟩
    have HMC:Hid (SpS w (w3.setCell ⟨w.heap.size+1,2,none⟩ (.slice sa3 (fs.length+1) sc3)) E O (.slice sa3 (fs.length+1) sc3) (fs++[⟨sn,ua,uc,sl⟩])):=HM.out.1;clear HM HM2 HST HSP HI HEI HA p0 p1 p2 f0 f1 f2 x0 x1 x2 g0 g1 g2 hwn hk2 hk6 hi6 ht6 hn6 hts hs0 hs1 hs2 hs3;go_wp2;go_roundw
    case rel=>exact ⟨k+1,_,_,by omega,by go_num,by rw [HCT2.out.2.2];first | rfl | go_num,HCT2.out.2.1,HCT2.out.1,HMC.out⟩
    case measure=>simp [intOf];omega
   ·skip
    have hs0:(0:Int)<=(t:Int)+(sl.length:Int):=by omega
    have hs1:(t:Int)+(sl.length:Int)<=(c:Int):=by omega
    have hs2:t<=((t:Int)+(sl.length:Int)).toNat:=by omega
    have hs3:((t:Int)+(sl.length:Int)).toNat-t=sl.length:=by omega
    have hby:Byt wr (some ⟨b,off+t,none⟩) sl:=HPB.out (off+t) (fun _=>rfl)
    have HE1:Hid (OVB (wr.drew.alloc (Obj.cells #[] 5)) wr.heap.size (.slice (some ⟨wr.heap.size,0,none⟩) 0 0) []/\Byt (wr.drew.alloc (Obj.cells #[] 5)) (some ⟨b,off+t,none⟩) sl/\Below wr.heap.size wr (wr.drew.alloc (Obj.cells #[] 5))):=⟨OVB.empty wr.drew _ nl,(hby.drewN 1).alloc _,Below.drewS ((Below.refl wr.heap.size wr.drew).alloc nl _)⟩;clear hby HPB HBW;go_wp2;refine zi (S:=fun W=>W.cell? ⟨w.heap.size+1,2,none⟩=some (.slice fa fs.length fc)/\W.cell? ⟨b,off+(6+2*k),none⟩=some (.int .u8 sn)) 20 (by kernel_rfl) (by kernel_rfl) (by exact ⟨p2,d6⟩) (fun hHeld=>?_)
    refine tk 0 ?_
    try simp only [tkS]
    refine tk 1 ?_
    try simp only [tkS]
    refine tk 2 ?_
    try simp only [tkS]
    refine tk 3 ?_
    try simp only [tkS]
    refine tk 4 ?_
    try simp only [tkS]
    refine tk 5 ?_
    try simp only [tkS]
    refine tk 6 ?_
    try simp only [tkS]
    refine tk 7 ?_
    try simp only [tkS]
    refine tk 8 ?_
    try simp only [tkS]
    refine tk 10 ?_
    try simp only [tkS]
    refine tk 11 ?_
    try simp only [tkS]
    refine tk 12 ?_
    try simp only [tkS]
    refine tk 13 ?_
    try simp only [tkS]
    refine tk 14 ?_
    try simp only [tkS]
    refine tk 15 ?_
    try simp only [tkS]
    refine wpAnyH_ready (rs:=[9]) (by kernel_rfl) (by simp) ?_
    refine AllReadyH.cons rfl (fun K hK=>?_) AllReadyH.nil
    go_simp
    refine hK.out _ _ (by exact ⟨ze _ pl p2,ze _ hbr d6⟩) (fun hHeld=>?_)
    clear hK K
    try simp only [tkS]
    refine wpAnyH_ready (rs:=[16]) (by kernel_rfl) (by simp) ?_
    refine AllReadyH.cons rfl (fun K hK=>?_) AllReadyH.nil
    refine z0i rfl (z12 (.tmp 80) (.tmp 86) rfl wr.heap.size (.slice (some ⟨wr.heap.size,0,none⟩) 0 0) [] (by simp [Act.eval]) (HE1.out.1) (some ⟨b,off+t,none⟩) (c-t) sl (by simp [Act.eval]) (HE1.out.2.1) (by simp;omega) (by simp) ?_)
    intro v2 w2 hov2 hg2
    have hb2:Below wr.heap.size wr w2:=z01 HE1.out.2.2 (by simp) HE1.out.1 hg2
    rw [List.nil_append] at hov2;obtain ⟨ua,uc,rfl,hm2⟩:=hov2.mine;have HM2:Hid (Mine w2 wr.heap.size w2.heap.size ua uc sl/\Below wr.heap.size wr w2):=⟨hm2,hb2⟩;have k0:=keep hb2 pl p2;have k2:=keep hb2 hbr d6;have hl2:w.heap.size+1<w2.heap.size:=by have:=hb2.size;omega
    have hbl2:b<w2.heap.size:=by have:=hb2.size;omega
    clear hm2 hb2 hov2 hg2;refine hK.out _ _ (by exact ⟨k0,k2⟩) (fun hHeld=>?_)
    clear hK K
    try simp only [tkS]
    refine tk 17 ?_
    try simp only [tkS]
    refine wpAnyH_ready (rs:=[18]) (by kernel_rfl) (by simp) ?_
    refine AllReadyH.cons rfl (fun K hK=>?_) AllReadyH.nil
    go_simp
    refine hK.out _ _ (by exact ⟨ze _ hl2 k0,ze _ hbl2 k2⟩) (fun hHeld=>?_)
    clear hK K
    try simp only [tkS]
    refine wpAnyH_ready (rs:=[19]) (by kernel_rfl) (by simp) ?_
    refine AllReadyH.cons rfl (fun K hK=>?_) AllReadyH.nil
    refine z0i rfl (z2t (.tmp 72) (.tmp 89) rfl (w.heap.size+1+1) (.slice fa fs.length fc) fs (by simp [Act.eval]) (HSP.out.cp.row.below (HSP.out.cp.mid HM2.out.2).1) w2.heap.size 1 ⟨sn,ua,uc,sl⟩ (by simp [Act.eval]) (zh9 w2 sn _ sl.length uc 89 _ rfl rfl rfl rfl) (by omega) (by simp;omega) ?_)
    intro v3 w3 hov3 hg3
    obtain ⟨sa3,sc3,hv3⟩:=hov3.form;rw [List.length_append,List.length_singleton] at hv3;subst hv3;have HM:Hid _:=HSP.out.more (e:=⟨sn,ua,uc,sl⟩) HM2.out.2 HM2.out.1 hov3 hg3;have e3:=keep HM.out.2 (by omega) p2
    have hne:¬(Value.slice fa fs.length fc).ownBlock=some b:=fun he=>by have:=(HSP.out.cp.row.blk he).1;omega
    have d3:=(Only.ofGrownT hg3).cell (b:=b) (o:=off+(6+2*k)) (by simp;omega) hne (ze _ hbl2 k2)
    have g3:=(HM.out.2.frozen (p:=⟨w.heap.size+1,2,none⟩) (by simp)).trans f2
    have hl3:w.heap.size+1<w3.heap.size:=by have:=HM.out.2.size;omega
    clear hov3 hg3;refine hK.out _ _ (by exact ⟨e3,d3⟩) (fun hHeld=>?_)
    clear hK K
    try simp only [tkS]
    refine wpAnyH_done (by kernel_rfl) ?_ _
    simp only [z0g,List.drop_succ_cons,List.drop_zero]
    clear HE1 k0 k2 d3;have HCT2:Hid ((fs++[(⟨sn,ua,uc,sl⟩:El)]).map El.ct=(itL zs m (k+1)).map El.ct/\aP zs m (k+1)<=256/\aP zs m (k+1)=t+sl.length):=⟨by rw [List.map_append,HST.out.1,HI.out.2.2.1,HEI.out.1,List.map_append];rfl,by rw [HI.out.2.1];exact hfit,HI.out.2.1⟩
    have HMC:Hid (SpS w (w3.setCell ⟨w.heap.size+1,2,none⟩ (.slice sa3 (fs.length+1) sc3)) E O (.slice sa3 (fs.length+1) sc3) (fs++[⟨sn,ua,uc,sl⟩])):=HM.out.1;clear HM HM2 HST HSP HI HEI HA p0 p1 p2 f0 f1 f2 x0 x1 x2 g0 g1 g2 hwn hk2 hk6 hi6 ht6 hn6 hts hs0 hs1 hs2 hs3;go_wp2;go_roundw
    case rel=>exact ⟨k+1,_,_,by omega,by go_num,by rw [HCT2.out.2.2];first | rfl | go_num,HCT2.out.2.1,HCT2.out.1,HMC.out⟩
    case measure=>simp [intOf];omega
  ·have hkn:k=m:=by omega
   subst hkn;have HCT:Hid (fs.map El.ct=(itL zs k k).map El.ct/\aP zs k k<=256):=⟨HST.out.1,ha⟩;have hrg:=ziu HCT.out.1 (zg1 HBR.out.1 HBR.out.2.1);have HCP:Hid (CopT wr (w.heap.size+1+1) (.slice fa fs.length fc) fs (itL zs k k)):=⟨HCT.out.1,hsp.cp.row,hsp.dp,hrg⟩;have HFJ:Hid (z32 fs):=zfd HBR.out.2.1 (by omega) HCT.out.2 HCT.out.1
   have HBL:Hid (Below w.heap.size w wr):=hsp.cp.bel;have HPI:Hid (PrG f zs↔PkR f E O fs/\pkL E O fs=zs):=by
    obtain ⟨e1,e2,e3⟩:=HHM.out;have hpk:pkL E O fs=pkL (rpE zs) (rpO zs) (itL zs (rpM zs) (rpM zs)):=by rw [zoe HCT.out.1,e1,e2,e3]
    have hbk:=zkz HBR.out.1 HBR.out.2.1 HQE.out.1 (by rw [e3];exact HCT.out.2)
    constructor
    ·intro hG
     exact ⟨by have h1:=hG.ok;rw [e1,e2,e3] at h1;exact h1.ct HCT.out.1.symm,by rw [hpk];exact hbk.2 hG.rest⟩
    ·rintro ⟨h1,h2⟩
     exact ⟨HBR.out.2.1,HQE.out.1,by rw [e3];exact HCT.out.2,by rw [e1,e2,e3];exact h1.ct HCT.out.1,hbk.1 (by rw [<-hpk];exact h2)⟩
   have HOK:=z3w f HBR.out.2.2 E O fa fc fs wr.drew (HCP.out.its.below ((Below.refl _ _).drew) nl) HFJ.out;clear hrg hsp HST
   by_cases hpk:PkR f E O fs
   rotate_left
   ·have HF:Hid (∀ W,Below w.heap.size w W->PrA f zs w (.returned (.tuple #[.agg #[.int .i64 0,.int .i64 0,.slice none 0 0],.bool false])) W):=fun W h=>⟨.inr ⟨fun hG=>hpk (HPI.out.1 hG).1,rfl⟩,h⟩
    rw [HRP.out.1] at HF;clear HCP HFJ HCT HPI;go_wp2;refine zi (S:=fun W=>W.cell? ⟨w.heap.size+1,0,none⟩=some (.int .i64 E)/\W.cell? ⟨w.heap.size+1,1,none⟩=some (.int .i64 O)/\W.cell? ⟨w.heap.size+1,2,none⟩=some (.slice fa fs.length fc)) 11 (by kernel_rfl) (by kernel_rfl) (by exact ⟨p0,p1,p2⟩) (fun hHeld=>?_)
    refine tk 0 ?_
    try simp only [tkS]
    refine wpAnyH_ready (rs:=[1]) (by kernel_rfl) (by simp) ?_
    refine AllReadyH.cons rfl (fun K hK=>?_) AllReadyH.nil
    go_simp
    refine HOK.mono ?_;clear HOK;rintro r w9 ⟨h9,hb9'⟩;have hb9:Below wr.heap.size wr w9:=Below.drewS hb9';have hS9:=HSP.out.step hb9;have HS9:Hid (SpS w w9 E O (.slice fa fs.length fc) fs):=hS9;obtain ⟨y0,y1,y2,-,-,-,yl⟩:=hS9.cp.box;rcases h9 with ⟨h9,-⟩ | ⟨-,rfl⟩
    ·exact absurd h9 hpk
    clear hb9 hb9' hS9
    dsimp only
    refine hK.out _ _ (by exact ⟨y0,y1,y2⟩) (fun hHeld=>?_)
    clear hK K
    try simp only [tkS]
    refine tk 2 ?_
    try simp only [tkS]
    refine tk 3 ?_
    try simp only [tkS]
    refine tu 4 ?_
    try simp only [tkS]
    refine tu 5 ?_
    try simp only [tkS]
    refine tu 6 ?_
    try simp only [tkS]
    refine tu 7 ?_
    try simp only [tkS]
    refine tu 8 ?_
    try simp only [tkS]
    refine tu 9 ?_
    try simp only [tkS]
    refine tk 10 ?_
    try simp only [tkS]
    refine wpAnyH_done (by kernel_rfl) ?_ _
    simp only [z0g,List.drop_succ_cons,List.drop_zero]
    have HB9:Hid (Below w.heap.size w w9):=HS9.out.cp.bel;obtain ⟨x0,x1,x2,g0,g1,g2,xl⟩:=HS9.out.bx;clear HS9 HSP;go_wp2;refine bodyPost_ret (v:=.tuple #[.agg #[.int .i64 0,.int .i64 0,.slice none 0 0],.bool false]) (by simp [results,Tryz.results77,go_sem,x0,x1,x2]) rfl (HF.out _ ?_)
    exact ((HB9.out.setCell (p:=⟨w.heap.size,0,none⟩) (by simp) _).setCell (p:=⟨w.heap.size,1,none⟩) (by simp) _).setCell (p:=⟨w.heap.size,2,none⟩) (by simp) _
   ·have hPB:PbR E O fs:=hpk.pb HBR.out.2.2 HFJ.out.l (fun e he=>(HCP.out.its.els.1 e he).2.1)
    have HL7:Hid (∀ W,Els true W fa fs->Calls Tryz.prog 100 #[.agg #[.int .i64 E,.int .i64 O,.slice fa fs.length fc]] W fun r w'=>(∃ v,r=.returned v/\OVB w' W.heap.size v (pkL E O fs))/\Below W.heap.size W w'):=fun W h=>zee E O fa fc fs W h hPB
    have HSM:Hid (sm8 (pkL E O fs) zs=true↔pkL E O fs=zs):=zmh (zm9 hPB (fun e he=>(HCP.out.its.els.1 e he).2.1)) HBR.out.1
    have hlen:(pkL E O fs).length=256:=zmd hpk.sz;have HCV:Hid (∀ (W:World) (a:Option Addr) (c:Nat),Byt W a (pkL E O fs)->(convert 36 9 (.slice a (pkL E O fs).length c)).run Tryz.prog W=.ok (.string (strOfNums (pkL E O fs))) W):=fun W a c h=>z6r W a c _ h
    have HCZ:Hid (∀ (W:World),Byt W (some ⟨b,off,none⟩) zs->(convert 36 9 (.slice (some ⟨b,off,none⟩) 256 c)).run Tryz.prog W=.ok (.string (strOfNums zs)) W):=fun W h=>by
     have:=z6r W (some ⟨b,off,none⟩) c zs h;rw [HBR.out.2.1] at this;exact this
    have HSD:Hid (sm8 (pkL E O fs) zs=((strOfNums (pkL E O fs)).toList == (strOfNums zs).toList)/\True):=⟨rfl,trivial⟩;have HPK:Hid (PkR f E O fs):=hpk;clear hPB hlen hpk HFJ;generalize strOfNums (pkL E O fs)=SS at *;generalize strOfNums zs=TT at *
    cases hst:(SS.toList == TT.toList) with
    | false=>
     have HF:Hid (∀ W,Below w.heap.size w W->PrA f zs w (.returned (.tuple #[.agg #[.int .i64 0,.int .i64 0,.slice none 0 0],.bool false])) W):=fun W h=>⟨.inr ⟨fun hG=>by have h1:=HSM.out.2 (HPI.out.1 hG).2;rw [HSD.out.1,hst] at h1;exact absurd h1 (by decide),rfl⟩,h⟩
     rw [HRP.out.1] at HF;clear HSM HSD HPI;go_wp2_with fail
     go_region_with (first
      | (go_at_call 45;refine HOK.mono ?_;rintro r w9 ⟨h9,hb9'⟩;have hb9:Below wr.heap.size wr w9:=Below.drewS hb9';have HS9:Hid (SpS w w9 E O (.slice fa fs.length fc) fs):=HSP.out.step hb9;have hcz9:=HCZ.out w9 ((HBY.out.below HBL.out nl).below hb9 nl);have HE9:Hid (Els true w9 fa fs):=(HCP.out.its.below hb9 nl).els;obtain ⟨y0,y1,y2,-,-,-,yl⟩:=HS9.out.cp.box;clear hb9 hb9';rcases h9 with ⟨-,rfl⟩ | ⟨h9,-⟩;rotate_left 1;· exact absurd HPK.out h9)
      | (go_at_call 100;refine (HL7.out w9 HE9.out).mono ?_;rintro r w10 ⟨⟨vb,rfl,hvb⟩,hb10⟩;obtain ⟨ab,cb,rfl⟩:=hvb.form;have hcv10:=HCV.out w10 ab cb hvb.byt;have HS10:Hid (SpS w w10 E O (.slice fa fs.length fc) fs):=HS9.out.step hb10;have hcz10:=HCZ.out w10 ((HBY.out.below HS9.out.cp.bel nl).below hb10 nl);clear hvb hb10 HS9 HE9 y0 y1 y2 yl))
     all_goals
      obtain ⟨x0,x1,x2,g0,g1,g2,xl⟩:=HS10.out.bx;have HB10:Hid (Below w.heap.size w w10):=HS10.out.cp.bel;clear HS10;go_wp2;refine bodyPost_ret (v:=.tuple #[.agg #[.int .i64 0,.int .i64 0,.slice none 0 0],.bool false]) (by simp [results,Tryz.results77,go_sem,x0,x1,x2]) rfl (HF.out _ ?_)
      first
       | exact ((HB10.out.setCell (p:=⟨w.heap.size,0,none⟩) (by simp) _).setCell (p:=⟨w.heap.size,1,none⟩) (by simp) _).setCell (p:=⟨w.heap.size,2,none⟩) (by simp) _
       | exact ((HB10.out.drew.setCell (p:=⟨w.heap.size,0,none⟩) (by simp) _).setCell (p:=⟨w.heap.size,1,none⟩) (by simp) _).setCell (p:=⟨w.heap.size,2,none⟩) (by simp) _
    | true=>
     have HG:Hid (PrG f zs):=HPI.out.2 ⟨HPK.out,HSM.out.1 (by rw [HSD.out.1,hst])⟩
     have HEQ:Hid (rpE zs=E/\rpO zs=O/\rpM zs=k):=HHM.out;clear HSM HSD HPI;go_wp2_with fail
     go_region_with (first
      | (go_at_call 45;refine HOK.mono ?_;rintro r w9 ⟨h9,hb9'⟩;have hb9:Below wr.heap.size wr w9:=Below.drewS hb9';have HS9:Hid (SpS w w9 E O (.slice fa fs.length fc) fs):=HSP.out.step hb9;have hcz9:=HCZ.out w9 ((HBY.out.below HBL.out nl).below hb9 nl);have HE9:Hid (Els true w9 fa fs):=(HCP.out.its.below hb9 nl).els;obtain ⟨y0,y1,y2,-,-,-,yl⟩:=HS9.out.cp.box;clear hb9 hb9';rcases h9 with ⟨-,rfl⟩ | ⟨h9,-⟩;rotate_left 1;· exact absurd HPK.out h9)
      | (go_at_call 100;refine (HL7.out w9 HE9.out).mono ?_;rintro r w10 ⟨⟨vb,rfl,hvb⟩,hb10⟩;obtain ⟨ab,cb,rfl⟩:=hvb.form;have hcv10:=HCV.out w10 ab cb hvb.byt;have HS10:Hid (SpS w w10 E O (.slice fa fs.length fc) fs):=HS9.out.step hb10;have hcz10:=HCZ.out w10 ((HBY.out.below HS9.out.cp.bel nl).below hb10 nl);clear hvb hb10 HS9 HE9 y0 y1 y2 yl))
     all_goals
      obtain ⟨x0,x1,x2,g0,g1,g2,xl⟩:=HS10.out.bx;obtain ⟨y0,y1,y2,-,-,-,yl⟩:=HS10.out.cp.box;have hon:Only (fun k=>k=w.heap.size) w10 (((w10.setCell ⟨w.heap.size,0,none⟩ (.int .i64 E)).setCell ⟨w.heap.size,1,none⟩ (.int .i64 O)).setCell ⟨w.heap.size,2,none⟩ (.slice fa fs.length fc)):=(((Only.refl (fun k=>k=w.heap.size) w10).setCell (p:=⟨w.heap.size,0,none⟩) (.inl rfl) _).setCell (p:=⟨w.heap.size,1,none⟩) (.inl rfl) _).setCell (p:=⟨w.heap.size,2,none⟩) (.inl rfl) _
      have HF:Hid (PrA f zs w (.returned (.tuple #[.agg #[.int .i64 E,.int .i64 O,.slice fa fs.length fc],.bool true])) (((w10.setCell ⟨w.heap.size,0,none⟩ (.int .i64 E)).setCell ⟨w.heap.size,1,none⟩ (.int .i64 O)).setCell ⟨w.heap.size,2,none⟩ (.slice fa fs.length fc))):=by
       have hcp:CopT w10 (w.heap.size+1+1) (.slice fa fs.length fc) fs (itL zs k k):=⟨HCT.out.1,HS10.out.cp.row,HS10.out.dp,HCP.out.rng⟩;refine ⟨.inl ⟨HG.out,.slice fa fs.length fc,fs,by rw [HEQ.out.1,HEQ.out.2.1],by rw [HEQ.out.2.2];exact (hcp.stay hon (fun j hj e=>by omega)).weak (by omega)⟩,HS10.out.cp.bel.trans (hon.below HS10.out.cp.bel.size (fun j hj=>by omega))⟩
      rw [HRP.out.1] at HF;clear hon HS10 HCP HCT;go_wp2;refine bodyPost_ret (v:=.tuple #[.agg #[.int .i64 E,.int .i64 O,.slice fa fs.length fc],.bool true]) (by simp [results,Tryz.results77,go_sem,x0,x1,x2]) rfl ?_
      exact HF.out
end Go.Proofs.YtkomjdjfknpinaaGreatDoor
