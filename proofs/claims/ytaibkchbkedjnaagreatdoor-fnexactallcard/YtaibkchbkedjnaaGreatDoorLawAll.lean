import Derived.Test.YtaibkchbkedjnaaGreatDoorAlI
set_option maxRecDepth 20000
set_option maxHeartbeats 16000000
namespace Go.Proofs.YtaibkchbkedjnaaGreatDoor
open Go.RowKit
set_option linter.unusedVariables false
set_option linter.unusedSimpArgs false
structure RsV (W:World) (B X:Nat) (v:Value) (ms:List El):Prop where
 o:RsO W B v ms
 r1:∀ k,v.ownBlock=some k->k<X
 r2:∀ e ∈ ms,∀ k,zg e.a k->k<X
theorem RsO.v {W:World} {B:Nat} {v:Value} {ms:List El} (h:RsO W B v ms):RsV W B W.heap.size v ms:=⟨h,fun k hk=>(h.o.blk hk).2,fun e he k hk=>h.dp.lt e he k hk⟩
theorem RsV.stab {lo hi B X:Nat} {v:Value} {ms:List El} (h1:lo<=B) (h2:X<=hi):Stab lo hi (fun W=>RsV W B X v ms):=fun T W W' hp ho ht hl=>
 ⟨⟨hp.o.o.stay ho (fun k hk=>ht k (by have:=(hp.o.o.blk hk).1;omega) (by have:=hp.r1 k hk;omega)),hp.o.dp.stay ho (fun e he k hk=>ht k (by have:=((hp.o.dp.mine e he).rowE hk).1;omega) (by have:=hp.r2 e he k hk;omega)),hp.o.rn⟩,hp.r1,hp.r2⟩
theorem RsV.mono {W:World} {B B' X X':Nat} {v:Value} {ms:List El} (h:RsV W B X v ms) (h1:B'<=B) (h2:X<=X'):RsV W B' X' v ms:=⟨h.o.weak h1,fun k hk=>Nat.lt_of_lt_of_le (h.r1 k hk) h2,fun e he k hk=>Nat.lt_of_lt_of_le (h.r2 e he k hk) h2⟩
theorem RsO.form {W:World} {B:Nat} {v:Value} {ms:List El} (h:RsO W B v ms):∃ a c,v=.slice a ms.length c:=h.o.form
theorem RsO.els {W:World} {B n c:Nat} {a:Option Addr} {ms:List El} (h:RsO W B (.slice a n c) ms):Els false W a ms:=h.o.els (fun e he=>⟨h.rn e he,h.dp.byt e he⟩)
theorem zg5 (d:DkV) (w:World) (hb:DkI w d) (hm:DkM d) (hS:SentR w) (pC:Addr) (h5:w.cell? ⟨0,0,none⟩=some (.iface 326 (.pointer (some pC)))) :
  Calls Tryz.prog 5 #[.agg #[.slice d.sa d.ss.length d.sc,.slice d.pa d.ps.length d.pc,.int .i64 d.E,.int .i64 d.O,.slice d.ma d.ms.length d.mc,.slice d.va d.vs.length d.vc,.slice d.ca d.cs.length d.cc,.int .i64 d.F,.int .i64 d.G,.slice d.oa d.os.length d.oc]] w fun e w'=>e=.returned (.bool true)/\Below w.heap.size w w':=by
 obtain ⟨f,hf⟩:=zkx;have A0:Hid (Below w.heap.size w (w.alloc (Obj.cells #[.slice d.sa d.ss.length d.sc,.slice d.pa d.ps.length d.pc,.int .i64 d.E,.int .i64 d.O,.slice d.ma d.ms.length d.mc,.slice d.va d.vs.length d.vc,.slice d.ca d.cs.length d.cc,.int .i64 d.F,.int .i64 d.G,.slice d.oa d.os.length d.oc] 34))/\Dk10 (w.alloc (Obj.cells #[.slice d.sa d.ss.length d.sc,.slice d.pa d.ps.length d.pc,.int .i64 d.E,.int .i64 d.O,.slice d.ma d.ms.length d.mc,.slice d.va d.vs.length d.vc,.slice d.ca d.cs.length d.cc,.int .i64 d.F,.int .i64 d.G,.slice d.oa d.os.length d.oc] 34)) w.heap.size d):=⟨(Below.refl _ _).alloc nl _,Dk10.new w d 34⟩
 have H1:=zfm d _ (hb.below A0.out.1 nl) hm;have HB:Hid (DkI w d/\(SentR w/\w.cell? ⟨0,0,none⟩=some (.iface 326 (.pointer (some pC))))/\zy f):=⟨hb,⟨hS,h5⟩,hf⟩;clear hb hS hf hm h5
 go_enter Tryz.func5,Tryz.ntmps5
 go_wp2_with fail
 generalize (w.alloc (Obj.cells #[.slice d.sa d.ss.length d.sc,.slice d.pa d.ps.length d.pc,.int .i64 d.E,.int .i64 d.O,.slice d.ma d.ms.length d.mc,.slice d.va d.vs.length d.vc,.slice d.ca d.cs.length d.cc,.int .i64 d.F,.int .i64 d.G,.slice d.oa d.os.length d.oc] 34))=W0 at *;refine H1.mono ?_;clear H1;rintro e w1 ⟨⟨z,rfl,hz⟩,hb1⟩;have A1:Hid (Below w.heap.size w w1/\Dk10 w1 w.heap.size d):=⟨A0.out.1.trans (hb1.mono A0.out.1.size),A0.out.2.step hb1⟩
 clear hb1 A0;rcases hz with rfl | ⟨hz0,hfew⟩
 ·go_wp2
  go_ret;exact ⟨rfl,A1.out.1⟩
 have HF:Hid (DkF d):=hfew;have hzn:¬z<0:=by omega
 clear hfew;obtain ⟨x0,x1,x2,x3,x4,x5,x6,x7,x8,x9,xl⟩:=A1.out.2;have H2:=z2g d w1 (HB.out.1.below A1.out.1 nl) HF.out;go_wp2_with fail
 refine H2.mono ?_;clear H2;rintro e w2 ⟨⟨e1,B1,B2,B3,B4,Z,rfl,hs1,ho1,-⟩,hb2⟩;have A2:Hid (Below w.heap.size w w2/\Dk10 w2 w.heap.size d):=⟨A1.out.1.trans (hb2.mono A1.out.1.size),A1.out.2.step hb2⟩;have H3:=zde f HB.out.2.2 e1 w2 ho1.inn ho1.its (HF.out.same hs1) (DkO.rwc ho1) ho1.chn.capI;have HS1:Hid (DkS e1 d):=hs1;clear hs1 ho1 hb2 A1 x0 x1 x2 x3 x4 x5 x6 x7 x8 x9 xl;go_wp2_with fail
 refine H3.mono ?_;clear H3;rintro e w3 ⟨⟨v3,ms,rr,rfl,hR3,hov3⟩,hb3⟩;have hR:=hR3.same HS1.out;obtain ⟨aw,cw,rfl⟩:=hov3.form;generalize hnA:ms.length=nA at *;have HNN:Hid (ms.length=nA/\nA+zb ms<=1048576/\∀ e ∈ ms,e.ls.length<=281474976710656):=⟨hnA,by rw [<-hnA];exact hR.few,fun e he=>by have h1:=z04 he;have h2:=hR.few;omega⟩
 have HIMPL:Hid (∀ (e:DkV) (B B1 B2 B3 B4 Z:Nat) (W:World),DkS e d->DkO W B B1 B2 B3 B4 Z e->Below w.heap.size w W->Calls Tryz.prog 28 #[.agg #[.slice e.sa e.ss.length e.sc,.slice e.pa e.ps.length e.pc,.int .i64 e.E,.int .i64 e.O,.slice e.ma e.ms.length e.mc,.slice e.va e.vs.length e.vc,.slice e.ca e.cs.length e.cc,.int .i64 e.F,.int .i64 e.G,.slice e.oa e.os.length e.oc]] W fun r w'=>(∃ a c gs,r=.returned (.tuple #[.slice a nA c,.bool rr])/\gs.map El.ct=ms.map El.ct/\RsV w' W.heap.size w'.heap.size (.slice a nA c) gs)/\Below W.heap.size W w'):=by
  intro e B B1 B2 B3 B4 Z W hs ho hw
  refine (ze2 f HB.out.2.2 e W ho.inn ho.its (HF.out.same hs) pC (HB.out.2.1.1.below hw) (keep hw (World.block_lt_of_cell? _ _ HB.out.2.1.2) HB.out.2.1.2)).mono ?_;rintro r w' ⟨⟨v,gs,c,rfl,hr,hov⟩,hb'⟩;obtain ⟨q1,rfl⟩:=(hr.same hs).uniq hR;obtain ⟨a,cp,rfl⟩:=hov.form;rw [zx q1,HNN.out.1] at hov ⊢;exact ⟨⟨a,cp,gs,rfl,q1,hov.v⟩,hb'⟩
 have HEQS:Hid (∀ (W:World) (a:Option Addr) (c:Nat) (gs:List El),Els false W a gs->Els false W aw ms->gs.map El.ct=ms.map El.ct->Calls Tryz.prog 29 #[.slice a nA c,.slice aw nA cw] W fun e w'=>e=.returned (.bool true)/\Below W.heap.size W w'):=by
  intro W a c gs h1 h2 h3
  have hl:gs.length=nA:=by rw [zx h3,HNN.out.1]
  have h5:=z50 a aw c cw gs ms W h1 h2 h3 (by rw [hl];have:=HNN.out.2.1;omega) (fun s hs=>by
   have h6:s.ct ∈ ms.map El.ct:=by rw [<-h3];exact List.mem_map_of_mem hs
   obtain ⟨m,hm,h7⟩:=List.mem_map.1 h6;have h8:s.ls=m.ls:=by have:=congrArg Prod.snd h7;simpa [El.ct] using this.symm
   rw [h8];exact HNN.out.2.2 m hm)
  rw [hl] at h5;exact h5
 have hmw:RsV w3 w2.heap.size w3.heap.size (.slice aw nA cw) ms:=hov3.v;clear hR hR3 hov3 HS1 hnA;have hcc:(rr != rr)=false:=by simp
 have A3:Hid ((Below w.heap.size w w3/\Dk10 w3 w.heap.size d)/\RsV w3 (w.heap.size+1) w3.heap.size (.slice aw nA cw) ms):=⟨⟨A2.out.1.trans (hb3.mono A2.out.1.size),A2.out.2.step hb3⟩,hmw.mono A2.out.2.lt nl⟩;clear hb3 hmw A2;obtain ⟨x0,x1,x2,x3,x4,x5,x6,x7,x8,x9,xl⟩:=A3.out.1.2;have H4:=z2g d w3 (HB.out.1.below A3.out.1.1 nl) HF.out;go_wp2_with fail
 refine H4.mono ?_;clear H4;rintro e w4 ⟨⟨e2,B1,B2,B3,B4,Zx,rfl,hs2,ho2,hZ⟩,hb4⟩;have hba:Below w4.heap.size w4 (w4.alloc (Obj.cells #[.slice e2.sa e2.ss.length e2.sc,.slice e2.pa e2.ps.length e2.pc,.int .i64 e2.E,.int .i64 e2.O,.slice e2.ma e2.ms.length e2.mc,.slice e2.va e2.vs.length e2.vc,.slice e2.ca e2.cs.length e2.cc,.int .i64 e2.F,.int .i64 e2.G,.slice e2.oa e2.os.length e2.oc] 49)):=ba;have hb5:=hb4.trans (hba.mono hb4.size)
 have A5:Hid (((Below w.heap.size w (w4.alloc (Obj.cells #[.slice e2.sa e2.ss.length e2.sc,.slice e2.pa e2.ps.length e2.pc,.int .i64 e2.E,.int .i64 e2.O,.slice e2.ma e2.ms.length e2.mc,.slice e2.va e2.vs.length e2.vc,.slice e2.ca e2.cs.length e2.cc,.int .i64 e2.F,.int .i64 e2.G,.slice e2.oa e2.os.length e2.oc] 49))/\Dk10 (w4.alloc (Obj.cells #[.slice e2.sa e2.ss.length e2.sc,.slice e2.pa e2.ps.length e2.pc,.int .i64 e2.E,.int .i64 e2.O,.slice e2.ma e2.ms.length e2.mc,.slice e2.va e2.vs.length e2.vc,.slice e2.ca e2.cs.length e2.cc,.int .i64 e2.F,.int .i64 e2.G,.slice e2.oa e2.os.length e2.oc] 49)) w.heap.size d)/\RsV (w4.alloc (Obj.cells #[.slice e2.sa e2.ss.length e2.sc,.slice e2.pa e2.ps.length e2.pc,.int .i64 e2.E,.int .i64 e2.O,.slice e2.ma e2.ms.length e2.mc,.slice e2.va e2.vs.length e2.vc,.slice e2.ca e2.cs.length e2.cc,.int .i64 e2.F,.int .i64 e2.G,.slice e2.oa e2.os.length e2.oc] 49)) (w.heap.size+1) w3.heap.size (.slice aw nA cw) ms)/\(Dk10 (w4.alloc (Obj.cells #[.slice e2.sa e2.ss.length e2.sc,.slice e2.pa e2.ps.length e2.pc,.int .i64 e2.E,.int .i64 e2.O,.slice e2.ma e2.ms.length e2.mc,.slice e2.va e2.vs.length e2.vc,.slice e2.ca e2.cs.length e2.cc,.int .i64 e2.F,.int .i64 e2.G,.slice e2.oa e2.os.length e2.oc] 49)) w4.heap.size e2/\DkO (w4.alloc (Obj.cells #[.slice e2.sa e2.ss.length e2.sc,.slice e2.pa e2.ps.length e2.pc,.int .i64 e2.E,.int .i64 e2.O,.slice e2.ma e2.ms.length e2.mc,.slice e2.va e2.vs.length e2.vc,.slice e2.ca e2.cs.length e2.cc,.int .i64 e2.F,.int .i64 e2.G,.slice e2.oa e2.os.length e2.oc] 49)) w3.heap.size B1 B2 B3 B4 Zx e2)/\Zx<=w4.heap.size/\w4.heap.size<((w4.alloc (Obj.cells #[.slice e2.sa e2.ss.length e2.sc,.slice e2.pa e2.ps.length e2.pc,.int .i64 e2.E,.int .i64 e2.O,.slice e2.ma e2.ms.length e2.mc,.slice e2.va e2.vs.length e2.vc,.slice e2.ca e2.cs.length e2.cc,.int .i64 e2.F,.int .i64 e2.G,.slice e2.oa e2.os.length e2.oc] 49))).heap.size/\w.heap.size<w3.heap.size/\w3.heap.size<=w4.heap.size):=⟨⟨⟨A3.out.1.1.trans (hb5.mono A3.out.1.1.size),A3.out.1.2.step hb5⟩,(RsV.stab (lo:=w.heap.size+1) (hi:=w3.heap.size) nl nl).below A3.out.2 hb5 nl⟩,⟨Dk10.new w4 e2 49,(DkO.stab nl nl).below ho2 hba hZ⟩,hZ,by simp,A3.out.1.2.lt,hb4.size⟩
 have HS2:Hid (DkS e2 d):=hs2;have H5:=HIMPL.out e2 _ _ _ _ _ _ _ hs2 A5.out.2.1.2 A5.out.1.1.1;clear hs2 ho2 hZ hb4 hba hb5 A3 x0 x1 x2 x3 x4 x5 x6 x7 x8 x9 xl;go_wp2_with fail
 generalize (w4.alloc (Obj.cells #[.slice e2.sa e2.ss.length e2.sc,.slice e2.pa e2.ps.length e2.pc,.int .i64 e2.E,.int .i64 e2.O,.slice e2.ma e2.ms.length e2.mc,.slice e2.va e2.vs.length e2.vc,.slice e2.ca e2.cs.length e2.cc,.int .i64 e2.F,.int .i64 e2.G,.slice e2.oa e2.os.length e2.oc] 49))=w5 at *;generalize w4.heap.size=X at *;generalize w3.heap.size=U at *;refine H5.mono ?_;clear H5;rintro e w6 ⟨⟨ag,cg,gs,rfl,hcg,hmg⟩,hb6⟩
 have HCG:Hid (gs.map El.ct=ms.map El.ct/\gs.length=nA):=⟨hcg,by rw [zx hcg,HNN.out.1]⟩
 have HS6:Hid (Snp w w6 (w.heap.size+1) U (X+1) w6.heap.size (fun W=>Dk10 W w.heap.size d) (fun W=>RsV W (w.heap.size+1) U (.slice aw nA cw) ms) (fun W=>DkO W U B1 B2 B3 B4 Zx e2/\Dk10 W X e2) (fun W=>RsV W (X+1) w6.heap.size (.slice ag nA cg) gs)):=by
  obtain ⟨o1,o2,o3,o4⟩:=A5.out.2.2;have h6:=hb6.size;exact ⟨A5.out.1.1.1.trans (hb6.mono A5.out.1.1.1.size),by omega,Dk10.stab nl (by omega),A5.out.1.1.2.step hb6,RsV.stab nl nl,(RsV.stab (lo:=w.heap.size+1) (hi:=U) nl nl).below A5.out.1.2 hb6 (by omega),(DkO.stab nl (by omega)).and (Dk10.stab o4 (by omega)),⟨(DkO.stab nl nl).below A5.out.2.1.2 hb6 (by omega),A5.out.2.1.1.step hb6⟩,RsV.stab nl nl,hmg.mono (by omega) nl⟩
 have HZX:Hid (Zx<=X):=A5.out.2.2.1;clear hmg hcg hb6 A5;generalize w6.heap.size=Z at *;go_wp2_with fail
 refine (HEQS.out w6 ag cg gs HS6.out.hg.o.els HS6.out.hw.o.els HCG.out.1).mono ?_;rintro e w7 ⟨rfl,hb7⟩;have HS7:Hid _:=HS6.out.step hb7;clear HS6 hb7;go_wp2_with fail
 go_region_held3 (fun W=>W.cell? ⟨X,0,none⟩=some (.slice e2.sa e2.ss.length e2.sc)/\W.cell? ⟨X,1,none⟩=some (.slice e2.pa e2.ps.length e2.pc)/\W.cell? ⟨X,2,none⟩=some (.int .i64 e2.E)/\W.cell? ⟨X,3,none⟩=some (.int .i64 e2.O)/\W.cell? ⟨X,4,none⟩=some (.slice e2.ma e2.ms.length e2.mc)/\W.cell? ⟨X,5,none⟩=some (.slice e2.va e2.vs.length e2.vc)/\W.cell? ⟨X,6,none⟩=some (.slice e2.ca e2.cs.length e2.cc)/\W.cell? ⟨X,7,none⟩=some (.int .i64 e2.F)/\W.cell? ⟨X,8,none⟩=some (.int .i64 e2.G)/\W.cell? ⟨X,9,none⟩=some (.slice e2.oa e2.os.length e2.oc)/\W.cell? ⟨w.heap.size,0,none⟩=some (.slice d.sa d.ss.length d.sc)/\W.cell? ⟨w.heap.size,1,none⟩=some (.slice d.pa d.ps.length d.pc)/\W.cell? ⟨w.heap.size,2,none⟩=some (.int .i64 d.E)/\W.cell? ⟨w.heap.size,3,none⟩=some (.int .i64 d.O)/\W.cell? ⟨w.heap.size,4,none⟩=some (.slice d.ma d.ms.length d.mc)/\W.cell? ⟨w.heap.size,5,none⟩=some (.slice d.va d.vs.length d.vc)/\W.cell? ⟨w.heap.size,6,none⟩=some (.slice d.ca d.cs.length d.cc)/\W.cell? ⟨w.heap.size,7,none⟩=some (.int .i64 d.F)/\W.cell? ⟨w.heap.size,8,none⟩=some (.int .i64 d.G)/\W.cell? ⟨w.heap.size,9,none⟩=some (.slice d.oa d.os.length d.oc))
  (first | exact ⟨HS7.out.hx.2.c0,HS7.out.hx.2.c1,HS7.out.hx.2.c2,HS7.out.hx.2.c3,HS7.out.hx.2.c4,HS7.out.hx.2.c5,HS7.out.hx.2.c6,HS7.out.hx.2.c7,HS7.out.hx.2.c8,HS7.out.hx.2.c9,HS7.out.hb.c0,HS7.out.hb.c1,HS7.out.hb.c2,HS7.out.hb.c3,HS7.out.hb.c4,HS7.out.hb.c5,HS7.out.hb.c6,HS7.out.hb.c7,HS7.out.hb.c8,HS7.out.hb.c9⟩ | exact ⟨HS8.out.hx.2.c0,HS8.out.hx.2.c1,HS8.out.hx.2.c2,HS8.out.hx.2.c3,HS8.out.hx.2.c4,HS8.out.hx.2.c5,HS8.out.hx.2.c6,HS8.out.hx.2.c7,HS8.out.hx.2.c8,HS8.out.hx.2.c9,HS8.out.hb.c0,HS8.out.hb.c1,HS8.out.hb.c2,HS8.out.hb.c3,HS8.out.hb.c4,HS8.out.hb.c5,HS8.out.hb.c6,HS8.out.hb.c7,HS8.out.hb.c8,HS8.out.hb.c9⟩ | exact ⟨HS9.out.hx.2.c0,HS9.out.hx.2.c1,HS9.out.hx.2.c2,HS9.out.hx.2.c3,HS9.out.hx.2.c4,HS9.out.hx.2.c5,HS9.out.hx.2.c6,HS9.out.hx.2.c7,HS9.out.hx.2.c8,HS9.out.hx.2.c9,HS9.out.hb.c0,HS9.out.hb.c1,HS9.out.hb.c2,HS9.out.hb.c3,HS9.out.hb.c4,HS9.out.hb.c5,HS9.out.hb.c6,HS9.out.hb.c7,HS9.out.hb.c8,HS9.out.hb.c9⟩)
  (first
   | (go_at_call 12;refine (z2g d _ (HB.out.1.below HS7.out.bel.drew nl) HF.out).mono ?_;rintro e w8 ⟨⟨e3,D1,D2,D3,D4,Y,rfl,hs3,ho3,hY⟩,hb8'⟩;have HS8:Hid _:=HS7.out.step (Below.drewS hb8');have HEQ:=zfr e2 e3 w8 HS8.out.hx.1.inn ho3.inn (HS2.out.trans hs3.symm) (HF.out.same HS2.out);clear hs3 ho3 hY hb8')
   | (go_at_call 15;refine HEQ.mono ?_;clear HEQ;rintro e w9 ⟨rfl,hb9⟩;have HS9:Hid _:=HS8.out.step hb9;clear hb9))
 clear HS7 HS8;obtain ⟨x0,x1,x2,x3,x4,x5,x6,x7,x8,x9,xl⟩:=HS9.out.hx.2;have HMK:=zd0 e2 U B1 B2 B3 B4 Zx _ HS9.out.hx.1 (by have:=HS9.out.ord;have:=HZX.out;omega) (HF.out.same HS2.out)
 go_wp2_with fail
 refine HMK.mono ?_;clear HMK x0 x1 x2 x3 x4 x5 x6 x7 x8 x9 xl;rintro e w10 ⟨⟨zk,rfl,hzk⟩,ho10⟩;have HS10:Hid _:=HS9.out.markX ho10 (fun k hk=>by have:=HZX.out;omega) (Stab.true _ _) trivial
 have hzk':¬zk<0:=by omega
 clear ho10 HS9;go_wp2_with fail
 refine (HEQS.out w10 ag cg gs HS10.out.hg.o.els HS10.out.hw.o.els HCG.out.1).mono ?_;rintro e w11 ⟨rfl,hb11⟩;have HS11:Hid _:=HS10.out.step hb11;clear HS10 hb11;have hel:zb gs=zb ms:=z1k _ _ HCG.out.1;have HMB:=z3k ag cg (X+1) gs 1 w11 (by rw [HCG.out.2];exact HS11.out.hg.o.o) HS11.out.hg.o.dp (by rw [hel,HCG.out.2];exact HNN.out.2.1) (by omega) (by omega)
 have HHD:Hid (∀ W,Els false W ag (mkE false 1 gs)->Calls Tryz.prog 31 #[.slice ag nA cg,.int .i64 1] W fun e w'=>e=.returned (.int .i64 (1+zb gs))/\w'=W):=fun W h=>by
  have h2:=z86 ag cg gs 1 W h (by rw [hel,HCG.out.2];exact HNN.out.2.1) (by omega) (by omega)
  rw [HCG.out.2] at h2;exact h2
 rw [HCG.out.2] at HMB;have hgb:(zb gs:Int)<=1048576:=by rw [hel];have:=HNN.out.2.1;omega
 have HRG:Hid (∀ e ∈ mkE false 1 gs,rE false e):=z95 false 1 gs HS11.out.hg.o.rn (by omega) (by rw [HCG.out.2];have:=HNN.out.2.1;omega)
 generalize hgg:(1:Int)+zb gs=gg at *;have hgg0:0<=gg:=by omega
 have hgg1:(gg != gg)=false:=by simp
 clear hel hgb hgg;go_wp2_with fail
 refine HMB.mono ?_;clear HMB;rintro e w12 ⟨rfl,⟨hov12,hdp12⟩,ho12⟩;have HS12:Hid _:=HS11.out.markG ho12 (fun k hk=>by obtain ⟨s,hs,hk⟩:=hk;exact ⟨((HS11.out.hg.o.dp.mine s hs).rowE hk).1,HS11.out.hg.r2 s hs k hk⟩) (RsV.stab (B:=X+1) (X:=Z) (v:=.slice ag nA cg) (ms:=mkE false 1 gs) nl nl) ⟨⟨hov12,hdp12,HRG.out⟩,HS11.out.hg.r1,fun e he k hk=>by
  obtain ⟨e',he',h'⟩:=List.mem_map.1 ((zb6 false 1 gs) ▸ List.mem_map_of_mem he:e.a ∈ gs.map El.a);exact HS11.out.hg.r2 e' he' k (by rw [h'];exact hk)⟩
 clear hov12 hdp12 ho12 HS11 HRG;go_wp2_with fail
 refine (HHD.out _ HS12.out.hg.o.els).mono ?_;rintro e w13 ⟨rfl,rfl⟩;obtain ⟨x0,x1,x2,x3,x4,x5,x6,x7,x8,x9,xl⟩:=HS12.out.hb;have H14:=z2g d _ (HB.out.1.below HS12.out.bel nl) HF.out;go_wp2_with fail
 refine H14.mono ?_;clear H14 x0 x1 x2 x3 x4 x5 x6 x7 x8 x9 xl;rintro e w14 ⟨⟨e4,B1',B2',B3',B4',Z',rfl,hs4,ho4,-⟩,hb14⟩;have HS14:Hid _:=HS12.out.step hb14;have HIM:=HIMPL.out e4 _ _ _ _ _ _ w14 hs4 ho4 HS14.out.bel;clear hb14 ho4 hs4 HS12 HIMPL;go_wp2_with fail
 refine HIM.mono ?_;clear HIM;rintro e w15 ⟨⟨ah,ch,hs,rfl,hch,hmh⟩,hb15⟩;have HS15:Hid _:=HS14.out.step hb15;have HMH:Hid (Els false w15 ah hs/\hs.map El.ct=ms.map El.ct):=⟨hmh.o.els,hch⟩;clear hmh hch hb15 HS14;go_wp2_with fail
 refine (HEQS.out w15 ah ch hs HMH.out.1 HS15.out.hw.o.els HMH.out.2).mono ?_;rintro e w16 ⟨rfl,hb16⟩;have HS16:Hid _:=HS15.out.step hb16;clear HS15 HMH hb16;go_wp2_with fail
 refine (HHD.out _ HS16.out.hg.o.els).mono ?_;rintro e w17 ⟨rfl,rfl⟩;go_wp2;go_ret;exact ⟨rfl,HS16.out.bel⟩
end Go.Proofs.YtaibkchbkedjnaaGreatDoor
