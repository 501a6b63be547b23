import Derived.Test.YtaibkchbkedjnaaGreatDoorRwSeC
set_option maxRecDepth 20000
set_option maxHeartbeats 16000000
namespace Go.Proofs.YtaibkchbkedjnaaGreatDoor
open Go.RowKit
set_option linter.unusedVariables false
set_option linter.unusedSimpArgs false
theorem z56 (f:List Int->Option (List Int)) (hf:z1b f) (d:DkV) (da:Option Addr) (dc:Nat) (ds:List Bool) (w:World) (hb:DkI w d) (hi:ItI w d.oa d.os) (hd:DkF d) (hk:Bos w da ds) (hkl:ds.length<=1048576) (hcc:d.cs.length<=d.cc) :
  Calls Tryz.prog 19 #[.agg #[.slice d.sa d.ss.length d.sc,.slice d.pa d.ps.length d.pc,.int .i64 d.E,.int .i64 d.O,.slice d.ma d.ms.length d.mc,.slice d.va d.vs.length d.vc,.slice d.ca d.cs.length d.cc,.int .i64 d.F,.int .i64 d.G,.slice d.oa d.os.length d.oc],.slice da ds.length dc] w (CdA (CdR f d ds) w):=by
 have HW0:Hid (Below w.heap.size w ((w.alloc (Obj.cells #[.slice d.sa d.ss.length d.sc,.slice d.pa d.ps.length d.pc,.int .i64 d.E,.int .i64 d.O,.slice d.ma d.ms.length d.mc,.slice d.va d.vs.length d.vc,.slice d.ca d.cs.length d.cc,.int .i64 d.F,.int .i64 d.G,.slice d.oa d.os.length d.oc] 49)).alloc (Obj.cells #[.slice none 0 0,.slice none 0 0] 41))):=((Below.refl _ _).alloc nl _).alloc (by simp) _
 have hx0:Dk10 ((w.alloc (Obj.cells #[.slice d.sa d.ss.length d.sc,.slice d.pa d.ps.length d.pc,.int .i64 d.E,.int .i64 d.O,.slice d.ma d.ms.length d.mc,.slice d.va d.vs.length d.vc,.slice d.ca d.cs.length d.cc,.int .i64 d.F,.int .i64 d.G,.slice d.oa d.os.length d.oc] 49)).alloc (Obj.cells #[.slice none 0 0,.slice none 0 0] 41)) w.heap.size d:=(Dk10.new w d 49).step ((Below.refl _ _).alloc nl _);have hq0:Box2 ((w.alloc (Obj.cells #[.slice d.sa d.ss.length d.sc,.slice d.pa d.ps.length d.pc,.int .i64 d.E,.int .i64 d.O,.slice d.ma d.ms.length d.mc,.slice d.va d.vs.length d.vc,.slice d.ca d.cs.length d.cc,.int .i64 d.F,.int .i64 d.G,.slice d.oa d.os.length d.oc] 49)).alloc (Obj.cells #[.slice none 0 0,.slice none 0 0] 41)) (w.heap.size+1) (.slice none 0 0) (.slice none 0 0):=by
  have h:=Box2.new (w.alloc (Obj.cells #[.slice d.sa d.ss.length d.sc,.slice d.pa d.ps.length d.pc,.int .i64 d.E,.int .i64 d.O,.slice d.ma d.ms.length d.mc,.slice d.va d.vs.length d.vc,.slice d.ca d.cs.length d.cc,.int .i64 d.F,.int .i64 d.G,.slice d.oa d.os.length d.oc] 49)) (.slice none 0 0) (.slice none 0 0) 41
  simpa using h
 have H1:=z8a f hf d _ (hb.below HW0.out nl) (hi.below HW0.out nl) hd hcc;have HB:Hid (DkI w d/\Bos w da ds):=⟨hb,hk⟩;have HY:Hid (DkG f d->∀ (v u:Value) (ms ns:List El) (W:World),ms.map El.ct=crS d.ss d.ps ds->ns.map El.ct=crP d.ss d.ps ds->RawO W w.heap.size v u ms ns->Below w.heap.size w W->CdA (CdR f d ds) w (.returned (.tuple #[.agg #[v,u],.bool (crB d.ss d.ps ds)])) W):=
  fun h v u ms ns W h1 h2 h3 h4=>⟨⟨v,u,ms,ns,_,rfl,.inl ⟨h,h1,h2,rfl⟩,h3⟩,h4⟩
 have HN:Hid (¬DkG f d->∀ (W:World),Below w.heap.size w W->CdA (CdR f d ds) w (.returned (.tuple #[.agg #[.slice none 0 0,.slice none 0 0],.bool false])) W):=
  fun h W h4=>⟨⟨_,_,[],[],_,rfl,.inr ⟨h,rfl,rfl,rfl⟩,RawO.none _ _⟩,h4⟩
 have HL:Hid ((d.ss.length<=281474976710656/\d.ps.length<=281474976710656/\(∀ s ∈ d.ss,s.ls.length<=281474976710656)/\∀ s ∈ d.ps,s.ls.length<=281474976710656)/\ds.length<=281474976710656):=⟨⟨by have:=hd.raw.n;omega,by have:=hd.raw.m;omega,fun s hs=>by have:=hd.raw.l s hs;omega,fun s hs=>by have:=hd.raw.p s hs;omega⟩,by omega⟩
 clear hb hi hd hf hk hcc;generalize CdA (CdR f d ds) w=RP at *
 go_enter Tryz.func19,Tryz.ntmps19
 go_wp2_with fail
 generalize ((w.alloc (Obj.cells #[.slice d.sa d.ss.length d.sc,.slice d.pa d.ps.length d.pc,.int .i64 d.E,.int .i64 d.O,.slice d.ma d.ms.length d.mc,.slice d.va d.vs.length d.vc,.slice d.ca d.cs.length d.cc,.int .i64 d.F,.int .i64 d.G,.slice d.oa d.os.length d.oc] 49)).alloc (Obj.cells #[.slice none 0 0,.slice none 0 0] 41))=W0 at *;refine H1.mono ?_;clear H1;rintro e w1 ⟨h1,hb1⟩;have hx1:=hx0.step hb1
 have HQ1:Hid (Box2 w1 (w.heap.size+1) (.slice none 0 0) (.slice none 0 0)):=hq0.keep hb1 hq0.lt;have HW1:Hid (Below w.heap.size w w1):=HW0.out.trans (hb1.mono HW0.out.size);clear hb1 hx0 HW0 hq0;rcases h1 with ⟨hG,rfl⟩ | ⟨hG,rfl⟩
 rotate_left
 ·have HF:Hid (∀ (W:World),Below w.heap.size w W->RP (.returned (.tuple #[.agg #[.slice none 0 0,.slice none 0 0],.bool false])) W):=HN.out hG
  have HB1:Hid (Below w.heap.size w ((w1.setCell ⟨w.heap.size+1,0,none⟩ (.slice none 0 0)).setCell ⟨w.heap.size+1,1,none⟩ (.slice none 0 0))):=(HW1.out.setCell (p:=⟨w.heap.size+1,0,none⟩) (by simp) _).setCell (p:=⟨w.heap.size+1,1,none⟩) (by simp) _
  obtain ⟨r0,r1,r2,r3,rl⟩:=HQ1.out;clear hG HN HY;go_wp2;exact bodyPost_ret (v:=.tuple #[.agg #[.slice none 0 0,.slice none 0 0],.bool false]) (by simp [results,Tryz.results19,go_sem,r0,r1]) rfl (HF.out _ HB1.out)
 have HF:Hid (∀ (v u:Value) (ms ns:List El) (W:World),ms.map El.ct=crS d.ss d.ps ds->ns.map El.ct=crP d.ss d.ps ds->RawO W w.heap.size v u ms ns->Below w.heap.size w W->RP (.returned (.tuple #[.agg #[v,u],.bool (crB d.ss d.ps ds)])) W):=HY.out hG;obtain ⟨x0,x1,x2,x3,x4,x5,x6,x7,x8,x9,xl⟩:=hx1;have HC:Hid (∀ W,Below w.heap.size w W->Calls Tryz.prog 61 #[.agg #[.slice d.sa d.ss.length d.sc,.slice d.pa d.ps.length d.pc],.slice da ds.length dc] W fun e w'=>(∃ v u ts qs,e=.returned (.tuple #[.agg #[v,u],.bool (crB d.ss d.ps ds)])/\(ts.map El.ct=crS d.ss d.ps ds/\qs.map El.ct=crP d.ss d.ps ds)/\RawO w' W.heap.size v u ts qs)/\Below W.heap.size W w'):=
  fun W hw=>z6b d.sa d.pa d.sc d.pc d.ss d.ps da dc ds W (HB.out.1.raw.below hw nl) (HB.out.2.below hw nl) HL.out.1.1 HL.out.1.2.1 HL.out.1.2.2.1 HL.out.1.2.2.2 HL.out.2
 clear hG HN HY;go_wp2_with fail
 refine (HC.out _ HW1.out).mono ?_;rintro e w2 ⟨⟨v,u,ms,ns,rfl,⟨h2,h3⟩,hr⟩,hb2⟩;obtain ⟨va,vc,ua,uc,rfl,rfl⟩:=hr.form;obtain ⟨r0,r1,r2,r3,rl⟩:=HQ1.out.keep hb2 HQ1.out.lt;have hX1:w.heap.size+1<w1.heap.size:=HQ1.out.lt;have hon:Only (fun b=>b=w.heap.size+1) w2 ((w2.setCell ⟨w.heap.size+1,0,none⟩ (.slice va ms.length vc)).setCell ⟨w.heap.size+1,1,none⟩ (.slice ua ns.length uc)):=((Only.refl (fun b=>b=w.heap.size+1) w2).setCell (p:=⟨w.heap.size+1,0,none⟩) (.inl rfl) _).setCell (p:=⟨w.heap.size+1,1,none⟩) (.inl rfl) _
 have hbb:=HW1.out.trans (hb2.mono HW1.out.size);have HE:Hid (RP (.returned (.tuple #[.agg #[.slice va ms.length vc,.slice ua ns.length uc],.bool (crB d.ss d.ps ds)])) ((w2.setCell ⟨w.heap.size+1,0,none⟩ (.slice va ms.length vc)).setCell ⟨w.heap.size+1,1,none⟩ (.slice ua ns.length uc))):=
  HF.out _ _ ms ns _ h2 h3 ((hr.stay hon (fun b hb e=>by have:=(hr.inside b hb).1;omega)).weak (by omega)) ((hbb.setCell (p:=⟨w.heap.size+1,0,none⟩) (by simp) _).setCell (p:=⟨w.heap.size+1,1,none⟩) (by simp) _)
 clear hr hb2 h2 h3 HF x0 x1 x2 x3 x4 x5 x6 x7 x8 x9 xl hon hbb hX1 HC HQ1;generalize crB d.ss d.ps ds=R at *;go_wp2;exact bodyPost_ret (v:=.tuple #[.agg #[.slice va ms.length vc,.slice ua ns.length uc],.bool R]) (by simp [results,Tryz.results19,go_sem,r0,r1]) rfl HE.out
end Go.Proofs.YtaibkchbkedjnaaGreatDoor
