/- Lemmas on the way. -/
import Derived.Test.YtaibkchbkedjnaaGreatDoorSeW
import Derived.Test.YtaibkchbkedjnaaGreatDoorSetlJ
set_option maxRecDepth 20000
set_option maxHeartbeats 16000000
namespace Go.Proofs.YtaibkchbkedjnaaGreatDoor
open Go.RowKit
set_option linter.unusedVariables false
set_option linter.unusedSimpArgs false
theorem implRawCrash_any (sa pa:Option Addr) (sc pc:Nat) (ss ps:List El) (da:Option Addr) (dc:Nat) (ds:List Bool) (w:World) (hb:RawI w sa pa ss ps) (hd:Bos w da ds) (hx:ss.length≤281474976710656) (hy:ps.length≤281474976710656) (hxl:∀ s ∈ ss,s.ls.length≤281474976710656) (hyl:∀ s ∈ ps,s.ls.length≤281474976710656) (hdl:ds.length≤281474976710656) :
  Calls Tryz.prog 62 #[.agg #[.slice sa ss.length sc,.slice pa ps.length pc],.slice da ds.length dc] w fun e w'=>(∃ v u ts qs,e=.returned (.tuple #[.agg #[v,u],.bool (crB ss ps ds)])∧(ts.map El.ct=crS ss ps ds∧qs.map El.ct=crP ss ps ds)∧RawO w' w.heap.size v u ts qs)∧Below w.heap.size w w':=by
 have HB:Hid (RawI w sa pa ss ps∧Bos w da ds):=⟨hb,hd⟩
 have HW:Hid (Below w.heap.size w (((w.alloc (Obj.cells #[.slice sa ss.length sc,.slice pa ps.length pc] 41)).alloc (Obj.cells #[.slice da ds.length dc] 56)).alloc (Obj.cells #[.slice none 0 0,.slice none 0 0] 41))):=(((Below.refl _ _).alloc nl _).alloc (by simp) _).alloc (by simp;omega) _
 have HX:Hid (Box2 (((w.alloc (Obj.cells #[.slice sa ss.length sc,.slice pa ps.length pc] 41)).alloc (Obj.cells #[.slice da ds.length dc] 56)).alloc (Obj.cells #[.slice none 0 0,.slice none 0 0] 41)) w.heap.size (.slice sa ss.length sc) (.slice pa ps.length pc)∧Box2 (((w.alloc (Obj.cells #[.slice sa ss.length sc,.slice pa ps.length pc] 41)).alloc (Obj.cells #[.slice da ds.length dc] 56)).alloc (Obj.cells #[.slice none 0 0,.slice none 0 0] 41)) (w.heap.size+1+1) (.slice none 0 0) (.slice none 0 0)∧World.cell? (((w.alloc (Obj.cells #[.slice sa ss.length sc,.slice pa ps.length pc] 41)).alloc (Obj.cells #[.slice da ds.length dc] 56)).alloc (Obj.cells #[.slice none 0 0,.slice none 0 0] 41)) ⟨w.heap.size+1,0,none⟩=some (.slice da ds.length dc)):=by
  refine ⟨((Box2.new _ _ _ _).alloc _).alloc _,?_,?_⟩
  ·have h9:=Box2.new ((w.alloc (Obj.cells #[.slice sa ss.length sc,.slice pa ps.length pc] 41)).alloc (Obj.cells #[.slice da ds.length dc] 56)) (.slice none 0 0) (.slice none 0 0) 41
   simpa using h9
  ·refine keepA _ (by simp) ?_
   simp
 have HSP:=implRawOk_any sa pa sc pc ss ps _ (HB.out.1.below HW.out nl) hx hy hxl hyl
 clear hb hxl hyl hd
 obtain ⟨AS,hAS⟩:∃ AS,AS=seS ss ps false ds:=⟨_,rfl⟩
 rw [show crS ss ps ds=AS from hAS.symm,show crP ss ps ds=[] from rfl,show (crB ss ps ds)=rok ss ps from rfl]
 cases hr:rok ss ps with
 | true=>
  rw [hr] at HSP
  rw [se_yes hr] at hAS
  have HAS:Hid (AS=(setl ss ps (kep false ds) ps.length).map El.ct∧True):=⟨hAS,trivial⟩
  have HR:Hid (Rok ss ps):=rok_ok hr
  clear hAS hr
  go_enter Tryz.func62,Tryz.ntmps62
  go_wp2_with fail
  refine HSP.mono ?_
  clear HSP
  rintro e w1 ⟨rfl,hb1⟩
  have HX1:Hid (Box2 w1 w.heap.size (.slice sa ss.length sc) (.slice pa ps.length pc)∧Box2 w1 (w.heap.size+1+1) (.slice none 0 0) (.slice none 0 0)∧Below w.heap.size w w1∧w1.cell? ⟨w.heap.size+1,0,none⟩=some (.slice da ds.length dc)):=⟨HX.out.1.keep hb1 HX.out.1.lt,HX.out.2.1.keep hb1 HX.out.2.1.lt,HW.out.trans (hb1.mono HW.out.size),keep hb1 (by simp) HX.out.2.2⟩
  obtain ⟨x0,x1,-,-,xl⟩:=HX1.out.1
  clear hb1 HX HW
  have HST:=settledC_any sa pa sc pc ss ps (w.heap.size+1) da dc ds w1 (HB.out.1.below HX1.out.2.2.1 nl) HX1.out.2.2.2 (HB.out.2.below HX1.out.2.2.1 nl) HR.out hdl
  go_wp2_with fail
  refine HST.mono ?_
  clear HST
  rintro e w2 ⟨⟨v2,u2,ts2,rfl,hct2,hr2⟩,hb2⟩
  obtain ⟨ka2,kc2,pa2,pc2,rfl,rfl⟩:=hr2.form
  obtain ⟨r0,r1,r2,r3,rl⟩:=HX1.out.2.1.keep hb2 HX1.out.2.1.lt
  have hon:Only (fun b=>b=w.heap.size+1+1) w2 ((w2.setCell ⟨w.heap.size+1+1,0,none⟩ (.slice ka2 ts2.length kc2)).setCell ⟨w.heap.size+1+1,1,none⟩ (.slice pa2 0 pc2)):=((Only.refl (fun b=>b=w.heap.size+1+1) w2).setCell (p:=⟨w.heap.size+1+1,0,none⟩) (.inl rfl) _).setCell (p:=⟨w.heap.size+1+1,1,none⟩) (.inl rfl) _
  have hX1:w.heap.size+1+1<w1.heap.size:=HX1.out.2.1.lt
  have HRR:Hid (RawO ((w2.setCell ⟨w.heap.size+1+1,0,none⟩ (.slice ka2 ts2.length kc2)).setCell ⟨w.heap.size+1+1,1,none⟩ (.slice pa2 0 pc2)) w.heap.size (.slice ka2 ts2.length kc2) (.slice pa2 0 pc2) ts2 []):=(hr2.stay hon (fun b hb e=>by have:=(hr2.inside b hb).1;omega)).weak (by omega)
  have hbb:=HX1.out.2.2.1.trans (hb2.mono HX1.out.2.2.1.size)
  have HBE:Hid (Below w.heap.size w ((w2.setCell ⟨w.heap.size+1+1,0,none⟩ (.slice ka2 ts2.length kc2)).setCell ⟨w.heap.size+1+1,1,none⟩ (.slice pa2 0 pc2))):=(hbb.setCell (p:=⟨w.heap.size+1+1,0,none⟩) (by simp only;omega) _).setCell (p:=⟨w.heap.size+1+1,1,none⟩) (by simp only;omega) _
  have HCC:Hid (ts2.map El.ct=AS∧True):=⟨by rw [hct2,HAS.out.1],trivial⟩
  clear hr2 hb2 hon hbb hct2 hX1 x0 x1 xl
  go_wp2
  exact bodyPost_ret (v:=.tuple #[.agg #[.slice ka2 ts2.length kc2,.slice pa2 0 pc2],.bool true]) (by simp [results,Tryz.results62,go_sem,r0,r1]) rfl ⟨⟨_,_,ts2,[],rfl,⟨HCC.out.1,rfl⟩,HRR.out⟩,HBE.out⟩
 | false=>
  rw [hr] at HSP
  rw [se_no hr] at hAS
  subst hAS
  clear hr
  go_enter Tryz.func62,Tryz.ntmps62
  go_wp2_with fail
  refine HSP.mono ?_
  clear HSP
  rintro e w1 ⟨rfl,hb1⟩
  obtain ⟨x0,x1,-,-,xl⟩:=HX.out.1.keep hb1 HX.out.1.lt
  obtain ⟨r0,r1,r2,r3,rl⟩:=HX.out.2.1.keep hb1 HX.out.2.1.lt
  have hbb:Below w.heap.size w w1:=HW.out.trans (hb1.mono HW.out.size)
  have HB1:Hid (Below w.heap.size w ((w1.setCell ⟨w.heap.size+1+1,0,none⟩ (.slice none 0 0)).setCell ⟨w.heap.size+1+1,1,none⟩ (.slice none 0 0))):=(hbb.setCell (p:=⟨w.heap.size+1+1,0,none⟩) (by simp only;omega) _).setCell (p:=⟨w.heap.size+1+1,1,none⟩) (by simp only;omega) _
  clear hb1 hbb
  go_wp2
  exact bodyPost_ret (v:=.tuple #[.agg #[.slice none 0 0,.slice none 0 0],.bool false]) (by simp [results,Tryz.results62,go_sem,r0,r1]) rfl ⟨⟨_,_,[],[],rfl,⟨rfl,rfl⟩,⟨OVr.nil _ _ _,OVr.nil _ _ _,Deep.nil _ _,by simp,by simp⟩⟩,HB1.out⟩
end Go.Proofs.YtaibkchbkedjnaaGreatDoor
