import Derived.Test.YtaibkchbkedjnaaGreatDoorElM2
set_option maxRecDepth 20000
set_option maxHeartbeats 16000000
namespace Go.Proofs.YtaibkchbkedjnaaGreatDoor
open Go.RowKit
set_option linter.unusedVariables false
def z7e (ss:List El):List El:=mkE false 1 ss
def zc5 (ss ps:List El):List El:=mkE true (1+zb ss) ps
def mkN (ss ps:List El):Int:=1+zb ss+zb ps+ps.length
theorem zdp (sa pa:Option Addr) (sc pc B:Nat) (ss ps:List El) (w:World) (h:RawO w B (.slice sa ss.length sc) (.slice pa ps.length pc) ss ps) (hf:Few ss ps) :
  Calls Tryz.prog 25 #[.agg #[.slice sa ss.length sc,.slice pa ps.length pc],.int .i64 1] w fun e w'=>e=.returned (.int .i64 (mkN ss ps))/\RawO w' B (.slice sa ss.length sc) (.slice pa ps.length pc) (z7e ss) (zc5 ss ps)/\Only (z3k (.slice sa ss.length sc) (.slice pa ps.length pc) ss ps) w w':=by
 have H0:Hid (RawO w B (.slice sa ss.length sc) (.slice pa ps.length pc) ss ps):=h;have HF:Hid (Few ss ps):=hf;clear h hf
 go_enter Tryz.func25,Tryz.ntmps25
 have HW:Hid (Bw w (w.alloc (Obj.cells #[.slice sa ss.length sc,.slice pa ps.length pc] 41))):=ba;have HX:Hid (Box2 (w.alloc (Obj.cells #[.slice sa ss.length sc,.slice pa ps.length pc] 41)) w.heap.size (.slice sa ss.length sc) (.slice pa ps.length pc)):=Box2.new _ _ _ _;have H1:Hid (RawO (w.alloc (Obj.cells #[.slice sa ss.length sc,.slice pa ps.length pc] 41)) B (.slice sa ss.length sc) (.slice pa ps.length pc) ss ps):=H0.out.below HW.out
 have HO1:Hid (Only (z3k (.slice sa ss.length sc) (.slice pa ps.length pc) ss ps) w (w.alloc (Obj.cells #[.slice sa ss.length sc,.slice pa ps.length pc] 41))):=(Only.refl _ _).alloc _;go_wp2_with fail
 generalize w.alloc (Obj.cells #[.slice sa ss.length sc,.slice pa ps.length pc] 41)=W at *;refine (z8v sa sc B ss 1 W H1.out.rs H1.out.deep.parts.1 (by have:=HF.out.sum;omega) (by omega) (by omega)).mono ?_
 rintro e w1 ⟨rfl,⟨hr1,hd1⟩,ho1⟩;have hin:∀ b,(∃ s ∈ ss,zg s.a b)->z3k (.slice sa ss.length sc) (.slice pa ps.length pc) ss ps b:=fun b ⟨s,hs,hb⟩=>.inr (.inr ⟨s,List.mem_append_left _ hs,hb⟩)
 have hx1:=HX.out.only ho1 (fun hs=>Nat.lt_irrefl _ (H0.out.inside _ (hin _ hs)).2)
 have hp1:OVr true w1 B (.slice pa ps.length pc) ps:=H1.out.rp.stay ho1 (fun b hb ⟨s,hs,hs2⟩=>H1.out.rp.other (H1.out.deep.mine s (List.mem_append_left _ hs)) hb hs2)
 have hq1:Deep w1 B ps:=H1.out.deep.parts.2.1.stay ho1 (fun x hx b hb ⟨s,hs,hs2⟩=>H1.out.deep.parts.2.2 s.a (List.mem_map.2 ⟨s,hs,rfl⟩) x.a (List.mem_map.2 ⟨x,hx,rfl⟩) b hs2 hb)
 have HR1:Hid ((OVr false w1 B (.slice sa ss.length sc) (z7e ss)/\Deep w1 B (z7e ss))/\OVr true w1 B (.slice pa ps.length pc) ps/\Deep w1 B ps):=⟨⟨hr1,hd1⟩,hp1,hq1⟩;have HO2:Hid (Only (z3k (.slice sa ss.length sc) (.slice pa ps.length pc) ss ps) w w1):=HO1.out.trans (ho1.mono (fun b _ hb=>hin b hb))
 have HCR:Hid (∀ x ∈ ss.map El.a,∀ y ∈ ps.map El.a,∀ k,zg x k->¬zg y k):=H1.out.deep.parts.2.2;have HSM:=HF.out.sum;clear hr1 hd1 ho1 hin hp1 hq1 HO1 H1 HX HW;obtain ⟨x0,x1,-,-,xl⟩:=hx1;have HMP:=zam pa pc B ps (1+zb ss) w1 HR1.out.2.1 HR1.out.2.2 (by omega) (by omega) (by omega)
 have HNN:Hid (mkN ss ps=1+(zb ss:Int)+zb ps+ps.length/\True):=⟨rfl,trivial⟩;generalize hE:zb ss=E at *;have HE:Hid (zb ss=E/\True):=⟨hE,trivial⟩;clear hE;go_wp2_with fail
 refine HMP.mono ?_;clear HMP;rintro e w2 ⟨rfl,⟨hr2,hd2⟩,ho2⟩;have hin2:∀ b,((Value.slice pa ps.length pc).ownBlock=some b\/∃ s ∈ ps,zg s.a b)->z3k (.slice sa ss.length sc) (.slice pa ps.length pc) ss ps b:=by
  rintro b (hb | ⟨s,hs,hb⟩)
  ·exact .inr (.inl hb)
  ·exact .inr (.inr ⟨s,List.mem_append_right _ hs,hb⟩)
 have HO3:Hid (Only (z3k (.slice sa ss.length sc) (.slice pa ps.length pc) ss ps) w w2):=HO2.out.trans (ho2.mono (fun b _ hb=>hin2 b hb))
 have hs2:OVr false w2 B (.slice sa ss.length sc) (z7e ss):=HR1.out.1.1.stay ho2 (by
  rintro b hb (h | ⟨s,hs,hs2⟩)
  ·exact HR1.out.1.1.two HR1.out.2.1 hb h
  ·exact HR1.out.1.1.other (HR1.out.2.2.mine s hs) hb hs2)
 have ht2:Deep w2 B (z7e ss):=HR1.out.1.2.stay ho2 (by
  rintro x hx b hb (h | ⟨s,hs,hs2⟩)
  ·exact HR1.out.2.1.other (HR1.out.1.2.mine x hx) h hb
  ·have hxa:x.a ∈ ss.map El.a:=by
    rw [<-zft false 1 ss];exact List.mem_map.2 ⟨x,hx,rfl⟩
   exact HCR.out x.a hxa s.a (List.mem_map.2 ⟨s,hs,rfl⟩) b hb hs2)
 have HFIN:Hid (RawO w2 B (.slice sa ss.length sc) (.slice pa ps.length pc) (z7e ss) (zc5 ss ps)):=by
  refine ⟨hs2,?_,ht2.join ?_ ?_,?_,?_⟩
  ·unfold zc5;rw [HE.out.1];exact hr2
  ·unfold zc5;rw [HE.out.1];exact hd2
  ·unfold z7e zc5;rw [zft,zft];exact HCR.out
  ·exact zf3 false 1 ss H0.out.rng.1 (by omega) (by have:=HE.out.1;omega)
  ·exact zf3 true _ ps H0.out.rng.2 (by omega) (by have:=HE.out.1;omega)
 clear hr2 hd2 ho2 hin2 hs2 ht2 HR1 HO2 x0 x1;go_wp2;go_ret;exact ⟨by rw [HNN.out.1];rfl,HFIN.out,HO3.out⟩
end Go.Proofs.YtaibkchbkedjnaaGreatDoor
