/- Lemmas on the way. -/
import Derived.Test.YtaibkchbkedjnaaGreatDoorCkM
import Derived.Test.YtaibkchbkedjnaaGreatDoorDkS2
set_option maxRecDepth 20000
set_option maxHeartbeats 16000000
namespace Go.Proofs.YtaibkchbkedjnaaGreatDoor
open Go.RowKit
set_option linter.unusedVariables false
set_option linter.unusedSimpArgs false
theorem specLiveBytes_any (f:List Int→Option (List Int)) (hf:DecF f) (d:DkV) (w:World) (hb:DkI w d) (hi:ItI w d.oa d.os) (hd:DkF d) (hc:RwC d) (hcc:d.cs.length≤d.cc) :
  Calls Tryz.prog 36 #[.agg #[.slice d.sa d.ss.length d.sc,.slice d.pa d.ps.length d.pc,.int .i64 d.E,.int .i64 d.O,.slice d.ma d.ms.length d.mc,.slice d.va d.vs.length d.vc,.slice d.ca d.cs.length d.cc,.int .i64 d.F,.int .i64 d.G,.slice d.oa d.os.length d.oc]] w (AnI (LbR f d) w):=by
 have HW0:Hid (Below w.heap.size w (w.alloc (Obj.cells #[.slice d.sa d.ss.length d.sc,.slice d.pa d.ps.length d.pc,.int .i64 d.E,.int .i64 d.O,.slice d.ma d.ms.length d.mc,.slice d.va d.vs.length d.vc,.slice d.ca d.cs.length d.cc,.int .i64 d.F,.int .i64 d.G,.slice d.oa d.os.length d.oc] 49))):=ba
 have hx0:=Dk10.new w d 49
 have H1:=specDiskOk_any f hf d _ (hb.below HW0.out nl) (hi.below HW0.out nl) hd hcc
 have HB:Hid (DkI w d∧ItI w d.oa d.os∧DkF d∧DecF f∧RwC d):=⟨hb,hi,hd,hf,hc⟩
 have HAN:Hid (∀ (v:Int) (W:World),LbR f d v→Below w.heap.size w W→AnI (LbR f d) w (.returned (.int .i64 v)) W):=fun v W h1 h2=>⟨⟨v,rfl,h1⟩,h2⟩
 clear hb hi hd hf hc hcc
 generalize AnI (LbR f d) w=RP at *
 go_enter Tryz.func36,Tryz.ntmps36
 go_wp2_with fail
 generalize (w.alloc (Obj.cells #[.slice d.sa d.ss.length d.sc,.slice d.pa d.ps.length d.pc,.int .i64 d.E,.int .i64 d.O,.slice d.ma d.ms.length d.mc,.slice d.va d.vs.length d.vc,.slice d.ca d.cs.length d.cc,.int .i64 d.F,.int .i64 d.G,.slice d.oa d.os.length d.oc] 49))=W0 at *
 refine H1.mono ?_
 clear H1
 rintro e w1 ⟨h1,hb1⟩
 have hx1:=hx0.step hb1
 have HW1:Hid (Below w.heap.size w w1):=HW0.out.trans (hb1.mono HW0.out.size)
 clear hb1 hx0 HW0
 rcases h1 with ⟨hG,rfl⟩ | ⟨hG,rfl⟩
 rotate_left
 ·have HF:Hid (RP (.returned (.int .i64 (0))) w1):=HAN.out _ _ (.inr ⟨hG,rfl⟩) HW1.out
  clear hG HB HAN
  go_wp2
  exact HF.out
 have HG:Hid (DkG f d):=hG
 have hL:=(mapB_len d.ms hG.map).2
 have HC0:Hid (Dk10 w1 w.heap.size d∧Below w.heap.size w w1):=⟨hx1,HW1.out⟩
 clear hG HW1
 obtain ⟨x0,x1,x2,x3,x4,x5,x6,x7,x8,x9,xl⟩:=hx1
 go_wp2
 go_loopw [3,4] (fun v i W=>∃ (k:Nat) (u:Int),k≤d.ms.length∧i=.int .i64 k∧v=.int .i64 u∧(0≤u∧u≤256*(k:Int))∧LvS f d k u∧Dk10 W w.heap.size d∧Below w.heap.size w W) (fun _ i _=>d.ms.length-(intOf i).toNat)
 case atStart=>exact ⟨0,0,Nat.zero_le _,rfl,rfl,by omega,rfl,HC0.out.1,HC0.out.2⟩
 case round=>
  clear HC0 x0 x1 x2 x3 x4 x5 x6 x7 x8 x9 xl
  obtain ⟨k,u,hk,rfl,rfl,hu,hlv,hx,hbel⟩:=hrel
  have HLV:Hid (LvS f d k u):=hlv
  have HBE:Hid (Dk10 wr w.heap.size d∧Below w.heap.size w wr):=⟨hx,hbel⟩
  obtain ⟨x0,x1,x2,x3,x4,x5,x6,x7,x8,x9,xl⟩:=hx
  clear hlv hbel
  by_cases hlt:k<d.ms.length
  ·have H2:=l10blob_any f HB.out.2.2.2.1 d k wr (HB.out.1.below HBE.out.2 nl) (HB.out.2.1.below HBE.out.2 nl) HG.out HB.out.2.2.1 HB.out.2.2.2.2 hlt
   go_wp2_with fail
   clear x0 x1 x2 x3 x4 x5 x6 x7 x8 x9 xl
   refine H2.mono ?_
   clear H2
   rintro e w2 ⟨⟨o,hct,ho⟩,hb2⟩
   have HB2:Hid (Dk10 w2 w.heap.size d∧Below w.heap.size w w2):=⟨HBE.out.1.step hb2,HBE.out.2.trans (hb2.mono HBE.out.2.size)⟩
   have hsh:=hct.short HG.out
   have HN:Hid (LvS f d (k+1) (u+((o.getD []).length:Nat))):=⟨u,o,HLV.out,hct,rfl⟩
   clear hb2 HBE hct HLV
   obtain ⟨x0,x1,x2,x3,x4,x5,x6,x7,x8,x9,xl⟩:=HB2.out.1
   rcases ho with ⟨ls,a,c,rfl,rfl,hby,hlc⟩ | ⟨rfl,rfl⟩
   ·simp only [Option.getD_some] at hsh HN
    generalize ls.length=m at *
    clear hby hlc
    go_wp2
    go_roundw
    case rel=>exact ⟨k+1,u+m,by omega,by go_num,by go_num,by omega,HN.out,HB2.out.1,HB2.out.2⟩
    case measure=>simp [intOf];omega
   ·simp only [Option.getD_none,List.length_nil] at HN
    go_wp2
    go_roundw
    case rel=>exact ⟨k+1,u,by omega,by go_num,by go_num,by omega,by simpa using HN.out,HB2.out.1,HB2.out.2⟩
    case measure=>simp [intOf];omega
  ·obtain rfl:k=d.ms.length:=by omega
   have HF:Hid (RP (.returned (.int .i64 u)) wr):=HAN.out _ _ (.inl ⟨HG.out,HLV.out⟩) HBE.out.2
   clear HLV HAN
   go_wp2
   exact HF.out
end Go.Proofs.YtaibkchbkedjnaaGreatDoor
