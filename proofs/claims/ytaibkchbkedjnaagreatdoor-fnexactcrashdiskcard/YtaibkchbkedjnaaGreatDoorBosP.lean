/- Lemmas on the way. -/
import Derived.Test.YtaibkchbkedjnaaGreatDoorBosW
import Derived.Test.YtaibkchbkedjnaaGreatDoorItEq
set_option maxRecDepth 20000
set_option maxHeartbeats 16000000
namespace Go.Proofs.YtaibkchbkedjnaaGreatDoor
open Go.RowKit
set_option linter.unusedVariables false
theorem toBoolS_any (a:Option Addr) (cap:Nat) (bs:List Bool) (w:World) (hb:Bos w a bs) (hn:bs.length≤1048576) :
  Calls Tryz.prog 20 #[.slice a bs.length cap] w fun e w'=>
   e=.returned (.slice (some ⟨w.heap.size,0,none⟩) bs.length bs.length)∧OwBo w' w.heap.size w.heap.size bs.length bs∧Below w.heap.size w w':=by
 obtain ⟨i0,hi,hz0,hz1,hz2⟩:=info_parts Tryz.infoBool
 have HBS:Hid (Bos w a bs):=hb
 clear hb
 have HFI:Hid (partB bs bs.length=bs∧partB bs 0=List.replicate bs.length false):=⟨by simp [partB],by simp [partB]⟩
 generalize hlen:bs.length=n at *
 have HL:Hid (bs.length=n∧True):=⟨hlen,trivial⟩
 clear hlen
 go_enter Tryz.func20,Tryz.ntmps20
 go_wp2_with (at_make;refine wpList_make_full _ rfl _ _ 56 rfl w.heap.size 4 i0 (.bool false) 1 Tryz.underlying56 hi hz0 hz1 .i64 .i64 _ _ n rfl rfl rfl rfl (by rw [hz2];omega) (by unfold maxLen;omega) nl ?_;intro w1 hown hgrow)
 have hbw:Below w.heap.size w w1:=(Below.refl _ _).grown hgrow nl (by intro k hk;cases hk)
 have H0:Hid (OwBo w1 w.heap.size w.heap.size n (partB bs 0)):=by
  rw [HFI.out.2]
  rw [made_bools] at hown
  exact ⟨by simpa using hown⟩
 clear hown hgrow hi hz0 hz1 hz2
 go_loopw [4] (fun i wr=>∃ k:Nat,k≤n∧i=.int .i64 k∧OwBo wr w.heap.size w.heap.size n (partB bs k)∧Below w.heap.size w wr) (fun i _=>n-(intOf i).toNat)
 case atStart=>exact ⟨0,Nat.zero_le _,rfl,H0.out,hbw⟩
 case round=>
  obtain ⟨k,hk,rfl,hown,hbel⟩:=hrel
  have HO:Hid (OwBo wr w.heap.size w.heap.size n (partB bs k)):=hown
  clear hown hbw
  by_cases hlt:k<n
  ·obtain ⟨b,off,rfl,hbl,hsrc0⟩:=HBS.out.pos k (by rw [HL.out.1];exact hlt)
   have hpl:(partB bs k).length=n:=by rw [partB_len _ _ (by rw [HL.out.1];omega)];exact HL.out.1
   have hsrc:=keep hbel hbl hsrc0
   have hdst:=HO.out.cell k (by omega)
   have hfz:=HO.out.frozen k
   have R:=HO.out.store k (bs.getD k false)
   rw [partB_set _ _ (by rw [HL.out.1];exact hlt)] at R
   have HR:Hid (OwBo (wr.setCell ⟨w.heap.size,k,none⟩ (.bool (bs.getD k false))) w.heap.size w.heap.size n (partB bs (k+1))):=R
   have HBL:Hid (Below w.heap.size w (wr.setCell ⟨w.heap.size,k,none⟩ (.bool (bs.getD k false)))):=hbel.setCell (p:=⟨w.heap.size,k,none⟩) nl _
   clear R hpl hsrc0
   generalize bs.getD k false=z at *
   generalize (partB bs k).getD k false=z0 at *
   go_wp2
   go_roundw
   case rel=>exact ⟨k+1,by omega,by go_num,HR.out,HBL.out⟩
   case measure=>simp [intOf];omega
  ·have hkn:k=n:=by omega
   subst hkn
   have HA:Hid (OwBo wr w.heap.size w.heap.size k bs):=by rw [←HFI.out.1];exact HO.out
   go_wp2
   go_ret
   exact ⟨rfl,HA.out,hbel⟩
end Go.Proofs.YtaibkchbkedjnaaGreatDoor
