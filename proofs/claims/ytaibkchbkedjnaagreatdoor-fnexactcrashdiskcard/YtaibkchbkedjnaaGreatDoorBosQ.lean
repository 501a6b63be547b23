/- Lemmas on the way. -/
import Derived.Test.YtaibkchbkedjnaaGreatDoorBosE
set_option maxRecDepth 20000
set_option maxHeartbeats 16000000
namespace Go.Proofs.YtaibkchbkedjnaaGreatDoor
open Go.RowKit
set_option linter.unusedVariables false
theorem markBoolS_own (B g cap:Nat) (bs:List Bool) (k:Int) (w:World) (h:OwBo w B g cap bs) (hn:bs.length≤4194304) (h0:0≤k) (h1:k≤4194304) :
  Calls Tryz.prog 24 #[.slice (some ⟨g,0,none⟩) bs.length cap,.int .i64 k] w fun e w'=>e=.returned (.int .i64 (k+bs.length))∧(∃ cs,cs.length=bs.length∧OwBo w' B g cap cs)∧Only (·=g) w w':=by
 have HO:Hid (OwBo w B g cap bs):=h
 clear h
 generalize hlen:bs.length=n at *
 have HL:Hid (bs.length=n∧True):=⟨hlen,trivial⟩
 clear hlen
 go_enter Tryz.func24,Tryz.ntmps24
 go_wp2
 go_loopw [1,5] (fun q i wr=>∃ (j:Nat) (cs:List Bool),j≤n∧i=.int .i64 j∧q=.int .i64 (k+j)∧cs.length=n∧OwBo wr B g cap cs∧Only (·=g) w wr) (fun _ i _=>n-(intOf i).toNat)
 case atStart=>exact ⟨0,bs,Nat.zero_le _,rfl,by simp,HL.out.1,HO.out,Only.refl _ _⟩
 case round=>
  obtain ⟨j,cs,hj,rfl,rfl,hcl,hown,honly⟩:=hrel
  by_cases hlt:j<n
  ·have hdst:=hown.cell j (by omega)
   have hfz:=hown.frozen j
   have HR:Hid (∀ z:Bool,OwBo (wr.setCell ⟨g,j,none⟩ (.bool z)) B g cap (cs.set j z)):=fun z=>hown.store j z
   have HB:Hid (∀ z:Bool,Only (·=g) w (wr.setCell ⟨g,j,none⟩ (.bool z))):=fun z=>honly.setCell (.inl rfl) _
   have HCL:Hid (cs.length=n∧True):=⟨hcl,trivial⟩
   generalize cs.getD j false=old at *
   clear hown honly hcl
   go_wp2
   go_roundw
   case rel=>exact ⟨j+1,cs.set j _,by omega,by go_num,by go_num,by rw [List.length_set];exact HCL.out.1,HR.out _,HB.out _⟩
   case measure=>simp [intOf];omega
  ·have hjn:j=n:=by omega
   subst hjn
   have HF:Hid (OwBo wr B g cap cs∧cs.length=j):=⟨hown,hcl⟩
   clear hown hcl
   go_wp2
   go_ret
   exact ⟨rfl,⟨cs,HF.out.2,HF.out.1⟩,honly⟩
end Go.Proofs.YtaibkchbkedjnaaGreatDoor
