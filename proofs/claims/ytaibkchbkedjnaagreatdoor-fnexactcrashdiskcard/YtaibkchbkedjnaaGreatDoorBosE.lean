/- Lemmas on the way. -/
import Derived.Test.YtaibkchbkedjnaaGreatDoorBosP
set_option maxRecDepth 20000
set_option maxHeartbeats 16000000
namespace Go.Proofs.YtaibkchbkedjnaaGreatDoor
open Go.RowKit
set_option linter.unusedVariables false
theorem eqBoolS_yes (a b:Option Addr) (ca cb:Nat) (xs:List Bool) (w:World) (ha:Bos w a xs) (hb:Bos w b xs) (hx:xs.length≤281474976710656) :
  Calls Tryz.prog 23 #[.slice a xs.length ca,.slice b xs.length cb] w fun e w'=>e=.returned (.bool true)∧∃ n,w'=w.drewN n:=by
 have HA:Hid (Bos w a xs∧Bos w b xs):=⟨ha,hb⟩
 clear ha hb
 generalize hlen:xs.length=n at *
 have HL:Hid (xs.length=n∧True):=⟨hlen,trivial⟩
 clear hlen
 have hnn:((n:Int) != (n:Int))=false:=by simp
 go_enter Tryz.func23,Tryz.ntmps23
 go_wp2
 go_loopw [5] (fun i wr=>∃ k m:Nat,k≤n∧i=.int .i64 k∧wr=w.drewN m) (fun i _=>n-(intOf i).toNat)
 case atStart=>exact ⟨0,0,Nat.zero_le _,rfl,rfl⟩
 case round=>
  obtain ⟨k,m,hk,rfl,rfl⟩:=hrel
  by_cases hlt:k<n
  ·obtain ⟨b1,o1,rfl,hb1,hs1⟩:=HA.out.1.pos k (by rw [HL.out.1];exact hlt)
   obtain ⟨b2,o2,rfl,hb2,hs2⟩:=HA.out.2.pos k (by rw [HL.out.1];exact hlt)
   generalize xs.getD k false=z at *
   have hq:(z != z)=false:=by simp
   go_wp2
   go_quiet (fail)
   go_wp2
   go_roundw
   case rel=>exact ⟨k+1,_,by omega,by go_num,rfl⟩
   case measure=>simp [intOf];omega
  ·have hkn:k=n:=by omega
   subst hkn
   go_wp2
   go_ret
   exact ⟨rfl,_,rfl⟩
end Go.Proofs.YtaibkchbkedjnaaGreatDoor
