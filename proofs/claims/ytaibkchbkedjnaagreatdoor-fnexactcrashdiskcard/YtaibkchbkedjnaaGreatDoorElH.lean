/- Lemmas on the way. -/
import Derived.Test.YtaibkchbkedjnaaGreatDoorElM3
import Derived.Test.YtaibkchbkedjnaaGreatDoorMarks
set_option maxRecDepth 20000
set_option maxHeartbeats 16000000
namespace Go.Proofs.YtaibkchbkedjnaaGreatDoor
open Go.RowKit
set_option linter.unusedVariables false
set_option linter.unusedSimpArgs false
theorem heldByteSS_any (a:Option Addr) (cap:Nat) (ss:List El) (k:Int) (w:World) (h:Els false w a (mkE false k ss)) (hn:ss.length+elets ss≤1048576) (h0:0≤k) (h1:k≤1) :
  Calls Tryz.prog 31 #[.slice a ss.length cap,.int .i64 k] w fun e w'=>e=.returned (.int .i64 (k+elets ss))∧w'=w:=by
 have HGE:Hid _:=mkE_get false k ss
 have HSU:Hid _:=mkA_succ false k ss
 have HLB:Hid _:=mkA_le false k ss
 have HSS:Hid (Els false w a (mkE false k ss)):=h
 have HMM:Hid (∀ j,j<ss.length→(ss.getD j de).ls.length≤elets ss):=fun j hj=>elets_mem (getD_memE hj)
 have HFI:Hid ((mkE false k ss).length=ss.length∧mkA false k ss ss.length=k+elets ss):=⟨mkE_len _ _ _,by rw [mkA_all];simp [eO]⟩
 clear h
 generalize hlen:ss.length=n at *
 have HL:Hid (ss.length=n∧True):=⟨hlen,trivial⟩
 clear hlen
 generalize hT:elets ss=T at *
 clear hT
 go_enter Tryz.func31,Tryz.ntmps31
 go_wp2
 go_loop [1,5] (fun q i=>∃ (j:Nat) (y:Int),j≤n∧i=.int .i64 j∧q=.int .i64 y∧y=mkA false k ss j) (fun _ i=>n-(intOf i).toNat)
 case atStart=>exact ⟨0,k,Nat.zero_le _,rfl,rfl,by simp [mkA,elets]⟩
 case round=>
  obtain ⟨j,y,hj,rfl,rfl,hy⟩:=hrel
  have hyb:=HLB.out j hj
  have HY:Hid (y=mkA false k ss j∧True):=⟨hy,trivial⟩
  rw [←hy] at hyb
  clear hy
  by_cases hjn:j<n
  ·obtain ⟨b,off,rfl,hb1,c0,hby,-⟩:=HSS.out.sec j (by rw [HFI.out.1];exact hjn)
   rw [HGE.out j hjn,←HY.out.1] at c0 hby
   simp only [mk1,marks_len] at c0 hby
   rw [show y+((eO false:Nat):Int)=y from by simp [eO]] at hby
   have HBY:Hid (Byt w (ss.getD j de).a (marks y (ss.getD j de).ls.length)):=hby
   have HYN:Hid (mkA false k ss (j+1)=y+(ss.getD j de).ls.length∧True):=⟨by rw [HSU.out j hjn,HY.out.1];simp [eO],trivial⟩
   have hT2:=HMM.out j hjn
   clear hby HY
   generalize ss.getD j de=s at *
   have HHB:=heldByteS_any s.a s.c s.ls.length y w HBY.out (by omega) (by omega) (by omega)
   generalize s.ls.length=M at *
   go_wp2_with fail
   refine HHB.mono ?_
   clear HHB
   rintro e w2 ⟨rfl,rfl⟩
   go_wp2
   go_round
   case rel=>exact ⟨j+1,_,by omega,by go_num,rfl,HYN.out.1.symm⟩
   case measure=>simp [intOf];omega
  ·have hjn2:j=n:=by omega
   subst hjn2
   have HYF:Hid (y=k+(T:Nat)∧True):=⟨HY.out.1.trans HFI.out.2,trivial⟩
   go_wp2
   go_ret
   exact ⟨by rw [←HYF.out.1];rfl,rfl⟩
theorem heldPendS_any (a:Option Addr) (cap:Nat) (ss:List El) (k:Int) (w:World) (h:Els true w a (mkE true k ss)) (hn:ss.length+elets ss≤1048576) (h0:0≤k) (h1:k+ss.length+elets ss<2097152) :
  Calls Tryz.prog 65 #[.slice a ss.length cap,.int .i64 k] w fun e w'=>e=.returned (.int .i64 (k+elets ss+ss.length))∧w'=w:=by
 have HGE:Hid _:=mkE_get true k ss
 have HSU:Hid _:=mkA_succ true k ss
 have HLB:Hid _:=mkA_le true k ss
 have HSS:Hid (Els true w a (mkE true k ss)):=h
 have HMM:Hid (∀ j,j<ss.length→(ss.getD j de).ls.length≤elets ss):=fun j hj=>elets_mem (getD_memE hj)
 have HFI:Hid ((mkE true k ss).length=ss.length∧mkA true k ss ss.length=k+elets ss+ss.length):=⟨mkE_len _ _ _,by rw [mkA_all];simp [eO]⟩
 clear h
 generalize hlen:ss.length=n at *
 have HL:Hid (ss.length=n∧True):=⟨hlen,trivial⟩
 clear hlen
 generalize hT:elets ss=T at *
 clear hT
 go_enter Tryz.func65,Tryz.ntmps65
 go_wp2
 go_loop [1,5] (fun q i=>∃ (j:Nat) (y:Int),j≤n∧i=.int .i64 j∧q=.int .i64 y∧y=mkA true k ss j) (fun _ i=>n-(intOf i).toNat)
 case atStart=>exact ⟨0,k,Nat.zero_le _,rfl,rfl,by simp [mkA,elets]⟩
 case round=>
  obtain ⟨j,y,hj,rfl,rfl,hy⟩:=hrel
  have hyb:=HLB.out j hj
  have HY:Hid (y=mkA true k ss j∧True):=⟨hy,trivial⟩
  rw [←hy] at hyb
  clear hy
  by_cases hjn:j<n
  ·obtain ⟨b,off,rfl,hb1,c0,c1,hby,-⟩:=HSS.out.pen j (by rw [HFI.out.1];exact hjn)
   rw [HGE.out j hjn,←HY.out.1] at c0 c1 hby
   simp only [mk1,marks_len,cond_true] at c0 c1 hby
   rw [show y+((eO true:Nat):Int)=y+1 from by simp [eO]] at hby
   have HBY:Hid (Byt w (ss.getD j de).a (marks (y+1) (ss.getD j de).ls.length)):=hby
   have HYN:Hid (mkA true k ss (j+1)=y+1+(ss.getD j de).ls.length∧True):=⟨by rw [HSU.out j hjn,HY.out.1];simp [eO],trivial⟩
   have hT2:=HMM.out j hjn
   clear hby HY
   generalize ss.getD j de=s at *
   have HHB:=heldByteS_any s.a s.c s.ls.length (y+1) w HBY.out (by omega) (by omega) (by omega)
   generalize s.ls.length=M at *
   have hyy:(y != y)=false:=by simp
   go_wp2_with fail
   refine HHB.mono ?_
   clear HHB
   rintro e w2 ⟨rfl,rfl⟩
   go_wp2
   go_round
   case rel=>exact ⟨j+1,_,by omega,by go_num,rfl,HYN.out.1.symm⟩
   case measure=>simp [intOf];omega
  ·have hjn2:j=n:=by omega
   subst hjn2
   have HYF:Hid (y=k+(T:Nat)+(j:Nat)∧True):=⟨HY.out.1.trans HFI.out.2,trivial⟩
   go_wp2
   go_ret
   exact ⟨by rw [←HYF.out.1];rfl,rfl⟩
theorem heldRaw_any (sa pa:Option Addr) (sc pc:Nat) (ss ps:List El) (w:World) (h:RawI w sa pa (mkSs ss) (mkPs ss ps)) (hf:Few ss ps) :
  Calls Tryz.prog 26 #[.agg #[.slice sa ss.length sc,.slice pa ps.length pc],.int .i64 1] w fun e w'=>e=.returned (.int .i64 (mkN ss ps))∧Below w.heap.size w w':=by
 have H0:Hid (RawI w sa pa (mkSs ss) (mkPs ss ps)):=h
 have HF:Hid (Few ss ps):=hf
 clear h hf
 go_enter Tryz.func26,Tryz.ntmps26
 have HW:Hid (Below w.heap.size w (w.alloc (Obj.cells #[.slice sa ss.length sc,.slice pa ps.length pc] 41))):=ba
 have HX:Hid (Box2 (w.alloc (Obj.cells #[.slice sa ss.length sc,.slice pa ps.length pc] 41)) w.heap.size (.slice sa ss.length sc) (.slice pa ps.length pc)):=Box2.new _ _ _ _
 go_wp2_with fail
 generalize w.alloc (Obj.cells #[.slice sa ss.length sc,.slice pa ps.length pc] 41)=W at *
 refine (heldByteSS_any sa sc ss 1 W (H0.out.1.below HW.out nl) (by have:=HF.out.sum;omega) (by omega) (by omega)).mono ?_
 rintro e w1 ⟨rfl,rfl⟩
 obtain ⟨x0,x1,-,-,xl⟩:=HX.out
 have HSM:=HF.out.sum
 have HMP:=heldPendS_any pa pc ps (1+elets ss) w1 (H0.out.2.below HW.out nl) (by omega) (by omega) (by omega)
 have HNN:Hid (mkN ss ps=1+(elets ss:Int)+elets ps+ps.length∧True):=⟨rfl,trivial⟩
 generalize elets ss=E at *
 go_wp2_with fail
 refine HMP.mono ?_
 clear HMP
 rintro e w2 ⟨rfl,rfl⟩
 go_wp2
 go_ret
 exact ⟨by rw [HNN.out.1];rfl,HW.out⟩
end Go.Proofs.YtaibkchbkedjnaaGreatDoor
