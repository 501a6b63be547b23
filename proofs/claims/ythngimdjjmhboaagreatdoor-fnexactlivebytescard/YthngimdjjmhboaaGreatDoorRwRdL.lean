/-
  RawRead, both.
-/
import Derived.Test.YthngimdjjmhboaaGreatDoorRdW
import Derived.Test.YthngimdjjmhboaaGreatDoorDkI1
import Derived.Test.YthngimdjjmhboaaGreatDoorClone
namespace Go.Proofs.YthngimdjjmhboaaGreatDoor
open Go.RowKit
set_option linter.unusedVariables false

set_option maxHeartbeats 1600000 in
theorem l6read_any (sa pa:Option Addr) (sc pc:Nat) (ss ps:List El) (x:Nat) (w:World) (hb:RawI w sa pa ss ps) (hx:x<ss.length) (hn:ss.length≤1000000) (hm:ps.length≤1000000) :
  Calls Tryz.prog 153 #[.agg #[.slice sa ss.length sc,.slice pa ps.length pc],.int .i64 x] w fun e w'=>e=.returned (.slice (rdE ss ps x).a (rdE ss ps x).ls.length (rdE ss ps x).c)∧Below w.heap.size w w':=by
 have HB:Hid (RawI w sa pa ss ps):=hb
 have HSU:Hid (∀ k,lastU ps x (k+1)=if (ps.getD k de).n=(x:Int) then some (ps.getD k de) else lastU ps x k):=fun k=>rfl
 have HRD:Hid (rdE ss ps x=(lastU ps x ps.length).getD (ss.getD x de)∧lastU ps x 0=none):=⟨by unfold rdE;rw [Int.toNat_natCast],rfl⟩
 clear hb
 generalize rdE ss ps x=R at *
 generalize hlen:ss.length=n at *
 generalize hlen2:ps.length=m at *
 have HL:Hid (ss.length=n∧ps.length=m):=⟨hlen,hlen2⟩
 clear hlen hlen2
 have HW:Hid (Below w.heap.size w (w.alloc (Obj.cells #[Value.slice sa n sc,Value.slice pa m pc] 41))):=(Below.refl _ _).alloc (Nat.le_refl _) _
 go_enter Tryz.func153,Tryz.ntmps153
 go_wp2
 go_loop [5] (fun i=>∃ k:Nat,k≤m∧i=.int .i64 ((k:Int) - 1)∧lastU ps x m=lastU ps x k) (fun i=>(intOf i+1).toNat)
 case atStart=>exact ⟨m,Nat.le_refl _,rfl,rfl⟩
 case round=>
  obtain ⟨k,hk,rfl,heq⟩:=hrel
  have HE:Hid (lastU ps x m=lastU ps x k∧True):=⟨heq,trivial⟩
  clear heq
  by_cases hk0:0<k
  ·obtain ⟨j,rfl⟩:∃ j,k=j+1:=⟨k - 1,by omega⟩
   obtain ⟨b,off,rfl,hb1,c0,c1,-,-⟩:=(HB.out.2.below HW.out (Nat.le_refl _)).pen j (by rw [HL.out.2];omega)
   have HS:=HSU.out j
   have hj1:((j+1:Nat):Int) - 1=(j:Int):=by omega
   rw [hj1]
   clear hj1
   generalize ps.getD j de=s at *
   obtain ⟨sn,a2,c2,sl⟩:=s
   simp only at c0 c1 HS
   by_cases hs:sn=(x:Int)
   ·have HF:Hid (R=⟨sn,a2,c2,sl⟩∧True):=by
     rw [if_pos hs] at HS
     refine ⟨?_,trivial⟩
     rw [HRD.out.1,HE.out.1,HS]
     rfl
    subst hs
    have hxx:((x:Int) == (x:Int))=true:=by simp
    clear HS
    go_wp2
    go_ret
    exact ⟨by rw [HF.out.1];rfl,HW.out⟩
   ·have HE2:Hid (lastU ps x m=lastU ps x j∧True):=by
     rw [if_neg hs] at HS
     exact ⟨HE.out.1.trans HS,trivial⟩
    have hs':(sn == (x:Int))=false:=by rw [beq_eq_false_iff_ne];exact hs
    clear HS hs
    go_wp2
    go_round
    case rel=>exact ⟨j,by omega,rfl,HE2.out.1⟩
    case measure=>simp [intOf]
  ·obtain rfl:k=0:=by omega
   obtain ⟨b,off,rfl,hb1,c0,-,-⟩:=(HB.out.1.below HW.out (Nat.le_refl _)).sec x (by rw [HL.out.1];exact hx)
   have HF:Hid (R=ss.getD x de∧True):=⟨by rw [HRD.out.1,HE.out.1,HRD.out.2];rfl,trivial⟩
   generalize ss.getD x de=s at *
   obtain ⟨sn,a2,c2,sl⟩:=s
   simp only at c0
   go_wp2
   go_ret
   exact ⟨by rw [HF.out.1];rfl,HW.out⟩
end Go.Proofs.YthngimdjjmhboaaGreatDoor
