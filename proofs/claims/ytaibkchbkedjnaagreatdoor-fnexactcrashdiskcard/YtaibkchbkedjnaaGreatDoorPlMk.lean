/- Lemmas on the way. -/
import Derived.Test.YtaibkchbkedjnaaGreatDoorOps
set_option maxRecDepth 20000
set_option maxHeartbeats 16000000
namespace Go.Proofs.YtaibkchbkedjnaaGreatDoor
open Go.RowKit
set_option linter.unusedVariables false
def mkP (k:Int):Nat→List (Int × Int)
 | 0=>[]
 | n+1=>mkP k n++[(k+(n*2:Nat),k+(n*2:Nat)+1)]
theorem mkP_len (k:Int) (n:Nat):(mkP k n).length=n:=by
 induction n with
 | zero=>rfl
 | succ n ih=>simp [mkP,ih]
theorem mkP_step (k:Int) (ps:List (Int × Int)) (j:Nat) (h:j<ps.length):(mkP k j++ps.drop j).set j (k+(j*2:Nat),k+(j*2:Nat)+1)=mkP k (j+1)++ps.drop (j+1):=by
 rw [List.set_append_right _ _ (by rw [mkP_len];exact Nat.le_refl _),mkP_len,Nat.sub_self,List.drop_eq_getElem_cons h,List.set_cons_zero]
 simp [mkP]
theorem markPlaceS_own (B g cap:Nat) (ps:List (Int × Int)) (k:Int) (w:World) (h:OwP w B g cap ps) (hn:ps.length≤1048576) (h0:0≤k) (h1:k≤4194304) :
  Calls Tryz.prog 101 #[.slice (some ⟨g,0,none⟩) ps.length cap,.int .i64 k] w fun e w'=>e=.returned (.int .i64 (k+(ps.length*2:Nat)))∧OwP w' B g cap (mkP k ps.length)∧Only (·=g) w w':=by
 generalize hlen:ps.length=n at *
 have HL:Hid (ps.length=n∧True):=⟨hlen,trivial⟩
 clear hlen
 have HO:Hid (OwP w B g cap ps):=h
 clear h
 go_enter Tryz.func101,Tryz.ntmps101
 go_wp2
 go_loopw [1,5] (fun q i wr=>∃ (j:Nat) (y:Int),j≤n∧i=.int .i64 j∧q=.int .i64 y∧y=k+(j*2:Nat)∧OwP wr B g cap (mkP k j++ps.drop j)∧Only (·=g) w wr) (fun _ i _=>n-(intOf i).toNat)
 case atStart=>exact ⟨0,k,Nat.zero_le _,rfl,rfl,by simp,by simpa [mkP] using HO.out,Only.refl _ _⟩
 case round=>
  obtain ⟨j,y,hj,rfl,rfl,hy,hown,honly⟩:=hrel
  have HY:Hid (y=k+(j*2:Nat)∧True):=⟨hy,trivial⟩
  have hyb:0≤y∧y≤8000000:=by omega
  by_cases hlt:j<n
  ·have hl:(mkP k j++ps.drop j).length=n:=by rw [List.length_append,mkP_len,List.length_drop,HL.out.1];omega
   obtain ⟨c0,c1⟩:=hown.cell j (by omega)
   have f0:=hown.frozen (j*2)
   have f1:=hown.frozen (j*2+1)
   have R:=hown.store j (by omega) (y,y+1) ⟨by simp only;omega,by simp only;omega⟩
   rw [hy,mkP_step k ps j (by rw [HL.out.1];exact hlt),←hy] at R
   have HR:Hid (OwP ((wr.setCell ⟨g,j*2,none⟩ (.int .i64 y)).setCell ⟨g,j*2+1,none⟩ (.int .i64 (y+1))) B g cap (mkP k (j+1)++ps.drop (j+1))):=R
   have HB:Hid (Only (·=g) w ((wr.setCell ⟨g,j*2,none⟩ (.int .i64 y)).setCell ⟨g,j*2+1,none⟩ (.int .i64 (y+1)))):=(honly.setCell (.inl rfl) _).setCell (.inl rfl) _
   generalize ((mkP k j++ps.drop j).getD j dp).1=o0 at *
   generalize ((mkP k j++ps.drop j).getD j dp).2=o1 at *
   clear R hown honly hl hy
   go_wp2
   go_roundw
   case rel=>exact ⟨j+1,y+1+1,by omega,by go_num,by go_num,by rw [HY.out.1];omega,HR.out,HB.out⟩
   case measure=>simp [intOf];omega
  ·have hjn:j=n:=by omega
   subst hjn
   have hown':=hown
   rw [List.drop_of_length_le (by rw [HL.out.1];exact Nat.le_refl _),List.append_nil] at hown'
   have HF:Hid (OwP wr B g cap (mkP k j)):=hown'
   clear hown hown' hy
   go_wp2
   go_ret
   exact ⟨by rw [←HY.out.1];rfl,HF.out,honly⟩
theorem markPlaceS_any (a:Option Addr) (B U cap:Nat) (ps:List (Int × Int)) (k:Int) (w:World) (h:MinP w B U a cap ps) (hn:ps.length≤1048576) (h0:0≤k) (h1:k≤4194304) :
  Calls Tryz.prog 101 #[.slice a ps.length cap,.int .i64 k] w fun e w'=>e=.returned (.int .i64 (k+(ps.length*2:Nat)))∧MinP w' B U a cap (mkP k ps.length)∧Only (rowOf a) w w':=by
 rcases h with ⟨rfl,rfl,rfl⟩ | ⟨g,rfl,g1,g2,h⟩
 ·go_enter Tryz.func101,Tryz.ntmps101
  go_wp2
  refine wp_loop_rounds 1 ?_
  rw [rounds_succ]
  go_wp2
  go_ret
  exact ⟨by simp,.inl ⟨rfl,rfl,rfl⟩,Only.refl _ _⟩
 ·refine (markPlaceS_own B g cap ps k w h hn h0 h1).mono ?_
  rintro e w' ⟨rfl,ho,hy⟩
  exact ⟨rfl,.inr ⟨g,rfl,g1,g2,ho⟩,hy.mono (fun k _ hk=>⟨_,rfl,hk.symm⟩)⟩
theorem markMap_any (a:Option Addr) (B U cap:Nat) (ps:List (Int × Int)) (k:Int) (w:World) (h:MinP w B U a cap ps) (hU:U≤w.heap.size) (hn:ps.length≤1048576) (h0:0≤k) (h1:k≤4194304) :
  Calls Tryz.prog 58 #[.agg #[.slice a ps.length cap],.int .i64 k] w fun e w'=>e=.returned (.int .i64 (k+(ps.length*2:Nat)))∧MinP w' B U a cap (mkP k ps.length)∧Only (rowOf a) w w':=by
 have hw:Below w.heap.size w (w.alloc (Obj.cells #[.slice a ps.length cap] 44)):=ba
 go_enter Tryz.func58,Tryz.ntmps58
 go_wp2_with fail
 refine (markPlaceS_any a B U cap ps k _ (h.below hw) hn h0 h1).mono ?_
 rintro e w1 ⟨rfl,hm,ho⟩
 have HO:Hid (Only (rowOf a) w w1):=(Only.ofBelow hw nl).trans ho
 have HM:Hid (MinP w1 B U a cap (mkP k ps.length)):=hm
 clear hm ho
 go_wp2
 go_ret
 exact ⟨rfl,HM.out,HO.out⟩
end Go.Proofs.YtaibkchbkedjnaaGreatDoor
