/-
  What a sector tells of a pack, as numbers: its items, where their bytes lie, and when the pack's bytes are just the sector.
-/
import Derived.Test.YthngimdjjmhboaaGreatDoorPkB
namespace Go.Proofs.YthngimdjjmhboaaGreatDoor
open Go.RowKit
set_option linter.unusedVariables false

def cN (zs:List Int) (k:Nat):Nat:=(zs.getD (7+2 * k) 0).toNat
def aP (zs:List Int) (m:Nat):Nat→Nat
 | 0=>6+2 * m
 | k+1=>aP zs m k+cN zs k
def itE (zs:List Int) (m k:Nat):El:=⟨zs.getD (6+2 * k) 0,none,0,(zs.drop (aP zs m k)).take (cN zs k)⟩
def itL (zs:List Int) (m:Nat):Nat→List El
 | 0=>[]
 | k+1=>itL zs m k++[itE zs m k]
theorem itL_len (zs:List Int) (m k:Nat):(itL zs m k).length=k:=by
 induction k with
 | zero=>rfl
 | succ k ih=>simp [itL,ih]
theorem aP_mono (zs:List Int) (m k:Nat):aP zs m k≤aP zs m (k+1):=by simp [aP]
theorem aP_le (zs:List Int) (m:Nat) {j k:Nat} (h:j≤k):aP zs m j≤aP zs m k:=by
 induction k with
 | zero => obtain rfl : j = 0 := by omega
           exact Nat.le_refl _
 | succ k ih=>
  rcases Nat.lt_or_ge j (k+1) with h1 | h1
  ·exact Nat.le_trans (ih (by omega)) (aP_mono zs m k)
  ·obtain rfl:j=k+1:=by omega
   exact Nat.le_refl _
theorem aP_lo (zs:List Int) (m k:Nat):6+2 * m≤aP zs m k:=aP_le zs m (Nat.zero_le k)
theorem itE_len {zs:List Int} {m k:Nat} (h:aP zs m (k+1)≤zs.length):(itE zs m k).ls.length=cN zs k:=by
 simp only [aP] at h
 simp only [itE,List.length_take,List.length_drop]
 omega
theorem itL_lets {zs:List Int} {m k:Nat} (h:aP zs m k≤zs.length):elets (itL zs m k)+(6+2 * m)=aP zs m k:=by
 induction k with
 | zero=>simp [itL,elets,aP]
 | succ k ih=>
  have h1:=ih (Nat.le_trans (aP_mono zs m k) h)
  rw [itL,elets_app]
  simp only [elets,itE_len h]
  simp only [aP]
  omega
theorem itL_sz {zs:List Int} {m:Nat} (h:aP zs m m≤zs.length):szP (itL zs m m)=aP zs m m:=by
 have:=itL_lets h
 unfold szP
 rw [itL_len]
 omega
theorem itL_B {zs:List Int} {m k:Nat} (h:aP zs m k≤zs.length):pbB (itL zs m k)=(zs.drop (6+2 * m)).take (aP zs m k - (6+2 * m)):=by
 induction k with
 | zero=>simp [itL,pbB,aP]
 | succ k ih=>
  have h0:=aP_lo zs m k
  rw [itL,pbB_app,ih (Nat.le_trans (aP_mono zs m k) h)]
  have h1:aP zs m (k+1) - (6+2 * m)=(aP zs m k - (6+2 * m))+cN zs k:=by simp only [aP];omega
  rw [h1,List.take_add,List.drop_drop]
  have h2:6+2 * m+(aP zs m k - (6+2 * m))=aP zs m k:=by omega
  rw [h2]
  simp [pbB,itE]
theorem take2 (zs:List Int) (i:Nat) (h:i+1<zs.length):(zs.drop i).take 2=[zs.getD i 0,zs.getD (i+1) 0]:=by
 have h1:zs.drop i=zs[i] :: zs.drop (i+1):=List.drop_eq_getElem_cons (by omega)
 have h2:zs.drop (i+1)=zs[i+1] :: zs.drop (i+1+1):=List.drop_eq_getElem_cons h
 rw [h1,h2,List.getD_eq_getElem?_getD,List.getD_eq_getElem?_getD,List.getElem?_eq_getElem h,List.getElem?_eq_getElem (show i<zs.length by omega)]
 rfl
theorem itL_I {zs:List Int} {m k:Nat} (hb:∀ z ∈ zs,0≤z∧z≤255) (hk:k≤m) (h:aP zs m k≤zs.length):pbI (itL zs m k)=(zs.drop 6).take (2 * k):=by
 induction k with
 | zero=>simp [itL,pbI]
 | succ k ih=>
  have h0:=aP_lo zs m k
  have h1:=aP_mono zs m k
  rw [itL,pbI_app,ih (by omega) (by omega),show 2 * (k+1)=2 * k+2 by omega,List.take_add,List.drop_drop,take2 zs (6+2 * k) (by omega)]
  have h2:(itE zs m k).ls.length=cN zs k:=itE_len h
  have h3:((cN zs k:Nat):Int)=zs.getD (7+2 * k) 0:=by
   have:7+2 * k<zs.length:=by omega
   have h4:=(hb (zs.getD (7+2 * k) 0) (by rw [List.getD_eq_getElem?_getD,List.getElem?_eq_getElem this];exact List.getElem_mem this)).1
   unfold cN
   omega
  have h5:(itE zs m k).n=zs.getD (6+2 * k) 0:=rfl
  have h6:6+2 * k+1=7+2 * k:=by omega
  simp [pbI,h2,h3,h5,h6]
def rpM (zs:List Int):Nat:=(zs.getD 5 0).toNat
def rpE (zs:List Int):Int:=zs.getD 1 0 * 256+zs.getD 2 0
def rpO (zs:List Int):Int:=zs.getD 3 0 * 256+zs.getD 4 0
theorem take6 {zs:List Int} (h:6≤zs.length):zs.take 6=[zs.getD 0 0,zs.getD 1 0,zs.getD 2 0,zs.getD 3 0,zs.getD 4 0,zs.getD 5 0]:=by
 match zs,h with
 | a :: b :: c :: d :: e :: f :: r,_=>simp [List.getD_eq_getElem?_getD]
theorem pbH_take {zs:List Int} (hb:∀ z ∈ zs,0≤z∧z≤255) (h:6≤zs.length) (h0:zs.getD 0 0=80):pbH (rpE zs) (rpO zs) (rpM zs)=zs.take 6:=by
 have h1:=getD_rng hb 1
 have h2:=getD_rng hb 2
 have h3:=getD_rng hb 3
 have h4:=getD_rng hb 4
 have h5:=getD_rng hb 5
 rw [take6 h,h0]
 unfold pbH rpE rpO rpM
 have e1:(zs.getD 1 0 * 256+zs.getD 2 0) / 256=zs.getD 1 0:=by omega
 have e2:(zs.getD 1 0 * 256+zs.getD 2 0) % 256=zs.getD 2 0:=by omega
 have e3:(zs.getD 3 0 * 256+zs.getD 4 0) / 256=zs.getD 3 0:=by omega
 have e4:(zs.getD 3 0 * 256+zs.getD 4 0) % 256=zs.getD 4 0:=by omega
 have e5:(((zs.getD 5 0).toNat:Nat):Int)=zs.getD 5 0:=by omega
 rw [e1,e2,e3,e4,e5]
theorem pkL_back {zs:List Int} (hb:∀ z ∈ zs,0≤z∧z≤255) (h:zs.length=256) (h0:zs.getD 0 0=80) (ha:aP zs (rpM zs) (rpM zs)≤256) :
  pkL (rpE zs) (rpO zs) (itL zs (rpM zs) (rpM zs))=zs↔∀ z ∈ zs.drop (aP zs (rpM zs) (rpM zs)),z=0:=by
 have hl:aP zs (rpM zs) (rpM zs)≤zs.length:=by omega
 have hlo:=aP_lo zs (rpM zs) (rpM zs)
 unfold pkL
 rw [itL_len,pbH_take hb (by omega) h0,itL_I hb (Nat.le_refl _) hl,itL_B hl,itL_sz hl]
 have e1:zs.take 6++(zs.drop 6).take (2 * rpM zs)=zs.take (6+2 * rpM zs):=by rw [List.take_add]
 have e2:zs.take (6+2 * rpM zs)++(zs.drop (6+2 * rpM zs)).take (aP zs (rpM zs) (rpM zs) - (6+2 * rpM zs))=zs.take (aP zs (rpM zs) (rpM zs)):=by
  rw [←List.take_add]
  congr 1
  omega
 rw [e1,e2]
 generalize aP zs (rpM zs) (rpM zs)=q at *
 constructor
 ·intro hz z hm
  have h3:zs.drop q=List.replicate (256 - q) 0:=by
   conv=>lhs;rw [←hz]
   rw [List.drop_append_of_le_length (by simp;omega)]
   have:(zs.take q).drop q=[]:=by simp
   rw [this];rfl
  rw [h3] at hm
  exact (List.mem_replicate.1 hm).2
 ·intro hz
  have h3:zs.drop q=List.replicate (256 - q) 0:=List.eq_replicate_iff.2 ⟨by simp;omega,hz⟩
  rw [←h3,List.take_append_drop]
end Go.Proofs.YthngimdjjmhboaaGreatDoor
