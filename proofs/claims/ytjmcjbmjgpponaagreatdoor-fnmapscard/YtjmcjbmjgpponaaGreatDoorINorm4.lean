import Derived.Test.YtjmcjbmjgpponaaGreatDoorPmB
namespace Go.Proofs.YtjmcjbmjgpponaaGreatDoor
open Go.RowKit
set_option linter.unusedVariables false
set_option linter.unusedSimpArgs false
theorem zef (Z:Nat):∀ (l:List Pc) (zs:List Int) (M:Int),0<=M->(∀ p ∈ l,p.sz<=Z)->(∀ z ∈ zs,0<=z/\z<=M)->∀ z ∈ z0m l zs,0<=z/\z<=M+(l.length*Z:Nat)
 | [],zs,M,_,_,h,z,hz=>by have:=h z hz;simp;omega
 | p :: l,zs,M,h0,hl,h,z,hz=>by
  have h1:=zlq p zs M h0 h;have h2:=hl p (by simp)
  have h3:=zef Z l (z1f p zs) (M+p.sz) (by omega) (fun q hq=>hl q (by simp [hq])) h1 z hz
  refine ⟨h3.1,Int.le_trans h3.2 ?_⟩
  simp only [List.length_cons,Nat.add_mul,Nat.one_mul]
  omega
theorem z6z {zs:List Int} (hz:∀ z ∈ zs,0<=z/\z<=1000000) (hn:zs.length<=80) (k:Nat) (hk:k<=12):∀ p ∈ rnd (z4 zs) k,p.fine/\p.ok zs.length/\p.sz<=10000000000:=fun p hp=>by
 obtain ⟨h1,h2,h3⟩:=(z76 hz hn k).2.1 p hp;have h4:2 ^ k<=2 ^ 12:=Nat.pow_le_pow_right (by omega) hk
 have h5:1000000*2 ^ k<=1000000*4096:=Nat.mul_le_mul_left _ h4;have h6:=zqq p h3;exact ⟨⟨by omega,by omega⟩,h3,by omega⟩
theorem zif (l:List Pc) (zs:List Int) (k:Nat) (hk:k<l.length):z0m (l.take (k+1)) zs=z1f (l.getD k dpc) (z0m (l.take k) zs):=by
 rw [List.take_succ_eq_append_getElem hk,zk9]
 simp [List.getD_eq_getElem?_getD,hk]
theorem zc4 {zs:List Int} (hz:∀ z ∈ zs,0<=z/\z<=1000000) (hn:zs.length<=80) (L:Nat) (hL:L<=12) (k:Nat) (hk:k<=160):∀ z ∈ z0m ((rnd (z4 zs) L).take k) (List.replicate zs.length 0),0<=z/\z<=2000000000000:=fun z hzm=>by
 have h:=zef 10000000000 ((rnd (z4 zs) L).take k) (List.replicate zs.length 0) 0 (Int.le_refl _) (fun p hp=>(z6z hz hn L hL p (List.mem_of_mem_take hp)).2.2) (fun z hz=>by simp at hz;omega) z hzm
 have h2:((rnd (z4 zs) L).take k).length<=160:=by rw [List.length_take];omega
 have h3:((rnd (z4 zs) L).take k).length*10000000000<=160*10000000000:=Nat.mul_le_mul_right _ h2
 omega
theorem zis {w0 w1 w2:World} {zs:List Int} {n m lc:Nat} {la:Option Addr} {cs:List Pc} (hn:n=zs.length) (hov:OVV w1 w0.heap.size (.slice la m lc) cs) (hb1:Below w0.heap.size w0 w1) (hown:w2.ownsRow w1.heap.size 3 1 (.slice (some ⟨w1.heap.size,0,none⟩) n n) n (madeCells (Value.int .i64 0).cells (n*1)).toList) (hgrow:w1.grownBy w2 none) :
  OwI w2 w1.heap.size w1.heap.size n (List.replicate zs.length 0)/\OVV w2 w0.heap.size (.slice la m lc) cs/\Below w0.heap.size w0 w2/\w0.heap.size<=w1.heap.size/\(List.replicate zs.length (0:Int)).length=n/\w1.heap.size<w2.heap.size:=by
 have hbw:Bw w1 w2:=(Below.refl _ _).grown hgrow nl (by intro k hk;cases hk)
 have h0:OwI w2 w1.heap.size w1.heap.size n (List.replicate zs.length 0):=by
  rw [<-hn];refine ⟨?_,by intro z hz;simp at hz;omega⟩
  rw [z0n] at hown
  simpa using hown
 exact ⟨h0,hov.below hbw,hb1.trans (hbw.mono hb1.size),hb1.size,by rw [List.length_replicate];exact hn.symm,h0.lt.2⟩
theorem zb1 (zs:List Int):∀ k,k<=zs.length->zf one (zs.take k)=((z02 zs k).length:Nat)
 | 0,_=>by simp [zf,z02]
 | k+1,h=>by
  rw [z1j one zs k (by omega),zb1 zs k (by omega)]
  simp only [z02,one]
  split <;> simp
theorem z3h (zs:List Int) (k:Nat) (h:k<zs.length):(zs.take (k+1)).sum=(zs.take k).sum+zs.getD k 0:=by
 rw [List.take_succ_eq_append_getElem h,List.sum_append]
 simp [List.getD_eq_getElem?_getD,List.getElem?_eq_getElem h]
def zk (zs:List Int):Bool:=decide (1<=zs.length/\zs.length<=80/\(∀ z ∈ zs,0<=z/\z<=64)/\zs.sum=64)
theorem z1i {zs:List Int} (h:zk zs=true) (k:Nat) (hk:k<zs.length):0<=zs.getD k 0/\zs.getD k 0<=64:=by
 simp only [zk,decide_eq_true_eq] at h
 exact h.2.2.1 _ (zp hk)
theorem z0p {zs:List Int} (h:zk zs=true):1<=zs.length/\zs.length<=80:=by
 simp only [zk,decide_eq_true_eq] at h
 exact ⟨h.1,h.2.1⟩
def z2p (cs ns:List Int) (best:Int) (i:Nat):Prop:=0<cs.getD i 0/\(best<0\/cs.getD best.toNat 0*ns.getD i 0<cs.getD i 0*ns.getD best.toNat 0)
instance (cs ns:List Int) (best:Int) (i:Nat):Decidable (z2p cs ns best i):=by unfold z2p;infer_instance
def pick (cs ns:List Int):Nat->Int
 | 0=>-1
 | k+1=>if z2p cs ns (pick cs ns k) k then k else pick cs ns k
def z7t (cs ns:List Int):List Int:=zz ns (pick cs ns cs.length)
def zy (cs:List Int):Nat->List Int
 | 0=>cs.map one
 | j+1=>z7t cs (zy cs j)
theorem z54 {cs ns:List Int} {k:Nat} (h:z2p cs ns (pick cs ns k) k):pick cs ns (k+1)=k:=by simp [pick,h]
theorem z6v {cs ns:List Int} {k:Nat} (h:¬z2p cs ns (pick cs ns k) k):pick cs ns (k+1)=pick cs ns k:=by simp [pick,h]
theorem z7l (cs ns:List Int) (k:Nat):-1<=pick cs ns k/\pick cs ns k<k:=by
 induction k with
 | zero=>simp [pick]
 | succ k ih=>simp only [pick];split <;> omega
theorem zl9 (cs ns:List Int) (k:Nat) (h:0<=pick cs ns k):0<cs.getD (pick cs ns k).toNat 0:=by
 induction k with
 | zero=>simp [pick] at h
 | succ k ih=>
  by_cases c:z2p cs ns (pick cs ns k) k
  ·rw [z54 c];simpa using c.1
  ·rw [z6v c] at h ⊢;exact ih h
theorem zj8 (cs ns:List Int) (k i:Nat) (hi:i<k) (h:0<cs.getD i 0):0<=pick cs ns k:=by
 induction k with
 | zero=>omega
 | succ k ih=>
  by_cases c:z2p cs ns (pick cs ns k) k
  ·rw [z54 c];omega
  ·rw [z6v c]
   by_cases hk:i<k
   ·exact ih hk
   ·have:i=k:=by omega
    subst this;have hr:=z7l cs ns i
    by_cases hp:pick cs ns i<0
    ·exact absurd ⟨h,.inl hp⟩ c
    ·omega
def z9j (cs:List Int):Prop:=∃ i,i<cs.length/\0<cs.getD i 0
theorem z52 {cs:List Int} (h:1<=zf one cs):z9j cs:=by
 induction cs with
 | nil=>simp [zf] at h
 | cons c cs ih=>
  by_cases hc:0<c
  ·exact ⟨0,by simp,by simpa using hc⟩
  ·have e:zf one (c :: cs)=zf one cs:=by simp [zf,one,hc]
   rw [e] at h;obtain ⟨i,hi,hp⟩:=ih h;exact ⟨i+1,by simp;omega,by simpa using hp⟩
def Fair (cs ns:List Int) (j:Nat):Prop:=ns.length=cs.length/\∀ i,i<cs.length->(0<cs.getD i 0->1<=ns.getD i 0/\ns.getD i 0<=j+1)/\(¬0<cs.getD i 0->ns.getD i 0=0)
theorem Fair.bnd {cs ns:List Int} {j:Nat} (h:Fair cs ns j) (i:Nat):0<=ns.getD i 0/\ns.getD i 0<=j+1:=by
 by_cases hi:i<cs.length
 ·have:=h.2 i hi
  by_cases hc:0<cs.getD i 0
  ·have:=this.1 hc;omega
  ·have:=this.2 hc;omega
 ·rw [List.getD_eq_getElem?_getD,List.getElem?_eq_none (by rw [h.1];omega)];simp;omega
theorem ziw (cs:List Int):Fair cs (cs.map one) 0:=by
 refine ⟨by simp,fun i hi=>?_⟩
 have e:(cs.map one).getD i 0=one (cs.getD i 0):=by simp [List.getD_eq_getElem?_getD,List.getElem?_eq_getElem hi]
 rw [e]
 constructor
 ·intro h;simp only [one];rw [if_pos h];omega
 ·intro h;simp only [one];rw [if_neg h]
theorem zae {cs ns:List Int} (hs:z9j cs):0<=pick cs ns cs.length/\(pick cs ns cs.length).toNat<cs.length/\0<cs.getD (pick cs ns cs.length).toNat 0:=by
 obtain ⟨i,hi,hp⟩:=hs;have h1:=zj8 cs ns cs.length i hi hp;have h2:=z7l cs ns cs.length;exact ⟨h1,by omega,zl9 cs ns _ h1⟩
theorem zet {ns:List Int} {i:Nat} {v:Int} (h:i<ns.length):(ns.set i v).getD i 0=v:=by simp [List.getD_eq_getElem?_getD,h]
theorem z1q {ns:List Int} {i k:Nat} {v:Int} (h:i≠k):(ns.set k v).getD i 0=ns.getD i 0:=by
 simp only [List.getD_eq_getElem?_getD]
 rw [List.getElem?_set_ne (by omega)]
theorem zj2 {cs ns:List Int} {j:Nat} (hs:z9j cs) (h:Fair cs ns j):Fair cs (z7t cs ns) (j+1):=by
 obtain ⟨p1,p2,p3⟩:=zae (ns:=ns) hs;unfold z7t zz;generalize (pick cs ns cs.length).toNat=p at *;refine ⟨by simpa using h.1,fun i hi=>?_⟩
 have hi':=h.2 i hi
 by_cases hip:i=p
 ·subst hip
  rw [zet (by rw [h.1];exact hi)]
  have:=hi'.1 p3;exact ⟨fun _=>by omega,fun hh=>absurd p3 hh⟩
 ·rw [z1q hip]
  exact ⟨fun hh=>by have:=hi'.1 hh;omega,hi'.2⟩
theorem z4v {cs:List Int} (hs:z9j cs) (j:Nat):Fair cs (zy cs j) j:=by
 induction j with
 | zero=>exact ziw cs
 | succ j ih=>exact zj2 hs ih
theorem Fair.rng {cs ns:List Int} {j:Nat} (h:Fair cs ns j):∀ z ∈ ns,0<=z/\z<=(j:Int)+1:=by
 intro z hz
 obtain ⟨i,hi,rfl⟩:=List.getElem_of_mem hz;have:=h.bnd i
 simpa [List.getD_eq_getElem?_getD,List.getElem?_eq_getElem hi] using this
theorem zpi {x y:Int} (hx:0<=x/\x<=1000000) (hy:0<=y/\y<=65):0<=x*y/\x*y<=65000000:=by
 refine ⟨Int.mul_nonneg hx.1 hy.1,?_⟩;have h1:x*y<=1000000*y:=Int.mul_le_mul_of_nonneg_right hx.2 hy.1
 omega
theorem zdx (cs:List Int) (k:Nat) (h:k<cs.length) (hp:0<cs.getD k 0):(part (cs.map one) k).set k 1=part (cs.map one) (k+1):=by
 rw [<-z3d (cs.map one) k (by simpa using h)]
 congr 1
 have e:(cs.map one).getD k 0=one (cs.getD k 0):=by simp [List.getD_eq_getElem?_getD,List.getElem?_eq_getElem h]
 rw [e]
 simp only [one]
 rw [if_pos hp]
theorem zcb (cs:List Int) (k:Nat) (h:k<cs.length) (hp:¬0<cs.getD k 0):part (cs.map one) k=part (cs.map one) (k+1):=by
 rw [<-z3d (cs.map one) k (by simpa using h)]
 have e:(cs.map one).getD k 0=one (cs.getD k 0):=by simp [List.getD_eq_getElem?_getD,List.getElem?_eq_getElem h]
 rw [e];have e0:one (cs.getD k 0)=0:=by simp only [one];rw [if_neg hp]
 rw [e0]
 apply List.ext_getElem?
 intro i
 by_cases hik:i=k
 ·subst hik
  rw [List.getElem?_set_self (by rw [z2m _ _ (by simp;omega)];simpa using h),z5i _ _ _ (by simp;omega)]
  simp [h]
 ·rw [List.getElem?_set_ne (by omega)]
theorem zkc {zs:List Int} (h:z1y zs=true) (k:Nat) (hk:k<zs.length):0<=zs.getD k 0/\zs.getD k 0<=1000000:=by
 simp only [z1y,decide_eq_true_eq] at h
 exact h.2.2 _ (zp hk)
theorem zb0 {zs:List Int} (h:z1y zs=true):1<=zs.length/\zs.length<=80:=by
 simp only [z1y,decide_eq_true_eq] at h
 exact ⟨h.1,h.2.1⟩
theorem zep {B:Nat} {a b:World} (h:Below B a b) (n:Nat):Below B a (b.drewN n):=⟨h.os,h.tape,h.output,h.size,h.block⟩
def zch (cs:List Int):Prop:=1<=zf one cs/\zf one cs<=64
def rest (cs:List Int):Nat:=(64-zf one cs).toNat
end Go.Proofs.YtjmcjbmjgpponaaGreatDoor
