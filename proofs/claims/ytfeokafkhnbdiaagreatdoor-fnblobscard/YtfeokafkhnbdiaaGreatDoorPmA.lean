/- Lemmas on the way. -/
import Derived.Test.YtfeokafkhnbdiaaGreatDoorPcN
import Derived.Test.YtfeokafkhnbdiaaGreatDoorPcB
namespace Go.Proofs.YtfeokafkhnbdiaaGreatDoor
open Go.RowKit
set_option linter.unusedVariables false
def mrg :List Pc→List Pc→List Pc
 | [],b=>b
 | a :: ar,[]=>a :: ar
 | a :: ar,b :: br=>if a.wt≤b.wt then a :: mrg ar (b :: br) else b :: mrg (a :: ar) br
termination_by a b=>a.length+b.length
def insP (p:Pc):List Pc→List Pc
 | []=>[p]
 | q :: l=>if q.wt≤p.wt then q :: insP p l else p :: q :: l
def srt (zs:List Int):Nat→List Pc
 | 0=>[]
 | k+1=>if 0<zs.getD k 0 then insP (.coin k (zs.getD k 0).toNat) (srt zs k) else srt zs k
def rnd (S:List Pc):Nat→List Pc
 | 0=>[]
 | k+1=>mrg S (pairL (rnd S k) ((rnd S k).length / 2))
theorem insP_perm (p:Pc):∀ l,(insP p l).Perm (l++[p])
 | []=>List.Perm.refl _
 | q :: l=>by
  simp only [insP]
  split
  ·exact List.Perm.cons q (insP_perm p l)
  ·exact (List.perm_append_singleton p (q :: l)).symm
theorem mrg_perm :∀ a b,(mrg a b).Perm (a++b)
 | [],b=>by rw [mrg];exact List.Perm.refl _
 | a :: ar,[]=>by rw [mrg];simp
 | a :: ar,b :: br=>by
  rw [mrg]
  split
  ·exact List.Perm.cons a (mrg_perm ar (b :: br))
  ·exact (List.Perm.cons b (mrg_perm (a :: ar) br)).trans (List.perm_middle (a:=b) (l₁:=a :: ar) (l₂:=br)).symm
termination_by a b=>a.length+b.length
theorem srt_perm (zs:List Int):∀ k,(srt zs k).Perm (coinsL zs k)
 | 0=>List.Perm.refl _
 | k+1=>by
  simp only [srt,coinsL]
  split
  ·exact (insP_perm _ _).trans (List.Perm.append_right _ (srt_perm zs k))
  ·exact srt_perm zs k
def KS (l:List Pc):Prop:=l.Pairwise (fun p q=>p.key<q.key)
theorem key_of_wt {p q:Pc} (hq:q.plc<1024) (hp:p.plc<1024) (h:p.wt<q.wt):p.key<q.key:=by
 unfold Pc.key
 omega
theorem insP_KS {p:Pc} (hp:p.plc<1024):∀ {l:List Pc},KS l→(∀ q ∈ l,q.plc<p.plc)→KS (insP p l)
 | [],_,_=>by simp [insP,KS]
 | q :: l,h,hl=>by
  obtain ⟨h1,h2⟩:=List.pairwise_cons.1 h
  have hq:=hl q (by simp)
  simp only [insP]
  split
  ·rename_i hw
   refine List.pairwise_cons.2 ⟨fun r hr=>?_,insP_KS hp h2 (fun r hr=>hl r (by simp [hr]))⟩
   have hm:=(insP_perm p l).mem_iff.1 hr
   rcases List.mem_append.1 hm with hm | hm
   ·exact h1 r hm
   ·simp at hm
    subst hm
    unfold Pc.key
    omega
  ·rename_i hw
   have hlt:p.key<q.key:=key_of_wt (by omega) hp (by omega)
   refine List.pairwise_cons.2 ⟨fun r hr=>?_,h⟩
   rcases List.mem_cons.1 hr with rfl | hr
   ·exact hlt
   ·have:=h1 r hr
    omega
theorem srt_plc (zs:List Int):∀ k,∀ q ∈ srt zs k,q.plc<k
 | 0,q,h=>by simp [srt] at h
 | k+1,q,h=>by
  simp only [srt] at h
  split at h
  ·rcases List.mem_append.1 ((insP_perm _ _).mem_iff.1 h) with h | h
   ·have:=srt_plc zs k q h;omega
   ·simp at h;subst h;simp [Pc.plc]
  ·have:=srt_plc zs k q h;omega
theorem srt_KS (zs:List Int):∀ k,k≤80→KS (srt zs k)
 | 0,_=>List.Pairwise.nil
 | k+1,hk=>by
  simp only [srt]
  split
  ·exact insP_KS (by simp [Pc.plc];omega) (srt_KS zs k (by omega)) (fun q hq=>by have:=srt_plc zs k q hq;simpa [Pc.plc] using this)
  ·exact srt_KS zs k (by omega)
theorem mrg_KS :∀ {a b:List Pc},KS a→KS b→(∀ p ∈ a,p.plc<80)→(∀ q ∈ b,80≤q.plc∧q.plc<1024)→KS (mrg a b)
 | [],b,_,hb,_,_=>by rw [mrg];exact hb
 | a :: ar,[],ha,_,_,_=>by rw [mrg];exact ha
 | a :: ar,b :: br,ha,hb,h1,h2=>by
  obtain ⟨a1,a2⟩:=List.pairwise_cons.1 ha
  obtain ⟨b1,b2⟩:=List.pairwise_cons.1 hb
  have ha0:=h1 a (by simp)
  have hb0:=h2 b (by simp)
  rw [mrg]
  split
  ·rename_i hw
   have hab:a.key<b.key:=by unfold Pc.key;omega
   refine List.pairwise_cons.2 ⟨fun r hr=>?_,mrg_KS a2 hb (fun p hp=>h1 p (by simp [hp])) h2⟩
   rcases List.mem_append.1 ((mrg_perm _ _).mem_iff.1 hr) with hr | hr
   ·exact a1 r hr
   ·rcases List.mem_cons.1 hr with rfl | hr
    ·exact hab
    ·have:=b1 r hr;omega
  ·rename_i hw
   have hab:b.key<a.key:=by unfold Pc.key;omega
   refine List.pairwise_cons.2 ⟨fun r hr=>?_,mrg_KS ha b2 h1 (fun q hq=>h2 q (by simp [hq]))⟩
   rcases List.mem_append.1 ((mrg_perm _ _).mem_iff.1 hr) with hr | hr
   ·rcases List.mem_cons.1 hr with rfl | hr
    ·exact hab
    ·have:=a1 r hr;omega
   ·exact b1 r hr
termination_by a b=>a.length+b.length
theorem KS_only :∀ {l m:List Pc},KS l→m.Perm l→m.Pairwise (fun p q=>p.key≤q.key)→m=l
 | [],m,_,hp,_=>List.Perm.eq_nil hp
 | x :: l,[],_,hp,_=>absurd hp.length_eq (by simp)
 | x :: l,y :: m,h,hp,hm=>by
  obtain ⟨h1,h2⟩:=List.pairwise_cons.1 h
  obtain ⟨m1,m2⟩:=List.pairwise_cons.1 hm
  have hx:x ∈ y :: m:=hp.mem_iff.2 (by simp)
  have hy:y ∈ x :: l:=hp.mem_iff.1 (by simp)
  have e:x=y:=by
   rcases List.mem_cons.1 hy with hy | hy
   ·exact hy.symm
   ·have k1:=h1 y hy
    rcases List.mem_cons.1 hx with hx | hx
    ·exact hx
    ·have:=m1 x hx;omega
  subst e
  rw [KS_only h2 (List.Perm.cons_inv hp) m2]
theorem pairL_get (l:List Pc) (n i:Nat) (hi:i<n):(pairL l n).getD i dpc=.pack (l.getD (2*i) dpc) (l.getD (2*i+1) dpc) i:=by
 induction n with
 | zero=>omega
 | succ n ih=>
  simp only [pairL]
  rw [List.getD_eq_getElem?_getD]
  by_cases h:i<n
  ·rw [List.getElem?_append_left (by rw [pairL_len];exact h),←List.getD_eq_getElem?_getD]
   exact ih h
  ·have hin:i=n:=by omega
   subst hin
   rw [List.getElem?_append_right (by rw [pairL_len];exact Nat.le_refl _),pairL_len]
   simp
theorem pairL_mem {l:List Pc} {n:Nat} {p:Pc} (h:p ∈ pairL l n):∃ i,i<n∧p=.pack (l.getD (2*i) dpc) (l.getD (2*i+1) dpc) i:=by
 obtain ⟨i,hi,rfl⟩:=List.getElem_of_mem h
 have hin:i<n:=by rw [pairL_len] at hi;exact hi
 refine ⟨i,hin,?_⟩
 rw [←pairL_get l n i hin,List.getD_eq_getElem?_getD,List.getElem?_eq_getElem hi]
 rfl
theorem pairL_KS {l:List Pc} (h:KS l) (hp:∀ p ∈ l,p.plc<1024) (hl:l.length≤160):KS (pairL l (l.length / 2)):=by
 have hw:∀ i j,i<j→j<l.length→(l.getD i dpc).wt≤(l.getD j dpc).wt:=fun i j hij hj=>by
  have h1:=List.pairwise_iff_getElem.1 h i j (by omega) hj hij
  have e1:l.getD i dpc=l[i]:=by simp [List.getD_eq_getElem?_getD,show i<l.length by omega]
  have e2:l.getD j dpc=l[j]:=by simp [List.getD_eq_getElem?_getD,hj]
  have p1:=hp l[i] (List.getElem_mem _)
  have p2:=hp l[j] (List.getElem_mem _)
  rw [e1,e2]
  unfold Pc.key at h1
  omega
 refine List.pairwise_iff_getElem.2 fun i j hi hj hij=>?_
 rw [pairL_len] at hi hj
 have e1:=pairL_get l (l.length / 2) i hi
 have e2:=pairL_get l (l.length / 2) j hj
 rw [List.getD_eq_getElem?_getD,List.getElem?_eq_getElem (by rw [pairL_len];exact hi)] at e1
 rw [List.getD_eq_getElem?_getD,List.getElem?_eq_getElem (by rw [pairL_len];exact hj)] at e2
 simp only [Option.getD_some] at e1 e2
 rw [e1,e2]
 have w1:=hw (2*i) (2*j) (by omega) (by omega)
 have w2:=hw (2*i+1) (2*j+1) (by omega) (by omega)
 unfold Pc.key
 simp only [Pc.wt,Pc.plc]
 omega
theorem getD_memP2 {l:List Pc} {i:Nat} (h:i<l.length):l.getD i dpc ∈ l:=by
 rw [List.getD_eq_getElem?_getD,List.getElem?_eq_getElem h]
 exact List.getElem_mem _
theorem coinsL_mem (zs:List Int) (hz:∀ z ∈ zs,0≤z∧z≤1000000):∀ k,k≤zs.length→∀ p ∈ coinsL zs k,p.wt≤1000000∧p.plc<k∧p.ok k∧∃ s c,p=.coin s c
 | 0,_,p,h=>by simp [coinsL] at h
 | k+1,hk,p,h=>by
  have ih:=coinsL_mem zs hz k (by omega)
  have up:∀ p ∈ coinsL zs k,p.wt≤1000000∧p.plc<k+1∧p.ok (k+1)∧∃ s c,p=.coin s c:=fun p hp=>by
   obtain ⟨h1,h2,h3,s,c,rfl⟩:=ih p hp
   exact ⟨h1,by omega,⟨by have:=h3.1;omega,h3.2⟩,s,c,rfl⟩
  simp only [coinsL] at h
  split at h
  ·rename_i hp
   rcases List.mem_append.1 h with h | h
   ·exact up p h
   ·simp only [List.mem_singleton] at h
    subst h
    have:=hz _ (getD_mem (show k<zs.length by omega))
    exact ⟨by simp only [Pc.wt];omega,by simp [Pc.plc],⟨Nat.lt_succ_self _,by omega⟩,_,_,rfl⟩
  ·exact up p h
def coinsS (zs:List Int):List Pc:=srt zs zs.length
theorem coinsS_len (zs:List Int):(coinsS zs).length=(coinsL zs zs.length).length:=(srt_perm zs zs.length).length_eq
theorem coinsS_mem {zs:List Int} (hz:∀ z ∈ zs,0≤z∧z≤1000000):∀ p ∈ coinsS zs,p.wt≤1000000∧p.plc<zs.length∧p.ok zs.length∧∃ s c,p=.coin s c:=fun p hp=>coinsL_mem zs hz zs.length nl p ((srt_perm zs zs.length).mem_iff.1 hp)
theorem rnd_inv {zs:List Int} (hz:∀ z ∈ zs,0≤z∧z≤1000000) (hn:zs.length≤80):∀ k,KS (rnd (coinsS zs) k)∧(∀ p ∈ rnd (coinsS zs) k,p.wt≤1000000*2 ^ k∧p.plc<240∧p.ok zs.length)∧(rnd (coinsS zs) k).length≤2*(coinsS zs).length
 | 0=>⟨List.Pairwise.nil,by simp [rnd],by simp [rnd]⟩
 | k+1=>by
  obtain ⟨h1,h2,h3⟩:=rnd_inv hz hn k
  have hm:(coinsS zs).length≤80:=by rw [coinsS_len];have:=coinsL_len zs zs.length;omega
  have hpk:=pairL_KS h1 (fun p hp=>by have:=(h2 p hp).2.1;omega) (by omega)
  have hpm:∀ p ∈ pairL (rnd (coinsS zs) k) ((rnd (coinsS zs) k).length / 2),p.wt≤1000000*2 ^ (k+1)∧80≤p.plc∧p.plc<240∧p.ok zs.length:=fun p hp=>by
   obtain ⟨i,hi,rfl⟩:=pairL_mem hp
   obtain ⟨a1,a2,a3⟩:=h2 _ (getD_memP2 (show 2*i<(rnd (coinsS zs) k).length by omega))
   obtain ⟨b1,b2,b3⟩:=h2 _ (getD_memP2 (show 2*i+1<(rnd (coinsS zs) k).length by omega))
   refine ⟨?_,by simp only [Pc.plc];omega,by simp only [Pc.plc];omega,a3,b3⟩
   simp only [Pc.wt]
   rw [Nat.pow_succ]
   omega
  have h2p:1≤2 ^ (k+1):=Nat.one_le_two_pow
  refine ⟨mrg_KS (srt_KS zs zs.length hn) hpk (fun p hp=>by have:=(coinsS_mem hz p hp).2.1;omega) (fun p hp=>by have:=hpm p hp;omega),?_,?_⟩
  ·intro p hp
   rcases List.mem_append.1 ((mrg_perm _ _).mem_iff.1 hp) with hp | hp
   ·obtain ⟨c1,c2,c3,_⟩:=coinsS_mem hz p hp
    refine ⟨Nat.le_trans c1 ?_,by omega,c3⟩
    exact Nat.le_mul_of_pos_right _ (by omega)
   ·obtain ⟨c1,c2,c3,c4⟩:=hpm p hp
    exact ⟨c1,c3,c4⟩
  ·show (mrg _ _).length≤_
   rw [(mrg_perm _ _).length_eq,List.length_append,pairL_len]
   omega
theorem rnd_long (S:List Pc) (L:Nat) (h:S.length≤2 ^ L):∀ k,k≤L→2*S.length≤(rnd S (k+1)).length+2 ^ (L-k)
 | 0,_=>by
  show _≤(mrg _ _).length+_
  rw [(mrg_perm _ _).length_eq,List.length_append]
  simp only [Nat.sub_zero]
  omega
 | k+1,hk=>by
  have ih:=rnd_long S L h k (by omega)
  show _≤(mrg _ _).length+_
  rw [(mrg_perm _ _).length_eq,List.length_append,pairL_len]
  have e:2 ^ (L-k)=2*2 ^ (L-(k+1)):=by rw [show L-k=(L-(k+1))+1 by omega,Nat.pow_succ,Nat.mul_comm]
  omega
theorem rnd_enough (S:List Pc) (L:Nat) (hL:1≤L) (h:S.length≤2 ^ L):2*S.length-2≤(rnd S L).length:=by
 have:=rnd_long S L h (L-1) (by omega)
 rw [show L-1+1=L by omega,show L-(L-1)=1 by omega] at this
 omega
theorem rnd_round {zs:List Int} (hz:∀ z ∈ zs,0≤z∧z≤1000000) (hn:zs.length≤80) (k:Nat) {m:List Pc} (hp:m.Perm (coinsL zs zs.length++pairL (rnd (coinsS zs) k) ((rnd (coinsS zs) k).length / 2))) (hs:m.Pairwise (fun p q=>p.key≤q.key)):m=rnd (coinsS zs) (k+1):=
 KS_only (rnd_inv hz hn (k+1)).1 (hp.trans ((List.Perm.append_right _ (srt_perm zs zs.length).symm).trans (mrg_perm _ _).symm)) hs
def cntL :List Pc→List Int→List Int
 | [],zs=>zs
 | p :: l,zs=>cntL l (cntP p zs)
theorem cntL_snoc (l:List Pc) (p:Pc):∀ zs,cntL (l++[p]) zs=cntP p (cntL l zs):=by
 induction l with
 | nil=>intro zs;rfl
 | cons q l ih=>intro zs;exact ih _
theorem cntL_len (l:List Pc):∀ zs,(cntL l zs).length=zs.length:=by
 induction l with
 | nil=>intro zs;rfl
 | cons q l ih=>intro zs;rw [cntL,ih,cntP_len]
def lensOkB (zs:List Int) (x:Int):Prop:=cntB zs=true∧1≤x∧x≤12∧1≤(coinsS zs).length∧(coinsS zs).length≤2 ^ x.toNat
def lensV (zs:List Int) (L:Nat):List Int:=if (coinsS zs).length=1 then cntP ((coinsS zs).getD 0 dpc) (List.replicate zs.length 0) else cntL ((rnd (coinsS zs) L).take (2*(coinsS zs).length-2)) (List.replicate zs.length 0)
theorem lensV_len (zs:List Int) (L:Nat):(lensV zs L).length=zs.length:=by
 unfold lensV
 split
 ·rw [cntP_len];simp
 ·rw [cntL_len];simp
set_option linter.unusedSimpArgs false
def tot (f:Pc→Nat) (l:List Pc):Nat:=(l.map f).sum
theorem tot_app (f:Pc→Nat) (l m:List Pc):tot f (l++m)=tot f l+tot f m:=by simp [tot]
theorem tot_cons (f:Pc→Nat) (p:Pc) (l:List Pc):tot f (p :: l)=f p+tot f l:=by simp [tot]
theorem tot_perm (f:Pc→Nat) {l m:List Pc} (h:l.Perm m):tot f l=tot f m:=(h.map f).sum_nat
def Addv (f:Pc→Nat):Prop:=∀ a b n,f (.pack a b n)=f a+f b
def occ (s:Nat):Pc→Nat
 | .coin t c=>if t=s then 1 else 0
 | .pack a b n=>occ s a+occ s b
theorem occ_add (s:Nat):Addv (occ s):=fun _ _ _=>rfl
theorem wt_add :Addv Pc.wt:=fun _ _ _=>rfl
def WS (l:List Pc):Prop:=l.Pairwise (fun p q=>p.wt≤q.wt)
theorem WS_of_KS {l:List Pc} (h:KS l) (hp:∀ p ∈ l,p.plc<1024):WS l:=by
 refine List.pairwise_iff_getElem.2 fun i j hi hj hij=>?_
 have h1:=List.pairwise_iff_getElem.1 h i j hi hj hij
 have p1:=hp l[i] (List.getElem_mem _)
 have p2:=hp l[j] (List.getElem_mem _)
 unfold Pc.key at h1
 omega
theorem mrg_take :∀ (a b:List Pc) (m:Nat),WS a→m≤a.length+b.length→∃ c p,c+p=m∧c≤a.length∧p≤b.length∧((mrg a b).take m).Perm (a.take c++b.take p)∧∀ x ∈ a.drop c,∀ y ∈ b.take p,y.wt<x.wt
 | [],b,m,_,hm=>⟨0,m,by omega,by simp,by simpa using hm,by rw [mrg];simp,by simp⟩
 | a :: ar,[],m,_,hm=>⟨m,0,by omega,by simpa using hm,by simp,by rw [mrg];simp,by simp⟩
 | a :: ar,b :: br,0,_,_=>⟨0,0,rfl,by simp,by simp,by simp,by simp⟩
 | a :: ar,b :: br,m+1,hw,hm=>by
  obtain ⟨h1,h2⟩:=List.pairwise_cons.1 hw
  rw [mrg]
  split
  ·obtain ⟨c,p,e,hc,hp,hP,hx⟩:=mrg_take ar (b :: br) m h2 (by simp at hm ⊢;omega)
   refine ⟨c+1,p,by omega,by simp;omega,hp,?_,by simpa using hx⟩
   simpa using List.Perm.cons a hP
  ·rename_i hlt
   obtain ⟨c,p,e,hc,hp,hP,hx⟩:=mrg_take (a :: ar) br m hw (by simp at hm ⊢;omega)
   refine ⟨c,p+1,by omega,hc,by simp;omega,?_,?_⟩
   ·simp only [List.take_succ_cons]
    exact (List.Perm.cons b hP).trans List.perm_middle.symm
   ·intro x hxm y hy
    simp only [List.take_succ_cons,List.mem_cons] at hy
    rcases hy with rfl | hy
    ·rcases List.mem_cons.1 (List.mem_of_mem_drop hxm) with rfl | hx'
     ·omega
     ·have:=h1 x hx';omega
    ·exact hx x hxm y hy
termination_by a b=>a.length+b.length
theorem pairL_take (l:List Pc) (p:Nat):∀ k,p≤k→(pairL l k).take p=pairL l p
 | 0, h => by obtain rfl : p = 0 := by omega
              rfl
 | k+1,h=>by
  by_cases hk:p≤k
  ·simp only [pairL]
   rw [List.take_append_of_le_length (by rw [pairL_len];exact hk)]
   exact pairL_take l p k hk
  ·obtain rfl:p=k+1:=by omega
   rw [List.take_of_length_le (by rw [pairL_len];exact Nat.le_refl _)]
theorem tot_pair {f:Pc→Nat} (hf:Addv f) (l:List Pc):∀ p,2*p≤l.length→tot f (pairL l p)=tot f (l.take (2*p))
 | 0,_=>by simp [pairL,tot]
 | p+1,h=>by
  have ih:=tot_pair hf l p (by omega)
  rw [show 2*(p+1)=2*p+1+1 by omega,List.take_succ_eq_append_getElem (by omega),List.take_succ_eq_append_getElem (by omega)]
  simp only [pairL,tot_app,tot_cons]
  rw [ih,hf,List.getD_eq_getElem?_getD,List.getElem?_eq_getElem (by omega),List.getD_eq_getElem?_getD,List.getElem?_eq_getElem (by omega)]
  simp [tot]
  omega
def lam (cs:List Nat) (k:Nat):Nat:=cs.countP (fun c=>decide (k<c))
def pmv :List Nat→Nat
 | []=>0
 | c :: cs=>c*2 ^ cs.length+pmv cs
theorem chain {S:List Pc} (hS:WS S):∀ (r m:Nat),m≤(rnd S r).length→∃ cs:List Nat,cs.length=r∧(∀ c ∈ cs,c≤S.length)∧cs.Pairwise (fun c d=>d≤c)∧(∀ f,Addv f→tot f ((rnd S r).take m)=(cs.map (fun c=>tot f (S.take c))).sum)∧2*pmv cs=m*2 ^ r∧∀ c ∈ cs,∀ x ∈ S.take c,∃ y ∈ (rnd S r).take m,x.wt≤y.wt
 | 0,m,hm=>⟨[],rfl,by simp,.nil,fun f hf=>by simp [rnd,tot],by simp [rnd] at hm;simp [pmv,hm],by simp⟩
 | r+1,m,hm=>by
  have hlen:(rnd S (r+1)).length=S.length+(rnd S r).length / 2:=by
   show (mrg _ _).length=_
   rw [(mrg_perm _ _).length_eq,List.length_append,pairL_len]
  obtain ⟨c,p,e,hc,hp,hP,hx⟩:=mrg_take S (pairL (rnd S r) ((rnd S r).length / 2)) m hS (by rw [pairL_len];omega)
  rw [pairL_len] at hp
  rw [pairL_take _ _ _ hp] at hP hx
  obtain ⟨cs,h1,h2,h3,h4,h5,h6⟩:=chain hS r (2*p) (by omega)
  have hpk:∀ y ∈ (rnd S r).take (2*p),∃ z ∈ pairL (rnd S r) p,y.wt≤z.wt:=fun y hy=>by
   obtain ⟨i,hi,rfl⟩:=List.getElem_of_mem hy
   rw [List.length_take] at hi
   rw [List.getElem_take]
   have hg:=pairL_get (rnd S r) p (i / 2) (by omega)
   refine ⟨(pairL (rnd S r) p).getD (i / 2) dpc,?_,?_⟩
   ·rw [List.getD_eq_getElem?_getD,List.getElem?_eq_getElem (by rw [pairL_len];omega)]
    exact List.getElem_mem _
   ·rw [hg]
    simp only [Pc.wt]
    have g:∀ j,(hj:j<(rnd S r).length)→(rnd S r).getD j dpc=(rnd S r)[j]:=fun j hj=>by rw [List.getD_eq_getElem?_getD,List.getElem?_eq_getElem hj];rfl
    rcases Nat.mod_two_eq_zero_or_one i with hm | hm
    ·rw [g (2*(i / 2)) (by omega)]
     simp only [show 2*(i / 2)=i by omega]
     omega
    ·rw [g (2*(i / 2)+1) (by omega)]
     simp only [show 2*(i / 2)+1=i by omega]
     omega
  have hnest:∀ d ∈ cs,d≤c:=fun d hd=>by
   rcases Nat.lt_or_ge c d with hlt | hge
   ·have hdS:=h2 d hd
    have hcS:c<S.length:=by omega
    have m1:S[c] ∈ S.take d:=List.mem_iff_getElem.2 ⟨c,by rw [List.length_take];omega,by simp⟩
    have m2:S[c] ∈ S.drop c:=List.mem_iff_getElem.2 ⟨0,by rw [List.length_drop];omega,by simp⟩
    obtain ⟨y,hy,hw⟩:=h6 d hd _ m1
    obtain ⟨z,hz,hw2⟩:=hpk y hy
    have:=hx _ m2 z hz
    omega
   ·exact hge
  refine ⟨c :: cs,by simp [h1],?_,List.pairwise_cons.2 ⟨hnest,h3⟩,fun f hf=>?_,?_,?_⟩
  ·intro d hd
   rcases List.mem_cons.1 hd with rfl | hd
   ·exact hc
   ·exact h2 d hd
  ·show tot f ((mrg _ _).take m)=_
   rw [tot_perm f hP,tot_app,tot_pair hf _ _ (by omega),h4 f hf]
   simp
  ·simp only [pmv]
   rw [h1,Nat.mul_add,h5,←e,Nat.pow_succ]
   generalize 2 ^ r=z
   have e1:2*(c*z)=c*(z*2):=by rw [Nat.mul_left_comm,Nat.mul_comm 2 z]
   have e2:2*p*z=p*(z*2):=by rw [Nat.mul_comm 2 p,Nat.mul_assoc,Nat.mul_comm 2 z]
   rw [e1,e2,←Nat.add_mul]
  ·intro d hd x hxm
   rcases List.mem_cons.1 hd with rfl | hd
   ·exact ⟨x,hP.mem_iff.2 (List.mem_append_left _ hxm),Nat.le_refl _⟩
   ·obtain ⟨y,hy,hw⟩:=h6 d hd x hxm
    obtain ⟨z,hz,hw2⟩:=hpk y hy
    exact ⟨z,hP.mem_iff.2 (List.mem_append_right _ hz),by omega⟩
theorem sum_nought {l:List Nat} (h:∀ z ∈ l,z=0):l.sum=0:=by
 induction l with
 | nil=>rfl
 | cons x l ih=>rw [List.sum_cons,h x (by simp),ih (fun z hz=>h z (by simp [hz]))]
def sumN (g:Nat→Nat):Nat→Nat
 | 0=>0
 | n+1=>sumN g n+g n
theorem sumN_congr {g h:Nat→Nat}:∀ {n:Nat},(∀ k,k<n→g k=h k)→sumN g n=sumN h n
 | 0,_=>rfl
 | n+1,e=>by rw [sumN,sumN,sumN_congr (fun k hk=>e k (by omega)),e n (by omega)]
theorem sumN_add (g h:Nat→Nat):∀ n,sumN (fun k=>g k+h k) n=sumN g n+sumN h n
 | 0=>rfl
 | n+1=>by simp only [sumN];rw [sumN_add g h n];omega
theorem sumN_mul (A:Nat) (g:Nat→Nat):∀ n,sumN (fun k=>A*g k) n=A*sumN g n
 | 0=>rfl
 | n+1=>by simp only [sumN];rw [sumN_mul A g n,Nat.mul_add]
theorem sumN_const (A:Nat):∀ n,sumN (fun _=>A) n=n*A
 | 0=>by simp [sumN]
 | n+1=>by simp only [sumN];rw [sumN_const A n,Nat.add_mul,Nat.one_mul]
theorem sumN_ite (A c:Nat):∀ n,sumN (fun k=>if k<c then A else 0) n=min c n*A
 | 0=>by simp [sumN]
 | n+1=>by
  simp only [sumN]
  rw [sumN_ite A c n]
  split
  ·rw [show min c (n+1)=n+1 by omega,show min c n=n by omega,Nat.add_mul,Nat.one_mul]
  ·rw [show min c (n+1)=min c n by omega];rfl
theorem sumN_ge {g:Nat→Nat} (h1:∀ k,1≤g k):∀ (n i:Nat),i<n→g i+(n-1)≤sumN g n
 | 0,i,h=>by omega
 | n+1,i,h=>by
  simp only [sumN]
  by_cases e:i=n
  ·subst e
   have:i≤sumN g i:=by
    clear h
    induction i with
    | zero=>exact Nat.zero_le _
    | succ j ih=>simp only [sumN];have:=h1 j;omega
   omega
  ·have:=sumN_ge h1 n i (by omega)
   have:=h1 n
   omega
theorem lam_zero {cs:List Nat} {k:Nat} (h:∀ c ∈ cs,c≤k):lam cs k=0:=by
 unfold lam
 rw [List.countP_eq_zero]
 intro c hc
 have:=h c hc
 simp;omega
theorem lam_le (cs:List Nat) (k:Nat):lam cs k≤cs.length:=List.countP_le_length
theorem lam_mono (cs:List Nat) {k l:Nat} (h:k≤l):lam cs l≤lam cs k:=by
 unfold lam
 refine List.countP_mono_left fun c _ hc=>?_
 simp at hc ⊢
 omega
theorem lam_cons (c:Nat) (cs:List Nat) (k:Nat):lam (c :: cs) k=lam cs k+if k<c then 1 else 0:=by
 unfold lam
 rw [List.countP_cons]
 simp
theorem kraft (n:Nat):∀ cs:List Nat,cs.Pairwise (fun c d=>d≤c)→(∀ c ∈ cs,c≤n)→sumN (fun k=>2 ^ (cs.length-lam cs k)) n+pmv cs=n*2 ^ cs.length
 | [],_,_=>by
  simp only [pmv,lam,List.countP_nil,List.length_nil,Nat.sub_self,Nat.pow_zero,Nat.mul_one,Nat.add_zero]
  rw [sumN_const];omega
 | c :: cs,hp,hn=>by
  obtain ⟨h1,h2⟩:=List.pairwise_cons.1 hp
  have ih:=kraft n cs h2 (fun d hd=>hn d (by simp [hd]))
  have hc:=hn c (by simp)
  have e:sumN (fun k=>2 ^ ((c :: cs).length-lam (c :: cs) k)) n+sumN (fun k=>if k<c then 2 ^ cs.length else 0) n=sumN (fun k=>2 ^ (cs.length-lam cs k)) n+sumN (fun _=>2 ^ cs.length) n:=by
   rw [←sumN_add,←sumN_add]
   refine sumN_congr fun k hk=>?_
   rw [lam_cons]
   have hl:=lam_le cs k
   simp only [List.length_cons]
   by_cases hkc:k<c
   ·simp only [hkc,if_true]
    rw [show cs.length+1-(lam cs k+1)=cs.length-lam cs k by omega]
   ·simp only [hkc,if_false]
    rw [lam_zero (fun d hd=>by have:=h1 d hd;omega)]
    simp only [Nat.add_zero,Nat.sub_zero,Nat.pow_succ]
    omega
  rw [sumN_ite,sumN_const,show min c n=c by omega] at e
  simp only [pmv,List.length_cons,Nat.pow_succ]
  simp only [List.length_cons] at e
  generalize 2 ^ cs.length=z at *
  rw [Nat.mul_comm z 2,Nat.mul_left_comm,Nat.two_mul]
  omega
def Cns (S:List Pc):Prop:=S.Pairwise (fun p q=>p.plc≠q.plc)∧∀ p ∈ S,∃ s c,p=.coin s c
theorem tot_occ :∀ {S:List Pc},Cns S→∀ (k:Nat) (hk:k<S.length) (c:Nat),tot (occ S[k].plc) (S.take c)=if k<c then 1 else 0
 | [],_,k,hk,_=>by simp at hk
 | x :: S,h,k,hk,0=>by simp [tot]
 | x :: S,h,k,hk,c+1=>by
  obtain ⟨h1,h2⟩:=h
  obtain ⟨p1,p2⟩:=List.pairwise_cons.1 h1
  have hS:Cns S:=⟨p2,fun p hp=>h2 p (by simp [hp])⟩
  obtain ⟨s,w,rfl⟩:=h2 x (by simp)
  simp only [List.take_succ_cons,tot_cons]
  cases k with
  | zero=>
   simp only [List.getElem_cons_zero,Pc.plc,occ,if_true]
   have:tot (occ s) (S.take c)=0:=by
    unfold tot
    refine sum_nought ?_
    intro z hz
    obtain ⟨q,hq,rfl⟩:=List.mem_map.1 hz
    have hq:=List.mem_of_mem_take hq
    obtain ⟨t,v,rfl⟩:=hS.2 q hq
    have:=p1 _ hq
    simp only [Pc.plc] at this
    simp only [occ]
    rw [if_neg (by omega)]
   rw [this]
   simp
  | succ k=>
   simp only [List.getElem_cons_succ]
   have hk':k<S.length:=by simpa using hk
   have ih:=tot_occ hS k hk' c
   have hne:s≠S[k].plc:=p1 _ (List.getElem_mem hk')
   rw [ih]
   simp only [occ]
   rw [if_neg hne]
   by_cases hkc:k<c
   ·rw [if_pos hkc,if_pos (by omega)]
   ·rw [if_neg hkc,if_neg (by omega)]
theorem tot_occ_no {S:List Pc} (h:Cns S) {s:Nat} (hs:∀ p ∈ S,p.plc≠s) (c:Nat):tot (occ s) (S.take c)=0:=by
 unfold tot
 refine sum_nought ?_
 intro z hz
 obtain ⟨q,hq,rfl⟩:=List.mem_map.1 hz
 have hq:=List.mem_of_mem_take hq
 obtain ⟨t,v,rfl⟩:=h.2 q hq
 have:=hs _ hq
 simp only [Pc.plc] at this
 simp only [occ]
 rw [if_neg (by omega)]
theorem sum_lam {S:List Pc} (h:Cns S) (k:Nat) (hk:k<S.length):∀ cs:List Nat,(cs.map (fun c=>tot (occ S[k].plc) (S.take c))).sum=lam cs k
 | []=>rfl
 | c :: cs=>by
  rw [lam_cons,List.map_cons,List.sum_cons,sum_lam h k hk cs,tot_occ h k hk]
  omega
theorem taken {S:List Pc} (hS:WS S) (hC:Cns S) (hn:2≤S.length) {L:Nat} (hL:1≤L) (h2:S.length≤2 ^ L):∃ cs:List Nat,cs.length=L∧(∀ k (hk:k<S.length),tot (occ S[k].plc) ((rnd S L).take (2*S.length-2))=lam cs k)∧(∀ s,(∀ p ∈ S,p.plc≠s)→tot (occ s) ((rnd S L).take (2*S.length-2))=0)∧tot Pc.wt ((rnd S L).take (2*S.length-2))=(cs.map (fun c=>tot Pc.wt (S.take c))).sum∧(∀ c ∈ cs,c≤S.length)∧sumN (fun k=>2 ^ (L-lam cs k)) S.length=2 ^ L∧∀ k,k<S.length→1≤lam cs k:=by
 obtain ⟨cs,h1,hc,h3,h4,h5,-⟩:=chain hS L (2*S.length-2) (rnd_enough S L hL h2)
 have hK:=kraft S.length cs h3 hc
 rw [h1] at hK
 have hV:sumN (fun k=>2 ^ (L-lam cs k)) S.length=2 ^ L:=by
  generalize sumN (fun k=>2 ^ (L-lam cs k)) S.length=q at *
  generalize 2 ^ L=z at *
  obtain ⟨m,hm⟩:∃ m,S.length=m+1:=⟨S.length-1,by omega⟩
  rw [hm] at hK h5
  rw [show 2*(m+1)-2=2*m by omega,Nat.mul_assoc] at h5
  rw [Nat.add_mul,Nat.one_mul] at hK
  omega
 refine ⟨cs,h1,fun k hk=>?_,fun s hs=>?_,h4 _ wt_add,hc,hV,fun k hk=>?_⟩
 ·rw [h4 _ (occ_add _),sum_lam hC k hk]
 ·rw [h4 _ (occ_add _)]
  refine sum_nought ?_
  intro z hz
  obtain ⟨c,_,rfl⟩:=List.mem_map.1 hz
  exact tot_occ_no hC hs c
 ·rcases Nat.lt_or_ge 0 (lam cs k) with h | h
  ·exact h
  ·have h0:lam cs k=0:=by omega
   have:=sumN_ge (g:=fun k=>2 ^ (L-lam cs k)) (fun k=>Nat.one_le_two_pow) S.length k hk
   rw [hV] at this
   simp only [h0,Nat.sub_zero] at this
   omega
theorem coinsL_plc (zs:List Int):∀ k,∀ p ∈ coinsL zs k,∃ s,s<k∧0<zs.getD s 0∧p=.coin s (zs.getD s 0).toNat
 | 0,p,h=>by simp [coinsL] at h
 | k+1,p,h=>by
  simp only [coinsL] at h
  split at h
  ·rename_i hz
   rcases List.mem_append.1 h with h | h
   ·obtain ⟨s,h1,h2⟩:=coinsL_plc zs k p h
    exact ⟨s,by omega,h2⟩
   ·exact ⟨k,by omega,hz,by simpa using h⟩
  ·obtain ⟨s,h1,h2⟩:=coinsL_plc zs k p h
   exact ⟨s,by omega,h2⟩
theorem coinsL_pw (zs:List Int):∀ k,(coinsL zs k).Pairwise (fun p q=>p.plc≠q.plc)
 | 0=>.nil
 | k+1=>by
  simp only [coinsL]
  split
  ·refine List.pairwise_append.2 ⟨coinsL_pw zs k,by simp,fun p hp q hq=>?_⟩
   obtain ⟨s,h1,_,rfl⟩:=coinsL_plc zs k p hp
   simp at hq
   subst hq
   show s≠k
   omega
  ·exact coinsL_pw zs k
theorem coinsL_has (zs:List Int):∀ k s,s<k→0<zs.getD s 0→.coin s (zs.getD s 0).toNat ∈ coinsL zs k
 | 0,s,h,_=>by omega
 | k+1,s,h,hz=>by
  simp only [coinsL]
  by_cases e:s=k
  ·subst e
   rw [if_pos hz]
   simp
  ·have:=coinsL_has zs k s (by omega) hz
   split
   ·exact List.mem_append_left _ this
   ·exact this
theorem coinsS_Cns (zs:List Int):Cns (coinsS zs):=by
 have hp:=srt_perm zs zs.length
 refine ⟨(hp.pairwise_iff (R:=fun p q=>p.plc≠q.plc) (fun h=>Ne.symm h)).2 (coinsL_pw zs _),fun p h=>?_⟩
 obtain ⟨s,_,_,e⟩:=coinsL_plc zs _ p (hp.mem_iff.1 h)
 exact ⟨s,_,e⟩
theorem coinsS_WS {zs:List Int} (hn:zs.length≤80):WS (coinsS zs):=
 WS_of_KS (srt_KS zs _ hn) (fun p hp=>by have:=srt_plc zs _ p hp;omega)
theorem coinsS_at (zs:List Int) (k:Nat) (hk:k<(coinsS zs).length):∃ s,s<zs.length∧0<zs.getD s 0∧(coinsS zs)[k]=.coin s (zs.getD s 0).toNat:=
 coinsL_plc zs _ _ ((srt_perm zs zs.length).mem_iff.1 (List.getElem_mem hk))
theorem coinsS_has (zs:List Int) (s:Nat) (hs:s<zs.length) (hz:0<zs.getD s 0):∃ k,∃ h:k<(coinsS zs).length,(coinsS zs)[k]=.coin s (zs.getD s 0).toNat:=by
 obtain ⟨k,hk,e⟩:=List.getElem_of_mem ((srt_perm zs zs.length).mem_iff.2 (coinsL_has zs _ s hs hz))
 exact ⟨k,hk,e⟩
theorem bump_get (zs:List Int) (t s:Nat) (ht:t<zs.length):(bump zs (t:Int)).getD s 0=zs.getD s 0+if t=s then 1 else 0:=by
 unfold bump
 rw [Int.toNat_natCast]
 simp only [List.getD_eq_getElem?_getD,List.getElem?_set]
 by_cases h:t=s
 ·subst h
  simp [ht]
 ·simp [h]
theorem cntP_get (s:Nat) (p:Pc):∀ zs:List Int,p.ok zs.length→(cntP p zs).getD s 0=zs.getD s 0+(occ s p:Nat):=by
 induction p with
 | coin t c=>
  intro zs h
  simp only [cntP,occ]
  rw [bump_get zs t s h.1]
  split <;> simp
 | pack a b n iha ihb=>
  intro zs h
  simp only [cntP,occ]
  rw [ihb _ (by rw [cntP_len];exact h.2),iha _ h.1]
  simp
  omega
theorem cntL_get (s:Nat):∀ (l:List Pc) (zs:List Int),(∀ p ∈ l,p.ok zs.length)→(cntL l zs).getD s 0=zs.getD s 0+(tot (occ s) l:Nat)
 | [],zs,_=>by simp [cntL,tot]
 | p :: l,zs,h=>by
  rw [cntL,cntL_get s l _ (fun q hq=>by rw [cntP_len];exact h q (by simp [hq])),cntP_get s p zs (h p (by simp)),tot_cons]
  simp
  omega
theorem noughts_get (n s:Nat):(List.replicate n (0:Int)).getD s 0=0:=by
 rw [List.getD_eq_getElem?_getD]
 by_cases h:s<n
 ·simp [h]
 ·simp [h]
structure LF (zs ls:List Int) (L:Nat) (lm:Nat→Nat):Prop where
 len:ls.length=zs.length
 at_:∀ k (hk:k<(coinsS zs).length),ls.getD (coinsS zs)[k].plc 0=(lm k:Nat)
 no:∀ s,¬0<zs.getD s 0→ls.getD s 0=0
 pos:∀ k,k<(coinsS zs).length→1≤lm k
 le:∀ k,lm k≤L
 mono:∀ k l,k≤l→lm l≤lm k
 full:2≤(coinsS zs).length→sumN (fun k=>2 ^ (L-lm k)) (coinsS zs).length=2 ^ L
 sole:(coinsS zs).length=1→lm 0=1
theorem sumN_take (w:Nat→Nat):∀ c n,c≤n→sumN (fun k=>if k<c then w k else 0) n=sumN w c
 | c, 0, h => by obtain rfl : c = 0 := by omega
                 rfl
 | c,n+1,h=>by
  by_cases e:c=n+1
  ·subst e
   exact sumN_congr fun k hk=>if_pos hk
  ·simp only [sumN]
   rw [sumN_take w c n (by omega),if_neg (by omega)]
   rfl
theorem tot_sumN (f:Pc→Nat) (d:Pc):∀ (S:List Pc) (c:Nat),c≤S.length→tot f (S.take c)=sumN (fun k=>f (S.getD k d)) c
 | S,0,_=>by simp [tot,sumN]
 | S,c+1,h=>by
  rw [List.take_succ_eq_append_getElem (by omega),tot_app,tot_sumN f d S c (by omega)]
  simp only [sumN]
  rw [List.getD_eq_getElem?_getD (i:=c),List.getElem?_eq_getElem (by omega)]
  simp [tot]
theorem lam_cost (S:List Pc):∀ cs:List Nat,(∀ c ∈ cs,c≤S.length)→(cs.map (fun c=>tot Pc.wt (S.take c))).sum=sumN (fun k=>(S.getD k dpc).wt*lam cs k) S.length
 | [],_=>by
  simp only [List.map_nil,List.sum_nil,lam,List.countP_nil,Nat.mul_zero]
  rw [sumN_const];simp
 | c :: cs,h=>by
  rw [List.map_cons,List.sum_cons,lam_cost S cs (fun d hd=>h d (by simp [hd])),tot_sumN _ dpc S c (h c (by simp)),←sumN_take _ c S.length (h c (by simp)),←sumN_add]
  refine sumN_congr fun k hk=>?_
  rw [lam_cons,Nat.mul_add]
  by_cases hkc:k<c <;> simp [hkc] <;> omega
theorem lens_facts {zs:List Int} (hc:cntB zs=true) {L:Nat} (hL:1≤L) (h1:1≤(coinsS zs).length) (h2:(coinsS zs).length≤2 ^ L):∃ lm:Nat→Nat,LF zs (lensV zs L) L lm∧(2≤(coinsS zs).length→tot Pc.wt ((rnd (coinsS zs) L).take (2*(coinsS zs).length-2))=sumN (fun k=>((coinsS zs).getD k dpc).wt*lm k) (coinsS zs).length):=by
 simp only [cntB,decide_eq_true_eq] at hc
 obtain ⟨hl1,hl2,hz⟩:=hc
 by_cases hn:(coinsS zs).length=1
 ·obtain ⟨p,hp⟩:∃ p,coinsS zs=[p]:=List.length_eq_one_iff.1 hn
  obtain ⟨s,hs,hzs,he⟩:=coinsS_at zs 0 (by omega)
  have hp0:p=.coin s (zs.getD s 0).toNat:=by rw [←he];simp [hp]
  have hv:lensV zs L=cntP p (List.replicate zs.length 0):=by unfold lensV;rw [if_pos hn,hp];rfl
  have hok:p.ok (List.replicate zs.length (0:Int)).length:=by rw [hp0];exact ⟨by simpa using hs,by omega⟩
  refine ⟨fun _=>1,⟨lensV_len zs L,fun k hk=>?_,fun t ht=>?_,fun _ _=>Nat.le_refl _,fun _=>hL,fun _ _ _=>Nat.le_refl _,fun h=>by omega,fun _=>rfl⟩,fun h=>by omega⟩
  ·have hk0:k=0:=by omega
   subst hk0
   have e:(coinsS zs)[0].plc=s:=by rw [he];rfl
   rw [e,hv,cntP_get _ _ _ hok,noughts_get,hp0]
   simp [occ]
  ·rw [hv,cntP_get _ _ _ hok,noughts_get,hp0]
   simp only [occ]
   rw [if_neg (by intro e;rw [e] at hzs;exact ht hzs)]
   rfl
 ·have hn2:2≤(coinsS zs).length:=by omega
  obtain ⟨cs,c1,c2,c3,c4,c5,c6,c7⟩:=taken (coinsS_WS hl2) (coinsS_Cns zs) hn2 hL h2
  have hok:∀ p ∈ (rnd (coinsS zs) L).take (2*(coinsS zs).length-2),p.ok (List.replicate zs.length (0:Int)).length:=fun p hp=>by
   rw [List.length_replicate]
   exact ((rnd_inv hz hl2 L).2.1 p (List.mem_of_mem_take hp)).2.2
  have hv:∀ s,(lensV zs L).getD s 0=(tot (occ s) ((rnd (coinsS zs) L).take (2*(coinsS zs).length-2)):Nat):=fun s=>by
   unfold lensV
   rw [if_neg hn,cntL_get s _ _ hok,noughts_get]
   simp
  refine ⟨lam cs,⟨lensV_len zs L,fun k hk=>by rw [hv,c2 k hk],fun t ht=>?_,c7,fun k=>by rw [←c1];exact lam_le cs k,fun k l h=>lam_mono cs h,fun _=>c6,fun h=>by omega⟩,fun _=>?_⟩
  ·rw [hv,c3 t ?_]
   ·rfl
   ·intro p hp e
    obtain ⟨k,hk,rfl⟩:=List.getElem_of_mem hp
    obtain ⟨s,hs,hzs,he⟩:=coinsS_at zs k hk
    rw [he] at e
    have:s=t:=e
    rw [this] at hzs
    exact ht hzs
  ·rw [c4,lam_cost _ _ c5]
end Go.Proofs.YtfeokafkhnbdiaaGreatDoor
