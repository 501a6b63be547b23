import Derived.Test.YtjmcjbmjgpponaaGreatDoorPcU
import Derived.LaidEql
import Derived.Stop.Asserts
import Derived.RowKitTokens
set_option maxRecDepth 20000
set_option maxHeartbeats 16000000
namespace Go.Proofs.YtjmcjbmjgpponaaGreatDoor
open Go.RowKit
set_option linter.unusedVariables false
set_option linter.unusedSimpArgs false
def tot (f:Pc->Nat) (l:List Pc):Nat:=(l.map f).sum
theorem z38 (f:Pc->Nat) (l m:List Pc):tot f (l++m)=tot f l+tot f m:=by simp [tot]
theorem z1b (f:Pc->Nat) (p:Pc) (l:List Pc):tot f (p :: l)=f p+tot f l:=by simp [tot]
theorem zdd (f:Pc->Nat) {l m:List Pc} (h:l.Perm m):tot f l=tot f m:=(h.map f).sum_nat
def zga (f:Pc->Nat):Prop:=∀ a b n,f (.pack a b n)=f a+f b
def occ (s:Nat):Pc->Nat
 | .coin t c=>if t=s then 1 else 0
 | .pack a b n=>occ s a+occ s b
theorem zg7 (s:Nat):zga (occ s):=fun _ _ _=>rfl
theorem zjr :zga Pc.wt:=fun _ _ _=>rfl
def WS (l:List Pc):Prop:=l.Pairwise (fun p q=>p.wt<=q.wt)
theorem zm2 {l:List Pc} (h:KS l) (hp:∀ p ∈ l,p.plc<1024):WS l:=by
 refine List.pairwise_iff_getElem.2 fun i j hi hj hij=>?_
 have h1:=List.pairwise_iff_getElem.1 h i j hi hj hij;have p1:=hp l[i] (List.getElem_mem _);have p2:=hp l[j] (List.getElem_mem _);unfold Pc.key at h1
 omega
theorem z7u :∀ (a b:List Pc) (m:Nat),WS a->m<=a.length+b.length->∃ c p,c+p=m/\c<=a.length/\p<=b.length/\((mrg a b).take m).Perm (a.take c++b.take p)/\∀ x ∈ a.drop c,∀ y ∈ b.take p,y.wt<x.wt
 | [],b,m,_,hm=>⟨0,m,by omega,by simp,by simpa using hm,by rw [mrg];simp,by simp⟩
 | a :: ar,[],m,_,hm=>⟨m,0,by omega,by simpa using hm,by simp,by rw [mrg];simp,by simp⟩
 | a :: ar,b :: br,0,_,_=>⟨0,0,rfl,by simp,by simp,by simp,by simp⟩
 | a :: ar,b :: br,m+1,hw,hm=>by
  obtain ⟨h1,h2⟩:=List.pairwise_cons.1 hw;rw [mrg]
  split
  ·obtain ⟨c,p,e,hc,hp,hP,hx⟩:=z7u ar (b :: br) m h2 (by simp at hm ⊢;omega)
   refine ⟨c+1,p,by omega,by simp;omega,hp,?_,by simpa using hx⟩
   simpa using List.Perm.cons a hP
  ·rename_i hlt
   obtain ⟨c,p,e,hc,hp,hP,hx⟩:=z7u (a :: ar) br m hw (by simp at hm ⊢;omega)
   refine ⟨c,p+1,by omega,hc,by simp;omega,?_,?_⟩
   ·simp only [List.take_succ_cons]
    exact (List.Perm.cons b hP).trans List.perm_middle.symm
   ·intro x hxm y hy
    simp only [List.take_succ_cons,List.mem_cons] at hy
    rcases hy with rfl | hy
    ·rcases List.mem_cons.1 (List.mem_of_mem_drop hxm) with rfl | hx'
     ·omega
     ·have:=h1 x hx';omega
    ·exact hx x hxm y hy
termination_by a b=>a.length+b.length
theorem z5h (l:List Pc) (p:Nat):∀ k,p<=k->(z01 l k).take p=z01 l p
 | 0, h => by obtain rfl : p = 0 := by omega
              rfl
 | k+1,h=>by
  by_cases hk:p<=k
  ·simp only [z01]
   rw [List.take_append_of_le_length (by rw [zw];exact hk)]
   exact z5h l p k hk
  ·obtain rfl:p=k+1:=by omega
   rw [List.take_of_length_le (by rw [zw];exact Nat.le_refl _)]
theorem z8m {f:Pc->Nat} (hf:zga f) (l:List Pc):∀ p,2*p<=l.length->tot f (z01 l p)=tot f (l.take (2*p))
 | 0,_=>by simp [z01,tot]
 | p+1,h=>by
  have ih:=z8m hf l p (by omega)
  rw [show 2*(p+1)=2*p+1+1 by omega,List.take_succ_eq_append_getElem (by omega),List.take_succ_eq_append_getElem (by omega)]
  simp only [z01,z38,z1b]
  rw [ih,hf,List.getD_eq_getElem?_getD,List.getElem?_eq_getElem (by omega),List.getD_eq_getElem?_getD,List.getElem?_eq_getElem (by omega)]
  simp [tot]
  omega
def lam (cs:List Nat) (k:Nat):Nat:=cs.countP (fun c=>decide (k<c))
def pmv :List Nat->Nat
 | []=>0
 | c :: cs=>c*2 ^ cs.length+pmv cs
theorem znf {S:List Pc} (hS:WS S):∀ (r m:Nat),m<=(rnd S r).length->∃ cs:List Nat,cs.length=r/\(∀ c ∈ cs,c<=S.length)/\cs.Pairwise (fun c d=>d<=c)/\(∀ f,zga f->tot f ((rnd S r).take m)=(cs.map (fun c=>tot f (S.take c))).sum)/\2*pmv cs=m*2 ^ r/\∀ c ∈ cs,∀ x ∈ S.take c,∃ y ∈ (rnd S r).take m,x.wt<=y.wt
 | 0,m,hm=>⟨[],rfl,by simp,.nil,fun f hf=>by simp [rnd,tot],by simp [rnd] at hm;simp [pmv,hm],by simp⟩
 | r+1,m,hm=>by
  have hlen:(rnd S (r+1)).length=S.length+(rnd S r).length / 2:=by
   show (mrg _ _).length=_
   rw [(z10 _ _).length_eq,List.length_append,zw]
  obtain ⟨c,p,e,hc,hp,hP,hx⟩:=z7u S (z01 (rnd S r) ((rnd S r).length / 2)) m hS (by rw [zw];omega)
  rw [zw] at hp;rw [z5h _ _ _ hp] at hP hx;obtain ⟨cs,h1,h2,h3,h4,h5,h6⟩:=znf hS r (2*p) (by omega)
  have hpk:∀ y ∈ (rnd S r).take (2*p),∃ z ∈ z01 (rnd S r) p,y.wt<=z.wt:=fun y hy=>by
   obtain ⟨i,hi,rfl⟩:=List.getElem_of_mem hy;rw [List.length_take] at hi;rw [List.getElem_take];have hg:=z3m (rnd S r) p (i / 2) (by omega)
   refine ⟨(z01 (rnd S r) p).getD (i / 2) dpc,?_,?_⟩
   ·rw [List.getD_eq_getElem?_getD,List.getElem?_eq_getElem (by rw [zw];omega)]
    exact List.getElem_mem _
   ·rw [hg]
    simp only [Pc.wt]
    have g:∀ j,(hj:j<(rnd S r).length)->(rnd S r).getD j dpc=(rnd S r)[j]:=fun j hj=>by rw [List.getD_eq_getElem?_getD,List.getElem?_eq_getElem hj];rfl
    rcases Nat.mod_two_eq_zero_or_one i with hm | hm
    ·rw [g (2*(i / 2)) (by omega)]
     simp only [show 2*(i / 2)=i by omega]
     omega
    ·rw [g (2*(i / 2)+1) (by omega)]
     simp only [show 2*(i / 2)+1=i by omega]
     omega
  have hnest:∀ d ∈ cs,d<=c:=fun d hd=>by
   rcases Nat.lt_or_ge c d with hlt | hge
   ·have hdS:=h2 d hd
    have hcS:c<S.length:=by omega
    have m1:S[c] ∈ S.take d:=List.mem_iff_getElem.2 ⟨c,by rw [List.length_take];omega,by simp⟩
    have m2:S[c] ∈ S.drop c:=List.mem_iff_getElem.2 ⟨0,by rw [List.length_drop];omega,by simp⟩
    obtain ⟨y,hy,hw⟩:=h6 d hd _ m1;obtain ⟨z,hz,hw2⟩:=hpk y hy;have:=hx _ m2 z hz
    omega
   ·exact hge
  refine ⟨c :: cs,by simp [h1],?_,List.pairwise_cons.2 ⟨hnest,h3⟩,fun f hf=>?_,?_,?_⟩
  ·intro d hd
   rcases List.mem_cons.1 hd with rfl | hd
   ·exact hc
   ·exact h2 d hd
  ·show tot f ((mrg _ _).take m)=_
   rw [zdd f hP,z38,z8m hf _ _ (by omega),h4 f hf]
   simp
  ·simp only [pmv]
   rw [h1,Nat.mul_add,h5,<-e,Nat.pow_succ];generalize 2 ^ r=z;have e1:2*(c*z)=c*(z*2):=by rw [Nat.mul_left_comm,Nat.mul_comm 2 z]
   have e2:2*p*z=p*(z*2):=by rw [Nat.mul_comm 2 p,Nat.mul_assoc,Nat.mul_comm 2 z]
   rw [e1,e2,<-Nat.add_mul]
  ·intro d hd x hxm
   rcases List.mem_cons.1 hd with rfl | hd
   ·exact ⟨x,hP.mem_iff.2 (List.mem_append_left _ hxm),Nat.le_refl _⟩
   ·obtain ⟨y,hy,hw⟩:=h6 d hd x hxm
    obtain ⟨z,hz,hw2⟩:=hpk y hy;exact ⟨z,hP.mem_iff.2 (List.mem_append_right _ hz),by omega⟩
theorem z4n {l:List Nat} (h:∀ z ∈ l,z=0):l.sum=0:=by
 induction l with
 | nil=>rfl
 | cons x l ih=>rw [List.sum_cons,h x (by simp),ih (fun z hz=>h z (by simp [hz]))]
def zg (g:Nat->Nat):Nat->Nat
 | 0=>0
 | n+1=>zg g n+g n
theorem z04 {g h:Nat->Nat}:∀ {n:Nat},(∀ k,k<n->g k=h k)->zg g n=zg h n
 | 0,_=>rfl
 | n+1,e=>by rw [zg,zg,z04 (fun k hk=>e k (by omega)),e n (by omega)]
theorem z1u (g h:Nat->Nat):∀ n,zg (fun k=>g k+h k) n=zg g n+zg h n
 | 0=>rfl
 | n+1=>by simp only [zg];rw [z1u g h n];omega
theorem z7k (A:Nat) (g:Nat->Nat):∀ n,zg (fun k=>A*g k) n=A*zg g n
 | 0=>rfl
 | n+1=>by simp only [zg];rw [z7k A g n,Nat.mul_add]
theorem z1d (A:Nat):∀ n,zg (fun _=>A) n=n*A
 | 0=>by simp [zg]
 | n+1=>by simp only [zg];rw [z1d A n,Nat.add_mul,Nat.one_mul]
theorem zd9 (A c:Nat):∀ n,zg (fun k=>if k<c then A else 0) n=min c n*A
 | 0=>by simp [zg]
 | n+1=>by
  simp only [zg]
  rw [zd9 A c n]
  split
  ·rw [show min c (n+1)=n+1 by omega,show min c n=n by omega,Nat.add_mul,Nat.one_mul]
  ·rw [show min c (n+1)=min c n by omega];rfl
theorem zfl {g:Nat->Nat} (h1:∀ k,1<=g k):∀ (n i:Nat),i<n->g i+(n-1)<=zg g n
 | 0,i,h=>by omega
 | n+1,i,h=>by
  simp only [zg]
  by_cases e:i=n
  ·subst e
   have:i<=zg g i:=by
    clear h
    induction i with
    | zero=>exact Nat.zero_le _
    | succ j ih=>simp only [zg];have:=h1 j;omega
   omega
  ·have:=zfl h1 n i (by omega)
   have:=h1 n
   omega
theorem zlo {cs:List Nat} {k:Nat} (h:∀ c ∈ cs,c<=k):lam cs k=0:=by
 unfold lam;rw [List.countP_eq_zero]
 intro c hc
 have:=h c hc
 simp;omega
theorem ziu (cs:List Nat) (k:Nat):lam cs k<=cs.length:=List.countP_le_length
theorem zmn (cs:List Nat) {k l:Nat} (h:k<=l):lam cs l<=lam cs k:=by
 unfold lam;refine List.countP_mono_left fun c _ hc=>?_
 simp at hc ⊢
 omega
theorem z7z (c:Nat) (cs:List Nat) (k:Nat):lam (c :: cs) k=lam cs k+if k<c then 1 else 0:=by
 unfold lam;rw [List.countP_cons]
 simp
theorem zn5 (n:Nat):∀ cs:List Nat,cs.Pairwise (fun c d=>d<=c)->(∀ c ∈ cs,c<=n)->zg (fun k=>2 ^ (cs.length-lam cs k)) n+pmv cs=n*2 ^ cs.length
 | [],_,_=>by
  simp only [pmv,lam,List.countP_nil,List.length_nil,Nat.sub_self,Nat.pow_zero,Nat.mul_one,Nat.add_zero]
  rw [z1d];omega
 | c :: cs,hp,hn=>by
  obtain ⟨h1,h2⟩:=List.pairwise_cons.1 hp;have ih:=zn5 n cs h2 (fun d hd=>hn d (by simp [hd]))
  have hc:=hn c (by simp)
  have e:zg (fun k=>2 ^ ((c :: cs).length-lam (c :: cs) k)) n+zg (fun k=>if k<c then 2 ^ cs.length else 0) n=zg (fun k=>2 ^ (cs.length-lam cs k)) n+zg (fun _=>2 ^ cs.length) n:=by
   rw [<-z1u,<-z1u];refine z04 fun k hk=>?_
   rw [z7z];have hl:=ziu cs k
   simp only [List.length_cons]
   by_cases hkc:k<c
   ·simp only [hkc,if_true]
    rw [show cs.length+1-(lam cs k+1)=cs.length-lam cs k by omega]
   ·simp only [hkc,if_false]
    rw [zlo (fun d hd=>by have:=h1 d hd;omega)]
    simp only [Nat.add_zero,Nat.sub_zero,Nat.pow_succ]
    omega
  rw [zd9,z1d,show min c n=c by omega] at e
  simp only [pmv,List.length_cons,Nat.pow_succ]
  simp only [List.length_cons] at e
  generalize 2 ^ cs.length=z at *;rw [Nat.mul_comm z 2,Nat.mul_left_comm,Nat.two_mul]
  omega
def Cns (S:List Pc):Prop:=S.Pairwise (fun p q=>p.plc≠q.plc)/\∀ p ∈ S,∃ s c,p=.coin s c
theorem zg3 :∀ {S:List Pc},Cns S->∀ (k:Nat) (hk:k<S.length) (c:Nat),tot (occ S[k].plc) (S.take c)=if k<c then 1 else 0
 | [],_,k,hk,_=>by simp at hk
 | x :: S,h,k,hk,0=>by simp [tot]
 | x :: S,h,k,hk,c+1=>by
  obtain ⟨h1,h2⟩:=h;obtain ⟨p1,p2⟩:=List.pairwise_cons.1 h1;have hS:Cns S:=⟨p2,fun p hp=>h2 p (by simp [hp])⟩
  obtain ⟨s,w,rfl⟩:=h2 x (by simp)
  simp only [List.take_succ_cons,z1b]
  cases k with
  | zero=>
   simp only [List.getElem_cons_zero,Pc.plc,occ,if_true]
   have:tot (occ s) (S.take c)=0:=by
    unfold tot;refine z4n ?_
    intro z hz
    obtain ⟨q,hq,rfl⟩:=List.mem_map.1 hz;have hq:=List.mem_of_mem_take hq;obtain ⟨t,v,rfl⟩:=hS.2 q hq;have:=p1 _ hq
    simp only [Pc.plc] at this
    simp only [occ]
    rw [if_neg (by omega)]
   rw [this]
   simp
  | succ k=>
   simp only [List.getElem_cons_succ]
   have hk':k<S.length:=by simpa using hk
   have ih:=zg3 hS k hk' c;have hne:s≠S[k].plc:=p1 _ (List.getElem_mem hk');rw [ih]
   simp only [occ]
   rw [if_neg hne]
   by_cases hkc:k<c
   ·rw [if_pos hkc,if_pos (by omega)]
   ·rw [if_neg hkc,if_neg (by omega)]
theorem zhb {S:List Pc} (h:Cns S) {s:Nat} (hs:∀ p ∈ S,p.plc≠s) (c:Nat):tot (occ s) (S.take c)=0:=by
 unfold tot;refine z4n ?_
 intro z hz
 obtain ⟨q,hq,rfl⟩:=List.mem_map.1 hz;have hq:=List.mem_of_mem_take hq;obtain ⟨t,v,rfl⟩:=h.2 q hq;have:=hs _ hq
 simp only [Pc.plc] at this
 simp only [occ]
 rw [if_neg (by omega)]
theorem zg2 {S:List Pc} (h:Cns S) (k:Nat) (hk:k<S.length):∀ cs:List Nat,(cs.map (fun c=>tot (occ S[k].plc) (S.take c))).sum=lam cs k
 | []=>rfl
 | c :: cs=>by
  rw [z7z,List.map_cons,List.sum_cons,zg2 h k hk cs,zg3 h k hk]
  omega
theorem zr1 {S:List Pc} (hS:WS S) (hC:Cns S) (hn:2<=S.length) {L:Nat} (hL:1<=L) (h2:S.length<=2 ^ L):∃ cs:List Nat,cs.length=L/\(∀ k (hk:k<S.length),tot (occ S[k].plc) ((rnd S L).take (2*S.length-2))=lam cs k)/\(∀ s,(∀ p ∈ S,p.plc≠s)->tot (occ s) ((rnd S L).take (2*S.length-2))=0)/\tot Pc.wt ((rnd S L).take (2*S.length-2))=(cs.map (fun c=>tot Pc.wt (S.take c))).sum/\(∀ c ∈ cs,c<=S.length)/\zg (fun k=>2 ^ (L-lam cs k)) S.length=2 ^ L/\∀ k,k<S.length->1<=lam cs k:=by
 obtain ⟨cs,h1,hc,h3,h4,h5,-⟩:=znf hS L (2*S.length-2) (z97 S L hL h2);have hK:=zn5 S.length cs h3 hc;rw [h1] at hK;have hV:zg (fun k=>2 ^ (L-lam cs k)) S.length=2 ^ L:=by
  generalize zg (fun k=>2 ^ (L-lam cs k)) S.length=q at *
  generalize 2 ^ L=z at *;obtain ⟨m,hm⟩:∃ m,S.length=m+1:=⟨S.length-1,by omega⟩
  rw [hm] at hK h5;rw [show 2*(m+1)-2=2*m by omega,Nat.mul_assoc] at h5
  rw [Nat.add_mul,Nat.one_mul] at hK
  omega
 refine ⟨cs,h1,fun k hk=>?_,fun s hs=>?_,h4 _ zjr,hc,hV,fun k hk=>?_⟩
 ·rw [h4 _ (zg7 _),zg2 hC k hk]
 ·rw [h4 _ (zg7 _)]
  refine z4n ?_
  intro z hz
  obtain ⟨c,_,rfl⟩:=List.mem_map.1 hz;exact zhb hC hs c
 ·rcases Nat.lt_or_ge 0 (lam cs k) with h | h
  ·exact h
  ·have h0:lam cs k=0:=by omega
   have:=zfl (g:=fun k=>2 ^ (L-lam cs k)) (fun k=>Nat.one_le_two_pow) S.length k hk
   rw [hV] at this
   simp only [h0,Nat.sub_zero] at this
   omega
theorem z2a (zs:List Int):∀ k,∀ p ∈ z02 zs k,∃ s,s<k/\0<zs.getD s 0/\p=.coin s (zs.getD s 0).toNat
 | 0,p,h=>by simp [z02] at h
 | k+1,p,h=>by
  simp only [z02] at h
  split at h
  ·rename_i hz
   rcases List.mem_append.1 h with h | h
   ·obtain ⟨s,h1,h2⟩:=z2a zs k p h
    exact ⟨s,by omega,h2⟩
   ·exact ⟨k,by omega,hz,by simpa using h⟩
  ·obtain ⟨s,h1,h2⟩:=z2a zs k p h
   exact ⟨s,by omega,h2⟩
theorem z5y (zs:List Int):∀ k,(z02 zs k).Pairwise (fun p q=>p.plc≠q.plc)
 | 0=>.nil
 | k+1=>by
  simp only [z02]
  split
  ·refine List.pairwise_append.2 ⟨z5y zs k,by simp,fun p hp q hq=>?_⟩
   obtain ⟨s,h1,_,rfl⟩:=z2a zs k p hp
   simp at hq
   subst hq
   show s≠k
   omega
  ·exact z5y zs k
theorem z8r (zs:List Int):∀ k s,s<k->0<zs.getD s 0->.coin s (zs.getD s 0).toNat ∈ z02 zs k
 | 0,s,h,_=>by omega
 | k+1,s,h,hz=>by
  simp only [z02]
  by_cases e:s=k
  ·subst e
   rw [if_pos hz]
   simp
  ·have:=z8r zs k s (by omega) hz
   split
   ·exact List.mem_append_left _ this
   ·exact this
theorem zh8 (zs:List Int):Cns (z4 zs):=by
 have hp:=z1c zs zs.length;refine ⟨(hp.pairwise_iff (R:=fun p q=>p.plc≠q.plc) (fun h=>Ne.symm h)).2 (z5y zs _),fun p h=>?_⟩
 obtain ⟨s,_,_,e⟩:=z2a zs _ p (hp.mem_iff.1 h);exact ⟨s,_,e⟩
theorem zib {zs:List Int} (hn:zs.length<=80):WS (z4 zs):=
 zm2 (z8p zs _ hn) (fun p hp=>by have:=z71 zs _ p hp;omega)
theorem zav (zs:List Int) (k:Nat) (hk:k<(z4 zs).length):∃ s,s<zs.length/\0<zs.getD s 0/\(z4 zs)[k]=.coin s (zs.getD s 0).toNat:=
 z2a zs _ _ ((z1c zs zs.length).mem_iff.1 (List.getElem_mem hk))
theorem zgm (zs:List Int) (s:Nat) (hs:s<zs.length) (hz:0<zs.getD s 0):∃ k,∃ h:k<(z4 zs).length,(z4 zs)[k]=.coin s (zs.getD s 0).toNat:=by
 obtain ⟨k,hk,e⟩:=List.getElem_of_mem ((z1c zs zs.length).mem_iff.2 (z8r zs _ s hs hz));exact ⟨k,hk,e⟩
theorem zkx (zs:List Int) (t s:Nat) (ht:t<zs.length):(zz zs (t:Int)).getD s 0=zs.getD s 0+if t=s then 1 else 0:=by
 unfold zz;rw [Int.toNat_natCast]
 simp only [List.getD_eq_getElem?_getD,List.getElem?_set]
 by_cases h:t=s
 ·subst h
  simp [ht]
 ·simp [h]
theorem z8h (s:Nat) (p:Pc):∀ zs:List Int,p.ok zs.length->(z1f p zs).getD s 0=zs.getD s 0+(occ s p:Nat):=by
 induction p with
 | coin t c=>
  intro zs h
  simp only [z1f,occ]
  rw [zkx zs t s h.1]
  split <;> simp
 | pack a b n iha ihb=>
  intro zs h
  simp only [z1f,occ]
  rw [ihb _ (by rw [z5a];exact h.2),iha _ h.1]
  simp
  omega
theorem zco (s:Nat):∀ (l:List Pc) (zs:List Int),(∀ p ∈ l,p.ok zs.length)->(z0m l zs).getD s 0=zs.getD s 0+(tot (occ s) l:Nat)
 | [],zs,_=>by simp [z0m,tot]
 | p :: l,zs,h=>by
  rw [z0m,zco s l _ (fun q hq=>by rw [z5a];exact h q (by simp [hq])),z8h s p zs (h p (by simp)),z1b]
  simp
  omega
theorem z41 (n s:Nat):(List.replicate n (0:Int)).getD s 0=0:=by
 rw [List.getD_eq_getElem?_getD]
 by_cases h:s<n
 ·simp [h]
 ·simp [h]
structure LF (zs ls:List Int) (L:Nat) (lm:Nat->Nat):Prop where
 len:ls.length=zs.length
 at_:∀ k (hk:k<(z4 zs).length),ls.getD (z4 zs)[k].plc 0=(lm k:Nat)
 no:∀ s,¬0<zs.getD s 0->ls.getD s 0=0
 pos:∀ k,k<(z4 zs).length->1<=lm k
 le:∀ k,lm k<=L
 mono:∀ k l,k<=l->lm l<=lm k
 full:2<=(z4 zs).length->zg (fun k=>2 ^ (L-lm k)) (z4 zs).length=2 ^ L
 sole:(z4 zs).length=1->lm 0=1
theorem zb5 (w:Nat->Nat):∀ c n,c<=n->zg (fun k=>if k<c then w k else 0) n=zg w c
 | c, 0, h => by obtain rfl : c = 0 := by omega
                 rfl
 | c,n+1,h=>by
  by_cases e:c=n+1
  ·subst e
   exact z04 fun k hk=>if_pos hk
  ·simp only [zg]
   rw [zb5 w c n (by omega),if_neg (by omega)]
   rfl
theorem z2l (f:Pc->Nat) (d:Pc):∀ (S:List Pc) (c:Nat),c<=S.length->tot f (S.take c)=zg (fun k=>f (S.getD k d)) c
 | S,0,_=>by simp [tot,zg]
 | S,c+1,h=>by
  rw [List.take_succ_eq_append_getElem (by omega),z38,z2l f d S c (by omega)]
  simp only [zg]
  rw [List.getD_eq_getElem?_getD (i:=c),List.getElem?_eq_getElem (by omega)]
  simp [tot]
theorem zee (S:List Pc):∀ cs:List Nat,(∀ c ∈ cs,c<=S.length)->(cs.map (fun c=>tot Pc.wt (S.take c))).sum=zg (fun k=>(S.getD k dpc).wt*lam cs k) S.length
 | [],_=>by
  simp only [List.map_nil,List.sum_nil,lam,List.countP_nil,Nat.mul_zero]
  rw [z1d];simp
 | c :: cs,h=>by
  rw [List.map_cons,List.sum_cons,zee S cs (fun d hd=>h d (by simp [hd])),z2l _ dpc S c (h c (by simp)),<-zb5 _ c S.length (h c (by simp)),<-z1u]
  refine z04 fun k hk=>?_
  rw [z7z,Nat.mul_add]
  by_cases hkc:k<c <;> simp [hkc] <;> omega
theorem zhp {zs:List Int} (hc:z1y zs=true) {L:Nat} (hL:1<=L) (h1:1<=(z4 zs).length) (h2:(z4 zs).length<=2 ^ L):∃ lm:Nat->Nat,LF zs (z0w zs L) L lm/\(2<=(z4 zs).length->tot Pc.wt ((rnd (z4 zs) L).take (2*(z4 zs).length-2))=zg (fun k=>((z4 zs).getD k dpc).wt*lm k) (z4 zs).length):=by
 simp only [z1y,decide_eq_true_eq] at hc
 obtain ⟨hl1,hl2,hz⟩:=hc
 by_cases hn:(z4 zs).length=1
 ·obtain ⟨p,hp⟩:∃ p,z4 zs=[p]:=List.length_eq_one_iff.1 hn
  obtain ⟨s,hs,hzs,he⟩:=zav zs 0 (by omega)
  have hp0:p=.coin s (zs.getD s 0).toNat:=by rw [<-he];simp [hp]
  have hv:z0w zs L=z1f p (List.replicate zs.length 0):=by unfold z0w;rw [if_pos hn,hp];rfl
  have hok:p.ok (List.replicate zs.length (0:Int)).length:=by rw [hp0];exact ⟨by simpa using hs,by omega⟩
  refine ⟨fun _=>1,⟨z63 zs L,fun k hk=>?_,fun t ht=>?_,fun _ _=>Nat.le_refl _,fun _=>hL,fun _ _ _=>Nat.le_refl _,fun h=>by omega,fun _=>rfl⟩,fun h=>by omega⟩
  ·have hk0:k=0:=by omega
   subst hk0;have e:(z4 zs)[0].plc=s:=by rw [he];rfl
   rw [e,hv,z8h _ _ _ hok,z41,hp0]
   simp [occ]
  ·rw [hv,z8h _ _ _ hok,z41,hp0]
   simp only [occ]
   rw [if_neg (by intro e;rw [e] at hzs;exact ht hzs)]
   rfl
 ·have hn2:2<=(z4 zs).length:=by omega
  obtain ⟨cs,c1,c2,c3,c4,c5,c6,c7⟩:=zr1 (zib hl2) (zh8 zs) hn2 hL h2;have hok:∀ p ∈ (rnd (z4 zs) L).take (2*(z4 zs).length-2),p.ok (List.replicate zs.length (0:Int)).length:=fun p hp=>by
   rw [List.length_replicate];exact ((z76 hz hl2 L).2.1 p (List.mem_of_mem_take hp)).2.2
  have hv:∀ s,(z0w zs L).getD s 0=(tot (occ s) ((rnd (z4 zs) L).take (2*(z4 zs).length-2)):Nat):=fun s=>by
   unfold z0w;rw [if_neg hn,zco s _ _ hok,z41]
   simp
  refine ⟨lam cs,⟨z63 zs L,fun k hk=>by rw [hv,c2 k hk],fun t ht=>?_,c7,fun k=>by rw [<-c1];exact ziu cs k,fun k l h=>zmn cs h,fun _=>c6,fun h=>by omega⟩,fun _=>?_⟩
  ·rw [hv,c3 t ?_]
   ·rfl
   ·intro p hp e
    obtain ⟨k,hk,rfl⟩:=List.getElem_of_mem hp;obtain ⟨s,hs,hzs,he⟩:=zav zs k hk;rw [he] at e;have:s=t:=e;rw [this] at hzs;exact ht hzs
  ·rw [c4,zee _ _ c5]
def zf (f:Int->Int) (zs:List Int):Int:=(zs.map f).sum
theorem z1j (f:Int->Int) (zs:List Int) (k:Nat) (h:k<zs.length):zf f (zs.take (k+1))=zf f (zs.take k)+f (zs.getD k 0):=by
 unfold zf;rw [List.take_succ_eq_append_getElem h,List.map_append,List.sum_append]
 simp [List.getD_eq_getElem?_getD,List.getElem?_eq_getElem h]
theorem z0t (f:Int->Int) (m:Int) (hf:∀ z,0<=f z/\f z<=m) (zs:List Int):0<=zf f zs/\zf f zs<=m*zs.length:=by
 unfold zf
 induction zs with
 | nil=>simp
 | cons z zs ih=>
  have:=hf z
  simp only [List.map_cons,List.sum_cons,List.length_cons]
  rw [show m*((zs.length+1:Nat):Int)=m*zs.length+m from by rw [Int.natCast_add,Int.mul_add];simp]
  omega
def one (z:Int):Int:=if 0<z then 1 else 0
theorem z27 (z:Int):0<=one z/\one z<=1:=by unfold one;split <;> omega
def zq (z:Int):Int:=if 0<z then 2 ^ (12-z).toNat else 0
theorem z77 (n:Nat) (h:n<=12):(1:Int)<=2 ^ n/\(2:Int) ^ n<=4096:=by
 have h1:1<=2 ^ n:=Nat.pow_pos (by omega)
 have h2:2 ^ n<=2 ^ 12:=Nat.pow_le_pow_right (by omega) h
 have e:((2:Int) ^ n)=((2 ^ n:Nat):Int):=by simp
 rw [e]
 omega
theorem z3x (z:Int):0<=zq z/\zq z<=4096:=by
 unfold zq
 split
 ·have:=z77 (12-z).toNat (by omega);omega
 ·omega
theorem zfc (n:Nat) (h:n<=12):wrap64 (2 ^ n)=2 ^ n:=by
 have:=z77 n h;generalize (2:Int) ^ n=y at *;exact IntWalk.wrap64_in _ (by omega)
def zv (zs:List Int):Bool:=decide (1<=zs.length/\zs.length<=80/\(∀ z ∈ zs,0<=z/\z<=12)/\(zf one zs=1/\zf zq zs=2048\/1<zf one zs/\zf zq zs=4096))
theorem z3p {zs:List Int} {k:Nat} (hk:k<zs.length) (h:¬(0<=zs.getD k 0/\zs.getD k 0<=12)):zv zs=false:=by
 simp only [zv,decide_eq_false_iff_not]
 exact fun h'=>h (h'.2.2.1 _ (zp hk))
theorem zbg {zs:List Int} (h:¬(1<=zs.length/\zs.length<=80)):zv zs=false:=by
 simp only [zv,decide_eq_false_iff_not]
 exact fun h'=>h ⟨h'.1,h'.2.1⟩
theorem zar {zs:List Int} (h1:1<=zs.length) (h2:zs.length<=80) (h:∀ z ∈ zs.take zs.length,0<=z/\z<=12):zv zs=decide (zf one zs=1/\zf zq zs=2048\/1<zf one zs/\zf zq zs=4096):=by
 rw [List.take_length] at h
 simp only [zv]
 apply decide_eq_decide.2
 exact ⟨fun h'=>h'.2.2.2,fun h'=>⟨h1,h2,h,h'⟩⟩
theorem zgd (a:Option Addr) (cap:Nat) (zs:List Int) (w:World) (hb:Ins w a zs) (h80:zs.length<=80) (hok:∀ z ∈ zs,0<=z/\z<=12) :
  Calls Tryz.prog 171 #[.slice a zs.length cap] w fun e w'=>e=.returned (.int .i64 (zf zq zs))/\w'=w:=by
 have HOK:Hid (∀ z ∈ zs,0<=z/\z<=12):=hok;clear hok;generalize hlen:zs.length=n at *;have HL:Hid (zs.length=n):=hlen;clear hlen
 go_enter Tryz.func171,Tryz.ntmps171
 go_wp2
 go_loop [3,4] (fun x i=>∃ k:Nat,k<=n/\i=.int .i64 k/\x=.int .i64 (zf zq (zs.take k))) (fun _ i=>n-(intOf i).toNat)
 case atStart=>exact ⟨0,Nat.zero_le _,rfl,by simp [zf]⟩
 case round=>
  obtain ⟨k,hk,rfl,rfl⟩:=hrel
  by_cases hlt:k<n
  ·obtain ⟨b1,o1,rfl,hb1,hc1⟩:=hb.len_pos k (by rw [HL.out];exact hlt)
   have hs1:=hc1 k (by rw [HL.out];exact hlt)
   have g1:=HOK.out _ (zp (k:=k) (by rw [HL.out];exact hlt))
   have hF:=z0t zq 4096 z3x (zs.take k);have hF2:(zs.take k).length<=80:=by rw [List.length_take,HL.out];omega
   have HS:Hid (zf zq (zs.take (k+1))=zf zq (zs.take k)+zq (zs.getD k 0)):=z1j zq zs k (by rw [HL.out];exact hlt)
   clear hc1 hb;generalize zs.getD k 0=x at *;generalize hFF:zf zq (zs.take k)=F at *;have hFb:0<=F/\F<=327680:=by omega
   clear hF hF2 hFF
   by_cases h3:0<x
   ·have hp:=z77 (12-x).toNat (by omega)
    have hw:=zfc (12-x).toNat (by omega)
    have HP:Hid (zq x=2 ^ (12-x).toNat):=by simp [Hid,zq,h3]
    have HW:Hid (wrap64 (F+2 ^ (12-x).toNat)=F+2 ^ (12-x).toNat):=IntWalk.wrap64_in _ (by omega)
    clear hp;have HWP:Hid _:=hw;clear hw;go_wp2;go_round
    case rel=>exact ⟨k+1,by omega,by go_num,by rw [HS.out,HP.out,HWP.out,HW.out]⟩
    case measure=>simp [intOf];omega
   ·have HP:Hid (zq x=0):=by simp [Hid,zq,h3]
    go_wp2
    go_round
    case rel=>exact ⟨k+1,by omega,by go_num,by rw [HS.out,HP.out];simp⟩
    case measure=>simp [intOf];omega
  ·have hkn:k=n:=by omega
   subst hkn;have e:zs.take k=zs:=List.take_of_length_le (by rw [HL.out];exact Nat.le_refl _)
   rw [e];go_wp2;go_ret;exact ⟨rfl,rfl⟩
theorem zkv {zs:List Int} (h:zv zs=true):1<=zs.length/\zs.length<=80/\∀ z ∈ zs,0<=z/\z<=12:=by
 simp only [zv,decide_eq_true_eq] at h
 exact ⟨h.1,h.2.1,h.2.2.1⟩
structure Four (w:World):Prop where
 g1:∃ T x,w.cell? ⟨22,0,none⟩=some (.iface T x)
 g2:∃ T x,w.cell? ⟨23,0,none⟩=some (.iface T x)
 g3:∃ T x,w.cell? ⟨12,0,none⟩=some (.iface T x)
 g4:∃ T x,w.cell? ⟨24,0,none⟩=some (.iface T x)
theorem z5k {w w':World} {g:Nat} (h:∃ T x,w.cell? ⟨g,0,none⟩=some (.iface T x)) (hb:Below w.heap.size w w'):∃ T x,w'.cell? ⟨g,0,none⟩=some (.iface T x):=by
 obtain ⟨T,x,h⟩:=h;exact ⟨T,x,keep hb (World.block_lt_of_cell? _ _ h) h⟩
theorem Four.below {w w':World} (h:Four w) (hb:Below w.heap.size w w'):Four w':=⟨z5k h.g1 hb,z5k h.g2 hb,z5k h.g3 hb,z5k h.g4 hb⟩
def chk (zs:List Int) (w:World) (e:Ending) (w':World):Prop:=
 Below w.heap.size w w'/\(zv zs=true->e=.returned .nilIface)/\(zv zs=false->∃ p:Addr,e=.returned (.iface 277 (.pointer (some p))))
theorem zc8 (a:Option Addr) (cap:Nat) (zs:List Int) (w:World) (hb:Ins w a zs) (hn:zs.length<=281474976710656) (h4:Four w) :
  Calls Tryz.prog 211 #[.slice a zs.length cap] w (chk zs w):=by
 obtain ⟨T1,v1,e1⟩:=h4.g1;obtain ⟨T2,v2,e2⟩:=h4.g2;obtain ⟨T3,v3,e3⟩:=h4.g3;obtain ⟨T4,v4,e4⟩:=h4.g4;clear h4
 by_cases h:1<=zs.length/\zs.length<=80
 ·obtain ⟨h1,h2⟩:=h
  generalize hlen:zs.length=n at *;have HL:Hid (zs.length=n):=hlen;clear hlen
  go_enter Tryz.func211,Tryz.ntmps211
  go_wp2
  go_loop [3,4,22] (fun x y i=>∃ k:Nat,k<=n/\i=.int .i64 k/\x=.int .i64 (zf one (zs.take k))/\y=.int .i64 (zf zq (zs.take k))/\∀ z ∈ zs.take k,0<=z/\z<=12) (fun _ _ i=>n-(intOf i).toNat)
  case atStart=>exact ⟨0,Nat.zero_le _,rfl,by simp [zf],by simp [zf],by simp⟩
  case round=>
   obtain ⟨k,hk,rfl,rfl,rfl,htk⟩:=hrel;have HT:Hid (∀ z ∈ zs.take k,0<=z/\z<=12):=htk;clear htk
   by_cases hlt:k<n
   ·obtain ⟨b1,o1,rfl,hb1,hc1⟩:=hb.len_pos k (by rw [HL.out];exact hlt)
    have hs1:=hc1 k (by rw [HL.out];exact hlt)
    have g1:=z3q hb.1 k;have hF:=z0t one 1 z27 (zs.take k);have hG:=z0t zq 4096 z3x (zs.take k);have hF2:(zs.take k).length<=80:=by rw [List.length_take,HL.out];omega
    have HS:Hid (zf one (zs.take (k+1))=zf one (zs.take k)+one (zs.getD k 0)):=z1j one zs k (by rw [HL.out];exact hlt)
    have HS2:Hid (zf zq (zs.take (k+1))=zf zq (zs.take k)+zq (zs.getD k 0)):=z1j zq zs k (by rw [HL.out];exact hlt)
    clear hc1 hb;generalize hx:zs.getD k 0=x at *;have HX:Hid (zs.getD k 0=x):=hx;clear hx;generalize hFF:zf one (zs.take k)=F at *;generalize hGG:zf zq (zs.take k)=G at *;have hFb:0<=F/\F<=80:=by omega
    have hGb:0<=G/\G<=327680:=by omega
    clear hF hG hF2 hFF hGG
    by_cases h3:0<=x
    ·by_cases h4:x<=12
     ·have HT':Hid (∀ z ∈ zs.take (k+1),0<=z/\z<=12):=z5o HT.out (by rw [HL.out];exact hlt) (by rw [HX.out];exact ⟨h3,h4⟩)
      by_cases h5:0<x
      ·have HP:Hid (one x=1):=by simp [Hid,one,h5]
       have hp:=z77 (12-x).toNat (by omega)
       have HWP:Hid (wrap64 (2 ^ (12-x).toNat)=2 ^ (12-x).toNat):=zfc (12-x).toNat (by omega)
       have HQ:Hid (zq x=2 ^ (12-x).toNat):=by simp [Hid,zq,h5]
       have HW:Hid (wrap64 (G+2 ^ (12-x).toNat)=G+2 ^ (12-x).toNat):=IntWalk.wrap64_in _ (by omega)
       clear hp;go_wp2;go_round
       case rel=>exact ⟨k+1,by omega,by go_num,by rw [HS.out,HP.out],by rw [HS2.out,HQ.out,HWP.out,HW.out],HT'.out⟩
       case measure=>simp [intOf];omega
      ·have HP:Hid (one x=0):=by simp [Hid,one,h5]
       have HQ:Hid (zq x=0):=by simp [Hid,zq,h5]
       go_wp2
       go_round
       case rel=>exact ⟨k+1,by omega,by go_num,by rw [HS.out,HP.out];simp,by rw [HS2.out,HQ.out];simp,HT'.out⟩
       case measure=>simp [intOf];omega
     ·have HN:Hid (zv zs=false):=z3p (by rw [HL.out];exact hlt) (by rw [HX.out];omega)
      go_wp2
      try go_region
      all_goals try go_wp2
      all_goals go_ret
      all_goals exact ⟨by repeat (first | exact Below.refl _ _ | refine Below.drew ?_ | refine Below.alloc ?_ (by simp) _),fun h=>(by rw [HN.out] at h;cases h),fun _=>⟨_,rfl⟩⟩
    ·have HN:Hid (zv zs=false):=z3p (by rw [HL.out];exact hlt) (by rw [HX.out];omega)
     go_wp2
     try go_region
     all_goals try go_wp2
     all_goals go_ret
     all_goals exact ⟨by repeat (first | exact Below.refl _ _ | refine Below.drew ?_ | refine Below.alloc ?_ (by simp) _),fun h=>(by rw [HN.out] at h;cases h),fun _=>⟨_,rfl⟩⟩
   ·have hkn:k=n:=by omega
    subst hkn;have e:zs.take k=zs:=List.take_of_length_le (by rw [HL.out];exact Nat.le_refl _)
    have HE:Hid (zv zs=decide (zf one zs=1/\zf zq zs=2048\/1<zf one zs/\zf zq zs=4096)):=zar (by rw [HL.out];exact h1) (by rw [HL.out];exact h2) (by rw [HL.out];exact HT.out)
    have hF:=z0t one 1 z27 zs;have hG:=z0t zq 4096 z3x zs;rw [HL.out] at hF hG;rw [e];clear e HT;generalize zf one zs=F at *;generalize zf zq zs=G at *
    by_cases c0:F=0
    ·subst c0
     have HN:Hid (zv zs=false):=by rw [Hid,HE.out,decide_eq_false (by omega)]
     go_wp2
     try go_region
     all_goals try go_wp2
     all_goals go_ret
     all_goals exact ⟨by repeat (first | exact Below.refl _ _ | refine Below.drew ?_ | refine Below.alloc ?_ (by simp) _),fun h=>(by rw [HN.out] at h;cases h),fun _=>⟨_,rfl⟩⟩
    ·by_cases c1:F=1
     ·subst c1
      by_cases c2:G=2048
      ·subst c2
       have HN:Hid (zv zs=true):=by rw [Hid,HE.out,decide_eq_true (by omega)]
       go_wp2
       go_ret;exact ⟨Below.refl _ _,fun _=>rfl,fun h=>(by rw [HN.out] at h;cases h)⟩
      ·have HN:Hid (zv zs=false):=by rw [Hid,HE.out,decide_eq_false (by omega)]
       go_wp2
       try go_region
       all_goals try go_wp2
       all_goals go_ret
       all_goals exact ⟨by repeat (first | exact Below.refl _ _ | refine Below.drew ?_ | refine Below.alloc ?_ (by simp) _),fun h=>(by rw [HN.out] at h;cases h),fun _=>⟨_,rfl⟩⟩
     ·by_cases c2:G=4096
      ·subst c2
       have HN:Hid (zv zs=true):=by rw [Hid,HE.out,decide_eq_true (by omega)]
       go_wp2
       go_ret;exact ⟨Below.refl _ _,fun _=>rfl,fun h=>(by rw [HN.out] at h;cases h)⟩
      ·have HN:Hid (zv zs=false):=by rw [Hid,HE.out,decide_eq_false (by omega)]
       have c3:(G != 4096)=true:=by simp [c2]
       go_wp2
       try go_region
       all_goals try go_wp2
       all_goals go_ret
       all_goals exact ⟨by repeat (first | exact Below.refl _ _ | refine Below.drew ?_ | refine Below.alloc ?_ (by simp) _),fun h=>(by rw [HN.out] at h;cases h),fun _=>⟨_,rfl⟩⟩
 ·have HN:Hid (zv zs=false):=zbg h
  by_cases c1:1<=zs.length
  ·have c2:80<zs.length:=by omega
   go_enter Tryz.func211,Tryz.ntmps211
   go_wp2
   try go_region
   all_goals try go_wp2
   all_goals go_ret
   all_goals exact ⟨by repeat (first | exact Below.refl _ _ | refine Below.drew ?_ | refine Below.alloc ?_ (by simp) _),fun h=>(by rw [HN.out] at h;cases h),fun _=>⟨_,rfl⟩⟩
  ·go_enter Tryz.func211,Tryz.ntmps211
   go_wp2
   try go_region
   all_goals try go_wp2
   all_goals go_ret
   all_goals exact ⟨by repeat (first | exact Below.refl _ _ | refine Below.drew ?_ | refine Below.alloc ?_ (by simp) _),fun h=>(by rw [HN.out] at h;cases h),fun _=>⟨_,rfl⟩⟩
open Go.Extern.Stop Go.Stop Go.Extern
abbrev zpo (t:Nat):Value:=.pointer (some ⟨26,t,none⟩)
abbrev zrq (a:Addr) (fl:Int):Value:=.agg #[zpo 277,.pointer (some a),.int .u64 fl]
abbrev zrp (t:Nat):Value:=.iface 292 (.agg #[zpo t])
end Go.Proofs.YtjmcjbmjgpponaaGreatDoor
namespace Go.Proofs.YtjmcjbmjgpponaaGreatDoor
open Go.RowKit
set_option linter.unusedVariables false
def zqg (cs ls:List Int):Nat->Int
 | 0=>0
 | k+1=>zqg cs ls k+cs.getD k 0*ls.getD k 0
def zon (cs ls:List Int):Prop:=z1y cs=true/\zv ls=true/\ls.length=cs.length/\∀ i,i<cs.length->¬(0<cs.getD i 0/\ls.getD i 0=0)
noncomputable def costB (cs ls:List Int):Bool:=@decide (zon cs ls) (Classical.propDecidable _)
noncomputable def costN (cs ls:List Int):Int:=if costB cs ls=true then zqg cs ls cs.length else 0
set_option linter.unusedSimpArgs false
theorem z99 (f:Int->Nat) (hf:f 0=0) {zs ls:List Int} (hl:ls.length=zs.length) (hno:∀ s,¬0<zs.getD s 0->ls.getD s 0=0):∀ k,k<=ls.length->zf (fun z=>(f z:Int)) (ls.take k)=((tot (fun p=>f (ls.getD p.plc 0)) (z02 zs k):Nat):Int)
 | 0,_=>by simp [zf,z02,tot]
 | k+1,h=>by
  rw [z1j _ _ _ (by omega),z99 f hf hl hno k (by omega)]
  simp only [z02]
  split
  ·rw [z38]
   simp [tot,Pc.plc]
  ·rename_i hz
   rw [hno k hz,hf]
   simp
theorem zbi (f:Int->Nat) (hf:f 0=0) {zs ls:List Int} {L:Nat} {lm:Nat->Nat} (h:LF zs ls L lm):zf (fun z=>(f z:Int)) ls=((zg (fun k=>f (lm k)) (z4 zs).length:Nat):Int):=by
 have:=z99 f hf h.len h.no ls.length nl;rw [List.take_length,h.len,zdd _ (z1c zs zs.length).symm] at this;rw [this]
 show ((tot _ (z4 zs):Nat):Int)=_
 have e:=z2l (fun p=>f (ls.getD p.plc 0)) dpc (z4 zs) (z4 zs).length nl
 rw [List.take_length] at e;rw [e]
 congr 1
 refine z04 fun k hk=>?_
 rw [List.getD_eq_getElem?_getD (i:=k),List.getElem?_eq_getElem hk]
 simp only [Option.getD_some]
 rw [h.at_ k hk]
theorem LF.rng {zs ls:List Int} {L:Nat} {lm:Nat->Nat} (h:LF zs ls L lm) (s:Nat) (hs:s<zs.length):(0<zs.getD s 0->∃ k,∃ hk:k<(z4 zs).length,(z4 zs)[k]=.coin s (zs.getD s 0).toNat/\ls.getD s 0=(lm k:Nat)/\1<=lm k/\lm k<=L)/\(¬0<zs.getD s 0->ls.getD s 0=0):=by
 refine ⟨fun hz=>?_,h.no s⟩
 obtain ⟨k,hk,e⟩:=zgm zs s hs hz;have:=h.at_ k hk;rw [e] at this;exact ⟨k,hk,e,this,h.pos k hk,h.le k⟩
theorem znj :one=fun z=>(((if 0<z then 1 else 0:Nat)):Int):=by
 funext z;unfold one;split <;> rfl
theorem LF.okB {zs ls:List Int} {L:Nat} {lm:Nat->Nat} (h:LF zs ls L lm) (hc:z1y zs=true) (hL:L<=12) (h1:1<=(z4 zs).length):zv ls=true:=by
 simp only [z1y,decide_eq_true_eq] at hc
 obtain ⟨hl1,hl2,hz⟩:=hc
 simp only [zv,decide_eq_true_eq]
 have hr:∀ z ∈ ls,0<=z/\z<=12:=fun z hz'=>by
  obtain ⟨s,hs,rfl⟩:=List.getElem_of_mem hz';have e:ls[s]=ls.getD s 0:=by simp [List.getD_eq_getElem?_getD,List.getElem?_eq_getElem hs]
  rw [e];obtain ⟨a1,a2⟩:=h.rng s (by rw [<-h.len];exact hs)
  by_cases hp:0<zs.getD s 0
  ·obtain ⟨k,_,_,e2,e3,e4⟩:=a1 hp
   omega
  ·have:=a2 hp
   omega
 have ho:zf one ls=((z4 zs).length:Nat):=by
  rw [znj,zbi (fun z=>if 0<z then 1 else 0) (by simp) h]
  congr 1
  rw [z04 (h:=fun _=>1) (fun k hk=>by have:=h.pos k hk;simp;omega),z1d]
  omega
 have hs:zf zq ls=((zg (fun k=>2 ^ (12-lm k)) (z4 zs).length:Nat):Int):=by
  have e:zq=fun z=>(((if 0<z then 2 ^ (12-z).toNat else 0:Nat)):Int):=by
   funext z;unfold zq;split
   ·simp
   ·rfl
  rw [e,zbi (fun z=>if 0<z then 2 ^ (12-z).toNat else 0) (by simp) h]
  congr 1
  refine z04 fun k hk=>?_
  have p1:=h.pos k hk;have p2:=h.le k;rw [if_pos (by omega)]
  congr 1
  omega
 refine ⟨by rw [h.len];exact hl1,by rw [h.len];exact hl2,hr,?_⟩
 by_cases hn:(z4 zs).length=1
 ·left
  rw [ho,hs,hn]
  simp only [zg]
  rw [h.sole hn]
  decide
 ·right
  refine ⟨by rw [ho];omega,?_⟩
  rw [hs];have e:zg (fun k=>2 ^ (12-lm k)) (z4 zs).length=2 ^ (12-L)*zg (fun k=>2 ^ (L-lm k)) (z4 zs).length:=by
   rw [<-z7k];refine z04 fun k hk=>?_
   rw [<-Nat.pow_add]
   congr 1
   have:=h.le k
   omega
  rw [e,h.full (by omega),<-Nat.pow_add,show 12-L+L=12 by omega]
  decide
theorem z4g :∀ (a b:List Pc) (c p:Nat),WS a->WS b->c<=a.length->p<=b.length->tot Pc.wt ((mrg a b).take (c+p))<=tot Pc.wt (a.take c)+tot Pc.wt (b.take p)
 | [],b,c,p,_,_,hc,hp=>by
  obtain rfl:c=0:=by simpa using hc
  rw [mrg]
  simp [tot]
 | a :: ar,[],c,p,_,_,hc,hp=>by
  obtain rfl:p=0:=by simpa using hp
  rw [mrg]
  simp [tot]
 | a :: ar,b :: br,c,p,ha,hb,hc,hp=>by
  obtain ⟨a1,a2⟩:=List.pairwise_cons.1 ha;obtain ⟨b1,b2⟩:=List.pairwise_cons.1 hb;rw [mrg]
  split
  ·rename_i hw
   cases c with
   | succ c=>
    rw [show c+1+p=c+p+1 by omega,List.take_succ_cons,List.take_succ_cons,z1b,z1b]
    have:=z4g ar (b :: br) c p a2 hb (by simpa using hc) hp
    omega
   | zero=>
    cases p with
    | zero=>simp [tot]
    | succ p=>
     rw [show 0+(p+1)=0+p+1 by omega,List.take_succ_cons,z1b]
     have:=z4g ar (b :: br) 0 p a2 hb (by omega) (by simp at hp ⊢;omega)
     have e:=List.take_succ_eq_append_getElem (l:=b :: br) (i:=p) (by omega)
     rw [e,z38];have hx:a.wt<=((b :: br)[p]).wt:=by
      rcases List.mem_cons.1 (List.getElem_mem (l:=b :: br) (n:=p) (by omega)) with h | h
      ·rw [h];exact hw
      ·have:=b1 _ h;omega
     have e2:tot Pc.wt [(b :: br)[p]]=((b :: br)[p]).wt:=by simp [tot]
     rw [e2]
     simp only [List.take_zero,tot,List.map_nil,List.sum_nil,Nat.add_zero,Nat.zero_add] at this ⊢
     omega
  ·rename_i hw
   cases p with
   | succ p=>
    rw [show c+(p+1)=c+p+1 by omega,List.take_succ_cons,List.take_succ_cons,z1b,z1b]
    have:=z4g (a :: ar) br c p ha b2 hc (by simpa using hp)
    omega
   | zero=>
    cases c with
    | zero=>simp [tot]
    | succ c=>
     rw [show c+1+0=c+0+1 by omega,List.take_succ_cons,z1b]
     have:=z4g (a :: ar) br c 0 ha b2 (by simp at hc ⊢;omega) (by omega)
     have e:=List.take_succ_eq_append_getElem (l:=a :: ar) (i:=c) (by omega)
     rw [e,z38];have hx:b.wt<=((a :: ar)[c]).wt:=by
      rcases List.mem_cons.1 (List.getElem_mem (l:=a :: ar) (n:=c) (by omega)) with h | h
      ·rw [h];omega
      ·have:=a1 _ h;omega
     have e2:tot Pc.wt [(a :: ar)[c]]=((a :: ar)[c]).wt:=by simp [tot]
     rw [e2]
     simp only [List.take_zero,tot,List.map_nil,List.sum_nil,Nat.add_zero,Nat.zero_add] at this ⊢
     omega
termination_by a b=>a.length+b.length
theorem zp4 (w:Nat->Nat) {c d:Nat} (h:c<=d):zg w c<=zg w d:=by
 induction d with
 | zero => obtain rfl : c = 0 := by omega
           exact Nat.le_refl _
 | succ d ih=>
  by_cases e:c=d+1
  ·subst e;exact Nat.le_refl _
  ·have:=ih (by omega)
   simp only [zg]
   omega
theorem zne {S:List Pc} (hS:WS S) (hW:∀ r,WS (z01 (rnd S r) ((rnd S r).length / 2))):∀ (ts:List Nat) (k:Nat),(∀ a ∈ ts,a<=S.length)->k*2 ^ ts.length<=2*pmv ts->k<=(rnd S ts.length).length/\tot Pc.wt ((rnd S ts.length).take k)<=(ts.map (fun a=>tot Pc.wt (S.take a))).sum
 | [],k,_,h=>by
  simp [pmv] at h
  subst h
  simp [rnd,tot]
 | a :: ts,k,ha,h=>by
  have haS:=ha a (by simp)
  have h2:(2*(k-min a k))*2 ^ ts.length<=2*pmv ts:=by
   simp only [pmv,List.length_cons,Nat.pow_succ] at h
   generalize 2 ^ ts.length=z at *
   by_cases hka:k<=a
   ·rw [show k-min a k=0 by omega];simp
   ·obtain ⟨p,hp⟩:∃ p,k=p+a:=⟨k-a,by omega⟩
    rw [show k-min a k=p by omega]
    rw [hp,Nat.mul_comm z 2,<-Nat.mul_assoc,Nat.add_mul,Nat.add_mul,Nat.mul_comm p 2,Nat.mul_comm a 2,Nat.mul_assoc 2 a z] at h
    omega
  obtain ⟨i1,i2⟩:=zne hS hW ts (2*(k-min a k)) (fun d hd=>ha d (by simp [hd])) h2
  have hlen:(rnd S (ts.length+1)).length=S.length+(rnd S ts.length).length / 2:=by
   show (mrg _ _).length=_
   rw [(z10 _ _).length_eq,List.length_append,zw]
  refine ⟨by simp only [List.length_cons];rw [hlen];omega,?_⟩
  simp only [List.length_cons,List.map_cons,List.sum_cons]
  have hm:=z4g S (z01 (rnd S ts.length) ((rnd S ts.length).length / 2)) (min a k) (k-min a k) hS (hW _) (by omega) (by rw [zw];omega)
  rw [z5h _ _ _ (by omega),z8m zjr _ _ (by omega),show min a k+(k-min a k)=k by omega] at hm
  have hP:tot Pc.wt (S.take (min a k))<=tot Pc.wt (S.take a):=by
   rw [z2l _ dpc S _ (by omega),z2l _ dpc S _ haS]
   exact zp4 _ (by omega)
  show tot Pc.wt ((mrg _ _).take k)<=_
  omega
def cnt (q:Nat->Bool) (n:Nat):Nat:=zg (fun k=>if q k=true then 1 else 0) n
theorem zd7 (q:Nat->Bool):∀ n,cnt q n<=n
 | 0=>Nat.le_refl _
 | n+1=>by
  have:=zd7 q n;unfold cnt at this ⊢
  simp only [zg]
  split <;> omega
theorem zg1 (w:Nat->Nat) (q:Nat->Bool):∀ n,(∀ i j,i<=j->j<n->w i<=w j)->zg w (cnt q n)<=zg (fun k=>if q k=true then w k else 0) n
 | 0,_=>Nat.le_refl _
 | n+1,h=>by
  have ih:=zg1 w q n (fun i j h1 h2=>h i j h1 (by omega))
  have hc:=zd7 q n;unfold cnt at ih hc ⊢
  simp only [zg]
  by_cases hq:q n=true
  ·simp only [hq,if_true]
   simp only [zg]
   have:=h _ n hc (by omega)
   omega
  ·simp only [hq,if_false]
   simpa using ih
def al (n L:Nat) (lm:Nat->Nat):Nat->List Nat
 | 0=>[]
 | r+1=>cnt (fun k=>decide (L-r<=lm k)) n :: al n L lm r
theorem z8v (n L:Nat) (lm:Nat->Nat):∀ r,(al n L lm r).length=r
 | 0=>rfl
 | r+1=>by simp [al,z8v n L lm r]
theorem zhn (n L:Nat) (lm:Nat->Nat):∀ r,∀ a ∈ al n L lm r,a<=n
 | 0,a,h=>by simp [al] at h
 | r+1,a,h=>by
  rcases List.mem_cons.1 h with rfl | h
  ·exact zd7 _ _
  ·exact zhn n L lm r a h
theorem zkf (n L:Nat) (lm:Nat->Nat) (hm:∀ k,k<n->lm k<=L):∀ r,r<=L->zg (fun k=>2 ^ (min r (L-lm k))) n+pmv (al n L lm r)=n*2 ^ r
 | 0,_=>by
  simp only [Nat.zero_min,Nat.pow_zero,al,pmv]
  rw [z1d]
  omega
 | r+1,hr=>by
  have ih:=zkf n L lm hm r (by omega)
  simp only [al,pmv]
  rw [z8v];have e:zg (fun k=>2 ^ (min (r+1) (L-lm k))) n+zg (fun k=>(if decide (L-r<=lm k)=true then 1 else 0)*2 ^ r) n=zg (fun k=>2 ^ (min r (L-lm k))) n+zg (fun _=>2 ^ r) n:=by
   rw [<-z1u,<-z1u];refine z04 fun k hk=>?_
   have hmk:=hm k hk
   by_cases h:L-r<=lm k
   ·simp only [h,decide_true,if_true]
    rw [show min (r+1) (L-lm k)=min r (L-lm k) by omega]
    omega
   ·simp only [h,decide_false]
    rw [show min (r+1) (L-lm k)=r+1 by omega,show min r (L-lm k)=r by omega,Nat.pow_succ]
    simp
    omega
  have e2:zg (fun k=>(if decide (L-r<=lm k)=true then 1 else 0)*2 ^ r) n=cnt (fun k=>decide (L-r<=lm k)) n*2 ^ r:=by
   unfold cnt;rw [Nat.mul_comm,<-z7k];exact z04 fun k _=>Nat.mul_comm _ _
  rw [e2,z1d] at e;rw [Nat.pow_succ,Nat.mul_comm _ 2,Nat.mul_left_comm,Nat.two_mul];generalize 2 ^ r=z at *
  omega
theorem zmy (n L:Nat) (lm w:Nat->Nat) (hw:∀ i j,i<=j->j<n->w i<=w j) (hm:∀ k,k<n->lm k<=L):∀ r,r<=L->((al n L lm r).map (fun a=>zg w a)).sum<=zg (fun k=>w k*(lm k-(L-r))) n
 | 0,_=>by simp [al]
 | r+1,hr=>by
  have ih:=zmy n L lm w hw hm r (by omega)
  have hc:=zg1 w (fun k=>decide (L-r<=lm k)) n hw
  simp only [al,List.map_cons,List.sum_cons]
  have e:zg (fun k=>w k*(lm k-(L-(r+1)))) n=zg (fun k=>if decide (L-r<=lm k)=true then w k else 0) n+zg (fun k=>w k*(lm k-(L-r))) n:=by
   rw [<-z1u];refine z04 fun k hk=>?_
   by_cases h:L-r<=lm k
   ·simp only [h,decide_true,if_true]
    rw [show lm k-(L-(r+1))=lm k-(L-r)+1 by omega,Nat.mul_add]
    omega
   ·simp only [h,decide_false]
    rw [show lm k-(L-(r+1))=0 by omega,show lm k-(L-r)=0 by omega]
    simp
  rw [e];exact Nat.add_le_add hc ih
theorem best {S:List Pc} (hS:WS S) (hW:∀ r,WS (z01 (rnd S r) ((rnd S r).length / 2))) {L:Nat} (lm:Nat->Nat) (hn:1<=S.length) (h1:∀ k,k<S.length->lm k<=L) (hK:zg (fun k=>2 ^ (L-lm k)) S.length<=2 ^ L):tot Pc.wt ((rnd S L).take (2*S.length-2))<=zg (fun k=>(S.getD k dpc).wt*lm k) S.length:=by
 have hv:=zkf S.length L lm h1 L nl;have e:zg (fun k=>2 ^ (min L (L-lm k))) S.length=zg (fun k=>2 ^ (L-lm k)) S.length:=z04 fun k hk=>by rw [show min L (L-lm k)=L-lm k by omega]
 rw [e] at hv;have hl:=zne hS hW (al S.length L lm L) (2*S.length-2) (zhn _ _ _ _) (by
  rw [z8v];obtain ⟨m,hm⟩:∃ m,S.length=m+1:=⟨S.length-1,by omega⟩
  rw [hm] at hv hK ⊢;generalize zg (fun k=>2 ^ (L-lm k)) (m+1)=q at *
  generalize pmv (al (m+1) L lm L)=v at *;generalize 2 ^ L=z at *;rw [show 2*(m+1)-2=2*m by omega,Nat.mul_assoc]
  rw [Nat.add_mul,Nat.one_mul] at hv
  omega)
 rw [z8v] at hl;have hmon:∀ i j,i<=j->j<S.length->(S.getD i dpc).wt<=(S.getD j dpc).wt:=fun i j hij hj=>by
  by_cases e:i=j
  ·subst e;exact Nat.le_refl _
  ·have:=List.pairwise_iff_getElem.1 hS i j (by omega) hj (by omega)
   rw [List.getD_eq_getElem?_getD,List.getElem?_eq_getElem (by omega),List.getD_eq_getElem?_getD,List.getElem?_eq_getElem hj]
   exact this
 have ha:=zmy S.length L lm (fun k=>(S.getD k dpc).wt) hmon h1 L nl
 have e2:((al S.length L lm L).map (fun a=>tot Pc.wt (S.take a)))=(al S.length L lm L).map (fun a=>zg (fun k=>(S.getD k dpc).wt) a):=List.map_congr_left fun a h=>z2l _ dpc S a (zhn _ _ _ _ a h)
 have e3:zg (fun k=>(S.getD k dpc).wt*(lm k-(L-L))) S.length=zg (fun k=>(S.getD k dpc).wt*lm k) S.length:=z04 fun k _=>by rw [Nat.sub_self,Nat.sub_zero]
 rw [e2] at hl;rw [e3] at ha;exact Nat.le_trans hl.2 ha
end Go.Proofs.YtjmcjbmjgpponaaGreatDoor
