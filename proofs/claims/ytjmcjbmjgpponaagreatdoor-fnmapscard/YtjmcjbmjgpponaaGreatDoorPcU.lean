import Derived.Test.YtjmcjbmjgpponaaGreatDoorCut
namespace Go.Proofs.YtjmcjbmjgpponaaGreatDoor
set_option linter.unusedVariables false
section
variable {P : Program} {ops : Array Oper} {md : Region.Mode} {Q : Exit -> Act -> World -> Prop} {S : World -> Prop}
theorem tk (i:Nat) {oi:Oper} {v:Value} {fuel:Nat} {listed:Array Bool} {a:Act} {w:World} 
  (h:wpAnyH P md ops Q S fuel (listed.setIfInBounds i true) (a.put oi.dst v) w) (hi:ops[i]?=some oi:=by rfl) (hs:Region.noSelect ops=true:=by kernel_rfl) (hf:Region.free md ops listed i=true:=by kernel_rfl) (hr:(Region.ready md ops listed).contains i=true:=by kernel_rfl)
  (hQ:∀ c a w,Q (.panic c) (a.put oi.dst v) w->Q (.panic c) a w:=by exact fun _ _ _ h=>h) (hg:Region.wanted oi (yielded ops a.tmps)=true:=by rfl) (hS:S w:=by assumption)
(y:∀ w,S w->(execOp a.eval oi).run P w=.ok (.value v) w:=by intro w hSw;(try dsimp only at hSw);go_simp;try (with_reducible rfl)):wpAnyH P md ops Q S (fuel+1) listed a w:=
 wpAnyH_take hi hs hf hr hQ (Or.inl ⟨hg,y⟩) hS h
theorem tu (i:Nat) {oi:Oper} {fuel:Nat} {listed:Array Bool} {a:Act} {w:World}
  (h:wpAnyH P md ops Q S fuel (listed.setIfInBounds i true) (a.put oi.dst undef) w) (hi:ops[i]?=some oi:=by rfl) (hs:Region.noSelect ops=true:=by kernel_rfl) (hf:Region.free md ops listed i=true:=by kernel_rfl) (hr:(Region.ready md ops listed).contains i=true:=by kernel_rfl)
  (hQ:∀ c a w,Q (.panic c) (a.put oi.dst undef) w->Q (.panic c) a w:=by exact fun _ _ _ h=>h) (hg:Region.wanted oi (yielded ops a.tmps)=false:=by rfl) (hS:S w:=by assumption):wpAnyH P md ops Q S (fuel+1) listed a w:=
 wpAnyH_take hi hs hf hr hQ (Or.inr ⟨hg,rfl⟩) hS h
end
theorem tkS :(∀ (α:Type) (l:List α) (i:Nat) (h:i<l.toArray.size),l.toArray[i]=l[i]'(by simpa using h))/\(∀ (α:Type) (a:α) (l:List α) (h:0<(a :: l).length),(a :: l)[0]=a)/\(∀ (α:Type) (a:α) (l:List α) (i:Nat) (h:i+1<(a :: l).length),(a :: l)[i+1]=l[i]'(Nat.lt_of_succ_lt_succ h)) /\
  (∀ (a:Act) (d:Tmp) (v:Value),a.put (some d) v={ a with tmps:=a.tmps.setIfInBounds d v })/\(∀ (a:Act) (v:Value),a.put none v=a)/\(∀ (α:Type) (l:List α) (i:Nat) (a:α),l.toArray.setIfInBounds i a=(l.set i a).toArray)/\(∀ (α:Type) (a:α) (l:List α) (b:α),(a :: l).set 0 b=b :: l)/\(∀ (α:Type) (a:α) (l:List α) (i:Nat) (b:α),(a :: l).set (i+1) b=a :: l.set i b):=
 ⟨fun _ _ _ _=>by simp,fun _ _ _ _=>rfl,fun _ _ _ _ _=>rfl,fun _ _ _=>rfl,fun _ _=>rfl,fun _ _ _ _=>by simp,fun _ _ _ _=>rfl,fun _ _ _ _ _=>rfl⟩
open Go.RowKit
set_option linter.unusedSimpArgs false
def z02 (zs:List Int):Nat->List Pc
 | 0=>[]
 | k+1=>if 0<zs.getD k 0 then z02 zs k++[.coin k (zs.getD k 0).toNat] else z02 zs k
theorem z5e (zs:List Int):∀ k,(z02 zs k).length<=k
 | 0=>Nat.le_refl _
 | k+1=>by
  have:=z5e zs k
  simp only [z02]
  split
  ·simp;omega
  ·omega
def z01 (l:List Pc):Nat->List Pc
 | 0=>[]
 | k+1=>z01 l k++[.pack (l.getD (2*k) dpc) (l.getD (2*k+1) dpc) k]
theorem zw (l:List Pc):∀ k,(z01 l k).length=k
 | 0=>rfl
 | k+1=>by simp [z01,zw l k]
def Pc.sz :Pc->Nat
 | .coin s c=>1
 | .pack a b n=>a.sz+b.sz
def Pc.ok (n:Nat):Pc->Prop
 | .coin s c=>s<n/\1<=c
 | .pack a b m=>a.ok n/\b.ok n
def z1f :Pc->List Int->List Int
 | .coin s c,zs=>zz zs s
 | .pack a b n,zs=>z1f b (z1f a zs)
theorem z5a (p:Pc):∀ zs:List Int,(z1f p zs).length=zs.length:=by
 induction p with
 | coin s c=>intro zs;exact z4y zs s
 | pack a b n iha ihb=>intro zs;rw [z1f,ihb,iha]
theorem zlq (p:Pc):∀ (zs:List Int) (M:Int),0<=M->(∀ z ∈ zs,0<=z/\z<=M)->∀ z ∈ z1f p zs,0<=z/\z<=M+p.sz:=by
 induction p with
 | coin s c=>intro zs M h0 h;exact z88 h h0
 | pack a b n iha ihb=>
  intro zs M h0 h z hz
  have h1:=ihb (z1f a zs) (M+a.sz) (by omega) (iha zs M h0 h) z hz
  simp only [Pc.sz]
  omega
theorem zqq {n:Nat} (p:Pc):p.ok n->p.sz<=p.wt:=by
 induction p with
 | coin s c=>intro h;exact h.2
 | pack a b m iha ihb=>
  intro h
  have h1:=iha h.1;have h2:=ihb h.2
  simp only [Pc.sz,Pc.wt]
  omega
def CI (F:FuncId) (x:Value) (p:Pc):Prop:=∀ (B g cap:Nat) (zs:List Int) (W:World) (M:Int),OwI W B g cap zs->p.ok zs.length->0<=M->(∀ z ∈ zs,0<=z/\z<=M)->M+p.sz<=1000000000000000000 ->
 Calls Tryz.prog F #[x,.slice (some ⟨g,0,none⟩) zs.length cap] W fun e w'=>e=.returned (.tuple #[])/\OwI w' B g cap (z1f p zs)/\Only (fun k=>k=g) W w'
def mrg :List Pc->List Pc->List Pc
 | [],b=>b
 | a :: ar,[]=>a :: ar
 | a :: ar,b :: br=>if a.wt<=b.wt then a :: mrg ar (b :: br) else b :: mrg (a :: ar) br
termination_by a b=>a.length+b.length
def z47 (p:Pc):List Pc->List Pc
 | []=>[p]
 | q :: l=>if q.wt<=p.wt then q :: z47 p l else p :: q :: l
def srt (zs:List Int):Nat->List Pc
 | 0=>[]
 | k+1=>if 0<zs.getD k 0 then z47 (.coin k (zs.getD k 0).toNat) (srt zs k) else srt zs k
def rnd (S:List Pc):Nat->List Pc
 | 0=>[]
 | k+1=>mrg S (z01 (rnd S k) ((rnd S k).length / 2))
theorem z3u (p:Pc):∀ l,(z47 p l).Perm (l++[p])
 | []=>List.Perm.refl _
 | q :: l=>by
  simp only [z47]
  split
  ·exact List.Perm.cons q (z3u p l)
  ·exact (List.perm_append_singleton p (q :: l)).symm
theorem z10 :∀ a b,(mrg a b).Perm (a++b)
 | [],b=>by rw [mrg];exact List.Perm.refl _
 | a :: ar,[]=>by rw [mrg];simp
 | a :: ar,b :: br=>by
  rw [mrg]
  split
  ·exact List.Perm.cons a (z10 ar (b :: br))
  ·exact (List.Perm.cons b (z10 (a :: ar) br)).trans (List.perm_middle (a:=b) (l₁:=a :: ar) (l₂:=br)).symm
termination_by a b=>a.length+b.length
theorem z1c (zs:List Int):∀ k,(srt zs k).Perm (z02 zs k)
 | 0=>List.Perm.refl _
 | k+1=>by
  simp only [srt,z02]
  split
  ·exact (z3u _ _).trans (List.Perm.append_right _ (z1c zs k))
  ·exact z1c zs k
def KS (l:List Pc):Prop:=l.Pairwise (fun p q=>p.key<q.key)
theorem zi3 {p q:Pc} (hq:q.plc<1024) (hp:p.plc<1024) (h:p.wt<q.wt):p.key<q.key:=by
 unfold Pc.key
 omega
theorem zg8 {p:Pc} (hp:p.plc<1024):∀ {l:List Pc},KS l->(∀ q ∈ l,q.plc<p.plc)->KS (z47 p l)
 | [],_,_=>by simp [z47,KS]
 | q :: l,h,hl=>by
  obtain ⟨h1,h2⟩:=List.pairwise_cons.1 h;have hq:=hl q (by simp)
  simp only [z47]
  split
  ·rename_i hw
   refine List.pairwise_cons.2 ⟨fun r hr=>?_,zg8 hp h2 (fun r hr=>hl r (by simp [hr]))⟩
   have hm:=(z3u p l).mem_iff.1 hr;rcases List.mem_append.1 hm with hm | hm
   ·exact h1 r hm
   ·simp at hm
    subst hm;unfold Pc.key
    omega
  ·rename_i hw
   have hlt:p.key<q.key:=zi3 (by omega) hp (by omega)
   refine List.pairwise_cons.2 ⟨fun r hr=>?_,h⟩
   rcases List.mem_cons.1 hr with rfl | hr
   ·exact hlt
   ·have:=h1 r hr
    omega
theorem z71 (zs:List Int):∀ k,∀ q ∈ srt zs k,q.plc<k
 | 0,q,h=>by simp [srt] at h
 | k+1,q,h=>by
  simp only [srt] at h
  split at h
  ·rcases List.mem_append.1 ((z3u _ _).mem_iff.1 h) with h | h
   ·have:=z71 zs k q h;omega
   ·simp at h;subst h;simp [Pc.plc]
  ·have:=z71 zs k q h;omega
theorem z8p (zs:List Int):∀ k,k<=80->KS (srt zs k)
 | 0,_=>List.Pairwise.nil
 | k+1,hk=>by
  simp only [srt]
  split
  ·exact zg8 (by simp [Pc.plc];omega) (z8p zs k (by omega)) (fun q hq=>by have:=z71 zs k q hq;simpa [Pc.plc] using this)
  ·exact z8p zs k (by omega)
theorem zdg :∀ {a b:List Pc},KS a->KS b->(∀ p ∈ a,p.plc<80)->(∀ q ∈ b,80<=q.plc/\q.plc<1024)->KS (mrg a b)
 | [],b,_,hb,_,_=>by rw [mrg];exact hb
 | a :: ar,[],ha,_,_,_=>by rw [mrg];exact ha
 | a :: ar,b :: br,ha,hb,h1,h2=>by
  obtain ⟨a1,a2⟩:=List.pairwise_cons.1 ha;obtain ⟨b1,b2⟩:=List.pairwise_cons.1 hb;have ha0:=h1 a (by simp)
  have hb0:=h2 b (by simp)
  rw [mrg]
  split
  ·rename_i hw
   have hab:a.key<b.key:=by unfold Pc.key;omega
   refine List.pairwise_cons.2 ⟨fun r hr=>?_,zdg a2 hb (fun p hp=>h1 p (by simp [hp])) h2⟩
   rcases List.mem_append.1 ((z10 _ _).mem_iff.1 hr) with hr | hr
   ·exact a1 r hr
   ·rcases List.mem_cons.1 hr with rfl | hr
    ·exact hab
    ·have:=b1 r hr;omega
  ·rename_i hw
   have hab:b.key<a.key:=by unfold Pc.key;omega
   refine List.pairwise_cons.2 ⟨fun r hr=>?_,zdg ha b2 h1 (fun q hq=>h2 q (by simp [hq]))⟩
   rcases List.mem_append.1 ((z10 _ _).mem_iff.1 hr) with hr | hr
   ·rcases List.mem_cons.1 hr with rfl | hr
    ·exact hab
    ·have:=a1 r hr;omega
   ·exact b1 r hr
termination_by a b=>a.length+b.length
theorem z3m (l:List Pc) (n i:Nat) (hi:i<n):(z01 l n).getD i dpc=.pack (l.getD (2*i) dpc) (l.getD (2*i+1) dpc) i:=by
 induction n with
 | zero=>omega
 | succ n ih=>
  simp only [z01]
  rw [List.getD_eq_getElem?_getD]
  by_cases h:i<n
  ·rw [List.getElem?_append_left (by rw [zw];exact h),<-List.getD_eq_getElem?_getD]
   exact ih h
  ·have hin:i=n:=by omega
   subst hin;rw [List.getElem?_append_right (by rw [zw];exact Nat.le_refl _),zw]
   simp
theorem zjm {l:List Pc} {n:Nat} {p:Pc} (h:p ∈ z01 l n):∃ i,i<n/\p=.pack (l.getD (2*i) dpc) (l.getD (2*i+1) dpc) i:=by
 obtain ⟨i,hi,rfl⟩:=List.getElem_of_mem h;have hin:i<n:=by rw [zw] at hi;exact hi
 refine ⟨i,hin,?_⟩;rw [<-z3m l n i hin,List.getD_eq_getElem?_getD,List.getElem?_eq_getElem hi]
 rfl
theorem zlj {l:List Pc} (h:KS l) (hp:∀ p ∈ l,p.plc<1024) (hl:l.length<=160):KS (z01 l (l.length / 2)):=by
 have hw:∀ i j,i<j->j<l.length->(l.getD i dpc).wt<=(l.getD j dpc).wt:=fun i j hij hj=>by
  have h1:=List.pairwise_iff_getElem.1 h i j (by omega) hj hij
  have e1:l.getD i dpc=l[i]:=by simp [List.getD_eq_getElem?_getD,show i<l.length by omega]
  have e2:l.getD j dpc=l[j]:=by simp [List.getD_eq_getElem?_getD,hj]
  have p1:=hp l[i] (List.getElem_mem _);have p2:=hp l[j] (List.getElem_mem _);rw [e1,e2];unfold Pc.key at h1
  omega
 refine List.pairwise_iff_getElem.2 fun i j hi hj hij=>?_
 rw [zw] at hi hj;have e1:=z3m l (l.length / 2) i hi;have e2:=z3m l (l.length / 2) j hj;rw [List.getD_eq_getElem?_getD,List.getElem?_eq_getElem (by rw [zw];exact hi)] at e1
 rw [List.getD_eq_getElem?_getD,List.getElem?_eq_getElem (by rw [zw];exact hj)] at e2
 simp only [Option.getD_some] at e1 e2
 rw [e1,e2];have w1:=hw (2*i) (2*j) (by omega) (by omega)
 have w2:=hw (2*i+1) (2*j+1) (by omega) (by omega)
 unfold Pc.key
 simp only [Pc.wt,Pc.plc]
 omega
theorem z57 {l:List Pc} {i:Nat} (h:i<l.length):l.getD i dpc ∈ l:=by
 rw [List.getD_eq_getElem?_getD,List.getElem?_eq_getElem h];exact List.getElem_mem _
theorem z96 (zs:List Int) (hz:∀ z ∈ zs,0<=z/\z<=1000000):∀ k,k<=zs.length->∀ p ∈ z02 zs k,p.wt<=1000000/\p.plc<k/\p.ok k/\∃ s c,p=.coin s c
 | 0,_,p,h=>by simp [z02] at h
 | k+1,hk,p,h=>by
  have ih:=z96 zs hz k (by omega)
  have up:∀ p ∈ z02 zs k,p.wt<=1000000/\p.plc<k+1/\p.ok (k+1)/\∃ s c,p=.coin s c:=fun p hp=>by
   obtain ⟨h1,h2,h3,s,c,rfl⟩:=ih p hp;exact ⟨h1,by omega,⟨by have:=h3.1;omega,h3.2⟩,s,c,rfl⟩
  simp only [z02] at h
  split at h
  ·rename_i hp
   rcases List.mem_append.1 h with h | h
   ·exact up p h
   ·simp only [List.mem_singleton] at h
    subst h;have:=hz _ (zp (show k<zs.length by omega))
    exact ⟨by simp only [Pc.wt];omega,by simp [Pc.plc],⟨Nat.lt_succ_self _,by omega⟩,_,_,rfl⟩
  ·exact up p h
def z4 (zs:List Int):List Pc:=srt zs zs.length
theorem z98 (zs:List Int):(z4 zs).length=(z02 zs zs.length).length:=(z1c zs zs.length).length_eq
theorem z4t {zs:List Int} (hz:∀ z ∈ zs,0<=z/\z<=1000000):∀ p ∈ z4 zs,p.wt<=1000000/\p.plc<zs.length/\p.ok zs.length/\∃ s c,p=.coin s c:=fun p hp=>z96 zs hz zs.length nl p ((z1c zs zs.length).mem_iff.1 hp)
theorem z76 {zs:List Int} (hz:∀ z ∈ zs,0<=z/\z<=1000000) (hn:zs.length<=80):∀ k,KS (rnd (z4 zs) k)/\(∀ p ∈ rnd (z4 zs) k,p.wt<=1000000*2 ^ k/\p.plc<240/\p.ok zs.length)/\(rnd (z4 zs) k).length<=2*(z4 zs).length
 | 0=>⟨List.Pairwise.nil,by simp [rnd],by simp [rnd]⟩
 | k+1=>by
  obtain ⟨h1,h2,h3⟩:=z76 hz hn k;have hm:(z4 zs).length<=80:=by rw [z98];have:=z5e zs zs.length;omega
  have hpk:=zlj h1 (fun p hp=>by have:=(h2 p hp).2.1;omega) (by omega)
  have hpm:∀ p ∈ z01 (rnd (z4 zs) k) ((rnd (z4 zs) k).length / 2),p.wt<=1000000*2 ^ (k+1)/\80<=p.plc/\p.plc<240/\p.ok zs.length:=fun p hp=>by
   obtain ⟨i,hi,rfl⟩:=zjm hp;obtain ⟨a1,a2,a3⟩:=h2 _ (z57 (show 2*i<(rnd (z4 zs) k).length by omega))
   obtain ⟨b1,b2,b3⟩:=h2 _ (z57 (show 2*i+1<(rnd (z4 zs) k).length by omega))
   refine ⟨?_,by simp only [Pc.plc];omega,by simp only [Pc.plc];omega,a3,b3⟩
   simp only [Pc.wt]
   rw [Nat.pow_succ]
   omega
  have h2p:1<=2 ^ (k+1):=Nat.one_le_two_pow;refine ⟨zdg (z8p zs zs.length hn) hpk (fun p hp=>by have:=(z4t hz p hp).2.1;omega) (fun p hp=>by have:=hpm p hp;omega),?_,?_⟩
  ·intro p hp
   rcases List.mem_append.1 ((z10 _ _).mem_iff.1 hp) with hp | hp
   ·obtain ⟨c1,c2,c3,_⟩:=z4t hz p hp
    refine ⟨Nat.le_trans c1 ?_,by omega,c3⟩
    exact Nat.le_mul_of_pos_right _ (by omega)
   ·obtain ⟨c1,c2,c3,c4⟩:=hpm p hp
    exact ⟨c1,c3,c4⟩
  ·show (mrg _ _).length<=_
   rw [(z10 _ _).length_eq,List.length_append,zw]
   omega
theorem ze4 (S:List Pc) (L:Nat) (h:S.length<=2 ^ L):∀ k,k<=L->2*S.length<=(rnd S (k+1)).length+2 ^ (L-k)
 | 0,_=>by
  show _<=(mrg _ _).length+_
  rw [(z10 _ _).length_eq,List.length_append]
  simp only [Nat.sub_zero]
  omega
 | k+1,hk=>by
  have ih:=ze4 S L h k (by omega)
  show _<=(mrg _ _).length+_
  rw [(z10 _ _).length_eq,List.length_append,zw];have e:2 ^ (L-k)=2*2 ^ (L-(k+1)):=by rw [show L-k=(L-(k+1))+1 by omega,Nat.pow_succ,Nat.mul_comm]
  omega
theorem z97 (S:List Pc) (L:Nat) (hL:1<=L) (h:S.length<=2 ^ L):2*S.length-2<=(rnd S L).length:=by
 have:=ze4 S L h (L-1) (by omega)
 rw [show L-1+1=L by omega,show L-(L-1)=1 by omega] at this
 omega
def z0m :List Pc->List Int->List Int
 | [],zs=>zs
 | p :: l,zs=>z0m l (z1f p zs)
theorem zk9 (l:List Pc) (p:Pc):∀ zs,z0m (l++[p]) zs=z1f p (z0m l zs):=by
 induction l with
 | nil=>intro zs;rfl
 | cons q l ih=>intro zs;exact ih _
theorem zdj (l:List Pc):∀ zs,(z0m l zs).length=zs.length:=by
 induction l with
 | nil=>intro zs;rfl
 | cons q l ih=>intro zs;rw [z0m,ih,z5a]
def zfs (zs:List Int) (x:Int):Prop:=z1y zs=true/\1<=x/\x<=12/\1<=(z4 zs).length/\(z4 zs).length<=2 ^ x.toNat
def z0w (zs:List Int) (L:Nat):List Int:=if (z4 zs).length=1 then z1f ((z4 zs).getD 0 dpc) (List.replicate zs.length 0) else z0m ((rnd (z4 zs) L).take (2*(z4 zs).length-2)) (List.replicate zs.length 0)
theorem z63 (zs:List Int) (L:Nat):(z0w zs L).length=zs.length:=by
 unfold z0w
 split
 ·rw [z5a];simp
 ·rw [zdj];simp
end Go.Proofs.YtjmcjbmjgpponaaGreatDoor
