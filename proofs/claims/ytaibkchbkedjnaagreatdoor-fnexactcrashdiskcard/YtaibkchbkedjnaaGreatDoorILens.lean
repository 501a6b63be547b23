import Derived.Test.YtaibkchbkedjnaaGreatDoorElTo
import Derived.Test.YtaibkchbkedjnaaGreatDoorPour
set_option maxRecDepth 20000
set_option maxHeartbeats 16000000
namespace Go.Proofs.YtaibkchbkedjnaaGreatDoor
open Go.RowKit
set_option linter.unusedVariables false
def nou :List Int->Nat
 | []=>0
 | z :: t=>if z=0 then nou t+1 else 0
theorem zff (l:List Int):nou l<=l.length:=by
 induction l with
 | nil=>simp [nou]
 | cons z t ih=>simp only [nou,List.length_cons];split <;> omega
theorem zh8 (l:List Int) (k:Nat) (h:k<nou l):l.getD k 0=0:=by
 induction l generalizing k with
 | nil=>simp [nou] at h
 | cons z t ih=>
  simp only [nou] at h
  split at h
  ·rename_i hz
   cases k with
   | zero=>simpa using hz
   | succ k=>simpa using ih k (by omega)
  ·omega
theorem zhn (l:List Int) (h:nou l<l.length):l.getD (nou l) 0≠0:=by
 induction l with
 | nil=>simp [nou] at h
 | cons z t ih=>
  by_cases hz:z=0
  ·have e:nou (z :: t)=nou t+1:=by simp [nou,hz]
   rw [e] at h ⊢
   simpa using ih (by simpa using h)
  ·have e:nou (z :: t)=0:=by simp [nou,hz]
   rw [e]
   simpa using hz
def run (zs:List Int) (i:Nat):Nat:=min (nou (zs.drop (i+1))) 7
def lp (zs:List Int):Nat->Nat->Nat->Nat->Nat × Nat
 | 0,_,n,V=>(n,V)
 | f+1,i,n,V=>if i<zs.length then (if zs.getD i 0=0 then lp zs f (i+1+run zs i) (n+7) (V+run zs i*2 ^ (n+4)) else lp zs f (i+1) (n+4) (V+(zs.getD i 0).toNat*2 ^ n)) else (n,V)
def lpF (zs:List Int):Nat × Nat:=lp zs zs.length 0 0 0
theorem zay (zs:List Int) (f i n V:Nat) (h:¬i<zs.length):lp zs f i n V=(n,V):=by
 cases f with
 | zero=>rfl
 | succ f=>simp [lp,h]
theorem z7p (zs:List Int) (f i n V:Nat) (h:i<zs.length) (hz:zs.getD i 0=0):lp zs (f+1) i n V=lp zs f (i+1+run zs i) (n+7) (V+run zs i*2 ^ (n+4)):=by
 simp only [lp];rw [if_pos h,if_pos hz]
theorem zc9 (zs:List Int) (f i n V:Nat) (h:i<zs.length) (hz:¬zs.getD i 0=0):lp zs (f+1) i n V=lp zs f (i+1) (n+4) (V+(zs.getD i 0).toNat*2 ^ n):=by
 simp only [lp];rw [if_pos h,if_neg hz]
theorem zln (zs:List Int) (f i n V:Nat):(lp zs f i n V).1<=n+7*f:=by
 induction f generalizing i n V with
 | zero=>simp [lp]
 | succ f ih=>
  simp only [lp]
  split
  ·split
   ·have:=ih (i+1+run zs i) (n+7) (V+run zs i*2 ^ (n+4));omega
   ·have:=ih (i+1) (n+4) (V+(zs.getD i 0).toNat*2 ^ n);omega
  ·simp
theorem zgx (zs:List Int) (i:Nat) (h:i<zs.length):run zs i<=7/\i+1+run zs i<=zs.length:=by
 have:=zff (zs.drop (i+1));rw [List.length_drop] at this;unfold run
 omega
theorem z97 (zs:List Int) (i j:Nat):(zs.drop i).getD j 0=zs.getD (i+j) 0:=by simp [List.getD_eq_getElem?_getD]
theorem zl6 (zs:List Int) (i j:Nat) (hj:j<run zs i):j<7/\i+j+1<zs.length/\zs.getD (i+j+1) 0=0:=by
 have h1:j<nou (zs.drop (i+1)):=by unfold run at hj;omega
 have h2:=zff (zs.drop (i+1));rw [List.length_drop] at h2;have h3:=zh8 _ j h1;rw [z97] at h3;refine ⟨by unfold run at hj;omega,by omega,?_⟩
 rw [<-h3];congr 1;omega
theorem zdf (zs:List Int) (i:Nat) (hi:i<zs.length) (h7:run zs i<7) (hl:i+run zs i+1<zs.length):zs.getD (i+run zs i+1) 0≠0:=by
 have h1:run zs i=nou (zs.drop (i+1)):=by unfold run at *;omega
 have h2:=zhn (zs.drop (i+1)) (by rw [List.length_drop,<-h1];omega)
 rw [<-h1,z97] at h2
 intro h
 apply h2
 rw [<-h];congr 1;omega
def bt (V p k:Nat):Nat:=V / 2 ^ p % 2 ^ k
theorem z00 (V p k:Nat):bt V p k<2 ^ k:=Nat.mod_lt _ (Nat.two_pow_pos k)
theorem z1g (V p a b:Nat):bt V p (a+b)=bt V p a+2 ^ a*bt V (p+a) b:=by
 unfold bt;rw [Nat.pow_add,Nat.mod_mul,Nat.div_div_eq_div_mul,<-Nat.pow_add]
theorem z7a (V p:Nat):bt V p 0=0:=by unfold bt;simp [Nat.mod_one]
theorem zb6 (zs:List Int) (f i n V:Nat):lp zs f i n V=(n+(lp zs f i 0 0).1,V+(lp zs f i 0 0).2*2 ^ n):=by
 induction f generalizing i n V with
 | zero=>simp [lp]
 | succ f ih=>
  simp only [lp]
  by_cases h:i<zs.length
  ·rw [if_pos h,if_pos h]
   by_cases hz:zs.getD i 0=0
   ·rw [if_pos hz,if_pos hz,ih (i+1+run zs i) (n+7),ih (i+1+run zs i) (0+7)]
    generalize lp zs f (i+1+run zs i) 0 0=u;generalize run zs i=r
    simp only [Prod.mk.injEq]
    refine ⟨by omega,?_⟩
    rw [Nat.pow_add,Nat.pow_add];generalize 2 ^ n=P
    grind
   ·rw [if_neg hz,if_neg hz,ih (i+1) (n+4),ih (i+1) (0+4)]
    generalize lp zs f (i+1) 0 0=u;generalize (zs.getD i 0).toNat=r
    simp only [Prod.mk.injEq]
    refine ⟨by omega,?_⟩
    rw [Nat.pow_add];generalize 2 ^ n=P
    grind
  ·rw [if_neg h,if_neg h]
   simp
def gq (n V s:Nat):Nat->Nat->List Int->Option (List Int × Nat)
 | 0,p,out=>some (out,p)
 | f+1,p,out=>if out.length<s then (if p+4<=n then (if bt V p 4=0 then (if p+7<=n then gq n V s f (p+7) (out++[0]++List.replicate (bt V (p+4) 3) 0) else none) else gq n V s f (p+4) (out++[((bt V p 4:Nat):Int)])) else none) else some (out,p)
def gi (n V s:Nat):Nat->Nat->List Int->Bool->Option (List Int × Nat)
 | 0,p,out,e=>some (out,p)
 | f+1,p,out,e=>if out.length<s then (if p+4<=n then (if bt V p 4=0 then (if p+7<=n then (if e=true\/s<out.length+1+bt V (p+4) 3 then none else gi n V s f (p+7) (out++[0]++List.replicate (bt V (p+4) 3) 0) (decide (bt V (p+4) 3<7))) else none) else gi n V s f (p+4) (out++[((bt V p 4:Nat):Int)]) false) else none) else some (out,p)
theorem zki {n V s f q:Nat} {out:List Int} (h:¬out.length<s):gq n V s f q out=some (out,q):=by
 cases f with
 | zero=>rfl
 | succ f=>simp only [gq];rw [if_neg h]
theorem zlq {n V s f q:Nat} {out:List Int} (h:out.length<s) (h4:¬q+4<=n):gq n V s (f+1) q out=none:=by simp only [gq];rw [if_pos h,if_neg h4]
theorem zks {n V s f q:Nat} {out:List Int} (h:out.length<s) (h4:q+4<=n) (hx:¬bt V q 4=0):gq n V s (f+1) q out=gq n V s f (q+4) (out++[((bt V q 4:Nat):Int)]):=by simp only [gq];rw [if_pos h,if_pos h4,if_neg hx]
theorem zlt {n V s f q:Nat} {out:List Int} (h:out.length<s) (h4:q+4<=n) (hx:bt V q 4=0) (h7:¬q+7<=n):gq n V s (f+1) q out=none:=by simp only [gq];rw [if_pos h,if_pos h4,if_pos hx,if_neg h7]
theorem zjv {n V s f q:Nat} {out:List Int} (h:out.length<s) (hx:bt V q 4=0) (h7:q+7<=n):gq n V s (f+1) q out=gq n V s f (q+7) (out++[0]++List.replicate (bt V (q+4) 3) 0):=by simp only [gq];rw [if_pos h,if_pos (by omega),if_pos hx,if_pos h7]
theorem zkp {n V s f q:Nat} {out:List Int} {e:Bool} (h:¬out.length<s):gi n V s f q out e=some (out,q):=by
 cases f with
 | zero=>rfl
 | succ f=>simp only [gi];rw [if_neg h]
theorem zlu {n V s f q:Nat} {out:List Int} {e:Bool} (h:out.length<s) (h4:¬q+4<=n):gi n V s (f+1) q out e=none:=by simp only [gi];rw [if_pos h,if_neg h4]
theorem zkg {n V s f q:Nat} {out:List Int} {e:Bool} (h:out.length<s) (h4:q+4<=n) (hx:¬bt V q 4=0):gi n V s (f+1) q out e=gi n V s f (q+4) (out++[((bt V q 4:Nat):Int)]) false:=by simp only [gi];rw [if_pos h,if_pos h4,if_neg hx]
theorem zlr {n V s f q:Nat} {out:List Int} {e:Bool} (h:out.length<s) (h4:q+4<=n) (hx:bt V q 4=0) (h7:¬q+7<=n):gi n V s (f+1) q out e=none:=by simp only [gi];rw [if_pos h,if_pos h4,if_pos hx,if_neg h7]
theorem zkc {n V s f q:Nat} {out:List Int} {e:Bool} (h:out.length<s) (hx:bt V q 4=0) (h7:q+7<=n) (hb:e=true\/s<out.length+1+bt V (q+4) 3):gi n V s (f+1) q out e=none:=by simp only [gi];rw [if_pos h,if_pos (by omega),if_pos hx,if_pos h7,if_pos hb]
theorem zju {n V s f q:Nat} {out:List Int} {e:Bool} (h:out.length<s) (hx:bt V q 4=0) (h7:q+7<=n) (hb:¬(e=true\/s<out.length+1+bt V (q+4) 3)):gi n V s (f+1) q out e=gi n V s f (q+7) (out++[0]++List.replicate (bt V (q+4) 3) 0) (decide (bt V (q+4) 3<7)):=by simp only [gi];rw [if_pos h,if_pos (by omega),if_pos hx,if_pos h7,if_neg hb]
def z63 :Value->Nat
 | .slice _ n _=>n
 | _=>0
theorem zk3 (k:Nat) (t:List Int):nou (List.replicate k 0++t)=k+nou t:=by
 induction k with
 | zero=>simp
 | succ k ih=>rw [List.replicate_succ,List.cons_append];simp only [nou,if_true];rw [ih];omega
theorem zk6 (out rest:List Int) (k:Nat):run (out++[0]++List.replicate k 0++rest) out.length=min (k+nou rest) 7:=by
 unfold run;have e:(out++[0]++List.replicate k 0++rest).drop (out.length+1)=List.replicate k 0++rest:=by
  have h:out.length+1=(out++[(0:Int)]).length:=by simp
  rw [List.append_assoc,h,List.drop_left]
 rw [e,zk3]
theorem zin {t:List Int} (h:0<t.length->t.getD 0 0≠0):nou t=0:=by
 cases t with
 | nil=>rfl
 | cons z t=>simp only [nou];rw [if_neg (by simpa using h (by simp))]
theorem z22 (out rest:List Int):(out++rest).getD out.length 0=rest.getD 0 0:=by
 rw [List.getD_eq_getElem?_getD,List.getElem?_append_right nl,Nat.sub_self,List.getD_eq_getElem?_getD]
theorem zg8 (n V s:Nat) (f:Nat):∀ (p:Nat) (out:List Int) (e:Bool) (res:List Int) (q:Nat),s<=f+out.length->out.length<=s->gi n V s f p out e=some (res,q) ->
  (∃ rest,res=out++rest)/\res.length=s/\p<=q/\(e=true->out.length<s->res.getD out.length 0≠0)/\(∀ f' N U,s<=f'+out.length->lp res f' out.length N U=(N+(q-p),U+bt V p (q-p)*2 ^ N))/\gq n V s f p out=some (res,q):=by
 induction f with
 | zero=>
  intro p out e res q hf ho h
  simp only [gi,Option.some.injEq,Prod.mk.injEq] at h
  obtain ⟨rfl,rfl⟩:=h;refine ⟨⟨[],by simp⟩,by omega,Nat.le_refl _,fun _ h=>absurd h (by omega),fun f' N U _=>?_,rfl⟩
  rw [zay _ _ _ _ _ (by omega),Nat.sub_self,z7a]
  simp
 | succ f ih=>
  intro p out e res q hf ho h
  simp only [gi] at h
  by_cases h1:out.length<s
  ·rw [if_pos h1] at h
   by_cases h2:p+4<=n
   ·rw [if_pos h2] at h
    by_cases h3:bt V p 4=0
    ·rw [if_pos h3] at h
     by_cases h4:p+7<=n
     ·rw [if_pos h4] at h
      have hk:=z00 V (p+4) 3;generalize hke:bt V (p+4) 3=k at *
      by_cases h5:e=true\/s<out.length+1+k
      ·rw [if_pos h5] at h
       cases h
      ·rw [if_neg h5] at h
       have hl:(out++[0]++List.replicate k 0).length=out.length+1+k:=by simp;omega
       obtain ⟨⟨rest,hr⟩,r1,r2,r3,r4,r5⟩:=ih (p+7) (out++[0]++List.replicate k 0) (decide (k<7)) res q (by omega) (by omega) h
       have hrun:run res out.length=k:=by
        rw [hr,zk6]
        by_cases h7:k<7
        ·rw [zin (t:=rest) (fun hp=>?_)]
         ·omega
         ·have h8:=r3 (by simpa using h7) (by rw [hr,List.length_append] at r1;omega)
          rw [hr,z22] at h8;exact h8
        ·omega
       have hz:res.getD out.length 0=0:=by
        rw [hr,List.append_assoc,List.append_assoc,z22]
        rfl
       refine ⟨⟨[0]++List.replicate k 0++rest,by rw [hr];simp⟩,r1,by omega,fun he=>absurd (Or.inl he) h5,fun f' N U hf'=>?_,?_⟩
       ·obtain ⟨g,rfl⟩:∃ g,f'=g+1:=⟨f' - 1,by omega⟩
        rw [z7p _ _ _ _ _ (by omega) hz,hrun]
        rw [hl] at r4;rw [r4 g (N+7) _ (by omega),show q-p=4+(3+(q-(p+7))) by omega,z1g,h3,z1g,hke,show p+4+3=p+7 from rfl]
        generalize bt V (p+7) (q-(p+7))=u
        simp only [Prod.mk.injEq]
        refine ⟨by omega,?_⟩
        rw [Nat.pow_add,Nat.pow_add];generalize 2 ^ N=P
        grind
       ·simp only [gq]
        rw [if_pos h1,if_pos h2,if_pos h3,if_pos h4,hke];exact r5
     ·rw [if_neg h4] at h
      cases h
    ·rw [if_neg h3] at h
     have hl:(out++[((bt V p 4:Nat):Int)]).length=out.length+1:=by simp
     obtain ⟨⟨rest,hr⟩,r1,r2,r3,r4,r5⟩:=ih (p+4) (out++[((bt V p 4:Nat):Int)]) false res q (by omega) (by omega) h
     have hz:res.getD out.length 0=((bt V p 4:Nat):Int):=by
      rw [hr,List.append_assoc,z22]
      rfl
     refine ⟨⟨((bt V p 4:Nat):Int) :: rest,by rw [hr];simp⟩,r1,by omega,fun _ _=>by rw [hz];omega,fun f' N U hf'=>?_,?_⟩
     ·obtain ⟨g,rfl⟩:∃ g,f'=g+1:=⟨f' - 1,by omega⟩
      rw [zc9 _ _ _ _ _ (by omega) (by rw [hz];omega),hz]
      rw [hl] at r4;rw [r4 g (N+4) _ (by omega),show q-p=4+(q-(p+4)) by omega,z1g,Int.toNat_natCast]
      generalize bt V (p+4) (q-(p+4))=u;generalize bt V p 4=v
      simp only [Prod.mk.injEq]
      refine ⟨by omega,?_⟩
      rw [Nat.pow_add];generalize 2 ^ N=P
      grind
     ·simp only [gq]
      rw [if_pos h1,if_pos h2,if_neg h3];exact r5
   ·rw [if_neg h2] at h
    cases h
  ·rw [if_neg h1] at h
   simp only [Option.some.injEq,Prod.mk.injEq] at h
   obtain ⟨rfl,rfl⟩:=h;refine ⟨⟨[],by simp⟩,by omega,Nat.le_refl _,fun _ h=>absurd h (by omega),fun f' N U _=>?_,?_⟩
   ·rw [zay _ _ _ _ _ (by omega),Nat.sub_self,z7a]
    simp
   ·simp only [gq]
    rw [if_neg h1]
theorem zaw (n V s:Nat) (f:Nat):∀ (p:Nat) (out res:List Int) (q:Nat),gq n V s f p out=some (res,q)->(∃ rest,res=out++rest)/\p<=q/\(p<=n->q<=n):=by
 induction f with
 | zero=>
  intro p out res q h
  simp only [gq,Option.some.injEq,Prod.mk.injEq] at h
  obtain ⟨rfl,rfl⟩:=h;exact ⟨⟨[],by simp⟩,Nat.le_refl _,id⟩
 | succ f ih=>
  intro p out res q h
  simp only [gq] at h
  split at h
  ·split at h
   ·split at h
    ·split at h
     ·obtain ⟨⟨rest,hr⟩,h2,h3⟩:=ih _ _ _ _ h
      exact ⟨⟨[0]++List.replicate (bt V (p+4) 3) 0++rest,by rw [hr];simp⟩,by omega,fun _=>h3 (by omega)⟩
     ·cases h
    ·obtain ⟨⟨rest,hr⟩,h2,h3⟩:=ih _ _ _ _ h
     exact ⟨⟨((bt V p 4:Nat):Int) :: rest,by rw [hr];simp⟩,by omega,fun _=>h3 (by omega)⟩
   ·cases h
  ·simp only [Option.some.injEq,Prod.mk.injEq] at h
   obtain ⟨rfl,rfl⟩:=h;exact ⟨⟨[],by simp⟩,Nat.le_refl _,id⟩
theorem zl7 (n V s:Nat) (f:Nat):∀ (p:Nat) (out:List Int) (e:Bool) (res:List Int) (q f':Nat),s<=f+out.length->s<=f'+out.length->gq n V s f p out=some (res,q)->res.length=s->lp res f' out.length 0 0=(q-p,bt V p (q-p)) ->
  (e=true->out.length<s->res.getD out.length 0≠0)->gi n V s f p out e=some (res,q):=by
 induction f with
 | zero=>
  intro p out e res q f' hf hf' h hl hlp he
  simpa [gq,gi] using h
 | succ f ih=>
  intro p out e res q f' hf hf' h hl hlp he
  simp only [gq] at h
  simp only [gi]
  by_cases h1:out.length<s
  ·rw [if_pos h1] at h ⊢
   obtain ⟨g,rfl⟩:∃ g,f'=g+1:=⟨f' - 1,by omega⟩
   by_cases h2:p+4<=n
   ·rw [if_pos h2] at h ⊢
    by_cases h3:bt V p 4=0
    ·rw [if_pos h3] at h ⊢
     by_cases h4:p+7<=n
     ·rw [if_pos h4] at h ⊢
      have hk:=z00 V (p+4) 3;generalize hke:bt V (p+4) 3=k at *;have hl2:(out++[0]++List.replicate k 0).length=out.length+1+k:=by simp;omega
      obtain ⟨⟨rest,hr⟩,hq,-⟩:=zaw n V s f _ _ _ _ h;have hz:res.getD out.length 0=0:=by
       rw [hr,List.append_assoc,List.append_assoc,z22]
       rfl
      rw [z7p _ _ _ _ _ (by omega) hz,zb6,show q-p=4+(3+(q-(p+7))) by omega,z1g,h3,z1g,hke,show p+4+3=p+7 from rfl] at hlp
      have hrl:=zgx res out.length (by omega)
      have hk2:run res out.length=k/\lp res g (out.length+1+run res out.length) 0 0=(q-(p+7),bt V (p+7) (q-(p+7))):=by
       generalize run res out.length=r at *;generalize bt V (p+7) (q-(p+7))=u at *;generalize lp res g (out.length+1+r) 0 0=x at *
       simp only [Prod.mk.injEq] at hlp
       obtain ⟨e1,e2⟩:=hlp;obtain ⟨x1,x2⟩:=x
       simp only at e1 e2
       exact ⟨by omega,by simp only [Prod.mk.injEq];omega⟩
      obtain ⟨hrk,hlp2⟩:=hk2;rw [hrk] at hlp2 hrl;rw [if_neg (by
       rintro (h9 | h9)
       ·exact he h9 h1 hz
       ·omega)]
      refine ih (p+7) _ _ res q g (by omega) (by omega) h hl (by rw [hl2];exact hlp2) ?_
      intro h7 h8
      rw [hl2] at h8 ⊢;have h9:=zdf res out.length (by omega) (by rw [hrk];simpa using h7) (by rw [hrk];omega)
      rw [hrk,show out.length+k+1=out.length+1+k by omega] at h9
      exact h9
     ·rw [if_neg h4] at h
      cases h
    ·rw [if_neg h3] at h ⊢
     have hl2:(out++[((bt V p 4:Nat):Int)]).length=out.length+1:=by simp
     obtain ⟨⟨rest,hr⟩,hq,-⟩:=zaw n V s f _ _ _ _ h;have hz:res.getD out.length 0=((bt V p 4:Nat):Int):=by
      rw [hr,List.append_assoc,z22]
      rfl
     have hv:=z00 V p 4;rw [zc9 _ _ _ _ _ (by omega) (by rw [hz];omega),hz,zb6,show q-p=4+(q-(p+4)) by omega,z1g,Int.toNat_natCast] at hlp
     have hlp2:lp res g (out.length+1) 0 0=(q-(p+4),bt V (p+4) (q-(p+4))):=by
      generalize bt V (p+4) (q-(p+4))=u at *;generalize bt V p 4=v at *;generalize lp res g (out.length+1) 0 0=x at *
      simp only [Prod.mk.injEq] at hlp
      obtain ⟨e1,e2⟩:=hlp;obtain ⟨x1,x2⟩:=x
      simp only at e1 e2
      simp only [Prod.mk.injEq]
      omega
     exact ih (p+4) _ false res q g (by omega) (by omega) h hl (by rw [hl2];exact hlp2) (by simp)
   ·rw [if_neg h2] at h
    cases h
  ·rw [if_neg h1] at h ⊢
   exact h
theorem zle (n V s p:Nat) (res:List Int) (q:Nat):gi n V s s p [] false=some (res,q)↔gq n V s s p []=some (res,q)/\res.length=s/\lpF res=(q-p,bt V p (q-p)):=by
 constructor
 ·intro h
  obtain ⟨-,r1,r2,-,r4,r5⟩:=zg8 n V s s p [] false res q (by simp) (by simp) h
  refine ⟨r5,r1,?_⟩;have:=r4 s 0 0 (by simp)
  unfold lpF;rw [r1]
  simpa using this
 ·rintro ⟨h1,h2,h3⟩
  refine zl7 n V s s p [] false res q s (by simp) (by simp) h1 h2 ?_ (by simp)
  unfold lpF at h3;rw [h2] at h3;exact h3
structure Ans (w W:World):Prop where
 r0:W.cell? ⟨w.heap.size,0,none⟩=some (.slice none 0 0)
 r1:W.cell? ⟨w.heap.size,1,none⟩=some (.int .i64 0)
 f0:W.frozen? ⟨w.heap.size,0,none⟩=false
 f1:W.frozen? ⟨w.heap.size,1,none⟩=false
 lt:w.heap.size<W.heap.size
 bel:Below w.heap.size w W
theorem Ans.new (w:World):Ans w (w.alloc (Obj.cells #[.slice none 0 0,.int .i64 0] 155)):=⟨by simp,by simp,by simp,by simp,by simp,(Below.refl _ _).alloc nl _⟩
theorem Ans.step {w W W':World} {B:Nat} (h:Ans w W) (hb:Below B W W') (hB:w.heap.size<B):Ans w W':=
 ⟨keep hb hB h.r0,keep hb hB h.r1,(hb.frozen (p:=⟨w.heap.size,0,none⟩) hB).trans h.f0,(hb.frozen (p:=⟨w.heap.size,1,none⟩) hB).trans h.f1,Nat.lt_of_lt_of_le h.lt hb.size,h.bel.trans (hb.mono (Nat.le_of_lt hB))⟩
set_option linter.unusedSimpArgs false
structure SentT (w:World):Prop where
 over:∃ pe,w.cell? ⟨18,0,none⟩=some (.iface 326 (.pointer (some pe)))
 full:∃ T x,w.cell? ⟨28,0,none⟩=some (.iface T x)
 lt:18<w.heap.size/\28<w.heap.size
theorem RD.store {w:World} {B R:Nat} {a:Option Addr} {L cap n p:Nat} (h:RD w B R a L cap n p) (q:Nat):RD (w.setCell ⟨R,2,none⟩ (.int .i64 (q:Nat))) B R a L cap n q:=
 ⟨by rw [heap_setCell_same _ R 2 _ _ _ h.1];simp,h.2.1,by simpa using h.2.2⟩
theorem z6e (Q B:Nat) (a:Option Addr) (cap:Nat) (zs:List Int) (n V p k:Nat) (w:World) (hR:RD w B Q a zs.length cap n p) (hb:Byt w a zs) (hz:zs=enc n V) (hn:n<=4096) (hp:p+k<=n) (hS:SentT w) :
  Calls Tryz.prog 226 #[.pointer (some ⟨Q,0,none⟩),.int .i64 k] w fun e w'=>
   ∃ a' cp,e=.returned (.tuple #[.agg #[.slice a' (enc k (bt V p k)).length cp,.int .i64 k],.nilIface])/\Mine w' w.heap.size w'.heap.size a' cp (enc k (bt V p k))/\RD w' B Q a zs.length cap n (p+k)/\Only (fun b=>b=Q) w w':=by
 obtain ⟨pe,g0⟩:=hS.over;obtain ⟨T1,x1,g1⟩:=hS.full;have hQl:Q<w.heap.size:=(Array.getElem?_eq_some_iff.1 hR.1).1;have HA:Hid (RD w B Q a zs.length cap n p/\Byt w a zs/\zs=enc n V/\SentT w/\w.cell? ⟨18,0,none⟩=some (.iface 326 (.pointer (some pe)))/\w.cell? ⟨28,0,none⟩=some (.iface T1 x1)):=⟨hR,hb,hz,hS,g0,g1⟩;clear hb hz hS g0 g1;have HAN:=Ans.new w;have hR1:=hR.only ((Only.refl (fun _=>False) w).alloc (Obj.cells #[.slice none 0 0,.int .i64 0] 155)) (by simp)
 go_enter Tryz.func226,Tryz.ntmps226
 go_wp2_with fail
 refine (hR1.left (by omega) (by omega)).mono ?_
 rintro e w1 ⟨rfl,m1,rfl⟩;have HAN1:Hid _:=HAN.step (below_drewN (Below.refl _ _) m1) HAN.lt;have HR1:Hid (RD ((w.alloc (Obj.cells #[.slice none 0 0,.int .i64 0] 155)).drewN m1) B Q a zs.length cap n p):=hR1.only ((Only.refl (fun _=>False) _).drewN m1) (by simp)
 clear HAN hR1;generalize (w.alloc (Obj.cells #[.slice none 0 0,.int .i64 0] 155)).drewN m1=W1 at *;go_wp2_with fail
 refine (z9o none 0 [] 0 4096 W1 ⟨by simp,by simp⟩ (by simp)).mono ?_
 rintro e w3 ⟨R,g,rfl,hRw,hown,hRge,hb3⟩;have hRlt:R<w3.heap.size:=(Array.getElem?_eq_some_iff.1 hRw).1;have hWlt:w.heap.size<W1.heap.size:=HAN1.out.lt;have HAN3:Hid _:=HAN1.out.step hb3 HAN1.out.lt;have hR3:RD w3 B Q a zs.length cap n p:=HR1.out.only (Only.ofBelow (S:=fun _=>False) hb3 nl) (by simp)
 have HW3:Hid _:=(⟨hRw,hown,hRge,hb3,hR3⟩:_/\_/\_/\_/\_);have c0:=zd (j:=0) hR3.1 rfl;have c1:=zd (j:=1) hR3.1 rfl;have c2:=zd (j:=2) hR3.1 rfl;clear hRw hown hRge hb3 hR3 HAN1 HR1 hR;go_wp2
 go_region
 go_wp2_with fail
 have hO4:Only (fun _=>False) w3 (w3.alloc (Obj.cells #[.slice a zs.length cap,.int .i64 ((p:Int)+(k:Int)),.int .i64 (p:Int)] 261)).drew:=((Only.refl (fun _=>False) w3).alloc _).drew
 have hQ4:(w3.alloc (Obj.cells #[.slice a zs.length cap,.int .i64 ((p:Int)+(k:Int)),.int .i64 (p:Int)] 261)).drew.heap[w3.heap.size]?=some (.cells #[.slice a zs.length cap,.int .i64 ((p+k:Nat):Int),.int .i64 (p:Nat)] 261 (0,0)):=heap_alloc_new w3 _;generalize (w3.alloc (Obj.cells #[.slice a zs.length cap,.int .i64 ((p:Int)+(k:Int)),.int .i64 (p:Int)] 261)).drew=W4 at *;have hb4:Below w3.heap.size w3 W4:=hO4.below nl (by simp)
 have hA4:=HAN3.out.step hb4 HAN3.out.lt;have hRD4:RD W4 B Q a zs.length cap n p:=HW3.out.2.2.2.2.only hO4 (by simp)
 have hv4:OwnV W4 W1.heap.size (.slice (some ⟨g,0,none⟩) 0 0) (enc 0 0):=OwnV.only (S:=fun _=>False) HW3.out.2.1.v hO4 (by simp)
 have hRw4:=(hb4.block R hRlt).trans HW3.out.1;have z34:=hb4.size;have z13:=HW3.out.2.2.2.1.size;have hSL:=HA.out.2.2.2.1.lt;refine (zif R W1.heap.size w3.heap.size _ a cap zs 0 0 (p+k) n V p T1 pe x1 W4 hRw4 hv4 (by simp) (by omega) hQ4 (HA.out.2.1.below hA4.bel nl) HA.out.2.2.1 (by omega) (by omega) hn (by omega) HW3.out.2.2.1 z13 (by omega) ?_ (keep hA4.bel hSL.1 HA.out.2.2.2.2.1) (keep hA4.bel hSL.2 HA.out.2.2.2.2.2)).mono ?_
 ·intro hpz x hx
  obtain ⟨bb,off,he,hbl,_⟩:=HA.out.2.1.2 hpz;rw [he] at hx
  simp at hx
  rw [<-hx]
  simp
  omega
 rintro e w5 ⟨hb5,hyes,-⟩;obtain ⟨rfl,v',hR5,hv5⟩:=hyes (by omega)
 rw [Nat.add_sub_cancel_left,Nat.zero_add,Nat.zero_add,Nat.pow_zero,Nat.mul_one] at hv5;rw [Nat.add_sub_cancel_left,Nat.zero_add] at hR5;have hv5':OwnV w5 W1.heap.size v' (enc k (bt V p k)):=hv5;have hA5:=hA4.step hb5 hWlt;have hRD5:RD w5 B Q a zs.length cap n p:=⟨(hb5.block Q (by omega)).trans hRD4.1,hRD4.2.1,Nat.le_trans hRD4.2.2 hb5.size⟩
 obtain ⟨a',cp,rfl,hmine⟩:=hv5'.mine;have x0:=hA5.r0;have x1:=hA5.r1;have y0:=hA5.f0;have y1:=hA5.f1;generalize hES:enc k (bt V p k)=es at *;have d0:w5.cell? ⟨R,0,none⟩=some (.slice a' es.length cp):=zv (j:=0) hR5 rfl;have d1:w5.cell? ⟨R,1,none⟩=some (.int .i64 (k:Nat)):=zv (j:=1) hR5 rfl;have c2':w5.cell? ⟨Q,2,none⟩=some (.int .i64 (p:Nat)):=zd (j:=2) hRD5.1 rfl;have f2:=hRD5.frz 2;have HF:Hid (Mine w5 W1.heap.size w5.heap.size a' cp es/\RD w5 B Q a zs.length cap n p/\Below w.heap.size w w5):=⟨hmine,hRD5,hA5.bel⟩
 have hRQ:R≠Q:=by have:=HW3.out.2.2.1;omega
 have hRs:w.heap.size<=R:=by have:=HW3.out.2.2.1;omega
 clear hmine hRD5 hA5 hv5 hv5' hR5 hyes hb5 hRw4 hv4 hRD4 hA4 hb4 hQ4 hO4 c0 c1 c2 HW3 HAN3 HA;have HES:Hid (enc k (bt V p k)=es):=hES;clear hES;go_wp2;refine bodyPost_ret (v:=.tuple #[.agg #[.slice a' es.length cp,.int .i64 (k:Nat)],.nilIface]) (by simp [results,Tryz.results226,go_sem,x0,x1]) rfl ⟨a',cp,by rw [HES.out],?_,?_,?_⟩
 ·rw [HES.out]
  have hO3:Only (fun b=>b=Q\/b=w.heap.size) w5 (((w5.setCell ⟨Q,2,none⟩ (.int .i64 ((p:Int)+(k:Int)))).setCell ⟨w.heap.size,0,none⟩ (.slice a' es.length cp)).setCell ⟨w.heap.size,1,none⟩ (.int .i64 (k:Nat))):=
   Only.setCell (Only.setCell (Only.setCell (Only.refl (fun b=>b=Q\/b=w.heap.size) w5) (p:=⟨Q,2,none⟩) (.inl (.inl rfl)) _) (p:=⟨w.heap.size,0,none⟩) (.inl (.inr rfl)) _) (p:=⟨w.heap.size,1,none⟩) (.inl (.inr rfl)) _
  exact ((HF.out.1.only hO3 (fun b h1 _=>by omega)).mono (by omega) (by simp [World.setCell]))
 ·have h1:=HF.out.2.1.store (p+k)
  have hO4:Only (fun b=>b=w.heap.size) (w5.setCell ⟨Q,2,none⟩ (.int .i64 ((p+k:Nat):Int))) (((w5.setCell ⟨Q,2,none⟩ (.int .i64 ((p+k:Nat):Int))).setCell ⟨w.heap.size,0,none⟩ (.slice a' es.length cp)).setCell ⟨w.heap.size,1,none⟩ (.int .i64 (k:Nat))):=
   Only.setCell (Only.setCell (Only.refl (fun b=>b=w.heap.size) _) (p:=⟨w.heap.size,0,none⟩) (.inl rfl) _) (p:=⟨w.heap.size,1,none⟩) (.inl rfl) _
  exact RD.only h1 hO4 (by omega)
 ·have h0:Only (fun b=>b=Q) w w5:=Only.ofBelow HF.out.2.2 nl
  exact Only.setCell (Only.setCell (Only.setCell h0 (p:=⟨Q,2,none⟩) (.inl rfl) _) (p:=⟨w.heap.size,0,none⟩) (.inr nl) _) (p:=⟨w.heap.size,1,none⟩) (.inr nl) _
theorem zjo (Q B:Nat) (a:Option Addr) (L cap n p k:Nat) (w:World) (hR:RD w B Q a L cap n p) (hn:n<=4096) (hp:p<=n) (hk:k<=8388608) (hpk:n<p+k) (hS:SentT w) :
  Calls Tryz.prog 226 #[.pointer (some ⟨Q,0,none⟩),.int .i64 k] w fun e w'=>
   ∃ T x,e=.returned (.tuple #[.agg #[.slice none 0 0,.int .i64 0],.iface T x])/\Below w.heap.size w w':=by
 obtain ⟨pe,g0⟩:=hS.over;have HAN:=Ans.new w;have hR1:=hR.only ((Only.refl (fun _=>False) w).alloc (Obj.cells #[.slice none 0 0,.int .i64 0] 155)) (by simp)
 have hSL:=hS.lt;clear hS
 go_enter Tryz.func226,Tryz.ntmps226
 go_wp2_with fail
 refine (hR1.left (by omega) (by omega)).mono ?_
 rintro e w1 ⟨rfl,m1,rfl⟩;have hA1:=HAN.step (below_drewN (Below.refl _ _) m1) HAN.lt;clear HAN hR1 hR;generalize (w.alloc (Obj.cells #[.slice none 0 0,.int .i64 0] 155)).drewN m1=W1 at *;have g1:=keep hA1.bel hSL.1 g0;have x0:=hA1.r0;have x1:=hA1.r1;have y0:=hA1.f0;have y1:=hA1.f1;have HB:Hid (Below w.heap.size w W1):=hA1.bel;have hgl:18<w.heap.size:=hSL.1;clear hA1 g0 hSL;go_wp2
 go_region
 go_wp2
 refine bodyPost_ret (v:=.tuple #[.agg #[.slice none 0 0,.int .i64 0],.iface 326 (.pointer (some pe))]) (by simp [results,Tryz.results226,go_sem,x0,x1]) rfl ⟨_,_,rfl,?_⟩
 have hbb:=HB.out
 repeat (first | exact hbb | refine Below.setCell ?_ (by simp) _ | refine below_drewN ?_ _ | refine below_drew' ?_)
def OVI (w:World) (B:Nat) (v:Value) (zs:List Int):Prop:=w.ownsRow B 3 1 v zs.length (zs.map (Value.int .i64))/\∀ z ∈ zs,-9223372036854775808<=z/\z<=9223372036854775807
theorem OVI.nil (w:World) (B:Nat):OVI w B (.slice none 0 0) []:=⟨⟨rfl,.inl ⟨rfl,rfl⟩⟩,by simp⟩
theorem OVI.form {w:World} {B:Nat} {v:Value} {zs:List Int} (h:OVI w B v zs):∃ (a:Option Addr) (c:Nat),v=.slice a zs.length c:=by
 rcases h.1.2 with ⟨rfl,h0⟩ | ⟨g,cap,cur,rfl,_⟩
 ·exact ⟨none,0,by rw [h0]⟩
 ·exact ⟨_,_,rfl⟩
theorem OVI.blk {w:World} {B:Nat} {v:Value} {zs:List Int} (h:OVI w B v zs) {k:Nat} (hk:v.ownBlock=some k):B<=k:=by
 rcases h.1.2 with ⟨rfl,h0⟩ | ⟨g,cap,cur,rfl,hg,_⟩
 ·simp [Value.ownBlock] at hk
 ·simp [Value.ownBlock] at hk
  omega
theorem OVI.mine {w:World} {B:Nat} {v:Value} {zs:List Int} (h:OVI w B v zs):∃ (a:Option Addr) (cp:Nat),v=.slice a zs.length cp/\MinI w B w.heap.size a cp zs:=by
 rcases h.1.2 with ⟨rfl,h0⟩ | ⟨g,cap,cur,rfl,hg,hh,r⟩
 ·exact ⟨none,0,by rw [h0],.inl ⟨rfl,List.eq_nil_of_length_eq_zero h0,rfl⟩⟩
 ·exact ⟨some ⟨g,0,none⟩,cap,rfl,OwI.mine (cap:=cap) h⟩
theorem OVI.app {w1:World} {B g cap n:Nat} {zs:List Int} {x:Int} (hl:zs.length=n) (hr:∀ z ∈ zs,-9223372036854775808<=z/\z<=9223372036854775807) (hx:-9223372036854775808<=x/\x<=9223372036854775807)
  (hown:w1.ownsRow B 3 1 (.slice (some ⟨g,0,none⟩) (n+1) cap) (n+1) (zs.map (Value.int .i64)++[.int .i64 x])):OVI w1 B (.slice (some ⟨g,0,none⟩) (n+1) cap) (zs++[x]):=by
 refine ⟨?_,?_⟩
 ·have e:(zs++[x]).length=n+1:=by simp [hl]
  rw [e]
  simpa using hown
 ·intro z hz
  simp only [List.mem_append,List.mem_singleton] at hz
  rcases hz with hz | rfl
  ·exact hr z hz
  ·exact hx
theorem z1i {w0 wr w1:World} {B:Nat} {o:Obj} {v:Value} {zs:List Int} (hbel:Below B w0 wr) (hB:B<=wr.heap.size) (h:OVI wr B v zs) (hg:(wr.alloc o).grownBy w1 v.ownBlock):Below B w0 w1:=
 (hbel.alloc hB o).grown hg (by simp;omega) (fun k hk=>h.blk hk)
theorem OVI.only {S:Nat->Prop} {w w':World} {B:Nat} {v:Value} {zs:List Int} (h:OVI w B v zs) (ho:Only S w w') (hs:∀ k,B<=k->¬S k):OVI w' B v zs:=by
 refine ⟨⟨h.1.1,?_⟩,h.2⟩;rcases h.1.2 with h' | ⟨g,cap,cur,h',hg,hh,r⟩
 ·exact .inl h'
 ·exact .inr ⟨g,cap,cur,h',hg,(ho.block g (Array.getElem?_eq_some_iff.1 hh).1 (hs g hg)).trans hh,r⟩
theorem zel (m:Nat):Builtin.zeroCells (Value.int .i64 0).cells m=((List.replicate m (0:Int)).map (Value.int .i64)).toArray:=by
 apply Array.ext'
 simp only [Builtin.zeroCells,Value.cells,Array.toList_map,Array.toList_range,List.map_replicate]
 rw [List.eq_replicate_iff];refine ⟨by simp,fun b hb=>?_⟩
 simp only [List.mem_map] at hb
 obtain ⟨i,_,rfl⟩:=hb
 simp [Nat.mod_one]
theorem z8d {P:Program} (w:World) (base:Nat) (t tn ty e:TypeId) (i:TypeInfo) (k kn:IntKind) (ht:P.underlying t=some (.slice e)) (htn:P.underlying tn=some (.int kn)) (hi:P.info? e=some i) (hz:i.zero=some (.int .i64 0))
  (hsize:i.size=1) (hby:i.bytes<=8) (v:Value) (n:Nat) (hn:0<n) (xs:List Value) (hown:w.ownsRow base e 1 v n xs) (m:Nat) (hnm:n+m<=1000000) (hbase:base<=w.heap.size) :
  ∃ v' w',(Builtin.append_ #[t,tn] ty #[v,.int k m]).run P w=.ok v' w'/\w'.ownsRow base e 1 v' (n+m) (xs++(List.replicate m (0:Int)).map (Value.int .i64))/\w.grownBy w' v.ownBlock:=by
 have hl:((List.replicate m (0:Int)).map (Value.int .i64)).length=m:=by simp
 have hZ:=zel m;have h1:∀ u ∈ (List.replicate m (0:Int)).map (Value.int .i64),u.oneCell'=true:=by
  intro u hu
  simp only [List.mem_map] at hu
  obtain ⟨z,_,rfl⟩:=hu
  rfl
 generalize (List.replicate m (0:Int)).map (Value.int .i64)=news at *;have hlen:(xs++news).length=n+m:=by rw [List.length_append,hown.1,hl];omega
 have hw:IntKind.i64.wrap (m:Int)=m:=by rw [IntKind.wrap_i64];omega
 have hneg:¬((m:Int)<0):=by omega
 have hmb:m*i.bytes<=m*8:=Nat.mul_le_mul_left _ hby;have h48i:¬(281474976710656<(m:Int)*(i.bytes:Int)):=by
  rw [<-Int.natCast_mul]
  omega
 rcases hown.2 with ⟨rfl,rfl⟩ | ⟨g,cap,cur,rfl,hbg,hg,hnc,hcm,hcs,htake⟩
 ·omega
 ·by_cases hroom:n+m<=cap
  ·have hst:=run_storeCells_at P g n e news 0 cur w hg (by simp [hl];omega) h1
   simp only [Nat.add_zero] at hst
   have hr:(Builtin.append_ #[t,tn] ty #[.slice (some ⟨g,0,none⟩) n cap,.int k m]).run P w=.ok (.slice (some ⟨g,0,none⟩) (n+m) cap) (w.setRow g (cur.toList.take n++news++cur.toList.drop (n+news.length)).toArray):=by
    by_cases hm0:m=0
    ·subst hm0
     have hn0:news=[]:=List.eq_nil_of_length_eq_zero hl;subst hn0;have hw0:IntKind.i64.wrap 0=0:=by decide
     simp [Addr.add_lit] at hst
     simp [Builtin.append_,run_underlying ht,run_underlying htn,sizeOf,typeInfo,zeroValue,hi,hz,hsize,asInt,asIntOf,hw0,Addr.add_lit,hnc,hst]
    ·simp [Builtin.append_,run_underlying ht,run_underlying htn,sizeOf,typeInfo,zeroValue,hi,hz,hsize,asInt,asIntOf,hw,hneg,h48i,hroom,hm0,hZ,Addr.add_lit,hst]
   refine ⟨_,_,hr,⟨by rw [hlen,Nat.mul_one],.inr ⟨g,cap,_,rfl,hbg,setRow_heap w g cur _ e _ hg,hroom,hcm,?_,?_⟩⟩,⟨rfl,rfl,rfl,by simp,fun k _ hk=>setRow_other w g k _ (fun e=>hk (by simp [Value.ownBlock,e]))⟩⟩
   ·simp only [List.size_toArray,List.length_append,List.length_take,List.length_drop,Array.length_toList]
    omega
   ·rw [Nat.mul_one] at htake ⊢
    rw [htake,<-hlen];exact List.take_left
  ·have holds:∀ j u,xs[j]?=some u->w.cell? ((⟨g,0,none⟩:Addr).add j)=some u:=hown.cells (g:=g) rfl
   have hm0:¬m=0:=by omega
   have h63':¬(9223372036854775807<((n:Int)+(m:Int))):=by omega
   have hfit:=growslice_fits (need:=n+m) (old:=cap) (bytes:=i.bytes) (by omega) (by have:=Nat.mul_le_mul_left (n+m) hby;omega)
   have h48':¬(281474976710656<Builtin.nextslicecap (n+m) cap*i.bytes):=by omega
   have hfo:=run_firstCells_some (P:=P) w.drew 1 n ⟨g,0,none⟩ n cap xs hown.1 (by simpa using holds)
   have hr:(Builtin.append_ #[t,tn] ty #[.slice (some ⟨g,0,none⟩) n cap,.int k m]).run P w=.ok (.slice (some ⟨w.heap.size,0,none⟩) (n+m) (grownCap w (n+m) cap e))
     (w.drew.alloc (.cells (xs.toArray++news.toArray++Builtin.zeroCells (Value.int .i64 0).cells (grownCap w (n+m) cap e-(n+m))) e)):=by
    simp [Builtin.append_,run_underlying ht,run_underlying htn,sizeOf,typeInfo,zeroValue,hi,hz,hsize,asInt,asIntOf,hw,hneg,h48i,hroom,hm0,hZ,h63',h48',Question.forced,hfo,newRow,grownCap]
    congr 2
    apply Array.ext'
    simp [List.append_assoc]
   have hge:=grownCap_ge w (n+m) cap e;have hcm2:grownCap w (n+m) cap e<=maxLen:=grownCap_le_maxLen w (n+m) cap e (by unfold maxLen;omega)
   refine ⟨_,_,hr,⟨by rw [hlen,Nat.mul_one],.inr ⟨w.heap.size,_,_,rfl,hbase,heap_alloc_new w.drew _,hge,hcm2,?_,?_⟩⟩,⟨rfl,rfl,rfl,by simp,fun j hj _=>heap_alloc_old w.drew _ hj⟩⟩
   ·have hx:=hown.1
    simp only [Array.size_append,List.size_toArray,size_zeroCells,hl,Value.cells]
    simp
    omega
   ·rw [Nat.mul_one]
    simp only [Array.toList_append,List.append_assoc]
    rw [<-List.append_assoc,<-hlen];exact List.take_left
theorem OVI.appZ {w w':World} {B:Nat} {v v':Value} {zs:List Int} {n m:Nat} (h:OVI w B v zs) (hn:zs.length=n) (h2:w'.ownsRow B 3 1 v' (n+m) (zs.map (Value.int .i64)++(List.replicate m (0:Int)).map (Value.int .i64))):OVI w' B v' (zs++List.replicate m 0):=by
 refine ⟨?_,?_⟩
 ·rw [List.length_append,List.length_replicate,hn,List.map_append]
  exact h2
 ·intro z hz
  rcases List.mem_append.1 hz with hz | hz
  ·exact h.2 z hz
  ·have:=List.eq_of_mem_replicate hz
   omega
theorem z2c {ops:Array Oper} {rest:List Oper} {o:Oper} {a:Act} {Q:Exit->Act->World->Prop} {w:World} (hgd:o.guard=none) (s x:Operand)
  (ho:o.op=.call { callee:=.builtin .append,args:=#[s,x],argTypes:=#[29,3] })
  (B:Nat) (v:Value) (zs:List Int) (hs:a.eval s=v) (hown:OVI w B v zs) (m:Nat) (hx:a.eval x=.int .i64 (m:Nat)) (hp:0<zs.length) (hb1:zs.length+m<=1000000) (hbase:B<=w.heap.size)
  (h:∀ v' w',OVI w' B v' (zs++List.replicate m 0)->w.grownBy w' v.ownBlock->wpList Tryz.prog ops Q rest (a.put o.dst v') w'):wpList Tryz.prog ops Q (o :: rest) a w:=by
 obtain ⟨i0,hi,hz0,hz1,hz2⟩:=info_parts Tryz.infoI64;obtain ⟨v',w',hr,h2,h3⟩:=z8d (P:=Tryz.prog) w B 29 3 o.type 3 i0 .i64 .i64 Tryz.underlying29 Tryz.underlying3 hi hz0 hz1 (by rw [hz2];omega) v zs.length hp _ hown.1 m hb1 hbase
 refine wpList_plain hgd fun K hK'=>?_
 unfold Oper.wp execOp
 simp only [ho,resolve,invoke,builtin,Sem.run_bind,Sem.run_pure,Result.andThen_ok,List.map_toArray,List.map_cons,List.map_nil,hs,hx,hr]
 exact hK' _ _ (h v' w' (hown.appZ rfl h2) h3)
theorem zed {w0 wr w1:World} {B:Nat} {v:Value} {zs:List Int} (hbel:Below B w0 wr) (hB:B<=wr.heap.size) (h:OVI wr B v zs) (hg:wr.grownBy w1 v.ownBlock):Below B w0 w1:=
 hbel.grown hg hB (fun k hk=>h.blk hk)
theorem OVI.blk_ne {w:World} {B:Nat} {v:Value} {zs:List Int} (h:OVI w B v zs) {Q:Nat} {cur:Array Value} {T:TypeId} (hQ:w.heap[Q]?=some (.cells cur T (0,0))) (hT:T≠3):some Q≠v.ownBlock:=by
 rcases h.1.2 with ⟨rfl,h0⟩ | ⟨g,cap,cur',rfl,hg,hh,_⟩
 ·simp [Value.ownBlock]
 ·simp only [Value.ownBlock,ne_eq,Option.some.injEq]
  rintro rfl;rw [hQ] at hh
  simp at hh
  exact hT hh.2
theorem z0s {w w':World} {row:Option Nat} (hg:w.grownBy w' row) {Q:Nat} {o:Obj} (hQ:w.heap[Q]?=some o) (hne:some Q≠row):w'.heap[Q]?=some o:=(hg.block Q (Array.getElem?_eq_some_iff.1 hQ).1 hne).trans hQ
theorem OVI.ins {w:World} {B:Nat} {a:Option Addr} {n c:Nat} {zs:List Int} (h:OVI w B (.slice a n c) zs):Ins w a zs:=by
 obtain ⟨a',c',e,hm⟩:=h.mine;obtain ⟨rfl,-,-⟩:a=a'/\n=zs.length/\c=c':=by simpa using e
 exact hm.byt
theorem OVI.below {w w':World} {B:Nat} {v:Value} {zs:List Int} (h:OVI w B v zs) (hb:Below w.heap.size w w'):OVI w' B v zs:=h.only (Only.ofBelow (S:=fun _=>False) hb nl) (by simp)
theorem z3v {p:Int->Prop} {zs:List Int} {k:Nat} (h:∀ z ∈ zs.take k,p z) (hk:k<zs.length) (hp:p (zs.getD k 0)):∀ z ∈ zs.take (k+1),p z:=by
 intro z hz
 rw [List.take_succ_eq_append_getElem hk] at hz;rcases List.mem_append.1 hz with hz | hz
 ·exact h z hz
 ·simp at hz
  subst hz
  simpa [List.getD_eq_getElem?_getD,List.getElem?_eq_getElem hk] using hp
theorem z1f {zs:List Int} {k:Nat} (hk:k<zs.length):zs.getD k 0 ∈ zs:=by
 rw [List.getD_eq_getElem?_getD,List.getElem?_eq_getElem hk];exact List.getElem_mem hk
def zu (f:Int->Int) (zs:List Int):Int:=(zs.map f).sum
theorem z2q (f:Int->Int) (zs:List Int) (k:Nat) (h:k<zs.length):zu f (zs.take (k+1))=zu f (zs.take k)+f (zs.getD k 0):=by
 unfold zu;rw [List.take_succ_eq_append_getElem h,List.map_append,List.sum_append]
 simp [List.getD_eq_getElem?_getD,List.getElem?_eq_getElem h]
theorem z10 (f:Int->Int) (m:Int) (hf:∀ z,0<=f z/\f z<=m) (zs:List Int):0<=zu f zs/\zu f zs<=m*zs.length:=by
 unfold zu
 induction zs with
 | nil=>simp
 | cons z zs ih=>
  have:=hf z
  simp only [List.map_cons,List.sum_cons,List.length_cons]
  rw [show m*((zs.length+1:Nat):Int)=m*zs.length+m from by rw [Int.natCast_add,Int.mul_add];simp]
  omega
def one (z:Int):Int:=if 0<z then 1 else 0
theorem z4y (z:Int):0<=one z/\one z<=1:=by unfold one;split <;> omega
def zq (z:Int):Int:=if 0<z then 2 ^ (12-z).toNat else 0
theorem z4x (n:Nat) (h:n<=12):(1:Int)<=2 ^ n/\(2:Int) ^ n<=4096:=by
 have h1:1<=2 ^ n:=Nat.pow_pos (by omega)
 have h2:2 ^ n<=2 ^ 12:=Nat.pow_le_pow_right (by omega) h
 have e:((2:Int) ^ n)=((2 ^ n:Nat):Int):=by simp
 rw [e]
 omega
theorem z2r (z:Int):0<=zq z/\zq z<=4096:=by
 unfold zq
 split
 ·have:=z4x (12-z).toNat (by omega);omega
 ·omega
theorem zds (n:Nat) (h:n<=12):wrap64 (2 ^ n)=2 ^ n:=by
 have:=z4x n h;generalize (2:Int) ^ n=y at *;exact IntWalk.wrap64_in _ (by omega)
def zx (zs:List Int):Bool:=decide (1<=zs.length/\zs.length<=80/\(∀ z ∈ zs,0<=z/\z<=12)/\(zu one zs=1/\zu zq zs=2048\/1<zu one zs/\zu zq zs=4096))
theorem z2y {zs:List Int} {k:Nat} (hk:k<zs.length) (h:¬(0<=zs.getD k 0/\zs.getD k 0<=12)):zx zs=false:=by
 simp only [zx,decide_eq_false_iff_not]
 exact fun h'=>h (h'.2.2.1 _ (z1f hk))
theorem z98 {zs:List Int} (h:¬(1<=zs.length/\zs.length<=80)):zx zs=false:=by
 simp only [zx,decide_eq_false_iff_not]
 exact fun h'=>h ⟨h'.1,h'.2.1⟩
theorem z8n {zs:List Int} (h1:1<=zs.length) (h2:zs.length<=80) (h:∀ z ∈ zs.take zs.length,0<=z/\z<=12):zx zs=decide (zu one zs=1/\zu zq zs=2048\/1<zu one zs/\zu zq zs=4096):=by
 rw [List.take_length] at h
 simp only [zx]
 apply decide_eq_decide.2
 exact ⟨fun h'=>h'.2.2.2,fun h'=>⟨h1,h2,h,h'⟩⟩
theorem zdw (a:Option Addr) (cap:Nat) (zs:List Int) (w:World) (hb:Ins w a zs) (h80:zs.length<=80) (hok:∀ z ∈ zs,0<=z/\z<=12) :
  Calls Tryz.prog 208 #[.slice a zs.length cap] w fun e w'=>e=.returned (.int .i64 (zu zq zs))/\w'=w:=by
 have HOK:Hid (∀ z ∈ zs,0<=z/\z<=12):=hok;clear hok;generalize hlen:zs.length=n at *;have HL:Hid (zs.length=n):=hlen;clear hlen
 go_enter Tryz.func208,Tryz.ntmps208
 go_wp2
 go_loop [3,4] (fun x i=>∃ k:Nat,k<=n/\i=.int .i64 k/\x=.int .i64 (zu zq (zs.take k))) (fun _ i=>n-(intOf i).toNat)
 case atStart=>exact ⟨0,Nat.zero_le _,rfl,by simp [zu]⟩
 case round=>
  obtain ⟨k,hk,rfl,rfl⟩:=hrel
  by_cases hlt:k<n
  ·obtain ⟨b1,o1,rfl,hb1,hc1⟩:=hb.len_pos k (by rw [HL.out];exact hlt)
   have hs1:=hc1 k (by rw [HL.out];exact hlt)
   have g1:=HOK.out _ (z1f (k:=k) (by rw [HL.out];exact hlt))
   have hF:=z10 zq 4096 z2r (zs.take k);have hF2:(zs.take k).length<=80:=by rw [List.length_take,HL.out];omega
   have HS:Hid (zu zq (zs.take (k+1))=zu zq (zs.take k)+zq (zs.getD k 0)):=z2q zq zs k (by rw [HL.out];exact hlt)
   clear hc1 hb;generalize zs.getD k 0=x at *;generalize hFF:zu zq (zs.take k)=F at *;have hFb:0<=F/\F<=327680:=by omega
   clear hF hF2 hFF
   by_cases h3:0<x
   ·have hp:=z4x (12-x).toNat (by omega)
    have hw:=zds (12-x).toNat (by omega)
    have HP:Hid (zq x=2 ^ (12-x).toNat):=by simp [Hid,zq,h3]
    have HW:Hid (wrap64 (F+2 ^ (12-x).toNat)=F+2 ^ (12-x).toNat):=IntWalk.wrap64_in _ (by omega)
    clear hp;have HWP:Hid _:=hw;clear hw;go_wp2;go_round
    case rel=>exact ⟨k+1,by omega,by go_num,by rw [HS.out,HP.out,HWP.out,HW.out]⟩
    case measure=>simp [intOf];omega
   ·have HP:Hid (zq x=0):=by simp [Hid,zq,h3]
    go_wp2
    go_round
    case rel=>exact ⟨k+1,by omega,by go_num,by rw [HS.out,HP.out];simp⟩
    case measure=>simp [intOf];omega
  ·have hkn:k=n:=by omega
   subst hkn;have e:zs.take k=zs:=List.take_of_length_le (by rw [HL.out];exact Nat.le_refl _)
   rw [e];go_wp2;go_ret;exact ⟨rfl,rfl⟩
theorem zhb {zs:List Int} (h:zx zs=true):1<=zs.length/\zs.length<=80/\∀ z ∈ zs,0<=z/\z<=12:=by
 simp only [zx,decide_eq_true_eq] at h
 exact ⟨h.1,h.2.1,h.2.2.1⟩
end Go.Proofs.YtaibkchbkedjnaaGreatDoor
