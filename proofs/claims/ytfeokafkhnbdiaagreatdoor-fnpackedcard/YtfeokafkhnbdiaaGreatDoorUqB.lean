/- Lemmas on the way. -/
import Derived.Test.YtfeokafkhnbdiaaGreatDoorFp1
import Derived.Test.YtfeokafkhnbdiaaGreatDoorTb4
import Derived.Test.YtfeokafkhnbdiaaGreatDoorEkA
import Derived.Test.YtfeokafkhnbdiaaGreatDoorUs2
import Derived.Test.YtfeokafkhnbdiaaGreatDoorNRound
import Derived.Test.YtfeokafkhnbdiaaGreatDoorEnF
import Derived.Test.YtfeokafkhnbdiaaGreatDoorPut1
namespace Go.Proofs.YtfeokafkhnbdiaaGreatDoor
open Go.RowKit
set_option linter.unusedVariables false
def hcn (T:List Int) (s:Int) (p:Nat):Nat→Nat
 | 0=>0
 | i+1=>hcn T s p i+if hit T s p i then 1 else 0
structure Way (T SP ls:List Int):Prop where
 gd:Gd T ls.length
 sl:SP.length=64
 one:∀ y p:Nat,y<ls.length→p<64→0<ls.getD y 0→hcn T (y:Int) p 64=1
 none:∀ y p:Nat,y<ls.length→p<64→ls.getD y 0=0→hcn T (y:Int) p 64=0
 nn:∀ y:Nat,y<ls.length→0≤ls.getD y 0∧ls.getD y 0≤64
 cnt:∀ y:Nat,y<ls.length→(SP.count (y:Int):Int)=ls.getD y 0
theorem bits_mid (V a b:Nat):V / 2 ^ a % 2 ^ b=V % 2 ^ (a+b) / 2 ^ a:=by
 rw [Nat.pow_add,Nat.mod_mul_right_div_self]
theorem mod_low (V a b:Nat):V % 2 ^ (a+b) % 2 ^ a=V % 2 ^ a:=by
 rw [Nat.pow_add,Nat.mod_mul_right_mod]
section
variable {T ls ts : List Int}
theorem fpS_step (hT:Tab T ls) (hts:∀ k,k<ts.length→0≤ts.getD k 0∧ts.getD k 0<ls.length) (hs:shd ls ts) (k:Nat) (hk:k<ts.length) :
  ∃ q b z:Nat,(fpS T ts (k+1)).1=q∧q<64∧cB T q=b∧cZ T q=z∧z≤(fpS T ts k).1∧(fpS T ts k).1-z<2 ^ b∧T.getD (q*3) 0=ts.getD (ts.length-1-k) 0 ∧
   (fpS T ts (k+1)).2.1=(fpS T ts k).2.1+b∧(fpS T ts (k+1)).2.2=(fpS T ts k).2.2+((fpS T ts k).1-z)*2 ^ (fpS T ts k).2.1:=by
 have hF:=fpS_first hT hts k hk (fun j hj=>hs _ (by omega))
 have hh:=hF.2.1
 unfold hit at hh
 refine ⟨(fpS T ts (k+1)).1,cB T (fpS T ts (k+1)).1,cZ T (fpS T ts (k+1)).1,rfl,hF.1,rfl,rfl,hh.2.1,by omega,hh.1,rfl,rfl⟩
theorem fpS_low (hT:Tab T ls) (hts:∀ k,k<ts.length→0≤ts.getD k 0∧ts.getD k 0<ls.length) (hs:shd ls ts):∀ i,i≤ts.length→fV T ts % 2 ^ (fpS T ts (ts.length-i)).2.1=(fpS T ts (ts.length-i)).2.2:=by
 intro i
 induction i with
 | zero=>
  intro _
  obtain ⟨_,_,h3⟩:=fpS_ok hT hts ts.length nl (fun j hj=>hs _ (by omega))
  rw [Nat.sub_zero]
  unfold fV
  rw [Nat.add_mul_mod_self_right,Nat.mod_eq_of_lt h3]
 | succ i ih=>
  intro hi
  obtain ⟨q,b,z,_,_,_,_,_,hx,_,hN,hV⟩:=fpS_step hT hts hs (ts.length-(i+1)) (by omega)
  obtain ⟨_,_,h3⟩:=fpS_ok hT hts (ts.length-(i+1)) (by omega) (fun j hj=>hs _ (by omega))
  have h:=ih (by omega)
  rw [show ts.length-i=ts.length-(i+1)+1 from by omega,hN,hV] at h
  rw [←mod_low _ _ b,h,Nat.add_mul_mod_self_right,Nat.mod_eq_of_lt h3]
theorem sg_put (hT:Tab T ls) (hts:∀ k,k<ts.length→0≤ts.getD k 0∧ts.getD k 0<ls.length) (hs:shd ls ts):∀ i,i≤ts.length→sg T (fV T ts) (fpS T ts ts.length).2.1 i=some ((fpS T ts (ts.length-i)).1,(fpS T ts (ts.length-i)).2.1)∧so T (fV T ts) (fpS T ts ts.length).2.1 i=ts.take i:=by
 intro i
 induction i with
 | zero=>
  intro _
  obtain ⟨h1,_,h3⟩:=fpS_ok hT hts ts.length nl (fun j hj=>hs _ (by omega))
  refine ⟨?_,by simp [so]⟩
  rw [sg,Nat.sub_zero]
  unfold fV
  rw [Nat.add_mul_div_right _ _ (Nat.pow_pos (by omega)),Nat.div_eq_of_lt h3,Nat.zero_add,Nat.mod_eq_of_lt h1]
 | succ i ih=>
  intro hi
  obtain ⟨g1,g2⟩:=ih (by omega)
  obtain ⟨q,b,z,hq,hq64,hb,hz,hzp,hx,hsy,hN,hV⟩:=fpS_step hT hts hs (ts.length-(i+1)) (by omega)
  obtain ⟨_,_,h3⟩:=fpS_ok hT hts (ts.length-(i+1)) (by omega) (fun j hj=>hs _ (by omega))
  have hlow:=fpS_low hT hts hs i (by omega)
  rw [show ts.length-i=ts.length-(i+1)+1 from by omega] at g1 hlow
  rw [hq,hN] at g1
  rw [hN,hV] at hlow
  have hge:¬(fpS T ts (ts.length-(i+1))).2.1+b<cB T q:=by rw [hb];omega
  have s1:=sg_step g1 hge
  have s2:=so_step g1
  rw [hb,hz,Nat.add_sub_cancel,bits_mid,hlow,Nat.add_mul_div_right _ _ (Nat.pow_pos (by omega)),Nat.div_eq_of_lt h3,Nat.zero_add] at s1
  refine ⟨?_,?_⟩
  ·rw [s1]
   congr 2
   omega
  ·rw [s2,g2,hsy,show ts.length-1-(ts.length-(i+1))=i from by omega,List.take_succ_eq_append_getElem (by omega),List.getD_eq_getElem?_getD,List.getElem?_eq_getElem (by omega)]
   rfl
theorem fse_back (hT:Tab T ls) (hts:∀ k,k<ts.length→0≤ts.getD k 0∧ts.getD k 0<ls.length) (hs:shd ls ts):fgB T (fV T ts) (fN T ts) ts.length=true∧so T (fV T ts) (fN T ts-6) ts.length=ts:=by
 have hN:fN T ts-6=(fpS T ts ts.length).2.1:=by unfold fN;omega
 obtain ⟨h1,h2⟩:=sg_put hT hts hs ts.length nl
 rw [Nat.sub_self] at h1
 refine ⟨?_,?_⟩
 ·unfold fgB
  rw [hN,h1,decide_eq_true_eq]
  refine ⟨by unfold fN;omega,?_⟩
  rfl
 ·rw [hN,h2,List.take_length]
end
structure TabU (T ls:List Int):Prop extends Tab T ls where
 uni:∀ s p q r:Nat,s<ls.length→p<64→q<64→r<64→hit T (s:Int) p q→hit T (s:Int) p r→q=r
 has:∀ p,p<64→∃ s:Nat,T.getD (p*3) 0=(s:Int)∧s<ls.length∧ls.getD s 0≠0
section
variable {T ls : List Int} {v N n : Nat}
end
theorem gq_more {zs:List Int} (hr:∀ i,i<zs.length→0≤zs.getD i 0∧zs.getD i 0≤12) (n V:Nat):∀ f i q,zs.length≤f+i→i≤zs.length→q+(lp zs f i 0 0).1≤n→bt V q (lp zs f i 0 0).1=(lp zs f i 0 0).2→gq n V zs.length f q (zs.take i)=some (zs,q+(lp zs f i 0 0).1)
 | 0,i,q,h1,h2,h3,h4=>by
  have hi:i=zs.length:=by omega
  subst hi
  rw [gq_end (by rw [List.length_take];omega),List.take_length]
  simp [lp]
 | f+1,i,q,h1,h2,h3,h4=>by
  by_cases hi:i<zs.length
  ·have hlen:(zs.take i).length<zs.length:=by rw [List.length_take];omega
   by_cases hz:zs.getD i 0=0
   ·have h7:=run_le zs i hi
    rw [lp_zero zs f i 0 0 hi hz,lp_shift] at h3 h4 ⊢
    have hb:=gq_more hr n V f (i+1+run zs i) (q+7)
    generalize (lp zs f (i+1+run zs i) 0 0).1=a at *
    generalize (lp zs f (i+1+run zs i) 0 0).2=b at *
    simp only [Nat.zero_add] at h3 h4 ⊢
    have e7:(2:Nat) ^ 7=128:=by decide
    have e4:(2:Nat) ^ 4=16:=by decide
    have s1:=bt_split V q 7 a
    have s2:bt V q 7=bt V q 4+2 ^ 4*bt V (q+4) 3:=bt_split V q 4 3
    have l1:=bt_lt V q 7
    have l2:=bt_lt V q 4
    have l3:=bt_lt V (q+4) 3
    rw [e7] at s1 l1
    rw [e4] at s2 l2
    rw [e7,e4,s1] at h4
    generalize bt V (q+7) a=x at *
    have b4:bt V q 4=0:=by omega
    have b3:bt V (q+4) 3=run zs i:=by omega
    have bx:x=b:=by omega
    rw [gq_zero hlen b4 (by omega),b3,take_run zs i hi hz,hb (by omega) (by omega) (by omega) bx]
    simp only [Option.some.injEq,Prod.mk.injEq,true_and]
    omega
   ·have h12:=hr i hi
    rw [lp_pos zs f i 0 0 hi hz,lp_shift] at h3 h4 ⊢
    have hb:=gq_more hr n V f (i+1) (q+4)
    generalize (lp zs f (i+1) 0 0).1=a at *
    generalize (lp zs f (i+1) 0 0).2=b at *
    have e4:(2:Nat) ^ 4=16:=by decide
    simp only [Nat.zero_add,Nat.pow_zero,Nat.mul_one,e4] at h3 h4 ⊢
    have s1:=bt_split V q 4 a
    have l2:=bt_lt V q 4
    rw [e4] at s1 l2
    rw [s1] at h4
    generalize bt V (q+4) a=x at *
    have b4:bt V q 4=(zs.getD i 0).toNat:=by omega
    have bx:x=b:=by omega
    rw [gq_pos hlen (by omega) (by rw [b4];omega),b4,Int.toNat_of_nonneg h12.1,take_one zs i hi,hb (by omega) (by omega) (by omega) bx]
    simp only [Option.some.injEq,Prod.mk.injEq,true_and]
    omega
  ·have hil:i=zs.length:=by omega
   subst hil
   rw [gq_end (by rw [List.length_take];omega),List.take_length,lp_end zs _ _ 0 0 hi]
   simp
theorem bt_at {P X a b:Nat} (hP:P<2 ^ a):bt (P+2 ^ a*X) a b=X % 2 ^ b:=by
 unfold bt
 rw [Nat.add_mul_div_left _ _ (Nat.two_pow_pos a),Nat.div_eq_of_lt hP,Nat.zero_add]
theorem mod_own {H U h:Nat} (hH:H<2 ^ h):(H+2 ^ h*U) % 2 ^ h=H:=by rw [Nat.add_mul_mod_self_left,Nat.mod_eq_of_lt hH]
theorem low_lt {P X a b:Nat} (hP:P<2 ^ a) (hX:X<2 ^ b):P+2 ^ a*X<2 ^ (a+b):=by
 rw [Nat.pow_add]
 have:=Nat.mul_le_mul_left (2 ^ a) hX
 rw [Nat.mul_succ] at this
 omega
theorem bit_at {P X a h i:Nat} (hP:P<2 ^ a) (hi:i<h):(P+2 ^ a*X) / 2 ^ (a+i) % 2=X % 2 ^ h / 2 ^ i % 2:=by
 rw [Nat.pow_add,←Nat.div_div_eq_div_mul,Nat.add_mul_div_left _ _ (Nat.two_pow_pos a),Nat.div_eq_of_lt hP,Nat.zero_add,bit_mod _ h i hi]
section
variable {v v' a n n' : Nat} {ls cs : List Int}
theorem cd_more (h:∀ i,i<n→v' / 2 ^ (a+i) % 2=v / 2 ^ i % 2):∀ k p,p+k≤n→cd v' (a+p) k=cd v p k
 | 0,_,_=>rfl
 | k+1,p,hp=>by
  simp only [cd]
  rw [cd_more h k p (by omega),Nat.add_assoc,h (p+k) (by omega)]
theorem reads_more (h:∀ i,i<n→v' / 2 ^ (a+i) % 2=v / 2 ^ i % 2) (hn:a+n≤n') {q:List Int} {e:Nat} (hr:Reads ls cs n v 0 q e):Reads ls cs n' v' a q (a+e):=by
 induction hr with
 | nil=>exact .nil
 | @snoc q e i k _ h1 ih=>
  obtain ⟨o1,o2,o3,o4,o5,o6,o7⟩:=h1
  have hc:∀ j i,j≤k→(Hit ls cs v' (a+e) j i↔Hit ls cs v e j i):=fun j i hj=>by unfold Hit;rw [cd_more h j e (by omega)]
  rw [←Nat.add_assoc]
  exact .snoc ih ⟨o1,o2,by omega,o4,(hc k i nl).2 o5,fun j hj hh=>o6 j hj ((hc k j nl).1 hh),fun j i h1 h2 h3 hh=>o7 j i h1 h2 h3 ((hc j i (by omega)).1 hh)⟩
end
theorem norm_more {zs:List Int} (h:normB zs=true) (V p:Nat) (hV:V / 2 ^ p % 2 ^ nb zs zs.length=vb zs zs.length) (k:Nat) (hk:k≤zs.length):(gL V p k).1=lft zs k∧(gL V p k).2=p+nb zs k∧∀ j,j<k→gX V p j=(zs.getD j 0).toNat:=by
 induction k with
 | zero=>exact ⟨by simp [gL,lft],rfl,fun j hj=>by omega⟩
 | succ k ih=>
  obtain ⟨i1,i2,i3⟩:=ih (by omega)
  have hx:gX V p k=(zs.getD k 0).toNat:=by
   unfold gX
   rw [i1,i2,Nat.pow_add,←Nat.div_div_eq_div_mul]
   obtain ⟨h1,h2⟩:=vb_more (zs:=zs) (k+1) zs.length hk
   rw [Nat.mod_eq_of_lt (vb_lt h (k+1) hk),←hV,Nat.mod_mod_of_dvd _ (Nat.pow_dvd_pow 2 h2)] at h1
   simp only [nb] at h1
   rw [read_share _ _ _ 0 _ h1]
   simp only [vb]
   exact put_div _ _ _ (vb_lt h k (by omega))
  have h2:=lft_succ h k (by omega)
  refine ⟨?_,?_,?_⟩
  ·rw [gL_succ1,i1,hx];omega
  ·rw [gL_succ2,i1,i2];simp only [nb];omega
  ·intro j hj
   by_cases hjk:j=k
   ·subst hjk;exact hx
   ·exact i3 j (by omega)
theorem norm_gotM {zs:List Int} (h:normB zs=true) (V p n:Nat) (hV:V / 2 ^ p % 2 ^ nb zs zs.length=vb zs zs.length) (hn:p+nb zs zs.length≤n):gotN n V p zs.length∧gXs V p zs.length=zs∧(gL V p zs.length).2=p+nb zs zs.length:=by
 obtain ⟨b1,b2,b3⟩:=norm_more h V p hV zs.length nl
 refine ⟨⟨fun j hj=>?_,by rw [b1];exact lft_end h⟩,?_,b2⟩
 ·obtain ⟨c1,c2,_⟩:=norm_more h V p hV j (by omega)
  have h1:=(vb_more (zs:=zs) (j+1) zs.length (by omega)).2
  have h2:=lft_succ h j hj
  rw [c1,c2,b3 j hj]
  simp only [nb] at h1
  exact ⟨by omega,by omega⟩
 ·apply List.ext_getElem
  ·rw [gXs_len]
  ·intro i h1 h2
   have h3:=gXs_get V p zs.length i h2
   rw [b3 i h2] at h3
   have h4:=((normB_sum h).2 _ (getD_mem h2)).1
   have e1:(gXs V p zs.length).getD i 0=(gXs V p zs.length)[i]:=by rw [List.getD_eq_getElem?_getD,List.getElem?_eq_getElem h1];rfl
   have e2:zs.getD i 0=zs[i]:=by rw [List.getD_eq_getElem?_getD,List.getElem?_eq_getElem h2];rfl
   rw [←e1,h3,←e2]
   omega
theorem fV_lt {T ls ts:List Int} (hT:Tab T ls) (hts:∀ k,k<ts.length→0≤ts.getD k 0∧ts.getD k 0<ls.length) (hs:shd ls ts):fV T ts<2 ^ fN T ts:=by
 obtain ⟨h1,h2,h3⟩:=fpS_ok hT hts ts.length nl (fun j hj=>hs _ (by omega))
 unfold fV fN
 exact put_lt _ _ 6 _ h3 (by omega)
theorem rdH_of {zs:List Int} {m U:Nat} (ht:txtB zs 40=true) (h1:1≤zs.length) (h64:zs.length≤64) (hU:U<2 ^ m):(byL zs m U 8 zs.length).2<2 ^ (byL zs m U 8 zs.length).1∧RdS (byL zs m U 8 zs.length).1 (byL zs m U 8 zs.length).2 2 zs m U:=by
 obtain ⟨hok,hco⟩:=tL_ok ht h1
 have hll:=tL_len zs
 have hok2:=hok
 simp only [lensB,decide_eq_true_eq] at hok2
 have hr:∀ i,i<(tL zs).length→0≤(tL zs).getD i 0∧(tL zs).getD i 0≤12:=fun i hi=>hok2.2.2.1 _ (getD_mem hi)
 have htx:∀ k,k<zs.length→0≤zs.getD k 0∧zs.getD k 0<(tL zs).length:=fun k hk=>by have:=txtB_get ht k hk;rw [hll];omega
 have hrd:=reads_text hok htx hco zs.length nl
 rw [List.take_length] at hrd
 have hHl:=hV_lt (tL zs) (csv (tL zs)) zs zs.length
 have hlt:=lp_lt hr (tL zs).length 0
 have hsh:lpG (tL zs) 8 zs.length=(8+(lpF (tL zs)).1,zs.length+(lpF (tL zs)).2*2 ^ 8):=lp_shift _ _ _ _ _
 have hgq:=gq_more hr
 have hcs:csOf (tL zs)=csv (tL zs):=rfl
 unfold byL
 rw [hsh,hcs]
 simp only
 change (lpF (tL zs)).2<2 ^ (lpF (tL zs)).1 at hlt
 generalize hV (tL zs) (csv (tL zs)) zs zs.length=H at *
 generalize hN (tL zs) zs zs.length=h at *
 generalize hT:zs.length=T at *
 generalize hA:(lpF (tL zs)).1=A at *
 generalize hB:(lpF (tL zs)).2=B at *
 have e8:(2:Nat) ^ 8=256:=by decide
 have hPl:T+2 ^ 8*B<2 ^ (8+A):=low_lt (by omega) hlt
 have hHU:H+2 ^ h*U<2 ^ (h+m):=low_lt hHl hU
 obtain ⟨V,hV⟩:∃ V,V=T+B*2 ^ 8+H*2 ^ (8+A)+U*2 ^ (8+A+h):=⟨_,rfl⟩
 have v1:V=(T+2 ^ 8*B)+2 ^ (8+A)*(H+2 ^ h*U):=by
  rw [hV,Nat.mul_add,←Nat.mul_assoc,←Nat.pow_add,Nat.mul_comm B,Nat.mul_comm H,Nat.mul_comm U]
  omega
 have v2:V=T+2 ^ 8*(B+2 ^ A*(H+2 ^ h*U)):=by
  rw [v1,Nat.pow_add,Nat.mul_assoc,Nat.mul_add (2 ^ 8) B]
  omega
 rw [←hV]
 have b0:bt V 0 8=T:=by
  unfold bt
  rw [Nat.pow_zero,Nat.div_one,v2,Nat.add_mul_mod_self_left,Nat.mod_eq_of_lt (by omega)]
 have b8:bt V 8 A=B:=by rw [v2,bt_at (by omega),mod_own hlt]
 have hE:T+2 ^ 8*B+2 ^ (8+A)*H<2 ^ (8+A+h):=low_lt hPl hHl
 have v3:V=(T+2 ^ 8*B+2 ^ (8+A)*H)+2 ^ (8+A+h)*U:=by rw [hV,Nat.mul_comm B,Nat.mul_comm H,Nat.mul_comm U]
 refine ⟨by rw [v1,Nat.add_assoc (8+A) h m];exact low_lt hPl hHU,by omega,.inl ⟨rfl,8+A+h,⟨tL zs,8+A,⟨?_,hok⟩,by rw [b0,hT],?_⟩,by omega,by omega,?_⟩⟩
 ·refine (gi_iff _ _ _ _ _ _).2 ⟨?_,hll,?_⟩
  ·have:=hgq (8+A+h+m) V (tL zs).length 0 8 (by omega) (Nat.zero_le _) (by change 8+(lpF (tL zs)).1≤_;rw [hA];omega) (by change bt V 8 (lpF (tL zs)).1=(lpF (tL zs)).2;rw [hA,hB];exact b8)
   rw [List.take_zero,hll] at this
   rw [this]
   have e:(lp (tL zs) 40 0 0 0).1=A:=by rw [←hA];unfold lpF;rw [hll]
   rw [e]
  ·rw [Nat.add_sub_cancel_left,b8]
   exact Prod.ext hA hB
 ·have:=reads_more (a:=8+A) (n:=h) (n':=8+A+h+m) (v:=H) (v':=V) (fun i hi=>by rw [v1,bit_at hPl hi,mod_own hHl]) (by omega) hrd
  exact this
 ·rw [show 8+A+h+m-(8+A+h)=m by omega,v3,bt_at hE,Nat.mod_eq_of_lt hU]
theorem rdT_of {zs:List Int} {m U k:Nat} (hk:k≠2) (ht:txtB zs 40=true) (h1:1≤zs.length) (h64:zs.length≤64) (hm:m≤256) (hU:U<2 ^ m):(byT zs m U 8 zs.length).2<2 ^ (byT zs m U 8 zs.length).1∧RdS (byT zs m U 8 zs.length).1 (byT zs m U 8 zs.length).2 k zs m U:=by
 obtain ⟨hn,hsl,hsh⟩:=tS_ok ht h1
 have htx:∀ k,k<zs.length→0≤zs.getD k 0∧zs.getD k 0<(tS zs).length:=fun k hk=>by have:=txtB_get ht k hk;rw [hsl];omega
 have hTb:=tT_ok ht h1
 have hFl:=fV_lt hTb htx hsh
 have hfb:=fse_back hTb htx hsh
 have hvl:=vb_lt hn (tS zs).length nl
 have hgm:=norm_gotM hn
 have hTT:tT zs=tb (pl (fl 0 (tS zs)) (plc 64)) (tS zs) 64:=rfl
 rw [hsl] at hvl hgm
 unfold byT nbG vbG
 simp only
 generalize fV (tT zs) zs=F at *
 generalize fN (tT zs) zs=f at *
 generalize nb (tS zs) 40=A at *
 generalize vb (tS zs) 40=B at *
 generalize hT:zs.length=T at *
 have e8:(2:Nat) ^ 8=256:=by decide
 have e9:(2:Nat) ^ 9=512:=by decide
 have hPl:T+2 ^ 8*B<2 ^ (8+A):=low_lt (by omega) hvl
 obtain ⟨V,hV⟩:∃ V,V=T+B*2 ^ 8+m*2 ^ (8+A)+U*2 ^ (8+A+9)+F*2 ^ (8+A+9+m):=⟨_,rfl⟩
 have hP2:T+2 ^ 8*B+2 ^ (8+A)*m<2 ^ (8+A+9):=low_lt hPl (by omega)
 have hP3:T+2 ^ 8*B+2 ^ (8+A)*m+2 ^ (8+A+9)*U<2 ^ (8+A+9+m):=low_lt hP2 hU
 have v4:V=(T+2 ^ 8*B+2 ^ (8+A)*m+2 ^ (8+A+9)*U)+2 ^ (8+A+9+m)*F:=by rw [hV,Nat.mul_comm B,Nat.mul_comm m,Nat.mul_comm U,Nat.mul_comm F]
 have v3:V=(T+2 ^ 8*B+2 ^ (8+A)*m)+2 ^ (8+A+9)*(U+2 ^ m*F):=by rw [v4,Nat.mul_add (2 ^ (8+A+9)) U,←Nat.mul_assoc,←Nat.pow_add];omega
 have v2:V=(T+2 ^ 8*B)+2 ^ (8+A)*(m+2 ^ 9*(U+2 ^ m*F)):=by rw [v3,Nat.mul_add (2 ^ (8+A)) m,←Nat.mul_assoc,←Nat.pow_add];omega
 have v1:V=T+2 ^ 8*(B+2 ^ A*(m+2 ^ 9*(U+2 ^ m*F))):=by rw [v2,Nat.mul_add (2 ^ 8) B,←Nat.mul_assoc,←Nat.pow_add];omega
 rw [←hV]
 have b0:bt V 0 8=T:=by
  unfold bt
  rw [Nat.pow_zero,Nat.div_one,v1,Nat.add_mul_mod_self_left,Nat.mod_eq_of_lt (by omega)]
 have b8:V / 2 ^ 8 % 2 ^ A=B:=by
  have:bt V 8 A=B:=by rw [v1,bt_at (by omega),mod_own hvl]
  exact this
 obtain ⟨g1,g2,g3⟩:=hgm V 8 (8+A+9+m+f) b8 (by omega)
 have htn:tbN V 8=tT zs:=by unfold tbN;rw [g2,hTT]
 have bF:bt V (8+A+9+m) f=F:=by rw [v4,bt_at hP3,Nat.mod_eq_of_lt hFl]
 have bU:bt V (8+A+9) m=U:=by rw [v3,bt_at hP2,mod_own hU]
 have bm:bt V (8+A) 9=m:=by rw [v2,bt_at hPl,mod_own (by omega)]
 refine ⟨by rw [v4];exact low_lt hP3 hFl,by omega,.inr ⟨hk,8+A+9,⟨g1,by rw [g3],by omega,by rw [g3];exact bm,by omega,?_,?_⟩,by omega,bU.symm⟩⟩
 ·rw [htn,show 8+A+9+m+f-(8+A+9+m)=f by omega,bF,b0]
  exact hfb.1
 ·rw [htn,show 8+A+9+m+f-(8+A+9+m)=f by omega,bF,b0]
  exact hfb.2
theorem rdS_enB {zs:List Int} {k m U:Nat} (ht:txtB zs 40=true) (h1:1≤zs.length) (h64:zs.length≤64) (hm:m≤256) (hU:U<2 ^ m):(enB k zs m U).2<2 ^ (enB k zs m U).1∧RdS (enB k zs m U).1 (enB k zs m U).2 k zs m U:=by
 unfold enB
 split
 ·rename_i h
  subst h
  exact rdH_of ht h1 h64 hU
 ·rename_i h
  exact rdT_of h ht h1 h64 hm hU
theorem bt_top {b w v x h:Nat} (hv:v<2 ^ b) (hx:x<2 ^ w):bt (v+x*2 ^ b+2 ^ (b+w)*h) b w=x:=by
 unfold bt
 have e:v+x*2 ^ b+2 ^ (b+w)*h=v+2 ^ b*(x+2 ^ w*h):=by rw [Nat.pow_add,Nat.mul_add,Nat.mul_comm x,Nat.mul_assoc,Nat.add_assoc]
 rw [e,Nat.add_mul_div_left _ _ (Nat.two_pow_pos b),Nat.div_eq_of_lt hv,Nat.zero_add,Nat.add_mul_mod_self_left,Nat.mod_eq_of_lt hx]
def Ext (st:SyT) (N V:Nat):Prop:=st.2.1≤N∧∃ h,V=st.2.2+2 ^ st.2.1*h
def Run (N V:Nat) (st:SyT) (lits:List Int) (L:Nat) (out:List (List Int × Int × Int)):Prop:=uq N V st.1 0 [] 0 []=some (out,st.2.1,lits,L)
theorem uq_app (N V:Nat) (us:List Int):∀ (ts:List Int) (p:Nat) (lits:List Int) (L:Nat) (out:List (List Int × Int × Int)),uq N V (ts++us) p lits L out=(uq N V ts p lits L out).bind (fun r=>uq N V us r.2.1 r.2.2.1 r.2.2.2 r.1)
 | [],p,lits,L,out=>rfl
 | s :: ts,p,lits,L,out=>by
  rw [List.cons_append]
  simp only [uq]
  split
  ·rfl
  ·split
   ·exact uq_app N V us ts _ _ _ _
   ·split
    ·exact uq_app N V us ts _ _ _ _
    ·exact uq_app N V us ts _ _ _ _
section
variable {N V : Nat} {st : SyT} {lits : List Int} {L : Nat} {out : List (List Int × Int × Int)}
theorem Run.snoc {s:Int} {p':Nat} {lits':List Int} {L':Nat} {out':List (List Int × Int × Int)} (h:Run N V st lits L out) (h1:uq N V [s] st.2.1 lits L out=some (out',p',lits',L')):uq N V (st.1++[s]) 0 [] 0 []=some (out',p',lits',L'):=by
 unfold Run at h
 rw [uq_app,h]
 exact h1
theorem ext_step {x w b v:Nat} (h:b+w≤N∧∃ g,V=(v+x*2 ^ b)+2 ^ (b+w)*g):b≤N∧∃ g,V=v+2 ^ b*g:=by
 obtain ⟨h1,g,hg⟩:=h
 refine ⟨by omega,x+2 ^ w*g,?_⟩
 rw [hg,Nat.pow_add,Nat.mul_add,Nat.mul_comm x,Nat.mul_assoc,Nat.add_assoc]
theorem Ext.putL {z:Int} (h:Ext (putL st z) N V):Ext st N V:=ext_step (x:=(z % 16).toNat) (w:=4) h
theorem Ext.putN {base n:Nat} (h:Ext (putN base n st) N V):Ext st N V:=ext_step (x:=n-2 ^ cl n) (w:=cl n) h
theorem Ext.putLs {ls:List Int}:∀ {st:SyT},Ext (putLs ls st) N V→Ext st N V:=by
 induction ls with
 | nil=>exact fun h=>h
 | cons z ls ih=>exact fun h=>(ih (st:=_) h).putL
theorem run_putL {z:Int} (h:Run N V st lits 0 out) (hz:0≤z∧z≤255) (hv:st.2.2<2 ^ st.2.1) (he:Ext (putL st z) N V):Run N V (putL st z) (lits++[z]) 0 out:=by
 obtain ⟨h1,g,hg⟩:=he
 simp only [Go.Proofs.YtfeokafkhnbdiaaGreatDoor.putL] at h1 hg
 have hx:(z % 16).toNat<2 ^ 4:=by omega
 have hb:bt V st.2.1 4=(z % 16).toNat:=by rw [hg];exact bt_top hv hx
 refine h.snoc ?_
 rw [uq_let h1 rfl (by omega),hb]
 simp only [uq]
 rw [show 16*(z / 16)+(((z % 16).toNat:Nat):Int)=z by omega]
 rfl
theorem putL_lt {z:Int} (hv:st.2.2<2 ^ st.2.1):(putL st z).2.2<2 ^ (putL st z).2.1:=put_lt _ _ 4 _ hv (by have:=Int.emod_lt_of_pos z (show (0:Int)<16 by omega);have:=Int.emod_nonneg z (show (16:Int)≠0 by omega);omega)
theorem run_putLs :∀ (ls:List Int) (st:SyT) (lits:List Int),Run N V st lits 0 out→(∀ z ∈ ls,0≤z∧z≤255)→st.2.2<2 ^ st.2.1→Ext (putLs ls st) N V→Run N V (putLs ls st) (lits++ls) 0 out∧(putLs ls st).2.2<2 ^ (putLs ls st).2.1
 | [],st,lits,h,_,hv,_=>by rw [List.append_nil];exact ⟨h,hv⟩
 | z :: ls,st,lits,h,hz,hv,he=>by
  have h1:=run_putL h (hz z (by simp)) hv (Ext.putLs (ls:=ls) he)
  have h2:=run_putLs ls (putL st z) (lits++[z]) h1 (fun y hy=>hz y (by simp [hy])) (putL_lt hv) he
  rw [List.append_assoc] at h2
  exact h2
theorem putN_lt' {base n:Nat} (hv:st.2.2<2 ^ st.2.1) (h1:1≤n) (h2:n<256):(putN base n st).2.2<2 ^ (putN base n st).2.1:=by
 have hc:=cl_fact h1 h2
 refine put_lt _ _ (cl n) _ hv ?_
 have:=hc.2.1
 rw [Nat.pow_succ] at this
 omega
theorem run_len {n:Nat} (h:Run N V st lits 0 out) (h1:1≤n) (h2:n<256) (hv:st.2.2<2 ^ st.2.1) (he:Ext (putN 16 n st) N V):Run N V (putN 16 n st) lits (n+2) out:=by
 obtain ⟨c1,c2,c3,-⟩:=cl_fact h1 h2
 obtain ⟨e1,g,hg⟩:=he
 simp only [Go.Proofs.YtfeokafkhnbdiaaGreatDoor.putN] at e1 hg
 rw [Nat.pow_succ] at c2
 have hb:bt V st.2.1 (cl n)=n-2 ^ cl n:=by rw [hg];exact bt_top hv (by omega)
 have hw:wid ((16+cl n:Nat):Int)=cl n:=by unfold wid;rw [if_neg (by omega),if_pos (by omega)];omega
 refine h.snoc ?_
 rw [uq_len (by rw [hw];exact e1) rfl (by omega) (by omega),hw,hb]
 simp only [uq]
 rw [show 2 ^ cl n+(n-2 ^ cl n)+2=n+2 by omega]
 rfl
theorem run_dst {n:Nat} (h:Run N V st lits L out) (hL:0<L) (h1:1≤n) (h2:n<256) (hv:st.2.2<2 ^ st.2.1) (he:Ext (putN 28 n st) N V):Run N V (putN 28 n st) [] 0 (out++[(lits,(L:Int),(n:Int))]):=by
 obtain ⟨c1,c2,c3,-⟩:=cl_fact h1 h2
 obtain ⟨e1,g,hg⟩:=he
 simp only [Go.Proofs.YtfeokafkhnbdiaaGreatDoor.putN] at e1 hg
 rw [Nat.pow_succ] at c2
 have hb:bt V st.2.1 (cl n)=n-2 ^ cl n:=by rw [hg];exact bt_top hv (by omega)
 have hw:wid ((28+cl n:Nat):Int)=cl n:=by unfold wid;rw [if_pos (by omega)];omega
 refine h.snoc ?_
 rw [uq_dst (by rw [hw];exact e1) hL (by omega),hw,hb]
 simp only [uq]
 rw [show 2 ^ cl n+(n-2 ^ cl n)=n by omega]
 rfl
end
def Ok4 :List Sq→Prop
 | []=>True
 | s :: t=>(∀ z ∈ s.ls,0≤z∧z≤255)∧((s.n=0∧s.d=0∧t=[]∧s.ls≠[])∨(3≤s.n∧s.n≤64∧1≤s.d∧s.d≤64∧Ok4 t))
theorem sq_form {ss:List Sq} {m:Nat} (h:sqn ss=some m) (k:Nat) (hk:k<ss.length):((ss.getD k dq).n=0∧(ss.getD k dq).d=0∧k+1=ss.length∧0<(ss.getD k dq).ls.length)∨(3≤(ss.getD k dq).n∧(ss.getD k dq).n≤64∧1≤(ss.getD k dq).d∧(ss.getD k dq).d≤64):=by
 unfold sqn at h
 split at h
 ·cases h
 ·cases h1:sqc ss (k+1) with
  | none=>rw [sqc_none h1 _ (by omega)] at h;cases h
  | some m1=>
   simp only [sqc,Option.bind_eq_some_iff] at h1
   obtain ⟨m0,g1,g2⟩:=h1
   unfold stp at g2
   split at g2
   ·cases g2
   ·split at g2
    ·split at g2
     ·rename_i q1 q2 q3
      exact .inl ⟨q2,q3.1,by simpa using q3.2.1,q3.2.2⟩
     ·cases g2
    ·split at g2
     ·rename_i q1 q2 q3
      exact .inr (by omega)
     ·cases g2
theorem ok4_of :∀ (ss:List Sq),(∀ s ∈ ss,∀ z ∈ s.ls,0≤z∧z≤255)→(∀ k,k<ss.length→((ss.getD k dq).n=0∧(ss.getD k dq).d=0∧k+1=ss.length∧0<(ss.getD k dq).ls.length)∨(3≤(ss.getD k dq).n∧(ss.getD k dq).n≤64∧1≤(ss.getD k dq).d∧(ss.getD k dq).d≤64))→Ok4 ss
 | [],_,_=>trivial
 | s :: t,hz,h=>by
  refine ⟨hz s (by simp),?_⟩
  rcases h 0 (by simp) with ⟨h1,h2,h3,h4⟩ | ⟨h1,h2,h3,h4⟩
  ·refine .inl ⟨h1,h2,?_,?_⟩
   ·simp only [List.length_cons] at h3
    exact List.eq_nil_of_length_eq_zero (by omega)
   ·intro e
    have:s.ls.length=0:=by rw [e];rfl
    simp only [List.getD_cons_zero] at h4
    omega
  ·refine .inr ⟨h1,h2,h3,h4,ok4_of t (fun x hx=>hz x (by simp [hx])) (fun k hk=>?_)⟩
   have h9:=h (k+1) (by simp;omega)
   simp only [List.getD_cons_succ,List.length_cons] at h9
   rcases h9 with ⟨a1,a2,a3,a4⟩ | h9
   ·exact .inl ⟨a1,a2,by omega,a4⟩
   ·exact .inr h9
theorem Ext.putQs {N V:Nat}:∀ {ss:List Sq} {st:SyT},Ext (ss.foldl putQ st) N V→Ext st N V
 | [],st,h=>h
 | s :: ss,st,h=>by
  have h1:Ext (putQ st s) N V:=Ext.putQs (ss:=ss) h
  unfold putQ at h1
  split at h1
  ·exact h1.putLs
  ·exact h1.putN.putN.putLs
theorem run_all {N V:Nat}:∀ (ss:List Sq) (st:SyT) (out:List (List Int × Int × Int)),Ok4 ss→Run N V st [] 0 out→st.2.2<2 ^ st.2.1→Ext (ss.foldl putQ st) N V→(ss.foldl putQ st).2.1=N→uqE N (uq N V (ss.foldl putQ st).1 0 [] 0 [])=some (out++ss.map Sq.ct)
 | [],st,out,_,hr,_,_,hN=>by
  have hr':uq N V st.1 0 [] 0 []=some (out,st.2.1,[],0):=hr
  simp only [List.foldl_nil] at hN ⊢
  rw [hr']
  simp [uqE,hN]
 | s :: t,st,out,hok,hr,hv,he,hN=>by
  obtain ⟨hz,hok⟩:=hok
  have hq:Ext (putQ st s) N V:=Ext.putQs (ss:=t) he
  rcases hok with ⟨h1,h2,rfl,h4⟩ | ⟨h1,h2,h3,h4,h5⟩
  ·have e:putQ st s=putLs s.ls st:=by unfold putQ;rw [if_pos h1]
   rw [e] at hq
   obtain ⟨r1,-⟩:=run_putLs s.ls st [] hr hz hv hq
   simp only [List.foldl_cons,List.foldl_nil,List.nil_append] at hN r1 ⊢
   rw [e] at hN ⊢
   have r1':uq N V (putLs s.ls st).1 0 [] 0 []=some (out,(putLs s.ls st).2.1,s.ls,0):=r1
   rw [r1']
   simp [uqE,hN,h4,Sq.ct,h1,h2]
  ·have e:putQ st s=putN 28 s.d.toNat (putN 16 (s.n.toNat-2) (putLs s.ls st)):=by unfold putQ;rw [if_neg (by omega)]
   rw [e] at hq
   obtain ⟨r1,v1⟩:=run_putLs s.ls st [] hr hz hv hq.putN.putN
   have r2:=run_len r1 (n:=s.n.toNat-2) (by omega) (by omega) v1 hq.putN
   have v2:=putN_lt' (base:=16) (n:=s.n.toNat-2) v1 (by omega) (by omega)
   have r3:=run_dst r2 (by omega) (n:=s.d.toNat) (by omega) (by omega) v2 hq
   have v3:=putN_lt' (base:=28) (n:=s.d.toNat) v2 (by omega) (by omega)
   rw [←e] at r3 v3
   have h9:=run_all t (putQ st s) _ h5 r3 v3 he hN
   rw [List.foldl_cons,h9,List.append_assoc]
   simp only [List.nil_append,List.map_cons,List.cons_append,Sq.ct]
   rw [show ((s.n.toNat-2+2:Nat):Int)=s.n by omega,show ((s.d.toNat:Nat):Int)=s.d by omega]
theorem uqF_sy {ss:List Sq} (h:(sqn ss).isSome=true) (hz:∀ s ∈ ss,∀ z ∈ s.ls,0≤z∧z≤255):uqF (syOf ss).2.1 (syOf ss).2.2 (syOf ss).1=some (ss.map Sq.ct):=by
 obtain ⟨m,hm⟩:=Option.isSome_iff_exists.1 h
 have:=run_all (N:=(syOf ss).2.1) (V:=(syOf ss).2.2) ss ([],0,0) [] (ok4_of ss hz (sq_form hm)) rfl (by decide) ⟨Nat.le_refl _,0,by simp [syOf]⟩ rfl
 rw [List.nil_append] at this
 exact this
def cur (lits:List Int) (L:Nat) (out:List (List Int × Int × Int)):SyT:=if L=0 then putLs lits (out.foldl putC ([],0,0)) else putN 16 (L-2) (putLs lits (out.foldl putC ([],0,0)))
end Go.Proofs.YtfeokafkhnbdiaaGreatDoor
