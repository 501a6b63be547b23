/- Lemmas on the way. -/
import Derived.Test.YtfeokafkhnbdiaaGreatDoorSeal1
import Derived.Test.YtfeokafkhnbdiaaGreatDoorSome1
import Derived.Test.YtfeokafkhnbdiaaGreatDoorDrC
import Derived.Test.YtfeokafkhnbdiaaGreatDoorSqEq
import Derived.Test.YtfeokafkhnbdiaaGreatDoorTakeI
import Derived.Test.YtfeokafkhnbdiaaGreatDoorNRound
import Derived.Test.YtfeokafkhnbdiaaGreatDoorUqB
import Derived.Test.YtfeokafkhnbdiaaGreatDoorLen8
namespace Go.Proofs.YtfeokafkhnbdiaaGreatDoor
open Go.RowKit
set_option linter.unusedVariables false
theorem val_last (zs:List Int):∀ L,zs.length=L+1→val zs=val (zs.take L)+256 ^ L*(zs.getD L 0).toNat:=by
 induction zs with
 | nil=>intro L h;simp at h
 | cons z zs ih=>
  intro L h
  cases L with
  | zero=>
   have:zs=[]:=List.eq_nil_of_length_eq_zero (by simpa using h)
   subst this
   simp [val]
  | succ L=>
   have:=ih L (by simpa using h)
   simp only [val,List.take_succ_cons,List.getD_cons_succ]
   rw [this,Nat.pow_succ]
   generalize 256 ^ L=P
   generalize (zs.getD L 0).toNat=x
   rw [Nat.mul_add,show P*256*x=256*(P*x) from by rw [Nat.mul_comm P 256,Nat.mul_assoc]]
   omega
theorem val_set (zs:List Int) (L:Nat) (x:Int) (h:zs.length=L+1):val (zs.set L x)=val (zs.take L)+256 ^ L*x.toNat:=by
 rw [val_last (zs.set L x) L (by rw [List.length_set];exact h),List.take_set_of_le nl]
 congr 2
 rw [List.getD_eq_getElem?_getD,List.getElem?_set_self (by omega)]
 rfl
theorem open_num (zs:List Int) (L b t:Nat) (hL:zs.length=L+1) (ht:zs.getD L 0=(t:Int)) (h1:2 ^ b≤t) (h2:t<2 ^ (b+1)):val (openY zs L b t)+2 ^ (8*L+b)=val zs:=by
 have hv:=val_last zs L hL
 rw [ht,Int.toNat_natCast,pow256] at hv
 by_cases hb:b=0
 ·subst hb
  rw [openY,if_pos rfl,hv]
  have:t=1:=by simp at h1 h2;omega
  subst this
  simp
 ·rw [openY,if_neg hb,val_set zs L _ hL,Int.toNat_natCast,hv,pow256,Nat.pow_add]
  generalize 2 ^ (8*L)=P at *
  generalize 2 ^ b=Q at *
  have e:t=(t-Q)+Q:=by omega
  have:P*t=P*(t-Q)+P*Q:=by rw [←Nat.mul_add];congr 1
  omega
theorem open_yesE (a:Option Addr) (cap k V:Nat) (zs:List Int) (w:World) (hV:V<2 ^ k) (hk:k≤4096) (hz:zs=enc (k+1) (V+2 ^ k)) (hb:Byt w a zs) :
  Calls Tryz.prog 105 #[.slice a zs.length cap] w fun e w'=>∃ a' cp,e=.returned (.tuple #[.agg #[.slice a' (enc k V).length cp,.int .i64 k],.bool true])∧Mine w' w.heap.size w'.heap.size a' cp (enc k V)∧Below w.heap.size w w':=by
 have hlen:zs.length=k / 8+1:=by rw [hz,enc_len];omega
 have hkb:8*(k / 8)+k % 8=k:=by omega
 obtain ⟨t,ht,h1,h2⟩:∃ t:Nat,zs.getD (k / 8) 0=(t:Int)∧2 ^ (k % 8)≤t∧t<2 ^ (k % 8+1):=by
  refine ⟨(V+2 ^ k) / 256 ^ (k / 8),?_,?_,?_⟩
  ·rw [hz]
   unfold enc
   rw [encL_get _ _ _ (by omega)]
   congr 1
   refine Nat.mod_eq_of_lt ?_
   rw [pow256]
   refine Nat.div_lt_of_lt_mul ?_
   have:V+2 ^ k<2 ^ (k+1):=by rw [Nat.pow_succ];omega
   refine Nat.lt_of_lt_of_le this ?_
   rw [show 256=2 ^ 8 from rfl,←Nat.pow_add]
   exact Nat.pow_le_pow_right (by omega) (by omega)
  ·rw [pow256]
   refine (Nat.le_div_iff_mul_le (Nat.pow_pos (by omega))).2 ?_
   rw [←Nat.pow_add,show k % 8+8*(k / 8)=k from by omega]
   omega
  ·rw [pow256]
   refine Nat.div_lt_of_lt_mul ?_
   rw [←Nat.pow_add,show 8*(k / 8)+(k % 8+1)=k+1 from by omega,Nat.pow_succ]
   omega
 have hn:8*(k / 8)+k % 8≤4096:=by omega
 have HO:=implOpen_yes a cap zs (k / 8) (k % 8) t w hb hlen ht h1 h2 (by omega) hn
 have hnum:=open_num zs (k / 8) (k % 8) t hlen ht h1 h2
 have hok:=okB_open zs (k / 8) (k % 8) t hlen h1 h2 (by omega)
 rw [decide_eq_true hn] at hok
 have hvz:val zs=V+2 ^ k:=by rw [hz];exact val_encB (k+1) _ (by rw [Nat.pow_succ];omega)
 have hrng:∀ z ∈ openY zs (k / 8) (k % 8) t,0≤z∧z≤255:=by
  intro z hzz
  unfold openY at hzz
  split at hzz
  ·exact hb.1 z (List.mem_of_mem_take hzz)
  ·rcases List.mem_or_eq_of_mem_set hzz with h | rfl
   ·exact hb.1 z h
   ·have:2 ^ (k % 8+1)≤2 ^ 8:=Nat.pow_le_pow_right (by omega) (by omega)
    omega
 obtain ⟨m,hm1,hm2,hm3,hm4⟩:=okB_enc hok hrng
 rw [hkb] at hm1 hnum HO
 obtain rfl:k=m:=by omega
 have hvo:val (openY zs (k / 8) (k % 8) t)=V:=by omega
 rw [hvo] at hm3
 rw [hm3] at HO
 rw [hlen]
 exact HO
set_option linter.unusedSimpArgs false
def DcEP (Y:Option (List Int)) (w:World) (e:Ending) (w':World):Prop:=Below w.heap.size w w' ∧
 ((∃ bs v,Y=some bs∧OVB w' w.heap.size v bs∧e=.returned (.tuple #[v,.bool true]))∨(Y=none∧e=.returned (.tuple #[.slice none 0 0,.bool false])))
def DecP (xs:List Int) (Y:Option (List Int)):Prop:=(∀ bs,Y=some bs→bs.length=64∧2≤xs.length∧xs.length≤65) ∧
 (∀ (a:Option Addr) (cap:Nat) (w:World),xs.length≤cap→Byt w a xs→SentB w→Calls Tryz.prog 28 #[.slice a xs.length cap] w (DcEP Y w))
theorem rbY_uniqueP {o:Option (Nat × Nat)} {m:Nat} {zs bs bs':List Int} (h:RbY o m zs bs) (h':RbY o m zs bs'):bs=bs':=by
 obtain ⟨-,h⟩:=h
 obtain ⟨-,h'⟩:=h'
 rcases h with ⟨e0,rfl⟩ | ⟨e0,-,rfl⟩ | ⟨e0,q,rfl,hy⟩
 ·rcases h' with ⟨-,rfl⟩ | ⟨e1,-⟩ | ⟨e1,-⟩
  ·rfl
  ·omega
  ·omega
 ·rcases h' with ⟨e1,-⟩ | ⟨-,-,rfl⟩ | ⟨e1,-⟩
  ·omega
  ·rfl
  ·omega
 ·rcases h' with ⟨e1,-⟩ | ⟨e1,-⟩ | ⟨-,q',hq,hy'⟩
  ·omega
  ·omega
  ·cases hq
   exact hy.unique hy'
theorem decP_of {m:Nat} {zs:List Int} {o:Option (Nat × Nat)} (h1:1≤zs.length) (h64:zs.length≤64) (hO:OpnP zs o):∃ Y,DecP ((m:Int) :: zs) Y∧(∀ bs,Y=some bs↔RbY o m zs bs):=by
 obtain ⟨Y,hY,hN,hYr⟩:∃ Y:Option (List Int),(∀ bs,RbY o m zs bs→Y=some bs)∧((¬∃ bs,RbY o m zs bs)→Y=none)∧(∀ bs,Y=some bs→RbY o m zs bs):=by
  by_cases h:∃ bs,RbY o m zs bs
  ·obtain ⟨bs,hbs⟩:=h
   exact ⟨some bs,fun b hb=>by rw [rbY_uniqueP hbs hb],fun hn=>absurd ⟨bs,hbs⟩ hn,fun b hb=>by cases hb;exact hbs⟩
  ·exact ⟨none,fun b hb=>absurd ⟨b,hb⟩ h,fun _=>rfl,fun b hb=>by cases hb⟩
 refine ⟨Y,⟨fun bs hbs=>⟨(hYr bs hbs).1,by simp only [List.length_cons];omega,by simp only [List.length_cons];omega⟩,?_⟩,fun bs=>⟨hYr bs,hY bs⟩⟩
 intro a cap w hc hb hS
 simp only [List.length_cons] at hc ⊢
 refine (decodeI_any a cap m zs o w hb h1 h64 hc hO hS).mono ?_
 rintro e w' ⟨hb',⟨bs,v,h1,h2,h3⟩ | ⟨h1,h3⟩⟩
 ·exact ⟨hb',.inl ⟨bs,v,hY bs h1,h2,h3⟩⟩
 ·exact ⟨hb',.inr ⟨hN h1,h3⟩⟩
theorem decP_no {xs:List Int} (h:xs.length<2∨65<xs.length):DecP xs none:=by
 refine ⟨fun bs h=>(by cases h),?_⟩
 intro a cap w hc hb hS
 refine (decodeI_no a cap xs.length w h hS).mono ?_
 rintro e w' ⟨hb',rfl⟩
 exact ⟨hb',.inr ⟨rfl,rfl⟩⟩
def moP (xs:List Int) (Y:Option (List Int)):Int:=if Y.isSome then xs.getD 0 0 else -1
theorem osY_packed {ys:List Int} (hn:ys.length=64) (hr:∀ z ∈ ys,0≤z∧z≤255) (k:Nat):(enB k (syB ys).1 (syB ys).2.1 (syB ys).2.2).2<2 ^ (enB k (syB ys).1 (syB ys).2.1 (syB ys).2.2).1∧(enB k (syB ys).1 (syB ys).2.1 (syB ys).2.2).1≤2000∧OsY (enB k (syB ys).1 (syB ys).2.1 (syB ys).2.2).1 (enB k (syB ys).1 (syB ys).2.1 (syB ys).2.2).2 k ys:=by
 have e:((found ys).map (fun c=>(⟨none,0,c.1,c.2.1,c.2.2⟩:Sq))).map Sq.ct=found ys:=by
  rw [List.map_map]
  exact List.map_id _
 have hb:∀ s ∈ (found ys).map (fun c=>(⟨none,0,c.1,c.2.1,c.2.2⟩:Sq)),∀ z ∈ s.ls,0≤z∧z≤255:=fun s hs z hz=>by
  obtain ⟨c,hc,rfl⟩:=List.mem_map.1 hs
  exact hr z (found_mem ys c hc z hz)
 generalize (found ys).map (fun c=>(⟨none,0,c.1,c.2.1,c.2.2⟩:Sq))=ss at e hb
 obtain ⟨hso,hS⟩:=syF_of hn e hb
 have hu:=uqF_sy hso hb
 rw [syB_of e] at hu
 obtain ⟨h1,h2⟩:=rdS_enB (k:=k) hS.ht hS.h1 hS.h2 hS.hm hS.hU
 exact ⟨h1,enB_bnd hS.ht hS.h1 hS.h2 hS.hm k _,⟨_,_,_,ss,h2,hu,hso,found_exb (by omega) e⟩⟩
theorem opn_packed {ys:List Int} (hn:ys.length=64) (hr:∀ z ∈ ys,0≤z∧z≤255) (k:Nat):∃ q,OpnP (sqB k ys) (some q)∧OsY q.1 q.2 k ys:=by
 obtain ⟨h1,h2,h3⟩:=osY_packed hn hr k
 exact ⟨_,⟨by omega,h1,fun a cap w hb=>open_yesE a cap _ _ _ w h1 (by omega) rfl hb⟩,h3⟩
theorem alike_all {ys:List Int} (hn:ys.length=64) (h:alikeB ys=true):ys=List.replicate 64 (ys.getD 0 0):=by
 simp only [alikeB,decide_eq_true_eq] at h
 exact List.eq_replicate_iff.2 ⟨hn,h⟩
theorem dbl_one (z:Int):dbl [z] 6=List.replicate 64 z:=rfl
theorem packed_rb {ys xs:List Int} {x:Int} (hr:∀ z ∈ ys,0≤z∧z≤255) (h:pkO x ys=some xs):ys.length=64∧∃ (k:Nat) (rest:List Int) (o:Option (Nat × Nat)),x=(k:Int)∧k≤3∧xs=(k:Int) :: rest∧1≤rest.length∧OpnP rest o∧RbY o k rest ys:=by
 unfold pkO at h
 split at h
 ·cases h
 ·rename_i hn
  have hn':ys.length=64:=by omega
  refine ⟨hn',?_⟩
  split at h
  ·rename_i h0
   simp only [Option.some.injEq] at h
   subst h
   obtain ⟨o,ho⟩:=opnP ys (by omega) hr
   exact ⟨0,ys,o,h0,by omega,rfl,by omega,ho,hn',.inl ⟨rfl,rfl⟩⟩
  ·split at h
   ·rename_i _ h1
    split at h
    ·rename_i ha
     simp only [Option.some.injEq] at h
     subst h
     have h9:=hr (ys.getD 0 0) (getD_mem (by omega))
     obtain ⟨o,ho⟩:=opnP [ys.getD 0 0] (by simp) (fun z hz=>by simp only [List.mem_singleton] at hz;rw [hz];exact h9)
     refine ⟨1,[ys.getD 0 0],o,h1,by omega,rfl,by simp,ho,hn',.inr (.inl ⟨rfl,rfl,?_⟩)⟩
     rw [dbl_one]
     exact alike_all hn' ha
    ·cases h
   ·have key:∀ k:Nat,(k=2∨k=3)→(k:Int) :: sqB k ys=xs→∃ (k':Nat) (rest:List Int) (o:Option (Nat × Nat)),(k:Int)=(k':Int)∧k'≤3∧xs=(k':Int) :: rest∧1≤rest.length∧OpnP rest o∧RbY o k' rest ys:=fun k hk he=>by
     obtain ⟨q,hq,hy⟩:=opn_packed hn' hr k
     refine ⟨k,sqB k ys,some q,rfl,by omega,he.symm,?_,hq,hn',.inr (.inr ⟨hk,q,rfl,hy⟩)⟩
     unfold sqB
     rw [enc_len]
     omega
    split at h
    ·rename_i h2
     rw [h2]
     simp only [Option.some.injEq] at h
     exact key 2 (.inl rfl) h
    ·split at h
     ·rename_i h3
      rw [h3]
      simp only [Option.some.injEq] at h
      exact key 3 (.inr rfl) h
     ·cases h
theorem decP_packed {ys xs:List Int} {x:Int} (hr:∀ z ∈ ys,0≤z∧z≤255) (h:pkO x ys=some xs):DecP xs (if xs.length≤65 then some ys else none)∧xs.getD 0 0=x∧ys.length=64∧2≤xs.length:=by
 obtain ⟨hn,k,rest,o,hx,hk,rfl,h1,ho,hrb⟩:=packed_rb hr h
 refine ⟨?_,hx.symm,hn,by simp only [List.length_cons];omega⟩
 by_cases hl:((k:Int) :: rest).length≤65
 ·rw [if_pos hl]
  simp only [List.length_cons] at hl
  obtain ⟨Y,hY,hiff⟩:=decP_of (m:=k) h1 (by omega) ho
  rw [(hiff ys).2 hrb] at hY
  exact hY
 ·rw [if_neg hl]
  exact decP_no (.inr (by omega))
theorem enK_is {ys:List Int} (hn:ys.length=64):∀ j,∃ k:Nat,k≤j∧pkO (k:Int) ys=some (enK ys j)
 | 0=>⟨0,Nat.le_refl _,by unfold pkO;rw [if_neg (by simpa using hn),if_pos (by simp)];rfl⟩
 | j+1=>by
  obtain ⟨k,hk,ih⟩:=enK_is hn j
  cases h:pkO ((j+1:Nat):Int) ys with
  | none=>exact ⟨k,by omega,by rw [enK_none h];exact ih⟩
  | some b=>
   rw [enK_some h]
   split
   ·exact ⟨j+1,Nat.le_refl _,h⟩
   ·exact ⟨k,by omega,ih⟩
theorem enK_least {ys:List Int} (hn:ys.length=64):∀ j (k:Nat),k≤j→∀ z,pkO (k:Int) ys=some z→(enK ys j).length≤z.length
 | 0,k,hk,z,hz=>by
  obtain rfl:k=0:=by omega
  unfold pkO at hz
  rw [if_neg (by simpa using hn),if_pos (by simp)] at hz
  simp only [Option.some.injEq] at hz
  rw [←hz]
  exact Nat.le_refl _
 | j+1,k,hk,z,hz=>by
  by_cases e:k=j+1
  ·subst e
   rw [enK_some hz]
   split <;> omega
  ·have ih:=enK_least hn j k (by omega) z hz
   cases h:pkO ((j+1:Nat):Int) ys with
   | none=>rw [enK_none h];exact ih
   | some b=>
    rw [enK_some h]
    split <;> omega
end Go.Proofs.YtfeokafkhnbdiaaGreatDoor
