/- Lemmas on the way. -/
import Derived.Test.YtfeokafkhnbdiaaGreatDoorINorm4
import Derived.Test.YtfeokafkhnbdiaaGreatDoorPcB
import Derived.Laws.BitsAllLaws
import Derived.BigQuiet
import Derived.Deep.AppendLies
import Derived.Deep.RegionLaw
import Derived.BigRegion
import Derived.Deep.RegionHeld3
import Derived.WalkKit
set_option maxRecDepth 20000
set_option maxHeartbeats 16000000
namespace Go.Proofs.YtfeokafkhnbdiaaGreatDoor
open Go.RowKit
set_option linter.unusedVariables false
def Mono (cs ns:List Int):Prop:=∀ i k,i<cs.length→k<cs.length→cs.getD k 0<cs.getD i 0→ns.getD k 0≤ns.getD i 0
theorem sum_setN (cs:List Int) (i:Nat) (v:Int) (h:i<cs.length):(cs.set i v).sum=cs.sum-cs.getD i 0+v:=by
 induction cs generalizing i with
 | nil=>simp at h
 | cons c cs ih=>
  cases i with
  | zero=>simp;omega
  | succ i=>
   have:=ih i (by simpa using h)
   simp only [List.set_cons_succ,List.sum_cons,this]
   simp
   omega
theorem shares_sum {cs:List Int} (hs:some1 cs) (j:Nat):(shares cs j).sum=sumF one cs+j:=by
 induction j with
 | zero=>simp [shares,sumF]
 | succ j ih=>
  obtain ⟨p1,p2,p3⟩:=pick_in (ns:=shares cs j) hs
  show (give cs (shares cs j)).sum=_
  unfold give bump
  rw [sum_setN _ _ _ (by rw [(fair_all hs j).1];exact p2),ih]
  omega
theorem shares_norm {cs:List Int} (hc:cntB cs=true) (hr:roomy cs):normB (shares cs (rest cs))=true:=by
 have hs:=some1_of hr.1
 have hf:=fair_all hs (rest cs)
 have hb:=cntB_bndN hc
 simp only [normB,decide_eq_true_eq]
 rw [hf.1]
 refine ⟨hb.1,hb.2,fun z hz=>?_,?_⟩
 ·have h1:=hf.rng z hz
  have h2:=hr.1
  unfold rest at h1
  omega
 ·rw [shares_sum hs]
  have h1:=hr.1
  have h2:=hr.2
  unfold rest
  omega
def rvp (c L:Nat):Nat→Nat
 | 0=>0
 | j+1=>rvp c L j+(c / 2 ^ (L-1-j) % 2)*2 ^ j
theorem rvp_lt (c L j:Nat):rvp c L j<2 ^ j:=by
 induction j with
 | zero=>simp [rvp]
 | succ j ih=>
  simp only [rvp]
  have h1:c / 2 ^ (L-1-j) % 2≤1:=by omega
  have h2:(c / 2 ^ (L-1-j) % 2)*2 ^ j≤1*2 ^ j:=Nat.mul_le_mul_right _ h1
  rw [Nat.pow_succ]
  omega
theorem rvp_congr {c d L M j:Nat} (h:∀ i,i<j→c / 2 ^ (L-1-i) % 2=d / 2 ^ (M-1-i) % 2):rvp c L j=rvp d M j:=by
 induction j with
 | zero=>rfl
 | succ j ih=>
  simp only [rvp]
  rw [ih (fun i hi=>h i (by omega)),h j (by omega)]
theorem rvp_split (x a b j:Nat) (hj:j≤b):rvp x (a+b) (a+j)=rvp x (a+b) a+2 ^ a*rvp x b j:=by
 induction j with
 | zero=>simp [rvp]
 | succ j ih=>
  rw [show a+(j+1)=(a+j)+1 from rfl]
  simp only [rvp]
  rw [ih (by omega),show a+b-1-(a+j)=b-1-j from by omega,Nat.pow_add,Nat.mul_add]
  have e:x / 2 ^ (b-1-j) % 2*(2 ^ a*2 ^ j)=2 ^ a*(x / 2 ^ (b-1-j) % 2*2 ^ j):=by rw [Nat.mul_left_comm]
  rw [e]
  omega
theorem rvp_shift (x L:Nat) (h:L≤16):rvp x 16 16 / 2 ^ (16-L)=rvp x L L:=by
 have h1:=rvp_split x (16-L) L L nl
 rw [show 16-L+L=16 from by omega] at h1
 rw [h1,Nat.add_mul_div_left _ _ (Nat.pow_pos (by omega)),Nat.div_eq_of_lt (rvp_lt _ _ _),Nat.zero_add]
theorem bit_mod (c k i:Nat) (h:i<k):c % 2 ^ k / 2 ^ i % 2=c / 2 ^ i % 2:=by
 have e:2 ^ k=2 ^ i*2 ^ (k-i):=by rw [←Nat.pow_add];congr 1;omega
 rw [e,Nat.mod_mul_right_div_self]
 have d:2 ∣ 2 ^ (k-i):=⟨2 ^ (k-i-1),by rw [←Nat.pow_succ'];congr 1;omega⟩
 exact Nat.mod_mod_of_dvd _ d
theorem rvp_mod (c L k:Nat) (h:L≤k):rvp (c % 2 ^ k) L L=rvp c L L:=rvp_congr (fun i hi=>bit_mod c k (L-1-i) (by omega))
theorem rvp_16 (x:Nat):rvp x 16 16=rvp (x / 256) 8 8+256*rvp (x % 256) 8 8:=by
 have h1:=rvp_split x 8 8 8 nl
 have h2:rvp x (8+8) 8=rvp (x / 256) 8 8:=rvp_congr (fun i hi=>by
  rw [show 8+8-1-i=8+(8-1-i) from by omega,Nat.pow_add,←Nat.div_div_eq_div_mul])
 have h3:=rvp_mod x 8 8 nl
 rw [show (8:Nat)+8=16 from rfl] at h1 h2
 rw [h1,h2,show 256=2 ^ 8 from rfl,h3]
theorem u16_and (a:Nat) (h:a<65536):bits .and .u16 (a:Int) 255=((a % 256:Nat):Int):=by
 have e:bits .and .u16 (a:Int) 255=IntKind.u16.wrap ((BitVec.ofInt 16 (a:Int) &&& BitVec.ofInt 16 255).toNat:Int):=rfl
 rw [e,BitVec.toNat_and]
 have e1:(BitVec.ofInt 16 (a:Int)).toNat=a:=by rw [BitVec.ofInt_natCast,BitVec.toNat_ofNat];exact Nat.mod_eq_of_lt (by omega)
 have e2:(BitVec.ofInt 16 255).toNat=2 ^ 8-1:=by decide
 rw [e1,e2,Nat.and_two_pow_sub_one_eq_mod]
 exact IntWalk.u16_in _ (by omega)
theorem u16_or (a b:Nat) (ha:a<256) (hb:b<256):bits .or .u16 (a:Int) ((b*256:Nat):Int)=((a+256*b:Nat):Int):=by
 have e:bits .or .u16 (a:Int) ((b*256:Nat):Int)=IntKind.u16.wrap ((BitVec.ofInt 16 (a:Int) ||| BitVec.ofInt 16 ((b*256:Nat):Int)).toNat:Int):=rfl
 rw [e,BitVec.toNat_or]
 have e1:(BitVec.ofInt 16 (a:Int)).toNat=a:=by rw [BitVec.ofInt_natCast,BitVec.toNat_ofNat];exact Nat.mod_eq_of_lt (by omega)
 have e2:(BitVec.ofInt 16 ((b*256:Nat):Int)).toNat=b*256:=by rw [BitVec.ofInt_natCast,BitVec.toNat_ofNat];exact Nat.mod_eq_of_lt (by omega)
 have e3:a ||| b*256=a+256*b:=by
  rw [Nat.or_comm,Nat.mul_comm,show 256=2 ^ 8 from rfl,←Nat.two_pow_add_eq_or_of_lt (by omega)]
  omega
 rw [e1,e2,e3]
 exact IntWalk.u16_in _ (by omega)
set_option maxRecDepth 100000 in
theorem rev16_any (y z:Nat) (w:World) (hy:y<256) (hz:z<256) :
  Calls Tryz.prog 147 #[.int .u16 ((y*256+z:Nat):Int)] w fun e w'=>e=.returned (.int .u16 ((rvp y 8 8+256*rvp z 8 8:Nat):Int))∧∃ m,w'=w.drewN m:=by
 have h1:bits .and .u16 ((y*256+z:Nat):Int) 255=((z:Nat):Int):=by
  rw [u16_and _ (by omega)]
  congr 1
  omega
 have h2:(((y*256+z:Nat):Int)) / 256=((y:Nat):Int):=by omega
 have hyI:(y:Int)<256:=by omega
 have hzI:(z:Int)<256:=by omega
 generalize ((y*256+z:Nat):Int)=x at *
 go_enter Tryz.func147,Tryz.ntmps147
 go_wp2
 go_quiet (fail)
 go_wp2
 go_ret
 refine ⟨ret_int ?_,_,rfl⟩
 have e:∀ (n:Nat) (S:ByteArray) (h:n<S.size),S[n]=S.data.toList.getD n 0:=by
  intro n S h
  have h':n<S.data.toList.length:=by simpa using h
  rw [List.getD_eq_getElem?_getD,List.getElem?_eq_getElem h']
  rfl
 rw [e y,e z]
 clear e h1 h2 hyI hzI
 have H:∀ (L:List UInt8),(∀ n:Nat,n<256→(L.getD n 0).toNat=rvp n 8 8)→bits .or .u16 (IntKind.u16.wrap ((L.getD y 0).toNat:Int)) (IntKind.u16.wrap (IntKind.u16.wrap ((L.getD z 0).toNat:Int)*256))=((rvp y 8 8+256*rvp z 8 8:Nat):Int):=by
  intro L hL
  rw [hL y hy,hL z hz]
  have r1:rvp y 8 8<256:=rvp_lt y 8 8
  have r2:rvp z 8 8<256:=rvp_lt z 8 8
  generalize rvp y 8 8=p at *
  generalize rvp z 8 8=q at *
  rw [IntWalk.u16_in (p:Int) (by omega),IntWalk.u16_in (q:Int) (by omega),IntWalk.u16_in ((q:Int)*256) (by omega),show ((q:Int)*256)=((q*256:Nat):Int) from by simp]
  exact u16_or p q r1 r2
 exact H _ (by decide +kernel)
theorem rev16_rvp (c:Nat) (w:World) (h:c<65536) :
  Calls Tryz.prog 147 #[.int .u16 (c:Int)] w fun e w'=>e=.returned (.int .u16 ((rvp c 16 16:Nat):Int))∧∃ m,w'=w.drewN m:=by
 have:=rev16_any (c / 256) (c % 256) w (by omega) (by omega)
 rw [show c / 256*256+c % 256=c from by omega,←rvp_16 c] at this
 exact this
theorem addr_add (b off j:Nat):(⟨b,off,none⟩:Addr).add j=⟨b,off+j,none⟩:=by unfold Addr.add;split <;> simp_all
theorem news_of {w:World} {b off:Nat} {zs:List Int} (hc:∀ i,i<zs.length→w.cell? ⟨b,off+i,none⟩=some (.int .u8 (zs.getD i 0))) :
  ∀ j u,(zs.map (Value.int .u8))[j]?=some u→w.cell? ((⟨b,off,none⟩:Addr).add j)=some u:=by
 intro j u hu
 have hj:j<zs.length:=by
  rcases Nat.lt_or_ge j zs.length with h | h
  ·exact h
  ·rw [List.getElem?_eq_none (by simpa using h)] at hu;cases hu
 rw [addr_add,hc j hj]
 simp [hj] at hu
 simp [hj,←hu]
theorem oneCells (zs:List Int):∀ u ∈ zs.map (Value.int .u8),u.oneCell'=true:=by
 intro u hu
 simp only [List.mem_map] at hu
 obtain ⟨z,_,rfl⟩:=hu
 rfl
end Go.Proofs.YtfeokafkhnbdiaaGreatDoor
namespace Go.Proofs.YtfeokafkhnbdiaaGreatDoor
def val :List Int→Nat
 | []=>0
 | z :: r=>z.toNat+256*val r
def encL :Nat→Nat→List Int
 | 0,_=>[]
 | k+1,v=>((v % 256:Nat):Int) :: encL k (v / 256)
def enc (n v:Nat):List Int:=encL ((n+7) / 8) v
theorem encL_len (k v:Nat):(encL k v).length=k:=by
 induction k generalizing v with
 | zero=>rfl
 | succ k ih=>simp [encL,ih]
theorem enc_len (n v:Nat):(enc n v).length=(n+7) / 8:=encL_len _ _
theorem encL_rng (k v:Nat):∀ z ∈ encL k v,0≤z∧z≤255:=by
 induction k generalizing v with
 | zero=>intro z hz;cases hz
 | succ k ih=>
  intro z hz
  simp only [encL,List.mem_cons] at hz
  rcases hz with rfl | hz
  ·omega
  ·exact ih _ z hz
theorem encL_get (k v i:Nat) (h:i<k):(encL k v).getD i 0=((v / 256 ^ i % 256:Nat):Int):=by
 induction k generalizing v i with
 | zero=>omega
 | succ k ih=>
  cases i with
  | zero=>simp [encL]
  | succ i=>
   have:=ih (v / 256) i (by omega)
   simp only [encL,List.getD_cons_succ,this]
   rw [Nat.div_div_eq_div_mul,Nat.pow_succ,Nat.mul_comm]
theorem val_encL (k v:Nat):val (encL k v)=v % 256 ^ k:=by
 induction k generalizing v with
 | zero=>simp [encL,val,Nat.mod_one]
 | succ k ih=>
  simp only [encL,val,ih,Int.toNat_natCast]
  rw [Nat.pow_succ,Nat.mul_comm (256 ^ k) 256,Nat.mod_mul]
theorem encL_val (zs:List Int) (h:∀ z ∈ zs,0≤z∧z≤255):encL zs.length (val zs)=zs:=by
 induction zs with
 | nil=>rfl
 | cons z r ih=>
  have hz:=h z (by simp)
  have hr:=ih (fun y hy=>h y (by simp [hy]))
  simp only [List.length_cons,encL,val]
  rw [show (z.toNat+256*val r) % 256=z.toNat from by omega,show (z.toNat+256*val r) / 256=val r from by omega,hr]
  congr 1
  omega
theorem val_lt (zs:List Int) (h:∀ z ∈ zs,0≤z∧z≤255):val zs<256 ^ zs.length:=by
 induction zs with
 | nil=>simp [val]
 | cons z r ih=>
  have hz:=h z (by simp)
  have hr:=ih (fun y hy=>h y (by simp [hy]))
  simp only [List.length_cons,val,Nat.pow_succ]
  omega
theorem encL_mod (k v:Nat):encL k (v % 256 ^ k)=encL k v:=by
 have:=encL_val (encL k v) (encL_rng k v)
 rwa [encL_len,val_encL] at this
theorem encL_append (k v:Nat):encL (k+1) v=encL k v++[((v / 256 ^ k % 256:Nat):Int)]:=by
 induction k generalizing v with
 | zero=>simp [encL]
 | succ k ih=>
  rw [encL,ih (v / 256)]
  simp only [encL,List.cons_append]
  rw [Nat.div_div_eq_div_mul,Nat.pow_succ,Nat.mul_comm (256 ^ k) 256]
theorem pow256 (k:Nat):256 ^ k=2 ^ (8*k):=by
 rw [Nat.pow_mul]
theorem enc_bit (n v p:Nat) (hp:p<n):(((enc n v).getD (p / 8) 0).toNat / 2 ^ (p % 8)) % 2=v / 2 ^ p % 2:=by
 rw [enc,encL_get _ _ _ (by omega),Int.toNat_natCast,pow256]
 have h1:v / 2 ^ p=v / 2 ^ (8*(p / 8)) / 2 ^ (p % 8):=by
  rw [Nat.div_div_eq_div_mul,←Nat.pow_add]
  congr 2
  omega
 rw [h1]
 generalize v / 2 ^ (8*(p / 8))=u
 have hq:p % 8<8:=Nat.mod_lt _ (by omega)
 generalize p % 8=q at hq
 have h256:256=2 ^ q*2 ^ (8-q):=by rw [←Nat.pow_add,show q+(8-q)=8 from by omega]
 rw [h256,Nat.mod_mul_right_div_self]
 obtain ⟨r,hr⟩:∃ r,8-q=r+1:=⟨7-q,by omega⟩
 rw [hr,Nat.pow_succ,Nat.mul_comm (2 ^ r) 2,Nat.mod_mul_right_mod]
theorem enc_step (n v s c:Nat) (hv:v<2 ^ n) (hc:c<2 ^ s) (hs:0<s) (h8:n % 8+s≤8) :
  enc (n+s) (v+c*2 ^ n)=(if n % 8=0 then enc n v++[0] else enc n v).set (n / 8) (((v / 256 ^ (n / 8)+c*2 ^ (n % 8):Nat):Int)):=by
 have hk:(n+s+7) / 8=n / 8+1:=by omega
 have hpow:2 ^ n=256 ^ (n / 8)*2 ^ (n % 8):=by
  rw [pow256,←Nat.pow_add,show 8*(n / 8)+n % 8=n from by omega]
 have hlow:encL (n / 8) (v+c*2 ^ n)=encL (n / 8) v:=by
  rw [←encL_mod,hpow,Nat.mul_left_comm,Nat.add_mul_mod_self_left,encL_mod]
 have hdiv:(v+c*2 ^ n) / 256 ^ (n / 8)=v / 256 ^ (n / 8)+c*2 ^ (n % 8):=by
  rw [hpow,Nat.mul_left_comm,Nat.add_mul_div_left _ _ (Nat.pow_pos (by omega))]
 have hvd:v / 256 ^ (n / 8)<2 ^ (n % 8):=by
  rw [Nat.div_lt_iff_lt_mul (Nat.pow_pos (by omega)),Nat.mul_comm,←hpow];exact hv
 have hlt:v / 256 ^ (n / 8)+c*2 ^ (n % 8)<256:=by
  have h1:(c+1)*2 ^ (n % 8)≤2 ^ s*2 ^ (n % 8):=Nat.mul_le_mul_right _ hc
  have h2:2 ^ s*2 ^ (n % 8)≤256:=by
   rw [←Nat.pow_add]
   have h3:2 ^ (s+n % 8)≤2 ^ 8:=Nat.pow_le_pow_right (by omega) (by omega)
   omega
  rw [Nat.add_mul,Nat.one_mul] at h1
  omega
 unfold enc
 rw [hk,encL_append,hlow,hdiv,Nat.mod_eq_of_lt hlt]
 by_cases h0:n % 8=0
 ·rw [if_pos h0,show (n+7) / 8=n / 8 from by omega]
  rw [List.set_append_right _ _ (by rw [encL_len];exact Nat.le_refl _),encL_len]
  simp
 ·rw [if_neg h0,show (n+7) / 8=n / 8+1 from by omega,encL_append]
  rw [List.set_append_right _ _ (by rw [encL_len];exact Nat.le_refl _),encL_len]
  simp
theorem enc_last (n v:Nat) (hv:v<2 ^ n) (h:n % 8≠0):(enc n v).getD (n / 8) 0=((v / 256 ^ (n / 8):Nat):Int):=by
 have hpow:2 ^ n=256 ^ (n / 8)*2 ^ (n % 8):=by
  rw [pow256,←Nat.pow_add,show 8*(n / 8)+n % 8=n from by omega]
 have hvd:v / 256 ^ (n / 8)<2 ^ (n % 8):=by
  rw [Nat.div_lt_iff_lt_mul (Nat.pow_pos (by omega)),Nat.mul_comm,←hpow];exact hv
 have h256:2 ^ (n % 8)≤2 ^ 8:=Nat.pow_le_pow_right (by omega) (by omega)
 rw [enc,encL_get _ _ _ (by omega),Nat.mod_eq_of_lt (by omega)]
theorem enc_top (n v:Nat) (hv:v<2 ^ n):v / 256 ^ (n / 8)<2 ^ (n % 8):=by
 have hpow:2 ^ n=256 ^ (n / 8)*2 ^ (n % 8):=by
  rw [pow256,←Nat.pow_add,show 8*(n / 8)+n % 8=n from by omega]
 rw [Nat.div_lt_iff_lt_mul (Nat.pow_pos (by omega)),Nat.mul_comm,←hpow];exact hv
theorem val_bits (n:Nat) (zs:List Int) (h:∀ z ∈ zs,0≤z∧z≤255) (hl:zs.length=(n+7) / 8) (ht:n % 8=0∨(zs.getD (zs.length-1) 0).toNat<2 ^ (n % 8)) :
  val zs<2 ^ n∧zs=enc n (val zs):=by
 have he:=encL_val zs h
 have hv:=val_lt zs h
 refine ⟨?_,by rw [enc,←hl,he]⟩
 by_cases h0:n % 8=0
 ·rw [hl,pow256,show 8*((n+7) / 8)=n from by omega] at hv
  exact hv
 ·have ht':=ht.resolve_left h0
  have hk:zs.length=n / 8+1:=by omega
  have hlast:zs.getD (zs.length-1) 0=((val zs / 256 ^ (n / 8) % 256:Nat):Int):=by
   have:=encL_get zs.length (val zs) (n / 8) (by omega)
   rw [he] at this
   rw [show zs.length-1=n / 8 from by omega]
   exact this
  rw [hlast,Int.toNat_natCast] at ht'
  have h256:val zs / 256 ^ (n / 8)<256:=by
   rw [Nat.div_lt_iff_lt_mul (Nat.pow_pos (by omega)),←Nat.pow_succ',show (n / 8).succ=zs.length from hk.symm];exact hv
  rw [Nat.mod_eq_of_lt h256,Nat.div_lt_iff_lt_mul (Nat.pow_pos (by omega)),pow256,←Nat.pow_add] at ht'
  rw [show n % 8+8*(n / 8)=n from by omega] at ht'
  exact ht'
theorem put_lt (n v s c:Nat) (hv:v<2 ^ n) (hc:c<2 ^ s):v+c*2 ^ n<2 ^ (n+s):=by
 have h1:(c+1)*2 ^ n≤2 ^ s*2 ^ n:=Nat.mul_le_mul_right _ hc
 rw [Nat.add_mul,Nat.one_mul,←Nat.pow_add,Nat.add_comm s n] at h1
 omega
theorem put_part (n v x i s:Nat):v+(x % 2 ^ i)*2 ^ n+(x / 2 ^ i % 2 ^ s)*2 ^ (n+i)=v+(x % 2 ^ (i+s))*2 ^ n:=by
 have h:x % 2 ^ (i+s)=x % 2 ^ i+2 ^ i*(x / 2 ^ i % 2 ^ s):=by rw [Nat.pow_add,Nat.mod_mul]
 rw [h,Nat.add_mul,Nat.pow_add,Nat.add_assoc]
 congr 2
 rw [Nat.mul_comm (2 ^ i),Nat.mul_assoc,Nat.mul_comm (2 ^ i)]
theorem get_up (v at' i:Nat):v / 2 ^ at' % 2 ^ (i+1)=v / 2 ^ at' % 2 ^ i+(v / 2 ^ (at'+i) % 2)*2 ^ i:=by
 rw [Nat.pow_add 2 i 1,Nat.mod_mul,Nat.pow_one,Nat.div_div_eq_div_mul,←Nat.pow_add,Nat.mul_comm (2 ^ i)]
end Go.Proofs.YtfeokafkhnbdiaaGreatDoor
namespace Go.Proofs.YtfeokafkhnbdiaaGreatDoor
open Go.RowKit
theorem ofInt_i64 (a:Nat) (ha:a<9223372036854775808):(BitVec.ofInt 64 (a:Int)).toNat=a:=by
 rw [BitVec.ofInt_natCast,BitVec.toNat_ofNat];exact Nat.mod_eq_of_lt (by omega)
theorem i64_and_nat (a b:Nat) (ha:a<9223372036854775808) (hb:b<9223372036854775808):bits .and .i64 (a:Int) (b:Int)=((a &&& b:Nat):Int):=by
 have hx:a &&& b<2 ^ 63:=Nat.and_lt_two_pow _ (by omega)
 show IntKind.i64.wrap ((BitVec.ofInt 64 (a:Int) &&& BitVec.ofInt 64 (b:Int)).toNat:Int)=_
 rw [BitVec.toNat_and,ofInt_i64 a ha,ofInt_i64 b hb,IntKind.wrap_i64]
 omega
theorem i64_or_nat (a b:Nat) (ha:a<9223372036854775808) (hb:b<9223372036854775808):bits .or .i64 (a:Int) (b:Int)=((a ||| b:Nat):Int):=by
 have hx:a ||| b<2 ^ 63:=Nat.or_lt_two_pow (by omega) (by omega)
 show IntKind.i64.wrap ((BitVec.ofInt 64 (a:Int) ||| BitVec.ofInt 64 (b:Int)).toNat:Int)=_
 rw [BitVec.toNat_or,ofInt_i64 a ha,ofInt_i64 b hb,IntKind.wrap_i64]
 omega
theorem bit64 (z:Int) (k:Nat) (h:0≤z∧z≤255):bits .and .i64 (wrap64 (z / 2 ^ k)) 1=((z.toNat / 2 ^ k % 2:Nat):Int):=by
 obtain ⟨n,rfl⟩:=Int.eq_ofNat_of_zero_le h.1
 have e:((n:Int) / 2 ^ k)=((n / 2 ^ k:Nat):Int):=by simp
 have hle:n / 2 ^ k≤n:=Nat.div_le_self _ _
 rw [e,Int.toNat_natCast]
 generalize n / 2 ^ k=m at *
 rw [IntWalk.wrap64_in _ (by omega)]
 have:=i64_and_nat m 1 (by omega) (by omega)
 rw [show ((1:Nat):Int)=1 from rfl] at this
 rw [this,nat_mask1]
theorem or_bit64 (n b i:Nat) (hn:n<2 ^ i) (hb:b≤1) (hi:i≤31):bits .or .i64 (n:Int) ((b*2 ^ i:Nat):Int)=((n+b*2 ^ i:Nat):Int):=by
 have h1:2 ^ i≤2 ^ 31:=Nat.pow_le_pow_right (by omega) hi
 have h2:b*2 ^ i≤1*2 ^ i:=Nat.mul_le_mul_right _ hb
 rw [i64_or_nat n (b*2 ^ i) (by omega) (by omega)]
 congr 1
 rw [Nat.or_comm,nat_join i _ _ (by simp) hn,Nat.add_comm]
theorem or_step64 (X j k:Nat) (z:Int) (hz:0≤z∧z≤255) (hx:X<2 ^ j) (hj:j≤31) :
  bits .or .i64 (X:Int) (wrap64 (bits .and .i64 (wrap64 (z / 2 ^ k)) 1*2 ^ j))=((X+z.toNat / 2 ^ k % 2*2 ^ j:Nat):Int):=by
 rw [bit64 z k hz]
 have hb:z.toNat / 2 ^ k % 2≤1:=by omega
 generalize z.toNat / 2 ^ k % 2=bt at *
 have e:((bt:Nat):Int)*2 ^ j=((bt*2 ^ j:Nat):Int):=by simp
 have h1:2 ^ j≤2 ^ 31:=Nat.pow_le_pow_right (by omega) hj
 have h2:bt*2 ^ j≤1*2 ^ j:=Nat.mul_le_mul_right _ hb
 have h3:=or_bit64 X bt j hx hb hj
 rw [e]
 generalize bt*2 ^ j=y at *
 rw [IntWalk.wrap64_in _ (by omega)]
 exact h3
theorem or_u8 (old x u:Nat) (ho:old<2 ^ u) (hx:x % 2 ^ u=0) (h8:x<256) (h9:old<256):bits .or .u8 (old:Int) (x:Int)=((old+x:Nat):Int):=by
 rw [u8_or_nat old x h9 h8]
 congr 1
 rw [Nat.or_comm,nat_join u _ _ hx ho,Nat.add_comm]
set_option linter.unusedVariables false
def OwnV (w:World) (B:Nat) (v:Value) (zs:List Int):Prop:=w.ownsRow B 5 1 v zs.length (zs.map (Value.int .u8))∧∀ z ∈ zs,0≤z∧z≤255
theorem OwnV.form {w:World} {B:Nat} {v:Value} {zs:List Int} (h:OwnV w B v zs) (hp:0<zs.length):∃ g cap,v=.slice (some ⟨g,0,none⟩) zs.length cap∧Own w B g cap zs:=by
 obtain ⟨g,cap,rfl,_,_⟩:=h.1.form hp
 exact ⟨g,cap,rfl,h⟩
theorem Own.v {w:World} {B g cap:Nat} {zs:List Int} (h:Own w B g cap zs):OwnV w B (.slice (some ⟨g,0,none⟩) zs.length cap) zs:=h
theorem Own.ne {w:World} {B g cap R:Nat} {zs:List Int} {cur:Array Value} {T:TypeId} (h:Own w B g cap zs) (hR:w.heap[R]?=some (.cells cur T (0,0))) (hT:T≠5):g≠R:=by
 rintro rfl
 rcases h.1.2 with ⟨h',_⟩ | ⟨g',cap',cur',h',hg,hh,r⟩
 ·simp at h'
 ·have e:g'=g:=by simp at h';exact h'.1.symm
  subst e
  rw [hR] at hh
  simp at hh
  exact hT hh.2
theorem cellR {w:World} {R j:Nat} {cur:Array Value} {T:TypeId} {v:Value} (hR:w.heap[R]?=some (.cells cur T (0,0))) (hv:cur[j]?=some v):w.cell? ⟨R,j,none⟩=some v:=by
 rw [cell_of_row w R j cur T (0,0) hR];exact hv
theorem frozenR {w:World} {R j:Nat} {cur:Array Value} {T:TypeId} (hR:w.heap[R]?=some (.cells cur T (0,0))):w.frozen? ⟨R,j,none⟩=false:=frozen_of_row w R j cur T hR
theorem app_keep {wr w1:World} {o b:Obj} {row:Option Nat} {R:Nat} (hg:(wr.alloc o).grownBy w1 row) (hR:wr.heap[R]?=some b) (hne:some R≠row):w1.heap[R]?=some b:=by
 have hlt:R<wr.heap.size:=(Array.getElem?_eq_some_iff.1 hR).1
 rw [hg.block R (by simp;omega) hne,Below.heap_alloc wr o R hlt]
 exact hR
end Go.Proofs.YtfeokafkhnbdiaaGreatDoor
