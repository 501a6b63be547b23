/- Lemmas on the way. -/
import Derived.Test.YtfeokafkhnbdiaaGreatDoorPcA
import Derived.Deep.AppendLies
import Derived.Deep.RegionLaw
import Derived.BigRegion
import Derived.Deep.RegionHeld3
import Derived.WalkKit
import Derived.Laws.BitsAllLaws
set_option maxRecDepth 20000
set_option maxHeartbeats 16000000
namespace Go.Proofs.YtfeokafkhnbdiaaGreatDoor
open Go.RowKit
set_option linter.unusedVariables false
theorem addr_add (b off j:Nat):(⟨b,off,none⟩:Addr).add j=⟨b,off+j,none⟩:=by unfold Addr.add;split <;> simp_all
theorem news_of {w:World} {b off:Nat} {zs:List Int} (hc:∀ i,i<zs.length→w.cell? ⟨b,off+i,none⟩=some (.int .u8 (zs.getD i 0))) :
  ∀ j u,(zs.map (Value.int .u8))[j]?=some u→w.cell? ((⟨b,off,none⟩:Addr).add j)=some u:=by
 intro j u hu
 have hj:j<zs.length:=by
  rcases Nat.lt_or_ge j zs.length with h | h
  ·exact h
  ·rw [List.getElem?_eq_none (by simpa using h)] at hu;cases hu
 rw [addr_add,hc j hj]
 simp [hj] at hu
 simp [hj,←hu]
theorem oneCells (zs:List Int):∀ u ∈ zs.map (Value.int .u8),u.oneCell'=true:=by
 intro u hu
 simp only [List.mem_map] at hu
 obtain ⟨z,_,rfl⟩:=hu
 rfl
end Go.Proofs.YtfeokafkhnbdiaaGreatDoor
namespace Go.Proofs.YtfeokafkhnbdiaaGreatDoor
def val :List Int→Nat
 | []=>0
 | z :: r=>z.toNat+256*val r
def encL :Nat→Nat→List Int
 | 0,_=>[]
 | k+1,v=>((v % 256:Nat):Int) :: encL k (v / 256)
def enc (n v:Nat):List Int:=encL ((n+7) / 8) v
theorem encL_len (k v:Nat):(encL k v).length=k:=by
 induction k generalizing v with
 | zero=>rfl
 | succ k ih=>simp [encL,ih]
theorem enc_len (n v:Nat):(enc n v).length=(n+7) / 8:=encL_len _ _
theorem encL_rng (k v:Nat):∀ z ∈ encL k v,0≤z∧z≤255:=by
 induction k generalizing v with
 | zero=>intro z hz;cases hz
 | succ k ih=>
  intro z hz
  simp only [encL,List.mem_cons] at hz
  rcases hz with rfl | hz
  ·omega
  ·exact ih _ z hz
theorem encL_get (k v i:Nat) (h:i<k):(encL k v).getD i 0=((v / 256 ^ i % 256:Nat):Int):=by
 induction k generalizing v i with
 | zero=>omega
 | succ k ih=>
  cases i with
  | zero=>simp [encL]
  | succ i=>
   have:=ih (v / 256) i (by omega)
   simp only [encL,List.getD_cons_succ,this]
   rw [Nat.div_div_eq_div_mul,Nat.pow_succ,Nat.mul_comm]
theorem val_encL (k v:Nat):val (encL k v)=v % 256 ^ k:=by
 induction k generalizing v with
 | zero=>simp [encL,val,Nat.mod_one]
 | succ k ih=>
  simp only [encL,val,ih,Int.toNat_natCast]
  rw [Nat.pow_succ,Nat.mul_comm (256 ^ k) 256,Nat.mod_mul]
theorem encL_val (zs:List Int) (h:∀ z ∈ zs,0≤z∧z≤255):encL zs.length (val zs)=zs:=by
 induction zs with
 | nil=>rfl
 | cons z r ih=>
  have hz:=h z (by simp)
  have hr:=ih (fun y hy=>h y (by simp [hy]))
  simp only [List.length_cons,encL,val]
  rw [show (z.toNat+256*val r) % 256=z.toNat from by omega,show (z.toNat+256*val r) / 256=val r from by omega,hr]
  congr 1
  omega
theorem val_lt (zs:List Int) (h:∀ z ∈ zs,0≤z∧z≤255):val zs<256 ^ zs.length:=by
 induction zs with
 | nil=>simp [val]
 | cons z r ih=>
  have hz:=h z (by simp)
  have hr:=ih (fun y hy=>h y (by simp [hy]))
  simp only [List.length_cons,val,Nat.pow_succ]
  omega
theorem encL_mod (k v:Nat):encL k (v % 256 ^ k)=encL k v:=by
 have:=encL_val (encL k v) (encL_rng k v)
 rwa [encL_len,val_encL] at this
theorem encL_append (k v:Nat):encL (k+1) v=encL k v++[((v / 256 ^ k % 256:Nat):Int)]:=by
 induction k generalizing v with
 | zero=>simp [encL]
 | succ k ih=>
  rw [encL,ih (v / 256)]
  simp only [encL,List.cons_append]
  rw [Nat.div_div_eq_div_mul,Nat.pow_succ,Nat.mul_comm (256 ^ k) 256]
theorem pow256 (k:Nat):256 ^ k=2 ^ (8*k):=by
 rw [Nat.pow_mul]
theorem enc_bit (n v p:Nat) (hp:p<n):(((enc n v).getD (p / 8) 0).toNat / 2 ^ (p % 8)) % 2=v / 2 ^ p % 2:=by
 rw [enc,encL_get _ _ _ (by omega),Int.toNat_natCast,pow256]
 have h1:v / 2 ^ p=v / 2 ^ (8*(p / 8)) / 2 ^ (p % 8):=by
  rw [Nat.div_div_eq_div_mul,←Nat.pow_add]
  congr 2
  omega
 rw [h1]
 generalize v / 2 ^ (8*(p / 8))=u
 have hq:p % 8<8:=Nat.mod_lt _ (by omega)
 generalize p % 8=q at hq
 have h256:256=2 ^ q*2 ^ (8-q):=by rw [←Nat.pow_add,show q+(8-q)=8 from by omega]
 rw [h256,Nat.mod_mul_right_div_self]
 obtain ⟨r,hr⟩:∃ r,8-q=r+1:=⟨7-q,by omega⟩
 rw [hr,Nat.pow_succ,Nat.mul_comm (2 ^ r) 2,Nat.mod_mul_right_mod]
theorem enc_step (n v s c:Nat) (hv:v<2 ^ n) (hc:c<2 ^ s) (hs:0<s) (h8:n % 8+s≤8) :
  enc (n+s) (v+c*2 ^ n)=(if n % 8=0 then enc n v++[0] else enc n v).set (n / 8) (((v / 256 ^ (n / 8)+c*2 ^ (n % 8):Nat):Int)):=by
 have hk:(n+s+7) / 8=n / 8+1:=by omega
 have hpow:2 ^ n=256 ^ (n / 8)*2 ^ (n % 8):=by
  rw [pow256,←Nat.pow_add,show 8*(n / 8)+n % 8=n from by omega]
 have hlow:encL (n / 8) (v+c*2 ^ n)=encL (n / 8) v:=by
  rw [←encL_mod,hpow,Nat.mul_left_comm,Nat.add_mul_mod_self_left,encL_mod]
 have hdiv:(v+c*2 ^ n) / 256 ^ (n / 8)=v / 256 ^ (n / 8)+c*2 ^ (n % 8):=by
  rw [hpow,Nat.mul_left_comm,Nat.add_mul_div_left _ _ (Nat.pow_pos (by omega))]
 have hvd:v / 256 ^ (n / 8)<2 ^ (n % 8):=by
  rw [Nat.div_lt_iff_lt_mul (Nat.pow_pos (by omega)),Nat.mul_comm,←hpow];exact hv
 have hlt:v / 256 ^ (n / 8)+c*2 ^ (n % 8)<256:=by
  have h1:(c+1)*2 ^ (n % 8)≤2 ^ s*2 ^ (n % 8):=Nat.mul_le_mul_right _ hc
  have h2:2 ^ s*2 ^ (n % 8)≤256:=by
   rw [←Nat.pow_add]
   have h3:2 ^ (s+n % 8)≤2 ^ 8:=Nat.pow_le_pow_right (by omega) (by omega)
   omega
  rw [Nat.add_mul,Nat.one_mul] at h1
  omega
 unfold enc
 rw [hk,encL_append,hlow,hdiv,Nat.mod_eq_of_lt hlt]
 by_cases h0:n % 8=0
 ·rw [if_pos h0,show (n+7) / 8=n / 8 from by omega]
  rw [List.set_append_right _ _ (by rw [encL_len];exact Nat.le_refl _),encL_len]
  simp
 ·rw [if_neg h0,show (n+7) / 8=n / 8+1 from by omega,encL_append]
  rw [List.set_append_right _ _ (by rw [encL_len];exact Nat.le_refl _),encL_len]
  simp
theorem enc_last (n v:Nat) (hv:v<2 ^ n) (h:n % 8≠0):(enc n v).getD (n / 8) 0=((v / 256 ^ (n / 8):Nat):Int):=by
 have hpow:2 ^ n=256 ^ (n / 8)*2 ^ (n % 8):=by
  rw [pow256,←Nat.pow_add,show 8*(n / 8)+n % 8=n from by omega]
 have hvd:v / 256 ^ (n / 8)<2 ^ (n % 8):=by
  rw [Nat.div_lt_iff_lt_mul (Nat.pow_pos (by omega)),Nat.mul_comm,←hpow];exact hv
 have h256:2 ^ (n % 8)≤2 ^ 8:=Nat.pow_le_pow_right (by omega) (by omega)
 rw [enc,encL_get _ _ _ (by omega),Nat.mod_eq_of_lt (by omega)]
theorem enc_top (n v:Nat) (hv:v<2 ^ n):v / 256 ^ (n / 8)<2 ^ (n % 8):=by
 have hpow:2 ^ n=256 ^ (n / 8)*2 ^ (n % 8):=by
  rw [pow256,←Nat.pow_add,show 8*(n / 8)+n % 8=n from by omega]
 rw [Nat.div_lt_iff_lt_mul (Nat.pow_pos (by omega)),Nat.mul_comm,←hpow];exact hv
theorem val_bits (n:Nat) (zs:List Int) (h:∀ z ∈ zs,0≤z∧z≤255) (hl:zs.length=(n+7) / 8) (ht:n % 8=0∨(zs.getD (zs.length-1) 0).toNat<2 ^ (n % 8)) :
  val zs<2 ^ n∧zs=enc n (val zs):=by
 have he:=encL_val zs h
 have hv:=val_lt zs h
 refine ⟨?_,by rw [enc,←hl,he]⟩
 by_cases h0:n % 8=0
 ·rw [hl,pow256,show 8*((n+7) / 8)=n from by omega] at hv
  exact hv
 ·have ht':=ht.resolve_left h0
  have hk:zs.length=n / 8+1:=by omega
  have hlast:zs.getD (zs.length-1) 0=((val zs / 256 ^ (n / 8) % 256:Nat):Int):=by
   have:=encL_get zs.length (val zs) (n / 8) (by omega)
   rw [he] at this
   rw [show zs.length-1=n / 8 from by omega]
   exact this
  rw [hlast,Int.toNat_natCast] at ht'
  have h256:val zs / 256 ^ (n / 8)<256:=by
   rw [Nat.div_lt_iff_lt_mul (Nat.pow_pos (by omega)),←Nat.pow_succ',show (n / 8).succ=zs.length from hk.symm];exact hv
  rw [Nat.mod_eq_of_lt h256,Nat.div_lt_iff_lt_mul (Nat.pow_pos (by omega)),pow256,←Nat.pow_add] at ht'
  rw [show n % 8+8*(n / 8)=n from by omega] at ht'
  exact ht'
theorem put_lt (n v s c:Nat) (hv:v<2 ^ n) (hc:c<2 ^ s):v+c*2 ^ n<2 ^ (n+s):=by
 have h1:(c+1)*2 ^ n≤2 ^ s*2 ^ n:=Nat.mul_le_mul_right _ hc
 rw [Nat.add_mul,Nat.one_mul,←Nat.pow_add,Nat.add_comm s n] at h1
 omega
theorem put_part (n v x i s:Nat):v+(x % 2 ^ i)*2 ^ n+(x / 2 ^ i % 2 ^ s)*2 ^ (n+i)=v+(x % 2 ^ (i+s))*2 ^ n:=by
 have h:x % 2 ^ (i+s)=x % 2 ^ i+2 ^ i*(x / 2 ^ i % 2 ^ s):=by rw [Nat.pow_add,Nat.mod_mul]
 rw [h,Nat.add_mul,Nat.pow_add,Nat.add_assoc]
 congr 2
 rw [Nat.mul_comm (2 ^ i),Nat.mul_assoc,Nat.mul_comm (2 ^ i)]
theorem get_up (v at' i:Nat):v / 2 ^ at' % 2 ^ (i+1)=v / 2 ^ at' % 2 ^ i+(v / 2 ^ (at'+i) % 2)*2 ^ i:=by
 rw [Nat.pow_add 2 i 1,Nat.mod_mul,Nat.pow_one,Nat.div_div_eq_div_mul,←Nat.pow_add,Nat.mul_comm (2 ^ i)]
end Go.Proofs.YtfeokafkhnbdiaaGreatDoor
namespace Go.Proofs.YtfeokafkhnbdiaaGreatDoor
open Go.RowKit
theorem ofInt_i64 (a:Nat) (ha:a<9223372036854775808):(BitVec.ofInt 64 (a:Int)).toNat=a:=by
 rw [BitVec.ofInt_natCast,BitVec.toNat_ofNat];exact Nat.mod_eq_of_lt (by omega)
theorem i64_and_nat (a b:Nat) (ha:a<9223372036854775808) (hb:b<9223372036854775808):bits .and .i64 (a:Int) (b:Int)=((a &&& b:Nat):Int):=by
 have hx:a &&& b<2 ^ 63:=Nat.and_lt_two_pow _ (by omega)
 show IntKind.i64.wrap ((BitVec.ofInt 64 (a:Int) &&& BitVec.ofInt 64 (b:Int)).toNat:Int)=_
 rw [BitVec.toNat_and,ofInt_i64 a ha,ofInt_i64 b hb,IntKind.wrap_i64]
 omega
theorem i64_or_nat (a b:Nat) (ha:a<9223372036854775808) (hb:b<9223372036854775808):bits .or .i64 (a:Int) (b:Int)=((a ||| b:Nat):Int):=by
 have hx:a ||| b<2 ^ 63:=Nat.or_lt_two_pow (by omega) (by omega)
 show IntKind.i64.wrap ((BitVec.ofInt 64 (a:Int) ||| BitVec.ofInt 64 (b:Int)).toNat:Int)=_
 rw [BitVec.toNat_or,ofInt_i64 a ha,ofInt_i64 b hb,IntKind.wrap_i64]
 omega
theorem bit64 (z:Int) (k:Nat) (h:0≤z∧z≤255):bits .and .i64 (wrap64 (z / 2 ^ k)) 1=((z.toNat / 2 ^ k % 2:Nat):Int):=by
 obtain ⟨n,rfl⟩:=Int.eq_ofNat_of_zero_le h.1
 have e:((n:Int) / 2 ^ k)=((n / 2 ^ k:Nat):Int):=by simp
 have hle:n / 2 ^ k≤n:=Nat.div_le_self _ _
 rw [e,Int.toNat_natCast]
 generalize n / 2 ^ k=m at *
 rw [IntWalk.wrap64_in _ (by omega)]
 have:=i64_and_nat m 1 (by omega) (by omega)
 rw [show ((1:Nat):Int)=1 from rfl] at this
 rw [this,nat_mask1]
theorem or_bit64 (n b i:Nat) (hn:n<2 ^ i) (hb:b≤1) (hi:i≤31):bits .or .i64 (n:Int) ((b*2 ^ i:Nat):Int)=((n+b*2 ^ i:Nat):Int):=by
 have h1:2 ^ i≤2 ^ 31:=Nat.pow_le_pow_right (by omega) hi
 have h2:b*2 ^ i≤1*2 ^ i:=Nat.mul_le_mul_right _ hb
 rw [i64_or_nat n (b*2 ^ i) (by omega) (by omega)]
 congr 1
 rw [Nat.or_comm,nat_join i _ _ (by simp) hn,Nat.add_comm]
theorem or_step64 (X j k:Nat) (z:Int) (hz:0≤z∧z≤255) (hx:X<2 ^ j) (hj:j≤31) :
  bits .or .i64 (X:Int) (wrap64 (bits .and .i64 (wrap64 (z / 2 ^ k)) 1*2 ^ j))=((X+z.toNat / 2 ^ k % 2*2 ^ j:Nat):Int):=by
 rw [bit64 z k hz]
 have hb:z.toNat / 2 ^ k % 2≤1:=by omega
 generalize z.toNat / 2 ^ k % 2=bt at *
 have e:((bt:Nat):Int)*2 ^ j=((bt*2 ^ j:Nat):Int):=by simp
 have h1:2 ^ j≤2 ^ 31:=Nat.pow_le_pow_right (by omega) hj
 have h2:bt*2 ^ j≤1*2 ^ j:=Nat.mul_le_mul_right _ hb
 have h3:=or_bit64 X bt j hx hb hj
 rw [e]
 generalize bt*2 ^ j=y at *
 rw [IntWalk.wrap64_in _ (by omega)]
 exact h3
theorem or_u8 (old x u:Nat) (ho:old<2 ^ u) (hx:x % 2 ^ u=0) (h8:x<256) (h9:old<256):bits .or .u8 (old:Int) (x:Int)=((old+x:Nat):Int):=by
 rw [u8_or_nat old x h9 h8]
 congr 1
 rw [Nat.or_comm,nat_join u _ _ hx ho,Nat.add_comm]
set_option linter.unusedVariables false
def OwnV (w:World) (B:Nat) (v:Value) (zs:List Int):Prop:=w.ownsRow B 5 1 v zs.length (zs.map (Value.int .u8))∧∀ z ∈ zs,0≤z∧z≤255
theorem OwnV.form {w:World} {B:Nat} {v:Value} {zs:List Int} (h:OwnV w B v zs) (hp:0<zs.length):∃ g cap,v=.slice (some ⟨g,0,none⟩) zs.length cap∧Own w B g cap zs:=by
 obtain ⟨g,cap,rfl,_,_⟩:=h.1.form hp
 exact ⟨g,cap,rfl,h⟩
theorem Own.v {w:World} {B g cap:Nat} {zs:List Int} (h:Own w B g cap zs):OwnV w B (.slice (some ⟨g,0,none⟩) zs.length cap) zs:=h
theorem Own.ne {w:World} {B g cap R:Nat} {zs:List Int} {cur:Array Value} {T:TypeId} (h:Own w B g cap zs) (hR:w.heap[R]?=some (.cells cur T (0,0))) (hT:T≠5):g≠R:=by
 rintro rfl
 rcases h.1.2 with ⟨h',_⟩ | ⟨g',cap',cur',h',hg,hh,r⟩
 ·simp at h'
 ·have e:g'=g:=by simp at h';exact h'.1.symm
  subst e
  rw [hR] at hh
  simp at hh
  exact hT hh.2
theorem cellR {w:World} {R j:Nat} {cur:Array Value} {T:TypeId} {v:Value} (hR:w.heap[R]?=some (.cells cur T (0,0))) (hv:cur[j]?=some v):w.cell? ⟨R,j,none⟩=some v:=by
 rw [cell_of_row w R j cur T (0,0) hR];exact hv
theorem frozenR {w:World} {R j:Nat} {cur:Array Value} {T:TypeId} (hR:w.heap[R]?=some (.cells cur T (0,0))):w.frozen? ⟨R,j,none⟩=false:=frozen_of_row w R j cur T hR
theorem put_bit (old X k u:Nat) (hu:u<8) (ho:old<2 ^ u) (hX:X≤1073741824) :
  bits .or .u8 (old:Int) (bits .and .i64 ((X:Int) / 2 ^ k) 1 % 256*2 ^ u % 256)=((old+X / 2 ^ k % 2*2 ^ u:Nat):Int):=by
 have e:((X:Int) / 2 ^ k)=((X / 2 ^ k:Nat):Int):=by simp
 have hle:X / 2 ^ k≤X:=Nat.div_le_self _ _
 have h1:=i64_and_nat (X / 2 ^ k) 1 (by omega) (by omega)
 rw [show ((1:Nat):Int)=1 from rfl,nat_mask1] at h1
 rw [e,h1]
 have hb:X / 2 ^ k % 2≤1:=by omega
 generalize X / 2 ^ k % 2=bt at *
 have h2:2 ^ u≤2 ^ 7:=Nat.pow_le_pow_right (by omega) (by omega)
 have h3:bt*2 ^ u≤1*2 ^ u:=Nat.mul_le_mul_right _ hb
 have e2:(((bt:Nat):Int) % 256*2 ^ u % 256)=((bt*2 ^ u:Nat):Int):=by
  have:((bt:Nat):Int) % 256=(bt:Int):=by omega
  rw [this,show ((bt:Int)*2 ^ u)=((bt*2 ^ u:Nat):Int) from by simp]
  omega
 rw [e2]
 exact or_u8 old (bt*2 ^ u) u ho (by simp) (by omega) (by omega)
theorem put_close {w W:World} {B g cap R q L:Nat} {v:Value} {Z Z':List Int} {b:Int} (hR:W.heap[R]?=some (.cells #[.slice (some ⟨g,0,none⟩) L cap,.int .i64 (q:Nat)] 40 (0,0)))
  (hZ:Z.length=L) (hown:Own W B g cap Z) (hnext:Z'=Z.set (q / 8) b) (hb:0≤b∧b≤255) (honly:Only (fun k=>k=R∨v.ownBlock=some k) w W)
  (hrow:v.ownBlock=some g∨w.heap.size≤g) :
  ((W.setCell ⟨g,q / 8,none⟩ (.int .u8 b)).setCell ⟨R,1,none⟩ (.int .i64 ((q:Int)+1))).heap[R]?=some (.cells #[.slice (some ⟨g,0,none⟩) L cap,.int .i64 ((q+1:Nat):Int)] 40 (0,0)) ∧
  OwnV ((W.setCell ⟨g,q / 8,none⟩ (.int .u8 b)).setCell ⟨R,1,none⟩ (.int .i64 ((q:Int)+1))) B (.slice (some ⟨g,0,none⟩) L cap) Z' ∧
  Only (fun k=>k=R∨v.ownBlock=some k) w ((W.setCell ⟨g,q / 8,none⟩ (.int .u8 b)).setCell ⟨R,1,none⟩ (.int .i64 ((q:Int)+1)))∧(Value.slice (some ⟨g,0,none⟩) L cap).ownBlock=some g:=by
 have hne:=hown.ne hR (by decide)
 have h1:(W.setCell ⟨g,q / 8,none⟩ (.int .u8 b)).heap[R]?=some (.cells #[.slice (some ⟨g,0,none⟩) L cap,.int .i64 (q:Nat)] 40 (0,0)):=by
  rw [Below.heap_setCell _ _ _ _ (by simpa using hne.symm)];exact hR
 have h2:=hown.store (q / 8) b hb
 have h3:=Own.setCell_other h2 (p:=⟨R,1,none⟩) (by simpa using hne.symm) (.int .i64 ((q:Int)+1))
 refine ⟨?_,?_,?_,rfl⟩
 ·rw [heap_setCell_same _ R 1 _ _ _ h1];simp
 ·rw [hnext]
  have hl:(Z.set (q / 8) b).length=L:=by rw [List.length_set];exact hZ
  have h4:=h3.v
  rw [hl] at h4
  exact h4
 ·refine Only.setCell (Only.setCell honly ?_ _) (.inl (.inl rfl)) _
  rcases hrow with h | h
  ·exact .inl (.inr h)
  ·exact .inr h
theorem app_keep {wr w1:World} {o b:Obj} {row:Option Nat} {R:Nat} (hg:(wr.alloc o).grownBy w1 row) (hR:wr.heap[R]?=some b) (hne:some R≠row):w1.heap[R]?=some b:=by
 have hlt:R<wr.heap.size:=(Array.getElem?_eq_some_iff.1 hR).1
 rw [hg.block R (by simp;omega) hne,Below.heap_alloc wr o R hlt]
 exact hR
theorem put_grown {w wr w1:World} {o:Obj} {B R q g cap:Nat} {au:Option Addr} {cu:Nat} {v:Value} {Z:List Int} (hR:wr.heap[R]?=some (.cells #[.slice au (q / 8) cu,.int .i64 (q:Nat)] 40 (0,0)))
  (hne:some R≠(Value.slice au (q / 8) cu).ownBlock) (hZ:∀ z ∈ Z,0≤z∧z≤255) (hl:Z.length=q / 8)
  (hg:(wr.alloc o).grownBy w1 (Value.slice au (q / 8) cu).ownBlock) (hown:w1.ownsRow B 5 1 (.slice (some ⟨g,0,none⟩) (q / 8+1) cap) (q / 8+1) (Z.map (Value.int .u8)++[.int .u8 0]))
  (hat:(Value.slice au (q / 8) cu).ownBlock=some g∨g=(wr.alloc o).heap.size) (honly:Only (fun k=>k=R∨v.ownBlock=some k) w wr) (hRl:R<w.heap.size)
  (hrow:(Value.slice au (q / 8) cu).ownBlock=v.ownBlock∨∃ k,(Value.slice au (q / 8) cu).ownBlock=some k∧w.heap.size≤k) :
  (w1.setCell ⟨R,0,none⟩ (.slice (some ⟨g,0,none⟩) (q / 8+1) cap)).heap[R]?=some (.cells #[.slice (some ⟨g,0,none⟩) (q / 8+1) cap,.int .i64 (q:Nat)] 40 (0,0)) ∧
  Own (w1.setCell ⟨R,0,none⟩ (.slice (some ⟨g,0,none⟩) (q / 8+1) cap)) B g cap (Z++[0]) ∧
  Only (fun k=>k=R∨v.ownBlock=some k) w (w1.setCell ⟨R,0,none⟩ (.slice (some ⟨g,0,none⟩) (q / 8+1) cap))∧(v.ownBlock=some g∨w.heap.size≤g):=by
 have hR1:=app_keep hg hR hne
 have ho:Own w1 B g cap (Z++[0]):=by
  refine ⟨?_,?_⟩
  ·have e:(Z++[0]).length=q / 8+1:=by simp [hl]
   rw [e]
   simpa using hown
  ·intro z hz
   simp only [List.mem_append,List.mem_singleton] at hz
   rcases hz with hz | rfl
   ·exact hZ z hz
   ·omega
 have hgR:=ho.ne hR1 (by decide)
 have hsz:=honly.size
 refine ⟨?_,ho.setCell_other (by simpa using hgR.symm) _,?_,?_⟩
 ·rw [heap_setCell_same _ R 0 _ _ _ hR1];simp
 ·refine Only.setCell (Only.grown (honly.alloc o) hg ?_) (.inl (.inl rfl)) _
  intro k hk
  rcases hrow with h | ⟨k',h,h'⟩
  ·exact .inl (.inr (h.symm.trans hk))
  ·right
   rw [h] at hk
   simp at hk
   omega
 ·rcases hat with h | h
  ·rcases hrow with h' | ⟨k',h',h''⟩
   ·exact .inl (h'.symm.trans h)
   ·right
    rw [h'] at h
    simp at h
    omega
  ·right
   rw [h]
   simp
   omega
theorem l1put_any (R B:Nat) (v:Value) (n V:Nat) (x width:Int) (w:World) (hR:w.heap[R]?=some (.cells #[v,.int .i64 n] 40 (0,0))) (hv:OwnV w B v (enc n V)) (hV:V<2 ^ n) (hB:B≤w.heap.size)
  (hx:0≤x) (hxb:x≤1073741824) (h1:0≤width) (h2:width≤30) (h3:n≤4104) :
  Calls Tryz.prog 52 #[.pointer (some ⟨R,0,none⟩),.int .i64 x,.int .i64 width] w fun e w'=>e=.returned (.tuple #[]) ∧
   ∃ v',w'.heap[R]?=some (.cells #[v',.int .i64 ((n+width.toNat:Nat):Int)] 40 (0,0))∧OwnV w' B v' (enc (n+width.toNat) (V+(x.toNat % 2 ^ width.toNat)*2 ^ n)) ∧
    Only (fun k=>k=R∨v.ownBlock=some k) w w'∧(v'.ownBlock=v.ownBlock∨∃ k,v'.ownBlock=some k∧w.heap.size≤k):=by
 obtain ⟨X,rfl⟩:=Int.eq_ofNat_of_zero_le hx
 obtain ⟨m,rfl⟩:=Int.eq_ofNat_of_zero_le h1
 simp only [Int.toNat_natCast] at *
 have hRlt:R<w.heap.size:=(Array.getElem?_eq_some_iff.1 hR).1
 have HR:Hid (w.heap[R]?=some (.cells #[v,.int .i64 n] 40 (0,0))):=hR
 have HV:Hid (OwnV w B v (enc n V)):=hv
 clear hR hv
 obtain ⟨i0,hi,hz0,hz1,hz2⟩:=info_parts Tryz.infoU8
 go_enter Tryz.func52,Tryz.ntmps52
 go_wp2
 go_loopw [6] (fun i wr=>∃ (k:Nat) (u:Value),k≤m∧i=.int .i64 k∧wr.heap[R]?=some (.cells #[u,.int .i64 ((n+k:Nat):Int)] 40 (0,0))∧OwnV wr B u (enc (n+k) (V+(X % 2 ^ k)*2 ^ n)) ∧
   Only (fun k=>k=R∨v.ownBlock=some k) w wr∧(u.ownBlock=v.ownBlock∨∃ k,u.ownBlock=some k∧w.heap.size≤k)) (fun i _=>m-(intOf i).toNat)
 case atStart=>exact ⟨0,v,Nat.zero_le _,rfl,HR.out,by simpa [Nat.mod_one] using HV.out,Only.refl _ _,.inl rfl⟩
 case round=>
  obtain ⟨k,u,hk,rfl,hRr,hur,honly,hrow⟩:=hrel
  by_cases hlt:k<m
  ·have hVk:V+X % 2 ^ k*2 ^ n<2 ^ (n+k):=put_lt n V k _ hV (Nat.mod_lt _ (Nat.pow_pos (by omega)))
   have hnext:=enc_step (n+k) (V+X % 2 ^ k*2 ^ n) 1 (X / 2 ^ k % 2) hVk (by omega) (by omega) (by omega)
   have hpart:=put_part n V X k 1
   rw [Nat.pow_one] at hpart
   rw [hpart] at hnext
   have htop:=enc_top (n+k) _ hVk
   have hlast:=enc_last (n+k) _ hVk
   have hlen:=enc_len (n+k) (V+X % 2 ^ k*2 ^ n)
   generalize hZp:enc (n+k+1) (V+X % 2 ^ (k+1)*2 ^ n)=Z' at *
   have HPART:Hid (enc (n+k+1) (V+X % 2 ^ (k+1)*2 ^ n)=Z'):=hZp
   clear hZp
   generalize (V+X % 2 ^ k*2 ^ n) / 256 ^ ((n+k) / 8)=old at *
   generalize enc (n+k) (V+X % 2 ^ k*2 ^ n)=Z at *
   have hq4:n+k≤4134:=by omega
   generalize hq:n+k=q at *
   have HQ:Hid (n+k=q):=hq
   clear hq hVk hpart hV
   have h256:2 ^ (q % 8)≤2 ^ 7:=Nat.pow_le_pow_right (by omega) (by omega)
   have hbt:X / 2 ^ k % 2*2 ^ (q % 8)≤1*2 ^ (q % 8):=Nat.mul_le_mul_right _ (by omega)
   have hbyte:=put_bit old X k (q % 8) (by omega) htop (by omega)
   have hrng:(0:Int)≤((old+X / 2 ^ k % 2*2 ^ (q % 8):Nat):Int)∧((old+X / 2 ^ k % 2*2 ^ (q % 8):Nat):Int)≤255:=by omega
   rw [←hbyte] at hrng
   rw [←hbyte] at hnext
   have HRNG:Hid (0≤bits .or .u8 (old:Int) (bits .and .i64 ((X:Int) / 2 ^ k) 1 % 256*2 ^ (q % 8) % 256)∧bits .or .u8 (old:Int) (bits .and .i64 ((X:Int) / 2 ^ k) 1 % 256*2 ^ (q % 8) % 256)≤255):=hrng
   clear hrng hbyte hbt h256
   by_cases h8:q % 8=0
   ·rw [if_pos h8] at hnext
    have hlen':Z.length=q / 8:=by omega
    have HNEXT:Hid (Z'=(Z++[0]).set (q / 8) (bits .or .u8 (old:Int) (bits .and .i64 ((X:Int) / 2 ^ k) 1 % 256*2 ^ (q % 8) % 256))):=hnext
    have hold:old=0:=by rw [h8] at htop;simp at htop;exact htop
    have hRl:R<wr.heap.size:=(Array.getElem?_eq_some_iff.1 hRr).1
    have hBw:B≤wr.heap.size:=Nat.le_trans hB honly.size
    have c0:wr.cell? ⟨R,0,none⟩=some u:=cellR (j:=0) hRr rfl
    have c1:wr.cell? ⟨R,1,none⟩=some (.int .i64 (q:Nat)):=cellR (j:=1) hRr rfl
    have h8':((q:Int) % 8 == 0)=true:=by simp;omega
    have hu:=hur.1
    rw [hlen'] at hu
    obtain ⟨au,cu,rfl⟩:∃ (x:Option Addr) (c:Nat),u=.slice x (q / 8) c:=by
     rcases hu.2 with ⟨rfl,h0⟩ | ⟨g',cap',cur',rfl,_⟩
     ·exact ⟨none,0,by rw [h0]⟩
     ·exact ⟨_,_,rfl⟩
    have HRR:Hid (wr.heap[R]?=some (.cells #[.slice au (q / 8) cu,.int .i64 ((q:Nat):Int)] 40 (0,0))):=hRr
    have HZR:Hid (∀ z ∈ Z,0≤z∧z≤255):=hur.2
    have HONLY:Hid (Only (fun k=>k=R∨v.ownBlock=some k) w wr):=honly
    have HROW:Hid ((Value.slice au (q / 8) cu).ownBlock=v.ownBlock∨∃ k,(Value.slice au (q / 8) cu).ownBlock=some k∧w.heap.size≤k):=hrow
    have HZL:Hid (Z.length=q / 8):=hlen'
    have huR:Hid (some R≠(Value.slice au (q / 8) cu).ownBlock):=by
     intro he
     rcases hu.2 with ⟨h',_⟩ | ⟨g',cap',cur',h',hg',hh,r⟩
     ·simp at h'
      rw [h'.1] at he
      simp [Value.ownBlock] at he
     ·simp at h'
      rw [h'.1] at he
      simp [Value.ownBlock] at he
      subst he
      rw [hRr] at hh
      simp at hh
    clear hnext hlast honly hrow hRr hlen hlen' hur
    go_wp2_with (at_builtin;(refine wpList_append_lies _ rfl (.tmp 22) (.tmp 23) 22 rfl B 5 i0 (.int .u8 0) 1 1 Tryz.underlying22 hi hz0 hz1 hz2 rfl (by decide) (.slice au (q / 8) cu) (q / 8) (Z.map (Value.int .u8)) rfl (hu.alloc _) ⟨wr.heap.size,0,none⟩ 1 1 [.int .u8 0] rfl rfl (by intro j y hj;match j,hj with | 0,hj=>(simp at hj;subst hj;simp [Addr.add])) (by intro y hy;simp at hy;subst hy;rfl) (by omega) (by unfold maxLen;omega) (by omega) (by simp;omega) _ rfl ?_);intro g cap w1 hown hgrow hat hlt1;have hR1:=app_keep hgrow HRR.out huR.out;have d0:=cellR (j:=0) hR1 rfl;have d1:=cellR (j:=1) hR1 rfl;have e0:=frozenR (j:=0) hR1)
    have G:=put_grown (v:=v) HRR.out huR.out HZR.out HZL.out hgrow hown hat HONLY.out hRlt HROW.out
    clear hown hgrow hat hR1 d0 d1 e0 c0 c1 hu hlt1
    generalize w1.setCell ⟨R,0,none⟩ (.slice (some ⟨g,0,none⟩) (q / 8+1) cap)=W at *
    obtain ⟨hRr,hown,honly,hrow'⟩:=G
    have hlen':(Z++[0]).length=q / 8+1:=by rw [List.length_append,HZL.out];rfl
    have CL:Hid _:=put_close (v:=v) hRr hlen' hown HNEXT.out HRNG.out honly hrow'
    have HROW2:Hid (v.ownBlock=some g∨w.heap.size≤g):=hrow'
    have hne:=hown.ne hRr (by decide)
    have c0:W.cell? ⟨R,0,none⟩=some (.slice (some ⟨g,0,none⟩) (q / 8+1) cap):=cellR (j:=0) hRr rfl
    have c1:W.cell? ⟨R,1,none⟩=some (.int .i64 (q:Nat)):=cellR (j:=1) hRr rfl
    have f1:=frozenR (j:=1) hRr
    have cg:W.cell? ⟨g,q / 8,none⟩=some (.int .u8 (old:Nat)):=by
     rw [hown.cell (q / 8) (by omega),hold]
     simp [←HZL.out]
    have fg:=hown.frozen (q / 8)
    clear hown honly hrow' hRr hlen' HNEXT HRNG h8 hold HRR HZR HONLY HROW HZL huR
    go_region
    go_wp2
    go_roundw
    case rel=>
     have C:=CL.out
     refine ⟨k+1,.slice (some ⟨g,0,none⟩) (q / 8+1) cap,by omega,by go_num,?_,?_,?_,?_⟩
     ·rw [show n+(k+1)=q+1 from by have:=HQ.out;omega];exact C.1
     ·rw [show n+(k+1)=q+1 from by have:=HQ.out;omega,HPART.out];exact C.2.1
     ·exact C.2.2.1.drew
     ·rcases HROW2.out with h | h
      ·exact .inl h.symm
      ·exact .inr ⟨g,rfl,h⟩
    case measure=>simp [intOf];omega
   ·rw [if_neg h8] at hnext
    have hlen':Z.length=q / 8+1:=by omega
    obtain ⟨g,cap,rfl,hown⟩:=hur.form (by omega)
    rw [hlen'] at hRr hrow
    have HNEXT:Hid (Z'=Z.set (q / 8) (bits .or .u8 (old:Int) (bits .and .i64 ((X:Int) / 2 ^ k) 1 % 256*2 ^ (q % 8) % 256))):=hnext
    have hrow':v.ownBlock=some g∨w.heap.size≤g:=by
     rcases hrow with h | ⟨kk,h,h'⟩
     ·exact .inl (h.symm.trans rfl)
     ·right
      simp [Value.ownBlock] at h
      omega
    have CL:Hid _:=put_close (v:=v) hRr hlen' hown HNEXT.out HRNG.out honly hrow'
    have HROW:Hid (v.ownBlock=some g∨w.heap.size≤g):=hrow'
    have hne:=hown.ne hRr (by decide)
    have c0:wr.cell? ⟨R,0,none⟩=some (.slice (some ⟨g,0,none⟩) (q / 8+1) cap):=cellR (j:=0) hRr rfl
    have c1:wr.cell? ⟨R,1,none⟩=some (.int .i64 (q:Nat)):=cellR (j:=1) hRr rfl
    have f1:=frozenR (j:=1) hRr
    have cg:=hown.cell (q / 8) (by omega)
    have fg:=hown.frozen (q / 8)
    rw [hlast h8] at cg
    have h8':((q:Int) % 8 == 0)=false:=by simp;omega
    clear hnext hlast hown honly hrow hrow' hRr hlen hlen' hur HNEXT HRNG h8
    go_wp2
    go_region
    go_wp2
    go_roundw
    case rel=>
     have C:=CL.out
     refine ⟨k+1,.slice (some ⟨g,0,none⟩) (q / 8+1) cap,by omega,by go_num,?_,?_,?_,?_⟩
     ·rw [show n+(k+1)=q+1 from by have:=HQ.out;omega];exact C.1
     ·rw [show n+(k+1)=q+1 from by have:=HQ.out;omega,HPART.out];exact C.2.1
     ·exact C.2.2.1.drew
     ·rcases HROW.out with h | h
      ·exact .inl h.symm
      ·exact .inr ⟨g,rfl,h⟩
    case measure=>simp [intOf];omega
  ·have hkm:k=m:=by omega
   subst hkm
   have HF:Hid _:=(⟨hRr,hur,honly,hrow⟩:_∧_∧_∧_)
   clear hRr hur honly hrow
   go_wp2
   go_end0
   have F:=HF.out
   exact ⟨rfl,u,F.1,F.2.1,F.2.2.1,F.2.2.2⟩
def okB (N:Int) (zs:List Int):Bool:=
 decide (0≤N∧N≤4096∧(zs.length:Int)=(N+7) / 8) && (N % 8 == 0 || zs.getD (zs.length-1) 0 / 2 ^ (N % 8).toNat == 0)
theorem okB_neg {N:Int} {zs:List Int} (h:N<0):okB N zs=false:=by
 have:decide (0≤N∧N≤4096∧(zs.length:Int)=(N+7) / 8)=false:=by simp;omega
 rw [okB,this,Bool.false_and]
theorem okB_big {N:Int} {zs:List Int} (h:4096<N):okB N zs=false:=by
 have:decide (0≤N∧N≤4096∧(zs.length:Int)=(N+7) / 8)=false:=by simp;omega
 rw [okB,this,Bool.false_and]
theorem okB_len {N:Int} {zs:List Int} (h:¬(zs.length:Int)=(N+7) / 8):okB N zs=false:=by
 have:decide (0≤N∧N≤4096∧(zs.length:Int)=(N+7) / 8)=false:=by simp;omega
 rw [okB,this,Bool.false_and]
theorem okB_full {N:Int} {zs:List Int} (h0:0≤N) (h1:N≤4096) (h2:(zs.length:Int)=(N+7) / 8) (h3:N % 8=0):okB N zs=true:=by
 have:decide (0≤N∧N≤4096∧(zs.length:Int)=(N+7) / 8)=true:=by simp;exact ⟨h0,h1,h2⟩
 rw [okB,this,h3];rfl
theorem okB_last {N:Int} {zs:List Int} (h0:0≤N) (h1:N≤4096) (h2:(zs.length:Int)=(N+7) / 8) (h3:¬N % 8=0):okB N zs=(zs.getD (zs.length-1) 0 / 2 ^ (N % 8).toNat == 0):=by
 have:decide (0≤N∧N≤4096∧(zs.length:Int)=(N+7) / 8)=true:=by simp;exact ⟨h0,h1,h2⟩
 have h3':(N % 8 == 0)=false:=by simpa using h3
 rw [okB,this,h3',Bool.true_and,Bool.false_or]
theorem okB_enc {N:Int} {zs:List Int} (h:okB N zs=true) (hr:∀ z ∈ zs,0≤z∧z≤255):∃ n:Nat,N=n∧n≤4096∧zs=enc n (val zs)∧val zs<2 ^ n:=by
 simp only [okB,Bool.and_eq_true,decide_eq_true_eq,Bool.or_eq_true,beq_iff_eq] at h
 obtain ⟨⟨h0,h1,h2⟩,h3⟩:=h
 obtain ⟨n,rfl⟩:=Int.eq_ofNat_of_zero_le h0
 have:=val_bits n zs hr (by omega) (by
  rcases h3 with h3 | h3
  ·exact .inl (by omega)
  ·refine .inr ?_
   have hz:=getD_rng hr (zs.length-1)
   obtain ⟨z,hz'⟩:=Int.eq_ofNat_of_zero_le hz.1
   rw [hz'] at h3 ⊢
   rw [show ((n:Int) % 8).toNat=n % 8 from by omega] at h3
   have h4:((z / 2 ^ (n % 8):Nat):Int)=0:=by simpa using h3
   rw [Int.toNat_natCast]
   have h5:z / 2 ^ (n % 8)=0:=by omega
   exact (Nat.div_eq_zero_iff_lt (Nat.pow_pos (by omega))).1 h5)
 exact ⟨n,rfl,by omega,this.2,this.1⟩
theorem wrap_pow (m:Nat) (h:m≤31):wrap64 (2 ^ m)=2 ^ m:=by
 have h1:2 ^ m≤2 ^ 31:=Nat.pow_le_pow_right (by omega) h
 have e:((2:Int) ^ m)=((2 ^ m:Nat):Int):=by simp
 rw [e]
 generalize 2 ^ m=y at *
 exact IntWalk.wrap64_in _ (by omega)
theorem OwnV.mine {w:World} {B:Nat} {v:Value} {zs:List Int} (h:OwnV w B v zs):∃ (a:Option Addr) (cp:Nat),v=.slice a zs.length cp∧Mine w B w.heap.size a cp zs:=by
 rcases h.1.2 with ⟨rfl,h0⟩ | ⟨g,cap,cur,rfl,hg,hh,r⟩
 ·exact ⟨none,0,by rw [h0],.inl ⟨rfl,List.eq_nil_of_length_eq_zero h0,rfl⟩⟩
 ·exact ⟨some ⟨g,0,none⟩,cap,rfl,Own.mine (cap:=cap) h⟩
def putOk (N n width:Int) (zs:List Int):Prop:=okB N zs=true∧0≤width∧width≤30∧0≤n∧n<2 ^ width.toNat∧width≤4096-N
theorem widthOk_any (n:Int) (w:World):Calls Tryz.prog 91 #[.int .i64 n] w fun e w'=>e=.returned (.bool (decide (0≤n∧n≤30)))∧w'=w:=by
 by_cases h0:0≤n
 ·by_cases h1:n≤30
  ·have hE:decide (0≤n∧n≤30)=true:=by simp [h0,h1]
   rw [hE]
   clear hE
   go_enter Tryz.func91,Tryz.ntmps91
   go_wp2
   go_ret
   exact ⟨by simp,rfl⟩
  ·have hE:decide (0≤n∧n≤30)=false:=by simp [h1]
   rw [hE]
   clear hE
   go_enter Tryz.func91,Tryz.ntmps91
   go_wp2
   go_ret
   exact ⟨by simp,rfl⟩
 ·have hE:decide (0≤n∧n≤30)=false:=by simp [h0]
  rw [hE]
  clear hE
  go_enter Tryz.func91,Tryz.ntmps91
  go_wp2
  go_ret
  exact ⟨by simp,rfl⟩
def Sent (w:World) (g:Nat):Prop:=∃ T x,w.cell? ⟨g,0,none⟩=some (.iface T x)
theorem Sent.below {w w':World} {g B:Nat} (h:Sent w g) (hb:Below B w w') (hg:g<B):Sent w' g:=by
 obtain ⟨T,x,hc⟩:=h
 exact ⟨T,x,keep hb hg hc⟩
end Go.Proofs.YtfeokafkhnbdiaaGreatDoor
