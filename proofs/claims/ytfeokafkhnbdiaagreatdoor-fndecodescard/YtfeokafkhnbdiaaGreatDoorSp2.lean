/- Lemmas on the way. -/
import Derived.Test.YtfeokafkhnbdiaaGreatDoorRev2
import Derived.Test.YtfeokafkhnbdiaaGreatDoorPcA
import Derived.Test.YtfeokafkhnbdiaaGreatDoorSyms
import Derived.RangeFuncNested
import Derived.RangeFuncBound
import Derived.RangeFuncCalls
import Derived.RangeFuncLeaves
import Derived.RangeFuncFrom
import Derived.Shelf.Abstract
import Derived.Shelf.RegionOpen
import Derived.WalkKit
import Derived.OwnWalkIn
import Derived.TacticsInMore
import Derived.LoopNIn
import Derived.LoopIn
set_option maxRecDepth 20000
set_option maxHeartbeats 16000000
namespace Go.Proofs.YtfeokafkhnbdiaaGreatDoor
open Go.RowKit
set_option linter.unusedVariables false
def fl :Nat→List Int→List Int
 | _,[]=>[]
 | i,z :: zs=>List.replicate z.toNat (i:Int)++fl (i+1) zs
theorem sum_nn {zs:List Int} (h:∀ z ∈ zs,0≤z) (j:Nat):0≤(zs.take j).sum:=by
 induction zs generalizing j with
 | nil=>simp
 | cons z zs ih=>
  cases j with
  | zero=>simp
  | succ j=>
   have h1:=h z (by simp)
   have h2:=ih (fun y hy=>h y (by simp [hy])) j
   simp only [List.take_succ_cons,List.sum_cons]
   omega
theorem fl_at (zs:List Int):∀ (i j k:Nat),(∀ z ∈ zs,0≤z)→j<zs.length→(k:Int)<zs.getD j 0→(fl i zs).getD ((zs.take j).sum.toNat+k) 0=((i+j:Nat):Int):=by
 induction zs with
 | nil=>intro i j k _ hj;simp at hj
 | cons z zs ih=>
  intro i j k h hj hk
  cases j with
  | zero=>
   simp only [List.getD_cons_zero] at hk
   simp only [fl,List.take_zero,List.sum_nil,Int.toNat_zero,Nat.zero_add,Nat.add_zero]
   rw [List.getD_eq_getElem?_getD,List.getElem?_append_left (by rw [List.length_replicate];omega),List.getElem?_replicate,if_pos (by omega)]
   rfl
  | succ j=>
   have h1:=h z (by simp)
   have h2:=sum_nn (fun y hy=>h y (by simp [hy])) j (zs:=zs)
   have:=ih (i+1) j k (fun y hy=>h y (by simp [hy])) (by simpa using hj) (by simpa using hk)
   simp only [fl,List.take_succ_cons,List.sum_cons]
   rw [List.getD_eq_getElem?_getD,List.getElem?_append_right (by rw [List.length_replicate];omega),List.length_replicate,←List.getD_eq_getElem?_getD,show (z+(zs.take j).sum).toNat+k-z.toNat=(zs.take j).sum.toNat+k from by omega,this]
   congr 1
   omega
def pl (F:List Int) (ps:List Nat):List Int:=ps.zipIdx.foldl (fun r pj=>r.set pj.1 (F.getD pj.2 0)) (List.replicate 64 0)
theorem pl_snoc (F:List Int) (ps:List Nat) (x:Nat):pl F (ps++[x])=(pl F ps).set x (F.getD ps.length 0):=by
 unfold pl
 rw [List.zipIdx_append,List.foldl_append]
 simp
theorem pl_len (F:List Int) (ps:List Nat):(pl F ps).length=64:=by
 unfold pl
 generalize ps.zipIdx=l
 have:∀ (l:List (Nat × Nat)) (r:List Int),r.length=64→(l.foldl (fun r pj=>r.set pj.1 (F.getD pj.2 0)) r).length=64:=by
  intro l
  induction l with
  | nil=>intro r h;simpa using h
  | cons p l ih=>intro r h;simp only [List.foldl_cons];exact ih _ (by rw [List.length_set];exact h)
 exact this l _ (by simp)
def plc (m:Nat):List Nat:=(List.range m).map fun j=>43*j % 64
theorem plc_succ (m:Nat):plc (m+1)=plc m++[43*m % 64]:=by simp [plc,List.range_succ]
theorem plc_len (m:Nat):(plc m).length=m:=by simp [plc]
theorem made_rowI {w:World} {B g n:Nat} (hown:w.ownsRow B 3 1 (.slice (some ⟨g,0,none⟩) n n) n (madeCells (Value.int .i64 0).cells (n*1)).toList):OwI w B g n (List.replicate n 0):=by
 refine ⟨?_,by intro z hz;simp at hz;omega⟩
 rw [made_zeroI] at hown
 simpa using hown
theorem fl_mem (zs:List Int):∀ i,∀ z ∈ fl i zs,∃ j,j<zs.length∧z=((i+j:Nat):Int)∧0<zs.getD j 0:=by
 induction zs with
 | nil=>intro i z hz;simp [fl] at hz
 | cons y zs ih=>
  intro i z hz
  simp only [fl,List.mem_append,List.mem_replicate] at hz
  rcases hz with ⟨h,rfl⟩ | hz
  ·exact ⟨0,by simp,by simp,by simp;omega⟩
  ·obtain ⟨j,h1,h2,h3⟩:=ih (i+1) z hz
   exact ⟨j+1,by simpa using h1,by rw [h2];congr 1;omega,by simpa using h3⟩
theorem fl_len (zs:List Int):∀ i,(∀ z ∈ zs,0≤z)→((fl i zs).length:Int)=zs.sum:=by
 induction zs with
 | nil=>intro i _;simp [fl]
 | cons y zs ih=>
  intro i h
  have h1:=h y (by simp)
  have h2:=ih (i+1) (fun z hz=>h z (by simp [hz]))
  simp only [fl,List.length_append,List.length_replicate,List.sum_cons]
  omega
theorem pl_get (F:List Int):∀ m,m≤64→∀ p,p<64→(pl F (plc m)).getD p 0=if 3*p % 64<m then F.getD (3*p % 64) 0 else 0:=by
 intro m
 induction m with
 | zero=>
  intro _ p hp
  rw [if_neg (by omega)]
  show (List.replicate 64 (0:Int)).getD p 0=0
  rw [List.getD_eq_getElem?_getD,List.getElem?_replicate,if_pos hp]
  rfl
 | succ m ih=>
  intro hm p hp
  rw [plc_succ,pl_snoc,plc_len]
  by_cases he:43*m % 64=p
  ·have h3:3*p % 64=m:=by omega
   rw [List.getD_eq_getElem?_getD,he,List.getElem?_set_self (by rw [pl_len];exact hp),h3,if_pos (by omega)]
   rfl
  ·have h3:3*p % 64≠m:=by omega
   rw [List.getD_eq_getElem?_getD,List.getElem?_set_ne he,←List.getD_eq_getElem?_getD,ih (by omega) p hp]
   by_cases hl:3*p % 64<m
   ·rw [if_pos hl,if_pos (by omega)]
   ·rw [if_neg hl,if_neg (by omega)]
theorem sp_sym {zs:List Int} (hn:normB zs=true) (p:Nat) (hp:p<64):∃ s:Nat,(pl (fl 0 zs) (plc 64)).getD p 0=(s:Int)∧s<zs.length∧0<zs.getD s 0∧zs.getD s 0≤64:=by
 have hnn:(∀ z ∈ zs,0≤z)∧zs.sum=64:=by
  have h:=hn
  simp only [normB,decide_eq_true_eq] at h
  exact ⟨fun z hz=>(h.2.2.1 z hz).1,h.2.2.2⟩
 have hl:=fl_len zs 0 hnn.1
 rw [hnn.2] at hl
 rw [pl_get _ 64 nl p hp,if_pos (by omega),List.getD_eq_getElem?_getD,List.getElem?_eq_getElem (by omega)]
 obtain ⟨j,h1,h2,h3⟩:=fl_mem zs 0 _ (List.getElem_mem (show 3*p % 64<(fl 0 zs).length by omega))
 refine ⟨j,by simpa using h2,h1,h3,(normB_get hn j h1).2⟩
def nx (SP zs:List Int):Nat→List Int
 | 0=>zs
 | i+1=>(nx SP zs i).set (SP.getD i 0).toNat ((nx SP zs i).getD (SP.getD i 0).toNat 0+1)
theorem nx_len (SP zs:List Int) (i:Nat):(nx SP zs i).length=zs.length:=by
 induction i with
 | zero=>rfl
 | succ i ih=>rw [nx,List.length_set,ih]
theorem nx_bnd (SP zs:List Int) (i j:Nat):zs.getD j 0≤(nx SP zs i).getD j 0∧(nx SP zs i).getD j 0≤zs.getD j 0+i:=by
 induction i with
 | zero=>simp [nx]
 | succ i ih=>
  rw [nx]
  by_cases hj:(SP.getD i 0).toNat=j
  ·rw [hj]
   by_cases hl:j<(nx SP zs i).length
   ·rw [List.getD_eq_getElem?_getD (l:=(nx SP zs i).set _ _),List.getElem?_set_self hl]
    simp only [Option.getD_some]
    omega
   ·rw [List.set_eq_of_length_le (by omega)]
    omega
  ·rw [List.getD_eq_getElem?_getD (l:=(nx SP zs i).set _ _),List.getElem?_set_ne hj,←List.getD_eq_getElem?_getD]
   omega
def wd (x:Nat):Nat:=6-Nat.log2 x
theorem wd_rng {x:Nat} (h1:1≤x) (h2:x≤127):wd x≤6∧64≤x*2 ^ wd x∧x*2 ^ wd x<128:=by
 unfold wd
 have hl:=Nat.log2_self_le (n:=x) (by omega)
 have hu:=Nat.lt_log2_self (n:=x)
 have h6:Nat.log2 x<7:=(Nat.log2_lt (by omega)).2 (by omega)
 have e:2 ^ Nat.log2 x*2 ^ (6-Nat.log2 x)=64:=by rw [←Nat.pow_add,show Nat.log2 x+(6-Nat.log2 x)=6 from by omega]
 have e2:2 ^ (Nat.log2 x+1)*2 ^ (6-Nat.log2 x)=128:=by rw [←Nat.pow_add,show Nat.log2 x+1+(6-Nat.log2 x)=7 from by omega]
 have hp:0<2 ^ (6-Nat.log2 x):=Nat.pow_pos (by omega)
 refine ⟨by omega,?_,?_⟩
 ·rw [←e];exact Nat.mul_le_mul_right _ hl
 ·rw [←e2];exact Nat.mul_lt_mul_of_pos_right hu hp
theorem wd_least {x b:Nat} (h1:1≤x) (h2:x≤127) (hb:b<wd x):x*2 ^ b<64:=by
 unfold wd at hb
 have hu:=Nat.lt_log2_self (n:=x)
 have e2:2 ^ (Nat.log2 x+1)*2 ^ b≤64:=by
  rw [←Nat.pow_add]
  exact Nat.le_trans (Nat.pow_le_pow_right (by omega) (show Nat.log2 x+1+b≤6 by omega)) (by decide)
 exact Nat.lt_of_lt_of_le (Nat.mul_lt_mul_of_pos_right hu (Nat.pow_pos (by omega))) e2
def tb (SP zs:List Int):Nat→List Int
 | 0=>[]
 | i+1=>tb SP zs i++[SP.getD i 0,(wd ((nx SP zs i).getD (SP.getD i 0).toNat 0).toNat:Nat),(((nx SP zs i).getD (SP.getD i 0).toNat 0).toNat*2 ^ wd ((nx SP zs i).getD (SP.getD i 0).toNat 0).toNat:Nat)-64]
theorem tb_len (SP zs:List Int) (i:Nat):(tb SP zs i).length=i*3:=by
 induction i with
 | zero=>rfl
 | succ i ih=>rw [tb,List.length_append,ih];simp;omega
theorem shl_in (X j:Nat) (hX:X≤127) (hj:j≤6):wrap64 ((X:Int)*2 ^ j)=((X*2 ^ j:Nat):Int):=by
 have h1:X*2 ^ j≤127*2 ^ 6:=Nat.mul_le_mul hX (Nat.pow_le_pow_right (by omega) hj)
 have e:((X:Int)*2 ^ j)=((X*2 ^ j:Nat):Int):=by simp
 rw [e]
 exact IntWalk.wrap64_in _ (by omega)
theorem tb_rng {zs:List Int} (hn:normB zs=true):∀ k,k≤64→∀ z ∈ tb (pl (fl 0 zs) (plc 64)) zs k,-64≤z∧z≤127:=by
 intro k
 induction k with
 | zero=>intro _ z hz;simp [tb] at hz
 | succ k ih=>
  intro hk z hz
  obtain ⟨s,hs,hsl,hzp,hz64⟩:=sp_sym hn k (by omega)
  have hbd:=normB_bnd hn
  have hbn:=nx_bnd (pl (fl 0 zs) (plc 64)) zs k s
  rw [tb,hs,Int.toNat_natCast] at hz
  simp only [List.mem_append,List.mem_cons,List.not_mem_nil,or_false] at hz
  obtain ⟨X,hX⟩:=Int.eq_ofNat_of_zero_le (show 0≤(nx (pl (fl 0 zs) (plc 64)) zs k).getD s 0 by omega)
  rw [hX,Int.toNat_natCast] at hz
  have hw:=wd_rng (x:=X) (by omega) (by omega)
  rcases hz with hz | rfl | rfl | rfl
  ·exact ih (by omega) z hz
  ·omega
  ·omega
  ·omega
def cX (SP zs:List Int) (p:Nat):Nat:=((nx SP zs p).getD (SP.getD p 0).toNat 0).toNat
theorem tb_step (SP zs:List Int) (n p j:Nat) (hp:p<n) (hj:j<3):(tb SP zs (n+1)).getD (p*3+j) 0=(tb SP zs n).getD (p*3+j) 0:=by
 rw [tb,List.getD_eq_getElem?_getD,List.getElem?_append_left (by rw [tb_len];omega),←List.getD_eq_getElem?_getD]
theorem tb_new (SP zs:List Int) (n j:Nat):(tb SP zs (n+1)).getD (n*3+j) 0=[SP.getD n 0,(wd (cX SP zs n):Nat),(cX SP zs n*2 ^ wd (cX SP zs n):Nat)-64].getD j 0:=by
 rw [tb,List.getD_eq_getElem?_getD,List.getElem?_append_right (by rw [tb_len];omega),tb_len,Nat.add_sub_cancel_left,←List.getD_eq_getElem?_getD]
 rfl
theorem tb_get (SP zs:List Int) (p j:Nat) (hj:j<3):∀ n,p<n→(tb SP zs n).getD (p*3+j) 0=[SP.getD p 0,(wd (cX SP zs p):Nat),(cX SP zs p*2 ^ wd (cX SP zs p):Nat)-64].getD j 0:=by
 intro n
 induction n with
 | zero=>intro h;omega
 | succ n ih=>
  intro h
  by_cases he:p<n
  ·rw [tb_step SP zs n p j he hj,ih he]
  ·obtain rfl:p=n:=by omega
   exact tb_new SP zs p j
structure Gd (T:List Int) (L:Nat):Prop where
 len:T.length=192
 cell:∀ p,p<64→∃ s b z:Nat,T.getD (p*3) 0=s∧T.getD (p*3+1) 0=b∧T.getD (p*3+2) 0=z∧s<L∧b≤6∧z+2 ^ b≤64
theorem wd_top {x:Nat} (h1:1≤x) (h2:x≤127):(x+1)*2 ^ wd x≤128:=by
 unfold wd
 have hu:=Nat.lt_log2_self (n:=x)
 have h6:Nat.log2 x<7:=(Nat.log2_lt (by omega)).2 (by omega)
 have e2:2 ^ (Nat.log2 x+1)*2 ^ (6-Nat.log2 x)=128:=by rw [←Nat.pow_add,show Nat.log2 x+1+(6-Nat.log2 x)=7 from by omega]
 rw [←e2]
 exact Nat.mul_le_mul_right _ hu
theorem gd_tb {zs:List Int} (hn:normB zs=true):Gd (tb (pl (fl 0 zs) (plc 64)) zs 64) zs.length:=by
 refine ⟨tb_len _ _ _,fun p hp=>?_⟩
 obtain ⟨s,hs,hsl,hzp,hz64⟩:=sp_sym hn p hp
 have hbn:=nx_bnd (pl (fl 0 zs) (plc 64)) zs p s
 have hX1:1≤cX (pl (fl 0 zs) (plc 64)) zs p:=by unfold cX;rw [hs,Int.toNat_natCast];omega
 have hX2:cX (pl (fl 0 zs) (plc 64)) zs p≤127:=by unfold cX;rw [hs,Int.toNat_natCast];omega
 have h0:=tb_get (pl (fl 0 zs) (plc 64)) zs p 0 (by omega) 64 hp
 have h1:=tb_get (pl (fl 0 zs) (plc 64)) zs p 1 (by omega) 64 hp
 have h2:=tb_get (pl (fl 0 zs) (plc 64)) zs p 2 (by omega) 64 hp
 have hw:=wd_rng hX1 hX2
 have ht:=wd_top hX1 hX2
 generalize cX (pl (fl 0 zs) (plc 64)) zs p=X at *
 rw [Nat.add_mul,Nat.one_mul] at ht
 exact ⟨s,wd X,X*2 ^ wd X-64,by rw [Nat.add_zero] at h0;rw [h0];simpa using hs,by rw [h1];rfl,by rw [h2];show ((X*2 ^ wd X:Nat):Int)-64=_;omega,hsl,hw.1,by omega⟩
def cB (T:List Int) (p:Nat):Nat:=(T.getD (p*3+1) 0).toNat
def cZ (T:List Int) (p:Nat):Nat:=(T.getD (p*3+2) 0).toNat
def sg (T:List Int) (v E:Nat):Nat→Option (Nat × Nat)
 | 0=>some (v / 2 ^ E % 64,E)
 | i+1=>match sg T v E i with
  | none=>none
  | some (st,en)=>if en<cB T st then none else some (cZ T st+v / 2 ^ (en-cB T st) % 2 ^ cB T st,en-cB T st)
def so (T:List Int) (v E:Nat):Nat→List Int
 | 0=>[]
 | i+1=>so T v E i++[match sg T v E i with | some (st,_)=>T.getD (st*3) 0 | none=>0]
theorem so_len (T:List Int) (v E i:Nat):(so T v E i).length=i:=by
 induction i with
 | zero=>rfl
 | succ i ih=>rw [so,List.length_append,ih];rfl
theorem sg_none {T:List Int} {v E k:Nat} (h:sg T v E k=none):∀ n,k≤n→sg T v E n=none:=by
 intro n
 induction n with
 | zero => intro hk; obtain rfl : k = 0 := by omega
           exact h
 | succ n ih=>
  intro hk
  by_cases e:k=n+1
  ·subst e;exact h
  ·rw [sg,ih (by omega)]
theorem sg_rng {T:List Int} {L:Nat} (hT:Gd T L) (v E:Nat):∀ i st en,sg T v E i=some (st,en)→st<64∧en≤E:=by
 intro i
 induction i with
 | zero=>
  intro st en h
  simp only [sg,Option.some.injEq,Prod.mk.injEq] at h
  omega
 | succ i ih=>
  intro st en h
  rw [sg] at h
  cases hq:sg T v E i with
  | none=>rw [hq] at h;simp at h
  | some q=>
   obtain ⟨s0,e0⟩:=q
   rw [hq] at h
   simp only at h
   obtain ⟨h1,h2⟩:=ih s0 e0 hq
   by_cases hl:e0<cB T s0
   ·rw [if_pos hl] at h;simp at h
   ·rw [if_neg hl] at h
    simp only [Option.some.injEq,Prod.mk.injEq] at h
    obtain ⟨s,b,z,k1,k2,k3,k4,k5,k6⟩:=hT.cell s0 h1
    have hb:cB T s0=b:=by unfold cB;rw [k2,Int.toNat_natCast]
    have hz:cZ T s0=z:=by unfold cZ;rw [k3,Int.toNat_natCast]
    rw [hb,hz] at h
    have:v / 2 ^ (e0-b) % 2 ^ b<2 ^ b:=Nat.mod_lt _ (Nat.pow_pos (by omega))
    omega
theorem sg_step {T:List Int} {v E i st en:Nat} (h:sg T v E i=some (st,en)) (hl:¬en<cB T st):sg T v E (i+1)=some (cZ T st+v / 2 ^ (en-cB T st) % 2 ^ cB T st,en-cB T st):=by
 rw [sg,h]
 simp only
 rw [if_neg hl]
theorem sg_stop {T:List Int} {v E i st en:Nat} (h:sg T v E i=some (st,en)) (hl:en<cB T st):sg T v E (i+1)=none:=by
 rw [sg,h]
 simp only
 rw [if_pos hl]
theorem so_step {T:List Int} {v E i st en:Nat} (h:sg T v E i=some (st,en)):so T v E (i+1)=so T v E i++[T.getD (st*3) 0]:=by
 rw [so,h]
def fgB (T:List Int) (v N n:Nat):Bool:=decide (6≤N∧sg T v (N-6) n=some (0,0))
theorem fl_count (zs:List Int):∀ (i j:Nat),j<zs.length→(fl i zs).count (((i+j:Nat)):Int)=(zs.getD j 0).toNat:=by
 induction zs with
 | nil=>intro i j h;simp at h
 | cons y zs ih=>
  intro i j h
  rw [fl,List.count_append,List.count_replicate]
  cases j with
  | zero=>
   have h0:(fl (i+1) zs).count (((i+0:Nat)):Int)=0:=by
    rw [List.count_eq_zero]
    intro hm
    obtain ⟨j,_,e,_⟩:=fl_mem zs (i+1) _ hm
    omega
   rw [h0]
   simp
  | succ j=>
   have hne:((i:Int) == ((i+(j+1):Nat):Int))=false:=by simp;omega
   have h1:=ih (i+1) j (by simpa using h)
   rw [show i+1+j=i+(j+1) from by omega] at h1
   rw [hne,h1]
   simp
theorem perm3 :((List.range 64).map (fun p=>3*p % 64)).Perm (List.range 64):=by decide +kernel
theorem sp_perm {zs:List Int} (hn:normB zs=true):(pl (fl 0 zs) (plc 64)).Perm (fl 0 zs):=by
 have hnn:(∀ z ∈ zs,0≤z)∧zs.sum=64:=by
  have h:=hn
  simp only [normB,decide_eq_true_eq] at h
  exact ⟨fun z hz=>(h.2.2.1 z hz).1,h.2.2.2⟩
 have hl:(fl 0 zs).length=64:=by have:=fl_len zs 0 hnn.1;omega
 have e1:pl (fl 0 zs) (plc 64)=((List.range 64).map (fun p=>3*p % 64)).map (fun i=>(fl 0 zs).getD i 0):=by
  apply List.ext_getElem
  ·simp [pl_len]
  ·intro p h1 h2
   have hp:p<64:=by rw [pl_len] at h1;exact h1
   have:=pl_get (fl 0 zs) 64 nl p hp
   rw [if_pos (by omega),List.getD_eq_getElem?_getD,List.getElem?_eq_getElem h1] at this
   simpa using this
 have e2:fl 0 zs=(List.range 64).map (fun i=>(fl 0 zs).getD i 0):=by
  apply List.ext_getElem
  ·simp [hl]
  ·intro p h1 h2
   simp [List.getElem?_eq_getElem h1]
 rw [e1]
 exact (perm3.map _).trans (by rw [←e2])
theorem nx_cnt (SP zs:List Int) (hS:∀ i,i<SP.length→∃ s:Nat,SP.getD i 0=(s:Int)) (s:Nat) (hs:s<zs.length):∀ i,i≤SP.length→(nx SP zs i).getD s 0=zs.getD s 0+((SP.take i).count (s:Int):Nat):=by
 intro i
 induction i with
 | zero=>intro _;simp [nx]
 | succ i ih=>
  intro hi
  obtain ⟨t,ht⟩:=hS i (by omega)
  have hti:SP[i]=(t:Int):=by
   rw [List.getD_eq_getElem?_getD,List.getElem?_eq_getElem (by omega)] at ht
   simpa using ht
  rw [nx,ht,Int.toNat_natCast,List.take_succ_eq_append_getElem (by omega),List.count_append,hti]
  have hl:=nx_len SP zs i
  by_cases hst:t=s
  ·subst hst
   rw [List.getD_eq_getElem?_getD,List.getElem?_set_self (by omega)]
   simp only [Option.getD_some]
   rw [ih (by omega)]
   simp
   omega
  ·rw [List.getD_eq_getElem?_getD,List.getElem?_set_ne hst,←List.getD_eq_getElem?_getD,ih (by omega)]
   have:¬((t:Int)=(s:Int)):=by omega
   simp [this]
theorem nth_of_count (l:List Int) (s:Int):∀ m,m<l.count s→∃ q,∃ hq:q<l.length,l[q]=s∧(l.take q).count s=m:=by
 induction l with
 | nil=>intro m h;simp at h
 | cons x l ih=>
  intro m h
  by_cases hx:x=s
  ·subst hx
   cases m with
   | zero=>exact ⟨0,by simp,by simp,by simp⟩
   | succ m=>
    rw [List.count_cons_self] at h
    obtain ⟨q,hq,h1,h2⟩:=ih m (by omega)
    exact ⟨q+1,by simpa using hq,by simpa using h1,by rw [List.take_succ_cons,List.count_cons_self,h2]⟩
  ·rw [List.count_cons_of_ne (fun e=>hx e)] at h
   obtain ⟨q,hq,h1,h2⟩:=ih m h
   exact ⟨q+1,by simpa using hq,by simpa using h1,by rw [List.take_succ_cons,List.count_cons_of_ne (fun e=>hx e),h2]⟩
theorem split_at :∀ p,p<64→∀ c,c<65→1≤c→∃ k,k<7∧(c≤(p+64) / 2 ^ k∧(p+64) / 2 ^ k<2*c∧(p+64) / 2 ^ k*2 ^ wd ((p+64) / 2 ^ k)≤p+64∧p+64<((p+64) / 2 ^ k+1)*2 ^ wd ((p+64) / 2 ^ k)):=by decide +kernel
def hit (T:List Int) (s:Int) (p q:Nat):Prop:=T.getD (q*3) 0=s∧cZ T q≤p∧p<cZ T q+2 ^ cB T q
instance (T:List Int) (s:Int) (p q:Nat):Decidable (hit T s p q):=by unfold hit;infer_instance
theorem cX_cnt {zs:List Int} (hn:normB zs=true) (q s:Nat) (hq:q<64) (hs:(pl (fl 0 zs) (plc 64)).getD q 0=(s:Int)) (hsl:s<zs.length):(cX (pl (fl 0 zs) (plc 64)) zs q:Int)=zs.getD s 0+(((pl (fl 0 zs) (plc 64)).take q).count (s:Int):Nat):=by
 have hl:(pl (fl 0 zs) (plc 64)).length=64:=pl_len _ _
 have:=nx_cnt (pl (fl 0 zs) (plc 64)) zs (fun i hi=>by obtain ⟨s,h,_⟩:=sp_sym hn i (by omega);exact ⟨s,h⟩) s hsl q (by omega)
 have h0:=(nx_bnd (pl (fl 0 zs) (plc 64)) zs q s).1
 have hz:=normB_get hn s hsl
 unfold cX
 rw [hs,Int.toNat_natCast]
 omega
theorem cell_atG (SP zs:List Int) (n q:Nat) (hq:q<n):(tb SP zs n).getD (q*3) 0=SP.getD q 0∧cB (tb SP zs n) q=wd (cX SP zs q)∧cZ (tb SP zs n) q=cX SP zs q*2 ^ wd (cX SP zs q)-64:=by
 have h0:=tb_get SP zs q 0 (by omega) n hq
 have h1:=tb_get SP zs q 1 (by omega) n hq
 have h2:=tb_get SP zs q 2 (by omega) n hq
 generalize tb SP zs n=T at *
 generalize cX SP zs q=X at *
 generalize SP.getD q 0=u at *
 rw [Nat.add_zero] at h0
 refine ⟨by rw [h0];rfl,?_,?_⟩
 ·unfold cB
  rw [h1]
  simp
 ·unfold cZ
  rw [h2]
  show (((X*2 ^ wd X:Nat):Int)-64).toNat=_
  omega
theorem cell_at {zs:List Int} (q:Nat) (hq:q<64):(tb (pl (fl 0 zs) (plc 64)) zs 64).getD (q*3) 0=(pl (fl 0 zs) (plc 64)).getD q 0∧cB (tb (pl (fl 0 zs) (plc 64)) zs 64) q=wd (cX (pl (fl 0 zs) (plc 64)) zs q)∧cZ (tb (pl (fl 0 zs) (plc 64)) zs 64) q=cX (pl (fl 0 zs) (plc 64)) zs q*2 ^ wd (cX (pl (fl 0 zs) (plc 64)) zs q)-64:=cell_atG _ zs 64 q hq
theorem ex_hit {zs:List Int} (hn:normB zs=true) (s p:Nat) (hs:s<zs.length) (hp:p<64) (hc:zs.getD s 0≠0):∃ q,q<64∧hit (tb (pl (fl 0 zs) (plc 64)) zs 64) (s:Int) p q:=by
 have hz:=normB_get hn s hs
 obtain ⟨c,hcc⟩:=Int.eq_ofNat_of_zero_le hz.1
 obtain ⟨k,_,h1,h2,h3,h4⟩:=split_at p hp c (by omega) (by omega)
 generalize (p+64) / 2 ^ k=X at *
 have hcount:(pl (fl 0 zs) (plc 64)).count (s:Int)=c:=by
  rw [(sp_perm hn).count_eq]
  have:=fl_count zs 0 s hs
  rw [Nat.zero_add,hcc] at this
  simpa using this
 obtain ⟨q,hq,hq1,hq2⟩:=nth_of_count (pl (fl 0 zs) (plc 64)) (s:Int) (X-c) (by omega)
 have hq64:q<64:=by rw [pl_len] at hq;exact hq
 have hqs:(pl (fl 0 zs) (plc 64)).getD q 0=(s:Int):=by rw [List.getD_eq_getElem?_getD,List.getElem?_eq_getElem hq,hq1];rfl
 have hX:=cX_cnt hn q s hq64 hqs hs
 rw [hq2,hcc] at hX
 have hX':cX (pl (fl 0 zs) (plc 64)) zs q=X:=by omega
 obtain ⟨c1,c2,c3⟩:=cell_at (zs:=zs) q hq64
 refine ⟨q,hq64,by rw [c1];exact hqs,?_,?_⟩
 ·rw [c3,hX'];omega
 ·rw [c3,c2,hX']
  rw [Nat.add_mul,Nat.one_mul] at h4
  omega
def First (T:List Int) (s:Int) (p q:Nat):Prop:=q<64∧hit T s p q∧∀ j,j<q→¬hit T s p j
def fq (T:List Int) (s:Int) (p:Nat):Nat:=((List.range 64).find? (fun q=>decide (hit T s p q))).getD 0
theorem fq_first {T:List Int} {s:Int} {p:Nat} (h:∃ q,q<64∧hit T s p q):First T s p (fq T s p):=by
 obtain ⟨q,hq,hh⟩:=h
 unfold fq
 cases hf:(List.range 64).find? (fun q=>decide (hit T s p q)) with
 | none=>
  rw [List.find?_eq_none] at hf
  exact absurd hh (by simpa using hf q (by simpa using hq))
 | some r=>
  obtain ⟨h1,i,hi,h2,h3⟩:=List.find?_eq_some_iff_getElem.1 hf
  simp only [List.length_range] at hi
  simp only [List.getElem_range] at h2 h3
  subst h2
  refine ⟨hi,by simpa using h1,fun j hj=>?_⟩
  have:=h3 j hj
  simpa using this
theorem no_hit {zs:List Int} (hn:normB zs=true) (s:Int) (p:Nat) (hc:∀ k:Nat,s=k→zs.getD k 0=0):∀ q,q<64→¬hit (tb (pl (fl 0 zs) (plc 64)) zs 64) s p q:=by
 intro q hq h
 obtain ⟨c1,_,_⟩:=cell_at (zs:=zs) q hq
 obtain ⟨t,ht,htl,htp,_⟩:=sp_sym hn q hq
 have:=h.1
 rw [c1,ht] at this
 have:=hc t this.symm
 omega
def fpS (T ts:List Int):Nat→Nat × Nat × Nat
 | 0=>(0,0,0)
 | k+1=>(fq T (ts.getD (ts.length-1-k) 0) (fpS T ts k).1,(fpS T ts k).2.1+cB T (fq T (ts.getD (ts.length-1-k) 0) (fpS T ts k).1),(fpS T ts k).2.2+((fpS T ts k).1-cZ T (fq T (ts.getD (ts.length-1-k) 0) (fpS T ts k).1))*2 ^ (fpS T ts k).2.1)
def shd (ls ts:List Int):Prop:=∀ k,k<ts.length→ls.getD (ts.getD k 0).toNat 0≠0
instance (ls ts:List Int):Decidable (shd ls ts):=by unfold shd;infer_instance
structure Tab (T ls:List Int):Prop where
 gd:Gd T ls.length
 ex:∀ s p:Nat,s<ls.length→p<64→ls.getD s 0≠0→∃ q,q<64∧hit T (s:Int) p q
 no:∀ (s:Int) (p:Nat),(∀ k:Nat,s=k→ls.getD k 0=0)→∀ q,q<64→¬hit T s p q
 le:ls.length≤80
theorem tab_tb {ls:List Int} (hn:normB ls=true):Tab (tb (pl (fl 0 ls) (plc 64)) ls 64) ls:=
 ⟨gd_tb hn,fun s p hs hp hc=>ex_hit hn s p hs hp hc,fun s p hc=>no_hit hn s p hc,(normB_bnd hn).2⟩
section
variable {T ls ts : List Int}
theorem fpS_ok (hT:Tab T ls) (hts:∀ k,k<ts.length→0≤ts.getD k 0∧ts.getD k 0<ls.length):∀ k,k≤ts.length→(∀ j,j<k→ls.getD (ts.getD (ts.length-1-j) 0).toNat 0≠0)→(fpS T ts k).1<64∧(fpS T ts k).2.1≤6*k∧(fpS T ts k).2.2<2 ^ (fpS T ts k).2.1:=by
 intro k
 induction k with
 | zero=>intro _ _;simp [fpS]
 | succ k ih=>
  intro hk hs
  obtain ⟨h1,h2,h3⟩:=ih (by omega) (fun j hj=>hs j (by omega))
  have hsy:=hts (ts.length-1-k) (by omega)
  obtain ⟨s,hse⟩:=Int.eq_ofNat_of_zero_le hsy.1
  have hsh:=hs k (by omega)
  rw [hse,Int.toNat_natCast] at hsh
  have hF:=fq_first (hT.ex s (fpS T ts k).1 (by omega) h1 hsh)
  obtain ⟨_,b,z,_,e2,e3,_,hb6,hz64⟩:=hT.gd.cell (fq T (s:Int) (fpS T ts k).1) hF.1
  have hb:cB T (fq T (s:Int) (fpS T ts k).1)=b:=by unfold cB;rw [e2,Int.toNat_natCast]
  have hz:cZ T (fq T (s:Int) (fpS T ts k).1)=z:=by unfold cZ;rw [e3,Int.toNat_natCast]
  have hh:=hF.2.1
  unfold hit at hh
  rw [hb,hz] at hh
  rw [fpS,hse]
  refine ⟨hF.1,?_,?_⟩
  ·simp only [hb];omega
  ·simp only [hb,hz]
   exact put_lt _ _ b _ h3 (by omega)
theorem fpS_first (hT:Tab T ls) (hts:∀ k,k<ts.length→0≤ts.getD k 0∧ts.getD k 0<ls.length) (k:Nat) (hk:k<ts.length) (hs:∀ j,j<k+1→ls.getD (ts.getD (ts.length-1-j) 0).toNat 0≠0):First T (ts.getD (ts.length-1-k) 0) (fpS T ts k).1 (fpS T ts (k+1)).1:=by
 obtain ⟨h1,_,_⟩:=fpS_ok hT hts k (by omega) (fun j hj=>hs j (by omega))
 have hsy:=hts (ts.length-1-k) (by omega)
 obtain ⟨s,hse⟩:=Int.eq_ofNat_of_zero_le hsy.1
 have hsh:=hs k (by omega)
 rw [hse,Int.toNat_natCast] at hsh
 rw [fpS,hse]
 exact fq_first (hT.ex s (fpS T ts k).1 (by omega) h1 hsh)
end
theorem First.unique {T:List Int} {s:Int} {p q r:Nat} (h1:First T s p q) (h2:First T s p r):q=r:=by
 rcases Nat.lt_trichotomy q r with h | h | h
 ·exact absurd h1.2.1 (h2.2.2 q h)
 ·exact h
 ·exact absurd h2.2.1 (h1.2.2 r h)
def fN (T ts:List Int):Nat:=(fpS T ts ts.length).2.1+6
def fV (T ts:List Int):Nat:=(fpS T ts ts.length).2.2+(fpS T ts ts.length).1*2 ^ (fpS T ts ts.length).2.1
end Go.Proofs.YtfeokafkhnbdiaaGreatDoor
namespace Go.Proofs.YtfeokafkhnbdiaaGreatDoor
open Go.RowKit Go.Shelf
attribute [local go_sem] Oper.semAt_some
set_option linter.unusedVariables false
abbrev P64 :={ x:Nat // x<64 }
set_option maxRecDepth 100000 in
theorem place_stops (F:Fence) (n:Nat) (hF:F.fn 151) (hro:F.round=none) (hn:1≤n) (w:World) :
  SeqStops F n Tryz.prog 151 #[] (fun v:P64=>Value.int .i64 ((v.1:Nat):Int)) (fun xs=>xs.map (·.1)=plc 64) (fun _=>True) 64 w:=fun l J Jx W _ _ _ hY h0=>by
 refine callsIn_of_wp Tryz.func151 rfl hF ?_ hro
 simp only [Tryz.ntmps151,List.size_toArray,List.length_cons,List.length_nil,Nat.reduceAdd,Nat.reduceSub,Array.replicate_succ,Array.replicate_zero,List.push_toArray,List.append_toArray,List.nil_append,List.cons_append]
 gi_wp2
 gi_loopw [2,3] (fun p i wr=>∃ (k q:Nat) (pre:List P64),k≤64∧i=.int .i64 k∧q=43*k % 64∧p=.int .i64 q∧pre.map (·.1)=plc k∧J pre wr) (fun _ i _=>64-(intOf i).toNat)
 case atStart=>exact ⟨0,0,[],Nat.zero_le _,rfl,rfl,rfl,rfl,h0⟩
 case round=>
  obtain ⟨k,q,pre,hk,rfl,hq,rfl,hp,hJ⟩:=hrel
  have hq64:q<64:=by omega
  have hl:pre.length=k:=by have:=congrArg List.length hp;simpa [plc_len] using this
  by_cases hlt:k<64
  ·obtain ⟨fn,tmps,assign,body,hy,hR⟩:=hY pre ⟨q,hq64⟩ wr hJ (by omega)
   dsimp only at hy
   have HQ:Hid (q=43*k % 64):=hq
   have HP:Hid (pre.map (·.1)=plc k):=hp
   have HL:Hid (pre.length=k):=hl
   clear hq hp hl
   gi_wp2
   refine hR.mono ?_
   rintro e W3 (⟨rfl,hJ3,hk3⟩ | ⟨rfl,hJx3⟩)
   ·gi_wp2
    go_roundw
    case rel=>exact ⟨k+1,(q+43) % 64,pre++[⟨q,hq64⟩],by omega,by go_num,by rw [HQ.out];omega,by go_num,by rw [List.map_append,HP.out,plc_succ,←HQ.out];rfl,hJ3⟩
    case measure=>simp [intOf];omega
   ·gi_wp2
    refine bodyPost_ret (results_none rfl _ _ _) rfl ?_
    exact ⟨⟨_,rfl⟩,.inr ⟨_,trivial,hJx3⟩⟩
  ·have hke:k=64:=by omega
   subst hke
   gi_wp2
   go_end0
   exact ⟨⟨_,rfl⟩,.inl ⟨pre,hp,hJ⟩⟩
end Go.Proofs.YtfeokafkhnbdiaaGreatDoor
