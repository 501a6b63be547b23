/- Lemmas on the way. -/
import Derived.Test.YtaibkchbkedjnaaGreatDoorINormP
import Derived.Test.YtaibkchbkedjnaaGreatDoorElSz
import Derived.RangeFuncNested
import Derived.RangeFuncBound
import Derived.RangeFuncCalls
import Derived.RangeFuncLeaves
import Derived.RangeFuncFrom
import Derived.Shelf.Abstract
import Derived.Shelf.RegionOpen
import Derived.WalkKit
import Derived.OwnWalkIn
import Derived.TacticsInMore
import Derived.LoopNIn
import Derived.LoopIn
import Derived.Deep.MidRow
import Derived.Test.YtaibkchbkedjnaaGreatDoorItEq
import Derived.Laws.CopyOwn
import Derived.Test.YtaibkchbkedjnaaGreatDoorRdr
set_option maxRecDepth 20000
set_option maxHeartbeats 16000000
namespace Go.Proofs.YtaibkchbkedjnaaGreatDoor
open Go.RowKit
set_option linter.unusedVariables false
def fl :Nat→List Int→List Int
 | _,[]=>[]
 | i,z :: zs=>List.replicate z.toNat (i:Int)++fl (i+1) zs
theorem sum_nn {zs:List Int} (h:∀ z ∈ zs,0≤z) (j:Nat):0≤(zs.take j).sum:=by
 induction zs generalizing j with
 | nil=>simp
 | cons z zs ih=>
  cases j with
  | zero=>simp
  | succ j=>
   have h1:=h z (by simp)
   have h2:=ih (fun y hy=>h y (by simp [hy])) j
   simp only [List.take_succ_cons,List.sum_cons]
   omega
theorem fl_at (zs:List Int):∀ (i j k:Nat),(∀ z ∈ zs,0≤z)→j<zs.length→(k:Int)<zs.getD j 0→(fl i zs).getD ((zs.take j).sum.toNat+k) 0=((i+j:Nat):Int):=by
 induction zs with
 | nil=>intro i j k _ hj;simp at hj
 | cons z zs ih=>
  intro i j k h hj hk
  cases j with
  | zero=>
   simp only [List.getD_cons_zero] at hk
   simp only [fl,List.take_zero,List.sum_nil,Int.toNat_zero,Nat.zero_add,Nat.add_zero]
   rw [List.getD_eq_getElem?_getD,List.getElem?_append_left (by rw [List.length_replicate];omega),List.getElem?_replicate,if_pos (by omega)]
   rfl
  | succ j=>
   have h1:=h z (by simp)
   have h2:=sum_nn (fun y hy=>h y (by simp [hy])) j (zs:=zs)
   have:=ih (i+1) j k (fun y hy=>h y (by simp [hy])) (by simpa using hj) (by simpa using hk)
   simp only [fl,List.take_succ_cons,List.sum_cons]
   rw [List.getD_eq_getElem?_getD,List.getElem?_append_right (by rw [List.length_replicate];omega),List.length_replicate,←List.getD_eq_getElem?_getD,show (z+(zs.take j).sum).toNat+k-z.toNat=(zs.take j).sum.toNat+k from by omega,this]
   congr 1
   omega
def pl (F:List Int) (ps:List Nat):List Int:=ps.zipIdx.foldl (fun r pj=>r.set pj.1 (F.getD pj.2 0)) (List.replicate 64 0)
theorem pl_snoc (F:List Int) (ps:List Nat) (x:Nat):pl F (ps++[x])=(pl F ps).set x (F.getD ps.length 0):=by
 unfold pl
 rw [List.zipIdx_append,List.foldl_append]
 simp
theorem pl_len (F:List Int) (ps:List Nat):(pl F ps).length=64:=by
 unfold pl
 generalize ps.zipIdx=l
 have:∀ (l:List (Nat × Nat)) (r:List Int),r.length=64→(l.foldl (fun r pj=>r.set pj.1 (F.getD pj.2 0)) r).length=64:=by
  intro l
  induction l with
  | nil=>intro r h;simpa using h
  | cons p l ih=>intro r h;simp only [List.foldl_cons];exact ih _ (by rw [List.length_set];exact h)
 exact this l _ (by simp)
def plc (m:Nat):List Nat:=(List.range m).map fun j=>43*j % 64
theorem plc_succ (m:Nat):plc (m+1)=plc m++[43*m % 64]:=by simp [plc,List.range_succ]
theorem plc_len (m:Nat):(plc m).length=m:=by simp [plc]
theorem made_rowI {w:World} {B g n:Nat} (hown:w.ownsRow B 3 1 (.slice (some ⟨g,0,none⟩) n n) n (madeCells (Value.int .i64 0).cells (n*1)).toList):OwI w B g n (List.replicate n 0):=by
 refine ⟨?_,by intro z hz;simp at hz;omega⟩
 rw [made_zeroI] at hown
 simpa using hown
theorem fl_mem (zs:List Int):∀ i,∀ z ∈ fl i zs,∃ j,j<zs.length∧z=((i+j:Nat):Int)∧0<zs.getD j 0:=by
 induction zs with
 | nil=>intro i z hz;simp [fl] at hz
 | cons y zs ih=>
  intro i z hz
  simp only [fl,List.mem_append,List.mem_replicate] at hz
  rcases hz with ⟨h,rfl⟩ | hz
  ·exact ⟨0,by simp,by simp,by simp;omega⟩
  ·obtain ⟨j,h1,h2,h3⟩:=ih (i+1) z hz
   exact ⟨j+1,by simpa using h1,by rw [h2];congr 1;omega,by simpa using h3⟩
theorem fl_len (zs:List Int):∀ i,(∀ z ∈ zs,0≤z)→((fl i zs).length:Int)=zs.sum:=by
 induction zs with
 | nil=>intro i _;simp [fl]
 | cons y zs ih=>
  intro i h
  have h1:=h y (by simp)
  have h2:=ih (i+1) (fun z hz=>h z (by simp [hz]))
  simp only [fl,List.length_append,List.length_replicate,List.sum_cons]
  omega
theorem pl_get (F:List Int):∀ m,m≤64→∀ p,p<64→(pl F (plc m)).getD p 0=if 3*p % 64<m then F.getD (3*p % 64) 0 else 0:=by
 intro m
 induction m with
 | zero=>
  intro _ p hp
  rw [if_neg (by omega)]
  show (List.replicate 64 (0:Int)).getD p 0=0
  rw [List.getD_eq_getElem?_getD,List.getElem?_replicate,if_pos hp]
  rfl
 | succ m ih=>
  intro hm p hp
  rw [plc_succ,pl_snoc,plc_len]
  by_cases he:43*m % 64=p
  ·have h3:3*p % 64=m:=by omega
   rw [List.getD_eq_getElem?_getD,he,List.getElem?_set_self (by rw [pl_len];exact hp),h3,if_pos (by omega)]
   rfl
  ·have h3:3*p % 64≠m:=by omega
   rw [List.getD_eq_getElem?_getD,List.getElem?_set_ne he,←List.getD_eq_getElem?_getD,ih (by omega) p hp]
   by_cases hl:3*p % 64<m
   ·rw [if_pos hl,if_pos (by omega)]
   ·rw [if_neg hl,if_neg (by omega)]
theorem sp_sym {zs:List Int} (hn:normB zs=true) (p:Nat) (hp:p<64):∃ s:Nat,(pl (fl 0 zs) (plc 64)).getD p 0=(s:Int)∧s<zs.length∧0<zs.getD s 0∧zs.getD s 0≤64:=by
 have hnn:(∀ z ∈ zs,0≤z)∧zs.sum=64:=by
  have h:=hn
  simp only [normB,decide_eq_true_eq] at h
  exact ⟨fun z hz=>(h.2.2.1 z hz).1,h.2.2.2⟩
 have hl:=fl_len zs 0 hnn.1
 rw [hnn.2] at hl
 rw [pl_get _ 64 nl p hp,if_pos (by omega),List.getD_eq_getElem?_getD,List.getElem?_eq_getElem (by omega)]
 obtain ⟨j,h1,h2,h3⟩:=fl_mem zs 0 _ (List.getElem_mem (show 3*p % 64<(fl 0 zs).length by omega))
 refine ⟨j,by simpa using h2,h1,h3,(normB_get hn j h1).2⟩
def nx (SP zs:List Int):Nat→List Int
 | 0=>zs
 | i+1=>(nx SP zs i).set (SP.getD i 0).toNat ((nx SP zs i).getD (SP.getD i 0).toNat 0+1)
theorem nx_len (SP zs:List Int) (i:Nat):(nx SP zs i).length=zs.length:=by
 induction i with
 | zero=>rfl
 | succ i ih=>rw [nx,List.length_set,ih]
theorem nx_bnd (SP zs:List Int) (i j:Nat):zs.getD j 0≤(nx SP zs i).getD j 0∧(nx SP zs i).getD j 0≤zs.getD j 0+i:=by
 induction i with
 | zero=>simp [nx]
 | succ i ih=>
  rw [nx]
  by_cases hj:(SP.getD i 0).toNat=j
  ·rw [hj]
   by_cases hl:j<(nx SP zs i).length
   ·rw [List.getD_eq_getElem?_getD (l:=(nx SP zs i).set _ _),List.getElem?_set_self hl]
    simp only [Option.getD_some]
    omega
   ·rw [List.set_eq_of_length_le (by omega)]
    omega
  ·rw [List.getD_eq_getElem?_getD (l:=(nx SP zs i).set _ _),List.getElem?_set_ne hj,←List.getD_eq_getElem?_getD]
   omega
def wd (x:Nat):Nat:=6-Nat.log2 x
theorem wd_rng {x:Nat} (h1:1≤x) (h2:x≤127):wd x≤6∧64≤x*2 ^ wd x∧x*2 ^ wd x<128:=by
 unfold wd
 have hl:=Nat.log2_self_le (n:=x) (by omega)
 have hu:=Nat.lt_log2_self (n:=x)
 have h6:Nat.log2 x<7:=(Nat.log2_lt (by omega)).2 (by omega)
 have e:2 ^ Nat.log2 x*2 ^ (6-Nat.log2 x)=64:=by rw [←Nat.pow_add,show Nat.log2 x+(6-Nat.log2 x)=6 from by omega]
 have e2:2 ^ (Nat.log2 x+1)*2 ^ (6-Nat.log2 x)=128:=by rw [←Nat.pow_add,show Nat.log2 x+1+(6-Nat.log2 x)=7 from by omega]
 have hp:0<2 ^ (6-Nat.log2 x):=Nat.pow_pos (by omega)
 refine ⟨by omega,?_,?_⟩
 ·rw [←e];exact Nat.mul_le_mul_right _ hl
 ·rw [←e2];exact Nat.mul_lt_mul_of_pos_right hu hp
theorem wd_least {x b:Nat} (h1:1≤x) (h2:x≤127) (hb:b<wd x):x*2 ^ b<64:=by
 unfold wd at hb
 have hu:=Nat.lt_log2_self (n:=x)
 have e2:2 ^ (Nat.log2 x+1)*2 ^ b≤64:=by
  rw [←Nat.pow_add]
  exact Nat.le_trans (Nat.pow_le_pow_right (by omega) (show Nat.log2 x+1+b≤6 by omega)) (by decide)
 exact Nat.lt_of_lt_of_le (Nat.mul_lt_mul_of_pos_right hu (Nat.pow_pos (by omega))) e2
def tb (SP zs:List Int):Nat→List Int
 | 0=>[]
 | i+1=>tb SP zs i++[SP.getD i 0,(wd ((nx SP zs i).getD (SP.getD i 0).toNat 0).toNat:Nat),(((nx SP zs i).getD (SP.getD i 0).toNat 0).toNat*2 ^ wd ((nx SP zs i).getD (SP.getD i 0).toNat 0).toNat:Nat)-64]
theorem tb_len (SP zs:List Int) (i:Nat):(tb SP zs i).length=i*3:=by
 induction i with
 | zero=>rfl
 | succ i ih=>rw [tb,List.length_append,ih];simp;omega
theorem shl_in (X j:Nat) (hX:X≤127) (hj:j≤6):wrap64 ((X:Int)*2 ^ j)=((X*2 ^ j:Nat):Int):=by
 have h1:X*2 ^ j≤127*2 ^ 6:=Nat.mul_le_mul hX (Nat.pow_le_pow_right (by omega) hj)
 have e:((X:Int)*2 ^ j)=((X*2 ^ j:Nat):Int):=by simp
 rw [e]
 exact IntWalk.wrap64_in _ (by omega)
theorem tb_rng {zs:List Int} (hn:normB zs=true):∀ k,k≤64→∀ z ∈ tb (pl (fl 0 zs) (plc 64)) zs k,-64≤z∧z≤127:=by
 intro k
 induction k with
 | zero=>intro _ z hz;simp [tb] at hz
 | succ k ih=>
  intro hk z hz
  obtain ⟨s,hs,hsl,hzp,hz64⟩:=sp_sym hn k (by omega)
  have hbd:=normB_bnd hn
  have hbn:=nx_bnd (pl (fl 0 zs) (plc 64)) zs k s
  rw [tb,hs,Int.toNat_natCast] at hz
  simp only [List.mem_append,List.mem_cons,List.not_mem_nil,or_false] at hz
  obtain ⟨X,hX⟩:=Int.eq_ofNat_of_zero_le (show 0≤(nx (pl (fl 0 zs) (plc 64)) zs k).getD s 0 by omega)
  rw [hX,Int.toNat_natCast] at hz
  have hw:=wd_rng (x:=X) (by omega) (by omega)
  rcases hz with hz | rfl | rfl | rfl
  ·exact ih (by omega) z hz
  ·omega
  ·omega
  ·omega
def cX (SP zs:List Int) (p:Nat):Nat:=((nx SP zs p).getD (SP.getD p 0).toNat 0).toNat
theorem tb_step (SP zs:List Int) (n p j:Nat) (hp:p<n) (hj:j<3):(tb SP zs (n+1)).getD (p*3+j) 0=(tb SP zs n).getD (p*3+j) 0:=by
 rw [tb,List.getD_eq_getElem?_getD,List.getElem?_append_left (by rw [tb_len];omega),←List.getD_eq_getElem?_getD]
theorem tb_new (SP zs:List Int) (n j:Nat):(tb SP zs (n+1)).getD (n*3+j) 0=[SP.getD n 0,(wd (cX SP zs n):Nat),(cX SP zs n*2 ^ wd (cX SP zs n):Nat)-64].getD j 0:=by
 rw [tb,List.getD_eq_getElem?_getD,List.getElem?_append_right (by rw [tb_len];omega),tb_len,Nat.add_sub_cancel_left,←List.getD_eq_getElem?_getD]
 rfl
theorem tb_get (SP zs:List Int) (p j:Nat) (hj:j<3):∀ n,p<n→(tb SP zs n).getD (p*3+j) 0=[SP.getD p 0,(wd (cX SP zs p):Nat),(cX SP zs p*2 ^ wd (cX SP zs p):Nat)-64].getD j 0:=by
 intro n
 induction n with
 | zero=>intro h;omega
 | succ n ih=>
  intro h
  by_cases he:p<n
  ·rw [tb_step SP zs n p j he hj,ih he]
  ·obtain rfl:p=n:=by omega
   exact tb_new SP zs p j
structure Gd (T:List Int) (L:Nat):Prop where
 len:T.length=192
 cell:∀ p,p<64→∃ s b z:Nat,T.getD (p*3) 0=s∧T.getD (p*3+1) 0=b∧T.getD (p*3+2) 0=z∧s<L∧b≤6∧z+2 ^ b≤64
theorem wd_top {x:Nat} (h1:1≤x) (h2:x≤127):(x+1)*2 ^ wd x≤128:=by
 unfold wd
 have hu:=Nat.lt_log2_self (n:=x)
 have h6:Nat.log2 x<7:=(Nat.log2_lt (by omega)).2 (by omega)
 have e2:2 ^ (Nat.log2 x+1)*2 ^ (6-Nat.log2 x)=128:=by rw [←Nat.pow_add,show Nat.log2 x+1+(6-Nat.log2 x)=7 from by omega]
 rw [←e2]
 exact Nat.mul_le_mul_right _ hu
theorem gd_tb {zs:List Int} (hn:normB zs=true):Gd (tb (pl (fl 0 zs) (plc 64)) zs 64) zs.length:=by
 refine ⟨tb_len _ _ _,fun p hp=>?_⟩
 obtain ⟨s,hs,hsl,hzp,hz64⟩:=sp_sym hn p hp
 have hbn:=nx_bnd (pl (fl 0 zs) (plc 64)) zs p s
 have hX1:1≤cX (pl (fl 0 zs) (plc 64)) zs p:=by unfold cX;rw [hs,Int.toNat_natCast];omega
 have hX2:cX (pl (fl 0 zs) (plc 64)) zs p≤127:=by unfold cX;rw [hs,Int.toNat_natCast];omega
 have h0:=tb_get (pl (fl 0 zs) (plc 64)) zs p 0 (by omega) 64 hp
 have h1:=tb_get (pl (fl 0 zs) (plc 64)) zs p 1 (by omega) 64 hp
 have h2:=tb_get (pl (fl 0 zs) (plc 64)) zs p 2 (by omega) 64 hp
 have hw:=wd_rng hX1 hX2
 have ht:=wd_top hX1 hX2
 generalize cX (pl (fl 0 zs) (plc 64)) zs p=X at *
 rw [Nat.add_mul,Nat.one_mul] at ht
 exact ⟨s,wd X,X*2 ^ wd X-64,by rw [Nat.add_zero] at h0;rw [h0];simpa using hs,by rw [h1];rfl,by rw [h2];show ((X*2 ^ wd X:Nat):Int)-64=_;omega,hsl,hw.1,by omega⟩
def cB (T:List Int) (p:Nat):Nat:=(T.getD (p*3+1) 0).toNat
def cZ (T:List Int) (p:Nat):Nat:=(T.getD (p*3+2) 0).toNat
def sg (T:List Int) (v E:Nat):Nat→Option (Nat × Nat)
 | 0=>some (v / 2 ^ E % 64,E)
 | i+1=>match sg T v E i with
  | none=>none
  | some (st,en)=>if en<cB T st then none else some (cZ T st+v / 2 ^ (en-cB T st) % 2 ^ cB T st,en-cB T st)
def so (T:List Int) (v E:Nat):Nat→List Int
 | 0=>[]
 | i+1=>so T v E i++[match sg T v E i with | some (st,_)=>T.getD (st*3) 0 | none=>0]
theorem so_len (T:List Int) (v E i:Nat):(so T v E i).length=i:=by
 induction i with
 | zero=>rfl
 | succ i ih=>rw [so,List.length_append,ih];rfl
theorem sg_none {T:List Int} {v E k:Nat} (h:sg T v E k=none):∀ n,k≤n→sg T v E n=none:=by
 intro n
 induction n with
 | zero => intro hk; obtain rfl : k = 0 := by omega
           exact h
 | succ n ih=>
  intro hk
  by_cases e:k=n+1
  ·subst e;exact h
  ·rw [sg,ih (by omega)]
theorem sg_rng {T:List Int} {L:Nat} (hT:Gd T L) (v E:Nat):∀ i st en,sg T v E i=some (st,en)→st<64∧en≤E:=by
 intro i
 induction i with
 | zero=>
  intro st en h
  simp only [sg,Option.some.injEq,Prod.mk.injEq] at h
  omega
 | succ i ih=>
  intro st en h
  rw [sg] at h
  cases hq:sg T v E i with
  | none=>rw [hq] at h;simp at h
  | some q=>
   obtain ⟨s0,e0⟩:=q
   rw [hq] at h
   simp only at h
   obtain ⟨h1,h2⟩:=ih s0 e0 hq
   by_cases hl:e0<cB T s0
   ·rw [if_pos hl] at h;simp at h
   ·rw [if_neg hl] at h
    simp only [Option.some.injEq,Prod.mk.injEq] at h
    obtain ⟨s,b,z,k1,k2,k3,k4,k5,k6⟩:=hT.cell s0 h1
    have hb:cB T s0=b:=by unfold cB;rw [k2,Int.toNat_natCast]
    have hz:cZ T s0=z:=by unfold cZ;rw [k3,Int.toNat_natCast]
    rw [hb,hz] at h
    have:v / 2 ^ (e0-b) % 2 ^ b<2 ^ b:=Nat.mod_lt _ (Nat.pow_pos (by omega))
    omega
theorem sg_step {T:List Int} {v E i st en:Nat} (h:sg T v E i=some (st,en)) (hl:¬en<cB T st):sg T v E (i+1)=some (cZ T st+v / 2 ^ (en-cB T st) % 2 ^ cB T st,en-cB T st):=by
 rw [sg,h]
 simp only
 rw [if_neg hl]
theorem sg_stop {T:List Int} {v E i st en:Nat} (h:sg T v E i=some (st,en)) (hl:en<cB T st):sg T v E (i+1)=none:=by
 rw [sg,h]
 simp only
 rw [if_pos hl]
theorem so_step {T:List Int} {v E i st en:Nat} (h:sg T v E i=some (st,en)):so T v E (i+1)=so T v E i++[T.getD (st*3) 0]:=by
 rw [so,h]
def fgB (T:List Int) (v N n:Nat):Bool:=decide (6≤N∧sg T v (N-6) n=some (0,0))
end Go.Proofs.YtaibkchbkedjnaaGreatDoor
namespace Go.Proofs.YtaibkchbkedjnaaGreatDoor
open Go.RowKit Go.Shelf
attribute [local go_sem] Oper.semAt_some
set_option linter.unusedVariables false
abbrev P64 :={ x:Nat // x<64 }
set_option maxRecDepth 100000 in
theorem place_stops (F:Fence) (n:Nat) (hF:F.fn 249) (hro:F.round=none) (hn:1≤n) (w:World) :
  SeqStops F n Tryz.prog 249 #[] (fun v:P64=>Value.int .i64 ((v.1:Nat):Int)) (fun xs=>xs.map (·.1)=plc 64) (fun _=>True) 64 w:=fun l J Jx W _ _ _ hY h0=>by
 refine callsIn_of_wp Tryz.func249 rfl hF ?_ hro
 simp only [Tryz.ntmps249,List.size_toArray,List.length_cons,List.length_nil,Nat.reduceAdd,Nat.reduceSub,Array.replicate_succ,Array.replicate_zero,List.push_toArray,List.append_toArray,List.nil_append,List.cons_append]
 gi_wp2
 gi_loopw [2,3] (fun p i wr=>∃ (k q:Nat) (pre:List P64),k≤64∧i=.int .i64 k∧q=43*k % 64∧p=.int .i64 q∧pre.map (·.1)=plc k∧J pre wr) (fun _ i _=>64-(intOf i).toNat)
 case atStart=>exact ⟨0,0,[],Nat.zero_le _,rfl,rfl,rfl,rfl,h0⟩
 case round=>
  obtain ⟨k,q,pre,hk,rfl,hq,rfl,hp,hJ⟩:=hrel
  have hq64:q<64:=by omega
  have hl:pre.length=k:=by have:=congrArg List.length hp;simpa [plc_len] using this
  by_cases hlt:k<64
  ·obtain ⟨fn,tmps,assign,body,hy,hR⟩:=hY pre ⟨q,hq64⟩ wr hJ (by omega)
   dsimp only at hy
   have HQ:Hid (q=43*k % 64):=hq
   have HP:Hid (pre.map (·.1)=plc k):=hp
   have HL:Hid (pre.length=k):=hl
   clear hq hp hl
   gi_wp2
   refine hR.mono ?_
   rintro e W3 (⟨rfl,hJ3,hk3⟩ | ⟨rfl,hJx3⟩)
   ·gi_wp2
    go_roundw
    case rel=>exact ⟨k+1,(q+43) % 64,pre++[⟨q,hq64⟩],by omega,by go_num,by rw [HQ.out];omega,by go_num,by rw [List.map_append,HP.out,plc_succ,←HQ.out];rfl,hJ3⟩
    case measure=>simp [intOf];omega
   ·gi_wp2
    refine bodyPost_ret (results_none rfl _ _ _) rfl ?_
    exact ⟨⟨_,rfl⟩,.inr ⟨_,trivial,hJx3⟩⟩
  ·have hke:k=64:=by omega
   subst hke
   gi_wp2
   go_end0
   exact ⟨⟨_,rfl⟩,.inl ⟨pre,hp,hJ⟩⟩
attribute [local go_sem] Oper.semAt_some
set_option linter.unusedVariables false
def Z64 :Array Value:=((List.replicate 64 (0:Int)).map (Value.int .i64)).toArray
theorem z64 :(#[.int .i64 0,.int .i64 0,.int .i64 0,.int .i64 0,.int .i64 0,.int .i64 0,.int .i64 0,.int .i64 0,.int .i64 0,.int .i64 0,.int .i64 0,.int .i64 0,.int .i64 0,.int .i64 0,.int .i64 0,.int .i64 0,.int .i64 0,.int .i64 0,.int .i64 0,.int .i64 0,.int .i64 0,.int .i64 0,.int .i64 0,.int .i64 0,.int .i64 0,.int .i64 0,.int .i64 0,.int .i64 0,.int .i64 0,.int .i64 0,.int .i64 0,.int .i64 0,.int .i64 0,.int .i64 0,.int .i64 0,.int .i64 0,.int .i64 0,.int .i64 0,.int .i64 0,.int .i64 0,.int .i64 0,.int .i64 0,.int .i64 0,.int .i64 0,.int .i64 0,.int .i64 0,.int .i64 0,.int .i64 0,.int .i64 0,.int .i64 0,.int .i64 0,.int .i64 0,.int .i64 0,.int .i64 0,.int .i64 0,.int .i64 0,.int .i64 0,.int .i64 0,.int .i64 0,.int .i64 0,.int .i64 0,.int .i64 0,.int .i64 0,.int .i64 0]:Array Value)=Z64:=rfl
structure SpW (w W:World) (V:Value) (G S Lf:Nat) (tb:List Int) (s left:Nat):Prop where
 bx:Boxed W G 29 V
 rs:W.heap[G+1]?=some (.cells Z64 321 (0,0))
 tab:W.heap[G+1+1]?=some (.cells (tb.map (Value.int .i64)).toArray 321 (0,0))
 sy:Boxed W S 3 (.int .i64 s)
 lf:Boxed W Lf 3 (.int .i64 left)
 bel:Below G w W
section
variable {w W W' : World} {V : Value} {G S Lf : Nat} {tb : List Int} {s left : Nat}
theorem SpW.own {B:Nat} {row:Option Nat} (h:SpW w W V G S Lf tb s left) (hg:W.grownBy W' row) (hr:∀ r,row=some r→B≤r∧∃ o:Obj,W.heap[r]?=some o∧o.isCells=false) (hB:G≤B) (hw:G≤w.heap.size):SpW w W' V G S Lf tb s left:=by
 have hr':∀ r,row=some r→∃ o:Obj,W.heap[r]?=some o∧o.isCells=false:=fun r e=>(hr r e).2
 exact ⟨(grownBy_keeps_cells hg hr' h.bx rfl).trans h.bx,(grownBy_keeps_cells hg hr' h.rs rfl).trans h.rs,(grownBy_keeps_cells hg hr' h.tab rfl).trans h.tab,(grownBy_keeps_cells hg hr' h.sy rfl).trans h.sy,(grownBy_keeps_cells hg hr' h.lf rfl).trans h.lf,h.bel.grown hg (Nat.le_trans hw h.bel.size) (fun k e=>Nat.le_trans hB (hr k e).1)⟩
theorem SpW.setS (h:SpW w W V G S Lf tb s left) (hS:G+1+1<S) (hne:S≠Lf) (s':Nat):SpW w (W.setCell ⟨S,0,none⟩ (.int .i64 s')) V G S Lf tb s' left:=
 ⟨(Below.heap_setCell _ _ _ _ (by simp;omega)).trans h.bx,(Below.heap_setCell _ _ _ _ (by simp;omega)).trans h.rs,(Below.heap_setCell _ _ _ _ (by simp;omega)).trans h.tab,h.sy.set _,(Below.heap_setCell _ _ _ _ (by simpa using hne.symm)).trans h.lf,h.bel.setCell (by simp;omega) _⟩
theorem SpW.setL (h:SpW w W V G S Lf tb s left) (hS:G+1+1<Lf) (hne:S≠Lf) (l':Nat):SpW w (W.setCell ⟨Lf,0,none⟩ (.int .i64 l')) V G S Lf tb s l':=
 ⟨(Below.heap_setCell _ _ _ _ (by simp;omega)).trans h.bx,(Below.heap_setCell _ _ _ _ (by simp;omega)).trans h.rs,(Below.heap_setCell _ _ _ _ (by simp;omega)).trans h.tab,(Below.heap_setCell _ _ _ _ (by simpa using hne)).trans h.sy,h.lf.set _,h.bel.setCell (by simp;omega) _⟩
theorem SpW.setT (h:SpW w W V G S Lf tb s left) (hS:G+1+1<S) (hL:G+1+1<Lf) (x:Nat) (v:Int):SpW w (W.setCell ⟨G+1+1,x,none⟩ (.int .i64 v)) V G S Lf (tb.set x v) s left:=
 ⟨(Below.heap_setCell _ _ _ _ (by simp;omega)).trans h.bx,(Below.heap_setCell _ _ _ _ (by simp)).trans h.rs,by rw [heap_setCell_same _ _ x _ _ _ h.tab];simp [List.map_set],(Below.heap_setCell _ _ _ _ (by simp;omega)).trans h.sy,(Below.heap_setCell _ _ _ _ (by simp;omega)).trans h.lf,h.bel.setCell (by simp;omega) _⟩
end
theorem normB_sumS {zs:List Int} (hn:normB zs=true):(∀ z ∈ zs,0≤z)∧zs.sum=64:=by
 simp only [normB,decide_eq_true_eq] at hn
 exact ⟨fun z hz=>(hn.2.2.1 z hz).1,hn.2.2.2⟩
theorem tab_cell {w:World} {g:Nat} {T:TypeId} {tb:List Int} (h:w.heap[g]?=some (.cells (tb.map (Value.int .i64)).toArray T (0,0))) (x:Nat) (hx:x<tb.length):w.cell? ⟨g,x,none⟩=some (.int .i64 (tb.getD x 0)):=by
 rw [cell_of_row _ _ x _ _ _ h]
 simp [List.getD_eq_getElem?_getD,hx]
theorem wpListIn_load_rowS {n:Nat} {P:Program} {ops:Array Oper} {rest:List Oper} {op:Oper} {a:Act} {w:World} {Q:Exit→Act→World→Prop} (hgd:op.guard=none) (ty:TypeId) (x:Operand) (ho:op.op=.load ty x) (b:Nat) (hx:a.eval x=.pointer (some ⟨b,0,none⟩)) (v:Value)
  (hl:(loadVar ty ⟨b,0,none⟩).run P w=.ok v w) (h:wpListIn Fence.wide n P ops Q rest (a.put op.dst v) w):wpListIn Fence.wide n P ops Q (op :: rest) a w:=wpListIn_plain hgd fun K hK=>by
 refine ⟨fun _ _=>trivial,?_⟩
 show op.uponIn _ _ _ _ _ _ ((op.semAt none a.eval).run P w)
 rw [Oper.semAt_none]
 unfold execOp
 simp only [ho,hx,Instr.loadAt,Instr.sureAddr,Sem.run_bind,Sem.run_pure,Result.andThen_ok,hl]
 exact hK _ _ h
theorem wpListIn_store_rowS {n:Nat} {P:Program} {ops:Array Oper} {rest:List Oper} {op:Oper} {a:Act} {w w':World} {Q:Exit→Act→World→Prop} (hgd:op.guard=none) (ty:TypeId) (x y:Operand) (ho:op.op=.store ty x y) (b:Nat) (hx:a.eval x=.pointer (some ⟨b,0,none⟩)) (v:Value) (hy:a.eval y=v)
  (hl:(storeVar ty ⟨b,0,none⟩ v).run P w=.ok () w') (h:wpListIn Fence.wide n P ops Q rest (a.put op.dst undef) w'):wpListIn Fence.wide n P ops Q (op :: rest) a w:=wpListIn_plain hgd fun K hK=>by
 refine ⟨fun _ _=>trivial,?_⟩
 show op.uponIn _ _ _ _ _ _ ((op.semAt none a.eval).run P w)
 rw [Oper.semAt_none]
 unfold execOp
 simp only [ho,hx,hy,Instr.storeAt,Instr.sureAddr,Sem.run_bind,Sem.run_pure,Result.andThen_ok,hl]
 exact hK _ _ h
theorem results_cell1 {fn:Func} {p:Tmp} {ty:TypeId} (h:fn.results=#[.cell p ty]) (tmps:Array Value) (P:Program) (w:World):(results fn tmps).run P w=((asAddr (tmps.getD p undef)).run P w).andThen fun a w₁=>(loadVar ty a).run P w₁:=by
 simp only [results,h]
 simp [Sem.run_bind,Result.andThen]
theorem below_setRowS {B g:Nat} {w0 w:World} (hb:Below B w0 w) (hBg:B≤g) (cs:Array Value):Below B w0 (w.setRow g cs):=
 hb.trans ⟨rfl,rfl,rfl,by simp [World.setRow],fun k hk=>setRow_other w g k cs (by omega)⟩
def cellN (w:World) (S:Nat):Nat:=match w.cell? ⟨S,0,none⟩ with
 | some v=>(intOf v).toNat
 | none=>0
theorem cellN_eq {w:World} {S s:Nat} {t:TypeId} (h:Boxed w S t (.int .i64 s)):cellN w S=s:=by
 unfold cellN
 rw [h.cell]
 simp [intOf]
set_option maxRecDepth 100000 in
theorem spreadOf_in (n:Nat) (hn3:3≤n) (a:Option Addr) (cap:Nat) (zs:List Int) (w:World) (hb:Ins w a zs) (hn:normB zs=true) :
  CallsIn Fence.wide n Tryz.prog 246 #[.slice a zs.length cap] w fun e w'=>e=.returned (.agg ((pl (fl 0 zs) (plc 64)).map (Value.int .i64)).toArray)∧Below w.heap.size w w':=by
 have h1:1≤n:=by omega
 have hbd:=normB_bnd hn
 obtain ⟨b1,o1,rfl,hb1,hc1⟩:=hb.len_pos 0 (by omega)
 have HC:Hid (∀ i,i<zs.length→w.cell? ⟨b1,o1+i,none⟩=some (.int .i64 (zs.getD i 0))):=hc1
 have hs0:=hc1 0 (by omega)
 have HN:Hid (normB zs=true):=hn
 clear hn hb hc1
 generalize hL:zs.length=L at *
 have HL:Hid (zs.length=L):=hL
 clear hL
 obtain ⟨L',rfl⟩:∃ L',L=L'+1:=⟨L-1,by omega⟩
 refine callsIn_of_wp_marks Tryz.func246 rfl trivial ?_ rfl
 simp only [Tryz.ntmps246,List.size_toArray,List.length_cons,List.length_nil,Nat.reduceAdd,Nat.reduceSub,Array.replicate_succ,Array.replicate_zero,List.push_toArray,List.append_toArray,List.nil_append,List.cons_append]
 gi_wp2
 rw [z64]
 have HB0:Hid (Below w.heap.size w (((w.alloc (Obj.cells #[.slice (some ⟨b1,o1,none⟩) (L'+1) cap] 29)).alloc (Obj.cells Z64 321)).alloc (Obj.cells Z64 321))):=(((Below.refl _ _).alloc nl _).alloc (by simp) _).alloc (by simp;omega) _
 have HX0:Hid (Boxed (((w.alloc (Obj.cells #[.slice (some ⟨b1,o1,none⟩) (L'+1) cap] 29)).alloc (Obj.cells Z64 321)).alloc (Obj.cells Z64 321)) w.heap.size 29 (.slice (some ⟨b1,o1,none⟩) (L'+1) cap)):=((Boxed.new w _ _).alloc _).alloc _
 have HP0:Hid ((((w.alloc (Obj.cells #[.slice (some ⟨b1,o1,none⟩) (L'+1) cap] 29)).alloc (Obj.cells Z64 321)).alloc (Obj.cells Z64 321)).heap[w.heap.size+1]?=some (.cells Z64 321 (0,0))):=by
  have:=World.alloc_heap_new (w.alloc (Obj.cells #[.slice (some ⟨b1,o1,none⟩) (L'+1) cap] 29)) (Obj.cells Z64 321)
  rw [World.size_alloc] at this
  exact (Below.heap_alloc _ _ _ (by simp)).trans this
 have HQ0:Hid ((((w.alloc (Obj.cells #[.slice (some ⟨b1,o1,none⟩) (L'+1) cap] 29)).alloc (Obj.cells Z64 321)).alloc (Obj.cells Z64 321)).heap[w.heap.size+1+1]?=some (.cells Z64 321 (0,0))):=by
  have:=World.alloc_heap_new ((w.alloc (Obj.cells #[.slice (some ⟨b1,o1,none⟩) (L'+1) cap] 29)).alloc (Obj.cells Z64 321)) (Obj.cells Z64 321)
  rw [World.size_alloc,World.size_alloc] at this
  exact this
 have HS0:Hid ((((w.alloc (Obj.cells #[.slice (some ⟨b1,o1,none⟩) (L'+1) cap] 29)).alloc (Obj.cells Z64 321)).alloc (Obj.cells Z64 321)).heap.size=w.heap.size+1+1+1):=by simp [Hid]
 generalize ((w.alloc (Obj.cells #[.slice (some ⟨b1,o1,none⟩) (L'+1) cap] 29)).alloc (Obj.cells Z64 321)).alloc (Obj.cells Z64 321)=W0 at *
 generalize hG:w.heap.size=G at *
 have HG:Hid (w.heap.size=G):=hG
 clear hG
 have c0:=HX0.out.cell
 have c1:W0.cell? ⟨b1,o1+0,none⟩=some (.int .i64 (zs.getD 0 0)):=keep HB0.out hb1 hs0
 have l0:=HX0.out.lt
 have l1:b1<W0.heap.size:=by omega
 obtain ⟨z0,hz0⟩:∃ z0:Int,zs.getD 0 0=z0:=⟨_,rfl⟩
 have HZ:Hid (zs.getD 0 0=z0):=hz0
 rw [hz0] at c1
 rw [Nat.add_zero] at c1
 clear hs0 hz0
 have hmx:Tryz.prog.follows .mixedOrders=true:=by kernel_rfl
 have hz0n:0≤z0:=by have:=normB_get HN.out 0 (by rw [HL.out];omega);rw [HZ.out] at this;omega
 obtain ⟨y0,rfl⟩:=Int.eq_ofNat_of_zero_le hz0n
 gi_region
 all_goals have hsz:=HS0.out
 all_goals have HSZ:Hid (W0.heap.size=G+1+1+1):=hsz
 all_goals clear HS0
 have H1:Hid (SpW w ((W0.alloc (Obj.cells #[.int .i64 0] 3)).alloc (Obj.cells #[.int .i64 (y0:Int)] 3)).drew (.slice (some ⟨b1,o1,none⟩) (L'+1) cap) G W0.heap.size (W0.heap.size+1) (pl (fl 0 zs) []) 0 y0):=
  ⟨(HX0.out.alloc _).alloc _,(Below.heap_alloc _ _ _ (by simp;omega)).trans ((Below.heap_alloc _ _ _ (by omega)).trans HP0.out),(Below.heap_alloc _ _ _ (by simp;omega)).trans ((Below.heap_alloc _ _ _ (by omega)).trans HQ0.out),(Boxed.new W0 3 _).alloc _,(by have:=Boxed.new (W0.alloc (Obj.cells #[.int .i64 0] 3)) 3 (.int .i64 (y0:Int));rw [World.size_alloc] at this;exact this),((HB0.out.alloc (by omega) _).alloc (by simp;omega) _).drew⟩
 have HF:Hid (G+1+1<W0.heap.size∧G+1+1<(W0.heap.size+1)∧W0.heap.size≠(W0.heap.size+1)):=by unfold Hid;omega
 generalize ((W0.alloc (Obj.cells #[.int .i64 0] 3)).alloc (Obj.cells #[.int .i64 (y0:Int)] 3)).drew=W1 at H1 ⊢
 generalize W0.heap.size+1=Lf at H1 HF ⊢
 generalize W0.heap.size=S at H1 HF ⊢
 clear HX0 HP0 HQ0 HB0 HSZ l0 l1 c0 c1 hmx hsz
 rotate_left
 have H1:Hid (SpW w ((W0.alloc (Obj.cells #[.int .i64 (y0:Int)] 3)).alloc (Obj.cells #[.int .i64 0] 3)).drew (.slice (some ⟨b1,o1,none⟩) (L'+1) cap) G (W0.heap.size+1) W0.heap.size (pl (fl 0 zs) []) 0 y0):=
  ⟨(HX0.out.alloc _).alloc _,(Below.heap_alloc _ _ _ (by simp;omega)).trans ((Below.heap_alloc _ _ _ (by omega)).trans HP0.out),(Below.heap_alloc _ _ _ (by simp;omega)).trans ((Below.heap_alloc _ _ _ (by omega)).trans HQ0.out),(by have:=Boxed.new (W0.alloc (Obj.cells #[.int .i64 (y0:Int)] 3)) 3 (.int .i64 0);rw [World.size_alloc] at this;exact this),(Boxed.new W0 3 _).alloc _,((HB0.out.alloc (by omega) _).alloc (by simp;omega) _).drew⟩
 have HF:Hid (G+1+1<(W0.heap.size+1)∧G+1+1<W0.heap.size∧(W0.heap.size+1)≠W0.heap.size):=by unfold Hid;omega
 generalize ((W0.alloc (Obj.cells #[.int .i64 (y0:Int)] 3)).alloc (Obj.cells #[.int .i64 0] 3)).drew=W1 at H1 ⊢
 generalize W0.heap.size+1=S at H1 HF ⊢
 generalize W0.heap.size=Lf at H1 HF ⊢
 clear HX0 HP0 HQ0 HB0 HSZ l0 l1 c0 c1 hmx hsz
 all_goals
  obtain ⟨hS,hLf,hne⟩:=HF.out
  have HW1:Hid (G≤W1.heap.size):=by have:=H1.out.bx.lt;unfold Hid;omega
  have hsum64:=(normB_sumS HN.out)
  have HALL:Hid ((∀ z ∈ zs,0≤z)∧zs.sum=64):=hsum64
  clear hsum64 HF
  gi_wp2
  refine wpIn_rangeFunc_ownF rfl h1 (gf:=249) (lb:=#[]) rfl trivial (enters_of Tryz.func249 (by kernel_rfl) rfl)
   (encs:=fun x:P64=>#[.int .i64 ((x.1:Nat):Int)]) (Kp:=KeepsWalks) (place_stops Fence.wide (n-1) trivial rfl (by omega) W1) walksK_t walksK_b (Below.refl _ _) (fun _=>rfl)
   (fun pre W=>∃ s left:Nat,s<L'+1∧(left:Int)≤zs.getD s 0∧(zs.take s).sum+zs.getD s 0-left=(pre.length:Int)∧SpW w W (.slice (some ⟨b1,o1,none⟩) (L'+1) cap) G S Lf (pl (fl 0 zs) (pre.map (·.1))) s left)
   (fun _ _ _=>False)
   (fun pre A B row hs hg hr=>by obtain ⟨s,left,p1,p2,p3,h⟩:=hs;exact ⟨s,left,p1,p2,p3,h.own hg hr HW1.out (by rw [HG.out];exact Nat.le_refl _)⟩)
   (fun _ _ _ _ _ hs _ _=>hs)
   ⟨0,y0,by omega,by rw [HZ.out];exact Int.le_refl _,by rw [HZ.out];simp,H1.out⟩
   (fun x=>{ tmps:=#[(.slice (some ⟨b1,o1,none⟩) (L'+1) cap),.pointer (some ⟨G,0,none⟩),.pointer (some ⟨G+1,0,none⟩),.pointer (some ⟨G+1+1,0,none⟩),.pointer (some ⟨S,0,none⟩),.pointer (some ⟨Lf,0,none⟩),.int .i64 ((x.1:Nat):Int),(.slice (some ⟨b1,o1,none⟩) (L'+1) cap),.pointer (some ⟨b1,o1,none⟩),.int .i64 y0,.int .i64 ((x.1:Nat):Int),undef,undef,undef,undef,undef,undef,undef,undef,undef,undef,undef,undef,undef,undef],defers:=[] }) ?assign ?body ?done ?stop
  case assign=>
   intro l x W K hK
   gi_wp2
   exact hK
  case body=>
   rintro l pre ⟨x,hx⟩ W ⟨s,left,hs,hle,hsum,hw⟩ hlt
   have HH:Hid (∃ s left:Nat,s<L'+1∧(left:Int)≤zs.getD s 0∧(zs.take s).sum+zs.getD s 0-left=(pre.length:Int)∧SpW w W (.slice (some ⟨b1,o1,none⟩) (L'+1) cap) G S Lf (pl (fl 0 zs) (pre.map (·.1))) s left):=⟨s,left,hs,hle,hsum,hw⟩
   clear hs hle hsum hw s left
   gi_wp2
   gi_loopw [] (fun wr=>(∃ s left:Nat,s<L'+1∧(left:Int)≤zs.getD s 0∧(zs.take s).sum+zs.getD s 0-left=(pre.length:Int)∧SpW w wr (.slice (some ⟨b1,o1,none⟩) (L'+1) cap) G S Lf (pl (fl 0 zs) (pre.map (·.1))) s left)∧KeepsOthers W wr) (fun wr=>L'+1-cellN wr S)
   case atStart=>exact ⟨HH.out,KeepsOthers.refl _⟩
   case round=>
    obtain ⟨⟨s,left,hs,hle,hsum,hw⟩,hko⟩:=hrel
    have HNs:Hid (cellN wr S=s):=cellN_eq hw.sy
    have HKO:Hid (KeepsOthers W wr):=hko
    have x0:=hw.bx.cell
    have x1:=hw.sy.cell
    have x2:=hw.lf.cell
    have y1:=hw.sy.frozen
    have y2:=hw.lf.frozen
    have h1s:=sum_succ zs s (by rw [HL.out];exact hs)
    have hgs:=normB_get HN.out s (by rw [HL.out];exact hs)
    by_cases hl0:left=0
    ·subst hl0
     have hs1:s+1<L'+1:=by
      rcases Nat.lt_or_ge (s+1) (L'+1) with h | h
      ·exact h
      ·exfalso
       have e:s+1=zs.length:=by rw [HL.out];omega
       rw [e,List.take_length,HALL.out.2] at h1s
       omega
     have hg:=normB_get HN.out (s+1) (by rw [HL.out];exact hs1)
     obtain ⟨z1,hz1⟩:=Int.eq_ofNat_of_zero_le hg.1
     have HZ1:Hid (zs.getD (s+1) 0=(z1:Int)):=hz1
     have hc:=keep hw.bel hb1 (HC.out (s+1) hs1)
     rw [hz1] at hc
     have hbS:b1≠S:=by omega
     have hbL:b1≠Lf:=by omega
     have HSUM:Hid ((zs.take (s+1)).sum+zs.getD (s+1) 0-z1=(pre.length:Int)):=by unfold Hid;rw [h1s,HZ1.out];omega
     have HW2:Hid (SpW w ((wr.setCell ⟨S,0,none⟩ (.int .i64 ((s:Int)+1))).setCell ⟨Lf,0,none⟩ (.int .i64 z1)) (.slice (some ⟨b1,o1,none⟩) (L'+1) cap) G S Lf (pl (fl 0 zs) (pre.map (·.1))) (s+1) z1):=by
      have:=(hw.setS hS hne (s+1)).setL hLf hne z1
      rw [show (((s+1:Nat)):Int)=(s:Int)+1 from by omega] at this
      exact this
     have hSL:=hne
     have hLS:=hne.symm
     clear hw hle hsum h1s hgs hg hz1 hko
     gi_wp2
     go_roundw
     case rel=>exact ⟨⟨s+1,z1,hs1,by rw [HZ1.out];exact Int.le_refl _,HSUM.out,HW2.out⟩,(HKO.out.trans (KeepsOthers.setCell _ _ _)).trans (KeepsOthers.setCell _ _ _)⟩
     case measure=>
      rw [cellN_eq HW2.out.sy,HNs.out]
      omega
    ·obtain ⟨l',rfl⟩:∃ l',left=l'+1:=⟨left-1,by omega⟩
     have hl1:(((l'+1:Nat):Int) == 0)=false:=by simp;omega
     have HFL:Hid ((fl 0 zs).getD (pre.map (·.1)).length 0=(s:Int)):=by
      unfold Hid
      have h2:=sum_nn HALL.out.1 s
      have:=fl_at zs 0 s (zs.getD s 0-(l'+1:Nat)).toNat HALL.out.1 (by rw [HL.out];exact hs) (by omega)
      rw [show (zs.take s).sum.toNat+(zs.getD s 0-(l'+1:Nat)).toNat=(pre.map (·.1)).length from by rw [List.length_map];omega,Nat.zero_add] at this
      exact this
     have hlen:=pl_len (fl 0 zs) (pre.map (·.1))
     have hc:=tab_cell hw.tab x (by rw [hlen];exact hx)
     have hf:=frozen_of_row wr _ x _ _ hw.tab
     have HW2:Hid (SpW w ((wr.setCell ⟨G+1+1,x,none⟩ (.int .i64 s)).setCell ⟨Lf,0,none⟩ (.int .i64 l')) (.slice (some ⟨b1,o1,none⟩) (L'+1) cap) G S Lf (pl (fl 0 zs) ((pre++[(⟨x,hx⟩:P64)]).map (·.1))) s l'):=by
      have:=(hw.setT hS hLf x (s:Int)).setL hLf hne l'
      rw [List.map_append,List.map_cons,List.map_nil,pl_snoc,HFL.out]
      exact this
     have HSUM:Hid ((zs.take s).sum+zs.getD s 0-l'=((pre++[(⟨x,hx⟩:P64)]).length:Int)):=by unfold Hid;rw [List.length_append,List.length_singleton];omega
     have HLE:Hid ((l':Int)≤zs.getD s 0):=by unfold Hid;omega
     have hlb:(l':Int)≤64:=by omega
     have hTS:G+1+1≠S:=by omega
     have hTL:G+1+1≠Lf:=by omega
     have hST:=hTS.symm
     have hLT:=hTL.symm
     generalize (pl (fl 0 zs) (pre.map (·.1))).getD x 0=old at *
     clear hw hle hsum h1s hgs hko hlen
     gi_wp2
     have hk2:=(HKO.out.trans (KeepsOthers.setCell wr ⟨G+1+1,x,none⟩ (.int .i64 s))).trans (KeepsOthers.setCell _ ⟨Lf,0,none⟩ (.int .i64 l'))
     exact ⟨hk2,hk2.walks,s,l',hs,HLE.out,HSUM.out,HW2.out⟩
  case done=>
   rintro D ys W hD hys ⟨s,left,hs,hle,hsum,hw⟩ hK
   rw [hys] at hw
   have hlen:=pl_len (fl 0 zs) (plc 64)
   have hsz:(((pl (fl 0 zs) (plc 64)).map (Value.int .i64)).toArray).size=64:=by simp [hlen]
   have hlv:=run_loadVar_row (P:=Tryz.prog) W (G+1+1) 321 321 _ (0,0) _ hw.tab Tryz.underlying321 rfl (by rw [hsz];kernel_rfl)
   have hsv:=run_storeVar_row (P:=Tryz.prog) W (G+1) 321 321 Z64 _ hw.rs (by rw [hsz];kernel_rfl) (by rw [hsz];rfl) (by simp [Value.oneCell'])
   have HLV:Hid _:=hlv
   have HSV:Hid _:=hsv
   have HWW:Hid (SpW w W (.slice (some ⟨b1,o1,none⟩) (L'+1) cap) G S Lf (pl (fl 0 zs) (plc 64)) s left):=hw
   clear hlv hsv hw
   simp only [Exit.then,Exit.inBlock]
   gi_step
   apply wpIn_seq_k
   intro _ _
   apply wpIn_region_lit
   refine wpListIn_load_rowS rfl 321 (.tmp 3) rfl (G+1+1) rfl _ HLV.out ?_
   refine wpListIn_store_rowS rfl 321 (.tmp 2) (.tmp 24) rfl (G+1) rfl _ rfl HSV.out ?_
   apply wpListIn_nil
   gi_wp2
   have hD1:G+1<D:=by
    have h2:=(Array.getElem?_eq_some_iff.1 H1.out.tab).1
    omega
   generalize hE:((pl (fl 0 zs) (plc 64)).map (Value.int .i64)).toArray=E at *
   have hK':(W.setRow (G+1) E).heap[D]?=some (.deferred (some [])):=(setRow_other _ _ _ _ (by omega)).trans hK
   have hr1:(W.setRow (G+1) E).heap[G+1]?=some (.cells E 321 (0,0)):=setRow_heap _ _ _ _ _ _ HWW.out.rs
   have hr2:((W.setRow (G+1) E).putObj D (.deferred none)).heap[G+1]?=some (.cells E 321 (0,0)):=(World.putObj_heap_other (by omega)).trans hr1
   have hlast:=run_loadVar_row (P:=Tryz.prog) _ (G+1) 321 321 E (0,0) _ hr2 Tryz.underlying321 rfl (by rw [hsz];kernel_rfl)
   refine ⟨by simp,.inl ⟨_,_,rfl,run_takeDeferred hK',?_⟩⟩
   refine ⟨.agg E,?_,rfl,?_⟩
   ·rw [results_cell1 Tryz.results246]
    exact hlast
   ·rw [HG.out]
    exact (below_setRowS HWW.out.bel (by omega) _).trans (belowK_b (w:=W1) HW1.out _ D _ _ hD hK' rfl rfl)
  case stop=>
   rintro D c pre W _ _ h _
   exact h.elim
end Go.Proofs.YtaibkchbkedjnaaGreatDoor
namespace Go.Proofs.YtaibkchbkedjnaaGreatDoor
open Go.RowKit
set_option linter.unusedVariables false
def bl (n:Nat):Nat:=if n=0 then 0 else Nat.log2 n+1
theorem bl_all :∀ n,n<256→n<2 ^ bl n∧(∀ k,k<9→k<bl n→2 ^ k≤n)∧bl n≤8∧(n≤64→bl n≤7):=by decide +kernel
theorem bl_lt (n:Nat) (h:n<256):n<2 ^ bl n:=(bl_all n h).1
theorem bl_ge (n k:Nat) (h:n<256) (hk:k<bl n):2 ^ k≤n:=(bl_all n h).2.1 k (by have:=(bl_all n h).2.2.1;omega) hk
theorem bl_le7 (n:Nat) (h:n≤64):bl n≤7:=(bl_all n (by omega)).2.2.2 h
theorem bl_zero :bl 0=0:=rfl
set_option maxRecDepth 100000 in
theorem len64_int (x:Int) (w:World) (h0:0≤x) (h:x<256) :
  Calls Tryz.prog 248 #[.int .u64 x] w fun e w'=>e=.returned (.int .i64 (bl x.toNat:Nat))∧w'=w:=by
 generalize hy:((bl x.toNat:Nat):Int)=y
 have HY:Hid (((bl x.toNat:Nat):Int)=y):=hy
 clear hy
 go_enter Tryz.func248,Tryz.ntmps248
 go_wp2
 go_ret
 refine ⟨ret_int ?_,rfl⟩
 rw [←HY.out]
 have hn:x.toNat<256:=by omega
 have e:∀ (n:Nat) (S:ByteArray) (h:n<S.size),S[n]=S.data.toList.getD n 0:=by
  intro n S h
  have h':n<S.data.toList.length:=by simpa using h
  rw [List.getD_eq_getElem?_getD,List.getElem?_eq_getElem h']
  rfl
 rw [e]
 generalize x.toNat=n at *
 revert hn
 clear HY e
 revert n
 decide +kernel
theorem len64_any (n:Nat) (w:World) (h:n<256) :
  Calls Tryz.prog 248 #[.int .u64 (n:Int)] w fun e w'=>e=.returned (.int .i64 (bl n:Nat))∧w'=w:=by
 have:=len64_int (n:Int) w (by omega) (by omega)
 simpa using this
theorem len_any (n:Nat) (w:World) (h:n<256) :
  Calls Tryz.prog 244 #[.int .u64 (n:Int)] w fun e w'=>e=.returned (.int .i64 (bl n:Nat))∧w'=w:=by
 go_enter Tryz.func244,Tryz.ntmps244
 go_wp2_with fail
 refine (len64_any n w h).mono ?_
 rintro e w1 ⟨rfl,rfl⟩
 go_wp2
 go_ret
 exact ⟨rfl,rfl⟩
def ArI (w:World) (B U:Nat) (a:Option Addr) (zs:List Int):Prop:=
 (∀ z ∈ zs,-9223372036854775808≤z∧z≤9223372036854775807)∧((a=none∧zs=[])∨∃ g T,a=some ⟨g,0,none⟩∧B≤g∧g<U∧w.heap[g]?=some (.cells (zs.map (Value.int .i64)).toArray T (0,0)))
theorem arr_cell {w:World} {g:Nat} {T:TypeId} {tb:List Int} (h:w.heap[g]?=some (.cells (tb.map (Value.int .i64)).toArray T (0,0))) (x:Nat) (hx:x<tb.length):w.cell? ⟨g,x,none⟩=some (.int .i64 (tb.getD x 0)):=by
 rw [cell_of_row _ _ x _ _ _ h]
 simp [List.getD_eq_getElem?_getD,hx]
section
variable {w W W' : World} {B U B' U' : Nat} {a : Option Addr} {zs : List Int}
end
def zer (n:Nat):List Int:=List.replicate n 0
def cel (l:List Int):Array Value:=(l.map (Value.int .i64)).toArray
theorem infoTab :(Tryz.prog.info? 319).bind (·.zero)=some (.agg (cel (zer 192))):=by kernel_rfl
theorem infoNxt :(Tryz.prog.info? 320).bind (·.zero)=some (.agg (cel (zer 80))):=by kernel_rfl
theorem zeroOf {P:Program} {t:TypeId} {z:Value} (h:(P.info? t).bind (·.zero)=some z) (w:World):(zeroValue t).run P w=.ok z w:=by
 cases hi:P.info? t with
 | none=>rw [hi] at h;simp at h
 | some i=>
  rw [hi] at h
  simp at h
  simp [zeroValue,typeInfo,hi,h]
theorem zeroTab (w:World):(zeroValue 319).run Tryz.prog w=.ok (.agg (cel (zer 192))) w:=zeroOf infoTab w
theorem zeroNxt (w:World):(zeroValue 320).run Tryz.prog w=.ok (.agg (cel (zer 80))) w:=zeroOf infoNxt w
theorem splice_zer (zs:List Int) (L:Nat) (h:zs.length=L):splice ((zer 80).map (Value.int .i64)) 0 (zs.map (Value.int .i64))=(zs++zer (80-L)).map (Value.int .i64):=by
 unfold splice
 rw [List.take_zero,List.nil_append,Nat.zero_add,List.length_map,h,←List.map_drop,List.map_append]
 unfold zer
 rw [List.drop_replicate]
theorem index_row (E:Array Value) (k s:Nat) (hk:k<64) (hE:E[k]?=some (.int .i64 (s:Int))) (W:World):(Instr.index 321 (.agg E) (.int .i64 (k:Int))).run Tryz.prog W=.ok (.int .i64 (s:Int)) W:=by
 obtain ⟨i0,hi,hz0,hz1,hz2⟩:=info_parts Tryz.infoI64
 simp [Instr.index,asIntOf,run_underlying Tryz.underlying321,run_underlying Tryz.underlying3,Go.part,isAgg,sizeOf,typeInfo,hi,hz1,hE,hk]
theorem wd_bl :∀ X,X<128→1≤X→bl X+wd X=7:=by decide +kernel
theorem back_no (R:Nat) (a:Option Addr) (cap:Nat) (zs:List Int) (n:Nat) (p width:Int) (w:World) (hn:n≤4104) (pb:p≤9223372036854775807)
  (c0:w.cell? ⟨R,0,none⟩=some (.slice a zs.length cap)) (c1:w.cell? ⟨R,1,none⟩=some (.int .i64 n)) (c2:w.cell? ⟨R,2,none⟩=some (.int .i64 p))
  (s0:Sent w 17) (s2:Sent w 18)
  (h:width<0∨30<width∨(n:Int)<p∨p<width) :
  Calls Tryz.prog 245 #[.pointer (some ⟨R,0,none⟩),.int .i64 width] w fun e w'=>(∃ T x,e=.returned (.tuple #[.int .i64 0,.iface T x]))∧∃ m,w'=w.drewN m:=by
 obtain ⟨T0,x0,g0⟩:=s0
 obtain ⟨T2,x2,g2⟩:=s2
 have key:(width<0∨30<width)∨(0≤width∧width≤30∧(n:Int)<p)∨(0≤width∧width≤30∧p≤(n:Int)∧p<width):=by omega
 clear h
 rcases key with hh | ⟨k1,k2,k3⟩ | ⟨k1,k2,k3,k4⟩
 ·have hd:Hid (decide (0≤width∧width≤30)=false):=by simp [Hid];omega
  go_enter Tryz.func245,Tryz.ntmps245
  go_wp2_with fail
  refine (widthOk_any width _).mono ?_
  rintro e w1 ⟨rfl,rfl⟩
  rw [hd.out]
  go_wp2_with fail
  go_quiet (fail)
  go_wp2
  go_ret2
  exact ⟨⟨_,_,rfl⟩,_,rfl⟩
 ·have hd:Hid (decide (0≤width∧width≤30)=true):=by simp [Hid];omega
  have hp:decide ((n:Int)<p)=true:=by simpa using k3
  go_enter Tryz.func245,Tryz.ntmps245
  go_wp2_with fail
  refine (widthOk_any width _).mono ?_
  rintro e w1 ⟨rfl,rfl⟩
  rw [hd.out]
  go_wp2_with fail
  go_quiet (fail)
  go_wp2
  go_quiet (fail)
  go_wp2
  go_ret2
  exact ⟨⟨_,_,rfl⟩,_,World.drewN_drewN ..⟩
 ·have hd:Hid (decide (0≤width∧width≤30)=true):=by simp [Hid];omega
  have hp:decide ((n:Int)<p)=false:=by simpa using k3
  go_enter Tryz.func245,Tryz.ntmps245
  go_wp2_with fail
  refine (widthOk_any width _).mono ?_
  rintro e w1 ⟨rfl,rfl⟩
  rw [hd.out]
  go_wp2_with fail
  go_quiet (fail)
  go_wp2
  go_quiet (fail)
  go_wp2
  go_ret2
  exact ⟨⟨_,_,rfl⟩,_,World.drewN_drewN ..⟩
theorem back_yes (R:Nat) (a:Option Addr) (cap:Nat) (zs:List Int) (n v:Nat) (p width:Int) (w:World) (hn:n≤4104) (hb:∀ m x,Byt ((w.drewN m).setCell ⟨R,2,none⟩ x) a zs) (hz:zs=enc n v)
  (c0:w.cell? ⟨R,0,none⟩=some (.slice a zs.length cap)) (c1:w.cell? ⟨R,1,none⟩=some (.int .i64 n)) (c2:w.cell? ⟨R,2,none⟩=some (.int .i64 p)) (f2:w.frozen? ⟨R,2,none⟩=false)
  (k1:0≤width) (k2:width≤30) (k3:p≤(n:Int)) (k4:width≤p) :
  Calls Tryz.prog 245 #[.pointer (some ⟨R,0,none⟩),.int .i64 width] w fun e w'=>
   e=.returned (.tuple #[.int .i64 (v / 2 ^ (p-width).toNat % 2 ^ width.toNat:Nat),.nilIface])∧∃ m,w'=(w.drewN m).setCell ⟨R,2,none⟩ (.int .i64 (p-width)):=by
 have hd:Hid (decide (0≤width∧width≤30)=true):=by simp [Hid];omega
 have hp:decide ((n:Int)<p)=false:=by simpa using k3
 have HZ:Hid (zs=enc n v):=hz
 clear hz
 go_enter Tryz.func245,Tryz.ntmps245
 go_wp2_with fail
 refine (widthOk_any width _).mono ?_
 rintro e w1 ⟨rfl,rfl⟩
 rw [hd.out]
 go_wp2_with fail
 go_quiet (fail)
 go_wp2_with fail
 refine (number_any R a cap zs n p (p-width) width n v _ (hb _ _) HZ.out hn (by rw [World.cell?_setCell_other _ _ _ _ (by simp)];exact c0) (by omega) k1 k2 (by omega)).mono ?_
 rintro e w2 ⟨rfl,rfl⟩
 go_wp2
 go_ret2
 exact ⟨rfl,_,rfl⟩
theorem RD.backY {w0 w:World} {B R:Nat} {a:Option Addr} {zs:List Int} {cap n p:Nat} (h:RD w B R a zs.length cap n p) (v:Nat) (width:Nat) (hn:n≤4104) (hb:Byt w0 a zs) (hB:w0.heap.size=B) (hbel:Below B w0 w) (hz:zs=enc n v) (k2:width≤30) (k3:p≤n) (k4:width≤p) :
  Calls Tryz.prog 245 #[.pointer (some ⟨R,0,none⟩),.int .i64 (width:Int)] w fun e w'=>
   e=.returned (.tuple #[.int .i64 (v / 2 ^ (p-width) % 2 ^ width:Nat),.nilIface])∧RD w' B R a zs.length cap n (p-width)∧Only (fun k=>k=R) w w'∧Below B w0 w':=by
 have hby:∀ m x,Byt ((w.drewN m).setCell ⟨R,2,none⟩ x) a zs:=fun m x=>hb.below ((show Below B w0 (w.drewN m) from ⟨hbel.os,hbel.tape,hbel.output,hbel.size,hbel.block⟩).setCell (p:=⟨R,2,none⟩) h.2.1 x) (by rw [hB];exact Nat.le_refl _)
 refine (back_yes R a cap zs n v p width w hn hby hz (cellRR (j:=0) h.1 rfl) (cellRR (j:=1) h.1 rfl) (cellRR (j:=2) h.1 rfl) (h.frz 2) (by omega) (by omega) (by omega) (by omega)).mono ?_
 rintro e w' ⟨rfl,m,rfl⟩
 have hR:(w.drewN m).heap[R]?=some (.cells #[.slice a zs.length cap,.int .i64 n,.int .i64 p] 261 (0,0)):=h.1
 have hO:Only (fun k=>k=R) w ((w.drewN m).setCell ⟨R,2,none⟩ (.int .i64 ((p:Int)-width))):=by
  have h0:Only (fun k=>k=R) w (w.drewN m):=Only.ofBelow (S:=fun k=>k=R) (B:=w.heap.size) ⟨rfl,rfl,rfl,Nat.le_refl _,fun _ _=>rfl⟩ nl
  exact Only.setCell h0 (p:=⟨R,2,none⟩) (.inl rfl) _
 refine ⟨by rw [show ((p:Int)-(width:Int)).toNat=p-width from by omega,Int.toNat_natCast],⟨?_,h.2.1,Nat.le_trans h.2.2 hO.size⟩,hO,hbel.trans (hO.below h.2.2 (fun k hk=>by rw [hk];exact h.2.1))⟩
 rw [heap_setCell_same _ R 2 _ _ _ hR]
 have e:((p:Int)-(width:Int))=((p-width:Nat):Int):=by omega
 rw [e]
 simp
theorem RD.backN {w:World} {B R:Nat} {a:Option Addr} {zs:List Int} {cap n p:Nat} (h:RD w B R a zs.length cap n p) (width:Nat) (hn:n≤4104) (hp:p≤4104) (s0:Sent w 17) (s2:Sent w 18) (k4:p<width) :
  Calls Tryz.prog 245 #[.pointer (some ⟨R,0,none⟩),.int .i64 (width:Int)] w fun e w'=>(∃ T x,e=.returned (.tuple #[.int .i64 0,.iface T x]))∧∃ m,w'=w.drewN m:=
 back_no R a cap zs n p width w hn (by omega) (cellRR (j:=0) h.1 rfl) (cellRR (j:=1) h.1 rfl) (cellRR (j:=2) h.1 rfl) s0 s2 (by omega)
theorem backText_short (R g B:Nat) (x:Option Addr) (cx:Nat) (zs:List Int) (N n:Nat) (w0 w:World) (hbel:Below B w0 w) (hN:N<6) (hRD:RD w B R x zs.length cx N N) (s0:Sent w0 17) (s1:Sent w0 18) (hG:17<B∧18<B) :
  Calls Tryz.prog 240 #[.pointer (some ⟨R,0,none⟩),.pointer (some ⟨g,0,none⟩),.int .i64 n] w fun e w'=>Only (fun k=>k=R) w w'∧∃ T' y,e=.returned (.tuple #[.slice none 0 0,.int .i64 0,.iface T' y]):=by
 have S0:Sent w 17:=s0.below hbel hG.1
 have S1:Sent w 18:=s1.below hbel hG.2
 have HB:=hRD.backN 6 (by omega) (by omega) S0 S1 hN
 go_enter Tryz.func240,Tryz.ntmps240
 go_wp2_with fail
 refine HB.mono ?_
 clear HB
 rintro e w1 ⟨⟨T',y,rfl⟩,m,rfl⟩
 go_wp2
 exact bodyPost_ret (v:=.tuple #[.slice none 0 0,.int .i64 0,.iface T' y]) (by simp [results,Tryz.results240,go_sem]) rfl ⟨(Only.refl _ _).drewN m,T',y,rfl⟩
theorem backText_long (R g B:Nat) (x:Option Addr) (cx:Nat) (zs:List Int) (E N v n:Nat) (T:List Int) (L:Nat) (w0 w:World) (hx:Byt w0 x zs) (hB:w0.heap.size=B) (hbel:Below B w0 w) (hz:zs=enc N v) (hN:N≤4096) (hn:n≤300) (hNE:N=E+6) (hGd:Gd T L) (hL:L≤80) (hRD:RD w B R x zs.length cx N N) (hT:w.heap[g]?=some (.cells (cel T) 319 (0,0))) (hgR:g≠R) (s0:Sent w0 17) (s1:Sent w0 18) (hG:17<B∧18<B) :
  Calls Tryz.prog 240 #[.pointer (some ⟨R,0,none⟩),.pointer (some ⟨g,0,none⟩),.int .i64 n] w fun e w'=>Only (fun k=>k=R) w w' ∧
   ((sg T v E n = none ∧ ∃ T' y, e = .returned (.tuple #[.slice none 0 0, .int .i64 0, .iface T' y])) ∨
    (∃ st en gq,sg T v E n=some (st,en)∧e=.returned (.tuple #[.slice (some ⟨gq,0,none⟩) n n,.int .i64 (st:Nat),.nilIface])∧OwI w' w.heap.size gq n (so T v E n)∧RD w' B R x zs.length cx N en)):=by
 obtain ⟨i0,hi,hz0,hz1,hz2⟩:=info_parts Tryz.infoI64
 have HPK:Hid (zs=enc N v∧w0.heap.size=B∧N=E+6∧T.length=192):=⟨hz,hB,hNE,hGd.len⟩
 have HTB:Hid (w.heap[g]?=some (.cells (cel T) 319 (0,0))∧g<w.heap.size):=⟨hT,(Array.getElem?_eq_some_iff.1 hT).1⟩
 have HRL:Hid (R<w.heap.size∧B≤R):=⟨(Array.getElem?_eq_some_iff.1 hRD.1).1,hRD.2.1⟩
 have HBK:=hRD.backY v 6 (by omega) hx hB hbel hz (by omega) nl (by omega)
 have HX:Hid (Byt w0 x zs):=hx
 have HGD:Hid (Gd T L):=hGd
 rw [show N-6=E from by omega,show 2 ^ 6=64 from rfl] at HBK
 have HSN:Hid (Sent w0 17∧Sent w0 18):=⟨s0,s1⟩
 have hE:E≤4096:=by omega
 clear hz hB hNE hT hRD hx hGd s0 s1 hbel
 go_enter Tryz.func240,Tryz.ntmps240
 go_wp2_with fail
 refine HBK.mono ?_
 clear HBK
 rintro e w1 ⟨rfl,hrd1,hon1,hbel1⟩
 have HR1:Hid (RD w1 B R x zs.length cx N E∧Only (fun k=>k=R) w w1∧Below B w0 w1):=⟨hrd1,hon1,hbel1⟩
 have hs1:=hon1.size
 clear hrd1 hon1 hbel1
 go_wp2_with (at_make;refine wpList_make_full _ rfl _ _ 29 rfl w1.heap.size 3 i0 (.int .i64 0) 1 Tryz.underlying29 hi hz0 hz1 .i64 .i64 _ _ n rfl rfl rfl rfl (by rw [hz2];omega) (by unfold maxLen;omega) nl ?_;intro w5 hown hgrow)
 have hbw:Below w1.heap.size w1 w5:=(Below.refl _ _).grown hgrow nl (by intro k hk;cases hk)
 have H0:Hid (OwI w5 w1.heap.size w1.heap.size n ([]++List.replicate n 0)):=by
  rw [List.nil_append]
  refine ⟨?_,by intro z hz;simp at hz;omega⟩
  rw [made_zeroI] at hown
  simpa using hown
 have HR5:Hid (RD w5 B R x zs.length cx N E∧Only (fun k=>k=R) w w5∧Below B w0 w5):=
  ⟨HR1.out.1.only (Only.ofBelow (S:=fun _=>False) hbw nl) (by simp),HR1.out.2.1.trans (Only.ofBelow hbw nl),HR1.out.2.2.trans (hbw.mono HR1.out.1.2.2)⟩
 have HGQ:Hid (w.heap.size≤w1.heap.size):=hs1
 clear HR1 hbw hown hgrow hs1 hi hz0 hz1 hz2
 generalize w1.heap.size=gq at *
 go_loopw [9,28] (fun s i wr=>∃ (k st en:Nat),k≤n∧i=.int .i64 k∧s=.int .i64 st∧sg T v E k=some (st,en)∧OwI wr gq gq n (so T v E k++List.replicate (n-k) 0)∧RD wr B R x zs.length cx N en∧Only (fun k=>k=R) w wr∧Below B w0 wr) (fun _ i _=>n-(intOf i).toNat)
 case atStart=>exact ⟨0,v / 2 ^ E % 64,E,Nat.zero_le _,rfl,by simp,rfl,H0.out,HR5.out.1,HR5.out.2.1,HR5.out.2.2⟩
 case round=>
  clear H0 HR5
  obtain ⟨k,st,en,hk,rfl,rfl,hsg,hown,hrd,hon,hbel⟩:=hrel
  obtain ⟨hst,hen⟩:=sg_rng HGD.out v E k st en hsg
  have HW:Hid (sg T v E k=some (st,en)∧OwI wr gq gq n (so T v E k++List.replicate (n-k) 0)∧RD wr B R x zs.length cx N en∧Only (fun k=>k=R) w wr∧Below B w0 wr):=⟨hsg,hown,hrd,hon,hbel⟩
  have HQL:Hid ((so T v E k).length=k∧True):=⟨so_len _ _ _ _,trivial⟩
  have hgl:=hown.lt.2
  clear hsg hown hrd hon hbel
  by_cases hlt:k<n
  ·obtain ⟨sy,b,z,e1,e2,e3,hsy,hb6,hz64⟩:=HGD.out.cell st hst
   have hTb:wr.heap[g]?=some (.cells (cel T) 319 (0,0)):=(HW.out.2.2.2.1.block g HTB.out.2 hgR).trans HTB.out.1
   have t0:=arr_cell (tb:=T) hTb (st*3) (by rw [HPK.out.2.2.2];omega)
   have t1:=arr_cell (tb:=T) hTb (st*3+1) (by rw [HPK.out.2.2.2];omega)
   have t2:=arr_cell (tb:=T) hTb (st*3+2) (by rw [HPK.out.2.2.2];omega)
   rw [e1] at t0
   rw [e2] at t1
   rw [e3] at t2
   have HCB:Hid (cB T st=b∧cZ T st=z∧T.getD (st*3) 0=(sy:Int)):=⟨by unfold cB;rw [e2,Int.toNat_natCast],by unfold cZ;rw [e3,Int.toNat_natCast],e1⟩
   have hpz:=Nat.pow_pos (n:=b) (show 0<2 by omega)
   have hz63:(z:Int)≤64:=by omega
   have HV:Hid (v / 2 ^ (en-b) % 2 ^ b<64):=by
    have h1:v / 2 ^ (en-b) % 2 ^ b<2 ^ b:=Nat.mod_lt _ (Nat.pow_pos (by omega))
    unfold Hid
    omega
   clear hTb e1 e2 e3 hz64 hpz
   have HRA:Hid (RD (wr.alloc (Obj.cells #[.int .i64 sy,.int .i64 b,.int .i64 z] 247)) B R x zs.length cx N en∧Only (fun k=>k=R) w (wr.alloc (Obj.cells #[.int .i64 sy,.int .i64 b,.int .i64 z] 247))∧Below B w0 (wr.alloc (Obj.cells #[.int .i64 sy,.int .i64 b,.int .i64 z] 247))∧OwI (wr.alloc (Obj.cells #[.int .i64 sy,.int .i64 b,.int .i64 z] 247)) gq gq n (so T v E k++List.replicate (n-k) 0)):=
    ⟨HW.out.2.2.1.only (Only.alloc (Only.refl (fun _=>False) _) _) (by simp),HW.out.2.2.2.1.alloc _,HW.out.2.2.2.2.alloc HW.out.2.2.1.2.2 _,HW.out.2.1.alloc _⟩
   have HRb:Hid (R<wr.heap.size):=(Array.getElem?_eq_some_iff.1 HW.out.2.2.1.1).1
   by_cases hbe:en<b
   ·have HNO:Hid (sg T v E n=none∧True):=⟨sg_none (sg_stop HW.out.1 (by rw [HCB.out.1];exact hbe)) n (by omega),trivial⟩
    have HBK:=HRA.out.1.backN b (by omega) (by omega) (HSN.out.1.below HRA.out.2.2.1 hG.1) (HSN.out.2.below HRA.out.2.2.1 hG.2) hbe
    have HOA:Hid (Only (fun k=>k=R) w (wr.alloc (Obj.cells #[.int .i64 sy,.int .i64 b,.int .i64 z] 247))∧True):=⟨HRA.out.2.1,trivial⟩
    clear HW HRA
    go_wp2_with fail
    refine HBK.mono ?_
    clear HBK
    rintro e w6 ⟨⟨T',y,rfl⟩,m,rfl⟩
    go_wp2
    exact bodyPost_ret (v:=.tuple #[.slice none 0 0,.int .i64 0,.iface T' y]) (by simp [results,Tryz.results240,go_sem]) rfl ⟨HOA.out.1.drewN m,.inl ⟨HNO.out.1,T',y,rfl⟩⟩
   ·have HSG2:Hid (sg T v E (k+1)=some (z+v / 2 ^ (en-b) % 2 ^ b,en-b)∧so T v E (k+1)=so T v E k++[(sy:Int)]):=by
     have h1:=sg_step HW.out.1 (show ¬en<cB T st by rw [HCB.out.1];exact hbe)
     have h2:=so_step HW.out.1
     rw [HCB.out.1,HCB.out.2.1] at h1
     rw [HCB.out.2.2] at h2
     exact ⟨h1,h2⟩
    have HBK:=HRA.out.1.backY v b (by omega) HX.out HPK.out.2.1 HRA.out.2.2.1 HPK.out.1 (by omega) (by have:=HPK.out.2.2.1;omega) (by omega)
    obtain ⟨Xn,hXn⟩:∃ Xn,Xn=v / 2 ^ (en-b) % 2 ^ b:=⟨_,rfl⟩
    rw [←hXn] at HSG2 HV HBK
    have hX64:(Xn:Int)<64:=by have:=HV.out;omega
    have HCC:Hid ((wr.alloc (Obj.cells #[.int .i64 sy,.int .i64 b,.int .i64 z] 247)).cell? ⟨wr.heap.size,0,none⟩=some (.int .i64 sy)∧(wr.alloc (Obj.cells #[.int .i64 sy,.int .i64 b,.int .i64 z] 247)).cell? ⟨wr.heap.size,2,none⟩=some (.int .i64 z)∧wr.heap.size<(wr.alloc (Obj.cells #[.int .i64 sy,.int .i64 b,.int .i64 z] 247)).heap.size):=⟨by simp,by simp,by simp⟩
    clear hXn HV HW
    go_wp2_with fail
    refine HBK.mono ?_
    clear HBK t0 t1 t2
    rintro e w6 ⟨rfl,hrd6,hon6,hbel6⟩
    have q0:w6.cell? ⟨wr.heap.size,0,none⟩=some (.int .i64 sy):=hon6.cell HCC.out.2.2 (by have:=HRb.out;omega) HCC.out.1
    have q2:w6.cell? ⟨wr.heap.size,2,none⟩=some (.int .i64 z):=hon6.cell HCC.out.2.2 (by have:=HRb.out;omega) HCC.out.2.1
    have ho6:OwI w6 gq gq n (so T v E k++List.replicate (n-k) 0):=HRA.out.2.2.2.only hon6 (by have:=HRL.out;have:=HGQ.out;omega)
    have hll:(so T v E k++List.replicate (n-k) 0).length=n:=by rw [List.length_append,List.length_replicate,HQL.out.1];omega
    have hdst:=ho6.cell k (by rw [hll];exact hlt)
    have hfz:=ho6.frozen k
    have hset:(so T v E k++List.replicate (n-k) (0:Int)).set k (sy:Int)=so T v E (k+1)++List.replicate (n-(k+1)) 0:=by
     rw [HSG2.out.2,List.set_append_right _ _ (by rw [HQL.out.1];exact Nat.le_refl _),HQL.out.1,Nat.sub_self,show n-k=(n-(k+1))+1 from by omega,List.replicate_succ,List.set_cons_zero,List.append_assoc]
     rfl
    have hR7:=ho6.store k (sy:Int) (by omega)
    rw [hset] at hR7
    have HF:Hid (OwI (w6.setCell ⟨gq,k,none⟩ (.int .i64 (sy:Int))) gq gq n (so T v E (k+1)++List.replicate (n-(k+1)) 0)∧RD (w6.setCell ⟨gq,k,none⟩ (.int .i64 (sy:Int))) B R x zs.length cx N (en-b)∧Only (fun k=>k=R) w (w6.setCell ⟨gq,k,none⟩ (.int .i64 (sy:Int)))∧Below B w0 (w6.setCell ⟨gq,k,none⟩ (.int .i64 (sy:Int)))):=by
     have hgR2:gq≠R:=by have:=HRL.out;have:=HGQ.out;omega
     refine ⟨hR7,hrd6.only (Only.setCell (Only.refl (fun b=>b=gq) w6) (p:=⟨gq,k,none⟩) (.inl rfl) _) hgR2.symm,(HRA.out.2.1.trans hon6).setCell (.inr HGQ.out) _,hbel6.setCell (p:=⟨gq,k,none⟩) (by have:=HRL.out;have:=HGQ.out;simp;omega) _⟩
    clear hR7 hset hll hrd6 hon6 hbel6 ho6 HRA HCC
    generalize (so T v E k++List.replicate (n-k) 0).getD k 0=old at *
    generalize wr.heap.size=cb at *
    go_wp2
    go_roundw
    case rel=>exact ⟨k+1,z+Xn,en-b,by omega,by go_num,by go_num,HSG2.out.1,HF.out.1,HF.out.2.1,HF.out.2.2.1,HF.out.2.2.2⟩
    case measure=>simp [intOf];omega
  ·have hkn:k=n:=by omega
   subst hkn
   have HFI:Hid (OwI wr w.heap.size gq k (so T v E k)):=by
    have:=HW.out.2.1
    rw [Nat.sub_self] at this
    simp only [List.replicate_zero,List.append_nil] at this
    exact this.mono HGQ.out
   go_wp2
   refine bodyPost_ret (v:=.tuple #[.slice (some ⟨gq,0,none⟩) k k,.int .i64 (st:Nat),.nilIface]) (by simp [results,Tryz.results240,go_sem]) rfl ?_
   exact ⟨HW.out.2.2.2.1,.inr ⟨st,en,gq,HW.out.1,rfl,HFI.out,HW.out.2.2.1⟩⟩
end Go.Proofs.YtaibkchbkedjnaaGreatDoor
