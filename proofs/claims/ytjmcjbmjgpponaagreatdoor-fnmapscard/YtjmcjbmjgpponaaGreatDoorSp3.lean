import Derived.Test.YtjmcjbmjgpponaaGreatDoorHPut2M
import Derived.Deep.RegionWith
import Derived.RangeFuncNested
import Derived.RangeFuncBound
import Derived.RangeFuncCalls
import Derived.RangeFuncLeaves
import Derived.RangeFuncFrom
import Derived.Shelf.Abstract
import Derived.Shelf.RegionOpen
import Derived.OwnWalkIn
import Derived.TacticsInMore
import Derived.LoopNIn
import Derived.LoopIn
import Derived.Deep.MidRow
set_option maxRecDepth 20000
set_option maxHeartbeats 16000000
namespace Go.Proofs.YtjmcjbmjgpponaaGreatDoor
open Go.RowKit
set_option linter.unusedVariables false
theorem SI.cells {w:World} {B R n V:Nat} (h:SI w B R n V):∃ a' cp,w.cell? ⟨R,0,none⟩=some (.slice a' (enc n V).length cp)/\w.cell? ⟨R,1,none⟩=some (.int .i64 n)/\Mine w B w.heap.size a' cp (enc n V):=by
 obtain ⟨v,hR,hv,_⟩:=h;obtain ⟨a',cp,rfl,hm⟩:=hv.mine;exact ⟨a',cp,zm (j:=0) hR rfl,zm (j:=1) hR rfl,hm⟩
theorem zkp {w3:World} {B C g:Nat} {a':Option Addr} {cp:Nat} {ys:List Int} (v0 v1:Value) (hm:Mine w3 C w3.heap.size a' cp ys) (hg:g<C) (hB:B<=g) :
  Mine ((w3.setCell ⟨g,0,none⟩ v0).setCell ⟨g,1,none⟩ v1) B ((w3.setCell ⟨g,0,none⟩ v0).setCell ⟨g,1,none⟩ v1).heap.size a' cp ys:=by
 have hO3:Only (fun b=>b=g) w3 ((w3.setCell ⟨g,0,none⟩ v0).setCell ⟨g,1,none⟩ v1):=
  Only.setCell (Only.setCell (Only.refl (fun b=>b=g) w3) (p:=⟨g,0,none⟩) (.inl rfl) _) (p:=⟨g,1,none⟩) (.inl rfl) _
 exact ((hm.only hO3 (fun b h1 _=>by omega)).mono (by omega) (by simp [World.setCell]))
structure Ans (w W:World):Prop where
 r0:W.cell? ⟨w.heap.size,0,none⟩=some (.slice none 0 0)
 r1:W.cell? ⟨w.heap.size,1,none⟩=some (.int .i64 0)
 f0:W.frozen? ⟨w.heap.size,0,none⟩=false
 f1:W.frozen? ⟨w.heap.size,1,none⟩=false
 lt:w.heap.size<W.heap.size
 bel:Below w.heap.size w W
theorem Ans.new (w:World):Ans w (w.alloc (Obj.cells #[.slice none 0 0,.int .i64 0] 106)):=⟨by simp,by simp,by simp,by simp,by simp,(Below.refl _ _).alloc nl _⟩
theorem Ans.step {w W W':World} {B:Nat} (h:Ans w W) (hb:Below B W W') (hB:w.heap.size<B):Ans w W':=
 ⟨keep hb hB h.r0,keep hb hB h.r1,(hb.frozen (p:=⟨w.heap.size,0,none⟩) hB).trans h.f0,(hb.frozen (p:=⟨w.heap.size,1,none⟩) hB).trans h.f1,Nat.lt_of_lt_of_le h.lt hb.size,h.bel.trans (hb.mono (Nat.le_of_lt hB))⟩
theorem z6h {zs:List Int} (h:zv zs=true):1<=zs.length/\zs.length<=80/\∀ z ∈ zs,0<=z/\z<=12:=by
 simp only [zv,decide_eq_true_eq] at h
 exact ⟨h.1,h.2.1,h.2.2.1⟩
def znd (ls ts:List Int):Prop:=∀ k,k<ts.length->ls.getD (ts.getD k 0).toNat 0≠0
abbrev zr4 (ls:List Int):List Int:=(zh ls (sbL ls 12)).2.2
structure zqv (w:World):Prop where
 s0:Sent w 16
 hG:16<w.heap.size
def fl :Nat->List Int->List Int
 | _,[]=>[]
 | i,z :: zs=>List.replicate z.toNat (i:Int)++fl (i+1) zs
theorem zeb {zs:List Int} (h:∀ z ∈ zs,0<=z) (j:Nat):0<=(zs.take j).sum:=by
 induction zs generalizing j with
 | nil=>simp
 | cons z zs ih=>
  cases j with
  | zero=>simp
  | succ j=>
   have h1:=h z (by simp)
   have h2:=ih (fun y hy=>h y (by simp [hy])) j
   simp only [List.take_succ_cons,List.sum_cons]
   omega
theorem zn8 (zs:List Int):∀ (i j k:Nat),(∀ z ∈ zs,0<=z)->j<zs.length->(k:Int)<zs.getD j 0->(fl i zs).getD ((zs.take j).sum.toNat+k) 0=((i+j:Nat):Int):=by
 induction zs with
 | nil=>intro i j k _ hj;simp at hj
 | cons z zs ih=>
  intro i j k h hj hk
  cases j with
  | zero=>
   simp only [List.getD_cons_zero] at hk
   simp only [fl,List.take_zero,List.sum_nil,Int.toNat_zero,Nat.zero_add,Nat.add_zero]
   rw [List.getD_eq_getElem?_getD,List.getElem?_append_left (by rw [List.length_replicate];omega),List.getElem?_replicate,if_pos (by omega)]
   rfl
  | succ j=>
   have h1:=h z (by simp)
   have h2:=zeb (fun y hy=>h y (by simp [hy])) j (zs:=zs)
   have:=ih (i+1) j k (fun y hy=>h y (by simp [hy])) (by simpa using hj) (by simpa using hk)
   simp only [fl,List.take_succ_cons,List.sum_cons]
   rw [List.getD_eq_getElem?_getD,List.getElem?_append_right (by rw [List.length_replicate];omega),List.length_replicate,<-List.getD_eq_getElem?_getD,show (z+(zs.take j).sum).toNat+k-z.toNat=(zs.take j).sum.toNat+k from by omega,this]
   congr 1
   omega
def pl (F:List Int) (ps:List Nat):List Int:=ps.zipIdx.foldl (fun r pj=>r.set pj.1 (F.getD pj.2 0)) (List.replicate 64 0)
theorem zad (F:List Int) (ps:List Nat) (x:Nat):pl F (ps++[x])=(pl F ps).set x (F.getD ps.length 0):=by
 unfold pl;rw [List.zipIdx_append,List.foldl_append]
 simp
theorem z1r (F:List Int) (ps:List Nat):(pl F ps).length=64:=by
 unfold pl;generalize ps.zipIdx=l;have:∀ (l:List (Nat × Nat)) (r:List Int),r.length=64->(l.foldl (fun r pj=>r.set pj.1 (F.getD pj.2 0)) r).length=64:=by
  intro l
  induction l with
  | nil=>intro r h;simpa using h
  | cons p l ih=>intro r h;simp only [List.foldl_cons];exact ih _ (by rw [List.length_set];exact h)
 exact this l _ (by simp)
def plc (m:Nat):List Nat:=(List.range m).map fun j=>43*j % 64
theorem z8j (m:Nat):plc (m+1)=plc m++[43*m % 64]:=by simp [plc,List.range_succ]
theorem z9t (m:Nat):(plc m).length=m:=by simp [plc]
theorem zit {w:World} {B g n:Nat} (hown:w.ownsRow B 3 1 (.slice (some ⟨g,0,none⟩) n n) n (madeCells (Value.int .i64 0).cells (n*1)).toList):OwI w B g n (List.replicate n 0):=by
 refine ⟨?_,by intro z hz;simp at hz;omega⟩
 rw [z0n] at hown
 simpa using hown
theorem zi8 (zs:List Int):∀ i,∀ z ∈ fl i zs,∃ j,j<zs.length/\z=((i+j:Nat):Int)/\0<zs.getD j 0:=by
 induction zs with
 | nil=>intro i z hz;simp [fl] at hz
 | cons y zs ih=>
  intro i z hz
  simp only [fl,List.mem_append,List.mem_replicate] at hz
  rcases hz with ⟨h,rfl⟩ | hz
  ·exact ⟨0,by simp,by simp,by simp;omega⟩
  ·obtain ⟨j,h1,h2,h3⟩:=ih (i+1) z hz
   exact ⟨j+1,by simpa using h1,by rw [h2];congr 1;omega,by simpa using h3⟩
theorem zkb (zs:List Int):∀ i,(∀ z ∈ zs,0<=z)->((fl i zs).length:Int)=zs.sum:=by
 induction zs with
 | nil=>intro i _;simp [fl]
 | cons y zs ih=>
  intro i h
  have h1:=h y (by simp)
  have h2:=ih (i+1) (fun z hz=>h z (by simp [hz]))
  simp only [fl,List.length_append,List.length_replicate,List.sum_cons]
  omega
theorem zjy (F:List Int):∀ m,m<=64->∀ p,p<64->(pl F (plc m)).getD p 0=if 3*p % 64<m then F.getD (3*p % 64) 0 else 0:=by
 intro m
 induction m with
 | zero=>
  intro _ p hp
  rw [if_neg (by omega)]
  show (List.replicate 64 (0:Int)).getD p 0=0
  rw [List.getD_eq_getElem?_getD,List.getElem?_replicate,if_pos hp]
  rfl
 | succ m ih=>
  intro hm p hp
  rw [z8j,zad,z9t]
  by_cases he:43*m % 64=p
  ·have h3:3*p % 64=m:=by omega
   rw [List.getD_eq_getElem?_getD,he,List.getElem?_set_self (by rw [z1r];exact hp),h3,if_pos (by omega)]
   rfl
  ·have h3:3*p % 64≠m:=by omega
   rw [List.getD_eq_getElem?_getD,List.getElem?_set_ne he,<-List.getD_eq_getElem?_getD,ih (by omega) p hp]
   by_cases hl:3*p % 64<m
   ·rw [if_pos hl,if_pos (by omega)]
   ·rw [if_neg hl,if_neg (by omega)]
theorem z4m {zs:List Int} (hn:zk zs=true) (p:Nat) (hp:p<64):∃ s:Nat,(pl (fl 0 zs) (plc 64)).getD p 0=(s:Int)/\s<zs.length/\0<zs.getD s 0/\zs.getD s 0<=64:=by
 have hnn:(∀ z ∈ zs,0<=z)/\zs.sum=64:=by
  have h:=hn
  simp only [zk,decide_eq_true_eq] at h
  exact ⟨fun z hz=>(h.2.2.1 z hz).1,h.2.2.2⟩
 have hl:=zkb zs 0 hnn.1;rw [hnn.2] at hl;rw [zjy _ 64 nl p hp,if_pos (by omega),List.getD_eq_getElem?_getD,List.getElem?_eq_getElem (by omega)]
 obtain ⟨j,h1,h2,h3⟩:=zi8 zs 0 _ (List.getElem_mem (show 3*p % 64<(fl 0 zs).length by omega))
 refine ⟨j,by simpa using h2,h1,h3,(z1i hn j h1).2⟩
def nx (SP zs:List Int):Nat->List Int
 | 0=>zs
 | i+1=>(nx SP zs i).set (SP.getD i 0).toNat ((nx SP zs i).getD (SP.getD i 0).toNat 0+1)
theorem z94 (SP zs:List Int) (i:Nat):(nx SP zs i).length=zs.length:=by
 induction i with
 | zero=>rfl
 | succ i ih=>rw [nx,List.length_set,ih]
theorem z69 (SP zs:List Int) (i j:Nat):zs.getD j 0<=(nx SP zs i).getD j 0/\(nx SP zs i).getD j 0<=zs.getD j 0+i:=by
 induction i with
 | zero=>simp [nx]
 | succ i ih=>
  rw [nx]
  by_cases hj:(SP.getD i 0).toNat=j
  ·rw [hj]
   by_cases hl:j<(nx SP zs i).length
   ·rw [List.getD_eq_getElem?_getD (l:=(nx SP zs i).set _ _),List.getElem?_set_self hl]
    simp only [Option.getD_some]
    omega
   ·rw [List.set_eq_of_length_le (by omega)]
    omega
  ·rw [List.getD_eq_getElem?_getD (l:=(nx SP zs i).set _ _),List.getElem?_set_ne hj,<-List.getD_eq_getElem?_getD]
   omega
def wd (x:Nat):Nat:=6-Nat.log2 x
theorem z68 {x:Nat} (h1:1<=x) (h2:x<=127):wd x<=6/\64<=x*2 ^ wd x/\x*2 ^ wd x<128:=by
 unfold wd;have hl:=Nat.log2_self_le (n:=x) (by omega)
 have hu:=Nat.lt_log2_self (n:=x);have h6:Nat.log2 x<7:=(Nat.log2_lt (by omega)).2 (by omega)
 have e:2 ^ Nat.log2 x*2 ^ (6-Nat.log2 x)=64:=by rw [<-Nat.pow_add,show Nat.log2 x+(6-Nat.log2 x)=6 from by omega]
 have e2:2 ^ (Nat.log2 x+1)*2 ^ (6-Nat.log2 x)=128:=by rw [<-Nat.pow_add,show Nat.log2 x+1+(6-Nat.log2 x)=7 from by omega]
 have hp:0<2 ^ (6-Nat.log2 x):=Nat.pow_pos (by omega)
 refine ⟨by omega,?_,?_⟩
 ·rw [<-e];exact Nat.mul_le_mul_right _ hl
 ·rw [<-e2];exact Nat.mul_lt_mul_of_pos_right hu hp
theorem zl7 {x b:Nat} (h1:1<=x) (h2:x<=127) (hb:b<wd x):x*2 ^ b<64:=by
 unfold wd at hb;have hu:=Nat.lt_log2_self (n:=x);have e2:2 ^ (Nat.log2 x+1)*2 ^ b<=64:=by
  rw [<-Nat.pow_add];exact Nat.le_trans (Nat.pow_le_pow_right (by omega) (show Nat.log2 x+1+b<=6 by omega)) (by decide)
 exact Nat.lt_of_lt_of_le (Nat.mul_lt_mul_of_pos_right hu (Nat.pow_pos (by omega))) e2
def tb (SP zs:List Int):Nat->List Int
 | 0=>[]
 | i+1=>tb SP zs i++[SP.getD i 0,(wd ((nx SP zs i).getD (SP.getD i 0).toNat 0).toNat:Nat),(((nx SP zs i).getD (SP.getD i 0).toNat 0).toNat*2 ^ wd ((nx SP zs i).getD (SP.getD i 0).toNat 0).toNat:Nat)-64]
theorem z4c (SP zs:List Int) (i:Nat):(tb SP zs i).length=i*3:=by
 induction i with
 | zero=>rfl
 | succ i ih=>rw [tb,List.length_append,ih];simp;omega
theorem zi5 (X j:Nat) (hX:X<=127) (hj:j<=6):wrap64 ((X:Int)*2 ^ j)=((X*2 ^ j:Nat):Int):=by
 have h1:X*2 ^ j<=127*2 ^ 6:=Nat.mul_le_mul hX (Nat.pow_le_pow_right (by omega) hj)
 have e:((X:Int)*2 ^ j)=((X*2 ^ j:Nat):Int):=by simp
 rw [e];exact IntWalk.wrap64_in _ (by omega)
theorem zd4 {zs:List Int} (hn:zk zs=true):∀ k,k<=64->∀ z ∈ tb (pl (fl 0 zs) (plc 64)) zs k,-64<=z/\z<=127:=by
 intro k
 induction k with
 | zero=>intro _ z hz;simp [tb] at hz
 | succ k ih=>
  intro hk z hz
  obtain ⟨s,hs,hsl,hzp,hz64⟩:=z4m hn k (by omega)
  have hbd:=z0p hn;have hbn:=z69 (pl (fl 0 zs) (plc 64)) zs k s;rw [tb,hs,Int.toNat_natCast] at hz
  simp only [List.mem_append,List.mem_cons,List.not_mem_nil,or_false] at hz
  obtain ⟨X,hX⟩:=Int.eq_ofNat_of_zero_le (show 0<=(nx (pl (fl 0 zs) (plc 64)) zs k).getD s 0 by omega)
  rw [hX,Int.toNat_natCast] at hz;have hw:=z68 (x:=X) (by omega) (by omega)
  rcases hz with hz | rfl | rfl | rfl
  ·exact ih (by omega) z hz
  ·omega
  ·omega
  ·omega
def cX (SP zs:List Int) (p:Nat):Nat:=((nx SP zs p).getD (SP.getD p 0).toNat 0).toNat
theorem zoy (SP zs:List Int) (n p j:Nat) (hp:p<n) (hj:j<3):(tb SP zs (n+1)).getD (p*3+j) 0=(tb SP zs n).getD (p*3+j) 0:=by
 rw [tb,List.getD_eq_getElem?_getD,List.getElem?_append_left (by rw [z4c];omega),<-List.getD_eq_getElem?_getD]
theorem zps (SP zs:List Int) (n j:Nat):(tb SP zs (n+1)).getD (n*3+j) 0=[SP.getD n 0,(wd (cX SP zs n):Nat),(cX SP zs n*2 ^ wd (cX SP zs n):Nat)-64].getD j 0:=by
 rw [tb,List.getD_eq_getElem?_getD,List.getElem?_append_right (by rw [z4c];omega),z4c,Nat.add_sub_cancel_left,<-List.getD_eq_getElem?_getD]
 rfl
theorem z4f (SP zs:List Int) (p j:Nat) (hj:j<3):∀ n,p<n->(tb SP zs n).getD (p*3+j) 0=[SP.getD p 0,(wd (cX SP zs p):Nat),(cX SP zs p*2 ^ wd (cX SP zs p):Nat)-64].getD j 0:=by
 intro n
 induction n with
 | zero=>intro h;omega
 | succ n ih=>
  intro h
  by_cases he:p<n
  ·rw [zoy SP zs n p j he hj,ih he]
  ·obtain rfl:p=n:=by omega
   exact zps SP zs p j
structure Gd (T:List Int) (L:Nat):Prop where
 len:T.length=192
 cell:∀ p,p<64->∃ s b z:Nat,T.getD (p*3) 0=s/\T.getD (p*3+1) 0=b/\T.getD (p*3+2) 0=z/\s<L/\b<=6/\z+2 ^ b<=64
theorem zpc {x:Nat} (h1:1<=x) (h2:x<=127):(x+1)*2 ^ wd x<=128:=by
 unfold wd;have hu:=Nat.lt_log2_self (n:=x);have h6:Nat.log2 x<7:=(Nat.log2_lt (by omega)).2 (by omega)
 have e2:2 ^ (Nat.log2 x+1)*2 ^ (6-Nat.log2 x)=128:=by rw [<-Nat.pow_add,show Nat.log2 x+1+(6-Nat.log2 x)=7 from by omega]
 rw [<-e2];exact Nat.mul_le_mul_right _ hu
theorem z90 {zs:List Int} (hn:zk zs=true):Gd (tb (pl (fl 0 zs) (plc 64)) zs 64) zs.length:=by
 refine ⟨z4c _ _ _,fun p hp=>?_⟩
 obtain ⟨s,hs,hsl,hzp,hz64⟩:=z4m hn p hp;have hbn:=z69 (pl (fl 0 zs) (plc 64)) zs p s;have hX1:1<=cX (pl (fl 0 zs) (plc 64)) zs p:=by unfold cX;rw [hs,Int.toNat_natCast];omega
 have hX2:cX (pl (fl 0 zs) (plc 64)) zs p<=127:=by unfold cX;rw [hs,Int.toNat_natCast];omega
 have h0:=z4f (pl (fl 0 zs) (plc 64)) zs p 0 (by omega) 64 hp
 have h1:=z4f (pl (fl 0 zs) (plc 64)) zs p 1 (by omega) 64 hp
 have h2:=z4f (pl (fl 0 zs) (plc 64)) zs p 2 (by omega) 64 hp
 have hw:=z68 hX1 hX2;have ht:=zpc hX1 hX2;generalize cX (pl (fl 0 zs) (plc 64)) zs p=X at *;rw [Nat.add_mul,Nat.one_mul] at ht;exact ⟨s,wd X,X*2 ^ wd X-64,by rw [Nat.add_zero] at h0;rw [h0];simpa using hs,by rw [h1];rfl,by rw [h2];show ((X*2 ^ wd X:Nat):Int)-64=_;omega,hsl,hw.1,by omega⟩
def cB (T:List Int) (p:Nat):Nat:=(T.getD (p*3+1) 0).toNat
def cZ (T:List Int) (p:Nat):Nat:=(T.getD (p*3+2) 0).toNat
def sg (T:List Int) (v E:Nat):Nat->Option (Nat × Nat)
 | 0=>some (v / 2 ^ E % 64,E)
 | i+1=>match sg T v E i with
  | none=>none
  | some (st,en)=>if en<cB T st then none else some (cZ T st+v / 2 ^ (en-cB T st) % 2 ^ cB T st,en-cB T st)
def so (T:List Int) (v E:Nat):Nat->List Int
 | 0=>[]
 | i+1=>so T v E i++[match sg T v E i with | some (st,_)=>T.getD (st*3) 0 | none=>0]
theorem zdo (T:List Int) (v E i:Nat):(so T v E i).length=i:=by
 induction i with
 | zero=>rfl
 | succ i ih=>rw [so,List.length_append,ih];rfl
theorem zfr {T:List Int} {v E k:Nat} (h:sg T v E k=none):∀ n,k<=n->sg T v E n=none:=by
 intro n
 induction n with
 | zero => intro hk; obtain rfl : k = 0 := by omega
           exact h
 | succ n ih=>
  intro hk
  by_cases e:k=n+1
  ·subst e;exact h
  ·rw [sg,ih (by omega)]
theorem zdy {T:List Int} {L:Nat} (hT:Gd T L) (v E:Nat):∀ i st en,sg T v E i=some (st,en)->st<64/\en<=E:=by
 intro i
 induction i with
 | zero=>
  intro st en h
  simp only [sg,Option.some.injEq,Prod.mk.injEq] at h
  omega
 | succ i ih=>
  intro st en h
  rw [sg] at h
  cases hq:sg T v E i with
  | none=>rw [hq] at h;simp at h
  | some q=>
   obtain ⟨s0,e0⟩:=q;rw [hq] at h
   simp only at h
   obtain ⟨h1,h2⟩:=ih s0 e0 hq
   by_cases hl:e0<cB T s0
   ·rw [if_pos hl] at h;simp at h
   ·rw [if_neg hl] at h
    simp only [Option.some.injEq,Prod.mk.injEq] at h
    obtain ⟨s,b,z,k1,k2,k3,k4,k5,k6⟩:=hT.cell s0 h1;have hb:cB T s0=b:=by unfold cB;rw [k2,Int.toNat_natCast]
    have hz:cZ T s0=z:=by unfold cZ;rw [k3,Int.toNat_natCast]
    rw [hb,hz] at h;have:v / 2 ^ (e0-b) % 2 ^ b<2 ^ b:=Nat.mod_lt _ (Nat.pow_pos (by omega))
    omega
theorem zfj {T:List Int} {v E i st en:Nat} (h:sg T v E i=some (st,en)) (hl:¬en<cB T st):sg T v E (i+1)=some (cZ T st+v / 2 ^ (en-cB T st) % 2 ^ cB T st,en-cB T st):=by
 rw [sg,h]
 simp only
 rw [if_neg hl]
theorem zfq {T:List Int} {v E i st en:Nat} (h:sg T v E i=some (st,en)) (hl:en<cB T st):sg T v E (i+1)=none:=by
 rw [sg,h]
 simp only
 rw [if_pos hl]
theorem zfg {T:List Int} {v E i st en:Nat} (h:sg T v E i=some (st,en)):so T v E (i+1)=so T v E i++[T.getD (st*3) 0]:=by
 rw [so,h]
def fgB (T:List Int) (v N n:Nat):Bool:=decide (6<=N/\sg T v (N-6) n=some (0,0))
theorem zky (zs:List Int):∀ (i j:Nat),j<zs.length->(fl i zs).count (((i+j:Nat)):Int)=(zs.getD j 0).toNat:=by
 induction zs with
 | nil=>intro i j h;simp at h
 | cons y zs ih=>
  intro i j h
  rw [fl,List.count_append,List.count_replicate]
  cases j with
  | zero=>
   have h0:(fl (i+1) zs).count (((i+0:Nat)):Int)=0:=by
    rw [List.count_eq_zero]
    intro hm
    obtain ⟨j,_,e,_⟩:=zi8 zs (i+1) _ hm
    omega
   rw [h0]
   simp
  | succ j=>
   have hne:((i:Int) == ((i+(j+1):Nat):Int))=false:=by simp;omega
   have h1:=ih (i+1) j (by simpa using h)
   rw [show i+1+j=i+(j+1) from by omega] at h1
   rw [hne,h1]
   simp
theorem perm3 :((List.range 64).map (fun p=>3*p % 64)).Perm (List.range 64):=by decide +kernel
theorem zo2 {zs:List Int} (hn:zk zs=true):(pl (fl 0 zs) (plc 64)).Perm (fl 0 zs):=by
 have hnn:(∀ z ∈ zs,0<=z)/\zs.sum=64:=by
  have h:=hn
  simp only [zk,decide_eq_true_eq] at h
  exact ⟨fun z hz=>(h.2.2.1 z hz).1,h.2.2.2⟩
 have hl:(fl 0 zs).length=64:=by have:=zkb zs 0 hnn.1;omega
 have e1:pl (fl 0 zs) (plc 64)=((List.range 64).map (fun p=>3*p % 64)).map (fun i=>(fl 0 zs).getD i 0):=by
  apply List.ext_getElem
  ·simp [z1r]
  ·intro p h1 h2
   have hp:p<64:=by rw [z1r] at h1;exact h1
   have:=zjy (fl 0 zs) 64 nl p hp;rw [if_pos (by omega),List.getD_eq_getElem?_getD,List.getElem?_eq_getElem h1] at this
   simpa using this
 have e2:fl 0 zs=(List.range 64).map (fun i=>(fl 0 zs).getD i 0):=by
  apply List.ext_getElem
  ·simp [hl]
  ·intro p h1 h2
   simp [List.getElem?_eq_getElem h1]
 rw [e1];exact (perm3.map _).trans (by rw [<-e2])
theorem zqj (SP zs:List Int) (hS:∀ i,i<SP.length->∃ s:Nat,SP.getD i 0=(s:Int)) (s:Nat) (hs:s<zs.length):∀ i,i<=SP.length->(nx SP zs i).getD s 0=zs.getD s 0+((SP.take i).count (s:Int):Nat):=by
 intro i
 induction i with
 | zero=>intro _;simp [nx]
 | succ i ih=>
  intro hi
  obtain ⟨t,ht⟩:=hS i (by omega)
  have hti:SP[i]=(t:Int):=by
   rw [List.getD_eq_getElem?_getD,List.getElem?_eq_getElem (by omega)] at ht
   simpa using ht
  rw [nx,ht,Int.toNat_natCast,List.take_succ_eq_append_getElem (by omega),List.count_append,hti]
  have hl:=z94 SP zs i
  by_cases hst:t=s
  ·subst hst
   rw [List.getD_eq_getElem?_getD,List.getElem?_set_self (by omega)]
   simp only [Option.getD_some]
   rw [ih (by omega)]
   simp
   omega
  ·rw [List.getD_eq_getElem?_getD,List.getElem?_set_ne hst,<-List.getD_eq_getElem?_getD,ih (by omega)]
   have:¬((t:Int)=(s:Int)):=by omega
   simp [this]
theorem zdn (l:List Int) (s:Int):∀ m,m<l.count s->∃ q,∃ hq:q<l.length,l[q]=s/\(l.take q).count s=m:=by
 induction l with
 | nil=>intro m h;simp at h
 | cons x l ih=>
  intro m h
  by_cases hx:x=s
  ·subst hx
   cases m with
   | zero=>exact ⟨0,by simp,by simp,by simp⟩
   | succ m=>
    rw [List.count_cons_self] at h;obtain ⟨q,hq,h1,h2⟩:=ih m (by omega)
    exact ⟨q+1,by simpa using hq,by simpa using h1,by rw [List.take_succ_cons,List.count_cons_self,h2]⟩
  ·rw [List.count_cons_of_ne (fun e=>hx e)] at h
   obtain ⟨q,hq,h1,h2⟩:=ih m h;exact ⟨q+1,by simpa using hq,by simpa using h1,by rw [List.take_succ_cons,List.count_cons_of_ne (fun e=>hx e),h2]⟩
theorem zl0 :∀ p,p<64->∀ c,c<65->1<=c->∃ k,k<7/\(c<=(p+64) / 2 ^ k/\(p+64) / 2 ^ k<2*c/\(p+64) / 2 ^ k*2 ^ wd ((p+64) / 2 ^ k)<=p+64/\p+64<((p+64) / 2 ^ k+1)*2 ^ wd ((p+64) / 2 ^ k)):=by decide +kernel
def hit (T:List Int) (s:Int) (p q:Nat):Prop:=T.getD (q*3) 0=s/\cZ T q<=p/\p<cZ T q+2 ^ cB T q
instance (T:List Int) (s:Int) (p q:Nat):Decidable (hit T s p q):=by unfold hit;infer_instance
theorem zqh {zs:List Int} (hn:zk zs=true) (q s:Nat) (hq:q<64) (hs:(pl (fl 0 zs) (plc 64)).getD q 0=(s:Int)) (hsl:s<zs.length):(cX (pl (fl 0 zs) (plc 64)) zs q:Int)=zs.getD s 0+(((pl (fl 0 zs) (plc 64)).take q).count (s:Int):Nat):=by
 have hl:(pl (fl 0 zs) (plc 64)).length=64:=z1r _ _;have:=zqj (pl (fl 0 zs) (plc 64)) zs (fun i hi=>by obtain ⟨s,h,_⟩:=z4m hn i (by omega);exact ⟨s,h⟩) s hsl q (by omega)
 have h0:=(z69 (pl (fl 0 zs) (plc 64)) zs q s).1;have hz:=z1i hn s hsl;unfold cX;rw [hs,Int.toNat_natCast]
 omega
theorem zlm (SP zs:List Int) (n q:Nat) (hq:q<n):(tb SP zs n).getD (q*3) 0=SP.getD q 0/\cB (tb SP zs n) q=wd (cX SP zs q)/\cZ (tb SP zs n) q=cX SP zs q*2 ^ wd (cX SP zs q)-64:=by
 have h0:=z4f SP zs q 0 (by omega) n hq
 have h1:=z4f SP zs q 1 (by omega) n hq
 have h2:=z4f SP zs q 2 (by omega) n hq
 generalize tb SP zs n=T at *;generalize cX SP zs q=X at *;generalize SP.getD q 0=u at *;rw [Nat.add_zero] at h0;refine ⟨by rw [h0];rfl,?_,?_⟩
 ·unfold cB
  rw [h1]
  simp
 ·unfold cZ
  rw [h2]
  show (((X*2 ^ wd X:Nat):Int)-64).toNat=_
  omega
theorem zfv {zs:List Int} (q:Nat) (hq:q<64):(tb (pl (fl 0 zs) (plc 64)) zs 64).getD (q*3) 0=(pl (fl 0 zs) (plc 64)).getD q 0/\cB (tb (pl (fl 0 zs) (plc 64)) zs 64) q=wd (cX (pl (fl 0 zs) (plc 64)) zs q)/\cZ (tb (pl (fl 0 zs) (plc 64)) zs 64) q=cX (pl (fl 0 zs) (plc 64)) zs q*2 ^ wd (cX (pl (fl 0 zs) (plc 64)) zs q)-64:=zlm _ zs 64 q hq
theorem zq3 {zs:List Int} (hn:zk zs=true) (s p:Nat) (hs:s<zs.length) (hp:p<64) (hc:zs.getD s 0≠0):∃ q,q<64/\hit (tb (pl (fl 0 zs) (plc 64)) zs 64) (s:Int) p q:=by
 have hz:=z1i hn s hs;obtain ⟨c,hcc⟩:=Int.eq_ofNat_of_zero_le hz.1;obtain ⟨k,_,h1,h2,h3,h4⟩:=zl0 p hp c (by omega) (by omega)
 generalize (p+64) / 2 ^ k=X at *;have hcount:(pl (fl 0 zs) (plc 64)).count (s:Int)=c:=by
  rw [(zo2 hn).count_eq];have:=zky zs 0 s hs;rw [Nat.zero_add,hcc] at this
  simpa using this
 obtain ⟨q,hq,hq1,hq2⟩:=zdn (pl (fl 0 zs) (plc 64)) (s:Int) (X-c) (by omega)
 have hq64:q<64:=by rw [z1r] at hq;exact hq
 have hqs:(pl (fl 0 zs) (plc 64)).getD q 0=(s:Int):=by rw [List.getD_eq_getElem?_getD,List.getElem?_eq_getElem hq,hq1];rfl
 have hX:=zqh hn q s hq64 hqs hs;rw [hq2,hcc] at hX;have hX':cX (pl (fl 0 zs) (plc 64)) zs q=X:=by omega
 obtain ⟨c1,c2,c3⟩:=zfv (zs:=zs) q hq64;refine ⟨q,hq64,by rw [c1];exact hqs,?_,?_⟩
 ·rw [c3,hX'];omega
 ·rw [c3,c2,hX']
  rw [Nat.add_mul,Nat.one_mul] at h4
  omega
def zcg (T:List Int) (s:Int) (p q:Nat):Prop:=q<64/\hit T s p q/\∀ j,j<q->¬hit T s p j
def fq (T:List Int) (s:Int) (p:Nat):Nat:=((List.range 64).find? (fun q=>decide (hit T s p q))).getD 0
theorem zd8 {T:List Int} {s:Int} {p:Nat} (h:∃ q,q<64/\hit T s p q):zcg T s p (fq T s p):=by
 obtain ⟨q,hq,hh⟩:=h;unfold fq
 cases hf:(List.range 64).find? (fun q=>decide (hit T s p q)) with
 | none=>
  rw [List.find?_eq_none] at hf;exact absurd hh (by simpa using hf q (by simpa using hq))
 | some r=>
  obtain ⟨h1,i,hi,h2,h3⟩:=List.find?_eq_some_iff_getElem.1 hf
  simp only [List.length_range] at hi
  simp only [List.getElem_range] at h2 h3
  subst h2;refine ⟨hi,by simpa using h1,fun j hj=>?_⟩
  have:=h3 j hj
  simpa using this
theorem zq4 {zs:List Int} (hn:zk zs=true) (s:Int) (p:Nat) (hc:∀ k:Nat,s=k->zs.getD k 0=0):∀ q,q<64->¬hit (tb (pl (fl 0 zs) (plc 64)) zs 64) s p q:=by
 intro q hq h
 obtain ⟨c1,_,_⟩:=zfv (zs:=zs) q hq;obtain ⟨t,ht,htl,htp,_⟩:=z4m hn q hq;have:=h.1;rw [c1,ht] at this;have:=hc t this.symm
 omega
def fpS (T ts:List Int):Nat->Nat × Nat × Nat
 | 0=>(0,0,0)
 | k+1=>(fq T (ts.getD (ts.length-1-k) 0) (fpS T ts k).1,(fpS T ts k).2.1+cB T (fq T (ts.getD (ts.length-1-k) 0) (fpS T ts k).1),(fpS T ts k).2.2+((fpS T ts k).1-cZ T (fq T (ts.getD (ts.length-1-k) 0) (fpS T ts k).1))*2 ^ (fpS T ts k).2.1)
def shd (ls ts:List Int):Prop:=∀ k,k<ts.length->ls.getD (ts.getD k 0).toNat 0≠0
instance (ls ts:List Int):Decidable (shd ls ts):=by unfold shd;infer_instance
structure Tab (T ls:List Int):Prop where
 gd:Gd T ls.length
 ex:∀ s p:Nat,s<ls.length->p<64->ls.getD s 0≠0->∃ q,q<64/\hit T (s:Int) p q
 no:∀ (s:Int) (p:Nat),(∀ k:Nat,s=k->ls.getD k 0=0)->∀ q,q<64->¬hit T s p q
 le:ls.length<=80
theorem zkg {ls:List Int} (hn:zk ls=true):Tab (tb (pl (fl 0 ls) (plc 64)) ls 64) ls:=
 ⟨z90 hn,fun s p hs hp hc=>zq3 hn s p hs hp hc,fun s p hc=>zq4 hn s p hc,(z0p hn).2⟩
section
variable {T ls ts : List Int}
theorem z9f (hT:Tab T ls) (hts:∀ k,k<ts.length->0<=ts.getD k 0/\ts.getD k 0<ls.length):∀ k,k<=ts.length->(∀ j,j<k->ls.getD (ts.getD (ts.length-1-j) 0).toNat 0≠0)->(fpS T ts k).1<64/\(fpS T ts k).2.1<=6*k/\(fpS T ts k).2.2<2 ^ (fpS T ts k).2.1:=by
 intro k
 induction k with
 | zero=>intro _ _;simp [fpS]
 | succ k ih=>
  intro hk hs
  obtain ⟨h1,h2,h3⟩:=ih (by omega) (fun j hj=>hs j (by omega))
  have hsy:=hts (ts.length-1-k) (by omega)
  obtain ⟨s,hse⟩:=Int.eq_ofNat_of_zero_le hsy.1;have hsh:=hs k (by omega)
  rw [hse,Int.toNat_natCast] at hsh;have hF:=zd8 (hT.ex s (fpS T ts k).1 (by omega) h1 hsh)
  obtain ⟨_,b,z,_,e2,e3,_,hb6,hz64⟩:=hT.gd.cell (fq T (s:Int) (fpS T ts k).1) hF.1;have hb:cB T (fq T (s:Int) (fpS T ts k).1)=b:=by unfold cB;rw [e2,Int.toNat_natCast]
  have hz:cZ T (fq T (s:Int) (fpS T ts k).1)=z:=by unfold cZ;rw [e3,Int.toNat_natCast]
  have hh:=hF.2.1;unfold hit at hh;rw [hb,hz] at hh;rw [fpS,hse];refine ⟨hF.1,?_,?_⟩
  ·simp only [hb];omega
  ·simp only [hb,hz]
   exact z0x _ _ b _ h3 (by omega)
theorem zjl (hT:Tab T ls) (hts:∀ k,k<ts.length->0<=ts.getD k 0/\ts.getD k 0<ls.length) (k:Nat) (hk:k<ts.length) (hs:∀ j,j<k+1->ls.getD (ts.getD (ts.length-1-j) 0).toNat 0≠0):zcg T (ts.getD (ts.length-1-k) 0) (fpS T ts k).1 (fpS T ts (k+1)).1:=by
 obtain ⟨h1,_,_⟩:=z9f hT hts k (by omega) (fun j hj=>hs j (by omega))
 have hsy:=hts (ts.length-1-k) (by omega)
 obtain ⟨s,hse⟩:=Int.eq_ofNat_of_zero_le hsy.1;have hsh:=hs k (by omega)
 rw [hse,Int.toNat_natCast] at hsh;rw [fpS,hse];exact zd8 (hT.ex s (fpS T ts k).1 (by omega) h1 hsh)
end
def fN (T ts:List Int):Nat:=(fpS T ts ts.length).2.1+6
def fV (T ts:List Int):Nat:=(fpS T ts ts.length).2.2+(fpS T ts ts.length).1*2 ^ (fpS T ts ts.length).2.1
open Go.Shelf
attribute [local go_sem] Oper.semAt_some
abbrev P64 :={ x:Nat // x<64 }
set_option maxRecDepth 100000 in
theorem zf5 (F:Fence) (n:Nat) (hF:F.fn 208) (hro:F.round=none) (hn:1<=n) (w:World) :
  SeqStops F n Tryz.prog 208 #[] (fun v:P64=>Value.int .i64 ((v.1:Nat):Int)) (fun xs=>xs.map (·.1)=plc 64) (fun _=>True) 64 w:=fun l J Jx W _ _ _ hY h0=>by
 refine callsIn_of_wp Tryz.func208 rfl hF ?_ hro
 simp only [Tryz.ntmps208,List.size_toArray,List.length_cons,List.length_nil,Nat.reduceAdd,Nat.reduceSub,Array.replicate_succ,Array.replicate_zero,List.push_toArray,List.append_toArray,List.nil_append,List.cons_append]
 gi_wp2
 gi_loopw [2,3] (fun p i wr=>∃ (k q:Nat) (pre:List P64),k<=64/\i=.int .i64 k/\q=43*k % 64/\p=.int .i64 q/\pre.map (·.1)=plc k/\J pre wr) (fun _ i _=>64-(intOf i).toNat)
 case atStart=>exact ⟨0,0,[],Nat.zero_le _,rfl,rfl,rfl,rfl,h0⟩
 case round=>
  obtain ⟨k,q,pre,hk,rfl,hq,rfl,hp,hJ⟩:=hrel;have hq64:q<64:=by omega
  have hl:pre.length=k:=by have:=congrArg List.length hp;simpa [z9t] using this
  by_cases hlt:k<64
  ·obtain ⟨fn,tmps,assign,body,hy,hR⟩:=hY pre ⟨q,hq64⟩ wr hJ (by omega)
   dsimp only at hy
   have HQ:Hid (q=43*k % 64):=hq;have HP:Hid (pre.map (·.1)=plc k):=hp;have HL:Hid (pre.length=k):=hl;clear hq hp hl
   gi_wp2
   refine hR.mono ?_;rintro e W3 (⟨rfl,hJ3,hk3⟩ | ⟨rfl,hJx3⟩)
   ·gi_wp2
    go_roundw
    case rel=>exact ⟨k+1,(q+43) % 64,pre++[⟨q,hq64⟩],by omega,by go_num,by rw [HQ.out];omega,by go_num,by rw [List.map_append,HP.out,z8j,<-HQ.out];rfl,hJ3⟩
    case measure=>simp [intOf];omega
   ·gi_wp2
    refine bodyPost_ret (results_none rfl _ _ _) rfl ?_;exact ⟨⟨_,rfl⟩,.inr ⟨_,trivial,hJx3⟩⟩
  ·have hke:k=64:=by omega
   subst hke
   gi_wp2
   go_end0
   exact ⟨⟨_,rfl⟩,.inl ⟨pre,hp,hJ⟩⟩
attribute [local go_sem] Oper.semAt_some
def Z64 :Array Value:=((List.replicate 64 (0:Int)).map (Value.int .i64)).toArray
theorem z64 :(#[.int .i64 0,.int .i64 0,.int .i64 0,.int .i64 0,.int .i64 0,.int .i64 0,.int .i64 0,.int .i64 0,.int .i64 0,.int .i64 0,.int .i64 0,.int .i64 0,.int .i64 0,.int .i64 0,.int .i64 0,.int .i64 0,.int .i64 0,.int .i64 0,.int .i64 0,.int .i64 0,.int .i64 0,.int .i64 0,.int .i64 0,.int .i64 0,.int .i64 0,.int .i64 0,.int .i64 0,.int .i64 0,.int .i64 0,.int .i64 0,.int .i64 0,.int .i64 0,.int .i64 0,.int .i64 0,.int .i64 0,.int .i64 0,.int .i64 0,.int .i64 0,.int .i64 0,.int .i64 0,.int .i64 0,.int .i64 0,.int .i64 0,.int .i64 0,.int .i64 0,.int .i64 0,.int .i64 0,.int .i64 0,.int .i64 0,.int .i64 0,.int .i64 0,.int .i64 0,.int .i64 0,.int .i64 0,.int .i64 0,.int .i64 0,.int .i64 0,.int .i64 0,.int .i64 0,.int .i64 0,.int .i64 0,.int .i64 0,.int .i64 0,.int .i64 0]:Array Value)=Z64:=rfl
structure SpW (w W:World) (V:Value) (G S Lf:Nat) (tb:List Int) (s left:Nat):Prop where
 bx:Boxed W G 57 V
 rs:W.heap[G+1]?=some (.cells Z64 247 (0,0))
 tab:W.heap[G+1+1]?=some (.cells (tb.map (Value.int .i64)).toArray 247 (0,0))
 sy:Boxed W S 3 (.int .i64 s)
 lf:Boxed W Lf 3 (.int .i64 left)
 bel:Below G w W
section
variable {w W W' : World} {V : Value} {G S Lf : Nat} {tb : List Int} {s left : Nat}
theorem SpW.own {B:Nat} {row:Option Nat} (h:SpW w W V G S Lf tb s left) (hg:W.grownBy W' row) (hr:∀ r,row=some r->B<=r/\∃ o:Obj,W.heap[r]?=some o/\o.isCells=false) (hB:G<=B) (hw:G<=w.heap.size):SpW w W' V G S Lf tb s left:=by
 have hr':∀ r,row=some r->∃ o:Obj,W.heap[r]?=some o/\o.isCells=false:=fun r e=>(hr r e).2
 exact ⟨(grownBy_keeps_cells hg hr' h.bx rfl).trans h.bx,(grownBy_keeps_cells hg hr' h.rs rfl).trans h.rs,(grownBy_keeps_cells hg hr' h.tab rfl).trans h.tab,(grownBy_keeps_cells hg hr' h.sy rfl).trans h.sy,(grownBy_keeps_cells hg hr' h.lf rfl).trans h.lf,h.bel.grown hg (Nat.le_trans hw h.bel.size) (fun k e=>Nat.le_trans hB (hr k e).1)⟩
theorem SpW.setS (h:SpW w W V G S Lf tb s left) (hS:G+1+1<S) (hne:S≠Lf) (s':Nat):SpW w (W.setCell ⟨S,0,none⟩ (.int .i64 s')) V G S Lf tb s' left:=
 ⟨(Below.heap_setCell _ _ _ _ (by simp;omega)).trans h.bx,(Below.heap_setCell _ _ _ _ (by simp;omega)).trans h.rs,(Below.heap_setCell _ _ _ _ (by simp;omega)).trans h.tab,h.sy.set _,(Below.heap_setCell _ _ _ _ (by simpa using hne.symm)).trans h.lf,h.bel.setCell (by simp;omega) _⟩
theorem SpW.setL (h:SpW w W V G S Lf tb s left) (hS:G+1+1<Lf) (hne:S≠Lf) (l':Nat):SpW w (W.setCell ⟨Lf,0,none⟩ (.int .i64 l')) V G S Lf tb s l':=
 ⟨(Below.heap_setCell _ _ _ _ (by simp;omega)).trans h.bx,(Below.heap_setCell _ _ _ _ (by simp;omega)).trans h.rs,(Below.heap_setCell _ _ _ _ (by simp;omega)).trans h.tab,(Below.heap_setCell _ _ _ _ (by simpa using hne)).trans h.sy,h.lf.set _,h.bel.setCell (by simp;omega) _⟩
theorem SpW.setT (h:SpW w W V G S Lf tb s left) (hS:G+1+1<S) (hL:G+1+1<Lf) (x:Nat) (v:Int):SpW w (W.setCell ⟨G+1+1,x,none⟩ (.int .i64 v)) V G S Lf (tb.set x v) s left:=
 ⟨(Below.heap_setCell _ _ _ _ (by simp;omega)).trans h.bx,(Below.heap_setCell _ _ _ _ (by simp)).trans h.rs,by rw [heap_setCell_same _ _ x _ _ _ h.tab];simp [List.map_set],(Below.heap_setCell _ _ _ _ (by simp;omega)).trans h.sy,(Below.heap_setCell _ _ _ _ (by simp;omega)).trans h.lf,h.bel.setCell (by simp;omega) _⟩
end
theorem zhh {zs:List Int} (hn:zk zs=true):(∀ z ∈ zs,0<=z)/\zs.sum=64:=by
 simp only [zk,decide_eq_true_eq] at hn
 exact ⟨fun z hz=>(hn.2.2.1 z hz).1,hn.2.2.2⟩
theorem zma {w:World} {g:Nat} {T:TypeId} {tb:List Int} (h:w.heap[g]?=some (.cells (tb.map (Value.int .i64)).toArray T (0,0))) (x:Nat) (hx:x<tb.length):w.cell? ⟨g,x,none⟩=some (.int .i64 (tb.getD x 0)):=by
 rw [cell_of_row _ _ x _ _ _ h]
 simp [List.getD_eq_getElem?_getD,hx]
theorem z6d {n:Nat} {P:Program} {ops:Array Oper} {rest:List Oper} {op:Oper} {a:Act} {w:World} {Q:Exit->Act->World->Prop} (hgd:op.guard=none) (ty:TypeId) (x:Operand) (ho:op.op=.load ty x) (b:Nat) (hx:a.eval x=.pointer (some ⟨b,0,none⟩)) (v:Value)
  (hl:(loadVar ty ⟨b,0,none⟩).run P w=.ok v w) (h:wpListIn Fence.wide n P ops Q rest (a.put op.dst v) w):wpListIn Fence.wide n P ops Q (op :: rest) a w:=wpListIn_plain hgd fun K hK=>by
 refine ⟨fun _ _=>trivial,?_⟩
 show op.uponIn _ _ _ _ _ _ ((op.semAt none a.eval).run P w)
 rw [Oper.semAt_none];unfold execOp
 simp only [ho,hx,Instr.loadAt,Instr.sureAddr,Sem.run_bind,Sem.run_pure,Result.andThen_ok,hl]
 exact hK _ _ h
theorem z5v {n:Nat} {P:Program} {ops:Array Oper} {rest:List Oper} {op:Oper} {a:Act} {w w':World} {Q:Exit->Act->World->Prop} (hgd:op.guard=none) (ty:TypeId) (x y:Operand) (ho:op.op=.store ty x y) (b:Nat) (hx:a.eval x=.pointer (some ⟨b,0,none⟩)) (v:Value) (hy:a.eval y=v)
  (hl:(storeVar ty ⟨b,0,none⟩ v).run P w=.ok () w') (h:wpListIn Fence.wide n P ops Q rest (a.put op.dst undef) w'):wpListIn Fence.wide n P ops Q (op :: rest) a w:=wpListIn_plain hgd fun K hK=>by
 refine ⟨fun _ _=>trivial,?_⟩
 show op.uponIn _ _ _ _ _ _ ((op.semAt none a.eval).run P w)
 rw [Oper.semAt_none];unfold execOp
 simp only [ho,hx,hy,Instr.storeAt,Instr.sureAddr,Sem.run_bind,Sem.run_pure,Result.andThen_ok,hl]
 exact hK _ _ h
theorem zc6 {fn:Func} {p:Tmp} {ty:TypeId} (h:fn.results=#[.cell p ty]) (tmps:Array Value) (P:Program) (w:World):(results fn tmps).run P w=((asAddr (tmps.getD p undef)).run P w).andThen fun a w₁=>(loadVar ty a).run P w₁:=by
 simp only [results,h]
 simp [Sem.run_bind,Result.andThen]
theorem zbq {B g:Nat} {w0 w:World} (hb:Below B w0 w) (hBg:B<=g) (cs:Array Value):Below B w0 (w.setRow g cs):=
 hb.trans ⟨rfl,rfl,rfl,by simp [World.setRow],fun k hk=>setRow_other w g k cs (by omega)⟩
def zce (w:World) (S:Nat):Nat:=match w.cell? ⟨S,0,none⟩ with
 | some v=>(intOf v).toNat
 | none=>0
theorem zcy {w:World} {S s:Nat} {t:TypeId} (h:Boxed w S t (.int .i64 s)):zce w S=s:=by
 unfold zce;rw [h.cell]
 simp [intOf]
set_option maxRecDepth 100000 in
theorem zev (n:Nat) (hn3:3<=n) (a:Option Addr) (cap:Nat) (zs:List Int) (w:World) (hb:Ins w a zs) (hn:zk zs=true) :
  CallsIn Fence.wide n Tryz.prog 188 #[.slice a zs.length cap] w fun e w'=>e=.returned (.agg ((pl (fl 0 zs) (plc 64)).map (Value.int .i64)).toArray)/\Below w.heap.size w w':=by
 have h1:1<=n:=by omega
 have hbd:=z0p hn;obtain ⟨b1,o1,rfl,hb1,hc1⟩:=hb.len_pos 0 (by omega)
 have HC:Hid (∀ i,i<zs.length->w.cell? ⟨b1,o1+i,none⟩=some (.int .i64 (zs.getD i 0))):=hc1;have hs0:=hc1 0 (by omega)
 have HN:Hid (zk zs=true):=hn;clear hn hb hc1;generalize hL:zs.length=L at *;have HL:Hid (zs.length=L):=hL;clear hL;obtain ⟨L',rfl⟩:∃ L',L=L'+1:=⟨L-1,by omega⟩
 refine callsIn_of_wp_marks Tryz.func188 rfl trivial ?_ rfl
 simp only [Tryz.ntmps188,List.size_toArray,List.length_cons,List.length_nil,Nat.reduceAdd,Nat.reduceSub,Array.replicate_succ,Array.replicate_zero,List.push_toArray,List.append_toArray,List.nil_append,List.cons_append]
 gi_wp2
 rw [z64];have HB0:Hid (Below w.heap.size w (((w.alloc (Obj.cells #[.slice (some ⟨b1,o1,none⟩) (L'+1) cap] 57)).alloc (Obj.cells Z64 247)).alloc (Obj.cells Z64 247))):=(((Below.refl _ _).alloc nl _).alloc (by simp) _).alloc (by simp;omega) _
 have HX0:Hid (Boxed (((w.alloc (Obj.cells #[.slice (some ⟨b1,o1,none⟩) (L'+1) cap] 57)).alloc (Obj.cells Z64 247)).alloc (Obj.cells Z64 247)) w.heap.size 57 (.slice (some ⟨b1,o1,none⟩) (L'+1) cap)):=((Boxed.new w _ _).alloc _).alloc _;have HP0:Hid ((((w.alloc (Obj.cells #[.slice (some ⟨b1,o1,none⟩) (L'+1) cap] 57)).alloc (Obj.cells Z64 247)).alloc (Obj.cells Z64 247)).heap[w.heap.size+1]?=some (.cells Z64 247 (0,0))):=by
  have:=World.alloc_heap_new (w.alloc (Obj.cells #[.slice (some ⟨b1,o1,none⟩) (L'+1) cap] 57)) (Obj.cells Z64 247);rw [World.size_alloc] at this;exact (Below.heap_alloc _ _ _ (by simp)).trans this
 have HQ0:Hid ((((w.alloc (Obj.cells #[.slice (some ⟨b1,o1,none⟩) (L'+1) cap] 57)).alloc (Obj.cells Z64 247)).alloc (Obj.cells Z64 247)).heap[w.heap.size+1+1]?=some (.cells Z64 247 (0,0))):=by
  have:=World.alloc_heap_new ((w.alloc (Obj.cells #[.slice (some ⟨b1,o1,none⟩) (L'+1) cap] 57)).alloc (Obj.cells Z64 247)) (Obj.cells Z64 247);rw [World.size_alloc,World.size_alloc] at this;exact this
 have HS0:Hid ((((w.alloc (Obj.cells #[.slice (some ⟨b1,o1,none⟩) (L'+1) cap] 57)).alloc (Obj.cells Z64 247)).alloc (Obj.cells Z64 247)).heap.size=w.heap.size+1+1+1):=by simp [Hid]
 generalize ((w.alloc (Obj.cells #[.slice (some ⟨b1,o1,none⟩) (L'+1) cap] 57)).alloc (Obj.cells Z64 247)).alloc (Obj.cells Z64 247)=W0 at *;generalize hG:w.heap.size=G at *;have HG:Hid (w.heap.size=G):=hG;clear hG;have c0:=HX0.out.cell;have c1:W0.cell? ⟨b1,o1+0,none⟩=some (.int .i64 (zs.getD 0 0)):=keep HB0.out hb1 hs0;have l0:=HX0.out.lt;have l1:b1<W0.heap.size:=by omega
 obtain ⟨z0,hz0⟩:∃ z0:Int,zs.getD 0 0=z0:=⟨_,rfl⟩;have HZ:Hid (zs.getD 0 0=z0):=hz0;rw [hz0] at c1;rw [Nat.add_zero] at c1;clear hs0 hz0;have hmx:Tryz.prog.follows .mixedOrders=true:=by kernel_rfl
 have hz0n:0<=z0:=by have:=z1i HN.out 0 (by rw [HL.out];omega);rw [HZ.out] at this;omega
 obtain ⟨y0,rfl⟩:=Int.eq_ofNat_of_zero_le hz0n
 gi_region
 all_goals have hsz:=HS0.out
 all_goals have HSZ:Hid (W0.heap.size=G+1+1+1):=hsz
 all_goals clear HS0
 have H1:Hid (SpW w ((W0.alloc (Obj.cells #[.int .i64 0] 3)).alloc (Obj.cells #[.int .i64 (y0:Int)] 3)).drew (.slice (some ⟨b1,o1,none⟩) (L'+1) cap) G W0.heap.size (W0.heap.size+1) (pl (fl 0 zs) []) 0 y0):=
  ⟨(HX0.out.alloc _).alloc _,(Below.heap_alloc _ _ _ (by simp;omega)).trans ((Below.heap_alloc _ _ _ (by omega)).trans HP0.out),(Below.heap_alloc _ _ _ (by simp;omega)).trans ((Below.heap_alloc _ _ _ (by omega)).trans HQ0.out),(Boxed.new W0 3 _).alloc _,(by have:=Boxed.new (W0.alloc (Obj.cells #[.int .i64 0] 3)) 3 (.int .i64 (y0:Int));rw [World.size_alloc] at this;exact this),((HB0.out.alloc (by omega) _).alloc (by simp;omega) _).drew⟩
 have HF:Hid (G+1+1<W0.heap.size/\G+1+1<(W0.heap.size+1)/\W0.heap.size≠(W0.heap.size+1)):=by unfold Hid;omega
 generalize ((W0.alloc (Obj.cells #[.int .i64 0] 3)).alloc (Obj.cells #[.int .i64 (y0:Int)] 3)).drew=W1 at H1 ⊢;generalize W0.heap.size+1=Lf at H1 HF ⊢;generalize W0.heap.size=S at H1 HF ⊢;clear HX0 HP0 HQ0 HB0 HSZ l0 l1 c0 c1 hmx hsz
 rotate_left
 have H1:Hid (SpW w ((W0.alloc (Obj.cells #[.int .i64 (y0:Int)] 3)).alloc (Obj.cells #[.int .i64 0] 3)).drew (.slice (some ⟨b1,o1,none⟩) (L'+1) cap) G (W0.heap.size+1) W0.heap.size (pl (fl 0 zs) []) 0 y0):=
  ⟨(HX0.out.alloc _).alloc _,(Below.heap_alloc _ _ _ (by simp;omega)).trans ((Below.heap_alloc _ _ _ (by omega)).trans HP0.out),(Below.heap_alloc _ _ _ (by simp;omega)).trans ((Below.heap_alloc _ _ _ (by omega)).trans HQ0.out),(by have:=Boxed.new (W0.alloc (Obj.cells #[.int .i64 (y0:Int)] 3)) 3 (.int .i64 0);rw [World.size_alloc] at this;exact this),(Boxed.new W0 3 _).alloc _,((HB0.out.alloc (by omega) _).alloc (by simp;omega) _).drew⟩
 have HF:Hid (G+1+1<(W0.heap.size+1)/\G+1+1<W0.heap.size/\(W0.heap.size+1)≠W0.heap.size):=by unfold Hid;omega
 generalize ((W0.alloc (Obj.cells #[.int .i64 (y0:Int)] 3)).alloc (Obj.cells #[.int .i64 0] 3)).drew=W1 at H1 ⊢;generalize W0.heap.size+1=S at H1 HF ⊢;generalize W0.heap.size=Lf at H1 HF ⊢;clear HX0 HP0 HQ0 HB0 HSZ l0 l1 c0 c1 hmx hsz
 all_goals
  obtain ⟨hS,hLf,hne⟩:=HF.out;have HW1:Hid (G<=W1.heap.size):=by have:=H1.out.bx.lt;unfold Hid;omega
  have hsum64:=(zhh HN.out);have HALL:Hid ((∀ z ∈ zs,0<=z)/\zs.sum=64):=hsum64;clear hsum64 HF
  gi_wp2
  refine wpIn_rangeFunc_ownF rfl h1 (gf:=208) (lb:=#[]) rfl trivial (enters_of Tryz.func208 (by kernel_rfl) rfl)
   (encs:=fun x:P64=>#[.int .i64 ((x.1:Nat):Int)]) (Kp:=KeepsWalks) (zf5 Fence.wide (n-1) trivial rfl (by omega) W1) walksK_t walksK_b (Below.refl _ _) (fun _=>rfl)
   (fun pre W=>∃ s left:Nat,s<L'+1/\(left:Int)<=zs.getD s 0/\(zs.take s).sum+zs.getD s 0-left=(pre.length:Int)/\SpW w W (.slice (some ⟨b1,o1,none⟩) (L'+1) cap) G S Lf (pl (fl 0 zs) (pre.map (·.1))) s left)
   (fun _ _ _=>False)
   (fun pre A B row hs hg hr=>by obtain ⟨s,left,p1,p2,p3,h⟩:=hs;exact ⟨s,left,p1,p2,p3,h.own hg hr HW1.out (by rw [HG.out];exact Nat.le_refl _)⟩)
   (fun _ _ _ _ _ hs _ _=>hs)
   ⟨0,y0,by omega,by rw [HZ.out];exact Int.le_refl _,by rw [HZ.out];simp,H1.out⟩
   (fun x=>{ tmps:=#[(.slice (some ⟨b1,o1,none⟩) (L'+1) cap),.pointer (some ⟨G,0,none⟩),.pointer (some ⟨G+1,0,none⟩),.pointer (some ⟨G+1+1,0,none⟩),.pointer (some ⟨S,0,none⟩),.pointer (some ⟨Lf,0,none⟩),.int .i64 ((x.1:Nat):Int),(.slice (some ⟨b1,o1,none⟩) (L'+1) cap),.pointer (some ⟨b1,o1,none⟩),.int .i64 y0,.int .i64 ((x.1:Nat):Int),undef,undef,undef,undef,undef,undef,undef,undef,undef,undef,undef,undef,undef,undef],defers:=[] }) ?assign ?body ?done ?stop
  case assign=>
   intro l x W K hK
   gi_wp2
   exact hK
  case body=>
   rintro l pre ⟨x,hx⟩ W ⟨s,left,hs,hle,hsum,hw⟩ hlt;have HH:Hid (∃ s left:Nat,s<L'+1/\(left:Int)<=zs.getD s 0/\(zs.take s).sum+zs.getD s 0-left=(pre.length:Int)/\SpW w W (.slice (some ⟨b1,o1,none⟩) (L'+1) cap) G S Lf (pl (fl 0 zs) (pre.map (·.1))) s left):=⟨s,left,hs,hle,hsum,hw⟩;clear hs hle hsum hw s left
   gi_wp2
   gi_loopw [] (fun wr=>(∃ s left:Nat,s<L'+1/\(left:Int)<=zs.getD s 0/\(zs.take s).sum+zs.getD s 0-left=(pre.length:Int)/\SpW w wr (.slice (some ⟨b1,o1,none⟩) (L'+1) cap) G S Lf (pl (fl 0 zs) (pre.map (·.1))) s left)/\KeepsOthers W wr) (fun wr=>L'+1-zce wr S)
   case atStart=>exact ⟨HH.out,KeepsOthers.refl _⟩
   case round=>
    obtain ⟨⟨s,left,hs,hle,hsum,hw⟩,hko⟩:=hrel;have HNs:Hid (zce wr S=s):=zcy hw.sy;have HKO:Hid (KeepsOthers W wr):=hko;have x0:=hw.bx.cell;have x1:=hw.sy.cell;have x2:=hw.lf.cell;have y1:=hw.sy.frozen;have y2:=hw.lf.frozen;have h1s:=z3h zs s (by rw [HL.out];exact hs)
    have hgs:=z1i HN.out s (by rw [HL.out];exact hs)
    by_cases hl0:left=0
    ·subst hl0
     have hs1:s+1<L'+1:=by
      rcases Nat.lt_or_ge (s+1) (L'+1) with h | h
      ·exact h
      ·exfalso
       have e:s+1=zs.length:=by rw [HL.out];omega
       rw [e,List.take_length,HALL.out.2] at h1s
       omega
     have hg:=z1i HN.out (s+1) (by rw [HL.out];exact hs1)
     obtain ⟨z1,hz1⟩:=Int.eq_ofNat_of_zero_le hg.1;have HZ1:Hid (zs.getD (s+1) 0=(z1:Int)):=hz1;have hc:=keep hw.bel hb1 (HC.out (s+1) hs1);rw [hz1] at hc;have hbS:b1≠S:=by omega
     have hbL:b1≠Lf:=by omega
     have HSUM:Hid ((zs.take (s+1)).sum+zs.getD (s+1) 0-z1=(pre.length:Int)):=by unfold Hid;rw [h1s,HZ1.out];omega
     have HW2:Hid (SpW w ((wr.setCell ⟨S,0,none⟩ (.int .i64 ((s:Int)+1))).setCell ⟨Lf,0,none⟩ (.int .i64 z1)) (.slice (some ⟨b1,o1,none⟩) (L'+1) cap) G S Lf (pl (fl 0 zs) (pre.map (·.1))) (s+1) z1):=by
      have:=(hw.setS hS hne (s+1)).setL hLf hne z1;rw [show (((s+1:Nat)):Int)=(s:Int)+1 from by omega] at this
      exact this
     have hSL:=hne;have hLS:=hne.symm;clear hw hle hsum h1s hgs hg hz1 hko
     gi_wp2
     go_roundw
     case rel=>exact ⟨⟨s+1,z1,hs1,by rw [HZ1.out];exact Int.le_refl _,HSUM.out,HW2.out⟩,(HKO.out.trans (KeepsOthers.setCell _ _ _)).trans (KeepsOthers.setCell _ _ _)⟩
     case measure=>
      rw [zcy HW2.out.sy,HNs.out]
      omega
    ·obtain ⟨l',rfl⟩:∃ l',left=l'+1:=⟨left-1,by omega⟩
     have hl1:(((l'+1:Nat):Int) == 0)=false:=by simp;omega
     have HFL:Hid ((fl 0 zs).getD (pre.map (·.1)).length 0=(s:Int)):=by
      unfold Hid;have h2:=zeb HALL.out.1 s;have:=zn8 zs 0 s (zs.getD s 0-(l'+1:Nat)).toNat HALL.out.1 (by rw [HL.out];exact hs) (by omega)
      rw [show (zs.take s).sum.toNat+(zs.getD s 0-(l'+1:Nat)).toNat=(pre.map (·.1)).length from by rw [List.length_map];omega,Nat.zero_add] at this
      exact this
     have hlen:=z1r (fl 0 zs) (pre.map (·.1));have hc:=zma hw.tab x (by rw [hlen];exact hx)
     have hf:=frozen_of_row wr _ x _ _ hw.tab;have HW2:Hid (SpW w ((wr.setCell ⟨G+1+1,x,none⟩ (.int .i64 s)).setCell ⟨Lf,0,none⟩ (.int .i64 l')) (.slice (some ⟨b1,o1,none⟩) (L'+1) cap) G S Lf (pl (fl 0 zs) ((pre++[(⟨x,hx⟩:P64)]).map (·.1))) s l'):=by
      have:=(hw.setT hS hLf x (s:Int)).setL hLf hne l';rw [List.map_append,List.map_cons,List.map_nil,zad,HFL.out];exact this
     have HSUM:Hid ((zs.take s).sum+zs.getD s 0-l'=((pre++[(⟨x,hx⟩:P64)]).length:Int)):=by unfold Hid;rw [List.length_append,List.length_singleton];omega
     have HLE:Hid ((l':Int)<=zs.getD s 0):=by unfold Hid;omega
     have hlb:(l':Int)<=64:=by omega
     have hTS:G+1+1≠S:=by omega
     have hTL:G+1+1≠Lf:=by omega
     have hST:=hTS.symm;have hLT:=hTL.symm;generalize (pl (fl 0 zs) (pre.map (·.1))).getD x 0=old at *;clear hw hle hsum h1s hgs hko hlen
     gi_wp2
     have hk2:=(HKO.out.trans (KeepsOthers.setCell wr ⟨G+1+1,x,none⟩ (.int .i64 s))).trans (KeepsOthers.setCell _ ⟨Lf,0,none⟩ (.int .i64 l'));exact ⟨hk2,hk2.walks,s,l',hs,HLE.out,HSUM.out,HW2.out⟩
  case done=>
   rintro D ys W hD hys ⟨s,left,hs,hle,hsum,hw⟩ hK;rw [hys] at hw;have hlen:=z1r (fl 0 zs) (plc 64);have hsz:(((pl (fl 0 zs) (plc 64)).map (Value.int .i64)).toArray).size=64:=by simp [hlen]
   have hlv:=run_loadVar_row (P:=Tryz.prog) W (G+1+1) 247 247 _ (0,0) _ hw.tab Tryz.underlying247 rfl (by rw [hsz];kernel_rfl)
   have hsv:=run_storeVar_row (P:=Tryz.prog) W (G+1) 247 247 Z64 _ hw.rs (by rw [hsz];kernel_rfl) (by rw [hsz];rfl) (by simp [Value.oneCell'])
   have HLV:Hid _:=hlv;have HSV:Hid _:=hsv;have HWW:Hid (SpW w W (.slice (some ⟨b1,o1,none⟩) (L'+1) cap) G S Lf (pl (fl 0 zs) (plc 64)) s left):=hw;clear hlv hsv hw
   simp only [Exit.then,Exit.inBlock]
   gi_step
   apply wpIn_seq_k
   intro _ _
   apply wpIn_region_lit
   refine z6d rfl 247 (.tmp 3) rfl (G+1+1) rfl _ HLV.out ?_;refine z5v rfl 247 (.tmp 2) (.tmp 24) rfl (G+1) rfl _ rfl HSV.out ?_
   apply wpListIn_nil
   gi_wp2
   have hD1:G+1<D:=by
    have h2:=(Array.getElem?_eq_some_iff.1 H1.out.tab).1
    omega
   generalize hE:((pl (fl 0 zs) (plc 64)).map (Value.int .i64)).toArray=E at *;have hK':(W.setRow (G+1) E).heap[D]?=some (.deferred (some [])):=(setRow_other _ _ _ _ (by omega)).trans hK
   have hr1:(W.setRow (G+1) E).heap[G+1]?=some (.cells E 247 (0,0)):=setRow_heap _ _ _ _ _ _ HWW.out.rs;have hr2:((W.setRow (G+1) E).putObj D (.deferred none)).heap[G+1]?=some (.cells E 247 (0,0)):=(World.putObj_heap_other (by omega)).trans hr1
   have hlast:=run_loadVar_row (P:=Tryz.prog) _ (G+1) 247 247 E (0,0) _ hr2 Tryz.underlying247 rfl (by rw [hsz];kernel_rfl)
   refine ⟨by simp,.inl ⟨_,_,rfl,run_takeDeferred hK',?_⟩⟩
   refine ⟨.agg E,?_,rfl,?_⟩
   ·rw [zc6 Tryz.results188]
    exact hlast
   ·rw [HG.out]
    exact (zbq HWW.out.bel (by omega) _).trans (belowK_b (w:=W1) HW1.out _ D _ _ hD hK' rfl rfl)
  case stop=>
   rintro D c pre W _ _ h _;exact h.elim
end Go.Proofs.YtjmcjbmjgpponaaGreatDoor
