/- Lemmas on the way. -/
import Derived.Test.YtfeokafkhnbdiaaGreatDoorHGet3
import Derived.Test.YtfeokafkhnbdiaaGreatDoorSy1
import Derived.BigRegion
import Derived.BigQuiet
import Derived.Test.YtfeokafkhnbdiaaGreatDoorPmB
import Derived.Test.YtfeokafkhnbdiaaGreatDoorReader
set_option maxRecDepth 20000
set_option maxHeartbeats 16000000
namespace Go.Proofs.YtfeokafkhnbdiaaGreatDoor
set_option linter.unusedVariables false
theorem atL_split (zs:List Int) (L k n:Nat) (h:k≤n):∃ r,atL zs L n=atL zs L k++r∧∀ t ∈ r,(k:Int)≤t:=by
 induction n with
 | zero => obtain rfl : k = 0 := by omega
           exact ⟨[],by simp,by simp⟩
 | succ n ih=>
  by_cases hk:k≤n
  ·obtain ⟨r,h1,h2⟩:=ih hk
   by_cases hz:zs.getD n 0=(L:Int)
   ·refine ⟨r++[(n:Int)],by rw [atL_yes zs L n hz,h1,List.append_assoc],fun t ht=>?_⟩
    rcases List.mem_append.1 ht with h | h
    ·exact h2 t h
    ·simp at h;omega
   ·exact ⟨r,by rw [atL_no zs L n hz];exact h1,h2⟩
  ·obtain rfl:k=n+1:=by omega
   exact ⟨[],by simp,by simp⟩
theorem atL_mono (zs:List Int) (L k n:Nat) (h:k≤n):(atL zs L k).length≤(atL zs L n).length:=by
 obtain ⟨r,h1,_⟩:=atL_split zs L k n h
 rw [h1,List.length_append]
 omega
theorem sbL_split (zs:List Int) (l m:Nat) (h:l≤m):∃ r,sbL zs m=sbL zs l++r∧∀ t ∈ r,∃ s:Nat,t=s∧(l:Int)<zs.getD s 0:=by
 induction m with
 | zero => obtain rfl : l = 0 := by omega
           exact ⟨[],by simp,by simp⟩
 | succ m ih=>
  by_cases hk:l≤m
  ·obtain ⟨r,h1,h2⟩:=ih hk
   refine ⟨r++atL zs (m+1) zs.length,by simp only [sbL];rw [h1,List.append_assoc],fun t ht=>?_⟩
   rcases List.mem_append.1 ht with h | h
   ·exact h2 t h
   ·obtain ⟨s,g1,g2,g3⟩:=atL_mem _ _ _ t h
    exact ⟨s,g1,by omega⟩
  ·obtain rfl:l=m+1:=by omega
   exact ⟨[],by simp,by simp⟩
theorem cst_keep (zs:List Int) (s:Nat) (l:List Int):∀ st:Nat × Nat × List Int,(∀ t ∈ l,t.toNat≠s)→(l.foldl (cst zs) st).2.2.getD s 0=st.2.2.getD s 0:=by
 induction l with
 | nil=>intro st _;rfl
 | cons t l ih=>
  intro st h
  rw [List.foldl_cons,ih _ (fun x hx=>h x (by simp [hx]))]
  have:=h t (by simp)
  simp only [cst,List.getD_eq_getElem?_getD,List.getElem?_set_ne this]
theorem crun_keep (zs l r:List Int) (s:Nat) (h:∀ t ∈ r,t.toNat≠s):(crun zs (l++r)).2.2.getD s 0=(crun zs l).2.2.getD s 0:=by
 unfold crun
 rw [List.foldl_append]
 exact cst_keep zs s r _ h
def fcd (zs:List Int) (M:Nat):Nat:=cv zs (sbL zs (M-1)) M
theorem cv_run (zs:List Int) (M k:Nat):cv zs (sbL zs (M-1)++atL zs M k) M=fcd zs M+(atL zs M k).length:=by
 induction k with
 | zero=>simp [atL_zero,fcd]
 | succ k ih=>
  by_cases hz:zs.getD k 0=(M:Int)
  ·have hzn:zN zs (k:Int)=M:=by unfold zN;rw [Int.toNat_natCast,hz];simp
   rw [atL_yes zs M k hz,←List.append_assoc,(cv_snoc zs _ (k:Int) M hzn).1,ih]
   simp
   omega
  ·rw [atL_no zs M k hz];exact ih
theorem code_at (zs:List Int) (M s:Nat) (h1:1≤M) (h2:M≤12) (hs:s<zs.length) (hz:zs.getD s 0=(M:Int)):(crun zs (sbL zs 12)).2.2.getD s 0=((fcd zs M+(atL zs M s).length:Nat):Int):=by
 obtain ⟨r,e1,m1⟩:=sbL_split zs M 12 h2
 obtain ⟨r2,e2,m2⟩:=atL_split zs M (s+1) zs.length hs
 have e3:sbL zs M=sbL zs (M-1)++atL zs M zs.length:=by
  obtain ⟨l,rfl⟩:∃ l,M=l+1:=⟨M-1,by omega⟩
  rfl
 have e4:sbL zs 12=((sbL zs (M-1)++atL zs M s)++[(s:Int)])++(r2++r):=by
  rw [e1,e3,e2,atL_yes zs M s hz]
  simp
 have hzn:zN zs (s:Int)=M:=by unfold zN;rw [Int.toNat_natCast,hz];simp
 rw [e4,crun_keep,(cv_snoc zs _ (s:Int) M hzn).2,cv_run]
 ·rw [Int.toNat_natCast,List.getD_eq_getElem?_getD,List.getElem?_set_self (by rw [crun_len];exact hs)]
  rfl
 ·intro t ht
  rcases List.mem_append.1 ht with h | h
  ·have:=m2 t h;omega
  ·obtain ⟨y,rfl,hy⟩:=m1 t h
   rw [Int.toNat_natCast]
   rintro rfl
   omega
theorem at_rank (zs:List Int) (M:Nat):∀ n j,j<(atL zs M n).length→∃ s:Nat,(atL zs M n).getD j 0=s∧s<n∧zs.getD s 0=(M:Int)∧(atL zs M s).length=j:=by
 intro n
 induction n with
 | zero=>intro j hj;simp [atL_zero] at hj
 | succ n ih=>
  intro j hj
  by_cases hz:zs.getD n 0=(M:Int)
  ·rw [atL_yes zs M n hz] at hj ⊢
   by_cases hjn:j<(atL zs M n).length
   ·obtain ⟨s,g1,g2,g3,g4⟩:=ih j hjn
    refine ⟨s,?_,by omega,g3,g4⟩
    rw [List.getD_eq_getElem?_getD,List.getElem?_append_left hjn,←List.getD_eq_getElem?_getD]
    exact g1
   ·have hje:j=(atL zs M n).length:=by simp at hj;omega
    refine ⟨n,?_,by omega,hz,hje.symm⟩
    rw [hje]
    simp [List.getD_eq_getElem?_getD]
  ·rw [atL_no zs M n hz] at hj ⊢
   obtain ⟨s,g1,g2,g3,g4⟩:=ih j hj
   exact ⟨s,g1,by omega,g3,g4⟩
structure Sy (ls:List Int) (v p k:Nat) (c f a:Nat):Prop where
 hc:c=cd v p k
 hf:f=cv ls (sbL ls k) k
 ha:a=(sbL ls k).length
 le:f≤c
 no:NoHit ls (crun ls (sbL ls 12)).2.2 v p k
theorem sy_zero (ls:List Int) (v p:Nat):Sy ls v p 0 0 0 0:=⟨rfl,(cv_nil ls).symm,rfl,Nat.le_refl _,fun j i h1 h2=>by omega⟩
theorem fcd_succ (ls:List Int) (k:Nat):fcd ls (k+1)=2*cv ls (sbL ls k) k:=by
 unfold fcd
 rw [Nat.add_sub_cancel,cv_double ls _ k (cr_ln ls _ _ (zN_sb ls k)),Nat.mul_comm]
theorem cv_full (ls:List Int) (k:Nat):cv ls (sbL ls (k+1)) (k+1)=fcd ls (k+1)+(atL ls (k+1) ls.length).length:=cv_run ls (k+1) ls.length
theorem sy_next {ls:List Int} {v p k c f a b:Nat} (h:Sy ls v p k c f a) (hk:k<12) (hb:b=v / 2 ^ (p+k) % 2) (hn:¬2*c+b-2*f<(atL ls (k+1) ls.length).length) :
  Sy ls v p (k+1) (2*c+b) (2*f+(atL ls (k+1) ls.length).length) (a+(atL ls (k+1) ls.length).length):=by
 have hc:2*c+b=cd v p (k+1):=by simp only [cd];rw [hb,h.hc]
 have hf:2*f+(atL ls (k+1) ls.length).length=cv ls (sbL ls (k+1)) (k+1):=by rw [cv_full,fcd_succ,←h.hf]
 have hle:=h.le
 refine ⟨hc,hf,by rw [h.ha];simp only [sbL,List.length_append],by omega,fun j i h1 h2 h3 hh=>?_⟩
 by_cases hj:j=k+1
 ·subst hj
  obtain ⟨g1,g2⟩:=hh
  have g3:=code_at ls (k+1) i h1 (by omega) h3 g1
  rw [g3] at g2
  have g4:=atL_yes ls (k+1) i g1
  have g5:=atL_mono ls (k+1) (i+1) ls.length h3
  rw [g4,List.length_append] at g5
  simp only [List.length_singleton] at g5
  have g6:=fcd_succ ls k
  rw [←h.hf] at g6
  omega
 ·exact h.no j i h1 (by omega) h3 hh
theorem sy_hit {ls:List Int} {n v p k c f a b:Nat} (h:Sy ls v p k c f a) (hk:k<12) (hp:p+k<n) (hb:b=v / 2 ^ (p+k) % 2) (hn:2*c+b-2*f<(atL ls (k+1) ls.length).length) :
  ∃ s:Nat,(sbL ls 12).getD (a+(2*c+b-2*f)) 0=s∧s<ls.length∧a+(2*c+b-2*f)<(sbL ls 12).length∧One ls (crun ls (sbL ls 12)).2.2 n v p s (k+1):=by
 have hc:2*c+b=cd v p (k+1):=by simp only [cd];rw [hb,h.hc]
 have hle:=h.le
 have g6:=fcd_succ ls k
 rw [←h.hf] at g6
 obtain ⟨s,g1,g2,g3,g4⟩:=at_rank ls (k+1) ls.length _ hn
 obtain ⟨r,e1,_⟩:=sbL_split ls (k+1) 12 hk
 have e2:sbL ls 12=sbL ls k++(atL ls (k+1) ls.length++r):=by rw [e1];simp only [sbL];rw [List.append_assoc]
 have hca:=code_at ls (k+1) s (by omega) (by omega) g2 g3
 refine ⟨s,?_,g2,?_,by omega,by omega,by omega,g2,⟨g3,?_⟩,?_,h.no⟩
 ·rw [e2,h.ha,List.getD_eq_getElem?_getD,List.getElem?_append_right (by omega),Nat.add_sub_cancel_left,List.getElem?_append_left hn,←List.getD_eq_getElem?_getD]
  exact g1
 ·rw [e2,h.ha]
  simp only [List.length_append]
  omega
 ·rw [hca,←hc]
  omega
 ·rintro j hj ⟨q1,q2⟩
  have q3:=code_at ls (k+1) j (by omega) (by omega) (by omega) q1
  rw [q3] at q2
  have q4:=atL_yes ls (k+1) j q1
  have q5:=atL_mono ls (k+1) (j+1) s hj
  rw [q4,List.length_append] at q5
  simp only [List.length_singleton] at q5
  omega
theorem sy_bound {ls:List Int} {v p k c f a:Nat} (h:Sy ls v p k c f a) (hk:k≤12) (hl:ls.length≤80):c≤4096∧f≤4096∧a≤960:=by
 have h1:=cd_lt v p k
 have h2:2 ^ k≤2 ^ 12:=Nat.pow_le_pow_right (by omega) hk
 have h3:=sbL_len ls k
 have h4:k*ls.length≤12*80:=Nat.mul_le_mul hk hl
 have h5:=h.hc;have h6:=h.le;have h7:=h.ha
 omega
end Go.Proofs.YtfeokafkhnbdiaaGreatDoor
namespace Go.Proofs.YtfeokafkhnbdiaaGreatDoor
open Go.RowKit
set_option linter.unusedVariables false
def hst (zs:List Int) (ms:List Int) (s:Int):List Int:=ms.set (zN zs s) (ms.getD (zN zs s) 0+1)
def hm (zs l:List Int):List Int:=l.foldl (hst zs) (List.replicate 13 0)
theorem hm_snoc (zs l:List Int) (s:Int):hm zs (l++[s])=hst zs (hm zs l) s:=by simp [hm,List.foldl_append]
theorem hm_len (zs l:List Int):(hm zs l).length=13:=by
 have:∀ (l ms:List Int),(l.foldl (hst zs) ms).length=ms.length:=by
  intro l
  induction l with
  | nil=>intro ms;rfl
  | cons s l ih=>intro ms;rw [List.foldl_cons,ih];simp [hst]
 unfold hm
 rw [this]
 simp
theorem hm_get (zs l:List Int) (j:Nat) (hj:j<13):(hm zs l).getD j 0=((l.countP (fun s=>decide (zN zs s=j)):Nat):Int):=by
 have:∀ (l ms:List Int),ms.length=13→(l.foldl (hst zs) ms).getD j 0=ms.getD j 0+((l.countP (fun s=>decide (zN zs s=j)):Nat):Int):=by
  intro l
  induction l with
  | nil=>intro ms _;simp
  | cons s l ih=>
   intro ms hm
   rw [List.foldl_cons,ih _ (by simp [hst,hm]),List.countP_cons]
   simp only [hst]
   by_cases h:zN zs s=j
   ·rw [h]
    rw [show (ms.set j (ms.getD j 0+1)).getD j 0=ms.getD j 0+1 from by rw [List.getD_eq_getElem?_getD,List.getElem?_set_self (by omega)];rfl]
    simp
    omega
   ·rw [show (ms.set (zN zs s) (ms.getD (zN zs s) 0+1)).getD j 0=ms.getD j 0 from by simp only [List.getD_eq_getElem?_getD,List.getElem?_set_ne h]]
    simp [h]
 unfold hm
 rw [this l _ (by simp)]
 have e:(List.replicate 13 (0:Int)).getD j 0=0:=by
  rw [List.getD_eq_getElem?_getD,List.getElem?_replicate];split <;> rfl
 rw [e]
 simp
theorem hm_at (zs:List Int) (j:Nat) (h1:1≤j) (h2:j≤12):(hm zs (sbL zs 12)).getD j 0=(((atL zs j zs.length).length:Nat):Int):=by
 rw [hm_get zs _ j (by omega)]
 obtain ⟨r,e1,m1⟩:=sbL_split zs j 12 h2
 have e3:sbL zs j=sbL zs (j-1)++atL zs j zs.length:=by
  obtain ⟨l,rfl⟩:∃ l,j=l+1:=⟨j-1,by omega⟩
  rfl
 rw [e1,e3,List.countP_append,List.countP_append]
 have c1:(sbL zs (j-1)).countP (fun s=>decide (zN zs s=j))=0:=List.countP_eq_zero.2 (fun a ha=>by have:=zN_sb zs (j-1) a ha;simp;omega)
 have c2:(atL zs j zs.length).countP (fun s=>decide (zN zs s=j))=(atL zs j zs.length).length:=List.countP_eq_length.2 (fun a ha=>by have:=zN_at zs j zs.length a ha;simpa using this)
 have c3:r.countP (fun s=>decide (zN zs s=j))=0:=List.countP_eq_zero.2 (fun a ha=>by
  obtain ⟨s,rfl,hs⟩:=m1 a ha
  have hh:zN zs ((s:Nat):Int)≠j:=by
   unfold zN
   rw [Int.toNat_natCast]
   omega
  simpa using hh)
 rw [c1,c2,c3]
 simp
structure HR (w:World) (H R:Nat) (ms:List Int) (ao:Option Addr) (ol co:Nat):Prop where
 h:w.heap[H]?=some (.cells (Value.pointer (some ⟨R,0,none⟩) :: (ms.map (Value.int .i64)++[.slice ao ol co])).toArray 241 (0,0))
 l:ms.length=13
theorem HR.c0 {w:World} {H R:Nat} {ms:List Int} {ao:Option Addr} {ol co:Nat} (h:HR w H R ms ao ol co):w.cell? ⟨H,0,none⟩=some (.pointer (some ⟨R,0,none⟩)):=cellRR h.h (by simp)
theorem HR.cm {w:World} {H R:Nat} {ms:List Int} {ao:Option Addr} {ol co:Nat} (h:HR w H R ms ao ol co) (i:Nat) (hi:i<13):w.cell? ⟨H,1+i,none⟩=some (.int .i64 (ms.getD i 0)):=by
 have hl:=h.l
 refine cellRR h.h ?_
 rw [Nat.add_comm 1 i]
 simp only [List.getElem?_toArray,List.getElem?_cons_succ]
 rw [List.getElem?_append_left (by simp;omega)]
 simp [List.getElem?_eq_getElem (show i<ms.length by omega)]
theorem HR.co {w:World} {H R:Nat} {ms:List Int} {ao:Option Addr} {ol co:Nat} (h:HR w H R ms ao ol co):w.cell? ⟨H,14,none⟩=some (.slice ao ol co):=by
 have hl:=h.l
 refine cellRR h.h ?_
 simp only [List.getElem?_toArray,List.getElem?_cons_succ]
 rw [List.getElem?_append_right (by simp;omega)]
 simp [hl]
theorem HR.frz {w:World} {H R:Nat} {ms:List Int} {ao:Option Addr} {ol co:Nat} (h:HR w H R ms ao ol co) (j:Nat):w.frozen? ⟨H,j,none⟩=false:=frozen_of_row w H j _ _ h.h
theorem HR.lt {w:World} {H R:Nat} {ms:List Int} {ao:Option Addr} {ol co:Nat} (h:HR w H R ms ao ol co):H<w.heap.size:=(Array.getElem?_eq_some_iff.1 h.h).1
theorem HR.only {w w':World} {H R:Nat} {ms:List Int} {ao:Option Addr} {ol co:Nat} {S:Nat→Prop} (h:HR w H R ms ao ol co) (ho:Only S w w') (hs:¬S H):HR w' H R ms ao ol co:=⟨(ho.block H h.lt hs).trans h.h,h.l⟩
theorem HR.store {w:World} {H R:Nat} {ms:List Int} {ao:Option Addr} {ol co:Nat} (h:HR w H R ms ao ol co) (i:Nat) (z:Int) (hi:i<13):HR (w.setCell ⟨H,1+i,none⟩ (.int .i64 z)) H R (ms.set i z) ao ol co:=by
 have hl:=h.l
 refine ⟨?_,by simpa using hl⟩
 rw [heap_setCell_same _ H (1+i) _ _ _ h.h]
 congr 2
 rw [Nat.add_comm 1 i]
 apply Array.ext'
 simp only [Array.toList_setIfInBounds,List.set_cons_succ]
 rw [List.set_append_left _ _ (by simp;omega),List.map_set]
theorem newHuffReader_any (a:Option Addr) (ca:Nat) (ls:List Int) (R:Nat) (w:World) (ha:Ins w a ls) (hl:ls.length≤80) :
  Calls Tryz.prog 153 #[.slice a ls.length ca,.pointer (some ⟨R,0,none⟩)] w fun e w'=>∃ H ao co,e=.returned (.pointer (some ⟨H,0,none⟩))∧HR w' H R (hm ls (sbL ls 12)) ao (sbL ls 12).length co∧MinI w' w.heap.size H ao co (sbL ls 12)∧w.heap.size≤H∧Below w.heap.size w w':=by
 have HSY:=syms_any a ca ls w ha hl
 have hodl:(sbL ls 12).length≤2000:=by have:=sbL_len ls 12;omega
 have HMEM:Hid _:=sbL_mem ls 12
 have HST:Hid (∀ t,t<(sbL ls 12).length→hm ls ((sbL ls 12).take (t+1))=hst ls (hm ls ((sbL ls 12).take t)) ((sbL ls 12).getD t 0)):=fun t ht=>by rw [take_snoc _ t ht,hm_snoc]
 have HCE:Hid (hm ls ((sbL ls 12).take (sbL ls 12).length)=hm ls (sbL ls 12)):=by unfold Hid;rw [List.take_length]
 have HBD:Hid (∀ t j,j<13→0≤(hm ls ((sbL ls 12).take t)).getD j 0∧(hm ls ((sbL ls 12).take t)).getD j 0≤2000):=fun t j hj=>by
  rw [hm_get ls _ j hj]
  have h1:=List.countP_le_length (p:=fun s=>decide (zN ls s=j)) (l:=(sbL ls 12).take t)
  have h2:=List.length_take_le t (sbL ls 12)
  have h3:((sbL ls 12).take t).length≤(sbL ls 12).length:=by rw [List.length_take];omega
  omega
 generalize sbL ls 12=od at *
 generalize hlen:ls.length=n at *
 have HL:Hid (ls.length=n):=hlen
 clear hlen
 generalize hN:od.length=N at *
 have HN:Hid (od.length=N):=hN
 clear hN
 go_enter Tryz.func153,Tryz.ntmps153
 go_wp2_with fail
 refine HSY.mono ?_
 clear HSY
 rintro e w1 ⟨ao,co,rfl,hmo,hb1⟩
 have hR0:HR (w1.alloc (Obj.cells #[.pointer (some ⟨R,0,none⟩),.int .i64 0,.int .i64 0,.int .i64 0,.int .i64 0,.int .i64 0,.int .i64 0,.int .i64 0,.int .i64 0,.int .i64 0,.int .i64 0,.int .i64 0,.int .i64 0,.int .i64 0,.slice ao N co] 241)) w1.heap.size R (hm ls (od.take 0)) ao N co:=⟨heap_alloc_new w1 _,by rw [hm_len]⟩
 have hA0:Below w1.heap.size w1 (w1.alloc (Obj.cells #[.pointer (some ⟨R,0,none⟩),.int .i64 0,.int .i64 0,.int .i64 0,.int .i64 0,.int .i64 0,.int .i64 0,.int .i64 0,.int .i64 0,.int .i64 0,.int .i64 0,.int .i64 0,.int .i64 0,.int .i64 0,.slice ao N co] 241)):=bAw
 go_wp2
 generalize w1.alloc (Obj.cells #[.pointer (some ⟨R,0,none⟩),.int .i64 0,.int .i64 0,.int .i64 0,.int .i64 0,.int .i64 0,.int .i64 0,.int .i64 0,.int .i64 0,.int .i64 0,.int .i64 0,.int .i64 0,.int .i64 0,.int .i64 0,.slice ao N co] 241)=W at *
 have HHR:Hid (HR W w1.heap.size R (hm ls (od.take 0)) ao N co):=hR0
 have HMO:Hid (MinI W w.heap.size w1.heap.size ao co od):=hmo.below hA0
 have HBW:Hid (Below w.heap.size w W):=hb1.trans (hA0.mono hb1.size)
 have hHs:w.heap.size≤w1.heap.size:=hb1.size
 clear hR0 hA0 hmo hb1
 generalize w1.heap.size=H at *
 go_loopw [18] (fun i wr=>∃ t:Nat,t≤N∧i=.int .i64 t∧HR wr H R (hm ls (od.take t)) ao N co∧MinI wr w.heap.size H ao co od∧Below w.heap.size w wr) (fun i _=>N-(intOf i).toNat)
 case atStart=>exact ⟨0,Nat.zero_le _,rfl,HHR.out,HMO.out,HBW.out⟩
 case round=>
  clear HHR HMO HBW
  obtain ⟨t,ht,rfl,hhr,hmo,hbel⟩:=hrel
  have HHR:Hid (HR wr H R (hm ls (od.take t)) ao N co):=hhr
  have HM:Hid (MinI wr w.heap.size H ao co od):=hmo
  have HBL:Hid (Below w.heap.size w wr):=hbel
  have hHlt:=hhr.lt
  clear hhr hmo hbel
  by_cases hlt:t<N
  ·obtain ⟨b1,o1,rfl,hb1,hc1⟩:=HM.out.byt.len_pos t (by rw [HN.out];exact hlt)
   have hs1:=hc1 t (by rw [HN.out];exact hlt)
   obtain ⟨sn,hse,hsn,hz1,hz2⟩:=HMEM.out _ (getD_mem (k:=t) (by rw [HN.out];exact hlt))
   have HS:=HST.out t hlt
   rw [hse] at hs1 HS
   obtain ⟨b2,o2,rfl,hb2,hc2⟩:=(ha.below HBL.out nl).len_pos sn (by rw [HL.out];exact hsn)
   have hs2:=hc2 sn (by rw [HL.out];exact hsn)
   clear hc1 hc2 hse
   simp only [hst,zN,Int.toNat_natCast] at HS
   generalize hzz:ls.getD sn 0=z at *
   obtain ⟨y,rfl⟩:∃ j:Nat,z=j:=⟨z.toNat,by omega⟩
   simp only [Int.toNat_natCast] at HS
   have hy:y<13:=by omega
   have hcm:=HHR.out.cm y hy
   have hfz:=HHR.out.frz (1+y)
   have hbd:=HBD.out t y hy
   have HR2:=HHR.out.store y ((hm ls (od.take t)).getD y 0+1) hy
   rw [←HS] at HR2
   generalize (hm ls (od.take t)).getD y 0=c at *
   have HO2:Hid (Only (fun b=>b=H) wr (wr.setCell ⟨H,1+y,none⟩ (.int .i64 (c+1)))):=Only.setCell (Only.refl (fun b=>b=H) wr) (p:=⟨H,1+y,none⟩) (.inl rfl) _
   have HHR2:Hid (HR (wr.setCell ⟨H,1+y,none⟩ (.int .i64 (c+1))) H R (hm ls (od.take (t+1))) (some ⟨b1,o1,none⟩) N co):=HR2
   have HM2:Hid (MinI (wr.setCell ⟨H,1+y,none⟩ (.int .i64 (c+1))) w.heap.size H (some ⟨b1,o1,none⟩) co od):=HM.out.only HO2.out (fun k _ h2=>by omega)
   have HB2:Hid (Below w.heap.size w (wr.setCell ⟨H,1+y,none⟩ (.int .i64 (c+1)))):=HBL.out.setCell (p:=⟨H,1+y,none⟩) hHs _
   clear HR2 HS HM HBL HHR HO2
   go_wp2
   go_region
   go_wp2
   go_roundw
   case rel=>exact ⟨t+1,by omega,by go_num,⟨HHR2.out.h,HHR2.out.l⟩,HM2.out,HB2.out.drew⟩
   case measure=>simp [intOf];omega
  ·have hkn:t=N:=by omega
   subst hkn
   rw [HCE.out] at HHR
   go_wp2
   go_ret
   exact ⟨H,ao,co,rfl,HHR.out,HM.out,hHs,HBL.out⟩
theorem symbol_any (H R B Bo:Nat) (ao:Option Addr) (co:Nat) (ls:List Int) (a:Option Addr) (cap:Nat) (zs:List Int) (n v p:Nat) (w0 w:World) (hb:Byt w0 a zs) (hB:w0.heap.size=B) (hbel:Below B w0 w) (hz:zs=enc n v) (hn:n≤4096) (hp:p≤n) (hl:ls.length≤80)
  (hH:HR w H R (hm ls (sbL ls 12)) ao (sbL ls 12).length co) (hM:MinI w Bo H ao co (sbL ls 12)) (hR:RD w B R a zs.length cap n p) (hRo:R<Bo) (hRH:R<H)
  (s0:Sent w0 5) (s1:Sent w0 11) (s2:Sent w0 20) (hG:5<B∧11<B∧20<B) :
  Calls Tryz.prog 161 #[.pointer (some ⟨H,0,none⟩)] w fun e w'=>Only (fun k=>k=R) w w' ∧
   ((∃ i k, One ls (crun ls (sbL ls 12)).2.2 n v p i k ∧ e = .returned (.tuple #[.int .i64 (i : Nat), .nilIface]) ∧ RD w' B R a zs.length cap n (p + k)) ∨
    (NoHit ls (crun ls (sbL ls 12)).2.2 v p (min 12 (n-p))∧∃ T x u,e=.returned (.tuple #[u,.iface T x]))):=by
 have hodl:(sbL ls 12).length≤2000:=by have:=sbL_len ls 12;omega
 have HRG:Hid (∀ z ∈ sbL ls 12,0≤z∧z≤80):=fun z hz=>by obtain ⟨s,h1,h2,_⟩:=sbL_mem ls 12 z hz;omega
 have HHR:Hid _:=hH
 have HM:Hid (MinI w Bo H ao co (sbL ls 12)):=hM
 have HRD:Hid _:=hR
 have HZ:Hid (zs=enc n v):=hz
 have HBB:Hid (Byt w0 a zs):=hb
 have HBE:Hid (Below B w0 w):=hbel
 have HWB:Hid (w0.heap.size=B):=hB
 have HBR:Hid (B≤R∧B≤w.heap.size):=⟨hR.2.1,hR.2.2⟩
 clear hH hM hR hz hb hbel hB
 go_enter Tryz.func161,Tryz.ntmps161
 go_wp2
 go_loopw [4,5,6,7] (fun c f x l wr=>∃ (k cn fn xn:Nat) (y:Int),y=(k:Int)+1∧k≤12∧p+k≤n∧Sy ls v p k cn fn xn∧c=.int .i64 cn∧f=.int .i64 fn∧x=.int .i64 xn∧l=.int .i64 y∧RD wr B R a zs.length cap n (p+k)∧Only (fun k=>k=R) w wr) (fun _ _ _ l _=>(13-intOf l).toNat)
 case atStart=>exact ⟨0,0,0,0,1,by simp,by omega,by omega,sy_zero ls v p,rfl,rfl,rfl,rfl,HRD.out,Only.refl _ _⟩
 case round=>
  clear HRD
  obtain ⟨k,cn,fn,xn,y,hy,hk,hpk,hsy,rfl,rfl,rfl,rfl,hrd,hon⟩:=hrel
  obtain ⟨hcb,hfb,hxb⟩:=sy_bound hsy hk hl
  have HSY:Hid (Sy ls v p k cn fn xn):=hsy
  have HRD:Hid (RD wr B R a zs.length cap n (p+k)):=hrd
  have HON:Hid (Only (fun k=>k=R) w wr):=hon
  have HBW:Hid (Below B w0 wr):=HBE.out.trans (hon.below HBR.out.2 (fun j hj=>by rw [hj];exact HBR.out.1))
  have hH2:HR wr H R (hm ls (sbL ls 12)) ao (sbL ls 12).length co:=HHR.out.only hon (by omega)
  have c0:=hH2.c0
  have c14:=hH2.co
  have hle:=hsy.le
  have HH2:Hid _:=hH2
  have hyb:1≤y∧y≤13:=by omega
  clear hsy hrd hon hH2
  have HY:Hid (y=(k:Int)+1):=hy
  have hfc:(fn:Int)≤cn:=by omega
  by_cases h12:k<12
  ·have hy12:y≤12:=by omega
   have HYT:Hid (y.toNat=k+1):=by unfold Hid;omega
   clear hy
   by_cases hpn:p+k<n
   ·have HGET:=HRD.out.yes v 1 (by omega) (HBB.out.below HBW.out (by rw [HWB.out];exact Nat.le_refl _)) HZ.out (by omega) (by omega) (by omega)
    go_wp2_with fail
    refine HGET.mono ?_
    clear HGET
    rintro e w2 ⟨rfl,hrd2,hon2,hb2⟩
    have HRD2:Hid (RD w2 B R a zs.length cap n (p+k+1)):=by simpa [Hid] using hrd2
    have HON2:Hid (Only (fun k=>k=R) w w2):=HON.out.trans hon2
    have hH3:=HH2.out.only hon2 (by omega)
    have d14:=hH3.co
    have dm:=hH3.cm (k+1) (by omega)
    rw [hm_at ls (k+1) (by omega) (by omega),←HYT.out] at dm
    have HBT:(v / 2 ^ (p+k) % 2 ^ (1:Int).toNat)=v / 2 ^ (p+k) % 2:=by simp
    rw [HBT]
    have hbit:v / 2 ^ (p+k) % 2<2:=Nat.mod_lt _ (by omega)
    have HNX:=fun h=>sy_next (b:=v / 2 ^ (p+k) % 2) HSY.out h12 rfl h
    have HHT:=fun h=>sy_hit (n:=n) (b:=v / 2 ^ (p+k) % 2) HSY.out h12 hpn rfl h
    have HM3:Hid (MinI w2 Bo H ao co (sbL ls 12)):=HM.out.only HON2.out (fun j h1 h2=>by omega)
    have hmb:=atL_len ls (k+1) ls.length
    rw [HYT.out] at dm
    generalize (atL ls (k+1) ls.length).length=m at *
    generalize v / 2 ^ (p+k) % 2=b at *
    rw [←HYT.out] at dm
    clear hrd2 hon2 hb2 hH3 HBT HSY HRD HON c0 c14 HH2 HBW HHR
    by_cases hhit:2*cn+b-2*fn<m
    ·obtain ⟨s,q1,q2,q3,q4⟩:=HHT hhit
     have HQ4:Hid _:=q4
     obtain ⟨b1,o1,rfl,hb1,hc1⟩:=HM3.out.byt.len_pos (xn+(2*cn+b-2*fn)) q3
     have hs1:=hc1 _ q3
     rw [q1] at hs1
     have HIX:Hid ((xn:Int)+(2*cn+b)-fn*2=((xn+(2*cn+b-2*fn):Nat):Int)):=by unfold Hid;omega
     have hdl:(2*(cn:Int)+b-fn*2<m):=by omega
     have HQ3:Hid (xn+(2*cn+b-2*fn)<(sbL ls 12).length):=q3
     clear hc1 q1 q4 HHT HNX HM3 hhit q3 hpk
     generalize hix:xn+(2*cn+b-2*fn)=ix at *
     clear hix
     have hixl:(ix:Int)<(sbL ls 12).length:=by have:=HQ3.out;omega
     generalize (sbL ls 12).length=N at *
     have hE:=HIX.out
     clear HIX
     go_wp2
     refine bodyPost_ret (v:=.tuple #[.int .i64 (s:Nat),.nilIface]) (by simp [results,Tryz.results161,go_sem]) rfl ?_
     exact ⟨HON2.out,.inl ⟨s,k+1,HQ4.out,rfl,by simpa [Nat.add_assoc] using HRD2.out⟩⟩
    ·have HS2:Hid (Sy ls v p (k+1) (2*cn+b) (2*fn+m) (xn+m)):=HNX hhit
     have hdl:¬(2*(cn:Int)+b-fn*2<m):=by omega
     clear HNX HHT HM3 d14 hhit
     go_wp2
     go_roundw
     case rel=>exact ⟨k+1,2*cn+b,2*fn+m,xn+m,y+1,by have:=HY.out;omega,by omega,by omega,HS2.out,by go_num,by go_num,by go_num,by go_num,by simpa [Nat.add_assoc] using HRD2.out,HON2.out⟩
     case measure=>simp [intOf];omega
   ·have HN:Hid (NoHit ls (crun ls (sbL ls 12)).2.2 v p (min 12 (n-p))):=by
     rw [show min 12 (n-p)=k from by omega]
     exact HSY.out.no
    have HGET:=HRD.out.no 1 (by omega) (by omega) (s0.below HBW.out (by omega)) (s1.below HBW.out (by omega)) (by omega)
    go_wp2_with fail
    refine HGET.mono ?_
    clear HGET
    rintro e w2 ⟨⟨T,x,rfl⟩,m,rfl⟩
    clear HSY HRD HH2
    go_wp2
    refine bodyPost_ret (v:=.tuple #[.int .i64 0,.iface T x]) (by simp [results,Tryz.results161,go_sem]) rfl ?_
    exact ⟨HON.out.drewN _,.inr ⟨HN.out,T,x,_,rfl⟩⟩
  ·have hk12:k=12:=by omega
   have HN:Hid (NoHit ls (crun ls (sbL ls 12)).2.2 v p (min 12 (n-p))):=by
    rw [show min 12 (n-p)=k from by omega]
    exact HSY.out.no
   have hy13:¬y≤12:=by omega
   obtain ⟨T,x,hc⟩:=s2.below HBW.out (by omega)
   clear HSY HRD HH2 hy hk12
   go_wp2
   go_quiet (fail)
   go_wp2
   refine bodyPost_ret (v:=.tuple #[.int .i64 0,.iface T x]) (by simp [results,Tryz.results161,go_sem]) rfl ?_
   exact ⟨HON.out.drewN _,.inr ⟨HN.out,T,x,_,rfl⟩⟩
theorem lensB_okG {zs:List Int} (h:lensB zs=true):1≤zs.length∧zs.length≤80∧∀ z ∈ zs,0≤z∧z≤12:=by
 simp only [lensB,decide_eq_true_eq] at h
 exact ⟨h.1,h.2.1,h.2.2.1⟩
/-- text of the program: the reader of codes at H over the reader at R, from place p on. -/
theorem text_any (H R B B0:Nat) (ao:Option Addr) (co:Nat) (ls:List Int) (x:Option Addr) (cx:Nat) (zs:List Int) (n V p N:Nat) (w0 w:World) (hx:Byt w0 x zs) (hB:w0.heap.size=B) (hbel:Below B w0 w) (hz:zs=enc n V) (hn:n≤4096) (hp:p≤n) (hN:N≤300) (hn2:ls.length≤80)
  (hHR:HR w H R (hm ls (sbL ls 12)) ao (sbL ls 12).length co) (hMO:MinI w B0 H ao co (sbL ls 12)) (hRD:RD w B R x zs.length cx n p) (hRH:R<H) (hRB0:R<B0)
  (s0:Sent w0 5) (s1:Sent w0 11) (s2:Sent w0 20) (hG:5<w0.heap.size∧11<w0.heap.size∧20<w0.heap.size) :
  Calls Tryz.prog 154 #[.pointer (some ⟨H,0,none⟩),.int .i64 N] w fun e w'=>Only (fun k=>k=R) w w'∧Below B w0 w' ∧
   ((∃ q E g, q.length = N ∧ Reads ls (crun ls (sbL ls 12)).2.2 n V p q E ∧ OwI w' w.heap.size g N q ∧ RD w' B R x zs.length cx n E ∧ e = .returned (.tuple #[.slice (some ⟨g, 0, none⟩) N N, .nilIface])) ∨
    (∃ q E T y,q.length<N∧Reads ls (crun ls (sbL ls 12)).2.2 n V p q E∧NoHit ls (crun ls (sbL ls 12)).2.2 V E (min 12 (n-E))∧e=.returned (.tuple #[.slice none 0 0,.iface T y]))):=by
 obtain ⟨i0,hi,hz0,hz1,hz2⟩:=info_parts Tryz.infoI64
 have HPK:Hid (Byt w0 x zs∧w0.heap.size=B∧zs=enc n V∧Sent w0 5∧Sent w0 11∧Sent w0 20∧(5<w0.heap.size∧11<w0.heap.size∧20<w0.heap.size)):=⟨hx,hB,hz,s0,s1,s2,hG⟩
 have HW:Hid (HR w H R (hm ls (sbL ls 12)) ao (sbL ls 12).length co∧MinI w B0 H ao co (sbL ls 12)∧RD w B R x zs.length cx n p∧Below B w0 w):=⟨hHR,hMO,hRD,hbel⟩
 have hRlt:R<w.heap.size:=(Array.getElem?_eq_some_iff.1 hRD.1).1
 have hBR:=hRD.2.1
 have hHw:H<w.heap.size:=hHR.lt
 clear hx hB hz s0 s1 s2 hG hHR hMO hRD hbel
 go_enter Tryz.func154,Tryz.ntmps154
 go_wp2_with (at_make;refine wpList_make_full _ rfl _ _ 38 rfl w.heap.size 3 i0 (.int .i64 0) 1 Tryz.underlying38 hi hz0 hz1 .i64 .i64 _ _ N rfl rfl rfl rfl (by rw [hz2];omega) (by unfold maxLen;omega) nl ?_;intro w5 hown hgrow)
 have hbw:Below w.heap.size w w5:=(Below.refl _ _).grown hgrow nl (by intro k hk;cases hk)
 have H0:Hid (OwI w5 w.heap.size w.heap.size N ([]++List.replicate N 0)):=by
  rw [List.nil_append]
  refine ⟨?_,by intro z hz;simp at hz;omega⟩
  rw [made_zeroI] at hown
  simpa using hown
 have HO5:Only (fun _=>False) w w5:=Only.ofBelow (S:=fun _=>False) hbw nl
 have HW5:Hid (HR w5 H R (hm ls (sbL ls 12)) ao (sbL ls 12).length co∧MinI w5 B0 H ao co (sbL ls 12)∧RD w5 B R x zs.length cx n p∧Below B w0 w5∧Only (fun k=>k=R) w w5):=
  ⟨HW.out.1.only HO5 (by simp),HW.out.2.1.only HO5 (by simp),HW.out.2.2.1.only HO5 (by simp),HW.out.2.2.2.trans (hbw.mono HW.out.2.2.1.2.2),Only.ofBelow hbw nl⟩
 clear HW HO5 hbw hown hgrow hi hz0 hz1 hz2
 generalize hg4:w.heap.size=g at *
 have HG4:Hid (w.heap.size=g∧True):=⟨hg4,trivial⟩
 clear hg4
 go_loopw [14] (fun i wr=>∃ (k:Nat) (q:List Int) (P:Nat),k≤N∧q.length=k∧i=.int .i64 k∧Reads ls (crun ls (sbL ls 12)).2.2 n V p q P∧OwI wr g g N (q++List.replicate (N-k) 0)∧HR wr H R (hm ls (sbL ls 12)) ao (sbL ls 12).length co∧MinI wr B0 H ao co (sbL ls 12)∧RD wr B R x zs.length cx n P∧Below B w0 wr∧Only (fun k=>k=R) w wr) (fun i _=>N-(intOf i).toNat)
 case atStart=>exact ⟨0,[],p,Nat.zero_le _,rfl,rfl,.nil,H0.out,HW5.out.1,HW5.out.2.1,HW5.out.2.2.1,HW5.out.2.2.2.1,HW5.out.2.2.2.2⟩
 case round=>
  clear H0 HW5
  obtain ⟨k,q,P,hk,hql,rfl,hrds,hown,hhr,hmo,hrd,hbel,honw⟩:=hrel
  have HS:Hid (q.length=k∧Reads ls (crun ls (sbL ls 12)).2.2 n V p q P∧OwI wr g g N (q++List.replicate (N-k) 0)∧HR wr H R (hm ls (sbL ls 12)) ao (sbL ls 12).length co∧MinI wr B0 H ao co (sbL ls 12)∧RD wr B R x zs.length cx n P∧Below B w0 wr∧Only (fun k=>k=R) w wr∧P≤n):=⟨hql,hrds,hown,hhr,hmo,hrd,hbel,honw,hrds.le hp⟩
  have hgl:=hown.lt.2
  clear hql hrds hown hhr hmo hrd hbel honw
  by_cases hlt:k<N
  ·have HSY:=symbol_any H R B B0 ao co ls x cx zs n V P w0 wr HPK.out.1 HPK.out.2.1 HS.out.2.2.2.2.2.2.1 HPK.out.2.2.1 hn HS.out.2.2.2.2.2.2.2.2 hn2 HS.out.2.2.2.1 HS.out.2.2.2.2.1 HS.out.2.2.2.2.2.1 (by omega) (by omega) HPK.out.2.2.2.1 HPK.out.2.2.2.2.1 HPK.out.2.2.2.2.2.1 (by have h:=HPK.out.2.2.2.2.2.2;rw [HPK.out.2.1] at h;exact h)
   go_wp2_with fail
   refine HSY.mono ?_
   clear HSY
   rintro e w6 ⟨hon,⟨i,m,hone,rfl,hrd6⟩ | ⟨hno,T,y,u,rfl⟩⟩
   ·have hll:(q++List.replicate (N-k) 0).length=N:=by rw [List.length_append,List.length_replicate,HS.out.1];omega
    have hib:i<80:=by have:=hone.2.2.2.1;omega
    have ho6:OwI w6 g g N (q++List.replicate (N-k) 0):=HS.out.2.2.1.only hon (by omega)
    have hdst:=ho6.cell k (by rw [hll];exact hlt)
    have hfz:=ho6.frozen k
    have hset:(q++List.replicate (N-k) (0:Int)).set k ((i:Nat):Int)=(q++[((i:Nat):Int)])++List.replicate (N-(k+1)) 0:=by
     rw [List.set_append_right _ _ (by rw [HS.out.1];exact Nat.le_refl _),HS.out.1,Nat.sub_self,show N-k=(N-(k+1))+1 from by omega,List.replicate_succ,List.set_cons_zero,List.append_assoc]
     rfl
    have hR7:=ho6.store k ((i:Nat):Int) (by omega)
    rw [hset] at hR7
    have hon7:Only (fun b=>b=g) w6 (w6.setCell ⟨g,k,none⟩ (.int .i64 (i:Nat))):=Only.setCell (Only.refl (fun b=>b=g) w6) (p:=⟨g,k,none⟩) (.inl rfl) _
    have hBwr:B≤wr.heap.size:=HS.out.2.2.2.2.2.1.2.2
    have hHg:H<wr.heap.size:=HS.out.2.2.2.1.lt
    have HF:Hid ((q++[((i:Nat):Int)]).length=k+1∧Reads ls (crun ls (sbL ls 12)).2.2 n V p (q++[(i:Int)]) (P+m)∧OwI (w6.setCell ⟨g,k,none⟩ (.int .i64 (i:Nat))) g g N ((q++[((i:Nat):Int)])++List.replicate (N-(k+1)) 0)∧HR (w6.setCell ⟨g,k,none⟩ (.int .i64 (i:Nat))) H R (hm ls (sbL ls 12)) ao (sbL ls 12).length co∧MinI (w6.setCell ⟨g,k,none⟩ (.int .i64 (i:Nat))) B0 H ao co (sbL ls 12)∧RD (w6.setCell ⟨g,k,none⟩ (.int .i64 (i:Nat))) B R x zs.length cx n (P+m)∧Below B w0 (w6.setCell ⟨g,k,none⟩ (.int .i64 (i:Nat)))∧Only (fun k=>k=R) w (w6.setCell ⟨g,k,none⟩ (.int .i64 (i:Nat)))):=by
     refine ⟨by rw [List.length_append,HS.out.1];rfl,.snoc HS.out.2.1 hone,hR7,?_,?_,hrd6.only hon7 (by omega),?_,?_⟩
     ·exact (HS.out.2.2.2.1.only hon (by omega)).only hon7 (by omega)
     ·exact (HS.out.2.2.2.2.1.only hon (fun j h1 h2=>by omega)).only hon7 (fun j h1 h2=>by omega)
     ·exact (HS.out.2.2.2.2.2.2.1.trans (hon.below hBwr (fun j hj=>by omega))).setCell (p:=⟨g,k,none⟩) (by have:=HG4.out.1;simp;omega) _
     ·exact (HS.out.2.2.2.2.2.2.2.1.trans hon).setCell (.inr (by rw [HG4.out.1];exact Nat.le_refl _)) _
    clear hR7 hon7 hset hll hon hone hrd6 ho6 HS
    generalize (q++List.replicate (N-k) 0).getD k 0=old at *
    go_wp2
    go_roundw
    case rel=>exact ⟨k+1,q++[((i:Nat):Int)],P+m,by omega,HF.out.1,by go_num,HF.out.2.1,HF.out.2.2.1,HF.out.2.2.2.1,HF.out.2.2.2.2.1,HF.out.2.2.2.2.2.1,HF.out.2.2.2.2.2.2.1,HF.out.2.2.2.2.2.2.2⟩
    case measure=>simp [intOf];omega
   ·have HF:Hid (Only (fun k=>k=R) w w6∧Below B w0 w6∧NoHit ls (crun ls (sbL ls 12)).2.2 V P (min 12 (n-P))∧q.length<N∧Reads ls (crun ls (sbL ls 12)).2.2 n V p q P):=⟨HS.out.2.2.2.2.2.2.2.1.trans hon,HS.out.2.2.2.2.2.2.1.trans (hon.below HS.out.2.2.2.2.2.1.2.2 (fun j hj=>by omega)),hno,by rw [HS.out.1];exact hlt,HS.out.2.1⟩
    clear hno hon HS
    go_wp2
    go_ret2
    exact ⟨HF.out.1,HF.out.2.1,.inr ⟨q,P,T,y,HF.out.2.2.2.1,HF.out.2.2.2.2,HF.out.2.2.1,rfl⟩⟩
  ·have hkn:k=N:=by omega
   subst hkn
   have HFI:Hid (OwI wr w.heap.size g k q∧True):=by
    have:=HS.out.2.2.1
    rw [Nat.sub_self] at this
    simp only [List.replicate_zero,List.append_nil] at this
    exact ⟨this.mono (by rw [HG4.out.1];exact Nat.le_refl _),trivial⟩
   go_wp2
   go_ret2
   exact ⟨HS.out.2.2.2.2.2.2.2.1,HS.out.2.2.2.2.2.2.1,.inl ⟨q,P,g,HS.out.1,HS.out.2.1,HFI.out.1,HS.out.2.2.2.2.2.1,rfl⟩⟩
theorem back_no (R:Nat) (a:Option Addr) (cap:Nat) (zs:List Int) (n:Nat) (p width:Int) (w:World) (hn:n≤4104) (pb:p≤9223372036854775807)
  (c0:w.cell? ⟨R,0,none⟩=some (.slice a zs.length cap)) (c1:w.cell? ⟨R,1,none⟩=some (.int .i64 n)) (c2:w.cell? ⟨R,2,none⟩=some (.int .i64 p))
  (s0:Sent w 5) (s2:Sent w 11)
  (h:width<0∨30<width∨(n:Int)<p∨p<width) :
  Calls Tryz.prog 163 #[.pointer (some ⟨R,0,none⟩),.int .i64 width] w fun e w'=>(∃ T x,e=.returned (.tuple #[.int .i64 0,.iface T x]))∧∃ m,w'=w.drewN m:=by
 obtain ⟨T0,x0,g0⟩:=s0
 obtain ⟨T2,x2,g2⟩:=s2
 have key:(width<0∨30<width)∨(0≤width∧width≤30∧(n:Int)<p)∨(0≤width∧width≤30∧p≤(n:Int)∧p<width):=by omega
 clear h
 rcases key with hh | ⟨k1,k2,k3⟩ | ⟨k1,k2,k3,k4⟩
 ·have hd:Hid (decide (0≤width∧width≤30)=false):=by simp [Hid];omega
  go_enter Tryz.func163,Tryz.ntmps163
  go_wp2_with fail
  refine (widthOk_any width _).mono ?_
  rintro e w1 ⟨rfl,rfl⟩
  rw [hd.out]
  go_wp2_with fail
  go_quiet (fail)
  go_wp2
  go_ret2
  exact ⟨⟨_,_,rfl⟩,_,rfl⟩
 ·have hd:Hid (decide (0≤width∧width≤30)=true):=by simp [Hid];omega
  have hp:decide ((n:Int)<p)=true:=by simpa using k3
  go_enter Tryz.func163,Tryz.ntmps163
  go_wp2_with fail
  refine (widthOk_any width _).mono ?_
  rintro e w1 ⟨rfl,rfl⟩
  rw [hd.out]
  go_wp2_with fail
  go_quiet (fail)
  go_wp2
  go_quiet (fail)
  go_wp2
  go_ret2
  exact ⟨⟨_,_,rfl⟩,_,World.drewN_drewN ..⟩
 ·have hd:Hid (decide (0≤width∧width≤30)=true):=by simp [Hid];omega
  have hp:decide ((n:Int)<p)=false:=by simpa using k3
  go_enter Tryz.func163,Tryz.ntmps163
  go_wp2_with fail
  refine (widthOk_any width _).mono ?_
  rintro e w1 ⟨rfl,rfl⟩
  rw [hd.out]
  go_wp2_with fail
  go_quiet (fail)
  go_wp2
  go_quiet (fail)
  go_wp2
  go_ret2
  exact ⟨⟨_,_,rfl⟩,_,World.drewN_drewN ..⟩
theorem back_yes (R:Nat) (a:Option Addr) (cap:Nat) (zs:List Int) (n v:Nat) (p width:Int) (w:World) (hn:n≤4104) (hb:∀ m x,Byt ((w.drewN m).setCell ⟨R,2,none⟩ x) a zs) (hz:zs=enc n v)
  (c0:w.cell? ⟨R,0,none⟩=some (.slice a zs.length cap)) (c1:w.cell? ⟨R,1,none⟩=some (.int .i64 n)) (c2:w.cell? ⟨R,2,none⟩=some (.int .i64 p)) (f2:w.frozen? ⟨R,2,none⟩=false)
  (k1:0≤width) (k2:width≤30) (k3:p≤(n:Int)) (k4:width≤p) :
  Calls Tryz.prog 163 #[.pointer (some ⟨R,0,none⟩),.int .i64 width] w fun e w'=>
   e=.returned (.tuple #[.int .i64 (v / 2 ^ (p-width).toNat % 2 ^ width.toNat:Nat),.nilIface])∧∃ m,w'=(w.drewN m).setCell ⟨R,2,none⟩ (.int .i64 (p-width)):=by
 have hd:Hid (decide (0≤width∧width≤30)=true):=by simp [Hid];omega
 have hp:decide ((n:Int)<p)=false:=by simpa using k3
 have HZ:Hid (zs=enc n v):=hz
 clear hz
 go_enter Tryz.func163,Tryz.ntmps163
 go_wp2_with fail
 refine (widthOk_any width _).mono ?_
 rintro e w1 ⟨rfl,rfl⟩
 rw [hd.out]
 go_wp2_with fail
 go_quiet (fail)
 go_wp2_with fail
 refine (number_any R a cap zs n p (p-width) width n v _ (hb _ _) HZ.out hn (by rw [World.cell?_setCell_other _ _ _ _ (by simp)];exact c0) (by omega) k1 k2 (by omega)).mono ?_
 rintro e w2 ⟨rfl,rfl⟩
 go_wp2
 go_ret2
 exact ⟨rfl,_,rfl⟩
end Go.Proofs.YtfeokafkhnbdiaaGreatDoor
