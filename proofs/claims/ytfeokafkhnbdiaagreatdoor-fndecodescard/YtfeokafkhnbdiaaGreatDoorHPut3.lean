/- Lemmas on the way. -/
import Derived.Test.YtfeokafkhnbdiaaGreatDoorSyms
import Derived.Test.YtfeokafkhnbdiaaGreatDoorRev2
import Derived.Test.YtfeokafkhnbdiaaGreatDoorPcA
import Derived.Test.YtfeokafkhnbdiaaGreatDoorPmB
import Derived.Deep.RegionWith
set_option maxRecDepth 20000
set_option maxHeartbeats 16000000
namespace Go.Proofs.YtfeokafkhnbdiaaGreatDoor
open Go.RowKit
set_option linter.unusedVariables false
def zN (zs:List Int) (s:Int):Nat:=(zs.getD s.toNat 0).toNat
def cst (zs:List Int) (st:Nat × Nat × List Int) (s:Int):Nat × Nat × List Int:=
 (st.1*2 ^ (zN zs s-st.2.1)+1,zN zs s,st.2.2.set s.toNat ((st.1*2 ^ (zN zs s-st.2.1):Nat):Int))
def crun (zs l:List Int):Nat × Nat × List Int:=l.foldl (cst zs) (0,0,List.replicate zs.length 0)
theorem crun_nil (zs:List Int):crun zs []=(0,0,List.replicate zs.length 0):=rfl
theorem crun_snoc (zs l:List Int) (s:Int):crun zs (l++[s])=cst zs (crun zs l) s:=by simp [crun,List.foldl_append]
theorem crun_len (zs l:List Int):(crun zs l).2.2.length=zs.length:=by
 have:∀ (l:List Int) (st:Nat × Nat × List Int),(l.foldl (cst zs) st).2.2.length=st.2.2.length:=by
  intro l
  induction l with
  | nil=>intro st;rfl
  | cons s l ih=>intro st;rw [List.foldl_cons,ih];simp [cst]
 unfold crun
 rw [this]
 simp
def asc (zs l:List Int):Prop:=l.Pairwise (fun a b=>zN zs a≤zN zs b)
theorem asc_same (zs:List Int) (m:Nat) (l:List Int) (h:∀ a ∈ l,zN zs a=m):asc zs l:=by
 unfold asc
 induction l with
 | nil=>exact List.Pairwise.nil
 | cons a l ih=>
  refine List.Pairwise.cons (fun b hb=>?_) (ih (fun x hx=>h x (by simp [hx])))
  rw [h a (by simp),h b (by simp [hb])]
  exact Nat.le_refl _
theorem zN_at (zs:List Int) (L i:Nat):∀ a ∈ atL zs L i,zN zs a=L:=by
 intro a ha
 obtain ⟨s,rfl,_,h⟩:=atL_mem zs L i a ha
 unfold zN
 rw [Int.toNat_natCast,h]
 simp
theorem zN_sb (zs:List Int) (l:Nat):∀ a ∈ sbL zs l,zN zs a≤l:=by
 intro a ha
 obtain ⟨s,rfl,_,h1,h2⟩:=sbL_mem zs l a ha
 unfold zN
 rw [Int.toNat_natCast]
 omega
theorem asc_sb (zs:List Int) (l:Nat):asc zs (sbL zs l):=by
 induction l with
 | zero=>exact List.Pairwise.nil
 | succ l ih=>
  simp only [sbL]
  refine List.pairwise_append.2 ⟨ih,asc_same zs (l+1) _ (zN_at zs (l+1) _),fun a ha b hb=>?_⟩
  rw [zN_at zs (l+1) _ b hb]
  have:=zN_sb zs l a ha
  omega
theorem asc_part (zs:List Int) (l i:Nat):asc zs (sbL zs l++atL zs (l+1) i):=by
 refine List.pairwise_append.2 ⟨asc_sb zs l,asc_same zs (l+1) _ (zN_at zs (l+1) _),fun a ha b hb=>?_⟩
 rw [zN_at zs (l+1) _ b hb]
 have:=zN_sb zs l a ha
 omega
theorem take_snoc (l:List Int) (t:Nat) (h:t<l.length):l.take (t+1)=l.take t++[l.getD t 0]:=by
 rw [List.take_succ_eq_append_getElem h]
 simp [List.getD_eq_getElem?_getD,List.getElem?_eq_getElem h]
theorem cr_step (nx ln z t:Nat) (hl:ln≤z) (h:nx≤t*2 ^ ln):nx*2 ^ (z-ln)≤t*2 ^ z∧nx*2 ^ (z-ln)+1≤(t+1)*2 ^ z:=by
 have h1:nx*2 ^ (z-ln)≤t*2 ^ ln*2 ^ (z-ln):=Nat.mul_le_mul_right _ h
 rw [Nat.mul_assoc,←Nat.pow_add,show ln+(z-ln)=z from by omega] at h1
 have h2:0<2 ^ z:=Nat.pow_pos (by omega)
 rw [Nat.add_mul]
 omega
theorem cr_bound (zs l:List Int) (h:asc zs l) (t:Nat) (ht:t≤l.length):(crun zs (l.take t)).1≤t*2 ^ (crun zs (l.take t)).2.1∧(t<l.length→(crun zs (l.take t)).2.1≤zN zs (l.getD t 0)):=by
 induction t with
 | zero=>simp [crun_nil]
 | succ t ih=>
  obtain ⟨i1,i2⟩:=ih (by omega)
  rw [take_snoc l t (by omega),crun_snoc]
  simp only [cst]
  refine ⟨(cr_step _ _ _ t (i2 (by omega)) i1).2,fun ht2=>?_⟩
  have hp:=List.pairwise_iff_getElem.1 h t (t+1) (by omega) ht2 (by omega)
  simpa [List.getD_eq_getElem?_getD,List.getElem?_eq_getElem (show t<l.length by omega),List.getElem?_eq_getElem ht2] using hp
theorem cr_full (zs l:List Int) (h:asc zs l):(crun zs l).1≤l.length*2 ^ (crun zs l).2.1:=by
 have:=(cr_bound zs l h l.length nl).1
 rw [List.take_length] at this
 exact this
theorem cr_ln (zs l:List Int) (m:Nat) (h:∀ a ∈ l,zN zs a≤m):(crun zs l).2.1≤m:=by
 by_cases h0:l=[]
 ·subst h0;simp [crun_nil]
 ·have hl:0<l.length:=List.length_pos_iff.2 h0
  have e:l=l.take (l.length-1)++[l.getD (l.length-1) 0]:=by
   rw [←take_snoc l (l.length-1) (by omega),show l.length-1+1=l.length from by omega,List.take_length]
  rw [e,crun_snoc]
  simp only [cst]
  exact h _ (getD_mem (by omega))
theorem below_dH {B:Nat} {a b:World} (h:Below B a b) (n:Nat):Below B a (b.drewN n):=⟨h.os,h.tape,h.output,h.size,h.block⟩
theorem turned (c L:Nat) (h:L≤12):rvp (c % 65536) 16 16 / 2 ^ (16-L)=rvp c L L:=by
 rw [rvp_shift _ L (by omega),show 65536=2 ^ 16 from rfl,rvp_mod c L 16 (by omega)]
def hN (ls ts:List Int):Nat→Nat
 | 0=>0
 | k+1=>hN ls ts k+zN ls (ts.getD k 0)
def hV (ls cs ts:List Int):Nat→Nat
 | 0=>0
 | k+1=>hV ls cs ts k+rvp (cs.getD (ts.getD k 0).toNat 0).toNat (zN ls (ts.getD k 0)) (zN ls (ts.getD k 0))*2 ^ hN ls ts k
theorem hN_le {ls ts:List Int} (h:∀ z ∈ ls,0≤z∧z≤12) (k:Nat):hN ls ts k≤12*k:=by
 induction k with
 | zero=>simp [hN]
 | succ k ih=>
  have h1:zN ls (ts.getD k 0)≤12:=by
   unfold zN
   by_cases hi:(ts.getD k 0).toNat<ls.length
   ·have:=h _ (getD_mem hi);omega
   ·rw [List.getD_eq_getElem?_getD,List.getElem?_eq_none (by omega)];simp
  simp only [hN]
  omega
def cv (zs l:List Int) (L:Nat):Nat:=(crun zs l).1*2 ^ (L-(crun zs l).2.1)
theorem cv_double (zs l:List Int) (L:Nat) (h:(crun zs l).2.1≤L):cv zs l (L+1)=cv zs l L*2:=by
 unfold cv
 rw [show L+1-(crun zs l).2.1=(L-(crun zs l).2.1)+1 from by omega,Nat.pow_succ,Nat.mul_assoc]
theorem cv_snoc (zs l:List Int) (s:Int) (L:Nat) (h:zN zs s=L):cv zs (l++[s]) L=cv zs l L+1∧(crun zs (l++[s])).2.2=(crun zs l).2.2.set s.toNat (cv zs l L:Nat):=by
 unfold cv
 rw [crun_snoc]
 simp only [cst,h]
 simp
theorem cv_bound (zs l:List Int) (L:Nat) (h:asc zs l) (hl:(crun zs l).2.1≤L) (hL:L≤12) (hn:l.length≤2000):cv zs l L≤8192000:=by
 have h1:=(cr_step _ _ L l.length hl (cr_full zs l h)).1
 have h2:2 ^ L≤2 ^ 12:=Nat.pow_le_pow_right (by omega) hL
 have h3:l.length*2 ^ L≤2000*2 ^ 12:=Nat.mul_le_mul hn h2
 unfold cv
 exact Nat.le_trans h1 (Nat.le_trans h3 (by decide))
theorem cv_nil (zs:List Int):cv zs [] 0=0:=by simp [cv,crun_nil]
structure At (zs:List Int) (M k c:Nat) (out:List Int):Prop where
 c:cv zs (sbL zs (M-1)++atL zs M k) M=c
 out:(crun zs (sbL zs (M-1)++atL zs M k)).2.2=out
theorem at_bound {zs:List Int} {M k c:Nat} {out:List Int} (h:At zs M k c out) (hM:1≤M) (hM2:M≤12) (hn:zs.length≤80) (hk:k≤zs.length):c≤8192000∧out.length=zs.length:=by
 obtain ⟨l,rfl⟩:∃ l,M=l+1:=⟨M-1,by omega⟩
 have hs:=sbL_len zs l
 have ha:=atL_len zs (l+1) k
 have hm:l*zs.length≤11*80:=Nat.mul_le_mul (by omega) hn
 refine ⟨?_,by rw [←h.out];exact crun_len zs _⟩
 rw [←h.c]
 refine cv_bound zs _ _ (asc_part zs l k) (cr_ln zs _ _ (fun a ha=>?_)) hM2 (by rw [List.length_append];simp;omega)
 rcases List.mem_append.1 ha with h1 | h1
 ·have:=zN_sb zs l a h1;omega
 ·have:=zN_at zs (l+1) k a h1;omega
theorem at_yes {zs:List Int} {M k c:Nat} {out:List Int} (h:At zs M k c out) (hz:zs.getD k 0=(M:Int)):At zs M (k+1) (c+1) (out.set k ((c:Nat):Int)):=by
 have e:sbL zs (M-1)++atL zs M (k+1)=(sbL zs (M-1)++atL zs M k)++[(k:Int)]:=by rw [atL_yes zs M k hz,List.append_assoc]
 have hzn:zN zs (k:Int)=M:=by unfold zN;rw [Int.toNat_natCast,hz];simp
 obtain ⟨s1,s2⟩:=cv_snoc zs (sbL zs (M-1)++atL zs M k) (k:Int) M hzn
 refine ⟨by rw [e,s1,h.c],?_⟩
 rw [e,s2,h.c,h.out]
 simp
theorem at_no {zs:List Int} {M k c:Nat} {out:List Int} (h:At zs M k c out) (hz:¬zs.getD k 0=(M:Int)):At zs M (k+1) c out:=by
 refine ⟨?_,?_⟩
 ·rw [atL_no zs M k hz];exact h.c
 ·rw [atL_no zs M k hz];exact h.out
theorem at_first (zs:List Int):cv zs (sbL zs 0) 0=0∧(crun zs (sbL zs 0)).2.2=List.replicate zs.length 0:=⟨cv_nil zs,rfl⟩
theorem at_start {zs:List Int} {M c:Nat} {out:List Int} (hM:1≤M) (hc:cv zs (sbL zs (M-1)) (M-1)=c) (ho:(crun zs (sbL zs (M-1))).2.2=out):At zs M 0 (c*2) out:=by
 obtain ⟨l,rfl⟩:∃ l,M=l+1:=⟨M-1,by omega⟩
 simp only [Nat.add_sub_cancel] at hc ho
 refine ⟨?_,?_⟩
 ·rw [atL_zero,List.append_nil,Nat.add_sub_cancel,cv_double zs _ l (cr_ln zs _ _ (zN_sb zs l)),hc]
 ·rw [atL_zero,List.append_nil,Nat.add_sub_cancel];exact ho
theorem at_end {zs:List Int} {M c:Nat} {out:List Int} (hM:1≤M) (h:At zs M zs.length c out):cv zs (sbL zs M) M=c∧(crun zs (sbL zs M)).2.2=out:=by
 obtain ⟨l,rfl⟩:∃ l,M=l+1:=⟨M-1,by omega⟩
 have e:sbL zs (l+1)=sbL zs (l+1-1)++atL zs (l+1) zs.length:=rfl
 rw [e]
 exact ⟨h.c,h.out⟩
def SJ (w:World) (X U n V:Nat):Prop:=∃ v,w.heap[X]?=some (.cells #[v,.int .i64 n] 40 (0,0))∧OwnV w U v (enc n V)∧V<2 ^ n∧U≤w.heap.size
theorem crun_rng2 (ls:List Int) (hl:ls.length≤80):∀ z ∈ (crun ls (sbL ls 12)).2.2,0≤z∧z≤8192000:=by
 have hsl:(sbL ls 12).length≤2000:=by have:=sbL_len ls 12;omega
 have key:∀ t,t≤(sbL ls 12).length→∀ z ∈ (crun ls ((sbL ls 12).take t)).2.2,0≤z∧z≤8192000:=by
  intro t
  induction t with
  | zero=>intro _ z hz;simp [crun_nil] at hz;omega
  | succ t ih=>
   intro ht z hz
   rw [take_snoc _ t (by omega),crun_snoc] at hz
   simp only [cst] at hz
   rcases List.mem_or_eq_of_mem_set hz with hz | rfl
   ·exact ih (by omega) z hz
   ·obtain ⟨b1,b2⟩:=cr_bound ls (sbL ls 12) (asc_sb ls 12) t (by omega)
    have b3:=(cr_step _ _ _ t (b2 (by omega)) b1).1
    have b4:=zN_sb ls 12 _ (getD_mem (zs:=sbL ls 12) (k:=t) (by omega))
    have b5:2 ^ zN ls ((sbL ls 12).getD t 0)≤2 ^ 12:=Nat.pow_le_pow_right (by omega) b4
    have b6:t*2 ^ zN ls ((sbL ls 12).getD t 0)≤2000*2 ^ 12:=Nat.mul_le_mul (by omega) b5
    omega
 intro z hz
 exact key _ nl z (by rw [List.take_length];exact hz)
theorem bit_i64 (c k:Nat) (hc:c≤8192000):bits .and .i64 ((c:Int) / 2 ^ k) 1=((c / 2 ^ k % 2:Nat):Int):=by
 have e:((c:Int) / 2 ^ k)=((c / 2 ^ k:Nat):Int):=by simp
 have hle:c / 2 ^ k≤c:=Nat.div_le_self _ _
 have h1:=i64_and_nat (c / 2 ^ k) 1 (by omega) (by omega)
 rw [show ((1:Nat):Int)=1 from rfl,nat_mask1] at h1
 rw [e,h1]
theorem rvp_next (V c L j n:Nat):V+rvp c L j*2 ^ n+(c / 2 ^ (L-1-j) % 2)*2 ^ (n+j)=V+rvp c L (j+1)*2 ^ n:=by
 simp only [rvp]
 rw [Nat.add_mul,Nat.pow_add]
 have e:c / 2 ^ (L-1-j) % 2*(2 ^ n*2 ^ j)=c / 2 ^ (L-1-j) % 2*2 ^ j*2 ^ n:=by rw [Nat.mul_comm (2 ^ n),←Nat.mul_assoc]
 omega
theorem shl_fact (nx ln c:Nat) (z:Int) (hz:(ln:Int)≤z) (hc:c=nx*2 ^ (z.toNat-ln)) (hb:c≤8192000):wrap64 ((nx:Int)*2 ^ (z.toNat-ln))=((c:Nat):Int):=by
 rw [show ((nx:Int)*2 ^ (z.toNat-ln))=((nx*2 ^ (z.toNat-ln):Nat):Int) from by simp,←hc]
 exact IntWalk.wrap64_in _ (by omega)
theorem codesOf_any (a:Option Addr) (cap:Nat) (zs:List Int) (w:World) (hb:Ins w a zs) (hn:zs.length≤80) (hok:∀ z ∈ zs,0≤z∧z≤12) :
  Calls Tryz.prog 124 #[.slice a zs.length cap] w fun e w'=>
   e=.returned (.slice (some ⟨w.heap.size,0,none⟩) zs.length zs.length)∧OwI w' w.heap.size w.heap.size zs.length (crun zs (sbL zs 12)).2.2∧Below w.heap.size w w':=by
 obtain ⟨i0,hi,hz0,hz1,hz2⟩:=info_parts Tryz.infoI64
 have HSY:Hid (∀ w,Ins w a zs→Calls Tryz.prog 146 #[.slice a zs.length cap] w fun e w'=>∃ a' cp,e=.returned (.slice a' (sbL zs 12).length cp)∧MinI w' w.heap.size w'.heap.size a' cp (sbL zs 12)∧Below w.heap.size w w'):=fun w h=>syms_any a cap zs w h hn
 have hodl:(sbL zs 12).length≤2000:=by have:=sbL_len zs 12;omega
 have HMEM:Hid _:=sbL_mem zs 12
 have HBD:Hid _:=cr_bound zs (sbL zs 12) (asc_sb zs 12)
 have HCL:Hid _:=fun t=>crun_len zs ((sbL zs 12).take t)
 have HST:Hid (∀ t,t<(sbL zs 12).length→crun zs ((sbL zs 12).take (t+1))=cst zs (crun zs ((sbL zs 12).take t)) ((sbL zs 12).getD t 0)):=fun t ht=>by rw [take_snoc _ t ht,crun_snoc]
 have HC0:Hid (crun zs ((sbL zs 12).take 0)=(0,0,List.replicate zs.length 0)):=rfl
 have HCE:Hid (crun zs ((sbL zs 12).take (sbL zs 12).length)=crun zs (sbL zs 12)):=by unfold Hid;rw [List.take_length]
 generalize sbL zs 12=od at *
 generalize hlen:zs.length=n at *
 have HL:Hid (zs.length=n):=hlen
 clear hlen hok
 generalize hN:od.length=N at *
 have HN:Hid (od.length=N):=hN
 clear hN
 go_enter Tryz.func124,Tryz.ntmps124
 go_wp2_with (at_make;refine wpList_make_full _ rfl _ _ 38 rfl w.heap.size 3 i0 (.int .i64 0) 1 Tryz.underlying38 hi hz0 hz1 .i64 .i64 _ _ n rfl rfl rfl rfl (by rw [hz2];omega) (by unfold maxLen;omega) nl ?_;intro w1 hown hgrow)
 have h0:OwI w1 w.heap.size w.heap.size n (List.replicate n 0):=by
  refine ⟨?_,by intro z hz;simp at hz;omega⟩
  rw [made_zeroI] at hown
  simpa using hown
 have hbw:Below w.heap.size w w1:=(Below.refl _ _).grown hgrow nl (by intro k hk;cases hk)
 have H0:Hid (OwI w1 w.heap.size w.heap.size n (List.replicate n 0)):=h0
 clear h0 hown hgrow hi hz0 hz1 hz2
 refine (HSY.out _ (hb.below hbw nl)).mono ?_
 rintro e w2 ⟨ao,co,rfl,hmo,hb2⟩
 have hlt0:=H0.out.lt.2
 have HR2:Hid (OwI w2 w.heap.size w.heap.size n (crun zs (od.take 0)).2.2):=by rw [HC0.out];exact H0.out.below hb2 nl
 have hbw2:Below w.heap.size w w2:=hbw.trans (hb2.mono hbw.size)
 have HMO:Hid (MinI w2 w1.heap.size w2.heap.size ao co od):=hmo
 clear hmo hb2 H0 hbw HSY
 generalize w1.heap.size=U1 at *
 generalize hU2:w2.heap.size=U2 at *
 clear hU2
 go_wp2
 go_loopw [4,5,14] (fun x l i wr=>∃ t:Nat,t≤N∧i=.int .i64 t∧x=.int .i64 ((crun zs (od.take t)).1:Nat)∧l=.int .i64 ((crun zs (od.take t)).2.1:Nat)∧OwI wr w.heap.size w.heap.size n (crun zs (od.take t)).2.2∧MinI wr U1 U2 ao co od∧Below w.heap.size w wr) (fun _ _ i _=>N-(intOf i).toNat)
 case atStart=>exact ⟨0,Nat.zero_le _,rfl,rfl,rfl,HR2.out,HMO.out,hbw2⟩
 case round=>
  clear HR2 HMO hbw2
  obtain ⟨t,ht,rfl,rfl,rfl,hown,hmo,hbel⟩:=hrel
  have HO:Hid (OwI wr w.heap.size w.heap.size n (crun zs (od.take t)).2.2):=hown
  have HM:Hid (MinI wr U1 U2 ao co od):=hmo
  clear hown hmo
  by_cases hlt:t<N
  ·obtain ⟨b1,o1,rfl,hb1,hc1⟩:=HM.out.byt.len_pos t (by rw [HN.out];exact hlt)
   have hs1:=hc1 t (by rw [HN.out];exact hlt)
   obtain ⟨sn,hse,hsn,hz1,hz2⟩:=HMEM.out _ (getD_mem (k:=t) (by rw [HN.out];exact hlt))
   obtain ⟨B1,B2⟩:=HBD.out t (by omega)
   have B2:=B2 hlt
   have HS:=HST.out t hlt
   have hcl:=HCL.out t
   rw [hse] at hs1 B2 HS
   obtain ⟨b2,o2,rfl,hb2,hc2⟩:=(hb.below hbel nl).len_pos sn (by rw [HL.out];exact hsn)
   have hs2:=hc2 sn (by rw [HL.out];exact hsn)
   clear hc1 hc2 hse
   simp only [cst,zN,Int.toNat_natCast] at B2 HS
   generalize hzz:zs.getD sn 0=z at *
   generalize crun zs (od.take t)=st at *
   obtain ⟨nx,ln,out⟩:=st
   simp only at *
   have b3:=(cr_step nx ln z.toNat t B2 B1).1
   have b5:2 ^ z.toNat≤2 ^ 12:=Nat.pow_le_pow_right (by omega) (by omega)
   have b6:t*2 ^ z.toNat≤2000*2 ^ 12:=Nat.mul_le_mul (by omega) b5
   have hcb:nx*2 ^ (z.toNat-ln)≤8192000:=by omega
   generalize hcc:nx*2 ^ (z.toNat-ln)=c at *
   have HSH:Hid (wrap64 ((nx:Int)*2 ^ (z.toNat-ln))=((c:Nat):Int)):=shl_fact nx ln c z (by omega) hcc.symm hcb
   have hlz:(ln:Int)≤z:=by omega
   have hlnb:ln≤12:=by omega
   have hU:∀ k,U1≤k→k≠w.heap.size:=fun k hk=>by omega
   have hnb:nx≤8192000:=by
    have h2:nx≤nx*2 ^ (z.toNat-ln):=Nat.le_mul_of_pos_right _ (Nat.pow_pos (by decide))
    rw [hcc] at h2
    exact Nat.le_trans h2 hcb
   clear B1 B2 b3 b5 b6 hcc
   have HO2:Hid (OwI wr w.heap.size w.heap.size n out):=HO.out
   clear HO
   have hcl2:out.length=n:=hcl
   clear hcl
   have hdst:=HO2.out.cell sn (by rw [hcl2];exact hsn)
   have hfz:=HO2.out.frozen sn
   have hcr:-9223372036854775808≤((c:Nat):Int)∧((c:Nat):Int)≤9223372036854775807:=by omega
   have R:=HO2.out.store sn ((c:Nat):Int) hcr
   have HR:Hid (OwI (wr.setCell ⟨w.heap.size,sn,none⟩ (.int .i64 (c:Nat))) w.heap.size w.heap.size n (crun zs (od.take (t+1))).2.2):=by rw [HS];exact R
   have HB:Hid (Below w.heap.size w (wr.setCell ⟨w.heap.size,sn,none⟩ (.int .i64 (c:Nat)))):=hbel.setCell (p:=⟨w.heap.size,sn,none⟩) nl _
   have HM2:Hid (MinI (wr.setCell ⟨w.heap.size,sn,none⟩ (.int .i64 (c:Nat))) U1 U2 (some ⟨b1,o1,none⟩) co od):=HM.out.only (Only.setCell (Only.refl (fun b=>b=w.heap.size) wr) (p:=⟨w.heap.size,sn,none⟩) (.inl rfl) _) (fun k h1 _=>hU k h1)
   have HS':Hid _:=HS
   clear R HS hU HO2 HM hbel hcl2
   generalize out.getD sn 0=old at *
   go_wp2
   go_roundw
   case rel=>exact ⟨t+1,by omega,by go_num,by rw [HSH.out,HS'.out];show Value.int .i64 (wrap64 ((c:Int)+1))=Value.int .i64 ((c+1:Nat):Int);rw [IntWalk.wrap64_in _ (by omega)];simp,by rw [HS'.out];go_num,by rw [HSH.out];simpa using HR.out,by rw [HSH.out];simpa using HM2.out,by rw [HSH.out];simpa using HB.out⟩
   case measure=>simp [intOf];omega
  ·have hkn:t=N:=by omega
   subst hkn
   rw [HCE.out]
   have HA:Hid (OwI wr w.heap.size w.heap.size n (crun zs od).2.2):=by rw [←HCE.out];exact HO.out
   clear HO HM
   go_wp2
   go_ret
   exact ⟨rfl,HA.out,hbel⟩
theorem WI.cells {w:World} {B R n V:Nat} (h:WI w B R n V):∃ a' cp,w.cell? ⟨R,0,none⟩=some (.slice a' (enc n V).length cp)∧w.cell? ⟨R,1,none⟩=some (.int .i64 n)∧Mine w B w.heap.size a' cp (enc n V):=by
 obtain ⟨v,hR,hv,_⟩:=h
 obtain ⟨a',cp,rfl,hm⟩:=hv.mine
 exact ⟨a',cp,cellR (j:=0) hR rfl,cellR (j:=1) hR rfl,hm⟩
theorem SI.cells {w:World} {B R n V:Nat} (h:SI w B R n V):∃ a' cp,w.cell? ⟨R,0,none⟩=some (.slice a' (enc n V).length cp)∧w.cell? ⟨R,1,none⟩=some (.int .i64 n)∧Mine w B w.heap.size a' cp (enc n V):=by
 obtain ⟨v,hR,hv,_⟩:=h
 obtain ⟨a',cp,rfl,hm⟩:=hv.mine
 exact ⟨a',cp,cellR (j:=0) hR rfl,cellR (j:=1) hR rfl,hm⟩
theorem mine_out {w3:World} {B C g:Nat} {a':Option Addr} {cp:Nat} {ys:List Int} (v0 v1:Value) (hm:Mine w3 C w3.heap.size a' cp ys) (hg:g<C) (hB:B≤g) :
  Mine ((w3.setCell ⟨g,0,none⟩ v0).setCell ⟨g,1,none⟩ v1) B ((w3.setCell ⟨g,0,none⟩ v0).setCell ⟨g,1,none⟩ v1).heap.size a' cp ys:=by
 have hO3:Only (fun b=>b=g) w3 ((w3.setCell ⟨g,0,none⟩ v0).setCell ⟨g,1,none⟩ v1):=
  Only.setCell (Only.setCell (Only.refl (fun b=>b=g) w3) (p:=⟨g,0,none⟩) (.inl rfl) _) (p:=⟨g,1,none⟩) (.inl rfl) _
 exact ((hm.only hO3 (fun b h1 _=>by omega)).mono (by omega) (by simp [World.setCell]))
structure Ans (w W:World):Prop where
 r0:W.cell? ⟨w.heap.size,0,none⟩=some (.slice none 0 0)
 r1:W.cell? ⟨w.heap.size,1,none⟩=some (.int .i64 0)
 f0:W.frozen? ⟨w.heap.size,0,none⟩=false
 f1:W.frozen? ⟨w.heap.size,1,none⟩=false
 lt:w.heap.size<W.heap.size
 bel:Below w.heap.size w W
theorem Ans.new (w:World):Ans w (w.alloc (Obj.cells #[.slice none 0 0,.int .i64 0] 40)):=⟨by simp,by simp,by simp,by simp,by simp,(Below.refl _ _).alloc nl _⟩
theorem Ans.step {w W W':World} {B:Nat} (h:Ans w W) (hb:Below B W W') (hB:w.heap.size<B):Ans w W':=
 ⟨keep hb hB h.r0,keep hb hB h.r1,(hb.frozen (p:=⟨w.heap.size,0,none⟩) hB).trans h.f0,(hb.frozen (p:=⟨w.heap.size,1,none⟩) hB).trans h.f1,Nat.lt_of_lt_of_le h.lt hb.size,h.bel.trans (hb.mono (Nat.le_of_lt hB))⟩
theorem lensB_okH {zs:List Int} (h:lensB zs=true):1≤zs.length∧zs.length≤80∧∀ z ∈ zs,0≤z∧z≤12:=by
 simp only [lensB,decide_eq_true_eq] at h
 exact ⟨h.1,h.2.1,h.2.2.1⟩
def coded (ls ts:List Int):Prop:=∀ k,k<ts.length→ls.getD (ts.getD k 0).toNat 0≠0
abbrev csOf (ls:List Int):List Int:=(crun ls (sbL ls 12)).2.2
structure SentC (w:World):Prop where
 s0:Sent w 12
 hG:12<w.heap.size
theorem SentC.below {w w':World} (h:SentC w) (hb:Below w.heap.size w w'):SentC w':=⟨h.s0.below hb h.hG,Nat.lt_of_lt_of_le h.hG hb.size⟩
end Go.Proofs.YtfeokafkhnbdiaaGreatDoor
