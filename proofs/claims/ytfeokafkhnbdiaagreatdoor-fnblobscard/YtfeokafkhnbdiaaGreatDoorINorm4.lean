/- Lemmas on the way. -/
import Derived.Test.YtfeokafkhnbdiaaGreatDoorPmA
import Derived.Test.YtfeokafkhnbdiaaGreatDoorPmB
import Derived.Test.YtfeokafkhnbdiaaGreatDoorPcB
set_option maxRecDepth 20000
set_option maxHeartbeats 16000000
namespace Go.Proofs.YtfeokafkhnbdiaaGreatDoor
open Go.RowKit
set_option linter.unusedVariables false
set_option linter.unusedSimpArgs false
theorem cntL_rng (Z:Nat):∀ (l:List Pc) (zs:List Int) (M:Int),0≤M→(∀ p ∈ l,p.sz≤Z)→(∀ z ∈ zs,0≤z∧z≤M)→∀ z ∈ cntL l zs,0≤z∧z≤M+(l.length*Z:Nat)
 | [],zs,M,_,_,h,z,hz=>by have:=h z hz;simp;omega
 | p :: l,zs,M,h0,hl,h,z,hz=>by
  have h1:=cntP_rng p zs M h0 h
  have h2:=hl p (by simp)
  have h3:=cntL_rng Z l (cntP p zs) (M+p.sz) (by omega) (fun q hq=>hl q (by simp [hq])) h1 z hz
  refine ⟨h3.1,Int.le_trans h3.2 ?_⟩
  simp only [List.length_cons,Nat.add_mul,Nat.one_mul]
  omega
theorem coins_one {zs:List Int} (h:(coinsS zs).length=1):(coinsS zs).getD 0 dpc=(coinsL zs zs.length).getD 0 dpc:=by
 have hp:=srt_perm zs zs.length
 have h2:(coinsL zs zs.length).length=1:=by rw [←coinsS_len];exact h
 obtain ⟨p,hp1⟩:=List.length_eq_one_iff.1 h
 obtain ⟨q,hq1⟩:=List.length_eq_one_iff.1 h2
 unfold coinsS at hp1
 rw [hp1,hq1] at hp
 have:=hp.eq_singleton
 unfold coinsS
 rw [hp1,hq1]
 simpa using this
theorem fine_of {zs:List Int} (hz:∀ z ∈ zs,0≤z∧z≤1000000) (hn:zs.length≤80) (k:Nat) (hk:k≤12):∀ p ∈ rnd (coinsS zs) k,p.fine∧p.ok zs.length∧p.sz≤10000000000:=fun p hp=>by
 obtain ⟨h1,h2,h3⟩:=(rnd_inv hz hn k).2.1 p hp
 have h4:2 ^ k≤2 ^ 12:=Nat.pow_le_pow_right (by omega) hk
 have h5:1000000*2 ^ k≤1000000*4096:=Nat.mul_le_mul_left _ h4
 have h6:=sz_wt p h3
 exact ⟨⟨by omega,by omega⟩,h3,by omega⟩
theorem pcRound_any (a1 a2:Option Addr) (c1 c2 N M:Nat) (zs:List Int) (k:Nat) (w:World) (hz:∀ z ∈ zs,0≤z∧z≤1000000) (hn:zs.length≤80) (hk:k<12) (hc:1≤(coinsS zs).length) (hN:N=(coinsL zs zs.length).length) (hM:M=(rnd (coinsS zs) k).length / 2) (h1:Pcs w a1 (coinsL zs zs.length)) (h2:Pcs w a2 (pairL (rnd (coinsS zs) k) M)) :
  Calls Tryz.prog 121 #[.slice a1 N c1,.slice a2 M c2] w fun e w'=>∃ (v:Value),e=.returned v∧OVV w' w.heap.size v (rnd (coinsS zs) (k+1))∧Below w.heap.size w w':=by
 subst hN
 have hinv:=rnd_inv hz hn k
 have hcl:=coinsL_len zs zs.length
 have hml:(coinsS zs).length≤80:=by rw [coinsS_len];omega
 have h:=roundList_any a1 a2 c1 c2 (coinsL zs zs.length) (pairL (rnd (coinsS zs) k) M) w h1 h2 (fun p hp=>by
  have hin:p ∈ rnd (coinsS zs) (k+1):=by
   refine ((mrg_perm _ _).mem_iff).2 ?_
   rcases List.mem_append.1 hp with hp | hp
   ·exact List.mem_append_left _ ((srt_perm zs zs.length).mem_iff.2 hp)
   ·rw [hM] at hp
    exact List.mem_append_right _ hp
  exact (fine_of hz hn (k+1) (by omega) p hin).1) (by rw [pairL_len];omega) (by rw [←coinsS_len];exact hc)
 rw [pairL_len] at h
 refine h.mono ?_
 rintro e w' ⟨v,l,rfl,ho,hp,hs,hb⟩
 have e1:l=rnd (coinsS zs) (k+1):=rnd_round hz hn k (by rw [←hM];exact hp) hs
 rw [e1] at ho
 exact ⟨v,rfl,ho,hb⟩
theorem lens_pow {L:Nat} (h:L≤12):wrap64 (2 ^ L)=((2 ^ L:Nat):Int):=by
 have h1:2 ^ L≤2 ^ 12:=Nat.pow_le_pow_right (by omega) h
 have e:((2:Int) ^ L)=((2 ^ L:Nat):Int):=by simp
 rw [e]
 generalize 2 ^ L=P at *
 exact IntWalk.wrap64_in _ (by omega)
theorem OwI.tag {w:World} {B g cap:Nat} {zs:List Int} (h:OwI w B g cap zs):∃ cur,w.heap[g]?=some (.cells cur 3 (0,0)):=by
 rcases h.1.2 with ⟨h1,_⟩ | ⟨g',cap',cur,h1,_,hh,_⟩
 ·cases h1
 ·obtain rfl:g=g':=by simp at h1;exact h1.1
  exact ⟨cur,hh⟩
theorem cntL_step (l:List Pc) (zs:List Int) (k:Nat) (hk:k<l.length):cntL (l.take (k+1)) zs=cntP (l.getD k dpc) (cntL (l.take k) zs):=by
 rw [List.take_succ_eq_append_getElem hk,cntL_snoc]
 simp [List.getD_eq_getElem?_getD,hk]
theorem cntL_step_rng {zs:List Int} (hz:∀ z ∈ zs,0≤z∧z≤1000000) (hn:zs.length≤80) (L:Nat) (hL:L≤12) (k:Nat) (hk:k≤160):∀ z ∈ cntL ((rnd (coinsS zs) L).take k) (List.replicate zs.length 0),0≤z∧z≤2000000000000:=fun z hzm=>by
 have h:=cntL_rng 10000000000 ((rnd (coinsS zs) L).take k) (List.replicate zs.length 0) 0 (Int.le_refl _) (fun p hp=>(fine_of hz hn L hL p (List.mem_of_mem_take hp)).2.2) (fun z hz=>by simp at hz;omega) z hzm
 have h2:((rnd (coinsS zs) L).take k).length≤160:=by rw [List.length_take];omega
 have h3:((rnd (coinsS zs) L).take k).length*10000000000≤160*10000000000:=Nat.mul_le_mul_right _ h2
 omega
theorem lens_made {w0 w1 w2:World} {zs:List Int} {n m lc:Nat} {la:Option Addr} {cs:List Pc} (hn:n=zs.length) (hov:OVV w1 w0.heap.size (.slice la m lc) cs) (hb1:Below w0.heap.size w0 w1) (hown:w2.ownsRow w1.heap.size 3 1 (.slice (some ⟨w1.heap.size,0,none⟩) n n) n (madeCells (Value.int .i64 0).cells (n*1)).toList) (hgrow:w1.grownBy w2 none) :
  OwI w2 w1.heap.size w1.heap.size n (List.replicate zs.length 0)∧OVV w2 w0.heap.size (.slice la m lc) cs∧Below w0.heap.size w0 w2∧w0.heap.size≤w1.heap.size∧(List.replicate zs.length (0:Int)).length=n∧w1.heap.size<w2.heap.size:=by
 have hbw:Below w1.heap.size w1 w2:=(Below.refl _ _).grown hgrow nl (by intro k hk;cases hk)
 have h0:OwI w2 w1.heap.size w1.heap.size n (List.replicate zs.length 0):=by
  rw [←hn]
  refine ⟨?_,by intro z hz;simp at hz;omega⟩
  rw [made_zeroI] at hown
  simpa using hown
 exact ⟨h0,hov.below hbw,hb1.trans (hbw.mono hb1.size),hb1.size,by rw [List.length_replicate];exact hn.symm,h0.lt.2⟩
theorem implLens_yes (a:Option Addr) (c:Nat) (zs:List Int) (L:Nat) (w:World) (hb:Ins w a zs) (hok:lensOkB zs (L:Int)) :
  Calls Tryz.prog 95 #[.slice a zs.length c,.int .i64 L] w fun e w'=>(∃ g,e=.returned (.tuple #[.slice (some ⟨g,0,none⟩) zs.length zs.length,.bool true])∧OwI w' w.heap.size g zs.length (lensV zs L))∧Below w.heap.size w w':=by
 obtain ⟨i0,hi,hz0,hz1,hz2⟩:=info_parts Tryz.infoI64
 obtain ⟨hcb,hx1,hx2,hm1,hm2⟩:=hok
 have hcnt:=hcb
 simp only [cntB,decide_eq_true_eq] at hcnt
 obtain ⟨hn1,hn2,hzr⟩:=hcnt
 have hL1:1≤L:=by omega
 have hL2:L≤12:=by omega
 rw [Int.toNat_natCast] at hm2
 have HCNT:=implCnt_any a c zs w hb (by omega)
 rw [hcb] at HCNT
 have HCO:=coinsOf_any a c zs w hb (by omega) (fun z h=>(hzr z h).1)
 have HZ:Hid ((∀ z ∈ zs,0≤z∧z≤1000000)∧zs.length≤80∧(coinsS zs).length≤2 ^ L∧1≤L):=⟨hzr,hn2,hm2,hL1⟩
 obtain ⟨m,hm⟩:∃ m,m=(coinsL zs zs.length).length:=⟨_,rfl⟩
 have hmS:(coinsS zs).length=m:=by rw [coinsS_len,hm]
 have hm80:m≤80:=by rw [hm];have:=coinsL_len zs zs.length;omega
 obtain ⟨P2,hP2⟩:∃ P2,P2=2 ^ L:=⟨_,rfl⟩
 have HP2:Hid (wrap64 (2 ^ L)=((P2:Nat):Int)∧True):=by rw [hP2];exact ⟨lens_pow hL2,trivial⟩
 have hmP:m≤P2:=by rw [hP2,←hmS];exact hm2
 rw [hmS] at hm1
 have hP2b:P2≤4096:=by rw [hP2];exact Nat.pow_le_pow_right (by omega) hL2
 have HMS:Hid ((coinsS zs).length=m∧m=(coinsL zs zs.length).length):=⟨hmS,hm⟩
 have hl1:¬(L:Int)<1:=by omega
 have hl2:¬(12:Int)<(L:Int):=by omega
 have hmm1:¬(m:Int)<1:=by omega
 have hmm2:¬(P2:Int)<(m:Int):=by omega
 clear hcb hx1 hx2 hm2 hzr hmS hm hP2 hb
 obtain ⟨n,hn⟩:∃ n,n=zs.length:=⟨_,rfl⟩
 have HNZ:Hid (n=zs.length∧True):=⟨hn,trivial⟩
 rw [←hn] at hn1 hn2 HCNT HCO ⊢
 clear hn
 have hpw:=HP2.out.1
 go_enter Tryz.func95,Tryz.ntmps95
 go_wp2_with fail
 refine HCNT.mono ?_
 clear HCNT
 rintro e w0 ⟨rfl,rfl⟩
 go_wp2_with fail
 refine HCO.mono ?_
 clear HCO
 rintro e w1 ⟨v,rfl,hov,hb1⟩
 obtain ⟨la,lc,hv,-,-⟩:=hov.slice
 rw [HNZ.out.1,←HMS.out.2] at hv
 rw [HNZ.out.1] at hov
 subst hv
 have H1:Hid (OVV w1 w0.heap.size (.slice la m lc) (coinsL zs zs.length)∧Below w0.heap.size w0 w1):=⟨hov,hb1⟩
 clear hov hb1
 by_cases hone:m=1
 ·have hone2:(m:Int)=1:=by omega
  have hd1:((m:Int) == 1)=true:=by simp [hone2]
  obtain ⟨p,hp⟩:∃ p,p=(coinsL zs zs.length).getD 0 dpc:=⟨_,rfl⟩
  have hpin:p ∈ coinsL zs zs.length:=by rw [hp];exact getD_memP2 (by rw [←HMS.out.2];omega)
  obtain ⟨q1,q2,q3,s,k,q4⟩:=coinsL_mem zs HZ.out.1 zs.length nl p hpin
  have HV:Hid (lensV zs L=cntP p (List.replicate zs.length 0)):=by
   unfold Hid lensV
   rw [HMS.out.1,if_pos hone,coins_one (by rw [HMS.out.1];exact hone),←hp]
  have hm0:(0:Int)<(m:Int):=by omega
  subst q4
  have HP:Hid (Pcs w1 la (coinsL zs zs.length)∧(coinsL zs zs.length).getD 0 dpc=.coin s k∧(Pc.coin s k).ok zs.length):=by
   obtain ⟨a',c',e',hpc,_⟩:=H1.out.1.slice
   simp only [Value.slice.injEq] at e'
   rw [e'.1]
   exact ⟨hpc,hp.symm,q3⟩
  obtain ⟨b2,o2,hla,hb2,hc2⟩:=HP.out.1 (by rw [←HMS.out.2];omega)
  subst hla
  have hc20:=hc2 0 (by rw [←HMS.out.2];omega)
  rw [HP.out.2.1,Nat.add_zero] at hc20
  have HC20:Hid (w1.cell? ⟨b2,o2,none⟩=some (.iface 198 (.agg #[.int .i64 s,.int .i64 k]))):=hc20
  have mA:=Tryz.meth_coin_countInto
  clear hp hpin q1 q2 q3 hc2 hc20 hone
  go_wp2_with (at_make;refine wpList_make_full _ rfl _ _ 38 rfl w1.heap.size 3 i0 (.int .i64 0) 1 Tryz.underlying38 hi hz0 hz1 .i64 .i64 _ _ n rfl rfl rfl rfl (by rw [hz2];omega) (by unfold maxLen;omega) nl ?_;intro w2 hown hgrow;have c20:=((Below.refl w1.heap.size w1).grown hgrow nl (by intro k hk;cases hk)).cell (p:=⟨b2,o2,none⟩) hb2;rw [HC20.out] at c20;have H2:Hid _:=lens_made HNZ.out.1 H1.out.1 H1.out.2 hown hgrow;clear hown hgrow hi hz0 hz1 hz2)
  have HCI:=coinCI s k w1.heap.size w1.heap.size n (List.replicate zs.length 0) w2 0 H2.out.1 (by rw [H2.out.2.2.2.2.1,HNZ.out.1];exact HP.out.2.2) (Int.le_refl _) (by intro z hz;simp at hz;omega) (by simp [Pc.sz])
  rw [H2.out.2.2.2.2.1] at HCI
  refine HCI.mono ?_
  clear HCI
  rintro e w3 ⟨rfl,ho3,on3⟩
  have H3:Hid (OwI w3 w0.heap.size w1.heap.size n (lensV zs L)∧Below w0.heap.size w0 w3):=by
   rw [HV.out]
   exact ⟨ho3.mono H2.out.2.2.2.1,H2.out.2.2.1.trans (on3.below H2.out.2.2.1.size (fun j hj=>by rw [hj];exact H2.out.2.2.2.1))⟩
  clear ho3 on3
  go_wp2
  go_ret2
  exact ⟨⟨_,rfl,H3.out.1⟩,H3.out.2⟩
 ·have hone2:¬(m:Int)=1:=by omega
  have hd1:((m:Int) == 1)=false:=by simp [hone2]
  have HV:Hid (lensV zs L=cntL ((rnd (coinsS zs) L).take (2*m-2)) (List.replicate zs.length 0)):=by
   unfold Hid lensV
   rw [HMS.out.1,if_neg hone]
  go_wp2_with (at_make;refine wpList_make_full _ rfl _ _ 38 rfl w1.heap.size 3 i0 (.int .i64 0) 1 Tryz.underlying38 hi hz0 hz1 .i64 .i64 _ _ n rfl rfl rfl rfl (by rw [hz2];omega) (by unfold maxLen;omega) nl ?_;intro w2 hown hgrow;have H2:Hid _:=lens_made HNZ.out.1 H1.out.1 H1.out.2 hown hgrow;clear hown hgrow hi hz0 hz1 hz2)
  go_loopw [47,8] (fun i lv W=>∃ k:Nat,k≤L∧i=.int .i64 k∧OVV W w0.heap.size lv (rnd (coinsS zs) k)∧OwI W w1.heap.size w1.heap.size n (List.replicate zs.length 0)∧OVV W w0.heap.size (.slice la m lc) (coinsL zs zs.length)∧Below w0.heap.size w0 W) (fun i _ _=>L-(intOf i).toNat)
  case atStart=>exact ⟨0,Nat.zero_le _,rfl,OVV.nil _ _,H2.out.1,H2.out.2.1,H2.out.2.2.1⟩
  case round=>
   obtain ⟨k,hk,rfl,hlv,hlens,hcs,hbel⟩:=hrel
   have HR:Hid (OVV wr w0.heap.size u8 (rnd (coinsS zs) k)∧OwI wr w1.heap.size w1.heap.size n (List.replicate zs.length 0)∧OVV wr w0.heap.size (.slice la m lc) (coinsL zs zs.length)∧Below w0.heap.size w0 wr):=⟨hlv,hlens,hcs,hbel⟩
   clear hlv hlens hcs hbel
   have hinv:=rnd_inv HZ.out.1 HZ.out.2.1 k
   obtain ⟨N,hN⟩:∃ N,N=(rnd (coinsS zs) k).length:=⟨_,rfl⟩
   have hN160:N≤160:=by rw [hN];have:=hinv.2.2;rw [HMS.out.1] at this;omega
   obtain ⟨lb,ld,hv8,hpc8,hcap8⟩:=HR.out.1.slice
   rw [←hN] at hv8 hcap8
   subst hv8
   have HN:Hid (N=(rnd (coinsS zs) k).length∧Pcs wr lb (rnd (coinsS zs) k)):=⟨hN,hpc8⟩
   clear hinv hpc8
   by_cases hkL:k<L
   ·have hkL2:(k:Int)<(L:Int):=by omega
    have HPO:=packsOf_any lb ld (rnd (coinsS zs) k) wr HN.out.2 (by rw [←HN.out.1];omega) (fun p hp=>(fine_of HZ.out.1 HZ.out.2.1 k (by omega) p hp).1)
    rw [←HN.out.1] at HPO
    clear hN
    go_wp2_with fail
    refine HPO.mono ?_
    clear HPO
    rintro e w5 ⟨v5,rfl,ho5,hb5⟩
    obtain ⟨l5,d5,hv5,hp5,-⟩:=ho5.slice
    rw [pairL_len] at hv5
    subst hv5
    have hcs5:=HR.out.2.2.1.below hb5
    obtain ⟨la',lc',e',hpc5,-⟩:=hcs5.slice
    simp only [Value.slice.injEq] at e'
    obtain ⟨rfl,-,rfl⟩:=e'
    have H5:Hid (OwI w5 w1.heap.size w1.heap.size n (List.replicate zs.length 0)∧OVV w5 w0.heap.size (.slice la m lc) (coinsL zs zs.length)∧Below w0.heap.size w0 w5):=⟨HR.out.2.1.below hb5 nl,hcs5,HR.out.2.2.2.trans (hb5.mono HR.out.2.2.2.size)⟩
    have HRO:=pcRound_any la l5 lc d5 m (N / 2) zs k w5 HZ.out.1 HZ.out.2.1 (by omega) (by rw [HMS.out.1];omega) HMS.out.2 (by rw [HN.out.1]) hpc5 hp5
    clear ho5 hb5 hp5 hcs5 hpc5
    go_wp2_with fail
    refine HRO.mono ?_
    clear HRO
    rintro e w6 ⟨v6,rfl,ho6,hb6⟩
    have H6:Hid (OVV w6 w0.heap.size v6 (rnd (coinsS zs) (k+1))∧OwI w6 w1.heap.size w1.heap.size n (List.replicate zs.length 0)∧OVV w6 w0.heap.size (.slice la m lc) (coinsL zs zs.length)∧Below w0.heap.size w0 w6):=⟨ho6.mono H5.out.2.2.size,H5.out.1.below hb6 nl,H5.out.2.1.below hb6,H5.out.2.2.trans (hb6.mono H5.out.2.2.size)⟩
    clear ho6 hb6
    go_wp2
    go_roundw
    case rel=>exact ⟨k+1,by omega,by go_num,H6.out.1,H6.out.2.1,H6.out.2.2.1,H6.out.2.2.2⟩
    case measure=>simp [intOf];omega
   ·have hkk:k=L:=by omega
    have hkL2:¬(k:Int)<(L:Int):=by omega
    subst hkk
    obtain ⟨Q,hQ⟩:∃ Q,Q=2*m-2:=⟨_,rfl⟩
    have hQi:2*(m:Int)-2=(Q:Int):=by omega
    have hQN:Q≤N:=by
     have:=rnd_enough (coinsS zs) k HZ.out.2.2.2 HZ.out.2.2.1
     rw [HMS.out.1,←HN.out.1] at this
     omega
    have hQ0:1≤Q:=by omega
    rw [←hQ] at HV
    obtain ⟨b8,o8,hlb,hb8,hc8⟩:=HN.out.2 (by rw [←HN.out.1];omega)
    subst hlb
    obtain ⟨i1,hif,-,hsz1,-⟩:=info_parts Tryz.infoPc
    have hsl:∀ W,(Instr.slice 163 (.slice (some ⟨b8,o8,none⟩) N ld) none (some (.int .i64 (Q:Int))) none).run Tryz.prog W=.ok (.slice (some ⟨b8,o8,none⟩) Q ld) W:=by
     intro W
     rw [run_slice_h W 163 _ _ _ (by simp [Program.elem,Tryz.underlying163]) .i64 _ (by omega) (by omega)]
     simp [Program.elem,Tryz.underlying163,Go.sizeOf,typeInfo,hif,hsz1,Result.andThen,sliced,Addr.add]
    obtain ⟨tg,htg⟩:=HR.out.2.1.tag
    have hbg:b8≠w1.heap.size:=fun e=>(HR.out.1.tagne htg (by decide)) (by simp [Value.ownBlock,e])
    have HC8:Hid ((∀ i,i<Q→wr.cell? ⟨b8,o8+i,none⟩=some ((rnd (coinsS zs) k).getD i dpc).vl)∧b8≠w1.heap.size∧Q≤(rnd (coinsS zs) k).length∧Q≤160):=⟨fun i hi=>hc8 i (by rw [←HN.out.1];omega),hbg,by rw [←HN.out.1];exact hQN,by omega⟩
    have mA:=Tryz.meth_coin_countInto
    have mB:=Tryz.meth_coinPack_countInto
    clear hc8 hbg htg hif hsz1 hQ hN
    generalize wr=V8 at *
    go_wp2
    go_loopw [61] (fun i W=>∃ j:Nat,j≤Q∧i=.int .i64 j∧OwI W w0.heap.size w1.heap.size n (cntL ((rnd (coinsS zs) k).take j) (List.replicate zs.length 0))∧Only (fun b=>b=w1.heap.size) V8 W) (fun i _=>Q-(intOf i).toNat)
    case atStart=>exact ⟨0,Nat.zero_le _,rfl,HR.out.2.1.mono H2.out.2.2.2.1,Only.refl _ _⟩
    case round=>
     obtain ⟨j,hj,rfl,hlens,hon⟩:=hrel
     by_cases hjQ:j<Q
     ·have hjQ2:(j:Int)<(Q:Int):=by omega
      obtain ⟨p,hpp⟩:∃ p,p=(rnd (coinsS zs) k).getD j dpc:=⟨_,rfl⟩
      obtain ⟨hpf,hpo,hps⟩:=fine_of HZ.out.1 HZ.out.2.1 k hL2 p (by rw [hpp];exact getD_memP2 (by have:=HC8.out.2.2.1;omega))
      have hlen8:=HC8.out.2.2
      rcases p.counted with ⟨x,hvx,hCI⟩ | ⟨x,hvx,hCI⟩
      ·rw [hpp] at hvx
       have hcj:=HC8.out.1 j hjQ
       rw [hvx] at hcj
       have hcw:=hon.cell hb8 (fun e=>HC8.out.2.1 e) hcj
       have hcx:=hCI w0.heap.size w1.heap.size n (cntL ((rnd (coinsS zs) k).take j) (List.replicate zs.length 0)) wr 2000000000000 hlens (by rw [cntL_len,List.length_replicate];exact hpo) (by omega) (cntL_step_rng HZ.out.1 HZ.out.2.1 k hL2 j (by omega)) (by omega)
       rw [cntL_len,H2.out.2.2.2.2.1,hpp,←cntL_step (rnd (coinsS zs) k) _ j (by omega)] at hcx
       have HCX:=hcx
       have HON:Hid (Only (fun b=>b=w1.heap.size) V8 wr):=hon
       clear hcx hCI hvx hcj hon hlens hpp hpf hpo hps
       go_wp2_with fail
       refine HCX.mono ?_
       rintro e w9 ⟨rfl,ho9,on9⟩
       have H9:Hid (OwI w9 w0.heap.size w1.heap.size n (cntL ((rnd (coinsS zs) k).take (j+1)) (List.replicate zs.length 0))∧Only (fun b=>b=w1.heap.size) V8 w9):=⟨ho9,HON.out.trans on9⟩
       clear ho9 on9
       go_wp2
       go_roundw
       case rel=>exact ⟨j+1,by omega,by go_num,H9.out.1,H9.out.2⟩
       case measure=>simp [intOf];omega
      ·rw [hpp] at hvx
       have hcj:=HC8.out.1 j hjQ
       rw [hvx] at hcj
       have hcw:=hon.cell hb8 (fun e=>HC8.out.2.1 e) hcj
       have hcx:=hCI w0.heap.size w1.heap.size n (cntL ((rnd (coinsS zs) k).take j) (List.replicate zs.length 0)) wr 2000000000000 hlens (by rw [cntL_len,List.length_replicate];exact hpo) (by omega) (cntL_step_rng HZ.out.1 HZ.out.2.1 k hL2 j (by omega)) (by omega)
       rw [cntL_len,H2.out.2.2.2.2.1,hpp,←cntL_step (rnd (coinsS zs) k) _ j (by omega)] at hcx
       have HCX:=hcx
       have HON:Hid (Only (fun b=>b=w1.heap.size) V8 wr):=hon
       clear hcx hCI hvx hcj hon hlens hpp hpf hpo hps
       go_wp2_with fail
       refine HCX.mono ?_
       rintro e w9 ⟨rfl,ho9,on9⟩
       have H9:Hid (OwI w9 w0.heap.size w1.heap.size n (cntL ((rnd (coinsS zs) k).take (j+1)) (List.replicate zs.length 0))∧Only (fun b=>b=w1.heap.size) V8 w9):=⟨ho9,HON.out.trans on9⟩
       clear ho9 on9
       go_wp2
       go_roundw
       case rel=>exact ⟨j+1,by omega,by go_num,H9.out.1,H9.out.2⟩
       case measure=>simp [intOf];omega
     ·have hjj:j=Q:=by omega
      have hjQ2:¬(j:Int)<(Q:Int):=by omega
      have H9:Hid (OwI wr w0.heap.size w1.heap.size n (lensV zs k)∧Below w0.heap.size w0 wr):=by
       rw [hjj,←HV.out] at hlens
       exact ⟨hlens,HR.out.2.2.2.trans (hon.below HR.out.2.2.2.size (fun i hi=>by rw [hi];exact H2.out.2.2.2.1))⟩
      clear hlens hon hjj
      go_wp2
      go_ret2
      exact ⟨⟨_,rfl,H9.out.1⟩,H9.out.2⟩
theorem coins_sum (zs:List Int):∀ k,k≤zs.length→sumF one (zs.take k)=((coinsL zs k).length:Nat)
 | 0,_=>by simp [sumF,coinsL]
 | k+1,h=>by
  rw [sumF_succ one zs k (by omega),coins_sum zs k (by omega)]
  simp only [coinsL,one]
  split <;> simp
theorem sum_succ (zs:List Int) (k:Nat) (h:k<zs.length):(zs.take (k+1)).sum=(zs.take k).sum+zs.getD k 0:=by
 rw [List.take_succ_eq_append_getElem h,List.sum_append]
 simp [List.getD_eq_getElem?_getD,List.getElem?_eq_getElem h]
def normB (zs:List Int):Bool:=decide (1≤zs.length∧zs.length≤80∧(∀ z ∈ zs,0≤z∧z≤64)∧zs.sum=64)
theorem normB_get {zs:List Int} (h:normB zs=true) (k:Nat) (hk:k<zs.length):0≤zs.getD k 0∧zs.getD k 0≤64:=by
 simp only [normB,decide_eq_true_eq] at h
 exact h.2.2.1 _ (getD_mem hk)
theorem normB_bnd {zs:List Int} (h:normB zs=true):1≤zs.length∧zs.length≤80:=by
 simp only [normB,decide_eq_true_eq] at h
 exact ⟨h.1,h.2.1⟩
def ahead (cs ns:List Int) (best:Int) (i:Nat):Prop:=0<cs.getD i 0∧(best<0∨cs.getD best.toNat 0*ns.getD i 0<cs.getD i 0*ns.getD best.toNat 0)
instance (cs ns:List Int) (best:Int) (i:Nat):Decidable (ahead cs ns best i):=by unfold ahead;infer_instance
def pick (cs ns:List Int):Nat→Int
 | 0=>-1
 | k+1=>if ahead cs ns (pick cs ns k) k then k else pick cs ns k
def give (cs ns:List Int):List Int:=bump ns (pick cs ns cs.length)
def shares (cs:List Int):Nat→List Int
 | 0=>cs.map one
 | j+1=>give cs (shares cs j)
theorem pick_yes {cs ns:List Int} {k:Nat} (h:ahead cs ns (pick cs ns k) k):pick cs ns (k+1)=k:=by simp [pick,h]
theorem pick_no {cs ns:List Int} {k:Nat} (h:¬ahead cs ns (pick cs ns k) k):pick cs ns (k+1)=pick cs ns k:=by simp [pick,h]
theorem pick_rng (cs ns:List Int) (k:Nat):-1≤pick cs ns k∧pick cs ns k<k:=by
 induction k with
 | zero=>simp [pick]
 | succ k ih=>simp only [pick];split <;> omega
theorem pick_pos (cs ns:List Int) (k:Nat) (h:0≤pick cs ns k):0<cs.getD (pick cs ns k).toNat 0:=by
 induction k with
 | zero=>simp [pick] at h
 | succ k ih=>
  by_cases c:ahead cs ns (pick cs ns k) k
  ·rw [pick_yes c];simpa using c.1
  ·rw [pick_no c] at h ⊢;exact ih h
theorem pick_some (cs ns:List Int) (k i:Nat) (hi:i<k) (h:0<cs.getD i 0):0≤pick cs ns k:=by
 induction k with
 | zero=>omega
 | succ k ih=>
  by_cases c:ahead cs ns (pick cs ns k) k
  ·rw [pick_yes c];omega
  ·rw [pick_no c]
   by_cases hk:i<k
   ·exact ih hk
   ·have:i=k:=by omega
    subst this
    have hr:=pick_rng cs ns i
    by_cases hp:pick cs ns i<0
    ·exact absurd ⟨h,.inl hp⟩ c
    ·omega
def some1 (cs:List Int):Prop:=∃ i,i<cs.length∧0<cs.getD i 0
theorem some1_of {cs:List Int} (h:1≤sumF one cs):some1 cs:=by
 induction cs with
 | nil=>simp [sumF] at h
 | cons c cs ih=>
  by_cases hc:0<c
  ·exact ⟨0,by simp,by simpa using hc⟩
  ·have e:sumF one (c :: cs)=sumF one cs:=by simp [sumF,one,hc]
   rw [e] at h
   obtain ⟨i,hi,hp⟩:=ih h
   exact ⟨i+1,by simp;omega,by simpa using hp⟩
def Fair (cs ns:List Int) (j:Nat):Prop:=ns.length=cs.length∧∀ i,i<cs.length→(0<cs.getD i 0→1≤ns.getD i 0∧ns.getD i 0≤j+1)∧(¬0<cs.getD i 0→ns.getD i 0=0)
theorem Fair.bnd {cs ns:List Int} {j:Nat} (h:Fair cs ns j) (i:Nat):0≤ns.getD i 0∧ns.getD i 0≤j+1:=by
 by_cases hi:i<cs.length
 ·have:=h.2 i hi
  by_cases hc:0<cs.getD i 0
  ·have:=this.1 hc;omega
  ·have:=this.2 hc;omega
 ·rw [List.getD_eq_getElem?_getD,List.getElem?_eq_none (by rw [h.1];omega)];simp;omega
theorem fair_zero (cs:List Int):Fair cs (cs.map one) 0:=by
 refine ⟨by simp,fun i hi=>?_⟩
 have e:(cs.map one).getD i 0=one (cs.getD i 0):=by simp [List.getD_eq_getElem?_getD,List.getElem?_eq_getElem hi]
 rw [e]
 constructor
 ·intro h;simp only [one];rw [if_pos h];omega
 ·intro h;simp only [one];rw [if_neg h]
theorem pick_in {cs ns:List Int} (hs:some1 cs):0≤pick cs ns cs.length∧(pick cs ns cs.length).toNat<cs.length∧0<cs.getD (pick cs ns cs.length).toNat 0:=by
 obtain ⟨i,hi,hp⟩:=hs
 have h1:=pick_some cs ns cs.length i hi hp
 have h2:=pick_rng cs ns cs.length
 exact ⟨h1,by omega,pick_pos cs ns _ h1⟩
theorem getD_set_eq {ns:List Int} {i:Nat} {v:Int} (h:i<ns.length):(ns.set i v).getD i 0=v:=by simp [List.getD_eq_getElem?_getD,h]
theorem getD_set_ne {ns:List Int} {i k:Nat} {v:Int} (h:i≠k):(ns.set k v).getD i 0=ns.getD i 0:=by
 simp only [List.getD_eq_getElem?_getD]
 rw [List.getElem?_set_ne (by omega)]
theorem fair_succ {cs ns:List Int} {j:Nat} (hs:some1 cs) (h:Fair cs ns j):Fair cs (give cs ns) (j+1):=by
 obtain ⟨p1,p2,p3⟩:=pick_in (ns:=ns) hs
 unfold give bump
 generalize (pick cs ns cs.length).toNat=p at *
 refine ⟨by simpa using h.1,fun i hi=>?_⟩
 have hi':=h.2 i hi
 by_cases hip:i=p
 ·subst hip
  rw [getD_set_eq (by rw [h.1];exact hi)]
  have:=hi'.1 p3
  exact ⟨fun _=>by omega,fun hh=>absurd p3 hh⟩
 ·rw [getD_set_ne hip]
  exact ⟨fun hh=>by have:=hi'.1 hh;omega,hi'.2⟩
theorem fair_all {cs:List Int} (hs:some1 cs) (j:Nat):Fair cs (shares cs j) j:=by
 induction j with
 | zero=>exact fair_zero cs
 | succ j ih=>exact fair_succ hs ih
theorem Fair.rng {cs ns:List Int} {j:Nat} (h:Fair cs ns j):∀ z ∈ ns,0≤z∧z≤(j:Int)+1:=by
 intro z hz
 obtain ⟨i,hi,rfl⟩:=List.getElem_of_mem hz
 have:=h.bnd i
 simpa [List.getD_eq_getElem?_getD,List.getElem?_eq_getElem hi] using this
theorem mulb {x y:Int} (hx:0≤x∧x≤1000000) (hy:0≤y∧y≤65):0≤x*y∧x*y≤65000000:=by
 refine ⟨Int.mul_nonneg hx.1 hy.1,?_⟩
 have h1:x*y≤1000000*y:=Int.mul_le_mul_of_nonneg_right hx.2 hy.1
 omega
theorem one_part_set (cs:List Int) (k:Nat) (h:k<cs.length) (hp:0<cs.getD k 0):(part (cs.map one) k).set k 1=part (cs.map one) (k+1):=by
 rw [←part_set (cs.map one) k (by simpa using h)]
 congr 1
 have e:(cs.map one).getD k 0=one (cs.getD k 0):=by simp [List.getD_eq_getElem?_getD,List.getElem?_eq_getElem h]
 rw [e]
 simp only [one]
 rw [if_pos hp]
theorem one_part_skip (cs:List Int) (k:Nat) (h:k<cs.length) (hp:¬0<cs.getD k 0):part (cs.map one) k=part (cs.map one) (k+1):=by
 rw [←part_set (cs.map one) k (by simpa using h)]
 have e:(cs.map one).getD k 0=one (cs.getD k 0):=by simp [List.getD_eq_getElem?_getD,List.getElem?_eq_getElem h]
 rw [e]
 have e0:one (cs.getD k 0)=0:=by simp only [one];rw [if_neg hp]
 rw [e0]
 apply List.ext_getElem?
 intro i
 by_cases hik:i=k
 ·subst hik
  rw [List.getElem?_set_self (by rw [part_len _ _ (by simp;omega)];simpa using h),part_get _ _ _ (by simp;omega)]
  simp [h]
 ·rw [List.getElem?_set_ne (by omega)]
theorem needy_any (a:Option Addr) (cap:Nat) (cs:List Int) (b:Option Addr) (cb:Nat) (ns:List Int) (j:Nat) (w:World) (ha:Ins w a cs) (hb:Ins w b ns) (hn:cs.length≤80) (hc:∀ i,i<cs.length→0≤cs.getD i 0∧cs.getD i 0≤1000000) (hj:j≤64) (hf:Fair cs ns j) :
  Calls Tryz.prog 128 #[.slice a cs.length cap,.slice b cs.length cb] w fun e w'=>e=.returned (.int .i64 (pick cs ns cs.length))∧∃ m,w'=w.drewN m:=by
 have HF:Hid (Fair cs ns j):=hf
 have HC:Hid (∀ i,i<cs.length→0≤cs.getD i 0∧cs.getD i 0≤1000000):=hc
 have HQ:Hid (ns.length=cs.length):=hf.1
 clear hf hc
 generalize hlen:cs.length=n at *
 have HL:Hid (cs.length=n):=hlen
 clear hlen
 go_enter Tryz.func128,Tryz.ntmps128
 go_wp2
 go_loopw [5,10] (fun x i wr=>∃ k m:Nat,k≤n∧i=.int .i64 k∧x=.int .i64 (pick cs ns k)∧wr=w.drewN m) (fun _ i _=>n-(intOf i).toNat)
 case atStart=>exact ⟨0,0,Nat.zero_le _,rfl,rfl,rfl⟩
 case round=>
  obtain ⟨k,m,hk,rfl,rfl,rfl⟩:=hrel
  by_cases hlt:k<n
  ·obtain ⟨b1,o1,rfl,hb1,hc1⟩:=ha.len_pos k (by rw [HL.out];exact hlt)
   obtain ⟨b2,o2,rfl,hb2,hc2⟩:=hb.len_pos k (by rw [HQ.out];exact hlt)
   have hs1:=hc1 k (by rw [HL.out];exact hlt)
   have hs2:=hc2 k (by rw [HQ.out];exact hlt)
   have hx:=HC.out k hlt
   have hy:=HF.out.bnd k
   have hfk:=HF.out.2 k (by rw [HL.out];exact hlt)
   have hp:=pick_rng cs ns k
   by_cases hsh:ns.getD k 0=0
   ·have hno:¬ahead cs ns (pick cs ns k) k:=fun h=>by have:=hfk.1 h.1;omega
    have HP:Hid (pick cs ns (k+1)=pick cs ns k):=pick_no hno
    clear hno hfk hc1 hc2 hx
    rw [hsh] at hs2
    clear hsh hy
    generalize pick cs ns k=p at *
    go_wp2
    go_roundw
    case rel=>exact ⟨k+1,_,by omega,by go_num,by rw [HP.out],rfl⟩
    case measure=>simp [intOf];omega
   ·have hpos:0<cs.getD k 0:=by
     by_cases h:0<cs.getD k 0
     ·exact h
     ·exact absurd (hfk.2 h) hsh
    by_cases hpn:pick cs ns k<0
    ·have HP:Hid (pick cs ns (k+1)=k):=pick_yes ⟨hpos,.inl hpn⟩
     clear hfk hc1 hc2
     generalize pick cs ns k=p at *
     generalize cs.getD k 0=x at *
     generalize ns.getD k 0=y at *
     go_wp2
     go_quiet (fail)
     go_wp2
     go_roundw
     case rel=>exact ⟨k+1,_,by omega,by go_num,by rw [HP.out],rfl⟩
     case measure=>simp [intOf];omega
    ·have HPY:Hid _:=@pick_yes cs ns k
     have HPN:Hid _:=@pick_no cs ns k
     have HPP:Hid (ahead cs ns (pick cs ns k) k↔cs.getD (pick cs ns k).toNat 0*ns.getD k 0<cs.getD k 0*ns.getD (pick cs ns k).toNat 0):=by
      unfold Hid ahead
      constructor
      ·rintro ⟨_,h | h⟩
       ·exact absurd h hpn
       ·exact h
      ·exact fun h=>⟨hpos,.inr h⟩
     clear hfk
     generalize pick cs ns k=p at *
     obtain ⟨q,rfl⟩:∃ q:Nat,p=q:=⟨p.toNat,by omega⟩
     simp only [Int.toNat_natCast] at HPP
     have hs3:=hc1 q (by rw [HL.out];omega)
     have hs4:=hc2 q (by rw [HQ.out];omega)
     have hu:=HC.out q (by omega)
     have hqn:q<n:=by omega
     have hv:=HF.out.bnd q
     clear hc1 hc2 hp hpn
     generalize cs.getD k 0=x at *
     generalize ns.getD k 0=y at *
     generalize cs.getD q 0=u at *
     generalize ns.getD q 0=v at *
     have m1:=mulb hx (show 0≤v∧v≤65 by omega)
     have m2:=mulb hu (show 0≤y∧y≤65 by omega)
     have hw1:IntKind.i64.wrap (x*v)=x*v:=IntWalk.i64_in _ (by omega)
     have hw2:IntKind.i64.wrap (u*y)=u*y:=IntWalk.i64_in _ (by omega)
     by_cases hcmp:u*y<x*v
     ·have HP:Hid (pick cs ns (k+1)=k):=HPY.out (HPP.out.2 hcmp)
      clear HPY HPN HPP
      go_wp2
      go_quiet (fail)
      go_wp2
      go_roundw
      case rel=>exact ⟨k+1,_,by omega,by go_num,by rw [HP.out],rfl⟩
      case measure=>simp [intOf];omega
     ·have HP:Hid (pick cs ns (k+1)=q):=HPN.out (fun h=>hcmp (HPP.out.1 h))
      clear HPY HPN HPP
      go_wp2
      go_quiet (fail)
      go_wp2
      go_roundw
      case rel=>exact ⟨k+1,_,by omega,by go_num,by rw [HP.out],rfl⟩
      case measure=>simp [intOf];omega
  ·have hkn:k=n:=by omega
   subst hkn
   go_wp2
   go_ret
   exact ⟨rfl,_,rfl⟩
theorem cntB_getN {zs:List Int} (h:cntB zs=true) (k:Nat) (hk:k<zs.length):0≤zs.getD k 0∧zs.getD k 0≤1000000:=by
 simp only [cntB,decide_eq_true_eq] at h
 exact h.2.2 _ (getD_mem hk)
theorem cntB_bndN {zs:List Int} (h:cntB zs=true):1≤zs.length∧zs.length≤80:=by
 simp only [cntB,decide_eq_true_eq] at h
 exact ⟨h.1,h.2.1⟩
theorem below_drewNN {B:Nat} {a b:World} (h:Below B a b) (n:Nat):Below B a (b.drewN n):=⟨h.os,h.tape,h.output,h.size,h.block⟩
def roomy (cs:List Int):Prop:=1≤sumF one cs∧sumF one cs≤64
def rest (cs:List Int):Nat:=(64-sumF one cs).toNat
theorem implNorm_ok (a:Option Addr) (cap:Nat) (cs:List Int) (w:World) (hb:Ins w a cs) (hc:cntB cs=true) :
  Calls Tryz.prog 99 #[.slice a cs.length cap] w fun e w'=>Below w.heap.size w w' ∧
   (¬roomy cs→e=.returned (.tuple #[.slice none 0 0,.bool false])) ∧
   (roomy cs→e=.returned (.tuple #[.slice (some ⟨w.heap.size,0,none⟩) cs.length cs.length,.bool true])∧OwI w' w.heap.size w.heap.size cs.length (shares cs (rest cs))):=by
 obtain ⟨i0,hi,hz0,hz1,hz2⟩:=info_parts Tryz.infoI64
 obtain ⟨hn1,hn2⟩:=cntB_bndN hc
 have HG:Hid (∀ i,i<cs.length→0≤cs.getD i 0∧cs.getD i 0≤1000000):=fun i hi=>cntB_getN hc i hi
 have HT:=implCnt_any a cap cs w hb (by omega)
 rw [hc] at HT
 have HND:Hid (∀ (b:Option Addr) (cb:Nat) (ns:List Int) (j:Nat) (w:World),Ins w a cs→Ins w b ns→j≤64→Fair cs ns j→Calls Tryz.prog 128 #[.slice a cs.length cap,.slice b cs.length cb] w fun e w'=>e=.returned (.int .i64 (pick cs ns cs.length))∧∃ m,w'=w.drewN m):=fun b cb ns j w h1 h2 h3 h4=>needy_any a cap cs b cb ns j w h1 h2 hn2 HG.out h3 h4
 clear hc
 generalize hlen:cs.length=n at *
 have HL:Hid (cs.length=n):=hlen
 clear hlen
 go_enter Tryz.func99,Tryz.ntmps99
 go_wp2_with fail
 refine HT.mono ?_
 rintro e w0 ⟨rfl,rfl⟩
 clear HT
 go_wp2_with (at_make;refine wpList_make_full _ rfl _ _ 38 rfl w0.heap.size 3 i0 (.int .i64 0) 1 Tryz.underlying38 hi hz0 hz1 .i64 .i64 _ _ n rfl rfl rfl rfl (by rw [hz2];omega) (by unfold maxLen;omega) nl ?_;intro w1 hown hgrow)
 have h0:OwI w1 w0.heap.size w0.heap.size n (part (cs.map one) 0):=by
  rw [part_zero,List.length_map,HL.out]
  refine ⟨?_,by intro z hz;simp at hz;omega⟩
  rw [made_zeroI] at hown
  simpa using hown
 have hbw:Below w0.heap.size w0 w1:=(Below.refl _ _).grown hgrow nl (by intro k hk;cases hk)
 have H0:Hid (OwI w1 w0.heap.size w0.heap.size n (part (cs.map one) 0)):=h0
 clear h0 hown hgrow hi hz0 hz1 hz2
 go_loopw [5,16] (fun x i wr=>∃ k:Nat,k≤n∧i=.int .i64 k∧x=.int .i64 (sumF one (cs.take k))∧OwI wr w0.heap.size w0.heap.size n (part (cs.map one) k)∧Below w0.heap.size w0 wr) (fun _ i _=>n-(intOf i).toNat)
 case atStart=>exact ⟨0,Nat.zero_le _,rfl,by simp [sumF],H0.out,hbw⟩
 case round=>
  obtain ⟨k,hk,rfl,rfl,hown,hbel⟩:=hrel
  have HO:Hid (OwI wr w0.heap.size w0.heap.size n (part (cs.map one) k)):=hown
  clear hown hbw H0
  by_cases hlt:k<n
  ·obtain ⟨b,off,rfl,hbl,hcells⟩:=hb.len_pos k (by rw [HL.out];exact hlt)
   have hsrc:wr.cell? ⟨b,off+k,none⟩=some (.int .i64 (cs.getD k 0)):=(hbel.cell (p:=⟨b,off+k,none⟩) hbl).trans (hcells k (by rw [HL.out];exact hlt))
   have hx:=HG.out k hlt
   have hF:=sumF_bnd one 1 one_bnd (cs.take k)
   have hF2:(cs.take k).length≤80:=by rw [List.length_take,HL.out];omega
   have HS:Hid (sumF one (cs.take (k+1))=sumF one (cs.take k)+one (cs.getD k 0)):=sumF_succ one cs k (by rw [HL.out];exact hlt)
   have hdst:=HO.out.cell k (by rw [part_len _ _ (by rw [List.length_map,HL.out];omega),List.length_map,HL.out];exact hlt)
   have hfz:=HO.out.frozen k
   have HP1:Hid _:=one_part_set cs k (by rw [HL.out];exact hlt)
   have HP0:Hid _:=one_part_skip cs k (by rw [HL.out];exact hlt)
   generalize cs.getD k 0=x at *
   generalize hFF:sumF one (cs.take k)=F at *
   have hFb:0≤F∧F≤80:=by omega
   clear hF hF2 hFF hcells hb
   by_cases h5:0<x
   ·have HP:Hid (one x=1):=by simp [Hid,one,h5]
    have R:=HO.out.store k 1 (by omega)
    rw [HP1.out h5] at R
    have HR:Hid (OwI (wr.setCell ⟨w0.heap.size,k,none⟩ (.int .i64 1)) w0.heap.size w0.heap.size n (part (cs.map one) (k+1))):=R
    have HB:Hid (Below w0.heap.size w0 (wr.setCell ⟨w0.heap.size,k,none⟩ (.int .i64 1))):=hbel.setCell (p:=⟨w0.heap.size,k,none⟩) nl (.int .i64 1)
    clear R HP1 HP0
    go_wp2
    go_roundw
    case rel=>exact ⟨k+1,by omega,by go_num,by rw [HS.out,HP.out],by simpa using HR.out,by simpa using HB.out⟩
    case measure=>simp [intOf];omega
   ·have HP:Hid (one x=0):=by simp [Hid,one,h5]
    have HR:Hid (OwI wr w0.heap.size w0.heap.size n (part (cs.map one) (k+1))):=by rw [←HP0.out h5];exact HO.out
    clear HP1 HP0
    go_wp2
    go_roundw
    case rel=>exact ⟨k+1,by omega,by go_num,by rw [HS.out,HP.out];simp,HR.out,hbel⟩
    case measure=>simp [intOf];omega
  ·have hkn:k=n:=by omega
   subst hkn
   have hall:=HO.out
   have el:(cs.map one).length=k:=by rw [List.length_map];exact HL.out
   rw [show part (cs.map one) k=cs.map one from by rw [←el];exact part_all _] at hall
   have HA:Hid (OwI wr w0.heap.size w0.heap.size k (shares cs 0)):=hall
   have e:cs.take k=cs:=List.take_of_length_le (by rw [HL.out];exact Nat.le_refl _)
   have hF:=sumF_bnd one 1 one_bnd cs
   rw [HL.out] at hF
   rw [e]
   clear hall HO el e
   generalize hS:sumF one cs=S at *
   have HS:Hid (sumF one cs=S):=hS
   clear hS
   by_cases hsm:1≤S∧S≤64
   ·have HFA:Hid (∀ j,Fair cs (shares cs j) j):=fun j=>fair_all (some1_of (by rw [HS.out];exact hsm.1)) j
    have HPI:Hid (∀ ns,0≤pick cs ns k∧(pick cs ns k).toNat<k):=fun ns=>by have:=pick_in (ns:=ns) (some1_of (cs:=cs) (by rw [HS.out];exact hsm.1));rw [HL.out] at this;exact ⟨this.1,this.2.1⟩
    have HPS:Hid (roomy cs):=by unfold Hid roomy;rw [HS.out];exact hsm
    have HR:Hid (rest cs=(64-S).toNat):=by unfold Hid rest;rw [HS.out]
    go_wp2
    go_loopw [5] (fun x wr=>∃ j:Nat,S+j≤64∧x=.int .i64 (S+j)∧OwI wr w0.heap.size w0.heap.size k (shares cs j)∧Below w0.heap.size w0 wr) (fun x _=>64-(intOf x).toNat)
    case atStart=>exact ⟨0,by omega,by simp,HA.out,hbel⟩
    case round=>
     obtain ⟨j,hj,rfl,hown,hbel2⟩:=hrel
     have HO:Hid (OwI wr w0.heap.size w0.heap.size k (shares cs j)):=hown
     clear hown
     by_cases hlt2:S+j<64
     ·go_wp2_with fail
      refine (HND.out _ _ (shares cs j) j wr (hb.below hbel2 nl) HO.out.byt (by omega) (HFA.out j)).mono ?_
      rintro e w3 ⟨rfl,m3,rfl⟩
      have hbel3:Below w0.heap.size w0 (wr.drewN m3):=below_drewNN hbel2 m3
      have HO3:Hid (OwI (wr.drewN m3) w0.heap.size w0.heap.size k (shares cs j)):=HO.out.drewN m3
      clear hbel2 HO
      generalize wr.drewN m3=w3 at *
      have hpi:=HPI.out (shares cs j)
      have hbn:=(HFA.out j).bnd (pick cs (shares cs j) k).toNat
      have hst:shares cs (j+1)=(shares cs j).set (pick cs (shares cs j) k).toNat ((shares cs j).getD (pick cs (shares cs j) k).toNat 0+1):=by
       show give cs (shares cs j)=_
       unfold give bump
       rw [HL.out]
      generalize pick cs (shares cs j) k=p at *
      obtain ⟨q,rfl⟩:∃ q:Nat,p=q:=⟨p.toNat,by omega⟩
      simp only [Int.toNat_natCast] at *
      have hdst:=HO3.out.cell q (by rw [(HFA.out j).1,HL.out];omega)
      have hfz:=HO3.out.frozen q
      have R:=HO3.out.store q ((shares cs j).getD q 0+1) (by omega)
      rw [←hst] at R
      clear hst
      generalize (shares cs j).getD q 0=v at *
      have HR2:Hid (OwI (w3.setCell ⟨w0.heap.size,q,none⟩ (.int .i64 (v+1))) w0.heap.size w0.heap.size k (shares cs (j+1))):=R
      have HB:Hid (Below w0.heap.size w0 (w3.setCell ⟨w0.heap.size,q,none⟩ (.int .i64 (v+1)))):=hbel3.setCell (p:=⟨w0.heap.size,q,none⟩) nl (.int .i64 (v+1))
      clear R
      go_wp2
      go_roundw
      case rel=>exact ⟨j+1,by omega,by go_num,by simpa using HR2.out,by simpa using HB.out⟩
      case measure=>simp [intOf];omega
     ·have hje:(64-S).toNat=j:=by omega
      have HF2:Hid (OwI wr w0.heap.size w0.heap.size k (shares cs (rest cs))):=by rw [HR.out,hje];exact HO.out
      go_wp2
      exact bodyPost_ret (v:=.tuple #[.slice (some ⟨w0.heap.size,0,none⟩) k k,.bool true]) (by simp [results,Tryz.results99,go_sem]) rfl ⟨hbel2,fun h=>absurd HPS.out h,fun _=>⟨rfl,HF2.out⟩⟩
   ·have HNS:Hid (¬roomy cs):=by unfold Hid roomy;rw [HS.out];exact hsm
    by_cases hs0:S<1
    ·go_wp2
     exact bodyPost_ret (v:=.tuple #[.slice none 0 0,.bool false]) (by simp [results,Tryz.results99,go_sem]) rfl ⟨hbel,fun _=>rfl,fun h=>absurd h HNS.out⟩
    ·have hs64:64<S:=by omega
     go_wp2
     exact bodyPost_ret (v:=.tuple #[.slice none 0 0,.bool false]) (by simp [results,Tryz.results99,go_sem]) rfl ⟨hbel,fun _=>rfl,fun h=>absurd h HNS.out⟩
end Go.Proofs.YtfeokafkhnbdiaaGreatDoor
