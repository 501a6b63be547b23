/- Lemmas on the way. -/
import Derived.Test.YtfeokafkhnbdiaaGreatDoorPmA
import Derived.Test.YtfeokafkhnbdiaaGreatDoorPmB
import Derived.Test.YtfeokafkhnbdiaaGreatDoorPcA
set_option maxRecDepth 20000
set_option maxHeartbeats 16000000
namespace Go.Proofs.YtfeokafkhnbdiaaGreatDoor
open Go.RowKit
set_option linter.unusedVariables false
set_option linter.unusedSimpArgs false
theorem cntL_rng (Z:Nat):∀ (l:List Pc) (zs:List Int) (M:Int),0≤M→(∀ p ∈ l,p.sz≤Z)→(∀ z ∈ zs,0≤z∧z≤M)→∀ z ∈ cntL l zs,0≤z∧z≤M+(l.length*Z:Nat)
 | [],zs,M,_,_,h,z,hz=>by have:=h z hz;simp;omega
 | p :: l,zs,M,h0,hl,h,z,hz=>by
  have h1:=cntP_rng p zs M h0 h
  have h2:=hl p (by simp)
  have h3:=cntL_rng Z l (cntP p zs) (M+p.sz) (by omega) (fun q hq=>hl q (by simp [hq])) h1 z hz
  refine ⟨h3.1,Int.le_trans h3.2 ?_⟩
  simp only [List.length_cons,Nat.add_mul,Nat.one_mul]
  omega
theorem coins_one {zs:List Int} (h:(coinsS zs).length=1):(coinsS zs).getD 0 dpc=(coinsL zs zs.length).getD 0 dpc:=by
 have hp:=srt_perm zs zs.length
 have h2:(coinsL zs zs.length).length=1:=by rw [←coinsS_len];exact h
 obtain ⟨p,hp1⟩:=List.length_eq_one_iff.1 h
 obtain ⟨q,hq1⟩:=List.length_eq_one_iff.1 h2
 unfold coinsS at hp1
 rw [hp1,hq1] at hp
 have:=hp.eq_singleton
 unfold coinsS
 rw [hp1,hq1]
 simpa using this
theorem fine_of {zs:List Int} (hz:∀ z ∈ zs,0≤z∧z≤1000000) (hn:zs.length≤80) (k:Nat) (hk:k≤12):∀ p ∈ rnd (coinsS zs) k,p.fine∧p.ok zs.length∧p.sz≤10000000000:=fun p hp=>by
 obtain ⟨h1,h2,h3⟩:=(rnd_inv hz hn k).2.1 p hp
 have h4:2 ^ k≤2 ^ 12:=Nat.pow_le_pow_right (by omega) hk
 have h5:1000000*2 ^ k≤1000000*4096:=Nat.mul_le_mul_left _ h4
 have h6:=sz_wt p h3
 exact ⟨⟨by omega,by omega⟩,h3,by omega⟩
theorem pcRound_any (a1 a2:Option Addr) (c1 c2 N M:Nat) (zs:List Int) (k:Nat) (w:World) (hz:∀ z ∈ zs,0≤z∧z≤1000000) (hn:zs.length≤80) (hk:k<12) (hc:1≤(coinsS zs).length) (hN:N=(coinsL zs zs.length).length) (hM:M=(rnd (coinsS zs) k).length / 2) (h1:Pcs w a1 (coinsL zs zs.length)) (h2:Pcs w a2 (pairL (rnd (coinsS zs) k) M)) :
  Calls Tryz.prog 121 #[.slice a1 N c1,.slice a2 M c2] w fun e w'=>∃ (v:Value),e=.returned v∧OVV w' w.heap.size v (rnd (coinsS zs) (k+1))∧Below w.heap.size w w':=by
 subst hN
 have hinv:=rnd_inv hz hn k
 have hcl:=coinsL_len zs zs.length
 have hml:(coinsS zs).length≤80:=by rw [coinsS_len];omega
 have h:=roundList_any a1 a2 c1 c2 (coinsL zs zs.length) (pairL (rnd (coinsS zs) k) M) w h1 h2 (fun p hp=>by
  have hin:p ∈ rnd (coinsS zs) (k+1):=by
   refine ((mrg_perm _ _).mem_iff).2 ?_
   rcases List.mem_append.1 hp with hp | hp
   ·exact List.mem_append_left _ ((srt_perm zs zs.length).mem_iff.2 hp)
   ·rw [hM] at hp
    exact List.mem_append_right _ hp
  exact (fine_of hz hn (k+1) (by omega) p hin).1) (by rw [pairL_len];omega) (by rw [←coinsS_len];exact hc)
 rw [pairL_len] at h
 refine h.mono ?_
 rintro e w' ⟨v,l,rfl,ho,hp,hs,hb⟩
 have e1:l=rnd (coinsS zs) (k+1):=rnd_round hz hn k (by rw [←hM];exact hp) hs
 rw [e1] at ho
 exact ⟨v,rfl,ho,hb⟩
theorem lens_pow {L:Nat} (h:L≤12):wrap64 (2 ^ L)=((2 ^ L:Nat):Int):=by
 have h1:2 ^ L≤2 ^ 12:=Nat.pow_le_pow_right (by omega) h
 have e:((2:Int) ^ L)=((2 ^ L:Nat):Int):=by simp
 rw [e]
 generalize 2 ^ L=P at *
 exact IntWalk.wrap64_in _ (by omega)
theorem OwI.tag {w:World} {B g cap:Nat} {zs:List Int} (h:OwI w B g cap zs):∃ cur,w.heap[g]?=some (.cells cur 3 (0,0)):=by
 rcases h.1.2 with ⟨h1,_⟩ | ⟨g',cap',cur,h1,_,hh,_⟩
 ·cases h1
 ·obtain rfl:g=g':=by simp at h1;exact h1.1
  exact ⟨cur,hh⟩
theorem cntL_step (l:List Pc) (zs:List Int) (k:Nat) (hk:k<l.length):cntL (l.take (k+1)) zs=cntP (l.getD k dpc) (cntL (l.take k) zs):=by
 rw [List.take_succ_eq_append_getElem hk,cntL_snoc]
 simp [List.getD_eq_getElem?_getD,hk]
theorem cntL_step_rng {zs:List Int} (hz:∀ z ∈ zs,0≤z∧z≤1000000) (hn:zs.length≤80) (L:Nat) (hL:L≤12) (k:Nat) (hk:k≤160):∀ z ∈ cntL ((rnd (coinsS zs) L).take k) (List.replicate zs.length 0),0≤z∧z≤2000000000000:=fun z hzm=>by
 have h:=cntL_rng 10000000000 ((rnd (coinsS zs) L).take k) (List.replicate zs.length 0) 0 (Int.le_refl _) (fun p hp=>(fine_of hz hn L hL p (List.mem_of_mem_take hp)).2.2) (fun z hz=>by simp at hz;omega) z hzm
 have h2:((rnd (coinsS zs) L).take k).length≤160:=by rw [List.length_take];omega
 have h3:((rnd (coinsS zs) L).take k).length*10000000000≤160*10000000000:=Nat.mul_le_mul_right _ h2
 omega
theorem lens_made {w0 w1 w2:World} {zs:List Int} {n m lc:Nat} {la:Option Addr} {cs:List Pc} (hn:n=zs.length) (hov:OVV w1 w0.heap.size (.slice la m lc) cs) (hb1:Below w0.heap.size w0 w1) (hown:w2.ownsRow w1.heap.size 3 1 (.slice (some ⟨w1.heap.size,0,none⟩) n n) n (madeCells (Value.int .i64 0).cells (n*1)).toList) (hgrow:w1.grownBy w2 none) :
  OwI w2 w1.heap.size w1.heap.size n (List.replicate zs.length 0)∧OVV w2 w0.heap.size (.slice la m lc) cs∧Below w0.heap.size w0 w2∧w0.heap.size≤w1.heap.size∧(List.replicate zs.length (0:Int)).length=n∧w1.heap.size<w2.heap.size:=by
 have hbw:Below w1.heap.size w1 w2:=(Below.refl _ _).grown hgrow nl (by intro k hk;cases hk)
 have h0:OwI w2 w1.heap.size w1.heap.size n (List.replicate zs.length 0):=by
  rw [←hn]
  refine ⟨?_,by intro z hz;simp at hz;omega⟩
  rw [made_zeroI] at hown
  simpa using hown
 exact ⟨h0,hov.below hbw,hb1.trans (hbw.mono hb1.size),hb1.size,by rw [List.length_replicate];exact hn.symm,h0.lt.2⟩
theorem implLens_yes (a:Option Addr) (c:Nat) (zs:List Int) (L:Nat) (w:World) (hb:Ins w a zs) (hok:lensOkB zs (L:Int)) :
  Calls Tryz.prog 95 #[.slice a zs.length c,.int .i64 L] w fun e w'=>(∃ g,e=.returned (.tuple #[.slice (some ⟨g,0,none⟩) zs.length zs.length,.bool true])∧OwI w' w.heap.size g zs.length (lensV zs L))∧Below w.heap.size w w':=by
 obtain ⟨i0,hi,hz0,hz1,hz2⟩:=info_parts Tryz.infoI64
 obtain ⟨hcb,hx1,hx2,hm1,hm2⟩:=hok
 have hcnt:=hcb
 simp only [cntB,decide_eq_true_eq] at hcnt
 obtain ⟨hn1,hn2,hzr⟩:=hcnt
 have hL1:1≤L:=by omega
 have hL2:L≤12:=by omega
 rw [Int.toNat_natCast] at hm2
 have HCNT:=implCnt_any a c zs w hb (by omega)
 rw [hcb] at HCNT
 have HCO:=coinsOf_any a c zs w hb (by omega) (fun z h=>(hzr z h).1)
 have HZ:Hid ((∀ z ∈ zs,0≤z∧z≤1000000)∧zs.length≤80∧(coinsS zs).length≤2 ^ L∧1≤L):=⟨hzr,hn2,hm2,hL1⟩
 obtain ⟨m,hm⟩:∃ m,m=(coinsL zs zs.length).length:=⟨_,rfl⟩
 have hmS:(coinsS zs).length=m:=by rw [coinsS_len,hm]
 have hm80:m≤80:=by rw [hm];have:=coinsL_len zs zs.length;omega
 obtain ⟨P2,hP2⟩:∃ P2,P2=2 ^ L:=⟨_,rfl⟩
 have HP2:Hid (wrap64 (2 ^ L)=((P2:Nat):Int)∧True):=by rw [hP2];exact ⟨lens_pow hL2,trivial⟩
 have hmP:m≤P2:=by rw [hP2,←hmS];exact hm2
 rw [hmS] at hm1
 have hP2b:P2≤4096:=by rw [hP2];exact Nat.pow_le_pow_right (by omega) hL2
 have HMS:Hid ((coinsS zs).length=m∧m=(coinsL zs zs.length).length):=⟨hmS,hm⟩
 have hl1:¬(L:Int)<1:=by omega
 have hl2:¬(12:Int)<(L:Int):=by omega
 have hmm1:¬(m:Int)<1:=by omega
 have hmm2:¬(P2:Int)<(m:Int):=by omega
 clear hcb hx1 hx2 hm2 hzr hmS hm hP2 hb
 obtain ⟨n,hn⟩:∃ n,n=zs.length:=⟨_,rfl⟩
 have HNZ:Hid (n=zs.length∧True):=⟨hn,trivial⟩
 rw [←hn] at hn1 hn2 HCNT HCO ⊢
 clear hn
 have hpw:=HP2.out.1
 go_enter Tryz.func95,Tryz.ntmps95
 go_wp2_with fail
 refine HCNT.mono ?_
 clear HCNT
 rintro e w0 ⟨rfl,rfl⟩
 go_wp2_with fail
 refine HCO.mono ?_
 clear HCO
 rintro e w1 ⟨v,rfl,hov,hb1⟩
 obtain ⟨la,lc,hv,-,-⟩:=hov.slice
 rw [HNZ.out.1,←HMS.out.2] at hv
 rw [HNZ.out.1] at hov
 subst hv
 have H1:Hid (OVV w1 w0.heap.size (.slice la m lc) (coinsL zs zs.length)∧Below w0.heap.size w0 w1):=⟨hov,hb1⟩
 clear hov hb1
 by_cases hone:m=1
 ·have hone2:(m:Int)=1:=by omega
  have hd1:((m:Int) == 1)=true:=by simp [hone2]
  obtain ⟨p,hp⟩:∃ p,p=(coinsL zs zs.length).getD 0 dpc:=⟨_,rfl⟩
  have hpin:p ∈ coinsL zs zs.length:=by rw [hp];exact getD_memP2 (by rw [←HMS.out.2];omega)
  obtain ⟨q1,q2,q3,s,k,q4⟩:=coinsL_mem zs HZ.out.1 zs.length nl p hpin
  have HV:Hid (lensV zs L=cntP p (List.replicate zs.length 0)):=by
   unfold Hid lensV
   rw [HMS.out.1,if_pos hone,coins_one (by rw [HMS.out.1];exact hone),←hp]
  have hm0:(0:Int)<(m:Int):=by omega
  subst q4
  have HP:Hid (Pcs w1 la (coinsL zs zs.length)∧(coinsL zs zs.length).getD 0 dpc=.coin s k∧(Pc.coin s k).ok zs.length):=by
   obtain ⟨a',c',e',hpc,_⟩:=H1.out.1.slice
   simp only [Value.slice.injEq] at e'
   rw [e'.1]
   exact ⟨hpc,hp.symm,q3⟩
  obtain ⟨b2,o2,hla,hb2,hc2⟩:=HP.out.1 (by rw [←HMS.out.2];omega)
  subst hla
  have hc20:=hc2 0 (by rw [←HMS.out.2];omega)
  rw [HP.out.2.1,Nat.add_zero] at hc20
  have HC20:Hid (w1.cell? ⟨b2,o2,none⟩=some (.iface 198 (.agg #[.int .i64 s,.int .i64 k]))):=hc20
  have mA:=Tryz.meth_coin_countInto
  clear hp hpin q1 q2 q3 hc2 hc20 hone
  go_wp2_with (at_make;refine wpList_make_full _ rfl _ _ 38 rfl w1.heap.size 3 i0 (.int .i64 0) 1 Tryz.underlying38 hi hz0 hz1 .i64 .i64 _ _ n rfl rfl rfl rfl (by rw [hz2];omega) (by unfold maxLen;omega) nl ?_;intro w2 hown hgrow;have c20:=((Below.refl w1.heap.size w1).grown hgrow nl (by intro k hk;cases hk)).cell (p:=⟨b2,o2,none⟩) hb2;rw [HC20.out] at c20;have H2:Hid _:=lens_made HNZ.out.1 H1.out.1 H1.out.2 hown hgrow;clear hown hgrow hi hz0 hz1 hz2)
  have HCI:=coinCI s k w1.heap.size w1.heap.size n (List.replicate zs.length 0) w2 0 H2.out.1 (by rw [H2.out.2.2.2.2.1,HNZ.out.1];exact HP.out.2.2) (Int.le_refl _) (by intro z hz;simp at hz;omega) (by simp [Pc.sz])
  rw [H2.out.2.2.2.2.1] at HCI
  refine HCI.mono ?_
  clear HCI
  rintro e w3 ⟨rfl,ho3,on3⟩
  have H3:Hid (OwI w3 w0.heap.size w1.heap.size n (lensV zs L)∧Below w0.heap.size w0 w3):=by
   rw [HV.out]
   exact ⟨ho3.mono H2.out.2.2.2.1,H2.out.2.2.1.trans (on3.below H2.out.2.2.1.size (fun j hj=>by rw [hj];exact H2.out.2.2.2.1))⟩
  clear ho3 on3
  go_wp2
  go_ret2
  exact ⟨⟨_,rfl,H3.out.1⟩,H3.out.2⟩
 ·have hone2:¬(m:Int)=1:=by omega
  have hd1:((m:Int) == 1)=false:=by simp [hone2]
  have HV:Hid (lensV zs L=cntL ((rnd (coinsS zs) L).take (2*m-2)) (List.replicate zs.length 0)):=by
   unfold Hid lensV
   rw [HMS.out.1,if_neg hone]
  go_wp2_with (at_make;refine wpList_make_full _ rfl _ _ 38 rfl w1.heap.size 3 i0 (.int .i64 0) 1 Tryz.underlying38 hi hz0 hz1 .i64 .i64 _ _ n rfl rfl rfl rfl (by rw [hz2];omega) (by unfold maxLen;omega) nl ?_;intro w2 hown hgrow;have H2:Hid _:=lens_made HNZ.out.1 H1.out.1 H1.out.2 hown hgrow;clear hown hgrow hi hz0 hz1 hz2)
  go_loopw [47,8] (fun i lv W=>∃ k:Nat,k≤L∧i=.int .i64 k∧OVV W w0.heap.size lv (rnd (coinsS zs) k)∧OwI W w1.heap.size w1.heap.size n (List.replicate zs.length 0)∧OVV W w0.heap.size (.slice la m lc) (coinsL zs zs.length)∧Below w0.heap.size w0 W) (fun i _ _=>L-(intOf i).toNat)
  case atStart=>exact ⟨0,Nat.zero_le _,rfl,OVV.nil _ _,H2.out.1,H2.out.2.1,H2.out.2.2.1⟩
  case round=>
   obtain ⟨k,hk,rfl,hlv,hlens,hcs,hbel⟩:=hrel
   have HR:Hid (OVV wr w0.heap.size u8 (rnd (coinsS zs) k)∧OwI wr w1.heap.size w1.heap.size n (List.replicate zs.length 0)∧OVV wr w0.heap.size (.slice la m lc) (coinsL zs zs.length)∧Below w0.heap.size w0 wr):=⟨hlv,hlens,hcs,hbel⟩
   clear hlv hlens hcs hbel
   have hinv:=rnd_inv HZ.out.1 HZ.out.2.1 k
   obtain ⟨N,hN⟩:∃ N,N=(rnd (coinsS zs) k).length:=⟨_,rfl⟩
   have hN160:N≤160:=by rw [hN];have:=hinv.2.2;rw [HMS.out.1] at this;omega
   obtain ⟨lb,ld,hv8,hpc8,hcap8⟩:=HR.out.1.slice
   rw [←hN] at hv8 hcap8
   subst hv8
   have HN:Hid (N=(rnd (coinsS zs) k).length∧Pcs wr lb (rnd (coinsS zs) k)):=⟨hN,hpc8⟩
   clear hinv hpc8
   by_cases hkL:k<L
   ·have hkL2:(k:Int)<(L:Int):=by omega
    have HPO:=packsOf_any lb ld (rnd (coinsS zs) k) wr HN.out.2 (by rw [←HN.out.1];omega) (fun p hp=>(fine_of HZ.out.1 HZ.out.2.1 k (by omega) p hp).1)
    rw [←HN.out.1] at HPO
    clear hN
    go_wp2_with fail
    refine HPO.mono ?_
    clear HPO
    rintro e w5 ⟨v5,rfl,ho5,hb5⟩
    obtain ⟨l5,d5,hv5,hp5,-⟩:=ho5.slice
    rw [pairL_len] at hv5
    subst hv5
    have hcs5:=HR.out.2.2.1.below hb5
    obtain ⟨la',lc',e',hpc5,-⟩:=hcs5.slice
    simp only [Value.slice.injEq] at e'
    obtain ⟨rfl,-,rfl⟩:=e'
    have H5:Hid (OwI w5 w1.heap.size w1.heap.size n (List.replicate zs.length 0)∧OVV w5 w0.heap.size (.slice la m lc) (coinsL zs zs.length)∧Below w0.heap.size w0 w5):=⟨HR.out.2.1.below hb5 nl,hcs5,HR.out.2.2.2.trans (hb5.mono HR.out.2.2.2.size)⟩
    have HRO:=pcRound_any la l5 lc d5 m (N / 2) zs k w5 HZ.out.1 HZ.out.2.1 (by omega) (by rw [HMS.out.1];omega) HMS.out.2 (by rw [HN.out.1]) hpc5 hp5
    clear ho5 hb5 hp5 hcs5 hpc5
    go_wp2_with fail
    refine HRO.mono ?_
    clear HRO
    rintro e w6 ⟨v6,rfl,ho6,hb6⟩
    have H6:Hid (OVV w6 w0.heap.size v6 (rnd (coinsS zs) (k+1))∧OwI w6 w1.heap.size w1.heap.size n (List.replicate zs.length 0)∧OVV w6 w0.heap.size (.slice la m lc) (coinsL zs zs.length)∧Below w0.heap.size w0 w6):=⟨ho6.mono H5.out.2.2.size,H5.out.1.below hb6 nl,H5.out.2.1.below hb6,H5.out.2.2.trans (hb6.mono H5.out.2.2.size)⟩
    clear ho6 hb6
    go_wp2
    go_roundw
    case rel=>exact ⟨k+1,by omega,by go_num,H6.out.1,H6.out.2.1,H6.out.2.2.1,H6.out.2.2.2⟩
    case measure=>simp [intOf];omega
   ·have hkk:k=L:=by omega
    have hkL2:¬(k:Int)<(L:Int):=by omega
    subst hkk
    obtain ⟨Q,hQ⟩:∃ Q,Q=2*m-2:=⟨_,rfl⟩
    have hQi:2*(m:Int)-2=(Q:Int):=by omega
    have hQN:Q≤N:=by
     have:=rnd_enough (coinsS zs) k HZ.out.2.2.2 HZ.out.2.2.1
     rw [HMS.out.1,←HN.out.1] at this
     omega
    have hQ0:1≤Q:=by omega
    rw [←hQ] at HV
    obtain ⟨b8,o8,hlb,hb8,hc8⟩:=HN.out.2 (by rw [←HN.out.1];omega)
    subst hlb
    obtain ⟨i1,hif,-,hsz1,-⟩:=info_parts Tryz.infoPc
    have hsl:∀ W,(Instr.slice 163 (.slice (some ⟨b8,o8,none⟩) N ld) none (some (.int .i64 (Q:Int))) none).run Tryz.prog W=.ok (.slice (some ⟨b8,o8,none⟩) Q ld) W:=by
     intro W
     rw [run_slice_h W 163 _ _ _ (by simp [Program.elem,Tryz.underlying163]) .i64 _ (by omega) (by omega)]
     simp [Program.elem,Tryz.underlying163,Go.sizeOf,typeInfo,hif,hsz1,Result.andThen,sliced,Addr.add]
    obtain ⟨tg,htg⟩:=HR.out.2.1.tag
    have hbg:b8≠w1.heap.size:=fun e=>(HR.out.1.tagne htg (by decide)) (by simp [Value.ownBlock,e])
    have HC8:Hid ((∀ i,i<Q→wr.cell? ⟨b8,o8+i,none⟩=some ((rnd (coinsS zs) k).getD i dpc).vl)∧b8≠w1.heap.size∧Q≤(rnd (coinsS zs) k).length∧Q≤160):=⟨fun i hi=>hc8 i (by rw [←HN.out.1];omega),hbg,by rw [←HN.out.1];exact hQN,by omega⟩
    have mA:=Tryz.meth_coin_countInto
    have mB:=Tryz.meth_coinPack_countInto
    clear hc8 hbg htg hif hsz1 hQ hN
    generalize wr=V8 at *
    go_wp2
    go_loopw [61] (fun i W=>∃ j:Nat,j≤Q∧i=.int .i64 j∧OwI W w0.heap.size w1.heap.size n (cntL ((rnd (coinsS zs) k).take j) (List.replicate zs.length 0))∧Only (fun b=>b=w1.heap.size) V8 W) (fun i _=>Q-(intOf i).toNat)
    case atStart=>exact ⟨0,Nat.zero_le _,rfl,HR.out.2.1.mono H2.out.2.2.2.1,Only.refl _ _⟩
    case round=>
     obtain ⟨j,hj,rfl,hlens,hon⟩:=hrel
     by_cases hjQ:j<Q
     ·have hjQ2:(j:Int)<(Q:Int):=by omega
      obtain ⟨p,hpp⟩:∃ p,p=(rnd (coinsS zs) k).getD j dpc:=⟨_,rfl⟩
      obtain ⟨hpf,hpo,hps⟩:=fine_of HZ.out.1 HZ.out.2.1 k hL2 p (by rw [hpp];exact getD_memP2 (by have:=HC8.out.2.2.1;omega))
      have hlen8:=HC8.out.2.2
      rcases p.counted with ⟨x,hvx,hCI⟩ | ⟨x,hvx,hCI⟩
      ·rw [hpp] at hvx
       have hcj:=HC8.out.1 j hjQ
       rw [hvx] at hcj
       have hcw:=hon.cell hb8 (fun e=>HC8.out.2.1 e) hcj
       have hcx:=hCI w0.heap.size w1.heap.size n (cntL ((rnd (coinsS zs) k).take j) (List.replicate zs.length 0)) wr 2000000000000 hlens (by rw [cntL_len,List.length_replicate];exact hpo) (by omega) (cntL_step_rng HZ.out.1 HZ.out.2.1 k hL2 j (by omega)) (by omega)
       rw [cntL_len,H2.out.2.2.2.2.1,hpp,←cntL_step (rnd (coinsS zs) k) _ j (by omega)] at hcx
       have HCX:=hcx
       have HON:Hid (Only (fun b=>b=w1.heap.size) V8 wr):=hon
       clear hcx hCI hvx hcj hon hlens hpp hpf hpo hps
       go_wp2_with fail
       refine HCX.mono ?_
       rintro e w9 ⟨rfl,ho9,on9⟩
       have H9:Hid (OwI w9 w0.heap.size w1.heap.size n (cntL ((rnd (coinsS zs) k).take (j+1)) (List.replicate zs.length 0))∧Only (fun b=>b=w1.heap.size) V8 w9):=⟨ho9,HON.out.trans on9⟩
       clear ho9 on9
       go_wp2
       go_roundw
       case rel=>exact ⟨j+1,by omega,by go_num,H9.out.1,H9.out.2⟩
       case measure=>simp [intOf];omega
      ·rw [hpp] at hvx
       have hcj:=HC8.out.1 j hjQ
       rw [hvx] at hcj
       have hcw:=hon.cell hb8 (fun e=>HC8.out.2.1 e) hcj
       have hcx:=hCI w0.heap.size w1.heap.size n (cntL ((rnd (coinsS zs) k).take j) (List.replicate zs.length 0)) wr 2000000000000 hlens (by rw [cntL_len,List.length_replicate];exact hpo) (by omega) (cntL_step_rng HZ.out.1 HZ.out.2.1 k hL2 j (by omega)) (by omega)
       rw [cntL_len,H2.out.2.2.2.2.1,hpp,←cntL_step (rnd (coinsS zs) k) _ j (by omega)] at hcx
       have HCX:=hcx
       have HON:Hid (Only (fun b=>b=w1.heap.size) V8 wr):=hon
       clear hcx hCI hvx hcj hon hlens hpp hpf hpo hps
       go_wp2_with fail
       refine HCX.mono ?_
       rintro e w9 ⟨rfl,ho9,on9⟩
       have H9:Hid (OwI w9 w0.heap.size w1.heap.size n (cntL ((rnd (coinsS zs) k).take (j+1)) (List.replicate zs.length 0))∧Only (fun b=>b=w1.heap.size) V8 w9):=⟨ho9,HON.out.trans on9⟩
       clear ho9 on9
       go_wp2
       go_roundw
       case rel=>exact ⟨j+1,by omega,by go_num,H9.out.1,H9.out.2⟩
       case measure=>simp [intOf];omega
     ·have hjj:j=Q:=by omega
      have hjQ2:¬(j:Int)<(Q:Int):=by omega
      have H9:Hid (OwI wr w0.heap.size w1.heap.size n (lensV zs k)∧Below w0.heap.size w0 wr):=by
       rw [hjj,←HV.out] at hlens
       exact ⟨hlens,HR.out.2.2.2.trans (hon.below HR.out.2.2.2.size (fun i hi=>by rw [hi];exact H2.out.2.2.2.1))⟩
      clear hlens hon hjj
      go_wp2
      go_ret2
      exact ⟨⟨_,rfl,H9.out.1⟩,H9.out.2⟩
theorem coins_sum (zs:List Int):∀ k,k≤zs.length→sumF one (zs.take k)=((coinsL zs k).length:Nat)
 | 0,_=>by simp [sumF,coinsL]
 | k+1,h=>by
  rw [sumF_succ one zs k (by omega),coins_sum zs k (by omega)]
  simp only [coinsL,one]
  split <;> simp
end Go.Proofs.YtfeokafkhnbdiaaGreatDoor
