/- Lemmas on the way. -/
import Derived.Test.YtfeokafkhnbdiaaGreatDoorHGet6
import Derived.Test.YtfeokafkhnbdiaaGreatDoorSy2
import Derived.BigRegion
import Derived.BigQuiet
import Derived.Test.YtfeokafkhnbdiaaGreatDoorPmB
import Derived.Test.YtfeokafkhnbdiaaGreatDoorSome1
import Derived.Test.YtfeokafkhnbdiaaGreatDoorFp1
import Derived.Test.YtfeokafkhnbdiaaGreatDoorTb4
set_option maxRecDepth 20000
set_option maxHeartbeats 16000000
namespace Go.Proofs.YtfeokafkhnbdiaaGreatDoor
open Go.RowKit
set_option linter.unusedVariables false
def hst (zs:List Int) (ms:List Int) (s:Int):List Int:=ms.set (zN zs s) (ms.getD (zN zs s) 0+1)
def hm (zs l:List Int):List Int:=l.foldl (hst zs) (List.replicate 13 0)
theorem hm_snoc (zs l:List Int) (s:Int):hm zs (l++[s])=hst zs (hm zs l) s:=by simp [hm,List.foldl_append]
theorem hm_len (zs l:List Int):(hm zs l).length=13:=by
 have:∀ (l ms:List Int),(l.foldl (hst zs) ms).length=ms.length:=by
  intro l
  induction l with
  | nil=>intro ms;rfl
  | cons s l ih=>intro ms;rw [List.foldl_cons,ih];simp [hst]
 unfold hm
 rw [this]
 simp
theorem hm_get (zs l:List Int) (j:Nat) (hj:j<13):(hm zs l).getD j 0=((l.countP (fun s=>decide (zN zs s=j)):Nat):Int):=by
 have:∀ (l ms:List Int),ms.length=13→(l.foldl (hst zs) ms).getD j 0=ms.getD j 0+((l.countP (fun s=>decide (zN zs s=j)):Nat):Int):=by
  intro l
  induction l with
  | nil=>intro ms _;simp
  | cons s l ih=>
   intro ms hm
   rw [List.foldl_cons,ih _ (by simp [hst,hm]),List.countP_cons]
   simp only [hst]
   by_cases h:zN zs s=j
   ·rw [h]
    rw [show (ms.set j (ms.getD j 0+1)).getD j 0=ms.getD j 0+1 from by rw [List.getD_eq_getElem?_getD,List.getElem?_set_self (by omega)];rfl]
    simp
    omega
   ·rw [show (ms.set (zN zs s) (ms.getD (zN zs s) 0+1)).getD j 0=ms.getD j 0 from by simp only [List.getD_eq_getElem?_getD,List.getElem?_set_ne h]]
    simp [h]
 unfold hm
 rw [this l _ (by simp)]
 have e:(List.replicate 13 (0:Int)).getD j 0=0:=by
  rw [List.getD_eq_getElem?_getD,List.getElem?_replicate];split <;> rfl
 rw [e]
 simp
theorem hm_at (zs:List Int) (j:Nat) (h1:1≤j) (h2:j≤12):(hm zs (sbL zs 12)).getD j 0=(((atL zs j zs.length).length:Nat):Int):=by
 rw [hm_get zs _ j (by omega)]
 obtain ⟨r,e1,m1⟩:=sbL_split zs j 12 h2
 have e3:sbL zs j=sbL zs (j-1)++atL zs j zs.length:=by
  obtain ⟨l,rfl⟩:∃ l,j=l+1:=⟨j-1,by omega⟩
  rfl
 rw [e1,e3,List.countP_append,List.countP_append]
 have c1:(sbL zs (j-1)).countP (fun s=>decide (zN zs s=j))=0:=List.countP_eq_zero.2 (fun a ha=>by have:=zN_sb zs (j-1) a ha;simp;omega)
 have c2:(atL zs j zs.length).countP (fun s=>decide (zN zs s=j))=(atL zs j zs.length).length:=List.countP_eq_length.2 (fun a ha=>by have:=zN_at zs j zs.length a ha;simpa using this)
 have c3:r.countP (fun s=>decide (zN zs s=j))=0:=List.countP_eq_zero.2 (fun a ha=>by
  obtain ⟨s,rfl,hs⟩:=m1 a ha
  have hh:zN zs ((s:Nat):Int)≠j:=by
   unfold zN
   rw [Int.toNat_natCast]
   omega
  simpa using hh)
 rw [c1,c2,c3]
 simp
structure HR (w:World) (H R:Nat) (ms:List Int) (ao:Option Addr) (ol co:Nat):Prop where
 h:w.heap[H]?=some (.cells (Value.pointer (some ⟨R,0,none⟩) :: (ms.map (Value.int .i64)++[.slice ao ol co])).toArray 241 (0,0))
 l:ms.length=13
theorem HR.c0 {w:World} {H R:Nat} {ms:List Int} {ao:Option Addr} {ol co:Nat} (h:HR w H R ms ao ol co):w.cell? ⟨H,0,none⟩=some (.pointer (some ⟨R,0,none⟩)):=cellRR h.h (by simp)
theorem HR.cm {w:World} {H R:Nat} {ms:List Int} {ao:Option Addr} {ol co:Nat} (h:HR w H R ms ao ol co) (i:Nat) (hi:i<13):w.cell? ⟨H,1+i,none⟩=some (.int .i64 (ms.getD i 0)):=by
 have hl:=h.l
 refine cellRR h.h ?_
 rw [Nat.add_comm 1 i]
 simp only [List.getElem?_toArray,List.getElem?_cons_succ]
 rw [List.getElem?_append_left (by simp;omega)]
 simp [List.getElem?_eq_getElem (show i<ms.length by omega)]
theorem HR.co {w:World} {H R:Nat} {ms:List Int} {ao:Option Addr} {ol co:Nat} (h:HR w H R ms ao ol co):w.cell? ⟨H,14,none⟩=some (.slice ao ol co):=by
 have hl:=h.l
 refine cellRR h.h ?_
 simp only [List.getElem?_toArray,List.getElem?_cons_succ]
 rw [List.getElem?_append_right (by simp;omega)]
 simp [hl]
theorem HR.frz {w:World} {H R:Nat} {ms:List Int} {ao:Option Addr} {ol co:Nat} (h:HR w H R ms ao ol co) (j:Nat):w.frozen? ⟨H,j,none⟩=false:=frozen_of_row w H j _ _ h.h
theorem HR.lt {w:World} {H R:Nat} {ms:List Int} {ao:Option Addr} {ol co:Nat} (h:HR w H R ms ao ol co):H<w.heap.size:=(Array.getElem?_eq_some_iff.1 h.h).1
theorem HR.only {w w':World} {H R:Nat} {ms:List Int} {ao:Option Addr} {ol co:Nat} {S:Nat→Prop} (h:HR w H R ms ao ol co) (ho:Only S w w') (hs:¬S H):HR w' H R ms ao ol co:=⟨(ho.block H h.lt hs).trans h.h,h.l⟩
theorem HR.store {w:World} {H R:Nat} {ms:List Int} {ao:Option Addr} {ol co:Nat} (h:HR w H R ms ao ol co) (i:Nat) (z:Int) (hi:i<13):HR (w.setCell ⟨H,1+i,none⟩ (.int .i64 z)) H R (ms.set i z) ao ol co:=by
 have hl:=h.l
 refine ⟨?_,by simpa using hl⟩
 rw [heap_setCell_same _ H (1+i) _ _ _ h.h]
 congr 2
 rw [Nat.add_comm 1 i]
 apply Array.ext'
 simp only [Array.toList_setIfInBounds,List.set_cons_succ]
 rw [List.set_append_left _ _ (by simp;omega),List.map_set]
theorem newHuffReader_any (a:Option Addr) (ca:Nat) (ls:List Int) (R:Nat) (w:World) (ha:Ins w a ls) (hl:ls.length≤80) :
  Calls Tryz.prog 153 #[.slice a ls.length ca,.pointer (some ⟨R,0,none⟩)] w fun e w'=>∃ H ao co,e=.returned (.pointer (some ⟨H,0,none⟩))∧HR w' H R (hm ls (sbL ls 12)) ao (sbL ls 12).length co∧MinI w' w.heap.size H ao co (sbL ls 12)∧w.heap.size≤H∧Below w.heap.size w w':=by
 have HSY:=syms_any a ca ls w ha hl
 have hodl:(sbL ls 12).length≤2000:=by have:=sbL_len ls 12;omega
 have HMEM:Hid _:=sbL_mem ls 12
 have HST:Hid (∀ t,t<(sbL ls 12).length→hm ls ((sbL ls 12).take (t+1))=hst ls (hm ls ((sbL ls 12).take t)) ((sbL ls 12).getD t 0)):=fun t ht=>by rw [take_snoc _ t ht,hm_snoc]
 have HCE:Hid (hm ls ((sbL ls 12).take (sbL ls 12).length)=hm ls (sbL ls 12)):=by unfold Hid;rw [List.take_length]
 have HBD:Hid (∀ t j,j<13→0≤(hm ls ((sbL ls 12).take t)).getD j 0∧(hm ls ((sbL ls 12).take t)).getD j 0≤2000):=fun t j hj=>by
  rw [hm_get ls _ j hj]
  have h1:=List.countP_le_length (p:=fun s=>decide (zN ls s=j)) (l:=(sbL ls 12).take t)
  have h2:=List.length_take_le t (sbL ls 12)
  have h3:((sbL ls 12).take t).length≤(sbL ls 12).length:=by rw [List.length_take];omega
  omega
 generalize sbL ls 12=od at *
 generalize hlen:ls.length=n at *
 have HL:Hid (ls.length=n):=hlen
 clear hlen
 generalize hN:od.length=N at *
 have HN:Hid (od.length=N):=hN
 clear hN
 go_enter Tryz.func153,Tryz.ntmps153
 go_wp2_with fail
 refine HSY.mono ?_
 clear HSY
 rintro e w1 ⟨ao,co,rfl,hmo,hb1⟩
 have hR0:HR (w1.alloc (Obj.cells #[.pointer (some ⟨R,0,none⟩),.int .i64 0,.int .i64 0,.int .i64 0,.int .i64 0,.int .i64 0,.int .i64 0,.int .i64 0,.int .i64 0,.int .i64 0,.int .i64 0,.int .i64 0,.int .i64 0,.int .i64 0,.slice ao N co] 241)) w1.heap.size R (hm ls (od.take 0)) ao N co:=⟨heap_alloc_new w1 _,by rw [hm_len]⟩
 have hA0:Below w1.heap.size w1 (w1.alloc (Obj.cells #[.pointer (some ⟨R,0,none⟩),.int .i64 0,.int .i64 0,.int .i64 0,.int .i64 0,.int .i64 0,.int .i64 0,.int .i64 0,.int .i64 0,.int .i64 0,.int .i64 0,.int .i64 0,.int .i64 0,.int .i64 0,.slice ao N co] 241)):=bAw
 go_wp2
 generalize w1.alloc (Obj.cells #[.pointer (some ⟨R,0,none⟩),.int .i64 0,.int .i64 0,.int .i64 0,.int .i64 0,.int .i64 0,.int .i64 0,.int .i64 0,.int .i64 0,.int .i64 0,.int .i64 0,.int .i64 0,.int .i64 0,.int .i64 0,.slice ao N co] 241)=W at *
 have HHR:Hid (HR W w1.heap.size R (hm ls (od.take 0)) ao N co):=hR0
 have HMO:Hid (MinI W w.heap.size w1.heap.size ao co od):=hmo.below hA0
 have HBW:Hid (Below w.heap.size w W):=hb1.trans (hA0.mono hb1.size)
 have hHs:w.heap.size≤w1.heap.size:=hb1.size
 clear hR0 hA0 hmo hb1
 generalize w1.heap.size=H at *
 go_loopw [18] (fun i wr=>∃ t:Nat,t≤N∧i=.int .i64 t∧HR wr H R (hm ls (od.take t)) ao N co∧MinI wr w.heap.size H ao co od∧Below w.heap.size w wr) (fun i _=>N-(intOf i).toNat)
 case atStart=>exact ⟨0,Nat.zero_le _,rfl,HHR.out,HMO.out,HBW.out⟩
 case round=>
  clear HHR HMO HBW
  obtain ⟨t,ht,rfl,hhr,hmo,hbel⟩:=hrel
  have HHR:Hid (HR wr H R (hm ls (od.take t)) ao N co):=hhr
  have HM:Hid (MinI wr w.heap.size H ao co od):=hmo
  have HBL:Hid (Below w.heap.size w wr):=hbel
  have hHlt:=hhr.lt
  clear hhr hmo hbel
  by_cases hlt:t<N
  ·obtain ⟨b1,o1,rfl,hb1,hc1⟩:=HM.out.byt.len_pos t (by rw [HN.out];exact hlt)
   have hs1:=hc1 t (by rw [HN.out];exact hlt)
   obtain ⟨sn,hse,hsn,hz1,hz2⟩:=HMEM.out _ (getD_mem (k:=t) (by rw [HN.out];exact hlt))
   have HS:=HST.out t hlt
   rw [hse] at hs1 HS
   obtain ⟨b2,o2,rfl,hb2,hc2⟩:=(ha.below HBL.out nl).len_pos sn (by rw [HL.out];exact hsn)
   have hs2:=hc2 sn (by rw [HL.out];exact hsn)
   clear hc1 hc2 hse
   simp only [hst,zN,Int.toNat_natCast] at HS
   generalize hzz:ls.getD sn 0=z at *
   obtain ⟨y,rfl⟩:∃ j:Nat,z=j:=⟨z.toNat,by omega⟩
   simp only [Int.toNat_natCast] at HS
   have hy:y<13:=by omega
   have hcm:=HHR.out.cm y hy
   have hfz:=HHR.out.frz (1+y)
   have hbd:=HBD.out t y hy
   have HR2:=HHR.out.store y ((hm ls (od.take t)).getD y 0+1) hy
   rw [←HS] at HR2
   generalize (hm ls (od.take t)).getD y 0=c at *
   have HO2:Hid (Only (fun b=>b=H) wr (wr.setCell ⟨H,1+y,none⟩ (.int .i64 (c+1)))):=Only.setCell (Only.refl (fun b=>b=H) wr) (p:=⟨H,1+y,none⟩) (.inl rfl) _
   have HHR2:Hid (HR (wr.setCell ⟨H,1+y,none⟩ (.int .i64 (c+1))) H R (hm ls (od.take (t+1))) (some ⟨b1,o1,none⟩) N co):=HR2
   have HM2:Hid (MinI (wr.setCell ⟨H,1+y,none⟩ (.int .i64 (c+1))) w.heap.size H (some ⟨b1,o1,none⟩) co od):=HM.out.only HO2.out (fun k _ h2=>by omega)
   have HB2:Hid (Below w.heap.size w (wr.setCell ⟨H,1+y,none⟩ (.int .i64 (c+1)))):=HBL.out.setCell (p:=⟨H,1+y,none⟩) hHs _
   clear HR2 HS HM HBL HHR HO2
   go_wp2
   go_region
   go_wp2
   go_roundw
   case rel=>exact ⟨t+1,by omega,by go_num,⟨HHR2.out.h,HHR2.out.l⟩,HM2.out,HB2.out.drew⟩
   case measure=>simp [intOf];omega
  ·have hkn:t=N:=by omega
   subst hkn
   rw [HCE.out] at HHR
   go_wp2
   go_ret
   exact ⟨H,ao,co,rfl,HHR.out,HM.out,hHs,HBL.out⟩
theorem symbol_any (H R B Bo:Nat) (ao:Option Addr) (co:Nat) (ls:List Int) (a:Option Addr) (cap:Nat) (zs:List Int) (n v p:Nat) (w0 w:World) (hb:Byt w0 a zs) (hB:w0.heap.size=B) (hbel:Below B w0 w) (hz:zs=enc n v) (hn:n≤4096) (hp:p≤n) (hl:ls.length≤80)
  (hH:HR w H R (hm ls (sbL ls 12)) ao (sbL ls 12).length co) (hM:MinI w Bo H ao co (sbL ls 12)) (hR:RD w B R a zs.length cap n p) (hRo:R<Bo) (hRH:R<H)
  (s0:Sent w0 5) (s1:Sent w0 11) (s2:Sent w0 20) (hG:5<B∧11<B∧20<B) :
  Calls Tryz.prog 161 #[.pointer (some ⟨H,0,none⟩)] w fun e w'=>Only (fun k=>k=R) w w' ∧
   ((∃ i k, One ls (crun ls (sbL ls 12)).2.2 n v p i k ∧ e = .returned (.tuple #[.int .i64 (i : Nat), .nilIface]) ∧ RD w' B R a zs.length cap n (p + k)) ∨
    (NoHit ls (crun ls (sbL ls 12)).2.2 v p (min 12 (n-p))∧∃ T x u,e=.returned (.tuple #[u,.iface T x]))):=by
 have hodl:(sbL ls 12).length≤2000:=by have:=sbL_len ls 12;omega
 have HRG:Hid (∀ z ∈ sbL ls 12,0≤z∧z≤80):=fun z hz=>by obtain ⟨s,h1,h2,_⟩:=sbL_mem ls 12 z hz;omega
 have HHR:Hid _:=hH
 have HM:Hid (MinI w Bo H ao co (sbL ls 12)):=hM
 have HRD:Hid _:=hR
 have HZ:Hid (zs=enc n v):=hz
 have HBB:Hid (Byt w0 a zs):=hb
 have HBE:Hid (Below B w0 w):=hbel
 have HWB:Hid (w0.heap.size=B):=hB
 have HBR:Hid (B≤R∧B≤w.heap.size):=⟨hR.2.1,hR.2.2⟩
 clear hH hM hR hz hb hbel hB
 go_enter Tryz.func161,Tryz.ntmps161
 go_wp2
 go_loopw [4,5,6,7] (fun c f x l wr=>∃ (k cn fn xn:Nat) (y:Int),y=(k:Int)+1∧k≤12∧p+k≤n∧Sy ls v p k cn fn xn∧c=.int .i64 cn∧f=.int .i64 fn∧x=.int .i64 xn∧l=.int .i64 y∧RD wr B R a zs.length cap n (p+k)∧Only (fun k=>k=R) w wr) (fun _ _ _ l _=>(13-intOf l).toNat)
 case atStart=>exact ⟨0,0,0,0,1,by simp,by omega,by omega,sy_zero ls v p,rfl,rfl,rfl,rfl,HRD.out,Only.refl _ _⟩
 case round=>
  clear HRD
  obtain ⟨k,cn,fn,xn,y,hy,hk,hpk,hsy,rfl,rfl,rfl,rfl,hrd,hon⟩:=hrel
  obtain ⟨hcb,hfb,hxb⟩:=sy_bound hsy hk hl
  have HSY:Hid (Sy ls v p k cn fn xn):=hsy
  have HRD:Hid (RD wr B R a zs.length cap n (p+k)):=hrd
  have HON:Hid (Only (fun k=>k=R) w wr):=hon
  have HBW:Hid (Below B w0 wr):=HBE.out.trans (hon.below HBR.out.2 (fun j hj=>by rw [hj];exact HBR.out.1))
  have hH2:HR wr H R (hm ls (sbL ls 12)) ao (sbL ls 12).length co:=HHR.out.only hon (by omega)
  have c0:=hH2.c0
  have c14:=hH2.co
  have hle:=hsy.le
  have HH2:Hid _:=hH2
  have hyb:1≤y∧y≤13:=by omega
  clear hsy hrd hon hH2
  have HY:Hid (y=(k:Int)+1):=hy
  have hfc:(fn:Int)≤cn:=by omega
  by_cases h12:k<12
  ·have hy12:y≤12:=by omega
   have HYT:Hid (y.toNat=k+1):=by unfold Hid;omega
   clear hy
   by_cases hpn:p+k<n
   ·have HGET:=HRD.out.yes v 1 (by omega) (HBB.out.below HBW.out (by rw [HWB.out];exact Nat.le_refl _)) HZ.out (by omega) (by omega) (by omega)
    go_wp2_with fail
    refine HGET.mono ?_
    clear HGET
    rintro e w2 ⟨rfl,hrd2,hon2,hb2⟩
    have HRD2:Hid (RD w2 B R a zs.length cap n (p+k+1)):=by simpa [Hid] using hrd2
    have HON2:Hid (Only (fun k=>k=R) w w2):=HON.out.trans hon2
    have hH3:=HH2.out.only hon2 (by omega)
    have d14:=hH3.co
    have dm:=hH3.cm (k+1) (by omega)
    rw [hm_at ls (k+1) (by omega) (by omega),←HYT.out] at dm
    have HBT:(v / 2 ^ (p+k) % 2 ^ (1:Int).toNat)=v / 2 ^ (p+k) % 2:=by simp
    rw [HBT]
    have hbit:v / 2 ^ (p+k) % 2<2:=Nat.mod_lt _ (by omega)
    have HNX:=fun h=>sy_next (b:=v / 2 ^ (p+k) % 2) HSY.out h12 rfl h
    have HHT:=fun h=>sy_hit (n:=n) (b:=v / 2 ^ (p+k) % 2) HSY.out h12 hpn rfl h
    have HM3:Hid (MinI w2 Bo H ao co (sbL ls 12)):=HM.out.only HON2.out (fun j h1 h2=>by omega)
    have hmb:=atL_len ls (k+1) ls.length
    rw [HYT.out] at dm
    generalize (atL ls (k+1) ls.length).length=m at *
    generalize v / 2 ^ (p+k) % 2=b at *
    rw [←HYT.out] at dm
    clear hrd2 hon2 hb2 hH3 HBT HSY HRD HON c0 c14 HH2 HBW HHR
    by_cases hhit:2*cn+b-2*fn<m
    ·obtain ⟨s,q1,q2,q3,q4⟩:=HHT hhit
     have HQ4:Hid _:=q4
     obtain ⟨b1,o1,rfl,hb1,hc1⟩:=HM3.out.byt.len_pos (xn+(2*cn+b-2*fn)) q3
     have hs1:=hc1 _ q3
     rw [q1] at hs1
     have HIX:Hid ((xn:Int)+(2*cn+b)-fn*2=((xn+(2*cn+b-2*fn):Nat):Int)):=by unfold Hid;omega
     have hdl:(2*(cn:Int)+b-fn*2<m):=by omega
     have HQ3:Hid (xn+(2*cn+b-2*fn)<(sbL ls 12).length):=q3
     clear hc1 q1 q4 HHT HNX HM3 hhit q3 hpk
     generalize hix:xn+(2*cn+b-2*fn)=ix at *
     clear hix
     have hixl:(ix:Int)<(sbL ls 12).length:=by have:=HQ3.out;omega
     generalize (sbL ls 12).length=N at *
     have hE:=HIX.out
     clear HIX
     go_wp2
     refine bodyPost_ret (v:=.tuple #[.int .i64 (s:Nat),.nilIface]) (by simp [results,Tryz.results161,go_sem]) rfl ?_
     exact ⟨HON2.out,.inl ⟨s,k+1,HQ4.out,rfl,by simpa [Nat.add_assoc] using HRD2.out⟩⟩
    ·have HS2:Hid (Sy ls v p (k+1) (2*cn+b) (2*fn+m) (xn+m)):=HNX hhit
     have hdl:¬(2*(cn:Int)+b-fn*2<m):=by omega
     clear HNX HHT HM3 d14 hhit
     go_wp2
     go_roundw
     case rel=>exact ⟨k+1,2*cn+b,2*fn+m,xn+m,y+1,by have:=HY.out;omega,by omega,by omega,HS2.out,by go_num,by go_num,by go_num,by go_num,by simpa [Nat.add_assoc] using HRD2.out,HON2.out⟩
     case measure=>simp [intOf];omega
   ·have HN:Hid (NoHit ls (crun ls (sbL ls 12)).2.2 v p (min 12 (n-p))):=by
     rw [show min 12 (n-p)=k from by omega]
     exact HSY.out.no
    have HGET:=HRD.out.no 1 (by omega) (by omega) (s0.below HBW.out (by omega)) (s1.below HBW.out (by omega)) (by omega)
    go_wp2_with fail
    refine HGET.mono ?_
    clear HGET
    rintro e w2 ⟨⟨T,x,rfl⟩,m,rfl⟩
    clear HSY HRD HH2
    go_wp2
    refine bodyPost_ret (v:=.tuple #[.int .i64 0,.iface T x]) (by simp [results,Tryz.results161,go_sem]) rfl ?_
    exact ⟨HON.out.drewN _,.inr ⟨HN.out,T,x,_,rfl⟩⟩
  ·have hk12:k=12:=by omega
   have HN:Hid (NoHit ls (crun ls (sbL ls 12)).2.2 v p (min 12 (n-p))):=by
    rw [show min 12 (n-p)=k from by omega]
    exact HSY.out.no
   have hy13:¬y≤12:=by omega
   obtain ⟨T,x,hc⟩:=s2.below HBW.out (by omega)
   clear HSY HRD HH2 hy hk12
   go_wp2
   go_quiet (fail)
   go_wp2
   refine bodyPost_ret (v:=.tuple #[.int .i64 0,.iface T x]) (by simp [results,Tryz.results161,go_sem]) rfl ?_
   exact ⟨HON.out.drewN _,.inr ⟨HN.out,T,x,_,rfl⟩⟩
theorem lensB_okG {zs:List Int} (h:lensB zs=true):1≤zs.length∧zs.length≤80∧∀ z ∈ zs,0≤z∧z≤12:=by
 simp only [lensB,decide_eq_true_eq] at h
 exact ⟨h.1,h.2.1,h.2.2.1⟩
/-- text of the program: the reader of codes at H over the reader at R, from place p on. -/
theorem text_any (H R B B0:Nat) (ao:Option Addr) (co:Nat) (ls:List Int) (x:Option Addr) (cx:Nat) (zs:List Int) (n V p N:Nat) (w0 w:World) (hx:Byt w0 x zs) (hB:w0.heap.size=B) (hbel:Below B w0 w) (hz:zs=enc n V) (hn:n≤4096) (hp:p≤n) (hN:N≤300) (hn2:ls.length≤80)
  (hHR:HR w H R (hm ls (sbL ls 12)) ao (sbL ls 12).length co) (hMO:MinI w B0 H ao co (sbL ls 12)) (hRD:RD w B R x zs.length cx n p) (hRH:R<H) (hRB0:R<B0)
  (s0:Sent w0 5) (s1:Sent w0 11) (s2:Sent w0 20) (hG:5<w0.heap.size∧11<w0.heap.size∧20<w0.heap.size) :
  Calls Tryz.prog 154 #[.pointer (some ⟨H,0,none⟩),.int .i64 N] w fun e w'=>Only (fun k=>k=R) w w'∧Below B w0 w' ∧
   ((∃ q E g, q.length = N ∧ Reads ls (crun ls (sbL ls 12)).2.2 n V p q E ∧ OwI w' w.heap.size g N q ∧ RD w' B R x zs.length cx n E ∧ e = .returned (.tuple #[.slice (some ⟨g, 0, none⟩) N N, .nilIface])) ∨
    (∃ q E T y,q.length<N∧Reads ls (crun ls (sbL ls 12)).2.2 n V p q E∧NoHit ls (crun ls (sbL ls 12)).2.2 V E (min 12 (n-E))∧e=.returned (.tuple #[.slice none 0 0,.iface T y]))):=by
 obtain ⟨i0,hi,hz0,hz1,hz2⟩:=info_parts Tryz.infoI64
 have HPK:Hid (Byt w0 x zs∧w0.heap.size=B∧zs=enc n V∧Sent w0 5∧Sent w0 11∧Sent w0 20∧(5<w0.heap.size∧11<w0.heap.size∧20<w0.heap.size)):=⟨hx,hB,hz,s0,s1,s2,hG⟩
 have HW:Hid (HR w H R (hm ls (sbL ls 12)) ao (sbL ls 12).length co∧MinI w B0 H ao co (sbL ls 12)∧RD w B R x zs.length cx n p∧Below B w0 w):=⟨hHR,hMO,hRD,hbel⟩
 have hRlt:R<w.heap.size:=(Array.getElem?_eq_some_iff.1 hRD.1).1
 have hBR:=hRD.2.1
 have hHw:H<w.heap.size:=hHR.lt
 clear hx hB hz s0 s1 s2 hG hHR hMO hRD hbel
 go_enter Tryz.func154,Tryz.ntmps154
 go_wp2_with (at_make;refine wpList_make_full _ rfl _ _ 38 rfl w.heap.size 3 i0 (.int .i64 0) 1 Tryz.underlying38 hi hz0 hz1 .i64 .i64 _ _ N rfl rfl rfl rfl (by rw [hz2];omega) (by unfold maxLen;omega) nl ?_;intro w5 hown hgrow)
 have hbw:Below w.heap.size w w5:=(Below.refl _ _).grown hgrow nl (by intro k hk;cases hk)
 have H0:Hid (OwI w5 w.heap.size w.heap.size N ([]++List.replicate N 0)):=by
  rw [List.nil_append]
  refine ⟨?_,by intro z hz;simp at hz;omega⟩
  rw [made_zeroI] at hown
  simpa using hown
 have HO5:Only (fun _=>False) w w5:=Only.ofBelow (S:=fun _=>False) hbw nl
 have HW5:Hid (HR w5 H R (hm ls (sbL ls 12)) ao (sbL ls 12).length co∧MinI w5 B0 H ao co (sbL ls 12)∧RD w5 B R x zs.length cx n p∧Below B w0 w5∧Only (fun k=>k=R) w w5):=
  ⟨HW.out.1.only HO5 (by simp),HW.out.2.1.only HO5 (by simp),HW.out.2.2.1.only HO5 (by simp),HW.out.2.2.2.trans (hbw.mono HW.out.2.2.1.2.2),Only.ofBelow hbw nl⟩
 clear HW HO5 hbw hown hgrow hi hz0 hz1 hz2
 generalize hg4:w.heap.size=g at *
 have HG4:Hid (w.heap.size=g∧True):=⟨hg4,trivial⟩
 clear hg4
 go_loopw [14] (fun i wr=>∃ (k:Nat) (q:List Int) (P:Nat),k≤N∧q.length=k∧i=.int .i64 k∧Reads ls (crun ls (sbL ls 12)).2.2 n V p q P∧OwI wr g g N (q++List.replicate (N-k) 0)∧HR wr H R (hm ls (sbL ls 12)) ao (sbL ls 12).length co∧MinI wr B0 H ao co (sbL ls 12)∧RD wr B R x zs.length cx n P∧Below B w0 wr∧Only (fun k=>k=R) w wr) (fun i _=>N-(intOf i).toNat)
 case atStart=>exact ⟨0,[],p,Nat.zero_le _,rfl,rfl,.nil,H0.out,HW5.out.1,HW5.out.2.1,HW5.out.2.2.1,HW5.out.2.2.2.1,HW5.out.2.2.2.2⟩
 case round=>
  clear H0 HW5
  obtain ⟨k,q,P,hk,hql,rfl,hrds,hown,hhr,hmo,hrd,hbel,honw⟩:=hrel
  have HS:Hid (q.length=k∧Reads ls (crun ls (sbL ls 12)).2.2 n V p q P∧OwI wr g g N (q++List.replicate (N-k) 0)∧HR wr H R (hm ls (sbL ls 12)) ao (sbL ls 12).length co∧MinI wr B0 H ao co (sbL ls 12)∧RD wr B R x zs.length cx n P∧Below B w0 wr∧Only (fun k=>k=R) w wr∧P≤n):=⟨hql,hrds,hown,hhr,hmo,hrd,hbel,honw,hrds.le hp⟩
  have hgl:=hown.lt.2
  clear hql hrds hown hhr hmo hrd hbel honw
  by_cases hlt:k<N
  ·have HSY:=symbol_any H R B B0 ao co ls x cx zs n V P w0 wr HPK.out.1 HPK.out.2.1 HS.out.2.2.2.2.2.2.1 HPK.out.2.2.1 hn HS.out.2.2.2.2.2.2.2.2 hn2 HS.out.2.2.2.1 HS.out.2.2.2.2.1 HS.out.2.2.2.2.2.1 (by omega) (by omega) HPK.out.2.2.2.1 HPK.out.2.2.2.2.1 HPK.out.2.2.2.2.2.1 (by have h:=HPK.out.2.2.2.2.2.2;rw [HPK.out.2.1] at h;exact h)
   go_wp2_with fail
   refine HSY.mono ?_
   clear HSY
   rintro e w6 ⟨hon,⟨i,m,hone,rfl,hrd6⟩ | ⟨hno,T,y,u,rfl⟩⟩
   ·have hll:(q++List.replicate (N-k) 0).length=N:=by rw [List.length_append,List.length_replicate,HS.out.1];omega
    have hib:i<80:=by have:=hone.2.2.2.1;omega
    have ho6:OwI w6 g g N (q++List.replicate (N-k) 0):=HS.out.2.2.1.only hon (by omega)
    have hdst:=ho6.cell k (by rw [hll];exact hlt)
    have hfz:=ho6.frozen k
    have hset:(q++List.replicate (N-k) (0:Int)).set k ((i:Nat):Int)=(q++[((i:Nat):Int)])++List.replicate (N-(k+1)) 0:=by
     rw [List.set_append_right _ _ (by rw [HS.out.1];exact Nat.le_refl _),HS.out.1,Nat.sub_self,show N-k=(N-(k+1))+1 from by omega,List.replicate_succ,List.set_cons_zero,List.append_assoc]
     rfl
    have hR7:=ho6.store k ((i:Nat):Int) (by omega)
    rw [hset] at hR7
    have hon7:Only (fun b=>b=g) w6 (w6.setCell ⟨g,k,none⟩ (.int .i64 (i:Nat))):=Only.setCell (Only.refl (fun b=>b=g) w6) (p:=⟨g,k,none⟩) (.inl rfl) _
    have hBwr:B≤wr.heap.size:=HS.out.2.2.2.2.2.1.2.2
    have hHg:H<wr.heap.size:=HS.out.2.2.2.1.lt
    have HF:Hid ((q++[((i:Nat):Int)]).length=k+1∧Reads ls (crun ls (sbL ls 12)).2.2 n V p (q++[(i:Int)]) (P+m)∧OwI (w6.setCell ⟨g,k,none⟩ (.int .i64 (i:Nat))) g g N ((q++[((i:Nat):Int)])++List.replicate (N-(k+1)) 0)∧HR (w6.setCell ⟨g,k,none⟩ (.int .i64 (i:Nat))) H R (hm ls (sbL ls 12)) ao (sbL ls 12).length co∧MinI (w6.setCell ⟨g,k,none⟩ (.int .i64 (i:Nat))) B0 H ao co (sbL ls 12)∧RD (w6.setCell ⟨g,k,none⟩ (.int .i64 (i:Nat))) B R x zs.length cx n (P+m)∧Below B w0 (w6.setCell ⟨g,k,none⟩ (.int .i64 (i:Nat)))∧Only (fun k=>k=R) w (w6.setCell ⟨g,k,none⟩ (.int .i64 (i:Nat)))):=by
     refine ⟨by rw [List.length_append,HS.out.1];rfl,.snoc HS.out.2.1 hone,hR7,?_,?_,hrd6.only hon7 (by omega),?_,?_⟩
     ·exact (HS.out.2.2.2.1.only hon (by omega)).only hon7 (by omega)
     ·exact (HS.out.2.2.2.2.1.only hon (fun j h1 h2=>by omega)).only hon7 (fun j h1 h2=>by omega)
     ·exact (HS.out.2.2.2.2.2.2.1.trans (hon.below hBwr (fun j hj=>by omega))).setCell (p:=⟨g,k,none⟩) (by have:=HG4.out.1;simp;omega) _
     ·exact (HS.out.2.2.2.2.2.2.2.1.trans hon).setCell (.inr (by rw [HG4.out.1];exact Nat.le_refl _)) _
    clear hR7 hon7 hset hll hon hone hrd6 ho6 HS
    generalize (q++List.replicate (N-k) 0).getD k 0=old at *
    go_wp2
    go_roundw
    case rel=>exact ⟨k+1,q++[((i:Nat):Int)],P+m,by omega,HF.out.1,by go_num,HF.out.2.1,HF.out.2.2.1,HF.out.2.2.2.1,HF.out.2.2.2.2.1,HF.out.2.2.2.2.2.1,HF.out.2.2.2.2.2.2.1,HF.out.2.2.2.2.2.2.2⟩
    case measure=>simp [intOf];omega
   ·have HF:Hid (Only (fun k=>k=R) w w6∧Below B w0 w6∧NoHit ls (crun ls (sbL ls 12)).2.2 V P (min 12 (n-P))∧q.length<N∧Reads ls (crun ls (sbL ls 12)).2.2 n V p q P):=⟨HS.out.2.2.2.2.2.2.2.1.trans hon,HS.out.2.2.2.2.2.2.1.trans (hon.below HS.out.2.2.2.2.2.1.2.2 (fun j hj=>by omega)),hno,by rw [HS.out.1];exact hlt,HS.out.2.1⟩
    clear hno hon HS
    go_wp2
    go_ret2
    exact ⟨HF.out.1,HF.out.2.1,.inr ⟨q,P,T,y,HF.out.2.2.2.1,HF.out.2.2.2.2,HF.out.2.2.1,rfl⟩⟩
  ·have hkn:k=N:=by omega
   subst hkn
   have HFI:Hid (OwI wr w.heap.size g k q∧True):=by
    have:=HS.out.2.2.1
    rw [Nat.sub_self] at this
    simp only [List.replicate_zero,List.append_nil] at this
    exact ⟨this.mono (by rw [HG4.out.1];exact Nat.le_refl _),trivial⟩
   go_wp2
   go_ret2
   exact ⟨HS.out.2.2.2.2.2.2.2.1,HS.out.2.2.2.2.2.2.1,.inl ⟨q,P,g,HS.out.1,HS.out.2.1,HFI.out.1,HS.out.2.2.2.2.2.1,rfl⟩⟩
theorem back_no (R:Nat) (a:Option Addr) (cap:Nat) (zs:List Int) (n:Nat) (p width:Int) (w:World) (hn:n≤4104) (pb:p≤9223372036854775807)
  (c0:w.cell? ⟨R,0,none⟩=some (.slice a zs.length cap)) (c1:w.cell? ⟨R,1,none⟩=some (.int .i64 n)) (c2:w.cell? ⟨R,2,none⟩=some (.int .i64 p))
  (s0:Sent w 5) (s2:Sent w 11)
  (h:width<0∨30<width∨(n:Int)<p∨p<width) :
  Calls Tryz.prog 163 #[.pointer (some ⟨R,0,none⟩),.int .i64 width] w fun e w'=>(∃ T x,e=.returned (.tuple #[.int .i64 0,.iface T x]))∧∃ m,w'=w.drewN m:=by
 obtain ⟨T0,x0,g0⟩:=s0
 obtain ⟨T2,x2,g2⟩:=s2
 have key:(width<0∨30<width)∨(0≤width∧width≤30∧(n:Int)<p)∨(0≤width∧width≤30∧p≤(n:Int)∧p<width):=by omega
 clear h
 rcases key with hh | ⟨k1,k2,k3⟩ | ⟨k1,k2,k3,k4⟩
 ·have hd:Hid (decide (0≤width∧width≤30)=false):=by simp [Hid];omega
  go_enter Tryz.func163,Tryz.ntmps163
  go_wp2_with fail
  refine (widthOk_any width _).mono ?_
  rintro e w1 ⟨rfl,rfl⟩
  rw [hd.out]
  go_wp2_with fail
  go_quiet (fail)
  go_wp2
  go_ret2
  exact ⟨⟨_,_,rfl⟩,_,rfl⟩
 ·have hd:Hid (decide (0≤width∧width≤30)=true):=by simp [Hid];omega
  have hp:decide ((n:Int)<p)=true:=by simpa using k3
  go_enter Tryz.func163,Tryz.ntmps163
  go_wp2_with fail
  refine (widthOk_any width _).mono ?_
  rintro e w1 ⟨rfl,rfl⟩
  rw [hd.out]
  go_wp2_with fail
  go_quiet (fail)
  go_wp2
  go_quiet (fail)
  go_wp2
  go_ret2
  exact ⟨⟨_,_,rfl⟩,_,World.drewN_drewN ..⟩
 ·have hd:Hid (decide (0≤width∧width≤30)=true):=by simp [Hid];omega
  have hp:decide ((n:Int)<p)=false:=by simpa using k3
  go_enter Tryz.func163,Tryz.ntmps163
  go_wp2_with fail
  refine (widthOk_any width _).mono ?_
  rintro e w1 ⟨rfl,rfl⟩
  rw [hd.out]
  go_wp2_with fail
  go_quiet (fail)
  go_wp2
  go_quiet (fail)
  go_wp2
  go_ret2
  exact ⟨⟨_,_,rfl⟩,_,World.drewN_drewN ..⟩
theorem back_yes (R:Nat) (a:Option Addr) (cap:Nat) (zs:List Int) (n v:Nat) (p width:Int) (w:World) (hn:n≤4104) (hb:∀ m x,Byt ((w.drewN m).setCell ⟨R,2,none⟩ x) a zs) (hz:zs=enc n v)
  (c0:w.cell? ⟨R,0,none⟩=some (.slice a zs.length cap)) (c1:w.cell? ⟨R,1,none⟩=some (.int .i64 n)) (c2:w.cell? ⟨R,2,none⟩=some (.int .i64 p)) (f2:w.frozen? ⟨R,2,none⟩=false)
  (k1:0≤width) (k2:width≤30) (k3:p≤(n:Int)) (k4:width≤p) :
  Calls Tryz.prog 163 #[.pointer (some ⟨R,0,none⟩),.int .i64 width] w fun e w'=>
   e=.returned (.tuple #[.int .i64 (v / 2 ^ (p-width).toNat % 2 ^ width.toNat:Nat),.nilIface])∧∃ m,w'=(w.drewN m).setCell ⟨R,2,none⟩ (.int .i64 (p-width)):=by
 have hd:Hid (decide (0≤width∧width≤30)=true):=by simp [Hid];omega
 have hp:decide ((n:Int)<p)=false:=by simpa using k3
 have HZ:Hid (zs=enc n v):=hz
 clear hz
 go_enter Tryz.func163,Tryz.ntmps163
 go_wp2_with fail
 refine (widthOk_any width _).mono ?_
 rintro e w1 ⟨rfl,rfl⟩
 rw [hd.out]
 go_wp2_with fail
 go_quiet (fail)
 go_wp2_with fail
 refine (number_any R a cap zs n p (p-width) width n v _ (hb _ _) HZ.out hn (by rw [World.cell?_setCell_other _ _ _ _ (by simp)];exact c0) (by omega) k1 k2 (by omega)).mono ?_
 rintro e w2 ⟨rfl,rfl⟩
 go_wp2
 go_ret2
 exact ⟨rfl,_,rfl⟩
theorem RD.backY {w0 w:World} {B R:Nat} {a:Option Addr} {zs:List Int} {cap n p:Nat} (h:RD w B R a zs.length cap n p) (v:Nat) (width:Nat) (hn:n≤4104) (hb:Byt w0 a zs) (hB:w0.heap.size=B) (hbel:Below B w0 w) (hz:zs=enc n v) (k2:width≤30) (k3:p≤n) (k4:width≤p) :
  Calls Tryz.prog 163 #[.pointer (some ⟨R,0,none⟩),.int .i64 (width:Int)] w fun e w'=>
   e=.returned (.tuple #[.int .i64 (v / 2 ^ (p-width) % 2 ^ width:Nat),.nilIface])∧RD w' B R a zs.length cap n (p-width)∧Only (fun k=>k=R) w w'∧Below B w0 w':=by
 have hby:∀ m x,Byt ((w.drewN m).setCell ⟨R,2,none⟩ x) a zs:=fun m x=>hb.below ((show Below B w0 (w.drewN m) from ⟨hbel.os,hbel.tape,hbel.output,hbel.size,hbel.block⟩).setCell (p:=⟨R,2,none⟩) h.2.1 x) (by rw [hB];exact Nat.le_refl _)
 refine (back_yes R a cap zs n v p width w hn hby hz (cellRR (j:=0) h.1 rfl) (cellRR (j:=1) h.1 rfl) (cellRR (j:=2) h.1 rfl) (h.frz 2) (by omega) (by omega) (by omega) (by omega)).mono ?_
 rintro e w' ⟨rfl,m,rfl⟩
 have hR:(w.drewN m).heap[R]?=some (.cells #[.slice a zs.length cap,.int .i64 n,.int .i64 p] 109 (0,0)):=h.1
 have hO:Only (fun k=>k=R) w ((w.drewN m).setCell ⟨R,2,none⟩ (.int .i64 ((p:Int)-width))):=by
  have h0:Only (fun k=>k=R) w (w.drewN m):=Only.ofBelow (S:=fun k=>k=R) (B:=w.heap.size) ⟨rfl,rfl,rfl,Nat.le_refl _,fun _ _=>rfl⟩ nl
  exact Only.setCell h0 (p:=⟨R,2,none⟩) (.inl rfl) _
 refine ⟨by rw [show ((p:Int)-(width:Int)).toNat=p-width from by omega,Int.toNat_natCast],⟨?_,h.2.1,Nat.le_trans h.2.2 hO.size⟩,hO,hbel.trans (hO.below h.2.2 (fun k hk=>by rw [hk];exact h.2.1))⟩
 rw [heap_setCell_same _ R 2 _ _ _ hR]
 have e:((p:Int)-(width:Int))=((p-width:Nat):Int):=by omega
 rw [e]
 simp
theorem RD.backN {w:World} {B R:Nat} {a:Option Addr} {zs:List Int} {cap n p:Nat} (h:RD w B R a zs.length cap n p) (width:Nat) (hn:n≤4104) (hp:p≤4104) (s0:Sent w 5) (s2:Sent w 11) (k4:p<width) :
  Calls Tryz.prog 163 #[.pointer (some ⟨R,0,none⟩),.int .i64 (width:Int)] w fun e w'=>(∃ T x,e=.returned (.tuple #[.int .i64 0,.iface T x]))∧∃ m,w'=w.drewN m:=
 back_no R a cap zs n p width w hn (by omega) (cellRR (j:=0) h.1 rfl) (cellRR (j:=1) h.1 rfl) (cellRR (j:=2) h.1 rfl) s0 s2 (by omega)
theorem backText_short (R g B:Nat) (x:Option Addr) (cx:Nat) (zs:List Int) (N n:Nat) (w0 w:World) (hbel:Below B w0 w) (hN:N<6) (hRD:RD w B R x zs.length cx N N) (s0:Sent w0 5) (s1:Sent w0 11) (hG:5<B∧11<B) :
  Calls Tryz.prog 162 #[.pointer (some ⟨R,0,none⟩),.pointer (some ⟨g,0,none⟩),.int .i64 n] w fun e w'=>Only (fun k=>k=R) w w'∧∃ T' y,e=.returned (.tuple #[.slice none 0 0,.int .i64 0,.iface T' y]):=by
 have S0:Sent w 5:=s0.below hbel hG.1
 have S1:Sent w 11:=s1.below hbel hG.2
 have HB:=hRD.backN 6 (by omega) (by omega) S0 S1 hN
 go_enter Tryz.func162,Tryz.ntmps162
 go_wp2_with fail
 refine HB.mono ?_
 clear HB
 rintro e w1 ⟨⟨T',y,rfl⟩,m,rfl⟩
 go_wp2
 exact bodyPost_ret (v:=.tuple #[.slice none 0 0,.int .i64 0,.iface T' y]) (by simp [results,Tryz.results162,go_sem]) rfl ⟨(Only.refl _ _).drewN m,T',y,rfl⟩
theorem backText_long (R g B:Nat) (x:Option Addr) (cx:Nat) (zs:List Int) (E N v n:Nat) (T:List Int) (L:Nat) (w0 w:World) (hx:Byt w0 x zs) (hB:w0.heap.size=B) (hbel:Below B w0 w) (hz:zs=enc N v) (hN:N≤4096) (hn:n≤300) (hNE:N=E+6) (hGd:Gd T L) (hL:L≤80) (hRD:RD w B R x zs.length cx N N) (hT:w.heap[g]?=some (.cells (cel T) 179 (0,0))) (hgR:g≠R) (s0:Sent w0 5) (s1:Sent w0 11) (hG:5<B∧11<B) :
  Calls Tryz.prog 162 #[.pointer (some ⟨R,0,none⟩),.pointer (some ⟨g,0,none⟩),.int .i64 n] w fun e w'=>Only (fun k=>k=R) w w' ∧
   ((sg T v E n = none ∧ ∃ T' y, e = .returned (.tuple #[.slice none 0 0, .int .i64 0, .iface T' y])) ∨
    (∃ st en gq,sg T v E n=some (st,en)∧e=.returned (.tuple #[.slice (some ⟨gq,0,none⟩) n n,.int .i64 (st:Nat),.nilIface])∧OwI w' w.heap.size gq n (so T v E n)∧RD w' B R x zs.length cx N en)):=by
 obtain ⟨i0,hi,hz0,hz1,hz2⟩:=info_parts Tryz.infoI64
 have HPK:Hid (zs=enc N v∧w0.heap.size=B∧N=E+6∧T.length=192):=⟨hz,hB,hNE,hGd.len⟩
 have HTB:Hid (w.heap[g]?=some (.cells (cel T) 179 (0,0))∧g<w.heap.size):=⟨hT,(Array.getElem?_eq_some_iff.1 hT).1⟩
 have HRL:Hid (R<w.heap.size∧B≤R):=⟨(Array.getElem?_eq_some_iff.1 hRD.1).1,hRD.2.1⟩
 have HBK:=hRD.backY v 6 (by omega) hx hB hbel hz (by omega) nl (by omega)
 have HX:Hid (Byt w0 x zs):=hx
 have HGD:Hid (Gd T L):=hGd
 rw [show N-6=E from by omega,show 2 ^ 6=64 from rfl] at HBK
 have HSN:Hid (Sent w0 5∧Sent w0 11):=⟨s0,s1⟩
 have hE:E≤4096:=by omega
 clear hz hB hNE hT hRD hx hGd s0 s1 hbel
 go_enter Tryz.func162,Tryz.ntmps162
 go_wp2_with fail
 refine HBK.mono ?_
 clear HBK
 rintro e w1 ⟨rfl,hrd1,hon1,hbel1⟩
 have HR1:Hid (RD w1 B R x zs.length cx N E∧Only (fun k=>k=R) w w1∧Below B w0 w1):=⟨hrd1,hon1,hbel1⟩
 have hs1:=hon1.size
 clear hrd1 hon1 hbel1
 go_wp2_with (at_make;refine wpList_make_full _ rfl _ _ 38 rfl w1.heap.size 3 i0 (.int .i64 0) 1 Tryz.underlying38 hi hz0 hz1 .i64 .i64 _ _ n rfl rfl rfl rfl (by rw [hz2];omega) (by unfold maxLen;omega) nl ?_;intro w5 hown hgrow)
 have hbw:Below w1.heap.size w1 w5:=(Below.refl _ _).grown hgrow nl (by intro k hk;cases hk)
 have H0:Hid (OwI w5 w1.heap.size w1.heap.size n ([]++List.replicate n 0)):=by
  rw [List.nil_append]
  refine ⟨?_,by intro z hz;simp at hz;omega⟩
  rw [made_zeroI] at hown
  simpa using hown
 have HR5:Hid (RD w5 B R x zs.length cx N E∧Only (fun k=>k=R) w w5∧Below B w0 w5):=
  ⟨HR1.out.1.only (Only.ofBelow (S:=fun _=>False) hbw nl) (by simp),HR1.out.2.1.trans (Only.ofBelow hbw nl),HR1.out.2.2.trans (hbw.mono HR1.out.1.2.2)⟩
 have HGQ:Hid (w.heap.size≤w1.heap.size):=hs1
 clear HR1 hbw hown hgrow hs1 hi hz0 hz1 hz2
 generalize w1.heap.size=gq at *
 go_loopw [9,28] (fun s i wr=>∃ (k st en:Nat),k≤n∧i=.int .i64 k∧s=.int .i64 st∧sg T v E k=some (st,en)∧OwI wr gq gq n (so T v E k++List.replicate (n-k) 0)∧RD wr B R x zs.length cx N en∧Only (fun k=>k=R) w wr∧Below B w0 wr) (fun _ i _=>n-(intOf i).toNat)
 case atStart=>exact ⟨0,v / 2 ^ E % 64,E,Nat.zero_le _,rfl,by simp,rfl,H0.out,HR5.out.1,HR5.out.2.1,HR5.out.2.2⟩
 case round=>
  clear H0 HR5
  obtain ⟨k,st,en,hk,rfl,rfl,hsg,hown,hrd,hon,hbel⟩:=hrel
  obtain ⟨hst,hen⟩:=sg_rng HGD.out v E k st en hsg
  have HW:Hid (sg T v E k=some (st,en)∧OwI wr gq gq n (so T v E k++List.replicate (n-k) 0)∧RD wr B R x zs.length cx N en∧Only (fun k=>k=R) w wr∧Below B w0 wr):=⟨hsg,hown,hrd,hon,hbel⟩
  have HQL:Hid ((so T v E k).length=k∧True):=⟨so_len _ _ _ _,trivial⟩
  have hgl:=hown.lt.2
  clear hsg hown hrd hon hbel
  by_cases hlt:k<n
  ·obtain ⟨sy,b,z,e1,e2,e3,hsy,hb6,hz64⟩:=HGD.out.cell st hst
   have hTb:wr.heap[g]?=some (.cells (cel T) 179 (0,0)):=(HW.out.2.2.2.1.block g HTB.out.2 hgR).trans HTB.out.1
   have t0:=arr_cell (tb:=T) hTb (st*3) (by rw [HPK.out.2.2.2];omega)
   have t1:=arr_cell (tb:=T) hTb (st*3+1) (by rw [HPK.out.2.2.2];omega)
   have t2:=arr_cell (tb:=T) hTb (st*3+2) (by rw [HPK.out.2.2.2];omega)
   rw [e1] at t0
   rw [e2] at t1
   rw [e3] at t2
   have HCB:Hid (cB T st=b∧cZ T st=z∧T.getD (st*3) 0=(sy:Int)):=⟨by unfold cB;rw [e2,Int.toNat_natCast],by unfold cZ;rw [e3,Int.toNat_natCast],e1⟩
   have hpz:=Nat.pow_pos (n:=b) (show 0<2 by omega)
   have hz63:(z:Int)≤64:=by omega
   have HV:Hid (v / 2 ^ (en-b) % 2 ^ b<64):=by
    have h1:v / 2 ^ (en-b) % 2 ^ b<2 ^ b:=Nat.mod_lt _ (Nat.pow_pos (by omega))
    unfold Hid
    omega
   clear hTb e1 e2 e3 hz64 hpz
   have HRA:Hid (RD (wr.alloc (Obj.cells #[.int .i64 sy,.int .i64 b,.int .i64 z] 177)) B R x zs.length cx N en∧Only (fun k=>k=R) w (wr.alloc (Obj.cells #[.int .i64 sy,.int .i64 b,.int .i64 z] 177))∧Below B w0 (wr.alloc (Obj.cells #[.int .i64 sy,.int .i64 b,.int .i64 z] 177))∧OwI (wr.alloc (Obj.cells #[.int .i64 sy,.int .i64 b,.int .i64 z] 177)) gq gq n (so T v E k++List.replicate (n-k) 0)):=
    ⟨HW.out.2.2.1.only (Only.alloc (Only.refl (fun _=>False) _) _) (by simp),HW.out.2.2.2.1.alloc _,HW.out.2.2.2.2.alloc HW.out.2.2.1.2.2 _,HW.out.2.1.alloc _⟩
   have HRb:Hid (R<wr.heap.size):=(Array.getElem?_eq_some_iff.1 HW.out.2.2.1.1).1
   by_cases hbe:en<b
   ·have HNO:Hid (sg T v E n=none∧True):=⟨sg_none (sg_stop HW.out.1 (by rw [HCB.out.1];exact hbe)) n (by omega),trivial⟩
    have HBK:=HRA.out.1.backN b (by omega) (by omega) (HSN.out.1.below HRA.out.2.2.1 hG.1) (HSN.out.2.below HRA.out.2.2.1 hG.2) hbe
    have HOA:Hid (Only (fun k=>k=R) w (wr.alloc (Obj.cells #[.int .i64 sy,.int .i64 b,.int .i64 z] 177))∧True):=⟨HRA.out.2.1,trivial⟩
    clear HW HRA
    go_wp2_with fail
    refine HBK.mono ?_
    clear HBK
    rintro e w6 ⟨⟨T',y,rfl⟩,m,rfl⟩
    go_wp2
    exact bodyPost_ret (v:=.tuple #[.slice none 0 0,.int .i64 0,.iface T' y]) (by simp [results,Tryz.results162,go_sem]) rfl ⟨HOA.out.1.drewN m,.inl ⟨HNO.out.1,T',y,rfl⟩⟩
   ·have HSG2:Hid (sg T v E (k+1)=some (z+v / 2 ^ (en-b) % 2 ^ b,en-b)∧so T v E (k+1)=so T v E k++[(sy:Int)]):=by
     have h1:=sg_step HW.out.1 (show ¬en<cB T st by rw [HCB.out.1];exact hbe)
     have h2:=so_step HW.out.1
     rw [HCB.out.1,HCB.out.2.1] at h1
     rw [HCB.out.2.2] at h2
     exact ⟨h1,h2⟩
    have HBK:=HRA.out.1.backY v b (by omega) HX.out HPK.out.2.1 HRA.out.2.2.1 HPK.out.1 (by omega) (by have:=HPK.out.2.2.1;omega) (by omega)
    obtain ⟨Xn,hXn⟩:∃ Xn,Xn=v / 2 ^ (en-b) % 2 ^ b:=⟨_,rfl⟩
    rw [←hXn] at HSG2 HV HBK
    have hX64:(Xn:Int)<64:=by have:=HV.out;omega
    have HCC:Hid ((wr.alloc (Obj.cells #[.int .i64 sy,.int .i64 b,.int .i64 z] 177)).cell? ⟨wr.heap.size,0,none⟩=some (.int .i64 sy)∧(wr.alloc (Obj.cells #[.int .i64 sy,.int .i64 b,.int .i64 z] 177)).cell? ⟨wr.heap.size,2,none⟩=some (.int .i64 z)∧wr.heap.size<(wr.alloc (Obj.cells #[.int .i64 sy,.int .i64 b,.int .i64 z] 177)).heap.size):=⟨by simp,by simp,by simp⟩
    clear hXn HV HW
    go_wp2_with fail
    refine HBK.mono ?_
    clear HBK t0 t1 t2
    rintro e w6 ⟨rfl,hrd6,hon6,hbel6⟩
    have q0:w6.cell? ⟨wr.heap.size,0,none⟩=some (.int .i64 sy):=hon6.cell HCC.out.2.2 (by have:=HRb.out;omega) HCC.out.1
    have q2:w6.cell? ⟨wr.heap.size,2,none⟩=some (.int .i64 z):=hon6.cell HCC.out.2.2 (by have:=HRb.out;omega) HCC.out.2.1
    have ho6:OwI w6 gq gq n (so T v E k++List.replicate (n-k) 0):=HRA.out.2.2.2.only hon6 (by have:=HRL.out;have:=HGQ.out;omega)
    have hll:(so T v E k++List.replicate (n-k) 0).length=n:=by rw [List.length_append,List.length_replicate,HQL.out.1];omega
    have hdst:=ho6.cell k (by rw [hll];exact hlt)
    have hfz:=ho6.frozen k
    have hset:(so T v E k++List.replicate (n-k) (0:Int)).set k (sy:Int)=so T v E (k+1)++List.replicate (n-(k+1)) 0:=by
     rw [HSG2.out.2,List.set_append_right _ _ (by rw [HQL.out.1];exact Nat.le_refl _),HQL.out.1,Nat.sub_self,show n-k=(n-(k+1))+1 from by omega,List.replicate_succ,List.set_cons_zero,List.append_assoc]
     rfl
    have hR7:=ho6.store k (sy:Int) (by omega)
    rw [hset] at hR7
    have HF:Hid (OwI (w6.setCell ⟨gq,k,none⟩ (.int .i64 (sy:Int))) gq gq n (so T v E (k+1)++List.replicate (n-(k+1)) 0)∧RD (w6.setCell ⟨gq,k,none⟩ (.int .i64 (sy:Int))) B R x zs.length cx N (en-b)∧Only (fun k=>k=R) w (w6.setCell ⟨gq,k,none⟩ (.int .i64 (sy:Int)))∧Below B w0 (w6.setCell ⟨gq,k,none⟩ (.int .i64 (sy:Int)))):=by
     have hgR2:gq≠R:=by have:=HRL.out;have:=HGQ.out;omega
     refine ⟨hR7,hrd6.only (Only.setCell (Only.refl (fun b=>b=gq) w6) (p:=⟨gq,k,none⟩) (.inl rfl) _) hgR2.symm,(HRA.out.2.1.trans hon6).setCell (.inr HGQ.out) _,hbel6.setCell (p:=⟨gq,k,none⟩) (by have:=HRL.out;have:=HGQ.out;simp;omega) _⟩
    clear hR7 hset hll hrd6 hon6 hbel6 ho6 HRA HCC
    generalize (so T v E k++List.replicate (n-k) 0).getD k 0=old at *
    generalize wr.heap.size=cb at *
    go_wp2
    go_roundw
    case rel=>exact ⟨k+1,z+Xn,en-b,by omega,by go_num,by go_num,HSG2.out.1,HF.out.1,HF.out.2.1,HF.out.2.2.1,HF.out.2.2.2⟩
    case measure=>simp [intOf];omega
  ·have hkn:k=n:=by omega
   subst hkn
   have HFI:Hid (OwI wr w.heap.size gq k (so T v E k)):=by
    have:=HW.out.2.1
    rw [Nat.sub_self] at this
    simp only [List.replicate_zero,List.append_nil] at this
    exact this.mono HGQ.out
   go_wp2
   refine bodyPost_ret (v:=.tuple #[.slice (some ⟨gq,0,none⟩) k k,.int .i64 (st:Nat),.nilIface]) (by simp [results,Tryz.results162,go_sem]) rfl ?_
   exact ⟨HW.out.2.2.2.1,.inr ⟨st,en,gq,HW.out.1,rfl,HFI.out,HW.out.2.2.1⟩⟩
end Go.Proofs.YtfeokafkhnbdiaaGreatDoor
