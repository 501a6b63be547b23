/- Lemmas on the way. -/
import Derived.Test.YtfeokafkhnbdiaaGreatDoorHPut2M
import Derived.Test.YtfeokafkhnbdiaaGreatDoorPcB
import Derived.Test.YtfeokafkhnbdiaaGreatDoorPmB
import Derived.Deep.RegionWith
import Derived.Test.YtfeokafkhnbdiaaGreatDoorINorm4
set_option maxRecDepth 20000
set_option maxHeartbeats 16000000
namespace Go.Proofs.YtfeokafkhnbdiaaGreatDoor
open Go.RowKit
set_option linter.unusedVariables false
theorem shl_fact (nx ln c:Nat) (z:Int) (hz:(ln:Int)≤z) (hc:c=nx*2 ^ (z.toNat-ln)) (hb:c≤8192000):wrap64 ((nx:Int)*2 ^ (z.toNat-ln))=((c:Nat):Int):=by
 rw [show ((nx:Int)*2 ^ (z.toNat-ln))=((nx*2 ^ (z.toNat-ln):Nat):Int) from by simp,←hc]
 exact IntWalk.wrap64_in _ (by omega)
theorem codesOf_any (a:Option Addr) (cap:Nat) (zs:List Int) (w:World) (hb:Ins w a zs) (hn:zs.length≤80) (hok:∀ z ∈ zs,0≤z∧z≤12) :
  Calls Tryz.prog 124 #[.slice a zs.length cap] w fun e w'=>
   e=.returned (.slice (some ⟨w.heap.size,0,none⟩) zs.length zs.length)∧OwI w' w.heap.size w.heap.size zs.length (crun zs (sbL zs 12)).2.2∧Below w.heap.size w w':=by
 obtain ⟨i0,hi,hz0,hz1,hz2⟩:=info_parts Tryz.infoI64
 have HSY:Hid (∀ w,Ins w a zs→Calls Tryz.prog 146 #[.slice a zs.length cap] w fun e w'=>∃ a' cp,e=.returned (.slice a' (sbL zs 12).length cp)∧MinI w' w.heap.size w'.heap.size a' cp (sbL zs 12)∧Below w.heap.size w w'):=fun w h=>syms_any a cap zs w h hn
 have hodl:(sbL zs 12).length≤2000:=by have:=sbL_len zs 12;omega
 have HMEM:Hid _:=sbL_mem zs 12
 have HBD:Hid _:=cr_bound zs (sbL zs 12) (asc_sb zs 12)
 have HCL:Hid _:=fun t=>crun_len zs ((sbL zs 12).take t)
 have HST:Hid (∀ t,t<(sbL zs 12).length→crun zs ((sbL zs 12).take (t+1))=cst zs (crun zs ((sbL zs 12).take t)) ((sbL zs 12).getD t 0)):=fun t ht=>by rw [take_snoc _ t ht,crun_snoc]
 have HC0:Hid (crun zs ((sbL zs 12).take 0)=(0,0,List.replicate zs.length 0)):=rfl
 have HCE:Hid (crun zs ((sbL zs 12).take (sbL zs 12).length)=crun zs (sbL zs 12)):=by unfold Hid;rw [List.take_length]
 generalize sbL zs 12=od at *
 generalize hlen:zs.length=n at *
 have HL:Hid (zs.length=n):=hlen
 clear hlen hok
 generalize hN:od.length=N at *
 have HN:Hid (od.length=N):=hN
 clear hN
 go_enter Tryz.func124,Tryz.ntmps124
 go_wp2_with (at_make;refine wpList_make_full _ rfl _ _ 38 rfl w.heap.size 3 i0 (.int .i64 0) 1 Tryz.underlying38 hi hz0 hz1 .i64 .i64 _ _ n rfl rfl rfl rfl (by rw [hz2];omega) (by unfold maxLen;omega) nl ?_;intro w1 hown hgrow)
 have h0:OwI w1 w.heap.size w.heap.size n (List.replicate n 0):=by
  refine ⟨?_,by intro z hz;simp at hz;omega⟩
  rw [made_zeroI] at hown
  simpa using hown
 have hbw:Below w.heap.size w w1:=(Below.refl _ _).grown hgrow nl (by intro k hk;cases hk)
 have H0:Hid (OwI w1 w.heap.size w.heap.size n (List.replicate n 0)):=h0
 clear h0 hown hgrow hi hz0 hz1 hz2
 refine (HSY.out _ (hb.below hbw nl)).mono ?_
 rintro e w2 ⟨ao,co,rfl,hmo,hb2⟩
 have hlt0:=H0.out.lt.2
 have HR2:Hid (OwI w2 w.heap.size w.heap.size n (crun zs (od.take 0)).2.2):=by rw [HC0.out];exact H0.out.below hb2 nl
 have hbw2:Below w.heap.size w w2:=hbw.trans (hb2.mono hbw.size)
 have HMO:Hid (MinI w2 w1.heap.size w2.heap.size ao co od):=hmo
 clear hmo hb2 H0 hbw HSY
 generalize w1.heap.size=U1 at *
 generalize hU2:w2.heap.size=U2 at *
 clear hU2
 go_wp2
 go_loopw [4,5,14] (fun x l i wr=>∃ t:Nat,t≤N∧i=.int .i64 t∧x=.int .i64 ((crun zs (od.take t)).1:Nat)∧l=.int .i64 ((crun zs (od.take t)).2.1:Nat)∧OwI wr w.heap.size w.heap.size n (crun zs (od.take t)).2.2∧MinI wr U1 U2 ao co od∧Below w.heap.size w wr) (fun _ _ i _=>N-(intOf i).toNat)
 case atStart=>exact ⟨0,Nat.zero_le _,rfl,rfl,rfl,HR2.out,HMO.out,hbw2⟩
 case round=>
  clear HR2 HMO hbw2
  obtain ⟨t,ht,rfl,rfl,rfl,hown,hmo,hbel⟩:=hrel
  have HO:Hid (OwI wr w.heap.size w.heap.size n (crun zs (od.take t)).2.2):=hown
  have HM:Hid (MinI wr U1 U2 ao co od):=hmo
  clear hown hmo
  by_cases hlt:t<N
  ·obtain ⟨b1,o1,rfl,hb1,hc1⟩:=HM.out.byt.len_pos t (by rw [HN.out];exact hlt)
   have hs1:=hc1 t (by rw [HN.out];exact hlt)
   obtain ⟨sn,hse,hsn,hz1,hz2⟩:=HMEM.out _ (getD_mem (k:=t) (by rw [HN.out];exact hlt))
   obtain ⟨B1,B2⟩:=HBD.out t (by omega)
   have B2:=B2 hlt
   have HS:=HST.out t hlt
   have hcl:=HCL.out t
   rw [hse] at hs1 B2 HS
   obtain ⟨b2,o2,rfl,hb2,hc2⟩:=(hb.below hbel nl).len_pos sn (by rw [HL.out];exact hsn)
   have hs2:=hc2 sn (by rw [HL.out];exact hsn)
   clear hc1 hc2 hse
   simp only [cst,zN,Int.toNat_natCast] at B2 HS
   generalize hzz:zs.getD sn 0=z at *
   generalize crun zs (od.take t)=st at *
   obtain ⟨nx,ln,out⟩:=st
   simp only at *
   have b3:=(cr_step nx ln z.toNat t B2 B1).1
   have b5:2 ^ z.toNat≤2 ^ 12:=Nat.pow_le_pow_right (by omega) (by omega)
   have b6:t*2 ^ z.toNat≤2000*2 ^ 12:=Nat.mul_le_mul (by omega) b5
   have hcb:nx*2 ^ (z.toNat-ln)≤8192000:=by omega
   generalize hcc:nx*2 ^ (z.toNat-ln)=c at *
   have HSH:Hid (wrap64 ((nx:Int)*2 ^ (z.toNat-ln))=((c:Nat):Int)):=shl_fact nx ln c z (by omega) hcc.symm hcb
   have hlz:(ln:Int)≤z:=by omega
   have hlnb:ln≤12:=by omega
   have hU:∀ k,U1≤k→k≠w.heap.size:=fun k hk=>by omega
   have hnb:nx≤8192000:=by
    have h2:nx≤nx*2 ^ (z.toNat-ln):=Nat.le_mul_of_pos_right _ (Nat.pow_pos (by decide))
    rw [hcc] at h2
    exact Nat.le_trans h2 hcb
   clear B1 B2 b3 b5 b6 hcc
   have HO2:Hid (OwI wr w.heap.size w.heap.size n out):=HO.out
   clear HO
   have hcl2:out.length=n:=hcl
   clear hcl
   have hdst:=HO2.out.cell sn (by rw [hcl2];exact hsn)
   have hfz:=HO2.out.frozen sn
   have hcr:-9223372036854775808≤((c:Nat):Int)∧((c:Nat):Int)≤9223372036854775807:=by omega
   have R:=HO2.out.store sn ((c:Nat):Int) hcr
   have HR:Hid (OwI (wr.setCell ⟨w.heap.size,sn,none⟩ (.int .i64 (c:Nat))) w.heap.size w.heap.size n (crun zs (od.take (t+1))).2.2):=by rw [HS];exact R
   have HB:Hid (Below w.heap.size w (wr.setCell ⟨w.heap.size,sn,none⟩ (.int .i64 (c:Nat)))):=hbel.setCell (p:=⟨w.heap.size,sn,none⟩) nl _
   have HM2:Hid (MinI (wr.setCell ⟨w.heap.size,sn,none⟩ (.int .i64 (c:Nat))) U1 U2 (some ⟨b1,o1,none⟩) co od):=HM.out.only (Only.setCell (Only.refl (fun b=>b=w.heap.size) wr) (p:=⟨w.heap.size,sn,none⟩) (.inl rfl) _) (fun k h1 _=>hU k h1)
   have HS':Hid _:=HS
   clear R HS hU HO2 HM hbel hcl2
   generalize out.getD sn 0=old at *
   go_wp2
   go_roundw
   case rel=>exact ⟨t+1,by omega,by go_num,by rw [HSH.out,HS'.out];show Value.int .i64 (wrap64 ((c:Int)+1))=Value.int .i64 ((c+1:Nat):Int);rw [IntWalk.wrap64_in _ (by omega)];simp,by rw [HS'.out];go_num,by rw [HSH.out];simpa using HR.out,by rw [HSH.out];simpa using HM2.out,by rw [HSH.out];simpa using HB.out⟩
   case measure=>simp [intOf];omega
  ·have hkn:t=N:=by omega
   subst hkn
   rw [HCE.out]
   have HA:Hid (OwI wr w.heap.size w.heap.size n (crun zs od).2.2):=by rw [←HCE.out];exact HO.out
   clear HO HM
   go_wp2
   go_ret
   exact ⟨rfl,HA.out,hbel⟩
theorem WI.cells {w:World} {B R n V:Nat} (h:WI w B R n V):∃ a' cp,w.cell? ⟨R,0,none⟩=some (.slice a' (enc n V).length cp)∧w.cell? ⟨R,1,none⟩=some (.int .i64 n)∧Mine w B w.heap.size a' cp (enc n V):=by
 obtain ⟨v,hR,hv,_⟩:=h
 obtain ⟨a',cp,rfl,hm⟩:=hv.mine
 exact ⟨a',cp,cellR (j:=0) hR rfl,cellR (j:=1) hR rfl,hm⟩
structure Ans (w W:World):Prop where
 r0:W.cell? ⟨w.heap.size,0,none⟩=some (.slice none 0 0)
 r1:W.cell? ⟨w.heap.size,1,none⟩=some (.int .i64 0)
 f0:W.frozen? ⟨w.heap.size,0,none⟩=false
 f1:W.frozen? ⟨w.heap.size,1,none⟩=false
 lt:w.heap.size<W.heap.size
 bel:Below w.heap.size w W
theorem Ans.new (w:World):Ans w (w.alloc (Obj.cells #[.slice none 0 0,.int .i64 0] 40)):=⟨by simp,by simp,by simp,by simp,by simp,(Below.refl _ _).alloc nl _⟩
theorem Ans.step {w W W':World} {B:Nat} (h:Ans w W) (hb:Below B W W') (hB:w.heap.size<B):Ans w W':=
 ⟨keep hb hB h.r0,keep hb hB h.r1,(hb.frozen (p:=⟨w.heap.size,0,none⟩) hB).trans h.f0,(hb.frozen (p:=⟨w.heap.size,1,none⟩) hB).trans h.f1,Nat.lt_of_lt_of_le h.lt hb.size,h.bel.trans (hb.mono (Nat.le_of_lt hB))⟩
theorem lensB_okH {zs:List Int} (h:lensB zs=true):1≤zs.length∧zs.length≤80∧∀ z ∈ zs,0≤z∧z≤12:=by
 simp only [lensB,decide_eq_true_eq] at h
 exact ⟨h.1,h.2.1,h.2.2.1⟩
def coded (ls ts:List Int):Prop:=∀ k,k<ts.length→ls.getD (ts.getD k 0).toNat 0≠0
abbrev csOf (ls:List Int):List Int:=(crun ls (sbL ls 12)).2.2
structure SentC (w:World):Prop where
 s0:Sent w 12
 hG:12<w.heap.size
theorem SentC.below {w w':World} (h:SentC w) (hb:Below w.heap.size w w'):SentC w':=⟨h.s0.below hb h.hG,Nat.lt_of_lt_of_le h.hG hb.size⟩
def fl :Nat→List Int→List Int
 | _,[]=>[]
 | i,z :: zs=>List.replicate z.toNat (i:Int)++fl (i+1) zs
theorem sum_nn {zs:List Int} (h:∀ z ∈ zs,0≤z) (j:Nat):0≤(zs.take j).sum:=by
 induction zs generalizing j with
 | nil=>simp
 | cons z zs ih=>
  cases j with
  | zero=>simp
  | succ j=>
   have h1:=h z (by simp)
   have h2:=ih (fun y hy=>h y (by simp [hy])) j
   simp only [List.take_succ_cons,List.sum_cons]
   omega
theorem fl_at (zs:List Int):∀ (i j k:Nat),(∀ z ∈ zs,0≤z)→j<zs.length→(k:Int)<zs.getD j 0→(fl i zs).getD ((zs.take j).sum.toNat+k) 0=((i+j:Nat):Int):=by
 induction zs with
 | nil=>intro i j k _ hj;simp at hj
 | cons z zs ih=>
  intro i j k h hj hk
  cases j with
  | zero=>
   simp only [List.getD_cons_zero] at hk
   simp only [fl,List.take_zero,List.sum_nil,Int.toNat_zero,Nat.zero_add,Nat.add_zero]
   rw [List.getD_eq_getElem?_getD,List.getElem?_append_left (by rw [List.length_replicate];omega),List.getElem?_replicate,if_pos (by omega)]
   rfl
  | succ j=>
   have h1:=h z (by simp)
   have h2:=sum_nn (fun y hy=>h y (by simp [hy])) j (zs:=zs)
   have:=ih (i+1) j k (fun y hy=>h y (by simp [hy])) (by simpa using hj) (by simpa using hk)
   simp only [fl,List.take_succ_cons,List.sum_cons]
   rw [List.getD_eq_getElem?_getD,List.getElem?_append_right (by rw [List.length_replicate];omega),List.length_replicate,←List.getD_eq_getElem?_getD,show (z+(zs.take j).sum).toNat+k-z.toNat=(zs.take j).sum.toNat+k from by omega,this]
   congr 1
   omega
def pl (F:List Int) (ps:List Nat):List Int:=ps.zipIdx.foldl (fun r pj=>r.set pj.1 (F.getD pj.2 0)) (List.replicate 64 0)
theorem pl_snoc (F:List Int) (ps:List Nat) (x:Nat):pl F (ps++[x])=(pl F ps).set x (F.getD ps.length 0):=by
 unfold pl
 rw [List.zipIdx_append,List.foldl_append]
 simp
theorem pl_len (F:List Int) (ps:List Nat):(pl F ps).length=64:=by
 unfold pl
 generalize ps.zipIdx=l
 have:∀ (l:List (Nat × Nat)) (r:List Int),r.length=64→(l.foldl (fun r pj=>r.set pj.1 (F.getD pj.2 0)) r).length=64:=by
  intro l
  induction l with
  | nil=>intro r h;simpa using h
  | cons p l ih=>intro r h;simp only [List.foldl_cons];exact ih _ (by rw [List.length_set];exact h)
 exact this l _ (by simp)
def plc (m:Nat):List Nat:=(List.range m).map fun j=>43*j % 64
theorem plc_succ (m:Nat):plc (m+1)=plc m++[43*m % 64]:=by simp [plc,List.range_succ]
theorem plc_len (m:Nat):(plc m).length=m:=by simp [plc]
theorem fl_mem (zs:List Int):∀ i,∀ z ∈ fl i zs,∃ j,j<zs.length∧z=((i+j:Nat):Int)∧0<zs.getD j 0:=by
 induction zs with
 | nil=>intro i z hz;simp [fl] at hz
 | cons y zs ih=>
  intro i z hz
  simp only [fl,List.mem_append,List.mem_replicate] at hz
  rcases hz with ⟨h,rfl⟩ | hz
  ·exact ⟨0,by simp,by simp,by simp;omega⟩
  ·obtain ⟨j,h1,h2,h3⟩:=ih (i+1) z hz
   exact ⟨j+1,by simpa using h1,by rw [h2];congr 1;omega,by simpa using h3⟩
theorem fl_len (zs:List Int):∀ i,(∀ z ∈ zs,0≤z)→((fl i zs).length:Int)=zs.sum:=by
 induction zs with
 | nil=>intro i _;simp [fl]
 | cons y zs ih=>
  intro i h
  have h1:=h y (by simp)
  have h2:=ih (i+1) (fun z hz=>h z (by simp [hz]))
  simp only [fl,List.length_append,List.length_replicate,List.sum_cons]
  omega
theorem pl_get (F:List Int):∀ m,m≤64→∀ p,p<64→(pl F (plc m)).getD p 0=if 3*p % 64<m then F.getD (3*p % 64) 0 else 0:=by
 intro m
 induction m with
 | zero=>
  intro _ p hp
  rw [if_neg (by omega)]
  show (List.replicate 64 (0:Int)).getD p 0=0
  rw [List.getD_eq_getElem?_getD,List.getElem?_replicate,if_pos hp]
  rfl
 | succ m ih=>
  intro hm p hp
  rw [plc_succ,pl_snoc,plc_len]
  by_cases he:43*m % 64=p
  ·have h3:3*p % 64=m:=by omega
   rw [List.getD_eq_getElem?_getD,he,List.getElem?_set_self (by rw [pl_len];exact hp),h3,if_pos (by omega)]
   rfl
  ·have h3:3*p % 64≠m:=by omega
   rw [List.getD_eq_getElem?_getD,List.getElem?_set_ne he,←List.getD_eq_getElem?_getD,ih (by omega) p hp]
   by_cases hl:3*p % 64<m
   ·rw [if_pos hl,if_pos (by omega)]
   ·rw [if_neg hl,if_neg (by omega)]
theorem sp_sym {zs:List Int} (hn:normB zs=true) (p:Nat) (hp:p<64):∃ s:Nat,(pl (fl 0 zs) (plc 64)).getD p 0=(s:Int)∧s<zs.length∧0<zs.getD s 0∧zs.getD s 0≤64:=by
 have hnn:(∀ z ∈ zs,0≤z)∧zs.sum=64:=by
  have h:=hn
  simp only [normB,decide_eq_true_eq] at h
  exact ⟨fun z hz=>(h.2.2.1 z hz).1,h.2.2.2⟩
 have hl:=fl_len zs 0 hnn.1
 rw [hnn.2] at hl
 rw [pl_get _ 64 nl p hp,if_pos (by omega),List.getD_eq_getElem?_getD,List.getElem?_eq_getElem (by omega)]
 obtain ⟨j,h1,h2,h3⟩:=fl_mem zs 0 _ (List.getElem_mem (show 3*p % 64<(fl 0 zs).length by omega))
 refine ⟨j,by simpa using h2,h1,h3,(normB_get hn j h1).2⟩
def nx (SP zs:List Int):Nat→List Int
 | 0=>zs
 | i+1=>(nx SP zs i).set (SP.getD i 0).toNat ((nx SP zs i).getD (SP.getD i 0).toNat 0+1)
theorem nx_len (SP zs:List Int) (i:Nat):(nx SP zs i).length=zs.length:=by
 induction i with
 | zero=>rfl
 | succ i ih=>rw [nx,List.length_set,ih]
theorem nx_bnd (SP zs:List Int) (i j:Nat):zs.getD j 0≤(nx SP zs i).getD j 0∧(nx SP zs i).getD j 0≤zs.getD j 0+i:=by
 induction i with
 | zero=>simp [nx]
 | succ i ih=>
  rw [nx]
  by_cases hj:(SP.getD i 0).toNat=j
  ·rw [hj]
   by_cases hl:j<(nx SP zs i).length
   ·rw [List.getD_eq_getElem?_getD (l:=(nx SP zs i).set _ _),List.getElem?_set_self hl]
    simp only [Option.getD_some]
    omega
   ·rw [List.set_eq_of_length_le (by omega)]
    omega
  ·rw [List.getD_eq_getElem?_getD (l:=(nx SP zs i).set _ _),List.getElem?_set_ne hj,←List.getD_eq_getElem?_getD]
   omega
def wd (x:Nat):Nat:=6-Nat.log2 x
theorem wd_rng {x:Nat} (h1:1≤x) (h2:x≤127):wd x≤6∧64≤x*2 ^ wd x∧x*2 ^ wd x<128:=by
 unfold wd
 have hl:=Nat.log2_self_le (n:=x) (by omega)
 have hu:=Nat.lt_log2_self (n:=x)
 have h6:Nat.log2 x<7:=(Nat.log2_lt (by omega)).2 (by omega)
 have e:2 ^ Nat.log2 x*2 ^ (6-Nat.log2 x)=64:=by rw [←Nat.pow_add,show Nat.log2 x+(6-Nat.log2 x)=6 from by omega]
 have e2:2 ^ (Nat.log2 x+1)*2 ^ (6-Nat.log2 x)=128:=by rw [←Nat.pow_add,show Nat.log2 x+1+(6-Nat.log2 x)=7 from by omega]
 have hp:0<2 ^ (6-Nat.log2 x):=Nat.pow_pos (by omega)
 refine ⟨by omega,?_,?_⟩
 ·rw [←e];exact Nat.mul_le_mul_right _ hl
 ·rw [←e2];exact Nat.mul_lt_mul_of_pos_right hu hp
def tb (SP zs:List Int):Nat→List Int
 | 0=>[]
 | i+1=>tb SP zs i++[SP.getD i 0,(wd ((nx SP zs i).getD (SP.getD i 0).toNat 0).toNat:Nat),(((nx SP zs i).getD (SP.getD i 0).toNat 0).toNat*2 ^ wd ((nx SP zs i).getD (SP.getD i 0).toNat 0).toNat:Nat)-64]
theorem tb_len (SP zs:List Int) (i:Nat):(tb SP zs i).length=i*3:=by
 induction i with
 | zero=>rfl
 | succ i ih=>rw [tb,List.length_append,ih];simp;omega
theorem shl_in (X j:Nat) (hX:X≤127) (hj:j≤6):wrap64 ((X:Int)*2 ^ j)=((X*2 ^ j:Nat):Int):=by
 have h1:X*2 ^ j≤127*2 ^ 6:=Nat.mul_le_mul hX (Nat.pow_le_pow_right (by omega) hj)
 have e:((X:Int)*2 ^ j)=((X*2 ^ j:Nat):Int):=by simp
 rw [e]
 exact IntWalk.wrap64_in _ (by omega)
def cX (SP zs:List Int) (p:Nat):Nat:=((nx SP zs p).getD (SP.getD p 0).toNat 0).toNat
theorem tb_step (SP zs:List Int) (n p j:Nat) (hp:p<n) (hj:j<3):(tb SP zs (n+1)).getD (p*3+j) 0=(tb SP zs n).getD (p*3+j) 0:=by
 rw [tb,List.getD_eq_getElem?_getD,List.getElem?_append_left (by rw [tb_len];omega),←List.getD_eq_getElem?_getD]
theorem tb_new (SP zs:List Int) (n j:Nat):(tb SP zs (n+1)).getD (n*3+j) 0=[SP.getD n 0,(wd (cX SP zs n):Nat),(cX SP zs n*2 ^ wd (cX SP zs n):Nat)-64].getD j 0:=by
 rw [tb,List.getD_eq_getElem?_getD,List.getElem?_append_right (by rw [tb_len];omega),tb_len,Nat.add_sub_cancel_left,←List.getD_eq_getElem?_getD]
 rfl
theorem tb_get (SP zs:List Int) (p j:Nat) (hj:j<3):∀ n,p<n→(tb SP zs n).getD (p*3+j) 0=[SP.getD p 0,(wd (cX SP zs p):Nat),(cX SP zs p*2 ^ wd (cX SP zs p):Nat)-64].getD j 0:=by
 intro n
 induction n with
 | zero=>intro h;omega
 | succ n ih=>
  intro h
  by_cases he:p<n
  ·rw [tb_step SP zs n p j he hj,ih he]
  ·obtain rfl:p=n:=by omega
   exact tb_new SP zs p j
structure Gd (T:List Int) (L:Nat):Prop where
 len:T.length=192
 cell:∀ p,p<64→∃ s b z:Nat,T.getD (p*3) 0=s∧T.getD (p*3+1) 0=b∧T.getD (p*3+2) 0=z∧s<L∧b≤6∧z+2 ^ b≤64
theorem wd_top {x:Nat} (h1:1≤x) (h2:x≤127):(x+1)*2 ^ wd x≤128:=by
 unfold wd
 have hu:=Nat.lt_log2_self (n:=x)
 have h6:Nat.log2 x<7:=(Nat.log2_lt (by omega)).2 (by omega)
 have e2:2 ^ (Nat.log2 x+1)*2 ^ (6-Nat.log2 x)=128:=by rw [←Nat.pow_add,show Nat.log2 x+1+(6-Nat.log2 x)=7 from by omega]
 rw [←e2]
 exact Nat.mul_le_mul_right _ hu
theorem gd_tb {zs:List Int} (hn:normB zs=true):Gd (tb (pl (fl 0 zs) (plc 64)) zs 64) zs.length:=by
 refine ⟨tb_len _ _ _,fun p hp=>?_⟩
 obtain ⟨s,hs,hsl,hzp,hz64⟩:=sp_sym hn p hp
 have hbn:=nx_bnd (pl (fl 0 zs) (plc 64)) zs p s
 have hX1:1≤cX (pl (fl 0 zs) (plc 64)) zs p:=by unfold cX;rw [hs,Int.toNat_natCast];omega
 have hX2:cX (pl (fl 0 zs) (plc 64)) zs p≤127:=by unfold cX;rw [hs,Int.toNat_natCast];omega
 have h0:=tb_get (pl (fl 0 zs) (plc 64)) zs p 0 (by omega) 64 hp
 have h1:=tb_get (pl (fl 0 zs) (plc 64)) zs p 1 (by omega) 64 hp
 have h2:=tb_get (pl (fl 0 zs) (plc 64)) zs p 2 (by omega) 64 hp
 have hw:=wd_rng hX1 hX2
 have ht:=wd_top hX1 hX2
 generalize cX (pl (fl 0 zs) (plc 64)) zs p=X at *
 rw [Nat.add_mul,Nat.one_mul] at ht
 exact ⟨s,wd X,X*2 ^ wd X-64,by rw [Nat.add_zero] at h0;rw [h0];simpa using hs,by rw [h1];rfl,by rw [h2];show ((X*2 ^ wd X:Nat):Int)-64=_;omega,hsl,hw.1,by omega⟩
def cB (T:List Int) (p:Nat):Nat:=(T.getD (p*3+1) 0).toNat
def cZ (T:List Int) (p:Nat):Nat:=(T.getD (p*3+2) 0).toNat
def sg (T:List Int) (v E:Nat):Nat→Option (Nat × Nat)
 | 0=>some (v / 2 ^ E % 64,E)
 | i+1=>match sg T v E i with
  | none=>none
  | some (st,en)=>if en<cB T st then none else some (cZ T st+v / 2 ^ (en-cB T st) % 2 ^ cB T st,en-cB T st)
def so (T:List Int) (v E:Nat):Nat→List Int
 | 0=>[]
 | i+1=>so T v E i++[match sg T v E i with | some (st,_)=>T.getD (st*3) 0 | none=>0]
theorem so_len (T:List Int) (v E i:Nat):(so T v E i).length=i:=by
 induction i with
 | zero=>rfl
 | succ i ih=>rw [so,List.length_append,ih];rfl
theorem sg_none {T:List Int} {v E k:Nat} (h:sg T v E k=none):∀ n,k≤n→sg T v E n=none:=by
 intro n
 induction n with
 | zero => intro hk; obtain rfl : k = 0 := by omega
           exact h
 | succ n ih=>
  intro hk
  by_cases e:k=n+1
  ·subst e;exact h
  ·rw [sg,ih (by omega)]
theorem sg_rng {T:List Int} {L:Nat} (hT:Gd T L) (v E:Nat):∀ i st en,sg T v E i=some (st,en)→st<64∧en≤E:=by
 intro i
 induction i with
 | zero=>
  intro st en h
  simp only [sg,Option.some.injEq,Prod.mk.injEq] at h
  omega
 | succ i ih=>
  intro st en h
  rw [sg] at h
  cases hq:sg T v E i with
  | none=>rw [hq] at h;simp at h
  | some q=>
   obtain ⟨s0,e0⟩:=q
   rw [hq] at h
   simp only at h
   obtain ⟨h1,h2⟩:=ih s0 e0 hq
   by_cases hl:e0<cB T s0
   ·rw [if_pos hl] at h;simp at h
   ·rw [if_neg hl] at h
    simp only [Option.some.injEq,Prod.mk.injEq] at h
    obtain ⟨s,b,z,k1,k2,k3,k4,k5,k6⟩:=hT.cell s0 h1
    have hb:cB T s0=b:=by unfold cB;rw [k2,Int.toNat_natCast]
    have hz:cZ T s0=z:=by unfold cZ;rw [k3,Int.toNat_natCast]
    rw [hb,hz] at h
    have:v / 2 ^ (e0-b) % 2 ^ b<2 ^ b:=Nat.mod_lt _ (Nat.pow_pos (by omega))
    omega
theorem sg_step {T:List Int} {v E i st en:Nat} (h:sg T v E i=some (st,en)) (hl:¬en<cB T st):sg T v E (i+1)=some (cZ T st+v / 2 ^ (en-cB T st) % 2 ^ cB T st,en-cB T st):=by
 rw [sg,h]
 simp only
 rw [if_neg hl]
theorem sg_stop {T:List Int} {v E i st en:Nat} (h:sg T v E i=some (st,en)) (hl:en<cB T st):sg T v E (i+1)=none:=by
 rw [sg,h]
 simp only
 rw [if_pos hl]
theorem so_step {T:List Int} {v E i st en:Nat} (h:sg T v E i=some (st,en)):so T v E (i+1)=so T v E i++[T.getD (st*3) 0]:=by
 rw [so,h]
def fgB (T:List Int) (v N n:Nat):Bool:=decide (6≤N∧sg T v (N-6) n=some (0,0))
theorem fl_count (zs:List Int):∀ (i j:Nat),j<zs.length→(fl i zs).count (((i+j:Nat)):Int)=(zs.getD j 0).toNat:=by
 induction zs with
 | nil=>intro i j h;simp at h
 | cons y zs ih=>
  intro i j h
  rw [fl,List.count_append,List.count_replicate]
  cases j with
  | zero=>
   have h0:(fl (i+1) zs).count (((i+0:Nat)):Int)=0:=by
    rw [List.count_eq_zero]
    intro hm
    obtain ⟨j,_,e,_⟩:=fl_mem zs (i+1) _ hm
    omega
   rw [h0]
   simp
  | succ j=>
   have hne:((i:Int) == ((i+(j+1):Nat):Int))=false:=by simp;omega
   have h1:=ih (i+1) j (by simpa using h)
   rw [show i+1+j=i+(j+1) from by omega] at h1
   rw [hne,h1]
   simp
theorem perm3 :((List.range 64).map (fun p=>3*p % 64)).Perm (List.range 64):=by decide +kernel
theorem sp_perm {zs:List Int} (hn:normB zs=true):(pl (fl 0 zs) (plc 64)).Perm (fl 0 zs):=by
 have hnn:(∀ z ∈ zs,0≤z)∧zs.sum=64:=by
  have h:=hn
  simp only [normB,decide_eq_true_eq] at h
  exact ⟨fun z hz=>(h.2.2.1 z hz).1,h.2.2.2⟩
 have hl:(fl 0 zs).length=64:=by have:=fl_len zs 0 hnn.1;omega
 have e1:pl (fl 0 zs) (plc 64)=((List.range 64).map (fun p=>3*p % 64)).map (fun i=>(fl 0 zs).getD i 0):=by
  apply List.ext_getElem
  ·simp [pl_len]
  ·intro p h1 h2
   have hp:p<64:=by rw [pl_len] at h1;exact h1
   have:=pl_get (fl 0 zs) 64 nl p hp
   rw [if_pos (by omega),List.getD_eq_getElem?_getD,List.getElem?_eq_getElem h1] at this
   simpa using this
 have e2:fl 0 zs=(List.range 64).map (fun i=>(fl 0 zs).getD i 0):=by
  apply List.ext_getElem
  ·simp [hl]
  ·intro p h1 h2
   simp [List.getElem?_eq_getElem h1]
 rw [e1]
 exact (perm3.map _).trans (by rw [←e2])
theorem nx_cnt (SP zs:List Int) (hS:∀ i,i<SP.length→∃ s:Nat,SP.getD i 0=(s:Int)) (s:Nat) (hs:s<zs.length):∀ i,i≤SP.length→(nx SP zs i).getD s 0=zs.getD s 0+((SP.take i).count (s:Int):Nat):=by
 intro i
 induction i with
 | zero=>intro _;simp [nx]
 | succ i ih=>
  intro hi
  obtain ⟨t,ht⟩:=hS i (by omega)
  have hti:SP[i]=(t:Int):=by
   rw [List.getD_eq_getElem?_getD,List.getElem?_eq_getElem (by omega)] at ht
   simpa using ht
  rw [nx,ht,Int.toNat_natCast,List.take_succ_eq_append_getElem (by omega),List.count_append,hti]
  have hl:=nx_len SP zs i
  by_cases hst:t=s
  ·subst hst
   rw [List.getD_eq_getElem?_getD,List.getElem?_set_self (by omega)]
   simp only [Option.getD_some]
   rw [ih (by omega)]
   simp
   omega
  ·rw [List.getD_eq_getElem?_getD,List.getElem?_set_ne hst,←List.getD_eq_getElem?_getD,ih (by omega)]
   have:¬((t:Int)=(s:Int)):=by omega
   simp [this]
theorem nth_of_count (l:List Int) (s:Int):∀ m,m<l.count s→∃ q,∃ hq:q<l.length,l[q]=s∧(l.take q).count s=m:=by
 induction l with
 | nil=>intro m h;simp at h
 | cons x l ih=>
  intro m h
  by_cases hx:x=s
  ·subst hx
   cases m with
   | zero=>exact ⟨0,by simp,by simp,by simp⟩
   | succ m=>
    rw [List.count_cons_self] at h
    obtain ⟨q,hq,h1,h2⟩:=ih m (by omega)
    exact ⟨q+1,by simpa using hq,by simpa using h1,by rw [List.take_succ_cons,List.count_cons_self,h2]⟩
  ·rw [List.count_cons_of_ne (fun e=>hx e)] at h
   obtain ⟨q,hq,h1,h2⟩:=ih m h
   exact ⟨q+1,by simpa using hq,by simpa using h1,by rw [List.take_succ_cons,List.count_cons_of_ne (fun e=>hx e),h2]⟩
theorem split_at :∀ p,p<64→∀ c,c<65→1≤c→∃ k,k<7∧(c≤(p+64) / 2 ^ k∧(p+64) / 2 ^ k<2*c∧(p+64) / 2 ^ k*2 ^ wd ((p+64) / 2 ^ k)≤p+64∧p+64<((p+64) / 2 ^ k+1)*2 ^ wd ((p+64) / 2 ^ k)):=by decide +kernel
def hit (T:List Int) (s:Int) (p q:Nat):Prop:=T.getD (q*3) 0=s∧cZ T q≤p∧p<cZ T q+2 ^ cB T q
instance (T:List Int) (s:Int) (p q:Nat):Decidable (hit T s p q):=by unfold hit;infer_instance
theorem cX_cnt {zs:List Int} (hn:normB zs=true) (q s:Nat) (hq:q<64) (hs:(pl (fl 0 zs) (plc 64)).getD q 0=(s:Int)) (hsl:s<zs.length):(cX (pl (fl 0 zs) (plc 64)) zs q:Int)=zs.getD s 0+(((pl (fl 0 zs) (plc 64)).take q).count (s:Int):Nat):=by
 have hl:(pl (fl 0 zs) (plc 64)).length=64:=pl_len _ _
 have:=nx_cnt (pl (fl 0 zs) (plc 64)) zs (fun i hi=>by obtain ⟨s,h,_⟩:=sp_sym hn i (by omega);exact ⟨s,h⟩) s hsl q (by omega)
 have h0:=(nx_bnd (pl (fl 0 zs) (plc 64)) zs q s).1
 have hz:=normB_get hn s hsl
 unfold cX
 rw [hs,Int.toNat_natCast]
 omega
theorem cell_atG (SP zs:List Int) (n q:Nat) (hq:q<n):(tb SP zs n).getD (q*3) 0=SP.getD q 0∧cB (tb SP zs n) q=wd (cX SP zs q)∧cZ (tb SP zs n) q=cX SP zs q*2 ^ wd (cX SP zs q)-64:=by
 have h0:=tb_get SP zs q 0 (by omega) n hq
 have h1:=tb_get SP zs q 1 (by omega) n hq
 have h2:=tb_get SP zs q 2 (by omega) n hq
 generalize tb SP zs n=T at *
 generalize cX SP zs q=X at *
 generalize SP.getD q 0=u at *
 rw [Nat.add_zero] at h0
 refine ⟨by rw [h0];rfl,?_,?_⟩
 ·unfold cB
  rw [h1]
  simp
 ·unfold cZ
  rw [h2]
  show (((X*2 ^ wd X:Nat):Int)-64).toNat=_
  omega
theorem cell_at {zs:List Int} (q:Nat) (hq:q<64):(tb (pl (fl 0 zs) (plc 64)) zs 64).getD (q*3) 0=(pl (fl 0 zs) (plc 64)).getD q 0∧cB (tb (pl (fl 0 zs) (plc 64)) zs 64) q=wd (cX (pl (fl 0 zs) (plc 64)) zs q)∧cZ (tb (pl (fl 0 zs) (plc 64)) zs 64) q=cX (pl (fl 0 zs) (plc 64)) zs q*2 ^ wd (cX (pl (fl 0 zs) (plc 64)) zs q)-64:=cell_atG _ zs 64 q hq
theorem ex_hit {zs:List Int} (hn:normB zs=true) (s p:Nat) (hs:s<zs.length) (hp:p<64) (hc:zs.getD s 0≠0):∃ q,q<64∧hit (tb (pl (fl 0 zs) (plc 64)) zs 64) (s:Int) p q:=by
 have hz:=normB_get hn s hs
 obtain ⟨c,hcc⟩:=Int.eq_ofNat_of_zero_le hz.1
 obtain ⟨k,_,h1,h2,h3,h4⟩:=split_at p hp c (by omega) (by omega)
 generalize (p+64) / 2 ^ k=X at *
 have hcount:(pl (fl 0 zs) (plc 64)).count (s:Int)=c:=by
  rw [(sp_perm hn).count_eq]
  have:=fl_count zs 0 s hs
  rw [Nat.zero_add,hcc] at this
  simpa using this
 obtain ⟨q,hq,hq1,hq2⟩:=nth_of_count (pl (fl 0 zs) (plc 64)) (s:Int) (X-c) (by omega)
 have hq64:q<64:=by rw [pl_len] at hq;exact hq
 have hqs:(pl (fl 0 zs) (plc 64)).getD q 0=(s:Int):=by rw [List.getD_eq_getElem?_getD,List.getElem?_eq_getElem hq,hq1];rfl
 have hX:=cX_cnt hn q s hq64 hqs hs
 rw [hq2,hcc] at hX
 have hX':cX (pl (fl 0 zs) (plc 64)) zs q=X:=by omega
 obtain ⟨c1,c2,c3⟩:=cell_at (zs:=zs) q hq64
 refine ⟨q,hq64,by rw [c1];exact hqs,?_,?_⟩
 ·rw [c3,hX'];omega
 ·rw [c3,c2,hX']
  rw [Nat.add_mul,Nat.one_mul] at h4
  omega
def First (T:List Int) (s:Int) (p q:Nat):Prop:=q<64∧hit T s p q∧∀ j,j<q→¬hit T s p j
def fq (T:List Int) (s:Int) (p:Nat):Nat:=((List.range 64).find? (fun q=>decide (hit T s p q))).getD 0
theorem fq_first {T:List Int} {s:Int} {p:Nat} (h:∃ q,q<64∧hit T s p q):First T s p (fq T s p):=by
 obtain ⟨q,hq,hh⟩:=h
 unfold fq
 cases hf:(List.range 64).find? (fun q=>decide (hit T s p q)) with
 | none=>
  rw [List.find?_eq_none] at hf
  exact absurd hh (by simpa using hf q (by simpa using hq))
 | some r=>
  obtain ⟨h1,i,hi,h2,h3⟩:=List.find?_eq_some_iff_getElem.1 hf
  simp only [List.length_range] at hi
  simp only [List.getElem_range] at h2 h3
  subst h2
  refine ⟨hi,by simpa using h1,fun j hj=>?_⟩
  have:=h3 j hj
  simpa using this
theorem no_hit {zs:List Int} (hn:normB zs=true) (s:Int) (p:Nat) (hc:∀ k:Nat,s=k→zs.getD k 0=0):∀ q,q<64→¬hit (tb (pl (fl 0 zs) (plc 64)) zs 64) s p q:=by
 intro q hq h
 obtain ⟨c1,_,_⟩:=cell_at (zs:=zs) q hq
 obtain ⟨t,ht,htl,htp,_⟩:=sp_sym hn q hq
 have:=h.1
 rw [c1,ht] at this
 have:=hc t this.symm
 omega
def fpS (T ts:List Int):Nat→Nat × Nat × Nat
 | 0=>(0,0,0)
 | k+1=>(fq T (ts.getD (ts.length-1-k) 0) (fpS T ts k).1,(fpS T ts k).2.1+cB T (fq T (ts.getD (ts.length-1-k) 0) (fpS T ts k).1),(fpS T ts k).2.2+((fpS T ts k).1-cZ T (fq T (ts.getD (ts.length-1-k) 0) (fpS T ts k).1))*2 ^ (fpS T ts k).2.1)
end Go.Proofs.YtfeokafkhnbdiaaGreatDoor
