/- Lemmas on the way. -/
import Derived.Test.YtfeokafkhnbdiaaGreatDoorSp2
import Derived.Test.YtfeokafkhnbdiaaGreatDoorRev2
import Derived.Laws.AppendOwn
import Derived.Test.YtfeokafkhnbdiaaGreatDoorFp3
import Derived.Test.YtfeokafkhnbdiaaGreatDoorHPut3
import Derived.Test.YtfeokafkhnbdiaaGreatDoorEnK
import Derived.Test.YtfeokafkhnbdiaaGreatDoorLvC
import Derived.Test.YtfeokafkhnbdiaaGreatDoorSy3
import Derived.Test.YtfeokafkhnbdiaaGreatDoorEkM
import Derived.Test.YtfeokafkhnbdiaaGreatDoorEkL
import Derived.Test.YtfeokafkhnbdiaaGreatDoorLPutT2
import Derived.Test.YtfeokafkhnbdiaaGreatDoorHPutT2
import Derived.Test.YtfeokafkhnbdiaaGreatDoorJoin1
set_option maxRecDepth 20000
set_option maxHeartbeats 16000000
namespace Go.Proofs.YtfeokafkhnbdiaaGreatDoor
open Go.RowKit
set_option linter.unusedVariables false
theorem l3spread_any (a:Option Addr) (cap:Nat) (zs:List Int) (w:World) (hb:Ins w a zs) (hn:normB zs=true) :
  Calls Tryz.prog 158 #[.slice a zs.length cap] w fun e w'=>e=.returned (.slice (some ⟨w.heap.size,0,none⟩) 64 64)∧OwI w' w.heap.size w.heap.size 64 (pl (fl 0 zs) (plc 64))∧Below w.heap.size w w':=by
 obtain ⟨i0,hi,hz0,hz1,hz2⟩:=info_parts Tryz.infoI64
 have hbd:=normB_bnd hn
 have hall:(∀ z ∈ zs,0≤z)∧zs.sum=64:=by
  simp only [normB,decide_eq_true_eq] at hn
  exact ⟨fun z hz=>(hn.2.2.1 z hz).1,hn.2.2.2⟩
 have HN:Hid (normB zs=true):=hn
 have HA:Hid ((∀ z ∈ zs,0≤z)∧zs.sum=64):=hall
 have HB:Hid (Ins w a zs):=hb
 clear hn hall hb
 generalize hL:zs.length=n at *
 have HL:Hid (zs.length=n):=hL
 clear hL
 go_enter Tryz.func158,Tryz.ntmps158
 go_wp2_with (at_make;refine wpList_make_full _ rfl _ _ 38 rfl w.heap.size 3 i0 (.int .i64 0) 1 Tryz.underlying38 hi hz0 hz1 .i64 .i64 _ _ 64 rfl rfl rfl rfl (by rw [hz2];omega) (by unfold maxLen;omega) nl ?_;intro w1 hown hgrow)
 have HR1:Hid (OwI w1 w.heap.size w.heap.size 64 (pl (fl 0 zs) (plc 0))):=made_rowI hown
 have HB1:Hid (Below w.heap.size w w1):=(Below.refl _ _).grown hgrow nl (fun k hk=>by cases hk)
 clear hown hgrow
 generalize hG:w.heap.size=G at *
 have HG:Hid (w.heap.size=G):=hG
 clear hG
 go_loopw [4,5] (fun at_ i wr=>∃ k M:Nat,k≤n∧i=.int .i64 k∧M=(zs.take k).sum.toNat∧at_=.int .i64 ((43*M % 64:Nat):Int)∧OwI wr G G 64 (pl (fl 0 zs) (plc M))∧Below G w wr) (fun _ i _=>n-(intOf i).toNat)
 case atStart=>exact ⟨0,0,Nat.zero_le _,rfl,by simp,rfl,HR1.out,HB1.out⟩
 case round=>
  obtain ⟨k,M,hk,rfl,hM,rfl,hr,hbw⟩:=hrel
  by_cases hlt:k<n
  ·obtain ⟨b1,o1,rfl,hb1,hc1⟩:=HB.out.len_pos k (by rw [HL.out];exact hlt)
   have hs1:=hc1 k (by rw [HL.out];exact hlt)
   have hg:=normB_get HN.out k (by rw [HL.out];exact hlt)
   obtain ⟨z,hz⟩:=Int.eq_ofNat_of_zero_le hg.1
   have HZ:Hid (zs.getD k 0=(z:Int)):=hz
   have hsc:=hs1
   rw [hz] at hsc hg
   have HS:Hid (w.cell? ⟨b1,o1+k,none⟩=some (.int .i64 z)):=hsc
   have HBW:Hid (Below G w wr):=hbw
   have HRR:Hid (OwI wr G G 64 (pl (fl 0 zs) (plc M))):=hr
   have HM:Hid (M=(zs.take k).sum.toNat):=hM
   rw [HG.out] at hb1
   have hz64:z≤64:=by omega
   clear hs1 hsc hc1 hz hbw hr hM hg
   generalize hq:43*M % 64=q at *
   have HQ:Hid (43*M % 64=q):=hq
   clear hq
   go_wp2
   go_loopw [4,6] (fun at_ j wr=>∃ m M':Nat,m≤z∧j=.int .i64 m∧M'=M+m∧at_=.int .i64 ((43*M' % 64:Nat):Int)∧OwI wr G G 64 (pl (fl 0 zs) (plc M'))∧Below G w wr) (fun _ j _=>z-(intOf j).toNat)
   case atStart=>exact ⟨0,M,Nat.zero_le _,rfl,by simp,by rw [HQ.out],HRR.out,HBW.out⟩
   case round=>
    obtain ⟨m,M',hm,rfl,hM',rfl,hr,hbw⟩:=hrel
    have hcell:wr.cell? ⟨b1,o1+k,none⟩=some (.int .i64 z):=keep hbw hb1 HS.out
    by_cases hmz:m<z
    ·have HF:Hid ((fl 0 zs).getD M' 0=((k:Nat):Int)):=by
      have:=fl_at zs 0 k m HA.out.1 (by rw [HL.out];exact hlt) (by rw [HZ.out];omega)
      rw [←HM.out,←hM',Nat.zero_add] at this
      exact this
     obtain ⟨q',hq'⟩:∃ q',43*M' % 64=q':=⟨_,rfl⟩
     have hq64:q'<64:=by omega
     have HP:Hid ((pl (fl 0 zs) (plc M')).set q' (k:Int)=pl (fl 0 zs) (plc (M'+1))):=by
      unfold Hid
      rw [plc_succ,pl_snoc,plc_len,HF.out,hq']
     have hc2:=hr.cell q' (by rw [pl_len];exact hq64)
     have hf2:=hr.frozen q'
     have HRW:Hid (OwI (wr.setCell ⟨G,q',none⟩ (.int .i64 k)) G G 64 (pl (fl 0 zs) (plc (M'+1)))):=by
      have:=hr.store q' (k:Int) (by omega)
      rw [HP.out] at this
      exact this
     have HBW2:Hid (Below G w (wr.setCell ⟨G,q',none⟩ (.int .i64 k))):=hbw.setCell (by simp) _
     have HQ2:Hid ((q'+43) % 64=43*(M'+1) % 64):=by unfold Hid;omega
     have HM':Hid (M'=M+m):=hM'
     generalize (pl (fl 0 zs) (plc M')).getD q' 0=old at *
     rw [hq']
     clear hr hbw hM' hq' HP HF
     go_wp2
     go_roundw
     case rel=>exact ⟨m+1,M'+1,by omega,by go_num,by rw [HM'.out,Nat.add_assoc],by rw [←HQ2.out];simp;try omega,HRW.out,HBW2.out⟩
     case measure=>simp [intOf];omega
    ·have hme:m=z:=by omega
     subst hme
     have HRW:Hid (OwI wr G G 64 (pl (fl 0 zs) (plc M'))):=hr
     have HBW2:Hid (Below G w wr):=hbw
     have HMS:Hid (M'=(zs.take (k+1)).sum.toNat):=by
      unfold Hid
      have h1:=sum_succ zs k (by rw [HL.out];exact hlt)
      have h2:=sum_nn HA.out.1 k
      rw [h1,HZ.out,hM',HM.out]
      omega
     generalize hq':43*M' % 64=q' at *
     have HQ2:Hid (43*M' % 64=q'):=hq'
     clear hr hbw hM' hq'
     go_wp2
     go_roundw
     case rel=>exact ⟨k+1,M',by omega,by go_num,HMS.out,by rw [HQ2.out],HRW.out,HBW2.out⟩
     case measure=>simp [intOf];omega
  ·have hke:k=n:=by omega
   subst hke
   have HM64:Hid (M=64):=by
    unfold Hid
    have h1:=HL.out
    rw [hM,←h1,List.take_length,HA.out.2]
    rfl
   have HRR:Hid (OwI wr G G 64 (pl (fl 0 zs) (plc M))):=hr
   have HBW:Hid (Below G w wr):=hbw
   generalize hq:43*M % 64=q at *
   clear hr hbw hM hq
   go_wp2
   go_ret
   have h64:=HM64.out
   subst h64
   rw [HG.out]
   exact ⟨rfl,HRR.out,HBW.out⟩
theorem Tryz.infoCell :(Tryz.prog.info? 177).map (fun i=>(i.zero,i.size,i.bytes))=some (some (.agg #[.int .i64 0,.int .i64 0,.int .i64 0]),3,24):=by kernel_rfl
def CV (w:World) (B:Nat) (v:Value) (n:Nat) (fs:List Int):Prop:=w.ownsRow B 177 3 v n (fs.map (Value.int .i64))
theorem CV.only {S:Nat→Prop} {w w':World} {B n:Nat} {v:Value} {fs:List Int} (h:CV w B v n fs) (ho:Only S w w') (hs:∀ k,B≤k→¬S k):CV w' B v n fs:=by
 refine ⟨h.1,?_⟩
 rcases h.2 with h' | ⟨g,cap,cur,rfl,hg,hh,r⟩
 ·exact .inl h'
 ·exact .inr ⟨g,cap,cur,rfl,hg,(ho.block g (Array.getElem?_eq_some_iff.1 hh).1 (hs g hg)).trans hh,r⟩
theorem cv_weak {w:World} {B B' n:Nat} {v:Value} {fs:List Int} (h:CV w B v n fs) (hB:B'≤B):CV w B' v n fs:=by
 refine ⟨h.1,?_⟩
 rcases h.2 with h' | ⟨g,cap,cur,rfl,hg,r⟩
 ·exact .inl h'
 ·exact .inr ⟨g,cap,cur,rfl,by omega,r⟩
theorem cv_form {w:World} {B n:Nat} {v:Value} {xs:List Value} {e:TypeId} {sz:Nat} (h:w.ownsRow B e sz v n xs):∃ (a:Option Addr) (c:Nat),v=.slice a n c:=by
 rcases h.2 with ⟨rfl,rfl⟩ | ⟨g,cap,cur,rfl,_⟩
 ·exact ⟨none,0,rfl⟩
 ·exact ⟨_,cap,rfl⟩
theorem cv_blk {w:World} {B n:Nat} {v:Value} {xs:List Value} {e:TypeId} {sz b:Nat} (h:w.ownsRow B e sz v n xs) (hb:v.ownBlock=some b):B≤b:=by
 rcases h.2 with ⟨rfl,rfl⟩ | ⟨g,cap,cur,rfl,hg,_⟩
 ·simp [Value.ownBlock] at hb
 ·simp [Value.ownBlock] at hb
  omega
theorem l3table_any (a:Option Addr) (cap:Nat) (zs:List Int) (w:World) (hb:Ins w a zs) (hn:normB zs=true) :
  Calls Tryz.prog 141 #[.slice a zs.length cap] w fun e w'=>∃ a' c',e=.returned (.slice a' 64 c')∧CV w' w.heap.size (.slice a' 64 c') 64 (tb (pl (fl 0 zs) (plc 64)) zs 64)∧Below w.heap.size w w':=by
 obtain ⟨i0,hi,hz0,hz1,hz2⟩:=info_parts Tryz.infoI64
 obtain ⟨ic,hic,hc0,hc1,hc2⟩:=info_parts Tryz.infoCell
 have hbd:=normB_bnd hn
 have HSP:=l3spread_any a cap zs w hb hn
 have HSY:Hid (∀ p,p<64→∃ s:Nat,(pl (fl 0 zs) (plc 64)).getD p 0=(s:Int)∧s<zs.length∧0<zs.getD s 0∧zs.getD s 0≤64):=fun p hp=>sp_sym hn p hp
 have HSL:Hid ((pl (fl 0 zs) (plc 64)).length=64):=pl_len _ _
 generalize pl (fl 0 zs) (plc 64)=SP at *
 have HN:Hid (normB zs=true):=hn
 clear hn
 obtain ⟨b1,o1,rfl,hb1,hcz⟩:=hb.len_pos 0 (by omega)
 have HB:Hid (Ins w (some ⟨b1,o1,none⟩) zs):=hb
 have HCZ:Hid (∀ i,i<zs.length→w.cell? ⟨b1,o1+i,none⟩=some (.int .i64 (zs.getD i 0))):=hcz
 clear hb hcz
 generalize hL:zs.length=L at *
 have HL:Hid (zs.length=L):=hL
 clear hL
 go_enter Tryz.func141,Tryz.ntmps141
 go_wp2_with fail
 refine HSP.mono ?_
 clear HSP
 rintro e w1 ⟨rfl,ho1,hb1'⟩
 have HO1:Hid (OwI w1 w.heap.size w.heap.size 64 SP):=ho1
 have HB1:Hid (Below w.heap.size w w1):=hb1'
 have hs1:=ho1.lt.2
 clear ho1 hb1'
 generalize hG:w.heap.size=G at *
 have HG:Hid (w.heap.size=G):=hG
 clear hG
 have HN0:Hid ((w1.alloc (Obj.cells #[] 3)).ownsRow w1.heap.size 3 1 (.slice (some ⟨w1.heap.size,0,none⟩) 0 0) 0 []):=⟨rfl,.inr ⟨w1.heap.size,0,#[],rfl,Nat.le_refl _,heap_alloc_new _ _,Nat.le_refl _,Nat.zero_le _,rfl,rfl⟩⟩
 have HNW:Hid (∀ j u,(zs.map (Value.int .i64))[j]?=some u→(w1.alloc (Obj.cells #[] 3)).cell? ((⟨b1,o1,none⟩:Addr).add j)=some u):=by
  intro j u hu
  rw [List.getElem?_map] at hu
  cases hq:zs[j]? with
  | none=>rw [hq] at hu;simp at hu
  | some z=>
   rw [hq] at hu
   simp at hu
   subst hu
   have hj:j<zs.length:=(List.getElem?_eq_some_iff.1 hq).1
   have:=HCZ.out j (by rw [←HL.out];exact hj)
   rw [List.getD_eq_getElem?_getD,hq] at this
   have e:(⟨b1,o1,none⟩:Addr).add j=⟨b1,o1+j,none⟩:=by unfold Addr.add;split <;> simp_all
   rw [e]
   exact keepA _ (by omega) (keep HB1.out hb1 this)
 have HZM:Hid ((zs.map (Value.int .i64)).length=L*1):=by unfold Hid;rw [List.length_map,HL.out];omega
 go_wp2_with (at_builtin;(refine wpList_append_own _ rfl _ _ 38 rfl w1.heap.size 3 i0 (.int .i64 0) 1 8 Tryz.underlying38 hi hz0 hz1 hz2 rfl (by decide) _ 0 [] rfl HN0.out ⟨b1,o1,none⟩ L cap (zs.map (Value.int .i64)) rfl HZM.out HNW.out (by intro u hu;simp at hu;obtain ⟨z,_,rfl⟩:=hu;rfl) (by unfold maxLen;omega) (by omega) (by simp) ?_;intro v2 w2 hov2 hgr2 hnil2))
 have ho2:Only (fun k=>w1.heap.size≤k) w1 w2:=((Only.refl (fun k=>w1.heap.size≤k) w1).alloc _).grown hgr2 (fun k hk=>.inl (by cases hk;exact Nat.le_refl _))
 have hwz:G≤w1.heap.size:=by omega
 have HB2:Hid (Below G w w2):=HB1.out.trans (ho2.below hwz (fun k hk=>by omega))
 have HP2:Hid (OwI w2 G G 64 SP):=HO1.out.only ho2 (by omega)
 have hov2':w2.ownsRow w1.heap.size 3 1 v2 L (zs.map (Value.int .i64)):=by simpa using hov2
 obtain ⟨g2,c2,rfl,hg2⟩:∃ g2 c2,v2=.slice (some ⟨g2,0,none⟩) L c2∧w1.heap.size≤g2:=by
  rcases hov2'.2 with ⟨_,h0⟩ | ⟨g,cp,cur,rfl,hg,_⟩
  ·omega
  ·exact ⟨g,cp,rfl,hg⟩
 have HX2:Hid (OwI w2 w1.heap.size g2 c2 (nx SP zs 0)):=⟨by show w2.ownsRow _ _ _ (.slice _ zs.length c2) zs.length _;rw [HL.out];exact hov2',HB.out.1⟩
 have hg2s:=HX2.out.lt.2
 clear hov2 hov2' hgr2 hnil2 ho2 HO1 HB1 HN0 HNW HZM
 generalize hB3:w2.heap.size=B3 at *
 have HB3:Hid (w2.heap.size=B3):=hB3
 clear hB3
 generalize w1.heap.size=B2 at *
 go_loopw [5,6] (fun v i wr=>∃ (k:Nat) (av:Option Addr) (cv:Nat),k≤64∧i=.int .i64 k∧v=.slice av k cv∧CV wr B3 (.slice av k cv) k (tb SP zs k)∧OwI wr B2 g2 c2 (nx SP zs k)∧OwI wr G G 64 SP∧Below G w wr∧B3≤wr.heap.size) (fun _ i _=>64-(intOf i).toNat)
 case atStart=>exact ⟨0,none,0,Nat.zero_le _,rfl,rfl,⟨rfl,.inl ⟨rfl,rfl⟩⟩,HX2.out,HP2.out,HB2.out,by rw [HB3.out];exact Nat.le_refl _⟩
 case round=>
  obtain ⟨k,av,cv,hk,rfl,rfl,hcv,hnx,hsp,hbel,hsz⟩:=hrel
  by_cases hlt:k<64
  ·obtain ⟨s,hs,hsl,hzp,hz64⟩:=HSY.out k hlt
   have hbn:=nx_bnd SP zs k s
   obtain ⟨X,hX⟩:=Int.eq_ofNat_of_zero_le (show 0≤(nx SP zs k).getD s 0 by omega)
   have hX1:1≤X:=by omega
   have hX2:X≤127:=by omega
   have q0:=hsp.cell k (by rw [HSL.out];exact hlt)
   rw [hs] at q0
   have q1:=hnx.cell s (by rw [nx_len,HL.out];exact hsl)
   rw [hX] at q1
   have qf:=hnx.frozen s
   have HNX:Hid (OwI (wr.setCell ⟨g2,s,none⟩ (.int .i64 ((X:Int)+1))) B2 g2 c2 (nx SP zs (k+1))):=by
    have:=hnx.store s ((X:Int)+1) (by omega)
    rw [show nx SP zs (k+1)=(nx SP zs k).set s ((X:Int)+1) from by rw [nx,hs,Int.toNat_natCast,hX]]
    exact this
   have hon:Only (fun b=>b=g2) wr (wr.setCell ⟨g2,s,none⟩ (.int .i64 ((X:Int)+1))):=(Only.refl (fun b=>b=g2) wr).setCell (p:=⟨g2,s,none⟩) (.inl rfl) _
   have HCV:Hid (CV (wr.setCell ⟨g2,s,none⟩ (.int .i64 ((X:Int)+1))) B3 (.slice av k cv) k (tb SP zs k)):=hcv.only hon (fun b hb=>by omega)
   have HSPW:Hid (OwI (wr.setCell ⟨g2,s,none⟩ (.int .i64 ((X:Int)+1))) G G 64 SP):=hsp.only hon (by omega)
   have HBW:Hid (Below G w (wr.setCell ⟨g2,s,none⟩ (.int .i64 ((X:Int)+1)))):=hbel.trans (hon.below (by omega) (fun b hb=>by omega))
   have HSZ:Hid (B3≤(wr.setCell ⟨g2,s,none⟩ (.int .i64 ((X:Int)+1))).heap.size):=Nat.le_trans hsz hon.size
   have HTB:Hid (tb SP zs (k+1)=tb SP zs k++[(s:Int),((wd X:Nat):Int),((X*2 ^ wd X:Nat):Int)-64]):=by
    unfold Hid
    rw [tb,hs,Int.toNat_natCast,hX,Int.toNat_natCast]
   have HWD:=wd_rng hX1 hX2
   have HWL:Hid (∀ b,b<wd X→X*2 ^ b<64):=fun b hb=>wd_least hX1 hX2 hb
   have HWD':Hid _:=HWD
   have hw6:=HWD.1
   clear hcv hnx hsp hbel hsz hon hbn hX hs HWD hzp hz64
   generalize hW:wd X=W at *
   clear hW
   have hsL:s<L:=hsl
   go_wp2
   generalize wr.setCell ⟨g2,s,none⟩ (.int .i64 ((X:Int)+1))=wq at *
   go_loop [9] (fun b=>∃ j:Nat,j≤W∧b=.int .i64 j) (fun b=>W-(intOf b).toNat)
   case atStart=>exact ⟨0,Nat.zero_le _,rfl⟩
   case round=>
    obtain ⟨j,hj,rfl⟩:=hrel
    have hsh:=shl_in X j (by omega) (by omega)
    by_cases hjW:j<W
    ·have hp:wrap64 ((X:Int)*2 ^ j)<64:=by rw [hsh];have:=HWL.out j hjW;omega
     have hp2:decide (wrap64 ((X:Int)*2 ^ j)<64)=true:=by simpa using hp
     clear hsh hp
     go_wp2
     go_round
     case rel=>exact ⟨j+1,by omega,by go_num⟩
     case measure=>simp [intOf];omega
    ·have hjw:j=W:=by omega
     subst hjw
     obtain ⟨Y,hY⟩:∃ Y,X*2 ^ j=Y:=⟨_,rfl⟩
     rw [hY] at hsh
     have HW2:=HWD'.out.2
     rw [hY] at HW2
     have hy1:(64:Int)≤Y:=by omega
     have hy2:(Y:Int)<128:=by omega
     have hp2:decide (wrap64 ((X:Int)*2 ^ j)<64)=false:=by rw [hsh];simpa using hy1
     have HT1:Hid (tb SP zs (k+1)=tb SP zs k++[(s:Int),(j:Int),(Y:Int)-64]):=by
      have:=HTB.out
      rw [hY] at this
      exact this
     have HCA:Hid ((wq.alloc (Obj.cells #[.int .i64 s,.int .i64 j,.int .i64 ((Y:Int)-64)] 177)).ownsRow B3 177 3 (.slice av k cv) k ((tb SP zs k).map (Value.int .i64))):=HCV.out.only (S:=fun _=>False) ((Only.refl (fun _=>False) wq).alloc _) (by simp)
     have HNE:Hid (∀ (i:Nat) (u:Value),[Value.int .i64 (s:Int),.int .i64 (j:Int),.int .i64 ((Y:Int)-64)][i]?=some u→(wq.alloc (Obj.cells #[.int .i64 s,.int .i64 j,.int .i64 ((Y:Int)-64)] 177)).cell? ((⟨wq.heap.size,0,none⟩:Addr).add i)=some u):=by
      intro i u hu
      have e:(⟨wq.heap.size,0,none⟩:Addr).add i=⟨wq.heap.size,i,none⟩:=by unfold Addr.add;split <;> simp_all
      rw [e,cell_of_row _ _ i _ _ _ (heap_alloc_new wq _)]
      simpa using hu
     have hza:B3≤(wq.alloc (Obj.cells #[.int .i64 s,.int .i64 j,.int .i64 ((Y:Int)-64)] 177)).heap.size:=by have:=HSZ.out;simp;omega
     have HSH:Hid _:=hsh
     clear HTB HWL HWD' HW2 hY
     go_wp2_with (at_builtin;(refine wpList_append_own _ rfl _ _ 194 rfl B3 177 ic (.agg #[.int .i64 0,.int .i64 0,.int .i64 0]) 3 24 Tryz.underlying194 hic hc0 hc1 hc2 rfl (by decide) (.slice av k cv) k _ rfl HCA.out ⟨wq.heap.size,0,none⟩ 1 1 [Value.int .i64 (s:Int),.int .i64 (j:Int),.int .i64 ((Y:Int)-64)] rfl rfl HNE.out (by intro u hu;simp at hu;rcases hu with rfl | rfl | rfl <;> rfl) (by unfold maxLen;omega) (by omega) hza ?_;intro v5 w5 hov5 hgr5 hnil5;obtain ⟨a5,c5,rfl⟩:=cv_form hov5))
     have ho5:Only (fun b=>B3≤b) wq w5:=((Only.refl (fun b=>B3≤b) wq).alloc _).grown hgr5 (fun b hb=>.inl (cv_blk HCA.out hb))
     have hGB:G≤B3:=by omega
     go_roundw
     case rel=>
      refine ⟨k+1,a5,c5,by omega,by go_num,rfl,?_,HNX.out.only ho5 (by omega),HSPW.out.only ho5 (by omega),HBW.out.trans (ho5.below (by have:=HSZ.out;omega) (fun b hb=>by omega)),Nat.le_trans HSZ.out ho5.size⟩
      unfold CV
      rw [HT1.out,List.map_append]
      exact hov5
     case measure=>simp [intOf];omega
  ·have hke:k=64:=by omega
   subst hke
   have HCV:Hid _:=hcv
   have HBW:Hid _:=hbel
   clear hcv hnx hsp hbel
   go_wp2
   go_ret
   rw [HG.out]
   exact ⟨av,cv,rfl,cv_weak HCV.out (by omega),HBW.out⟩
def InR (w:World) (B U:Nat) (a:Option Addr) (fs:List Int):Prop:=
 (∀ z ∈ fs,-9223372036854775808≤z∧z≤9223372036854775807)∧(fs=[]∨∃ g,a=some ⟨g,0,none⟩∧B≤g∧g<U∧U≤w.heap.size∧∀ i,i<fs.length→w.cell? ⟨g,i,none⟩=some (.int .i64 (fs.getD i 0)))
theorem InR.byt {w:World} {B U:Nat} {a:Option Addr} {fs:List Int} (h:InR w B U a fs):Ins w a fs:=by
 refine ⟨h.1,fun hp=>?_⟩
 rcases h.2 with h' | ⟨g,rfl,h1,h2,h4,h3⟩
 ·rw [h'] at hp;simp at hp
 ·exact ⟨g,0,rfl,by omega,fun i hi=>by rw [Nat.zero_add];exact h3 i hi⟩
theorem CV.inR {w:World} {B n c:Nat} {a:Option Addr} {fs:List Int} (h:CV w B (.slice a n c) n fs) (hr:∀ z ∈ fs,-9223372036854775808≤z∧z≤9223372036854775807) (hl:fs.length=n*3):InR w B w.heap.size a fs:=by
 refine ⟨hr,?_⟩
 rcases h.2 with ⟨h',rfl⟩ | ⟨g,cap,cur,h',hg,r⟩
 ·left
  exact List.eq_nil_of_length_eq_zero (by omega)
 ·right
  simp at h'
  obtain ⟨rfl,rfl⟩:=h'
  have hlt:=(h.lt g rfl).2
  refine ⟨g,rfl,hg,hlt,Nat.le_refl _,fun i hi=>?_⟩
  rw [World.ownsRow.cellAt h i (by omega)]
  simp [List.getElem?_eq_getElem hi]
theorem lt_powP {pp z bb:Nat} (h:pp-z<2 ^ bb) (hz:z≤pp):(pp:Int)-(z:Int)<2 ^ ((bb:Int)).toNat:=by
 have e:((2:Int) ^ bb)=((2 ^ bb:Nat):Int):=by simp
 rw [Int.toNat_natCast,e]
 generalize 2 ^ bb=P at *
 omega
theorem l3put_any (a:Option Addr) (ca:Nat) (ls:List Int) (b:Option Addr) (cb:Nat) (ts T:List Int) (w:World) (ha:Ins w a ls) (hb:Ins w b ts) (hnb:normB ls=true) (hTe:tb (pl (fl 0 ls) (plc 64)) ls 64=T) (htl:ts.length≤300) (hts:∀ k,k<ts.length→0≤ts.getD k 0∧ts.getD k 0<ls.length) (hsh:shd ls ts) :
  Calls Tryz.prog 114 #[.slice a ls.length ca,.slice b ts.length cb] w fun e w'=>∃ a' cp,e=.returned (.agg #[.slice a' (enc (fN T ts) (fV T ts)).length cp,.int .i64 (fN T ts:Nat)])∧Mine w' w.heap.size w'.heap.size a' cp (enc (fN T ts) (fV T ts))∧Below w.heap.size w w':=by
 have hw:Below w.heap.size w (w.alloc (Obj.cells #[.slice none 0 0,.int .i64 0] 40)):=bAw
 have HTB:Hid (Tab T ls):=by unfold Hid;rw [←hTe];exact tab_tb hnb
 have HTR:Hid (∀ z ∈ T,-9223372036854775808≤z∧z≤9223372036854775807):=by
  intro z hz
  rw [←hTe] at hz
  have:=tb_rng hnb 64 nl z hz
  omega
 have HLT:=l3table_any a ca ls _ (ha.below hw nl) hnb
 rw [hTe] at HLT
 have HSZ:Hid (w.heap.size<(w.alloc (Obj.cells #[.slice none 0 0,.int .i64 0] 40)).heap.size):=by simp [Hid]
 have HR0:Hid ((w.alloc (Obj.cells #[.slice none 0 0,.int .i64 0] 40)).cell? ⟨w.heap.size,0,none⟩=some (.slice none 0 0)∧(w.alloc (Obj.cells #[.slice none 0 0,.int .i64 0] 40)).cell? ⟨w.heap.size,1,none⟩=some (.int .i64 0)∧(w.alloc (Obj.cells #[.slice none 0 0,.int .i64 0] 40)).frozen? ⟨w.heap.size,0,none⟩=false∧(w.alloc (Obj.cells #[.slice none 0 0,.int .i64 0] 40)).frozen? ⟨w.heap.size,1,none⟩=false):=⟨by simp,by simp,by simp,by simp⟩
 have HP:Hid (Ins w b ts∧(∀ k,k<ts.length→0≤ts.getD k 0∧ts.getD k 0<ls.length)∧shd ls ts∧Below w.heap.size w (w.alloc (Obj.cells #[.slice none 0 0,.int .i64 0] 40))):=⟨hb,hts,hsh,hw⟩
 clear hb hts hsh hnb hTe ha hw
 go_enter Tryz.func114,Tryz.ntmps114
 go_wp2_with fail
 generalize w.alloc (Obj.cells #[.slice none 0 0,.int .i64 0] 40)=W at *
 refine HLT.mono ?_
 clear HLT
 rintro e w1 ⟨aT,cT,rfl,hcv,hb1⟩
 have hinr:=hcv.inR HTR.out HTB.out.gd.len
 have HSI:Hid (SI (w1.alloc (Obj.cells #[.slice none 0 0,.int .i64 0] 40)) w1.heap.size w1.heap.size 0 0):=SI.new w1 w1.heap.size nl
 have HB1:Hid (Below w.heap.size w w1∧w.heap.size<w1.heap.size∧Ins w1 aT T∧Below w1.heap.size w1 (w1.alloc (Obj.cells #[.slice none 0 0,.int .i64 0] 40))):=⟨HP.out.2.2.2.trans (hb1.mono (Nat.le_of_lt HSZ.out)),by have:=HSZ.out;have:=hb1.size;omega,hinr.byt,(Below.refl _ _).alloc nl _⟩
 have HR1:Hid (w1.cell? ⟨w.heap.size,0,none⟩=some (.slice none 0 0)∧w1.cell? ⟨w.heap.size,1,none⟩=some (.int .i64 0)∧w1.frozen? ⟨w.heap.size,0,none⟩=false∧w1.frozen? ⟨w.heap.size,1,none⟩=false):=⟨keep hb1 HSZ.out HR0.out.1,keep hb1 HSZ.out HR0.out.2.1,(hb1.frozen (p:=⟨w.heap.size,0,none⟩) HSZ.out).trans HR0.out.2.2.1,(hb1.frozen (p:=⟨w.heap.size,1,none⟩) HSZ.out).trans HR0.out.2.2.2⟩
 clear hcv hinr hb1 HR0 HSZ
 generalize hLn:ts.length=n at *
 have HLn:Hid (ts.length=n∧True):=⟨hLn,trivial⟩
 clear hLn
 go_wp2
 generalize hB:w1.heap.size=B at *
 have HB:Hid (w1.heap.size=B∧True):=⟨hB,trivial⟩
 clear hB
 go_loopw [6,8] (fun s i wr=>∃ (k:Nat) (iz:Int),k≤n∧i=.int .i64 iz∧iz=(n:Int)-1-k∧s=.int .i64 ((fpS T ts k).1:Nat)∧SI wr B B (fpS T ts k).2.1 (fpS T ts k).2.2∧Below B w1 wr) (fun _ i _=>(intOf i+1).toNat)
 case atStart=>exact ⟨0,(n:Int)-1,Nat.zero_le _,rfl,by simp,rfl,HSI.out,HB1.out.2.2.2⟩
 case round=>
  clear HSI
  obtain ⟨k,iz,hk,rfl,hiz,rfl,hsi,hbel⟩:=hrel
  obtain ⟨h1,h2,h3⟩:=fpS_ok HTB.out (by rw [HLn.out.1];exact HP.out.2.1) k (by rw [HLn.out.1];exact hk) (fun j hj=>HP.out.2.2.1 _ (by rw [HLn.out.1];omega))
  have HS:Hid (SI wr B B (fpS T ts k).2.1 (fpS T ts k).2.2∧Below B w1 wr∧(fpS T ts k).2.1≤6*k∧iz=(n:Int)-1-k):=⟨hsi,hbel,h2,hiz⟩
  by_cases hlt:k<n
  ·obtain ⟨j,hj⟩:∃ j:Nat,iz=j:=⟨iz.toNat,by omega⟩
   subst hj
   have hjn:j<n:=by omega
   have hjk:n-1-k=j:=by omega
   have HF:=fpS_first HTB.out (by rw [HLn.out.1];exact HP.out.2.1) k (by rw [HLn.out.1];exact hlt) (fun j hj=>HP.out.2.2.1 _ (by rw [HLn.out.1];omega))
   have HST:Hid ((fpS T ts (k+1)).2.1=(fpS T ts k).2.1+cB T (fpS T ts (k+1)).1∧(fpS T ts (k+1)).2.2=(fpS T ts k).2.2+((fpS T ts k).1-cZ T (fpS T ts (k+1)).1)*2 ^ (fpS T ts k).2.1):=⟨rfl,rfl⟩
   rw [HLn.out.1,hjk] at HF
   obtain ⟨b1,o1,rfl,hb1,hc1⟩:=(HP.out.1.below (HB1.out.1.trans (hbel.mono (Nat.le_of_lt HB1.out.2.1))) nl).len_pos j (by rw [HLn.out.1];exact hjn)
   have hs0:=hc1 j (by rw [HLn.out.1];exact hjn)
   have hTw:Ins wr aT T:=HB1.out.2.2.1.below hbel (by rw [HB.out.1];exact Nat.le_refl _)
   have HLF:=l3from_any aT cT T ls.length (ts.getD j 0) (fpS T ts k).1 (fpS T ts (k+1)).1 wr hTw HTB.out.gd HF h1
   obtain ⟨sy,bb,z,e1,e2,e3,hsy,hb6,hz64⟩:=HTB.out.gd.cell (fpS T ts (k+1)).1 HF.1
   have hcb:cB T (fpS T ts (k+1)).1=bb:=by unfold cB;rw [e2,Int.toNat_natCast]
   have hcz:cZ T (fpS T ts (k+1)).1=z:=by unfold cZ;rw [e3,Int.toNat_natCast]
   have hh:=HF.2.1
   unfold hit at hh
   rw [hcb,hcz] at hh
   have HPX:Hid ((fpS T ts k).1-z<2 ^ bb):=by have:=hh.2;unfold Hid;omega
   have hzp:z≤(fpS T ts k).1:=hh.2.1
   rw [hcb] at HLF
   rw [hcb,hcz] at HST
   have hq64:=HF.1
   obtain ⟨gT,oT,rfl,hgT,hcT⟩:=hTw.len_pos ((fpS T ts (k+1)).1*3+2) (by rw [HTB.out.gd.len];omega)
   have t2:=hcT ((fpS T ts (k+1)).1*3+2) (by rw [HTB.out.gd.len];omega)
   rw [e3,←Nat.add_assoc] at t2
   have HT2:Hid (wr.cell? ⟨gT,oT+(fpS T ts (k+1)).1*3+2,none⟩=some (.int .i64 z)∧gT<wr.heap.size):=⟨t2,hgT⟩
   clear hc1 hcT hTw e1 e2 e3 hcb hcz hh HF hz64 hsi hbel hiz t2 h3 h2 hjk
   generalize hq:(fpS T ts (k+1)).1=q at *
   generalize hN1:(fpS T ts (k+1)).2.1=N1 at *
   generalize hV1:(fpS T ts (k+1)).2.2=V1 at *
   have HQ:Hid ((fpS T ts (k+1)).1=q∧(fpS T ts (k+1)).2.1=N1∧(fpS T ts (k+1)).2.2=V1):=⟨hq,hN1,hV1⟩
   clear hq hN1 hV1
   generalize (fpS T ts k).1=pp at *
   generalize (fpS T ts k).2.1=N0 at *
   generalize (fpS T ts k).2.2=V0 at *
   generalize ts.getD j 0=tj at *
   go_wp2_with fail
   refine HLF.mono ?_
   clear HLF
   rintro e w2 ⟨rfl,hb2⟩
   have t2:=keep hb2 HT2.out.2 HT2.out.1
   have hwb:B≤wr.heap.size:=by obtain ⟨_,_,_,_,_,h⟩:=HS.out.1;exact h
   have HS2:Hid (SI w2 B B N0 V0∧Below B w1 w2):=⟨HS.out.1.stay hb2,HS.out.2.1.trans (hb2.mono hwb)⟩
   have hxz:(0:Int)≤(pp:Int)-(z:Int):=by omega
   have HPT:=HS2.out.1.put ((pp:Int)-(z:Int)) (bb:Int) hxz (by omega) (by omega) (lt_powP HPX.out hzp) (by have:=HS.out.2.2.1;omega)
   rw [Int.toNat_natCast,show ((pp:Int)-(z:Int)).toNat=pp-z from by omega,←HST.out.1,←HST.out.2] at HPT
   clear hb2 hs0
   go_wp2_with fail
   refine HPT.mono ?_
   clear HPT
   rintro e w3 ⟨rfl,hsi3,hb3⟩
   have HF3:Hid (SI w3 B B N1 V1∧Below B w1 w3):=⟨hsi3,HS2.out.2.trans hb3⟩
   clear hsi3 hb3 t2
   go_wp2
   go_roundw
   case rel=>exact ⟨k+1,(j:Int)-1,by omega,rfl,by have:=HS.out.2.2.2;omega,by rw [HQ.out.1],by rw [HQ.out.2.1,HQ.out.2.2];exact HF3.out.1,HF3.out.2⟩
   case measure=>simp [intOf]
  ·have hkn:k=n:=by omega
   subst hkn
   have hiz1:iz=-1:=by omega
   subst hiz1
   have HFN:Hid (fN T ts=(fpS T ts k).2.1+6∧fV T ts=(fpS T ts k).2.2+(fpS T ts k).1*2 ^ (fpS T ts k).2.1):=by unfold fN fV;rw [HLn.out.1];exact ⟨rfl,rfl⟩
   have u0:=keep hbel HB1.out.2.1 HR1.out.1
   have hx64:(((fpS T ts k).1:Nat):Int)<2 ^ ((6:Int)).toNat:=by show _<(64:Int);omega
   have HPT:=HS.out.1.put ((fpS T ts k).1:Nat) 6 (by omega) (by omega) (by omega) hx64 (by have:=HS.out.2.2.1;omega)
   rw [Int.toNat_natCast,show ((6:Int)).toNat=6 from rfl,←HFN.out.1,←HFN.out.2] at HPT
   clear hsi hbel hiz u0 h3 hx64
   generalize (fpS T ts k).1=pp at *
   go_wp2_with fail
   refine HPT.mono ?_
   clear HPT
   rintro e w3 ⟨rfl,hsi3,hb3⟩
   have hbw:=HS.out.2.1.trans hb3
   obtain ⟨a',cp,d0,d1,hmine⟩:=hsi3.cells
   have HM:Hid (Mine w3 B w3.heap.size a' cp (enc (fN T ts) (fV T ts))∧Below w.heap.size w w3∧w.heap.size<B):=⟨hmine,HB1.out.1.trans (hbw.mono (Nat.le_of_lt HB1.out.2.1)),HB1.out.2.1⟩
   have u0:=keep hbw HB1.out.2.1 HR1.out.1
   have u1:=keep hbw HB1.out.2.1 HR1.out.2.1
   have v0:w3.frozen? ⟨w.heap.size,0,none⟩=false:=(hbw.frozen (p:=⟨w.heap.size,0,none⟩) HB1.out.2.1).trans HR1.out.2.2.1
   have v1:w3.frozen? ⟨w.heap.size,1,none⟩=false:=(hbw.frozen (p:=⟨w.heap.size,1,none⟩) HB1.out.2.1).trans HR1.out.2.2.2
   generalize hES:enc (fN T ts) (fV T ts)=es at *
   have HES:Hid (enc (fN T ts) (fV T ts)=es∧True):=⟨hES,trivial⟩
   clear hsi3 hb3 hmine hbw hES
   go_wp2
   refine bodyPost_ret (v:=.agg #[.slice a' es.length cp,.int .i64 (fN T ts:Nat)]) (by simp [results,Tryz.results114,go_sem,u0,u1]) rfl ⟨a',cp,by rw [HES.out.1],?_,((HM.out.2.1.setCell (by simp) _).setCell (by simp) _)⟩
   rw [HES.out.1]
   exact mine_out _ _ HM.out.1 HM.out.2.2 nl
set_option linter.unusedSimpArgs false
theorem SI.parts {w:World} {B R n V:Nat} (h:SI w B R n V):∃ a' cp,w.cell? ⟨R,0,none⟩=some (.slice a' (enc n V).length cp)∧w.cell? ⟨R,1,none⟩=some (.int .i64 n)∧Byt w a' (enc n V)∧V<2 ^ n∧R<w.heap.size∧B≤w.heap.size∧w.frozen? ⟨R,0,none⟩=false∧w.frozen? ⟨R,1,none⟩=false:=by
 obtain ⟨v,hR,hv,hV,hBR,hB⟩:=h
 obtain ⟨a',cp,rfl,hm⟩:=hv.mine
 exact ⟨a',cp,cellR (j:=0) hR rfl,cellR (j:=1) hR rfl,hm.byt,hV,(Array.getElem?_eq_some_iff.1 hR).1,hB,frozenR hR,frozenR hR⟩
def st2 (w:World) (R:Nat) (v0 v1:Value) (o:Obj):World:=((w.setCell ⟨R,0,none⟩ v0).setCell ⟨R,1,none⟩ v1).alloc o
theorem st2_cells {w:World} {R:Nat} {x0 x1:Value} (h0:w.cell? ⟨R,0,none⟩=some x0) (h1:w.cell? ⟨R,1,none⟩=some x1) (hR:R<w.heap.size) (v0 v1:Value) (o:Obj) :
  (((w.setCell ⟨R,0,none⟩ v0).setCell ⟨R,1,none⟩ v1).alloc o).cell? ⟨R,0,none⟩=some v0∧(((w.setCell ⟨R,0,none⟩ v0).setCell ⟨R,1,none⟩ v1).alloc o).cell? ⟨R,1,none⟩=some v1:=by
 have a0:((w.setCell ⟨R,0,none⟩ v0).setCell ⟨R,1,none⟩ v1).cell? ⟨R,0,none⟩=some v0:=(World.cell?_setCell_other _ _ _ _ (by simp)).trans (World.cell?_setCell_same _ _ _ h0)
 have a1:((w.setCell ⟨R,0,none⟩ v0).setCell ⟨R,1,none⟩ v1).cell? ⟨R,1,none⟩=some v1:=World.cell?_setCell_same _ _ _ ((World.cell?_setCell_other _ _ _ _ (by simp)).trans h1)
 have hb:Below ((w.setCell ⟨R,0,none⟩ v0).setCell ⟨R,1,none⟩ v1).heap.size ((w.setCell ⟨R,0,none⟩ v0).setCell ⟨R,1,none⟩ v1) (((w.setCell ⟨R,0,none⟩ v0).setCell ⟨R,1,none⟩ v1).alloc o):=bAw
 exact ⟨keep hb (by simpa using hR) a0,keep hb (by simpa using hR) a1⟩
theorem st2_only (w:World) (R:Nat) (v0 v1:Value) (o:Obj):Only (fun k=>k=R) w (((w.setCell ⟨R,0,none⟩ v0).setCell ⟨R,1,none⟩ v1).alloc o):=
 (((Only.refl (fun k=>k=R) w).setCell (p:=⟨R,0,none⟩) (.inl rfl) _).setCell (p:=⟨R,1,none⟩) (.inl rfl) _).alloc _
structure SealE (w w8:World) (R:Nat) (ja:Option Addr) (jc N V:Nat):Prop where
 c0:∀ v0 v1 o,(((w8.setCell ⟨R,0,none⟩ v0).setCell ⟨R,1,none⟩ v1).alloc o).cell? ⟨R,0,none⟩=some v0
 c1:∀ v0 v1 o,(((w8.setCell ⟨R,0,none⟩ v0).setCell ⟨R,1,none⟩ v1).alloc o).cell? ⟨R,1,none⟩=some v1
 sl:∀ v0 v1 o,Calls Tryz.prog 115 #[.agg #[.slice ja (enc N V).length jc,.int .i64 N]] (((w8.setCell ⟨R,0,none⟩ v0).setCell ⟨R,1,none⟩ v1).alloc o) fun e w'=>∃ a' cp,e=.returned (.slice a' (enc (N+1) (V+2 ^ N)).length cp)∧Byt w' a' (enc (N+1) (V+2 ^ N))∧Below (((w8.setCell ⟨R,0,none⟩ v0).setCell ⟨R,1,none⟩ v1).alloc o).heap.size (((w8.setCell ⟨R,0,none⟩ v0).setCell ⟨R,1,none⟩ v1).alloc o) w'
 bel:∀ v0 v1 o,Below w.heap.size w (((w8.setCell ⟨R,0,none⟩ v0).setCell ⟨R,1,none⟩ v1).alloc o)
theorem SealE.mk' {w w8:World} {R:Nat} {ja:Option Addr} {jc N V:Nat} {x0 x1:Value} {D:Nat} (h0:w8.cell? ⟨R,0,none⟩=some x0) (h1:w8.cell? ⟨R,1,none⟩=some x1) (hR:R<w8.heap.size) (hm:Mine w8 D w8.heap.size ja jc (enc N V)) (hD:R<D) (hV:V<2 ^ N) (hN:N≤4096) (hb:Below w.heap.size w w8) (hw:w.heap.size≤R):SealE w w8 R ja jc N V where
 c0:=fun v0 v1 o=>(st2_cells h0 h1 hR v0 v1 o).1
 c1:=fun v0 v1 o=>(st2_cells h0 h1 hR v0 v1 o).2
 sl:=fun v0 v1 o=>(l1seal_any ja jc (enc N V) N V _ (hm.only (st2_only w8 R v0 v1 o) (fun k hk _ h=>by omega)).byt rfl hV hN).mono (fun e w' ⟨a',cp,he,hm',hb'⟩=>⟨a',cp,he,hm'.byt,hb'⟩)
 bel:=fun v0 v1 o=>hb.trans ((st2_only w8 R v0 v1 o).below (Nat.le_trans hw (Nat.le_of_lt hR)) (fun k hk=>by omega))
theorem l5squeeze_any (mode:Nat) (a:Option Addr) (c:Nat) (ys:List Int) (w:World) (hb:Byt w a ys) (hn:ys.length=64) (hmo:mode=2∨mode=3) :
  Calls Tryz.prog 90 #[.slice a 64 c,.int .i64 mode] w fun e w'=>(∃ a' cp,e=.returned (.slice a' ((mode:Int) :: sqB mode ys).length cp)∧Mine w' w.heap.size w'.heap.size a' cp ((mode:Int) :: sqB mode ys))∧Below w.heap.size w w':=by
 have HF:=l4find_any a c ys w hb (by omega)
 rw [hn] at HF
 have hsf:=syF_all hn hb.1
 have HLQ:Hid ((sqB mode ys).length≤600):=sqB_len hsf mode
 have HS:Hid (SyF ys∧ys.length=64):=⟨hsf,hn⟩
 clear hb hsf
 go_enter Tryz.func90,Tryz.ntmps90
 go_wp2_with fail
 refine HF.mono ?_
 clear HF
 rintro e w1 ⟨⟨v,rfl,hfa⟩,hb1⟩
 obtain ⟨a1,c1,ss,rfl,hct,hsq,hfw,hby⟩:=hfa.sqs
 obtain ⟨hso,-⟩:=syF_of hn hct hby
 have HY:=l5symbols_any a1 c1 ss w1 hsq (SyOk.of hso)
 rw [syB_of hct] at HY
 have HB1:Hid (Below w.heap.size w w1):=hb1
 clear hfa hct hsq hfw hby hso hb1
 go_wp2_with fail
 refine HY.mono ?_
 clear HY
 rintro e w2 ⟨⟨sa,sc,v,rfl,hov,hv,-⟩,hb2⟩
 obtain ⟨va,vc,rfl,hmv⟩:=hv.mine
 obtain ⟨sa',sc',es',hms⟩:=hov.mine
 obtain ⟨rfl,rfl⟩:sa=sa'∧sc=sc':=by simpa using es'
 have hl1:=HS.out.1.h1
 have hl2:=HS.out.1.h2
 have hm2:=HS.out.1.hm
 have HEQ:Hid (sqB mode ys=enc ((enB mode (syB ys).1 (syB ys).2.1 (syB ys).2.2).1+1) ((enB mode (syB ys).1 (syB ys).2.1 (syB ys).2.2).2+2 ^ (enB mode (syB ys).1 (syB ys).2.1 (syB ys).2.2).1)):=rfl
 have HLE:Hid ((enB mode (syB ys).1 (syB ys).2.1 (syB ys).2.2).1≤2000):=enB_bnd HS.out.1.ht hl1 hl2 hm2 mode _
 have HX:Hid (Ins w2 sa (syB ys).1∧Byt w2 va (enc (syB ys).2.1 (syB ys).2.2)∧Below w.heap.size w w2∧txtB (syB ys).1 40=true∧(syB ys).2.2<2 ^ (syB ys).2.1):=⟨hms.byt,hmv.byt,HB1.out.trans (hb2.mono HB1.out.size),HS.out.1.ht,HS.out.1.hU⟩
 clear hov hv hmv hms hb2 es' HB1 HS
 generalize (syB ys).1=zs at *
 generalize (syB ys).2.1=m at *
 generalize (syB ys).2.2=U at *
 generalize hes:enc m U=es at *
 have HES:Hid (enc m U=es∧True):=⟨hes,trivial⟩
 clear hes
 have HA:Hid (Below w2.heap.size w2 (w2.alloc (Obj.cells #[.slice va es.length vc,.int .i64 m] 40))):=bAw
 have HP0:Hid ((w2.alloc (Obj.cells #[.slice va es.length vc,.int .i64 m] 40)).heap[w2.heap.size]?=some (.cells #[.slice va es.length vc,.int .i64 m] 40 (0,0))):=heap_alloc_new w2 _
 have hPl:w2.heap.size<(w2.alloc (Obj.cells #[.slice va es.length vc,.int .i64 m] 40)).heap.size:=by simp
 have hw2:w.heap.size≤w2.heap.size:=HX.out.2.2.1.size
 have HI:Hid (Ins (w2.alloc (Obj.cells #[.slice va es.length vc,.int .i64 m] 40)) sa zs∧Byt (w2.alloc (Obj.cells #[.slice va es.length vc,.int .i64 m] 40)) va es∧Below w.heap.size w (w2.alloc (Obj.cells #[.slice va es.length vc,.int .i64 m] 40))∧txtB zs 40=true∧U<2 ^ m):=⟨HX.out.1.below HA.out nl,HX.out.2.1.below HA.out nl,HX.out.2.2.1.trans (HA.out.mono hw2),HX.out.2.2.2⟩
 have HC:Calls Tryz.prog 107 #[.slice sa zs.length sc,.int .i64 40] (w2.alloc (Obj.cells #[.slice va es.length vc,.int .i64 m] 40)) _:=l2counts_any sa sc zs 40 _ HI.out.1 HI.out.2.2.2.1
 go_wp2_with fail
 generalize w2.alloc (Obj.cells #[.slice va es.length vc,.int .i64 m] 40)=W0 at *
 generalize w2.heap.size=P at *
 refine HC.mono ?_
 clear HC HX HA
 rintro e w3 ⟨rfl,hoc,hb3⟩
 have HC3:Hid (Ins w3 (some ⟨W0.heap.size,0,none⟩) (cnts zs 40)∧Ins w3 sa zs∧Byt w3 va es∧Below w.heap.size w w3∧w3.heap[P]?=some (.cells #[.slice va es.length vc,.int .i64 m] 40 (0,0))∧txtB zs 40=true∧U<2 ^ m):=⟨hoc.byt,HI.out.1.below hb3 nl,HI.out.2.1.below hb3 nl,HI.out.2.2.1.trans (hb3.mono HI.out.2.2.1.size),(hb3.block P hPl).trans HP0.out,HI.out.2.2.2⟩
 clear hoc hb3 HI HP0 hPl
 generalize W0.heap.size=cg at *
 have hn3:=SI.new w3 w3.heap.size nl
 have HW3:Hid (Below w3.heap.size w3 (w3.alloc (.cells #[.slice none 0 0,.int .i64 0] 40))):=bAw
 have hP1:=hn3.putPn zs.length 8 (by omega) (by omega) (by omega)
 clear hn3
 go_wp2_with fail
 refine hP1.mono ?_
 clear hP1
 rintro e w4 ⟨rfl,hsi,hb4,hk4⟩
 rw [Nat.zero_add,Nat.pow_zero,Nat.mul_one,Nat.zero_add] at hsi
 have hb34:Below w3.heap.size w3 w4:=HW3.out.trans hb4
 have hPR:P<w3.heap.size:=(Array.getElem?_eq_some_iff.1 HC3.out.2.2.2.2.1).1
 have HC4:Hid (Ins w4 (some ⟨cg,0,none⟩) (cnts zs 40)∧SI w4 w3.heap.size w3.heap.size 8 zs.length∧Below w3.heap.size w3 w4∧w4.heap[P]?=some (.cells #[.slice va es.length vc,.int .i64 m] 40 (0,0))):=⟨HC3.out.1.below hb34 nl,hsi,hb34,(hb34.block P (Array.getElem?_eq_some_iff.1 HC3.out.2.2.2.2.1).1).trans HC3.out.2.2.2.2.1⟩
 have hw3:w.heap.size≤w3.heap.size:=HC3.out.2.2.2.1.size
 have hRl:w3.heap.size<w4.heap.size:=by obtain ⟨_,h,_⟩:=hsi;exact (Array.getElem?_eq_some_iff.1 h).1
 clear hsi hb4 hk4 hb34 HW3
 have HR0:Hid (∃ R:Nat,R=w3.heap.size):=⟨_,rfl⟩
 obtain ⟨R,hR⟩:=HR0.out
 rw [←hR] at hPR hw3 hRl HC4 ⊢
 have HRE:Hid (w3.heap.size=R∧True):=⟨hR.symm,trivial⟩
 clear hR HR0
 rcases hmo with rfl | rfl
 ·have HL:=l2lens_any (some ⟨cg,0,none⟩) 40 (cnts zs 40) 12 w4 HC4.out.1 (cnts_lens HC3.out.2.2.2.2.2.1 hl1)
  rw [cnts_len] at HL
  go_wp2_with fail
  refine HL.mono ?_
  clear HL
  rintro e w5 ⟨⟨g,rfl,hog⟩,hb5⟩
  have hgl:=hog.lt
  have hgR:g≠R:=by omega
  have hR5:RowT w5 g (tL zs):=hog.rowT
  obtain ⟨hok1,hok2⟩:=tL_ok HC3.out.2.2.2.2.2.1 hl1
  have hle:=byL_le HC3.out.2.2.2.2.2.1 hl1 8 zs.length
  have HTL:Hid (lensB (tL zs)=true∧coded (tL zs) zs∧(tL zs).length=40∧(lpG (tL zs) 8 zs.length).1≤8+280∧hN (tL zs) zs zs.length≤12*zs.length):=⟨hok1,hok2,tL_len zs,hle.1,hle.2⟩
  have HB5:Hid (Below R w3 w5):=HC4.out.2.2.1.trans (hb5.mono (by omega))
  have hP2:=l2putLens_t g 40 (tL zs) R R 8 zs.length w5 hR5 hgR (HC4.out.2.1.stay hb5) (by omega) (by rw [tL_len];omega) (lensB_okH hok1).2.2
  rw [tL_len] at hP2
  clear hog hb5 hle hok1 hok2
  go_wp2_with fail
  refine hP2.mono ?_
  clear hP2
  rintro e w6 ⟨rfl,hs6,hb6,hk6⟩
  have hP3:=l2put_t g 40 (tL zs) sa sc zs R R (lpG (tL zs) 8 zs.length).1 (lpG (tL zs) 8 zs.length).2 w3 w6 hs6 (hR5.kp hk6 hgR) hgR HC3.out.2.1 HRE.out.1 (HB5.out.trans hb6) (by rw [tL_len];omega) (lensB_okH HTL.out.1).2.2 (by omega) (fun z hz=>by rw [tL_len];have:=HC3.out.2.2.2.2.2.1;simp only [txtB,decide_eq_true_eq] at this;exact this.2.2.2 z hz) (by have:=HTL.out.2.2.2.1;omega)
  rw [tL_len] at hP3
  have HB6:Hid (Below R w3 w6):=HB5.out.trans hb6
  clear hs6 hb6 hk6 HB5 hR5
  go_wp2_with fail
  refine hP3.mono ?_
  clear hP3
  rintro e w7 ⟨rfl,hs7,hb7,-⟩
  obtain ⟨xa,xc,x0,x1,hxb,hxV,hxl,-,z0,z1⟩:=hs7.parts
  have hQ7:=(hb7.block P hPR).trans HC3.out.2.2.2.2.1
  have q0:w7.cell? ⟨P,0,none⟩=some (.slice va es.length vc):=cellR (j:=0) hQ7 rfl
  have q1:w7.cell? ⟨P,1,none⟩=some (.int .i64 m):=cellR (j:=1) hQ7 rfl
  have hV3:=put_lt _ _ m U hxV HC3.out.2.2.2.2.2.2
  have HJ:=l1join_any xa xc _ va vc es _ _ m U w7 hxb (HC3.out.2.2.1.below hb7 (by have:=HRE.out.1;omega)) rfl HES.out.1.symm hxV HC3.out.2.2.2.2.2.2 (by have:=HTL.out.2.2.2;omega)
  have HB7:Hid (Below R w3 w7):=hb7
  have HNV:Hid (∃ N V,N=(lpG (tL zs) 8 zs.length).1+hN (tL zs) zs zs.length+m∧V=(lpG (tL zs) 8 zs.length).2+hV (tL zs) (crun (tL zs) (sbL (tL zs) 12)).2.2 zs zs.length*2 ^ (lpG (tL zs) 8 zs.length).1+U*2 ^ ((lpG (tL zs) 8 zs.length).1+hN (tL zs) zs zs.length)):=⟨_,_,rfl,rfl⟩
  obtain ⟨N,V,hNe,hVe⟩:=HNV.out
  rw [←hNe,←hVe] at HJ hV3
  have HNE:Hid (N=(enB 2 zs m U).1∧V=(enB 2 zs m U).2):=⟨hNe,hVe⟩
  have hN4:N≤2000:=by have:=HLE.out;rw [HNE.out.1];exact this
  clear hs7 hb7 hQ7 hxb hxV hNe hVe HNV
  go_wp2_with fail
  refine HJ.mono ?_
  clear HJ
  rintro e w8 ⟨ja,jc,rfl,hmj,hb8⟩
  have y0:=keep hb8 hxl x0
  have y1:=keep hb8 hxl x1
  have f0:w8.frozen? ⟨R,0,none⟩=false:=(hb8.frozen (p:=⟨R,0,none⟩) hxl).trans z0
  have f1:w8.frozen? ⟨R,1,none⟩=false:=(hb8.frozen (p:=⟨R,1,none⟩) hxl).trans z1
  have hb83:Below R w3 w8:=HB7.out.trans (hb8.mono (by omega))
  have HSE:Hid (SealE w w8 R ja jc N V):=SealE.mk' y0 y1 (by have:=hb8.size;omega) hmj hxl hV3 (by omega) (HC3.out.2.2.2.1.trans (hb83.mono hw3)) hw3
  have k0:=HSE.out.c0
  have k1:=HSE.out.c1
  have hb8s:=hb8.size
  clear hmj hb8 hb83 q0 q1 x0 x1 z0 z1 HB6 HB7 hV3
  have hw8:w.heap.size≤w8.heap.size:=by have:=hxl;have:=hb8s;omega
  go_wp2_with fail
  refine (HSE.out.sl _ _ _).mono ?_
  rintro e w9 ⟨a9,c9,rfl,hby9,hb9⟩
  have hsz:((w8.setCell ⟨R,0,none⟩ (.slice ja (enc N V).length jc)).setCell ⟨R,1,none⟩ (.int .i64 N)).heap.size=w8.heap.size:=by simp
  have hov:=(ovb_one ((w8.setCell ⟨R,0,none⟩ (.slice ja (enc N V).length jc)).setCell ⟨R,1,none⟩ (.int .i64 N)) w.heap.size 2 (by rw [hsz];omega) (by omega)).below hb9
  rw [hsz] at hov
  have hb9w:Below w.heap.size w w9:=(HSE.out.bel _ _ _).trans (hb9.mono (HSE.out.bel _ _ _).size)
  have hsq:sqB 2 ys=enc (N+1) (V+2 ^ N):=by rw [HEQ.out,HNE.out.1,HNE.out.2]
  rw [←hsq] at hby9
  have hle9:(enc (N+1) (V+2 ^ N)).length=(sqB 2 ys).length:=by rw [hsq]
  rw [hle9]
  have hlq:=HLQ.out
  have HBW:Hid (Below w.heap.size w w9):=hb9w
  have hz9:=hb9w.size
  clear hb9 hb9w hsz hsq hle9 f0 f1 y0 y1 k0 k1
  go_wp2_with (at_builtin;(refine wpList_append_byt rfl (.tmp 50) (.tmp 52) rfl w.heap.size _ [2] rfl hov a9 c9 (sqB 2 ys) rfl hby9 (by simp;omega) hz9 ?_);intro v4 w4 hown hgrow)
  have hF:=grown_pk HBW.out hw8 hown hgrow
  obtain ⟨⟨a4,c4,rfl,hm4⟩,hb4⟩:=hF
  have HFin:Hid (Mine w4 w.heap.size w4.heap.size a4 c4 (2 :: sqB 2 ys)∧Below w.heap.size w w4):=⟨hm4,hb4⟩
  clear hown hgrow hm4 hb4 hov hby9
  go_wp2
  go_ret
  exact ⟨⟨a4,c4,rfl,HFin.out.1⟩,HFin.out.2⟩
 ·have HL:=l3norm_any (some ⟨cg,0,none⟩) 40 (cnts zs 40) w4 HC4.out.1 (cnts_cnt (n:=40) HC3.out.2.2.2.2.2.1) (tS_roomy HC3.out.2.2.2.2.2.1 hl1)
  rw [cnts_len] at HL
  go_wp2_with fail
  refine HL.mono ?_
  clear HL
  rintro e w5 ⟨rfl,hog,hb5⟩
  have hgl:=hog.lt
  have hgR:w4.heap.size≠R:=by omega
  have hR5:RowT w5 w4.heap.size (tS zs):=hog.rowT
  obtain ⟨hok1,hok2,hok3⟩:=tS_ok HC3.out.2.2.2.2.2.1 hl1
  have hle:=byT_le HC3.out.2.2.2.2.2.1 hl1 8
  have hfs:=fpS_ok (tT_ok HC3.out.2.2.2.2.2.1 hl1) (ts:=zs) (fun k hk=>by rw [hok2];exact txtB_get HC3.out.2.2.2.2.2.1 k hk) zs.length nl (fun j hj=>hok3 _ (by omega))
  have hfV:fV (tT zs) zs<2 ^ fN (tT zs) zs:=put_lt _ _ 6 _ hfs.2.2 (by have:=hfs.1;omega)
  have hfN:fN (tT zs) zs≤6*zs.length+6:=by unfold fN;have:=hfs.2.1;omega
  have HTL:Hid (normB (tS zs)=true∧shd (tS zs) zs∧(tS zs).length=40∧nbG (tS zs) 8 40≤8+280∧fV (tT zs) zs<2 ^ fN (tT zs) zs∧fN (tT zs) zs≤6*zs.length+6):=⟨hok1,hok3,hok2,hle,hfV,hfN⟩
  have HB5:Hid (Below R w3 w5):=HC4.out.2.2.1.trans (hb5.mono (by omega))
  have hP2:=l3putNorm_t w4.heap.size 40 (tS zs) R R 8 zs.length w5 hR5 hgR (HC4.out.2.1.stay hb5) (by omega) hok1
  rw [hok2] at hP2
  clear hog hb5 hle hok1 hok2 hok3 hfs hfV hfN
  generalize w4.heap.size=g at *
  go_wp2_with fail
  refine hP2.mono ?_
  clear hP2
  rintro e w6 ⟨rfl,hs6,hb6,hk6⟩
  have hb36:Below R w3 w6:=HB5.out.trans hb6
  have hQ6:=(hb36.block P hPR).trans HC3.out.2.2.2.2.1
  have p1:w6.cell? ⟨P,1,none⟩=some (.int .i64 m):=cellR (j:=1) hQ6 rfl
  have hP3:=hs6.putPn m 9 (by omega) (by omega) (by have:=HTL.out.2.2.2.1;omega)
  have HB6:Hid (Below R w3 w6∧RowT w6 g (tS zs)):=⟨hb36,hR5.kp hk6 hgR⟩
  clear hs6 hb6 hk6 HB5 hR5 hb36 hQ6
  go_wp2_with fail
  refine hP3.mono ?_
  clear hP3
  rintro e w7 ⟨rfl,hs7,hb7',hk7⟩
  have hb7:Below R w3 w7:=HB6.out.1.trans hb7'
  have hR7:RowT w7 g (tS zs):=HB6.out.2.kp hk7 hgR
  obtain ⟨xa,xc,x0,x1,hxb,hxV,hxl,-,z0,z1⟩:=hs7.parts
  have hQ7:=(hb7.block P hPR).trans HC3.out.2.2.2.2.1
  have q0:w7.cell? ⟨P,0,none⟩=some (.slice va es.length vc):=cellR (j:=0) hQ7 rfl
  have q1:w7.cell? ⟨P,1,none⟩=some (.int .i64 m):=cellR (j:=1) hQ7 rfl
  have hV2:=put_lt _ _ m U hxV HC3.out.2.2.2.2.2.2
  have HJ:=l1join_any xa xc _ va vc es _ _ m U w7 hxb (HC3.out.2.2.1.below hb7 (by have:=HRE.out.1;omega)) rfl HES.out.1.symm hxV HC3.out.2.2.2.2.2.2 (by have:=HTL.out.2.2.2;omega)
  have HB7:Hid (Below R w3 w7∧RowT w7 g (tS zs)):=⟨hb7,hR7⟩
  have HNV:Hid (∃ N V,N=nbG (tS zs) 8 40+9+m∧V=vbG (tS zs) 8 zs.length 40+m*2 ^ nbG (tS zs) 8 40+U*2 ^ (nbG (tS zs) 8 40+9)):=⟨_,_,rfl,rfl⟩
  obtain ⟨N2,V2,hNe,hVe⟩:=HNV.out
  rw [←hNe,←hVe] at HJ hV2
  have HNE2:Hid (N2=nbG (tS zs) 8 40+9+m∧V2=vbG (tS zs) 8 zs.length 40+m*2 ^ nbG (tS zs) 8 40+U*2 ^ (nbG (tS zs) 8 40+9)∧V2<2 ^ N2):=⟨hNe,hVe,hV2⟩
  clear hs7 hb7 hb7' hk7 hQ7 hxb hxV hNe hVe HNV hV2 hR7 p1
  go_wp2_with fail
  refine HJ.mono ?_
  clear HJ
  rintro e w71 ⟨ja1,jc1,rfl,hmj1,hb71⟩
  have hR71:RowT w71 g (tS zs):=HB7.out.2.kp (Kp.below (R:=R) hb71) hgR
  have hb37:Below R w3 w71:=HB7.out.1.trans (hb71.mono (by omega))
  have HFP:=l3put_any (some ⟨g,0,none⟩) 40 (tS zs) sa sc zs (tT zs) w71 (hR71.ins (fun z hz=>by have:=(normB_sum HTL.out.1).2 z hz;omega)) (HC3.out.2.1.below hb37 (by have:=HRE.out.1;omega)) HTL.out.1 rfl (by omega) (fun k hk=>by rw [HTL.out.2.2.1];exact txtB_get HC3.out.2.2.2.2.2.1 k hk) HTL.out.2.1
  rw [HTL.out.2.2.1] at HFP
  have X0:=keep hb71 hxl x0
  have X1:=keep hb71 hxl x1
  have F0:w71.frozen? ⟨R,0,none⟩=false:=(hb71.frozen (p:=⟨R,0,none⟩) hxl).trans z0
  have F1:w71.frozen? ⟨R,1,none⟩=false:=(hb71.frozen (p:=⟨R,1,none⟩) hxl).trans z1
  have hxl7:R<w71.heap.size:=by have:=hb71.size;omega
  have H71:Hid (Below R w3 w71∧Byt w71 ja1 (enc N2 V2)):=⟨hb37,hmj1.byt⟩
  clear hmj1 hb71 hR71 hb37 q0 q1 x0 x1 z0 z1 HB6 HB7 hxl
  go_wp2_with fail
  refine HFP.mono ?_
  clear HFP
  rintro e w72 ⟨ja2,jc2,rfl,hmj2,hb72⟩
  have hV3:=put_lt _ _ (fN (tT zs) zs) (fV (tT zs) zs) HNE2.out.2.2 HTL.out.2.2.2.2.1
  have HJ:=l1join_any ja1 jc1 (enc N2 V2) ja2 jc2 (enc (fN (tT zs) zs) (fV (tT zs) zs)) N2 V2 (fN (tT zs) zs) (fV (tT zs) zs) w72 (H71.out.2.below hb72 nl) hmj2.byt rfl rfl HNE2.out.2.2 HTL.out.2.2.2.2.1 (by have:=HTL.out.2.2.2;have:=HNE2.out.1;omega)
  have HNV:Hid (∃ N V,N=N2+fN (tT zs) zs∧V=V2+fV (tT zs) zs*2 ^ N2):=⟨_,_,rfl,rfl⟩
  obtain ⟨N,V,hNe,hVe⟩:=HNV.out
  rw [←hNe,←hVe] at HJ hV3
  have HNE:Hid (N=(enB 3 zs m U).1∧V=(enB 3 zs m U).2):=⟨by rw [hNe,HNE2.out.1];rfl,by rw [hVe,HNE2.out.2.1,HNE2.out.1];rfl⟩
  have hN4:N≤2000:=by have:=HLE.out;rw [HNE.out.1];exact this
  have x0:=keep hb72 hxl7 X0
  have x1:=keep hb72 hxl7 X1
  have z0:w72.frozen? ⟨R,0,none⟩=false:=(hb72.frozen (p:=⟨R,0,none⟩) hxl7).trans F0
  have z1:w72.frozen? ⟨R,1,none⟩=false:=(hb72.frozen (p:=⟨R,1,none⟩) hxl7).trans F1
  have hxl:R<w72.heap.size:=by have:=hb72.size;omega
  have HB7:Hid (Below R w3 w72):=H71.out.1.trans (hb72.mono (by omega))
  clear hmj2 hb72 X0 X1 F0 F1 hNe hVe HNV H71 hxl7
  go_wp2_with fail
  refine HJ.mono ?_
  clear HJ
  rintro e w8 ⟨ja,jc,rfl,hmj,hb8⟩
  have y0:=keep hb8 hxl x0
  have y1:=keep hb8 hxl x1
  have f0:w8.frozen? ⟨R,0,none⟩=false:=(hb8.frozen (p:=⟨R,0,none⟩) hxl).trans z0
  have f1:w8.frozen? ⟨R,1,none⟩=false:=(hb8.frozen (p:=⟨R,1,none⟩) hxl).trans z1
  have hb83:Below R w3 w8:=HB7.out.trans (hb8.mono (by omega))
  have HSE:Hid (SealE w w8 R ja jc N V):=SealE.mk' y0 y1 (by have:=hb8.size;omega) hmj hxl hV3 (by omega) (HC3.out.2.2.2.1.trans (hb83.mono hw3)) hw3
  have k0:=HSE.out.c0
  have k1:=HSE.out.c1
  have hb8s:=hb8.size
  clear hmj hb8 hb83 x0 x1 z0 z1 HB7 hV3
  have hw8:w.heap.size≤w8.heap.size:=by have:=hxl;have:=hb8s;omega
  go_wp2_with fail
  refine (HSE.out.sl _ _ _).mono ?_
  rintro e w9 ⟨a9,c9,rfl,hby9,hb9⟩
  have hsz:((w8.setCell ⟨R,0,none⟩ (.slice ja (enc N V).length jc)).setCell ⟨R,1,none⟩ (.int .i64 N)).heap.size=w8.heap.size:=by simp
  have hov:=(ovb_one ((w8.setCell ⟨R,0,none⟩ (.slice ja (enc N V).length jc)).setCell ⟨R,1,none⟩ (.int .i64 N)) w.heap.size 3 (by rw [hsz];omega) (by omega)).below hb9
  rw [hsz] at hov
  have hb9w:Below w.heap.size w w9:=(HSE.out.bel _ _ _).trans (hb9.mono (HSE.out.bel _ _ _).size)
  have hsq:sqB 3 ys=enc (N+1) (V+2 ^ N):=by rw [HEQ.out,HNE.out.1,HNE.out.2]
  rw [←hsq] at hby9
  have hle9:(enc (N+1) (V+2 ^ N)).length=(sqB 3 ys).length:=by rw [hsq]
  rw [hle9]
  have hlq:=HLQ.out
  have HBW:Hid (Below w.heap.size w w9):=hb9w
  have hz9:=hb9w.size
  clear hb9 hb9w hsz hsq hle9 f0 f1 y0 y1 k0 k1
  go_wp2_with (at_builtin;(refine wpList_append_byt rfl (.tmp 50) (.tmp 52) rfl w.heap.size _ [3] rfl hov a9 c9 (sqB 3 ys) rfl hby9 (by simp;omega) hz9 ?_);intro v4 w4 hown hgrow)
  have hF:=grown_pk HBW.out hw8 hown hgrow
  obtain ⟨⟨a4,c4,rfl,hm4⟩,hb4⟩:=hF
  have HFin:Hid (Mine w4 w.heap.size w4.heap.size a4 c4 (3 :: sqB 3 ys)∧Below w.heap.size w w4):=⟨hm4,hb4⟩
  clear hown hgrow hm4 hb4 hov hby9
  go_wp2
  go_ret
  exact ⟨⟨a4,c4,rfl,HFin.out.1⟩,HFin.out.2⟩
end Go.Proofs.YtfeokafkhnbdiaaGreatDoor
