/- Lemmas on the way. -/
import Derived.Test.YtaibkchbkedjnaaGreatDoorUs2
import Derived.Test.YtaibkchbkedjnaaGreatDoorUs4
import Derived.Test.YtaibkchbkedjnaaGreatDoorSp3
import Derived.Laws.AppendOwn
import Derived.Test.YtaibkchbkedjnaaGreatDoorBit1
import Derived.Deep.AppendLies
import Derived.Deep.RegionHeld3
import Derived.Test.YtaibkchbkedjnaaGreatDoorOpen1
import Derived.Test.YtaibkchbkedjnaaGreatDoorLGetM
import Derived.Test.YtaibkchbkedjnaaGreatDoorPut1
set_option maxRecDepth 20000
set_option maxHeartbeats 16000000
namespace Go.Proofs.YtaibkchbkedjnaaGreatDoor
open Go.RowKit
set_option linter.unusedVariables false
theorem wpowN (k:Nat) (h:k≤12):wrap64 (2 ^ k)=((2 ^ k:Nat):Int):=by
 have h2:2 ^ k≤2 ^ 12:=Nat.pow_le_pow_right (by omega) h
 have e:((2:Int) ^ k)=((2 ^ k:Nat):Int):=by simp
 rw [e]
 generalize 2 ^ k=P at *
 exact IntWalk.wrap64_in _ (by omega)
theorem l3getNorm_any (a:Option Addr) (cap:Nat) (zs:List Int) (n V p s:Nat) (w:World) (hb:Byt w a zs) (hz:zs=enc n V) (hn:n≤4096) (hp:p≤n) (hs1:1≤s) (hs:s≤80) :
  Calls Tryz.prog 160 #[.agg #[.slice a zs.length cap,.int .i64 n],.int .i64 p,.int .i64 s] w fun e w'=>Below w.heap.size w w' ∧
   (gotN n V p s→e=.returned (.tuple #[.slice (some ⟨w.heap.size+1,0,none⟩) s s,.int .i64 ((gL V p s).2:Nat),.bool true])∧OwI w' w.heap.size (w.heap.size+1) s (gXs V p s)) ∧
   (¬gotN n V p s→∃ v y,e=.returned (.tuple #[v,.int .i64 y,.bool false])):=by
 obtain ⟨i0,hi,hz0,hz1,hz2⟩:=info_parts Tryz.infoI64
 have HZ:Hid (zs=enc n V):=hz
 have HXL:Hid _:=gXs_len V p s
 have HBW:Hid (Below w.heap.size w (w.alloc (Obj.cells #[.slice a zs.length cap,.int .i64 n] 155))):=bAw
 have q0:(w.alloc (Obj.cells #[.slice a zs.length cap,.int .i64 n] 155)).cell? ⟨w.heap.size,0,none⟩=some (.slice a zs.length cap):=by simp
 have q1:(w.alloc (Obj.cells #[.slice a zs.length cap,.int .i64 n] 155)).cell? ⟨w.heap.size,1,none⟩=some (.int .i64 n):=by simp
 have Q:Hid _:=(⟨q0,q1⟩:_∧_)
 clear hz q0 q1
 go_enter Tryz.func160,Tryz.ntmps160
 go_wp2_with (at_make;refine wpList_make_full _ rfl _ _ 29 rfl w.heap.size 3 i0 (.int .i64 0) 1 Tryz.underlying29 hi hz0 hz1 .i64 .i64 _ _ s rfl rfl rfl rfl (by rw [hz2];omega) (by unfold maxLen;omega) (by simp) ?_;intro w1 hown hgrow)
 have h0:OwI w1 w.heap.size (w.heap.size+1) s (part (gXs V p s) 0):=by
  rw [part_zero,gXs_len]
  refine ⟨?_,by intro z hz;simp at hz;omega⟩
  rw [made_zeroI] at hown
  simpa using hown
 have hb1:Below (w.heap.size+1) (w.alloc (Obj.cells #[.slice a zs.length cap,.int .i64 n] 155)) w1:=(Below.refl _ _).grown hgrow (by simp) (by intro k hk;cases hk)
 have H0:Hid (OwI w1 w.heap.size (w.heap.size+1) s (part (gXs V p s) 0)):=h0
 have HB1:Hid (Below (w.heap.size+1) (w.alloc (Obj.cells #[.slice a zs.length cap,.int .i64 n] 155)) w1):=hb1
 clear h0 hown hgrow hi hz0 hz1 hz2 hb1
 generalize w.alloc (Obj.cells #[.slice a zs.length cap,.int .i64 n] 155)=W0 at *
 go_loopw [1,10,11] (fun t l i wr=>∃ k:Nat,k≤s∧i=.int .i64 k∧Below (w.heap.size+1) W0 wr ∧
   ((good n V p k∧l=.int .i64 ((gL V p k).1:Nat)∧t=.int .i64 ((gL V p k).2:Nat)∧OwI wr w.heap.size (w.heap.size+1) s (part (gXs V p s) k)) ∨
    (∃ L y:Int,L<0∧l=.int .i64 L∧t=.int .i64 y∧¬gotN n V p s))) (fun _ _ i _=>s-(intOf i).toNat)
 case atStart=>exact ⟨0,Nat.zero_le _,rfl,HB1.out,.inl ⟨fun j hj=>by omega,rfl,rfl,H0.out⟩⟩
 case round=>
  clear H0 HB1
  obtain ⟨k,hk,rfl,hbel,⟨hgood,rfl,rfl,hown⟩ | ⟨L,y,hL,rfl,rfl,hno⟩⟩:=hrel
  ·have HGD:Hid (good n V p k):=hgood
   have HO:Hid (OwI wr w.heap.size (w.heap.size+1) s (part (gXs V p s) k)):=hown
   have hq:=good_pos hp hgood
   have hbw:Below w.heap.size w wr:=HBW.out.trans (hbel.mono (by omega))
   have HBB:Hid (Below w.heap.size w wr):=hbw
   have b0:=keep hbel (by omega) Q.out.1
   have b1:=keep hbel (by omega) Q.out.2
   clear hgood hown hbw
   have hl:=gL_le V p k
   by_cases c0:(gL V p k).1=0
   ·obtain ⟨r1,r2,r3,r4⟩:=gL_rest hp HGD.out c0 s hk
    have HY:Hid (gotN n V p s):=⟨r1,r2⟩
    have HR3:Hid ((gL V p s).2=(gL V p k).2):=r3
    have hall:=HO.out
    rw [part_rest (by rw [HXL.out];exact hk) (fun j h1 h2=>by rw [HXL.out] at h2;rw [gXs_get V p s j h2,r4 j h1 h2];rfl)] at hall
    have HA:Hid (OwI wr w.heap.size (w.heap.size+1) s (gXs V p s)):=hall
    rw [c0]
    clear r1 r2 r3 r4 hall HO HGD c0 hl
    generalize (gL V p k).2=q at *
    by_cases hlt:k<s
    ·go_wp2
     exact bodyPost_ret (v:=.tuple #[.slice (some ⟨w.heap.size+1,0,none⟩) s s,.int .i64 (q:Nat),.bool true]) (by simp [results,Tryz.results160,go_sem]) rfl ⟨HBB.out,fun _=>⟨by rw [HR3.out],HA.out⟩,fun h=>absurd HY.out h⟩
    ·go_wp2
     exact bodyPost_ret (v:=.tuple #[.slice (some ⟨w.heap.size+1,0,none⟩) s s,.int .i64 (q:Nat),.bool true]) (by simp [results,Tryz.results160,go_sem]) rfl ⟨HBB.out,fun _=>⟨by rw [HR3.out],HA.out⟩,fun h=>absurd HY.out h⟩
   ·by_cases hlt:k<s
    ·have hb7:=bl_le7 _ hl
     have HXG:Hid ((gXs V p s).getD k 0=(gX V p k:Nat)):=gXs_get V p s k hlt
     have HX:Hid (gX V p k=V / 2 ^ (gL V p k).2 % 2 ^ bl (gL V p k).1):=rfl
     have hx:=gX_lt V p k
     have HBS:Hid _:=bad_size (n:=n) (V:=V) (p:=p) hlt
     have HBX:Hid _:=bad_share (n:=n) (V:=V) (p:=p) hlt
     have HGS:Hid _:=@good_succ n V p k
     have HS1:Hid _:=gL_succ1 V p k
     have HS2:Hid _:=gL_succ2 V p k
     have HB8:Hid _:=bl_lt (gL V p k).1 (by omega)
     have HGE:Hid _:=fun j hj=>bl_ge (gL V p k).1 j (by omega) hj
     generalize (gL V p k).1=l at *
     generalize (gL V p k).2=q at *
     generalize gX V p k=x at *
     generalize bl l=m at *
     have hl0:(0:Int)<l:=by omega
     go_wp2
     go_loopw [12] (fun i wi=>∃ j:Nat,j≤m∧i=.int .i64 j∧wi=wr) (fun i _=>m-(intOf i).toNat)
     case atStart=>exact ⟨0,Nat.zero_le _,rfl,rfl⟩
     case round=>
      obtain ⟨j,hj,rfl,rfl⟩:=hrel
      by_cases hjl:j<m
      ·have hp2:wrap64 (2 ^ j)≤(l:Int):=by rw [wpowN j (by omega)];have:=HGE.out j hjl;omega
       go_wp2
       go_roundw
       case rel=>exact ⟨j+1,by omega,by go_num,by simp⟩
       case measure=>simp [intOf];omega
      ·have hjm:j=m:=by omega
       subst hjm
       have hp1:(l:Int)<wrap64 (2 ^ j):=by rw [wpowN _ (by omega)];have:=HB8.out;omega
       have hp2:decide (wrap64 (2 ^ j)≤(l:Int))=false:=by simpa using hp1
       clear hj hjl HGE HB8 hp1
       by_cases c1:q+j≤n
       ·go_wp2_with fail
        refine (l1get_any a cap zs n q j n V _ (hb.below HBB.out nl) HZ.out (by omega) (by omega) (by omega) (by omega) (by omega)).mono ?_
        rintro e w2 ⟨rfl,hb2⟩
        have hxe:V / 2 ^ ((q:Nat):Int).toNat % 2 ^ ((j:Nat):Int).toNat=x:=by rw [HX.out];simp
        rw [hxe]
        have HO2:Hid (OwI w2 w.heap.size (w.heap.size+1) s (part (gXs V p s) k)):=HO.out.below hb2 nl
        have hlt1:=HO.out.lt.2
        have hbel2:Below (w.heap.size+1) W0 w2:=hbel.trans (hb2.mono (by omega))
        have hpl:(part (gXs V p s) k).length=s:=by rw [part_len _ _ (by rw [HXL.out];omega)];exact HXL.out
        have hdst:=HO2.out.cell k (by omega)
        have hfz:=HO2.out.frozen k
        have R2:=HO2.out.store k ((gXs V p s).getD k 0) (by rw [HXG.out];omega)
        rw [part_set _ _ (by rw [HXL.out];exact hlt),HXG.out] at R2
        have HR2:Hid (OwI (w2.setCell ⟨w.heap.size+1,k,none⟩ (.int .i64 (x:Nat))) w.heap.size (w.heap.size+1) s (part (gXs V p s) (k+1))):=R2
        have HB2:Hid (Below (w.heap.size+1) W0 (w2.setCell ⟨w.heap.size+1,k,none⟩ (.int .i64 (x:Nat)))):=hbel2.setCell (p:=⟨w.heap.size+1,k,none⟩) nl (.int .i64 (x:Nat))
        clear R2 hpl HO2 hbel2 HX HXG hxe hbel b0 b1 HO hb2 hp2
        generalize (part (gXs V p s) k).getD k 0=old at *
        by_cases c2:x≤l
        ·have HG2:Hid (good n V p (k+1)):=HGS.out HGD.out c1 c2
         have E1:Hid ((l:Int)-(x:Nat)=(((gL V p (k+1)).1:Nat):Int)):=by have:=HS1.out;unfold Hid;omega
         have E2:Hid ((q:Int)+(j:Nat)=(((gL V p (k+1)).2:Nat):Int)):=by have:=HS2.out;unfold Hid;omega
         clear HS1 HS2 HBS HBX HGS
         go_wp2
         go_roundw
         case rel=>exact ⟨k+1,by omega,by go_num,by simpa using HB2.out,.inl ⟨HG2.out,by rw [E1.out],by rw [E2.out],by simpa using HR2.out⟩⟩
         case measure=>simp [intOf];omega
        ·have HN:Hid (¬gotN n V p s):=fun h=>HBX.out c2 h.1
         clear HS1 HS2 HBS HBX HGS
         go_wp2
         go_roundw
         case rel=>exact ⟨k+1,by omega,by go_num,by simpa using HB2.out,.inr ⟨(l:Int)-x,(q:Int)+j,by omega,rfl,rfl,HN.out⟩⟩
         case measure=>simp [intOf];omega
       ·have HN:Hid (¬gotN n V p s):=fun h=>HBS.out c1 h.1
        clear HS1 HS2 HBS HBX HGS HX HXG HO
        go_wp2
        exact bodyPost_ret (v:=.tuple #[.slice none 0 0,.int .i64 (-1),.bool false]) (by simp [results,Tryz.results160,go_sem]) rfl ⟨HBB.out,fun h=>absurd h HN.out,fun _=>⟨_,_,rfl⟩⟩
    ·have hks:k=s:=by omega
     subst hks
     have HN:Hid (¬gotN n V p k):=fun h=>c0 h.2
     generalize (gL V p k).1=l at *
     generalize (gL V p k).2=q at *
     have hne:((l:Int) == 0)=false:=by simp;omega
     clear HO HGD
     go_wp2
     exact bodyPost_ret (v:=.tuple #[.slice (some ⟨w.heap.size+1,0,none⟩) k k,.int .i64 (q:Nat),.bool false]) (by simp [results,Tryz.results160,go_sem]) rfl ⟨HBB.out,fun h=>absurd h HN.out,fun _=>⟨_,_,rfl⟩⟩
  ·have HN:Hid (¬gotN n V p s):=hno
   have HBB:Hid (Below w.heap.size w wr):=HBW.out.trans (hbel.mono (by omega))
   have hne:(L == 0)=false:=by simp;omega
   clear hno hbel
   by_cases hlt:k<s
   ·go_wp2
    exact bodyPost_ret (v:=.tuple #[.slice (some ⟨w.heap.size+1,0,none⟩) s s,.int .i64 y,.bool false]) (by simp [results,Tryz.results160,go_sem]) rfl ⟨HBB.out,fun h=>absurd h HN.out,fun _=>⟨_,_,rfl⟩⟩
   ·go_wp2
    exact bodyPost_ret (v:=.tuple #[.slice (some ⟨w.heap.size+1,0,none⟩) s s,.int .i64 y,.bool false]) (by simp [results,Tryz.results160,go_sem]) rfl ⟨HBB.out,fun h=>absurd h HN.out,fun _=>⟨_,_,rfl⟩⟩
theorem l3spread_any (a:Option Addr) (cap:Nat) (zs:List Int) (w:World) (hb:Ins w a zs) (hn:normB zs=true) :
  Calls Tryz.prog 196 #[.slice a zs.length cap] w fun e w'=>e=.returned (.slice (some ⟨w.heap.size,0,none⟩) 64 64)∧OwI w' w.heap.size w.heap.size 64 (pl (fl 0 zs) (plc 64))∧Below w.heap.size w w':=by
 obtain ⟨i0,hi,hz0,hz1,hz2⟩:=info_parts Tryz.infoI64
 have hbd:=normB_bnd hn
 have hall:(∀ z ∈ zs,0≤z)∧zs.sum=64:=by
  simp only [normB,decide_eq_true_eq] at hn
  exact ⟨fun z hz=>(hn.2.2.1 z hz).1,hn.2.2.2⟩
 have HN:Hid (normB zs=true):=hn
 have HA:Hid ((∀ z ∈ zs,0≤z)∧zs.sum=64):=hall
 have HB:Hid (Ins w a zs):=hb
 clear hn hall hb
 generalize hL:zs.length=n at *
 have HL:Hid (zs.length=n):=hL
 clear hL
 go_enter Tryz.func196,Tryz.ntmps196
 go_wp2_with (at_make;refine wpList_make_full _ rfl _ _ 29 rfl w.heap.size 3 i0 (.int .i64 0) 1 Tryz.underlying29 hi hz0 hz1 .i64 .i64 _ _ 64 rfl rfl rfl rfl (by rw [hz2];omega) (by unfold maxLen;omega) nl ?_;intro w1 hown hgrow)
 have HR1:Hid (OwI w1 w.heap.size w.heap.size 64 (pl (fl 0 zs) (plc 0))):=made_rowI hown
 have HB1:Hid (Below w.heap.size w w1):=(Below.refl _ _).grown hgrow nl (fun k hk=>by cases hk)
 clear hown hgrow
 generalize hG:w.heap.size=G at *
 have HG:Hid (w.heap.size=G):=hG
 clear hG
 go_loopw [4,5] (fun at_ i wr=>∃ k M:Nat,k≤n∧i=.int .i64 k∧M=(zs.take k).sum.toNat∧at_=.int .i64 ((43*M % 64:Nat):Int)∧OwI wr G G 64 (pl (fl 0 zs) (plc M))∧Below G w wr) (fun _ i _=>n-(intOf i).toNat)
 case atStart=>exact ⟨0,0,Nat.zero_le _,rfl,by simp,rfl,HR1.out,HB1.out⟩
 case round=>
  obtain ⟨k,M,hk,rfl,hM,rfl,hr,hbw⟩:=hrel
  by_cases hlt:k<n
  ·obtain ⟨b1,o1,rfl,hb1,hc1⟩:=HB.out.len_pos k (by rw [HL.out];exact hlt)
   have hs1:=hc1 k (by rw [HL.out];exact hlt)
   have hg:=normB_get HN.out k (by rw [HL.out];exact hlt)
   obtain ⟨z,hz⟩:=Int.eq_ofNat_of_zero_le hg.1
   have HZ:Hid (zs.getD k 0=(z:Int)):=hz
   have hsc:=hs1
   rw [hz] at hsc hg
   have HS:Hid (w.cell? ⟨b1,o1+k,none⟩=some (.int .i64 z)):=hsc
   have HBW:Hid (Below G w wr):=hbw
   have HRR:Hid (OwI wr G G 64 (pl (fl 0 zs) (plc M))):=hr
   have HM:Hid (M=(zs.take k).sum.toNat):=hM
   rw [HG.out] at hb1
   have hz64:z≤64:=by omega
   clear hs1 hsc hc1 hz hbw hr hM hg
   generalize hq:43*M % 64=q at *
   have HQ:Hid (43*M % 64=q):=hq
   clear hq
   go_wp2
   go_loopw [4,6] (fun at_ j wr=>∃ m M':Nat,m≤z∧j=.int .i64 m∧M'=M+m∧at_=.int .i64 ((43*M' % 64:Nat):Int)∧OwI wr G G 64 (pl (fl 0 zs) (plc M'))∧Below G w wr) (fun _ j _=>z-(intOf j).toNat)
   case atStart=>exact ⟨0,M,Nat.zero_le _,rfl,by simp,by rw [HQ.out],HRR.out,HBW.out⟩
   case round=>
    obtain ⟨m,M',hm,rfl,hM',rfl,hr,hbw⟩:=hrel
    have hcell:wr.cell? ⟨b1,o1+k,none⟩=some (.int .i64 z):=keep hbw hb1 HS.out
    by_cases hmz:m<z
    ·have HF:Hid ((fl 0 zs).getD M' 0=((k:Nat):Int)):=by
      have:=fl_at zs 0 k m HA.out.1 (by rw [HL.out];exact hlt) (by rw [HZ.out];omega)
      rw [←HM.out,←hM',Nat.zero_add] at this
      exact this
     obtain ⟨q',hq'⟩:∃ q',43*M' % 64=q':=⟨_,rfl⟩
     have hq64:q'<64:=by omega
     have HP:Hid ((pl (fl 0 zs) (plc M')).set q' (k:Int)=pl (fl 0 zs) (plc (M'+1))):=by
      unfold Hid
      rw [plc_succ,pl_snoc,plc_len,HF.out,hq']
     have hc2:=hr.cell q' (by rw [pl_len];exact hq64)
     have hf2:=hr.frozen q'
     have HRW:Hid (OwI (wr.setCell ⟨G,q',none⟩ (.int .i64 k)) G G 64 (pl (fl 0 zs) (plc (M'+1)))):=by
      have:=hr.store q' (k:Int) (by omega)
      rw [HP.out] at this
      exact this
     have HBW2:Hid (Below G w (wr.setCell ⟨G,q',none⟩ (.int .i64 k))):=hbw.setCell (by simp) _
     have HQ2:Hid ((q'+43) % 64=43*(M'+1) % 64):=by unfold Hid;omega
     have HM':Hid (M'=M+m):=hM'
     generalize (pl (fl 0 zs) (plc M')).getD q' 0=old at *
     rw [hq']
     clear hr hbw hM' hq' HP HF
     go_wp2
     go_roundw
     case rel=>exact ⟨m+1,M'+1,by omega,by go_num,by rw [HM'.out,Nat.add_assoc],by rw [←HQ2.out];simp;try omega,HRW.out,HBW2.out⟩
     case measure=>simp [intOf];omega
    ·have hme:m=z:=by omega
     subst hme
     have HRW:Hid (OwI wr G G 64 (pl (fl 0 zs) (plc M'))):=hr
     have HBW2:Hid (Below G w wr):=hbw
     have HMS:Hid (M'=(zs.take (k+1)).sum.toNat):=by
      unfold Hid
      have h1:=sum_succ zs k (by rw [HL.out];exact hlt)
      have h2:=sum_nn HA.out.1 k
      rw [h1,HZ.out,hM',HM.out]
      omega
     generalize hq':43*M' % 64=q' at *
     have HQ2:Hid (43*M' % 64=q'):=hq'
     clear hr hbw hM' hq'
     go_wp2
     go_roundw
     case rel=>exact ⟨k+1,M',by omega,by go_num,HMS.out,by rw [HQ2.out],HRW.out,HBW2.out⟩
     case measure=>simp [intOf];omega
  ·have hke:k=n:=by omega
   subst hke
   have HM64:Hid (M=64):=by
    unfold Hid
    have h1:=HL.out
    rw [hM,←h1,List.take_length,HA.out.2]
    rfl
   have HRR:Hid (OwI wr G G 64 (pl (fl 0 zs) (plc M))):=hr
   have HBW:Hid (Below G w wr):=hbw
   generalize hq:43*M % 64=q at *
   clear hr hbw hM hq
   go_wp2
   go_ret
   have h64:=HM64.out
   subst h64
   rw [HG.out]
   exact ⟨rfl,HRR.out,HBW.out⟩
theorem Tryz.infoCell :(Tryz.prog.info? 247).map (fun i=>(i.zero,i.size,i.bytes))=some (some (.agg #[.int .i64 0,.int .i64 0,.int .i64 0]),3,24):=by kernel_rfl
def CV (w:World) (B:Nat) (v:Value) (n:Nat) (fs:List Int):Prop:=w.ownsRow B 247 3 v n (fs.map (Value.int .i64))
theorem CV.only {S:Nat→Prop} {w w':World} {B n:Nat} {v:Value} {fs:List Int} (h:CV w B v n fs) (ho:Only S w w') (hs:∀ k,B≤k→¬S k):CV w' B v n fs:=by
 refine ⟨h.1,?_⟩
 rcases h.2 with h' | ⟨g,cap,cur,rfl,hg,hh,r⟩
 ·exact .inl h'
 ·exact .inr ⟨g,cap,cur,rfl,hg,(ho.block g (Array.getElem?_eq_some_iff.1 hh).1 (hs g hg)).trans hh,r⟩
theorem cv_weak {w:World} {B B' n:Nat} {v:Value} {fs:List Int} (h:CV w B v n fs) (hB:B'≤B):CV w B' v n fs:=by
 refine ⟨h.1,?_⟩
 rcases h.2 with h' | ⟨g,cap,cur,rfl,hg,r⟩
 ·exact .inl h'
 ·exact .inr ⟨g,cap,cur,rfl,by omega,r⟩
theorem cv_form {w:World} {B n:Nat} {v:Value} {xs:List Value} {e:TypeId} {sz:Nat} (h:w.ownsRow B e sz v n xs):∃ (a:Option Addr) (c:Nat),v=.slice a n c:=by
 rcases h.2 with ⟨rfl,rfl⟩ | ⟨g,cap,cur,rfl,_⟩
 ·exact ⟨none,0,rfl⟩
 ·exact ⟨_,cap,rfl⟩
theorem cv_blk {w:World} {B n:Nat} {v:Value} {xs:List Value} {e:TypeId} {sz b:Nat} (h:w.ownsRow B e sz v n xs) (hb:v.ownBlock=some b):B≤b:=by
 rcases h.2 with ⟨rfl,rfl⟩ | ⟨g,cap,cur,rfl,hg,_⟩
 ·simp [Value.ownBlock] at hb
 ·simp [Value.ownBlock] at hb
  omega
theorem l3table_any (a:Option Addr) (cap:Nat) (zs:List Int) (w:World) (hb:Ins w a zs) (hn:normB zs=true) :
  Calls Tryz.prog 182 #[.slice a zs.length cap] w fun e w'=>∃ a' c',e=.returned (.slice a' 64 c')∧CV w' w.heap.size (.slice a' 64 c') 64 (tb (pl (fl 0 zs) (plc 64)) zs 64)∧Below w.heap.size w w':=by
 obtain ⟨i0,hi,hz0,hz1,hz2⟩:=info_parts Tryz.infoI64
 obtain ⟨ic,hic,hc0,hc1,hc2⟩:=info_parts Tryz.infoCell
 have hbd:=normB_bnd hn
 have HSP:=l3spread_any a cap zs w hb hn
 have HSY:Hid (∀ p,p<64→∃ s:Nat,(pl (fl 0 zs) (plc 64)).getD p 0=(s:Int)∧s<zs.length∧0<zs.getD s 0∧zs.getD s 0≤64):=fun p hp=>sp_sym hn p hp
 have HSL:Hid ((pl (fl 0 zs) (plc 64)).length=64):=pl_len _ _
 generalize pl (fl 0 zs) (plc 64)=SP at *
 have HN:Hid (normB zs=true):=hn
 clear hn
 obtain ⟨b1,o1,rfl,hb1,hcz⟩:=hb.len_pos 0 (by omega)
 have HB:Hid (Ins w (some ⟨b1,o1,none⟩) zs):=hb
 have HCZ:Hid (∀ i,i<zs.length→w.cell? ⟨b1,o1+i,none⟩=some (.int .i64 (zs.getD i 0))):=hcz
 clear hb hcz
 generalize hL:zs.length=L at *
 have HL:Hid (zs.length=L):=hL
 clear hL
 go_enter Tryz.func182,Tryz.ntmps182
 go_wp2_with fail
 refine HSP.mono ?_
 clear HSP
 rintro e w1 ⟨rfl,ho1,hb1'⟩
 have HO1:Hid (OwI w1 w.heap.size w.heap.size 64 SP):=ho1
 have HB1:Hid (Below w.heap.size w w1):=hb1'
 have hs1:=ho1.lt.2
 clear ho1 hb1'
 generalize hG:w.heap.size=G at *
 have HG:Hid (w.heap.size=G):=hG
 clear hG
 have HN0:Hid ((w1.alloc (Obj.cells #[] 3)).ownsRow w1.heap.size 3 1 (.slice (some ⟨w1.heap.size,0,none⟩) 0 0) 0 []):=⟨rfl,.inr ⟨w1.heap.size,0,#[],rfl,Nat.le_refl _,heap_alloc_new _ _,Nat.le_refl _,Nat.zero_le _,rfl,rfl⟩⟩
 have HNW:Hid (∀ j u,(zs.map (Value.int .i64))[j]?=some u→(w1.alloc (Obj.cells #[] 3)).cell? ((⟨b1,o1,none⟩:Addr).add j)=some u):=by
  intro j u hu
  rw [List.getElem?_map] at hu
  cases hq:zs[j]? with
  | none=>rw [hq] at hu;simp at hu
  | some z=>
   rw [hq] at hu
   simp at hu
   subst hu
   have hj:j<zs.length:=(List.getElem?_eq_some_iff.1 hq).1
   have:=HCZ.out j (by rw [←HL.out];exact hj)
   rw [List.getD_eq_getElem?_getD,hq] at this
   have e:(⟨b1,o1,none⟩:Addr).add j=⟨b1,o1+j,none⟩:=by unfold Addr.add;split <;> simp_all
   rw [e]
   exact keepA _ (by omega) (keep HB1.out hb1 this)
 have HZM:Hid ((zs.map (Value.int .i64)).length=L*1):=by unfold Hid;rw [List.length_map,HL.out];omega
 go_wp2_with (at_builtin;(refine wpList_append_own _ rfl _ _ 29 rfl w1.heap.size 3 i0 (.int .i64 0) 1 8 Tryz.underlying29 hi hz0 hz1 hz2 rfl (by decide) _ 0 [] rfl HN0.out ⟨b1,o1,none⟩ L cap (zs.map (Value.int .i64)) rfl HZM.out HNW.out (by intro u hu;simp at hu;obtain ⟨z,_,rfl⟩:=hu;rfl) (by unfold maxLen;omega) (by omega) (by simp) ?_;intro v2 w2 hov2 hgr2 hnil2))
 have ho2:Only (fun k=>w1.heap.size≤k) w1 w2:=((Only.refl (fun k=>w1.heap.size≤k) w1).alloc _).grown hgr2 (fun k hk=>.inl (by cases hk;exact Nat.le_refl _))
 have hwz:G≤w1.heap.size:=by omega
 have HB2:Hid (Below G w w2):=HB1.out.trans (ho2.below hwz (fun k hk=>by omega))
 have HP2:Hid (OwI w2 G G 64 SP):=HO1.out.only ho2 (by omega)
 have hov2':w2.ownsRow w1.heap.size 3 1 v2 L (zs.map (Value.int .i64)):=by simpa using hov2
 obtain ⟨g2,c2,rfl,hg2⟩:∃ g2 c2,v2=.slice (some ⟨g2,0,none⟩) L c2∧w1.heap.size≤g2:=by
  rcases hov2'.2 with ⟨_,h0⟩ | ⟨g,cp,cur,rfl,hg,_⟩
  ·omega
  ·exact ⟨g,cp,rfl,hg⟩
 have HX2:Hid (OwI w2 w1.heap.size g2 c2 (nx SP zs 0)):=⟨by show w2.ownsRow _ _ _ (.slice _ zs.length c2) zs.length _;rw [HL.out];exact hov2',HB.out.1⟩
 have hg2s:=HX2.out.lt.2
 clear hov2 hov2' hgr2 hnil2 ho2 HO1 HB1 HN0 HNW HZM
 generalize hB3:w2.heap.size=B3 at *
 have HB3:Hid (w2.heap.size=B3):=hB3
 clear hB3
 generalize w1.heap.size=B2 at *
 go_loopw [5,6] (fun v i wr=>∃ (k:Nat) (av:Option Addr) (cv:Nat),k≤64∧i=.int .i64 k∧v=.slice av k cv∧CV wr B3 (.slice av k cv) k (tb SP zs k)∧OwI wr B2 g2 c2 (nx SP zs k)∧OwI wr G G 64 SP∧Below G w wr∧B3≤wr.heap.size) (fun _ i _=>64-(intOf i).toNat)
 case atStart=>exact ⟨0,none,0,Nat.zero_le _,rfl,rfl,⟨rfl,.inl ⟨rfl,rfl⟩⟩,HX2.out,HP2.out,HB2.out,by rw [HB3.out];exact Nat.le_refl _⟩
 case round=>
  obtain ⟨k,av,cv,hk,rfl,rfl,hcv,hnx,hsp,hbel,hsz⟩:=hrel
  by_cases hlt:k<64
  ·obtain ⟨s,hs,hsl,hzp,hz64⟩:=HSY.out k hlt
   have hbn:=nx_bnd SP zs k s
   obtain ⟨X,hX⟩:=Int.eq_ofNat_of_zero_le (show 0≤(nx SP zs k).getD s 0 by omega)
   have hX1:1≤X:=by omega
   have hX2:X≤127:=by omega
   have q0:=hsp.cell k (by rw [HSL.out];exact hlt)
   rw [hs] at q0
   have q1:=hnx.cell s (by rw [nx_len,HL.out];exact hsl)
   rw [hX] at q1
   have qf:=hnx.frozen s
   have HNX:Hid (OwI (wr.setCell ⟨g2,s,none⟩ (.int .i64 ((X:Int)+1))) B2 g2 c2 (nx SP zs (k+1))):=by
    have:=hnx.store s ((X:Int)+1) (by omega)
    rw [show nx SP zs (k+1)=(nx SP zs k).set s ((X:Int)+1) from by rw [nx,hs,Int.toNat_natCast,hX]]
    exact this
   have hon:Only (fun b=>b=g2) wr (wr.setCell ⟨g2,s,none⟩ (.int .i64 ((X:Int)+1))):=(Only.refl (fun b=>b=g2) wr).setCell (p:=⟨g2,s,none⟩) (.inl rfl) _
   have HCV:Hid (CV (wr.setCell ⟨g2,s,none⟩ (.int .i64 ((X:Int)+1))) B3 (.slice av k cv) k (tb SP zs k)):=hcv.only hon (fun b hb=>by omega)
   have HSPW:Hid (OwI (wr.setCell ⟨g2,s,none⟩ (.int .i64 ((X:Int)+1))) G G 64 SP):=hsp.only hon (by omega)
   have HBW:Hid (Below G w (wr.setCell ⟨g2,s,none⟩ (.int .i64 ((X:Int)+1)))):=hbel.trans (hon.below (by omega) (fun b hb=>by omega))
   have HSZ:Hid (B3≤(wr.setCell ⟨g2,s,none⟩ (.int .i64 ((X:Int)+1))).heap.size):=Nat.le_trans hsz hon.size
   have HTB:Hid (tb SP zs (k+1)=tb SP zs k++[(s:Int),((wd X:Nat):Int),((X*2 ^ wd X:Nat):Int)-64]):=by
    unfold Hid
    rw [tb,hs,Int.toNat_natCast,hX,Int.toNat_natCast]
   have HWD:=wd_rng hX1 hX2
   have HWL:Hid (∀ b,b<wd X→X*2 ^ b<64):=fun b hb=>wd_least hX1 hX2 hb
   have HWD':Hid _:=HWD
   have hw6:=HWD.1
   clear hcv hnx hsp hbel hsz hon hbn hX hs HWD hzp hz64
   generalize hW:wd X=W at *
   clear hW
   have hsL:s<L:=hsl
   go_wp2
   generalize wr.setCell ⟨g2,s,none⟩ (.int .i64 ((X:Int)+1))=wq at *
   go_loop [9] (fun b=>∃ j:Nat,j≤W∧b=.int .i64 j) (fun b=>W-(intOf b).toNat)
   case atStart=>exact ⟨0,Nat.zero_le _,rfl⟩
   case round=>
    obtain ⟨j,hj,rfl⟩:=hrel
    have hsh:=shl_in X j (by omega) (by omega)
    by_cases hjW:j<W
    ·have hp:wrap64 ((X:Int)*2 ^ j)<64:=by rw [hsh];have:=HWL.out j hjW;omega
     have hp2:decide (wrap64 ((X:Int)*2 ^ j)<64)=true:=by simpa using hp
     clear hsh hp
     go_wp2
     go_round
     case rel=>exact ⟨j+1,by omega,by go_num⟩
     case measure=>simp [intOf];omega
    ·have hjw:j=W:=by omega
     subst hjw
     obtain ⟨Y,hY⟩:∃ Y,X*2 ^ j=Y:=⟨_,rfl⟩
     rw [hY] at hsh
     have HW2:=HWD'.out.2
     rw [hY] at HW2
     have hy1:(64:Int)≤Y:=by omega
     have hy2:(Y:Int)<128:=by omega
     have hp2:decide (wrap64 ((X:Int)*2 ^ j)<64)=false:=by rw [hsh];simpa using hy1
     have HT1:Hid (tb SP zs (k+1)=tb SP zs k++[(s:Int),(j:Int),(Y:Int)-64]):=by
      have:=HTB.out
      rw [hY] at this
      exact this
     have HCA:Hid ((wq.alloc (Obj.cells #[.int .i64 s,.int .i64 j,.int .i64 ((Y:Int)-64)] 247)).ownsRow B3 247 3 (.slice av k cv) k ((tb SP zs k).map (Value.int .i64))):=HCV.out.only (S:=fun _=>False) ((Only.refl (fun _=>False) wq).alloc _) (by simp)
     have HNE:Hid (∀ (i:Nat) (u:Value),[Value.int .i64 (s:Int),.int .i64 (j:Int),.int .i64 ((Y:Int)-64)][i]?=some u→(wq.alloc (Obj.cells #[.int .i64 s,.int .i64 j,.int .i64 ((Y:Int)-64)] 247)).cell? ((⟨wq.heap.size,0,none⟩:Addr).add i)=some u):=by
      intro i u hu
      have e:(⟨wq.heap.size,0,none⟩:Addr).add i=⟨wq.heap.size,i,none⟩:=by unfold Addr.add;split <;> simp_all
      rw [e,cell_of_row _ _ i _ _ _ (heap_alloc_new wq _)]
      simpa using hu
     have hza:B3≤(wq.alloc (Obj.cells #[.int .i64 s,.int .i64 j,.int .i64 ((Y:Int)-64)] 247)).heap.size:=by have:=HSZ.out;simp;omega
     have HSH:Hid _:=hsh
     clear HTB HWL HWD' HW2 hY
     go_wp2_with (at_builtin;(refine wpList_append_own _ rfl _ _ 244 rfl B3 247 ic (.agg #[.int .i64 0,.int .i64 0,.int .i64 0]) 3 24 Tryz.underlying244 hic hc0 hc1 hc2 rfl (by decide) (.slice av k cv) k _ rfl HCA.out ⟨wq.heap.size,0,none⟩ 1 1 [Value.int .i64 (s:Int),.int .i64 (j:Int),.int .i64 ((Y:Int)-64)] rfl rfl HNE.out (by intro u hu;simp at hu;rcases hu with rfl | rfl | rfl <;> rfl) (by unfold maxLen;omega) (by omega) hza ?_;intro v5 w5 hov5 hgr5 hnil5;obtain ⟨a5,c5,rfl⟩:=cv_form hov5))
     have ho5:Only (fun b=>B3≤b) wq w5:=((Only.refl (fun b=>B3≤b) wq).alloc _).grown hgr5 (fun b hb=>.inl (cv_blk HCA.out hb))
     have hGB:G≤B3:=by omega
     go_roundw
     case rel=>
      refine ⟨k+1,a5,c5,by omega,by go_num,rfl,?_,HNX.out.only ho5 (by omega),HSPW.out.only ho5 (by omega),HBW.out.trans (ho5.below (by have:=HSZ.out;omega) (fun b hb=>by omega)),Nat.le_trans HSZ.out ho5.size⟩
      unfold CV
      rw [HT1.out,List.map_append]
      exact hov5
     case measure=>simp [intOf];omega
  ·have hke:k=64:=by omega
   subst hke
   have HCV:Hid _:=hcv
   have HBW:Hid _:=hbel
   clear hcv hnx hsp hbel
   go_wp2
   go_ret
   rw [HG.out]
   exact ⟨av,cv,rfl,cv_weak HCV.out (by omega),HBW.out⟩
def InR (w:World) (B U:Nat) (a:Option Addr) (fs:List Int):Prop:=
 (∀ z ∈ fs,-9223372036854775808≤z∧z≤9223372036854775807)∧(fs=[]∨∃ g,a=some ⟨g,0,none⟩∧B≤g∧g<U∧U≤w.heap.size∧∀ i,i<fs.length→w.cell? ⟨g,i,none⟩=some (.int .i64 (fs.getD i 0)))
theorem InR.byt {w:World} {B U:Nat} {a:Option Addr} {fs:List Int} (h:InR w B U a fs):Ins w a fs:=by
 refine ⟨h.1,fun hp=>?_⟩
 rcases h.2 with h' | ⟨g,rfl,h1,h2,h4,h3⟩
 ·rw [h'] at hp;simp at hp
 ·exact ⟨g,0,rfl,by omega,fun i hi=>by rw [Nat.zero_add];exact h3 i hi⟩
theorem CV.inR {w:World} {B n c:Nat} {a:Option Addr} {fs:List Int} (h:CV w B (.slice a n c) n fs) (hr:∀ z ∈ fs,-9223372036854775808≤z∧z≤9223372036854775807) (hl:fs.length=n*3):InR w B w.heap.size a fs:=by
 refine ⟨hr,?_⟩
 rcases h.2 with ⟨h',rfl⟩ | ⟨g,cap,cur,h',hg,r⟩
 ·left
  exact List.eq_nil_of_length_eq_zero (by omega)
 ·right
  simp at h'
  obtain ⟨rfl,rfl⟩:=h'
  have hlt:=(h.lt g rfl).2
  refine ⟨g,rfl,hg,hlt,Nat.le_refl _,fun i hi=>?_⟩
  rw [World.ownsRow.cellAt h i (by omega)]
  simp [List.getElem?_eq_getElem hi]
theorem OVI.onlyF {S:Nat→Prop} {w w':World} {B:Nat} {v:Value} {zs:List Int} (h:OVI w B v zs) (ho:Only S w w') (hs:∀ k,v.ownBlock=some k→¬S k):OVI w' B v zs:=by
 rcases h.1.2 with ⟨h1,h2⟩ | ⟨g,cap,cur,rfl,hg,hh,r⟩
 ·exact ⟨⟨h.1.1,.inl ⟨h1,h2⟩⟩,h.2⟩
 ·exact ⟨⟨h.1.1,.inr ⟨g,cap,cur,rfl,hg,(ho.block g (Array.getElem?_eq_some_iff.1 hh).1 (hs g rfl)).trans hh,r⟩⟩,h.2⟩
theorem OVI.weakF {w:World} {B B':Nat} {v:Value} {zs:List Int} (h:OVI w B v zs) (hB:B'≤B):OVI w B' v zs:=by
 rcases h.1.2 with ⟨h1,h2⟩ | ⟨g,cap,cur,rfl,hg,r⟩
 ·exact ⟨⟨h.1.1,.inl ⟨h1,h2⟩⟩,h.2⟩
 ·exact ⟨⟨h.1.1,.inr ⟨g,cap,cur,rfl,by omega,r⟩⟩,h.2⟩
theorem fgB_short {T:List Int} {v N n:Nat} (h:N<6):fgB T v N n=false:=by
 unfold fgB
 rw [decide_eq_false_iff_not]
 omega
theorem l3get_short (a:Option Addr) (ca:Nat) (ls:List Int) (x:Option Addr) (cx:Nat) (zs:List Int) (N v n:Nat) (T:List Int) (w:World) (ha:Ins w a ls) (hx:Byt w x zs) (hz:zs=enc N v) (hN:N≤4096) (hn:n≤300) (hnb:normB ls=true) (h6:N<6) (hTe:tb (pl (fl 0 ls) (plc 64)) ls 64=T) :
  Calls Tryz.prog 161 #[.slice a ls.length ca,.agg #[.slice x zs.length cx,.int .i64 N],.int .i64 n] w fun e w'=>
   e=.returned (.tuple #[.slice none 0 0,.bool false])∧Below w.heap.size w w':=by
 obtain ⟨i0,hi,hz0,hz1,hz2⟩:=info_parts Tryz.infoI64
 have HGD:Hid (Gd T ls.length):=by unfold Hid;rw [←hTe];exact gd_tb hnb
 have HTR:Hid (∀ z ∈ T,-9223372036854775808≤z∧z≤9223372036854775807):=by
  intro z hz
  rw [←hTe] at hz
  have:=tb_rng hnb 64 nl z hz
  omega
 have hbd:=normB_bnd hnb
 have hw:Below w.heap.size w (w.alloc (Obj.cells #[.slice x zs.length cx,.int .i64 N] 155)):=bAw
 have r0:(w.alloc (Obj.cells #[.slice x zs.length cx,.int .i64 N] 155)).cell? ⟨w.heap.size,0,none⟩=some (.slice x zs.length cx):=by simp
 have r1:(w.alloc (Obj.cells #[.slice x zs.length cx,.int .i64 N] 155)).cell? ⟨w.heap.size,1,none⟩=some (.int .i64 N):=by simp
 have HSZ:Hid (w.heap.size<(w.alloc (Obj.cells #[.slice x zs.length cx,.int .i64 N] 155)).heap.size):=by simp [Hid]
 have HLT:=l3table_any a ca ls _ (ha.below hw nl) hnb
 rw [hTe] at HLT
 have HZ:Hid (zs=enc N v∧True):=⟨hz,trivial⟩
 clear hz hTe hnb
 go_enter Tryz.func161,Tryz.ntmps161
 go_wp2_with fail
 generalize w.alloc (Obj.cells #[.slice x zs.length cx,.int .i64 N] 155)=W at *
 refine HLT.mono ?_
 clear HLT
 rintro e w1 ⟨aT,cT,rfl,hcv,hb1⟩
 have hinr:=hcv.inR HTR.out (HGD.out.len)
 have hbw1:Below w.heap.size w w1:=hw.trans (hb1.mono (Nat.le_of_lt HSZ.out))
 have HBW:Hid (Below w.heap.size w w1∧True):=⟨hbw1,trivial⟩
 have HX:Hid (Byt w1 x zs):=hx.below hbw1 nl
 have HTT:Hid (Ins w1 aT T):=hinr.byt
 have c0:=keep hb1 HSZ.out r0
 have c1:=keep hb1 HSZ.out r1
 have HR:Hid (w1.cell? ⟨w.heap.size,0,none⟩=some (.slice x zs.length cx)∧w1.cell? ⟨w.heap.size,1,none⟩=some (.int .i64 N)):=⟨c0,c1⟩
 have HS1:Hid (w.heap.size<w1.heap.size):=by have:=HSZ.out;have:=hb1.size;unfold Hid;omega
 have HTL:Hid (T.length=192∧True):=⟨HGD.out.len,trivial⟩
 clear hw r0 r1 HSZ hcv hinr hb1 hbw1 ha hx
 have h6i:(N:Int)<6:=by omega
 go_wp2
 exact bodyPost_ret (v:=.tuple #[.slice none 0 0,.bool false]) (by simp [results,Tryz.results161,go_sem]) rfl ⟨rfl,HBW.out.1⟩
theorem l3get_long (a:Option Addr) (ca:Nat) (ls:List Int) (x:Option Addr) (cx:Nat) (zs:List Int) (E N v n:Nat) (T:List Int) (w:World) (ha:Ins w a ls) (hx:Byt w x zs) (hz:zs=enc N v) (hN:N≤4096) (hn:n≤300) (hnb:normB ls=true) (hNE:N=E+6) (hTe:tb (pl (fl 0 ls) (plc 64)) ls 64=T) :
  Calls Tryz.prog 161 #[.slice a ls.length ca,.agg #[.slice x zs.length cx,.int .i64 N],.int .i64 n] w fun e w'=>
   ∃ u,e=.returned (.tuple #[u,.bool (decide (sg T v E n=some (0,0)))])∧(sg T v E n=some (0,0)→OVI w' w.heap.size u (so T v E n))∧Below w.heap.size w w':=by
 have HNE:Hid (N=E+6∧True):=⟨hNE,trivial⟩
 have h6N:(6:Int)≤(N:Int):=by omega
 clear hNE
 obtain ⟨i0,hi,hz0,hz1,hz2⟩:=info_parts Tryz.infoI64
 have HGD:Hid (Gd T ls.length):=by unfold Hid;rw [←hTe];exact gd_tb hnb
 have HTR:Hid (∀ z ∈ T,-9223372036854775808≤z∧z≤9223372036854775807):=by
  intro z hz
  rw [←hTe] at hz
  have:=tb_rng hnb 64 nl z hz
  omega
 have hbd:=normB_bnd hnb
 have hw:Below w.heap.size w (w.alloc (Obj.cells #[.slice x zs.length cx,.int .i64 N] 155)):=bAw
 have r0:(w.alloc (Obj.cells #[.slice x zs.length cx,.int .i64 N] 155)).cell? ⟨w.heap.size,0,none⟩=some (.slice x zs.length cx):=by simp
 have r1:(w.alloc (Obj.cells #[.slice x zs.length cx,.int .i64 N] 155)).cell? ⟨w.heap.size,1,none⟩=some (.int .i64 N):=by simp
 have HSZ:Hid (w.heap.size<(w.alloc (Obj.cells #[.slice x zs.length cx,.int .i64 N] 155)).heap.size):=by simp [Hid]
 have HLT:=l3table_any a ca ls _ (ha.below hw nl) hnb
 rw [hTe] at HLT
 have HZ:Hid (zs=enc N v∧True):=⟨hz,trivial⟩
 clear hz hTe hnb
 go_enter Tryz.func161,Tryz.ntmps161
 go_wp2_with fail
 generalize w.alloc (Obj.cells #[.slice x zs.length cx,.int .i64 N] 155)=W at *
 refine HLT.mono ?_
 clear HLT
 rintro e w1 ⟨aT,cT,rfl,hcv,hb1⟩
 have hinr:=hcv.inR HTR.out (HGD.out.len)
 have hbw1:Below w.heap.size w w1:=hw.trans (hb1.mono (Nat.le_of_lt HSZ.out))
 have HBW:Hid (Below w.heap.size w w1∧True):=⟨hbw1,trivial⟩
 have HX:Hid (Byt w1 x zs):=hx.below hbw1 nl
 have HTT:Hid (Ins w1 aT T):=hinr.byt
 have c0:=keep hb1 HSZ.out r0
 have c1:=keep hb1 HSZ.out r1
 have HR:Hid (w1.cell? ⟨w.heap.size,0,none⟩=some (.slice x zs.length cx)∧w1.cell? ⟨w.heap.size,1,none⟩=some (.int .i64 N)):=⟨c0,c1⟩
 have HS1:Hid (w.heap.size<w1.heap.size):=by have:=HSZ.out;have:=hb1.size;unfold Hid;omega
 have HTL:Hid (T.length=192∧True):=⟨HGD.out.len,trivial⟩
 clear hw r0 r1 HSZ hcv hinr hb1 hbw1 ha hx
 go_wp2_with fail
 have HG1:=l1get_any x cx zs (N:Int) ((N:Int)-6) 6 N v w1 HX.out HZ.out.1 (by omega) (by omega) (by omega) (by omega) (by omega)
 rw [show ((N:Int)-6).toNat=E from by have:=HNE.out.1;omega] at HG1
 simp only [show ((6:Int)).toNat=6 from rfl,show 2 ^ 6=64 from rfl] at HG1
 refine HG1.mono ?_
 clear HG1 c0 c1
 rintro e w2 ⟨rfl,hb2⟩
 have HBW2:Hid (Below w.heap.size w w2∧True):=⟨HBW.out.1.trans (hb2.mono (Nat.le_of_lt HS1.out)),trivial⟩
 have HX2:Hid (Byt w2 x zs):=HX.out.below hb2 nl
 have HT2:Hid (Ins w2 aT T):=HTT.out.below hb2 nl
 have HR2:Hid (w2.cell? ⟨w.heap.size,0,none⟩=some (.slice x zs.length cx)∧w2.cell? ⟨w.heap.size,1,none⟩=some (.int .i64 N)):=⟨keep hb2 HS1.out HR.out.1,keep hb2 HS1.out HR.out.2⟩
 have HS2:Hid (w.heap.size<w2.heap.size):=by have:=HS1.out;have:=hb2.size;unfold Hid;omega
 clear hb2 HBW HX HTT HR HS1
 generalize hB:w2.heap.size=B at *
 have HB:Hid (w2.heap.size=B∧True):=⟨hB,trivial⟩
 clear hB
 go_wp2
 go_loopw [9,10,11,12] (fun t s o i wr=>∃ (k st en:Nat),k≤n∧i=.int .i64 k∧t=.int .i64 en∧s=.int .i64 st∧sg T v E k=some (st,en)∧OVI wr B o (so T v E k)∧Below B w2 wr) (fun _ _ _ i _=>n-(intOf i).toNat)
 case atStart=>exact ⟨0,v / 2 ^ E % 64,E,Nat.zero_le _,rfl,by rw [show (N:Int)-6=(E:Int) from by have:=HNE.out.1;omega],rfl,rfl,OVI.nil _ _,Below.refl _ _⟩
 case round=>
  obtain ⟨k,st,en,hk,rfl,rfl,rfl,hsg,hov,hbel⟩:=hrel
  obtain ⟨au,cu,rfl⟩:=hov.form
  have HQL:Hid ((so T v E k).length=k∧True):=⟨so_len _ _ _ _,trivial⟩
  rw [HQL.out.1] at hov ⊢
  have HOV:Hid (OVI wr B (.slice au k cu) (so T v E k)):=hov
  have HSG:Hid (sg T v E k=some (st,en)∧True):=⟨hsg,trivial⟩
  obtain ⟨hst,hen⟩:=sg_rng HGD.out v E k st en hsg
  have henN:(en:Int)≤4096:=by have:=HNE.out.1;omega
  have henM:(en:Int)≤(N:Int):=by have:=HNE.out.1;omega
  have HBL:Hid (Below B w2 wr∧True):=⟨hbel,trivial⟩
  have HBB:Hid (Below w.heap.size w wr∧True):=⟨HBW2.out.1.trans (hbel.mono (Nat.le_of_lt HS2.out)),trivial⟩
  have HZW:Hid (B≤wr.heap.size):=by have:=hbel.size;have:=HB.out.1;unfold Hid;omega
  have HRW:Hid (wr.cell? ⟨w.heap.size,0,none⟩=some (.slice x zs.length cx)∧wr.cell? ⟨w.heap.size,1,none⟩=some (.int .i64 N)):=⟨keep hbel HS2.out HR2.out.1,keep hbel HS2.out HR2.out.2⟩
  have hTw:Ins wr aT T:=HT2.out.below hbel (by rw [HB.out.1];exact Nat.le_refl _)
  clear hov hsg hbel
  by_cases hlt:k<n
  ·obtain ⟨sy,b,z,e1,e2,e3,hsy,hb6,hz64⟩:=HGD.out.cell st hst
   obtain ⟨gT,oT,rfl,hgT,hcT⟩:=hTw.len_pos (st*3) (by rw [HTL.out.1];omega)
   have t0:=hcT (st*3) (by rw [HTL.out.1];omega)
   have t1:=hcT (st*3+1) (by rw [HTL.out.1];omega)
   have t2:=hcT (st*3+2) (by rw [HTL.out.1];omega)
   rw [e1] at t0
   rw [e2,←Nat.add_assoc] at t1
   rw [e3,←Nat.add_assoc] at t2
   have HCB:Hid (cB T st=b∧cZ T st=z∧T.getD (st*3) 0=(sy:Int)):=⟨by unfold cB;rw [e2,Int.toNat_natCast],by unfold cZ;rw [e3,Int.toNat_natCast],e1⟩
   have hpz:=Nat.pow_pos (n:=b) (show 0<2 by omega)
   have hz63:(z:Int)≤64:=by omega
   clear hcT e1 e2 e3 hTw hz64 hpz
   by_cases hbe:en<b
   ·have HNO:Hid (sg T v E n=none∧True):=⟨sg_none (sg_stop HSG.out.1 (by rw [HCB.out.1];exact hbe)) n (by omega),trivial⟩
    have hbi:(en:Int)<(b:Int):=by omega
    have HWA:Hid (Below w.heap.size w (wr.alloc (Obj.cells #[.int .i64 sy,.int .i64 b,.int .i64 z] 247))∧True):=⟨HBB.out.1.alloc (by have:=HZW.out;have:=HS2.out;omega) _,trivial⟩
    clear HOV HSG
    go_wp2
    exact bodyPost_ret (v:=.tuple #[.slice none 0 0,.bool false]) (by simp [results,Tryz.results161,go_sem]) rfl ⟨_,by rw [HNO.out.1];rfl,fun h=>by rw [HNO.out.1] at h;simp at h,HWA.out.1⟩
   ·have hbi:(b:Int)≤(en:Int):=by omega
    have HSG2:Hid (sg T v E (k+1)=some (z+v / 2 ^ (en-b) % 2 ^ b,en-b)∧so T v E (k+1)=so T v E k++[(sy:Int)]):=by
     have h1:=sg_step HSG.out.1 (show ¬en<cB T st by rw [HCB.out.1];exact hbe)
     have h2:=so_step HSG.out.1
     rw [HCB.out.1,HCB.out.2.1] at h1
     rw [HCB.out.2.2] at h2
     exact ⟨h1,h2⟩
    have HVB:Hid (v / 2 ^ (en-b) % 2 ^ b<64):=by
     have h1:v / 2 ^ (en-b) % 2 ^ b<2 ^ b:=Nat.mod_lt _ (Nat.pow_pos (by omega))
     have h2:2 ^ b≤2 ^ 6:=Nat.pow_le_pow_right (by omega) hb6
     unfold Hid
     omega
    have hu:(wr.alloc (Obj.cells #[.int .i64 sy,.int .i64 b,.int .i64 z] 247)).ownsRow B 3 1 (.slice au k cu) k ((so T v E k).map (Value.int .i64)):=by have:=(HOV.out.1).alloc (Obj.cells #[.int .i64 sy,.int .i64 b,.int .i64 z] 247);rw [HQL.out.1] at this;exact this
    have HWA:Hid (Below B w2 (wr.alloc (Obj.cells #[.int .i64 sy,.int .i64 b,.int .i64 z] 247))∧True):=⟨HBL.out.1.alloc HZW.out _,trivial⟩
    have HOA:Hid (OVI (wr.alloc (Obj.cells #[.int .i64 sy,.int .i64 b,.int .i64 z] 247)) B (.slice au k cu) (so T v E k)):=⟨by rw [HQL.out.1];exact hu,HOV.out.2⟩
    have HLB:Hid (∀ g,(Value.slice au k cu).ownBlock=some g→B≤g∧g<wr.heap.size):=fun g hg=>HOV.out.1.lt g hg
    have d0:(wr.alloc (Obj.cells #[.int .i64 sy,.int .i64 b,.int .i64 z] 247)).cell? ⟨wr.heap.size,0,none⟩=some (.int .i64 sy):=by simp
    have d1:(wr.alloc (Obj.cells #[.int .i64 sy,.int .i64 b,.int .i64 z] 247)).cell? ⟨wr.heap.size,1,none⟩=some (.int .i64 b):=by simp
    have d2:(wr.alloc (Obj.cells #[.int .i64 sy,.int .i64 b,.int .i64 z] 247)).cell? ⟨wr.heap.size,2,none⟩=some (.int .i64 z):=by simp
    have HD:Hid (_∧_∧_):=⟨d0,d1,d2⟩
    have HSA:Hid ((wr.alloc (Obj.cells #[.int .i64 sy,.int .i64 b,.int .i64 z] 247)).heap.size=wr.heap.size+1∧True):=⟨by simp,trivial⟩
    have hsy80:(sy:Int)≤80:=by omega
    have HN3:Hid (k+1≤300):=by unfold Hid;omega
    clear HOV HSG
    go_wp2_with (at_builtin;(refine wpList_append_lies _ rfl (.tmp 41) (.tmp 44) 29 rfl B 3 i0 (.int .i64 0) 1 8 Tryz.underlying29 hi hz0 hz1 hz2 rfl (by decide) (.slice au k cu) k ((so T v E k).map (Value.int .i64)) rfl (hu.alloc _) ⟨wr.heap.size+1,0,none⟩ 1 1 [.int .i64 sy] rfl rfl (by intro j y hj;match j,hj with | 0,hj=>(simp at hj;subst hj;simp [Addr.add])) (by intro y hy;simp at hy;subst hy;rfl) (by have:=HN3.out;omega) (by have:=HN3.out;unfold maxLen;omega) (by have:=HN3.out;omega) (by have:=HZW.out;simp;omega) _ rfl ?_);intro g cap1 w4 hown hgrow hat hlt1)
    have hOn:Only (fun j=>(Value.slice au k cu).ownBlock=some j) (wr.alloc (Obj.cells #[.int .i64 sy,.int .i64 b,.int .i64 z] 247)) w4:=Only.grown (Only.alloc (Only.refl _ _) _) hgrow (fun j hj=>.inl hj)
    have HC:Hid (w4.cell? ⟨wr.heap.size,2,none⟩=some (.int .i64 z)∧w4.cell? ⟨w.heap.size,0,none⟩=some (.slice x zs.length cx)∧w4.cell? ⟨w.heap.size,1,none⟩=some (.int .i64 N)∧w4.cell? ⟨wr.heap.size,1,none⟩=some (.int .i64 b)):=by
     have hw1:w.heap.size<wr.heap.size:=by have:=HZW.out;have:=HS2.out;omega
     have hs1:=HSA.out.1
     refine ⟨hOn.cell (by omega) (fun hg=>by have:=HLB.out _ hg;omega) HD.out.2.2,hOn.cell (by omega) (fun hg=>by have:=HLB.out _ hg;have:=HS2.out;omega) (keepA _ hw1 HRW.out.1),hOn.cell (by omega) (fun hg=>by have:=HLB.out _ hg;have:=HS2.out;omega) (keepA _ hw1 HRW.out.2),hOn.cell (by omega) (fun hg=>by have:=HLB.out _ hg;omega) HD.out.2.1⟩
    have HOV4:Hid (OVI w4 B (.slice (some ⟨g,0,none⟩) (k+1) cap1) (so T v E (k+1))):=by
     unfold Hid
     rw [HSG2.out.2]
     exact OVI.app HQL.out.1 HOA.out.2 (by omega) hown
    have HB4:Hid (Below B w2 w4∧True):=⟨app_below HWA.out.1 (by have:=HZW.out;have:=HSA.out.1;omega) HOA.out hgrow,trivial⟩
    have HXW:Hid (Byt w4 x zs):=HX2.out.below HB4.out.1 (by rw [HB.out.1];exact Nat.le_refl _)
    have HZ4:Hid (B≤w4.heap.size):=by have:=HB4.out.1.size;have:=HB.out.1;unfold Hid;omega
    have HLT4:Hid (wr.heap.size<w4.heap.size∧w.heap.size<w4.heap.size):=by have h1:=hOn.size;have h2:=HSA.out.1;have:=HZW.out;have:=HS2.out;exact ⟨by omega,by omega⟩
    clear hown hgrow hat hlt1 HOA HWA hu hOn d0 d1 d2 HD HSA HLB t0 t1 t2 HRW HBL HBB
    generalize wr.heap.size=cb at *
    obtain ⟨Xn,hXn⟩:∃ Xn,Xn=v / 2 ^ (en-b) % 2 ^ b:=⟨_,rfl⟩
    rw [←hXn] at HSG2 HVB
    have HG2:∀ W,Byt W x zs→Calls Tryz.prog 156 #[.agg #[.slice x zs.length cx,.int .i64 (N:Int)],.int .i64 ((en:Int)-(b:Int)),.int .i64 (b:Int)] W fun e w'=>e=.returned (.int .i64 (Xn:Int))∧Below W.heap.size W w':=by
     intro W hW
     have:=l1get_any x cx zs (N:Int) ((en:Int)-(b:Int)) (b:Int) N v W hW HZ.out.1 (by omega) (by omega) (by omega) (by omega) (by omega)
     rw [show ((en:Int)-(b:Int)).toNat=en-b from by omega,Int.toNat_natCast,←hXn] at this
     exact this
    have hX64:(Xn:Int)<64:=by have:=HVB.out;omega
    clear hXn HVB
    go_region_held3 (fun W=>W.cell? ⟨cb,2,none⟩=some (.int .i64 z)∧W.cell? ⟨w.heap.size,0,none⟩=some (.slice x zs.length cx)∧W.cell? ⟨w.heap.size,1,none⟩=some (.int .i64 N)∧W.cell? ⟨cb,1,none⟩=some (.int .i64 b))
     (first | exact HC.out | exact HC8.out)
     (first
      | (go_at_call 156;refine (HG2 _ (by exact HXW.out)).mono ?_;rintro e w8 ⟨rfl,hb8'⟩;have HB8:Hid (Below B w2 w8∧True):=⟨HB4.out.1.trans ((Below.drewS hb8').mono HZ4.out),trivial⟩;have HO8:Hid (OVI w8 B (.slice (some ⟨g,0,none⟩) (k+1) cap1) (so T v E (k+1))):=HOV4.out.onlyF (Only.ofBelow (S:=fun _=>False) (Below.drewS hb8') nl) (by simp);have HC8:Hid (w8.cell? ⟨cb,2,none⟩=some (.int .i64 z)∧w8.cell? ⟨w.heap.size,0,none⟩=some (.slice x zs.length cx)∧w8.cell? ⟨w.heap.size,1,none⟩=some (.int .i64 N)∧w8.cell? ⟨cb,1,none⟩=some (.int .i64 b)):=⟨keep (Below.drewS hb8') HLT4.out.1 HC.out.1,keep (Below.drewS hb8') HLT4.out.2 HC.out.2.1,keep (Below.drewS hb8') HLT4.out.2 HC.out.2.2.1,keep (Below.drewS hb8') HLT4.out.1 HC.out.2.2.2⟩))
    all_goals
     clear HC HC8
     go_wp2
     go_roundw
     case rel=>
      exact ⟨k+1,z+Xn,en-b,by omega,by go_num,by rw [show (en:Int)-(b:Int)=((en-b:Nat):Int) from by omega],(by have hwz:IntKind.i64.wrap ((z:Int)+(Xn:Int))=((z+Xn:Nat):Int):=(by rw [IntWalk.i64_in _ (by omega)];omega);exact congrArg (Value.int IntKind.i64) hwz),HSG2.out.1,HO8.out,HB8.out.1⟩
     case measure=>simp [intOf];omega
  ·have hkn:k=n:=by omega
   subst hkn
   have HOF:Hid (OVI wr w.heap.size (.slice au k cu) (so T v E k)):=HOV.out.weakF (Nat.le_of_lt HS2.out)
   clear hTw HOV HRW HBL
   by_cases h1:en=0
   ·by_cases h2:st=0
    ·have HD:Hid (sg T v E k=some (0,0)∧True):=⟨by rw [HSG.out.1,h1,h2],trivial⟩
     subst h1 h2
     clear HSG
     go_wp2
     exact bodyPost_ret (v:=.tuple #[.slice au k cu,.bool true]) (by simp [results,Tryz.results161,go_sem]) rfl ⟨_,by rw [decide_eq_true HD.out.1],fun _=>HOF.out,HBB.out.1⟩
    ·have HD:Hid (¬sg T v E k=some (0,0)):=by unfold Hid;rw [HSG.out.1];simp;omega
     have h2i:((st:Int) == 0)=false:=by simp;omega
     subst h1
     clear HSG
     go_wp2
     exact bodyPost_ret (v:=.tuple #[.slice au k cu,.bool false]) (by simp [results,Tryz.results161,go_sem]) rfl ⟨_,by rw [decide_eq_false HD.out],fun h=>absurd h HD.out,HBB.out.1⟩
   ·have HD:Hid (¬sg T v E k=some (0,0)):=by unfold Hid;rw [HSG.out.1];simp;omega
    have h2i:((en:Int) == 0)=false:=by simp;omega
    clear HSG
    go_wp2
    exact bodyPost_ret (v:=.tuple #[.slice au k cu,.bool false]) (by simp [results,Tryz.results161,go_sem]) rfl ⟨_,by rw [decide_eq_false HD.out],fun h=>absurd h HD.out,HBB.out.1⟩
theorem l3get_any (a:Option Addr) (ca:Nat) (ls:List Int) (x:Option Addr) (cx:Nat) (zs:List Int) (N v n:Nat) (T:List Int) (w:World) (ha:Ins w a ls) (hx:Byt w x zs) (hz:zs=enc N v) (hN:N≤4096) (hn:n≤300) (hnb:normB ls=true) (hTe:tb (pl (fl 0 ls) (plc 64)) ls 64=T) :
  Calls Tryz.prog 161 #[.slice a ls.length ca,.agg #[.slice x zs.length cx,.int .i64 N],.int .i64 n] w fun e w'=>
   ∃ u,e=.returned (.tuple #[u,.bool (fgB T v N n)])∧(fgB T v N n=true→OVI w' w.heap.size u (so T v (N-6) n))∧Below w.heap.size w w':=by
 by_cases h6:N<6
 ·refine (l3get_short a ca ls x cx zs N v n T w ha hx hz hN hn hnb h6 hTe).mono ?_
  rintro e w' ⟨rfl,hb⟩
  exact ⟨_,by rw [fgB_short h6],fun h=>by rw [fgB_short h6] at h;simp at h,hb⟩
 ·obtain ⟨E,rfl⟩:∃ E,N=E+6:=⟨N-6,by omega⟩
  refine (l3get_long a ca ls x cx zs E (E+6) v n T w ha hx hz hN hn hnb rfl hTe).mono ?_
  rintro e w' ⟨u,rfl,h1,hb⟩
  have e1:fgB T v (E+6) n=decide (sg T v E n=some (0,0)):=by unfold fgB;simp
  rw [Nat.add_sub_cancel,e1]
  exact ⟨u,rfl,fun h=>h1 (by simpa using h),hb⟩
theorem val_encB (M V:Nat) (h:V<2 ^ M):val (enc M V)=V:=by
 unfold enc
 rw [val_encL]
 refine Nat.mod_eq_of_lt (Nat.lt_of_lt_of_le h ?_)
 rw [show 256=2 ^ 8 from rfl,←Nat.pow_mul]
 exact Nat.pow_le_pow_right (by omega) (by omega)
theorem okB_encB (M V:Nat) (hM:M≤4096) (h:V<2 ^ M):okB (M:Int) (enc M V)=true:=by
 have hl:=enc_len M V
 by_cases h8:M % 8=0
 ·exact okB_full (by omega) (by omega) (by rw [hl];omega) (by omega)
 ·rw [okB_last (by omega) (by omega) (by rw [hl];omega) (by omega)]
  have h1:=enc_last M V h h8
  have h2:=enc_top M V h
  rw [show (enc M V).length-1=M / 8 from by omega,h1,show ((M:Int) % 8).toNat=M % 8 from by omega]
  have e:(((V / 256 ^ (M / 8):Nat):Int) / 2 ^ (M % 8))=((V / 256 ^ (M / 8) / 2 ^ (M % 8):Nat):Int):=by simp
  rw [e,Nat.div_eq_of_lt h2]
  rfl
set_option linter.unusedSimpArgs false
theorem bt_one (V p j:Nat):bt V p (j+1)=bt V p j+(V / 2 ^ (p+j) % 2)*2 ^ j:=by
 rw [bt_split,Nat.mul_comm]
 rfl
theorem ownV_ge {w:World} {B k:Nat} {v:Value} {zs:List Int} (h:OwnV w B v zs) (hk:v.ownBlock=some k):B≤k∧k<w.heap.size:=h.1.lt k hk
theorem ownV_below {w w':World} {B:Nat} {v:Value} {zs:List Int} (h:OwnV w B v zs) (hb:Below w.heap.size w w'):OwnV w' B v zs:=by
 rcases h.1.2 with ⟨h1,h2⟩ | ⟨g,cap,cur,rfl,r⟩
 ·exact ⟨⟨h.1.1,.inl ⟨h1,h2⟩⟩,h.2⟩
 ·exact Own.below (g:=g) (cap:=cap) h hb nl
structure StayP (w wr:World) (a:Option Addr) (K ca:Nat) (N:Int) (B:Nat):Prop where
 bel:Below w.heap.size w wr
 a0:wr.cell? ⟨w.heap.size,0,none⟩=some (.slice a K ca)
 a1:wr.cell? ⟨w.heap.size,1,none⟩=some (.int .i64 N)
 r0:wr.cell? ⟨w.heap.size+1,0,none⟩=some (.slice none 0 0)
 r1:wr.cell? ⟨w.heap.size+1,1,none⟩=some (.int .i64 0)
 f0:wr.frozen? ⟨w.heap.size+1,0,none⟩=false
 f1:wr.frozen? ⟨w.heap.size+1,1,none⟩=false
 hB:B=w.heap.size+1+1
 sz:B≤wr.heap.size
theorem StayP.only {S:Nat→Prop} {w wr w':World} {a:Option Addr} {K ca:Nat} {N:Int} {B:Nat} (h:StayP w wr a K ca N B) (ho:Only S wr w') (hs:∀ k,S k→B≤k):StayP w w' a K ca N B:=by
 have hB:=h.hB;have hz:=h.sz;have hs':=ho.size
 have n:∀ k,k<B→¬S k:=fun k hk hS=>by have:=hs k hS;omega
 exact ⟨h.bel.trans (ho.below (by omega) (fun k hk=>by have:=hs k hk;omega)),ho.cell (by omega) (n _ (by omega)) h.a0,ho.cell (by omega) (n _ (by omega)) h.a1,ho.cell (by omega) (n _ (by omega)) h.r0,ho.cell (by omega) (n _ (by omega)) h.r1,
  (World.frozen?_of_block (ho.block (w.heap.size+1) (by omega) (n _ (by omega)))).trans h.f0,(World.frozen?_of_block (ho.block (w.heap.size+1) (by omega) (n _ (by omega)))).trans h.f1,h.hB,by omega⟩
theorem StayP.step {w wr w':World} {a:Option Addr} {K ca:Nat} {N:Int} {B:Nat} (h:StayP w wr a K ca N B) (hb:Below wr.heap.size wr w'):StayP w w' a K ca N B:=
 h.only (Only.ofBelow (S:=fun _=>False) hb nl) (by simp)
theorem StayP.start (w:World) (a:Option Addr) (K ca:Nat) (N:Int):StayP w ((w.alloc (Obj.cells #[.slice a K ca,.int .i64 N] 155)).alloc (Obj.cells #[.slice none 0 0,.int .i64 0] 155)) a K ca N (w.heap.size+1+1):=by
 have hn:=heap_alloc_new (w.alloc (Obj.cells #[.slice a K ca,.int .i64 N] 155)) (Obj.cells #[.slice none 0 0,.int .i64 0] 155)
 simp only [World.size_alloc] at hn
 refine ⟨((Below.refl _ _).alloc nl _).alloc (by simp) _,keepA _ (by simp) (by simp),keepA _ (by simp) (by simp),cellR (j:=0) hn rfl,cellR (j:=1) hn rfl,frozenR hn,frozenR hn,rfl,by simp⟩
theorem l5part_any (a:Option Addr) (cap:Nat) (zs:List Int) (n V p q:Nat) (w:World) (hb:Byt w a zs) (hz:zs=enc n V) (hn:n≤4096) (hpq:p≤q) (hq:q≤n) :
  Calls Tryz.prog 159 #[.agg #[.slice a zs.length cap,.int .i64 n],.int .i64 p,.int .i64 q] w fun e w'=>
   ∃ a' cp,e=.returned (.agg #[.slice a' (enc (q-p) (bt V p (q-p))).length cp,.int .i64 ((q-p:Nat):Int)])∧Mine w' w.heap.size w'.heap.size a' cp (enc (q-p) (bt V p (q-p)))∧Below w.heap.size w w':=by
 obtain ⟨d,hd⟩:∃ d,d=q-p:=⟨q-p,rfl⟩
 rw [←hd]
 have HD:Hid (q=p+d):=by simp [Hid];omega
 clear hd
 have HZ:Hid (zs=enc n V∧zs.length=(n+7) / 8):=⟨hz,by rw [hz,enc_len]⟩
 clear hz
 have hst:=StayP.start w a zs.length cap (n:Int)
 obtain ⟨B,hB⟩:∃ B,B=w.heap.size+1+1:=⟨_,rfl⟩
 rw [←hB] at hst
 have HST:Hid _:=hst.step ((Below.refl _ _).alloc nl (Obj.cells #[.slice none 0 0,.int .i64 0] 155))
 have HN:Hid _:=heap_alloc_new ((w.alloc (Obj.cells #[.slice a zs.length cap,.int .i64 n] 155)).alloc (Obj.cells #[.slice none 0 0,.int .i64 0] 155)) (Obj.cells #[.slice none 0 0,.int .i64 0] 155)
 have HBQ:Hid (B=w.heap.size+1+1):=hB
 clear hst hB
 go_enter Tryz.func159,Tryz.ntmps159
 go_wp2
 rw [←HBQ.out]
 go_loopw [8] (fun i wr=>∃ (k:Nat) (u:Value),p+k≤q∧i=.int .i64 ((p+k:Nat):Int)∧wr.heap[B]?=some (.cells #[u,.int .i64 (k:Nat)] 155 (0,0))∧OwnV wr B u (enc k (bt V p k))∧StayP w wr a zs.length cap (n:Int) B) (fun i _=>q-(intOf i).toNat)
 case atStart=>
  refine ⟨0,.slice none 0 0,hpq,rfl,?_,?_,HST.out⟩
  ·have:=HN.out
   simp only [World.size_alloc] at this
   rw [←HBQ.out] at this
   exact this
  ·rw [bt_zero]
   refine ⟨⟨?_,.inl ⟨rfl,rfl⟩⟩,by simp [enc,encL]⟩
   rfl
 case round=>
  obtain ⟨k,u,hk,rfl,hRr,hur,hst⟩:=hrel
  have hRl:B<wr.heap.size:=(Array.getElem?_eq_some_iff.1 hRr).1
  by_cases hlt:p+k<q
  ·have p0:=hst.a0
   have p1:=hst.a1
   have HB:Hid (bitAt zs ((p:Int)+(k:Int)).toNat=V / 2 ^ (p+k) % 2):=by
    have:=enc_bit n V (p+k) (by omega)
    rw [←HZ.out.1] at this
    rw [show ((p:Int)+(k:Int)).toNat=p+k from by omega]
    exact this
   have hbit:V / 2 ^ (p+k) % 2<2:=Nat.mod_lt _ (by omega)
   have HP:Hid (bt V p k+(V / 2 ^ (p+k) % 2)*2 ^ k=bt V p (k+1)):=(bt_one V p k).symm
   generalize V / 2 ^ (p+k) % 2=b at *
   have HUR:Hid _:=(⟨hur,hRr⟩:_∧_)
   clear hur hRr
   go_wp2_with fail
   refine (l1bit_any a cap zs (n:Int) _ _ (hb.below hst.bel nl) (by omega) (by have:=HZ.out.2;omega) (by omega)).mono ?_
   rintro e w3 ⟨rfl,hb3⟩
   rw [HB.out]
   have hst3:=hst.step hb3
   have hur3:=ownV_below HUR.out.1 hb3
   have hR3:=(hb3.block _ hRl).trans HUR.out.2
   have z3:=hb3.size
   clear hb3 hst p0 p1
   go_wp2_with fail
   refine (l1put_any B B u k (bt V p k) (b:Int) 1 _ hR3 hur3 (bt_lt _ _ _) (by omega) (by omega) (by omega) (by omega) (by omega) (by omega)).mono ?_
   rintro e w4 ⟨rfl,v',hR4,hv4,honly4,hrow4⟩
   have hst4:=hst3.only honly4 (fun j hj=>by
    rcases hj with hj | hj
    ·omega
    ·exact (ownV_ge hur3 hj).1)
   have hbt:(b:Int).toNat % 2 ^ (1:Int).toNat=b:=by
    simp
    omega
   rw [hbt,HP.out] at hv4
   have HF:Hid _:=(⟨hR4,hv4,hst4⟩:_∧_∧_)
   clear hR4 hv4 hst4 honly4 hrow4 hur3 hR3 hst3
   go_wp2
   go_roundw
   case rel=>exact ⟨k+1,v',by omega,by go_num,HF.out.1,HF.out.2.1,HF.out.2.2⟩
   case measure=>simp [intOf];omega
  ·have hkm:k=d:=by have:=HD.out;omega
   subst hkm
   obtain ⟨a',cp,rfl,hmine⟩:=hur.mine
   generalize hYS:enc k (bt V p k)=xs at *
   have HYS:Hid (enc k (bt V p k)=xs):=hYS
   clear hYS
   have d0:wr.cell? ⟨B,0,none⟩=some (.slice a' xs.length cp):=cellR (j:=0) hRr rfl
   have d1:wr.cell? ⟨B,1,none⟩=some (.int .i64 (k:Nat)):=cellR (j:=1) hRr rfl
   have HM:Hid (Mine wr B wr.heap.size a' cp xs):=hmine
   have x0:=hst.r0
   have x1:=hst.r1
   have y0:=hst.f0
   have y1:=hst.f1
   have HS:Hid _:=hst
   clear hst hmine hur hRr
   go_wp2
   refine bodyPost_ret (v:=.agg #[.slice a' xs.length cp,.int .i64 (k:Nat)]) (by simp [results,Tryz.results159,go_sem,x0,x1]) rfl ⟨a',cp,by rw [HYS.out],?_,?_⟩
   ·rw [HYS.out]
    have hO3:Only (fun b=>b=w.heap.size+1) wr ((wr.setCell ⟨w.heap.size+1,0,none⟩ (.slice a' xs.length cp)).setCell ⟨w.heap.size+1,1,none⟩ (.int .i64 (k:Nat))):=
     Only.setCell (Only.setCell (Only.refl (fun b=>b=w.heap.size+1) wr) (p:=⟨w.heap.size+1,0,none⟩) (.inl rfl) _) (p:=⟨w.heap.size+1,1,none⟩) (.inl rfl) _
    have hBB:=HBQ.out
    exact ((HM.out.only hO3 (fun b h1 _=>by omega)).mono (by omega) (by simp [World.setCell]))
   ·exact ((HS.out.bel.setCell (by simp) _).setCell (by simp) _)
end Go.Proofs.YtaibkchbkedjnaaGreatDoor
