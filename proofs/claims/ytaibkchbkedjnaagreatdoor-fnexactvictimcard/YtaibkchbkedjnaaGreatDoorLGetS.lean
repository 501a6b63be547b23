/- Lemmas on the way. -/
import Derived.Test.YtaibkchbkedjnaaGreatDoorBit1
import Derived.Test.YtaibkchbkedjnaaGreatDoorLGetM
import Derived.Test.YtaibkchbkedjnaaGreatDoorUs4
import Derived.Test.YtaibkchbkedjnaaGreatDoorIParts
import Derived.Test.YtaibkchbkedjnaaGreatDoorOpen1
import Derived.Deep.RegionHeld3
set_option maxRecDepth 20000
set_option maxHeartbeats 16000000
namespace Go.Proofs.YtaibkchbkedjnaaGreatDoor
open Go.RowKit
set_option linter.unusedVariables false
theorem specLens_any (a:Option Addr) (cap:Nat) (zs:List Int) (w:World) (hb:Ins w a zs) (hn:zs.length≤281474976710656) :
  Calls Tryz.prog 195 #[.slice a zs.length cap] w fun e w'=>e=.returned (.bool (lensB zs))∧w'=w:=by
 by_cases h:1≤zs.length∧zs.length≤80
 ·obtain ⟨h1,h2⟩:=h
  have HF:=fun h=>l2full_any a cap zs w hb h2 h
  generalize hlen:zs.length=n at *
  have HL:Hid (zs.length=n):=hlen
  have HFF:Hid _:=HF
  clear hlen HF
  go_enter Tryz.func195,Tryz.ntmps195
  go_wp2
  go_loop [3,4] (fun x i=>∃ k:Nat,k≤n∧i=.int .i64 k∧x=.int .i64 (sumF one (zs.take k))∧∀ z ∈ zs.take k,0≤z∧z≤12) (fun _ i=>n-(intOf i).toNat)
  case atStart=>exact ⟨0,Nat.zero_le _,rfl,by simp [sumF],by simp⟩
  case round=>
   obtain ⟨k,hk,rfl,rfl,htk⟩:=hrel
   have HT:Hid (∀ z ∈ zs.take k,0≤z∧z≤12):=htk
   clear htk
   by_cases hlt:k<n
   ·obtain ⟨b1,o1,rfl,hb1,hc1⟩:=hb.len_pos k (by rw [HL.out];exact hlt)
    have hs1:=hc1 k (by rw [HL.out];exact hlt)
    have g1:=getD_rngI hb.1 k
    have hF:=sumF_bnd one 1 one_bnd (zs.take k)
    have hF2:(zs.take k).length≤80:=by rw [List.length_take,HL.out];omega
    have HS:Hid (sumF one (zs.take (k+1))=sumF one (zs.take k)+one (zs.getD k 0)):=sumF_succ one zs k (by rw [HL.out];exact hlt)
    clear hc1 hb HFF
    generalize hx:zs.getD k 0=x at *
    have HX:Hid (zs.getD k 0=x):=hx
    clear hx
    generalize hFF:sumF one (zs.take k)=F at *
    have hFb:0≤F∧F≤80:=by omega
    clear hF hF2 hFF
    by_cases h3:0≤x
    ·by_cases h4:x≤12
     ·have HT':Hid (∀ z ∈ zs.take (k+1),0≤z∧z≤12):=all_take_succ HT.out (by rw [HL.out];exact hlt) (by rw [HX.out];exact ⟨h3,h4⟩)
      by_cases h5:0<x
      ·have HP:Hid (one x=1):=by simp [Hid,one,h5]
       go_wp2
       go_round
       case rel=>exact ⟨k+1,by omega,by go_num,by rw [HS.out,HP.out],HT'.out⟩
       case measure=>simp [intOf];omega
      ·have HP:Hid (one x=0):=by simp [Hid,one,h5]
       go_wp2
       go_round
       case rel=>exact ⟨k+1,by omega,by go_num,by rw [HS.out,HP.out];simp,HT'.out⟩
       case measure=>simp [intOf];omega
     ·have HN:Hid (lensB zs=false):=lensB_bad (by rw [HL.out];exact hlt) (by rw [HX.out];omega)
      go_wp2
      go_ret
      exact ⟨by simp [HN.out],rfl⟩
    ·have HN:Hid (lensB zs=false):=lensB_bad (by rw [HL.out];exact hlt) (by rw [HX.out];omega)
     go_wp2
     go_ret
     exact ⟨by simp [HN.out],rfl⟩
   ·have hkn:k=n:=by omega
    subst hkn
    have e:zs.take k=zs:=List.take_of_length_le (by rw [HL.out];exact Nat.le_refl _)
    have HE:Hid (lensB zs=_):=lensB_all (by rw [HL.out];exact h1) (by rw [HL.out];exact h2) (by rw [HL.out];exact HT.out)
    have HC:Hid (Calls Tryz.prog 208 #[.slice a k cap] w fun e w'=>e=.returned (.int .i64 (sumF share zs))∧w'=w):=HFF.out (by have:=HT.out;rw [e] at this;exact this)
    have hF:=sumF_bnd one 1 one_bnd zs
    have hG:=sumF_bnd share 4096 share_bnd zs
    rw [HL.out] at hF hG
    rw [e]
    clear e HFF HT
    generalize sumF one zs=F at *
    generalize sumF share zs=G at *
    by_cases c1:F=1
    ·subst c1
     go_wp2_with fail
     refine HC.out.mono ?_
     rintro e' w' ⟨rfl,rfl⟩
     go_wp2
     go_ret
     exact ⟨by rw [HE.out];by_cases g:G=2048 <;> simp [g],rfl⟩
    ·by_cases c2:1<F
     ·go_wp2_with fail
      refine HC.out.mono ?_
      rintro e' w' ⟨rfl,rfl⟩
      go_wp2
      go_ret
      exact ⟨by rw [HE.out];by_cases g:G=4096 <;> simp [g,c1,c2],rfl⟩
     ·go_wp2
      go_ret
      exact ⟨by rw [HE.out,decide_eq_false (p:=F=1∧G=2048∨1<F∧G=4096) (by omega)];rfl,rfl⟩
 ·rw [lensB_len h]
  by_cases c1:1≤zs.length
  ·have c2:80<zs.length:=by omega
   go_enter Tryz.func195,Tryz.ntmps195
   go_wp2
   go_ret
   exact ⟨rfl,rfl⟩
  ·go_enter Tryz.func195,Tryz.ntmps195
   go_wp2
   go_ret
   exact ⟨rfl,rfl⟩
set_option linter.unusedSimpArgs false
def gqY (n V p s:Nat) (res:List Int) (q:Nat):Prop:=gq n V s s p []=some (res,q)∧res.length=s∧lensB res=true
def gqR (w w':World) (n V p s:Nat) (e:Ending):Prop:=Below w.heap.size w w' ∧
   (∀ res q,gqY n V p s res q→∃ a' cp,e=.returned (.tuple #[.slice a' res.length cp,.int .i64 (q:Nat),.bool true])∧MinI w' w.heap.size w'.heap.size a' cp res) ∧
   ((¬∃ res q,gqY n V p s res q)→∃ v y,e=.returned (.tuple #[v,.int .i64 y,.bool false]))
theorem gqR.none {w w':World} {n V p s:Nat} (hb:Below w.heap.size w w') (h:gq n V s s p []=none):gqR w w' n V p s (.returned (.tuple #[.slice none 0 0,.int .i64 (-1),.bool false])):=
 And.intro hb (And.intro (fun res q hy=>by have:=hy.1;rw [h] at this;cases this) (fun _=>⟨_,_,rfl⟩))
theorem l2getLens_any (a:Option Addr) (cap:Nat) (zs:List Int) (n V p s:Nat) (w:World) (hb:Byt w a zs) (hz:zs=enc n V) (hn:n≤4096) (hp:p≤n) (hs1:1≤s) (hs:s≤80) :
  Calls Tryz.prog 177 #[.agg #[.slice a zs.length cap,.int .i64 n],.int .i64 p,.int .i64 s] w fun e w'=>gqR w w' n V p s e:=by
 obtain ⟨i0,hi,hz0,hz1,hz2⟩:=info_parts Tryz.infoI64
 have HZ:Hid (zs=enc n V):=hz
 have HBW:Hid (Below w.heap.size w (w.alloc (Obj.cells #[.slice a zs.length cap,.int .i64 n] 155))):=bAw
 have q0:(w.alloc (Obj.cells #[.slice a zs.length cap,.int .i64 n] 155)).cell? ⟨w.heap.size,0,none⟩=some (.slice a zs.length cap):=by simp
 have q1:(w.alloc (Obj.cells #[.slice a zs.length cap,.int .i64 n] 155)).cell? ⟨w.heap.size,1,none⟩=some (.int .i64 n):=by simp
 have Q:Hid _:=(⟨q0,q1⟩:_∧_)
 have HSZ:Hid (w.heap.size+1≤(w.alloc (Obj.cells #[.slice a zs.length cap,.int .i64 n] 155)).heap.size):=by simp [Hid]
 clear hz q0 q1
 go_enter Tryz.func177,Tryz.ntmps177
 go_wp2
 generalize w.alloc (Obj.cells #[.slice a zs.length cap,.int .i64 n] 155)=W0 at *
 go_loopw [1,9] (fun t o wr=>∃ (q k f:Nat) (out:List Int) (au:Option Addr) (cu:Nat),t=.int .i64 q∧o=.slice au k cu∧(out.length=k∧k≤s+7∧q≤n)∧(s≤f+k∧gq n V s f q out=gq n V s s p [])∧OVI wr (w.heap.size+1) (.slice au k cu) out∧Below (w.heap.size+1) W0 wr) (fun _ o _=>s-lenS o)
 case atStart=>exact ⟨p,0,s,[],none,0,rfl,rfl,⟨rfl,by omega,hp⟩,⟨by omega,rfl⟩,OVI.nil _ _,Below.refl _ _⟩
 case round=>
  obtain ⟨q,k,f,out,au,cu,rfl,rfl,⟨hkl,hk7,hq⟩,hgq,hov,hbel⟩:=hrel
  have HF:Hid (out.length=k∧s≤f+k∧gq n V s f q out=gq n V s s p []):=⟨hkl,hgq⟩
  have HB:Hid (Below (w.heap.size+1) W0 wr∧Below w.heap.size w wr):=⟨hbel,HBW.out.trans (hbel.mono (by omega))⟩
  have HOV:Hid (OVI wr (w.heap.size+1) (.slice au k cu) out):=hov
  have hsz:w.heap.size+1≤wr.heap.size:=Nat.le_trans HSZ.out hbel.size
  have b0:=keep hbel (by omega) Q.out.1
  have b1:=keep hbel (by omega) Q.out.2
  clear hkl hgq hov hbel
  by_cases hlt:k<s
  ·have hlt2:(k:Int)<(s:Int):=by omega
   obtain ⟨f,rfl⟩:∃ g,f=g+1:=⟨f-1,by have:=HF.out.2.1;omega⟩
   by_cases c1:q+4≤n
   ·have c1':¬((n:Int)-4<(q:Int)):=by omega
    go_wp2_with fail
    refine (l1get_any a cap zs n q 4 n V _ (hb.below HB.out.2 nl) HZ.out (by omega) (by omega) (by omega) (by omega) (by omega)).mono ?_
    rintro e w2 ⟨rfl,hb2⟩
    have hxe:V / 2 ^ ((q:Nat):Int).toNat % 2 ^ (4:Int).toNat=bt V q 4:=by unfold bt;simp
    rw [hxe]
    have hx16:=bt_lt V q 4
    have HOV2:Hid (OVI w2 (w.heap.size+1) (.slice au k cu) out):=HOV.out.below hb2
    have HB2:Hid (Below (w.heap.size+1) W0 w2):=HB.out.1.trans (hb2.mono (by omega))
    have hz3:w.heap.size+1≤w2.heap.size:=Nat.le_trans hsz hb2.size
    have hu:w2.ownsRow (w.heap.size+1) 3 1 (.slice au k cu) k (out.map (Value.int .i64)):=by have:=HOV2.out.1;rw [HF.out.1] at this;exact this
    have HXB:Hid (∃ x,x=bt V q 4):=⟨_,rfl⟩
    obtain ⟨x,hxx⟩:=HXB.out
    rw [←hxx] at hx16 ⊢
    have HXE:Hid (x=bt V q 4):=hxx
    clear hxx hxe hb2 HXB HOV b0 b1
    have HK8:Hid (k≤87):=by unfold Hid;omega
    by_cases hx0:x=0
    ·have hx1:¬(0:Int)<(x:Int):=by omega
     have HX0:Hid (x=0∧bt V q 4=0):=⟨hx0,by rw [←HXE.out];exact hx0⟩
     clear hx0
     by_cases c2:q+7≤n
     ·have c2':¬((n:Int)-3<(q:Int)+4):=by omega
      go_wp2_with (at_builtin;(refine wpList_append_lies _ rfl (.tmp 26) (.tmp 28) 29 rfl (w.heap.size+1) 3 i0 (.int .i64 0) 1 8 Tryz.underlying29 hi hz0 hz1 hz2 rfl (by decide) (.slice au k cu) k (out.map (Value.int .i64)) rfl (hu.alloc _) ⟨w2.heap.size,0,none⟩ 1 1 [.int .i64 (x:Nat)] rfl rfl (by intro j y hj;match j,hj with | 0,hj=>(simp at hj;subst hj;simp [Addr.add])) (by intro y hy;simp at hy;subst hy;rfl) (by omega) (by have:=HK8.out;unfold maxLen;omega) (by have:=HK8.out;omega) (by simp;omega) _ rfl ?_);intro g cap1 w4 hown hgrow hat hlt1;have HB4:Hid (Below (w.heap.size+1) W0 w4):=app_below HB2.out hz3 HOV2.out hgrow;have b0:=keep HB4.out (by omega) Q.out.1;have b1:=keep HB4.out (by omega) Q.out.2)
      have HOV4:Hid (OVI w4 (w.heap.size+1) (.slice (some ⟨g,0,none⟩) (k+1) cap1) (out++[((x:Nat):Int)])):=OVI.app HF.out.1 HOV2.out.2 (by omega) hown
      have hz4:w.heap.size+1≤w4.heap.size:=Nat.le_trans HSZ.out HB4.out.size
      clear hown hgrow hat hlt1 HOV2 HB2 hu hz3
      refine (l1get_any a cap zs n ((q:Int)+4) 3 n V _ (hb.below (HBW.out.trans (HB4.out.mono (by omega))) nl) HZ.out (by omega) (by omega) (by omega) (by omega) (by omega)).mono ?_
      rintro e w5 ⟨rfl,hb5⟩
      have hye:V / 2 ^ ((q:Int)+4).toNat % 2 ^ (3:Int).toNat=bt V (q+4) 3:=by
       unfold bt
       rw [show ((q:Int)+4).toNat=q+4 by omega]
       rfl
      rw [hye]
      have hy8:=bt_lt V (q+4) 3
      have HOV5:Hid (OVI w5 (w.heap.size+1) (.slice (some ⟨g,0,none⟩) (k+1) cap1) (out++[((x:Nat):Int)])):=HOV4.out.below hb5
      have HB5:Hid (Below (w.heap.size+1) W0 w5):=HB4.out.trans (hb5.mono (by omega))
      have HG:Hid (gq n V s f (q+7) (out++[0]++List.replicate (bt V (q+4) 3) 0)=gq n V s s p []):=by rw [←HF.out.2.2];exact (gq_zero (by rw [HF.out.1];exact hlt) HX0.out.2 c2).symm
      have hz5:w.heap.size+1≤w5.heap.size:=Nat.le_trans HSZ.out HB5.out.size
      have HL:Hid ((out++[((x:Nat):Int)]).length=k+1):=by rw [List.length_append,HF.out.1];rfl
      clear hye hb5 HB4 HOV4
      generalize bt V (q+4) 3=y at *
      go_wp2_with (at_builtin;(refine wpList_append_zer rfl (.tmp 42) (.tmp 43) rfl (w.heap.size+1) (.slice (some ⟨g,0,none⟩) (k+1) cap1) (out++[((x:Nat):Int)]) rfl HOV5.out y rfl (by rw [HL.out];omega) (by rw [HL.out];omega) hz5 ?_);intro v6 w6 hown6 hgrow6)
      obtain ⟨a6,c6,rfl⟩:=hown6.form
      have hl6:(out++[((x:Nat):Int)]++List.replicate y 0).length=k+1+y:=by rw [List.length_append,HL.out,List.length_replicate]
      rw [hl6] at hown6 ⊢
      have HOV6:Hid (OVI w6 (w.heap.size+1) (.slice a6 (k+1+y) c6) (out++[0]++List.replicate y 0)):=by rw [HX0.out.1] at hown6;exact hown6
      have HB6:Hid (Below (w.heap.size+1) W0 w6):=appI_below HB5.out hz5 HOV5.out hgrow6
      have HL6:Hid ((out++[(0:Int)]++List.replicate y 0).length=k+1+y):=by rw [HX0.out.1] at hl6;exact hl6
      clear hl6 hown6 hgrow6 HOV5 HB5 HL
      go_wp2
      go_roundw
      case rel=>exact ⟨q+7,k+1+y,f,out++[0]++List.replicate y 0,a6,c6,by go_num,rfl,⟨HL6.out,by omega,by omega⟩,⟨by have:=HF.out.2.1;omega,HG.out⟩,HOV6.out,HB6.out⟩
      case measure=>simp [lenS];omega
     ·have c2':(n:Int)-3<(q:Int)+4:=by omega
      have HN:Hid (gq n V s s p []=none):=by rw [←HF.out.2.2];exact gq_7 (by rw [HF.out.1];exact hlt) c1 HX0.out.2 c2
      go_wp2_with (at_builtin;(refine wpList_append_lies _ rfl (.tmp 26) (.tmp 28) 29 rfl (w.heap.size+1) 3 i0 (.int .i64 0) 1 8 Tryz.underlying29 hi hz0 hz1 hz2 rfl (by decide) (.slice au k cu) k (out.map (Value.int .i64)) rfl (hu.alloc _) ⟨w2.heap.size,0,none⟩ 1 1 [.int .i64 (x:Nat)] rfl rfl (by intro j y hj;match j,hj with | 0,hj=>(simp at hj;subst hj;simp [Addr.add])) (by intro y hy;simp at hy;subst hy;rfl) (by omega) (by have:=HK8.out;unfold maxLen;omega) (by have:=HK8.out;omega) (by simp;omega) _ rfl ?_);intro g cap1 w4 hown hgrow hat hlt1;have HB4:Hid (Below (w.heap.size+1) W0 w4):=app_below HB2.out hz3 HOV2.out hgrow;have b0:=keep HB4.out (by omega) Q.out.1;have b1:=keep HB4.out (by omega) Q.out.2)
      have HOV4:Hid (OVI w4 (w.heap.size+1) (.slice (some ⟨g,0,none⟩) (k+1) cap1) (out++[((x:Nat):Int)])):=OVI.app HF.out.1 HOV2.out.2 (by omega) hown
      have hz4:w.heap.size+1≤w4.heap.size:=Nat.le_trans HSZ.out HB4.out.size
      clear hown hgrow hat hlt1 HOV2 HB2 hu hz3
      have HBB:Hid (Below w.heap.size w w4):=HBW.out.trans (HB4.out.mono (by omega))
      exact bodyPost_ret (v:=.tuple #[.slice none 0 0,.int .i64 (-1),.bool false]) (by simp [results,Tryz.results177,go_sem]) rfl (gqR.none HBB.out HN.out)
    ·have hx1:(0:Int)<(x:Int):=by omega
     go_wp2_with (at_builtin;(refine wpList_append_lies _ rfl (.tmp 26) (.tmp 28) 29 rfl (w.heap.size+1) 3 i0 (.int .i64 0) 1 8 Tryz.underlying29 hi hz0 hz1 hz2 rfl (by decide) (.slice au k cu) k (out.map (Value.int .i64)) rfl (hu.alloc _) ⟨w2.heap.size,0,none⟩ 1 1 [.int .i64 (x:Nat)] rfl rfl (by intro j y hj;match j,hj with | 0,hj=>(simp at hj;subst hj;simp [Addr.add])) (by intro y hy;simp at hy;subst hy;rfl) (by omega) (by have:=HK8.out;unfold maxLen;omega) (by have:=HK8.out;omega) (by simp;omega) _ rfl ?_);intro g cap1 w4 hown hgrow hat hlt1;have HB4:Hid (Below (w.heap.size+1) W0 w4):=app_below HB2.out hz3 HOV2.out hgrow;have b0:=keep HB4.out (by omega) Q.out.1;have b1:=keep HB4.out (by omega) Q.out.2)
     have HOV4:Hid (OVI w4 (w.heap.size+1) (.slice (some ⟨g,0,none⟩) (k+1) cap1) (out++[((x:Nat):Int)])):=OVI.app HF.out.1 HOV2.out.2 (by omega) hown
     have hz4:w.heap.size+1≤w4.heap.size:=Nat.le_trans HSZ.out HB4.out.size
     clear hown hgrow hat hlt1 HOV2 HB2 hu hz3
     have HG:Hid (gq n V s f (q+4) (out++[((x:Nat):Int)])=gq n V s s p []):=by rw [←HF.out.2.2,HXE.out];exact (gq_pos (by rw [HF.out.1];exact hlt) c1 (by rw [←HXE.out];exact hx0)).symm
     go_roundw
     case rel=>exact ⟨q+4,k+1,f,out++[((x:Nat):Int)],some ⟨g,0,none⟩,cap1,by go_num,rfl,⟨by rw [List.length_append,HF.out.1];rfl,by omega,by omega⟩,⟨by have:=HF.out.2.1;omega,HG.out⟩,HOV4.out,HB4.out⟩
     case measure=>simp [lenS];omega
   ·have c1':(n:Int)-4<(q:Int):=by omega
    have HN:Hid (gq n V s s p []=none):=by rw [←HF.out.2.2];exact gq_4 (by rw [HF.out.1];exact hlt) c1
    go_wp2
    exact bodyPost_ret (v:=.tuple #[.slice none 0 0,.int .i64 (-1),.bool false]) (by simp [results,Tryz.results177,go_sem]) rfl (gqR.none HB.out.2 HN.out)
  ·have hlt2:¬(k:Int)<(s:Int):=by omega
   have HG:Hid (gq n V s s p []=some (out,q)):=by rw [←HF.out.2.2];exact gq_end (by rw [HF.out.1];exact hlt)
   clear b0 b1
   by_cases hks:k=s
   ·subst hks
    have HC:=specLens_any au cu out wr HOV.out.ins (by rw [HF.out.1];omega)
    rw [HF.out.1] at HC
    go_wp2_with fail
    refine HC.mono ?_
    clear HC
    rintro e w9 ⟨rfl,hw9⟩
    rw [hw9]
    clear hw9
    obtain ⟨a',c',e',hm⟩:=HOV.out.mine
    have HM:Hid (MinI wr w.heap.size wr.heap.size au cu out):=by
     obtain ⟨rfl,-,rfl⟩:au=a'∧k=out.length∧cu=c':=by simpa using e'
     exact hm.mono (by omega) nl
    clear e' hm
    have HR:Hid (∀ b,lensB out=b→gqR w wr n V p k (.returned (.tuple #[.slice au k cu,.int .i64 (q:Nat),.bool b]))):=by
     intro b hbb
     refine ⟨HB.out.2,fun res q' hy=>?_,fun hno=>?_⟩
     ·obtain ⟨rfl,rfl⟩:out=res∧q=q':=by have:=hy.1;rw [HG.out] at this;simpa using this
      refine ⟨au,cu,?_,HM.out⟩
      rw [HF.out.1,←hbb,hy.2.2]
     ·cases b with
      | false=>exact ⟨_,_,rfl⟩
      | true=>exact absurd ⟨out,q,HG.out,HF.out.1,hbb⟩ hno
    generalize hbb:lensB out=b at *
    have HRR:=HR.out b rfl
    clear HR HG HM HOV HF
    go_wp2
    exact bodyPost_ret (v:=.tuple #[.slice au k cu,.int .i64 (q:Nat),.bool b]) (by simp [results,Tryz.results177,go_sem]) rfl HRR
   ·have hks2:((k:Int) == (s:Int))=false:=by rw [beq_eq_false_iff_ne];omega
    have HRR:gqR w wr n V p s (.returned (.tuple #[.slice au k cu,.int .i64 (q:Nat),.bool false])):=by
     refine ⟨HB.out.2,fun res q' hy=>?_,fun hno=>⟨_,_,rfl⟩⟩
     obtain ⟨rfl,rfl⟩:out=res∧q=q':=by have:=hy.1;rw [HG.out] at this;simpa using this
     exact absurd (HF.out.1.symm.trans hy.2.1) hks
    clear HG HOV HF
    go_wp2
    exact bodyPost_ret (v:=.tuple #[.slice au k cu,.int .i64 (q:Nat),.bool false]) (by simp [results,Tryz.results177,go_sem]) rfl HRR
theorem OwnV.blk {w:World} {B:Nat} {v:Value} {zs:List Int} (h:OwnV w B v zs) {k:Nat} (hk:v.ownBlock=some k):B≤k:=by
 rcases h.1.2 with ⟨rfl,h0⟩ | ⟨g,cap,cur,rfl,hg,_⟩
 ·simp [Value.ownBlock] at hk
 ·simp [Value.ownBlock] at hk
  omega
def WI (w:World) (B R n V:Nat):Prop:=∃ v,w.heap[R]?=some (.cells #[v,.int .i64 n,.int .i64 4096] 309 (0,0))∧OwnV w B v (enc n V)∧V<2 ^ n∧B≤R∧B≤w.heap.size
def SI (w:World) (B R n V:Nat):Prop:=∃ v,w.heap[R]?=some (.cells #[v,.int .i64 n] 155 (0,0))∧OwnV w B v (enc n V)∧V<2 ^ n∧B≤R∧B≤w.heap.size
theorem SI.put {w:World} {B R n V:Nat} (h:SI w B R n V) (x width:Int) (hx:0≤x) (h1:0≤width) (h2:width≤30) (hxw:x<2 ^ width.toNat) (hn:n≤4096) :
  Calls Tryz.prog 181 #[.pointer (some ⟨R,0,none⟩),.int .i64 x,.int .i64 width] w fun e w'=>e=.returned (.tuple #[])∧SI w' B R (n+width.toNat) (V+x.toNat*2 ^ n)∧Below B w w':=by
 obtain ⟨v,hR,hv,hV,hBR,hB⟩:=h
 have e:((2:Int) ^ width.toNat)=((2 ^ width.toNat:Nat):Int):=by simp
 rw [e] at hxw
 have hp:2 ^ width.toNat≤2 ^ 30:=Nat.pow_le_pow_right (by omega) (by omega)
 refine (l1put_any R B v n V x width w hR hv hV hB hx (by omega) h1 h2 (by omega)).mono ?_
 rintro e w' ⟨rfl,v',hR',hv',ho,_⟩
 rw [Nat.mod_eq_of_lt (by omega)] at hv'
 have hb:Below B w w':=ho.below hB (fun k hk=>by
  rcases hk with hk | hk
  ·omega
  ·exact hv.blk hk)
 exact ⟨rfl,⟨v',hR',hv',put_lt n V width.toNat x.toNat hV (by omega),hBR,Nat.le_trans hB hb.size⟩,hb⟩
theorem enc_zero :enc 0 0=[]:=by
 have:=enc_len 0 0
 exact List.eq_nil_of_length_eq_zero (by simpa using this)
theorem SI.new (w:World) (B:Nat) (hB:B≤w.heap.size):SI (w.alloc (.cells #[.slice none 0 0,.int .i64 0] 155)) B w.heap.size 0 0:=by
 refine ⟨.slice none 0 0,by simpa using heap_alloc_new w (.cells #[.slice none 0 0,.int .i64 0] 155),?_,by simp,hB,by simp;omega⟩
 rw [enc_zero]
 exact ⟨⟨rfl,.inl ⟨rfl,rfl⟩⟩,by simp⟩
theorem l2putLens_any (a:Option Addr) (cap:Nat) (zs:List Int) (R B:Nat) (w0 w:World) (hb:Ins w0 a zs) (hB:w0.heap.size=B) (hbel:Below B w0 w) (hw:SI w B R 0 0) (hn:zs.length≤80) (hok:∀ z ∈ zs,0≤z∧z≤12) :
  Calls Tryz.prog 178 #[.pointer (some ⟨R,0,none⟩),.slice a zs.length cap] w fun e w'=>e=.returned (.tuple #[])∧SI w' B R (lpF zs).1 (lpF zs).2∧Below B w0 w':=by
 have HOK:Hid (∀ k,k<zs.length→0≤zs.getD k 0∧zs.getD k 0≤12):=fun k hk=>hok _ (getD_mem hk)
 have HRL:Hid _:=fun i hi=>run_le zs i hi
 have HRI:Hid _:=run_in zs
 have HRO:Hid _:=run_out zs
 have HLE:Hid _:=lp_end zs
 have HLZ:Hid _:=lp_zero zs
 have HLP:Hid _:=lp_pos zs
 have HW:Hid (SI w B R 0 0):=hw
 have HF:Hid (lp zs zs.length 0 0 0=lpF zs):=rfl
 clear hok hw
 generalize hlen:zs.length=n at *
 have HL:Hid (zs.length=n):=hlen
 clear hlen
 go_enter Tryz.func178,Tryz.ntmps178
 go_wp2
 go_loopw [4] (fun i wr=>∃ k N V f:Nat,k≤n∧i=.int .i64 k∧N≤7*k∧n-k≤f∧lp zs f k N V=lpF zs∧SI wr B R N V∧Below B w0 wr) (fun i _=>n-(intOf i).toNat)
 case atStart=>exact ⟨0,0,0,n,Nat.zero_le _,rfl,by omega,by omega,HF.out,HW.out,hbel⟩
 case round=>
  clear HW hbel HF
  obtain ⟨k,N,V,f,hk,rfl,hN,hf,hlp,hwi,hbel⟩:=hrel
  have HWI:Hid (SI wr B R N V):=hwi
  have HP:Hid (lp zs f k N V=lpF zs):=hlp
  clear hwi hlp
  by_cases hlt:k<n
  ·obtain ⟨b1,o1,rfl,hb1,hc1⟩:=(hb.below hbel (by omega)).len_pos k (by rw [HL.out];exact hlt)
   have hs1:=hc1 k (by rw [HL.out];exact hlt)
   have hx:=HOK.out k hlt
   have hr:=HRL.out k hlt
   obtain ⟨f,rfl⟩:∃ f',f=f'+1:=⟨f-1,by omega⟩
   have HZ:=HLZ.out f k N V hlt
   have HQ:=HLP.out f k N V hlt
   rw [HP.out] at HZ HQ
   have HZ':Hid _:=HZ
   have HQ':Hid _:=HQ
   clear hc1 HZ HQ HP
   generalize hxx:zs.getD k 0=x at *
   go_wp2_with fail
   refine (HWI.out.put x 4 hx.1 (by omega) (by omega) (by simp;omega) (by omega)).mono ?_
   rintro e w2 ⟨rfl,hwi2,hb2⟩
   have HWI2:Hid (SI w2 B R (N+4) (V+x.toNat*2 ^ N)):=hwi2
   have hbel2:Below B w0 w2:=hbel.trans hb2
   obtain ⟨b3,o3,he3,hb3,hc3⟩:=(hb.below hbel2 (by omega)).len_pos k (by rw [HL.out];exact hlt)
   obtain ⟨rfl,rfl⟩:b1=b3∧o1=o3:=by simpa using he3
   have hs3:=hc3 k (by rw [HL.out];exact hlt)
   have HC3:Hid _:=hc3
   rw [hxx] at hs3
   clear hwi2 hb2 hbel HWI hc3 he3 hs1
   by_cases hz:x=0
   ·have E:=HZ'.out hz
    have HE:Hid (lp zs f (k+1+run zs k) (N+7) (V+run zs k*2 ^ (N+4))=lpF zs):=E.symm
    have HRI':Hid _:=HRI.out k
    have HRO':Hid _:=HRO.out k hlt
    clear HZ' HQ' E
    subst hz
    have HWI3:Hid (SI w2 B R (N+4) V):=by simpa [Hid] using HWI2.out
    clear HWI2
    generalize run zs k=r at *
    go_wp2
    go_loopw [4,5] (fun i c wi=>∃ j q:Nat,j≤r∧q=k+j∧c=.int .i64 j∧i=.int .i64 q∧wi=w2) (fun _ c _=>r-(intOf c).toNat)
    case atStart=>exact ⟨0,k,Nat.zero_le _,by omega,rfl,rfl,rfl⟩
    case round=>
     obtain ⟨j,q,hj,hq,rfl,rfl,rfl⟩:=hrel
     have HQJ:Hid (q=k+j):=hq
     clear hq
     by_cases hjr:j<r
     ·obtain ⟨g1,g2,g3⟩:=HRI'.out j hjr
      rw [←HQJ.out] at g2 g3
      have hs4:=HC3.out (q+1) (by rw [HL.out];exact g2)
      rw [g3] at hs4
      clear g3
      go_wp2
      go_roundw
      case rel=>exact ⟨j+1,q+1,by omega,by have:=HQJ.out;omega,by go_num,by go_num,by simp⟩
      case measure=>simp [intOf];omega
     ·have hje:j=r:=by omega
      subst hje
      rw [←HQJ.out] at HRO'
      have hqn:q+1≤n:=by have:=HQJ.out;omega
      by_cases h7:j<7
      ·by_cases hl1:q+1<n
       ·have hne:=HRO'.out h7 hl1
        have hs4:=HC3.out (q+1) (by rw [HL.out];exact hl1)
        generalize zs.getD (q+1) 0=y at *
        have hy:(y == 0)=false:=by simpa using hne
        clear hne
        go_wp2_with fail
        refine (HWI3.out.put (j:Nat) 3 (by omega) (by omega) (by omega) (by simp;omega) (by omega)).mono ?_
        rintro e w4 ⟨rfl,hwi4,hb4⟩
        have HWI4:Hid (SI w4 B R (N+7) (V+j*2 ^ (N+4))):=by simpa [Hid] using hwi4
        have HB4:Hid (Below B w0 w4):=hbel2.trans hb4
        clear hwi4 hb4 HWI3
        go_wp2
        go_roundw
        case rel=>exact ⟨k+1+j,N+7,V+j*2 ^ (N+4),f,by have:=HQJ.out;omega,by have:=HQJ.out;go_num,by omega,by omega,HE.out,HWI4.out,HB4.out⟩
        case measure=>have:=HQJ.out;simp [intOf];omega
       ·have hl2:decide ((q:Int)+1<(n:Int))=false:=by simp;omega
        go_wp2_with fail
        refine (HWI3.out.put (j:Nat) 3 (by omega) (by omega) (by omega) (by simp;omega) (by omega)).mono ?_
        rintro e w4 ⟨rfl,hwi4,hb4⟩
        have HWI4:Hid (SI w4 B R (N+7) (V+j*2 ^ (N+4))):=by simpa [Hid] using hwi4
        have HB4:Hid (Below B w0 w4):=hbel2.trans hb4
        clear hwi4 hb4 HWI3
        go_wp2
        go_roundw
        case rel=>exact ⟨k+1+j,N+7,V+j*2 ^ (N+4),f,by have:=HQJ.out;omega,by have:=HQJ.out;go_num,by omega,by omega,HE.out,HWI4.out,HB4.out⟩
        case measure=>have:=HQJ.out;simp [intOf];omega
      ·go_wp2_with fail
       refine (HWI3.out.put (j:Nat) 3 (by omega) (by omega) (by omega) (by simp;omega) (by omega)).mono ?_
       rintro e w4 ⟨rfl,hwi4,hb4⟩
       have HWI4:Hid (SI w4 B R (N+7) (V+j*2 ^ (N+4))):=by simpa [Hid] using hwi4
       have HB4:Hid (Below B w0 w4):=hbel2.trans hb4
       clear hwi4 hb4 HWI3
       go_wp2
       go_roundw
       case rel=>exact ⟨k+1+j,N+7,V+j*2 ^ (N+4),f,by have:=HQJ.out;omega,by have:=HQJ.out;go_num,by omega,by omega,HE.out,HWI4.out,HB4.out⟩
       case measure=>have:=HQJ.out;simp [intOf];omega
   ·have E:=HQ'.out hz
    have HE:Hid (lp zs f (k+1) (N+4) (V+x.toNat*2 ^ N)=lpF zs):=E.symm
    have hpos:0<x:=by omega
    have HB2:Hid (Below B w0 w2):=hbel2
    clear HZ' HQ' E hbel2
    go_wp2
    go_roundw
    case rel=>exact ⟨k+1,N+4,V+x.toNat*2 ^ N,f,by omega,by go_num,by omega,by omega,HE.out,HWI2.out,HB2.out⟩
    case measure=>simp [intOf];omega
  ·have hkn:k=n:=by omega
   subst hkn
   have E:=HLE.out f k N V (by omega)
   rw [HP.out] at E
   have HA:Hid (SI wr B R (lpF zs).1 (lpF zs).2):=by rw [E];exact HWI.out
   clear E HWI HP
   go_wp2
   go_end0
   exact ⟨rfl,HA.out,hbel⟩
theorem bit_eq_all (U V p M:Nat) (hU:U<2 ^ M) (h:∀ i,i<M→U / 2 ^ i % 2=V / 2 ^ (p+i) % 2):U=bt V p M:=by
 apply Nat.eq_of_testBit_eq
 intro i
 unfold bt
 rw [Nat.testBit_mod_two_pow]
 by_cases hi:i<M
 ·have h1:=h i hi
  rw [decide_eq_true hi,Bool.true_and,Nat.testBit_eq_decide_div_mod_eq,Nat.testBit_eq_decide_div_mod_eq,Nat.div_div_eq_div_mul,←Nat.pow_add,h1]
 ·rw [decide_eq_false hi,Bool.false_and]
  exact Nat.testBit_lt_two_pow (Nat.lt_of_lt_of_le hU (Nat.pow_le_pow_right (by omega) (by omega)))
theorem bit_of_bt (V p M i:Nat) (hi:i<M):bt V p M / 2 ^ i % 2=V / 2 ^ (p+i) % 2:=by
 have h:(bt V p M).testBit i=(V / 2 ^ p).testBit i:=by unfold bt;rw [Nat.testBit_mod_two_pow,decide_eq_true hi,Bool.true_and]
 rw [Nat.testBit_eq_decide_div_mod_eq,Nat.testBit_eq_decide_div_mod_eq,Nat.div_div_eq_div_mul,←Nat.pow_add] at h
 have h1:bt V p M / 2 ^ i % 2<2:=Nat.mod_lt _ (by omega)
 have h2:V / 2 ^ (p+i) % 2<2:=Nat.mod_lt _ (by omega)
 by_cases c:bt V p M / 2 ^ i % 2=1
 ·by_cases d:V / 2 ^ (p+i) % 2=1
  ·omega
  ·simp [c,d] at h
 ·by_cases d:V / 2 ^ (p+i) % 2=1
  ·simp [c,d] at h
  ·omega
def lgR (w w':World) (n V p s:Nat) (e:Ending):Prop:=Below w.heap.size w w' ∧
   (∀ res q,giY n V p s res q→∃ a' cp,e=.returned (.tuple #[.slice a' res.length cp,.int .i64 (q:Nat),.bool true])∧MinI w' w.heap.size w'.heap.size a' cp res) ∧
   ((¬∃ res q,giY n V p s res q)→e=.returned (.tuple #[.slice none 0 0,.int .i64 (-1),.bool false]))
theorem lgR.no {w w':World} {n V p s:Nat} (hb:Below w.heap.size w w') (h:¬∃ res q,giY n V p s res q):lgR w w' n V p s (.returned (.tuple #[.slice none 0 0,.int .i64 (-1),.bool false])):=
 And.intro hb (And.intro (fun res q hy=>absurd ⟨res,q,hy⟩ h) (fun _=>rfl))
theorem lgR.yes {w w':World} {n V p s q:Nat} {res:List Int} {a':Option Addr} {cp:Nat} (hb:Below w.heap.size w w') (h:giY n V p s res q) (hm:MinI w' w.heap.size w'.heap.size a' cp res):lgR w w' n V p s (.returned (.tuple #[.slice a' res.length cp,.int .i64 (q:Nat),.bool true])):=by
 refine And.intro hb (And.intro (fun res' q' hy=>?_) (fun hno=>absurd ⟨res,q,h⟩ hno))
 obtain ⟨rfl,rfl⟩:res=res'∧q=q':=by have:=hy.1;rw [h.1] at this;simpa using this
 exact ⟨_,_,rfl,hm⟩
theorem giY_iff {n V p s q:Nat} {res:List Int}:giY n V p s res q↔gqY n V p s res q∧lpF res=(q-p,bt V p (q-p)):=by
 unfold giY gqY
 rw [gi_iff]
 constructor
 ·rintro ⟨⟨h1,h2,h3⟩,h4⟩
  exact ⟨⟨h1,h2,h4⟩,h3⟩
 ·rintro ⟨⟨h1,h2,h4⟩,h3⟩
  exact ⟨⟨h1,h2,h3⟩,h4⟩
def Bx2 (W:World) (X Y:Nat) (a ya:Option Addr) (la ca ly cy n M:Nat):Prop:=W.cell? ⟨X,0,none⟩=some (.slice a la ca)∧W.cell? ⟨X,1,none⟩=some (.int .i64 (n:Nat))∧W.cell? ⟨Y,0,none⟩=some (.slice ya ly cy)∧W.cell? ⟨Y,1,none⟩=some (.int .i64 (M:Nat))
theorem Bx2.below {W W':World} {X Y:Nat} {a ya:Option Addr} {la ca ly cy n M:Nat} (h:Bx2 W X Y a ya la ca ly cy n M) (hb:Below W.heap.size W W'):Bx2 W' X Y a ya la ca ly cy n M:=
 ⟨keep hb (World.block_lt_of_cell? _ _ h.1) h.1,keep hb (World.block_lt_of_cell? _ _ h.2.1) h.2.1,keep hb (World.block_lt_of_cell? _ _ h.2.2.1) h.2.2.1,keep hb (World.block_lt_of_cell? _ _ h.2.2.2) h.2.2.2⟩
theorem specLensGet_ok (a:Option Addr) (cap:Nat) (zs:List Int) (n p s:Nat) (w:World) (hb:Byt w a zs) (hO:okB (n:Int) zs=true) (hz:zs=enc n (val zs)) (hn:n≤4096) (hp:p≤n) (hs1:1≤s) (hs:s≤80) :
  Calls Tryz.prog 157 #[.agg #[.slice a zs.length cap,.int .i64 n],.int .i64 p,.int .i64 s] w fun e w'=>lgR w w' n (val zs) p s e:=by
 have hw:Below w.heap.size w (w.alloc (Obj.cells #[.slice a zs.length cap,.int .i64 n] 155)):=bAw
 have hl:zs.length≤281474976710656:=by rw [hz,enc_len];omega
 have HO:Hid (okB (n:Int) zs=true):=hO
 have HZ:Hid (zs=enc n (val zs)):=hz
 clear hO hz
 generalize hV:val zs=V at *
 clear hV
 go_enter Tryz.func157,Tryz.ntmps157
 go_wp2_with fail
 refine (specOk_any a cap zs _ _ (hb.below hw nl) hl).mono ?_
 rintro e w1 ⟨rfl,hb1⟩
 rw [HO.out]
 have q0:w1.cell? ⟨w.heap.size,0,none⟩=some (.slice a zs.length cap):=keep hb1 (by simp) (by simp)
 have q1:w1.cell? ⟨w.heap.size,1,none⟩=some (.int .i64 n):=keep hb1 (by simp) (by simp)
 have hbb:=hw.trans (hb1.mono (by simp))
 clear hb1 hw
 go_wp2_with fail
 refine (l2getLens_any a cap zs n V p s w1 (hb.below hbb nl) HZ.out hn hp hs1 hs).mono ?_
 rintro e w2 ⟨hb2,hy,hno⟩
 have HB2:Hid (Below w.heap.size w w2):=hbb.trans (hb2.mono hbb.size)
 have hsz:=hbb.size
 have p0:=keep hb2 (World.block_lt_of_cell? _ _ q0) q0
 have p1:=keep hb2 (World.block_lt_of_cell? _ _ q1) q1
 clear hb2 q0 q1
 by_cases hg:∃ res q,gqY n V p s res q
 ·obtain ⟨res,q,hr⟩:=hg
  obtain ⟨a',cp,rfl,hm⟩:=hy res q hr
  have HY:Hid (gqY n V p s res q):=hr
  have HA:Hid (MinI w2 w.heap.size w2.heap.size a' cp res):=hm.mono hsz nl
  obtain ⟨hl1,hl2,hl3⟩:=lensB_ok hr.2.2
  have hpq:=(gq_ext n V s s p [] res q hr.1).2
  have HPU:=l2putLens_any a' cp res w2.heap.size w2.heap.size w2 _ HA.out.byt rfl ((Below.refl _ _).alloc nl (.cells #[.slice none 0 0,.int .i64 0] 155)) (SI.new w2 _ nl) hl2 hl3
  have HMU:Hid (∃ M U,lpF res=(M,U)∧M≤560):=⟨_,_,rfl,by have:=lp_le res res.length 0 0 0;show (lp res res.length 0 0 0).1≤560;omega⟩
  obtain ⟨M,U,hMU,hM5⟩:=HMU.out
  rw [hMU] at HPU
  have HLP:Hid (lpF res=(M,U)):=hMU
  have HUQ:Hid (∀ res' q',giY n V p s res' q'→res'=res∧q'=q∧M=q-p∧U=bt V p (q-p)):=by
   intro res' q' h
   obtain ⟨h1,h2⟩:=giY_iff.1 h
   obtain ⟨rfl,rfl⟩:res=res'∧q=q':=by have:=h1.1;rw [HY.out.1] at this;simpa using this
   rw [HLP.out] at h2
   simp only [Prod.mk.injEq] at h2
   exact ⟨rfl,rfl,h2⟩
  have HYES:Hid (M=q-p→U=bt V p (q-p)→giY n V p s res q):=fun h1 h2=>giY_iff.2 ⟨HY.out,by rw [HLP.out,←h2,h1]⟩
  clear hm hy hno hr hl3 hMU HMU
  generalize hrl:res.length=rl at *
  have HRL:Hid (res.length=rl):=hrl
  clear hrl
  go_wp2_with fail
  refine HPU.mono ?_
  clear HPU
  rintro e w4 ⟨rfl,⟨v,hR,hov,hU,hBR,-⟩,hb4⟩
  obtain ⟨ya,yc,rfl,hmy⟩:=hov.mine
  have HB4:Hid (Below w.heap.size w w4):=HB2.out.trans (hb4.mono HB2.out.size)
  have HA4:Hid (MinI w4 w.heap.size w4.heap.size a' cp res):=(HA.out.below hb4).mono nl hb4.size
  have HYB:Hid (Byt w4 ya (enc M U)∧U<2 ^ M):=⟨hmy.byt,hU⟩
  have y0:=cellRR (j:=0) hR rfl
  have y1:=cellRR (j:=1) hR rfl
  have HBX:Hid (Bx2 w4 w.heap.size w2.heap.size a ya zs.length cap (enc M U).length yc n M):=⟨keep hb4 (World.block_lt_of_cell? _ _ p0) p0,keep hb4 (World.block_lt_of_cell? _ _ p1) p1,y0,y1⟩
  clear hov hmy hU hBR hb4 p0 p1 HA
  by_cases hMq:M=q-p
  ·have hMi:((M:Int) != (q:Int)-(p:Int))=false:=by simp;omega
   have HMQ:Hid (M=q-p∧True):=⟨hMq,trivial⟩
   clear hMq
   have HL7:Hid ((enc M U).length=(M+7) / 8∧zs.length=(n+7) / 8):=⟨enc_len M U,by rw [HZ.out];exact enc_len n V⟩
   have HQ:Hid (q≤n):=hpq.2 hp
   have hx1:=HBX.out.2.1
   have hy1:=HBX.out.2.2.2
   clear y0 y1
   go_wp2
   go_loopw [13] (fun iv wr=>∃ k:Nat,k≤M∧iv=.int .i64 k∧(∀ j,j<k→U / 2 ^ j % 2=V / 2 ^ (p+j) % 2)∧Below w4.heap.size w4 wr) (fun iv _=>M-(intOf iv).toNat)
   case atStart=>exact ⟨0,Nat.zero_le _,rfl,fun j hj=>by omega,Below.refl _ _⟩
   case round=>
    clear hx1 hy1
    obtain ⟨k,hk,rfl,hall,hbel⟩:=hrel
    have HAL:Hid (∀ j,j<k→U / 2 ^ j % 2=V / 2 ^ (p+j) % 2):=hall
    have HBR:Hid (Below w4.heap.size w4 wr):=hbel
    have HBX2:Hid (Bx2 wr w.heap.size w2.heap.size a ya zs.length cap (enc M U).length yc n M):=HBX.out.below hbel
    have hy1:=HBX2.out.2.2.2
    clear hall hbel
    by_cases hlt:k<M
    ·have hlt2:(k:Int)<(M:Int):=by omega
     have HU:Hid (bitAt (enc M U) (((k:Nat):Int)).toNat=U / 2 ^ k % 2):=by rw [Int.toNat_natCast];exact enc_bit M U k hlt
     have HV:Hid (bitAt zs ((p:Int)+(k:Int)).toNat=V / 2 ^ (p+k) % 2):=by
      have:=enc_bit n V (p+k) (by have:=HQ.out;have:=HMQ.out.1;omega)
      rw [←HZ.out] at this
      rw [show ((p:Int)+(k:Int)).toNat=p+k from by omega]
      exact this
     have HNE:Hid (¬U / 2 ^ k % 2=V / 2 ^ (p+k) % 2→¬∃ res q,giY n V p s res q):=by
      rintro h ⟨res',q',hh⟩
      obtain ⟨-,-,h3,h4⟩:=HUQ.out res' q' hh
      rw [←h3] at h4
      apply h
      rw [h4]
      exact bit_of_bt V p M k hlt
     have HAS:Hid (U / 2 ^ k % 2=V / 2 ^ (p+k) % 2→∀ j,j<k+1→U / 2 ^ j % 2=V / 2 ^ (p+j) % 2):=by
      intro h j hj
      by_cases he:j=k
      ·rw [he];exact h
      ·exact HAL.out j (by omega)
     have hu2:U / 2 ^ k % 2<2:=Nat.mod_lt _ (by omega)
     have hv2:V / 2 ^ (p+k) % 2<2:=Nat.mod_lt _ (by omega)
     have HBY:Hid (Byt wr ya (enc M U)∧Byt wr a zs):=⟨HYB.out.1.below HBR.out nl,(hb.below HB4.out nl).below HBR.out nl⟩
     generalize U / 2 ^ k % 2=u at *
     generalize V / 2 ^ (p+k) % 2=x at *
     generalize enc M U=ys at *
     have hkM:k<560:=by omega
     have hpn:p≤4096:=by omega
     have HWR:Hid (IntKind.i64.wrap ((p:Int)+(k:Int))=(p:Int)+(k:Int)∧True):=⟨by rw [IntKind.wrap_i64];omega,trivial⟩
     go_wp2_with fail
     go_region_held3 (fun W=>W.cell? ⟨w.heap.size,0,none⟩=some (.slice a zs.length cap)∧W.cell? ⟨w.heap.size,1,none⟩=some (.int .i64 (n:Nat))∧W.cell? ⟨w2.heap.size,0,none⟩=some (.slice ya ys.length yc)∧W.cell? ⟨w2.heap.size,1,none⟩=some (.int .i64 (M:Nat)))
      (first | exact HBX2.out | exact HBX7.out | exact HBX8.out)
      (first
       | (go_at_call_of 176 (Value.agg #[.slice ya ys.length yc,.int .i64 (M:Nat)]);refine (l1bit_any ya yc ys (M:Nat) (k:Nat) _ (by exact HBY.out.1) (by omega) (by have:=HL7.out.1;omega) (by omega)).mono ?_;rintro e w7 ⟨rfl,hb7⟩;have HB7:Hid (Below wr.heap.size wr w7):=(by first | exact hb7 | exact Below.drewS hb7);have HBX7:Hid (Bx2 w7 w.heap.size w2.heap.size a ya zs.length cap ys.length yc n M):=HBX2.out.below HB7.out;rw [HU.out];clear hb7)
       | (go_at_call_of 176 (Value.agg #[.slice a zs.length cap,.int .i64 (n:Nat)]);rw [HWR.out.1];refine (l1bit_any a cap zs (n:Nat) ((p:Int)+(k:Int)) _ (by exact HBY.out.2.below HB7.out nl) (by omega) (by have:=HL7.out.2;have:=HQ.out;have:=HMQ.out.1;omega) (by omega)).mono ?_;rintro e w8 ⟨rfl,hb8⟩;have HB8:Hid (Below wr.heap.size wr w8):=(by first | exact HB7.out.trans (hb8.mono HB7.out.size) | exact HB7.out.trans ((Below.drewS hb8).mono HB7.out.size));have HBX8:Hid (Bx2 w8 w.heap.size w2.heap.size a ya zs.length cap ys.length yc n M):=HBX2.out.below HB8.out;rw [HV.out];clear hb8))
     have HBF:Hid (Below w.heap.size w w8):=HB4.out.trans ((HBR.out.trans (HB8.out.mono HBR.out.size)).mono HB4.out.size)
     have HBG:Hid (Below w4.heap.size w4 w8):=HBR.out.trans (HB8.out.mono HBR.out.size)
     clear HBX7 HBX8 HBX2 HB7 HB8 hy1
     by_cases hux:u=x
     ·have HAN:=HAS.out hux
      have hux2:((u:Int) != (x:Int))=false:=by simp;omega
      have HAN2:Hid _:=HAN
      clear HAN HAS HNE hux
      go_wp2
      go_roundw
      case rel=>exact ⟨k+1,by omega,by go_num,HAN2.out,HBG.out⟩
      case measure=>simp [intOf];omega
     ·have hux2:((u:Int) != (x:Int))=true:=by simp;omega
      have HN:Hid (¬∃ res q,giY n V p s res q):=HNE.out hux
      clear HAS HNE hux
      go_wp2
      exact bodyPost_ret (v:=.tuple #[.slice none 0 0,.int .i64 (-1),.bool false]) (by simp [results,Tryz.results157,go_sem]) rfl (lgR.no HBF.out HN.out)
    ·have hkM:k=M:=by omega
     subst hkM
     have hke:¬(k:Int)<(k:Int):=by omega
     have HYY:Hid (giY n V p s res q):=HYES.out HMQ.out.1 (by rw [←HMQ.out.1];exact bit_eq_all U V p k HYB.out.2 HAL.out)
     have HBF:Hid (Below w.heap.size w wr):=HB4.out.trans (HBR.out.mono HB4.out.size)
     have HMF:Hid (MinI wr w.heap.size wr.heap.size a' cp res):=(HA4.out.below HBR.out).mono nl HBR.out.size
     go_wp2
     refine bodyPost_ret (v:=.tuple #[.slice a' rl cp,.int .i64 (q:Nat),.bool true]) (by simp [results,Tryz.results157,go_sem]) rfl ?_
     rw [←HRL.out]
     exact lgR.yes HBF.out HYY.out HMF.out
  ·have hMi:((M:Int) != (q:Int)-(p:Int))=true:=by simp;omega
   have HN:Hid (¬∃ res q,giY n V p s res q):=by
    rintro ⟨res',q',h⟩
    exact hMq (HUQ.out res' q' h).2.2.1
   go_wp2
   exact bodyPost_ret (v:=.tuple #[.slice none 0 0,.int .i64 (-1),.bool false]) (by simp [results,Tryz.results157,go_sem]) rfl (lgR.no HB4.out HN.out)
 ·obtain ⟨v,y,rfl⟩:=hno hg
  have HN:Hid (¬∃ res q,giY n V p s res q):=by
   rintro ⟨res',q',h⟩
   exact hg ⟨res',q',(giY_iff.1 h).1⟩
  clear hy hno hg
  go_wp2
  exact bodyPost_ret (v:=.tuple #[.slice none 0 0,.int .i64 (-1),.bool false]) (by simp [results,Tryz.results157,go_sem]) rfl (lgR.no HB2.out HN.out)
end Go.Proofs.YtaibkchbkedjnaaGreatDoor
