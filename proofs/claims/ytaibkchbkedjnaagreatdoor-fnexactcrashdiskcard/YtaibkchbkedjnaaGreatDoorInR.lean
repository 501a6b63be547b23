/- Lemmas on the way. -/
import Derived.Test.YtaibkchbkedjnaaGreatDoorLPut2
import Derived.Test.YtaibkchbkedjnaaGreatDoorElSz
import Derived.Test.YtaibkchbkedjnaaGreatDoorOps
import Derived.Test.YtaibkchbkedjnaaGreatDoorCodes3
import Derived.Deep.RegionHeld3
import Derived.Test.YtaibkchbkedjnaaGreatDoorNGet2
import Derived.Test.YtaibkchbkedjnaaGreatDoorSqB
import Derived.Test.YtaibkchbkedjnaaGreatDoorFg3
import Derived.Test.YtaibkchbkedjnaaGreatDoorINormP
import Derived.Laws.AppendOwn
set_option maxRecDepth 20000
set_option maxHeartbeats 16000000
namespace Go.Proofs.YtaibkchbkedjnaaGreatDoor
open Go.RowKit
set_option linter.unusedVariables false
set_option linter.unusedSimpArgs false
theorem bit_eq_all (U V p M:Nat) (hU:U<2 ^ M) (h:∀ i,i<M→U / 2 ^ i % 2=V / 2 ^ (p+i) % 2):U=bt V p M:=by
 apply Nat.eq_of_testBit_eq
 intro i
 unfold bt
 rw [Nat.testBit_mod_two_pow]
 by_cases hi:i<M
 ·have h1:=h i hi
  rw [decide_eq_true hi,Bool.true_and,Nat.testBit_eq_decide_div_mod_eq,Nat.testBit_eq_decide_div_mod_eq,Nat.div_div_eq_div_mul,←Nat.pow_add,h1]
 ·rw [decide_eq_false hi,Bool.false_and]
  exact Nat.testBit_lt_two_pow (Nat.lt_of_lt_of_le hU (Nat.pow_le_pow_right (by omega) (by omega)))
theorem bit_of_bt (V p M i:Nat) (hi:i<M):bt V p M / 2 ^ i % 2=V / 2 ^ (p+i) % 2:=by
 have h:(bt V p M).testBit i=(V / 2 ^ p).testBit i:=by unfold bt;rw [Nat.testBit_mod_two_pow,decide_eq_true hi,Bool.true_and]
 rw [Nat.testBit_eq_decide_div_mod_eq,Nat.testBit_eq_decide_div_mod_eq,Nat.div_div_eq_div_mul,←Nat.pow_add] at h
 have h1:bt V p M / 2 ^ i % 2<2:=Nat.mod_lt _ (by omega)
 have h2:V / 2 ^ (p+i) % 2<2:=Nat.mod_lt _ (by omega)
 by_cases c:bt V p M / 2 ^ i % 2=1
 ·by_cases d:V / 2 ^ (p+i) % 2=1
  ·omega
  ·simp [c,d] at h
 ·by_cases d:V / 2 ^ (p+i) % 2=1
  ·simp [c,d] at h
  ·omega
def lgR (w w':World) (n V p s:Nat) (e:Ending):Prop:=Below w.heap.size w w' ∧
   (∀ res q,giY n V p s res q→∃ a' cp,e=.returned (.tuple #[.slice a' res.length cp,.int .i64 (q:Nat),.bool true])∧MinI w' w.heap.size w'.heap.size a' cp res) ∧
   ((¬∃ res q,giY n V p s res q)→e=.returned (.tuple #[.slice none 0 0,.int .i64 (-1),.bool false]))
theorem lgR.no {w w':World} {n V p s:Nat} (hb:Below w.heap.size w w') (h:¬∃ res q,giY n V p s res q):lgR w w' n V p s (.returned (.tuple #[.slice none 0 0,.int .i64 (-1),.bool false])):=
 And.intro hb (And.intro (fun res q hy=>absurd ⟨res,q,hy⟩ h) (fun _=>rfl))
theorem lgR.yes {w w':World} {n V p s q:Nat} {res:List Int} {a':Option Addr} {cp:Nat} (hb:Below w.heap.size w w') (h:giY n V p s res q) (hm:MinI w' w.heap.size w'.heap.size a' cp res):lgR w w' n V p s (.returned (.tuple #[.slice a' res.length cp,.int .i64 (q:Nat),.bool true])):=by
 refine And.intro hb (And.intro (fun res' q' hy=>?_) (fun hno=>absurd ⟨res,q,h⟩ hno))
 obtain ⟨rfl,rfl⟩:res=res'∧q=q':=by have:=hy.1;rw [h.1] at this;simpa using this
 exact ⟨_,_,rfl,hm⟩
theorem giY_iff {n V p s q:Nat} {res:List Int}:giY n V p s res q↔gqY n V p s res q∧lpF res=(q-p,bt V p (q-p)):=by
 unfold giY gqY
 rw [gi_iff]
 constructor
 ·rintro ⟨⟨h1,h2,h3⟩,h4⟩
  exact ⟨⟨h1,h2,h4⟩,h3⟩
 ·rintro ⟨⟨h1,h2,h4⟩,h3⟩
  exact ⟨⟨h1,h2,h3⟩,h4⟩
def Bx2 (W:World) (X Y:Nat) (a ya:Option Addr) (la ca ly cy n M:Nat):Prop:=W.cell? ⟨X,0,none⟩=some (.slice a la ca)∧W.cell? ⟨X,1,none⟩=some (.int .i64 (n:Nat))∧W.cell? ⟨Y,0,none⟩=some (.slice ya ly cy)∧W.cell? ⟨Y,1,none⟩=some (.int .i64 (M:Nat))
theorem Bx2.below {W W':World} {X Y:Nat} {a ya:Option Addr} {la ca ly cy n M:Nat} (h:Bx2 W X Y a ya la ca ly cy n M) (hb:Below W.heap.size W W'):Bx2 W' X Y a ya la ca ly cy n M:=
 ⟨keep hb (World.block_lt_of_cell? _ _ h.1) h.1,keep hb (World.block_lt_of_cell? _ _ h.2.1) h.2.1,keep hb (World.block_lt_of_cell? _ _ h.2.2.1) h.2.2.1,keep hb (World.block_lt_of_cell? _ _ h.2.2.2) h.2.2.2⟩
theorem specLensGet_ok (a:Option Addr) (cap:Nat) (zs:List Int) (n p s:Nat) (w:World) (hb:Byt w a zs) (hO:okB (n:Int) zs=true) (hz:zs=enc n (val zs)) (hn:n≤4096) (hp:p≤n) (hs1:1≤s) (hs:s≤80) :
  Calls Tryz.prog 157 #[.agg #[.slice a zs.length cap,.int .i64 n],.int .i64 p,.int .i64 s] w fun e w'=>lgR w w' n (val zs) p s e:=by
 have hw:Below w.heap.size w (w.alloc (Obj.cells #[.slice a zs.length cap,.int .i64 n] 155)):=ba
 have hl:zs.length≤281474976710656:=by rw [hz,enc_len];omega
 have HO:Hid (okB (n:Int) zs=true):=hO
 have HZ:Hid (zs=enc n (val zs)):=hz
 clear hO hz
 generalize hV:val zs=V at *
 clear hV
 go_enter Tryz.func157,Tryz.ntmps157
 go_wp2_with fail
 refine (specOk_any a cap zs _ _ (hb.below hw nl) hl).mono ?_
 rintro e w1 ⟨rfl,hb1⟩
 rw [HO.out]
 have q0:w1.cell? ⟨w.heap.size,0,none⟩=some (.slice a zs.length cap):=keep hb1 (by simp) (by simp)
 have q1:w1.cell? ⟨w.heap.size,1,none⟩=some (.int .i64 n):=keep hb1 (by simp) (by simp)
 have hbb:=hw.trans (hb1.mono (by simp))
 clear hb1 hw
 go_wp2_with fail
 refine (l2getLens_any a cap zs n V p s w1 (hb.below hbb nl) HZ.out hn hp hs1 hs).mono ?_
 rintro e w2 ⟨hb2,hy,hno⟩
 have HB2:Hid (Below w.heap.size w w2):=hbb.trans (hb2.mono hbb.size)
 have hsz:=hbb.size
 have p0:=keep hb2 (World.block_lt_of_cell? _ _ q0) q0
 have p1:=keep hb2 (World.block_lt_of_cell? _ _ q1) q1
 clear hb2 q0 q1
 by_cases hg:∃ res q,gqY n V p s res q
 ·obtain ⟨res,q,hr⟩:=hg
  obtain ⟨a',cp,rfl,hm⟩:=hy res q hr
  have HY:Hid (gqY n V p s res q):=hr
  have HA:Hid (MinI w2 w.heap.size w2.heap.size a' cp res):=hm.mono hsz nl
  obtain ⟨hl1,hl2,hl3⟩:=lensB_ok hr.2.2
  have hpq:=(gq_ext n V s s p [] res q hr.1).2
  have HPU:=l2putLens_any a' cp res w2.heap.size w2.heap.size w2 _ HA.out.byt rfl ((Below.refl _ _).alloc nl (.cells #[.slice none 0 0,.int .i64 0] 155)) (SI.new w2 _ nl) hl2 hl3
  have HMU:Hid (∃ M U,lpF res=(M,U)∧M≤560):=⟨_,_,rfl,by have:=lp_le res res.length 0 0 0;show (lp res res.length 0 0 0).1≤560;omega⟩
  obtain ⟨M,U,hMU,hM5⟩:=HMU.out
  rw [hMU] at HPU
  have HLP:Hid (lpF res=(M,U)):=hMU
  have HUQ:Hid (∀ res' q',giY n V p s res' q'→res'=res∧q'=q∧M=q-p∧U=bt V p (q-p)):=by
   intro res' q' h
   obtain ⟨h1,h2⟩:=giY_iff.1 h
   obtain ⟨rfl,rfl⟩:res=res'∧q=q':=by have:=h1.1;rw [HY.out.1] at this;simpa using this
   rw [HLP.out] at h2
   simp only [Prod.mk.injEq] at h2
   exact ⟨rfl,rfl,h2⟩
  have HYES:Hid (M=q-p→U=bt V p (q-p)→giY n V p s res q):=fun h1 h2=>giY_iff.2 ⟨HY.out,by rw [HLP.out,←h2,h1]⟩
  clear hm hy hno hr hl3 hMU HMU
  generalize hrl:res.length=rl at *
  have HRL:Hid (res.length=rl):=hrl
  clear hrl
  go_wp2_with fail
  refine HPU.mono ?_
  clear HPU
  rintro e w4 ⟨rfl,⟨v,hR,hov,hU,hBR,-⟩,hb4⟩
  obtain ⟨ya,yc,rfl,hmy⟩:=hov.mine
  have HB4:Hid (Below w.heap.size w w4):=HB2.out.trans (hb4.mono HB2.out.size)
  have HA4:Hid (MinI w4 w.heap.size w4.heap.size a' cp res):=(HA.out.below hb4).mono nl hb4.size
  have HYB:Hid (Byt w4 ya (enc M U)∧U<2 ^ M):=⟨hmy.byt,hU⟩
  have y0:=cellRR (j:=0) hR rfl
  have y1:=cellRR (j:=1) hR rfl
  have HBX:Hid (Bx2 w4 w.heap.size w2.heap.size a ya zs.length cap (enc M U).length yc n M):=⟨keep hb4 (World.block_lt_of_cell? _ _ p0) p0,keep hb4 (World.block_lt_of_cell? _ _ p1) p1,y0,y1⟩
  clear hov hmy hU hBR hb4 p0 p1 HA
  by_cases hMq:M=q-p
  ·have hMi:((M:Int) != (q:Int)-(p:Int))=false:=by simp;omega
   have HMQ:Hid (M=q-p∧True):=⟨hMq,trivial⟩
   clear hMq
   have HL7:Hid ((enc M U).length=(M+7) / 8∧zs.length=(n+7) / 8):=⟨enc_len M U,by rw [HZ.out];exact enc_len n V⟩
   have HQ:Hid (q≤n):=hpq.2 hp
   have hx1:=HBX.out.2.1
   have hy1:=HBX.out.2.2.2
   clear y0 y1
   go_wp2
   go_loopw [13] (fun iv wr=>∃ k:Nat,k≤M∧iv=.int .i64 k∧(∀ j,j<k→U / 2 ^ j % 2=V / 2 ^ (p+j) % 2)∧Below w4.heap.size w4 wr) (fun iv _=>M-(intOf iv).toNat)
   case atStart=>exact ⟨0,Nat.zero_le _,rfl,fun j hj=>by omega,Below.refl _ _⟩
   case round=>
    clear hx1 hy1
    obtain ⟨k,hk,rfl,hall,hbel⟩:=hrel
    have HAL:Hid (∀ j,j<k→U / 2 ^ j % 2=V / 2 ^ (p+j) % 2):=hall
    have HBR:Hid (Below w4.heap.size w4 wr):=hbel
    have HBX2:Hid (Bx2 wr w.heap.size w2.heap.size a ya zs.length cap (enc M U).length yc n M):=HBX.out.below hbel
    have hy1:=HBX2.out.2.2.2
    clear hall hbel
    by_cases hlt:k<M
    ·have hlt2:(k:Int)<(M:Int):=by omega
     have HU:Hid (bitAt (enc M U) (((k:Nat):Int)).toNat=U / 2 ^ k % 2):=by rw [Int.toNat_natCast];exact enc_bit M U k hlt
     have HV:Hid (bitAt zs ((p:Int)+(k:Int)).toNat=V / 2 ^ (p+k) % 2):=by
      have:=enc_bit n V (p+k) (by have:=HQ.out;have:=HMQ.out.1;omega)
      rw [←HZ.out] at this
      rw [show ((p:Int)+(k:Int)).toNat=p+k from by omega]
      exact this
     have HNE:Hid (¬U / 2 ^ k % 2=V / 2 ^ (p+k) % 2→¬∃ res q,giY n V p s res q):=by
      rintro h ⟨res',q',hh⟩
      obtain ⟨-,-,h3,h4⟩:=HUQ.out res' q' hh
      rw [←h3] at h4
      apply h
      rw [h4]
      exact bit_of_bt V p M k hlt
     have HAS:Hid (U / 2 ^ k % 2=V / 2 ^ (p+k) % 2→∀ j,j<k+1→U / 2 ^ j % 2=V / 2 ^ (p+j) % 2):=by
      intro h j hj
      by_cases he:j=k
      ·rw [he];exact h
      ·exact HAL.out j (by omega)
     have hu2:U / 2 ^ k % 2<2:=Nat.mod_lt _ (by omega)
     have hv2:V / 2 ^ (p+k) % 2<2:=Nat.mod_lt _ (by omega)
     have HBY:Hid (Byt wr ya (enc M U)∧Byt wr a zs):=⟨HYB.out.1.below HBR.out nl,(hb.below HB4.out nl).below HBR.out nl⟩
     generalize U / 2 ^ k % 2=u at *
     generalize V / 2 ^ (p+k) % 2=x at *
     generalize enc M U=ys at *
     have hkM:k<560:=by omega
     have hpn:p≤4096:=by omega
     have HWR:Hid (IntKind.i64.wrap ((p:Int)+(k:Int))=(p:Int)+(k:Int)∧True):=⟨by rw [IntKind.wrap_i64];omega,trivial⟩
     go_wp2_with fail
     go_region_held3 (fun W=>W.cell? ⟨w.heap.size,0,none⟩=some (.slice a zs.length cap)∧W.cell? ⟨w.heap.size,1,none⟩=some (.int .i64 (n:Nat))∧W.cell? ⟨w2.heap.size,0,none⟩=some (.slice ya ys.length yc)∧W.cell? ⟨w2.heap.size,1,none⟩=some (.int .i64 (M:Nat)))
      (first | exact HBX2.out | exact HBX7.out | exact HBX8.out)
      (first
       | (go_at_call_of 176 (Value.agg #[.slice ya ys.length yc,.int .i64 (M:Nat)]);refine (l1bit_any ya yc ys (M:Nat) (k:Nat) _ (by exact HBY.out.1) (by omega) (by have:=HL7.out.1;omega) (by omega)).mono ?_;rintro e w7 ⟨rfl,hb7⟩;have HB7:Hid (Below wr.heap.size wr w7):=(by first | exact hb7 | exact Below.drewS hb7);have HBX7:Hid (Bx2 w7 w.heap.size w2.heap.size a ya zs.length cap ys.length yc n M):=HBX2.out.below HB7.out;rw [HU.out];clear hb7)
       | (go_at_call_of 176 (Value.agg #[.slice a zs.length cap,.int .i64 (n:Nat)]);rw [HWR.out.1];refine (l1bit_any a cap zs (n:Nat) ((p:Int)+(k:Int)) _ (by exact HBY.out.2.below HB7.out nl) (by omega) (by have:=HL7.out.2;have:=HQ.out;have:=HMQ.out.1;omega) (by omega)).mono ?_;rintro e w8 ⟨rfl,hb8⟩;have HB8:Hid (Below wr.heap.size wr w8):=(by first | exact HB7.out.trans (hb8.mono HB7.out.size) | exact HB7.out.trans ((Below.drewS hb8).mono HB7.out.size));have HBX8:Hid (Bx2 w8 w.heap.size w2.heap.size a ya zs.length cap ys.length yc n M):=HBX2.out.below HB8.out;rw [HV.out];clear hb8))
     have HBF:Hid (Below w.heap.size w w8):=HB4.out.trans ((HBR.out.trans (HB8.out.mono HBR.out.size)).mono HB4.out.size)
     have HBG:Hid (Below w4.heap.size w4 w8):=HBR.out.trans (HB8.out.mono HBR.out.size)
     clear HBX7 HBX8 HBX2 HB7 HB8 hy1
     by_cases hux:u=x
     ·have HAN:=HAS.out hux
      have hux2:((u:Int) != (x:Int))=false:=by simp;omega
      have HAN2:Hid _:=HAN
      clear HAN HAS HNE hux
      go_wp2
      go_roundw
      case rel=>exact ⟨k+1,by omega,by go_num,HAN2.out,HBG.out⟩
      case measure=>simp [intOf];omega
     ·have hux2:((u:Int) != (x:Int))=true:=by simp;omega
      have HN:Hid (¬∃ res q,giY n V p s res q):=HNE.out hux
      clear HAS HNE hux
      go_wp2
      exact bodyPost_ret (v:=.tuple #[.slice none 0 0,.int .i64 (-1),.bool false]) (by simp [results,Tryz.results157,go_sem]) rfl (lgR.no HBF.out HN.out)
    ·have hkM:k=M:=by omega
     subst hkM
     have hke:¬(k:Int)<(k:Int):=by omega
     have HYY:Hid (giY n V p s res q):=HYES.out HMQ.out.1 (by rw [←HMQ.out.1];exact bit_eq_all U V p k HYB.out.2 HAL.out)
     have HBF:Hid (Below w.heap.size w wr):=HB4.out.trans (HBR.out.mono HB4.out.size)
     have HMF:Hid (MinI wr w.heap.size wr.heap.size a' cp res):=(HA4.out.below HBR.out).mono nl HBR.out.size
     go_wp2
     refine bodyPost_ret (v:=.tuple #[.slice a' rl cp,.int .i64 (q:Nat),.bool true]) (by simp [results,Tryz.results157,go_sem]) rfl ?_
     rw [←HRL.out]
     exact lgR.yes HBF.out HYY.out HMF.out
  ·have hMi:((M:Int) != (q:Int)-(p:Int))=true:=by simp;omega
   have HN:Hid (¬∃ res q,giY n V p s res q):=by
    rintro ⟨res',q',h⟩
    exact hMq (HUQ.out res' q' h).2.2.1
   go_wp2
   exact bodyPost_ret (v:=.tuple #[.slice none 0 0,.int .i64 (-1),.bool false]) (by simp [results,Tryz.results157,go_sem]) rfl (lgR.no HB4.out HN.out)
 ·obtain ⟨v,y,rfl⟩:=hno hg
  have HN:Hid (¬∃ res q,giY n V p s res q):=by
   rintro ⟨res',q',h⟩
   exact hg ⟨res',q',(giY_iff.1 h).1⟩
  clear hy hno hg
  go_wp2
  exact bodyPost_ret (v:=.tuple #[.slice none 0 0,.int .i64 (-1),.bool false]) (by simp [results,Tryz.results157,go_sem]) rfl (lgR.no HB2.out HN.out)
theorem wpowN (k:Nat) (h:k≤12):wrap64 (2 ^ k)=((2 ^ k:Nat):Int):=by
 have h2:2 ^ k≤2 ^ 12:=Nat.pow_le_pow_right (by omega) h
 have e:((2:Int) ^ k)=((2 ^ k:Nat):Int):=by simp
 rw [e]
 generalize 2 ^ k=P at *
 exact IntWalk.wrap64_in _ (by omega)
theorem l3getNorm_any (a:Option Addr) (cap:Nat) (zs:List Int) (n V p s:Nat) (w:World) (hb:Byt w a zs) (hz:zs=enc n V) (hn:n≤4096) (hp:p≤n) (hs1:1≤s) (hs:s≤80) :
  Calls Tryz.prog 160 #[.agg #[.slice a zs.length cap,.int .i64 n],.int .i64 p,.int .i64 s] w fun e w'=>Below w.heap.size w w' ∧
   (gotN n V p s→e=.returned (.tuple #[.slice (some ⟨w.heap.size+1,0,none⟩) s s,.int .i64 ((gL V p s).2:Nat),.bool true])∧OwI w' w.heap.size (w.heap.size+1) s (gXs V p s)) ∧
   (¬gotN n V p s→∃ v y,e=.returned (.tuple #[v,.int .i64 y,.bool false])):=by
 obtain ⟨i0,hi,hz0,hz1,hz2⟩:=info_parts Tryz.infoI64
 have HZ:Hid (zs=enc n V):=hz
 have HXL:Hid _:=gXs_len V p s
 have HBW:Hid (Below w.heap.size w (w.alloc (Obj.cells #[.slice a zs.length cap,.int .i64 n] 155))):=ba
 have q0:(w.alloc (Obj.cells #[.slice a zs.length cap,.int .i64 n] 155)).cell? ⟨w.heap.size,0,none⟩=some (.slice a zs.length cap):=by simp
 have q1:(w.alloc (Obj.cells #[.slice a zs.length cap,.int .i64 n] 155)).cell? ⟨w.heap.size,1,none⟩=some (.int .i64 n):=by simp
 have Q:Hid _:=(⟨q0,q1⟩:_∧_)
 clear hz q0 q1
 go_enter Tryz.func160,Tryz.ntmps160
 go_wp2_with (at_make;refine wpList_make_full _ rfl _ _ 29 rfl w.heap.size 3 i0 (.int .i64 0) 1 Tryz.underlying29 hi hz0 hz1 .i64 .i64 _ _ s rfl rfl rfl rfl (by rw [hz2];omega) (by unfold maxLen;omega) (by simp) ?_;intro w1 hown hgrow)
 have h0:OwI w1 w.heap.size (w.heap.size+1) s (part (gXs V p s) 0):=by
  rw [part_zero,gXs_len]
  refine ⟨?_,by intro z hz;simp at hz;omega⟩
  rw [made_zeroI] at hown
  simpa using hown
 have hb1:Below (w.heap.size+1) (w.alloc (Obj.cells #[.slice a zs.length cap,.int .i64 n] 155)) w1:=(Below.refl _ _).grown hgrow (by simp) (by intro k hk;cases hk)
 have H0:Hid (OwI w1 w.heap.size (w.heap.size+1) s (part (gXs V p s) 0)):=h0
 have HB1:Hid (Below (w.heap.size+1) (w.alloc (Obj.cells #[.slice a zs.length cap,.int .i64 n] 155)) w1):=hb1
 clear h0 hown hgrow hi hz0 hz1 hz2 hb1
 generalize w.alloc (Obj.cells #[.slice a zs.length cap,.int .i64 n] 155)=W0 at *
 go_loopw [1,10,11] (fun t l i wr=>∃ k:Nat,k≤s∧i=.int .i64 k∧Below (w.heap.size+1) W0 wr ∧
   ((good n V p k∧l=.int .i64 ((gL V p k).1:Nat)∧t=.int .i64 ((gL V p k).2:Nat)∧OwI wr w.heap.size (w.heap.size+1) s (part (gXs V p s) k)) ∨
    (∃ L y:Int,L<0∧l=.int .i64 L∧t=.int .i64 y∧¬gotN n V p s))) (fun _ _ i _=>s-(intOf i).toNat)
 case atStart=>exact ⟨0,Nat.zero_le _,rfl,HB1.out,.inl ⟨fun j hj=>by omega,rfl,rfl,H0.out⟩⟩
 case round=>
  clear H0 HB1
  obtain ⟨k,hk,rfl,hbel,⟨hgood,rfl,rfl,hown⟩ | ⟨L,y,hL,rfl,rfl,hno⟩⟩:=hrel
  ·have HGD:Hid (good n V p k):=hgood
   have HO:Hid (OwI wr w.heap.size (w.heap.size+1) s (part (gXs V p s) k)):=hown
   have hq:=good_pos hp hgood
   have hbw:Below w.heap.size w wr:=HBW.out.trans (hbel.mono (by omega))
   have HBB:Hid (Below w.heap.size w wr):=hbw
   have b0:=keep hbel (by omega) Q.out.1
   have b1:=keep hbel (by omega) Q.out.2
   clear hgood hown hbw
   have hl:=gL_le V p k
   by_cases c0:(gL V p k).1=0
   ·obtain ⟨r1,r2,r3,r4⟩:=gL_rest hp HGD.out c0 s hk
    have HY:Hid (gotN n V p s):=⟨r1,r2⟩
    have HR3:Hid ((gL V p s).2=(gL V p k).2):=r3
    have hall:=HO.out
    rw [part_rest (by rw [HXL.out];exact hk) (fun j h1 h2=>by rw [HXL.out] at h2;rw [gXs_get V p s j h2,r4 j h1 h2];rfl)] at hall
    have HA:Hid (OwI wr w.heap.size (w.heap.size+1) s (gXs V p s)):=hall
    rw [c0]
    clear r1 r2 r3 r4 hall HO HGD c0 hl
    generalize (gL V p k).2=q at *
    by_cases hlt:k<s
    ·go_wp2
     exact bodyPost_ret (v:=.tuple #[.slice (some ⟨w.heap.size+1,0,none⟩) s s,.int .i64 (q:Nat),.bool true]) (by simp [results,Tryz.results160,go_sem]) rfl ⟨HBB.out,fun _=>⟨by rw [HR3.out],HA.out⟩,fun h=>absurd HY.out h⟩
    ·go_wp2
     exact bodyPost_ret (v:=.tuple #[.slice (some ⟨w.heap.size+1,0,none⟩) s s,.int .i64 (q:Nat),.bool true]) (by simp [results,Tryz.results160,go_sem]) rfl ⟨HBB.out,fun _=>⟨by rw [HR3.out],HA.out⟩,fun h=>absurd HY.out h⟩
   ·by_cases hlt:k<s
    ·have hb7:=bl_le7 _ hl
     have HXG:Hid ((gXs V p s).getD k 0=(gX V p k:Nat)):=gXs_get V p s k hlt
     have HX:Hid (gX V p k=V / 2 ^ (gL V p k).2 % 2 ^ bl (gL V p k).1):=rfl
     have hx:=gX_lt V p k
     have HBS:Hid _:=bad_size (n:=n) (V:=V) (p:=p) hlt
     have HBX:Hid _:=bad_share (n:=n) (V:=V) (p:=p) hlt
     have HGS:Hid _:=@good_succ n V p k
     have HS1:Hid _:=gL_succ1 V p k
     have HS2:Hid _:=gL_succ2 V p k
     have HB8:Hid _:=bl_lt (gL V p k).1 (by omega)
     have HGE:Hid _:=fun j hj=>bl_ge (gL V p k).1 j (by omega) hj
     generalize (gL V p k).1=l at *
     generalize (gL V p k).2=q at *
     generalize gX V p k=x at *
     generalize bl l=m at *
     have hl0:(0:Int)<l:=by omega
     go_wp2
     go_loopw [12] (fun i wi=>∃ j:Nat,j≤m∧i=.int .i64 j∧wi=wr) (fun i _=>m-(intOf i).toNat)
     case atStart=>exact ⟨0,Nat.zero_le _,rfl,rfl⟩
     case round=>
      obtain ⟨j,hj,rfl,rfl⟩:=hrel
      by_cases hjl:j<m
      ·have hp2:wrap64 (2 ^ j)≤(l:Int):=by rw [wpowN j (by omega)];have:=HGE.out j hjl;omega
       go_wp2
       go_roundw
       case rel=>exact ⟨j+1,by omega,by go_num,by simp⟩
       case measure=>simp [intOf];omega
      ·have hjm:j=m:=by omega
       subst hjm
       have hp1:(l:Int)<wrap64 (2 ^ j):=by rw [wpowN _ (by omega)];have:=HB8.out;omega
       have hp2:decide (wrap64 (2 ^ j)≤(l:Int))=false:=by simpa using hp1
       clear hj hjl HGE HB8 hp1
       by_cases c1:q+j≤n
       ·go_wp2_with fail
        refine (l1get_any a cap zs n q j n V _ (hb.below HBB.out nl) HZ.out (by omega) (by omega) (by omega) (by omega) (by omega)).mono ?_
        rintro e w2 ⟨rfl,hb2⟩
        have hxe:V / 2 ^ ((q:Nat):Int).toNat % 2 ^ ((j:Nat):Int).toNat=x:=by rw [HX.out];simp
        rw [hxe]
        have HO2:Hid (OwI w2 w.heap.size (w.heap.size+1) s (part (gXs V p s) k)):=HO.out.below hb2 nl
        have hlt1:=HO.out.lt.2
        have hbel2:Below (w.heap.size+1) W0 w2:=hbel.trans (hb2.mono (by omega))
        have hpl:(part (gXs V p s) k).length=s:=by rw [part_len _ _ (by rw [HXL.out];omega)];exact HXL.out
        have hdst:=HO2.out.cell k (by omega)
        have hfz:=HO2.out.frozen k
        have R2:=HO2.out.store k ((gXs V p s).getD k 0) (by rw [HXG.out];omega)
        rw [part_set _ _ (by rw [HXL.out];exact hlt),HXG.out] at R2
        have HR2:Hid (OwI (w2.setCell ⟨w.heap.size+1,k,none⟩ (.int .i64 (x:Nat))) w.heap.size (w.heap.size+1) s (part (gXs V p s) (k+1))):=R2
        have HB2:Hid (Below (w.heap.size+1) W0 (w2.setCell ⟨w.heap.size+1,k,none⟩ (.int .i64 (x:Nat)))):=hbel2.setCell (p:=⟨w.heap.size+1,k,none⟩) nl (.int .i64 (x:Nat))
        clear R2 hpl HO2 hbel2 HX HXG hxe hbel b0 b1 HO hb2 hp2
        generalize (part (gXs V p s) k).getD k 0=old at *
        by_cases c2:x≤l
        ·have HG2:Hid (good n V p (k+1)):=HGS.out HGD.out c1 c2
         have E1:Hid ((l:Int)-(x:Nat)=(((gL V p (k+1)).1:Nat):Int)):=by have:=HS1.out;unfold Hid;omega
         have E2:Hid ((q:Int)+(j:Nat)=(((gL V p (k+1)).2:Nat):Int)):=by have:=HS2.out;unfold Hid;omega
         clear HS1 HS2 HBS HBX HGS
         go_wp2
         go_roundw
         case rel=>exact ⟨k+1,by omega,by go_num,by simpa using HB2.out,.inl ⟨HG2.out,by rw [E1.out],by rw [E2.out],by simpa using HR2.out⟩⟩
         case measure=>simp [intOf];omega
        ·have HN:Hid (¬gotN n V p s):=fun h=>HBX.out c2 h.1
         clear HS1 HS2 HBS HBX HGS
         go_wp2
         go_roundw
         case rel=>exact ⟨k+1,by omega,by go_num,by simpa using HB2.out,.inr ⟨(l:Int)-x,(q:Int)+j,by omega,rfl,rfl,HN.out⟩⟩
         case measure=>simp [intOf];omega
       ·have HN:Hid (¬gotN n V p s):=fun h=>HBS.out c1 h.1
        clear HS1 HS2 HBS HBX HGS HX HXG HO
        go_wp2
        exact bodyPost_ret (v:=.tuple #[.slice none 0 0,.int .i64 (-1),.bool false]) (by simp [results,Tryz.results160,go_sem]) rfl ⟨HBB.out,fun h=>absurd h HN.out,fun _=>⟨_,_,rfl⟩⟩
    ·have hks:k=s:=by omega
     subst hks
     have HN:Hid (¬gotN n V p k):=fun h=>c0 h.2
     generalize (gL V p k).1=l at *
     generalize (gL V p k).2=q at *
     have hne:((l:Int) == 0)=false:=by simp;omega
     clear HO HGD
     go_wp2
     exact bodyPost_ret (v:=.tuple #[.slice (some ⟨w.heap.size+1,0,none⟩) k k,.int .i64 (q:Nat),.bool false]) (by simp [results,Tryz.results160,go_sem]) rfl ⟨HBB.out,fun h=>absurd h HN.out,fun _=>⟨_,_,rfl⟩⟩
  ·have HN:Hid (¬gotN n V p s):=hno
   have HBB:Hid (Below w.heap.size w wr):=HBW.out.trans (hbel.mono (by omega))
   have hne:(L == 0)=false:=by simp;omega
   clear hno hbel
   by_cases hlt:k<s
   ·go_wp2
    exact bodyPost_ret (v:=.tuple #[.slice (some ⟨w.heap.size+1,0,none⟩) s s,.int .i64 y,.bool false]) (by simp [results,Tryz.results160,go_sem]) rfl ⟨HBB.out,fun h=>absurd h HN.out,fun _=>⟨_,_,rfl⟩⟩
   ·go_wp2
    exact bodyPost_ret (v:=.tuple #[.slice (some ⟨w.heap.size+1,0,none⟩) s s,.int .i64 y,.bool false]) (by simp [results,Tryz.results160,go_sem]) rfl ⟨HBB.out,fun h=>absurd h HN.out,fun _=>⟨_,_,rfl⟩⟩
theorem l3spread_any (a:Option Addr) (cap:Nat) (zs:List Int) (w:World) (hb:Ins w a zs) (hn:normB zs=true) :
  Calls Tryz.prog 196 #[.slice a zs.length cap] w fun e w'=>e=.returned (.slice (some ⟨w.heap.size,0,none⟩) 64 64)∧OwI w' w.heap.size w.heap.size 64 (pl (fl 0 zs) (plc 64))∧Below w.heap.size w w':=by
 obtain ⟨i0,hi,hz0,hz1,hz2⟩:=info_parts Tryz.infoI64
 have hbd:=normB_bnd hn
 have hall:(∀ z ∈ zs,0≤z)∧zs.sum=64:=by
  simp only [normB,decide_eq_true_eq] at hn
  exact ⟨fun z hz=>(hn.2.2.1 z hz).1,hn.2.2.2⟩
 have HN:Hid (normB zs=true):=hn
 have HA:Hid ((∀ z ∈ zs,0≤z)∧zs.sum=64):=hall
 have HB:Hid (Ins w a zs):=hb
 clear hn hall hb
 generalize hL:zs.length=n at *
 have HL:Hid (zs.length=n):=hL
 clear hL
 go_enter Tryz.func196,Tryz.ntmps196
 go_wp2_with (at_make;refine wpList_make_full _ rfl _ _ 29 rfl w.heap.size 3 i0 (.int .i64 0) 1 Tryz.underlying29 hi hz0 hz1 .i64 .i64 _ _ 64 rfl rfl rfl rfl (by rw [hz2];omega) (by unfold maxLen;omega) nl ?_;intro w1 hown hgrow)
 have HR1:Hid (OwI w1 w.heap.size w.heap.size 64 (pl (fl 0 zs) (plc 0))):=made_rowI hown
 have HB1:Hid (Below w.heap.size w w1):=(Below.refl _ _).grown hgrow nl (fun k hk=>by cases hk)
 clear hown hgrow
 generalize hG:w.heap.size=G at *
 have HG:Hid (w.heap.size=G):=hG
 clear hG
 go_loopw [4,5] (fun at_ i wr=>∃ k M:Nat,k≤n∧i=.int .i64 k∧M=(zs.take k).sum.toNat∧at_=.int .i64 ((43*M % 64:Nat):Int)∧OwI wr G G 64 (pl (fl 0 zs) (plc M))∧Below G w wr) (fun _ i _=>n-(intOf i).toNat)
 case atStart=>exact ⟨0,0,Nat.zero_le _,rfl,by simp,rfl,HR1.out,HB1.out⟩
 case round=>
  obtain ⟨k,M,hk,rfl,hM,rfl,hr,hbw⟩:=hrel
  by_cases hlt:k<n
  ·obtain ⟨b1,o1,rfl,hb1,hc1⟩:=HB.out.len_pos k (by rw [HL.out];exact hlt)
   have hs1:=hc1 k (by rw [HL.out];exact hlt)
   have hg:=normB_get HN.out k (by rw [HL.out];exact hlt)
   obtain ⟨z,hz⟩:=Int.eq_ofNat_of_zero_le hg.1
   have HZ:Hid (zs.getD k 0=(z:Int)):=hz
   have hsc:=hs1
   rw [hz] at hsc hg
   have HS:Hid (w.cell? ⟨b1,o1+k,none⟩=some (.int .i64 z)):=hsc
   have HBW:Hid (Below G w wr):=hbw
   have HRR:Hid (OwI wr G G 64 (pl (fl 0 zs) (plc M))):=hr
   have HM:Hid (M=(zs.take k).sum.toNat):=hM
   rw [HG.out] at hb1
   have hz64:z≤64:=by omega
   clear hs1 hsc hc1 hz hbw hr hM hg
   generalize hq:43*M % 64=q at *
   have HQ:Hid (43*M % 64=q):=hq
   clear hq
   go_wp2
   go_loopw [4,6] (fun at_ j wr=>∃ m M':Nat,m≤z∧j=.int .i64 m∧M'=M+m∧at_=.int .i64 ((43*M' % 64:Nat):Int)∧OwI wr G G 64 (pl (fl 0 zs) (plc M'))∧Below G w wr) (fun _ j _=>z-(intOf j).toNat)
   case atStart=>exact ⟨0,M,Nat.zero_le _,rfl,by simp,by rw [HQ.out],HRR.out,HBW.out⟩
   case round=>
    obtain ⟨m,M',hm,rfl,hM',rfl,hr,hbw⟩:=hrel
    have hcell:wr.cell? ⟨b1,o1+k,none⟩=some (.int .i64 z):=keep hbw hb1 HS.out
    by_cases hmz:m<z
    ·have HF:Hid ((fl 0 zs).getD M' 0=((k:Nat):Int)):=by
      have:=fl_at zs 0 k m HA.out.1 (by rw [HL.out];exact hlt) (by rw [HZ.out];omega)
      rw [←HM.out,←hM',Nat.zero_add] at this
      exact this
     obtain ⟨q',hq'⟩:∃ q',43*M' % 64=q':=⟨_,rfl⟩
     have hq64:q'<64:=by omega
     have HP:Hid ((pl (fl 0 zs) (plc M')).set q' (k:Int)=pl (fl 0 zs) (plc (M'+1))):=by
      unfold Hid
      rw [plc_succ,pl_snoc,plc_len,HF.out,hq']
     have hc2:=hr.cell q' (by rw [pl_len];exact hq64)
     have hf2:=hr.frozen q'
     have HRW:Hid (OwI (wr.setCell ⟨G,q',none⟩ (.int .i64 k)) G G 64 (pl (fl 0 zs) (plc (M'+1)))):=by
      have:=hr.store q' (k:Int) (by omega)
      rw [HP.out] at this
      exact this
     have HBW2:Hid (Below G w (wr.setCell ⟨G,q',none⟩ (.int .i64 k))):=hbw.setCell (by simp) _
     have HQ2:Hid ((q'+43) % 64=43*(M'+1) % 64):=by unfold Hid;omega
     have HM':Hid (M'=M+m):=hM'
     generalize (pl (fl 0 zs) (plc M')).getD q' 0=old at *
     rw [hq']
     clear hr hbw hM' hq' HP HF
     go_wp2
     go_roundw
     case rel=>exact ⟨m+1,M'+1,by omega,by go_num,by rw [HM'.out,Nat.add_assoc],by rw [←HQ2.out];simp;try omega,HRW.out,HBW2.out⟩
     case measure=>simp [intOf];omega
    ·have hme:m=z:=by omega
     subst hme
     have HRW:Hid (OwI wr G G 64 (pl (fl 0 zs) (plc M'))):=hr
     have HBW2:Hid (Below G w wr):=hbw
     have HMS:Hid (M'=(zs.take (k+1)).sum.toNat):=by
      unfold Hid
      have h1:=sum_succ zs k (by rw [HL.out];exact hlt)
      have h2:=sum_nn HA.out.1 k
      rw [h1,HZ.out,hM',HM.out]
      omega
     generalize hq':43*M' % 64=q' at *
     have HQ2:Hid (43*M' % 64=q'):=hq'
     clear hr hbw hM' hq'
     go_wp2
     go_roundw
     case rel=>exact ⟨k+1,M',by omega,by go_num,HMS.out,by rw [HQ2.out],HRW.out,HBW2.out⟩
     case measure=>simp [intOf];omega
  ·have hke:k=n:=by omega
   subst hke
   have HM64:Hid (M=64):=by
    unfold Hid
    have h1:=HL.out
    rw [hM,←h1,List.take_length,HA.out.2]
    rfl
   have HRR:Hid (OwI wr G G 64 (pl (fl 0 zs) (plc M))):=hr
   have HBW:Hid (Below G w wr):=hbw
   generalize hq:43*M % 64=q at *
   clear hr hbw hM hq
   go_wp2
   go_ret
   have h64:=HM64.out
   subst h64
   rw [HG.out]
   exact ⟨rfl,HRR.out,HBW.out⟩
theorem Tryz.infoCell :(Tryz.prog.info? 247).map (fun i=>(i.zero,i.size,i.bytes))=some (some (.agg #[.int .i64 0,.int .i64 0,.int .i64 0]),3,24):=by kernel_rfl
def CV (w:World) (B:Nat) (v:Value) (n:Nat) (fs:List Int):Prop:=w.ownsRow B 247 3 v n (fs.map (Value.int .i64))
theorem CV.only {S:Nat→Prop} {w w':World} {B n:Nat} {v:Value} {fs:List Int} (h:CV w B v n fs) (ho:Only S w w') (hs:∀ k,B≤k→¬S k):CV w' B v n fs:=by
 refine ⟨h.1,?_⟩
 rcases h.2 with h' | ⟨g,cap,cur,rfl,hg,hh,r⟩
 ·exact .inl h'
 ·exact .inr ⟨g,cap,cur,rfl,hg,(ho.block g (Array.getElem?_eq_some_iff.1 hh).1 (hs g hg)).trans hh,r⟩
theorem cv_weak {w:World} {B B' n:Nat} {v:Value} {fs:List Int} (h:CV w B v n fs) (hB:B'≤B):CV w B' v n fs:=by
 refine ⟨h.1,?_⟩
 rcases h.2 with h' | ⟨g,cap,cur,rfl,hg,r⟩
 ·exact .inl h'
 ·exact .inr ⟨g,cap,cur,rfl,by omega,r⟩
theorem cv_form {w:World} {B n:Nat} {v:Value} {xs:List Value} {e:TypeId} {sz:Nat} (h:w.ownsRow B e sz v n xs):∃ (a:Option Addr) (c:Nat),v=.slice a n c:=by
 rcases h.2 with ⟨rfl,rfl⟩ | ⟨g,cap,cur,rfl,_⟩
 ·exact ⟨none,0,rfl⟩
 ·exact ⟨_,cap,rfl⟩
theorem cv_blk {w:World} {B n:Nat} {v:Value} {xs:List Value} {e:TypeId} {sz b:Nat} (h:w.ownsRow B e sz v n xs) (hb:v.ownBlock=some b):B≤b:=by
 rcases h.2 with ⟨rfl,rfl⟩ | ⟨g,cap,cur,rfl,hg,_⟩
 ·simp [Value.ownBlock] at hb
 ·simp [Value.ownBlock] at hb
  omega
theorem l3table_any (a:Option Addr) (cap:Nat) (zs:List Int) (w:World) (hb:Ins w a zs) (hn:normB zs=true) :
  Calls Tryz.prog 182 #[.slice a zs.length cap] w fun e w'=>∃ a' c',e=.returned (.slice a' 64 c')∧CV w' w.heap.size (.slice a' 64 c') 64 (tb (pl (fl 0 zs) (plc 64)) zs 64)∧Below w.heap.size w w':=by
 obtain ⟨i0,hi,hz0,hz1,hz2⟩:=info_parts Tryz.infoI64
 obtain ⟨ic,hic,hc0,hc1,hc2⟩:=info_parts Tryz.infoCell
 have hbd:=normB_bnd hn
 have HSP:=l3spread_any a cap zs w hb hn
 have HSY:Hid (∀ p,p<64→∃ s:Nat,(pl (fl 0 zs) (plc 64)).getD p 0=(s:Int)∧s<zs.length∧0<zs.getD s 0∧zs.getD s 0≤64):=fun p hp=>sp_sym hn p hp
 have HSL:Hid ((pl (fl 0 zs) (plc 64)).length=64):=pl_len _ _
 generalize pl (fl 0 zs) (plc 64)=SP at *
 have HN:Hid (normB zs=true):=hn
 clear hn
 obtain ⟨b1,o1,rfl,hb1,hcz⟩:=hb.len_pos 0 (by omega)
 have HB:Hid (Ins w (some ⟨b1,o1,none⟩) zs):=hb
 have HCZ:Hid (∀ i,i<zs.length→w.cell? ⟨b1,o1+i,none⟩=some (.int .i64 (zs.getD i 0))):=hcz
 clear hb hcz
 generalize hL:zs.length=L at *
 have HL:Hid (zs.length=L):=hL
 clear hL
 go_enter Tryz.func182,Tryz.ntmps182
 go_wp2_with fail
 refine HSP.mono ?_
 clear HSP
 rintro e w1 ⟨rfl,ho1,hb1'⟩
 have HO1:Hid (OwI w1 w.heap.size w.heap.size 64 SP):=ho1
 have HB1:Hid (Below w.heap.size w w1):=hb1'
 have hs1:=ho1.lt.2
 clear ho1 hb1'
 generalize hG:w.heap.size=G at *
 have HG:Hid (w.heap.size=G):=hG
 clear hG
 have HN0:Hid ((w1.alloc (Obj.cells #[] 3)).ownsRow w1.heap.size 3 1 (.slice (some ⟨w1.heap.size,0,none⟩) 0 0) 0 []):=⟨rfl,.inr ⟨w1.heap.size,0,#[],rfl,Nat.le_refl _,heap_alloc_new _ _,Nat.le_refl _,Nat.zero_le _,rfl,rfl⟩⟩
 have HNW:Hid (∀ j u,(zs.map (Value.int .i64))[j]?=some u→(w1.alloc (Obj.cells #[] 3)).cell? ((⟨b1,o1,none⟩:Addr).add j)=some u):=by
  intro j u hu
  rw [List.getElem?_map] at hu
  cases hq:zs[j]? with
  | none=>rw [hq] at hu;simp at hu
  | some z=>
   rw [hq] at hu
   simp at hu
   subst hu
   have hj:j<zs.length:=(List.getElem?_eq_some_iff.1 hq).1
   have:=HCZ.out j (by rw [←HL.out];exact hj)
   rw [List.getD_eq_getElem?_getD,hq] at this
   have e:(⟨b1,o1,none⟩:Addr).add j=⟨b1,o1+j,none⟩:=by unfold Addr.add;split <;> simp_all
   rw [e]
   exact keepA _ (by omega) (keep HB1.out hb1 this)
 have HZM:Hid ((zs.map (Value.int .i64)).length=L*1):=by unfold Hid;rw [List.length_map,HL.out];omega
 go_wp2_with (at_builtin;(refine wpList_append_own _ rfl _ _ 29 rfl w1.heap.size 3 i0 (.int .i64 0) 1 8 Tryz.underlying29 hi hz0 hz1 hz2 rfl (by decide) _ 0 [] rfl HN0.out ⟨b1,o1,none⟩ L cap (zs.map (Value.int .i64)) rfl HZM.out HNW.out (by intro u hu;simp at hu;obtain ⟨z,_,rfl⟩:=hu;rfl) (by unfold maxLen;omega) (by omega) (by simp) ?_;intro v2 w2 hov2 hgr2 hnil2))
 have ho2:Only (fun k=>w1.heap.size≤k) w1 w2:=((Only.refl (fun k=>w1.heap.size≤k) w1).alloc _).grown hgr2 (fun k hk=>.inl (by cases hk;exact Nat.le_refl _))
 have hwz:G≤w1.heap.size:=by omega
 have HB2:Hid (Below G w w2):=HB1.out.trans (ho2.below hwz (fun k hk=>by omega))
 have HP2:Hid (OwI w2 G G 64 SP):=HO1.out.only ho2 (by omega)
 have hov2':w2.ownsRow w1.heap.size 3 1 v2 L (zs.map (Value.int .i64)):=by simpa using hov2
 obtain ⟨g2,c2,rfl,hg2⟩:∃ g2 c2,v2=.slice (some ⟨g2,0,none⟩) L c2∧w1.heap.size≤g2:=by
  rcases hov2'.2 with ⟨_,h0⟩ | ⟨g,cp,cur,rfl,hg,_⟩
  ·omega
  ·exact ⟨g,cp,rfl,hg⟩
 have HX2:Hid (OwI w2 w1.heap.size g2 c2 (nx SP zs 0)):=⟨by show w2.ownsRow _ _ _ (.slice _ zs.length c2) zs.length _;rw [HL.out];exact hov2',HB.out.1⟩
 have hg2s:=HX2.out.lt.2
 clear hov2 hov2' hgr2 hnil2 ho2 HO1 HB1 HN0 HNW HZM
 generalize hB3:w2.heap.size=B3 at *
 have HB3:Hid (w2.heap.size=B3):=hB3
 clear hB3
 generalize w1.heap.size=B2 at *
 go_loopw [5,6] (fun v i wr=>∃ (k:Nat) (av:Option Addr) (cv:Nat),k≤64∧i=.int .i64 k∧v=.slice av k cv∧CV wr B3 (.slice av k cv) k (tb SP zs k)∧OwI wr B2 g2 c2 (nx SP zs k)∧OwI wr G G 64 SP∧Below G w wr∧B3≤wr.heap.size) (fun _ i _=>64-(intOf i).toNat)
 case atStart=>exact ⟨0,none,0,Nat.zero_le _,rfl,rfl,⟨rfl,.inl ⟨rfl,rfl⟩⟩,HX2.out,HP2.out,HB2.out,by rw [HB3.out];exact Nat.le_refl _⟩
 case round=>
  obtain ⟨k,av,cv,hk,rfl,rfl,hcv,hnx,hsp,hbel,hsz⟩:=hrel
  by_cases hlt:k<64
  ·obtain ⟨s,hs,hsl,hzp,hz64⟩:=HSY.out k hlt
   have hbn:=nx_bnd SP zs k s
   obtain ⟨X,hX⟩:=Int.eq_ofNat_of_zero_le (show 0≤(nx SP zs k).getD s 0 by omega)
   have hX1:1≤X:=by omega
   have hX2:X≤127:=by omega
   have q0:=hsp.cell k (by rw [HSL.out];exact hlt)
   rw [hs] at q0
   have q1:=hnx.cell s (by rw [nx_len,HL.out];exact hsl)
   rw [hX] at q1
   have qf:=hnx.frozen s
   have HNX:Hid (OwI (wr.setCell ⟨g2,s,none⟩ (.int .i64 ((X:Int)+1))) B2 g2 c2 (nx SP zs (k+1))):=by
    have:=hnx.store s ((X:Int)+1) (by omega)
    rw [show nx SP zs (k+1)=(nx SP zs k).set s ((X:Int)+1) from by rw [nx,hs,Int.toNat_natCast,hX]]
    exact this
   have hon:Only (fun b=>b=g2) wr (wr.setCell ⟨g2,s,none⟩ (.int .i64 ((X:Int)+1))):=(Only.refl (fun b=>b=g2) wr).setCell (p:=⟨g2,s,none⟩) (.inl rfl) _
   have HCV:Hid (CV (wr.setCell ⟨g2,s,none⟩ (.int .i64 ((X:Int)+1))) B3 (.slice av k cv) k (tb SP zs k)):=hcv.only hon (fun b hb=>by omega)
   have HSPW:Hid (OwI (wr.setCell ⟨g2,s,none⟩ (.int .i64 ((X:Int)+1))) G G 64 SP):=hsp.only hon (by omega)
   have HBW:Hid (Below G w (wr.setCell ⟨g2,s,none⟩ (.int .i64 ((X:Int)+1)))):=hbel.trans (hon.below (by omega) (fun b hb=>by omega))
   have HSZ:Hid (B3≤(wr.setCell ⟨g2,s,none⟩ (.int .i64 ((X:Int)+1))).heap.size):=Nat.le_trans hsz hon.size
   have HTB:Hid (tb SP zs (k+1)=tb SP zs k++[(s:Int),((wd X:Nat):Int),((X*2 ^ wd X:Nat):Int)-64]):=by
    unfold Hid
    rw [tb,hs,Int.toNat_natCast,hX,Int.toNat_natCast]
   have HWD:=wd_rng hX1 hX2
   have HWL:Hid (∀ b,b<wd X→X*2 ^ b<64):=fun b hb=>wd_least hX1 hX2 hb
   have HWD':Hid _:=HWD
   have hw6:=HWD.1
   clear hcv hnx hsp hbel hsz hon hbn hX hs HWD hzp hz64
   generalize hW:wd X=W at *
   clear hW
   have hsL:s<L:=hsl
   go_wp2
   generalize wr.setCell ⟨g2,s,none⟩ (.int .i64 ((X:Int)+1))=wq at *
   go_loop [9] (fun b=>∃ j:Nat,j≤W∧b=.int .i64 j) (fun b=>W-(intOf b).toNat)
   case atStart=>exact ⟨0,Nat.zero_le _,rfl⟩
   case round=>
    obtain ⟨j,hj,rfl⟩:=hrel
    have hsh:=shl_in X j (by omega) (by omega)
    by_cases hjW:j<W
    ·have hp:wrap64 ((X:Int)*2 ^ j)<64:=by rw [hsh];have:=HWL.out j hjW;omega
     have hp2:decide (wrap64 ((X:Int)*2 ^ j)<64)=true:=by simpa using hp
     clear hsh hp
     go_wp2
     go_round
     case rel=>exact ⟨j+1,by omega,by go_num⟩
     case measure=>simp [intOf];omega
    ·have hjw:j=W:=by omega
     subst hjw
     obtain ⟨Y,hY⟩:∃ Y,X*2 ^ j=Y:=⟨_,rfl⟩
     rw [hY] at hsh
     have HW2:=HWD'.out.2
     rw [hY] at HW2
     have hy1:(64:Int)≤Y:=by omega
     have hy2:(Y:Int)<128:=by omega
     have hp2:decide (wrap64 ((X:Int)*2 ^ j)<64)=false:=by rw [hsh];simpa using hy1
     have HT1:Hid (tb SP zs (k+1)=tb SP zs k++[(s:Int),(j:Int),(Y:Int)-64]):=by
      have:=HTB.out
      rw [hY] at this
      exact this
     have HCA:Hid ((wq.alloc (Obj.cells #[.int .i64 s,.int .i64 j,.int .i64 ((Y:Int)-64)] 247)).ownsRow B3 247 3 (.slice av k cv) k ((tb SP zs k).map (Value.int .i64))):=HCV.out.only (S:=fun _=>False) ((Only.refl (fun _=>False) wq).alloc _) (by simp)
     have HNE:Hid (∀ (i:Nat) (u:Value),[Value.int .i64 (s:Int),.int .i64 (j:Int),.int .i64 ((Y:Int)-64)][i]?=some u→(wq.alloc (Obj.cells #[.int .i64 s,.int .i64 j,.int .i64 ((Y:Int)-64)] 247)).cell? ((⟨wq.heap.size,0,none⟩:Addr).add i)=some u):=by
      intro i u hu
      have e:(⟨wq.heap.size,0,none⟩:Addr).add i=⟨wq.heap.size,i,none⟩:=by unfold Addr.add;split <;> simp_all
      rw [e,cell_of_row _ _ i _ _ _ (heap_alloc_new wq _)]
      simpa using hu
     have hza:B3≤(wq.alloc (Obj.cells #[.int .i64 s,.int .i64 j,.int .i64 ((Y:Int)-64)] 247)).heap.size:=by have:=HSZ.out;simp;omega
     have HSH:Hid _:=hsh
     clear HTB HWL HWD' HW2 hY
     go_wp2_with (at_builtin;(refine wpList_append_own _ rfl _ _ 244 rfl B3 247 ic (.agg #[.int .i64 0,.int .i64 0,.int .i64 0]) 3 24 Tryz.underlying244 hic hc0 hc1 hc2 rfl (by decide) (.slice av k cv) k _ rfl HCA.out ⟨wq.heap.size,0,none⟩ 1 1 [Value.int .i64 (s:Int),.int .i64 (j:Int),.int .i64 ((Y:Int)-64)] rfl rfl HNE.out (by intro u hu;simp at hu;rcases hu with rfl | rfl | rfl <;> rfl) (by unfold maxLen;omega) (by omega) hza ?_;intro v5 w5 hov5 hgr5 hnil5;obtain ⟨a5,c5,rfl⟩:=cv_form hov5))
     have ho5:Only (fun b=>B3≤b) wq w5:=((Only.refl (fun b=>B3≤b) wq).alloc _).grown hgr5 (fun b hb=>.inl (cv_blk HCA.out hb))
     have hGB:G≤B3:=by omega
     go_roundw
     case rel=>
      refine ⟨k+1,a5,c5,by omega,by go_num,rfl,?_,HNX.out.only ho5 (by omega),HSPW.out.only ho5 (by omega),HBW.out.trans (ho5.below (by have:=HSZ.out;omega) (fun b hb=>by omega)),Nat.le_trans HSZ.out ho5.size⟩
      unfold CV
      rw [HT1.out,List.map_append]
      exact hov5
     case measure=>simp [intOf];omega
  ·have hke:k=64:=by omega
   subst hke
   have HCV:Hid _:=hcv
   have HBW:Hid _:=hbel
   clear hcv hnx hsp hbel
   go_wp2
   go_ret
   rw [HG.out]
   exact ⟨av,cv,rfl,cv_weak HCV.out (by omega),HBW.out⟩
def InR (w:World) (B U:Nat) (a:Option Addr) (fs:List Int):Prop:=
 (∀ z ∈ fs,-9223372036854775808≤z∧z≤9223372036854775807)∧(fs=[]∨∃ g,a=some ⟨g,0,none⟩∧B≤g∧g<U∧U≤w.heap.size∧∀ i,i<fs.length→w.cell? ⟨g,i,none⟩=some (.int .i64 (fs.getD i 0)))
theorem InR.byt {w:World} {B U:Nat} {a:Option Addr} {fs:List Int} (h:InR w B U a fs):Ins w a fs:=by
 refine ⟨h.1,fun hp=>?_⟩
 rcases h.2 with h' | ⟨g,rfl,h1,h2,h4,h3⟩
 ·rw [h'] at hp;simp at hp
 ·exact ⟨g,0,rfl,by omega,fun i hi=>by rw [Nat.zero_add];exact h3 i hi⟩
theorem CV.inR {w:World} {B n c:Nat} {a:Option Addr} {fs:List Int} (h:CV w B (.slice a n c) n fs) (hr:∀ z ∈ fs,-9223372036854775808≤z∧z≤9223372036854775807) (hl:fs.length=n*3):InR w B w.heap.size a fs:=by
 refine ⟨hr,?_⟩
 rcases h.2 with ⟨h',rfl⟩ | ⟨g,cap,cur,h',hg,r⟩
 ·left
  exact List.eq_nil_of_length_eq_zero (by omega)
 ·right
  simp at h'
  obtain ⟨rfl,rfl⟩:=h'
  have hlt:=(h.lt g rfl).2
  refine ⟨g,rfl,hg,hlt,Nat.le_refl _,fun i hi=>?_⟩
  rw [World.ownsRow.cellAt h i (by omega)]
  simp [List.getElem?_eq_getElem hi]
end Go.Proofs.YtaibkchbkedjnaaGreatDoor
