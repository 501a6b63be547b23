/- Lemmas on the way. -/
import Derived.Test.YtfeokafkhnbdiaaGreatDoorEnM
import Derived.Test.YtfeokafkhnbdiaaGreatDoorSome1
import Derived.Test.YtfeokafkhnbdiaaGreatDoorTb4
import Derived.Deep.MidRow
import Derived.Test.YtfeokafkhnbdiaaGreatDoorEnL
import Derived.Test.YtfeokafkhnbdiaaGreatDoorINorm4
import Derived.Below
set_option maxRecDepth 20000
set_option maxHeartbeats 16000000
namespace Go.Proofs.YtfeokafkhnbdiaaGreatDoor
open Go.RowKit
set_option linter.unusedVariables false
theorem putNorm_t (g cap:Nat) (zs:List Int) (R B n0 V0:Nat) (w0:World) (hb:RowT w0 g zs) (hgR:g≠R) (hw:WI w0 B R n0 V0) (hn0:n0≤2000) (hn:normB zs=true) :
  Calls Tryz.prog 100 #[.pointer (some ⟨R,0,none⟩),.slice (some ⟨g,0,none⟩) zs.length cap] w0 fun e w'=>e=.returned .nilIface∧WI w' B R (nbG zs n0 zs.length) (vbG zs n0 V0 zs.length)∧Below B w0 w'∧Kp R w0 w':=by
 obtain ⟨hn1,hn2⟩:=normB_bnd hn
 have HE:Hid _:=fun k=>lft_eq hn k
 have HU:Hid _:=fun k hk=>lft_succ hn k hk
 have HNB:Hid _:=fun k=>nbG_le hn n0 k
 have HW:Hid (WI w0 B R (nbG zs n0 0) (vbG zs n0 V0 0)):=by unfold Hid;simpa [nbG,vbG,nb,vb] using hw
 clear hn hw
 generalize hlen:zs.length=n at *
 have HL:Hid (zs.length=n):=hlen
 clear hlen
 go_enter Tryz.func100,Tryz.ntmps100
 go_wp2
 go_loopw [5,11] (fun l i wr=>∃ k:Nat,k≤n∧i=.int .i64 k∧l=.int .i64 (lft zs k:Nat)∧WI wr B R (nbG zs n0 k) (vbG zs n0 V0 k)∧Below B w0 wr∧Kp R w0 wr) (fun _ i _=>n-(intOf i).toNat)
 case atStart=>exact ⟨0,Nat.zero_le _,rfl,by simp [lft],HW.out,Below.refl _ _,Kp.refl _ _⟩
 case round=>
  clear HW
  obtain ⟨k,hk,rfl,rfl,hwi,hbel,hkp⟩:=hrel
  have HWI:Hid (WI wr B R (nbG zs n0 k) (vbG zs n0 V0 k)):=hwi
  clear hwi
  by_cases hlt:k<n
  ·have hglt:g<wr.heap.size:=(hb.kp hkp hgR).lt
   have hs1:=(hb.kp hkp hgR).cell k (by rw [HL.out];exact hlt)
   have hl:=(HE.out k).2
   have hu:=HU.out k hlt
   have hnb:=HNB.out k
   have HSN:Hid (nbG zs n0 (k+1)=nbG zs n0 k+bl (lft zs k)):=nbG_step zs n0 k
   have HSV:Hid (vbG zs n0 V0 (k+1)=vbG zs n0 V0 k+(zs.getD k 0).toNat*2 ^ nbG zs n0 k):=vbG_step zs n0 V0 k
   have hb7:=bl_le7 (lft zs k) hl
   have hb8:=bl_lt (lft zs k) (by omega)
   generalize zs.getD k 0=x at *
   generalize lft zs k=l at *
   generalize nbG zs n0 k=N at *
   generalize vbG zs n0 V0 k=V at *
   have hxl:x<2 ^ bl l:=by
    have e:((2:Int) ^ bl l)=((2 ^ bl l:Nat):Int):=by simp
    rw [e];omega
   have HXL:Hid (x<2 ^ ((bl l:Nat):Int).toNat):=by simpa [Hid] using hxl
   clear hxl hb8
   go_wp2_with fail
   refine (shareWidth_any l wr (by omega)).mono ?_
   rintro e w1 ⟨rfl,rfl⟩
   go_wp2_with fail
   refine (HWI.out.putP x (bl l:Nat) hu.2.1 (by omega) (by omega) HXL.out (by omega) (by omega)).mono ?_
   rintro e w2 ⟨rfl,hwi2,hb2,hk2⟩
   have HWI2:Hid (WI w2 B R (nbG zs n0 (k+1)) (vbG zs n0 V0 (k+1))):=by rw [HSN.out,HSV.out];simpa [Hid] using hwi2
   have HB2:Hid (Below B w0 w2∧Kp R w0 w2):=⟨hbel.trans hb2,hkp.trans hk2⟩
   clear hwi2 hb2 hk2 hbel hkp HWI
   have E1:Hid ((l:Int)-x=((lft zs (k+1):Nat):Int)):=by unfold Hid;omega
   have hx2:0≤x∧x≤l:=hu.2
   clear HSN HSV HXL hu
   go_wp2
   go_roundw
   case rel=>exact ⟨k+1,by omega,by go_num,by rw [E1.out],HWI2.out,HB2.out⟩
   case measure=>simp [intOf];omega
  ·have hkn:k=n:=by omega
   subst hkn
   go_wp2
   go_ret
   exact ⟨rfl,HWI.out,hbel,hkp⟩
theorem tb_set (SP zs:List Int) (k:Nat) (hk:k<64):(((tb SP zs k++zer (192-k*3)).set (k*3) (SP.getD k 0)).set (k*3+1) ((wd ((nx SP zs k).getD (SP.getD k 0).toNat 0).toNat:Nat):Int)).set (k*3+2) ((((nx SP zs k).getD (SP.getD k 0).toNat 0).toNat*2 ^ wd ((nx SP zs k).getD (SP.getD k 0).toNat 0).toNat:Nat)-64)=tb SP zs (k+1)++zer (192-(k+1)*3):=by
 have hl:=tb_len SP zs k
 rw [tb,show 192-k*3=(192-(k+1)*3)+3 from by omega]
 generalize (192-(k+1)*3)=m
 rw [show zer (m+3)=0 :: 0 :: 0 :: zer m from rfl]
 rw [List.set_append_right _ _ (by omega),List.set_append_right _ _ (by omega),List.set_append_right _ _ (by omega),hl,Nat.sub_self,Nat.add_sub_cancel_left,Nat.add_sub_cancel_left,List.append_assoc]
 rfl
theorem tabset {w:World} {g:Nat} {T:TypeId} {l:List Int} (i:Nat) (v:Int) (h:w.heap[g]?=some (.cells (cel l) T (0,0))):(w.setCell ⟨g,i,none⟩ (.int .i64 v)).heap[g]?=some (.cells (cel (l.set i v)) T (0,0)):=by
 rw [heap_setCell_same _ _ i _ _ _ h]
 simp [cel,List.map_set]
set_option maxRecDepth 100000 in
theorem cellsOf_any (a:Option Addr) (cap:Nat) (zs:List Int) (w:World) (hb:Ins w a zs) (hn:normB zs=true) :
  Calls Tryz.prog 102 #[.slice a zs.length cap] w fun e w'=>∃ g,e=.returned (.pointer (some ⟨g,0,none⟩))∧w.heap.size≤g∧w'.heap[g]?=some (.cells ((tb (pl (fl 0 zs) (plc 64)) zs 64).map (Value.int .i64)).toArray 179 (0,0))∧Below w.heap.size w w':=by
 have hbd:=normB_bnd hn
 have HSY:Hid (∀ p,p<64→∃ s:Nat,(pl (fl 0 zs) (plc 64)).getD p 0=(s:Int)∧s<zs.length∧0<zs.getD s 0∧zs.getD s 0≤64):=fun p hp=>sp_sym hn p hp
 have HSL:Hid ((pl (fl 0 zs) (plc 64)).length=64):=pl_len _ _
 have HN:Hid (normB zs=true):=hn
 clear hn
 have HB:Hid (Ins w a zs):=hb
 obtain ⟨b1,o1,rfl,hb1,hcz⟩:=hb.len_pos 0 (by omega)
 have HCZ:Hid (∀ i,i<zs.length→w.cell? ⟨b1,o1+i,none⟩=some (.int .i64 (zs.getD i 0))):=hcz
 clear hb hcz
 generalize hL:zs.length=L at *
 have HL:Hid (zs.length=L):=hL
 clear hL
 go_enter Tryz.func102,Tryz.ntmps102
 have hzt:=zeroTab
 have hzn:=zeroNxt
 generalize hZT:cel (zer 192)=ZT at *
 generalize hZN:cel (zer 80)=ZN at *
 have HZT:Hid (cel (zer 192)=ZT):=hZT
 have HZN:Hid (cel (zer 80)=ZN):=hZN
 have HG1:Hid (((w.alloc (Obj.cells ZT 179)).alloc (Obj.cells ZN 180)).heap[w.heap.size+1]?=some (.cells ((zer 80).map (Value.int .i64)).toArray 180 (0,0))):=by
  have:=heap_alloc_new (w.alloc (Obj.cells ZT 179)) (Obj.cells ZN 180)
  rw [World.size_alloc,←hZN] at this
  rw [←hZN]
  exact this
 have HG0:Hid (((w.alloc (Obj.cells ZT 179)).alloc (Obj.cells ZN 180)).heap[w.heap.size]?=some (.cells ZT 179 (0,0))):=(Below.heap_alloc _ _ _ (by simp)).trans (heap_alloc_new w _)
 have HBW:Hid (Below w.heap.size w ((w.alloc (Obj.cells ZT 179)).alloc (Obj.cells ZN 180))):=((Below.refl _ _).alloc nl _).alloc (by simp) _
 have HPS:Hid (0<(zs.map (Value.int .i64)).length→(some (⟨w.heap.size+1,0,none⟩:Addr))=some ⟨w.heap.size+1,0,none⟩∧∃ ad,(some (⟨b1,o1,none⟩:Addr))=some ad∧∀ j v,(zs.map (Value.int .i64))[j]?=some v→((w.alloc (Obj.cells ZT 179)).alloc (Obj.cells ZN 180)).cell? (ad.add j)=some v):=by
  intro _
  refine ⟨rfl,⟨b1,o1,none⟩,rfl,?_⟩
  intro j u hu
  rw [List.getElem?_map] at hu
  cases hq:zs[j]? with
  | none=>rw [hq] at hu;simp at hu
  | some z=>
   rw [hq] at hu
   simp at hu
   subst hu
   have hj:j<zs.length:=(List.getElem?_eq_some_iff.1 hq).1
   have:=HCZ.out j (by rw [←HL.out];exact hj)
   rw [List.getD_eq_getElem?_getD,hq] at this
   have e:(⟨b1,o1,none⟩:Addr).add j=⟨b1,o1+j,none⟩:=by unfold Addr.add;split <;> simp_all
   rw [e]
   exact keep HBW.out hb1 this
 have HLN:Hid ((zs.map (Value.int .i64)).length=Nat.min L 80):=by unfold Hid;rw [List.length_map,HL.out];exact (Nat.min_eq_left hbd.2).symm
 have HFT:Hid (0+(zs.map (Value.int .i64)).length≤((zer 80).map (Value.int .i64)).length):=by unfold Hid;rw [List.length_map,HL.out,List.length_map];simp [zer];omega
 clear hZT hZN
 go_wp2_with (refine wpList_copy_splice rfl (.tmp 9) (.tmp 10) 38 38 rfl 3 Tryz.underlying38 (by kernel_rfl) (some ⟨w.heap.size+1,0,none⟩) (some ⟨b1,o1,none⟩) 80 80 L cap rfl rfl (w.heap.size+1) 0 _ 180 HG1.out _ HLN.out HPS.out HFT.out (by intro v hv;simp at hv;obtain ⟨z,_,rfl⟩:=hv;rfl) (w.heap.size+1) _ (Below.refl _ _) nl ?_;intro w3 hg3 hb3)
 have HSP:=callsIn_wide.1 (spreadOf_in 3 (by omega) (some ⟨b1,o1,none⟩) cap zs w3 (HB.out.below (HBW.out.trans (hb3.mono (by omega))) nl) HN.out)
 rw [HL.out] at HSP
 generalize hSPE:pl (fl 0 zs) (plc 64)=SP at *
 have HSPE:Hid (pl (fl 0 zs) (plc 64)=SP):=hSPE
 clear hSPE
 have HB3:Hid (Below w.heap.size w w3):=HBW.out.trans (hb3.mono (by omega))
 have HT3:Hid (w3.heap[w.heap.size]?=some (.cells (cel (tb SP zs 0++zer (192-0*3))) 179 (0,0))):=by
  have:=(hb3.block w.heap.size (by omega)).trans HG0.out
  rw [←HZT.out] at this
  exact this
 have HN3:Hid (w3.heap[w.heap.size+1]?=some (.cells (cel (nx SP zs 0++zer (80-L))) 180 (0,0))):=by
  have:=hg3.out
  rw [show splice ((zer 80).map (Value.int .i64)) 0 (zs.map (Value.int .i64))=(nx SP zs 0++zer (80-L)).map (Value.int .i64) from by
   exact splice_zer zs L HL.out] at this
  exact this
 have hs3:=HB3.out.size
 have hw3:w.heap.size+1<w3.heap.size:=(Array.getElem?_eq_some_iff.1 HN3.out).1
 clear hg3 hb3 HBW HG0 HG1 HPS HLN HFT HZT HZN hzt hzn
 generalize hG:w.heap.size=G at *
 have HG:Hid (w.heap.size=G):=hG
 clear hG
 refine HSP.mono ?_
 clear HSP
 rintro e w4 ⟨rfl,hb4⟩
 have HB4:Hid (Below G w w4):=HB3.out.trans (hb4.mono hs3)
 have HT4:Hid (w4.heap[G]?=some (.cells (cel (tb SP zs 0++zer (192-0*3))) 179 (0,0))):=(hb4.block G (by omega)).trans HT3.out
 have HN4:Hid (w4.heap[G+1]?=some (.cells (cel (nx SP zs 0++zer (80-L))) 180 (0,0))):=(hb4.block (G+1) hw3).trans HN3.out
 have HE:Hid (∀ k s:Nat,k<64→SP.getD k 0=(s:Int)→((SP.map (Value.int .i64)).toArray)[k]?=some (.int .i64 s)):=by
  intro k s hk hs
  have:k<SP.length:=by rw [HSL.out];exact hk
  rw [List.getD_eq_getElem?_getD,List.getElem?_eq_getElem this] at hs
  simp at hs
  simp [List.getElem?_eq_getElem this,hs]
 have HES:Hid (((SP.map (Value.int .i64)).toArray).size=64):=by unfold Hid;simp [HSL.out]
 generalize (SP.map (Value.int .i64)).toArray=E at *
 clear hb4 HB3 HT3 HN3 hs3 hw3
 go_wp2_with fail
 go_loopw [14] (fun i wr=>∃ k:Nat,k≤64∧i=.int .i64 k∧wr.heap[G]?=some (.cells (cel (tb SP zs k++zer (192-k*3))) 179 (0,0))∧wr.heap[G+1]?=some (.cells (cel (nx SP zs k++zer (80-L))) 180 (0,0))∧Below G w wr) (fun i _=>64-(intOf i).toNat)
 case atStart=>exact ⟨0,Nat.zero_le _,rfl,HT4.out,HN4.out,HB4.out⟩
 case round=>
  obtain ⟨k,hk,rfl,ht,hnx,hbel⟩:=hrel
  by_cases hlt:k<64
  ·obtain ⟨s,hs,hsl,hzp,hz64⟩:=HSY.out k hlt
   have hbn:=nx_bnd SP zs k s
   obtain ⟨X,hX⟩:=Int.eq_ofNat_of_zero_le (show 0≤(nx SP zs k).getD s 0 by omega)
   have hX1:1≤X:=by omega
   have hX2:X≤127:=by omega
   have hEk:=HE.out k s hlt hs
   have hix:=index_row E k s hlt hEk
   clear hEk
   have hnl:=nx_len SP zs k
   rw [HL.out] at hnl
   have q1:wr.cell? ⟨G+1,s,none⟩=some (.int .i64 X):=by
    have:=arr_cell (tb:=nx SP zs k++zer (80-L)) hnx s (by rw [List.length_append,hnl];omega)
    rw [List.getD_eq_getElem?_getD,List.getElem?_append_left (by omega),←List.getD_eq_getElem?_getD,hX] at this
    exact this
   have qf:=frozen_of_row wr _ s _ _ hnx
   have HT:Hid _:=ht
   have HNX:Hid _:=hnx
   have HBL:Hid _:=hbel
   have HS:Hid (SP.getD k 0=(s:Int)):=hs
   have HXE:Hid ((nx SP zs k).getD s 0=(X:Int)):=hX
   have HX12:Hid (1≤X∧X≤127):=⟨hX1,hX2⟩
   have hs80:(s:Int)<80:=by omega
   have hxi:(X:Int)≤127:=by omega
   have HSL2:Hid (s<L∧True):=⟨hsl,trivial⟩
   clear ht hnx hbel hs hX hbn hnl hzp hz64 hX1 hX2 hsl
   have HTL:Hid ((tb SP zs k++zer (192-k*3)).length=192):=by unfold Hid;rw [List.length_append,tb_len];simp [zer];omega
   have t0:=arr_cell (tb:=tb SP zs k++zer (192-k*3)) HT.out (k*3) (by rw [HTL.out];omega)
   have t1:=arr_cell (tb:=tb SP zs k++zer (192-k*3)) HT.out (k*3+1) (by rw [HTL.out];omega)
   have t2:=arr_cell (tb:=tb SP zs k++zer (192-k*3)) HT.out (k*3+2) (by rw [HTL.out];omega)
   have f0:=frozen_of_row wr _ (k*3) _ _ HT.out
   have f1:=frozen_of_row wr _ (k*3+1) _ _ HT.out
   have f2:=frozen_of_row wr _ (k*3+2) _ _ HT.out
   generalize (tb SP zs k++zer (192-k*3)).getD (k*3) 0=y0 at *
   generalize (tb SP zs k++zer (192-k*3)).getD (k*3+1) 0=y1 at *
   generalize (tb SP zs k++zer (192-k*3)).getD (k*3+2) 0=y2 at *
   have HWB:Hid (bl X+wd X=7):=wd_bl X (by have:=HX12.out;omega) HX12.out.1
   have HPK:Hid (_∧_∧_∧_∧_∧_∧_∧_∧_):=⟨HT.out,HNX.out,HTL.out,HS.out,HXE.out,HWB.out,HSPE.out,HL.out,HG.out⟩
   clear HTL HXE HNX HT HS HWB HSL HL HSPE HG HB4 HT4 HN4 HE HES HCZ HB HSY HN
   go_wp2_with fail
   refine (len_any X _ (by have:=HX12.out;omega)).mono ?_
   rintro e wq ⟨rfl,rfl⟩
   obtain ⟨hB1,hB7⟩:1≤(bl X:Int)∧(bl X:Int)≤7:=by
    have h1:=HPK.out.2.2.2.2.2.1
    have hBw:=(wd_rng HX12.out.1 HX12.out.2).1
    omega
   generalize hBX:(bl X:Int)=B at *
   have HBX:Hid ((bl X:Int)=B∧True):=⟨hBX,trivial⟩
   clear hBX
   go_wp2
   go_roundw
   case rel=>
    obtain ⟨pT,pN,pL,pS,pX,pW,pE,pl,pG⟩:=HPK.out
    have hW7:(7-B).toNat=wd X:=by have:=HBX.out.1;omega
    have hwr:=wd_rng HX12.out.1 HX12.out.2
    have hv1:(7-B)=((wd X:Nat):Int):=by have:=HBX.out.1;omega
    have hv2:wrap64 (wrap64 ((X:Int)*2 ^ (7-B).toNat)-64)=((X*2 ^ wd X:Nat):Int)-64:=by
     rw [hW7,shl_in X (wd X) HX12.out.2 hwr.1]
     exact IntWalk.wrap64_in _ (by omega)
    rw [hv2,hv1]
    refine ⟨k+1,by omega,by go_num,?_,?_,?_⟩
    ·have h0:=(Below.heap_setCell wr ⟨G+1,s,none⟩ (.int .i64 ((X:Int)+1)) G (by simp)).trans pT
     have h3:=tabset (k*3+2) (((X*2 ^ wd X:Nat):Int)-64) (tabset (k*3+1) ((wd X:Nat):Int) (tabset (k*3) (s:Int) h0))
     have hset:=tb_set SP zs k (by omega:k<64)
     rw [pS,Int.toNat_natCast,pX,Int.toNat_natCast] at hset
     rw [hset] at h3
     exact h3
    ·have h0:=tabset s ((X:Int)+1) pN
     have hsl:s<(nx SP zs k).length:=by
      have:=nx_len SP zs k
      rw [this,pl]
      exact HSL2.out.1
     rw [List.set_append_left _ _ hsl,show (nx SP zs k).set s ((X:Int)+1)=nx SP zs (k+1) from by rw [nx,pS,Int.toNat_natCast,pX]] at h0
     exact (Below.heap_setCell _ _ _ _ (by simp)).trans ((Below.heap_setCell _ _ _ _ (by simp)).trans ((Below.heap_setCell _ _ _ _ (by simp)).trans h0))
    ·exact (((HBL.out.setCell (by simp) _).setCell (by simp) _).setCell (by simp) _).setCell (by simp) _
   case measure=>simp [intOf];omega
  ·have HK:Hid (k=64∧True):=⟨by omega,trivial⟩
   have HFI:Hid (wr.heap[G]?=some (.cells (cel (tb SP zs k)) 179 (0,0))∧Below G w wr):=by
    refine ⟨?_,hbel⟩
    rw [ht,show 192-k*3=0 from by omega,show zer 0=[] from rfl,List.append_nil]
   have HPK:Hid (_∧_):=⟨HSPE.out,HG.out⟩
   clear ht hnx hbel HSL HL HSPE HG HB4 HT4 HN4 HE HES HCZ HB HSY HN
   go_wp2
   go_ret
   refine ⟨G,rfl,by rw [HPK.out.2];exact Nat.le_refl _,?_,by rw [HPK.out.2];exact HFI.out.2⟩
   rw [HPK.out.1,←HK.out.1]
   exact HFI.out.1
set_option linter.unusedSimpArgs false
theorem byT_le {zs:List Int} (h:txtB zs 40=true) (h1:1≤zs.length) (n0:Nat):nbG (tS zs) n0 40≤n0+280:=by
 have:=nbG_le (tS_ok h h1).1 n0 40
 omega
theorem putByTable_any (R B n0 V0:Nat) (a:Option Addr) (ca:Nat) (zs:List Int) (b:Option Addr) (cb:Nat) (ys:List Int) (m U:Nat) (w0 w:World) (hw:WI w B R n0 V0) (hi:InE w0 B a zs b ys m U) (hbel:Below B w0 w) (hn0:n0≤100) :
  Calls Tryz.prog 87 #[.pointer (some ⟨R,0,none⟩),.slice a zs.length ca,.agg #[.slice b ys.length cb,.int .i64 m]] w fun e w'=>e=.returned .nilIface∧WI w' B R (byT zs m U n0 V0).1 (byT zs m U n0 V0).2∧Below B w0 w':=by
 have HI:Hid (InE w0 B a zs b ys m U):=hi
 have hle:=byT_le hi.ht hi.h1 n0
 obtain ⟨hok1,hok2,hok3⟩:=tS_ok hi.ht hi.h1
 have HTL:Hid (normB (tS zs)=true∧shd (tS zs) zs∧(tS zs).length=40∧nbG (tS zs) n0 40≤n0+280∧roomy (cnts zs 40)):=⟨hok1,hok3,hok2,hle,tS_roomy hi.ht hi.h1⟩
 have HWA:Hid (Below w.heap.size w (w.alloc (.cells #[.slice b ys.length cb,.int .i64 m] 40))):=bAw
 have HQ0:Hid ((w.alloc (.cells #[.slice b ys.length cb,.int .i64 m] 40)).heap[w.heap.size]?=some (.cells #[.slice b ys.length cb,.int .i64 m] 40 (0,0))):=heap_alloc_new w _
 have hRlt:R<w.heap.size:=by obtain ⟨_,h,_⟩:=hw;exact (Array.getElem?_eq_some_iff.1 h).1
 have hBw:B≤w.heap.size:=by obtain ⟨_,_,_,_,_,h⟩:=hw;exact h
 have hz2:=hi.h2
 have hm5:=hi.hm
 have HW:Hid (WI (w.alloc (.cells #[.slice b ys.length cb,.int .i64 m] 40)) B R n0 V0∧Below B w0 (w.alloc (.cells #[.slice b ys.length cb,.int .i64 m] 40))):=⟨hw.stay HWA.out,hbel.trans (HWA.out.mono hBw)⟩
 have hzA:w.heap.size<(w.alloc (.cells #[.slice b ys.length cb,.int .i64 m] 40)).heap.size:=by simp
 have HC1:Calls Tryz.prog 94 #[.slice a zs.length ca,.int .i64 40] (w.alloc (.cells #[.slice b ys.length cb,.int .i64 m] 40)) _:=implCounts_yes a ca zs 40 _ (hi.hs.below HW.out.2 (by have:=hi.hB;omega)) hi.ht
 clear hw hi hbel hle hok1 hok2 hok3 HWA
 go_enter Tryz.func87,Tryz.ntmps87
 go_wp2_with fail
 generalize w.alloc (.cells #[.slice b ys.length cb,.int .i64 m] 40)=WA at *
 generalize w.heap.size=Q0 at *
 refine HC1.mono ?_
 clear HC1
 rintro e w1 ⟨rfl,hoc,hb1⟩
 have HL:=implNorm_ok (some ⟨WA.heap.size,0,none⟩) 40 (cnts zs 40) w1 hoc.byt (cnts_cnt (n:=40) HI.out.ht)
 rw [cnts_len] at HL
 have HB1:Hid (Below WA.heap.size WA w1):=hb1
 clear hoc hb1
 go_wp2_with fail
 refine HL.mono ?_
 clear HL
 rintro e w2 ⟨hb2,-,hyes2⟩
 obtain ⟨rfl,hog⟩:=hyes2 HTL.out.2.2.2.2
 clear hyes2
 have hg:=hog.lt
 have hge:=HB1.out.size
 generalize w1.heap.size=g at *
 have hgR:g≠R:=by omega
 have HR2:Hid (RowT w2 g (tS zs)):=hog.rowT
 have hb02:Below WA.heap.size WA w2:=HB1.out.trans (hb2.mono hge)
 have HW2:Hid (WI w2 B R n0 V0∧Below B w0 w2∧w2.heap[Q0]?=some (.cells #[.slice b ys.length cb,.int .i64 m] 40 (0,0))):=⟨HW.out.1.stay hb02,HW.out.2.trans (hb02.mono (by omega)),(hb02.block Q0 hzA).trans HQ0.out⟩
 have hQR:Q0≠R:=by omega
 have hP1:=putNorm_t g 40 (tS zs) R B n0 V0 w2 HR2.out hgR HW2.out.1 (by omega) HTL.out.1
 rw [HTL.out.2.2.1] at hP1
 clear hog hb2 hb02 HW HQ0 HB1 hg hge hzA
 go_wp2_with fail
 refine hP1.mono ?_
 clear hP1
 rintro e w3 ⟨rfl,hwi3,hb3,hk3⟩
 have HW3:Hid (WI w3 B R (nbG (tS zs) n0 40) (vbG (tS zs) n0 V0 40)∧Below B w0 w3∧RowT w3 g (tS zs)∧w3.heap[Q0]?=some (.cells #[.slice b ys.length cb,.int .i64 m] 40 (0,0))):=⟨hwi3,HW2.out.2.1.trans hb3,HR2.out.kp hk3 hgR,hk3 Q0 _ _ HW2.out.2.2 (by decide) hQR⟩
 have p1:w3.cell? ⟨Q0,1,none⟩=some (.int .i64 m):=cellR (j:=1) HW3.out.2.2.2 rfl
 have hP2:=HW3.out.1.putPn m 9 (by omega) (by omega) (by have:=HTL.out.2.2.2.1;omega)
 clear hwi3 hb3 hk3 HW2 HR2
 go_wp2_with fail
 refine hP2.mono ?_
 clear hP2
 rintro e w4 ⟨rfl,hwi4,hb4,hk4⟩
 have hQ4:=hk4 Q0 _ _ HW3.out.2.2.2 (by decide) hQR
 have HW4:Hid (RowT w4 g (tS zs)):=HW3.out.2.2.1.kp hk4 hgR
 have q0:w4.cell? ⟨Q0,0,none⟩=some (.slice b ys.length cb):=cellR (j:=0) hQ4 rfl
 have q1:w4.cell? ⟨Q0,1,none⟩=some (.int .i64 m):=cellR (j:=1) hQ4 rfl
 have hR4:R<w4.heap.size:=by obtain ⟨_,h,_⟩:=hwi4;exact (Array.getElem?_eq_some_iff.1 h).1
 have hB4:B≤w4.heap.size:=by obtain ⟨_,_,_,_,_,h⟩:=hwi4;exact h
 have HA5:Hid (Below w4.heap.size w4 (w4.alloc (.cells #[.slice b ys.length cb,.int .i64 m,.int .i64 0] 109))):=bAw
 have hbw5:Below B w0 (w4.alloc (.cells #[.slice b ys.length cb,.int .i64 m,.int .i64 0] 109)):=HW3.out.2.1.trans (hb4.trans (HA5.out.mono hB4))
 obtain ⟨pe,hpe⟩:=(HI.out.sE.belowB HI.out.hB hbw5).ov
 have hP3:=pour_w R B w4.heap.size b cb ys (nbG (tS zs) n0 40+9) _ m U pe _ (hwi4.stay HA5.out) (heap_alloc_new w4 _) (HI.out.hb.below hbw5 (by have:=HI.out.hB;omega)) HI.out.hy HI.out.hU (by have:=HTL.out.2.2.2;omega) (by omega) (by have:=HTL.out.2.2.2;omega) hB4 (by have:=HI.out.sE.hG.2;have:=HI.out.hB;omega) HI.out.blk hpe
 have HB5:Hid (Below B w0 (w4.alloc (.cells #[.slice b ys.length cb,.int .i64 m,.int .i64 0] 109))∧RowT (w4.alloc (.cells #[.slice b ys.length cb,.int .i64 m,.int .i64 0] 109)) g (tS zs)∧g≠w4.heap.size):=⟨hbw5,HW4.out.kp (Kp.below (R:=R) HA5.out) hgR,by have:=HW4.out.lt;omega⟩
 clear hb4 hk4 hwi4 hQ4 HW3 hbw5 hpe HA5 p1 HW4
 go_wp2_with fail
 refine hP3.mono ?_
 clear hP3
 rintro e w6 ⟨rfl,hwi6,hb6,hk6⟩
 obtain ⟨cur,hc1,hc2⟩:=HB5.out.2.1
 have HR6:Hid (RowT w6 g (tS zs)):=⟨cur,hk6 g cur _ hc1 (by decide) hgR HB5.out.2.2,hc2⟩
 have HF:Hid (WI w6 B R (nbG (tS zs) n0 40+9+m) (vbG (tS zs) n0 V0 40+m*2 ^ nbG (tS zs) n0 40+U*2 ^ (nbG (tS zs) n0 40+9))∧Below B w0 w6):=⟨hwi6,HB5.out.1.trans hb6⟩
 have hR6:R<w6.heap.size:=by obtain ⟨_,h,_⟩:=hwi6;exact (Array.getElem?_eq_some_iff.1 h).1
 have hB6:B≤w6.heap.size:=by obtain ⟨_,_,_,_,_,h⟩:=hwi6;exact h
 have hP4:=cellsOf_any (some ⟨g,0,none⟩) 40 (tS zs) w6 (HR6.out.ins (fun z hz=>by have:=(normB_sum HTL.out.1).2 z hz;omega)) HTL.out.1
 rw [HTL.out.2.2.1] at hP4
 clear hwi6 hb6 hk6 hc1 hc2 HB5 q0 q1
 go_wp2_with fail
 refine hP4.mono ?_
 clear hP4
 rintro e w7 ⟨gt,rfl,hgt,hgc,hb7⟩
 have hP5:=putText_any R B gt (nbG (tS zs) n0 40+9+m) (vbG (tS zs) n0 V0 40+m*2 ^ nbG (tS zs) n0 40+U*2 ^ (nbG (tS zs) n0 40+9)) a ca (tS zs) zs (tT zs) w0 w7 (HF.out.1.stay hb7) hgc (by omega) (tT_ok HI.out.ht HI.out.h1) HI.out.hs HI.out.hB (HF.out.2.trans (hb7.mono hB6)) (by omega) (by have:=HTL.out.2.2.2;omega) (fun k hk=>by rw [HTL.out.2.2.1];exact txtB_get HI.out.ht k hk) HI.out.sE.sS (by have:=HI.out.sE.hG.1;have:=HI.out.hB;omega)
 clear hgc hb7 HF HR6
 go_wp2_with fail
 refine hP5.mono ?_
 clear hP5
 rintro e w8 ⟨hb8,hyes8,-⟩
 obtain ⟨rfl,hwi8⟩:=hyes8 HTL.out.2.1
 have HF:Hid (WI w8 B R (byT zs m U n0 V0).1 (byT zs m U n0 V0).2∧Below B w0 w8):=⟨hwi8,hb8⟩
 clear hwi8 hb8 hyes8
 go_wp2
 go_ret
 exact ⟨rfl,HF.out⟩
def alkF (ys:List Int) (p a:Nat):Nat→Nat
 | 0=>0
 | f+1=>if ys.getD p 0=ys.getD a 0 then alkF ys (p+1) (a+1) f+1 else 0
def alk (ys:List Int) (p a:Nat):Nat:=alkF ys p a (ys.length-a)
theorem alkF_le (ys:List Int):∀ f p a,alkF ys p a f≤f
 | 0,p,a=>Nat.le_refl _
 | f+1,p,a=>by
  have h:=alkF_le ys f (p+1) (a+1)
  simp only [alkF]
  split <;> omega
theorem alkF_eq (ys:List Int):∀ f p a j,j<alkF ys p a f→ys.getD (p+j) 0=ys.getD (a+j) 0
 | 0,p,a,j,h=>by simp [alkF] at h
 | f+1,p,a,j,h=>by
  simp only [alkF] at h
  split at h
  ·rename_i h1
   cases j with
   | zero=>exact h1
   | succ j=>
    have:=alkF_eq ys f (p+1) (a+1) j (by omega)
    rw [show p+(j+1)=p+1+j by omega,show a+(j+1)=a+1+j by omega]
    exact this
  ·omega
theorem alkF_end (ys:List Int):∀ f p a,alkF ys p a f<f→ys.getD (p+alkF ys p a f) 0≠ys.getD (a+alkF ys p a f) 0
 | 0,p,a,h=>by omega
 | f+1,p,a,h=>by
  simp only [alkF] at h ⊢
  split at h
  ·rename_i h1
   rw [if_pos h1]
   have:=alkF_end ys f (p+1) (a+1) (by omega)
   rw [show p+(alkF ys (p+1) (a+1) f+1)=p+1+alkF ys (p+1) (a+1) f by omega,show a+(alkF ys (p+1) (a+1) f+1)=a+1+alkF ys (p+1) (a+1) f by omega]
   exact this
  ·rename_i h1
   rw [if_neg h1]
   exact h1
theorem alk_le (ys:List Int) (p a:Nat):alk ys p a≤ys.length-a:=alkF_le ys _ p a
theorem alk_is (ys:List Int) (p a n:Nat) (h1:a+n≤ys.length) (h2:∀ j,j<n→ys.getD (p+j) 0=ys.getD (a+j) 0) (h3:a+n<ys.length→ys.getD (p+n) 0≠ys.getD (a+n) 0):alk ys p a=n:=by
 rcases Nat.lt_trichotomy (alk ys p a) n with h | h | h
 ·exact absurd (h2 _ h) (alkF_end ys _ p a (by show alk ys p a<_;omega))
 ·exact h
 ·have h4:=alk_le ys p a
  exact absurd (alkF_eq ys _ p a n h) (h3 (by omega))
theorem alk_three (ys:List Int) (p a:Nat) (h:a+3≤ys.length):3≤alk ys p a↔(ys.getD p 0=ys.getD a 0∧ys.getD (p+1) 0=ys.getD (a+1) 0∧ys.getD (p+2) 0=ys.getD (a+2) 0):=by
 constructor
 ·intro h1
  exact ⟨alkF_eq ys _ p a 0 (by show 0<alk ys p a;omega),alkF_eq ys _ p a 1 (by show 1<alk ys p a;omega),alkF_eq ys _ p a 2 (by show 2<alk ys p a;omega)⟩
 ·rintro ⟨h1,h2,h3⟩
  rcases Nat.lt_or_ge (alk ys p a) 3 with h4 | h4
  ·exfalso
   have h5:=alkF_end ys _ p a (show alk ys p a<ys.length-a by omega)
   have h6:alk ys p a=0∨alk ys p a=1∨alk ys p a=2:=by omega
   change ys.getD (p+alk ys p a) 0≠ys.getD (a+alk ys p a) 0 at h5
   rcases h6 with h6 | h6 | h6 <;> rw [h6] at h5
   ·exact h5 h1
   ·exact h5 h2
   ·exact h5 h3
  ·exact h4
def lzD (ys:List Int) (a:Nat):Nat→Nat × Nat
 | 0=>(0,0)
 | k+1=>if (lzD ys a k).1<alk ys (a-(k+1)) a then (alk ys (a-(k+1)) a,k+1) else lzD ys a k
def lzP (ys:List Int) (a:Nat):Nat→Nat × Nat
 | 0=>(0,0)
 | k+1=>if 3≤alk ys k a∧(lzP ys a k).1≤alk ys k a then (alk ys k a,a-k) else lzP ys a k
theorem lzD_spec (ys:List Int) (a:Nat):∀ k,(∀ d,1≤d→d≤k→alk ys (a-d) a≤(lzD ys a k).1)∧(lzD ys a k=(0,0)∨∃ d,1≤d∧d≤k∧lzD ys a k=(alk ys (a-d) a,d)∧∀ e,1≤e→e<d→alk ys (a-e) a<alk ys (a-d) a)
 | 0=>⟨fun d h1 h2=>by omega,.inl rfl⟩
 | k+1=>by
  obtain ⟨h1,h2⟩:=lzD_spec ys a k
  simp only [lzD]
  split
  ·rename_i h
   refine ⟨fun d d1 d2=>?_,.inr ⟨k+1,by omega,Nat.le_refl _,rfl,fun e e1 e2=>Nat.lt_of_le_of_lt (h1 e e1 (by omega)) h⟩⟩
   rcases Nat.lt_or_ge d (k+1) with h3 | h3
   ·exact Nat.le_trans (h1 d d1 (by omega)) (Nat.le_of_lt h)
   ·rw [show d=k+1 by omega]
    exact Nat.le_refl _
  ·rename_i h
   refine ⟨fun d d1 d2=>?_,?_⟩
   ·rcases Nat.lt_or_ge d (k+1) with h3 | h3
    ·exact h1 d d1 (by omega)
    ·rw [show d=k+1 by omega]
     omega
   ·rcases h2 with h2 | ⟨d,d1,d2,d3,d4⟩
    ·exact .inl h2
    ·exact .inr ⟨d,d1,by omega,d3,d4⟩
theorem lzP_spec (ys:List Int) (a:Nat):∀ k,(∀ p,p<k→3≤alk ys p a→alk ys p a≤(lzP ys a k).1)∧((lzP ys a k=(0,0)∧∀ p,p<k→alk ys p a<3)∨∃ p,p<k∧lzP ys a k=(alk ys p a,a-p)∧3≤alk ys p a∧∀ q,p<q→q<k→alk ys q a<alk ys p a)
 | 0=>⟨fun d h1=>by omega,.inl ⟨rfl,fun p hp=>by omega⟩⟩
 | k+1=>by
  obtain ⟨h1,h2⟩:=lzP_spec ys a k
  simp only [lzP]
  split
  ·rename_i h
   refine ⟨fun p p1 p2=>?_,.inr ⟨k,by omega,rfl,h.1,fun q q1 q2=>by omega⟩⟩
   rcases Nat.lt_or_ge p k with h3 | h3
   ·exact Nat.le_trans (h1 p h3 p2) h.2
   ·rw [show p=k by omega]
    exact Nat.le_refl _
  ·rename_i h
   refine ⟨fun p p1 p2=>?_,?_⟩
   ·rcases Nat.lt_or_ge p k with h3 | h3
    ·exact h1 p h3 p2
    ·rw [show p=k by omega] at p2 ⊢
     rcases Nat.lt_or_ge (alk ys k a) (lzP ys a k).1 with h4 | h4
     ·omega
     ·exact absurd ⟨p2,h4⟩ h
   ·rcases h2 with ⟨h2,h3⟩ | ⟨p,p1,p2,p3,p4⟩
    ·refine .inl ⟨h2,fun p hp=>?_⟩
     rcases Nat.lt_or_ge p k with h5 | h5
     ·exact h3 p h5
     ·rw [show p=k by omega]
      rcases Nat.lt_or_ge (alk ys k a) 3 with h6 | h6
      ·exact h6
      ·exact absurd ⟨h6,by rw [h2];omega⟩ h
    ·refine .inr ⟨p,by omega,p2,p3,fun q q1 q2=>?_⟩
     rcases Nat.lt_or_ge q k with h5 | h5
     ·exact p4 q q1 h5
     ·rw [show q=k by omega]
      rcases Nat.lt_or_ge (alk ys k a) (alk ys p a) with h6 | h6
      ·exact h6
      ·exact absurd ⟨by omega,by rw [p2];exact h6⟩ h
def lzA (ys:List Int) (a:Nat):Nat × Nat:=if (lzD ys a a).1<3 then (0,0) else lzD ys a a
theorem lzP_lzA (ys:List Int) (a:Nat):lzP ys a a=lzA ys a:=by
 obtain ⟨d1,d2⟩:=lzD_spec ys a a
 obtain ⟨p1,p2⟩:=lzP_spec ys a a
 unfold lzA
 split
 ·rename_i h
  rcases p2 with ⟨p2,_⟩ | ⟨p,q1,q2,q3,q4⟩
  ·exact p2
  ·have:=d1 (a-p) (by omega) (by omega)
   rw [show a-(a-p)=p by omega] at this
   omega
 ·rename_i h
  rcases d2 with d2 | ⟨d,e1,e2,e3,e4⟩
  ·rw [d2] at h
   simp at h
  ·have h3:3≤alk ys (a-d) a:=by rw [e3] at h;simp only at h;omega
   have hp:=p1 (a-d) (by omega) h3
   rcases p2 with ⟨p2,p3⟩ | ⟨p,q1,q2,q3,q4⟩
   ·have:=p3 (a-d) (by omega)
    omega
   ·rw [q2] at hp
    simp only at hp
    have h5:=d1 (a-p) (by omega) (by omega)
    rw [show a-(a-p)=p by omega,e3] at h5
    simp only at h5
    have h6:p=a-d:=by
     rcases Nat.lt_trichotomy p (a-d) with h7 | h7 | h7
     ·have:=q4 (a-d) h7 (by omega)
      omega
     ·exact h7
     ·have:=e4 (a-p) (by omega) (by omega)
      rw [show a-(a-p)=p by omega] at this
      omega
    rw [q2,e3,h6,show a-(a-d)=d by omega]
def lz (ys:List Int) (q:Nat):Nat × Nat:=if q<ys.length then lzA ys q else (0,0)
def cutL (ys:List Int) (f q:Nat):List Int:=(ys.drop f).take (q-f)
theorem cutL_len (ys:List Int) (f q:Nat) (hf:f≤q) (hq:q≤ys.length):(cutL ys f q).length=q-f:=by
 unfold cutL
 rw [List.length_take,List.length_drop]
 omega
theorem cutL_mem {ys:List Int} {f q:Nat} {z:Int} (h:z ∈ cutL ys f q):z ∈ ys:=List.mem_of_mem_drop (List.mem_of_mem_take h)
def takes (ys:List Int) (q:Nat):Prop:=0<(lz ys q).1∧(lz ys (q+1)).1≤(lz ys q).1
theorem lz_le (ys:List Int) (q:Nat):q+(lz ys q).1≤max q ys.length∧(lz ys q).2≤q:=by
 unfold lz
 split
 ·unfold lzA
  have h1:=lzD_spec ys q q
  split
  ·simp;omega
  ·rcases h1.2 with h | ⟨d,d1,d2,h,_⟩
   ·rw [h];simp;omega
   ·have:=alk_le ys (q-d) q
    rw [h]
    simp only
    omega
 ·simp;omega
def fin (ys:List Int) (f:Nat) (cs:List (List Int × Int × Int)):List (List Int × Int × Int):=if f<ys.length then cs++[(cutL ys f ys.length,0,0)] else cs
def go (ys:List Int):Nat→Nat→Nat→List (List Int × Int × Int)→Nat × List (List Int × Int × Int)
 | 0,f,q,cs=>(f,cs)
 | n+1,f,q,cs=>if q<ys.length then (if 0<(lz ys q).1∧(lz ys (q+1)).1≤(lz ys q).1 then go ys n (q+(lz ys q).1) (q+(lz ys q).1) (cs++[(cutL ys f q,((lz ys q).1:Int),((lz ys q).2:Int))]) else go ys n f (q+1) cs) else (f,cs)
def found (ys:List Int):List (List Int × Int × Int):=fin ys (go ys ys.length 0 0 []).1 (go ys ys.length 0 0 []).2
structure St (ys:List Int) (f q:Nat) (cs:List (List Int × Int × Int)):Prop where
 fq:f≤q
 ql:q≤ys.length
 cl:cs.length≤q
 parts:∀ c ∈ cs,c.1.length≤ys.length∧(∃ n d:Nat,c.2=((n:Int),(d:Int))∧n≤ys.length∧d≤ys.length)
 run:∃ m,ys.length≤m+q∧go ys m f q cs=go ys ys.length 0 0 []
theorem St.start (ys:List Int):St ys 0 0 []:=⟨Nat.le_refl _,Nat.zero_le _,Nat.le_refl _,by simp,ys.length,by omega,rfl⟩
theorem St.wait {ys:List Int} {f q:Nat} {cs:List (List Int × Int × Int)} (h:St ys f q cs) (hq:q<ys.length) (ht:¬takes ys q):St ys f (q+1) cs:=by
 have h1:=h.fq
 have h2:=h.cl
 refine ⟨by omega,hq,by omega,h.parts,?_⟩
 obtain ⟨m,hm,hg⟩:=h.run
 obtain ⟨k,rfl⟩:∃ k,m=k+1:=⟨m-1,by omega⟩
 refine ⟨k,by omega,?_⟩
 rw [←hg]
 simp only [go]
 rw [if_pos hq,if_neg (show ¬(0<(lz ys q).1∧(lz ys (q+1)).1≤(lz ys q).1) from ht)]
theorem St.take {ys:List Int} {f q:Nat} {cs:List (List Int × Int × Int)} (h:St ys f q cs) (hq:q<ys.length) (ht:takes ys q):St ys (q+(lz ys q).1) (q+(lz ys q).1) (cs++[(cutL ys f q,((lz ys q).1:Int),((lz ys q).2:Int))]):=by
 have h1:=h.fq
 have h2:=h.cl
 have h3:=lz_le ys q
 have h4:=ht.1
 refine ⟨Nat.le_refl _,by omega,by rw [List.length_append];simp;omega,?_,?_⟩
 ·intro c hc
  rcases List.mem_append.1 hc with hc | hc
  ·exact h.parts c hc
  ·simp only [List.mem_singleton] at hc
   subst hc
   have h5:=cutL_len ys f q h1 h.ql
   exact ⟨by show (cutL ys f q).length≤_;omega,_,_,rfl,by omega,by omega⟩
 ·obtain ⟨m,hm,hg⟩:=h.run
  obtain ⟨k,rfl⟩:∃ k,m=k+1:=⟨m-1,by omega⟩
  refine ⟨k,by omega,?_⟩
  rw [←hg]
  simp only [go]
  rw [if_pos hq,if_pos (show 0<(lz ys q).1∧(lz ys (q+1)).1≤(lz ys q).1 from ht)]
theorem St.done {ys:List Int} {f q:Nat} {cs:List (List Int × Int × Int)} (h:St ys f q cs) (hq:¬q<ys.length):found ys=fin ys f cs:=by
 obtain ⟨m,hm,hg⟩:=h.run
 have e:go ys m f q cs=(f,cs):=by
  cases m with
  | zero=>rfl
  | succ m=>simp only [go];rw [if_neg hq]
 rw [e] at hg
 unfold found
 rw [←hg]
theorem lz_at {ys:List Int} {q:Nat} (h:q<ys.length):lz ys q=lzA ys q:=if_pos h
theorem lz_end {ys:List Int} {q:Nat} (h:¬q<ys.length):lz ys q=(0,0):=if_neg h
end Go.Proofs.YtfeokafkhnbdiaaGreatDoor
