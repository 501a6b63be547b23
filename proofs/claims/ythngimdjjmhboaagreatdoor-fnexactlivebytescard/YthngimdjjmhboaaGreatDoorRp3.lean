/-
  The items of a sector, as the program reads them: all of them, or a panic where they do not fit. (Typed by wip/mkrp3.py.)
-/
import Derived.Test.YthngimdjjmhboaaGreatDoorElD
import Derived.Test.YthngimdjjmhboaaGreatDoorRp2
import Derived.Test.YthngimdjjmhboaaGreatDoorRpM
import Derived.Test.YthngimdjjmhboaaGreatDoorItApp
import Derived.Test.YthngimdjjmhboaaGreatDoorDcY
namespace Go.Proofs.YthngimdjjmhboaaGreatDoor
open Go.RowKit
set_option linter.unusedVariables false
set_option linter.unusedSimpArgs false

theorem Only.thenBelow {S:Nat→Prop} {a b c:World} (h:Only S a b) (k:Below a.heap.size b c):Only S a c:=⟨k.os.trans h.os,k.tape.trans h.tape,k.output.trans h.output,Nat.le_trans h.size k.size,fun i hi hs=>(k.block i hi).trans (h.block i hi hs)⟩
structure PrS (w W:World) (R b o c p:Nat) (zs:List Int) (u:Value) (fs:List El):Prop where
 on:Only (fun x=>x=R) w W
 rd:PrR W R b o zs.length c p
 row:OVt W w.heap.size u fs
 dp:Deep W w.heap.size fs
 rl:R<w.heap.size
theorem PrS.take {w W W':World} {R b o c p q:Nat} {zs:List Int} {u:Value} {fs:List El} (h:PrS w W R b o c p zs u fs) (hr:PrR W' R b o zs.length c q) (ho:Only (fun x=>x=R) W W'):PrS w W' R b o c q zs u fs:=by
 have hl:=h.rl
 exact ⟨h.on.trans ho,hr,h.row.stay ho (fun k hk e=>by have:=(h.row.blk hk).1;omega),h.dp.stay ho (fun x hx k hk e=>by have:=((h.dp.mine x hx).rowE hk).1;omega),hl⟩
theorem PrS.more {w W w2 w3:World} {R b o c p:Nat} {zs:List Int} {u v':Value} {fs:List El} {e:El} {ob:Obj} (h:PrS w W R b o c p zs u fs) (hb:Below W.heap.size W w2) (hm:Mine w2 W.heap.size w2.heap.size e.a e.c e.ls) (hov:OVt w3 w.heap.size v' (fs++[e])) (hg:(w2.alloc ob).grownBy w3 u.ownBlock) :
  PrS w w3 R b o c p zs v' (fs++[e]):=by
 have hl:=h.rl
 have hW:=h.on.size
 have hba:Below w2.heap.size w2 (w2.alloc ob):=(Below.refl _ _).alloc (Nat.le_refl _) _
 have hb2:Below W.heap.size W (w2.alloc ob):=hb.trans (hba.mono hb.size)
 have hr2:=h.row.below hb2
 have hd2:Deep (w2.alloc ob) w.heap.size (fs++[e]):=((h.dp.below hb).snoc (U:=W.heap.size) hm (fun x hx k hk=>h.dp.lt x hx k hk) (by omega)).below hba
 have hd3:Deep w3 w.heap.size (fs++[e]):=hd2.stay (Only.ofGrownT hg) (fun x hx k hk e=>hr2.other (hd2.mine x hx) e hk)
 have hbw:Below w.heap.size W w3:=(hb2.mono hW).grown hg (by have:=hb2.size;omega) (fun k hk=>(hr2.blk hk).1)
 exact ⟨h.on.thenBelow hbw,h.rd.keep hbw hl,hov,hd3,hl⟩
theorem itL_ctlen {zs:List Int} {m k:Nat} {fs:List El} (h:fs.map El.ct=(itL zs m k).map El.ct):fs.length=k:=by rw [len_ctE h,itL_len]

set_option maxRecDepth 20000 in
set_option maxHeartbeats 8000000 in
theorem items_any (R b o c m:Nat) (zs:List Int) (T:TypeId) (x:Value) (w:World) (hR:PrR w R b o zs.length c 6) (hB:PrB w R b o zs) (hn:zs.length=256) (hm:m≤255) (hL:c≤9223372036854775807) (hg:w.cell? ⟨16,0,none⟩=some (.iface T x)) (hgR:16≠R) (hgl:16<w.heap.size) :
  Calls Tryz.prog 191 #[.pointer (some ⟨R,0,none⟩),.int .i64 m] w fun e w'=>
   ((aP zs m m≤256∧∃ u fs,e=.returned u∧fs.map El.ct=(itL zs m m).map El.ct∧PrS w w' R b o c (aP zs m m) zs u fs)∨(256<aP zs m m∧e=.panicked [{ v:=.iface T x,recovered:=false }]∧Only (fun x=>x=R) w w')):=by
 have hl:=hR.lt
 by_cases h6:6+2 * m≤256
 rotate_left 1
 ·have HT:=takeBytes_no R b o zs.length c 6 (2 * m) T x w hR (by omega) hL (by omega) hg
  have HA:Hid (256<aP zs m m):=Nat.lt_of_lt_of_le (by omega) (aP_lo zs m m)
  clear hR hB hg
  go_enter Tryz.func191,Tryz.ntmps191
  go_wp2_with fail
  rw [show ((m:Int) * 2)=((2 * m:Nat):Int) by omega]
  refine HT.mono ?_
  rintro e w1 ⟨rfl,rfl⟩
  go_wp2
  exact ⟨rfl,.inr ⟨HA.out,rfl,Only.refl _ _⟩⟩
 have HT:=takeBytes_yes R b o zs.length c 6 (2 * m) w hR (by omega) hL
 have HB:Hid (PrB w R b o zs∧zs.length=256∧w.cell? ⟨16,0,none⟩=some (.iface T x)):=⟨hB,hn,hg⟩
 have HLC:Hid (6<c):=by have:=hR.lc;exact (by omega:6<c)
 clear hR hB hg
 go_enter Tryz.func191,Tryz.ntmps191
 go_wp2_with fail
 rw [show ((m:Int) * 2)=((2 * m:Nat):Int) by omega]
 refine HT.mono ?_
 clear HT
 rintro e w1 ⟨⟨q,rfl,hq⟩,hR1,ho1⟩
 have hq1:=hq HLC.out
 subst hq1
 have HS0:Hid (PrS w w1 R b o c (aP zs m 0) zs (.slice none 0 0) []):=⟨ho1,hR1,OVt.nil _ _,Deep.nil _ _,hl⟩
 clear hq hR1 ho1
 go_wp2
 go_loopw [6,14] (fun u i wr=>∃ (k:Nat) (fs:List El),k≤m∧i=.int .i64 k∧fs.map El.ct=(itL zs m k).map El.ct∧aP zs m k≤256∧PrS w wr R b o c (aP zs m k) zs u fs) (fun _ i _=>m - (intOf i).toNat)
 case atStart=>exact ⟨0,[],Nat.zero_le _,rfl,rfl,by simp only [aP];omega,HS0.out⟩
 case round=>
  clear HS0
  obtain ⟨k,fs,hk,rfl,hct,ha,hps⟩:=hrel
  have HST:Hid (fs.map El.ct=(itL zs m k).map El.ct∧fs.length=k∧aP zs m k≤256):=⟨hct,itL_ctlen hct,ha⟩
  clear hct
  obtain ⟨fa,fc,rfl⟩:=hps.row.form
  have HPS:Hid (PrS w wr R b o c (aP zs m k) zs (.slice fa fs.length fc) fs):=hps
  by_cases hlt:k<m
  ·have hbr:=HB.out.1.only hps.on
   have d0:=hbr.z (6+2 * k) (by have:=HB.out.2.1;omega)
   have d1:=hbr.z (7+2 * k) (by have:=HB.out.2.1;omega)
   have hbl:=hbr.lt
   have r0:=getD_rng hbr.r (6+2 * k)
   have r1:=getD_rng hbr.r (7+2 * k)
   have HI:Hid (zs.getD (7+2 * k) 0=(cN zs k:Nat)∧aP zs m (k+1)=aP zs m k+cN zs k∧itL zs m (k+1)=itL zs m k++[itE zs m k]):=⟨by unfold cN;omega,rfl,rfl⟩
   rw [HI.out.1] at d1 r1
   have hcN:cN zs k≤255:=by omega
   have HA:Hid (aP zs m (k+1)≤aP zs m m):=aP_le zs m (by omega)
   have x1:o+(6+2 * k)=o+6+(k * 2):=by omega
   have x2:o+(7+2 * k)=o+6+(k * 2+1):=by omega
   rw [x1] at d0
   rw [x2] at d1
   have HBR:Hid (PrB wr R b o zs):=hbr
   have hk1:fs.length≤1000:=by have:=HST.out.2.1;omega
   have hz0:Hid (zs.getD (6+2 * k) 0=(itE zs m k).n∧True):=⟨rfl,trivial⟩
   rw [hz0.out.1] at d0 r0
   clear hbr x1 x2 hps
   generalize hy:cN zs k=y at *
   have HY:Hid (cN zs k=y∧True):=⟨hy,trivial⟩
   clear hy
   by_cases hfit:aP zs m k+y≤256
   rotate_left 1
   ·have hgw:=HPS.out.on.cell hgl hgR HB.out.2.2
    have HTN:=takeBytes_no R b o zs.length c (aP zs m k) y T x wr HPS.out.rd (by have:=HB.out.2.1;omega) hL (by omega) hgw
    have HF:Hid (256<aP zs m m∧Only (fun x=>x=R) w wr):=⟨by have:=HA.out;have h9:=HI.out.2.1;omega,HPS.out.on⟩
    clear hgw HPS HST
    generalize (itE zs m k).n=sn at *
    go_wp2_with fail
    refine HTN.mono ?_
    rintro e w2 ⟨rfl,rfl⟩
    go_wp2
    exact ⟨rfl,.inr ⟨HF.out.1,rfl,HF.out.2⟩⟩
   have HTY:=takeBytes_yes R b o zs.length c (aP zs m k) y wr HPS.out.rd (by have:=HB.out.2.1;omega) hL
   have HD:Hid (wr.cell? ⟨b,o+6+k * 2,none⟩=some (.int .u8 (itE zs m k).n)∧True):=⟨d0,trivial⟩
   have HEI:Hid (itE zs m k=⟨(itE zs m k).n,none,0,(itE zs m k).ls⟩∧(itE zs m k).ls=(zs.drop (aP zs m k)).take y∧(itE zs m k).ls.length=y):=⟨rfl,by rw [←HY.out.1];rfl,by rw [itE_len (by rw [HI.out.2.1];have:=HB.out.2.1;omega)];exact HY.out.1⟩
   generalize hsn:(itE zs m k).n=sn at *
   generalize hsl:(itE zs m k).ls=sl at *
   clear hsn hsl
   go_wp2_with fail
   refine HTY.mono ?_
   clear HTY
   rintro e w2 ⟨⟨q,rfl,hq⟩,hR2,ho2⟩
   have HP2:Hid (PrS w w2 R b o c (aP zs m (k+1)) zs (.slice fa fs.length fc) fs):=by rw [HI.out.2.1];exact HPS.out.take hR2 ho2
   have hb2:=HBR.out.only ho2
   have d2:=ho2.cell hbl HBR.out.ne HD.out.1
   have hby:Byt w2 (some ⟨b,q,none⟩) sl:=by
    refine ⟨fun z hz=>hb2.r z (by rw [HEI.out.2.1] at hz;exact List.mem_of_mem_drop (List.mem_of_mem_take hz)),fun h0=>⟨b,q,rfl,hb2.lt,fun i hi=>?_⟩⟩
    have hi2:i<y:=by rw [←HEI.out.2.2];exact hi
    have hqq:=hq (by have:=HPS.out.rd.lc;have:=HB.out.2.1;omega)
    have:=hb2.z (aP zs m k+i) (by have:=HB.out.2.1;omega)
    rw [hqq,Nat.add_assoc,this,HEI.out.2.1]
    simp [List.getD_eq_getElem?_getD,List.getElem?_take,List.getElem?_drop,hi2]
   have hyl:y=sl.length:=HEI.out.2.2.symm
   have hsl:sl.length≤255:=by omega
   subst hyl
   have HBY:Hid (Byt w2 (some ⟨b,q,none⟩) sl):=hby
   have hbl2:b<w2.heap.size:=hb2.lt
   have HCN:=bytesClone_any (some ⟨b,q,none⟩) (c - aP zs m k) sl w2.drew (hby.drewN 1) (by omega)
   clear hby hq hR2 ho2 hb2 d0 d1 HPS HD
   go_wp2
   have hi0:IntKind.i64.wrap ((k:Int) * 2)=(k:Int) * 2:=IntWalk.i64_in _ (by omega)
   have hi1:0≤(k:Int) * 2:=by omega
   have hi2:(k:Int) * 2<2 * (m:Int):=by omega
   have hi3:((k:Int) * 2).toNat=k * 2:=by omega
   have hi4:IntKind.i64.wrap sn=sn:=IntWalk.i64_in _ (by omega)
   refine wp_region_cut (S:=fun W=>W.cell? ⟨b,o+6+k * 2,none⟩=some (.int .u8 sn)) 12 (by kernel_rfl) (by kernel_rfl) (by exact d2) (fun hHeld=>?_)
   refine tk 0 (v:=?_) ?_ ?_
   rotate_left 1
   ·(intro w hSw;(try dsimp only at hSw);go_simp;try (with_reducible rfl))
   try simp only [tkS]
   refine tk 1 (v:=?_) ?_ ?_
   rotate_left 1
   ·(intro w hSw;(try dsimp only at hSw);go_simp;try (with_reducible rfl))
   try simp only [tkS]
   refine tk 2 (v:=?_) ?_ ?_
   rotate_left 1
   ·(intro w hSw;(try dsimp only at hSw);go_simp;try (with_reducible rfl))
   try simp only [tkS]
   refine tk 3 (v:=?_) ?_ ?_
   rotate_left 1
   ·(intro w hSw;(try dsimp only at hSw);go_simp;try (with_reducible rfl))
   try simp only [tkS]
   refine tk 4 (v:=?_) ?_ ?_
   rotate_left 1
   ·(intro w hSw;(try dsimp only at hSw);go_simp;try (with_reducible rfl))
   try simp only [tkS]
   refine tk 5 (v:=?_) ?_ ?_
   rotate_left 1
   ·(intro w hSw;(try dsimp only at hSw);go_simp;try (with_reducible rfl))
   try simp only [tkS]
   refine tk 6 (v:=?_) ?_ ?_
   rotate_left 1
   ·(intro w hSw;(try dsimp only at hSw);go_simp;try (with_reducible rfl))
   try simp only [tkS]
   refine tk 7 (v:=?_) ?_ ?_
   rotate_left 1
   ·(intro w hSw;(try dsimp only at hSw);go_simp;try (with_reducible rfl))
   try simp only [tkS]
   refine wpAnyH_ready (rs:=[8]) (by kernel_rfl) (by simp) ?_
   refine AllReadyH.cons rfl (fun K hK=>?_) AllReadyH.nil
   go_simp
   refine HCN.mono ?_
   clear HCN
   rintro e w3 ⟨⟨v3,rfl,hov3⟩,hb3'⟩
   have hb3:Below w2.heap.size w2 w3:=Below.drewS hb3'
   obtain ⟨ua,uc,rfl,hm3⟩:=hov3.mine
   have HM3:Hid (Mine w3 w2.heap.size w3.heap.size ua uc sl∧Below w2.heap.size w2 w3):=⟨hm3,hb3⟩
   have d3:=keep hb3 hbl2 d2
   have hbl3:b<w3.heap.size:=by have:=hb3.size;omega
   clear hm3 hb3 hov3 hb3'
   dsimp only
   refine hK.out _ _ (by exact d3) (fun hHeld=>?_)
   clear hK K
   try simp only [tkS]
   refine tk 9 (v:=?_) ?_ ?_
   rotate_left 1
   ·(intro w hSw;(try dsimp only at hSw);go_simp;try (with_reducible rfl))
   try simp only [tkS]
   refine wpAnyH_ready (rs:=[10]) (by kernel_rfl) (by simp) ?_
   refine AllReadyH.cons rfl (fun K hK=>?_) AllReadyH.nil
   go_simp
   refine hK.out _ _ (by exact keepA _ hbl3 d3) (fun hHeld=>?_)
   clear hK K
   try simp only [tkS]
   refine wpAnyH_ready (rs:=[11]) (by kernel_rfl) (by simp) ?_
   refine AllReadyH.cons rfl (fun K hK=>?_) AllReadyH.nil
   refine wanted_step rfl (wp_append_it (.tmp 26) (.tmp 36) rfl w.heap.size (.slice fa fs.length fc) fs (by simp [Act.eval]) ((HP2.out.row.below HM3.out.2).below ((Below.refl w3.heap.size w3).alloc (Nat.le_refl _) _)) w3.heap.size 1 ⟨sn,ua,uc,sl⟩ (by simp [Act.eval]) (newsT w3 sn _ sl.length uc 113 _ rfl rfl rfl rfl) (by omega) (by have h1:=HP2.out.on.size;have h2:=HM3.out.2.size;simp;omega) ?_)
   intro v4 w4 hov4 hg4
   obtain ⟨sa4,sc4,hv4⟩:=hov4.form
   rw [List.length_append,List.length_singleton] at hv4
   subst hv4
   have HM:Hid (PrS w w4 R b o c (aP zs m (k+1)) zs (.slice sa4 (fs.length+1) sc4) (fs++[⟨sn,ua,uc,sl⟩])):=HP2.out.more (e:=⟨sn,ua,uc,sl⟩) HM3.out.2 HM3.out.1 hov4 hg4
   have hne:¬(Value.slice fa fs.length fc).ownBlock=some b:=fun he=>by have h1:=(HP2.out.row.blk he).1;have h2:=HB.out.1.lt;omega
   have d4:=(Only.ofGrownT hg4).cell (b:=b) (o:=o+6+k * 2) (by simp;omega) hne (keepA _ hbl3 d3)
   clear hov4 hg4
   refine hK.out _ _ (by exact d4) (fun hHeld=>?_)
   clear hK K
   try simp only [tkS]
   refine wpAnyH_done (by kernel_rfl) ?_ _
   simp only [cutQ,List.drop_succ_cons,List.drop_zero]
   have HCT2:Hid ((fs++[(⟨sn,ua,uc,sl⟩:El)]).map El.ct=(itL zs m (k+1)).map El.ct∧aP zs m (k+1)≤256):=⟨by rw [List.map_append,HST.out.1,HI.out.2.2,HEI.out.1,List.map_append];rfl,by rw [HI.out.2.1];exact hfit⟩
   clear HM3 HP2 HST d2 d3 d4 HI
   go_wp2
   go_roundw
   case rel=>exact ⟨k+1,_,by omega,by go_num,HCT2.out.1,HCT2.out.2,HM.out⟩
   case measure=>simp [intOf];omega
  ·have hkn:k=m:=by omega
   subst hkn
   clear hps
   go_wp2
   go_ret
   exact .inl ⟨HST.out.2.2,_,fs,rfl,HST.out.1,HPS.out⟩
end Go.Proofs.YthngimdjjmhboaaGreatDoor
