/- Lemmas on the way. -/
import Derived.Test.YtfeokafkhnbdiaaGreatDoorLen8
import Derived.Test.YtfeokafkhnbdiaaGreatDoorSeal1
import Derived.Laws.CopyOwn
import Derived.Test.YtfeokafkhnbdiaaGreatDoorSy2
import Derived.BigQuiet
import Derived.Test.YtfeokafkhnbdiaaGreatDoorEnM
import Derived.Test.YtfeokafkhnbdiaaGreatDoorEnL
import Derived.Test.YtfeokafkhnbdiaaGreatDoorFp1
import Derived.Test.YtfeokafkhnbdiaaGreatDoorPut4
set_option maxRecDepth 20000
set_option maxHeartbeats 16000000
namespace Go.Proofs.YtfeokafkhnbdiaaGreatDoor
open Go.RowKit
set_option linter.unusedVariables false
theorem andNot_all :∀ t,t<256→∀ b,b<8→2 ^ b≤t→t<2 ^ (b+1)→t &&& (255-2 ^ b)=t-2 ^ b:=by decide +kernel
theorem made_blockO {w:World} {B g n:Nat} (h:w.ownsRow B 5 1 (.slice (some ⟨g,0,none⟩) n n) n (madeCells (Value.int .u8 0).cells (n*1)).toList) :
  w.heap[g]?=some (.cells ((List.replicate n (0:Int)).map (Value.int .u8)).toArray 5 (0,0)):=by
 rcases h.2 with ⟨h',_⟩ | ⟨g',cap',cur,h',hg,hh,h1,h2,h3,h4⟩
 ·simp at h'
 ·simp only [Value.slice.injEq,Option.some.injEq,Addr.mk.injEq,and_true,true_and] at h'
  obtain ⟨rfl,rfl⟩:=h'
  rw [hh,←made_zero,←h4]
  rw [List.take_of_length_le (by simp [h3])]
theorem copy_done {w w1:World} {x0 x1 y0 y1:Value} {T U:TypeId} {M:Nat} {Z:List Int} (hb:Below (w.heap.size+1) (w.alloc (.cells #[x0,x1] T)) w1) (hs:w.heap.size+1<w1.heap.size)
  (hk:w1.heap[w.heap.size+1]?=some (.cells ((List.replicate M (0:Int)).map (Value.int .u8)).toArray 5 (0,0))) (hZ:Z.length=M) (hr:∀ z ∈ Z,0≤z∧z≤255) (hM:M≤1048576) {W:World}
  (hW:(w1.alloc (.cells #[y0,y1] U)).setRow (w.heap.size+1) ((((List.replicate M (0:Int)).map (Value.int .u8)).toArray.toList.take 0++(Z.map (Value.int .u8)++((List.replicate M (0:Int)).map (Value.int .u8)).toArray.toList.drop (0+(Z.map (Value.int .u8)).length))).toArray)=W) :
  Own W (w.heap.size+1) (w.heap.size+1) M Z∧W.cell? ⟨w1.heap.size,0,none⟩=some y0∧W.cell? ⟨w1.heap.size,1,none⟩=some y1∧W.cell? ⟨w.heap.size,0,none⟩=some x0∧W.cell? ⟨w.heap.size,1,none⟩=some x1 ∧
   W.frozen? ⟨w.heap.size,0,none⟩=false∧W.frozen? ⟨w.heap.size,1,none⟩=false∧Below w.heap.size w W∧W.heap.size=w1.heap.size+1:=by
 subst hW
 have hrow:(((List.replicate M (0:Int)).map (Value.int .u8)).toArray.toList.take 0++(Z.map (Value.int .u8)++((List.replicate M (0:Int)).map (Value.int .u8)).toArray.toList.drop (0+(Z.map (Value.int .u8)).length)))=Z.map (Value.int .u8):=by
  simp [hZ]
 rw [hrow]
 have h1:(w1.alloc (.cells #[y0,y1] U)).heap[w.heap.size+1]?=some (.cells ((List.replicate M (0:Int)).map (Value.int .u8)).toArray 5 (0,0)):=by rw [Below.heap_alloc _ _ _ hs];exact hk
 have h2:=setRow_heap _ _ _ (Z.map (Value.int .u8)).toArray _ _ h1
 have ho:Only (fun k=>k=w.heap.size+1) (w1.alloc (.cells #[y0,y1] U)) ((w1.alloc (.cells #[y0,y1] U)).setRow (w.heap.size+1) (Z.map (Value.int .u8)).toArray):=
  ⟨rfl,rfl,rfl,by simp,fun k _ hne=>setRow_other _ _ _ _ hne⟩
 have hbw:Below w.heap.size w (w1.alloc (.cells #[y0,y1] U)):=(((Below.refl w.heap.size w).alloc nl _).trans (hb.mono (by omega))).alloc (by omega) _
 have fz:∀ j,((w1.alloc (.cells #[y0,y1] U)).setRow (w.heap.size+1) (Z.map (Value.int .u8)).toArray).frozen? ⟨w.heap.size,j,none⟩=false:=by
  intro j
  rw [World.frozen?_of_block (a:=⟨w.heap.size,j,none⟩) (ho.block w.heap.size (by simp;omega) (by omega))]
  exact keepAF _ (by omega) (keepF hb (by omega) (by simp))
 refine ⟨⟨⟨by simp,.inr ⟨_,M,_,by rw [hZ],Nat.le_refl _,h2,by omega,by unfold maxLen;omega,by simp [hZ],by rw [Nat.mul_one];exact List.take_of_length_le (by simp)⟩⟩,hr⟩,?_,?_,?_,?_,fz 0,fz 1,?_,by simp⟩
 ·exact ho.cell (by simp) (by omega) (by simp)
 ·exact ho.cell (by simp) (by omega) (by simp)
 ·exact ho.cell (by simp;omega) (by omega) (keepA _ (by omega) (keep hb (by omega) (by simp)))
 ·exact ho.cell (by simp;omega) (by omega) (keepA _ (by omega) (keep hb (by omega) (by simp)))
 ·exact hbw.trans (ho.below (by simp;omega) (fun k hk=>by omega))
set_option maxRecDepth 100000 in
theorem implOpen_no (a:Option Addr) (cap:Nat) (zs:List Int) (w:World) (hb:Byt w a zs) (hl:zs.length≤1048576)
  (h:zs=[]∨zs.getD (zs.length-1) 0=0∨∃ L b t:Nat,zs.length=L+1∧zs.getD L 0=(t:Int)∧2 ^ b≤t∧t<2 ^ (b+1)∧b<8∧4096<8*L+b) :
  Calls Tryz.prog 105 #[.slice a zs.length cap] w fun e w'=>e=.returned (.tuple #[.agg #[.slice none 0 0,.int .i64 0],.bool false])∧Below w.heap.size w w':=by
 have hw:Below w.heap.size w (w.alloc (Obj.cells #[.slice none 0 0,.int .i64 0] 40)):=bAw
 have h512:((4096:Int)+7) / 8=512:=by decide
 by_cases hp:0<zs.length
 ·obtain ⟨ab,off,rfl,hbl,hc⟩:=hb.2 hp
  by_cases hbig:512<zs.length-1
  ·clear h hc
   go_enter Tryz.func105,Tryz.ntmps105
   go_wp2_with fail
   refine (bytesFor_any 4096 _ (by omega) (by omega)).mono ?_
   rintro e w1 ⟨rfl,rfl⟩
   rw [h512]
   go_wp2
   exact bodyPost_ret (v:=.tuple #[.agg #[.slice none 0 0,.int .i64 0],.bool false]) (by simp [results,Tryz.results105,go_sem]) rfl ⟨rfl,by repeat (first | exact hw | refine Below.setCell ?_ (by simp) _)⟩
  ·by_cases h0:zs.getD (zs.length-1) 0=0
   ·have hcl:=hc (zs.length-1) (by omega)
    rw [h0] at hcl
    have hz:((0:Int) == 0)=true:=rfl
    clear h hc h0
    go_enter Tryz.func105,Tryz.ntmps105
    go_wp2_with fail
    refine (bytesFor_any 4096 _ (by omega) (by omega)).mono ?_
    rintro e w1 ⟨rfl,rfl⟩
    rw [h512]
    go_wp2
    exact bodyPost_ret (v:=.tuple #[.agg #[.slice none 0 0,.int .i64 0],.bool false]) (by simp [results,Tryz.results105,go_sem]) rfl ⟨rfl,by repeat (first | exact hw | refine Below.setCell ?_ (by simp) _)⟩
   ·obtain ⟨L,b,t,hL,ht,h1,h2,hb8,hn⟩:∃ L b t:Nat,zs.length=L+1∧zs.getD L 0=(t:Int)∧2 ^ b≤t∧t<2 ^ (b+1)∧b<8∧4096<8*L+b:=by
     rcases h with rfl | h | h
     ·simp at hp
     ·exact absurd h h0
     ·exact h
    have hcl:=hc L (by omega)
    rw [ht] at hcl
    have ht1:1≤t:=Nat.le_trans (Nat.pow_pos (by omega)) h1
    have hne:((t:Int) == 0)=false:=by rw [beq_eq_false_iff_ne];omega
    have hbig':L≤512:=by omega
    rw [hL]
    have H1:Hid (2 ^ b≤t):=h1
    have H2:Hid (t<2 ^ (b+1)):=h2
    clear h hc h0 ht h1 h2 hL hbig hp hl
    go_enter Tryz.func105,Tryz.ntmps105
    go_wp2_with fail
    refine (bytesFor_any 4096 _ (by omega) (by omega)).mono ?_
    rintro e w1 ⟨rfl,rfl⟩
    rw [h512]
    go_wp2_with fail
    refine (len8_any t b _ H1.out H2.out hb8).mono ?_
    rintro e w1 ⟨rfl,rfl⟩
    go_wp2
    exact bodyPost_ret (v:=.tuple #[.agg #[.slice none 0 0,.int .i64 0],.bool false]) (by simp [results,Tryz.results105,go_sem]) rfl ⟨rfl,by repeat (first | exact hw | refine Below.setCell ?_ (by simp) _)⟩
 ·have hz:zs.length=0:=by omega
  rw [hz]
  clear h hz hp
  go_enter Tryz.func105,Tryz.ntmps105
  go_wp2
  exact bodyPost_ret (v:=.tuple #[.agg #[.slice none 0 0,.int .i64 0],.bool false]) (by simp [results,Tryz.results105,go_sem]) rfl ⟨rfl,by repeat (first | exact hw | refine Below.setCell ?_ (by simp) _)⟩
set_option maxRecDepth 100000 in
theorem implOpen_yes (a:Option Addr) (cap:Nat) (zs:List Int) (L b t:Nat) (w:World) (hb:Byt w a zs) (hL:zs.length=L+1) (ht:zs.getD L 0=(t:Int)) (h1:2 ^ b≤t) (h2:t<2 ^ (b+1)) (hb8:b<8) (hn:8*L+b≤4096) :
  Calls Tryz.prog 105 #[.slice a (L+1) cap] w fun e w'=>∃ a' cp,e=.returned (.tuple #[.agg #[.slice a' (openY zs L b t).length cp,.int .i64 ((8*L+b:Nat):Int)],.bool true]) ∧
   Mine w' w.heap.size w'.heap.size a' cp (openY zs L b t)∧Below w.heap.size w w':=by
 obtain ⟨i0,hi,hz0,hz1,hz2⟩:=info_parts Tryz.infoU8
 have hsz:(Tryz.prog.info? 5).map (·.size)=some 1:=by rw [hi];simp [hz1]
 have h512:((4096:Int)+7) / 8=512:=by decide
 obtain ⟨ab,off,rfl,hbl,hc⟩:=hb.2 (by omega)
 have hcL:=hc L (by omega)
 rw [ht] at hcL
 have ht1:1≤t:=Nat.le_trans (Nat.pow_pos (by omega)) h1
 have hne:((t:Int) == 0)=false:=by rw [beq_eq_false_iff_ne];omega
 have hL5:L≤512:=by omega
 have HT:Hid (zs.getD L 0=(t:Int)):=ht
 have HL:Hid (zs.length=L+1):=hL
 have HC:Hid (∀ i,i<zs.length→w.cell? ⟨ab,off+i,none⟩=some (.int .u8 (zs.getD i 0))):=hc
 have H1:Hid (2 ^ b≤t):=h1
 have H2:Hid (t<2 ^ (b+1)):=h2
 clear hc ht hL h1 h2
 obtain ⟨q,hq⟩:∃ q,q=8*L+b:=⟨_,rfl⟩
 have HQ:Hid (q=8*L+b):=hq
 obtain ⟨M,hM⟩:∃ M,M=(q+7) / 8:=⟨_,rfl⟩
 have HM:Hid (M=(q+7) / 8):=hM
 have hML:M≤L+1:=by omega
 have hM5:M≤513:=by omega
 have hq4:q≤4096:=by omega
 clear hq hM
 have hZl:(zs.take M).length=M:=by rw [List.length_take,HL.out];omega
 have HZL:Hid ((zs.take M).length=M):=hZl
 have hnews:∀ W:World,(∀ i,w.cell? ⟨ab,off+i,none⟩=W.cell? ⟨ab,off+i,none⟩)→∀ i u,((zs.take M).map (Value.int .u8))[i]?=some u→W.cell? ((⟨ab,off,none⟩:Addr).add i)=some u:=by
  intro W hW
  refine news_of (fun i hi=>?_)
  have hiM:i<M:=by rw [hZl] at hi;exact hi
  rw [show (zs.take M).getD i 0=zs.getD i 0 from by simp [hiM],←hW]
  exact HC.out i (by have:=HL.out;omega)
 have HNEWS:Hid _:=hnews
 clear hnews hZl
 go_enter Tryz.func105,Tryz.ntmps105
 go_wp2_with fail
 refine (bytesFor_any 4096 _ (by omega) (by omega)).mono ?_
 rintro e w1 ⟨rfl,rfl⟩
 rw [h512]
 go_wp2_with fail
 refine (len8_any t b _ H1.out H2.out hb8).mono ?_
 rintro e w1 ⟨rfl,rfl⟩
 go_wp2_with fail
 rw [show (8*(L:Int)+((b:Int)+1)-1)=(q:Int) from by have:=HQ.out;omega]
 refine (bytesFor_any (q:Int) _ (by omega) (by omega)).mono ?_
 rintro e w1 ⟨rfl,rfl⟩
 rw [show (((q:Int)+7) / 8)=(M:Int) from by have:=HM.out;omega]
 by_cases hb0:b=0
 ·have hu:((q:Int) % 8 != 0)=false:=by rw [bne_eq_false_iff_eq];have:=HQ.out;omega
  go_wp2_with (first
   | (at_make;refine wpList_make_full _ rfl _ _ 22 rfl (w.heap.size+1) 5 i0 (.int .u8 0) 1 Tryz.underlying22 hi hz0 hz1 .i64 .i64 _ _ M rfl rfl rfl rfl (by rw [hz2];omega) (by unfold maxLen;omega) (by simp) ?_;intro w1 hown hgrow;have hbel1:Below (w.heap.size+1) (w.alloc (Obj.cells #[.slice none 0 0,.int .i64 0] 40)) w1:=(Below.refl _ _).grown hgrow (by simp) (by intro k hk;cases hk);have hblk:=made_blockO hown;simp only [World.size_alloc] at hblk;have hs1:w.heap.size+1<w1.heap.size:=(Array.getElem?_eq_some_iff.1 hblk).1;have HBLK:Hid (w1.heap[w.heap.size+1]?=some (.cells ((List.replicate M (0:Int)).map (Value.int .u8)).toArray 5 (0,0))):=hblk;clear hown hgrow hblk)
   | (have _t:=HBLK;refine wpList_copy_own rfl (.tmp 44) (.tmp 45) 22 22 rfl 5 Tryz.underlying22 hsz (w.heap.size+1) 0 M M ⟨ab,off,none⟩ (L+1) cap rfl rfl ((List.replicate M (0:Int)).map (Value.int .u8)).toArray 5 (by rw [Below.heap_alloc _ _ _ hs1];exact HBLK.out) ((zs.take M).map (Value.int .u8)) (by rw [List.length_map,HZL.out];exact (Nat.min_eq_right hML).symm) (HNEWS.out _ (fun i=>by exact ((hbel1.cell (p:=⟨ab,off+i,none⟩) (by simp;omega)).trans (Below.cell ((Below.refl w.heap.size w).alloc nl _) (p:=⟨ab,off+i,none⟩) hbl)).symm.trans (Below.cell ((Below.refl w1.heap.size w1).alloc nl _) (p:=⟨ab,off+i,none⟩) (by simp;omega)).symm)) (by rw [List.length_map,HZL.out];simp) (oneCells _) ?_;generalize hw2:World.setRow _ _ _=w2;obtain ⟨ho2,b0,b1,r0,r1,f0,f1,hbb2,hs2⟩:=copy_done hbel1 hs1 HBLK.out HZL.out (fun z hz=>hb.1 z (List.mem_of_mem_take hz)) (by omega) hw2;have HO2:Hid (Own w2 (w.heap.size+1) (w.heap.size+1) M (zs.take M)):=ho2;have HB2:Hid (Below w.heap.size w w2):=hbb2;have HW2:Hid (w2.heap.size=w1.heap.size+1):=hs2;clear hw2 HBLK _t ho2 hbb2 hs2))
  have hY:openY zs L b t=zs.take M:=by rw [openY,if_pos hb0,show M=L from by have h1:=HM.out;have h2:=HQ.out;omega]
  have hqq:((8*L+b:Nat):Int)=(q:Int):=by have:=HQ.out;omega
  refine bodyPost_ret (v:=.tuple #[.agg #[.slice (some ⟨w.heap.size+1,0,none⟩) M M,.int .i64 (q:Int)],.bool true]) (by simp [results,Tryz.results105,go_sem,r0,r1]) rfl ⟨some ⟨w.heap.size+1,0,none⟩,M,by rw [hY,HZL.out,hqq],?_,?_⟩
  ·rw [hY]
   have hlt2:=HO2.out.lt
   refine Mine.mono (B:=w.heap.size+1) (U:=w2.heap.size) ?_ (by omega) (by simp [World.setCell])
   repeat (first | exact HO2.out.mine | refine Mine.setC ?_ (by simp) _)
  ·repeat (first | exact HB2.out | refine Below.setCell ?_ (by simp) _)
 ·have hu:((q:Int) % 8 != 0)=true:=by rw [bne_iff_ne];have:=HQ.out;omega
  go_wp2_with (first
   | (at_make;refine wpList_make_full _ rfl _ _ 22 rfl (w.heap.size+1) 5 i0 (.int .u8 0) 1 Tryz.underlying22 hi hz0 hz1 .i64 .i64 _ _ M rfl rfl rfl rfl (by rw [hz2];omega) (by unfold maxLen;omega) (by simp) ?_;intro w1 hown hgrow;have hbel1:Below (w.heap.size+1) (w.alloc (Obj.cells #[.slice none 0 0,.int .i64 0] 40)) w1:=(Below.refl _ _).grown hgrow (by simp) (by intro k hk;cases hk);have hblk:=made_blockO hown;simp only [World.size_alloc] at hblk;have hs1:w.heap.size+1<w1.heap.size:=(Array.getElem?_eq_some_iff.1 hblk).1;have HBLK:Hid (w1.heap[w.heap.size+1]?=some (.cells ((List.replicate M (0:Int)).map (Value.int .u8)).toArray 5 (0,0))):=hblk;clear hown hgrow hblk)
   | (have _t:=HBLK;refine wpList_copy_own rfl (.tmp 44) (.tmp 45) 22 22 rfl 5 Tryz.underlying22 hsz (w.heap.size+1) 0 M M ⟨ab,off,none⟩ (L+1) cap rfl rfl ((List.replicate M (0:Int)).map (Value.int .u8)).toArray 5 (by rw [Below.heap_alloc _ _ _ hs1];exact HBLK.out) ((zs.take M).map (Value.int .u8)) (by rw [List.length_map,HZL.out];exact (Nat.min_eq_right hML).symm) (HNEWS.out _ (fun i=>by exact ((hbel1.cell (p:=⟨ab,off+i,none⟩) (by simp;omega)).trans (Below.cell ((Below.refl w.heap.size w).alloc nl _) (p:=⟨ab,off+i,none⟩) hbl)).symm.trans (Below.cell ((Below.refl w1.heap.size w1).alloc nl _) (p:=⟨ab,off+i,none⟩) (by simp;omega)).symm)) (by rw [List.length_map,HZL.out];simp) (oneCells _) ?_;generalize hw2:World.setRow _ _ _=w2;obtain ⟨ho2,b0,b1,r0,r1,f0,f1,hbb2,hs2⟩:=copy_done hbel1 hs1 HBLK.out HZL.out (fun z hz=>hb.1 z (List.mem_of_mem_take hz)) (by omega) hw2;have HO2:Hid (Own w2 (w.heap.size+1) (w.heap.size+1) M (zs.take M)):=ho2;have HB2:Hid (Below w.heap.size w w2):=hbb2;have HW2:Hid (w2.heap.size=w1.heap.size+1):=hs2;clear hw2 HBLK _t ho2 hbb2 hs2))
  have hML1:M=L+1:=by have h1:=HM.out;have h2:=HQ.out;omega
  have cg:=HO2.out.cell L (by rw [HZL.out];omega)
  rw [show (zs.take M).getD L 0=(t:Int) from by rw [show (zs.take M).getD L 0=zs.getD L 0 from by simp [hML1]];exact HT.out] at cg
  have fg:=HO2.out.frozen L
  have hLM:L<M:=by omega
  have HML1:Hid (M=L+1):=hML1
  clear hML1
  go_region
  go_wp2
  have hval:bits .andNot .u8 (t:Int) (2 ^ (q % 8) % 256)=((t-2 ^ b:Nat):Int):=by
   have hqb:q % 8=b:=by have:=HQ.out;omega
   have hp:2 ^ b≤2 ^ 7:=Nat.pow_le_pow_right (by omega) (by omega)
   have ht2:t<256:=Nat.lt_of_lt_of_le H2.out (Nat.pow_le_pow_right (n:=2) (by omega) (show b+1≤8 by omega))
   have e:((2:Int) ^ b % 256)=((2 ^ b:Nat):Int):=by
    have e1:((2:Int) ^ b)=((2 ^ b:Nat):Int):=by simp
    have hp':2 ^ b<256:=Nat.lt_of_le_of_lt hp (by decide)
    rw [e1]
    exact Int.emod_eq_of_lt (Int.natCast_nonneg _) (by exact_mod_cast hp')
   rw [hqb,e,u8_andNot_nat t (2 ^ b) ht2 (Nat.lt_of_le_of_lt hp (by decide)),andNot_all t ht2 b hb8 H1.out H2.out]
  rw [hval]
  have hY:openY zs L b t=(zs.take M).set L ((t-2 ^ b:Nat):Int):=by rw [openY,if_neg hb0,List.take_of_length_le (by rw [HL.out,HML1.out];exact Nat.le_refl _)]
  have hyl:(openY zs L b t).length=M:=by rw [hY,List.length_set];exact HZL.out
  have hqq:((8*L+b:Nat):Int)=(q:Int):=by have:=HQ.out;omega
  have ht2:t<256:=Nat.lt_of_lt_of_le H2.out (Nat.pow_le_pow_right (n:=2) (by omega) (show b+1≤8 by omega))
  have hrng:(0:Int)≤((t-2 ^ b:Nat):Int)∧((t-2 ^ b:Nat):Int)≤255:=by
   generalize 2 ^ b=pb
   omega
  have ho3:=HO2.out.store L ((t-2 ^ b:Nat):Int) hrng
  rw [←hY] at ho3
  have r0':=(World.cell?_setCell_other w2 ⟨w.heap.size+1,L,none⟩ ⟨w.heap.size,0,none⟩ (.int .u8 ((t-2 ^ b:Nat):Int)) (by simp)).trans r0
  have r1':=(World.cell?_setCell_other w2 ⟨w.heap.size+1,L,none⟩ ⟨w.heap.size,1,none⟩ (.int .u8 ((t-2 ^ b:Nat):Int)) (by simp)).trans r1
  have hbb3:Below w.heap.size w (w2.setCell ⟨w.heap.size+1,L,none⟩ (.int .u8 ((t-2 ^ b:Nat):Int))):=HB2.out.setCell (by simp) _
  generalize w2.setCell ⟨w.heap.size+1,L,none⟩ (.int .u8 ((t-2 ^ b:Nat):Int))=w3 at *
  refine bodyPost_ret (v:=.tuple #[.agg #[.slice (some ⟨w.heap.size+1,0,none⟩) M M,.int .i64 (q:Int)],.bool true]) (by simp [results,Tryz.results105,go_sem,r0',r1']) rfl ⟨some ⟨w.heap.size+1,0,none⟩,M,by rw [hyl,hqq],?_,?_⟩
  ·have hlt3:=ho3.lt
   refine Mine.mono (B:=w.heap.size+1) (U:=w3.heap.size) ?_ (by omega) (by simp [World.setCell])
   repeat (first | exact ho3.mine | refine Mine.setC ?_ (by simp) _)
  ·repeat (first | exact hbb3 | refine Below.drew ?_ | refine Below.setCell ?_ (by simp) _)
theorem RD.left {w:World} {B R:Nat} {a:Option Addr} {L cap n p:Nat} (h:RD w B R a L cap n p) (hn:n≤4104) (hp:p≤4104) :
  Calls Tryz.prog 67 #[.pointer (some ⟨R,0,none⟩)] w fun e w'=>e=.returned (.int .i64 ((n:Int)-p))∧∃ m,w'=w.drewN m:=by
 have c0:=cellRR (j:=0) h.1 rfl
 have c1:=cellRR (j:=1) h.1 rfl
 have c2:=cellRR (j:=2) h.1 rfl
 clear h
 go_enter Tryz.func67,Tryz.ntmps67
 go_wp2
 go_quiet (fail)
 go_wp2
 go_ret
 exact ⟨rfl,_,rfl⟩
def bt (V p k:Nat):Nat:=V / 2 ^ p % 2 ^ k
theorem bt_lt (V p k:Nat):bt V p k<2 ^ k:=Nat.mod_lt _ (Nat.two_pow_pos k)
theorem bt_split (V p a b:Nat):bt V p (a+b)=bt V p a+2 ^ a*bt V (p+a) b:=by
 unfold bt
 rw [Nat.pow_add,Nat.mod_mul,Nat.div_div_eq_div_mul,←Nat.pow_add]
theorem bt_zero (V p:Nat):bt V p 0=0:=by unfold bt;simp [Nat.mod_one]
theorem lp_shift (zs:List Int) (f i n V:Nat):lp zs f i n V=(n+(lp zs f i 0 0).1,V+(lp zs f i 0 0).2*2 ^ n):=by
 induction f generalizing i n V with
 | zero=>simp [lp]
 | succ f ih=>
  simp only [lp]
  by_cases h:i<zs.length
  ·rw [if_pos h,if_pos h]
   by_cases hz:zs.getD i 0=0
   ·rw [if_pos hz,if_pos hz,ih (i+1+run zs i) (n+7),ih (i+1+run zs i) (0+7)]
    generalize lp zs f (i+1+run zs i) 0 0=u
    generalize run zs i=r
    simp only [Prod.mk.injEq]
    refine ⟨by omega,?_⟩
    rw [Nat.pow_add,Nat.pow_add]
    generalize 2 ^ n=P
    grind
   ·rw [if_neg hz,if_neg hz,ih (i+1) (n+4),ih (i+1) (0+4)]
    generalize lp zs f (i+1) 0 0=u
    generalize (zs.getD i 0).toNat=r
    simp only [Prod.mk.injEq]
    refine ⟨by omega,?_⟩
    rw [Nat.pow_add]
    generalize 2 ^ n=P
    grind
  ·rw [if_neg h,if_neg h]
   simp
def gq (n V s:Nat):Nat→Nat→List Int→Option (List Int × Nat)
 | 0,p,out=>some (out,p)
 | f+1,p,out=>if out.length<s then (if p+4≤n then (if bt V p 4=0 then (if p+7≤n then gq n V s f (p+7) (out++[0]++List.replicate (bt V (p+4) 3) 0) else none) else gq n V s f (p+4) (out++[((bt V p 4:Nat):Int)])) else none) else some (out,p)
def gi (n V s:Nat):Nat→Nat→List Int→Bool→Option (List Int × Nat)
 | 0,p,out,e=>some (out,p)
 | f+1,p,out,e=>if out.length<s then (if p+4≤n then (if bt V p 4=0 then (if p+7≤n then (if e=true∨s<out.length+1+bt V (p+4) 3 then none else gi n V s f (p+7) (out++[0]++List.replicate (bt V (p+4) 3) 0) (decide (bt V (p+4) 3<7))) else none) else gi n V s f (p+4) (out++[((bt V p 4:Nat):Int)]) false) else none) else some (out,p)
theorem gq_end {n V s f q:Nat} {out:List Int} (h:¬out.length<s):gq n V s f q out=some (out,q):=by
 cases f with
 | zero=>rfl
 | succ f=>simp only [gq];rw [if_neg h]
theorem gq_pos {n V s f q:Nat} {out:List Int} (h:out.length<s) (h4:q+4≤n) (hx:¬bt V q 4=0):gq n V s (f+1) q out=gq n V s f (q+4) (out++[((bt V q 4:Nat):Int)]):=by simp only [gq];rw [if_pos h,if_pos h4,if_neg hx]
theorem gq_zero {n V s f q:Nat} {out:List Int} (h:out.length<s) (hx:bt V q 4=0) (h7:q+7≤n):gq n V s (f+1) q out=gq n V s f (q+7) (out++[0]++List.replicate (bt V (q+4) 3) 0):=by simp only [gq];rw [if_pos h,if_pos (by omega),if_pos hx,if_pos h7]
theorem gi_end {n V s f q:Nat} {out:List Int} {e:Bool} (h:¬out.length<s):gi n V s f q out e=some (out,q):=by
 cases f with
 | zero=>rfl
 | succ f=>simp only [gi];rw [if_neg h]
theorem gi_4 {n V s f q:Nat} {out:List Int} {e:Bool} (h:out.length<s) (h4:¬q+4≤n):gi n V s (f+1) q out e=none:=by simp only [gi];rw [if_pos h,if_neg h4]
theorem gi_pos {n V s f q:Nat} {out:List Int} {e:Bool} (h:out.length<s) (h4:q+4≤n) (hx:¬bt V q 4=0):gi n V s (f+1) q out e=gi n V s f (q+4) (out++[((bt V q 4:Nat):Int)]) false:=by simp only [gi];rw [if_pos h,if_pos h4,if_neg hx]
theorem gi_7 {n V s f q:Nat} {out:List Int} {e:Bool} (h:out.length<s) (h4:q+4≤n) (hx:bt V q 4=0) (h7:¬q+7≤n):gi n V s (f+1) q out e=none:=by simp only [gi];rw [if_pos h,if_pos h4,if_pos hx,if_neg h7]
theorem gi_bad {n V s f q:Nat} {out:List Int} {e:Bool} (h:out.length<s) (hx:bt V q 4=0) (h7:q+7≤n) (hb:e=true∨s<out.length+1+bt V (q+4) 3):gi n V s (f+1) q out e=none:=by simp only [gi];rw [if_pos h,if_pos (by omega),if_pos hx,if_pos h7,if_pos hb]
theorem gi_zero {n V s f q:Nat} {out:List Int} {e:Bool} (h:out.length<s) (hx:bt V q 4=0) (h7:q+7≤n) (hb:¬(e=true∨s<out.length+1+bt V (q+4) 3)):gi n V s (f+1) q out e=gi n V s f (q+7) (out++[0]++List.replicate (bt V (q+4) 3) 0) (decide (bt V (q+4) 3<7)):=by simp only [gi];rw [if_pos h,if_pos (by omega),if_pos hx,if_pos h7,if_neg hb]
def lenS :Value→Nat
 | .slice _ n _=>n
 | _=>0
theorem nou_rep (k:Nat) (t:List Int):nou (List.replicate k 0++t)=k+nou t:=by
 induction k with
 | zero=>simp
 | succ k ih=>rw [List.replicate_succ,List.cons_append];simp only [nou,if_true];rw [ih];omega
theorem run_app (out rest:List Int) (k:Nat):run (out++[0]++List.replicate k 0++rest) out.length=min (k+nou rest) 7:=by
 unfold run
 have e:(out++[0]++List.replicate k 0++rest).drop (out.length+1)=List.replicate k 0++rest:=by
  have h:out.length+1=(out++[(0:Int)]).length:=by simp
  rw [List.append_assoc,h,List.drop_left]
 rw [e,nou_rep]
theorem nou_head {t:List Int} (h:0<t.length→t.getD 0 0≠0):nou t=0:=by
 cases t with
 | nil=>rfl
 | cons z t=>simp only [nou];rw [if_neg (by simpa using h (by simp))]
theorem getD_app0 (out rest:List Int):(out++rest).getD out.length 0=rest.getD 0 0:=by
 rw [List.getD_eq_getElem?_getD,List.getElem?_append_right nl,Nat.sub_self,List.getD_eq_getElem?_getD]
theorem gi_yes (n V s:Nat) (f:Nat):∀ (p:Nat) (out:List Int) (e:Bool) (res:List Int) (q:Nat),s≤f+out.length→out.length≤s→gi n V s f p out e=some (res,q) →
  (∃ rest,res=out++rest)∧res.length=s∧p≤q∧(e=true→out.length<s→res.getD out.length 0≠0)∧(∀ f' N U,s≤f'+out.length→lp res f' out.length N U=(N+(q-p),U+bt V p (q-p)*2 ^ N))∧gq n V s f p out=some (res,q):=by
 induction f with
 | zero=>
  intro p out e res q hf ho h
  simp only [gi,Option.some.injEq,Prod.mk.injEq] at h
  obtain ⟨rfl,rfl⟩:=h
  refine ⟨⟨[],by simp⟩,by omega,Nat.le_refl _,fun _ h=>absurd h (by omega),fun f' N U _=>?_,rfl⟩
  rw [lp_end _ _ _ _ _ (by omega),Nat.sub_self,bt_zero]
  simp
 | succ f ih=>
  intro p out e res q hf ho h
  simp only [gi] at h
  by_cases h1:out.length<s
  ·rw [if_pos h1] at h
   by_cases h2:p+4≤n
   ·rw [if_pos h2] at h
    by_cases h3:bt V p 4=0
    ·rw [if_pos h3] at h
     by_cases h4:p+7≤n
     ·rw [if_pos h4] at h
      have hk:=bt_lt V (p+4) 3
      generalize hke:bt V (p+4) 3=k at *
      by_cases h5:e=true∨s<out.length+1+k
      ·rw [if_pos h5] at h
       cases h
      ·rw [if_neg h5] at h
       have hl:(out++[0]++List.replicate k 0).length=out.length+1+k:=by simp;omega
       obtain ⟨⟨rest,hr⟩,r1,r2,r3,r4,r5⟩:=ih (p+7) (out++[0]++List.replicate k 0) (decide (k<7)) res q (by omega) (by omega) h
       have hrun:run res out.length=k:=by
        rw [hr,run_app]
        by_cases h7:k<7
        ·rw [nou_head (t:=rest) (fun hp=>?_)]
         ·omega
         ·have h8:=r3 (by simpa using h7) (by rw [hr,List.length_append] at r1;omega)
          rw [hr,getD_app0] at h8
          exact h8
        ·omega
       have hz:res.getD out.length 0=0:=by
        rw [hr,List.append_assoc,List.append_assoc,getD_app0]
        rfl
       refine ⟨⟨[0]++List.replicate k 0++rest,by rw [hr];simp⟩,r1,by omega,fun he=>absurd (Or.inl he) h5,fun f' N U hf'=>?_,?_⟩
       ·obtain ⟨g,rfl⟩:∃ g,f'=g+1:=⟨f' - 1,by omega⟩
        rw [lp_zero _ _ _ _ _ (by omega) hz,hrun]
        rw [hl] at r4
        rw [r4 g (N+7) _ (by omega),show q-p=4+(3+(q-(p+7))) by omega,bt_split,h3,bt_split,hke,show p+4+3=p+7 from rfl]
        generalize bt V (p+7) (q-(p+7))=u
        simp only [Prod.mk.injEq]
        refine ⟨by omega,?_⟩
        rw [Nat.pow_add,Nat.pow_add]
        generalize 2 ^ N=P
        grind
       ·simp only [gq]
        rw [if_pos h1,if_pos h2,if_pos h3,if_pos h4,hke]
        exact r5
     ·rw [if_neg h4] at h
      cases h
    ·rw [if_neg h3] at h
     have hl:(out++[((bt V p 4:Nat):Int)]).length=out.length+1:=by simp
     obtain ⟨⟨rest,hr⟩,r1,r2,r3,r4,r5⟩:=ih (p+4) (out++[((bt V p 4:Nat):Int)]) false res q (by omega) (by omega) h
     have hz:res.getD out.length 0=((bt V p 4:Nat):Int):=by
      rw [hr,List.append_assoc,getD_app0]
      rfl
     refine ⟨⟨((bt V p 4:Nat):Int) :: rest,by rw [hr];simp⟩,r1,by omega,fun _ _=>by rw [hz];omega,fun f' N U hf'=>?_,?_⟩
     ·obtain ⟨g,rfl⟩:∃ g,f'=g+1:=⟨f' - 1,by omega⟩
      rw [lp_pos _ _ _ _ _ (by omega) (by rw [hz];omega),hz]
      rw [hl] at r4
      rw [r4 g (N+4) _ (by omega),show q-p=4+(q-(p+4)) by omega,bt_split,Int.toNat_natCast]
      generalize bt V (p+4) (q-(p+4))=u
      generalize bt V p 4=v
      simp only [Prod.mk.injEq]
      refine ⟨by omega,?_⟩
      rw [Nat.pow_add]
      generalize 2 ^ N=P
      grind
     ·simp only [gq]
      rw [if_pos h1,if_pos h2,if_neg h3]
      exact r5
   ·rw [if_neg h2] at h
    cases h
  ·rw [if_neg h1] at h
   simp only [Option.some.injEq,Prod.mk.injEq] at h
   obtain ⟨rfl,rfl⟩:=h
   refine ⟨⟨[],by simp⟩,by omega,Nat.le_refl _,fun _ h=>absurd h (by omega),fun f' N U _=>?_,?_⟩
   ·rw [lp_end _ _ _ _ _ (by omega),Nat.sub_self,bt_zero]
    simp
   ·simp only [gq]
    rw [if_neg h1]
theorem gq_ext (n V s:Nat) (f:Nat):∀ (p:Nat) (out res:List Int) (q:Nat),gq n V s f p out=some (res,q)→(∃ rest,res=out++rest)∧p≤q∧(p≤n→q≤n):=by
 induction f with
 | zero=>
  intro p out res q h
  simp only [gq,Option.some.injEq,Prod.mk.injEq] at h
  obtain ⟨rfl,rfl⟩:=h
  exact ⟨⟨[],by simp⟩,Nat.le_refl _,id⟩
 | succ f ih=>
  intro p out res q h
  simp only [gq] at h
  split at h
  ·split at h
   ·split at h
    ·split at h
     ·obtain ⟨⟨rest,hr⟩,h2,h3⟩:=ih _ _ _ _ h
      exact ⟨⟨[0]++List.replicate (bt V (p+4) 3) 0++rest,by rw [hr];simp⟩,by omega,fun _=>h3 (by omega)⟩
     ·cases h
    ·obtain ⟨⟨rest,hr⟩,h2,h3⟩:=ih _ _ _ _ h
     exact ⟨⟨((bt V p 4:Nat):Int) :: rest,by rw [hr];simp⟩,by omega,fun _=>h3 (by omega)⟩
   ·cases h
  ·simp only [Option.some.injEq,Prod.mk.injEq] at h
   obtain ⟨rfl,rfl⟩:=h
   exact ⟨⟨[],by simp⟩,Nat.le_refl _,id⟩
theorem gq_yes (n V s:Nat) (f:Nat):∀ (p:Nat) (out:List Int) (e:Bool) (res:List Int) (q f':Nat),s≤f+out.length→s≤f'+out.length→gq n V s f p out=some (res,q)→res.length=s→lp res f' out.length 0 0=(q-p,bt V p (q-p)) →
  (e=true→out.length<s→res.getD out.length 0≠0)→gi n V s f p out e=some (res,q):=by
 induction f with
 | zero=>
  intro p out e res q f' hf hf' h hl hlp he
  simpa [gq,gi] using h
 | succ f ih=>
  intro p out e res q f' hf hf' h hl hlp he
  simp only [gq] at h
  simp only [gi]
  by_cases h1:out.length<s
  ·rw [if_pos h1] at h ⊢
   obtain ⟨g,rfl⟩:∃ g,f'=g+1:=⟨f' - 1,by omega⟩
   by_cases h2:p+4≤n
   ·rw [if_pos h2] at h ⊢
    by_cases h3:bt V p 4=0
    ·rw [if_pos h3] at h ⊢
     by_cases h4:p+7≤n
     ·rw [if_pos h4] at h ⊢
      have hk:=bt_lt V (p+4) 3
      generalize hke:bt V (p+4) 3=k at *
      have hl2:(out++[0]++List.replicate k 0).length=out.length+1+k:=by simp;omega
      obtain ⟨⟨rest,hr⟩,hq,-⟩:=gq_ext n V s f _ _ _ _ h
      have hz:res.getD out.length 0=0:=by
       rw [hr,List.append_assoc,List.append_assoc,getD_app0]
       rfl
      rw [lp_zero _ _ _ _ _ (by omega) hz,lp_shift,show q-p=4+(3+(q-(p+7))) by omega,bt_split,h3,bt_split,hke,show p+4+3=p+7 from rfl] at hlp
      have hrl:=run_le res out.length (by omega)
      have hk2:run res out.length=k∧lp res g (out.length+1+run res out.length) 0 0=(q-(p+7),bt V (p+7) (q-(p+7))):=by
       generalize run res out.length=r at *
       generalize bt V (p+7) (q-(p+7))=u at *
       generalize lp res g (out.length+1+r) 0 0=x at *
       simp only [Prod.mk.injEq] at hlp
       obtain ⟨e1,e2⟩:=hlp
       obtain ⟨x1,x2⟩:=x
       simp only at e1 e2
       exact ⟨by omega,by simp only [Prod.mk.injEq];omega⟩
      obtain ⟨hrk,hlp2⟩:=hk2
      rw [hrk] at hlp2 hrl
      rw [if_neg (by
       rintro (h9 | h9)
       ·exact he h9 h1 hz
       ·omega)]
      refine ih (p+7) _ _ res q g (by omega) (by omega) h hl (by rw [hl2];exact hlp2) ?_
      intro h7 h8
      rw [hl2] at h8 ⊢
      have h9:=run_out res out.length (by omega) (by rw [hrk];simpa using h7) (by rw [hrk];omega)
      rw [hrk,show out.length+k+1=out.length+1+k by omega] at h9
      exact h9
     ·rw [if_neg h4] at h
      cases h
    ·rw [if_neg h3] at h ⊢
     have hl2:(out++[((bt V p 4:Nat):Int)]).length=out.length+1:=by simp
     obtain ⟨⟨rest,hr⟩,hq,-⟩:=gq_ext n V s f _ _ _ _ h
     have hz:res.getD out.length 0=((bt V p 4:Nat):Int):=by
      rw [hr,List.append_assoc,getD_app0]
      rfl
     have hv:=bt_lt V p 4
     rw [lp_pos _ _ _ _ _ (by omega) (by rw [hz];omega),hz,lp_shift,show q-p=4+(q-(p+4)) by omega,bt_split,Int.toNat_natCast] at hlp
     have hlp2:lp res g (out.length+1) 0 0=(q-(p+4),bt V (p+4) (q-(p+4))):=by
      generalize bt V (p+4) (q-(p+4))=u at *
      generalize bt V p 4=v at *
      generalize lp res g (out.length+1) 0 0=x at *
      simp only [Prod.mk.injEq] at hlp
      obtain ⟨e1,e2⟩:=hlp
      obtain ⟨x1,x2⟩:=x
      simp only at e1 e2
      simp only [Prod.mk.injEq]
      omega
     exact ih (p+4) _ false res q g (by omega) (by omega) h hl (by rw [hl2];exact hlp2) (by simp)
   ·rw [if_neg h2] at h
    cases h
  ·rw [if_neg h1] at h ⊢
   exact h
theorem gi_iff (n V s p:Nat) (res:List Int) (q:Nat):gi n V s s p [] false=some (res,q)↔gq n V s s p []=some (res,q)∧res.length=s∧lpF res=(q-p,bt V p (q-p)):=by
 constructor
 ·intro h
  obtain ⟨-,r1,r2,-,r4,r5⟩:=gi_yes n V s s p [] false res q (by simp) (by simp) h
  refine ⟨r5,r1,?_⟩
  have:=r4 s 0 0 (by simp)
  unfold lpF
  rw [r1]
  simpa using this
 ·rintro ⟨h1,h2,h3⟩
  refine gq_yes n V s s p [] false res q s (by simp) (by simp) h1 h2 ?_ (by simp)
  unfold lpF at h3
  rw [h2] at h3
  exact h3
set_option linter.unusedSimpArgs false
structure SentT (w:World):Prop where
 over:∃ pe,w.cell? ⟨11,0,none⟩=some (.iface 246 (.pointer (some pe)))
 full:∃ T x,w.cell? ⟨6,0,none⟩=some (.iface T x)
 lt:11<w.heap.size∧6<w.heap.size
theorem RD.store {w:World} {B R:Nat} {a:Option Addr} {L cap n p:Nat} (h:RD w B R a L cap n p) (q:Nat):RD (w.setCell ⟨R,2,none⟩ (.int .i64 (q:Nat))) B R a L cap n q:=
 ⟨by rw [heap_setCell_same _ R 2 _ _ _ h.1];simp,h.2.1,by simpa using h.2.2⟩
theorem take_yes (Q B:Nat) (a:Option Addr) (cap:Nat) (zs:List Int) (n V p k:Nat) (w:World) (hR:RD w B Q a zs.length cap n p) (hb:Byt w a zs) (hz:zs=enc n V) (hn:n≤4096) (hp:p+k≤n) (hS:SentT w) :
  Calls Tryz.prog 155 #[.pointer (some ⟨Q,0,none⟩),.int .i64 k] w fun e w'=>
   ∃ a' cp,e=.returned (.tuple #[.agg #[.slice a' (enc k (bt V p k)).length cp,.int .i64 k],.nilIface])∧Mine w' w.heap.size w'.heap.size a' cp (enc k (bt V p k))∧RD w' B Q a zs.length cap n (p+k)∧Only (fun b=>b=Q) w w':=by
 obtain ⟨pe,g0⟩:=hS.over
 obtain ⟨T1,x1,g1⟩:=hS.full
 have hQl:Q<w.heap.size:=(Array.getElem?_eq_some_iff.1 hR.1).1
 have HA:Hid (RD w B Q a zs.length cap n p∧Byt w a zs∧zs=enc n V∧SentT w∧w.cell? ⟨11,0,none⟩=some (.iface 246 (.pointer (some pe)))∧w.cell? ⟨6,0,none⟩=some (.iface T1 x1)):=⟨hR,hb,hz,hS,g0,g1⟩
 clear hb hz hS g0 g1
 have HAN:=Ans.new w
 have hR1:=hR.only ((Only.refl (fun _=>False) w).alloc (Obj.cells #[.slice none 0 0,.int .i64 0] 40)) (by simp)
 go_enter Tryz.func155,Tryz.ntmps155
 go_wp2_with fail
 refine (hR1.left (by omega) (by omega)).mono ?_
 rintro e w1 ⟨rfl,m1,rfl⟩
 have HAN1:Hid _:=HAN.step (below_drewN (Below.refl _ _) m1) HAN.lt
 have HR1:Hid (RD ((w.alloc (Obj.cells #[.slice none 0 0,.int .i64 0] 40)).drewN m1) B Q a zs.length cap n p):=hR1.only ((Only.refl (fun _=>False) _).drewN m1) (by simp)
 clear HAN hR1
 generalize (w.alloc (Obj.cells #[.slice none 0 0,.int .i64 0] 40)).drewN m1=W1 at *
 go_wp2_with fail
 refine (newWriter_any none 0 [] 0 4096 W1 ⟨by simp,by simp⟩ (by simp)).mono ?_
 rintro e w3 ⟨R,g,rfl,hRw,hown,hRge,hb3⟩
 have hRlt:R<w3.heap.size:=(Array.getElem?_eq_some_iff.1 hRw).1
 have hWlt:w.heap.size<W1.heap.size:=HAN1.out.lt
 have HAN3:Hid _:=HAN1.out.step hb3 HAN1.out.lt
 have hR3:RD w3 B Q a zs.length cap n p:=HR1.out.only (Only.ofBelow (S:=fun _=>False) hb3 nl) (by simp)
 have HW3:Hid _:=(⟨hRw,hown,hRge,hb3,hR3⟩:_∧_∧_∧_∧_)
 have c0:=cellRR (j:=0) hR3.1 rfl
 have c1:=cellRR (j:=1) hR3.1 rfl
 have c2:=cellRR (j:=2) hR3.1 rfl
 clear hRw hown hRge hb3 hR3 HAN1 HR1 hR
 go_wp2
 go_region
 go_wp2_with fail
 have hO4:Only (fun _=>False) w3 (w3.alloc (Obj.cells #[.slice a zs.length cap,.int .i64 ((p:Int)+(k:Int)),.int .i64 (p:Int)] 109)).drew:=((Only.refl (fun _=>False) w3).alloc _).drew
 have hQ4:(w3.alloc (Obj.cells #[.slice a zs.length cap,.int .i64 ((p:Int)+(k:Int)),.int .i64 (p:Int)] 109)).drew.heap[w3.heap.size]?=some (.cells #[.slice a zs.length cap,.int .i64 ((p+k:Nat):Int),.int .i64 (p:Nat)] 109 (0,0)):=heap_alloc_new w3 _
 generalize (w3.alloc (Obj.cells #[.slice a zs.length cap,.int .i64 ((p:Int)+(k:Int)),.int .i64 (p:Int)] 109)).drew=W4 at *
 have hb4:Below w3.heap.size w3 W4:=hO4.below nl (by simp)
 have hA4:=HAN3.out.step hb4 HAN3.out.lt
 have hRD4:RD W4 B Q a zs.length cap n p:=HW3.out.2.2.2.2.only hO4 (by simp)
 have hv4:OwnV W4 W1.heap.size (.slice (some ⟨g,0,none⟩) 0 0) (enc 0 0):=OwnV.only (S:=fun _=>False) HW3.out.2.1.v hO4 (by simp)
 have hRw4:=(hb4.block R hRlt).trans HW3.out.1
 have z34:=hb4.size
 have z13:=HW3.out.2.2.2.1.size
 have hSL:=HA.out.2.2.2.1.lt
 refine (pour_any R W1.heap.size w3.heap.size _ a cap zs 0 0 (p+k) n V p T1 pe x1 W4 hRw4 hv4 (by simp) (by omega) hQ4 (HA.out.2.1.below hA4.bel nl) HA.out.2.2.1 (by omega) (by omega) hn (by omega) HW3.out.2.2.1 z13 (by omega) ?_ (keep hA4.bel hSL.1 HA.out.2.2.2.2.1) (keep hA4.bel hSL.2 HA.out.2.2.2.2.2)).mono ?_
 ·intro hpz x hx
  obtain ⟨bb,off,he,hbl,_⟩:=HA.out.2.1.2 hpz
  rw [he] at hx
  simp at hx
  rw [←hx]
  simp
  omega
 rintro e w5 ⟨hb5,hyes,-⟩
 obtain ⟨rfl,v',hR5,hv5⟩:=hyes (by omega)
 rw [Nat.add_sub_cancel_left,Nat.zero_add,Nat.zero_add,Nat.pow_zero,Nat.mul_one] at hv5
 rw [Nat.add_sub_cancel_left,Nat.zero_add] at hR5
 have hv5':OwnV w5 W1.heap.size v' (enc k (bt V p k)):=hv5
 have hA5:=hA4.step hb5 hWlt
 have hRD5:RD w5 B Q a zs.length cap n p:=⟨(hb5.block Q (by omega)).trans hRD4.1,hRD4.2.1,Nat.le_trans hRD4.2.2 hb5.size⟩
 obtain ⟨a',cp,rfl,hmine⟩:=hv5'.mine
 have x0:=hA5.r0
 have x1:=hA5.r1
 have y0:=hA5.f0
 have y1:=hA5.f1
 generalize hES:enc k (bt V p k)=es at *
 have d0:w5.cell? ⟨R,0,none⟩=some (.slice a' es.length cp):=cellR (j:=0) hR5 rfl
 have d1:w5.cell? ⟨R,1,none⟩=some (.int .i64 (k:Nat)):=cellR (j:=1) hR5 rfl
 have c2':w5.cell? ⟨Q,2,none⟩=some (.int .i64 (p:Nat)):=cellRR (j:=2) hRD5.1 rfl
 have f2:=hRD5.frz 2
 have HF:Hid (Mine w5 W1.heap.size w5.heap.size a' cp es∧RD w5 B Q a zs.length cap n p∧Below w.heap.size w w5):=⟨hmine,hRD5,hA5.bel⟩
 have hRQ:R≠Q:=by have:=HW3.out.2.2.1;omega
 have hRs:w.heap.size≤R:=by have:=HW3.out.2.2.1;omega
 clear hmine hRD5 hA5 hv5 hv5' hR5 hyes hb5 hRw4 hv4 hRD4 hA4 hb4 hQ4 hO4 c0 c1 c2 HW3 HAN3 HA
 have HES:Hid (enc k (bt V p k)=es):=hES
 clear hES
 go_wp2
 refine bodyPost_ret (v:=.tuple #[.agg #[.slice a' es.length cp,.int .i64 (k:Nat)],.nilIface]) (by simp [results,Tryz.results155,go_sem,x0,x1]) rfl ⟨a',cp,by rw [HES.out],?_,?_,?_⟩
 ·rw [HES.out]
  have hO3:Only (fun b=>b=Q∨b=w.heap.size) w5 (((w5.setCell ⟨Q,2,none⟩ (.int .i64 ((p:Int)+(k:Int)))).setCell ⟨w.heap.size,0,none⟩ (.slice a' es.length cp)).setCell ⟨w.heap.size,1,none⟩ (.int .i64 (k:Nat))):=
   Only.setCell (Only.setCell (Only.setCell (Only.refl (fun b=>b=Q∨b=w.heap.size) w5) (p:=⟨Q,2,none⟩) (.inl (.inl rfl)) _) (p:=⟨w.heap.size,0,none⟩) (.inl (.inr rfl)) _) (p:=⟨w.heap.size,1,none⟩) (.inl (.inr rfl)) _
  exact ((HF.out.1.only hO3 (fun b h1 _=>by omega)).mono (by omega) (by simp [World.setCell]))
 ·have h1:=HF.out.2.1.store (p+k)
  have hO4:Only (fun b=>b=w.heap.size) (w5.setCell ⟨Q,2,none⟩ (.int .i64 ((p+k:Nat):Int))) (((w5.setCell ⟨Q,2,none⟩ (.int .i64 ((p+k:Nat):Int))).setCell ⟨w.heap.size,0,none⟩ (.slice a' es.length cp)).setCell ⟨w.heap.size,1,none⟩ (.int .i64 (k:Nat))):=
   Only.setCell (Only.setCell (Only.refl (fun b=>b=w.heap.size) _) (p:=⟨w.heap.size,0,none⟩) (.inl rfl) _) (p:=⟨w.heap.size,1,none⟩) (.inl rfl) _
  exact RD.only h1 hO4 (by omega)
 ·have h0:Only (fun b=>b=Q) w w5:=Only.ofBelow HF.out.2.2 nl
  exact Only.setCell (Only.setCell (Only.setCell h0 (p:=⟨Q,2,none⟩) (.inl rfl) _) (p:=⟨w.heap.size,0,none⟩) (.inr nl) _) (p:=⟨w.heap.size,1,none⟩) (.inr nl) _
theorem take_no (Q B:Nat) (a:Option Addr) (L cap n p k:Nat) (w:World) (hR:RD w B Q a L cap n p) (hn:n≤4096) (hp:p≤n) (hk:k≤8388608) (hpk:n<p+k) (hS:SentT w) :
  Calls Tryz.prog 155 #[.pointer (some ⟨Q,0,none⟩),.int .i64 k] w fun e w'=>
   ∃ T x,e=.returned (.tuple #[.agg #[.slice none 0 0,.int .i64 0],.iface T x])∧Below w.heap.size w w':=by
 obtain ⟨pe,g0⟩:=hS.over
 have HAN:=Ans.new w
 have hR1:=hR.only ((Only.refl (fun _=>False) w).alloc (Obj.cells #[.slice none 0 0,.int .i64 0] 40)) (by simp)
 have hSL:=hS.lt
 clear hS
 go_enter Tryz.func155,Tryz.ntmps155
 go_wp2_with fail
 refine (hR1.left (by omega) (by omega)).mono ?_
 rintro e w1 ⟨rfl,m1,rfl⟩
 have hA1:=HAN.step (below_drewN (Below.refl _ _) m1) HAN.lt
 clear HAN hR1 hR
 generalize (w.alloc (Obj.cells #[.slice none 0 0,.int .i64 0] 40)).drewN m1=W1 at *
 have g1:=keep hA1.bel hSL.1 g0
 have x0:=hA1.r0
 have x1:=hA1.r1
 have y0:=hA1.f0
 have y1:=hA1.f1
 have HB:Hid (Below w.heap.size w W1):=hA1.bel
 have hgl:11<w.heap.size:=hSL.1
 clear hA1 g0 hSL
 go_wp2
 go_region
 go_wp2
 refine bodyPost_ret (v:=.tuple #[.agg #[.slice none 0 0,.int .i64 0],.iface 246 (.pointer (some pe))]) (by simp [results,Tryz.results155,go_sem,x0,x1]) rfl ⟨_,_,rfl,?_⟩
 have hbb:=HB.out
 repeat (first | exact hbb | refine Below.setCell ?_ (by simp) _ | refine below_drewN ?_ _ | refine below_drew' ?_)
end Go.Proofs.YtfeokafkhnbdiaaGreatDoor
