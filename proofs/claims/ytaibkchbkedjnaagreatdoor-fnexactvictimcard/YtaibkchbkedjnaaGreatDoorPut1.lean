/- Lemmas on the way. -/
import Derived.Test.YtaibkchbkedjnaaGreatDoorOpen1
import Derived.Test.YtaibkchbkedjnaaGreatDoorIParts
import Derived.Laws.CopyOwn
import Derived.BigQuiet
set_option maxRecDepth 20000
set_option maxHeartbeats 16000000
namespace Go.Proofs.YtaibkchbkedjnaaGreatDoor
open Go.RowKit
set_option linter.unusedVariables false
theorem l1open_no (a:Option Addr) (cap:Nat) (zs:List Int) (w:World) (hb:Byt w a zs) (hl:zs.length≤1048576) (h:zs=[]∨zs.getD (zs.length-1) 0=0) :
  Calls Tryz.prog 117 #[.slice a zs.length cap] w fun e w'=>e=.returned (.tuple #[.agg #[.slice none 0 0,.int .i64 0],.bool false])∧Below w.heap.size w w':=by
 have hw:Below w.heap.size w (w.alloc (Obj.cells #[.slice none 0 0,.int .i64 0] 155)):=bAw
 by_cases hp:0<zs.length
 ·have h0:zs.getD (zs.length-1) 0=0:=by
   rcases h with rfl | h
   ·simp at hp
   ·exact h
  obtain ⟨ab,off,rfl,hbl,hc⟩:=hb.2 hp
  have hcl:=hc (zs.length-1) (by omega)
  rw [h0] at hcl
  have hlen0:((zs.length:Int) == 0)=false:=by rw [beq_eq_false_iff_ne];omega
  have hz:((0:Int) == 0)=true:=rfl
  clear hc h h0
  go_enter Tryz.func117,Tryz.ntmps117
  go_wp2
  exact bodyPost_ret (v:=.tuple #[.agg #[.slice none 0 0,.int .i64 0],.bool false]) (by simp [results,Tryz.results117,go_sem]) rfl ⟨rfl,by repeat (first | exact hw | refine Below.setCell ?_ (by simp) _)⟩
 ·have hz:zs.length=0:=by omega
  have hlen0:((0:Int) == 0)=true:=rfl
  rw [hz]
  clear h hz hp
  go_enter Tryz.func117,Tryz.ntmps117
  go_wp2
  exact bodyPost_ret (v:=.tuple #[.agg #[.slice none 0 0,.int .i64 0],.bool false]) (by simp [results,Tryz.results117,go_sem]) rfl ⟨rfl,by repeat (first | exact hw | refine Below.setCell ?_ (by simp) _)⟩
set_option maxRecDepth 100000 in
theorem len8_any (t b:Nat) (w:World) (h1:2 ^ b≤t) (h2:t<2 ^ (b+1)) (hb:b<8) :
  Calls Tryz.prog 212 #[.int .u8 (t:Int)] w fun e w'=>e=.returned (.int .i64 ((b:Int)+1))∧w'=w:=by
 have h256:t<256:=Nat.lt_of_lt_of_le h2 (Nat.pow_le_pow_right (n:=2) (by omega) (show b+1≤8 by omega))
 have hi:(t:Int)<256:=by omega
 have H1:Hid (2 ^ b≤t):=h1
 have H2:Hid (t<2 ^ (b+1)):=h2
 clear h1 h2
 go_enter Tryz.func212,Tryz.ntmps212
 go_wp2
 go_ret
 refine ⟨ret_int ?_,rfl⟩
 have e:∀ (S:ByteArray) (h:t<S.size),S[t]=S.data.toList.getD t 0:=by
  intro S h
  have h':t<S.data.toList.length:=by simpa using h
  rw [List.getD_eq_getElem?_getD,List.getElem?_eq_getElem h']
  rfl
 rw [e]
 have h1:=H1.out
 have h2:=H2.out
 clear e hi H1 H2
 revert h2 h1
 revert b
 intro b hb
 revert b
 revert h256
 revert t
 decide +kernel
theorem bytesFor_any (n:Int) (w:World) (h0:0≤n) (h1:n≤4103) :
  Calls Tryz.prog 211 #[.int .i64 n] w fun e w'=>e=.returned (.int .i64 ((n+7) / 8))∧w'=w:=by
 go_enter Tryz.func211,Tryz.ntmps211
 go_wp2
 go_ret
 exact ⟨rfl,rfl⟩
theorem andNot_all :∀ t,t<256→∀ b,b<8→2 ^ b≤t→t<2 ^ (b+1)→t &&& (255-2 ^ b)=t-2 ^ b:=by decide +kernel
theorem made_blockO {w:World} {B g n:Nat} (h:w.ownsRow B 5 1 (.slice (some ⟨g,0,none⟩) n n) n (madeCells (Value.int .u8 0).cells (n*1)).toList) :
  w.heap[g]?=some (.cells ((List.replicate n (0:Int)).map (Value.int .u8)).toArray 5 (0,0)):=by
 rcases h.2 with ⟨h',_⟩ | ⟨g',cap',cur,h',hg,hh,h1,h2,h3,h4⟩
 ·simp at h'
 ·simp only [Value.slice.injEq,Option.some.injEq,Addr.mk.injEq,and_true,true_and] at h'
  obtain ⟨rfl,rfl⟩:=h'
  rw [hh,←made_zero,←h4]
  rw [List.take_of_length_le (by simp [h3])]
theorem copy_done {w w1:World} {x0 x1 y0 y1:Value} {T U:TypeId} {M:Nat} {Z:List Int} (hb:Below (w.heap.size+1) (w.alloc (.cells #[x0,x1] T)) w1) (hs:w.heap.size+1<w1.heap.size)
  (hk:w1.heap[w.heap.size+1]?=some (.cells ((List.replicate M (0:Int)).map (Value.int .u8)).toArray 5 (0,0))) (hZ:Z.length=M) (hr:∀ z ∈ Z,0≤z∧z≤255) (hM:M≤1048576) {W:World}
  (hW:(w1.alloc (.cells #[y0,y1] U)).setRow (w.heap.size+1) ((((List.replicate M (0:Int)).map (Value.int .u8)).toArray.toList.take 0++(Z.map (Value.int .u8)++((List.replicate M (0:Int)).map (Value.int .u8)).toArray.toList.drop (0+(Z.map (Value.int .u8)).length))).toArray)=W) :
  Own W (w.heap.size+1) (w.heap.size+1) M Z∧W.cell? ⟨w1.heap.size,0,none⟩=some y0∧W.cell? ⟨w1.heap.size,1,none⟩=some y1∧W.cell? ⟨w.heap.size,0,none⟩=some x0∧W.cell? ⟨w.heap.size,1,none⟩=some x1 ∧
   W.frozen? ⟨w.heap.size,0,none⟩=false∧W.frozen? ⟨w.heap.size,1,none⟩=false∧Below w.heap.size w W∧W.heap.size=w1.heap.size+1:=by
 subst hW
 have hrow:(((List.replicate M (0:Int)).map (Value.int .u8)).toArray.toList.take 0++(Z.map (Value.int .u8)++((List.replicate M (0:Int)).map (Value.int .u8)).toArray.toList.drop (0+(Z.map (Value.int .u8)).length)))=Z.map (Value.int .u8):=by
  simp [hZ]
 rw [hrow]
 have h1:(w1.alloc (.cells #[y0,y1] U)).heap[w.heap.size+1]?=some (.cells ((List.replicate M (0:Int)).map (Value.int .u8)).toArray 5 (0,0)):=by rw [Below.heap_alloc _ _ _ hs];exact hk
 have h2:=setRow_heap _ _ _ (Z.map (Value.int .u8)).toArray _ _ h1
 have ho:Only (fun k=>k=w.heap.size+1) (w1.alloc (.cells #[y0,y1] U)) ((w1.alloc (.cells #[y0,y1] U)).setRow (w.heap.size+1) (Z.map (Value.int .u8)).toArray):=
  ⟨rfl,rfl,rfl,by simp,fun k _ hne=>setRow_other _ _ _ _ hne⟩
 have hbw:Below w.heap.size w (w1.alloc (.cells #[y0,y1] U)):=(((Below.refl w.heap.size w).alloc nl _).trans (hb.mono (by omega))).alloc (by omega) _
 have fz:∀ j,((w1.alloc (.cells #[y0,y1] U)).setRow (w.heap.size+1) (Z.map (Value.int .u8)).toArray).frozen? ⟨w.heap.size,j,none⟩=false:=by
  intro j
  rw [World.frozen?_of_block (a:=⟨w.heap.size,j,none⟩) (ho.block w.heap.size (by simp;omega) (by omega))]
  exact keepAF _ (by omega) (keepF hb (by omega) (by simp))
 refine ⟨⟨⟨by simp,.inr ⟨_,M,_,by rw [hZ],Nat.le_refl _,h2,by omega,by unfold maxLen;omega,by simp [hZ],by rw [Nat.mul_one];exact List.take_of_length_le (by simp)⟩⟩,hr⟩,?_,?_,?_,?_,fz 0,fz 1,?_,by simp⟩
 ·exact ho.cell (by simp) (by omega) (by simp)
 ·exact ho.cell (by simp) (by omega) (by simp)
 ·exact ho.cell (by simp;omega) (by omega) (keepA _ (by omega) (keep hb (by omega) (by simp)))
 ·exact ho.cell (by simp;omega) (by omega) (keepA _ (by omega) (keep hb (by omega) (by simp)))
 ·exact hbw.trans (ho.below (by simp;omega) (fun k hk=>by omega))
set_option maxRecDepth 100000 in
theorem implOpen_no (a:Option Addr) (cap:Nat) (zs:List Int) (w:World) (hb:Byt w a zs) (hl:zs.length≤1048576)
  (h:zs=[]∨zs.getD (zs.length-1) 0=0∨∃ L b t:Nat,zs.length=L+1∧zs.getD L 0=(t:Int)∧2 ^ b≤t∧t<2 ^ (b+1)∧b<8∧4096<8*L+b) :
  Calls Tryz.prog 199 #[.slice a zs.length cap] w fun e w'=>e=.returned (.tuple #[.agg #[.slice none 0 0,.int .i64 0],.bool false])∧Below w.heap.size w w':=by
 have hw:Below w.heap.size w (w.alloc (Obj.cells #[.slice none 0 0,.int .i64 0] 155)):=bAw
 have h512:((4096:Int)+7) / 8=512:=by decide
 by_cases hp:0<zs.length
 ·obtain ⟨ab,off,rfl,hbl,hc⟩:=hb.2 hp
  by_cases hbig:512<zs.length-1
  ·clear h hc
   go_enter Tryz.func199,Tryz.ntmps199
   go_wp2_with fail
   refine (bytesFor_any 4096 _ (by omega) (by omega)).mono ?_
   rintro e w1 ⟨rfl,rfl⟩
   rw [h512]
   go_wp2
   exact bodyPost_ret (v:=.tuple #[.agg #[.slice none 0 0,.int .i64 0],.bool false]) (by simp [results,Tryz.results199,go_sem]) rfl ⟨rfl,by repeat (first | exact hw | refine Below.setCell ?_ (by simp) _)⟩
  ·by_cases h0:zs.getD (zs.length-1) 0=0
   ·have hcl:=hc (zs.length-1) (by omega)
    rw [h0] at hcl
    have hz:((0:Int) == 0)=true:=rfl
    clear h hc h0
    go_enter Tryz.func199,Tryz.ntmps199
    go_wp2_with fail
    refine (bytesFor_any 4096 _ (by omega) (by omega)).mono ?_
    rintro e w1 ⟨rfl,rfl⟩
    rw [h512]
    go_wp2
    exact bodyPost_ret (v:=.tuple #[.agg #[.slice none 0 0,.int .i64 0],.bool false]) (by simp [results,Tryz.results199,go_sem]) rfl ⟨rfl,by repeat (first | exact hw | refine Below.setCell ?_ (by simp) _)⟩
   ·obtain ⟨L,b,t,hL,ht,h1,h2,hb8,hn⟩:∃ L b t:Nat,zs.length=L+1∧zs.getD L 0=(t:Int)∧2 ^ b≤t∧t<2 ^ (b+1)∧b<8∧4096<8*L+b:=by
     rcases h with rfl | h | h
     ·simp at hp
     ·exact absurd h h0
     ·exact h
    have hcl:=hc L (by omega)
    rw [ht] at hcl
    have ht1:1≤t:=Nat.le_trans (Nat.pow_pos (by omega)) h1
    have hne:((t:Int) == 0)=false:=by rw [beq_eq_false_iff_ne];omega
    have hbig':L≤512:=by omega
    rw [hL]
    have H1:Hid (2 ^ b≤t):=h1
    have H2:Hid (t<2 ^ (b+1)):=h2
    clear h hc h0 ht h1 h2 hL hbig hp hl
    go_enter Tryz.func199,Tryz.ntmps199
    go_wp2_with fail
    refine (bytesFor_any 4096 _ (by omega) (by omega)).mono ?_
    rintro e w1 ⟨rfl,rfl⟩
    rw [h512]
    go_wp2_with fail
    refine (len8_any t b _ H1.out H2.out hb8).mono ?_
    rintro e w1 ⟨rfl,rfl⟩
    go_wp2
    exact bodyPost_ret (v:=.tuple #[.agg #[.slice none 0 0,.int .i64 0],.bool false]) (by simp [results,Tryz.results199,go_sem]) rfl ⟨rfl,by repeat (first | exact hw | refine Below.setCell ?_ (by simp) _)⟩
 ·have hz:zs.length=0:=by omega
  rw [hz]
  clear h hz hp
  go_enter Tryz.func199,Tryz.ntmps199
  go_wp2
  exact bodyPost_ret (v:=.tuple #[.agg #[.slice none 0 0,.int .i64 0],.bool false]) (by simp [results,Tryz.results199,go_sem]) rfl ⟨rfl,by repeat (first | exact hw | refine Below.setCell ?_ (by simp) _)⟩
set_option maxRecDepth 100000 in
theorem implOpen_yes (a:Option Addr) (cap:Nat) (zs:List Int) (L b t:Nat) (w:World) (hb:Byt w a zs) (hL:zs.length=L+1) (ht:zs.getD L 0=(t:Int)) (h1:2 ^ b≤t) (h2:t<2 ^ (b+1)) (hb8:b<8) (hn:8*L+b≤4096) :
  Calls Tryz.prog 199 #[.slice a (L+1) cap] w fun e w'=>∃ a' cp,e=.returned (.tuple #[.agg #[.slice a' (openY zs L b t).length cp,.int .i64 ((8*L+b:Nat):Int)],.bool true]) ∧
   Mine w' w.heap.size w'.heap.size a' cp (openY zs L b t)∧Below w.heap.size w w':=by
 obtain ⟨i0,hi,hz0,hz1,hz2⟩:=info_parts Tryz.infoU8
 have hsz:(Tryz.prog.info? 5).map (·.size)=some 1:=by rw [hi];simp [hz1]
 have h512:((4096:Int)+7) / 8=512:=by decide
 obtain ⟨ab,off,rfl,hbl,hc⟩:=hb.2 (by omega)
 have hcL:=hc L (by omega)
 rw [ht] at hcL
 have ht1:1≤t:=Nat.le_trans (Nat.pow_pos (by omega)) h1
 have hne:((t:Int) == 0)=false:=by rw [beq_eq_false_iff_ne];omega
 have hL5:L≤512:=by omega
 have HT:Hid (zs.getD L 0=(t:Int)):=ht
 have HL:Hid (zs.length=L+1):=hL
 have HC:Hid (∀ i,i<zs.length→w.cell? ⟨ab,off+i,none⟩=some (.int .u8 (zs.getD i 0))):=hc
 have H1:Hid (2 ^ b≤t):=h1
 have H2:Hid (t<2 ^ (b+1)):=h2
 clear hc ht hL h1 h2
 obtain ⟨q,hq⟩:∃ q,q=8*L+b:=⟨_,rfl⟩
 have HQ:Hid (q=8*L+b):=hq
 obtain ⟨M,hM⟩:∃ M,M=(q+7) / 8:=⟨_,rfl⟩
 have HM:Hid (M=(q+7) / 8):=hM
 have hML:M≤L+1:=by omega
 have hM5:M≤513:=by omega
 have hq4:q≤4096:=by omega
 clear hq hM
 have hZl:(zs.take M).length=M:=by rw [List.length_take,HL.out];omega
 have HZL:Hid ((zs.take M).length=M):=hZl
 have hnews:∀ W:World,(∀ i,w.cell? ⟨ab,off+i,none⟩=W.cell? ⟨ab,off+i,none⟩)→∀ i u,((zs.take M).map (Value.int .u8))[i]?=some u→W.cell? ((⟨ab,off,none⟩:Addr).add i)=some u:=by
  intro W hW
  refine news_of (fun i hi=>?_)
  have hiM:i<M:=by rw [hZl] at hi;exact hi
  rw [show (zs.take M).getD i 0=zs.getD i 0 from by simp [hiM],←hW]
  exact HC.out i (by have:=HL.out;omega)
 have HNEWS:Hid _:=hnews
 clear hnews hZl
 go_enter Tryz.func199,Tryz.ntmps199
 go_wp2_with fail
 refine (bytesFor_any 4096 _ (by omega) (by omega)).mono ?_
 rintro e w1 ⟨rfl,rfl⟩
 rw [h512]
 go_wp2_with fail
 refine (len8_any t b _ H1.out H2.out hb8).mono ?_
 rintro e w1 ⟨rfl,rfl⟩
 go_wp2_with fail
 rw [show (8*(L:Int)+((b:Int)+1)-1)=(q:Int) from by have:=HQ.out;omega]
 refine (bytesFor_any (q:Int) _ (by omega) (by omega)).mono ?_
 rintro e w1 ⟨rfl,rfl⟩
 rw [show (((q:Int)+7) / 8)=(M:Int) from by have:=HM.out;omega]
 by_cases hb0:b=0
 ·have hu:((q:Int) % 8 != 0)=false:=by rw [bne_eq_false_iff_eq];have:=HQ.out;omega
  go_wp2_with (first
   | (at_make;refine wpList_make_full _ rfl _ _ 36 rfl (w.heap.size+1) 5 i0 (.int .u8 0) 1 Tryz.underlying36 hi hz0 hz1 .i64 .i64 _ _ M rfl rfl rfl rfl (by rw [hz2];omega) (by unfold maxLen;omega) (by simp) ?_;intro w1 hown hgrow;have hbel1:Below (w.heap.size+1) (w.alloc (Obj.cells #[.slice none 0 0,.int .i64 0] 155)) w1:=(Below.refl _ _).grown hgrow (by simp) (by intro k hk;cases hk);have hblk:=made_blockO hown;simp only [World.size_alloc] at hblk;have hs1:w.heap.size+1<w1.heap.size:=(Array.getElem?_eq_some_iff.1 hblk).1;have HBLK:Hid (w1.heap[w.heap.size+1]?=some (.cells ((List.replicate M (0:Int)).map (Value.int .u8)).toArray 5 (0,0))):=hblk;clear hown hgrow hblk)
   | (have _t:=HBLK;refine wpList_copy_own rfl (.tmp 44) (.tmp 45) 36 36 rfl 5 Tryz.underlying36 hsz (w.heap.size+1) 0 M M ⟨ab,off,none⟩ (L+1) cap rfl rfl ((List.replicate M (0:Int)).map (Value.int .u8)).toArray 5 (by rw [Below.heap_alloc _ _ _ hs1];exact HBLK.out) ((zs.take M).map (Value.int .u8)) (by rw [List.length_map,HZL.out];exact (Nat.min_eq_right hML).symm) (HNEWS.out _ (fun i=>by exact ((hbel1.cell (p:=⟨ab,off+i,none⟩) (by simp;omega)).trans (Below.cell ((Below.refl w.heap.size w).alloc nl _) (p:=⟨ab,off+i,none⟩) hbl)).symm.trans (Below.cell ((Below.refl w1.heap.size w1).alloc nl _) (p:=⟨ab,off+i,none⟩) (by simp;omega)).symm)) (by rw [List.length_map,HZL.out];simp) (oneCells _) ?_;generalize hw2:World.setRow _ _ _=w2;obtain ⟨ho2,b0,b1,r0,r1,f0,f1,hbb2,hs2⟩:=copy_done hbel1 hs1 HBLK.out HZL.out (fun z hz=>hb.1 z (List.mem_of_mem_take hz)) (by omega) hw2;have HO2:Hid (Own w2 (w.heap.size+1) (w.heap.size+1) M (zs.take M)):=ho2;have HB2:Hid (Below w.heap.size w w2):=hbb2;have HW2:Hid (w2.heap.size=w1.heap.size+1):=hs2;clear hw2 HBLK _t ho2 hbb2 hs2))
  have hY:openY zs L b t=zs.take M:=by rw [openY,if_pos hb0,show M=L from by have h1:=HM.out;have h2:=HQ.out;omega]
  have hqq:((8*L+b:Nat):Int)=(q:Int):=by have:=HQ.out;omega
  refine bodyPost_ret (v:=.tuple #[.agg #[.slice (some ⟨w.heap.size+1,0,none⟩) M M,.int .i64 (q:Int)],.bool true]) (by simp [results,Tryz.results199,go_sem,r0,r1]) rfl ⟨some ⟨w.heap.size+1,0,none⟩,M,by rw [hY,HZL.out,hqq],?_,?_⟩
  ·rw [hY]
   have hlt2:=HO2.out.lt
   refine Mine.mono (B:=w.heap.size+1) (U:=w2.heap.size) ?_ (by omega) (by simp [World.setCell])
   repeat (first | exact HO2.out.mine | refine Mine.setC ?_ (by simp) _)
  ·repeat (first | exact HB2.out | refine Below.setCell ?_ (by simp) _)
 ·have hu:((q:Int) % 8 != 0)=true:=by rw [bne_iff_ne];have:=HQ.out;omega
  go_wp2_with (first
   | (at_make;refine wpList_make_full _ rfl _ _ 36 rfl (w.heap.size+1) 5 i0 (.int .u8 0) 1 Tryz.underlying36 hi hz0 hz1 .i64 .i64 _ _ M rfl rfl rfl rfl (by rw [hz2];omega) (by unfold maxLen;omega) (by simp) ?_;intro w1 hown hgrow;have hbel1:Below (w.heap.size+1) (w.alloc (Obj.cells #[.slice none 0 0,.int .i64 0] 155)) w1:=(Below.refl _ _).grown hgrow (by simp) (by intro k hk;cases hk);have hblk:=made_blockO hown;simp only [World.size_alloc] at hblk;have hs1:w.heap.size+1<w1.heap.size:=(Array.getElem?_eq_some_iff.1 hblk).1;have HBLK:Hid (w1.heap[w.heap.size+1]?=some (.cells ((List.replicate M (0:Int)).map (Value.int .u8)).toArray 5 (0,0))):=hblk;clear hown hgrow hblk)
   | (have _t:=HBLK;refine wpList_copy_own rfl (.tmp 44) (.tmp 45) 36 36 rfl 5 Tryz.underlying36 hsz (w.heap.size+1) 0 M M ⟨ab,off,none⟩ (L+1) cap rfl rfl ((List.replicate M (0:Int)).map (Value.int .u8)).toArray 5 (by rw [Below.heap_alloc _ _ _ hs1];exact HBLK.out) ((zs.take M).map (Value.int .u8)) (by rw [List.length_map,HZL.out];exact (Nat.min_eq_right hML).symm) (HNEWS.out _ (fun i=>by exact ((hbel1.cell (p:=⟨ab,off+i,none⟩) (by simp;omega)).trans (Below.cell ((Below.refl w.heap.size w).alloc nl _) (p:=⟨ab,off+i,none⟩) hbl)).symm.trans (Below.cell ((Below.refl w1.heap.size w1).alloc nl _) (p:=⟨ab,off+i,none⟩) (by simp;omega)).symm)) (by rw [List.length_map,HZL.out];simp) (oneCells _) ?_;generalize hw2:World.setRow _ _ _=w2;obtain ⟨ho2,b0,b1,r0,r1,f0,f1,hbb2,hs2⟩:=copy_done hbel1 hs1 HBLK.out HZL.out (fun z hz=>hb.1 z (List.mem_of_mem_take hz)) (by omega) hw2;have HO2:Hid (Own w2 (w.heap.size+1) (w.heap.size+1) M (zs.take M)):=ho2;have HB2:Hid (Below w.heap.size w w2):=hbb2;have HW2:Hid (w2.heap.size=w1.heap.size+1):=hs2;clear hw2 HBLK _t ho2 hbb2 hs2))
  have hML1:M=L+1:=by have h1:=HM.out;have h2:=HQ.out;omega
  have cg:=HO2.out.cell L (by rw [HZL.out];omega)
  rw [show (zs.take M).getD L 0=(t:Int) from by rw [show (zs.take M).getD L 0=zs.getD L 0 from by simp [hML1]];exact HT.out] at cg
  have fg:=HO2.out.frozen L
  have hLM:L<M:=by omega
  have HML1:Hid (M=L+1):=hML1
  clear hML1
  go_region
  go_wp2
  have hval:bits .andNot .u8 (t:Int) (2 ^ (q % 8) % 256)=((t-2 ^ b:Nat):Int):=by
   have hqb:q % 8=b:=by have:=HQ.out;omega
   have hp:2 ^ b≤2 ^ 7:=Nat.pow_le_pow_right (by omega) (by omega)
   have ht2:t<256:=Nat.lt_of_lt_of_le H2.out (Nat.pow_le_pow_right (n:=2) (by omega) (show b+1≤8 by omega))
   have e:((2:Int) ^ b % 256)=((2 ^ b:Nat):Int):=by
    have e1:((2:Int) ^ b)=((2 ^ b:Nat):Int):=by simp
    have hp':2 ^ b<256:=Nat.lt_of_le_of_lt hp (by decide)
    rw [e1]
    exact Int.emod_eq_of_lt (Int.natCast_nonneg _) (by exact_mod_cast hp')
   rw [hqb,e,u8_andNot_nat t (2 ^ b) ht2 (Nat.lt_of_le_of_lt hp (by decide)),andNot_all t ht2 b hb8 H1.out H2.out]
  rw [hval]
  have hY:openY zs L b t=(zs.take M).set L ((t-2 ^ b:Nat):Int):=by rw [openY,if_neg hb0,List.take_of_length_le (by rw [HL.out,HML1.out];exact Nat.le_refl _)]
  have hyl:(openY zs L b t).length=M:=by rw [hY,List.length_set];exact HZL.out
  have hqq:((8*L+b:Nat):Int)=(q:Int):=by have:=HQ.out;omega
  have ht2:t<256:=Nat.lt_of_lt_of_le H2.out (Nat.pow_le_pow_right (n:=2) (by omega) (show b+1≤8 by omega))
  have hrng:(0:Int)≤((t-2 ^ b:Nat):Int)∧((t-2 ^ b:Nat):Int)≤255:=by
   generalize 2 ^ b=pb
   omega
  have ho3:=HO2.out.store L ((t-2 ^ b:Nat):Int) hrng
  rw [←hY] at ho3
  have r0':=(World.cell?_setCell_other w2 ⟨w.heap.size+1,L,none⟩ ⟨w.heap.size,0,none⟩ (.int .u8 ((t-2 ^ b:Nat):Int)) (by simp)).trans r0
  have r1':=(World.cell?_setCell_other w2 ⟨w.heap.size+1,L,none⟩ ⟨w.heap.size,1,none⟩ (.int .u8 ((t-2 ^ b:Nat):Int)) (by simp)).trans r1
  have hbb3:Below w.heap.size w (w2.setCell ⟨w.heap.size+1,L,none⟩ (.int .u8 ((t-2 ^ b:Nat):Int))):=HB2.out.setCell (by simp) _
  generalize w2.setCell ⟨w.heap.size+1,L,none⟩ (.int .u8 ((t-2 ^ b:Nat):Int))=w3 at *
  refine bodyPost_ret (v:=.tuple #[.agg #[.slice (some ⟨w.heap.size+1,0,none⟩) M M,.int .i64 (q:Int)],.bool true]) (by simp [results,Tryz.results199,go_sem,r0',r1']) rfl ⟨some ⟨w.heap.size+1,0,none⟩,M,by rw [hyl,hqq],?_,?_⟩
  ·have hlt3:=ho3.lt
   refine Mine.mono (B:=w.heap.size+1) (U:=w3.heap.size) ?_ (by omega) (by simp [World.setCell])
   repeat (first | exact ho3.mine | refine Mine.setC ?_ (by simp) _)
  ·repeat (first | exact hbb3 | refine Below.drew ?_ | refine Below.setCell ?_ (by simp) _)
theorem widthOk_any (n:Int) (w:World):Calls Tryz.prog 221 #[.int .i64 n] w fun e w'=>e=.returned (.bool (decide (0≤n∧n≤30)))∧w'=w:=by
 by_cases h0:0≤n
 ·by_cases h1:n≤30
  ·have hE:decide (0≤n∧n≤30)=true:=by simp [h0,h1]
   rw [hE]
   clear hE
   go_enter Tryz.func221,Tryz.ntmps221
   go_wp2
   go_ret
   exact ⟨by simp,rfl⟩
  ·have hE:decide (0≤n∧n≤30)=false:=by simp [h1]
   rw [hE]
   clear hE
   go_enter Tryz.func221,Tryz.ntmps221
   go_wp2
   go_ret
   exact ⟨by simp,rfl⟩
 ·have hE:decide (0≤n∧n≤30)=false:=by simp [h0]
  rw [hE]
  clear hE
  go_enter Tryz.func221,Tryz.ntmps221
  go_wp2
  go_ret
  exact ⟨by simp,rfl⟩
def Sent (w:World) (g:Nat):Prop:=∃ T x,w.cell? ⟨g,0,none⟩=some (.iface T x)
theorem Sent.below {w w':World} {g B:Nat} (h:Sent w g) (hb:Below B w w') (hg:g<B):Sent w' g:=by
 obtain ⟨T,x,hc⟩:=h
 exact ⟨T,x,keep hb hg hc⟩
/-- The reader lies at block R: its bits' bytes, their number, its place. -/
theorem number_any (R:Nat) (a:Option Addr) (cap:Nat) (zs:List Int) (N at0 p width:Int) (n v:Nat) (w:World) (hb:Byt w a zs) (hz:zs=enc n v) (hn:n≤4104)
  (c0:w.cell? ⟨R,0,none⟩=some (.slice a zs.length cap))
  (h0:0≤p) (h1:0≤width) (h2:width≤30) (h3:p+width≤n) :
  Calls Tryz.prog 222 #[.pointer (some ⟨R,0,none⟩),.int .i64 p,.int .i64 width] w fun e w'=>e=.returned (.int .i64 (v / 2 ^ p.toNat % 2 ^ width.toNat:Nat))∧w'=w:=by
 obtain ⟨q,rfl⟩:=Int.eq_ofNat_of_zero_le h0
 obtain ⟨m,rfl⟩:=Int.eq_ofNat_of_zero_le h1
 simp only [Int.toNat_natCast] at *
 have HZ:Hid (zs=enc n v):=hz
 have hlen:zs.length=(n+7) / 8:=by rw [hz,enc_len]
 have HL:Hid (zs.length=(n+7) / 8):=hlen
 clear hz hlen
 go_enter Tryz.func222,Tryz.ntmps222
 go_wp2
 go_loop [7,12] (fun x i=>∃ j:Nat,j≤m∧i=.int .i64 j∧x=.int .i64 (v / 2 ^ q % 2 ^ j:Nat)) (fun _ i=>m-(intOf i).toNat)
 case atStart=>exact ⟨0,Nat.zero_le _,rfl,by simp [Nat.mod_one]⟩
 case round=>
  obtain ⟨j,hj,rfl,rfl⟩:=hrel
  by_cases hlt:j<m
  ·have hx:v / 2 ^ q % 2 ^ j<2 ^ j:=Nat.mod_lt _ (Nat.pow_pos (by omega))
   have HX:=get_up v q j
   have HB:=enc_bit n v (q+j) (by omega)
   rw [←HZ.out] at HB
   have hbit:v / 2 ^ (q+j) % 2<2:=Nat.mod_lt _ (by omega)
   have hll:(q+j) / 8<zs.length:=by have:=HL.out;omega
   obtain ⟨b,off,rfl,hbl,hc⟩:=hb.len_pos ((q+j) / 8) hll
   have hs:=hc ((q+j) / 8) hll
   have hr:=getD_rng hb.1 ((q+j) / 8)
   generalize hX:v / 2 ^ q % 2 ^ j=X at *
   generalize hbt:v / 2 ^ (q+j) % 2=bt at *
   generalize zs.getD ((q+j) / 8) 0=z at *
   have HX':Hid (v / 2 ^ q % 2 ^ (j+1)=X+bt*2 ^ j):=HX
   have HB':Hid (z.toNat / 2 ^ ((q+j) % 8) % 2=bt):=HB
   clear HX HB hX hbt hc
   go_wp2
   go_round
   case rel=>exact ⟨j+1,by omega,by go_num,by rw [or_step64 X j _ z hr hx (by omega),HB'.out,HX'.out]⟩
   case measure=>simp [intOf];omega
  ·have hj0:j=m:=by omega
   subst hj0
   go_wp2
   go_ret
   exact ⟨rfl,rfl⟩
theorem get_no (R:Nat) (a:Option Addr) (cap:Nat) (zs:List Int) (n:Nat) (p width:Int) (w:World) (hn:n≤4104) (pb:p≤9223372036854775807)
  (c0:w.cell? ⟨R,0,none⟩=some (.slice a zs.length cap)) (c1:w.cell? ⟨R,1,none⟩=some (.int .i64 n)) (c2:w.cell? ⟨R,2,none⟩=some (.int .i64 p))
  (s0:Sent w 17) (s2:Sent w 18)
  (h:width<0∨30<width∨p<0∨(n:Int)-width<p) :
  Calls Tryz.prog 213 #[.pointer (some ⟨R,0,none⟩),.int .i64 width] w fun e w'=>(∃ T x,e=.returned (.tuple #[.int .i64 0,.iface T x]))∧∃ m,w'=w.drewN m:=by
 obtain ⟨T0,x0,g0⟩:=s0
 obtain ⟨T2,x2,g2⟩:=s2
 have key:(width<0∨30<width)∨(0≤width∧width≤30∧p<0)∨(0≤width∧width≤30∧0≤p∧(n:Int)-width<p):=by omega
 clear h
 rcases key with hh | ⟨k1,k2,k3⟩ | ⟨k1,k2,k3,k4⟩
 ·have hd:Hid (decide (0≤width∧width≤30)=false):=by simp [Hid];omega
  go_enter Tryz.func213,Tryz.ntmps213
  go_wp2_with fail
  refine (widthOk_any width _).mono ?_
  rintro e w1 ⟨rfl,rfl⟩
  rw [hd.out]
  go_wp2_with fail
  go_quiet (fail)
  go_wp2
  go_ret2
  exact ⟨⟨_,_,rfl⟩,_,rfl⟩
 ·have hd:Hid (decide (0≤width∧width≤30)=true):=by simp [Hid];omega
  have hp:decide (p<0)=true:=by simpa using k3
  go_enter Tryz.func213,Tryz.ntmps213
  go_wp2_with fail
  refine (widthOk_any width _).mono ?_
  rintro e w1 ⟨rfl,rfl⟩
  rw [hd.out]
  go_wp2_with fail
  go_quiet (fail)
  go_wp2
  go_quiet (fail)
  go_wp2
  go_ret2
  exact ⟨⟨_,_,rfl⟩,_,World.drewN_drewN ..⟩
 ·have hd:Hid (decide (0≤width∧width≤30)=true):=by simp [Hid];omega
  have hp:decide (p<0)=false:=by simpa using k3
  go_enter Tryz.func213,Tryz.ntmps213
  go_wp2_with fail
  refine (widthOk_any width _).mono ?_
  rintro e w1 ⟨rfl,rfl⟩
  rw [hd.out]
  go_wp2_with fail
  go_quiet (fail)
  go_wp2
  go_quiet (fail)
  go_wp2
  go_ret2
  exact ⟨⟨_,_,rfl⟩,_,World.drewN_drewN ..⟩
/-- The bytes may hold more bits than the reader has. -/
theorem get_yesM (R:Nat) (a:Option Addr) (cap:Nat) (zs:List Int) (n M v:Nat) (p width:Int) (w:World) (hn:n≤4104) (hM:M≤4104) (hnM:n≤M) (hb:Byt w a zs) (hz:zs=enc M v)
  (c0:w.cell? ⟨R,0,none⟩=some (.slice a zs.length cap)) (c1:w.cell? ⟨R,1,none⟩=some (.int .i64 n)) (c2:w.cell? ⟨R,2,none⟩=some (.int .i64 p)) (f2:w.frozen? ⟨R,2,none⟩=false)
  (k1:0≤width) (k2:width≤30) (k3:0≤p) (k4:p≤(n:Int)-width) :
  Calls Tryz.prog 213 #[.pointer (some ⟨R,0,none⟩),.int .i64 width] w fun e w'=>
   e=.returned (.tuple #[.int .i64 (v / 2 ^ p.toNat % 2 ^ width.toNat:Nat),.nilIface])∧∃ m,w'=(w.drewN m).setCell ⟨R,2,none⟩ (.int .i64 (p+width)):=by
 have hd:Hid (decide (0≤width∧width≤30)=true):=by simp [Hid];omega
 have hp:decide (p<0)=false:=by simpa using k3
 have HZ:Hid (zs=enc M v):=hz
 clear hz
 go_enter Tryz.func213,Tryz.ntmps213
 go_wp2_with fail
 refine (widthOk_any width _).mono ?_
 rintro e w1 ⟨rfl,rfl⟩
 rw [hd.out]
 go_wp2_with fail
 go_quiet (fail)
 go_wp2_with fail
 refine (number_any R a cap zs n p p width M v _ (hb.drewN _) HZ.out hM (by simpa using c0) k3 k1 k2 (by omega)).mono ?_
 rintro e w2 ⟨rfl,rfl⟩
 go_wp2
 go_ret2
 exact ⟨rfl,_,rfl⟩
theorem get_yes (R:Nat) (a:Option Addr) (cap:Nat) (zs:List Int) (n v:Nat) (p width:Int) (w:World) (hn:n≤4104) (hb:Byt w a zs) (hz:zs=enc n v)
  (c0:w.cell? ⟨R,0,none⟩=some (.slice a zs.length cap)) (c1:w.cell? ⟨R,1,none⟩=some (.int .i64 n)) (c2:w.cell? ⟨R,2,none⟩=some (.int .i64 p)) (f2:w.frozen? ⟨R,2,none⟩=false)
  (k1:0≤width) (k2:width≤30) (k3:0≤p) (k4:p≤(n:Int)-width) :
  Calls Tryz.prog 213 #[.pointer (some ⟨R,0,none⟩),.int .i64 width] w fun e w'=>
   e=.returned (.tuple #[.int .i64 (v / 2 ^ p.toNat % 2 ^ width.toNat:Nat),.nilIface])∧∃ m,w'=(w.drewN m).setCell ⟨R,2,none⟩ (.int .i64 (p+width)):=
 get_yesM R a cap zs n n v p width w hn hn nl hb hz c0 c1 c2 f2 k1 k2 k3 k4
def RD (w:World) (B R:Nat) (a:Option Addr) (L cap n p:Nat):Prop:=w.heap[R]?=some (.cells #[.slice a L cap,.int .i64 n,.int .i64 p] 261 (0,0))∧B≤R∧B≤w.heap.size
theorem cellRR {w:World} {R j:Nat} {cur:Array Value} {T:TypeId} {v:Value} (hR:w.heap[R]?=some (.cells cur T (0,0))) (hv:cur[j]?=some v):w.cell? ⟨R,j,none⟩=some v:=by
 rw [cell_of_row w R j cur T (0,0) hR];exact hv
theorem RD.frz {w:World} {B R:Nat} {a:Option Addr} {L cap n p:Nat} (h:RD w B R a L cap n p) (j:Nat):w.frozen? ⟨R,j,none⟩=false:=frozen_of_row w R j _ _ h.1
theorem RD.yes {w:World} {B R:Nat} {a:Option Addr} {zs:List Int} {cap n p:Nat} (h:RD w B R a zs.length cap n p) (v:Nat) (width:Int) (hn:n≤4104) (hb:Byt w a zs) (hz:zs=enc n v) (k1:0≤width) (k2:width≤30) (k4:(p:Int)≤(n:Int)-width) :
  Calls Tryz.prog 213 #[.pointer (some ⟨R,0,none⟩),.int .i64 width] w fun e w'=>
   e=.returned (.tuple #[.int .i64 (v / 2 ^ p % 2 ^ width.toNat:Nat),.nilIface])∧RD w' B R a zs.length cap n (p+width.toNat)∧Only (fun k=>k=R) w w'∧Below B w w':=by
 refine (get_yes R a cap zs n v p width w hn hb hz (cellRR (j:=0) h.1 rfl) (cellRR (j:=1) h.1 rfl) (cellRR (j:=2) h.1 rfl) (h.frz 2) k1 k2 (by omega) k4).mono ?_
 rintro e w' ⟨rfl,m,rfl⟩
 have hR:(w.drewN m).heap[R]?=some (.cells #[.slice a zs.length cap,.int .i64 n,.int .i64 p] 261 (0,0)):=h.1
 have hO:Only (fun k=>k=R) w ((w.drewN m).setCell ⟨R,2,none⟩ (.int .i64 ((p:Int)+width))):=by
  have h0:Only (fun k=>k=R) w (w.drewN m):=Only.ofBelow (S:=fun k=>k=R) (B:=w.heap.size) ⟨rfl,rfl,rfl,Nat.le_refl _,fun _ _=>rfl⟩ nl
  exact Only.setCell h0 (p:=⟨R,2,none⟩) (.inl rfl) _
 refine ⟨by simp,⟨?_,h.2.1,Nat.le_trans h.2.2 hO.size⟩,hO,hO.below h.2.2 (fun k hk=>by rw [hk];exact h.2.1)⟩
 rw [heap_setCell_same _ R 2 _ _ _ hR]
 have e:((p:Int)+width)=((p+width.toNat:Nat):Int):=by omega
 rw [e]
 simp
theorem RD.no {w:World} {B R:Nat} {a:Option Addr} {zs:List Int} {cap n p:Nat} (h:RD w B R a zs.length cap n p) (width:Int) (hn:n≤4104) (hp:p≤4104) (s0:Sent w 17) (s2:Sent w 18) (k4:width<0∨30<width∨(n:Int)-width<p) :
  Calls Tryz.prog 213 #[.pointer (some ⟨R,0,none⟩),.int .i64 width] w fun e w'=>(∃ T x,e=.returned (.tuple #[.int .i64 0,.iface T x]))∧∃ m,w'=w.drewN m:=
 get_no R a cap zs n p width w hn (by omega) (cellRR (j:=0) h.1 rfl) (cellRR (j:=1) h.1 rfl) (cellRR (j:=2) h.1 rfl) s0 s2 (by omega)
theorem RD.only {w w':World} {B R:Nat} {a:Option Addr} {L cap n p:Nat} {S:Nat→Prop} (h:RD w B R a L cap n p) (ho:Only S w w') (hs:¬S R):RD w' B R a L cap n p:=
 ⟨(ho.block R (Array.getElem?_eq_some_iff.1 h.1).1 hs).trans h.1,h.2.1,Nat.le_trans h.2.2 ho.size⟩
theorem RD.left {w:World} {B R:Nat} {a:Option Addr} {L cap n p:Nat} (h:RD w B R a L cap n p) (hn:n≤4104) (hp:p≤4104) :
  Calls Tryz.prog 217 #[.pointer (some ⟨R,0,none⟩)] w fun e w'=>e=.returned (.int .i64 ((n:Int)-p))∧∃ m,w'=w.drewN m:=by
 have c0:=cellRR (j:=0) h.1 rfl
 have c1:=cellRR (j:=1) h.1 rfl
 have c2:=cellRR (j:=2) h.1 rfl
 clear h
 go_enter Tryz.func217,Tryz.ntmps217
 go_wp2
 go_quiet (fail)
 go_wp2
 go_ret
 exact ⟨rfl,_,rfl⟩
theorem left_any (R:Nat) (n p:Nat) (w:World) (hn:n≤4104) (hp:p≤4104)
  (c1:w.cell? ⟨R,1,none⟩=some (.int .i64 n)) (c2:w.cell? ⟨R,2,none⟩=some (.int .i64 p)) :
  Calls Tryz.prog 217 #[.pointer (some ⟨R,0,none⟩)] w fun e w'=>e=.returned (.int .i64 ((n:Int)-p))∧∃ m,w'=w.drewN m:=by
 go_enter Tryz.func217,Tryz.ntmps217
 go_wp2_with fail
 go_quiet (fail)
 go_wp2
 go_ret
 exact ⟨rfl,_,rfl⟩
theorem some_no (R:Nat) (n p:Nat) (X:Value) (w:World) (hn:n≤4104) (hp:p=n)
  (c1:w.cell? ⟨R,1,none⟩=some (.int .i64 n)) (c2:w.cell? ⟨R,2,none⟩=some (.int .i64 p)) (g0:w.cell? ⟨18,0,none⟩=some X) :
  Calls Tryz.prog 242 #[.pointer (some ⟨R,0,none⟩)] w fun e w'=>
   e=.returned (.tuple #[.int .i64 0,.int .i64 0,X])∧∃ m,w'=w.drewN m:=by
 subst hp
 have HL:=left_any R p p w hn hn c1 c2
 rw [Int.sub_self] at HL
 go_enter Tryz.func242,Tryz.ntmps242
 go_wp2_with fail
 refine HL.mono ?_
 rintro e w1 ⟨rfl,m1,rfl⟩
 go_wp2
 go_quiet (fail)
 go_wp2
 exact bodyPost_ret (v:=.tuple #[.int .i64 0,.int .i64 0,X]) (by simp [results,Tryz.results242,go_sem]) rfl ⟨rfl,_,World.drewN_drewN ..⟩
theorem some_yes (R:Nat) (a:Option Addr) (cap:Nat) (zs:List Int) (n M v p:Nat) (w:World) (hn:n≤4104) (hM:M≤4104) (hnM:n≤M) (hb:Byt w a zs) (hz:zs=enc M v) (hp:p<n)
  (c0:w.cell? ⟨R,0,none⟩=some (.slice a zs.length cap)) (c1:w.cell? ⟨R,1,none⟩=some (.int .i64 n)) (c2:w.cell? ⟨R,2,none⟩=some (.int .i64 p)) (f2:w.frozen? ⟨R,2,none⟩=false) :
  Calls Tryz.prog 242 #[.pointer (some ⟨R,0,none⟩)] w fun e w'=>
   e=.returned (.tuple #[.int .i64 (v / 2 ^ p % 2 ^ (min (n-p) 30):Nat),.int .i64 (min (n-p) 30:Nat),.nilIface])∧∃ m,w'=(w.drewN m).setCell ⟨R,2,none⟩ (.int .i64 ((p+min (n-p) 30:Nat):Int)):=by
 have HZ:Hid (zs=enc M v):=hz
 clear hz
 have HL:=left_any R n p w hn (by omega) c1 c2
 obtain ⟨s,hs⟩:∃ s,s=min (n-p) 30:=⟨_,rfl⟩
 rw [←hs]
 have key:(s=30∧30<(n:Int)-(p:Int))∨((n:Int)-(p:Int)=(s:Int)∧(s:Int)≤30∧0<(s:Int)):=by omega
 clear hs
 rcases key with ⟨rfl,hk⟩ | ⟨hk,hk1,hk2⟩
 ·go_enter Tryz.func242,Tryz.ntmps242
  go_wp2_with fail
  refine HL.mono ?_
  rintro e w1 ⟨rfl,m1,rfl⟩
  clear HL
  go_wp2_with fail
  all_goals try (exfalso;omega)
  refine (get_yesM R a cap zs n M v (p:Int) 30 _ hn hM hnM (hb.drewN _) HZ.out (by simpa using c0) (by simpa using c1) (by simpa using c2) (by simpa using f2) (by omega) (by omega) (by omega) (by omega)).mono ?_
  rintro e w2 ⟨rfl,m2,rfl⟩
  go_wp2
  exact bodyPost_ret (v:=.tuple #[.int .i64 (v / 2 ^ p % 2 ^ 30:Nat),.int .i64 30,.nilIface]) (by simp [results,Tryz.results242,go_sem]) rfl ⟨rfl,m1+m2,by simp⟩
 ·rw [hk] at HL
  go_enter Tryz.func242,Tryz.ntmps242
  go_wp2_with fail
  refine HL.mono ?_
  rintro e w1 ⟨rfl,m1,rfl⟩
  clear HL
  go_wp2_with fail
  all_goals try (exfalso;omega)
  refine (get_yesM R a cap zs n M v (p:Int) (s:Int) _ hn hM hnM (hb.drewN _) HZ.out (by simpa using c0) (by simpa using c1) (by simpa using c2) (by simpa using f2) (by omega) (by omega) (by omega) (by omega)).mono ?_
  rintro e w2 ⟨rfl,m2,rfl⟩
  go_wp2
  exact bodyPost_ret (v:=.tuple #[.int .i64 (v / 2 ^ p % 2 ^ s:Nat),.int .i64 s,.nilIface]) (by simp [results,Tryz.results242,go_sem]) rfl ⟨rfl,m1+m2,by simp⟩
def OwnV (w:World) (B:Nat) (v:Value) (zs:List Int):Prop:=w.ownsRow B 5 1 v zs.length (zs.map (Value.int .u8))∧∀ z ∈ zs,0≤z∧z≤255
theorem OwnV.form {w:World} {B:Nat} {v:Value} {zs:List Int} (h:OwnV w B v zs) (hp:0<zs.length):∃ g cap,v=.slice (some ⟨g,0,none⟩) zs.length cap∧Own w B g cap zs:=by
 obtain ⟨g,cap,rfl,_,_⟩:=h.1.form hp
 exact ⟨g,cap,rfl,h⟩
theorem Own.v {w:World} {B g cap:Nat} {zs:List Int} (h:Own w B g cap zs):OwnV w B (.slice (some ⟨g,0,none⟩) zs.length cap) zs:=h
theorem Own.ne {w:World} {B g cap R:Nat} {zs:List Int} {cur:Array Value} {T:TypeId} (h:Own w B g cap zs) (hR:w.heap[R]?=some (.cells cur T (0,0))) (hT:T≠5):g≠R:=by
 rintro rfl
 rcases h.1.2 with ⟨h',_⟩ | ⟨g',cap',cur',h',hg,hh,r⟩
 ·simp at h'
 ·have e:g'=g:=by simp at h';exact h'.1.symm
  subst e
  rw [hR] at hh
  simp at hh
  exact hT hh.2
theorem cellR {w:World} {R j:Nat} {cur:Array Value} {T:TypeId} {v:Value} (hR:w.heap[R]?=some (.cells cur T (0,0))) (hv:cur[j]?=some v):w.cell? ⟨R,j,none⟩=some v:=by
 rw [cell_of_row w R j cur T (0,0) hR];exact hv
theorem frozenR {w:World} {R j:Nat} {cur:Array Value} {T:TypeId} (hR:w.heap[R]?=some (.cells cur T (0,0))):w.frozen? ⟨R,j,none⟩=false:=frozen_of_row w R j cur T hR
theorem put_bit (old X k u:Nat) (hu:u<8) (ho:old<2 ^ u) (hX:X≤1073741824) :
  bits .or .u8 (old:Int) (bits .and .i64 ((X:Int) / 2 ^ k) 1 % 256*2 ^ u % 256)=((old+X / 2 ^ k % 2*2 ^ u:Nat):Int):=by
 have e:((X:Int) / 2 ^ k)=((X / 2 ^ k:Nat):Int):=by simp
 have hle:X / 2 ^ k≤X:=Nat.div_le_self _ _
 have h1:=i64_and_nat (X / 2 ^ k) 1 (by omega) (by omega)
 rw [show ((1:Nat):Int)=1 from rfl,nat_mask1] at h1
 rw [e,h1]
 have hb:X / 2 ^ k % 2≤1:=by omega
 generalize X / 2 ^ k % 2=bt at *
 have h2:2 ^ u≤2 ^ 7:=Nat.pow_le_pow_right (by omega) (by omega)
 have h3:bt*2 ^ u≤1*2 ^ u:=Nat.mul_le_mul_right _ hb
 have e2:(((bt:Nat):Int) % 256*2 ^ u % 256)=((bt*2 ^ u:Nat):Int):=by
  have:((bt:Nat):Int) % 256=(bt:Int):=by omega
  rw [this,show ((bt:Int)*2 ^ u)=((bt*2 ^ u:Nat):Int) from by simp]
  omega
 rw [e2]
 exact or_u8 old (bt*2 ^ u) u ho (by simp) (by omega) (by omega)
theorem put_close {w W:World} {B g cap R q L:Nat} {v:Value} {Z Z':List Int} {b:Int} (hR:W.heap[R]?=some (.cells #[.slice (some ⟨g,0,none⟩) L cap,.int .i64 (q:Nat)] 155 (0,0)))
  (hZ:Z.length=L) (hown:Own W B g cap Z) (hnext:Z'=Z.set (q / 8) b) (hb:0≤b∧b≤255) (honly:Only (fun k=>k=R∨v.ownBlock=some k) w W)
  (hrow:v.ownBlock=some g∨w.heap.size≤g) :
  ((W.setCell ⟨g,q / 8,none⟩ (.int .u8 b)).setCell ⟨R,1,none⟩ (.int .i64 ((q:Int)+1))).heap[R]?=some (.cells #[.slice (some ⟨g,0,none⟩) L cap,.int .i64 ((q+1:Nat):Int)] 155 (0,0)) ∧
  OwnV ((W.setCell ⟨g,q / 8,none⟩ (.int .u8 b)).setCell ⟨R,1,none⟩ (.int .i64 ((q:Int)+1))) B (.slice (some ⟨g,0,none⟩) L cap) Z' ∧
  Only (fun k=>k=R∨v.ownBlock=some k) w ((W.setCell ⟨g,q / 8,none⟩ (.int .u8 b)).setCell ⟨R,1,none⟩ (.int .i64 ((q:Int)+1)))∧(Value.slice (some ⟨g,0,none⟩) L cap).ownBlock=some g:=by
 have hne:=hown.ne hR (by decide)
 have h1:(W.setCell ⟨g,q / 8,none⟩ (.int .u8 b)).heap[R]?=some (.cells #[.slice (some ⟨g,0,none⟩) L cap,.int .i64 (q:Nat)] 155 (0,0)):=by
  rw [Below.heap_setCell _ _ _ _ (by simpa using hne.symm)];exact hR
 have h2:=hown.store (q / 8) b hb
 have h3:=Own.setCell_other h2 (p:=⟨R,1,none⟩) (by simpa using hne.symm) (.int .i64 ((q:Int)+1))
 refine ⟨?_,?_,?_,rfl⟩
 ·rw [heap_setCell_same _ R 1 _ _ _ h1];simp
 ·rw [hnext]
  have hl:(Z.set (q / 8) b).length=L:=by rw [List.length_set];exact hZ
  have h4:=h3.v
  rw [hl] at h4
  exact h4
 ·refine Only.setCell (Only.setCell honly ?_ _) (.inl (.inl rfl)) _
  rcases hrow with h | h
  ·exact .inl (.inr h)
  ·exact .inr h
theorem app_keep {wr w1:World} {o b:Obj} {row:Option Nat} {R:Nat} (hg:(wr.alloc o).grownBy w1 row) (hR:wr.heap[R]?=some b) (hne:some R≠row):w1.heap[R]?=some b:=by
 have hlt:R<wr.heap.size:=(Array.getElem?_eq_some_iff.1 hR).1
 rw [hg.block R (by simp;omega) hne,Below.heap_alloc wr o R hlt]
 exact hR
theorem put_grown {w wr w1:World} {o:Obj} {B R q g cap:Nat} {au:Option Addr} {cu:Nat} {v:Value} {Z:List Int} (hR:wr.heap[R]?=some (.cells #[.slice au (q / 8) cu,.int .i64 (q:Nat)] 155 (0,0)))
  (hne:some R≠(Value.slice au (q / 8) cu).ownBlock) (hZ:∀ z ∈ Z,0≤z∧z≤255) (hl:Z.length=q / 8)
  (hg:(wr.alloc o).grownBy w1 (Value.slice au (q / 8) cu).ownBlock) (hown:w1.ownsRow B 5 1 (.slice (some ⟨g,0,none⟩) (q / 8+1) cap) (q / 8+1) (Z.map (Value.int .u8)++[.int .u8 0]))
  (hat:(Value.slice au (q / 8) cu).ownBlock=some g∨g=(wr.alloc o).heap.size) (honly:Only (fun k=>k=R∨v.ownBlock=some k) w wr) (hRl:R<w.heap.size)
  (hrow:(Value.slice au (q / 8) cu).ownBlock=v.ownBlock∨∃ k,(Value.slice au (q / 8) cu).ownBlock=some k∧w.heap.size≤k) :
  (w1.setCell ⟨R,0,none⟩ (.slice (some ⟨g,0,none⟩) (q / 8+1) cap)).heap[R]?=some (.cells #[.slice (some ⟨g,0,none⟩) (q / 8+1) cap,.int .i64 (q:Nat)] 155 (0,0)) ∧
  Own (w1.setCell ⟨R,0,none⟩ (.slice (some ⟨g,0,none⟩) (q / 8+1) cap)) B g cap (Z++[0]) ∧
  Only (fun k=>k=R∨v.ownBlock=some k) w (w1.setCell ⟨R,0,none⟩ (.slice (some ⟨g,0,none⟩) (q / 8+1) cap))∧(v.ownBlock=some g∨w.heap.size≤g):=by
 have hR1:=app_keep hg hR hne
 have ho:Own w1 B g cap (Z++[0]):=by
  refine ⟨?_,?_⟩
  ·have e:(Z++[0]).length=q / 8+1:=by simp [hl]
   rw [e]
   simpa using hown
  ·intro z hz
   simp only [List.mem_append,List.mem_singleton] at hz
   rcases hz with hz | rfl
   ·exact hZ z hz
   ·omega
 have hgR:=ho.ne hR1 (by decide)
 have hsz:=honly.size
 refine ⟨?_,ho.setCell_other (by simpa using hgR.symm) _,?_,?_⟩
 ·rw [heap_setCell_same _ R 0 _ _ _ hR1];simp
 ·refine Only.setCell (Only.grown (honly.alloc o) hg ?_) (.inl (.inl rfl)) _
  intro k hk
  rcases hrow with h | ⟨k',h,h'⟩
  ·exact .inl (.inr (h.symm.trans hk))
  ·right
   rw [h] at hk
   simp at hk
   omega
 ·rcases hat with h | h
  ·rcases hrow with h' | ⟨k',h',h''⟩
   ·exact .inl (h'.symm.trans h)
   ·right
    rw [h'] at h
    simp at h
    omega
  ·right
   rw [h]
   simp
   omega
theorem l1put_any (R B:Nat) (v:Value) (n V:Nat) (x width:Int) (w:World) (hR:w.heap[R]?=some (.cells #[v,.int .i64 n] 155 (0,0))) (hv:OwnV w B v (enc n V)) (hV:V<2 ^ n) (hB:B≤w.heap.size)
  (hx:0≤x) (hxb:x≤1073741824) (h1:0≤width) (h2:width≤30) (h3:n≤4104) :
  Calls Tryz.prog 181 #[.pointer (some ⟨R,0,none⟩),.int .i64 x,.int .i64 width] w fun e w'=>e=.returned (.tuple #[]) ∧
   ∃ v',w'.heap[R]?=some (.cells #[v',.int .i64 ((n+width.toNat:Nat):Int)] 155 (0,0))∧OwnV w' B v' (enc (n+width.toNat) (V+(x.toNat % 2 ^ width.toNat)*2 ^ n)) ∧
    Only (fun k=>k=R∨v.ownBlock=some k) w w'∧(v'.ownBlock=v.ownBlock∨∃ k,v'.ownBlock=some k∧w.heap.size≤k):=by
 obtain ⟨X,rfl⟩:=Int.eq_ofNat_of_zero_le hx
 obtain ⟨m,rfl⟩:=Int.eq_ofNat_of_zero_le h1
 simp only [Int.toNat_natCast] at *
 have hRlt:R<w.heap.size:=(Array.getElem?_eq_some_iff.1 hR).1
 have HR:Hid (w.heap[R]?=some (.cells #[v,.int .i64 n] 155 (0,0))):=hR
 have HV:Hid (OwnV w B v (enc n V)):=hv
 clear hR hv
 obtain ⟨i0,hi,hz0,hz1,hz2⟩:=info_parts Tryz.infoU8
 go_enter Tryz.func181,Tryz.ntmps181
 go_wp2
 go_loopw [6] (fun i wr=>∃ (k:Nat) (u:Value),k≤m∧i=.int .i64 k∧wr.heap[R]?=some (.cells #[u,.int .i64 ((n+k:Nat):Int)] 155 (0,0))∧OwnV wr B u (enc (n+k) (V+(X % 2 ^ k)*2 ^ n)) ∧
   Only (fun k=>k=R∨v.ownBlock=some k) w wr∧(u.ownBlock=v.ownBlock∨∃ k,u.ownBlock=some k∧w.heap.size≤k)) (fun i _=>m-(intOf i).toNat)
 case atStart=>exact ⟨0,v,Nat.zero_le _,rfl,HR.out,by simpa [Nat.mod_one] using HV.out,Only.refl _ _,.inl rfl⟩
 case round=>
  obtain ⟨k,u,hk,rfl,hRr,hur,honly,hrow⟩:=hrel
  by_cases hlt:k<m
  ·have hVk:V+X % 2 ^ k*2 ^ n<2 ^ (n+k):=put_lt n V k _ hV (Nat.mod_lt _ (Nat.pow_pos (by omega)))
   have hnext:=enc_step (n+k) (V+X % 2 ^ k*2 ^ n) 1 (X / 2 ^ k % 2) hVk (by omega) (by omega) (by omega)
   have hpart:=put_part n V X k 1
   rw [Nat.pow_one] at hpart
   rw [hpart] at hnext
   have htop:=enc_top (n+k) _ hVk
   have hlast:=enc_last (n+k) _ hVk
   have hlen:=enc_len (n+k) (V+X % 2 ^ k*2 ^ n)
   generalize hZp:enc (n+k+1) (V+X % 2 ^ (k+1)*2 ^ n)=Z' at *
   have HPART:Hid (enc (n+k+1) (V+X % 2 ^ (k+1)*2 ^ n)=Z'):=hZp
   clear hZp
   generalize (V+X % 2 ^ k*2 ^ n) / 256 ^ ((n+k) / 8)=old at *
   generalize enc (n+k) (V+X % 2 ^ k*2 ^ n)=Z at *
   have hq4:n+k≤4134:=by omega
   generalize hq:n+k=q at *
   have HQ:Hid (n+k=q):=hq
   clear hq hVk hpart hV
   have h256:2 ^ (q % 8)≤2 ^ 7:=Nat.pow_le_pow_right (by omega) (by omega)
   have hbt:X / 2 ^ k % 2*2 ^ (q % 8)≤1*2 ^ (q % 8):=Nat.mul_le_mul_right _ (by omega)
   have hbyte:=put_bit old X k (q % 8) (by omega) htop (by omega)
   have hrng:(0:Int)≤((old+X / 2 ^ k % 2*2 ^ (q % 8):Nat):Int)∧((old+X / 2 ^ k % 2*2 ^ (q % 8):Nat):Int)≤255:=by omega
   rw [←hbyte] at hrng
   rw [←hbyte] at hnext
   have HRNG:Hid (0≤bits .or .u8 (old:Int) (bits .and .i64 ((X:Int) / 2 ^ k) 1 % 256*2 ^ (q % 8) % 256)∧bits .or .u8 (old:Int) (bits .and .i64 ((X:Int) / 2 ^ k) 1 % 256*2 ^ (q % 8) % 256)≤255):=hrng
   clear hrng hbyte hbt h256
   by_cases h8:q % 8=0
   ·rw [if_pos h8] at hnext
    have hlen':Z.length=q / 8:=by omega
    have HNEXT:Hid (Z'=(Z++[0]).set (q / 8) (bits .or .u8 (old:Int) (bits .and .i64 ((X:Int) / 2 ^ k) 1 % 256*2 ^ (q % 8) % 256))):=hnext
    have hold:old=0:=by rw [h8] at htop;simp at htop;exact htop
    have hRl:R<wr.heap.size:=(Array.getElem?_eq_some_iff.1 hRr).1
    have hBw:B≤wr.heap.size:=Nat.le_trans hB honly.size
    have c0:wr.cell? ⟨R,0,none⟩=some u:=cellR (j:=0) hRr rfl
    have c1:wr.cell? ⟨R,1,none⟩=some (.int .i64 (q:Nat)):=cellR (j:=1) hRr rfl
    have h8':((q:Int) % 8 == 0)=true:=by simp;omega
    have hu:=hur.1
    rw [hlen'] at hu
    obtain ⟨au,cu,rfl⟩:∃ (x:Option Addr) (c:Nat),u=.slice x (q / 8) c:=by
     rcases hu.2 with ⟨rfl,h0⟩ | ⟨g',cap',cur',rfl,_⟩
     ·exact ⟨none,0,by rw [h0]⟩
     ·exact ⟨_,_,rfl⟩
    have HRR:Hid (wr.heap[R]?=some (.cells #[.slice au (q / 8) cu,.int .i64 ((q:Nat):Int)] 155 (0,0))):=hRr
    have HZR:Hid (∀ z ∈ Z,0≤z∧z≤255):=hur.2
    have HONLY:Hid (Only (fun k=>k=R∨v.ownBlock=some k) w wr):=honly
    have HROW:Hid ((Value.slice au (q / 8) cu).ownBlock=v.ownBlock∨∃ k,(Value.slice au (q / 8) cu).ownBlock=some k∧w.heap.size≤k):=hrow
    have HZL:Hid (Z.length=q / 8):=hlen'
    have huR:Hid (some R≠(Value.slice au (q / 8) cu).ownBlock):=by
     intro he
     rcases hu.2 with ⟨h',_⟩ | ⟨g',cap',cur',h',hg',hh,r⟩
     ·simp at h'
      rw [h'.1] at he
      simp [Value.ownBlock] at he
     ·simp at h'
      rw [h'.1] at he
      simp [Value.ownBlock] at he
      subst he
      rw [hRr] at hh
      simp at hh
    clear hnext hlast honly hrow hRr hlen hlen' hur
    go_wp2_with (at_builtin;(refine wpList_append_lies _ rfl (.tmp 22) (.tmp 23) 36 rfl B 5 i0 (.int .u8 0) 1 1 Tryz.underlying36 hi hz0 hz1 hz2 rfl (by decide) (.slice au (q / 8) cu) (q / 8) (Z.map (Value.int .u8)) rfl (hu.alloc _) ⟨wr.heap.size,0,none⟩ 1 1 [.int .u8 0] rfl rfl (by intro j y hj;match j,hj with | 0,hj=>(simp at hj;subst hj;simp [Addr.add])) (by intro y hy;simp at hy;subst hy;rfl) (by omega) (by unfold maxLen;omega) (by omega) (by simp;omega) _ rfl ?_);intro g cap w1 hown hgrow hat hlt1;have hR1:=app_keep hgrow HRR.out huR.out;have d0:=cellR (j:=0) hR1 rfl;have d1:=cellR (j:=1) hR1 rfl;have e0:=frozenR (j:=0) hR1)
    have G:=put_grown (v:=v) HRR.out huR.out HZR.out HZL.out hgrow hown hat HONLY.out hRlt HROW.out
    clear hown hgrow hat hR1 d0 d1 e0 c0 c1 hu hlt1
    generalize w1.setCell ⟨R,0,none⟩ (.slice (some ⟨g,0,none⟩) (q / 8+1) cap)=W at *
    obtain ⟨hRr,hown,honly,hrow'⟩:=G
    have hlen':(Z++[0]).length=q / 8+1:=by rw [List.length_append,HZL.out];rfl
    have CL:Hid _:=put_close (v:=v) hRr hlen' hown HNEXT.out HRNG.out honly hrow'
    have HROW2:Hid (v.ownBlock=some g∨w.heap.size≤g):=hrow'
    have hne:=hown.ne hRr (by decide)
    have c0:W.cell? ⟨R,0,none⟩=some (.slice (some ⟨g,0,none⟩) (q / 8+1) cap):=cellR (j:=0) hRr rfl
    have c1:W.cell? ⟨R,1,none⟩=some (.int .i64 (q:Nat)):=cellR (j:=1) hRr rfl
    have f1:=frozenR (j:=1) hRr
    have cg:W.cell? ⟨g,q / 8,none⟩=some (.int .u8 (old:Nat)):=by
     rw [hown.cell (q / 8) (by omega),hold]
     simp [←HZL.out]
    have fg:=hown.frozen (q / 8)
    clear hown honly hrow' hRr hlen' HNEXT HRNG h8 hold HRR HZR HONLY HROW HZL huR
    go_region
    go_wp2
    go_roundw
    case rel=>
     have C:=CL.out
     refine ⟨k+1,.slice (some ⟨g,0,none⟩) (q / 8+1) cap,by omega,by go_num,?_,?_,?_,?_⟩
     ·rw [show n+(k+1)=q+1 from by have:=HQ.out;omega];exact C.1
     ·rw [show n+(k+1)=q+1 from by have:=HQ.out;omega,HPART.out];exact C.2.1
     ·exact C.2.2.1.drew
     ·rcases HROW2.out with h | h
      ·exact .inl h.symm
      ·exact .inr ⟨g,rfl,h⟩
    case measure=>simp [intOf];omega
   ·rw [if_neg h8] at hnext
    have hlen':Z.length=q / 8+1:=by omega
    obtain ⟨g,cap,rfl,hown⟩:=hur.form (by omega)
    rw [hlen'] at hRr hrow
    have HNEXT:Hid (Z'=Z.set (q / 8) (bits .or .u8 (old:Int) (bits .and .i64 ((X:Int) / 2 ^ k) 1 % 256*2 ^ (q % 8) % 256))):=hnext
    have hrow':v.ownBlock=some g∨w.heap.size≤g:=by
     rcases hrow with h | ⟨kk,h,h'⟩
     ·exact .inl (h.symm.trans rfl)
     ·right
      simp [Value.ownBlock] at h
      omega
    have CL:Hid _:=put_close (v:=v) hRr hlen' hown HNEXT.out HRNG.out honly hrow'
    have HROW:Hid (v.ownBlock=some g∨w.heap.size≤g):=hrow'
    have hne:=hown.ne hRr (by decide)
    have c0:wr.cell? ⟨R,0,none⟩=some (.slice (some ⟨g,0,none⟩) (q / 8+1) cap):=cellR (j:=0) hRr rfl
    have c1:wr.cell? ⟨R,1,none⟩=some (.int .i64 (q:Nat)):=cellR (j:=1) hRr rfl
    have f1:=frozenR (j:=1) hRr
    have cg:=hown.cell (q / 8) (by omega)
    have fg:=hown.frozen (q / 8)
    rw [hlast h8] at cg
    have h8':((q:Int) % 8 == 0)=false:=by simp;omega
    clear hnext hlast hown honly hrow hrow' hRr hlen hlen' hur HNEXT HRNG h8
    go_wp2
    go_region
    go_wp2
    go_roundw
    case rel=>
     have C:=CL.out
     refine ⟨k+1,.slice (some ⟨g,0,none⟩) (q / 8+1) cap,by omega,by go_num,?_,?_,?_,?_⟩
     ·rw [show n+(k+1)=q+1 from by have:=HQ.out;omega];exact C.1
     ·rw [show n+(k+1)=q+1 from by have:=HQ.out;omega,HPART.out];exact C.2.1
     ·exact C.2.2.1.drew
     ·rcases HROW.out with h | h
      ·exact .inl h.symm
      ·exact .inr ⟨g,rfl,h⟩
    case measure=>simp [intOf];omega
  ·have hkm:k=m:=by omega
   subst hkm
   have HF:Hid _:=(⟨hRr,hur,honly,hrow⟩:_∧_∧_∧_)
   clear hRr hur honly hrow
   go_wp2
   go_end0
   have F:=HF.out
   exact ⟨rfl,u,F.1,F.2.1,F.2.2.1,F.2.2.2⟩
end Go.Proofs.YtaibkchbkedjnaaGreatDoor
