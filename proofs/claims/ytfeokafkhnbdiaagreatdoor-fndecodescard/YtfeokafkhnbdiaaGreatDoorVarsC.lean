/- Lemmas on the way. -/
import Derived.Test.YtfeokafkhnbdiaaGreatDoorDrBy
import Derived.Test.YtfeokafkhnbdiaaGreatDoorEnU
import Derived.Test.YtfeokafkhnbdiaaGreatDoorOpen3
import Derived.Test.YtfeokafkhnbdiaaGreatDoorLvC
import Derived.Test.YtfeokafkhnbdiaaGreatDoorPcN
import Derived.Test.YtfeokafkhnbdiaaGreatDoorRows
import Derived.Test.YtfeokafkhnbdiaaGreatDoorPcA
import Derived.WalkKit
import Derived.ProofKit
import Derived.OpenShut
import Derived.ShutString
import Derived.ChangeOld
import Derived.Below
import Derived.Lib.SmallJoins
import Derived.Test.YtfeokafkhnbdiaaGreatDoorCards
import Derived.Test.YtfeokafkhnbdiaaGreatDoorTie
import Derived.LaidMore
import Derived.Stop.Joined
import Derived.Stop.LaidErr
import Derived.WalkSmall
import Derived.SevenTiedAt
set_option maxRecDepth 20000
set_option maxHeartbeats 16000000
namespace Go.Proofs.YtfeokafkhnbdiaaGreatDoor
open Go.RowKit
set_option linter.unusedVariables false
theorem Dr.belowBig {w0 w:World} {B R:Nat} {a:Option Addr} {bs:List Int} {cap:Nat} (h:Dr w0 w B R a bs cap) (n:Int) (hn:0<n) (hn2:n≤2147483648) :
  Calls Tryz.prog 51 #[.pointer (some ⟨R,0,none⟩),.int .i64 n] w fun e w'=>(∃ x:Int,0≤x∧x<n∧e=.returned (.int .i64 x))∧Dr w0 w' B R a bs cap∧Only (fun k=>k=R) w w':=by
 by_cases h256:n≤256
 ·exact h.below n hn h256
 ·have H:Hid (Dr w0 w B R a bs cap):=h
  clear h
  go_enter Tryz.func51,Tryz.ntmps51
  go_wp2_with fail
  refine H.out.byte.mono ?_
  rintro e w1 ⟨⟨x1,a1,b1,rfl⟩,hd1,ho1⟩
  have HD1:Hid _:=hd1
  clear hd1 H
  go_wp2_with fail
  refine HD1.out.byte.mono ?_
  rintro e w2 ⟨⟨x2,a2,b2,rfl⟩,hd2,ho2⟩
  have HD2:Hid _:=hd2
  have HO2:Hid (Only (fun k=>k=R) w w2):=ho1.trans ho2
  clear hd2 HD1 ho1 ho2
  go_wp2_with fail
  refine HD2.out.byte.mono ?_
  rintro e w3 ⟨⟨x3,a3,b3,rfl⟩,hd3,ho3⟩
  have HD3:Hid _:=hd3
  have HO3:Hid (Only (fun k=>k=R) w w3):=HO2.out.trans ho3
  clear hd3 HD2 ho3 HO2
  go_wp2_with fail
  refine HD3.out.byte.mono ?_
  rintro e w4 ⟨⟨x4,a4,b4,rfl⟩,hd4,ho4⟩
  have HD4:Hid _:=hd4
  have HO4:Hid (Only (fun k=>k=R) w w4):=HO3.out.trans ho4
  clear hd4 HD3 ho4 HO3
  go_wp2
  go_ret
  refine ⟨⟨_,?_,?_,rfl⟩,HD4.out,HO4.out⟩
  ·exact Int.emod_nonneg _ (by omega)
  ·exact Int.emod_lt_of_pos _ hn
set_option linter.unusedSimpArgs false
theorem xor8O (a b:Int):0≤bits .xor .u8 a b∧bits .xor .u8 a b≤255:=by
 have h:bits .xor .u8 a b=IntKind.u8.wrap ((BitVec.ofInt 8 a ^^^ BitVec.ofInt 8 b).toNat:Int):=rfl
 have h2:=(BitVec.ofInt 8 a ^^^ BitVec.ofInt 8 b).isLt
 rw [h,IntWalk.u8_in _ (by omega)]
 omega
theorem Mine.ovbO {w:World} {B U:Nat} {a:Option Addr} {c:Nat} {zs:List Int} (h:Mine w B U a c zs):OVB w B (.slice a zs.length c) zs:=by
 rcases h with ⟨rfl,rfl,rfl⟩ | ⟨g,rfl,_,_,h⟩
 ·exact OVB.nil _ _
 ·exact h
theorem only_lateB {S T:Nat→Prop} {a b c:World} (h:Only S a b) (k:Only T b c) (hT:∀ i,T i→a.heap.size≤i):Only S a c:=
 ⟨k.os.trans h.os,k.tape.trans h.tape,k.output.trans h.output,Nat.le_trans h.size k.size,fun i hi hs=>(k.block i (Nat.lt_of_lt_of_le hi h.size) (fun ht=>by have:=hT i ht;omega)).trans (h.block i hi hs)⟩
theorem pkV_bnd {ys:List Int} (hn:ys.length=64) (hr:∀ z ∈ ys,0≤z∧z≤255) {k:Nat} (hk:k≤3):1≤(pkV k ys).length∧(pkV k ys).length≤601:=by
 by_cases h1:k=1
 ·subst h1
  simp [pkV]
 ·refine ⟨?_,pkO_len hr (pkO_V hn hk (fun h=>absurd h h1))⟩
  unfold pkV
  simp only [h1,if_false]
  split
  ·simp
  ·simp
theorem Dr.block {w0 w:World} {B R:Nat} {a:Option Addr} {bs:List Int} {cap:Nat} (h:Dr w0 w B R a bs cap) :
  Calls Tryz.prog 76 #[.pointer (some ⟨R,0,none⟩)] w fun e w'=>∃ (a':Option Addr) (c':Nat) (ls:List Int),e=.returned (.slice a' 64 c')∧ls.length=64∧OVB w' w.heap.size (.slice a' 64 c') ls∧Dr w0 w' B R a bs cap∧Only (fun k=>k=R) w w':=by
 have H:Hid (Dr w0 w B R a bs cap):=h
 clear h
 go_enter Tryz.func76,Tryz.ntmps76
 go_wp2_with fail
 refine (H.out.bytes4 64 (by omega)).mono ?_
 rintro e w1 ⟨a1,c1,ls,rfl,hl,hov,hd,ho⟩
 have HF:Hid _:=And.intro hl (And.intro hov (And.intro hd ho))
 clear hl hov hd ho H
 go_wp2
 go_ret
 exact ⟨a1,c1,ls,rfl,HF.out⟩
theorem Dr.blob {w0 w:World} {B R:Nat} {a:Option Addr} {bs:List Int} {cap:Nat} (h:Dr w0 w B R a bs cap) :
  Calls Tryz.prog 57 #[.pointer (some ⟨R,0,none⟩)] w fun e w'=>∃ (a':Option Addr) (c':Nat) (zs:List Int),e=.returned (.slice a' zs.length c')∧1≤zs.length∧zs.length≤601∧OVB w' w.heap.size (.slice a' zs.length c') zs∧Dr w0 w' B R a bs cap∧Only (fun k=>k=R) w w':=by
 have H:Hid (Dr w0 w B R a bs cap):=h
 have hRB:=h.cur.lt
 clear h
 go_enter Tryz.func57,Tryz.ntmps57
 go_wp2_with fail
 refine H.out.block.mono ?_
 rintro e w1 ⟨a1,c1,ls,rfl,hl,hov,hd1,ho1⟩
 have HB1:Hid (ls.length=64∧OVB w1 w.heap.size (.slice a1 64 c1) ls∧Dr w0 w1 B R a bs cap∧Only (fun k=>k=R) w w1):=⟨hl,hov,hd1,ho1⟩
 clear hov hd1 ho1 H hl
 go_wp2_with fail
 refine (HB1.out.2.2.1.below 4 (by omega) (by omega)).mono ?_
 rintro e w2 ⟨⟨x,hx1,hx2,rfl⟩,hd2,ho2⟩
 obtain ⟨k,rfl⟩:=Int.eq_ofNat_of_zero_le hx1
 have hk:k≤3:=by omega
 have HB2:Hid (Byt w2 a1 ls∧Dr w0 w2 B R a bs cap∧Only (fun k=>k=R) w w2):=⟨(HB1.out.2.1.stay ho2 (fun k hk e=>by omega)).byt,hd2,HB1.out.2.2.2.trans ho2⟩
 have HL:Hid (ls.length=64∧∀ z ∈ ls,0≤z∧z≤255):=⟨HB1.out.1,HB1.out.2.1.2⟩
 clear hd2 ho2 HB1 hx1 hx2
 have HPK:Hid (∀ (k:Nat) (W:World),k≤3→Byt W a1 ls→Calls Tryz.prog 78 #[.slice a1 64 c1,.int .i64 (k:Nat)] W fun e w'=>pkS W w' (pkV k ls) e):=fun k W hk hb=>l5packed_any k a1 c1 ls W hb HL.out.1 hk
 have HFIN:Hid (∀ (W:World) (k:Nat) (e:Ending) (w':World),Dr w0 W B R a bs cap→Only (fun k=>k=R) w W→k≤3→pkS W w' (pkV k ls) e→∃ (a':Option Addr) (c':Nat) (zs:List Int),e=.returned (.slice a' zs.length c')∧1≤zs.length∧zs.length≤601∧OVB w' w.heap.size (.slice a' zs.length c') zs∧Dr w0 w' B R a bs cap∧Only (fun k=>k=R) w w'):=fun W k e w' hd ho hk h=>by
  obtain ⟨⟨a',c',rfl,hm⟩,hb⟩:=h
  have hbd:=pkV_bnd HL.out.1 HL.out.2 hk
  exact ⟨a',c',_,rfl,hbd.1,hbd.2,hm.ovbO.weak ho.size,hd.other (Only.ofBelow (S:=fun _=>False) hb nl) (by simp) (by simp),ho.trans (Only.ofBelow hb nl)⟩
 by_cases h1:k=1
 ·subst h1
  have HA:=l5alike_any a1 c1 ls w2 HB2.out.1 HL.out.1
  go_wp2_with fail
  refine HA.mono ?_
  clear HA
  rintro e w3 ⟨rfl,hb3⟩
  have HB3:Hid (Byt w3 a1 ls∧Dr w0 w3 B R a bs cap∧Only (fun k=>k=R) w w3):=⟨HB2.out.1.below hb3 nl,HB2.out.2.1.other (Only.ofBelow (S:=fun _=>False) hb3 nl) (by simp) (by simp),HB2.out.2.2.trans (Only.ofBelow hb3 nl)⟩
  clear hb3 HB2
  cases alikeB ls with
  | true=>
   have HC:=HPK.out 1 w3 (by omega) HB3.out.1
   go_wp2_with fail
   refine HC.mono ?_
   clear HC HPK
   rintro e w4 h4
   obtain ⟨a',c',zs,rfl,h5,h6,h7⟩:=HFIN.out w3 1 e w4 HB3.out.2.1 HB3.out.2.2 (by omega) h4
   have HF:Hid _:=h7
   clear h4 h7 HFIN
   go_wp2
   go_ret
   exact ⟨a',c',zs,rfl,h5,h6,HF.out⟩
  | false=>
   have HC:=HPK.out 2 w3 (by omega) HB3.out.1
   go_wp2_with fail
   refine HC.mono ?_
   clear HC HPK
   rintro e w4 h4
   obtain ⟨a',c',zs,rfl,h5,h6,h7⟩:=HFIN.out w3 2 e w4 HB3.out.2.1 HB3.out.2.2 (by omega) h4
   have HF:Hid _:=h7
   clear h4 h7 HFIN
   go_wp2
   go_ret
   exact ⟨a',c',zs,rfl,h5,h6,HF.out⟩
 ·have hkI:((k:Int) == 1)=false:=by simp;omega
  have hkI2:¬(k:Int)=1:=by omega
  have HC:=HPK.out k w2 hk HB2.out.1
  go_wp2_with fail
  refine HC.mono ?_
  clear HC HPK
  rintro e w4 h4
  obtain ⟨a',c',zs,rfl,h5,h6,h7⟩:=HFIN.out w2 k e w4 HB2.out.2.1 HB2.out.2.2 hk h4
  have HF:Hid _:=h7
  clear h4 h7 HFIN
  go_wp2
  go_ret
  exact ⟨a',c',zs,rfl,h5,h6,HF.out⟩
theorem OVB.setB {w:World} {B g n c:Nat} {zs:List Int} (h:OVB w B (.slice (some ⟨g,0,none⟩) n c) zs) (i:Nat) (z:Int) (hz:0≤z∧z≤255):OVB (w.setCell ⟨g,i,none⟩ (.int .u8 z)) B (.slice (some ⟨g,0,none⟩) n c) (zs.set i z):=by
 obtain rfl:=h.cap.2.2.1
 have r:=(h.1.stored i (.int .u8 z)).1
 refine ⟨by rw [List.length_set,List.map_set];exact r,fun y hy=>?_⟩
 rcases List.mem_or_eq_of_mem_set hy with hy | rfl
 ·exact h.2 y hy
 ·exact hz
theorem OVB.cellB {w:World} {B g n c:Nat} {zs:List Int} (h:OVB w B (.slice (some ⟨g,0,none⟩) n c) zs) (i:Nat) (hi:i<zs.length):w.cell? ⟨g,i,none⟩=some (.int .u8 (zs.getD i 0))∧w.frozen? ⟨g,i,none⟩=false∧B≤g∧g<w.heap.size:=by
 obtain rfl:=h.cap.2.2.1
 have hb:=h.blk (k:=g) rfl
 have h2:=h.cap.2.2.2 (by omega)
 obtain ⟨g',e,hg⟩:=h2
 obtain rfl:g=g':=by simpa using e
 refine ⟨?_,h.1.frozenAt i,hb,hg⟩
 rw [h.1.cellAt i (by omega),List.getElem?_map,List.getElem?_eq_getElem hi,List.getD_eq_getElem?_getD,List.getElem?_eq_getElem hi]
 rfl
theorem Dr.spoil {w0 w:World} {B R:Nat} {a:Option Addr} {bs:List Int} {cap:Nat} (h:Dr w0 w B R a bs cap) (xa:Option Addr) (xc:Nat) (zs:List Int) (hb:Byt w xa zs) (h1:1≤zs.length) (h2:zs.length≤601) :
  Calls Tryz.prog 58 #[.pointer (some ⟨R,0,none⟩),.slice xa zs.length xc] w fun e w'=>∃ (a':Option Addr) (c':Nat) (ls:List Int),e=.returned (.slice a' ls.length c')∧ls.length≤602∧OVB w' w.heap.size (.slice a' ls.length c') ls∧Dr w0 w' B R a bs cap∧Only (fun k=>k=R) w w':=by
 have H:Hid (Dr w0 w B R a bs cap∧Byt w xa zs):=⟨h,hb⟩
 have hRB:=h.cur.lt
 clear h hb
 go_enter Tryz.func58,Tryz.ntmps58
 go_wp2_with (at_builtin;(refine wpList_append_byt rfl (.tmp 6) (.tmp 7) rfl w.heap.size (.slice (some ⟨w.heap.size,0,none⟩) 0 0) [] rfl (OVB.empty w _ nl) xa xc zs rfl (H.out.2.alloc _) (by simp;omega) (by simp) ?_);intro v1 w1 hown hgrow)
 rw [List.nil_append] at hown
 obtain ⟨a1,c1,rfl⟩:=hown.form
 have ho1:Only (fun _=>False) w w1:=Only.grown ((Only.refl _ _).alloc _) hgrow (fun k hk=>.inr (by simp [Value.ownBlock] at hk;omega))
 obtain ⟨q1,q2,-,q4⟩:=hown.cap
 obtain ⟨g,rfl,hg⟩:=q4 (by omega)
 have HS1:Hid (OVB w1 w.heap.size (.slice (some ⟨g,0,none⟩) zs.length c1) zs∧Dr w0 w1 B R a bs cap∧Only (fun k=>k=R) w w1):=⟨hown,H.out.1.other ho1 (by simp) (by simp),ho1.mono (fun k _ hk=>hk.elim)⟩
 clear hown hgrow ho1 H hg q4 q2
 go_wp2_with fail
 have hlen:(Builtin.len_ #[22] 3 #[.slice (some ⟨g,0,none⟩) zs.length c1]).run Tryz.prog w1=.ok (goInt zs.length) w1:=by simp [go_sem]
 simp [go_sem,hlen]
 go_wp2_with fail
 refine (HS1.out.2.1.belowBig (zs.length:Int) (by omega) (by omega)).mono ?_
 rintro e w2 ⟨⟨x,hx1,hx2,rfl⟩,hd2,ho2⟩
 obtain ⟨i,rfl⟩:=Int.eq_ofNat_of_zero_le hx1
 have hi:i<zs.length:=by omega
 have HS2:Hid (OVB w2 w.heap.size (.slice (some ⟨g,0,none⟩) zs.length c1) zs∧Dr w0 w2 B R a bs cap∧Only (fun k=>k=R) w w2):=⟨HS1.out.1.stay ho2 (fun k hk e=>by omega),hd2,HS1.out.2.2.trans ho2⟩
 clear hd2 ho2 HS1 hx1 hx2
 go_wp2_with fail
 refine (HS2.out.2.1.below 5 (by omega) (by omega)).mono ?_
 rintro e w3 ⟨⟨kk,hk1,hk2,rfl⟩,hd3,ho3⟩
 have HS3:Hid (OVB w3 w.heap.size (.slice (some ⟨g,0,none⟩) zs.length c1) zs∧Dr w0 w3 B R a bs cap∧Only (fun k=>k=R) w w3):=⟨HS2.out.1.stay ho3 (fun k hk e=>by omega),hd3,HS2.out.2.2.trans ho3⟩
 clear hd3 ho3 HS2
 have HPUT:Hid (∀ (W:World) (j:Nat) (z:Int),OVB W w.heap.size (.slice (some ⟨g,0,none⟩) zs.length c1) zs→Dr w0 W B R a bs cap→Only (fun k=>k=R) w W→0≤z∧z≤255→w.heap.size≤g→∃ (a':Option Addr) (c':Nat) (ls:List Int),Value.slice (some ⟨g,0,none⟩) zs.length c1=.slice a' ls.length c'∧ls.length≤602∧OVB (W.setCell ⟨g,j,none⟩ (.int .u8 z)) w.heap.size (.slice a' ls.length c') ls∧Dr w0 (W.setCell ⟨g,j,none⟩ (.int .u8 z)) B R a bs cap∧Only (fun k=>k=R) w (W.setCell ⟨g,j,none⟩ (.int .u8 z))):=fun W j z hov hd ho hz hg=>by
  have hon:Only (fun b=>b=g) W (W.setCell ⟨g,j,none⟩ (.int .u8 z)):=(Only.refl (fun b=>b=g) W).setCell (p:=⟨g,j,none⟩) (.inl rfl) _
  have hs:=ho.size
  exact ⟨some ⟨g,0,none⟩,c1,zs.set j z,by rw [List.length_set],by rw [List.length_set];omega,by rw [List.length_set];exact hov.setB j z hz,hd.other hon (by omega) (fun k hk=>by omega),ho.setCell (p:=⟨g,j,none⟩) (.inr hg) _⟩
 have key:kk=0∨kk=1∨kk=2∨kk=3∨kk=4:=by omega
 clear hk1 hk2
 rcases key with rfl | rfl | rfl | rfl | rfl
 ·go_wp2_with fail
  refine HS3.out.2.1.byte.mono ?_
  rintro e w4 ⟨⟨z,hz1,hz2,rfl⟩,hd4,ho4⟩
  have hov:=HS3.out.1.stay ho4 (fun k hk e=>by omega)
  obtain ⟨ci,fi,hg1,hg2⟩:=hov.cellB i hi
  have HF:Hid _:=HPUT.out w4 i z hov hd4 (HS3.out.2.2.trans ho4) ⟨hz1,hz2⟩ hg1
  have hw8:IntKind.u8.wrap z=z:=IntWalk.u8_in _ (by omega)
  clear hov hd4 ho4 HPUT HS3
  go_wp2
  go_ret
  obtain ⟨a',c',ls,e1,e2⟩:=HF.out
  exact ⟨a',c',ls,congrArg Ending.returned e1,e2⟩
 ·obtain ⟨q,hq⟩:∃ q:Nat,q=i+1:=⟨_,rfl⟩
  have hqI:(i:Int)+1=(q:Int):=by omega
  have hqn:(q:Int)≤(zs.length:Int):=by omega
  have hic:(i:Int)≤(c1:Int):=by omega
  have HSL:Hid (OVB w3.drew w.heap.size (.slice (some ⟨g,0,none⟩) i c1) (zs.take i)∧Byt w3.drew (if c1=q then some ⟨g,0,none⟩ else some ⟨g,q,none⟩) (zs.drop q)∧(zs.take i).length=i∧(zs.drop q).length=zs.length-q):=by
   have hov:=HS3.out.1.stay (S:=fun _=>False) (Only.drew (Only.refl _ _)) (by simp)
   have hby:=hov.byt
   refine ⟨hov.front i (by omega),⟨fun z hz=>hby.1 z (List.mem_of_mem_drop hz),fun hp=>?_⟩,by rw [List.length_take];omega,by rw [List.length_drop]⟩
   rw [List.length_drop] at hp
   rw [if_neg (by omega)]
   obtain ⟨b',o',e,hl,hc⟩:=hby.2 (by omega)
   obtain ⟨rfl,rfl⟩:g=b'∧0=o':=by simpa using e
   refine ⟨g,q,rfl,hl,fun j hj=>?_⟩
   rw [List.length_drop] at hj
   have h9:=hc (q+j) (by omega)
   rw [Nat.zero_add] at h9
   rw [h9,List.getD_eq_getElem?_getD,List.getD_eq_getElem?_getD,List.getElem?_drop]
  have hgb:w.heap.size≤g:=HS3.out.1.blk (k:=g) rfl
  have HQ:Hid (q=i+1):=hq
  clear hq
  have hqw:IntKind.i64.wrap (q:Int)=q:=IntWalk.i64_in _ (by omega)
  go_wp2
  refine wp_region_cut (S:=fun W=>True) 8 (by kernel_rfl) (by kernel_rfl) (trivial) (fun hHeld=>?_)
  refine tk 0 (v:=?_) ?_ ?_
  rotate_left
  ·(intro w hSw;(try dsimp only at hSw);go_simp;try (with_reducible rfl))
  try simp only [tkS]
  refine tk 1 (v:=?_) ?_ ?_
  rotate_left
  ·(intro w hSw;(try dsimp only at hSw);go_simp;try (with_reducible rfl))
  try simp only [tkS]
  refine tk 2 (v:=?_) ?_ ?_
  rotate_left
  ·(intro w hSw;(try dsimp only at hSw);go_simp;try (with_reducible rfl))
  try simp only [tkS]
  refine tk 3 (v:=?_) ?_ ?_
  rotate_left
  ·(intro w hSw;(try dsimp only at hSw);go_simp;try (with_reducible rfl))
  try simp only [tkS]
  refine tk 4 (v:=?_) ?_ ?_
  rotate_left
  ·(intro w hSw;(try dsimp only at hSw);go_simp;try (with_reducible rfl))
  try simp only [tkS]
  refine tk 5 (v:=?_) ?_ ?_
  rotate_left
  ·(intro w hSw;(try dsimp only at hSw);go_simp;try (with_reducible rfl))
  try simp only [tkS]
  refine tk 6 (v:=?_) ?_ ?_
  rotate_left
  ·(intro w hSw;(try dsimp only at hSw);go_simp;try (with_reducible rfl))
  try simp only [tkS]
  refine wpAnyH_ready (rs:=[7]) (by kernel_rfl) (by simp) ?_
  refine AllReadyH.cons rfl (fun K hK=>?_) AllReadyH.nil
  refine wanted_step rfl (wp_append_byt (.tmp 32) (.tmp 36) rfl w.heap.size (.slice (some ⟨g,0,none⟩) i c1) (zs.take i) (by simp [Act.eval]) HSL.out.1 (if c1=q then some ⟨g,0,none⟩ else some ⟨g,q,none⟩) (c1-q) (zs.drop q) (by rw [HSL.out.2.2.2];simp [Act.eval]) HSL.out.2.1 (by rw [HSL.out.2.2.1,HSL.out.2.2.2];omega) (by have:=HS3.out.2.2.size;simp;omega) ?_)
  intro v4 w4 hown hgrow
  obtain ⟨ys,hys⟩:∃ ys,zs.take i++zs.drop q=ys:=⟨_,rfl⟩
  have hyl:ys.length≤602:=by rw [←hys,List.length_append,HSL.out.2.2.1,HSL.out.2.2.2];omega
  rw [hys] at hown
  clear hys
  obtain ⟨a4,c4,rfl⟩:=hown.form
  have ho4:Only (fun b=>b=g) w3 w4:=Only.grown (Only.drew (Only.refl _ _)) hgrow (fun k hk=>.inl (by simpa [Value.ownBlock] using hk.symm))
  have HF:Hid (OVB w4 w.heap.size (.slice a4 ys.length c4) ys∧Dr w0 w4 B R a bs cap∧Only (fun k=>k=R) w w4):=
   ⟨hown,HS3.out.2.1.other ho4 (by omega) (fun k hk=>by omega),only_lateB HS3.out.2.2 ho4 (fun k hk=>by omega)⟩
  clear hown hgrow ho4 HS3 HPUT HSL
  refine hK.out _ _ (trivial) (fun hHeld=>?_)
  clear hK K
  try simp only [tkS]
  refine wpAnyH_done (by kernel_rfl) ?_ _
  simp only [cutQ,List.drop_succ_cons,List.drop_zero]
  go_wp2
  all_goals
   go_ret
   exact ⟨a4,c4,ys,rfl,hyl,HF.out⟩
 ·go_wp2_with fail
  refine HS3.out.2.1.byte.mono ?_
  rintro e w4 ⟨⟨z,hz1,hz2,rfl⟩,hd4,ho4⟩
  have hw8:IntKind.u8.wrap z=z:=IntWalk.u8_in _ (by omega)
  have HS4:Hid (OVB w4 w.heap.size (.slice (some ⟨g,0,none⟩) zs.length c1) zs∧Dr w0 w4 B R a bs cap∧Only (fun k=>k=R) w w4):=⟨HS3.out.1.stay ho4 (fun k hk e=>by omega),hd4,HS3.out.2.2.trans ho4⟩
  clear hd4 ho4 HS3 HPUT
  go_wp2_with (at_builtin;(refine wpList_append_b1B rfl (.tmp 40) (.tmp 44) rfl w.heap.size (.slice (some ⟨g,0,none⟩) zs.length c1) zs rfl (HS4.out.1.alloc _) w4.heap.size 1 z rfl (by simp) (by omega) (by omega) (by have:=HS4.out.2.2.size;simp;omega) ?_);intro v5 w5 hown hgrow)
  obtain ⟨a5,c5,rfl⟩:=hown.form
  have hgb:w.heap.size≤g:=HS4.out.1.blk (k:=g) rfl
  have ho5:Only (fun b=>b=g) w4 w5:=Only.grown ((Only.refl _ _).alloc _) hgrow (fun k hk=>.inl (by simpa [Value.ownBlock] using hk.symm))
  have HF:Hid (OVB w5 w.heap.size (.slice a5 (zs++[z]).length c5) (zs++[z])∧Dr w0 w5 B R a bs cap∧Only (fun k=>k=R) w w5):=⟨hown,HS4.out.2.1.other ho5 (by omega) (fun k hk=>by omega),only_lateB HS4.out.2.2 ho5 (fun k hk=>by omega)⟩
  clear hown hgrow ho5 HS4
  go_wp2
  go_ret
  exact ⟨a5,c5,zs++[z],rfl,by simp;omega,HF.out⟩
 ·have hov:=HS3.out.1
  obtain ⟨ci,fi,hg1,hg2⟩:=hov.cellB i hi
  obtain ⟨zi,hzi⟩:∃ z,zs.getD i 0=z:=⟨_,rfl⟩
  have HCI:Hid (∀ W,Only (fun k=>k=R) w3 W→W.cell? ⟨g,i,none⟩=some (.int .u8 zi)∧W.frozen? ⟨g,i,none⟩=false):=fun W ho=>by
   rw [←hzi]
   have h9:=HS3.out.1.stay ho (fun k hk e=>by omega)
   exact ⟨(h9.cellB i hi).1,(h9.cellB i hi).2.1⟩
  have HD:Hid (Dr w0 w3.drew B R a bs cap):=HS3.out.2.1.other (S:=fun _=>False) (Only.drew (Only.refl _ _)) (by simp) (by simp)
  rw [hzi] at ci
  clear hov hzi
  go_wp2
  go_region_with (go_at_call 51;refine (HD.out.below 8 (by omega) (by omega)).mono ?_;rintro e w4 ⟨⟨y,hy1,hy2,rfl⟩,hd4,ho4⟩;have cj:=(HCI.out w4 (Only.trans (Only.drew (Only.refl _ _)) ho4)).1;have fj:=(HCI.out w4 (Only.trans (Only.drew (Only.refl _ _)) ho4)).2;obtain ⟨y,rfl⟩:=Int.eq_ofNat_of_zero_le hy1;have hy3:y<8:=(by omega))
  all_goals
   have hov4:=HS3.out.1.stay ((Only.drew (Only.refl _ _)).trans ho4) (fun k hk e=>by omega)
   have HF:Hid _:=HPUT.out w4 i _ hov4 hd4 (HS3.out.2.2.trans ((Only.drew (Only.refl _ _)).trans ho4)) (xor8O zi (IntKind.u8.wrap (2 ^ y))) hg1
   clear hov4 hd4 ho4 HPUT HS3 HCI HD
   go_wp2
   go_ret
   obtain ⟨a',c',ls,e1,e2⟩:=HF.out
   exact ⟨a',c',ls,congrArg Ending.returned e1,e2⟩
 ·go_wp2_with fail
  refine (HS3.out.2.1.below 5 (by omega) (by omega)).mono ?_
  rintro e w4 ⟨⟨z,hz1,hz2,rfl⟩,hd4,ho4⟩
  have hov:=HS3.out.1.stay ho4 (fun k hk e=>by omega)
  obtain ⟨ci,fi,hg1,hg2⟩:=hov.cellB 0 (by omega)
  have HF:Hid _:=HPUT.out w4 0 z hov hd4 (HS3.out.2.2.trans ho4) ⟨hz1,by omega⟩ hg1
  have hw8:IntKind.u8.wrap z=z:=IntWalk.u8_in _ (by omega)
  have hl0:(0:Int)<(zs.length:Int):=by omega
  clear hov hd4 ho4 HPUT HS3
  go_wp2
  go_ret
  obtain ⟨a',c',ls,e1,e2⟩:=HF.out
  exact ⟨a',c',ls,congrArg Ending.returned e1,e2⟩
end Go.Proofs.YtfeokafkhnbdiaaGreatDoor
namespace Go.Proofs.YtfeokafkhnbdiaaGreatDoor
open Go.ChangeShapes Go.WideShapes Go.ChangeAt Go.RowKit Go.Joins
set_option linter.unusedVariables false
theorem Tryz.own :ownKnob Tryz.prog.godebug=none:=by kernel_rfl
theorem Tryz.laidOut :laidOutB Tryz.prog=true:=by kernel_rfl
theorem byt_of_trod {H:Type} {enc:TypeId × Value→H} {W:World} {fuel:Nat} {v:Value} {y:DataW H × List MemPlace}
  (h:DataW.trod enc Tryz.prog W 0 (fun _=>true) true fuel 22 [v]=some y) :
  ∃ (a:Option Addr) (zs:List Int) (cap:Nat),v=.slice a zs.length cap∧Byt W a zs∧zs.length≤maxLen:=by
 rcases open_ints Tryz.underlying22 Tryz.underlying5 (by kernel_rfl) h with ⟨hcs,_⟩ | ⟨x,l,c,zs,hcs,_,hl,hm,hz,_,hcell,hwz⟩
 ·simp at hcs
  subst hcs
  exact ⟨.none,[],0,rfl,⟨by simp,by simp⟩,by simp [maxLen]⟩
 ·simp at hcs
  subst hcs
  simp only [if_true] at hz
  have hlen:(zs.take l).length=l:=by rw [List.length_take];omega
  refine ⟨some x,zs.take l,c,by rw [hlen],⟨?_,?_⟩,by rw [hlen];omega⟩
  ·intro z hz'
   have:=hwz z (List.mem_of_mem_take hz')
   simp [Lit.wf] at this
   exact bounds_u8 (hwz z (List.mem_of_mem_take hz'))
  ·intro hp
   rw [hlen] at hp
   obtain ⟨b,off,spot⟩:=x
   have hc:=hcell 0 (by omega)
   have hspot:spot=.none:=by simpa [Addr.add] using World.cell?_spot hc
   subst hspot
   refine ⟨b,off,rfl,?_,fun i hi=>?_⟩
   ·have:=World.block_lt_of_cell? _ _ hc
    simpa [Addr.add] using this
   ·rw [hlen] at hi
    have:=hcell i (by omega)
    have hadd:(⟨b,off,.none⟩:Addr).add i=⟨b,off+i,.none⟩:=by unfold Addr.add;split <;> simp_all
    rw [hadd] at this
    rw [show (zs.take l).getD i 0=zs.getD i 0 from by simp [hi]]
    exact this
theorem Tryz.cellsES :Tryz.prog.cellsOf 272=1:=by kernel_rfl
theorem Tryz.cellsStr :Tryz.prog.cellsOf 9=1:=by kernel_rfl
theorem Tryz.star : "*" ++ "errors.errorString" = "*errors.errorString" := by decide
theorem Tryz.rowES (u : TypeId) (h : Tryz.prog.typeName? 3 u = some "*errors.errorString") : u = 246 :=
 typeName_ptr_named (nm := "errors.errorString") (by rw [Tryz.star]; kernel_rfl) (by kernel_rfl) (by decide) u (by rw [Tryz.star]; exact h)
theorem sentinel {n : String} {text : List UInt8} {r : List (String × DataW Unit)} {W : World} {g : Nat} (h : laidMet Tryz.prog ((n, .iface "*errors.errorString" (.ptr (.agg [.lit (.string text)]))) :: r) W)
  (hg:Tryz.prog.globalNamed n=some g) (ht:(Tryz.prog.globals[g]?).map (·.type)=some 70) :
  ∃ a:Addr,W.var? Tryz.prog n=some #[.iface 246 (.pointer (some a))]∧W.cell? ⟨g,0,.none⟩=some (.iface 246 (.pointer (some a))):=by
 obtain ⟨a0,s0,hv0,hc0,hs0,hz0⟩:=laid_sentinel h hg ht Tryz.underlying70 Tryz.rowES Tryz.underlying246 Tryz.underlying272 rfl rfl Tryz.underlying9 Tryz.cellsES Tryz.cellsStr
 exact ⟨a0,hv0,by simpa using World.var?_cell hg hv0 0⟩
theorem vars_nil {H:Type} (enc:TypeId × Value→H) {P:Program} {W:World} (sp:Nat→Bool):DataW.TrodVars enc P W sp [] [] []:=rfl
theorem vars_consC {H:Type} (enc:TypeId × Value→H) {P:Program} {W:World} {n:String} {g:Nat} {t:TypeId} {ms:Array (String × TypeId)} {x:Value} {ns:List String} {ds:List (DataW H)} {ps:List MemPlace} {sp:Nat→Bool}
  (hg:P.globalNamed n=some g) (ht:(P.globals[g]?).map (·.type)=some t) (hi:P.underlying t=some (.interface ms)) (h:W.var? P n=some #[x]) (ix:IsIface x) (hr:DataW.TrodVars enc P W sp ns ds ps) :
  DataW.TrodVars enc P W sp (n :: ns) (tok enc x :: ds) (.cell g 0 :: ps):=⟨g,t,#[x],1,[],ps,hg,ht,h,trod_held hi ix 0,hr,rfl⟩
end Go.Proofs.YtfeokafkhnbdiaaGreatDoor
