/- Lemmas on the way. -/
import Derived.Test.YtfeokafkhnbdiaaGreatDoorDrSqB
import Derived.Test.YtfeokafkhnbdiaaGreatDoorDrC
import Derived.Test.YtfeokafkhnbdiaaGreatDoorSeal1
import Derived.Test.YtfeokafkhnbdiaaGreatDoorEnF
import Derived.Test.YtfeokafkhnbdiaaGreatDoorRows
import Derived.Test.YtfeokafkhnbdiaaGreatDoorPcB
import Derived.WalkKit
import Derived.ProofKit
import Derived.OpenShut
import Derived.ShutString
import Derived.ChangeOld
import Derived.Below
import Derived.Lib.SmallJoins
import Derived.Test.YtfeokafkhnbdiaaGreatDoorCards
import Derived.Test.YtfeokafkhnbdiaaGreatDoorTie
import Derived.LaidMore
import Derived.Stop.Joined
import Derived.Stop.LaidErr
import Derived.WalkSmall
import Derived.SevenTiedAt
set_option maxRecDepth 20000
set_option maxHeartbeats 16000000
namespace Go.Proofs.YtfeokafkhnbdiaaGreatDoor
open Go.RowKit
set_option linter.unusedVariables false
set_option linter.unusedSimpArgs false
theorem OVI.owSy {w:World} {B g n c:Nat} {zs:List Int} (hl:zs.length=n) (h:OVI w B (.slice (some ⟨g,0,none⟩) n c) zs):OwI w B g c zs:=by
 subst hl
 exact ⟨h.1,h.2⟩
structure UyS (w W:World) (C X:Nat) (sa:Option Addr) (n sc:Nat) (ts:List Int) (xa:Option Addr) (xc:Nat) (zs:List Int) (N:Int) (a:Option Addr) (bs:List Int) (cap:Nat):Prop where
 len:ts.length=n
 nums:OVI W C (.slice sa n sc) ts
 hX:W.heap[X]?=some (.cells #[.slice xa zs.length xc,.int .i64 N] 40 (0,0))
 own:OwnV W C (.slice xa zs.length xc) zs
 hCX:C≤X
 hR:w.heap.size+1<C
 dr:Dr (w.alloc (Obj.cells #[.slice none 0 0,.int .i64 0] 40)) W (w.heap.size+1) (w.heap.size+1) a bs cap
section
variable {w W W' : World} {C X : Nat} {sa : Option Addr} {n sc : Nat} {ts : List Int} {xa : Option Addr} {xc : Nat} {zs : List Int} {N : Int} {a : Option Addr} {bs : List Int} {cap : Nat}
theorem UyS.ltX (h:UyS w W C X sa n sc ts xa xc zs N a bs cap):X<W.heap.size:=(Array.getElem?_eq_some_iff.1 h.hX).1
theorem UyS.cur (h:UyS w W C X sa n sc ts xa xc zs N a bs cap) (hd:Dr (w.alloc (Obj.cells #[.slice none 0 0,.int .i64 0] 40)) W' (w.heap.size+1) (w.heap.size+1) a bs cap) (ho:Only (fun k=>k=w.heap.size+1) W W'):UyS w W' C X sa n sc ts xa xc zs N a bs cap:=by
 have h1:=h.hR
 have h2:=h.hCX
 exact ⟨h.len,h.nums.only ho (fun k hk=>by omega),(ho.block X h.ltX (by omega)).trans h.hX,ownV_weakS h.own ho (fun k hk=>by omega) nl,h.hCX,h.hR,hd⟩
theorem UyS.bel (h:UyS w W C X sa n sc ts xa xc zs N a bs cap):Below w.heap.size w W:=((Below.refl _ _).alloc nl _).trans (h.dr.bel.mono (by omega))
theorem UyS.hP (h:UyS w W C X sa n sc ts xa xc zs N a bs cap):W.heap[w.heap.size]?=some (.cells #[.slice none 0 0,.int .i64 0] 40 (0,0)):=(h.dr.bel.block w.heap.size (by simp)).trans (heap_alloc_new w _)
theorem UyS.fin (h:UyS w W C X sa n sc ts xa xc zs N a bs cap) (x y:Value):AnsY w (((W.setCell ⟨w.heap.size,0,none⟩ x).setCell ⟨w.heap.size,1,none⟩ y).drew) sa sc xa xc ts zs:=by
 have h1:=h.nums
 rw [←h.len] at h1
 exact ansY_fin h1 h.own h.bel (by have:=h.hR;omega)
theorem UyS.blk (h:UyS w W C X sa n sc ts xa xc zs N a bs cap) {k:Nat} (hk:(Value.slice sa n sc).ownBlock=some k):C≤k:=h.nums.blk hk
theorem UyS.nums' (h:UyS w W C X sa n sc ts xa xc zs N a bs cap) {sa':Option Addr} {n' sc':Nat} {ts':List Int} (hl:ts'.length=n') (hv:OVI W' C (.slice sa' n' sc') ts') (ho:Only (fun k=>(Value.slice sa n sc).ownBlock=some k) W W'):UyS w W' C X sa' n' sc' ts' xa xc zs N a bs cap:=by
 have h1:=h.hR
 have hX:=h.nums.blk_ne h.hX (by decide)
 refine ⟨hl,hv,(ho.block X h.ltX (fun e=>hX e.symm)).trans h.hX,⟨⟨h.own.1.1,?_⟩,h.own.2⟩,h.hCX,h.hR,h.dr.other ho (fun e=>by have:=h.blk e;omega) (fun k hk=>by have:=h.blk hk;omega)⟩
 rcases h.own.1.2 with h' | ⟨g,cap,cur',h',hgg,hh,r⟩
 ·exact .inl h'
 ·exact .inr ⟨g,cap,cur',h',hgg,(ho.block g (Array.getElem?_eq_some_iff.1 hh).1 (fun e=>h.nums.blk_ne hh (by decide) e.symm)).trans hh,r⟩
end
theorem drawUnsymbols_any (a:Option Addr) (bs:List Int) (cap:Nat) (w:World) (hb:Byt w a bs) (hl:bs.length≤maxLen) :
  Calls Tryz.prog 23 #[.slice a bs.length cap] w fun e w'=>∃ (sa:Option Addr) (sc:Nat) (ts:List Int) (xa:Option Addr) (xc:Nat) (zs:List Int) (N:Int),e=.returned (.tuple #[.slice sa ts.length sc,.agg #[.slice xa zs.length xc,.int .i64 N]])∧AnsY w w' sa sc xa xc ts zs∧ts.length≤400∧zs.length≤700:=by
 obtain ⟨i0,hi,hz0,hz1,hz2⟩:=info_parts Tryz.infoI64
 have hwA:Below w.heap.size w (w.alloc (Obj.cells #[.slice none 0 0,.int .i64 0] 40)):=bAw
 have HN:=l1New_any a bs cap (w.alloc (Obj.cells #[.slice none 0 0,.int .i64 0] 40)) (hb.below hwA nl) hl
 rw [World.size_alloc] at HN
 clear hwA
 go_enter Tryz.func23,Tryz.ntmps23
 go_wp2_with fail
 refine HN.mono ?_
 clear HN
 rintro e w1 ⟨rfl,hd1⟩
 have HD1:Hid (Dr (w.alloc (Obj.cells #[.slice none 0 0,.int .i64 0] 40)) w1 (w.heap.size+1) (w.heap.size+1) a bs cap∧w.heap.size+1<w1.heap.size):=⟨hd1,hd1.cur.lt.2⟩
 clear hd1
 go_wp2_with fail
 refine HD1.out.1.draw4.mono ?_
 rintro e w2 ⟨a2,c2,ss,ys,rfl,hyl,hct,hsd,-,-,hd2,ho2⟩
 have hsn:(sqn ss).isSome=true:=by rw [found_sqn hyl hct];rfl
 have HSY:=l5symbols_any a2 c2 ss w2 hsd.sqs (SyOk.of hsn)
 have HLB:Hid ((syOf ss).1.length≤200∧(syOf ss).2.1≤1000):=by
  obtain ⟨g1,g2,g3⟩:=sqn_lets hsn
  have g4:=syOf_len g3 ss.length nl
  rw [List.take_length] at g4
  exact ⟨by omega,by omega⟩
 have HD2:Hid (Dr (w.alloc (Obj.cells #[.slice none 0 0,.int .i64 0] 40)) w2 (w.heap.size+1) (w.heap.size+1) a bs cap∧w.heap.size+1<w2.heap.size):=⟨hd2,hd2.cur.lt.2⟩
 clear hyl hct hsd hd2 ho2 hsn HD1
 generalize syOf ss=st at *
 obtain ⟨ts,n,V⟩:=st
 simp only at HSY HLB
 go_wp2_with fail
 refine HSY.mono ?_
 clear HSY
 rintro e w3 ⟨⟨sa,sc,v,rfl,hov,hv,hV⟩,hb3⟩
 obtain ⟨xa,xc,rfl,-⟩:=hv.mine
 have HS3:Hid (UyS w (w3.alloc (Obj.cells #[.slice xa (enc n V).length xc,.int .i64 (n:Nat)] 40)) w2.heap.size w3.heap.size sa ts.length sc ts xa xc (enc n V) (n:Nat) a bs cap∧V<2 ^ n):=by
  have hA:Below w3.heap.size w3 (w3.alloc (Obj.cells #[.slice xa (enc n V).length xc,.int .i64 (n:Nat)] 40)):=bAw
  have hbb:=hb3.trans (hA.mono hb3.size)
  exact ⟨⟨rfl,hov.below hA,heap_alloc_new w3 _,hv.stayP hA,hb3.size,HD2.out.2,HD2.out.1.other (Only.ofBelow (S:=fun _=>False) hbb nl) (by simp) (by simp)⟩,hV⟩
 have hel:(enc n V).length≤700:=by rw [enc_len];have:=HLB.out.2;omega
 have HEL:Hid ((enc n V).length≤700):=hel
 have hnl:=HLB.out
 clear hov hv hV hb3 HD2 hel
 generalize hln:ts.length=ln at *
 have HTL:Hid (ts.length=ln):=hln
 clear hln
 go_wp2_with fail
 generalize (w3.alloc (Obj.cells #[.slice xa (enc n V).length xc,.int .i64 (n:Nat)] 40))=W3 at *
 generalize w2.heap.size=C at *
 generalize w3.heap.size=X at *
 refine (HS3.out.1.dr.once 3 (by omega) (by omega)).mono ?_
 rintro e w4 ⟨⟨bb,rfl⟩,hd4,ho4⟩
 have HS4:Hid (UyS w w4 C X sa ln sc ts xa xc (enc n V) (n:Nat) a bs cap∧V<2 ^ n):=⟨HS3.out.1.cur hd4 ho4,HS3.out.2⟩
 clear hd4 ho4 HS3
 cases bb with
 | false=>
  have HF:=HS4.out.1
  have hXP4:w.heap.size<X:=(by have:=HF.hCX;have:=HF.hR;omega)
  have X0:w4.cell? ⟨X,0,none⟩=some (.slice xa (enc n V).length xc):=cellC (j:=0) HF.hX rfl
  have X1:w4.cell? ⟨X,1,none⟩=some (.int .i64 (n:Nat)):=cellC (j:=1) HF.hX rfl
  have P0:w4.cell? ⟨w.heap.size,0,none⟩=some (.slice none 0 0):=cellC (j:=0) HF.hP rfl
  have P1:w4.cell? ⟨w.heap.size,1,none⟩=some (.int .i64 0):=cellC (j:=1) HF.hP rfl
  have Q0:w4.frozen? ⟨w.heap.size,0,none⟩=false:=frozen_of_row w4 _ 0 _ _ HF.hP
  have Q1:w4.frozen? ⟨w.heap.size,1,none⟩=false:=frozen_of_row w4 _ 1 _ _ HF.hP
  have HFIN:Hid (AnsY w (((w4.setCell ⟨w.heap.size,0,none⟩ (.slice xa (enc n V).length xc)).setCell ⟨w.heap.size,1,none⟩ (.int .i64 (n:Nat))).drew) sa sc xa xc ts (enc n V)∧ts.length=ln∧(enc n V).length≤700):=⟨HF.fin _ _,HF.len,HEL.out⟩
  clear HF
  go_wp2
  go_region
  all_goals go_wp2
  all_goals exact bodyPost_ret (v:=.tuple #[.slice sa ln sc,.agg #[.slice xa (enc n V).length xc,.int .i64 (n:Nat)]]) (by simp [results,Tryz.results23,go_sem,P0,P1]) rfl ⟨sa,sc,ts,xa,xc,(enc n V),(n:Nat),by rw [HFIN.out.2.1],HFIN.out.1,by have:=HFIN.out.2.1;omega,HFIN.out.2.2⟩
 | true=>
  go_wp2_with fail
  refine (HS4.out.1.dr.below 4 (by omega) (by omega)).mono ?_
  rintro e w5 ⟨⟨y,hy1,hy2,rfl⟩,hd5,ho5⟩
  have HS5:Hid (UyS w w5 C X sa ln sc ts xa xc (enc n V) (n:Nat) a bs cap∧V<2 ^ n):=⟨HS4.out.1.cur hd5 ho5,HS4.out.2⟩
  clear hd5 ho5 HS4
  have key:y=0∨y=1∨y=2∨y=3:=by omega
  clear hy1 hy2
  rcases key with rfl | rfl | rfl | rfl
  ·go_wp2_with fail
   refine (HS5.out.1.dr.below 42 (by omega) (by omega)).mono ?_
   rintro e w6 ⟨⟨z,hzl,hzu,rfl⟩,hd6,ho6⟩
   have HS6:Hid (UyS w w6 C X sa ln sc ts xa xc (enc n V) (n:Nat) a bs cap):=HS5.out.1.cur hd6 ho6
   have hzw:IntKind.i64.wrap (z-1)=z-1:=IntWalk.i64_in _ (by omega)
   have hu:w6.ownsRow C 3 1 (.slice sa ln sc) ln (ts.map (Value.int .i64)):=by have:=HS6.out.nums.1;rw [HTL.out] at this;exact this
   have hC6:C≤w6.heap.size:=by have:=HS6.out.ltX;have:=HS6.out.hCX;omega
   clear hd6 ho6 HS5
   go_wp2_with (at_builtin; (refine wpList_append_lies _ rfl (.tmp 23) (.tmp 27) 38 rfl C 3 i0 (.int .i64 0) 1 8 Tryz.underlying38 hi hz0 hz1 hz2 rfl (by decide) (.slice sa ln sc) ln (ts.map (Value.int .i64)) rfl (hu.alloc _) ⟨w6.heap.size,0,none⟩ 1 1 [.int .i64 (z-1)] rfl rfl (by intro j y hj;match j,hj with | 0,hj=>(simp at hj;subst hj;simp [Addr.add])) (by intro y hy;simp at hy;subst hy;rfl) (by omega) (by unfold maxLen;omega) (by omega) (by simp;omega) _ rfl ?_);intro g7 c7 w7 hown hgrow hat hlt1;have hov7:OVI w7 C (.slice (some ⟨g7,0,none⟩) (ln+1) c7) (ts++[z-1]):=OVI.app HTL.out HS6.out.nums.2 (by omega) hown;have HS7:Hid (UyS w w7 C X (some ⟨g7,0,none⟩) (ln+1) c7 (ts++[z-1]) xa xc (enc n V) (n:Nat) a bs cap):=HS6.out.nums' (by simp [HTL.out]) hov7 (Only.grown ((Only.refl _ _).alloc _) hgrow (fun b hb=>.inl hb));clear hown hgrow hat hlt1 hov7 hu HS6;have HF:=HS7.out;have hXP7:w.heap.size<X:=(by have:=HF.hCX;have:=HF.hR;omega);have X0:w7.cell? ⟨X,0,none⟩=some (.slice xa (enc n V).length xc):=cellC (j:=0) HF.hX rfl;have X1:w7.cell? ⟨X,1,none⟩=some (.int .i64 (n:Nat)):=cellC (j:=1) HF.hX rfl;have P0:w7.cell? ⟨w.heap.size,0,none⟩=some (.slice none 0 0):=cellC (j:=0) HF.hP rfl;have P1:w7.cell? ⟨w.heap.size,1,none⟩=some (.int .i64 0):=cellC (j:=1) HF.hP rfl;have Q0:w7.frozen? ⟨w.heap.size,0,none⟩=false:=frozen_of_row w7 _ 0 _ _ HF.hP;have Q1:w7.frozen? ⟨w.heap.size,1,none⟩=false:=frozen_of_row w7 _ 1 _ _ HF.hP;have HFIN:Hid (AnsY w (((w7.setCell ⟨w.heap.size,0,none⟩ (.slice xa (enc n V).length xc)).setCell ⟨w.heap.size,1,none⟩ (.int .i64 (n:Nat))).drew) (some ⟨g7,0,none⟩) c7 xa xc (ts++[z-1]) (enc n V)∧(ts++[z-1]).length=(ln+1)∧(enc n V).length≤700):=⟨HF.fin _ _,HF.len,HEL.out⟩;clear HF)
   try go_wp2
   go_region
   all_goals go_wp2
   all_goals exact bodyPost_ret (v:=.tuple #[.slice (some ⟨g7,0,none⟩) (ln+1) c7,.agg #[.slice xa (enc n V).length xc,.int .i64 (n:Nat)]]) (by simp [results,Tryz.results23,go_sem,P0,P1]) rfl ⟨(some ⟨g7,0,none⟩),c7,(ts++[z-1]),xa,xc,(enc n V),(n:Nat),by rw [HFIN.out.2.1],HFIN.out.1,by have:=HFIN.out.2.1;omega,HFIN.out.2.2⟩
  ·have hsi:SI w5 C X n V:=⟨_,HS5.out.1.hX,HS5.out.1.own,HS5.out.2,HS5.out.1.hCX,by have:=HS5.out.1.ltX;have:=HS5.out.1.hCX;omega⟩
   have HPT:Calls Tryz.prog 52 #[.pointer (some ⟨X,0,none⟩),.int .i64 1,.int .i64 1] w5 fun e w'=>e=.returned (.tuple #[])∧SI w' C X (n+1) (V+1*2 ^ n)∧Below C w5 w'∧KeepT X w5 w':=SI.putK hsi 1 1 (by omega) (by decide) (by omega)
   clear hsi
   go_wp2_with fail
   refine HPT.mono ?_
   clear HPT
   rintro e w6 ⟨rfl,hsi,hb6,hk6⟩
   have HS6:Hid (∃ xa6 xc6,UyS w w6 C X sa ln sc ts xa6 xc6 (enc (n+1) (V+1*2 ^ n)) ((n+1:Nat):Int) a bs cap):=by
    obtain ⟨v6,g1,g2,g3,g4,g5⟩:=hsi
    obtain ⟨xa6,xc6,rfl,-⟩:=g2.mine
    have hh:=HS5.out.1
    have hne:=hh.nums.blk_ne hh.hX (by decide)
    exact ⟨xa6,xc6,hh.len,hh.nums.keepT hk6 (fun e=>hne e.symm),g1,g2,g4,hh.hR,hh.dr.other (below_only hb6) (by have:=hh.hR;omega) (fun k hk=>by have:=hh.hR;omega)⟩
   clear hsi hb6 hk6 HS5
   obtain ⟨xa6,xc6,HF⟩:=HS6.out
   have HEL2:Hid ((enc (n+1) (V+1*2 ^ n)).length≤700):=by rw [Hid,enc_len];omega
   clear HS6 HEL
   generalize enc (n+1) (V+1*2 ^ n)=zs6 at *
   have HEL:=HEL2
   clear HEL2
   have hXP6:w.heap.size<X:=(by have:=HF.hCX;have:=HF.hR;omega)
   have X0:w6.cell? ⟨X,0,none⟩=some (.slice xa6 zs6.length xc6):=cellC (j:=0) HF.hX rfl
   have X1:w6.cell? ⟨X,1,none⟩=some (.int .i64 ((n+1:Nat):Int)):=cellC (j:=1) HF.hX rfl
   have P0:w6.cell? ⟨w.heap.size,0,none⟩=some (.slice none 0 0):=cellC (j:=0) HF.hP rfl
   have P1:w6.cell? ⟨w.heap.size,1,none⟩=some (.int .i64 0):=cellC (j:=1) HF.hP rfl
   have Q0:w6.frozen? ⟨w.heap.size,0,none⟩=false:=frozen_of_row w6 _ 0 _ _ HF.hP
   have Q1:w6.frozen? ⟨w.heap.size,1,none⟩=false:=frozen_of_row w6 _ 1 _ _ HF.hP
   have HFIN:Hid (AnsY w (((w6.setCell ⟨w.heap.size,0,none⟩ (.slice xa6 zs6.length xc6)).setCell ⟨w.heap.size,1,none⟩ (.int .i64 ((n+1:Nat):Int))).drew) sa sc xa6 xc6 ts zs6∧ts.length=ln∧zs6.length≤700):=⟨HF.fin _ _,HF.len,HEL.out⟩
   clear HF
   go_wp2
   go_region
   all_goals go_wp2
   all_goals exact bodyPost_ret (v:=.tuple #[.slice sa ln sc,.agg #[.slice xa6 zs6.length xc6,.int .i64 ((n+1:Nat):Int)]]) (by simp [results,Tryz.results23,go_sem,P0,P1]) rfl ⟨sa,sc,ts,xa6,xc6,zs6,((n+1:Nat):Int),by rw [HFIN.out.2.1],HFIN.out.1,by have:=HFIN.out.2.1;omega,HFIN.out.2.2⟩
  ·by_cases h0:0<ln
   ·have h0I:(0:Int)<(ln:Int):=by omega
    go_wp2_with fail
    refine (HS5.out.1.dr.below (ln:Int) (by omega) (by omega)).mono ?_
    rintro e w6 ⟨⟨x,hx1,hx2,rfl⟩,hd6,ho6⟩
    obtain ⟨k,rfl⟩:=Int.eq_ofNat_of_zero_le hx1
    have hk:k<ln:=by omega
    have HS6:Hid (UyS w w6 C X sa ln sc ts xa xc (enc n V) (n:Nat) a bs cap):=HS5.out.1.cur hd6 ho6
    clear hd6 ho6 HS5 hx1
    go_wp2_with fail
    refine (HS6.out.dr.below 40 (by omega) (by omega)).mono ?_
    rintro e w7 ⟨⟨z,hz1,hz3,rfl⟩,hd7,ho7⟩
    have HS7:Hid (UyS w w7 C X sa ln sc ts xa xc (enc n V) (n:Nat) a bs cap):=HS6.out.cur hd7 ho7
    clear hd7 ho7 HS6
    obtain ⟨g,rfl⟩:∃ g,sa=some ⟨g,0,none⟩:=by
     rcases HS7.out.nums.1.2 with ⟨e,h9⟩ | ⟨g,cap',cur,e,_⟩
     ·simp only [Value.slice.injEq] at e
      omega
     ·simp only [Value.slice.injEq] at e
      exact ⟨g,e.1⟩
    have how:OwI w7 C g sc ts:=OVI.owSy HTL.out HS7.out.nums
    have ck:w7.cell? ⟨g,k,none⟩=some (.int .i64 (ts.getD k 0)):=how.cell k (by rw [HTL.out];exact hk)
    have fk:=how.frozen k
    have HS8:Hid (UyS w (w7.setCell ⟨g,k,none⟩ (.int .i64 z)) C X (some ⟨g,0,none⟩) ln sc (ts.set k z) xa xc (enc n V) (n:Nat) a bs cap):=by
     have hst:=how.store k z (by omega)
     have hv:OVI (w7.setCell ⟨g,k,none⟩ (.int .i64 z)) C (.slice (some ⟨g,0,none⟩) ln sc) (ts.set k z):=by
      have hle:(ts.set k z).length=ln:=by rw [List.length_set,HTL.out]
      rw [←hle]
      exact hst
     exact HS7.out.nums' (by rw [List.length_set,HTL.out]) hv ((Only.refl (fun b=>(Value.slice (some ⟨g,0,none⟩) ln sc).ownBlock=some b) w7).setCell (p:=⟨g,k,none⟩) (.inl rfl) _)
    have HTL2:Hid ((ts.set k z).length=ln):=by rw [Hid,List.length_set,HTL.out]
    have HF:=HS8.out
    clear how HS7 HS8
    generalize hts2:ts.set k z=ts2 at *
    clear hts2
    have HTL:=HTL2
    have hXP8:w.heap.size<X:=(by have:=HF.hCX;have:=HF.hR;omega)
    have X0:(w7.setCell ⟨g,k,none⟩ (.int .i64 z)).cell? ⟨X,0,none⟩=some (.slice xa (enc n V).length xc):=cellC (j:=0) HF.hX rfl
    have X1:(w7.setCell ⟨g,k,none⟩ (.int .i64 z)).cell? ⟨X,1,none⟩=some (.int .i64 (n:Nat)):=cellC (j:=1) HF.hX rfl
    have P0:(w7.setCell ⟨g,k,none⟩ (.int .i64 z)).cell? ⟨w.heap.size,0,none⟩=some (.slice none 0 0):=cellC (j:=0) HF.hP rfl
    have P1:(w7.setCell ⟨g,k,none⟩ (.int .i64 z)).cell? ⟨w.heap.size,1,none⟩=some (.int .i64 0):=cellC (j:=1) HF.hP rfl
    have Q0:(w7.setCell ⟨g,k,none⟩ (.int .i64 z)).frozen? ⟨w.heap.size,0,none⟩=false:=frozen_of_row (w7.setCell ⟨g,k,none⟩ (.int .i64 z)) _ 0 _ _ HF.hP
    have Q1:(w7.setCell ⟨g,k,none⟩ (.int .i64 z)).frozen? ⟨w.heap.size,1,none⟩=false:=frozen_of_row (w7.setCell ⟨g,k,none⟩ (.int .i64 z)) _ 1 _ _ HF.hP
    have HFIN:Hid (AnsY w ((((w7.setCell ⟨g,k,none⟩ (.int .i64 z)).setCell ⟨w.heap.size,0,none⟩ (.slice xa (enc n V).length xc)).setCell ⟨w.heap.size,1,none⟩ (.int .i64 (n:Nat))).drew) (some ⟨g,0,none⟩) sc xa xc ts2 (enc n V)∧ts2.length=ln∧(enc n V).length≤700):=⟨HF.fin _ _,HF.len,HEL.out⟩
    clear HF
    go_wp2
    go_region
    all_goals go_wp2
    all_goals exact bodyPost_ret (v:=.tuple #[.slice (some ⟨g,0,none⟩) ln sc,.agg #[.slice xa (enc n V).length xc,.int .i64 (n:Nat)]]) (by simp [results,Tryz.results23,go_sem,P0,P1]) rfl ⟨(some ⟨g,0,none⟩),sc,ts2,xa,xc,(enc n V),(n:Nat),by rw [HFIN.out.2.1],HFIN.out.1,by have:=HFIN.out.2.1;omega,HFIN.out.2.2⟩
   ·have h0I:¬(0:Int)<(ln:Int):=by omega
    have HF:=HS5.out.1
    clear HS5
    have hXP5:w.heap.size<X:=(by have:=HF.hCX;have:=HF.hR;omega)
    have X0:w5.cell? ⟨X,0,none⟩=some (.slice xa (enc n V).length xc):=cellC (j:=0) HF.hX rfl
    have X1:w5.cell? ⟨X,1,none⟩=some (.int .i64 (n:Nat)):=cellC (j:=1) HF.hX rfl
    have P0:w5.cell? ⟨w.heap.size,0,none⟩=some (.slice none 0 0):=cellC (j:=0) HF.hP rfl
    have P1:w5.cell? ⟨w.heap.size,1,none⟩=some (.int .i64 0):=cellC (j:=1) HF.hP rfl
    have Q0:w5.frozen? ⟨w.heap.size,0,none⟩=false:=frozen_of_row w5 _ 0 _ _ HF.hP
    have Q1:w5.frozen? ⟨w.heap.size,1,none⟩=false:=frozen_of_row w5 _ 1 _ _ HF.hP
    have HFIN:Hid (AnsY w (((w5.setCell ⟨w.heap.size,0,none⟩ (.slice xa (enc n V).length xc)).setCell ⟨w.heap.size,1,none⟩ (.int .i64 (n:Nat))).drew) sa sc xa xc ts (enc n V)∧ts.length=ln∧(enc n V).length≤700):=⟨HF.fin _ _,HF.len,HEL.out⟩
    clear HF
    go_wp2
    go_region
    all_goals go_wp2
    all_goals exact bodyPost_ret (v:=.tuple #[.slice sa ln sc,.agg #[.slice xa (enc n V).length xc,.int .i64 (n:Nat)]]) (by simp [results,Tryz.results23,go_sem,P0,P1]) rfl ⟨sa,sc,ts,xa,xc,(enc n V),(n:Nat),by rw [HFIN.out.2.1],HFIN.out.1,by have:=HFIN.out.2.1;omega,HFIN.out.2.2⟩
  ·go_wp2_with fail
   refine HS5.out.1.dr.bent.mono ?_
   rintro e w6 ⟨⟨xa6,xc6,zs6,N6,rfl,hz6,-,-,hm6⟩,hd6,ho6⟩
   have HS6:Hid (UyS w w6 C X sa ln sc ts xa xc (enc n V) (n:Nat) a bs cap∧OwnV w6 C (.slice xa6 zs6.length xc6) zs6):=⟨HS5.out.1.cur hd6 ho6,(hm6.mono (by have:=HS5.out.1.ltX;have:=HS5.out.1.hCX;omega) nl).ovb⟩
   have hXP:w.heap.size<X:=by have:=HS6.out.1.hCX;have:=HS6.out.1.hR;omega
   have x0:w6.cell? ⟨X,0,none⟩=some (.slice xa (enc n V).length xc):=cellC (j:=0) HS6.out.1.hX rfl
   have x1:w6.cell? ⟨X,1,none⟩=some (.int .i64 n):=cellC (j:=1) HS6.out.1.hX rfl
   have y0:w6.frozen? ⟨X,0,none⟩=false:=frozen_of_row w6 _ 0 _ _ HS6.out.1.hX
   have y1:w6.frozen? ⟨X,1,none⟩=false:=frozen_of_row w6 _ 1 _ _ HS6.out.1.hX
   have HS7:Hid (UyS w ((w6.setCell ⟨X,0,none⟩ (.slice xa6 zs6.length xc6)).setCell ⟨X,1,none⟩ (.int .i64 N6)) C X sa ln sc ts xa6 xc6 zs6 N6 a bs cap):=by
    obtain ⟨hh,hw⟩:=HS6.out
    have ho:Only (fun b=>b=X) w6 ((w6.setCell ⟨X,0,none⟩ (.slice xa6 zs6.length xc6)).setCell ⟨X,1,none⟩ (.int .i64 N6)):=((Only.refl (fun b=>b=X) w6).setCell (p:=⟨X,0,none⟩) (.inl rfl) _).setCell (p:=⟨X,1,none⟩) (.inl rfl) _
    have hX7:(w6.setCell ⟨X,0,none⟩ (.slice xa6 zs6.length xc6)).heap[X]?=some (.cells #[.slice xa6 zs6.length xc6,.int .i64 n] 40 (0,0)):=by
     rw [heap_setCell_same _ X 0 _ _ _ hh.hX]
     simp
    have hwne:some X≠(Value.slice xa6 zs6.length xc6).ownBlock:=OVB.blk_ne hw hh.hX (by decide)
    refine ⟨hh.len,(hh.nums.setOther hh.hX (by decide) 0 _).setOther hX7 (by decide) 1 _,?_,⟨rowStayV hw.1 ho (fun k hk e=>hwne (by rw [hk,e])),hw.2⟩,hh.hCX,hh.hR,hh.dr.other ho (by have:=hh.hR;have:=hh.hCX;omega) (fun k hk=>by have:=hh.hR;have:=hh.hCX;omega)⟩
    rw [heap_setCell_same _ X 1 _ _ _ hX7]
    simp
   have HEL2:Hid (zs6.length≤700):=by unfold Hid;omega
   have HF:=HS7.out
   clear hd6 ho6 hm6 HS5 HS6 HS7 HEL
   have HEL:=HEL2
   clear HEL2
   have hXP7:w.heap.size<X:=(by have:=HF.hCX;have:=HF.hR;omega)
   have X0:((w6.setCell ⟨X,0,none⟩ (.slice xa6 zs6.length xc6)).setCell ⟨X,1,none⟩ (.int .i64 N6)).cell? ⟨X,0,none⟩=some (.slice xa6 zs6.length xc6):=cellC (j:=0) HF.hX rfl
   have X1:((w6.setCell ⟨X,0,none⟩ (.slice xa6 zs6.length xc6)).setCell ⟨X,1,none⟩ (.int .i64 N6)).cell? ⟨X,1,none⟩=some (.int .i64 N6):=cellC (j:=1) HF.hX rfl
   have P0:((w6.setCell ⟨X,0,none⟩ (.slice xa6 zs6.length xc6)).setCell ⟨X,1,none⟩ (.int .i64 N6)).cell? ⟨w.heap.size,0,none⟩=some (.slice none 0 0):=cellC (j:=0) HF.hP rfl
   have P1:((w6.setCell ⟨X,0,none⟩ (.slice xa6 zs6.length xc6)).setCell ⟨X,1,none⟩ (.int .i64 N6)).cell? ⟨w.heap.size,1,none⟩=some (.int .i64 0):=cellC (j:=1) HF.hP rfl
   have Q0:((w6.setCell ⟨X,0,none⟩ (.slice xa6 zs6.length xc6)).setCell ⟨X,1,none⟩ (.int .i64 N6)).frozen? ⟨w.heap.size,0,none⟩=false:=frozen_of_row ((w6.setCell ⟨X,0,none⟩ (.slice xa6 zs6.length xc6)).setCell ⟨X,1,none⟩ (.int .i64 N6)) _ 0 _ _ HF.hP
   have Q1:((w6.setCell ⟨X,0,none⟩ (.slice xa6 zs6.length xc6)).setCell ⟨X,1,none⟩ (.int .i64 N6)).frozen? ⟨w.heap.size,1,none⟩=false:=frozen_of_row ((w6.setCell ⟨X,0,none⟩ (.slice xa6 zs6.length xc6)).setCell ⟨X,1,none⟩ (.int .i64 N6)) _ 1 _ _ HF.hP
   have HFIN:Hid (AnsY w (((((w6.setCell ⟨X,0,none⟩ (.slice xa6 zs6.length xc6)).setCell ⟨X,1,none⟩ (.int .i64 N6)).setCell ⟨w.heap.size,0,none⟩ (.slice xa6 zs6.length xc6)).setCell ⟨w.heap.size,1,none⟩ (.int .i64 N6)).drew) sa sc xa6 xc6 ts zs6∧ts.length=ln∧zs6.length≤700):=⟨HF.fin _ _,HF.len,HEL.out⟩
   clear HF
   go_wp2
   go_region
   all_goals go_wp2
   all_goals exact bodyPost_ret (v:=.tuple #[.slice sa ln sc,.agg #[.slice xa6 zs6.length xc6,.int .i64 N6]]) (by simp [results,Tryz.results23,go_sem,P0,P1]) rfl ⟨sa,sc,ts,xa6,xc6,zs6,N6,by rw [HFIN.out.2.1],HFIN.out.1,by have:=HFIN.out.2.1;omega,HFIN.out.2.2⟩
end Go.Proofs.YtfeokafkhnbdiaaGreatDoor
namespace Go.Proofs.YtfeokafkhnbdiaaGreatDoor
open Go.ChangeShapes Go.WideShapes Go.ChangeAt Go.RowKit Go.Joins
set_option linter.unusedVariables false
theorem Tryz.own :ownKnob Tryz.prog.godebug=none:=by kernel_rfl
theorem Tryz.laidOut :laidOutB Tryz.prog=true:=by kernel_rfl
theorem byt_of_trod {H:Type} {enc:TypeId × Value→H} {W:World} {fuel:Nat} {v:Value} {y:DataW H × List MemPlace}
  (h:DataW.trod enc Tryz.prog W 0 (fun _=>true) true fuel 22 [v]=some y) :
  ∃ (a:Option Addr) (zs:List Int) (cap:Nat),v=.slice a zs.length cap∧Byt W a zs∧zs.length≤maxLen:=by
 rcases open_ints Tryz.underlying22 Tryz.underlying5 (by kernel_rfl) h with ⟨hcs,_⟩ | ⟨x,l,c,zs,hcs,_,hl,hm,hz,_,hcell,hwz⟩
 ·simp at hcs
  subst hcs
  exact ⟨.none,[],0,rfl,⟨by simp,by simp⟩,by simp [maxLen]⟩
 ·simp at hcs
  subst hcs
  simp only [if_true] at hz
  have hlen:(zs.take l).length=l:=by rw [List.length_take];omega
  refine ⟨some x,zs.take l,c,by rw [hlen],⟨?_,?_⟩,by rw [hlen];omega⟩
  ·intro z hz'
   have:=hwz z (List.mem_of_mem_take hz')
   simp [Lit.wf] at this
   exact bounds_u8 (hwz z (List.mem_of_mem_take hz'))
  ·intro hp
   rw [hlen] at hp
   obtain ⟨b,off,spot⟩:=x
   have hc:=hcell 0 (by omega)
   have hspot:spot=.none:=by simpa [Addr.add] using World.cell?_spot hc
   subst hspot
   refine ⟨b,off,rfl,?_,fun i hi=>?_⟩
   ·have:=World.block_lt_of_cell? _ _ hc
    simpa [Addr.add] using this
   ·rw [hlen] at hi
    have:=hcell i (by omega)
    have hadd:(⟨b,off,.none⟩:Addr).add i=⟨b,off+i,.none⟩:=by unfold Addr.add;split <;> simp_all
    rw [hadd] at this
    rw [show (zs.take l).getD i 0=zs.getD i 0 from by simp [hi]]
    exact this
theorem Tryz.cellsES :Tryz.prog.cellsOf 272=1:=by kernel_rfl
theorem Tryz.cellsStr :Tryz.prog.cellsOf 9=1:=by kernel_rfl
theorem Tryz.star : "*" ++ "errors.errorString" = "*errors.errorString" := by decide
theorem Tryz.rowES (u : TypeId) (h : Tryz.prog.typeName? 3 u = some "*errors.errorString") : u = 246 :=
 typeName_ptr_named (nm := "errors.errorString") (by rw [Tryz.star]; kernel_rfl) (by kernel_rfl) (by decide) u (by rw [Tryz.star]; exact h)
theorem sentinel {n : String} {text : List UInt8} {r : List (String × DataW Unit)} {W : World} {g : Nat} (h : laidMet Tryz.prog ((n, .iface "*errors.errorString" (.ptr (.agg [.lit (.string text)]))) :: r) W)
  (hg:Tryz.prog.globalNamed n=some g) (ht:(Tryz.prog.globals[g]?).map (·.type)=some 70) :
  ∃ a:Addr,W.var? Tryz.prog n=some #[.iface 246 (.pointer (some a))]∧W.cell? ⟨g,0,.none⟩=some (.iface 246 (.pointer (some a))):=by
 obtain ⟨a0,s0,hv0,hc0,hs0,hz0⟩:=laid_sentinel h hg ht Tryz.underlying70 Tryz.rowES Tryz.underlying246 Tryz.underlying272 rfl rfl Tryz.underlying9 Tryz.cellsES Tryz.cellsStr
 exact ⟨a0,hv0,by simpa using World.var?_cell hg hv0 0⟩
theorem vars_nil {H:Type} (enc:TypeId × Value→H) {P:Program} {W:World} (sp:Nat→Bool):DataW.TrodVars enc P W sp [] [] []:=rfl
theorem vars_consC {H:Type} (enc:TypeId × Value→H) {P:Program} {W:World} {n:String} {g:Nat} {t:TypeId} {ms:Array (String × TypeId)} {x:Value} {ns:List String} {ds:List (DataW H)} {ps:List MemPlace} {sp:Nat→Bool}
  (hg:P.globalNamed n=some g) (ht:(P.globals[g]?).map (·.type)=some t) (hi:P.underlying t=some (.interface ms)) (h:W.var? P n=some #[x]) (ix:IsIface x) (hr:DataW.TrodVars enc P W sp ns ds ps) :
  DataW.TrodVars enc P W sp (n :: ns) (tok enc x :: ds) (.cell g 0 :: ps):=⟨g,t,#[x],1,[],ps,hg,ht,h,trod_held hi ix 0,hr,rfl⟩
end Go.Proofs.YtfeokafkhnbdiaaGreatDoor
