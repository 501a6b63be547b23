/-
  The law on drawn sequences and their symbols returns true, whatever is handed in, and writes nothing that was there.
-/
import Derived.Test.YtfeokafkhnbdiaaGreatDoorUqB
import Derived.Test.YtfeokafkhnbdiaaGreatDoorDrBy
import Derived.Test.YtfeokafkhnbdiaaGreatDoorSeal1
import Derived.Test.YtfeokafkhnbdiaaGreatDoorBCut
import Derived.Test.YtfeokafkhnbdiaaGreatDoorEkA
import Derived.Test.YtfeokafkhnbdiaaGreatDoorDrSqB
import Derived.Test.YtfeokafkhnbdiaaGreatDoorVarsC
set_option maxRecDepth 20000
set_option maxHeartbeats 16000000
namespace Go.Proofs.YtfeokafkhnbdiaaGreatDoor
open Go.RowKit
set_option linter.unusedVariables false
set_option linter.unusedSimpArgs false
theorem MinI.capY {w:World} {B U:Nat} {a:Option Addr} {c:Nat} {zs:List Int} (h:MinI w B U a c zs):zs.length≤c:=by
 rcases h with ⟨_,rfl,_⟩ | ⟨g,_,_,_,ho⟩
 ·simp
 ·rcases ho.1.2 with ⟨h1,_⟩ | ⟨g',cap,cur,h1,_,_,h4,_⟩
  ·cases h1
  ·simp only [Value.slice.injEq] at h1
   obtain ⟨-,-,rfl⟩:=h1
   exact h4
theorem sy_txt {ss:List Sq} (h:(sqn ss).isSome=true) (hb:∀ s ∈ ss,∀ z ∈ s.ls,0≤z∧z≤255):txtB (syOf ss).1 40=true∧(syOf ss).1.length≤300∧(syOf ss).2.1≤256∧(syOf ss).2.2<2 ^ (syOf ss).2.1:=by
 obtain ⟨m,hm⟩:=Option.isSome_iff_exists.1 h
 have h64:=(sqn_at hm).2.1
 have h5:=syOf_lt (SyOk.of h).nums ss.length nl
 rw [List.take_length] at h5
 unfold sqn at hm
 split at hm
 ·cases hm
 ·have hf:=syOf_few hb ss.length m nl hm
  rw [List.take_length] at hf
  refine ⟨?_,by omega,by omega,h5⟩
  simp only [txtB,decide_eq_true_eq]
  exact ⟨by omega,by omega,by omega,hf.2.2.2⟩
theorem sqs_rng {w:World} {a:Option Addr} {ss:List Sq} (h:Sqs w a ss):∀ s ∈ ss,∀ z ∈ s.ls,0≤z∧z≤255:=by
 intro s hs z hz
 obtain ⟨k,hk,rfl⟩:=List.mem_iff_getElem.1 hs
 obtain ⟨g,off,rfl,hgl,hly⟩:=h.len_pos k hk
 have h1:=(hly k hk).byt.1 z
 rw [List.getD_eq_getElem?_getD,List.getElem?_eq_getElem hk] at h1
 exact h1 hz
theorem below_dSyF {B:Nat} {a b:World} (h:Below B a b) (n:Nat):Below B a (b.drewN n):=⟨h.os,h.tape,h.output,h.size,h.block⟩
theorem drawSymbols_any (a:Option Addr) (bs:List Int) (cap:Nat) (w:World) (hb:Byt w a bs) (hl:bs.length≤maxLen) :
  Calls Tryz.prog 18 #[.slice a bs.length cap] w fun e w'=>∃ (a':Option Addr) (c:Nat) (ss:List Sq),e=.returned (.slice a' ss.length c)∧SqD w' w.heap.size (.slice a' ss.length c) ss∧Below w.heap.size w w':=by
 go_enter Tryz.func18,Tryz.ntmps18
 go_wp2_with fail
 refine (l1New_any a bs cap w hb hl).mono ?_
 rintro e w1 ⟨rfl,hd1⟩
 have HD1:Hid (Dr w w1 w.heap.size w.heap.size a bs cap):=hd1
 have hw1:=hd1.bel.size
 clear hd1
 go_wp2_with fail
 refine HD1.out.bent4.mono ?_
 rintro e w2 ⟨a2,c2,ss,rfl,hsd,hd2,ho2⟩
 have HF:Hid (SqD w2 w.heap.size (.slice a2 ss.length c2) ss∧Below w.heap.size w w2):=⟨hsd.weak hw1,hd2.bel⟩
 clear hsd hd2 ho2 HD1
 go_wp2
 go_ret
 exact ⟨a2,c2,ss,rfl,HF.out⟩
theorem lawFnSymbols_any (a:Option Addr) (cap:Nat) (bs:List Int) (w:World) (hb:Byt w a bs) (hm:bs.length≤maxLen) (hE:SentE w) (hD:SentB w) :
  Calls Tryz.prog 5 #[.slice a bs.length cap] w fun e w'=>e=.returned (.bool true)∧Below w.heap.size w w':=by
 have HBL:Hid (∀ W,Below w.heap.size w W→Calls Tryz.prog 11 #[] W fun e w'=>e=.returned (.bool true)∧Below W.heap.size W w'):=fun W hW=>blobs_any W (hE.below hW) (hD.below hW)
 have HSD:Hid (∀ W,Below w.heap.size w W→SentB W):=fun W hW=>hD.below hW
 have HBY:Hid (Byt w a bs):=hb
 clear hE hD
 go_enter Tryz.func5,Tryz.ntmps5
 go_wp2_with fail
 refine (drawSymbols_any a bs cap w hb hm).mono ?_
 rintro e w1 ⟨a1,c1,ss,rfl,hsd,hb1⟩
 have HB1:Hid (Sqs w1 a1 ss∧Below w.heap.size w w1):=⟨hsd.sqs,hb1⟩
 have hl65:=hsd.few.1
 have HL2:Hid (∀ s ∈ ss,s.ls.length≤65):=fun s hs=>(hsd.few.2 s hs).1
 have HSY:=implSymbols_any a1 c1 ss w1 HB1.out.1 (by omega) (fun s hs=>by have:=HL2.out s hs;omega)
 have HOK:Hid (∀ W,Sqs W a1 ss→Calls Tryz.prog 20 #[.slice a1 ss.length c1] W fun e w'=>e=.returned (.bool (sqn ss).isSome)∧Below W.heap.size W w'):=fun W h=>specSeqsOk_any a1 c1 ss W h (by omega) (fun s hs=>by have:=HL2.out s hs;omega)
 clear hb hsd hb1
 go_wp2_with fail
 refine HSY.mono ?_
 clear HSY
 rintro e w2 ⟨hyes,hno⟩
 cases hso:(sqn ss).isSome with
 | false=>
  obtain ⟨rfl,hb2⟩:=hno hso
  rw [hso] at HOK
  have hw2:Below w2.heap.size w2 (w2.alloc (Obj.cells #[.slice none 0 0,.int .i64 0] 40)):=bAw
  have hb12:=hb2.trans (hw2.mono hb2.size)
  have HB2:Hid (Sqs (w2.alloc (Obj.cells #[.slice none 0 0,.int .i64 0] 40)) a1 ss∧Below w.heap.size w (w2.alloc (Obj.cells #[.slice none 0 0,.int .i64 0] 40))):=⟨HB1.out.1.below hb12 nl,HB1.out.2.trans (hb12.mono HB1.out.2.size)⟩
  have HC:=HOK.out _ HB2.out.1
  clear hyes hno hb2 hw2 hb12 HB1 HOK hso
  go_wp2_with fail
  refine HC.mono ?_
  clear HC
  rintro e w3 ⟨rfl,hb3⟩
  have HB:Hid (Below w.heap.size w w3):=HB2.out.2.trans (hb3.mono HB2.out.2.size)
  clear hb3 HB2 HL2 hl65
  generalize w2.heap.size=X1 at *
  clear w2
  have HC:=drawUnsymbols_any a bs cap w3 (HBY.out.below HB.out nl) hm
  go_wp2_with fail
  refine HC.mono ?_
  clear HC
  rintro e w7 ⟨ta,tc,us,ya,yc,ys,N,rfl,hA,hl1,hl2⟩
  have HB7:Hid (Below w.heap.size w (w7.alloc (Obj.cells #[.slice ya ys.length yc,.int .i64 N] 40))∧Ins (w7.alloc (Obj.cells #[.slice ya ys.length yc,.int .i64 N] 40)) ta us∧Byt (w7.alloc (Obj.cells #[.slice ya ys.length yc,.int .i64 N] 40)) ya ys∧(w7.alloc (Obj.cells #[.slice ya ys.length yc,.int .i64 N] 40)).heap[w7.heap.size]?=some (.cells #[.slice ya ys.length yc,.int .i64 N] 40 (0,0))∧us.length≤tc):=by
   have hw7:Below w7.heap.size w7 (w7.alloc (Obj.cells #[.slice ya ys.length yc,.int .i64 N] 40)):=bAw
   exact ⟨HB.out.trans ((hA.bel.trans (hw7.mono hA.bel.size)).mono HB.out.size),(hA.mi.below hw7).byt,(hA.mb.below hw7).byt,heap_alloc_new w7 _,hA.mi.capY⟩
  clear hA HB
  have y0:(w7.alloc (Obj.cells #[.slice ya ys.length yc,.int .i64 N] 40)).cell? ⟨w7.heap.size,0,none⟩=some (.slice ya ys.length yc):=cellC (j:=0) HB7.out.2.2.2.1 rfl
  have y1:(w7.alloc (Obj.cells #[.slice ya ys.length yc,.int .i64 N] 40)).cell? ⟨w7.heap.size,1,none⟩=some (.int .i64 N):=cellC (j:=1) HB7.out.2.2.2.1 rfl
  by_cases hag:∃ (n:Nat) (cs:List (List Int × Int × Int)),usArgs N us ys∧N=n∧n≤4096∧ys=enc n (val ys)∧val ys<2 ^ n∧usOk n (val ys) us cs
  ·obtain ⟨n,cs,⟨ht,hO⟩,rfl,hn1,he,hv,hok⟩:=hag
   have HUS:Hid (usOk n (val ys) us cs∧val ys<2 ^ n∧enc n (val ys)=ys):=⟨hok,hv,he.symm⟩
   have hSB:=HSD.out _ HB7.out.1
   have HC:=implUnsymbols_ok ta tc us ya yc ys n (val ys) _ HB7.out.2.1 HB7.out.2.2.1 ht hO he hn1 HB7.out.2.2.2.2 hSB.d.f.s0 hSB.d.f.s1 hSB.d.s6 hSB.d.s7 hSB.d.s8 ⟨hSB.d.f.hG.1,hSB.d.f.hG.2.1,hSB.d.hG.2.2.2.1,hSB.d.hG.2.2.2.2.1,hSB.d.hG.2.2.2.2.2⟩
   clear ht hO he hv hok hSB
   go_wp2_with fail
   generalize (w7.alloc (Obj.cells #[.slice ya ys.length yc,.int .i64 n] 40))=W7 at *
   generalize w7.heap.size=X2 at *
   refine HC.mono ?_
   clear HC y0 y1
   rintro e w8 ⟨hb8,hy8,-⟩
   obtain ⟨v8,qs,rfl,hct,hans⟩:=hy8 _ HUS.out.1
   obtain ⟨a8,c8,rfl⟩:=hans.own.form
   have HB8:Hid (Below w.heap.size w w8∧Ins w8 ta us∧Byt w8 ya ys∧w8.heap[X2]?=some (.cells #[.slice ya ys.length yc,.int .i64 n] 40 (0,0))∧Sqs w8 a8 qs):=⟨HB7.out.1.trans (hb8.mono HB7.out.1.size),HB7.out.2.1.below hb8 nl,HB7.out.2.2.1.below hb8 nl,(hb8.block X2 (Array.getElem?_eq_some_iff.1 HB7.out.2.2.2.1).1).trans HB7.out.2.2.2.1,Sqs.ofAns hans.own hans.deep hans.sml⟩
   have hql:=hans.len
   have HSE:Hid ((sqn qs).isSome=true∧syOf qs=(us,n,val ys)):=⟨HUS.out.1.2 qs hct,sy_uqF HUS.out.2.1 (by rw [hct];exact HUS.out.1.1)⟩
   have HC:=implSymbols_any a8 c8 qs w8 HB8.out.2.2.2.2 (by omega) (fun s hs=>by have:=(hans.sml s hs).2.2.2.2;omega)
   clear hb8 hy8 hct hans HB7
   go_wp2_with fail
   refine HC.mono ?_
   clear HC
   rintro e w9 ⟨hy9,-⟩
   obtain ⟨ia,ic,ja,jc,rfl,hA⟩:=hy9 HSE.out.1
   rw [HSE.out.2] at hA ⊢
   simp only at hA ⊢
   rw [HUS.out.2.2] at hA ⊢
   have HB9:Hid (Below w.heap.size w (w9.alloc (Obj.cells #[.slice ja ys.length jc,.int .i64 n] 40))∧Ins (w9.alloc (Obj.cells #[.slice ja ys.length jc,.int .i64 n] 40)) ta us∧Byt (w9.alloc (Obj.cells #[.slice ja ys.length jc,.int .i64 n] 40)) ya ys∧(w9.alloc (Obj.cells #[.slice ja ys.length jc,.int .i64 n] 40)).heap[X2]?=some (.cells #[.slice ya ys.length yc,.int .i64 n] 40 (0,0))∧Ins (w9.alloc (Obj.cells #[.slice ja ys.length jc,.int .i64 n] 40)) ia us∧Byt (w9.alloc (Obj.cells #[.slice ja ys.length jc,.int .i64 n] 40)) ja ys∧(w9.alloc (Obj.cells #[.slice ja ys.length jc,.int .i64 n] 40)).heap[w9.heap.size]?=some (.cells #[.slice ja ys.length jc,.int .i64 n] 40 (0,0))):=by
    have hw9:Below w9.heap.size w9 (w9.alloc (Obj.cells #[.slice ja ys.length jc,.int .i64 n] 40)):=bAw
    have hb89:=hA.bel.trans (hw9.mono hA.bel.size)
    exact ⟨HB8.out.1.trans (hb89.mono HB8.out.1.size),HB8.out.2.1.below hb89 nl,HB8.out.2.2.1.below hb89 nl,(hb89.block X2 (Array.getElem?_eq_some_iff.1 HB8.out.2.2.2.1).1).trans HB8.out.2.2.2.1,(hA.mi.below hw9).byt,(hA.mb.below hw9).byt,heap_alloc_new w9 _⟩
   clear hA hy9 HSE HB8
   have HC:=sameInts_yes ia ta ic tc us _ HB9.out.2.2.2.2.1 HB9.out.2.1 (by omega)
   go_wp2_with fail
   generalize (w9.alloc (Obj.cells #[.slice ja ys.length jc,.int .i64 n] 40))=W9 at *
   generalize w9.heap.size=X3 at *
   refine HC.mono ?_
   clear HC
   rintro e w10 ⟨rfl,n10,hw10⟩
   have hX2:w10.heap[X2]?=some (.cells #[.slice ya ys.length yc,.int .i64 n] 40 (0,0)):=by rw [hw10];exact HB9.out.2.2.2.1
   have hX3:w10.heap[X3]?=some (.cells #[.slice ja ys.length jc,.int .i64 n] 40 (0,0)):=by rw [hw10];exact HB9.out.2.2.2.2.2.2
   have y0:w10.cell? ⟨X2,0,none⟩=some (.slice ya ys.length yc):=cellC (j:=0) hX2 rfl
   have y1:w10.cell? ⟨X2,1,none⟩=some (.int .i64 n):=cellC (j:=1) hX2 rfl
   have z0:w10.cell? ⟨X3,0,none⟩=some (.slice ja ys.length jc):=cellC (j:=0) hX3 rfl
   have z1:w10.cell? ⟨X3,1,none⟩=some (.int .i64 n):=cellC (j:=1) hX3 rfl
   have HB10:Hid (Below w.heap.size w w10∧Byt w10 ya ys∧Byt w10 ja ys):=by rw [hw10];exact ⟨below_dSyF HB9.out.1 n10,HB9.out.2.2.1.drewN n10,HB9.out.2.2.2.2.2.1.drewN n10⟩
   clear hw10 hX2 hX3 HB9
   have HC:=sameBits_yes ya ja yc jc ys n w10 HB10.out.2.1 HB10.out.2.2
   go_wp2_with fail
   refine HC.mono ?_
   clear HC y0 y1 z0 z1
   rintro e w11 ⟨rfl,hb11⟩
   have HB11:Hid (Below w.heap.size w w11):=HB10.out.1.trans (hb11.mono HB10.out.1.size)
   clear hb11 HB10
   have HC:=HBL.out w11 HB11.out
   go_wp2_with fail
   refine HC.mono ?_
   clear HC HBL
   rintro e w12 ⟨rfl,hb12⟩
   have HB12:Hid (Below w.heap.size w w12):=HB11.out.trans (hb12.mono HB11.out.size)
   clear hb12 HB11
   go_wp2
   go_ret
   exact ⟨rfl,HB12.out⟩
  ·have HC:Calls Tryz.prog 21 #[.slice ta us.length tc,.agg #[.slice ya ys.length yc,.int .i64 N]] (w7.alloc (Obj.cells #[.slice ya ys.length yc,.int .i64 N] 40)) fun e w'=>e=.returned (.tuple #[.slice none 0 0,.bool false])∧Below (w7.alloc (Obj.cells #[.slice ya ys.length yc,.int .i64 N] 40)).heap.size (w7.alloc (Obj.cells #[.slice ya ys.length yc,.int .i64 N] 40)) w':=by
    by_cases hus:usArgs N us ys
    ·obtain ⟨n,rfl,hn1,he,hv⟩:=okB_enc hus.2 HB7.out.2.2.1.1
     have hSB:=HSD.out _ HB7.out.1
     refine (implUnsymbols_ok ta tc us ya yc ys n (val ys) _ HB7.out.2.1 HB7.out.2.2.1 hus.1 hus.2 he hn1 HB7.out.2.2.2.2 hSB.d.f.s0 hSB.d.f.s1 hSB.d.s6 hSB.d.s7 hSB.d.s8 ⟨hSB.d.f.hG.1,hSB.d.f.hG.2.1,hSB.d.hG.2.2.2.1,hSB.d.hG.2.2.2.2.1,hSB.d.hG.2.2.2.2.2⟩).mono ?_
     rintro e w' ⟨hb',-,hno'⟩
     exact ⟨hno' (fun cs hc=>hag ⟨n,cs,hus,rfl,hn1,he,hv,hc⟩),hb'⟩
    ·exact implUnsymbols_no ta tc us ya yc ys N _ HB7.out.2.1 HB7.out.2.2.1 (by omega) (by omega) hus
   clear hag
   go_wp2_with fail
   generalize (w7.alloc (Obj.cells #[.slice ya ys.length yc,.int .i64 N] 40))=W7 at *
   generalize w7.heap.size=X2 at *
   refine HC.mono ?_
   clear HC y0 y1
   rintro e w8 ⟨rfl,hb8⟩
   have HB8:Hid (Below w.heap.size w w8):=HB7.out.1.trans (hb8.mono HB7.out.1.size)
   clear hb8 HB7
   have HC:=HBL.out w8 HB8.out
   go_wp2_with fail
   refine HC.mono ?_
   clear HC HBL
   rintro e w9 ⟨rfl,hb9⟩
   have HB9:Hid (Below w.heap.size w w9):=HB8.out.trans (hb9.mono HB8.out.size)
   clear hb9 HB8
   go_wp2
   go_ret
   exact ⟨rfl,HB9.out⟩
 | true=>
  obtain ⟨sa,sc,va,vc,rfl,hA⟩:=hyes hso
  have hrg:=sqs_rng HB1.out.1
  obtain ⟨ht,hl3,hn4,hV⟩:=sy_txt hso hrg
  have hu:=uqF_sy hso hrg
  have HCT:Hid (∀ rs:List Sq,rs.map Sq.ct=ss.map Sq.ct→(sqn rs).isSome=true):=fun rs hr=>by rw [sqn_ct hr];exact hso
  have HUO:Hid (usOk (syOf ss).2.1 (syOf ss).2.2 (syOf ss).1 (ss.map Sq.ct)):=⟨hu,HCT.out⟩
  rw [hso] at HOK
  have hcap:=hA.mi.capY
  have HTX:Hid (txtB (syOf ss).1 40=true∧okB ((syOf ss).2.1:Int) (enc (syOf ss).2.1 (syOf ss).2.2)=true∧(syOf ss).1.length≤sc):=⟨ht,okB_encB _ _ (by omega) hV,hcap⟩
  have HZL:Hid ((enc (syOf ss).2.1 (syOf ss).2.2).length≤700):=by rw [Hid,enc_len];omega
  have HN4:Hid ((syOf ss).2.1≤256):=hn4
  clear hyes hno hrg ht hV hu hcap
  generalize syOf ss=st at *
  obtain ⟨ts,n,V⟩:=st
  simp only at *
  have HB2:Hid (Sqs (w2.alloc (Obj.cells #[.slice va (enc n V).length vc,.int .i64 n] 40)) a1 ss∧Below w.heap.size w (w2.alloc (Obj.cells #[.slice va (enc n V).length vc,.int .i64 n] 40))∧Ins (w2.alloc (Obj.cells #[.slice va (enc n V).length vc,.int .i64 n] 40)) sa ts∧Byt (w2.alloc (Obj.cells #[.slice va (enc n V).length vc,.int .i64 n] 40)) va (enc n V)∧(w2.alloc (Obj.cells #[.slice va (enc n V).length vc,.int .i64 n] 40)).heap[w2.heap.size]?=some (.cells #[.slice va (enc n V).length vc,.int .i64 n] 40 (0,0))):=by
   have hw2:Below w2.heap.size w2 (w2.alloc (Obj.cells #[.slice va (enc n V).length vc,.int .i64 n] 40)):=bAw
   have hb12:=hA.bel.trans (hw2.mono hA.bel.size)
   exact ⟨HB1.out.1.below hb12 nl,HB1.out.2.trans (hb12.mono HB1.out.2.size),(hA.mi.below hw2).byt,(hA.mb.below hw2).byt,heap_alloc_new w2 _⟩
  have HC:=HOK.out _ HB2.out.1
  clear hA HB1 HOK hso
  go_wp2_with fail
  generalize (w2.alloc (Obj.cells #[.slice va (enc n V).length vc,.int .i64 n] 40))=W2 at *
  generalize w2.heap.size=X1 at *
  refine HC.mono ?_
  clear HC
  rintro e w3 ⟨rfl,hb3⟩
  have hX3:w3.heap[X1]?=some (.cells #[.slice va (enc n V).length vc,.int .i64 n] 40 (0,0)):=(hb3.block X1 (Array.getElem?_eq_some_iff.1 HB2.out.2.2.2.2).1).trans HB2.out.2.2.2.2
  have x0:w3.cell? ⟨X1,0,none⟩=some (.slice va (enc n V).length vc):=cellC (j:=0) hX3 rfl
  have x1:w3.cell? ⟨X1,1,none⟩=some (.int .i64 n):=cellC (j:=1) hX3 rfl
  have HB3:Hid (Sqs w3 a1 ss∧Below w.heap.size w w3∧Ins w3 sa ts∧Byt w3 va (enc n V)):=⟨HB2.out.1.below hb3 nl,HB2.out.2.1.trans (hb3.mono HB2.out.2.1.size),HB2.out.2.2.1.below hb3 nl,HB2.out.2.2.2.1.below hb3 nl⟩
  have hSB:=HSD.out w3 HB3.out.2.1
  have HC:=implUnsymbols_ok sa sc ts va vc (enc n V) n V w3 HB3.out.2.2.1 HB3.out.2.2.2 HTX.out.1 HTX.out.2.1 rfl (by omega) HTX.out.2.2 hSB.d.f.s0 hSB.d.f.s1 hSB.d.s6 hSB.d.s7 hSB.d.s8 ⟨hSB.d.f.hG.1,hSB.d.f.hG.2.1,hSB.d.hG.2.2.2.1,hSB.d.hG.2.2.2.2.1,hSB.d.hG.2.2.2.2.2⟩
  clear hb3 hX3 HB2 hSB
  go_wp2_with fail
  refine HC.mono ?_
  clear HC x0 x1
  rintro e w4 ⟨hb4,hy4,-⟩
  obtain ⟨v4,rs,rfl,hct,hans⟩:=hy4 _ HUO.out
  obtain ⟨a4,c4,rfl⟩:=hans.own.form
  have HB4:Hid (Sqs w4 a1 ss∧Below w.heap.size w w4∧Sqs w4 a4 rs):=⟨HB3.out.1.below hb4 nl,HB3.out.2.1.trans (hb4.mono HB3.out.2.1.size),Sqs.ofAns hans.own hans.deep hans.sml⟩
  have hl301:=hans.len
  have HLR:Hid (∀ s ∈ rs,s.ls.length≤300):=fun s hs=>(hans.sml s hs).2.2.2.2
  have hlen:rs.length=ss.length:=len_ct hct
  have HCE:Hid (exb rs rs.length=exb ss ss.length∧(sqn rs).isSome=true∧(sqn ss).isSome=true):=⟨by rw [hlen];exact exb_ct hct _,HCT.out rs hct,HCT.out ss rfl⟩
  clear hb4 hy4 hct hans HB3
  have HC:=specExec_any a1 c1 ss w4 HB4.out.1 (by omega) (fun s hs=>by have:=HL2.out s hs;omega)
  rw [HCE.out.2.2] at HC
  simp only [if_true] at HC
  go_wp2_with fail
  refine HC.mono ?_
  clear HC
  rintro e w5 ⟨⟨v5,rfl,hov5⟩,hb5⟩
  obtain ⟨a5,c5,rfl⟩:=hov5.form
  have HB5:Hid (Byt w5 a5 (exb ss ss.length)∧Below w.heap.size w w5∧Sqs w5 a4 rs):=⟨hov5.byt,HB4.out.2.1.trans (hb5.mono HB4.out.2.1.size),HB4.out.2.2.below hb5 nl⟩
  clear hov5 hb5 HB4
  have HC:=specExec_any a4 c4 rs w5 HB5.out.2.2 (by omega) (fun s hs=>by have:=HLR.out s hs;omega)
  rw [HCE.out.2.1,HCE.out.1,hlen] at HC
  simp only [if_true] at HC
  go_wp2_with fail
  refine HC.mono ?_
  clear HC
  rintro e w6 ⟨⟨v6,rfl,hov6⟩,hb6⟩
  obtain ⟨a6,c6,rfl⟩:=hov6.form
  have HB6:Hid (Byt w6 a5 (exb ss ss.length)∧Below w.heap.size w w6∧Byt w6 a6 (exb ss ss.length)):=⟨HB5.out.1.below hb6 nl,HB5.out.2.1.trans (hb6.mono HB5.out.2.1.size),hov6.byt⟩
  clear hov6 hb6 HB5 HCE HCT HLR HL2
  generalize exb ss ss.length=es at *
  have HC:=same_yes a5 a6 c5 c6 es w6 HB6.out.1 HB6.out.2.2
  go_wp2_with fail
  refine HC.mono ?_
  clear HC
  rintro e w6' ⟨rfl,rfl⟩
  have HB:Hid (Below w.heap.size w w6'):=HB6.out.2.1
  clear HB6 HUO HTX HZL HN4
  have HC:=drawUnsymbols_any a bs cap w6' (HBY.out.below HB.out nl) hm
  go_wp2_with fail
  refine HC.mono ?_
  clear HC
  rintro e w7 ⟨ta,tc,us,ya,yc,ys,N,rfl,hA,hl1,hl2⟩
  have HB7:Hid (Below w.heap.size w (w7.alloc (Obj.cells #[.slice ya ys.length yc,.int .i64 N] 40))∧Ins (w7.alloc (Obj.cells #[.slice ya ys.length yc,.int .i64 N] 40)) ta us∧Byt (w7.alloc (Obj.cells #[.slice ya ys.length yc,.int .i64 N] 40)) ya ys∧(w7.alloc (Obj.cells #[.slice ya ys.length yc,.int .i64 N] 40)).heap[w7.heap.size]?=some (.cells #[.slice ya ys.length yc,.int .i64 N] 40 (0,0))∧us.length≤tc):=by
   have hw7:Below w7.heap.size w7 (w7.alloc (Obj.cells #[.slice ya ys.length yc,.int .i64 N] 40)):=bAw
   exact ⟨HB.out.trans ((hA.bel.trans (hw7.mono hA.bel.size)).mono HB.out.size),(hA.mi.below hw7).byt,(hA.mb.below hw7).byt,heap_alloc_new w7 _,hA.mi.capY⟩
  clear hA HB
  have y0:(w7.alloc (Obj.cells #[.slice ya ys.length yc,.int .i64 N] 40)).cell? ⟨w7.heap.size,0,none⟩=some (.slice ya ys.length yc):=cellC (j:=0) HB7.out.2.2.2.1 rfl
  have y1:(w7.alloc (Obj.cells #[.slice ya ys.length yc,.int .i64 N] 40)).cell? ⟨w7.heap.size,1,none⟩=some (.int .i64 N):=cellC (j:=1) HB7.out.2.2.2.1 rfl
  by_cases hag:∃ (n:Nat) (cs:List (List Int × Int × Int)),usArgs N us ys∧N=n∧n≤4096∧ys=enc n (val ys)∧val ys<2 ^ n∧usOk n (val ys) us cs
  ·obtain ⟨n,cs,⟨ht,hO⟩,rfl,hn1,he,hv,hok⟩:=hag
   have HUS:Hid (usOk n (val ys) us cs∧val ys<2 ^ n∧enc n (val ys)=ys):=⟨hok,hv,he.symm⟩
   have hSB:=HSD.out _ HB7.out.1
   have HC:=implUnsymbols_ok ta tc us ya yc ys n (val ys) _ HB7.out.2.1 HB7.out.2.2.1 ht hO he hn1 HB7.out.2.2.2.2 hSB.d.f.s0 hSB.d.f.s1 hSB.d.s6 hSB.d.s7 hSB.d.s8 ⟨hSB.d.f.hG.1,hSB.d.f.hG.2.1,hSB.d.hG.2.2.2.1,hSB.d.hG.2.2.2.2.1,hSB.d.hG.2.2.2.2.2⟩
   clear ht hO he hv hok hSB
   go_wp2_with fail
   generalize (w7.alloc (Obj.cells #[.slice ya ys.length yc,.int .i64 n] 40))=W7 at *
   generalize w7.heap.size=X2 at *
   refine HC.mono ?_
   clear HC y0 y1
   rintro e w8 ⟨hb8,hy8,-⟩
   obtain ⟨v8,qs,rfl,hct,hans⟩:=hy8 _ HUS.out.1
   obtain ⟨a8,c8,rfl⟩:=hans.own.form
   have HB8:Hid (Below w.heap.size w w8∧Ins w8 ta us∧Byt w8 ya ys∧w8.heap[X2]?=some (.cells #[.slice ya ys.length yc,.int .i64 n] 40 (0,0))∧Sqs w8 a8 qs):=⟨HB7.out.1.trans (hb8.mono HB7.out.1.size),HB7.out.2.1.below hb8 nl,HB7.out.2.2.1.below hb8 nl,(hb8.block X2 (Array.getElem?_eq_some_iff.1 HB7.out.2.2.2.1).1).trans HB7.out.2.2.2.1,Sqs.ofAns hans.own hans.deep hans.sml⟩
   have hql:=hans.len
   have HSE:Hid ((sqn qs).isSome=true∧syOf qs=(us,n,val ys)):=⟨HUS.out.1.2 qs hct,sy_uqF HUS.out.2.1 (by rw [hct];exact HUS.out.1.1)⟩
   have HC:=implSymbols_any a8 c8 qs w8 HB8.out.2.2.2.2 (by omega) (fun s hs=>by have:=(hans.sml s hs).2.2.2.2;omega)
   clear hb8 hy8 hct hans HB7
   go_wp2_with fail
   refine HC.mono ?_
   clear HC
   rintro e w9 ⟨hy9,-⟩
   obtain ⟨ia,ic,ja,jc,rfl,hA⟩:=hy9 HSE.out.1
   rw [HSE.out.2] at hA ⊢
   simp only at hA ⊢
   rw [HUS.out.2.2] at hA ⊢
   have HB9:Hid (Below w.heap.size w (w9.alloc (Obj.cells #[.slice ja ys.length jc,.int .i64 n] 40))∧Ins (w9.alloc (Obj.cells #[.slice ja ys.length jc,.int .i64 n] 40)) ta us∧Byt (w9.alloc (Obj.cells #[.slice ja ys.length jc,.int .i64 n] 40)) ya ys∧(w9.alloc (Obj.cells #[.slice ja ys.length jc,.int .i64 n] 40)).heap[X2]?=some (.cells #[.slice ya ys.length yc,.int .i64 n] 40 (0,0))∧Ins (w9.alloc (Obj.cells #[.slice ja ys.length jc,.int .i64 n] 40)) ia us∧Byt (w9.alloc (Obj.cells #[.slice ja ys.length jc,.int .i64 n] 40)) ja ys∧(w9.alloc (Obj.cells #[.slice ja ys.length jc,.int .i64 n] 40)).heap[w9.heap.size]?=some (.cells #[.slice ja ys.length jc,.int .i64 n] 40 (0,0))):=by
    have hw9:Below w9.heap.size w9 (w9.alloc (Obj.cells #[.slice ja ys.length jc,.int .i64 n] 40)):=bAw
    have hb89:=hA.bel.trans (hw9.mono hA.bel.size)
    exact ⟨HB8.out.1.trans (hb89.mono HB8.out.1.size),HB8.out.2.1.below hb89 nl,HB8.out.2.2.1.below hb89 nl,(hb89.block X2 (Array.getElem?_eq_some_iff.1 HB8.out.2.2.2.1).1).trans HB8.out.2.2.2.1,(hA.mi.below hw9).byt,(hA.mb.below hw9).byt,heap_alloc_new w9 _⟩
   clear hA hy9 HSE HB8
   have HC:=sameInts_yes ia ta ic tc us _ HB9.out.2.2.2.2.1 HB9.out.2.1 (by omega)
   go_wp2_with fail
   generalize (w9.alloc (Obj.cells #[.slice ja ys.length jc,.int .i64 n] 40))=W9 at *
   generalize w9.heap.size=X3 at *
   refine HC.mono ?_
   clear HC
   rintro e w10 ⟨rfl,n10,hw10⟩
   have hX2:w10.heap[X2]?=some (.cells #[.slice ya ys.length yc,.int .i64 n] 40 (0,0)):=by rw [hw10];exact HB9.out.2.2.2.1
   have hX3:w10.heap[X3]?=some (.cells #[.slice ja ys.length jc,.int .i64 n] 40 (0,0)):=by rw [hw10];exact HB9.out.2.2.2.2.2.2
   have y0:w10.cell? ⟨X2,0,none⟩=some (.slice ya ys.length yc):=cellC (j:=0) hX2 rfl
   have y1:w10.cell? ⟨X2,1,none⟩=some (.int .i64 n):=cellC (j:=1) hX2 rfl
   have z0:w10.cell? ⟨X3,0,none⟩=some (.slice ja ys.length jc):=cellC (j:=0) hX3 rfl
   have z1:w10.cell? ⟨X3,1,none⟩=some (.int .i64 n):=cellC (j:=1) hX3 rfl
   have HB10:Hid (Below w.heap.size w w10∧Byt w10 ya ys∧Byt w10 ja ys):=by rw [hw10];exact ⟨below_dSyF HB9.out.1 n10,HB9.out.2.2.1.drewN n10,HB9.out.2.2.2.2.2.1.drewN n10⟩
   clear hw10 hX2 hX3 HB9
   have HC:=sameBits_yes ya ja yc jc ys n w10 HB10.out.2.1 HB10.out.2.2
   go_wp2_with fail
   refine HC.mono ?_
   clear HC y0 y1 z0 z1
   rintro e w11 ⟨rfl,hb11⟩
   have HB11:Hid (Below w.heap.size w w11):=HB10.out.1.trans (hb11.mono HB10.out.1.size)
   clear hb11 HB10
   have HC:=HBL.out w11 HB11.out
   go_wp2_with fail
   refine HC.mono ?_
   clear HC HBL
   rintro e w12 ⟨rfl,hb12⟩
   have HB12:Hid (Below w.heap.size w w12):=HB11.out.trans (hb12.mono HB11.out.size)
   clear hb12 HB11
   go_wp2
   go_ret
   exact ⟨rfl,HB12.out⟩
  ·have HC:Calls Tryz.prog 21 #[.slice ta us.length tc,.agg #[.slice ya ys.length yc,.int .i64 N]] (w7.alloc (Obj.cells #[.slice ya ys.length yc,.int .i64 N] 40)) fun e w'=>e=.returned (.tuple #[.slice none 0 0,.bool false])∧Below (w7.alloc (Obj.cells #[.slice ya ys.length yc,.int .i64 N] 40)).heap.size (w7.alloc (Obj.cells #[.slice ya ys.length yc,.int .i64 N] 40)) w':=by
    by_cases hus:usArgs N us ys
    ·obtain ⟨n,rfl,hn1,he,hv⟩:=okB_enc hus.2 HB7.out.2.2.1.1
     have hSB:=HSD.out _ HB7.out.1
     refine (implUnsymbols_ok ta tc us ya yc ys n (val ys) _ HB7.out.2.1 HB7.out.2.2.1 hus.1 hus.2 he hn1 HB7.out.2.2.2.2 hSB.d.f.s0 hSB.d.f.s1 hSB.d.s6 hSB.d.s7 hSB.d.s8 ⟨hSB.d.f.hG.1,hSB.d.f.hG.2.1,hSB.d.hG.2.2.2.1,hSB.d.hG.2.2.2.2.1,hSB.d.hG.2.2.2.2.2⟩).mono ?_
     rintro e w' ⟨hb',-,hno'⟩
     exact ⟨hno' (fun cs hc=>hag ⟨n,cs,hus,rfl,hn1,he,hv,hc⟩),hb'⟩
    ·exact implUnsymbols_no ta tc us ya yc ys N _ HB7.out.2.1 HB7.out.2.2.1 (by omega) (by omega) hus
   clear hag
   go_wp2_with fail
   generalize (w7.alloc (Obj.cells #[.slice ya ys.length yc,.int .i64 N] 40))=W7 at *
   generalize w7.heap.size=X2 at *
   refine HC.mono ?_
   clear HC y0 y1
   rintro e w8 ⟨rfl,hb8⟩
   have HB8:Hid (Below w.heap.size w w8):=HB7.out.1.trans (hb8.mono HB7.out.1.size)
   clear hb8 HB7
   have HC:=HBL.out w8 HB8.out
   go_wp2_with fail
   refine HC.mono ?_
   clear HC HBL
   rintro e w9 ⟨rfl,hb9⟩
   have HB9:Hid (Below w.heap.size w w9):=HB8.out.trans (hb9.mono HB8.out.size)
   clear hb9 HB8
   go_wp2
   go_ret
   exact ⟨rfl,HB9.out⟩
end Go.Proofs.YtfeokafkhnbdiaaGreatDoor
