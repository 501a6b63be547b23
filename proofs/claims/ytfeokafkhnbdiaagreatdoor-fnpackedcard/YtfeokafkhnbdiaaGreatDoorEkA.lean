/- Lemmas on the way. -/
import Derived.Test.YtfeokafkhnbdiaaGreatDoorFnD
import Derived.Test.YtfeokafkhnbdiaaGreatDoorEnF
import Derived.Test.YtfeokafkhnbdiaaGreatDoorSqEq
import Derived.Test.YtfeokafkhnbdiaaGreatDoorFnI
import Derived.Test.YtfeokafkhnbdiaaGreatDoorSeal1
import Derived.Test.YtfeokafkhnbdiaaGreatDoorFp1
import Derived.Test.YtfeokafkhnbdiaaGreatDoorPcB
import Derived.Test.YtfeokafkhnbdiaaGreatDoorEnL
import Derived.Maps.AppendAt
import Derived.Test.YtfeokafkhnbdiaaGreatDoorPmA
set_option maxRecDepth 20000
set_option maxHeartbeats 16000000
namespace Go.Proofs.YtfeokafkhnbdiaaGreatDoor
open Go.RowKit
set_option linter.unusedVariables false
set_option linter.unusedSimpArgs false
def enB (mode:Nat) (zs:List Int) (m U:Nat):Nat × Nat:=if mode=2 then byL zs m U 8 zs.length else byT zs m U 8 zs.length
def syB (ys:List Int):SyT:=(found ys).foldl putC ([],0,0)
def sqB (mode:Nat) (ys:List Int):List Int:=enc ((enB mode (syB ys).1 (syB ys).2.1 (syB ys).2.2).1+1) ((enB mode (syB ys).1 (syB ys).2.1 (syB ys).2.2).2+2 ^ (enB mode (syB ys).1 (syB ys).2.1 (syB ys).2.2).1)
theorem syB_of {ys:List Int} {ss:List Sq} (h:ss.map Sq.ct=found ys):syOf ss=syB ys:=by rw [syOf_cs,h];rfl
theorem putLs_lt (ls:List Int):∀ st:SyT,st.2.2<2 ^ st.2.1→(putLs ls st).2.2<2 ^ (putLs ls st).2.1:=by
 induction ls with
 | nil=>intro st h;exact h
 | cons z l ih=>
  intro st h
  exact ih (putL st z) (put_lt _ _ 4 _ h (by have:=Int.emod_lt_of_pos z (show (0:Int)<16 by omega);omega))
theorem putN_lt (base n:Nat) (st:SyT) (h:st.2.2<2 ^ st.2.1) (h1:1≤n) (h2:n<256):(putN base n st).2.2<2 ^ (putN base n st).2.1:=by
 have hc:=cl_fact h1 h2
 refine put_lt _ _ (cl n) _ h ?_
 rw [Nat.pow_succ] at hc
 omega
theorem syOf_lt {ss:List Sq} (h:∀ j,j<ss.length→(ss.getD j dq).n=0∨(3≤(ss.getD j dq).n∧(ss.getD j dq).n≤64∧1≤(ss.getD j dq).d∧(ss.getD j dq).d≤64)) (k:Nat) (hk:k≤ss.length):(syOf (ss.take k)).2.2<2 ^ (syOf (ss.take k)).2.1:=by
 induction k with
 | zero=>simp [syOf]
 | succ k ih=>
  rw [syOf_take ss k (by omega)]
  have i:=ih (by omega)
  have hn:=h k (by omega)
  unfold putQ
  split
  ·exact putLs_lt _ _ i
  ·exact putN_lt _ _ _ (putN_lt _ _ _ (putLs_lt _ _ i) (by omega) (by omega)) (by omega) (by omega)
structure SyF (ys:List Int):Prop where
 ht:txtB (syB ys).1 40=true
 h1:1≤(syB ys).1.length
 h2:(syB ys).1.length≤64
 hm:(syB ys).2.1≤256
 hU:(syB ys).2.2<2 ^ (syB ys).2.1
theorem syF_of {ys:List Int} (hn:ys.length=64) {ss:List Sq} (h:ss.map Sq.ct=found ys) (hb:∀ s ∈ ss,∀ z ∈ s.ls,0≤z∧z≤255):(sqn ss).isSome=true∧SyF ys:=by
 obtain ⟨h0,h1,h2,h3,h4⟩:=found_syms hn h hb
 have h5:=syOf_lt (SyOk.of h0).nums ss.length nl
 rw [List.take_length] at h5
 rw [syB_of h] at h1 h2 h3 h4 h5
 exact ⟨h0,h1,h2,h3,h4,h5⟩
theorem FnA.sqs {w:World} {B:Nat} {v:Value} {cs:List (List Int × Int × Int)} (h:FnA w B v cs):∃ a c ss,v=.slice a ss.length c∧ss.map Sq.ct=cs∧Sqs w a ss∧Few4 ss∧∀ s ∈ ss,∀ z ∈ s.ls,0≤z∧z≤255:=by
 obtain ⟨ss,h1,h2,h3,h4⟩:=h
 obtain ⟨a,c,rfl⟩:=h2.form
 exact ⟨a,c,ss,rfl,h1,h2.sqs (fun s hs=>⟨h4.rng s hs,(h3.mine s hs).byt⟩),h4,fun s hs=>(h3.mine s hs).byt.1⟩
theorem enB_bnd {zs:List Int} (h:txtB zs 40=true) (h1:1≤zs.length) (h2:zs.length≤64) {m:Nat} (hm:m≤256) (mode U:Nat):(enB mode zs m U).1≤2000:=by
 unfold enB
 split
 ·have:=byL_le h h1 8 zs.length
  show (lpG (tL zs) 8 zs.length).1+hN (tL zs) zs zs.length+m≤_
  omega
 ·have:=byT_le h h1 8
  obtain ⟨hn1,hn2,hn3⟩:=tS_ok h h1
  have hf:=(fpS_ok (tT_ok h h1) (ts:=zs) (fun k hk=>by rw [hn2];exact txtB_get h k hk) zs.length nl (fun j hj=>hn3 _ (by omega))).2.1
  show nbG (tS zs) 8 40+9+m+((fpS (tT zs) zs zs.length).2.1+6)≤_
  omega
theorem putSymbols_any (R B mode:Nat) (a:Option Addr) (ca:Nat) (zs:List Int) (b:Option Addr) (cb:Nat) (ys:List Int) (m U:Nat) (w0 w:World) (hw:WI w B R 0 0) (hi:InE w0 B a zs b ys m U) (hbel:Below B w0 w) (hmo:mode=2∨mode=3) :
  Calls Tryz.prog 73 #[.pointer (some ⟨R,0,none⟩),.int .i64 mode,.slice a zs.length ca,.agg #[.slice b ys.length cb,.int .i64 m]] w fun e w'=>e=.returned .nilIface∧WI w' B R (enB mode zs m U).1 (enB mode zs m U).2∧Below B w0 w':=by
 have HI:Hid (InE w0 B a zs b ys m U):=hi
 have HWA:Hid (Below w.heap.size w (w.alloc (.cells #[.slice b ys.length cb,.int .i64 m] 40))):=bAw
 have HQ0:Hid ((w.alloc (.cells #[.slice b ys.length cb,.int .i64 m] 40)).heap[w.heap.size]?=some (.cells #[.slice b ys.length cb,.int .i64 m] 40 (0,0))):=heap_alloc_new w _
 have hRlt:R<w.heap.size:=by obtain ⟨_,h,_⟩:=hw;exact (Array.getElem?_eq_some_iff.1 h).1
 have hBw:B≤w.heap.size:=by obtain ⟨_,_,_,_,_,h⟩:=hw;exact h
 have hz2:=hi.h2
 have HW:Hid (WI (w.alloc (.cells #[.slice b ys.length cb,.int .i64 m] 40)) B R 0 0∧Below B w0 (w.alloc (.cells #[.slice b ys.length cb,.int .i64 m] 40))):=⟨hw.stay HWA.out,hbel.trans (HWA.out.mono hBw)⟩
 have hP:=HW.out.1.putPn zs.length 8 (by omega) (by omega) (by omega)
 clear hw hi hbel HWA
 go_enter Tryz.func73,Tryz.ntmps73
 go_wp2_with fail
 generalize w.alloc (.cells #[.slice b ys.length cb,.int .i64 m] 40)=WA at *
 generalize w.heap.size=Q0 at *
 refine hP.mono ?_
 clear hP
 rintro e w1 ⟨rfl,hwi,hb1,hk1⟩
 rw [Nat.zero_add,Nat.pow_zero,Nat.mul_one,Nat.zero_add] at hwi
 have hQ1:=hk1 Q0 _ _ HQ0.out (by decide) (by omega)
 have q0:w1.cell? ⟨Q0,0,none⟩=some (.slice b ys.length cb):=cellR (j:=0) hQ1 rfl
 have q1:w1.cell? ⟨Q0,1,none⟩=some (.int .i64 m):=cellR (j:=1) hQ1 rfl
 have hP2:=putByLengths_any R B 8 zs.length a ca zs b cb ys m U w0 w1 hwi HI.out (HW.out.2.trans hb1) (by omega)
 have hP3:=putByTable_any R B 8 zs.length a ca zs b cb ys m U w0 w1 hwi HI.out (HW.out.2.trans hb1) (by omega)
 clear hwi hb1 hk1 hQ1 HW HQ0
 rcases hmo with rfl | rfl
 ·clear hP3
  go_wp2_with fail
  refine hP2.mono ?_
  clear hP2
  rintro e w2 ⟨rfl,hwi2,hb2⟩
  have HF:Hid (WI w2 B R (enB 2 zs m U).1 (enB 2 zs m U).2∧Below B w0 w2):=⟨hwi2,hb2⟩
  clear hwi2 hb2 q0 q1
  go_wp2
  go_ret
  exact ⟨rfl,HF.out⟩
 ·clear hP2
  go_wp2_with fail
  refine hP3.mono ?_
  clear hP3
  rintro e w2 ⟨rfl,hwi2,hb2⟩
  have HF:Hid (WI w2 B R (enB 3 zs m U).1 (enB 3 zs m U).2∧Below B w0 w2):=⟨hwi2,hb2⟩
  clear hwi2 hb2 q0 q1
  go_wp2
  go_ret
  exact ⟨rfl,HF.out⟩
theorem sealedSymbols_any (mode:Nat) (a:Option Addr) (c:Nat) (ys:List Int) (w:World) (hb:Byt w a ys) (hn:ys.length=64) (hcap:64≤c) (hs:SentE w) (hmo:mode=2∨mode=3) :
  Calls Tryz.prog 55 #[.int .i64 mode,.slice a 64 c] w fun e w'=>(∃ a' cp,e=.returned (.tuple #[.slice a' (sqB mode ys).length cp,.bool true])∧Mine w' w.heap.size w'.heap.size a' cp (sqB mode ys))∧Below w.heap.size w w':=by
 have HF:=implFind_yes a c ys w hb (by omega) (by omega)
 rw [hn] at HF
 have HS:Hid (SentE w∧ys.length=64∧(mode=2∨mode=3)):=⟨hs,hn,hmo⟩
 clear hb hs
 go_enter Tryz.func55,Tryz.ntmps55
 go_wp2_with fail
 refine HF.mono ?_
 clear HF
 rintro e w1 ⟨⟨v,rfl,hfa⟩,hb1⟩
 obtain ⟨a1,c1,ss,rfl,hct,hsq,hfw,hby⟩:=hfa.sqs
 obtain ⟨hso,hsy⟩:=syF_of hn hct hby
 have HY:=implSymbols_any a1 c1 ss w1 hsq (by have:=hfw.1;omega) (fun s hs=>by have:=(hfw.2 s hs).1;omega)
 have H1:Hid ((sqn ss).isSome=true∧SyF ys∧syOf ss=syB ys∧Below w.heap.size w w1):=⟨hso,hsy,syB_of hct,hb1⟩
 clear hfa hct hsq hfw hby hso hsy hb1
 go_wp2_with fail
 refine HY.mono ?_
 clear HY
 rintro e w2 ⟨hyes,-⟩
 obtain ⟨sa,sc,va,vc,rfl,hA⟩:=hyes H1.out.1
 rw [H1.out.2.2.1] at hA ⊢
 have hl1:=H1.out.2.1.h1
 have hl2:=H1.out.2.1.h2
 have hm2:=H1.out.2.1.hm
 have HEQ:Hid (sqB mode ys=enc ((enB mode (syB ys).1 (syB ys).2.1 (syB ys).2.2).1+1) ((enB mode (syB ys).1 (syB ys).2.1 (syB ys).2.2).2+2 ^ (enB mode (syB ys).1 (syB ys).2.1 (syB ys).2.2).1)):=rfl
 have HLE:Hid ((enB mode (syB ys).1 (syB ys).2.1 (syB ys).2.2).1≤2000):=enB_bnd H1.out.2.1.ht hl1 hl2 hm2 mode _
 have HX:Hid (Ins w2 sa (syB ys).1∧Byt w2 va (enc (syB ys).2.1 (syB ys).2.2)∧Below w.heap.size w w2∧txtB (syB ys).1 40=true∧(syB ys).2.2<2 ^ (syB ys).2.1):=⟨hA.mi.byt,hA.mb.byt,H1.out.2.2.2.trans (hA.bel.mono H1.out.2.2.2.size),H1.out.2.1.ht,H1.out.2.1.hU⟩
 clear hA hyes H1
 generalize (syB ys).1=zs at *
 generalize (syB ys).2.1=m at *
 generalize (syB ys).2.2=U at *
 generalize hes:enc m U=es at *
 go_wp2_with fail
 have HA:Hid (Below w2.heap.size w2 (w2.alloc (Obj.cells #[.slice va es.length vc,.int .i64 m] 40))):=bAw
 have HP0:Hid ((w2.alloc (Obj.cells #[.slice va es.length vc,.int .i64 m] 40)).heap[w2.heap.size]?=some (.cells #[.slice va es.length vc,.int .i64 m] 40 (0,0))):=heap_alloc_new w2 _
 have hPl:w2.heap.size<(w2.alloc (Obj.cells #[.slice va es.length vc,.int .i64 m] 40)).heap.size:=by simp
 have hw2:w.heap.size≤w2.heap.size:=HX.out.2.2.1.size
 have hB0:Below w.heap.size w (w2.alloc (Obj.cells #[.slice va es.length vc,.int .i64 m] 40)):=HX.out.2.2.1.trans (HA.out.mono hw2)
 have HI:Hid (InE (w2.alloc (Obj.cells #[.slice va es.length vc,.int .i64 m] 40)) (w2.alloc (Obj.cells #[.slice va es.length vc,.int .i64 m] 40)).heap.size sa zs va es m U):=⟨HX.out.1.below HA.out nl,HX.out.2.1.below HA.out nl,rfl,hes.symm,HX.out.2.2.2.2,HX.out.2.2.2.1,hl1,hl2,by omega,HS.out.1.below hB0⟩
 have HB0:Hid (Below w.heap.size w (w2.alloc (Obj.cells #[.slice va es.length vc,.int .i64 m] 40))):=hB0
 clear hB0 HX HA
 generalize w2.alloc (Obj.cells #[.slice va es.length vc,.int .i64 m] 40)=W0 at *
 generalize w2.heap.size=P at *
 refine (newWriter_any none 0 [] 0 4096 W0 ⟨by simp,by simp⟩ (by simp)).mono ?_
 rintro e w3 ⟨R,g,rfl,hR,hown,hRge,hb3⟩
 have hP3:=(hb3.block P hPl).trans HP0.out
 have q0:w3.cell? ⟨P,0,none⟩=some (.slice va es.length vc):=cellR (j:=0) hP3 rfl
 have q1:w3.cell? ⟨P,1,none⟩=some (.int .i64 m):=cellR (j:=1) hP3 rfl
 have hPS:=putSymbols_any R W0.heap.size mode sa sc zs va vc es m U W0 w3 (WI.new hR hown hRge hb3.size) HI.out hb3 HS.out.2.2
 clear hR hown hb3 hP3 HP0
 generalize (enB mode zs m U).1=N at *
 generalize (enB mode zs m U).2=V at *
 have hN:=HLE.out
 go_wp2_with fail
 refine hPS.mono ?_
 clear hPS
 rintro e w4 ⟨rfl,hwi,hb4⟩
 obtain ⟨a4,c4,d0,d1,hmine⟩:=hwi.cells
 have hV:V<2 ^ N:=by obtain ⟨_,_,_,h,_⟩:=hwi;exact h
 have hSE:=implSeal_yes a4 c4 (enc N V) N w4 hmine.byt (okB_encB N V (by omega) hV) (by rw [val_encB N V hV]) (by rw [val_encB N V hV];exact hV) (by omega)
 rw [val_encB N V hV,←HEQ.out] at hSE
 have hR4:R<w4.heap.size:=by obtain ⟨_,h,_⟩:=hwi;exact (Array.getElem?_eq_some_iff.1 h).1
 have HB4:Hid (Below w.heap.size w w4):=HB0.out.trans (hb4.mono HB0.out.size)
 clear hwi hb4 hmine hV q0 q1
 generalize (enc N V).length=L at *
 go_wp2_with fail
 refine hSE.mono ?_
 clear hSE
 rintro e w5 ⟨a5,c5,rfl,hm5,hb5⟩
 have HF:Hid (Mine w5 w.heap.size w5.heap.size a5 c5 (sqB mode ys)∧Below w.heap.size w w5):=⟨hm5.mono (by have:=HB4.out.size;omega) nl,HB4.out.trans (hb5.mono HB4.out.size)⟩
 clear hm5 hb5 d0 d1
 go_wp2
 go_ret2
 exact ⟨⟨a5,c5,rfl,HF.out.1⟩,HF.out.2⟩
def alikeB (ys:List Int):Bool:=decide (∀ z ∈ ys,z=ys.getD 0 0)
def pkO (x:Int) (ys:List Int):Option (List Int):=
 if ys.length≠64 then none else if x=0 then some (0 :: ys) else if x=1 then (if alikeB ys=true then some [1,ys.getD 0 0] else none) else if x=2 then some (2 :: sqB 2 ys) else if x=3 then some (3 :: sqB 3 ys) else none
theorem go_mem (ys:List Int):∀ (n f q:Nat) (cs:List Ct),(∀ c ∈ cs,∀ z ∈ c.1,z ∈ ys)→∀ c ∈ (go ys n f q cs).2,∀ z ∈ c.1,z ∈ ys
 | 0,f,q,cs,h=>h
 | n+1,f,q,cs,h=>by
  simp only [go]
  split
  ·split
   ·refine go_mem ys n _ _ _ (fun c hc=>?_)
    rcases List.mem_append.1 hc with hc | hc
    ·exact h c hc
    ·obtain rfl:c=_:=by simpa using hc
     exact fun z hz=>cutL_mem hz
   ·exact go_mem ys n _ _ _ h
  ·exact h
theorem found_mem (ys:List Int):∀ c ∈ found ys,∀ z ∈ c.1,z ∈ ys:=by
 intro c hc
 have hg:=go_mem ys ys.length 0 0 [] (by simp)
 unfold found fin at hc
 split at hc
 ·rcases List.mem_append.1 hc with hc | hc
  ·exact hg c hc
  ·obtain rfl:c=_:=by simpa using hc
   exact fun z hz=>cutL_mem hz
 ·exact hg c hc
theorem syF_all {ys:List Int} (hn:ys.length=64) (hr:∀ z ∈ ys,0≤z∧z≤255):SyF ys:=by
 have e:((found ys).map (fun c=>(⟨none,0,c.1,c.2.1,c.2.2⟩:Sq))).map Sq.ct=found ys:=by
  rw [List.map_map]
  exact List.map_id _
 refine (syF_of hn e (fun s hs z hz=>?_)).2
 obtain ⟨c,hc,rfl⟩:=List.mem_map.1 hs
 exact hr z (found_mem ys c hc z hz)
theorem sqB_len {ys:List Int} (h:SyF ys) (mode:Nat):(sqB mode ys).length≤600:=by
 have:=enB_bnd h.ht h.h1 h.h2 h.hm mode (syB ys).2.2
 unfold sqB
 rw [enc_len]
 omega
def pkA (w w':World) (o:Option (List Int)) (e:Ending):Prop:=(∃ a' c',e=.returned (.tuple #[.slice a' (o.getD []).length c',.bool o.isSome])∧Mine w' w.heap.size w'.heap.size a' c' (o.getD []))∧Below w.heap.size w w'
theorem pkA.no {w w':World} (h:Below w.heap.size w w'):pkA w w' none (.returned (.tuple #[.slice none 0 0,.bool false])):=⟨⟨none,0,rfl,.inl ⟨rfl,rfl,rfl⟩⟩,h⟩
theorem ovb_one (w:World) (B:Nat) (z:Int) (hB:B≤w.heap.size) (hz:0≤z∧z≤255):OVB (w.alloc (.cells #[.int .u8 z] 5)) B (.slice (some ⟨w.heap.size,0,none⟩) 1 1) [z]:=
 ⟨⟨rfl,.inr ⟨w.heap.size,1,#[.int .u8 z],rfl,hB,heap_alloc_new w _,by simp,by unfold maxLen;omega,rfl,rfl⟩⟩,by intro y hy;simp at hy;subst hy;exact hz⟩
theorem grown_pk {w W w':World} {g:Nat} {v:Value} {bs:List Int} (hb:Below w.heap.size w W) (hg:w.heap.size≤g) (hown:OVB w' w.heap.size v bs) (hgr:W.grownBy w' (some g)):(∃ a' c',v=.slice a' bs.length c'∧Mine w' w.heap.size w'.heap.size a' c' bs)∧Below w.heap.size w w':=by
 obtain ⟨a',c',e,hm⟩:=hown.mine
 have ho:Only (fun _=>False) w w':=Only.grown (Only.ofBelow hb nl) hgr (fun k hk=>.inr (by simp at hk;omega))
 exact ⟨⟨a',c',e,hm⟩,ho.below nl (by simp)⟩
theorem allAlike_any (a:Option Addr) (c:Nat) (ys:List Int) (w:World) (hb:Byt w a ys) (hn:ys.length=64) :
  Calls Tryz.prog 54 #[.slice a 64 c] w fun e w'=>e=.returned (.bool (alikeB ys))∧Below w.heap.size w w':=by
 obtain ⟨b,o,rfl,hbl,hc0⟩:=hb.2 (by omega)
 have HC:Hid (∀ i,i<64→w.cell? ⟨b,o+i,none⟩=some (.int .u8 (ys.getD i 0))):=fun i hi=>hc0 i (by omega)
 have HT:Hid ((∀ j,j<64→ys.getD j 0=ys.getD 0 0)→alikeB ys=true):=fun h=>by
  simp only [alikeB,decide_eq_true_eq]
  intro z hz
  obtain ⟨j,hj,rfl⟩:=List.getElem_of_mem hz
  have:=h j (by omega)
  rw [List.getD_eq_getElem?_getD,List.getElem?_eq_getElem hj] at this
  exact this
 have HF:Hid (∀ j,j<64→ys.getD j 0≠ys.getD 0 0→alikeB ys=false):=fun j hj h=>by
  simp only [alikeB,decide_eq_false_iff_not]
  exact fun h2=>h (h2 _ (getD_mem (by omega)))
 have c00:=HC.out 0 (by omega)
 rw [Nat.add_zero] at c00
 clear hc0 hb
 generalize hy0:ys.getD 0 0=y0 at *
 go_enter Tryz.func54,Tryz.ntmps54
 go_wp2
 go_loopw [7] (fun i wr=>∃ k m:Nat,k≤64∧i=.int .i64 k∧(∀ j,j<k→ys.getD j 0=y0)∧wr=w.drewN m) (fun i _=>64-(intOf i).toNat)
 case atStart=>exact ⟨0,0,Nat.zero_le _,rfl,fun j hj=>by omega,rfl⟩
 case round=>
  obtain ⟨k,m,hk,rfl,hal,rfl⟩:=hrel
  have HA:Hid (∀ j,j<k→ys.getD j 0=y0):=hal
  have HBD:Hid (∀ q,Below w.heap.size w (w.drewN q)):=fun q=>⟨rfl,rfl,rfl,Nat.le_refl _,fun _ _=>rfl⟩
  clear hal
  by_cases hlt:k<64
  ·have hc:=HC.out k hlt
   obtain ⟨z,hz⟩:∃ z,ys.getD k 0=z:=⟨_,rfl⟩
   have HZ:Hid (ys.getD k 0=z∧True):=⟨hz,trivial⟩
   rw [hz] at hc
   clear hz
   by_cases he:z=y0
   ·subst he
    have hd:(z != z)=false:=by simp
    have HN:Hid (∀ j,j<k+1→ys.getD j 0=z):=fun j hj=>by
     rcases Nat.lt_or_ge j k with h | h
     ·exact HA.out j h
     ·rw [show j=k by omega];exact HZ.out.1
    go_wp2
    go_roundw
    case rel=>exact ⟨k+1,_,by omega,by go_num,HN.out,rfl⟩
    case measure=>simp [intOf];omega
   ·have hd:(z != y0)=true:=by simpa using he
    have HE:Hid (alikeB ys=false):=HF.out k hlt (by rw [HZ.out.1];exact he)
    go_wp2
    go_ret
    exact ⟨by rw [HE.out];rfl,HBD.out _⟩
  ·have hkn:k=64:=by omega
   subst hkn
   have HE:Hid (alikeB ys=true):=HT.out HA.out
   go_wp2
   go_ret
   exact ⟨by rw [HE.out];rfl,HBD.out _⟩
theorem implPacked_any (a:Option Addr) (c:Nat) (ys:List Int) (x:Int) (w:World) (hb:Byt w a ys) (hcap:ys.length≤c) (hs:SentE w) :
  Calls Tryz.prog 27 #[.slice a ys.length c,.int .i64 x] w fun e w'=>pkA w w' (pkO x ys) e:=by
 by_cases hn:ys.length=64
 ·have HL:Hid (ys.length=64∧Byt w a ys):=⟨hn,hb⟩
  have HAL:=allAlike_any a c ys w hb hn
  have hsq:∀ mode:Nat,mode=2∨mode=3→Calls Tryz.prog 55 #[.int .i64 mode,.slice a 64 c] w fun e w'=>(∃ a' cp,e=.returned (.tuple #[.slice a' (sqB mode ys).length cp,.bool true])∧Mine w' w.heap.size w'.heap.size a' cp (sqB mode ys))∧Below w.heap.size w w':=fun mode hm=>sealedSymbols_any mode a c ys w hb hn (by omega) hs hm
  have HPK:Hid (pkO x ys=if x=0 then some (0 :: ys) else if x=1 then (if alikeB ys=true then some [1,ys.getD 0 0] else none) else if x=2 then some (2 :: sqB 2 ys) else if x=3 then some (3 :: sqB 3 ys) else none):=by
   unfold Hid pkO
   rw [if_neg (by simpa using hn)]
  rw [HPK.out]
  rw [hn]
  rw [hn] at hcap
  clear hb hs HPK
  by_cases h0:x=0
  ·subst h0
   rw [if_pos rfl]
   clear hsq HAL
   have HOV:=ovb_one w w.heap.size 0 nl (by omega)
   have HWA:Hid (Below w.heap.size w (w.alloc (.cells #[.int .u8 0] 5))):=bAw
   have HBY:=HL.out.2.below HWA.out nl
   go_enter Tryz.func27,Tryz.ntmps27
   go_wp2_with (at_builtin;(refine wpList_append_byt rfl (.tmp 37) (.tmp 38) rfl w.heap.size _ [0] rfl HOV a c ys (by rw [HL.out.1];rfl) HBY (by rw [HL.out.1];decide) (by simp) ?_);intro v4 w4 hown hgrow)
   have hF:=grown_pk HWA.out nl hown hgrow
   obtain ⟨⟨a4,c4,rfl,hm4⟩,hb4⟩:=hF
   have HF:Hid (Mine w4 w.heap.size w4.heap.size a4 c4 (0 :: ys)∧Below w.heap.size w w4):=⟨hm4,hb4⟩
   clear hown hgrow hm4 hb4 HOV HBY
   go_wp2
   go_ret2
   exact ⟨⟨a4,c4,rfl,HF.out.1⟩,HF.out.2⟩
  ·rw [if_neg h0]
   by_cases h1:x=1
   ·subst h1
    rw [if_pos rfl]
    clear hsq
    cases hal:alikeB ys with
    | false=>
     rw [hal] at HAL
     rw [if_neg (by simp)]
     go_enter Tryz.func27,Tryz.ntmps27
     go_wp2_with fail
     refine HAL.mono ?_
     clear HAL
     rintro e w1 ⟨rfl,hb1⟩
     have HF:Hid (Below w.heap.size w w1):=hb1
     clear hb1
     go_wp2
     go_ret2
     exact pkA.no HF.out
    | true=>
     rw [hal] at HAL
     rw [if_pos rfl]
     have HT1:Hid (ys.take 1=[ys.getD 0 0]):=by
      unfold Hid
      have:=HL.out.1
      match ys,this with
      | y :: t,_=>rfl
     go_enter Tryz.func27,Tryz.ntmps27
     go_wp2_with fail
     refine HAL.mono ?_
     clear HAL
     rintro e w1 ⟨rfl,hb1⟩
     have HOV:=ovb_one w1 w.heap.size 1 hb1.size (by omega)
     have HWA:Hid (Below w.heap.size w (w1.alloc (.cells #[.int .u8 1] 5))):=hb1.alloc hb1.size _
     have HBY:Byt (w1.alloc (.cells #[.int .u8 1] 5)) a [ys.getD 0 0]:=by
      have h9:=HL.out.2.below HWA.out nl
      rw [←HT1.out]
      refine ⟨fun z hz=>h9.1 z (List.mem_of_mem_take hz),fun _=>?_⟩
      obtain ⟨b',o',e',hb',hc'⟩:=h9.2 (by have:=HL.out.1;omega)
      refine ⟨b',o',e',hb',fun i hi=>?_⟩
      rw [HT1.out] at hi
      have hi0:i=0:=by simpa using hi
      subst hi0
      rw [HT1.out]
      exact hc' 0 (by have:=HL.out.1;omega)
     have hg1:=hb1.size
     clear hb1
     go_wp2_with (at_builtin;(refine wpList_append_byt rfl (.tmp 37) (.tmp 38) rfl w.heap.size _ [1] rfl HOV a c [ys.getD 0 0] rfl HBY (by simp) (by simp;omega) ?_);intro v4 w4 hown hgrow)
     have hF:=grown_pk HWA.out hg1 hown hgrow
     obtain ⟨⟨a4,c4,rfl,hm4⟩,hb4⟩:=hF
     have HF:Hid (Mine w4 w.heap.size w4.heap.size a4 c4 [1,ys.getD 0 0]∧Below w.heap.size w w4):=⟨hm4,hb4⟩
     clear hown hgrow hm4 hb4 HOV HBY
     go_wp2
     go_ret2
     exact ⟨⟨a4,c4,rfl,HF.out.1⟩,HF.out.2⟩
   ·rw [if_neg h1]
    clear HAL
    by_cases h23:x=2∨x=3
    ·obtain ⟨md,hmd,hx⟩:∃ md:Nat,(md=2∨md=3)∧x=(md:Int):=by
      rcases h23 with rfl | rfl
      ·exact ⟨2,.inl rfl,rfl⟩
      ·exact ⟨3,.inr rfl,rfl⟩
     have HV:Hid ((if x=2 then some (2 :: sqB 2 ys) else if x=3 then some (3 :: sqB 3 ys) else none)=some ((md:Int) :: sqB md ys)):=by
      unfold Hid
      rcases hmd with rfl | rfl
      ·rw [hx];rfl
      ·rw [hx];rfl
     rw [HV.out]
     have HSQ:=hsq md hmd
     have HLQ:Hid ((sqB md ys).length≤600):=sqB_len (syF_all HL.out.1 HL.out.2.1) md
     subst hx
     clear hsq h23 h0 h1 HV
     rcases hmd with rfl | rfl
     ·go_enter Tryz.func27,Tryz.ntmps27
      go_wp2_with fail
      refine HSQ.mono ?_
      clear HSQ
      rintro e w1 ⟨⟨a1,c1,rfl,hm1⟩,hb1⟩
      have HOV:=ovb_one w1 w.heap.size 2 hb1.size (by omega)
      have HWA:Hid (Below w.heap.size w (w1.alloc (.cells #[.int .u8 2] 5))):=hb1.alloc hb1.size _
      have HBY:Byt (w1.alloc (.cells #[.int .u8 2] 5)) a1 (sqB 2 ys):=hm1.byt.below ((Below.refl _ _).alloc nl _) nl
      have hg1:=hb1.size
      clear hb1 hm1
      have hlq:=HLQ.out
      go_wp2_with (at_builtin;(refine wpList_append_byt rfl (.tmp 37) (.tmp 38) rfl w.heap.size _ [2] rfl HOV a1 c1 (sqB 2 ys) rfl HBY (by simp;omega) (by simp;omega) ?_);intro v4 w4 hown hgrow)
      have hF:=grown_pk HWA.out hg1 hown hgrow
      obtain ⟨⟨a4,c4,rfl,hm4⟩,hb4⟩:=hF
      have HF:Hid (Mine w4 w.heap.size w4.heap.size a4 c4 (2 :: sqB 2 ys)∧Below w.heap.size w w4):=⟨hm4,hb4⟩
      clear hown hgrow hm4 hb4 HOV HBY
      go_wp2
      go_ret2
      exact ⟨⟨a4,c4,rfl,HF.out.1⟩,HF.out.2⟩
     ·go_enter Tryz.func27,Tryz.ntmps27
      go_wp2_with fail
      refine HSQ.mono ?_
      clear HSQ
      rintro e w1 ⟨⟨a1,c1,rfl,hm1⟩,hb1⟩
      have HOV:=ovb_one w1 w.heap.size 3 hb1.size (by omega)
      have HWA:Hid (Below w.heap.size w (w1.alloc (.cells #[.int .u8 3] 5))):=hb1.alloc hb1.size _
      have HBY:Byt (w1.alloc (.cells #[.int .u8 3] 5)) a1 (sqB 3 ys):=hm1.byt.below ((Below.refl _ _).alloc nl _) nl
      have hg1:=hb1.size
      clear hb1 hm1
      have hlq:=HLQ.out
      go_wp2_with (at_builtin;(refine wpList_append_byt rfl (.tmp 37) (.tmp 38) rfl w.heap.size _ [3] rfl HOV a1 c1 (sqB 3 ys) rfl HBY (by simp;omega) (by simp;omega) ?_);intro v4 w4 hown hgrow)
      have hF:=grown_pk HWA.out hg1 hown hgrow
      obtain ⟨⟨a4,c4,rfl,hm4⟩,hb4⟩:=hF
      have HF:Hid (Mine w4 w.heap.size w4.heap.size a4 c4 (3 :: sqB 3 ys)∧Below w.heap.size w w4):=⟨hm4,hb4⟩
      clear hown hgrow hm4 hb4 HOV HBY
      go_wp2
      go_ret2
      exact ⟨⟨a4,c4,rfl,HF.out.1⟩,HF.out.2⟩
    ·have h2:x≠2:=fun h=>h23 (.inl h)
     have h3:x≠3:=fun h=>h23 (.inr h)
     rw [if_neg h2,if_neg h3]
     clear hsq h23
     go_enter Tryz.func27,Tryz.ntmps27
     go_wp2
     go_ret2
     exact pkA.no (Below.refl _ _)
 ·have HPK:Hid (pkO x ys=none):=by
   unfold Hid pkO
   rw [if_pos hn]
  rw [HPK.out]
  have hni:((ys.length:Int) != 64)=true:=by simp;omega
  go_enter Tryz.func27,Tryz.ntmps27
  go_wp2
  go_ret2
  exact pkA.no (Below.refl _ _)
def Pc.sy :Pc→List Int
 | .coin s c=>[(s:Int)]
 | .pack a b n=>a.sy++b.sy
structure Ek where
 p:Pc
 a:Option Addr
 c:Nat
def dek :Ek:=⟨dpc,none,0⟩
def Ek.cells (e:Ek):List Value:=[.int .i64 e.p.wt,.slice e.a e.p.sy.length e.c]
def Eks (w:World) (a:Option Addr) (es:List Ek):Prop:=
 0<es.length→∃ b off,a=some ⟨b,off,none⟩∧b<w.heap.size∧∀ i,i<es.length→w.cell? ⟨b,off+i*2,none⟩=some (.int .i64 (es.getD i dek).p.wt)∧w.cell? ⟨b,off+i*2+1,none⟩=some (.slice (es.getD i dek).a (es.getD i dek).p.sy.length (es.getD i dek).c)
def OVk (w:World) (B:Nat) (v:Value) (es:List Ek):Prop:=w.ownsRow B 190 2 v es.length (es.flatMap Ek.cells)
end Go.Proofs.YtfeokafkhnbdiaaGreatDoor
