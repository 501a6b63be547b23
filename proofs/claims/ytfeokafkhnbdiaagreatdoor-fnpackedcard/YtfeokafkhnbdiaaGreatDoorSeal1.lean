/- Lemmas on the way. -/
import Derived.Test.YtfeokafkhnbdiaaGreatDoorSqB
import Derived.Test.YtfeokafkhnbdiaaGreatDoorFp1
import Derived.Test.YtfeokafkhnbdiaaGreatDoorPut4
import Derived.Test.YtfeokafkhnbdiaaGreatDoorPut1
import Derived.Test.YtfeokafkhnbdiaaGreatDoorPcB
set_option maxRecDepth 20000
set_option maxHeartbeats 16000000
namespace Go.Proofs.YtfeokafkhnbdiaaGreatDoor
open Go.RowKit
set_option linter.unusedVariables false
set_option linter.unusedSimpArgs false
structure AnsY (w w':World) (sa:Option Addr) (sc:Nat) (va:Option Addr) (vc:Nat) (ts zs:List Int):Prop where
 mi:MinI w' w.heap.size w'.heap.size sa sc ts
 mb:Mine w' w.heap.size w'.heap.size va vc zs
 bel:Below w.heap.size w w'
def noY (w w':World) (e:Ending):Prop:=e=.returned (.tuple #[.slice none 0 0,.agg #[.slice none 0 0,.int .i64 0],.bool false])∧Below w.heap.size w w'
def yesY (w w':World) (ss:List Sq) (e:Ending):Prop:=∃ sa sc va vc,e=.returned (.tuple #[.slice sa (syOf ss).1.length sc,.agg #[.slice va (enc (syOf ss).2.1 (syOf ss).2.2).length vc,.int .i64 ((syOf ss).2.1:Nat)],.bool true])∧AnsY w w' sa sc va vc (syOf ss).1 (enc (syOf ss).2.1 (syOf ss).2.2)
def syA (w w':World) (ss:List Sq) (e:Ending):Prop:=((sqn ss).isSome=true→yesY w w' ss e)∧((sqn ss).isSome=false→noY w w' e)
theorem syA.no {w w':World} {ss:List Sq} {e:Ending} (h:(sqn ss).isSome=false) (hn:noY w w' e):syA w w' ss e:=And.intro (fun h'=>by rw [h] at h';cases h') (fun _=>hn)
theorem syA.yes {w w':World} {ss:List Sq} {e:Ending} (h:(sqn ss).isSome=true) (hn:yesY w w' ss e):syA w w' ss e:=And.intro (fun _=>hn) (fun h'=>by rw [h] at h';cases h')
theorem minI_out {S:Nat→Prop} {w w':World} {B B':Nat} {v:Value} {zs:List Int} (h:OVI w B v zs) (ho:Only S w w') (hs:∀ k,B≤k→¬S k) (hB:B'≤B):∃ a c,v=.slice a zs.length c∧MinI w' B' w'.heap.size a c zs:=by
 obtain ⟨a,c,e,hm⟩:=(ovi_weakS h ho hs hB).mine
 exact ⟨a,c,e,hm⟩
theorem ansY_fin {w w3:World} {C:Nat} {sa:Option Addr} {sc:Nat} {va:Option Addr} {vc:Nat} {ts zs:List Int} {x y:Value} (h1:OVI w3 C (.slice sa ts.length sc) ts) (h2:OwnV w3 C (.slice va zs.length vc) zs) (h3:Below w.heap.size w w3) (hC:w.heap.size<C) :
  AnsY w (((w3.setCell ⟨w.heap.size,0,none⟩ x).setCell ⟨w.heap.size,1,none⟩ y).drew) sa sc va vc ts zs:=by
 have ho:Only (fun b=>b=w.heap.size) w3 (((w3.setCell ⟨w.heap.size,0,none⟩ x).setCell ⟨w.heap.size,1,none⟩ y).drew):=(((Only.refl (fun b=>b=w.heap.size) w3).setCell (p:=⟨w.heap.size,0,none⟩) (.inl rfl) _).setCell (p:=⟨w.heap.size,1,none⟩) (.inl rfl) _).drew
 obtain ⟨a5,c5,e5,h5⟩:=minI_out h1 ho (fun k hk=>by omega) (Nat.le_of_lt hC)
 obtain ⟨rfl,rfl⟩:sa=a5∧sc=c5:=by simpa using e5
 obtain ⟨a6,c6,e6,h6⟩:=(ownV_weakS h2 ho (fun k hk=>by omega) (Nat.le_of_lt hC)).mine
 obtain ⟨rfl,rfl⟩:va=a6∧vc=c6:=by simpa using e6
 exact ⟨h5,h6,h3.trans (ho.below h3.size (fun k hk=>by omega))⟩
theorem implSymbols_any (a:Option Addr) (cap:Nat) (ss:List Sq) (w:World) (hb:Sqs w a ss) (hx:ss.length≤1048576) (hxl:∀ s ∈ ss,s.ls.length≤1048576) :
  Calls Tryz.prog 19 #[.slice a ss.length cap] w fun e w'=>syA w w' ss e:=by
 have hw:Below w.heap.size w (w.alloc (Obj.cells #[.slice none 0 0,.int .i64 0] 40)):=bAw
 have HC:=implSeqsOk_any a cap ss _ (hb.below hw nl) (by omega) (fun s hs=>by have:=hxl s hs;omega)
 have r0:(w.alloc (Obj.cells #[.slice none 0 0,.int .i64 0] 40)).heap[w.heap.size]?=some (.cells #[.slice none 0 0,.int .i64 0] 40 (0,0)):=heap_alloc_new w _
 have HH:Hid (Sqs w a ss):=hb
 clear hb hxl
 go_enter Tryz.func19,Tryz.ntmps19
 go_wp2_with fail
 refine HC.mono ?_
 clear HC
 rintro e w1 ⟨rfl,hb1⟩
 have hX1:w1.heap[w.heap.size]?=some (.cells #[.slice none 0 0,.int .i64 0] 40 (0,0)):=(hb1.block w.heap.size (by simp)).trans r0
 have HB1:Hid (Below w.heap.size w w1∧w1.heap[w.heap.size]?=some (.cells #[.slice none 0 0,.int .i64 0] 40 (0,0))∧w.heap.size<w1.heap.size):=⟨hw.trans (hb1.mono (by simp)),hX1,(Array.getElem?_eq_some_iff.1 hX1).1⟩
 have x0:w1.cell? ⟨w.heap.size,0,none⟩=some (.slice none 0 0):=cellRR (j:=0) hX1 rfl
 have x1:w1.cell? ⟨w.heap.size,1,none⟩=some (.int .i64 0):=cellRR (j:=1) hX1 rfl
 have y0:=frozen_of_row w1 w.heap.size 0 _ _ hX1
 have y1:=frozen_of_row w1 w.heap.size 1 _ _ hX1
 clear hb1 hw r0 hX1
 cases hso:(sqn ss).isSome with
 | false=>
  have HSO:Hid ((sqn ss).isSome=false):=hso
  have HBF:Hid (Below w.heap.size w ((w1.setCell ⟨w.heap.size,0,none⟩ (.slice none 0 0)).setCell ⟨w.heap.size,1,none⟩ (.int .i64 0))):=(HB1.out.1.setCell (p:=⟨w.heap.size,0,none⟩) nl _).setCell (p:=⟨w.heap.size,1,none⟩) nl _
  clear hso
  go_wp2
  exact bodyPost_ret (v:=.tuple #[.slice none 0 0,.agg #[.slice none 0 0,.int .i64 0],.bool false]) (by simp [results,Tryz.results19,go_sem,x0,x1]) rfl (syA.no HSO.out ⟨rfl,HBF.out⟩)
 | true=>
  have HSO:Hid ((sqn ss).isSome=true∧SyOk ss):=⟨hso,SyOk.of hso⟩
  have HNW:=newWriter_any none 0 [] 0 4096 w1 ⟨by simp,by simp⟩ (by simp)
  clear hso x0 x1 y0 y1
  go_wp2_with fail
  refine HNW.mono ?_
  clear HNW
  rintro e w2 ⟨R,g,rfl,hR,hown,hRge,hb2⟩
  have HST:Hid (SwS (w2.alloc (Obj.cells #[.slice none 0 0,.pointer (some ⟨R,0,none⟩)] 68)) w1.heap.size w2.heap.size R ([],0,0)∧Below w1.heap.size w1 (w2.alloc (Obj.cells #[.slice none 0 0,.pointer (some ⟨R,0,none⟩)] 68))):=by
   have hWI:WI w2 w1.heap.size R 0 0:=WI.new hR hown hRge hb2.size
   have hA:Below w2.heap.size w2 (w2.alloc (Obj.cells #[.slice none 0 0,.pointer (some ⟨R,0,none⟩)] 68)):=bAw
   exact ⟨⟨⟨none,0,heap_alloc_new w2 _,OVI.nil _ _⟩,hWI.stay hA,hb2.size⟩,hb2.trans (hA.mono hb2.size)⟩
  clear hR hown
  have HLN:Hid (∃ n,ss.length=n):=⟨_,rfl⟩
  obtain ⟨n,hn⟩:=HLN.out
  have HN:Hid (ss.length=n∧True):=⟨hn,trivial⟩
  have hn40:n≤40:=by rw [←hn];exact HSO.out.2.few
  rw [hn]
  clear hn HLN hb2 hRge hx
  go_wp2
  generalize w2.alloc (Obj.cells #[.slice none 0 0,.pointer (some ⟨R,0,none⟩)] 68)=W3 at *
  generalize w2.heap.size=P at *
  go_loopw [19] (fun iv wr=>∃ k:Nat,k≤n∧iv=.int .i64 k∧SwS wr w1.heap.size P R (syOf (ss.take k))∧Below w1.heap.size w1 wr) (fun iv _=>n-(intOf iv).toNat)
  case atStart=>exact ⟨0,Nat.zero_le _,rfl,by simpa [syOf] using HST.out.1,HST.out.2⟩
  case round=>
   clear HST
   obtain ⟨k,hk,rfl,hsy,hbel⟩:=hrel
   have hbb:=HB1.out.1.trans (hbel.mono (Nat.le_of_lt HB1.out.2.2))
   have HS:Hid (SwS wr w1.heap.size P R (syOf (ss.take k))∧Below w1.heap.size w1 wr∧Below w.heap.size w wr):=⟨hsy,hbel,hbb⟩
   clear hsy hbel
   by_cases hlt:k<n
   ·obtain ⟨b,off,rfl,hbw,hly⟩:=HH.out.len_pos k (by rw [HN.out.1];exact hlt)
    have hl0:=(hly k (by rw [HN.out.1];exact hlt)).below hbb nl hbw
    have hl1:=(hly k (by rw [HN.out.1];exact hlt)).below HB1.out.1 nl hbw
    have d0:=hl0.c0
    have d1:=hl0.c1
    have d2:=hl0.c2
    have hby:=hl1.byt
    have hbn:=HSO.out.2.bnd k (by rw [HN.out.1];exact hlt)
    have hnm:=HSO.out.2.nums k (by rw [HN.out.1];exact hlt)
    have HTK:Hid (syOf (ss.take (k+1))=putQ (syOf (ss.take k)) (ss.getD k dq)∧True):=⟨syOf_take ss k (by rw [HN.out.1];exact hlt),trivial⟩
    clear hly hl0 hl1 hbb
    generalize ss.getD k dq=q at *
    generalize syOf (ss.take k)=st at *
    obtain ⟨qa,qc,ql,qn,qd⟩:=q
    simp only at hbn hnm d0 d1 d2 hby
    have hA:Below wr.heap.size wr (wr.alloc (Obj.cells #[.slice qa ql.length qc,.int .i64 qn,.int .i64 qd] 37)):=bAw
    have HC:=putSeq_any w1.heap.size P R qa qc ql qn qd st w1 (wr.alloc (Obj.cells #[.slice qa ql.length qc,.int .i64 qn,.int .i64 qd] 37)) rfl (HS.out.2.1.trans (hA.mono HS.out.2.1.size)) (HS.out.1.below hA) hby hnm hbn
    clear hby hnm hbn hA
    go_wp2_with fail
    refine HC.mono ?_
    clear HC
    rintro e w5 ⟨rfl,hs5,hb5⟩
    have HS5:Hid (SwS w5 w1.heap.size P R (syOf (ss.take (k+1)))∧Below w1.heap.size w1 w5):=⟨by rw [HTK.out.1];exact hs5,hb5⟩
    clear hs5 hb5 HS d0 d1 d2
    go_wp2
    go_roundw
    case rel=>exact ⟨k+1,by omega,by go_num,HS5.out.1,HS5.out.2⟩
    case measure=>simp [intOf];omega
   ·have hkn:k=n:=by omega
    subst hkn
    have HTE:Hid (syOf (ss.take k)=syOf ss∧True):=⟨by rw [List.take_of_length_le (by rw [HN.out.1];exact Nat.le_refl _)],trivial⟩
    rw [HTE.out.1] at HS
    obtain ⟨sa,sc,hP,hov⟩:=HS.out.1.box
    obtain ⟨v,hR,hv,hV,hBR,-⟩:=HS.out.1.wi
    obtain ⟨va,vc,rfl,-⟩:=hv.mine
    have hX:wr.heap[w.heap.size]?=some (.cells #[.slice none 0 0,.int .i64 0] 40 (0,0)):=(HS.out.2.1.block w.heap.size HB1.out.2.2).trans HB1.out.2.1
    have HFIN:Hid (AnsY w (((wr.setCell ⟨w.heap.size,0,none⟩ (.slice va (enc (syOf ss).2.1 (syOf ss).2.2).length vc)).setCell ⟨w.heap.size,1,none⟩ (.int .i64 ((syOf ss).2.1:Nat))).drew) sa sc va vc (syOf ss).1 (enc (syOf ss).2.1 (syOf ss).2.2)):=ansY_fin hov hv HS.out.2.2 HB1.out.2.2
    have x0:wr.cell? ⟨w.heap.size,0,none⟩=some (.slice none 0 0):=cellRR (j:=0) hX rfl
    have x1:wr.cell? ⟨w.heap.size,1,none⟩=some (.int .i64 0):=cellRR (j:=1) hX rfl
    have y0:=frozen_of_row wr w.heap.size 0 _ _ hX
    have y1:=frozen_of_row wr w.heap.size 1 _ _ hX
    have p0:wr.cell? ⟨P,0,none⟩=some (.slice sa (syOf ss).1.length sc):=cellRR (j:=0) hP rfl
    have p1:wr.cell? ⟨P,1,none⟩=some (.pointer (some ⟨R,0,none⟩)):=cellRR (j:=1) hP rfl
    have r0:wr.cell? ⟨R,0,none⟩=some (.slice va (enc (syOf ss).2.1 (syOf ss).2.2).length vc):=cellRR (j:=0) hR rfl
    have r1:wr.cell? ⟨R,1,none⟩=some (.int .i64 ((syOf ss).2.1:Nat)):=cellRR (j:=1) hR rfl
    clear hP hov hR hv hV hX HS HTE HH hbb
    go_wp2
    go_region
    all_goals go_wp2
    all_goals exact bodyPost_ret (v:=.tuple #[.slice sa (syOf ss).1.length sc,.agg #[.slice va (enc (syOf ss).2.1 (syOf ss).2.2).length vc,.int .i64 ((syOf ss).2.1:Nat)],.bool true]) (by simp [results,Tryz.results19,go_sem,x0,x1]) rfl (syA.yes HSO.out.1 ⟨sa,sc,va,vc,rfl,HFIN.out⟩)
theorem bytesFor_any (n:Int) (w:World) (h0:0≤n) (h1:n≤4103) :
  Calls Tryz.prog 65 #[.int .i64 n] w fun e w'=>e=.returned (.int .i64 ((n+7) / 8))∧w'=w:=by
 go_enter Tryz.func65,Tryz.ntmps65
 go_wp2
 go_ret
 exact ⟨rfl,rfl⟩
theorem implOk_any (a:Option Addr) (cap:Nat) (zs:List Int) (N:Int) (w:World) (hb:Byt w a zs) (hn:zs.length≤281474976710656) :
  Calls Tryz.prog 45 #[.agg #[.slice a zs.length cap,.int .i64 N]] w fun e w'=>e=.returned (.bool (okB N zs))∧Below w.heap.size w w':=by
 have hw:Below w.heap.size w (w.alloc (Obj.cells #[.slice a zs.length cap,.int .i64 N] 40)):=bAw
 by_cases h0:N<0
 ·have hE:okB N zs=false:=okB_neg h0
  have hd0:decide (N<0)=true:=by simpa using h0
  rw [hE]
  clear hE
  go_enter Tryz.func45,Tryz.ntmps45
  go_wp2
  go_quiet ((go_at_call 65;exact Calls.quiet_of_same (bytesFor_any _ _ (by omega) (by omega))))
  go_wp2
  go_ret
  exact ⟨rfl,below_drewN hw _⟩
 ·have hd0:decide (N<0)=false:=by simpa using h0
  by_cases h1:4096<N
  ·have hE:okB N zs=false:=okB_big h1
   have hd1:decide (4096<N)=true:=by simpa using h1
   rw [hE]
   clear hE
   go_enter Tryz.func45,Tryz.ntmps45
   go_wp2
   go_quiet ((go_at_call 65;exact Calls.quiet_of_same (bytesFor_any _ _ (by omega) (by omega))))
   go_wp2
   go_ret
   exact ⟨rfl,below_drewN hw _⟩
  ·have hd1:decide (4096<N)=false:=by simpa using h1
   by_cases h2:(zs.length:Int)=(N+7) / 8
   ·generalize hlz:zs.length=n at *
    have HL:Hid (zs.length=n):=hlz
    clear hlz
    have h2':((n:Int) != (N+7) / 8)=false:=by simpa using h2
    have H2:Hid ((n:Int)=(N+7) / 8):=h2
    clear h2
    by_cases h3:N % 8=0
    ·have hE:okB N zs=true:=okB_full (by omega) (by omega) (by rw [HL.out];exact H2.out) h3
     have h3':(N % 8 == 0)=true:=by simpa using h3
     rw [hE]
     clear hE h3
     go_enter Tryz.func45,Tryz.ntmps45
     go_wp2
     go_quiet ((go_at_call 65;exact Calls.quiet_of_same (bytesFor_any _ _ (by omega) (by omega))))
     go_wp2
     go_ret
     exact ⟨rfl,below_drewN hw _⟩
    ·have hn1:1≤n:=by have:=H2.out;omega
     have h3':(N % 8 == 0)=false:=by simpa using h3
     obtain ⟨b,off,rfl,hbl,hc⟩:=hb.len_pos (n-1) (by rw [HL.out];omega)
     have hlast:=hc (n-1) (by rw [HL.out];omega)
     have hr:=getD_rng hb.1 (n-1)
     have hE:okB N zs=(zs.getD (n-1) 0 / 2 ^ (N % 8).toNat == 0):=by
      rw [okB_last (by omega) (by omega) (by rw [HL.out];exact H2.out) h3,HL.out]
     rw [hE]
     clear hE
     generalize zs.getD (n-1) 0=z at *
     go_enter Tryz.func45,Tryz.ntmps45
     go_wp2
     go_quiet ((go_at_call 65;exact Calls.quiet_of_same (bytesFor_any _ _ (by omega) (by omega))))
     go_wp2
     go_ret
     exact ⟨rfl,below_drewN hw _⟩
   ·have hE:okB N zs=false:=okB_len h2
    have h2':((zs.length:Int) != (N+7) / 8)=true:=by rw [bne_iff_ne];exact h2
    rw [hE]
    clear hE h2
    go_enter Tryz.func45,Tryz.ntmps45
    go_wp2
    go_quiet ((go_at_call 65;exact Calls.quiet_of_same (bytesFor_any _ _ (by omega) (by omega))))
    go_wp2
    go_ret
    exact ⟨rfl,below_drewN hw _⟩
theorem implSeal_yes (a:Option Addr) (cap:Nat) (zs:List Int) (k:Nat) (w:World) (hb:Byt w a zs) (hO:okB (k:Int) zs=true) (he:zs=enc k (val zs)) (hv:val zs<2 ^ k) (hk:k≤4096) :
  Calls Tryz.prog 74 #[.agg #[.slice a zs.length cap,.int .i64 k]] w fun e w'=>
   ∃ a' cp,e=.returned (.tuple #[.slice a' (enc (k+1) (val zs+2 ^ k)).length cp,.bool true])∧Mine w' (w.heap.size+1) w'.heap.size a' cp (enc (k+1) (val zs+2 ^ k))∧Below w.heap.size w w':=by
 have hw:Below w.heap.size w (w.alloc (Obj.cells #[.slice a zs.length cap,.int .i64 (k:Int)] 40)):=bAw
 have hl:zs.length≤1048576:=by rw [he,enc_len];omega
 have HO:Hid (okB (k:Int) zs=true):=hO
 have HE:Hid (zs=enc k (val zs)):=he
 have HV:Hid (val zs<2 ^ k):=hv
 clear hO he hv
 generalize hV:val zs=V at *
 clear hV
 go_enter Tryz.func74,Tryz.ntmps74
 go_wp2_with fail
 refine (implOk_any a cap zs _ _ (hb.below hw nl) (by omega)).mono ?_
 rintro e w1 ⟨rfl,hb1⟩
 rw [HO.out]
 have q0:w1.cell? ⟨w.heap.size,0,none⟩=some (.slice a zs.length cap):=keep hb1 (by simp) (by simp)
 have q1:w1.cell? ⟨w.heap.size,1,none⟩=some (.int .i64 k):=keep hb1 (by simp) (by simp)
 have z1:w.heap.size<w1.heap.size:=by have:=hb1.size;simp at this;omega
 have hbb:=hw.trans (hb1.mono (by simp))
 clear hb1 hw
 go_wp2_with fail
 refine (newWriter_any a cap zs (k:Int) 4097 _ (hb.below hbb nl) hl).mono ?_
 rintro e w2 ⟨R,g,rfl,hR,hown,hRge,hb2⟩
 have z2:=hb2.size
 have hbb2:=hbb.trans (hb2.mono (by omega))
 clear q0 q1 hb2
 have hE2:OwnV w2 (w.heap.size+1) (.slice (some ⟨g,0,none⟩) zs.length zs.length) (enc k V):=by
  have:=(hown.mono (B':=w.heap.size+1) (by omega)).v
  rw [←HE.out]
  exact this
 have hlt2:=hown.lt
 go_wp2_with fail
 refine (wput_yes R (w.heap.size+1) _ k V 1 1 4097 _ hR hE2 HV.out (by omega) (by omega) (by omega) (by omega) (by decide) (by omega) (by omega) (by omega)).mono ?_
 rintro e w3 ⟨rfl,v',hR3,hv3,honly3,hrow3⟩
 have e1:V+(1:Int).toNat*2 ^ k=V+2 ^ k:=by simp
 have e2:k+(1:Int).toNat=k+1:=by simp
 rw [e1,e2] at hv3
 have hbb3:Below w.heap.size w w3:=hbb2.trans (honly3.below (by omega) (fun kk hk=>by
  rcases hk with hk | hk
  ·omega
  ·simp [Value.ownBlock] at hk;omega))
 obtain ⟨a',cp,rfl,hmine⟩:=hv3.mine
 generalize hYS:enc (k+1) (V+2 ^ k)=ys at *
 have d0:w3.cell? ⟨R,0,none⟩=some (.slice a' ys.length cp):=cellR (j:=0) hR3 rfl
 have HYS:Hid (enc (k+1) (V+2 ^ k)=ys):=hYS
 have HM:Hid (Mine w3 (w.heap.size+1) w3.heap.size a' cp ys):=hmine
 have HBB:Hid (Below w.heap.size w w3):=hbb3
 clear hYS hR3 hv3 honly3 hrow3 hmine hbb3 hE2 hbb2 hbb hown hb hR e1 e2
 go_wp2
 go_ret2
 exact ⟨a',cp,by rw [HYS.out];rfl,by rw [HYS.out];exact HM.out,HBB.out⟩
end Go.Proofs.YtfeokafkhnbdiaaGreatDoor
