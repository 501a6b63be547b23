/- Lemmas on the way. -/
import Derived.Test.YtfeokafkhnbdiaaGreatDoorEnF
import Derived.Test.YtfeokafkhnbdiaaGreatDoorSy3
import Derived.Test.YtfeokafkhnbdiaaGreatDoorHPut3
import Derived.Test.YtfeokafkhnbdiaaGreatDoorWidth
set_option maxRecDepth 20000
set_option maxHeartbeats 16000000
namespace Go.Proofs.YtfeokafkhnbdiaaGreatDoor
open Go.RowKit
set_option linter.unusedVariables false
theorem isPiece_any (a:Option Addr) (c:Nat) (zs:List Int) (n d:Int) (m:Nat) (w:World) (hm:m≤64) (rn:rI n) (rd:rI d) :
  Calls Tryz.prog 39 #[.agg #[.slice a zs.length c,.int .i64 n,.int .i64 d],.int .i64 m] w fun e w'=>e=.returned (.bool (decide (3≤n∧n≤64-(m:Int)∧1≤d∧d≤(m:Int))))∧Below w.heap.size w w':=by
 have hw:Below w.heap.size w (w.alloc (Obj.cells #[.slice a zs.length c,.int .i64 n,.int .i64 d] 37)):=bAw
 obtain ⟨rn1,rn2⟩:=rn
 obtain ⟨rd1,rd2⟩:=rd
 by_cases q:3≤n∧n≤64-(m:Int)∧1≤d∧d≤(m:Int)
 ·have HE:Hid (decide (3≤n∧n≤64-(m:Int)∧1≤d∧d≤(m:Int))=true):=by simpa [Hid] using q
  generalize decide (3≤n∧n≤64-(m:Int)∧1≤d∧d≤(m:Int))=E at *
  obtain ⟨q1,q2,q3,q4⟩:=q
  go_enter Tryz.func39,Tryz.ntmps39
  go_wp2
  go_ret
  exact ⟨by rw [HE.out];first | rfl | (simp;omega),hw⟩
 ·have HE:Hid (decide (3≤n∧n≤64-(m:Int)∧1≤d∧d≤(m:Int))=false):=by simpa only [Hid,decide_eq_false_iff_not] using q
  have key:n<3∨(3≤n∧64-(m:Int)<n)∨(3≤n∧n≤64-(m:Int)∧d<1)∨(3≤n∧n≤64-(m:Int)∧1≤d∧(m:Int)<d):=by omega
  generalize decide (3≤n∧n≤64-(m:Int)∧1≤d∧d≤(m:Int))=E at *
  clear q
  rcases key with q1 | ⟨q1,q2⟩ | ⟨q1,q2,q3⟩ | ⟨q1,q2,q3,q4⟩
  all_goals
   go_enter Tryz.func39,Tryz.ntmps39
   go_wp2
   go_ret
   exact ⟨by rw [HE.out];first | rfl | (simp;omega),hw⟩
theorem isRest_any (a:Option Addr) (c:Nat) (zs:List Int) (n d:Int) (w:World) (hl:zs.length≤281474976710656) :
  Calls Tryz.prog 40 #[.agg #[.slice a zs.length c,.int .i64 n,.int .i64 d]] w fun e w'=>e=.returned (.bool (decide (n=0∧d=0∧0<zs.length)))∧Below w.heap.size w w':=by
 have hw:Below w.heap.size w (w.alloc (Obj.cells #[.slice a zs.length c,.int .i64 n,.int .i64 d] 37)):=bAw
 by_cases q1:n=0
 ·by_cases q2:d=0
  ·by_cases q3:0<zs.length
   ·have HE:Hid (decide (n=0∧d=0∧0<zs.length)=true):=by unfold Hid;rw [decide_eq_true_eq];exact ⟨q1,q2,q3⟩
    generalize decide (n=0∧d=0∧0<zs.length)=E at *
    subst q1 q2
    have q3':(0:Int)<zs.length:=by omega
    go_enter Tryz.func40,Tryz.ntmps40
    go_wp2
    go_ret
    exact ⟨by rw [HE.out];first | rfl | (simp;omega),hw⟩
   ·have HE:Hid (decide (n=0∧d=0∧0<zs.length)=false):=by unfold Hid;rw [decide_eq_false_iff_not];exact fun h=>q3 h.2.2
    generalize decide (n=0∧d=0∧0<zs.length)=E at *
    subst q1 q2
    obtain rfl:zs=[]:=List.eq_nil_of_length_eq_zero (by omega)
    clear q3
    go_enter Tryz.func40,Tryz.ntmps40
    go_wp2
    go_ret
    exact ⟨by rw [HE.out];first | rfl | (simp;omega),hw⟩
  ·have HE:Hid (decide (n=0∧d=0∧0<zs.length)=false):=by unfold Hid;rw [decide_eq_false_iff_not];exact fun h=>q2 h.2.1
   have q2':(d == 0)=false:=by rw [beq_eq_false_iff_ne];exact q2
   generalize decide (n=0∧d=0∧0<zs.length)=E at *
   subst q1
   clear q2
   go_enter Tryz.func40,Tryz.ntmps40
   go_wp2
   go_ret
   exact ⟨by rw [HE.out];first | rfl | (simp;omega),hw⟩
 ·have HE:Hid (decide (n=0∧d=0∧0<zs.length)=false):=by unfold Hid;rw [decide_eq_false_iff_not];exact fun h=>q1 h.1
  have q1':(n == 0)=false:=by rw [beq_eq_false_iff_ne];exact q1
  generalize decide (n=0∧d=0∧0<zs.length)=E at *
  clear q1
  go_enter Tryz.func40,Tryz.ntmps40
  go_wp2
  go_ret
  exact ⟨by rw [HE.out];first | rfl | (simp;omega),hw⟩
def sqz (ss:List Sq):Int:=match sqn ss with
 | some m=>m
 | none=>-1
theorem sqz_none {ss:List Sq} (h:sqn ss=none):sqz ss=-1:=by simp [sqz,h]
theorem sqz_some {ss:List Sq} {m:Nat} (h:sqn ss=some m):sqz ss=m:=by simp [sqz,h]
theorem stp_yes1 {last:Bool} {m:Nat} {s:Sq} (h:¬64<m+s.ls.length) (q:3≤s.n∧s.n≤64-((m+s.ls.length:Nat):Int)∧1≤s.d∧s.d≤((m+s.ls.length:Nat):Int)):stp last m s=some (m+s.ls.length+s.n.toNat):=by
 rw [stp_piece h (by omega),if_pos q]
theorem stp_yes2 {last:Bool} {m:Nat} {s:Sq} (h:¬64<m+s.ls.length) (hl:last=true) (q:s.n=0∧s.d=0∧0<s.ls.length):stp last m s=some (m+s.ls.length+s.n.toNat):=by
 rw [stp_rest h q.1,if_pos ⟨q.2.1,hl,q.2.2⟩,q.1]
 simp
theorem stp_no {last:Bool} {m:Nat} {s:Sq} (h:¬64<m+s.ls.length) (q1:¬(3≤s.n∧s.n≤64-((m+s.ls.length:Nat):Int)∧1≤s.d∧s.d≤((m+s.ls.length:Nat):Int))) (q2:¬(last=true∧s.n=0∧s.d=0∧0<s.ls.length)):stp last m s=none:=by
 by_cases h0:s.n=0
 ·rw [stp_rest h h0,if_neg (fun hh=>q2 ⟨hh.2.1,h0,hh.1,hh.2.2⟩)]
 ·rw [stp_piece h h0,if_neg q1]
theorem implSeqBytes_any (a:Option Addr) (cap:Nat) (ss:List Sq) (w:World) (hb:Sqs w a ss) (hx:ss.length≤281474976710656) (hxl:∀ s ∈ ss,s.ls.length≤281474976710656) :
  Calls Tryz.prog 15 #[.slice a ss.length cap] w fun e w'=>e=.returned (.int .i64 (sqz ss))∧Below w.heap.size w w':=by
 by_cases h40:ss.length≤40
 ·have HSS:Hid (Sqs w a ss):=hb
  have HXL:Hid (∀ s ∈ ss,s.ls.length≤281474976710656):=hxl
  have HST:Hid _:=fun k m=>@sqc_step ss k m
  have HNO:Hid _:=fun k m=>@sqn_none ss k m
  have HYE:Hid _:=fun m=>@sqn_some ss m
  have HZN:Hid _:=@sqz_none ss
  have HZS:Hid _:=@sqz_some ss
  clear hb hxl
  generalize hlen:ss.length=n at *
  have HL:Hid (ss.length=n):=hlen
  clear hlen
  generalize sqz ss=Z at *
  go_enter Tryz.func15,Tryz.ntmps15
  go_wp2
  go_loopw [3,12] (fun x i wr=>∃ k m:Nat,k≤n∧m≤64∧i=.int .i64 k∧x=.int .i64 m∧sqc ss k=some m∧Below w.heap.size w wr) (fun _ i _=>n-(intOf i).toNat)
  case atStart=>exact ⟨0,0,Nat.zero_le _,by omega,rfl,rfl,rfl,Below.refl _ _⟩
  case round=>
   obtain ⟨k,m,hk,hm,rfl,rfl,hsq,hbel⟩:=hrel
   have HSQ:Hid (sqc ss k=some m):=hsq
   clear hsq
   by_cases hlt:k<n
   ·obtain ⟨b,off,rfl,hb1,hc1⟩:=(HSS.out.below hbel nl).len_pos k (by rw [HL.out];exact hlt)
    have hli:=hc1 k (by rw [HL.out];exact hlt)
    have hrg:=HSS.out.rng k (by rw [HL.out];exact hlt)
    have hll:=HXL.out _ (getD_memS (k:=k) (by rw [HL.out];exact hlt))
    have HS:=HST.out k m HSQ.out
    have HN:=HNO.out k m HSQ.out hlt
    clear hc1
    generalize ss.getD k dq=s at *
    obtain ⟨sa,sc,sl,sn,sd⟩:=s
    obtain ⟨c0,c1,c2,hby⟩:=hli
    simp only at c0 c1 c2 hrg hll
    have HRG:Hid (rI sn∧rI sd):=⟨hrg.1,hrg.2.1⟩
    obtain ⟨⟨rn1,rn2⟩,⟨rd1,rd2⟩,-⟩:=hrg
    have HB2:Hid (Below w.heap.size w (wr.alloc (Obj.cells #[.slice sa sl.length sc,.int .i64 sn,.int .i64 sd] 37))):=hbel.alloc hbel.size _
    have HW:Hid (wr.heap.size<(wr.alloc (Obj.cells #[.slice sa sl.length sc,.int .i64 sn,.int .i64 sd] 37)).heap.size):=by simp [Hid]
    clear hby
    by_cases g1:64<m+sl.length
    ·have HF:Hid (Z=-1):=HZN.out (HN (stp_over g1))
     have g1':64-(m:Int)<sl.length:=by omega
     clear HS HN
     go_wp2
     go_ret
     exact ⟨by rw [HF.out];rfl,HB2.out⟩
    ·have g1':¬64-(m:Int)<sl.length:=by omega
     have HN1:=fun q1 q2=>HN (stp_no (s:=⟨sa,sc,sl,sn,sd⟩) g1 q1 q2)
     have HY1:=fun q=>HS.trans (stp_yes1 (s:=⟨sa,sc,sl,sn,sd⟩) g1 q)
     have HY2:=fun hl q=>HS.trans (stp_yes2 (s:=⟨sa,sc,sl,sn,sd⟩) g1 hl q)
     simp only at HN1 HY1 HY2
     have r0:(wr.alloc (Obj.cells #[.slice sa sl.length sc,.int .i64 sn,.int .i64 sd] 37)).cell? ⟨wr.heap.size,0,none⟩=some (.slice sa sl.length sc):=by simp
     have r1:(wr.alloc (Obj.cells #[.slice sa sl.length sc,.int .i64 sn,.int .i64 sd] 37)).cell? ⟨wr.heap.size,1,none⟩=some (.int .i64 sn):=by simp
     have r2:(wr.alloc (Obj.cells #[.slice sa sl.length sc,.int .i64 sn,.int .i64 sd] 37)).cell? ⟨wr.heap.size,2,none⟩=some (.int .i64 sd):=by simp
     have HPC:=isPiece_any sa sc sl sn sd (m+sl.length) (wr.alloc (Obj.cells #[.slice sa sl.length sc,.int .i64 sn,.int .i64 sd] 37)) (by omega) HRG.out.1 HRG.out.2
     have hcast:((m+sl.length:Nat):Int)=(m:Int)+sl.length:=by omega
     rw [hcast] at HPC HN1 HY1
     clear HS HN hcast
     go_wp2_with fail
     generalize wr.alloc (Obj.cells #[.slice sa sl.length sc,.int .i64 sn,.int .i64 sd] 37)=W at *
     refine HPC.mono ?_
     clear HPC
     rintro e w1 ⟨rfl,hb2⟩
     have q0:=keep hb2 HW.out r0
     have q1:=keep hb2 HW.out r1
     have q2:=keep hb2 HW.out r2
     have HB3:Hid (Below w.heap.size w w1):=HB2.out.trans (hb2.mono HB2.out.size)
     clear hb2 r0 r1 r2 c0 c1 c2
     by_cases q:3≤sn∧sn≤64-((m:Int)+sl.length)∧1≤sd∧sd≤(m:Int)+sl.length
     ·rw [decide_eq_true q]
      have HS2:Hid (sqc ss (k+1)=some (m+sl.length+sn.toNat)):=HY1 q
      obtain ⟨u1,u2,u3,u4⟩:=q
      clear HN1 HY1 HY2
      go_wp2
      go_roundw
      case rel=>exact ⟨k+1,m+sl.length+sn.toNat,by omega,by omega,by go_num,by go_num,HS2.out,HB3.out⟩
      case measure=>simp [intOf];omega
     ·rw [decide_eq_false q]
      have HNQ:Hid (¬(3≤sn∧sn≤64-((m:Int)+sl.length)∧1≤sd∧sd≤(m:Int)+sl.length)):=q
      clear HY1 q
      by_cases hla:k+1=n
      ·have hla':((k:Int) == (n:Int)-1)=true:=by rw [beq_iff_eq];omega
       have HRS:=isRest_any sa sc sl sn sd w1 hll
       go_wp2_with fail
       refine HRS.mono ?_
       clear HRS
       rintro e w2 ⟨rfl,hb4⟩
       have hz1:wr.heap.size<w1.heap.size:=World.block_lt_of_cell? _ _ q0
       have v1:=keep hb4 hz1 q1
       have HB4:Hid (Below w.heap.size w w2):=HB3.out.trans (hb4.mono HB3.out.size)
       clear hb4 q0 q1 q2
       by_cases qr:sn=0∧sd=0∧0<sl.length
       ·rw [decide_eq_true qr]
        have HS2:Hid (sqc ss (k+1)=some (m+sl.length+sn.toNat)):=HY2 (by simpa using hla) qr
        obtain ⟨rfl,rfl,u3⟩:=qr
        clear HN1 HY2
        go_wp2
        go_roundw
        case rel=>exact ⟨k+1,m+sl.length+(0:Int).toNat,by omega,by simp;omega,by go_num,by go_num,HS2.out,HB4.out⟩
        case measure=>simp [intOf];omega
       ·rw [decide_eq_false qr]
        have HF:Hid (Z=-1):=HZN.out (HN1 HNQ.out (fun h=>qr h.2))
        clear HN1 HY2 qr
        go_wp2
        go_ret
        exact ⟨by rw [HF.out];rfl,HB4.out⟩
      ·have hla':((k:Int) == (n:Int)-1)=false:=by rw [beq_eq_false_iff_ne];omega
       have HF:Hid (Z=-1):=HZN.out (HN1 HNQ.out (fun h=>hla (by simpa using h.1)))
       clear HN1 HY2
       go_wp2
       go_ret
       exact ⟨by rw [HF.out];rfl,HB3.out⟩
   ·have hkn:k=n:=by omega
    subst hkn
    have HF:Hid (Z=(m:Int)):=HZS.out (HYE.out m HSQ.out h40)
    go_wp2
    go_ret
    exact ⟨by rw [HF.out];rfl,hbel⟩
 ·have HF:Hid (sqz ss=-1):=sqz_none (sqn_len (by omega))
  go_enter Tryz.func15,Tryz.ntmps15
  go_wp2
  go_ret
  exact ⟨by rw [HF.out];rfl,Below.refl _ _⟩
theorem implSeqsOk_any (a:Option Addr) (cap:Nat) (ss:List Sq) (w:World) (hb:Sqs w a ss) (hx:ss.length≤281474976710656) (hxl:∀ s ∈ ss,s.ls.length≤281474976710656) :
  Calls Tryz.prog 13 #[.slice a ss.length cap] w fun e w'=>e=.returned (.bool (sqn ss).isSome)∧Below w.heap.size w w':=by
 have HSB:=implSeqBytes_any a cap ss w hb hx hxl
 cases hs:sqn ss with
 | none=>
  rw [sqz_none hs] at HSB
  go_enter Tryz.func13,Tryz.ntmps13
  go_wp2_with fail
  refine HSB.mono ?_
  rintro e w1 ⟨rfl,hb1⟩
  clear HSB
  go_wp2
  go_ret
  exact ⟨rfl,hb1⟩
 | some m=>
  rw [sqz_some hs] at HSB
  go_enter Tryz.func13,Tryz.ntmps13
  go_wp2_with fail
  refine HSB.mono ?_
  rintro e w1 ⟨rfl,hb1⟩
  clear HSB
  go_wp2
  go_ret
  exact ⟨rfl,hb1⟩
set_option linter.unusedSimpArgs false
structure AnsY (w w':World) (sa:Option Addr) (sc:Nat) (va:Option Addr) (vc:Nat) (ts zs:List Int):Prop where
 mi:MinI w' w.heap.size w'.heap.size sa sc ts
 mb:Mine w' w.heap.size w'.heap.size va vc zs
 bel:Below w.heap.size w w'
def noY (w w':World) (e:Ending):Prop:=e=.returned (.tuple #[.slice none 0 0,.agg #[.slice none 0 0,.int .i64 0],.bool false])∧Below w.heap.size w w'
def yesY (w w':World) (ss:List Sq) (e:Ending):Prop:=∃ sa sc va vc,e=.returned (.tuple #[.slice sa (syOf ss).1.length sc,.agg #[.slice va (enc (syOf ss).2.1 (syOf ss).2.2).length vc,.int .i64 ((syOf ss).2.1:Nat)],.bool true])∧AnsY w w' sa sc va vc (syOf ss).1 (enc (syOf ss).2.1 (syOf ss).2.2)
def syA (w w':World) (ss:List Sq) (e:Ending):Prop:=((sqn ss).isSome=true→yesY w w' ss e)∧((sqn ss).isSome=false→noY w w' e)
theorem syA.no {w w':World} {ss:List Sq} {e:Ending} (h:(sqn ss).isSome=false) (hn:noY w w' e):syA w w' ss e:=And.intro (fun h'=>by rw [h] at h';cases h') (fun _=>hn)
theorem syA.yes {w w':World} {ss:List Sq} {e:Ending} (h:(sqn ss).isSome=true) (hn:yesY w w' ss e):syA w w' ss e:=And.intro (fun _=>hn) (fun h'=>by rw [h] at h';cases h')
theorem minI_out {S:Nat→Prop} {w w':World} {B B':Nat} {v:Value} {zs:List Int} (h:OVI w B v zs) (ho:Only S w w') (hs:∀ k,B≤k→¬S k) (hB:B'≤B):∃ a c,v=.slice a zs.length c∧MinI w' B' w'.heap.size a c zs:=by
 obtain ⟨a,c,e,hm⟩:=(ovi_weakS h ho hs hB).mine
 exact ⟨a,c,e,hm⟩
theorem ansY_fin {w w3:World} {C:Nat} {sa:Option Addr} {sc:Nat} {va:Option Addr} {vc:Nat} {ts zs:List Int} {x y:Value} (h1:OVI w3 C (.slice sa ts.length sc) ts) (h2:OwnV w3 C (.slice va zs.length vc) zs) (h3:Below w.heap.size w w3) (hC:w.heap.size<C) :
  AnsY w (((w3.setCell ⟨w.heap.size,0,none⟩ x).setCell ⟨w.heap.size,1,none⟩ y).drew) sa sc va vc ts zs:=by
 have ho:Only (fun b=>b=w.heap.size) w3 (((w3.setCell ⟨w.heap.size,0,none⟩ x).setCell ⟨w.heap.size,1,none⟩ y).drew):=(((Only.refl (fun b=>b=w.heap.size) w3).setCell (p:=⟨w.heap.size,0,none⟩) (.inl rfl) _).setCell (p:=⟨w.heap.size,1,none⟩) (.inl rfl) _).drew
 obtain ⟨a5,c5,e5,h5⟩:=minI_out h1 ho (fun k hk=>by omega) (Nat.le_of_lt hC)
 obtain ⟨rfl,rfl⟩:sa=a5∧sc=c5:=by simpa using e5
 obtain ⟨a6,c6,e6,h6⟩:=(ownV_weakS h2 ho (fun k hk=>by omega) (Nat.le_of_lt hC)).mine
 obtain ⟨rfl,rfl⟩:va=a6∧vc=c6:=by simpa using e6
 exact ⟨h5,h6,h3.trans (ho.below h3.size (fun k hk=>by omega))⟩
theorem implSymbols_any (a:Option Addr) (cap:Nat) (ss:List Sq) (w:World) (hb:Sqs w a ss) (hx:ss.length≤1048576) (hxl:∀ s ∈ ss,s.ls.length≤1048576) :
  Calls Tryz.prog 19 #[.slice a ss.length cap] w fun e w'=>syA w w' ss e:=by
 have hw:Below w.heap.size w (w.alloc (Obj.cells #[.slice none 0 0,.int .i64 0] 40)):=bAw
 have HC:=implSeqsOk_any a cap ss _ (hb.below hw nl) (by omega) (fun s hs=>by have:=hxl s hs;omega)
 have r0:(w.alloc (Obj.cells #[.slice none 0 0,.int .i64 0] 40)).heap[w.heap.size]?=some (.cells #[.slice none 0 0,.int .i64 0] 40 (0,0)):=heap_alloc_new w _
 have HH:Hid (Sqs w a ss):=hb
 clear hb hxl
 go_enter Tryz.func19,Tryz.ntmps19
 go_wp2_with fail
 refine HC.mono ?_
 clear HC
 rintro e w1 ⟨rfl,hb1⟩
 have hX1:w1.heap[w.heap.size]?=some (.cells #[.slice none 0 0,.int .i64 0] 40 (0,0)):=(hb1.block w.heap.size (by simp)).trans r0
 have HB1:Hid (Below w.heap.size w w1∧w1.heap[w.heap.size]?=some (.cells #[.slice none 0 0,.int .i64 0] 40 (0,0))∧w.heap.size<w1.heap.size):=⟨hw.trans (hb1.mono (by simp)),hX1,(Array.getElem?_eq_some_iff.1 hX1).1⟩
 have x0:w1.cell? ⟨w.heap.size,0,none⟩=some (.slice none 0 0):=cellRR (j:=0) hX1 rfl
 have x1:w1.cell? ⟨w.heap.size,1,none⟩=some (.int .i64 0):=cellRR (j:=1) hX1 rfl
 have y0:=frozen_of_row w1 w.heap.size 0 _ _ hX1
 have y1:=frozen_of_row w1 w.heap.size 1 _ _ hX1
 clear hb1 hw r0 hX1
 cases hso:(sqn ss).isSome with
 | false=>
  have HSO:Hid ((sqn ss).isSome=false):=hso
  have HBF:Hid (Below w.heap.size w ((w1.setCell ⟨w.heap.size,0,none⟩ (.slice none 0 0)).setCell ⟨w.heap.size,1,none⟩ (.int .i64 0))):=(HB1.out.1.setCell (p:=⟨w.heap.size,0,none⟩) nl _).setCell (p:=⟨w.heap.size,1,none⟩) nl _
  clear hso
  go_wp2
  exact bodyPost_ret (v:=.tuple #[.slice none 0 0,.agg #[.slice none 0 0,.int .i64 0],.bool false]) (by simp [results,Tryz.results19,go_sem,x0,x1]) rfl (syA.no HSO.out ⟨rfl,HBF.out⟩)
 | true=>
  have HSO:Hid ((sqn ss).isSome=true∧SyOk ss):=⟨hso,SyOk.of hso⟩
  have HNW:=newWriter_any none 0 [] 0 4096 w1 ⟨by simp,by simp⟩ (by simp)
  clear hso x0 x1 y0 y1
  go_wp2_with fail
  refine HNW.mono ?_
  clear HNW
  rintro e w2 ⟨R,g,rfl,hR,hown,hRge,hb2⟩
  have HST:Hid (SwS (w2.alloc (Obj.cells #[.slice none 0 0,.pointer (some ⟨R,0,none⟩)] 68)) w1.heap.size w2.heap.size R ([],0,0)∧Below w1.heap.size w1 (w2.alloc (Obj.cells #[.slice none 0 0,.pointer (some ⟨R,0,none⟩)] 68))):=by
   have hWI:WI w2 w1.heap.size R 0 0:=WI.new hR hown hRge hb2.size
   have hA:Below w2.heap.size w2 (w2.alloc (Obj.cells #[.slice none 0 0,.pointer (some ⟨R,0,none⟩)] 68)):=bAw
   exact ⟨⟨⟨none,0,heap_alloc_new w2 _,OVI.nil _ _⟩,hWI.stay hA,hb2.size⟩,hb2.trans (hA.mono hb2.size)⟩
  clear hR hown
  have HLN:Hid (∃ n,ss.length=n):=⟨_,rfl⟩
  obtain ⟨n,hn⟩:=HLN.out
  have HN:Hid (ss.length=n∧True):=⟨hn,trivial⟩
  have hn40:n≤40:=by rw [←hn];exact HSO.out.2.few
  rw [hn]
  clear hn HLN hb2 hRge hx
  go_wp2
  generalize w2.alloc (Obj.cells #[.slice none 0 0,.pointer (some ⟨R,0,none⟩)] 68)=W3 at *
  generalize w2.heap.size=P at *
  go_loopw [19] (fun iv wr=>∃ k:Nat,k≤n∧iv=.int .i64 k∧SwS wr w1.heap.size P R (syOf (ss.take k))∧Below w1.heap.size w1 wr) (fun iv _=>n-(intOf iv).toNat)
  case atStart=>exact ⟨0,Nat.zero_le _,rfl,by simpa [syOf] using HST.out.1,HST.out.2⟩
  case round=>
   clear HST
   obtain ⟨k,hk,rfl,hsy,hbel⟩:=hrel
   have hbb:=HB1.out.1.trans (hbel.mono (Nat.le_of_lt HB1.out.2.2))
   have HS:Hid (SwS wr w1.heap.size P R (syOf (ss.take k))∧Below w1.heap.size w1 wr∧Below w.heap.size w wr):=⟨hsy,hbel,hbb⟩
   clear hsy hbel
   by_cases hlt:k<n
   ·obtain ⟨b,off,rfl,hbw,hly⟩:=HH.out.len_pos k (by rw [HN.out.1];exact hlt)
    have hl0:=(hly k (by rw [HN.out.1];exact hlt)).below hbb nl hbw
    have hl1:=(hly k (by rw [HN.out.1];exact hlt)).below HB1.out.1 nl hbw
    have d0:=hl0.c0
    have d1:=hl0.c1
    have d2:=hl0.c2
    have hby:=hl1.byt
    have hbn:=HSO.out.2.bnd k (by rw [HN.out.1];exact hlt)
    have hnm:=HSO.out.2.nums k (by rw [HN.out.1];exact hlt)
    have HTK:Hid (syOf (ss.take (k+1))=putQ (syOf (ss.take k)) (ss.getD k dq)∧True):=⟨syOf_take ss k (by rw [HN.out.1];exact hlt),trivial⟩
    clear hly hl0 hl1 hbb
    generalize ss.getD k dq=q at *
    generalize syOf (ss.take k)=st at *
    obtain ⟨qa,qc,ql,qn,qd⟩:=q
    simp only at hbn hnm d0 d1 d2 hby
    have hA:Below wr.heap.size wr (wr.alloc (Obj.cells #[.slice qa ql.length qc,.int .i64 qn,.int .i64 qd] 37)):=bAw
    have HC:=putSeq_any w1.heap.size P R qa qc ql qn qd st w1 (wr.alloc (Obj.cells #[.slice qa ql.length qc,.int .i64 qn,.int .i64 qd] 37)) rfl (HS.out.2.1.trans (hA.mono HS.out.2.1.size)) (HS.out.1.below hA) hby hnm hbn
    clear hby hnm hbn hA
    go_wp2_with fail
    refine HC.mono ?_
    clear HC
    rintro e w5 ⟨rfl,hs5,hb5⟩
    have HS5:Hid (SwS w5 w1.heap.size P R (syOf (ss.take (k+1)))∧Below w1.heap.size w1 w5):=⟨by rw [HTK.out.1];exact hs5,hb5⟩
    clear hs5 hb5 HS d0 d1 d2
    go_wp2
    go_roundw
    case rel=>exact ⟨k+1,by omega,by go_num,HS5.out.1,HS5.out.2⟩
    case measure=>simp [intOf];omega
   ·have hkn:k=n:=by omega
    subst hkn
    have HTE:Hid (syOf (ss.take k)=syOf ss∧True):=⟨by rw [List.take_of_length_le (by rw [HN.out.1];exact Nat.le_refl _)],trivial⟩
    rw [HTE.out.1] at HS
    obtain ⟨sa,sc,hP,hov⟩:=HS.out.1.box
    obtain ⟨v,hR,hv,hV,hBR,-⟩:=HS.out.1.wi
    obtain ⟨va,vc,rfl,-⟩:=hv.mine
    have hX:wr.heap[w.heap.size]?=some (.cells #[.slice none 0 0,.int .i64 0] 40 (0,0)):=(HS.out.2.1.block w.heap.size HB1.out.2.2).trans HB1.out.2.1
    have HFIN:Hid (AnsY w (((wr.setCell ⟨w.heap.size,0,none⟩ (.slice va (enc (syOf ss).2.1 (syOf ss).2.2).length vc)).setCell ⟨w.heap.size,1,none⟩ (.int .i64 ((syOf ss).2.1:Nat))).drew) sa sc va vc (syOf ss).1 (enc (syOf ss).2.1 (syOf ss).2.2)):=ansY_fin hov hv HS.out.2.2 HB1.out.2.2
    have x0:wr.cell? ⟨w.heap.size,0,none⟩=some (.slice none 0 0):=cellRR (j:=0) hX rfl
    have x1:wr.cell? ⟨w.heap.size,1,none⟩=some (.int .i64 0):=cellRR (j:=1) hX rfl
    have y0:=frozen_of_row wr w.heap.size 0 _ _ hX
    have y1:=frozen_of_row wr w.heap.size 1 _ _ hX
    have p0:wr.cell? ⟨P,0,none⟩=some (.slice sa (syOf ss).1.length sc):=cellRR (j:=0) hP rfl
    have p1:wr.cell? ⟨P,1,none⟩=some (.pointer (some ⟨R,0,none⟩)):=cellRR (j:=1) hP rfl
    have r0:wr.cell? ⟨R,0,none⟩=some (.slice va (enc (syOf ss).2.1 (syOf ss).2.2).length vc):=cellRR (j:=0) hR rfl
    have r1:wr.cell? ⟨R,1,none⟩=some (.int .i64 ((syOf ss).2.1:Nat)):=cellRR (j:=1) hR rfl
    clear hP hov hR hv hV hX HS HTE HH hbb
    go_wp2
    go_region
    all_goals go_wp2
    all_goals exact bodyPost_ret (v:=.tuple #[.slice sa (syOf ss).1.length sc,.agg #[.slice va (enc (syOf ss).2.1 (syOf ss).2.2).length vc,.int .i64 ((syOf ss).2.1:Nat)],.bool true]) (by simp [results,Tryz.results19,go_sem,x0,x1]) rfl (syA.yes HSO.out.1 ⟨sa,sc,va,vc,rfl,HFIN.out⟩)
theorem heap3 (w:World) (o1 o2 o3:Obj):(((w.alloc o1).alloc o2).alloc o3).drew.heap[w.heap.size+1+1]?=some o3:=by
 show (((w.heap.push o1).push o2).push o3)[w.heap.size+1+1]?=_
 simp only [Array.getElem?_push,Array.size_push,if_true]
theorem cell3 (w:World) (o1 o2 o3:Obj) (b o:Nat) (h:b<w.heap.size):(((w.alloc o1).alloc o2).alloc o3).drew.cell? ⟨b,o,none⟩=w.cell? ⟨b,o,none⟩:=
 ((((Below.refl w.heap.size w).alloc nl o1).alloc (by simp) o2).alloc (by simp;omega) o3).drew.cell (p:=⟨b,o,none⟩) h
theorem le3 (w:World) (o1 o2 o3:Obj):w.heap.size+1+1≤(((w.alloc o1).alloc o2).alloc o3).drew.heap.size:=by
 show w.heap.size+1+1≤(((w.heap.push o1).push o2).push o3).size
 simp
theorem after3 {w w1:World} {x0 x1 y0 y1:Value} {T U:TypeId} {o3:Obj} {row:Option Nat} (h:(((w.alloc (.cells #[x0,x1] T)).alloc (.cells #[y0,y1] U)).alloc o3).drew.grownBy w1 row) (hr:row=some (w.heap.size+1+1)) :
  w1.cell? ⟨w.heap.size,0,none⟩=some x0∧w1.cell? ⟨w.heap.size,1,none⟩=some x1∧w1.cell? ⟨w.heap.size+1,0,none⟩=some y0∧w1.cell? ⟨w.heap.size+1,1,none⟩=some y1 ∧
   w1.frozen? ⟨w.heap.size+1,0,none⟩=false∧w1.frozen? ⟨w.heap.size+1,1,none⟩=false∧Below w.heap.size w w1:=by
 subst hr
 have hb:Below (w.heap.size+1+1) (((w.alloc (.cells #[x0,x1] T)).alloc (.cells #[y0,y1] U)).alloc o3) w1:=
  ⟨h.os,h.tape,h.output,h.size,fun k hk=>h.block k (by show k<(((w.heap.push _).push _).push _).size;simp;omega) (by simp;omega)⟩
 have f:∀ j,(((w.alloc (.cells #[x0,x1] T)).alloc (.cells #[y0,y1] U)).alloc o3).frozen? ⟨w.heap.size+1,j,none⟩=false:=fun j=>
  (((Below.refl ((w.alloc (.cells #[x0,x1] T)).alloc (.cells #[y0,y1] U)).heap.size _).alloc nl o3).frozen (p:=⟨w.heap.size+1,j,none⟩) (by simp)).trans (by simp)
 refine ⟨keep hb (by omega) (keepA _ (by simp;omega) (keepA _ (by simp) (by simp))),keep hb (by omega) (keepA _ (by simp;omega) (keepA _ (by simp) (by simp))),keep hb (by omega) (keepA _ (by simp) (by simp)),keep hb (by omega) (keepA _ (by simp) (by simp)),?_,?_,?_⟩
 ·exact (hb.frozen (p:=⟨w.heap.size+1,0,none⟩) (by simp)).trans (f 0)
 ·exact (hb.frozen (p:=⟨w.heap.size+1,1,none⟩) (by simp)).trans (f 1)
 ·exact ((((Below.refl w.heap.size w).alloc nl _).alloc (by simp) _).alloc (by simp;omega) _).trans (hb.mono (by omega))
theorem l1own_some (b off cap:Nat) (zs:List Int) (N:Int) (w:World) (hb:Byt w (some ⟨b,off,none⟩) zs) (hn:zs.length≤1048576) (hp:0<zs.length) (hbl:b<w.heap.size) :
  Calls Tryz.prog 139 #[.agg #[.slice (some ⟨b,off,none⟩) zs.length cap,.int .i64 N]] w fun e w'=>
   ∃ g cp,e=.returned (.agg #[.slice (some ⟨g,0,none⟩) zs.length cp,.int .i64 N])∧Own w' w.heap.size g cp zs∧Below w.heap.size w w':=by
 obtain ⟨i0,hi,hz0,hz1,hz2⟩:=info_parts Tryz.infoU8
 have hown0:∀ W:World,W.heap[w.heap.size+1+1]?=some (.cells #[] 5 (0,0))→W.ownsRow (w.heap.size+1+1) 5 1 (.slice (some ⟨w.heap.size+1+1,0,none⟩) 0 0) 0 []:=
  fun W h=>⟨rfl,.inr ⟨_,0,#[],rfl,Nat.le_refl _,h,Nat.le_refl _,by simp,rfl,rfl⟩⟩
 have hnews:∀ W:World,(∀ i,i<zs.length→W.cell? ⟨b,off+i,none⟩=w.cell? ⟨b,off+i,none⟩)→∀ j u,(zs.map (Value.int .u8))[j]?=some u→W.cell? ((⟨b,off,none⟩:Addr).add j)=some u:=by
  intro W hW
  obtain ⟨b',off',he,_,hc⟩:=hb.2 hp
  simp at he
  obtain ⟨rfl,rfl⟩:=he
  exact news_of (fun i hi=>(hW i hi).trans (hc i hi))
 go_enter Tryz.func139,Tryz.ntmps139
 go_wp2
 go_region_law (refine step_append_lies _ rfl (.tmp 3) (.tmp 5) 22 rfl (w.heap.size+1+1) 5 i0 (.int .u8 0) 1 1 Tryz.underlying22 hi hz0 hz1 hz2 rfl (by decide) (.slice (some ⟨w.heap.size+1+1,0,none⟩) 0 0) 0 [] (by simp [Act.eval]) (hown0 _ (by exact heap3 w _ _ _)) ⟨b,off,none⟩ zs.length cap (zs.map (Value.int .u8)) (by simp [Act.eval]) (by simp) (hnews _ (fun i hi=>by exact cell3 w _ _ _ b (off+i) hbl)) (oneCells zs) hp (by unfold maxLen;omega) (by omega) (by exact le3 w _ _ _) _ rfl ?_;intro g cp w1 hown hgrow hat hlt;obtain ⟨a0,a1,a2,a3,f2,f3,hbb⟩:=after3 hgrow rfl;clear hgrow hat)
 all_goals
  have HO:Hid (Own w1 (w.heap.size+1+1) g cp zs):=⟨by simpa using hown,hb.1⟩
  have HBB:Hid (Below w.heap.size w w1):=hbb
  clear hown hbb
  go_wp2
  refine bodyPost_ret (v:=.agg #[.slice (some ⟨g,0,none⟩) zs.length cp,.int .i64 N]) (by simp [results,Tryz.results139,go_sem,a2,a3]) rfl ⟨g,cp,rfl,?_,?_⟩
  ·refine Own.mono (B:=w.heap.size+1+1) ?_ (by omega)
   have hlt2:=HO.out.lt.1
   repeat (refine Own.setCell_other ?_ (by simp;omega) _)
   exact HO.out
  ·repeat (refine Below.setCell ?_ (by first | (simp;done) | (simp;omega)) _)
   exact HBB.out
theorem own_empty3 (w:World) (o1 o2:Obj):Own (((w.alloc o1).alloc o2).alloc (.cells #[] 5)).drew w.heap.size (w.heap.size+1+1) 0 []:=
 ⟨⟨rfl,.inr ⟨_,0,#[],rfl,by omega,heap3 w o1 o2 _,Nat.le_refl _,by simp,rfl,rfl⟩⟩,by simp⟩
theorem bel3 (w:World) (o1 o2 o3:Obj):Below w.heap.size w (((w.alloc o1).alloc o2).alloc o3).drew:=
 ((((Below.refl w.heap.size w).alloc nl o1).alloc (by simp) o2).alloc (by simp;omega) o3).drew
theorem l1own_none (a:Option Addr) (cap:Nat) (N:Int) (w:World) :
  Calls Tryz.prog 139 #[.agg #[.slice a 0 cap,.int .i64 N]] w fun e w'=>
   ∃ g cp,e=.returned (.agg #[.slice (some ⟨g,0,none⟩) 0 cp,.int .i64 N])∧Own w' w.heap.size g cp []∧Below w.heap.size w w':=by
 obtain ⟨i0,hi,hz0,hz1,hz2⟩:=info_parts Tryz.infoU8
 rcases a with _ | x
 all_goals
  go_enter Tryz.func139,Tryz.ntmps139
  go_wp2
  go_region
  go_wp2
  refine bodyPost_ret (v:=.agg #[.slice (some ⟨w.heap.size+1+1,0,none⟩) 0 0,.int .i64 N]) (by simp [results,Tryz.results139,go_sem]) rfl ⟨w.heap.size+1+1,0,rfl,?_,?_⟩
  ·exact own_empty3 w _ _
  ·exact bel3 w _ _ _
theorem l1own_any (a:Option Addr) (cap:Nat) (zs:List Int) (N:Int) (w:World) (hb:Byt w a zs) (hn:zs.length≤1048576) :
  Calls Tryz.prog 139 #[.agg #[.slice a zs.length cap,.int .i64 N]] w fun e w'=>
   ∃ g cp,e=.returned (.agg #[.slice (some ⟨g,0,none⟩) zs.length cp,.int .i64 N])∧Own w' w.heap.size g cp zs∧Below w.heap.size w w':=by
 by_cases hp:0<zs.length
 ·obtain ⟨b,off,rfl,hbl,hc⟩:=hb.2 hp
  exact l1own_some b off cap zs N w hb hn hp hbl
 ·obtain rfl:zs=[]:=List.eq_nil_of_length_eq_zero (by omega)
  exact l1own_none a cap N w
end Go.Proofs.YtfeokafkhnbdiaaGreatDoor
