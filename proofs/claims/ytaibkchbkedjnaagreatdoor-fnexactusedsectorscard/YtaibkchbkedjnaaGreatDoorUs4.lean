/-
  The program's seqsOf.
-/
import Derived.Test.YtaibkchbkedjnaaGreatDoorSqA
import Derived.Test.YtaibkchbkedjnaaGreatDoorUs3
import Derived.Test.YtaibkchbkedjnaaGreatDoorUs1
import Derived.Test.YtaibkchbkedjnaaGreatDoorPut1
namespace Go.Proofs.YtaibkchbkedjnaaGreatDoor
open Go.RowKit
set_option linter.unusedVariables false

def stp (last:Bool) (m:Nat) (s:Sq):Option Nat:=
 if 64<m+s.ls.length then none
 else if s.n=0 then (if s.d=0∧last=true∧0<s.ls.length then some (m+s.ls.length) else none)
 else if 3≤s.n∧s.n≤64 - ((m+s.ls.length:Nat):Int)∧1≤s.d∧s.d≤((m+s.ls.length:Nat):Int) then some (m+s.ls.length+s.n.toNat)
 else none
def sqc (ss:List Sq):Nat→Option Nat
 | 0=>some 0
 | k+1=>(sqc ss k).bind (fun m=>stp (decide (k+1=ss.length)) m (ss.getD k dq))
def sqn (ss:List Sq):Option Nat:=if 40<ss.length then none else sqc ss ss.length
theorem stp_le {last:Bool} {m:Nat} {s:Sq} {m':Nat} (h:stp last m s=some m'):m'≤64:=by
 unfold stp at h
 split at h
 ·cases h
 ·split at h
  ·split at h
   ·simp at h;omega
   ·cases h
  ·split at h
   ·simp at h;omega
   ·cases h
theorem sqc_le {ss:List Sq} {k m:Nat} (h:sqc ss k=some m):m≤64:=by
 cases k with
 | zero=>simp [sqc] at h;omega
 | succ k=>
  simp only [sqc,Option.bind_eq_some_iff] at h
  obtain ⟨m0,_,h2⟩:=h
  exact stp_le h2
theorem sqc_none {ss:List Sq} {k:Nat} (h:sqc ss k=none):∀ j,k≤j→sqc ss j=none:=by
 intro j hj
 induction j with
 | zero => obtain rfl : k = 0 := by omega
           exact h
 | succ j ih=>
  by_cases hk:k≤j
  ·simp only [sqc,ih hk,Option.bind_none]
  ·obtain rfl:k=j+1:=by omega
   exact h
theorem sqc_step {ss:List Sq} {k m:Nat} (h:sqc ss k=some m):sqc ss (k+1)=stp (decide (k+1=ss.length)) m (ss.getD k dq):=by
 simp only [sqc,h,Option.bind_some]
theorem sqn_none {ss:List Sq} {k m:Nat} (h:sqc ss k=some m) (hk:k<ss.length) (hs:stp (decide (k+1=ss.length)) m (ss.getD k dq)=none):sqn ss=none:=by
 unfold sqn
 split
 ·rfl
 ·exact sqc_none ((sqc_step h).trans hs) _ hk
theorem sqn_some {ss:List Sq} {m:Nat} (h:sqc ss ss.length=some m) (hl:ss.length≤40):sqn ss=some m:=by
 unfold sqn
 rw [if_neg (by omega)]
 exact h
theorem sqn_len {ss:List Sq} (h:40<ss.length):sqn ss=none:=by simp [sqn,h]
theorem sqc_ct {ss ts:List Sq} (h:ss.map Sq.ct=ts.map Sq.ct) (k:Nat):sqc ss k=sqc ts k:=by
 have hl:ss.length=ts.length:=by have:=congrArg List.length h;simpa using this
 induction k with
 | zero=>rfl
 | succ k ih=>
  have hg:(ss.getD k dq).ct=(ts.getD k dq).ct:=by
   have:(ss.map Sq.ct).getD k dq.ct=(ts.map Sq.ct).getD k dq.ct:=by rw [h]
   simpa [List.getD_eq_getElem?_getD,List.getElem?_map,Option.getD_map] using this
  simp only [Sq.ct,Prod.mk.injEq] at hg
  simp only [sqc,ih,hl,stp,hg]
theorem sqn_ct {ss ts:List Sq} (h:ss.map Sq.ct=ts.map Sq.ct):sqn ss=sqn ts:=by
 have hl:ss.length=ts.length:=by have:=congrArg List.length h;simpa using this
 simp only [sqn,hl,sqc_ct h]
theorem stp_over {last:Bool} {m:Nat} {s:Sq} (h:64<m+s.ls.length):stp last m s=none:=by unfold stp;rw [if_pos h]
theorem stp_rest {last:Bool} {m:Nat} {s:Sq} (h:¬64<m+s.ls.length) (h0:s.n=0):stp last m s=if s.d=0∧last=true∧0<s.ls.length then some (m+s.ls.length) else none:=by unfold stp;rw [if_neg h,if_pos h0]
theorem stp_piece {last:Bool} {m:Nat} {s:Sq} (h:¬64<m+s.ls.length) (h0:¬s.n=0):stp last m s=if 3≤s.n∧s.n≤64 - ((m+s.ls.length:Nat):Int)∧1≤s.d∧s.d≤((m+s.ls.length:Nat):Int) then some (m+s.ls.length+s.n.toNat) else none:=by unfold stp;rw [if_neg h,if_neg h0]

set_option maxRecDepth 20000 in
set_option maxHeartbeats 4000000 in
theorem specSeqsOk_any (a:Option Addr) (cap:Nat) (ss:List Sq) (w:World) (hb:Sqs w a ss) (hx:ss.length≤281474976710656) (hxl:∀ s ∈ ss,s.ls.length≤281474976710656) :
  Calls Tryz.prog 120 #[.slice a ss.length cap] w fun e w'=>e=.returned (.bool (sqn ss).isSome)∧Below w.heap.size w w':=by
 by_cases h40:ss.length≤40
 ·have HSS:Hid (Sqs w a ss):=hb
  have HXL:Hid (∀ s ∈ ss,s.ls.length≤281474976710656):=hxl
  have HST:Hid _:=fun k m=>@sqc_step ss k m
  have HNO:Hid _:=fun k m=>@sqn_none ss k m
  have HYE:Hid _:=fun m=>@sqn_some ss m
  clear hb hxl
  generalize hlen:ss.length=n at *
  have HL:Hid (ss.length=n):=hlen
  clear hlen
  go_enter Tryz.func120,Tryz.ntmps120
  go_wp2
  go_loopw [3,4] (fun x i wr=>∃ k m:Nat,k≤n∧m≤64∧i=.int .i64 k∧x=.int .i64 m∧sqc ss k=some m∧Below w.heap.size w wr) (fun _ i _=>n - (intOf i).toNat)
  case atStart=>exact ⟨0,0,Nat.zero_le _,by omega,rfl,rfl,rfl,Below.refl _ _⟩
  case round=>
   obtain ⟨k,m,hk,hm,rfl,rfl,hsq,hbel⟩:=hrel
   have HSQ:Hid (sqc ss k=some m):=hsq
   clear hsq
   by_cases hlt:k<n
   ·obtain ⟨b,off,rfl,hb1,hc1⟩:=(HSS.out.below hbel (Nat.le_refl _)).len_pos k (by rw [HL.out];exact hlt)
    have hli:=hc1 k (by rw [HL.out];exact hlt)
    have hrg:=HSS.out.rng k (by rw [HL.out];exact hlt)
    have hll:=HXL.out _ (getD_memS (k:=k) (by rw [HL.out];exact hlt))
    have HS:=HST.out k m HSQ.out
    have HN:=HNO.out k m HSQ.out hlt
    clear hc1
    generalize ss.getD k dq=s at *
    obtain ⟨sa,sc,sl,sn,sd⟩:=s
    obtain ⟨c0,c1,c2,hby⟩:=hli
    simp only at c0 c1 c2 hrg hll
    obtain ⟨⟨rn1,rn2⟩,⟨rd1,rd2⟩,-⟩:=hrg
    have HB2:Hid (Below w.heap.size w (wr.alloc (Obj.cells #[Value.slice sa sl.length sc,Value.int IntKind.i64 sn,Value.int IntKind.i64 sd] 209))):=hbel.alloc hbel.size _
    clear hby
    by_cases g1:64<m+sl.length
    ·have HF:Hid (sqn ss=none):=HN (stp_over g1)
     have g1':(64:Int)<(m:Int)+sl.length:=by omega
     clear HS HN
     go_wp2
     go_ret
     exact ⟨by rw [HF.out];rfl,HB2.out⟩
    ·have g1':¬(64:Int)<(m:Int)+sl.length:=by omega
     by_cases g2:sn=0
     ·subst g2
      have E:=stp_rest (last:=decide (k+1=n)) (m:=m) (s:=⟨sa,sc,sl,0,sd⟩) g1 rfl
      simp only at E
      by_cases g3:sd=0
      ·subst g3
       by_cases g4:k+1=n
       ·have g4':¬(k:Int)<(n:Int) - 1:=by omega
        by_cases g5:0<sl.length
        ·have HS2:Hid (sqc ss (k+1)=some (m+sl.length)):=by
          rw [E,if_pos ⟨rfl,by simpa using g4,g5⟩] at HS
          exact HS
         have g5':((sl.length:Int) == 0)=false:=by rw [beq_eq_false_iff_ne];omega
         clear HS HN E g4 g5
         go_wp2
         go_roundw
         case rel=>exact ⟨k+1,m+sl.length,by omega,by omega,by go_num,by go_num,HS2.out,HB2.out⟩
         case measure=>simp [intOf];omega
        ·have HF:Hid (sqn ss=none):=HN (by rw [E,if_neg (by omega)])
         have g5':((sl.length:Int) == 0)=true:=by rw [beq_iff_eq];omega
         clear HS HN E g4 g5
         go_wp2
         go_ret
         exact ⟨by rw [HF.out];rfl,HB2.out⟩
       ·have HF:Hid (sqn ss=none):=HN (by rw [E,if_neg (by simp;omega)])
        have g4':(k:Int)<(n:Int) - 1:=by omega
        clear HS HN E g4
        go_wp2
        go_ret
        exact ⟨by rw [HF.out];rfl,HB2.out⟩
      ·have HF:Hid (sqn ss=none):=HN (by rw [E,if_neg (by omega)])
       have g3':(sd != 0)=true:=by rw [bne_iff_ne];exact g3
       clear HS HN E g3
       go_wp2
       go_ret
       exact ⟨by rw [HF.out];rfl,HB2.out⟩
     ·have E:=stp_piece (last:=decide (k+1=n)) (m:=m) (s:=⟨sa,sc,sl,sn,sd⟩) g1 g2
      simp only at E
      have g2':(sn == 0)=false:=by simpa using g2
      clear g2
      by_cases q:3≤sn∧sn≤64 - ((m+sl.length:Nat):Int)∧1≤sd∧sd≤((m+sl.length:Nat):Int)
      ·have HS2:Hid (sqc ss (k+1)=some (m+sl.length+sn.toNat)):=by
        rw [E,if_pos q] at HS
        exact HS
       obtain ⟨q1,q2,q3,q4⟩:=q
       have q2':sn≤64 - ((m:Int)+sl.length):=by omega
       have q4':sd≤(m:Int)+sl.length:=by omega
       clear HS HN E q2 q4
       go_wp2
       go_roundw
       case rel=>exact ⟨k+1,m+sl.length+sn.toNat,by omega,by omega,by go_num,by go_num,HS2.out,HB2.out⟩
       case measure=>simp [intOf];omega
      ·have HF:Hid (sqn ss=none):=HN (by rw [E,if_neg q])
       have key:sn<3∨(3≤sn∧64 - ((m:Int)+sl.length)<sn)∨(3≤sn∧sn≤64 - ((m:Int)+sl.length)∧sd<1)∨(3≤sn∧sn≤64 - ((m:Int)+sl.length)∧1≤sd∧(m:Int)+sl.length<sd):=by omega
       clear HS HN E q
       rcases key with q1 | ⟨q1,q2⟩ | ⟨q1,q2,q3⟩ | ⟨q1,q2,q3,q4⟩
       all_goals
        go_wp2
        go_ret
        exact ⟨by rw [HF.out];rfl,HB2.out⟩
   ·have hkn:k=n:=by omega
    subst hkn
    have HF:Hid (sqn ss=some m):=HYE.out m HSQ.out h40
    go_wp2
    go_ret
    exact ⟨by rw [HF.out];rfl,hbel⟩
 ·have HF:Hid (sqn ss=none):=sqn_len (by omega)
  go_enter Tryz.func120,Tryz.ntmps120
  go_wp2
  go_ret
  exact ⟨by rw [HF.out];rfl,Below.refl _ _⟩
set_option maxHeartbeats 1600000 in
theorem isPiece_any (a:Option Addr) (c:Nat) (zs:List Int) (n d:Int) (m:Nat) (w:World) (hm:m≤64) (rn:rI n) (rd:rI d) :
  Calls Tryz.prog 232 #[.agg #[.slice a zs.length c,.int .i64 n,.int .i64 d],.int .i64 m] w fun e w'=>e=.returned (.bool (decide (3≤n∧n≤64 - (m:Int)∧1≤d∧d≤(m:Int))))∧Below w.heap.size w w':=by
 have hw:Below w.heap.size w (w.alloc (Obj.cells #[Value.slice a zs.length c,Value.int IntKind.i64 n,Value.int IntKind.i64 d] 209)):=(Below.refl _ _).alloc (Nat.le_refl _) _
 obtain ⟨rn1,rn2⟩:=rn
 obtain ⟨rd1,rd2⟩:=rd
 by_cases q:3≤n∧n≤64 - (m:Int)∧1≤d∧d≤(m:Int)
 ·have HE:Hid (decide (3≤n∧n≤64 - (m:Int)∧1≤d∧d≤(m:Int))=true):=by simpa [Hid] using q
  generalize decide (3≤n∧n≤64 - (m:Int)∧1≤d∧d≤(m:Int))=E at *
  obtain ⟨q1,q2,q3,q4⟩:=q
  go_enter Tryz.func232,Tryz.ntmps232
  go_wp2
  go_ret
  exact ⟨by rw [HE.out];first | rfl | (simp;omega),hw⟩
 ·have HE:Hid (decide (3≤n∧n≤64 - (m:Int)∧1≤d∧d≤(m:Int))=false):=by simpa only [Hid,decide_eq_false_iff_not] using q
  have key:n<3∨(3≤n∧64 - (m:Int)<n)∨(3≤n∧n≤64 - (m:Int)∧d<1)∨(3≤n∧n≤64 - (m:Int)∧1≤d∧(m:Int)<d):=by omega
  generalize decide (3≤n∧n≤64 - (m:Int)∧1≤d∧d≤(m:Int))=E at *
  clear q
  rcases key with q1 | ⟨q1,q2⟩ | ⟨q1,q2,q3⟩ | ⟨q1,q2,q3,q4⟩
  all_goals
   go_enter Tryz.func232,Tryz.ntmps232
   go_wp2
   go_ret
   exact ⟨by rw [HE.out];first | rfl | (simp;omega),hw⟩

set_option maxHeartbeats 1600000 in
theorem isRest_any (a:Option Addr) (c:Nat) (zs:List Int) (n d:Int) (w:World) (hl:zs.length≤281474976710656) :
  Calls Tryz.prog 233 #[.agg #[.slice a zs.length c,.int .i64 n,.int .i64 d]] w fun e w'=>e=.returned (.bool (decide (n=0∧d=0∧0<zs.length)))∧Below w.heap.size w w':=by
 have hw:Below w.heap.size w (w.alloc (Obj.cells #[Value.slice a zs.length c,Value.int IntKind.i64 n,Value.int IntKind.i64 d] 209)):=(Below.refl _ _).alloc (Nat.le_refl _) _
 by_cases q1:n=0
 ·by_cases q2:d=0
  ·by_cases q3:0<zs.length
   ·have HE:Hid (decide (n=0∧d=0∧0<zs.length)=true):=by unfold Hid;rw [decide_eq_true_eq];exact ⟨q1,q2,q3⟩
    generalize decide (n=0∧d=0∧0<zs.length)=E at *
    subst q1 q2
    have q3':(0:Int)<zs.length:=by omega
    go_enter Tryz.func233,Tryz.ntmps233
    go_wp2
    go_ret
    exact ⟨by rw [HE.out];first | rfl | (simp;omega),hw⟩
   ·have HE:Hid (decide (n=0∧d=0∧0<zs.length)=false):=by unfold Hid;rw [decide_eq_false_iff_not];exact fun h=>q3 h.2.2
    generalize decide (n=0∧d=0∧0<zs.length)=E at *
    subst q1 q2
    obtain rfl:zs=[]:=List.eq_nil_of_length_eq_zero (by omega)
    clear q3
    go_enter Tryz.func233,Tryz.ntmps233
    go_wp2
    go_ret
    exact ⟨by rw [HE.out];first | rfl | (simp;omega),hw⟩
  ·have HE:Hid (decide (n=0∧d=0∧0<zs.length)=false):=by unfold Hid;rw [decide_eq_false_iff_not];exact fun h=>q2 h.2.1
   have q2':(d == 0)=false:=by rw [beq_eq_false_iff_ne];exact q2
   generalize decide (n=0∧d=0∧0<zs.length)=E at *
   subst q1
   clear q2
   go_enter Tryz.func233,Tryz.ntmps233
   go_wp2
   go_ret
   exact ⟨by rw [HE.out];first | rfl | (simp;omega),hw⟩
 ·have HE:Hid (decide (n=0∧d=0∧0<zs.length)=false):=by unfold Hid;rw [decide_eq_false_iff_not];exact fun h=>q1 h.1
  have q1':(n == 0)=false:=by rw [beq_eq_false_iff_ne];exact q1
  generalize decide (n=0∧d=0∧0<zs.length)=E at *
  clear q1
  go_enter Tryz.func233,Tryz.ntmps233
  go_wp2
  go_ret
  exact ⟨by rw [HE.out];first | rfl | (simp;omega),hw⟩

def sqz (ss:List Sq):Int:=match sqn ss with
 | some m=>m
 | none=>-1
theorem sqz_none {ss:List Sq} (h:sqn ss=none):sqz ss=-1:=by simp [sqz,h]
theorem sqz_some {ss:List Sq} {m:Nat} (h:sqn ss=some m):sqz ss=m:=by simp [sqz,h]

theorem stp_yes1 {last:Bool} {m:Nat} {s:Sq} (h:¬64<m+s.ls.length) (q:3≤s.n∧s.n≤64 - ((m+s.ls.length:Nat):Int)∧1≤s.d∧s.d≤((m+s.ls.length:Nat):Int)):stp last m s=some (m+s.ls.length+s.n.toNat):=by
 rw [stp_piece h (by omega),if_pos q]
theorem stp_yes2 {last:Bool} {m:Nat} {s:Sq} (h:¬64<m+s.ls.length) (hl:last=true) (q:s.n=0∧s.d=0∧0<s.ls.length):stp last m s=some (m+s.ls.length+s.n.toNat):=by
 rw [stp_rest h q.1,if_pos ⟨q.2.1,hl,q.2.2⟩,q.1]
 simp
theorem stp_no {last:Bool} {m:Nat} {s:Sq} (h:¬64<m+s.ls.length) (q1:¬(3≤s.n∧s.n≤64 - ((m+s.ls.length:Nat):Int)∧1≤s.d∧s.d≤((m+s.ls.length:Nat):Int))) (q2:¬(last=true∧s.n=0∧s.d=0∧0<s.ls.length)):stp last m s=none:=by
 by_cases h0:s.n=0
 ·rw [stp_rest h h0,if_neg (fun hh=>q2 ⟨hh.2.1,h0,hh.1,hh.2.2⟩)]
 ·rw [stp_piece h h0,if_neg q1]

set_option maxRecDepth 20000 in
set_option maxHeartbeats 8000000 in
theorem implSeqBytes_any (a:Option Addr) (cap:Nat) (ss:List Sq) (w:World) (hb:Sqs w a ss) (hx:ss.length≤281474976710656) (hxl:∀ s ∈ ss,s.ls.length≤281474976710656) :
  Calls Tryz.prog 219 #[.slice a ss.length cap] w fun e w'=>e=.returned (.int .i64 (sqz ss))∧Below w.heap.size w w':=by
 by_cases h40:ss.length≤40
 ·have HSS:Hid (Sqs w a ss):=hb
  have HXL:Hid (∀ s ∈ ss,s.ls.length≤281474976710656):=hxl
  have HST:Hid _:=fun k m=>@sqc_step ss k m
  have HNO:Hid _:=fun k m=>@sqn_none ss k m
  have HYE:Hid _:=fun m=>@sqn_some ss m
  have HZN:Hid _:=@sqz_none ss
  have HZS:Hid _:=@sqz_some ss
  clear hb hxl
  generalize hlen:ss.length=n at *
  have HL:Hid (ss.length=n):=hlen
  clear hlen
  generalize sqz ss=Z at *
  go_enter Tryz.func219,Tryz.ntmps219
  go_wp2
  go_loopw [3,12] (fun x i wr=>∃ k m:Nat,k≤n∧m≤64∧i=.int .i64 k∧x=.int .i64 m∧sqc ss k=some m∧Below w.heap.size w wr) (fun _ i _=>n - (intOf i).toNat)
  case atStart=>exact ⟨0,0,Nat.zero_le _,by omega,rfl,rfl,rfl,Below.refl _ _⟩
  case round=>
   obtain ⟨k,m,hk,hm,rfl,rfl,hsq,hbel⟩:=hrel
   have HSQ:Hid (sqc ss k=some m):=hsq
   clear hsq
   by_cases hlt:k<n
   ·obtain ⟨b,off,rfl,hb1,hc1⟩:=(HSS.out.below hbel (Nat.le_refl _)).len_pos k (by rw [HL.out];exact hlt)
    have hli:=hc1 k (by rw [HL.out];exact hlt)
    have hrg:=HSS.out.rng k (by rw [HL.out];exact hlt)
    have hll:=HXL.out _ (getD_memS (k:=k) (by rw [HL.out];exact hlt))
    have HS:=HST.out k m HSQ.out
    have HN:=HNO.out k m HSQ.out hlt
    clear hc1
    generalize ss.getD k dq=s at *
    obtain ⟨sa,sc,sl,sn,sd⟩:=s
    obtain ⟨c0,c1,c2,hby⟩:=hli
    simp only at c0 c1 c2 hrg hll
    have HRG:Hid (rI sn∧rI sd):=⟨hrg.1,hrg.2.1⟩
    obtain ⟨⟨rn1,rn2⟩,⟨rd1,rd2⟩,-⟩:=hrg
    have HB2:Hid (Below w.heap.size w (wr.alloc (Obj.cells #[Value.slice sa sl.length sc,Value.int IntKind.i64 sn,Value.int IntKind.i64 sd] 209))):=hbel.alloc hbel.size _
    have HW:Hid (wr.heap.size<(wr.alloc (Obj.cells #[Value.slice sa sl.length sc,Value.int IntKind.i64 sn,Value.int IntKind.i64 sd] 209)).heap.size):=by simp [Hid]
    clear hby
    by_cases g1:64<m+sl.length
    ·have HF:Hid (Z=-1):=HZN.out (HN (stp_over g1))
     have g1':64 - (m:Int)<sl.length:=by omega
     clear HS HN
     go_wp2
     go_ret
     exact ⟨by rw [HF.out];rfl,HB2.out⟩
    ·have g1':¬64 - (m:Int)<sl.length:=by omega
     have HN1:=fun q1 q2=>HN (stp_no (s:=⟨sa,sc,sl,sn,sd⟩) g1 q1 q2)
     have HY1:=fun q=>HS.trans (stp_yes1 (s:=⟨sa,sc,sl,sn,sd⟩) g1 q)
     have HY2:=fun hl q=>HS.trans (stp_yes2 (s:=⟨sa,sc,sl,sn,sd⟩) g1 hl q)
     simp only at HN1 HY1 HY2
     have r0:(wr.alloc (Obj.cells #[Value.slice sa sl.length sc,Value.int IntKind.i64 sn,Value.int IntKind.i64 sd] 209)).cell? ⟨wr.heap.size,0,none⟩=some (.slice sa sl.length sc):=by simp
     have r1:(wr.alloc (Obj.cells #[Value.slice sa sl.length sc,Value.int IntKind.i64 sn,Value.int IntKind.i64 sd] 209)).cell? ⟨wr.heap.size,1,none⟩=some (.int .i64 sn):=by simp
     have r2:(wr.alloc (Obj.cells #[Value.slice sa sl.length sc,Value.int IntKind.i64 sn,Value.int IntKind.i64 sd] 209)).cell? ⟨wr.heap.size,2,none⟩=some (.int .i64 sd):=by simp
     have HPC:=isPiece_any sa sc sl sn sd (m+sl.length) (wr.alloc (Obj.cells #[Value.slice sa sl.length sc,Value.int IntKind.i64 sn,Value.int IntKind.i64 sd] 209)) (by omega) HRG.out.1 HRG.out.2
     have hcast:((m+sl.length:Nat):Int)=(m:Int)+sl.length:=by omega
     rw [hcast] at HPC HN1 HY1
     clear HS HN hcast
     go_wp2_with fail
     generalize wr.alloc (Obj.cells #[Value.slice sa sl.length sc,Value.int IntKind.i64 sn,Value.int IntKind.i64 sd] 209)=W at *
     refine HPC.mono ?_
     clear HPC
     rintro e w1 ⟨rfl,hb2⟩
     have q0:=keep hb2 HW.out r0
     have q1:=keep hb2 HW.out r1
     have q2:=keep hb2 HW.out r2
     have HB3:Hid (Below w.heap.size w w1):=HB2.out.trans (hb2.mono HB2.out.size)
     clear hb2 r0 r1 r2 c0 c1 c2
     by_cases q:3≤sn∧sn≤64 - ((m:Int)+sl.length)∧1≤sd∧sd≤(m:Int)+sl.length
     ·rw [decide_eq_true q]
      have HS2:Hid (sqc ss (k+1)=some (m+sl.length+sn.toNat)):=HY1 q
      obtain ⟨u1,u2,u3,u4⟩:=q
      clear HN1 HY1 HY2
      go_wp2
      go_roundw
      case rel=>exact ⟨k+1,m+sl.length+sn.toNat,by omega,by omega,by go_num,by go_num,HS2.out,HB3.out⟩
      case measure=>simp [intOf];omega
     ·rw [decide_eq_false q]
      have HNQ:Hid (¬(3≤sn∧sn≤64 - ((m:Int)+sl.length)∧1≤sd∧sd≤(m:Int)+sl.length)):=q
      clear HY1 q
      by_cases hla:k+1=n
      ·have hla':((k:Int) == (n:Int) - 1)=true:=by rw [beq_iff_eq];omega
       have HRS:=isRest_any sa sc sl sn sd w1 hll
       go_wp2_with fail
       refine HRS.mono ?_
       clear HRS
       rintro e w2 ⟨rfl,hb4⟩
       have hz1:wr.heap.size<w1.heap.size:=World.block_lt_of_cell? _ _ q0
       have v1:=keep hb4 hz1 q1
       have HB4:Hid (Below w.heap.size w w2):=HB3.out.trans (hb4.mono HB3.out.size)
       clear hb4 q0 q1 q2
       by_cases qr:sn=0∧sd=0∧0<sl.length
       ·rw [decide_eq_true qr]
        have HS2:Hid (sqc ss (k+1)=some (m+sl.length+sn.toNat)):=HY2 (by simpa using hla) qr
        obtain ⟨rfl,rfl,u3⟩:=qr
        clear HN1 HY2
        go_wp2
        go_roundw
        case rel=>exact ⟨k+1,m+sl.length+(0:Int).toNat,by omega,by simp;omega,by go_num,by go_num,HS2.out,HB4.out⟩
        case measure=>simp [intOf];omega
       ·rw [decide_eq_false qr]
        have HF:Hid (Z=-1):=HZN.out (HN1 HNQ.out (fun h=>qr h.2))
        clear HN1 HY2 qr
        go_wp2
        go_ret
        exact ⟨by rw [HF.out];rfl,HB4.out⟩
      ·have hla':((k:Int) == (n:Int) - 1)=false:=by rw [beq_eq_false_iff_ne];omega
       have HF:Hid (Z=-1):=HZN.out (HN1 HNQ.out (fun h=>hla (by simpa using h.1)))
       clear HN1 HY2
       go_wp2
       go_ret
       exact ⟨by rw [HF.out];rfl,HB3.out⟩
   ·have hkn:k=n:=by omega
    subst hkn
    have HF:Hid (Z=(m:Int)):=HZS.out (HYE.out m HSQ.out h40)
    go_wp2
    go_ret
    exact ⟨by rw [HF.out];rfl,hbel⟩
 ·have HF:Hid (sqz ss=-1):=sqz_none (sqn_len (by omega))
  go_enter Tryz.func219,Tryz.ntmps219
  go_wp2
  go_ret
  exact ⟨by rw [HF.out];rfl,Below.refl _ _⟩

set_option maxHeartbeats 800000 in
theorem implSeqsOk_any (a:Option Addr) (cap:Nat) (ss:List Sq) (w:World) (hb:Sqs w a ss) (hx:ss.length≤281474976710656) (hxl:∀ s ∈ ss,s.ls.length≤281474976710656) :
  Calls Tryz.prog 218 #[.slice a ss.length cap] w fun e w'=>e=.returned (.bool (sqn ss).isSome)∧Below w.heap.size w w':=by
 have HSB:=implSeqBytes_any a cap ss w hb hx hxl
 cases hs:sqn ss with
 | none=>
  rw [sqz_none hs] at HSB
  go_enter Tryz.func218,Tryz.ntmps218
  go_wp2_with fail
  refine HSB.mono ?_
  rintro e w1 ⟨rfl,hb1⟩
  clear HSB
  go_wp2
  go_ret
  exact ⟨rfl,hb1⟩
 | some m=>
  rw [sqz_some hs] at HSB
  go_enter Tryz.func218,Tryz.ntmps218
  go_wp2_with fail
  refine HSB.mono ?_
  rintro e w1 ⟨rfl,hb1⟩
  clear HSB
  go_wp2
  go_ret
  exact ⟨rfl,hb1⟩
set_option linter.unusedSimpArgs false
def soR (w w':World) (N V:Nat) (ts:List Int) (e:Ending):Prop:=Below w.heap.size w w' ∧
 (∀ cs,uqF N V ts=some cs→∃ v ss,(ss.map Sq.ct=cs∧OVq w' w.heap.size v ss∧DeepQ w' w.heap.size ss∧Sml ss∧ss.length≤301)∧((sqn ss).isSome=true→e=.returned (.tuple #[v,.nilIface]))∧((sqn ss).isSome=false→∃ T y u,e=.returned (.tuple #[u,.iface T y]))) ∧
 (uqF N V ts=none→∃ T y u,e=.returned (.tuple #[u,.iface T y]))
theorem soR.no {w w':World} {N V:Nat} {ts:List Int} {u y:Value} {T:TypeId} (hb:Below w.heap.size w w') (h:uqF N V ts=none):soR w w' N V ts (.returned (.tuple #[u,.iface T y])):=
 And.intro hb (And.intro (fun cs hc=>by rw [h] at hc;cases hc) (fun _=>⟨_,_,_,rfl⟩))
theorem below_dS {B:Nat} {a b:World} (h:Below B a b) (n:Nat):Below B a (b.drewN n):=⟨h.os,h.tape,h.output,h.size,h.block⟩

set_option maxRecDepth 20000 in
set_option maxHeartbeats 6400000 in
theorem seqsOf_any (a:Option Addr) (cap:Nat) (ts:List Int) (x:Option Addr) (cx:Nat) (zs:List Int) (N V:Nat) (w:World) (ha:Ins w a ts) (hx:Byt w x zs) (hz:zs=enc N V) (hN:N≤4096) (ht:∀ s ∈ ts,0≤s∧s<40) (hl:ts.length≤300) (hcap:ts.length≤cap)
  (s0:Sent w 17) (s1:Sent w 18) (s2:Sent w 22) (s3:Sent w 15) (s4:Sent w 13) (hG:17<w.heap.size∧18<w.heap.size∧22<w.heap.size∧15<w.heap.size∧13<w.heap.size) :
  Calls Tryz.prog 201 #[.slice a ts.length cap,.agg #[.slice x zs.length cx,.int .i64 N]] w fun e w'=>soR w w' N V ts e:=by
 have HE:Hid (Sent w 17∧Sent w 18∧Sent w 22∧Sent w 15∧Sent w 13):=⟨s0,s1,s2,s3,s4⟩
 have HIN:Hid (Ins w a ts∧Byt w x zs∧zs=enc N V∧(∀ s ∈ ts,0≤s∧s<40)∧ts.length≤300):=⟨ha,hx,hz,ht,hl⟩
 have HTL:Hid (∃ k,ts.length=k):=⟨_,rfl⟩
 obtain ⟨n,hn⟩:=HTL.out
 rw [hn] at hl hcap ⊢
 have HNL:Hid (ts.length=n):=hn
 clear s0 s1 s2 s3 s4 ha hx hz ht hn HTL
 go_enter Tryz.func201,Tryz.ntmps201
 have HST:Hid (SR w (((w.alloc (Obj.cells #[.slice x zs.length cx,.int .i64 N] 155)).alloc (Obj.cells #[.slice x zs.length cx,.int .i64 N,.int .i64 0] 261)).alloc (Obj.cells #[.slice a n cap,.pointer (some ⟨w.heap.size+1,0,none⟩)] 282)) w.heap.size (w.heap.size+1+1) (w.heap.size+1) ts ∧
   RD (((w.alloc (Obj.cells #[.slice x zs.length cx,.int .i64 N] 155)).alloc (Obj.cells #[.slice x zs.length cx,.int .i64 N,.int .i64 0] 261)).alloc (Obj.cells #[.slice a n cap,.pointer (some ⟨w.heap.size+1,0,none⟩)] 282)) w.heap.size (w.heap.size+1) x zs.length cx N 0 ∧
   Below w.heap.size w (((w.alloc (Obj.cells #[.slice x zs.length cx,.int .i64 N] 155)).alloc (Obj.cells #[.slice x zs.length cx,.int .i64 N,.int .i64 0] 261)).alloc (Obj.cells #[.slice a n cap,.pointer (some ⟨w.heap.size+1,0,none⟩)] 282)) ∧
   w.heap.size+3≤(((w.alloc (Obj.cells #[.slice x zs.length cx,.int .i64 N] 155)).alloc (Obj.cells #[.slice x zs.length cx,.int .i64 N,.int .i64 0] 261)).alloc (Obj.cells #[.slice a n cap,.pointer (some ⟨w.heap.size+1,0,none⟩)] 282)).heap.size):=by
  refine ⟨⟨a,cap,?_,HIN.out.1,by rw [HNL.out];exact hcap,by omega⟩,⟨?_,by omega,by simp;omega⟩,(((Below.refl _ _).alloc (Nat.le_refl _) _).alloc (by simp) _).alloc (by simp;omega) _,by simp⟩
  ·rw [HNL.out]
   have:=heap_alloc_new ((w.alloc (Obj.cells #[.slice x zs.length cx,.int .i64 N] 155)).alloc (Obj.cells #[.slice x zs.length cx,.int .i64 N,.int .i64 0] 261)) (Obj.cells #[.slice a n cap,.pointer (some ⟨w.heap.size+1,0,none⟩)] 282)
   simpa using this
  ·have h1:=heap_alloc_new (w.alloc (Obj.cells #[.slice x zs.length cx,.int .i64 N] 155)) (Obj.cells #[.slice x zs.length cx,.int .i64 N,.int .i64 0] 261)
   have h2:((w.alloc (Obj.cells #[.slice x zs.length cx,.int .i64 N] 155)).alloc (Obj.cells #[.slice x zs.length cx,.int .i64 N,.int .i64 0] 261)).heap[w.heap.size+1]?=some (Obj.cells #[.slice x zs.length cx,.int .i64 N,.int .i64 0] 261 (0,0)):=by simpa using h1
   exact ((Below.refl _ ((w.alloc (Obj.cells #[.slice x zs.length cx,.int .i64 N] 155)).alloc (Obj.cells #[.slice x zs.length cx,.int .i64 N,.int .i64 0] 261))).alloc (Nat.le_refl _) _).block (w.heap.size+1) (by simp) |>.trans h2
 go_wp2
 generalize ((w.alloc (Obj.cells #[.slice x zs.length cx,.int .i64 N] 155)).alloc (Obj.cells #[.slice x zs.length cx,.int .i64 N,.int .i64 0] 261)).alloc (Obj.cells #[.slice a n cap,.pointer (some ⟨w.heap.size+1,0,none⟩)] 282)=W3 at *
 go_loopw [7] (fun lv wr=>∃ (rest:List Int) (p:Nat) (ss:List Sq) (oa:Option Addr) (oc:Nat),lv=.slice oa ss.length oc∧(SR w wr w.heap.size (w.heap.size+1+1) (w.heap.size+1) rest∧RD wr w.heap.size (w.heap.size+1) x zs.length cx N p∧Below w.heap.size w wr∧w.heap.size+3≤wr.heap.size)∧(p≤N∧rest.length+ss.length≤300∧∀ z ∈ rest,z ∈ ts)∧uqE N (uq N V rest p [] 0 (ss.map Sq.ct))=uqF N V ts∧Sml ss∧OVq wr (w.heap.size+3) (.slice oa ss.length oc) ss∧DeepQ wr (w.heap.size+3) ss) (fun _ wr=>lenAt (w.heap.size+1+1) wr)
 case atStart=>exact ⟨ts,0,[],none,0,rfl,HST.out,⟨by omega,by rw [HNL.out];simpa using hl,fun _ h=>h⟩,rfl,Sml.nil,OVq.nil _ _,DeepQ.nil _ _⟩
 case round=>
  clear HST
  obtain ⟨rest,p,ss,oa,oc,rfl,hst,⟨hp,hrs,hsub⟩,hu,hsm,hoq,hdq⟩:=hrel
  have HT:Hid ((SR w wr w.heap.size (w.heap.size+1+1) (w.heap.size+1) rest∧RD wr w.heap.size (w.heap.size+1) x zs.length cx N p∧Below w.heap.size w wr∧w.heap.size+3≤wr.heap.size)∧uqE N (uq N V rest p [] 0 (ss.map Sq.ct))=uqF N V ts∧Sml ss∧OVq wr (w.heap.size+3) (.slice oa ss.length oc) ss∧DeepQ wr (w.heap.size+3) ss∧∀ z ∈ rest,z ∈ ts):=⟨hst,hu,hsm,hoq,hdq,hsub⟩
  obtain ⟨qa,qc,hq1,-⟩:=hst.1
  have q0:wr.cell? ⟨w.heap.size+1+1,0,none⟩=some (.slice qa rest.length qc):=cellRR (j:=0) hq1 rfl
  have q1:wr.cell? ⟨w.heap.size+1+1,1,none⟩=some (.pointer (some ⟨w.heap.size+1,0,none⟩)):=cellRR (j:=1) hq1 rfl
  have HLA:Hid (lenAt (w.heap.size+1+1) wr=rest.length∧True):=⟨hst.1.lenAt,trivial⟩
  clear hst hu hsm hoq hdq hq1 hsub
  by_cases hre:rest=[]
  ·subst hre
   have HC:=HT.out.1.2.1.left (by omega) (by omega)
   have HUE:Hid (uqF N V ts=if p=N then some (ss.map Sq.ct) else none):=by
    unfold Hid
    rw [←HT.out.2.1]
    simp [uq,uqE]
   simp only [List.length_nil] at q0
   go_wp2_with fail
   refine HC.mono ?_
   clear HC q0 q1
   rintro e w2 ⟨rfl,m,rfl⟩
   by_cases hpN:p=N
   ·subst hpN
    have hp0:¬(0:Int)<(p:Int) - (p:Int):=by omega
    have hsq:Sqs wr oa ss:=HT.out.2.2.2.1.sqs (fun z hz=>⟨HT.out.2.2.1.rng z hz,HT.out.2.2.2.2.1.byt hz⟩)
    have HSQ:Hid (Sqs (wr.drewN m) oa ss):=hsq.below (below_dS (Below.refl wr.heap.size wr) m) (Nat.le_refl _)
    clear hsq
    have HUY:Hid (uqF p V ts=some (ss.map Sq.ct)∧True):=⟨by rw [HUE.out];simp,trivial⟩
    clear HUE
    have HC:=implSeqsOk_any oa oc ss (wr.drewN m) HSQ.out (by omega) (fun z hz=>by have:=HT.out.2.2.1 z hz;omega)
    go_wp2_with fail
    refine HC.mono ?_
    clear HC
    rintro e w3 ⟨rfl,hb3⟩
    have HB3:Hid (Below w.heap.size w w3∧OVq w3 w.heap.size (.slice oa ss.length oc) ss∧DeepQ w3 w.heap.size ss):=by
     have hb4:Below wr.heap.size wr w3:=⟨hb3.os,hb3.tape,hb3.output,hb3.size,hb3.block⟩
     exact ⟨HT.out.1.2.2.1.trans (hb4.mono (by have:=HT.out.1.2.2.2;omega)),(HT.out.2.2.2.1.below hb4).weak (by omega),(HT.out.2.2.2.2.1.below hb4).weak (by omega)⟩
    clear hb3
    cases hso:(sqn ss).isSome with
    | true=>
     have HY:Hid (soR w w3 p V ts (.returned (.tuple #[.slice oa ss.length oc,.nilIface]))):=by
      refine And.intro HB3.out.1 (And.intro (fun cs hc=>?_) (fun hn=>?_))
      ·rw [HUY.out.1] at hc
       simp only [Option.some.injEq] at hc
       exact ⟨_,ss,⟨hc,HB3.out.2.1,HB3.out.2.2,HT.out.2.2.1,by omega⟩,fun _=>rfl,fun h=>by rw [hso] at h;cases h⟩
      ·rw [HUY.out.1] at hn
       cases hn
     clear HSQ HUY hso
     go_wp2
     exact bodyPost_ret (v:=.tuple #[.slice oa ss.length oc,.nilIface]) (by simp [results,Tryz.results201,go_sem]) rfl HY.out
    | false=>
     obtain ⟨T9,y9,he9⟩:=HE.out.2.2.2.2.below HB3.out.1 hG.2.2.2.2
     have HY:Hid (∀ m',soR w (w3.drewN m') p V ts (.returned (.tuple #[.slice none 0 0,.iface T9 y9]))):=by
      intro m'
      refine And.intro (below_dS HB3.out.1 m') (And.intro (fun cs hc=>?_) (fun hn=>⟨_,_,_,rfl⟩))
      rw [HUY.out.1] at hc
      simp only [Option.some.injEq] at hc
      exact ⟨_,ss,⟨hc,HB3.out.2.1.below (below_dS (Below.refl _ _) m'),HB3.out.2.2.below (below_dS (Below.refl _ _) m'),HT.out.2.2.1,by omega⟩,fun h=>(by first | (rw [hso] at h;cases h) | (cases h)),fun _=>⟨_,_,_,rfl⟩⟩
     clear HSQ HUY hso
     go_wp2
     go_quiet (fail)
     go_wp2
     exact bodyPost_ret (v:=.tuple #[.slice none 0 0,.iface T9 y9]) (by simp [results,Tryz.results201,go_sem]) rfl (HY.out _)
   ·have hp0:(0:Int)<(N:Int) - (p:Int):=by omega
    have HN:Hid (uqF N V ts=none):=by unfold Hid;rw [HUE.out,if_neg hpN]
    have hbm:Below w.heap.size w (wr.drewN m):=below_dS HT.out.1.2.2.1 m
    obtain ⟨T9,y9,he9⟩:=HE.out.2.2.2.1.below hbm hG.2.2.2.1
    have HBM:Hid (Below w.heap.size w (wr.drewN m)):=hbm
    clear hbm HUE HT HLA
    generalize wr.drewN m=w2 at *
    go_wp2
    go_quiet (fail)
    go_wp2
    exact bodyPost_ret (v:=.tuple #[.slice none 0 0,.iface T9 y9]) (by simp [results,Tryz.results201,go_sem]) rfl (soR.no (below_dS HBM.out _) HN.out)
  ·have hrp:0<rest.length:=List.length_pos_iff.2 hre
   have hrp2:(0:Int)<(rest.length:Int):=by omega
   have HC:=seq_any w.heap.size (w.heap.size+1+1) (w.heap.size+1) rest x cx zs N V p w wr rfl HT.out.1.2.2.1 HT.out.1.1 HT.out.1.2.1 hp HIN.out.2.1 HIN.out.2.2.1 hN (fun z hz=>HIN.out.2.2.2.1 z (HT.out.2.2.2.2.2 z hz)) (by omega) hre HE.out.1 HE.out.2.1 HE.out.2.2.1 ⟨hG.1,hG.2.1,hG.2.2.1⟩
   go_wp2_with fail
   refine HC.mono ?_
   clear HC q0 q1
   rintro e w2 (⟨lv2,ls,sn,sd,rest2,p2,rfl,hsr2,hrd2,hp2,hov2,hon2,hlen2,hnd2,hsub2,hu2⟩ | ⟨⟨T,y,va,vl,vc,v1,v2,rfl⟩,hbad,hon2⟩)
   ·obtain ⟨la,lc,rfl⟩:=hov2.form
    have hA2:Below w2.heap.size w2 ((w2.alloc (Obj.cells #[.slice la ls.length lc,.int .i64 sn,.int .i64 sd] 209)).alloc (Obj.cells #[.slice la ls.length lc,.int .i64 sn,.int .i64 sd] 209)):=((Below.refl _ _).alloc (Nat.le_refl _) _).alloc (by simp) _
    have hw2:wr.heap.size≤w2.heap.size:=hon2.size
    have hw3:=HT.out.1.2.2.2
    have hoq2:OVq w2 (w.heap.size+3) (.slice oa ss.length oc) ss:=HT.out.2.2.2.1.stay hon2 (fun k hk=>by have:=HT.out.2.2.2.1.blk hk;omega)
    have hdq2:DeepQ w2 (w.heap.size+3) ss:=HT.out.2.2.2.2.1.stay hon2 (fun z hz k hk=>by have:=(HT.out.2.2.2.2.1.mine z hz).rowB hk;omega)
    have hdq3:DeepQ w2 (w.heap.size+3) (ss++[⟨la,lc,ls,sn,sd⟩]):=by
     obtain ⟨a5,c5,e5,hm5,hr5⟩:=hov2.mineAt
     obtain ⟨rfl,rfl⟩:la=a5∧lc=c5:=by simpa using e5
     refine hdq2.snoc (hm5.mono (by omega) (Nat.le_refl _)) (fun z hz k hk hk2=>?_)
     have h1:=((HT.out.2.2.2.2.1.mine z hz).rowB hk).2
     have h2:=hov2.blk (hr5 k hk2)
     omega
    have HO2:Hid (OVq ((w2.alloc (Obj.cells #[.slice la ls.length lc,.int .i64 sn,.int .i64 sd] 209)).alloc (Obj.cells #[.slice la ls.length lc,.int .i64 sn,.int .i64 sd] 209)) (w.heap.size+3) (.slice oa ss.length oc) ss∧DeepQ ((w2.alloc (Obj.cells #[.slice la ls.length lc,.int .i64 sn,.int .i64 sd] 209)).alloc (Obj.cells #[.slice la ls.length lc,.int .i64 sn,.int .i64 sd] 209)) (w.heap.size+3) (ss++[⟨la,lc,ls,sn,sd⟩])):=⟨hoq2.below hA2,hdq3.below hA2⟩
    have HS2:Hid (SR w w2 w.heap.size (w.heap.size+1+1) (w.heap.size+1) rest2∧RD w2 w.heap.size (w.heap.size+1) x zs.length cx N p2∧Below w.heap.size w w2):=⟨hsr2,hrd2,HT.out.1.2.2.1.trans (hon2.below (by omega) (fun k hk=>by omega))⟩
    have HU2:Hid (uqE N (uq N V rest2 p2 [] 0 ((ss++[(⟨la,lc,ls,sn,sd⟩:Sq)]).map Sq.ct))=uqF N V ts):=by
     unfold Hid
     rw [←HT.out.2.1,hu2 (ss.map Sq.ct),List.map_append]
     rfl
    have HSM:Hid (Sml (ss++[⟨la,lc,ls,sn,sd⟩])):=HT.out.2.2.1.snoc ⟨hnd2.1,hnd2.2.1,hnd2.2.2.1,hnd2.2.2.2,by simp only;omega⟩
    have HSB:Hid (∀ z ∈ rest2,z ∈ ts):=fun z hz=>HT.out.2.2.2.2.2 z (hsub2 z hz)
    have HLN:Hid (rest2.length<rest.length∧p2≤N):=⟨hlen2.2,hp2⟩
    have hss3:ss.length≤300:=by omega
    have hln2:=hlen2.2
    clear hsr2 hrd2 hp2 hov2 hon2 hlen2 hnd2 hsub2 hu2 hA2 hoq2 hdq2 hdq3 HT
    go_wp2_with (at_builtin;(refine wpList_append_sq rfl (.tmp 30) (.tmp 32) rfl (w.heap.size+3) (.slice oa ss.length oc) ss rfl HO2.out.1 (w2.heap.size+1) 1 ⟨la,lc,ls,sn,sd⟩ rfl (by intro j u hj;have h9:=newsQ (w2.alloc (Obj.cells #[.slice la ls.length lc,.int .i64 sn,.int .i64 sd] 209)) la ls.length lc sn sd 209 ⟨la,lc,ls,sn,sd⟩ rfl rfl rfl rfl rfl j u hj;simpa using h9) (by omega) (by simp;omega) ?_);intro v4 w4 hown hgrow)
    have hA3:Below w2.heap.size w2 ((w2.alloc (Obj.cells #[.slice la ls.length lc,.int .i64 sn,.int .i64 sd] 209)).alloc (Obj.cells #[.slice la ls.length lc,.int .i64 sn,.int .i64 sd] 209)):=((Below.refl _ _).alloc (Nat.le_refl _) _).alloc (by simp) _
    have hon4:Only (fun k=>w.heap.size+3≤k) w2 w4:=(Only.ofBelow (S:=fun k=>w.heap.size+3≤k) hA3 (Nat.le_refl _)).grown hgrow (fun k hk=>.inl (HO2.out.1.blk hk).1)
    have HF4:Hid ((SR w w4 w.heap.size (w.heap.size+1+1) (w.heap.size+1) rest2∧RD w4 w.heap.size (w.heap.size+1) x zs.length cx N p2∧Below w.heap.size w w4∧w.heap.size+3≤w4.heap.size)∧OVq w4 (w.heap.size+3) v4 (ss++[⟨la,lc,ls,sn,sd⟩])∧DeepQ w4 (w.heap.size+3) (ss++[⟨la,lc,ls,sn,sd⟩])):=
     ⟨⟨HS2.out.1.only hon4 (by omega),HS2.out.2.1.only hon4 (by omega),HS2.out.2.2.trans (hon4.below (by omega) (fun k hk=>by omega)),by have:=hon4.size;omega⟩,hown,HO2.out.2.grown HO2.out.1 hgrow⟩
    obtain ⟨o4,c4,rfl⟩:=hown.form
    clear hown hgrow hA3 hon4 HO2 HS2
    go_roundw
    case rel=>exact ⟨rest2,p2,_,o4,c4,rfl,HF4.out.1,⟨HLN.out.2,by rw [List.length_append];simp;omega,HSB.out⟩,HU2.out,HSM.out,HF4.out.2.1,HF4.out.2.2⟩
    case measure=>rw [HF4.out.1.1.lenAt,HLA.out.1];exact HLN.out.1
   ·have HN:Hid (uqF N V ts=none):=by
     unfold Hid
     rw [←HT.out.2.1]
     exact hbad _
    have HB2:Hid (Below w.heap.size w w2):=HT.out.1.2.2.1.trans (hon2.below (by have:=HT.out.1.2.2.2;omega) (fun k hk=>by omega))
    clear HT HLA hbad hon2
    go_wp2
    exact bodyPost_ret (v:=.tuple #[.slice none 0 0,.iface T y]) (by simp [results,Tryz.results201,go_sem]) rfl (soR.no (by first | exact HB2.out | exact HB2.out.alloc (by have:=HB2.out.size;omega) _) HN.out)
end Go.Proofs.YtaibkchbkedjnaaGreatDoor
