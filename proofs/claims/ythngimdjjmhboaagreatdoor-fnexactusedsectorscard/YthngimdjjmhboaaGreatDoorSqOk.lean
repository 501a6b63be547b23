/-
  How many bytes come of sequences; the model's SeqsOk.
-/
import Derived.Test.YthngimdjjmhboaaGreatDoorSqP
namespace Go.Proofs.YthngimdjjmhboaaGreatDoor
open Go.RowKit
set_option linter.unusedVariables false

def stp (last:Bool) (m:Nat) (s:Sq):Option Nat:=
 if 64<m+s.ls.length then none
 else if s.n=0 then (if s.d=0∧last=true∧0<s.ls.length then some (m+s.ls.length) else none)
 else if 3≤s.n∧s.n≤64 - ((m+s.ls.length:Nat):Int)∧1≤s.d∧s.d≤((m+s.ls.length:Nat):Int) then some (m+s.ls.length+s.n.toNat)
 else none
def sqc (ss:List Sq):Nat→Option Nat
 | 0=>some 0
 | k+1=>(sqc ss k).bind (fun m=>stp (decide (k+1=ss.length)) m (ss.getD k dq))
def sqn (ss:List Sq):Option Nat:=if 40<ss.length then none else sqc ss ss.length
theorem stp_le {last:Bool} {m:Nat} {s:Sq} {m':Nat} (h:stp last m s=some m'):m'≤64:=by
 unfold stp at h
 split at h
 ·cases h
 ·split at h
  ·split at h
   ·simp at h;omega
   ·cases h
  ·split at h
   ·simp at h;omega
   ·cases h
theorem sqc_le {ss:List Sq} {k m:Nat} (h:sqc ss k=some m):m≤64:=by
 cases k with
 | zero=>simp [sqc] at h;omega
 | succ k=>
  simp only [sqc,Option.bind_eq_some_iff] at h
  obtain ⟨m0,_,h2⟩:=h
  exact stp_le h2
theorem sqc_none {ss:List Sq} {k:Nat} (h:sqc ss k=none):∀ j,k≤j→sqc ss j=none:=by
 intro j hj
 induction j with
 | zero => obtain rfl : k = 0 := by omega
           exact h
 | succ j ih=>
  by_cases hk:k≤j
  ·simp only [sqc,ih hk,Option.bind_none]
  ·obtain rfl:k=j+1:=by omega
   exact h
theorem sqc_step {ss:List Sq} {k m:Nat} (h:sqc ss k=some m):sqc ss (k+1)=stp (decide (k+1=ss.length)) m (ss.getD k dq):=by
 simp only [sqc,h,Option.bind_some]
theorem sqn_none {ss:List Sq} {k m:Nat} (h:sqc ss k=some m) (hk:k<ss.length) (hs:stp (decide (k+1=ss.length)) m (ss.getD k dq)=none):sqn ss=none:=by
 unfold sqn
 split
 ·rfl
 ·exact sqc_none ((sqc_step h).trans hs) _ hk
theorem sqn_some {ss:List Sq} {m:Nat} (h:sqc ss ss.length=some m) (hl:ss.length≤40):sqn ss=some m:=by
 unfold sqn
 rw [if_neg (by omega)]
 exact h
theorem sqn_len {ss:List Sq} (h:40<ss.length):sqn ss=none:=by simp [sqn,h]
theorem sqc_ct {ss ts:List Sq} (h:ss.map Sq.ct=ts.map Sq.ct) (k:Nat):sqc ss k=sqc ts k:=by
 have hl:ss.length=ts.length:=by have:=congrArg List.length h;simpa using this
 induction k with
 | zero=>rfl
 | succ k ih=>
  have hg:(ss.getD k dq).ct=(ts.getD k dq).ct:=by
   have:(ss.map Sq.ct).getD k dq.ct=(ts.map Sq.ct).getD k dq.ct:=by rw [h]
   simpa [List.getD_eq_getElem?_getD,List.getElem?_map,Option.getD_map] using this
  simp only [Sq.ct,Prod.mk.injEq] at hg
  simp only [sqc,ih,hl,stp,hg]
theorem sqn_ct {ss ts:List Sq} (h:ss.map Sq.ct=ts.map Sq.ct):sqn ss=sqn ts:=by
 have hl:ss.length=ts.length:=by have:=congrArg List.length h;simpa using this
 simp only [sqn,hl,sqc_ct h]
theorem stp_over {last:Bool} {m:Nat} {s:Sq} (h:64<m+s.ls.length):stp last m s=none:=by unfold stp;rw [if_pos h]
theorem stp_rest {last:Bool} {m:Nat} {s:Sq} (h:¬64<m+s.ls.length) (h0:s.n=0):stp last m s=if s.d=0∧last=true∧0<s.ls.length then some (m+s.ls.length) else none:=by unfold stp;rw [if_neg h,if_pos h0]
theorem stp_piece {last:Bool} {m:Nat} {s:Sq} (h:¬64<m+s.ls.length) (h0:¬s.n=0):stp last m s=if 3≤s.n∧s.n≤64 - ((m+s.ls.length:Nat):Int)∧1≤s.d∧s.d≤((m+s.ls.length:Nat):Int) then some (m+s.ls.length+s.n.toNat) else none:=by unfold stp;rw [if_neg h,if_neg h0]

set_option maxRecDepth 20000 in
set_option maxHeartbeats 4000000 in
theorem specSeqsOk_any (a:Option Addr) (cap:Nat) (ss:List Sq) (w:World) (hb:Sqs w a ss) (hx:ss.length≤281474976710656) (hxl:∀ s ∈ ss,s.ls.length≤281474976710656) :
  Calls Tryz.prog 120 #[.slice a ss.length cap] w fun e w'=>e=.returned (.bool (sqn ss).isSome)∧Below w.heap.size w w':=by
 by_cases h40:ss.length≤40
 ·have HSS:Hid (Sqs w a ss):=hb
  have HXL:Hid (∀ s ∈ ss,s.ls.length≤281474976710656):=hxl
  have HST:Hid _:=fun k m=>@sqc_step ss k m
  have HNO:Hid _:=fun k m=>@sqn_none ss k m
  have HYE:Hid _:=fun m=>@sqn_some ss m
  clear hb hxl
  generalize hlen:ss.length=n at *
  have HL:Hid (ss.length=n):=hlen
  clear hlen
  go_enter Tryz.func120,Tryz.ntmps120
  go_wp2
  go_loopw [3,4] (fun x i wr=>∃ k m:Nat,k≤n∧m≤64∧i=.int .i64 k∧x=.int .i64 m∧sqc ss k=some m∧Below w.heap.size w wr) (fun _ i _=>n - (intOf i).toNat)
  case atStart=>exact ⟨0,0,Nat.zero_le _,by omega,rfl,rfl,rfl,Below.refl _ _⟩
  case round=>
   obtain ⟨k,m,hk,hm,rfl,rfl,hsq,hbel⟩:=hrel
   have HSQ:Hid (sqc ss k=some m):=hsq
   clear hsq
   by_cases hlt:k<n
   ·obtain ⟨b,off,rfl,hb1,hc1⟩:=(HSS.out.below hbel (Nat.le_refl _)).len_pos k (by rw [HL.out];exact hlt)
    have hli:=hc1 k (by rw [HL.out];exact hlt)
    have hrg:=HSS.out.rng k (by rw [HL.out];exact hlt)
    have hll:=HXL.out _ (getD_memS (k:=k) (by rw [HL.out];exact hlt))
    have HS:=HST.out k m HSQ.out
    have HN:=HNO.out k m HSQ.out hlt
    clear hc1
    generalize ss.getD k dq=s at *
    obtain ⟨sa,sc,sl,sn,sd⟩:=s
    obtain ⟨c0,c1,c2,hby⟩:=hli
    simp only at c0 c1 c2 hrg hll
    obtain ⟨⟨rn1,rn2⟩,⟨rd1,rd2⟩,-⟩:=hrg
    have HB2:Hid (Below w.heap.size w (wr.alloc (Obj.cells #[Value.slice sa sl.length sc,Value.int IntKind.i64 sn,Value.int IntKind.i64 sd] 209))):=hbel.alloc hbel.size _
    clear hby
    by_cases g1:64<m+sl.length
    ·have HF:Hid (sqn ss=none):=HN (stp_over g1)
     have g1':(64:Int)<(m:Int)+sl.length:=by omega
     clear HS HN
     go_wp2
     go_ret
     exact ⟨by rw [HF.out];rfl,HB2.out⟩
    ·have g1':¬(64:Int)<(m:Int)+sl.length:=by omega
     by_cases g2:sn=0
     ·subst g2
      have E:=stp_rest (last:=decide (k+1=n)) (m:=m) (s:=⟨sa,sc,sl,0,sd⟩) g1 rfl
      simp only at E
      by_cases g3:sd=0
      ·subst g3
       by_cases g4:k+1=n
       ·have g4':¬(k:Int)<(n:Int) - 1:=by omega
        by_cases g5:0<sl.length
        ·have HS2:Hid (sqc ss (k+1)=some (m+sl.length)):=by
          rw [E,if_pos ⟨rfl,by simpa using g4,g5⟩] at HS
          exact HS
         have g5':((sl.length:Int) == 0)=false:=by rw [beq_eq_false_iff_ne];omega
         clear HS HN E g4 g5
         go_wp2
         go_roundw
         case rel=>exact ⟨k+1,m+sl.length,by omega,by omega,by go_num,by go_num,HS2.out,HB2.out⟩
         case measure=>simp [intOf];omega
        ·have HF:Hid (sqn ss=none):=HN (by rw [E,if_neg (by omega)])
         have g5':((sl.length:Int) == 0)=true:=by rw [beq_iff_eq];omega
         clear HS HN E g4 g5
         go_wp2
         go_ret
         exact ⟨by rw [HF.out];rfl,HB2.out⟩
       ·have HF:Hid (sqn ss=none):=HN (by rw [E,if_neg (by simp;omega)])
        have g4':(k:Int)<(n:Int) - 1:=by omega
        clear HS HN E g4
        go_wp2
        go_ret
        exact ⟨by rw [HF.out];rfl,HB2.out⟩
      ·have HF:Hid (sqn ss=none):=HN (by rw [E,if_neg (by omega)])
       have g3':(sd != 0)=true:=by rw [bne_iff_ne];exact g3
       clear HS HN E g3
       go_wp2
       go_ret
       exact ⟨by rw [HF.out];rfl,HB2.out⟩
     ·have E:=stp_piece (last:=decide (k+1=n)) (m:=m) (s:=⟨sa,sc,sl,sn,sd⟩) g1 g2
      simp only at E
      have g2':(sn == 0)=false:=by simpa using g2
      clear g2
      by_cases q:3≤sn∧sn≤64 - ((m+sl.length:Nat):Int)∧1≤sd∧sd≤((m+sl.length:Nat):Int)
      ·have HS2:Hid (sqc ss (k+1)=some (m+sl.length+sn.toNat)):=by
        rw [E,if_pos q] at HS
        exact HS
       obtain ⟨q1,q2,q3,q4⟩:=q
       have q2':sn≤64 - ((m:Int)+sl.length):=by omega
       have q4':sd≤(m:Int)+sl.length:=by omega
       clear HS HN E q2 q4
       go_wp2
       go_roundw
       case rel=>exact ⟨k+1,m+sl.length+sn.toNat,by omega,by omega,by go_num,by go_num,HS2.out,HB2.out⟩
       case measure=>simp [intOf];omega
      ·have HF:Hid (sqn ss=none):=HN (by rw [E,if_neg q])
       have key:sn<3∨(3≤sn∧64 - ((m:Int)+sl.length)<sn)∨(3≤sn∧sn≤64 - ((m:Int)+sl.length)∧sd<1)∨(3≤sn∧sn≤64 - ((m:Int)+sl.length)∧1≤sd∧(m:Int)+sl.length<sd):=by omega
       clear HS HN E q
       rcases key with q1 | ⟨q1,q2⟩ | ⟨q1,q2,q3⟩ | ⟨q1,q2,q3,q4⟩
       all_goals
        go_wp2
        go_ret
        exact ⟨by rw [HF.out];rfl,HB2.out⟩
   ·have hkn:k=n:=by omega
    subst hkn
    have HF:Hid (sqn ss=some m):=HYE.out m HSQ.out h40
    go_wp2
    go_ret
    exact ⟨by rw [HF.out];rfl,hbel⟩
 ·have HF:Hid (sqn ss=none):=sqn_len (by omega)
  go_enter Tryz.func120,Tryz.ntmps120
  go_wp2
  go_ret
  exact ⟨by rw [HF.out];rfl,Below.refl _ _⟩
end Go.Proofs.YthngimdjjmhboaaGreatDoor
