/- Lemmas on the way. -/
import Derived.Test.YtfeokafkhnbdiaaGreatDoorLzM
import Derived.Test.YtfeokafkhnbdiaaGreatDoorPcB
import Derived.Test.YtfeokafkhnbdiaaGreatDoorArR
set_option maxRecDepth 20000
set_option maxHeartbeats 16000000
namespace Go.Proofs.YtfeokafkhnbdiaaGreatDoor
open Go.RowKit
set_option linter.unusedVariables false
def lz (ys:List Int) (q:Nat):Nat × Nat:=if q<ys.length then lzA ys q else (0,0)
def cutL (ys:List Int) (f q:Nat):List Int:=(ys.drop f).take (q-f)
theorem cutL_nil (ys:List Int) (q:Nat):cutL ys q q=[]:=by simp [cutL]
theorem cutL_snoc (ys:List Int) (f q:Nat) (hf:f≤q) (hq:q<ys.length):cutL ys f q++[ys.getD q 0]=cutL ys f (q+1):=by
 unfold cutL
 rw [show q+1-f=(q-f)+1 by omega,List.take_succ_eq_append_getElem (by simp;omega)]
 congr 1
 simp only [List.getElem_drop]
 rw [List.getD_eq_getElem?_getD,List.getElem?_eq_getElem hq]
 simp [show f+(q-f)=q by omega]
theorem cutL_len (ys:List Int) (f q:Nat) (hf:f≤q) (hq:q≤ys.length):(cutL ys f q).length=q-f:=by
 unfold cutL
 rw [List.length_take,List.length_drop]
 omega
theorem cutL_mem {ys:List Int} {f q:Nat} {z:Int} (h:z ∈ cutL ys f q):z ∈ ys:=List.mem_of_mem_drop (List.mem_of_mem_take h)
def takes (ys:List Int) (q:Nat):Prop:=0<(lz ys q).1∧(lz ys (q+1)).1≤(lz ys q).1
theorem lz_le (ys:List Int) (q:Nat):q+(lz ys q).1≤max q ys.length∧(lz ys q).2≤q:=by
 unfold lz
 split
 ·unfold lzA
  have h1:=lzD_spec ys q q
  split
  ·simp;omega
  ·rcases h1.2 with h | ⟨d,d1,d2,h,_⟩
   ·rw [h];simp;omega
   ·have:=alk_le ys (q-d) q
    rw [h]
    simp only
    omega
 ·simp;omega
def fin (ys:List Int) (f:Nat) (cs:List (List Int × Int × Int)):List (List Int × Int × Int):=if f<ys.length then cs++[(cutL ys f ys.length,0,0)] else cs
def go (ys:List Int):Nat→Nat→Nat→List (List Int × Int × Int)→Nat × List (List Int × Int × Int)
 | 0,f,q,cs=>(f,cs)
 | n+1,f,q,cs=>if q<ys.length then (if 0<(lz ys q).1∧(lz ys (q+1)).1≤(lz ys q).1 then go ys n (q+(lz ys q).1) (q+(lz ys q).1) (cs++[(cutL ys f q,((lz ys q).1:Int),((lz ys q).2:Int))]) else go ys n f (q+1) cs) else (f,cs)
def found (ys:List Int):List (List Int × Int × Int):=fin ys (go ys ys.length 0 0 []).1 (go ys ys.length 0 0 []).2
structure St (ys:List Int) (f q:Nat) (cs:List (List Int × Int × Int)):Prop where
 fq:f≤q
 ql:q≤ys.length
 cl:cs.length≤q
 parts:∀ c ∈ cs,c.1.length≤ys.length∧(∃ n d:Nat,c.2=((n:Int),(d:Int))∧n≤ys.length∧d≤ys.length)
 run:∃ m,ys.length≤m+q∧go ys m f q cs=go ys ys.length 0 0 []
theorem St.start (ys:List Int):St ys 0 0 []:=⟨Nat.le_refl _,Nat.zero_le _,Nat.le_refl _,by simp,ys.length,by omega,rfl⟩
theorem St.wait {ys:List Int} {f q:Nat} {cs:List (List Int × Int × Int)} (h:St ys f q cs) (hq:q<ys.length) (ht:¬takes ys q):St ys f (q+1) cs:=by
 have h1:=h.fq
 have h2:=h.cl
 refine ⟨by omega,hq,by omega,h.parts,?_⟩
 obtain ⟨m,hm,hg⟩:=h.run
 obtain ⟨k,rfl⟩:∃ k,m=k+1:=⟨m-1,by omega⟩
 refine ⟨k,by omega,?_⟩
 rw [←hg]
 simp only [go]
 rw [if_pos hq,if_neg (show ¬(0<(lz ys q).1∧(lz ys (q+1)).1≤(lz ys q).1) from ht)]
theorem St.take {ys:List Int} {f q:Nat} {cs:List (List Int × Int × Int)} (h:St ys f q cs) (hq:q<ys.length) (ht:takes ys q):St ys (q+(lz ys q).1) (q+(lz ys q).1) (cs++[(cutL ys f q,((lz ys q).1:Int),((lz ys q).2:Int))]):=by
 have h1:=h.fq
 have h2:=h.cl
 have h3:=lz_le ys q
 have h4:=ht.1
 refine ⟨Nat.le_refl _,by omega,by rw [List.length_append];simp;omega,?_,?_⟩
 ·intro c hc
  rcases List.mem_append.1 hc with hc | hc
  ·exact h.parts c hc
  ·simp only [List.mem_singleton] at hc
   subst hc
   have h5:=cutL_len ys f q h1 h.ql
   exact ⟨by show (cutL ys f q).length≤_;omega,_,_,rfl,by omega,by omega⟩
 ·obtain ⟨m,hm,hg⟩:=h.run
  obtain ⟨k,rfl⟩:∃ k,m=k+1:=⟨m-1,by omega⟩
  refine ⟨k,by omega,?_⟩
  rw [←hg]
  simp only [go]
  rw [if_pos hq,if_pos (show 0<(lz ys q).1∧(lz ys (q+1)).1≤(lz ys q).1 from ht)]
theorem St.done {ys:List Int} {f q:Nat} {cs:List (List Int × Int × Int)} (h:St ys f q cs) (hq:¬q<ys.length):found ys=fin ys f cs:=by
 obtain ⟨m,hm,hg⟩:=h.run
 have e:go ys m f q cs=(f,cs):=by
  cases m with
  | zero=>rfl
  | succ m=>simp only [go];rw [if_neg hq]
 rw [e] at hg
 unfold found
 rw [←hg]
theorem lz_at {ys:List Int} {q:Nat} (h:q<ys.length):lz ys q=lzA ys q:=if_pos h
theorem lz_end {ys:List Int} {q:Nat} (h:¬q<ys.length):lz ys q=(0,0):=if_neg h
structure Sq where
 a:Option Addr
 c:Nat
 ls:List Int
 n:Int
 d:Int
def Sq.ct (s:Sq):List Int × Int × Int:=(s.ls,s.n,s.d)
def dq :Sq:=⟨none,0,[],0,0⟩
def rI (z:Int):Prop:=-9223372036854775808≤z∧z≤9223372036854775807
def Sq.cells (s:Sq):List Value:=[.slice s.a s.ls.length s.c,.int .i64 s.n,.int .i64 s.d]
structure Lies (w:World) (b o:Nat) (s:Sq):Prop where
 c0:w.cell? ⟨b,o,none⟩=some (.slice s.a s.ls.length s.c)
 c1:w.cell? ⟨b,o+1,none⟩=some (.int .i64 s.n)
 c2:w.cell? ⟨b,o+2,none⟩=some (.int .i64 s.d)
 byt:Byt w s.a s.ls
def Sqs (w:World) (a:Option Addr) (ss:List Sq):Prop:=
 (∀ s ∈ ss,rI s.n∧rI s.d∧s.ls.length≤maxLen)∧(0<ss.length→∃ b off,a=some ⟨b,off,none⟩∧b<w.heap.size∧∀ i,i<ss.length→Lies w b (off+i*3) (ss.getD i dq))
theorem Lies.below {w w':World} {b o:Nat} {s:Sq} {B:Nat} (h:Lies w b o s) (hb:Below B w w') (hB:w.heap.size≤B) (hlt:b<w.heap.size):Lies w' b o s:=
 ⟨keep hb (by omega) h.c0,keep hb (by omega) h.c1,keep hb (by omega) h.c2,h.byt.below hb hB⟩
theorem Sqs.below {w w':World} {a:Option Addr} {ss:List Sq} {B:Nat} (h:Sqs w a ss) (hb:Below B w w') (hB:w.heap.size≤B):Sqs w' a ss:=by
 refine ⟨h.1,fun hz=>?_⟩
 obtain ⟨b,off,rfl,hlt,hc⟩:=h.2 hz
 exact ⟨b,off,rfl,Nat.lt_of_lt_of_le hlt hb.size,fun i hi=>(hc i hi).below hb hB hlt⟩
theorem Sqs.len_pos {w:World} {a:Option Addr} {ss:List Sq} (h:Sqs w a ss) (i:Nat) (hi:i<ss.length):∃ b off,a=some ⟨b,off,none⟩∧b<w.heap.size∧∀ i,i<ss.length→Lies w b (off+i*3) (ss.getD i dq):=h.2 (by omega)
theorem getD_memS {ss:List Sq} {k:Nat} (hk:k<ss.length):ss.getD k dq ∈ ss:=by
 rw [List.getD_eq_getElem?_getD,List.getElem?_eq_getElem hk];exact List.getElem_mem hk
theorem Sqs.rng {w:World} {a:Option Addr} {ss:List Sq} (h:Sqs w a ss) (k:Nat) (hk:k<ss.length):rI (ss.getD k dq).n∧rI (ss.getD k dq).d∧(ss.getD k dq).ls.length≤maxLen:=h.1 _ (getD_memS hk)
theorem flat_get (ss:List Sq):∀ k,k<ss.length→(ss.flatMap Sq.cells)[k*3]?=some (.slice (ss.getD k dq).a (ss.getD k dq).ls.length (ss.getD k dq).c)∧(ss.flatMap Sq.cells)[k*3+1]?=some (.int .i64 (ss.getD k dq).n)∧(ss.flatMap Sq.cells)[k*3+2]?=some (.int .i64 (ss.getD k dq).d):=by
 induction ss with
 | nil=>intro k hk;simp at hk
 | cons s ss ih=>
  intro k hk
  cases k with
  | zero=>simp [List.flatMap_cons,Sq.cells]
  | succ k=>
   have:=ih k (by simpa using hk)
   rw [List.flatMap_cons,show (k+1)*3=k*3+3 from by omega]
   simpa [Sq.cells] using this
structure OwS (w:World) (B g cap:Nat) (ss:List Sq):Prop where
 row:w.ownsRow B 37 3 (.slice (some ⟨g,0,none⟩) ss.length cap) ss.length (ss.flatMap Sq.cells)
 rng:∀ s ∈ ss,rI s.n∧rI s.d∧s.ls.length≤maxLen
 mine:∀ s ∈ ss,Mine w B w.heap.size s.a s.c s.ls
 apart:∀ i j,i<ss.length→j<ss.length→i≠j→∀ k,rowOf (ss.getD i dq).a k→¬rowOf (ss.getD j dq).a k
section
variable {w w' : World} {B g cap : Nat} {ss : List Sq}
theorem rowStay {T:TypeId} {sz:Nat} {v:Value} {n:Nat} {xs:List Value} {S:Nat→Prop} (h:w.ownsRow B T sz v n xs) (ho:Only S w w') (hs:∀ k,v.ownBlock=some k→¬S k):w'.ownsRow B T sz v n xs:=by
 refine ⟨h.1,?_⟩
 rcases h.2 with h' | ⟨g,cap,cur,rfl,hg,hh,r⟩
 ·exact .inl h'
 ·exact .inr ⟨g,cap,cur,rfl,hg,(ho.block g (Array.getElem?_eq_some_iff.1 hh).1 (hs g rfl)).trans hh,r⟩
theorem Mine.rowB {a:Option Addr} {U c k:Nat} {zs:List Int} (h:Mine w B U a c zs) (hr:rowOf a k):B≤k∧k<U:=by
 obtain ⟨x,hx,rfl⟩:=hr
 rcases h with ⟨h',_⟩ | ⟨g,h',g1,g2,_⟩
 ·rw [h'] at hx;cases hx
 ·rw [h'] at hx
  simp at hx
  rw [←hx]
  exact ⟨g1,g2⟩
end
def stp (last:Bool) (m:Nat) (s:Sq):Option Nat:=
 if 64<m+s.ls.length then none
 else if s.n=0 then (if s.d=0∧last=true∧0<s.ls.length then some (m+s.ls.length) else none)
 else if 3≤s.n∧s.n≤64-((m+s.ls.length:Nat):Int)∧1≤s.d∧s.d≤((m+s.ls.length:Nat):Int) then some (m+s.ls.length+s.n.toNat)
 else none
def sqc (ss:List Sq):Nat→Option Nat
 | 0=>some 0
 | k+1=>(sqc ss k).bind (fun m=>stp (decide (k+1=ss.length)) m (ss.getD k dq))
def sqn (ss:List Sq):Option Nat:=if 40<ss.length then none else sqc ss ss.length
theorem stp_le {last:Bool} {m:Nat} {s:Sq} {m':Nat} (h:stp last m s=some m'):m'≤64:=by
 unfold stp at h
 split at h
 ·cases h
 ·split at h
  ·split at h
   ·simp at h;omega
   ·cases h
  ·split at h
   ·simp at h;omega
   ·cases h
theorem sqc_le {ss:List Sq} {k m:Nat} (h:sqc ss k=some m):m≤64:=by
 cases k with
 | zero=>simp [sqc] at h;omega
 | succ k=>
  simp only [sqc,Option.bind_eq_some_iff] at h
  obtain ⟨m0,_,h2⟩:=h
  exact stp_le h2
theorem sqc_none {ss:List Sq} {k:Nat} (h:sqc ss k=none):∀ j,k≤j→sqc ss j=none:=by
 intro j hj
 induction j with
 | zero => obtain rfl : k = 0 := by omega
           exact h
 | succ j ih=>
  by_cases hk:k≤j
  ·simp only [sqc,ih hk,Option.bind_none]
  ·obtain rfl:k=j+1:=by omega
   exact h
theorem sqc_step {ss:List Sq} {k m:Nat} (h:sqc ss k=some m):sqc ss (k+1)=stp (decide (k+1=ss.length)) m (ss.getD k dq):=by
 simp only [sqc,h,Option.bind_some]
theorem sqn_none {ss:List Sq} {k m:Nat} (h:sqc ss k=some m) (hk:k<ss.length) (hs:stp (decide (k+1=ss.length)) m (ss.getD k dq)=none):sqn ss=none:=by
 unfold sqn
 split
 ·rfl
 ·exact sqc_none ((sqc_step h).trans hs) _ hk
theorem sqn_some {ss:List Sq} {m:Nat} (h:sqc ss ss.length=some m) (hl:ss.length≤40):sqn ss=some m:=by
 unfold sqn
 rw [if_neg (by omega)]
 exact h
theorem sqn_len {ss:List Sq} (h:40<ss.length):sqn ss=none:=by simp [sqn,h]
theorem sqc_ct {ss ts:List Sq} (h:ss.map Sq.ct=ts.map Sq.ct) (k:Nat):sqc ss k=sqc ts k:=by
 have hl:ss.length=ts.length:=by have:=congrArg List.length h;simpa using this
 induction k with
 | zero=>rfl
 | succ k ih=>
  have hg:(ss.getD k dq).ct=(ts.getD k dq).ct:=by
   have:(ss.map Sq.ct).getD k dq.ct=(ts.map Sq.ct).getD k dq.ct:=by rw [h]
   simpa [List.getD_eq_getElem?_getD,List.getElem?_map,Option.getD_map] using this
  simp only [Sq.ct,Prod.mk.injEq] at hg
  simp only [sqc,ih,hl,stp,hg]
theorem sqn_ct {ss ts:List Sq} (h:ss.map Sq.ct=ts.map Sq.ct):sqn ss=sqn ts:=by
 have hl:ss.length=ts.length:=by have:=congrArg List.length h;simpa using this
 simp only [sqn,hl,sqc_ct h]
theorem stp_over {last:Bool} {m:Nat} {s:Sq} (h:64<m+s.ls.length):stp last m s=none:=by unfold stp;rw [if_pos h]
theorem stp_rest {last:Bool} {m:Nat} {s:Sq} (h:¬64<m+s.ls.length) (h0:s.n=0):stp last m s=if s.d=0∧last=true∧0<s.ls.length then some (m+s.ls.length) else none:=by unfold stp;rw [if_neg h,if_pos h0]
theorem stp_piece {last:Bool} {m:Nat} {s:Sq} (h:¬64<m+s.ls.length) (h0:¬s.n=0):stp last m s=if 3≤s.n∧s.n≤64-((m+s.ls.length:Nat):Int)∧1≤s.d∧s.d≤((m+s.ls.length:Nat):Int) then some (m+s.ls.length+s.n.toNat) else none:=by unfold stp;rw [if_neg h,if_neg h0]
theorem specSeqsOk_any (a:Option Addr) (cap:Nat) (ss:List Sq) (w:World) (hb:Sqs w a ss) (hx:ss.length≤281474976710656) (hxl:∀ s ∈ ss,s.ls.length≤281474976710656) :
  Calls Tryz.prog 20 #[.slice a ss.length cap] w fun e w'=>e=.returned (.bool (sqn ss).isSome)∧Below w.heap.size w w':=by
 by_cases h40:ss.length≤40
 ·have HSS:Hid (Sqs w a ss):=hb
  have HXL:Hid (∀ s ∈ ss,s.ls.length≤281474976710656):=hxl
  have HST:Hid _:=fun k m=>@sqc_step ss k m
  have HNO:Hid _:=fun k m=>@sqn_none ss k m
  have HYE:Hid _:=fun m=>@sqn_some ss m
  clear hb hxl
  generalize hlen:ss.length=n at *
  have HL:Hid (ss.length=n):=hlen
  clear hlen
  go_enter Tryz.func20,Tryz.ntmps20
  go_wp2
  go_loopw [3,4] (fun x i wr=>∃ k m:Nat,k≤n∧m≤64∧i=.int .i64 k∧x=.int .i64 m∧sqc ss k=some m∧Below w.heap.size w wr) (fun _ i _=>n-(intOf i).toNat)
  case atStart=>exact ⟨0,0,Nat.zero_le _,by omega,rfl,rfl,rfl,Below.refl _ _⟩
  case round=>
   obtain ⟨k,m,hk,hm,rfl,rfl,hsq,hbel⟩:=hrel
   have HSQ:Hid (sqc ss k=some m):=hsq
   clear hsq
   by_cases hlt:k<n
   ·obtain ⟨b,off,rfl,hb1,hc1⟩:=(HSS.out.below hbel nl).len_pos k (by rw [HL.out];exact hlt)
    have hli:=hc1 k (by rw [HL.out];exact hlt)
    have hrg:=HSS.out.rng k (by rw [HL.out];exact hlt)
    have hll:=HXL.out _ (getD_memS (k:=k) (by rw [HL.out];exact hlt))
    have HS:=HST.out k m HSQ.out
    have HN:=HNO.out k m HSQ.out hlt
    clear hc1
    generalize ss.getD k dq=s at *
    obtain ⟨sa,sc,sl,sn,sd⟩:=s
    obtain ⟨c0,c1,c2,hby⟩:=hli
    simp only at c0 c1 c2 hrg hll
    obtain ⟨⟨rn1,rn2⟩,⟨rd1,rd2⟩,-⟩:=hrg
    have HB2:Hid (Below w.heap.size w (wr.alloc (Obj.cells #[.slice sa sl.length sc,.int .i64 sn,.int .i64 sd] 37))):=hbel.alloc hbel.size _
    clear hby
    by_cases g1:64<m+sl.length
    ·have HF:Hid (sqn ss=none):=HN (stp_over g1)
     have g1':(64:Int)<(m:Int)+sl.length:=by omega
     clear HS HN
     go_wp2
     go_ret
     exact ⟨by rw [HF.out];rfl,HB2.out⟩
    ·have g1':¬(64:Int)<(m:Int)+sl.length:=by omega
     by_cases g2:sn=0
     ·subst g2
      have E:=stp_rest (last:=decide (k+1=n)) (m:=m) (s:=⟨sa,sc,sl,0,sd⟩) g1 rfl
      simp only at E
      by_cases g3:sd=0
      ·subst g3
       by_cases g4:k+1=n
       ·have g4':¬(k:Int)<(n:Int)-1:=by omega
        by_cases g5:0<sl.length
        ·have HS2:Hid (sqc ss (k+1)=some (m+sl.length)):=by
          rw [E,if_pos ⟨rfl,by simpa using g4,g5⟩] at HS
          exact HS
         have g5':((sl.length:Int) == 0)=false:=by rw [beq_eq_false_iff_ne];omega
         clear HS HN E g4 g5
         go_wp2
         go_roundw
         case rel=>exact ⟨k+1,m+sl.length,by omega,by omega,by go_num,by go_num,HS2.out,HB2.out⟩
         case measure=>simp [intOf];omega
        ·have HF:Hid (sqn ss=none):=HN (by rw [E,if_neg (by omega)])
         have g5':((sl.length:Int) == 0)=true:=by rw [beq_iff_eq];omega
         clear HS HN E g4 g5
         go_wp2
         go_ret
         exact ⟨by rw [HF.out];rfl,HB2.out⟩
       ·have HF:Hid (sqn ss=none):=HN (by rw [E,if_neg (by simp;omega)])
        have g4':(k:Int)<(n:Int)-1:=by omega
        clear HS HN E g4
        go_wp2
        go_ret
        exact ⟨by rw [HF.out];rfl,HB2.out⟩
      ·have HF:Hid (sqn ss=none):=HN (by rw [E,if_neg (by omega)])
       have g3':(sd != 0)=true:=by rw [bne_iff_ne];exact g3
       clear HS HN E g3
       go_wp2
       go_ret
       exact ⟨by rw [HF.out];rfl,HB2.out⟩
     ·have E:=stp_piece (last:=decide (k+1=n)) (m:=m) (s:=⟨sa,sc,sl,sn,sd⟩) g1 g2
      simp only at E
      have g2':(sn == 0)=false:=by simpa using g2
      clear g2
      by_cases q:3≤sn∧sn≤64-((m+sl.length:Nat):Int)∧1≤sd∧sd≤((m+sl.length:Nat):Int)
      ·have HS2:Hid (sqc ss (k+1)=some (m+sl.length+sn.toNat)):=by
        rw [E,if_pos q] at HS
        exact HS
       obtain ⟨q1,q2,q3,q4⟩:=q
       have q2':sn≤64-((m:Int)+sl.length):=by omega
       have q4':sd≤(m:Int)+sl.length:=by omega
       clear HS HN E q2 q4
       go_wp2
       go_roundw
       case rel=>exact ⟨k+1,m+sl.length+sn.toNat,by omega,by omega,by go_num,by go_num,HS2.out,HB2.out⟩
       case measure=>simp [intOf];omega
      ·have HF:Hid (sqn ss=none):=HN (by rw [E,if_neg q])
       have key:sn<3∨(3≤sn∧64-((m:Int)+sl.length)<sn)∨(3≤sn∧sn≤64-((m:Int)+sl.length)∧sd<1)∨(3≤sn∧sn≤64-((m:Int)+sl.length)∧1≤sd∧(m:Int)+sl.length<sd):=by omega
       clear HS HN E q
       rcases key with q1 | ⟨q1,q2⟩ | ⟨q1,q2,q3⟩ | ⟨q1,q2,q3,q4⟩
       all_goals
        go_wp2
        go_ret
        exact ⟨by rw [HF.out];rfl,HB2.out⟩
   ·have hkn:k=n:=by omega
    subst hkn
    have HF:Hid (sqn ss=some m):=HYE.out m HSQ.out h40
    go_wp2
    go_ret
    exact ⟨by rw [HF.out];rfl,hbel⟩
 ·have HF:Hid (sqn ss=none):=sqn_len (by omega)
  go_enter Tryz.func20,Tryz.ntmps20
  go_wp2
  go_ret
  exact ⟨by rw [HF.out];rfl,Below.refl _ _⟩
def lets :List Sq→Nat
 | []=>0
 | s :: ss=>s.ls.length+lets ss
theorem lets_app (a b:List Sq):lets (a++b)=lets a+lets b:=by
 induction a with
 | nil=>simp [lets]
 | cons s a ih=>simp only [List.cons_append,lets,ih];omega
theorem lets_take_succ (ss:List Sq) (k:Nat) (h:k<ss.length):lets (ss.take (k+1))=lets (ss.take k)+(ss.getD k dq).ls.length:=by
 rw [List.take_succ_eq_append_getElem h,lets_app]
 simp [lets,List.getD_eq_getElem?_getD,List.getElem?_eq_getElem h]
def cl (n:Nat):Nat:=bl n-1
theorem cl_fact {n:Nat} (h1:1≤n) (h:n<256):2 ^ cl n≤n∧n<2 ^ (cl n+1)∧cl n≤7∧bl n=cl n+1:=by
 have hb:1≤bl n:=by unfold bl;rw [if_neg (by omega)];omega
 have e:cl n+1=bl n:=by unfold cl;omega
 refine ⟨bl_ge n (cl n) h (by unfold cl;omega),by rw [e];exact bl_lt n h,by have:=bl_le n h;unfold cl;omega,e.symm⟩
abbrev SyT :=List Int × Nat × Nat
def putL (st:SyT) (z:Int):SyT:=(st.1++[z / 16],st.2.1+4,st.2.2+(z % 16).toNat*2 ^ st.2.1)
def putN (base n:Nat) (st:SyT):SyT:=(st.1++[((base+cl n:Nat):Int)],st.2.1+cl n,st.2.2+(n-2 ^ cl n)*2 ^ st.2.1)
def putLs (ls:List Int) (st:SyT):SyT:=ls.foldl putL st
def putQ (st:SyT) (s:Sq):SyT:=if s.n=0 then putLs s.ls st else putN 28 s.d.toNat (putN 16 (s.n.toNat-2) (putLs s.ls st))
def syOf (ss:List Sq):SyT:=ss.foldl putQ ([],0,0)
theorem putLs_take (ls:List Int) (st:SyT) (k:Nat) (h:k<ls.length):putLs (ls.take (k+1)) st=putL (putLs (ls.take k) st) (ls.getD k 0):=by
 unfold putLs
 rw [List.take_add_one,List.foldl_append,List.getD_eq_getElem?_getD,List.getElem?_eq_getElem h]
 rfl
theorem syOf_take (ss:List Sq) (k:Nat) (h:k<ss.length):syOf (ss.take (k+1))=putQ (syOf (ss.take k)) (ss.getD k dq):=by
 unfold syOf
 rw [List.take_add_one,List.foldl_append,List.getD_eq_getElem?_getD,List.getElem?_eq_getElem h]
 rfl
theorem putLs_len (ls:List Int) (st:SyT):(putLs ls st).1.length=st.1.length+ls.length∧(putLs ls st).2.1=st.2.1+4*ls.length:=by
 unfold putLs
 induction ls generalizing st with
 | nil=>simp
 | cons z t ih=>
  rw [List.foldl_cons]
  have:=ih (putL st z)
  simp only [putL,List.length_append,List.length_cons,List.length_nil] at this ⊢
  omega
theorem sqc_lets {ss:List Sq} (k m:Nat) (h:sqc ss k=some m) (hk:k≤ss.length):lets (ss.take k)≤m∧∀ j,j<k→(ss.getD j dq).n=0∨(3≤(ss.getD j dq).n∧(ss.getD j dq).n≤64∧1≤(ss.getD j dq).d∧(ss.getD j dq).d≤64):=by
 induction k generalizing m with
 | zero=>exact ⟨by simp [lets],fun j hj=>by omega⟩
 | succ k ih=>
  cases hm:sqc ss k with
  | none=>
   rw [sqc_none hm (k+1) (by omega)] at h
   cases h
  | some m0=>
   obtain ⟨i1,i2⟩:=ih m0 hm (by omega)
   rw [sqc_step hm] at h
   have hl:=lets_take_succ ss k (by omega)
   by_cases ho:64<m0+(ss.getD k dq).ls.length
   ·rw [stp_over ho] at h
    cases h
   ·by_cases h0:(ss.getD k dq).n=0
    ·rw [stp_rest ho h0] at h
     split at h
     ·simp only [Option.some.injEq] at h
      refine ⟨by omega,fun j hj=>?_⟩
      by_cases he:j=k
      ·rw [he];exact .inl h0
      ·exact i2 j (by omega)
     ·cases h
    ·rw [stp_piece ho h0] at h
     split at h
     ·rename_i hh
      simp only [Option.some.injEq] at h
      refine ⟨by omega,fun j hj=>?_⟩
      by_cases he:j=k
      ·rw [he];exact .inr (by omega)
      ·exact i2 j (by omega)
     ·cases h
theorem sqn_lets {ss:List Sq} (h:(sqn ss).isSome=true):ss.length≤40∧lets ss≤64∧∀ j,j<ss.length→(ss.getD j dq).n=0∨(3≤(ss.getD j dq).n∧(ss.getD j dq).n≤64∧1≤(ss.getD j dq).d∧(ss.getD j dq).d≤64):=by
 cases hs:sqn ss with
 | none=>rw [hs] at h;cases h
 | some m=>
  unfold sqn at hs
  split at hs
  ·cases hs
  ·rename_i hl
   have:=sqc_lets ss.length m hs nl
   have hm:=sqc_le hs
   rw [List.take_length] at this
   exact ⟨by omega,by omega,this.2⟩
theorem putQ_len (st:SyT) (s:Sq) (h:s.n=0∨(3≤s.n∧s.n≤64∧1≤s.d∧s.d≤64)):(putQ st s).1.length≤st.1.length+s.ls.length+2∧(putQ st s).2.1≤st.2.1+4*s.ls.length+14:=by
 have hp:=putLs_len s.ls st
 unfold putQ
 split
 ·omega
 ·rename_i h0
  have hr:=h.resolve_left h0
  have c1:=cl_fact (n:=s.n.toNat-2) (by omega) (by omega)
  have c2:=cl_fact (n:=s.d.toNat) (by omega) (by omega)
  simp only [putN,List.length_append,List.length_cons,List.length_nil]
  omega
theorem syOf_len {ss:List Sq} (h:∀ j,j<ss.length→(ss.getD j dq).n=0∨(3≤(ss.getD j dq).n∧(ss.getD j dq).n≤64∧1≤(ss.getD j dq).d∧(ss.getD j dq).d≤64)) (k:Nat) (hk:k≤ss.length):(syOf (ss.take k)).1.length≤lets (ss.take k)+2*k∧(syOf (ss.take k)).2.1≤4*lets (ss.take k)+14*k:=by
 induction k with
 | zero=>simp [syOf,lets]
 | succ k ih=>
  have i:=ih (by omega)
  have hl:=lets_take_succ ss k (by omega)
  rw [syOf_take ss k (by omega)]
  have hq:=putQ_len (syOf (ss.take k)) (ss.getD k dq) (h k (by omega))
  omega
theorem lets_take_le (ss:List Sq) (k:Nat):lets (ss.take k)≤lets ss:=by
 have h1:=lets_app (ss.take k) (ss.drop k)
 rw [List.take_append_drop] at h1
 omega
def putC (st:SyT) (c:List Int × Int × Int):SyT:=if c.2.1=0 then putLs c.1 st else putN 28 c.2.2.toNat (putN 16 (c.2.1.toNat-2) (putLs c.1 st))
theorem syOf_cs (ss:List Sq):syOf ss=(ss.map Sq.ct).foldl putC ([],0,0):=by
 unfold syOf
 rw [List.foldl_map]
 rfl
abbrev Ct :=List Int × Int × Int
def stC (o:Option Nat) (c:Ct):Option Nat:=o.bind (fun m=>if m+c.1.length≤64∧3≤c.2.1∧c.2.1≤64-((m+c.1.length:Nat):Int)∧1≤c.2.2∧c.2.2≤((m+c.1.length:Nat):Int) then some (m+c.1.length+c.2.1.toNat) else none)
def PsC (cs:List Ct) (f:Nat):Prop:=cs.foldl stC (some 0)=some f∧3*cs.length≤f
theorem lzA_piece {ys:List Int} {q:Nat} (hq:q<ys.length) (h:0<(lz ys q).1):3≤(lz ys q).1∧1≤(lz ys q).2∧(lz ys q).2≤q∧q+(lz ys q).1≤ys.length:=by
 have hl:=lz_le ys q
 rw [lz_at hq] at h hl ⊢
 unfold lzA at h hl ⊢
 split at h
 ·simp at h
 ·rename_i h3
  rw [if_neg h3] at hl ⊢
  rcases (lzD_spec ys q q).2 with h4 | ⟨d,d1,d2,d3,_⟩
  ·rw [h4] at h;simp at h
  ·rw [d3] at h3 hl ⊢
   simp only at h3 hl ⊢
   omega
theorem go_ps (ys:List Int) (hn:ys.length≤64):∀ (n f q:Nat) (cs:List Ct),PsC cs f→f≤q→q≤ys.length→PsC (go ys n f q cs).2 (go ys n f q cs).1∧(go ys n f q cs).1≤ys.length
 | 0,f,q,cs,h,h1,h2=>⟨h,by show f≤_;omega⟩
 | n+1,f,q,cs,h,h1,h2=>by
  simp only [go]
  split
  ·rename_i hq
   split
   ·rename_i ht
    obtain ⟨p1,p2,p3,p4⟩:=lzA_piece hq ht.1
    have hc:=cutL_len ys f q h1 h2
    refine go_ps ys hn n _ _ _ ⟨?_,?_⟩ nl (by omega)
    ·rw [List.foldl_append,h.1]
     simp only [List.foldl_cons,List.foldl_nil,stC,Option.bind_some,hc]
     rw [if_pos (by omega)]
     simp only [Int.toNat_natCast,Option.some.injEq]
     omega
    ·have:=h.2
     rw [List.length_append]
     simp only [List.length_cons,List.length_nil]
     omega
   ·exact go_ps ys hn n f (q+1) cs h (by omega) (by omega)
  ·exact ⟨h,by show f≤_;omega⟩
theorem psC_get {cs:List Ct} {f:Nat} (h:cs.foldl stC (some 0)=some f):∀ (ss:List Sq) (k:Nat),k≤cs.length→cs.length≤ss.length→(ss.map Sq.ct).take cs.length=cs→sqc ss k=(cs.take k).foldl stC (some 0):=by
 have hnone:∀ l:List Ct,l.foldl stC none=none:=by
  intro l
  induction l with
  | nil=>rfl
  | cons c l ih=>exact ih
 intro ss k
 induction k with
 | zero=>intro _ _ _;rfl
 | succ k ih=>
  intro hk hl he
  have hi:=ih (by omega) hl he
  have hg:(ss.getD k dq).ct=cs[k]'(by omega):=by
   have:((ss.map Sq.ct).take cs.length)[k]?=cs[k]?:=by rw [he]
   rw [List.getElem?_take,if_pos (by omega),List.getElem?_map,List.getElem?_eq_getElem (by omega),List.getElem?_eq_getElem (by omega)] at this
   rw [List.getD_eq_getElem?_getD,List.getElem?_eq_getElem (by omega)]
   simpa using this
  rw [List.take_succ_eq_append_getElem (by omega),List.foldl_append]
  simp only [List.foldl_cons,List.foldl_nil]
  obtain ⟨m,hm⟩:∃ m,(cs.take k).foldl stC (some 0)=some m:=by
   cases hq:(cs.take k).foldl stC (some 0) with
   | some m=>exact ⟨m,rfl⟩
   | none=>
    have:cs.foldl stC (some 0)=none:=by
     rw [←List.take_append_drop k cs,List.foldl_append,hq]
     exact hnone _
    rw [this] at h
    cases h
  have hv:∃ v,stC (some m) (cs[k]'(by omega))=some v:=by
   cases hq:stC (some m) (cs[k]'(by omega)) with
   | some v=>exact ⟨v,rfl⟩
   | none=>
    have:cs.foldl stC (some 0)=none:=by
     rw [←List.take_append_drop (k+1) cs,List.foldl_append,List.take_succ_eq_append_getElem (by omega),List.foldl_append,hm]
     simp only [List.foldl_cons,List.foldl_nil,hq]
     exact hnone _
    rw [this] at h
    cases h
  rw [hm] at hi ⊢
  rw [sqc_step hi]
  rw [←hg] at hv ⊢
  simp only [Sq.ct] at hv ⊢
  obtain ⟨v,hv⟩:=hv
  simp only [stC,Option.bind_some] at hv ⊢
  split at hv
  ·rename_i hc
   rw [if_pos hc,stp_piece (by omega) (by omega),if_pos (by omega)]
  ·cases hv
theorem found_sqn {ys:List Int} (hn:ys.length≤64) {ss:List Sq} (h:ss.map Sq.ct=found ys):sqn ss=some ys.length:=by
 obtain ⟨hp,hle⟩:=go_ps ys hn ys.length 0 0 [] ⟨rfl,by simp⟩ nl (Nat.zero_le _)
 have hlen:ss.length=(found ys).length:=by rw [←h,List.length_map]
 unfold found fin at h hlen
 generalize (go ys ys.length 0 0 []).1=f at *
 generalize (go ys ys.length 0 0 []).2=cs at *
 have h3:=hp.2
 split at h
 ·rename_i hf
  rw [if_pos hf,List.length_append] at hlen
  simp only [List.length_cons,List.length_nil] at hlen
  have hk:=psC_get hp.1 ss cs.length nl (by omega) (by rw [h];simp)
  rw [List.take_length,hp.1] at hk
  refine sqn_some ?_ (by omega)
  rw [hlen,sqc_step hk]
  have hg:(ss.getD cs.length dq).ct=(cutL ys f ys.length,0,0):=by
   have:(ss.map Sq.ct)[cs.length]?=some (cutL ys f ys.length,0,0):=by rw [h];simp
   rw [List.getElem?_map,List.getElem?_eq_getElem (by omega)] at this
   rw [List.getD_eq_getElem?_getD,List.getElem?_eq_getElem (by omega)]
   simpa using this
  simp only [Sq.ct,Prod.mk.injEq] at hg
  have hc:=cutL_len ys f ys.length (by omega) nl
  rw [stp_rest (by rw [hg.1,hc];omega) hg.2.1,if_pos ⟨hg.2.2,by simpa using hlen.symm,by rw [hg.1,hc];omega⟩,hg.1,hc]
  congr 1
  omega
 ·rename_i hf
  rw [if_neg hf] at hlen
  have hk:=psC_get hp.1 ss cs.length nl (by omega) (by rw [h];simp)
  rw [List.take_length,hp.1] at hk
  refine sqn_some ?_ (by omega)
  rw [hlen,hk]
  congr 1
  omega
theorem syOf_few {ss:List Sq} (hb:∀ s ∈ ss,∀ z ∈ s.ls,0≤z∧z≤255):∀ k m,k≤ss.length→sqc ss k=some m→(syOf (ss.take k)).1.length≤m∧(syOf (ss.take k)).2.1≤4*m∧(1≤k→1≤(syOf (ss.take k)).1.length)∧∀ z ∈ (syOf (ss.take k)).1,0≤z∧z<40
 | 0,m,_,h=>by
  simp [sqc] at h
  simp [syOf]
 | k+1,m,hk,h=>by
  cases hm:sqc ss k with
  | none=>rw [sqc_none hm (k+1) (by omega)] at h;cases h
  | some m0=>
   obtain ⟨i1,i2,i3,i4⟩:=syOf_few hb k m0 (by omega) hm
   rw [sqc_step hm] at h
   rw [syOf_take ss k (by omega)]
   have hmem:ss.getD k dq ∈ ss:=getD_memS (by omega)
   have hbz:=hb _ hmem
   generalize ss.getD k dq=s at *
   generalize syOf (ss.take k)=st at *
   have hL:=putLs_len s.ls st
   have hLz:∀ z ∈ (putLs s.ls st).1,0≤z∧z<40:=by
    have:∀ (l:List Int) (st:SyT),(∀ z ∈ l,0≤z∧z≤255)→(∀ z ∈ st.1,0≤z∧z<40)→∀ z ∈ (putLs l st).1,0≤z∧z<40:=by
     intro l
     induction l with
     | nil=>intro st _ h2;exact h2
     | cons y l ih=>
      intro st h1 h2
      refine ih (putL st y) (fun z hz=>h1 z (by simp [hz])) (fun z hz=>?_)
      simp only [putL] at hz
      rcases List.mem_append.1 hz with hz | hz
      ·exact h2 z hz
      ·have:=h1 y (by simp)
       obtain rfl:z=y / 16:=by simpa using hz
       omega
    exact this s.ls st hbz i4
   by_cases ho:64<m0+s.ls.length
   ·rw [stp_over ho] at h;cases h
   ·by_cases h0:s.n=0
    ·rw [stp_rest ho h0] at h
     split at h
     ·rename_i hr
      simp only [Option.some.injEq] at h
      unfold putQ
      rw [if_pos h0]
      exact ⟨by omega,by omega,fun _=>by omega,hLz⟩
     ·cases h
    ·rw [stp_piece ho h0] at h
     split at h
     ·rename_i hr
      simp only [Option.some.injEq] at h
      unfold putQ
      rw [if_neg h0]
      have c1:=cl_fact (n:=s.n.toNat-2) (by omega) (by omega)
      have c2:=cl_fact (n:=s.d.toNat) (by omega) (by omega)
      have e1:cl (s.n.toNat-2)≤5:=by
       rcases Nat.lt_or_ge 5 (cl (s.n.toNat-2)) with h9 | h9
       ·have:2 ^ 6≤2 ^ cl (s.n.toNat-2):=Nat.pow_le_pow_right (by omega) h9
        omega
       ·exact h9
      have e2:cl s.d.toNat≤6:=by
       rcases Nat.lt_or_ge 6 (cl s.d.toNat) with h9 | h9
       ·have:2 ^ 7≤2 ^ cl s.d.toNat:=Nat.pow_le_pow_right (by omega) h9
        omega
       ·exact h9
      refine ⟨?_,?_,fun _=>?_,fun z hz=>?_⟩
      ·simp only [putN,List.length_append,List.length_cons,List.length_nil];omega
      ·simp only [putN];omega
      ·simp only [putN,List.length_append,List.length_cons,List.length_nil];omega
      ·simp only [putN] at hz
       rcases List.mem_append.1 hz with hz | hz
       ·rcases List.mem_append.1 hz with hz | hz
        ·exact hLz z hz
        ·obtain rfl:z=((16+cl (s.n.toNat-2):Nat):Int):=by simpa using hz
         omega
       ·obtain rfl:z=((28+cl s.d.toNat:Nat):Int):=by simpa using hz
        omega
     ·cases h
theorem found_syms {ys:List Int} (hn:ys.length=64) {ss:List Sq} (h:ss.map Sq.ct=found ys) (hb:∀ s ∈ ss,∀ z ∈ s.ls,0≤z∧z≤255):(sqn ss).isSome=true∧txtB (syOf ss).1 40=true∧1≤(syOf ss).1.length∧(syOf ss).1.length≤64∧(syOf ss).2.1≤256:=by
 have hs:=found_sqn (by omega) h
 have hs2:=hs
 unfold sqn at hs2
 split at hs2
 ·cases hs2
 ·have hf:=syOf_few hb ss.length ys.length nl hs2
  rw [List.take_length] at hf
  have h1:1≤ss.length:=by
   rcases Nat.lt_or_ge ss.length 1 with h9 | h9
   ·obtain rfl:ss=[]:=List.eq_nil_of_length_eq_zero (by omega)
    simp [sqc] at hs2
    omega
   ·exact h9
  refine ⟨by rw [hs];rfl,?_,hf.2.2.1 h1,by omega,by omega⟩
  simp only [txtB,decide_eq_true_eq]
  exact ⟨by omega,by omega,by omega,hf.2.2.2⟩
end Go.Proofs.YtfeokafkhnbdiaaGreatDoor
