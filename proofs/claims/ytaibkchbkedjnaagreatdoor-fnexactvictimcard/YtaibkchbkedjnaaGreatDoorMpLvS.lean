/- Lemmas on the way. -/
import Derived.Test.YtaibkchbkedjnaaGreatDoorMpGtM
import Derived.Test.YtaibkchbkedjnaaGreatDoorDkI3
set_option maxRecDepth 20000
set_option maxHeartbeats 16000000
namespace Go.Proofs.YtaibkchbkedjnaaGreatDoor
open Go.RowKit
set_option linter.unusedVariables false
set_option linter.unusedSimpArgs false
def lvL (ps:List (Int × Int)) (s:Int):List Int:=if mapB ps then liv ps ps.length s else []
theorem liv_spec (ps:List (Int × Int)) (k:Nat) (h:mapB ps=true) (hk:k<ps.length) (s:Int):liv ps (k+1) s=if (ps.getD k dp).1=s∧0<s then liv ps k s++[(k:Int)] else liv ps k s:=by
 have h1:=gt_pos ps k h hk
 simp only [liv]
 rw [h1]
 by_cases hs:(ps.getD k dp).1=s∧0<s
 ·rw [if_pos hs,if_pos]
  rw [hs.1]
  simp [hs.2]
 ·rw [if_neg hs,if_neg]
  simp only [Bool.and_eq_true,decide_eq_true_eq,beq_iff_eq]
  rintro ⟨h2,h3⟩
  exact hs ⟨h3,by omega⟩
theorem l8live_any (a:Option Addr) (cap:Nat) (ps:List (Int × Int)) (s:Int) (w:World) (hb:Pls w a ps) (hm:mapB ps=true) (hs:-9223372036854775808≤s∧s≤9223372036854775807) :
  Calls Tryz.prog 107 #[.agg #[.slice a ps.length cap],.int .i64 s] w fun e w'=>(∃ a c,e=.returned (.slice a (liv ps ps.length s).length c)∧MinI w' w.heap.size w'.heap.size a c (liv ps ps.length s))∧Below w.heap.size w w':=by
 obtain ⟨i0,hi,hz0,hz1,hz2⟩:=info_parts Tryz.infoI64
 have hln:=mapB_len ps hm
 have HLS:Hid (∀ k,k<ps.length→liv ps (k+1) s=if (ps.getD k dp).1=s∧0<s then liv ps k s++[(k:Int)] else liv ps k s):=fun k hk=>liv_spec ps k hm hk s
 have HLN:Hid (∀ k,(liv ps k s).length≤k):=fun k=>liv_len ps k s
 have HL0:Hid (liv ps 0 s=[]∧True):=⟨rfl,trivial⟩
 have HB:Hid (Pls w a ps):=hb
 have hzz:(w.alloc (Obj.cells #[.slice a ps.length cap] 44)).cell? ⟨w.heap.size,0,none⟩=some (.slice a ps.length cap):=by simp
 have hzs:w.heap.size+1=(w.alloc (Obj.cells #[.slice a ps.length cap] 44)).heap.size:=by simp
 have HW:Hid (Below w.heap.size w (w.alloc (Obj.cells #[.slice a ps.length cap] 44))):=bAw
 have HZS:Hid (w.heap.size+1=(w.alloc (Obj.cells #[.slice a ps.length cap] 44)).heap.size∧True):=⟨hzs,trivial⟩
 clear hb hm hzs
 generalize hlen:ps.length=n at *
 have HL:Hid (ps.length=n∧True):=⟨hlen,trivial⟩
 clear hlen
 go_enter Tryz.func107,Tryz.ntmps107
 go_wp2
 generalize w.alloc (Obj.cells #[.slice a n cap] 44)=W at *
 go_loopw [5,6] (fun v i wr=>∃ (k:Nat) (va:Option Addr) (vc:Nat),k≤n∧i=.int .i64 k∧v=.slice va (liv ps k s).length vc∧OVI wr (w.heap.size+1) (.slice va (liv ps k s).length vc) (liv ps k s)∧Below (w.heap.size+1) W wr) (fun _ i _=>n-(intOf i).toNat)
 case atStart=>exact ⟨0,none,0,Nat.zero_le _,rfl,by rw [HL0.out.1];rfl,by rw [HL0.out.1];exact OVI.nil _ _,Below.refl _ _⟩
 case round=>
  obtain ⟨k,va,vc,hk,rfl,rfl,hov,hbel⟩:=hrel
  have HR:Hid (Below (w.heap.size+1) W wr∧Below w.heap.size w wr∧w.heap.size+1≤wr.heap.size):=⟨hbel,HW.out.trans (hbel.mono (by omega)),by rw [HZS.out.1];exact hbel.size⟩
  have p0:=keep hbel (by omega) hzz
  have HOV:Hid (OVI wr (w.heap.size+1) (.slice va (liv ps k s).length vc) (liv ps k s)):=hov
  have hll:=HLN.out k
  clear hbel hov
  by_cases hlt:k<n
  ·obtain ⟨b,off,rfl,hb1,hc1⟩:=HB.out.len_pos k (by rw [HL.out.1];exact hlt)
   have c0:=keep HR.out.2.1 hb1 (hc1 k (by rw [HL.out.1];exact hlt)).1
   have hls:=HLS.out k hlt
   clear hc1
   generalize (ps.getD k dp).1=x at *
   by_cases hx:x=s∧0<s
   ·rw [if_pos hx] at hls
    obtain ⟨rfl,hx2⟩:=hx
    have HE:Hid (liv ps (k+1) x=liv ps k x++[(k:Int)]∧True):=⟨hls,trivial⟩
    clear hls
    generalize liv ps k x=ls at *
    go_wp2_with (at_builtin;refine wpList_append_own_at _ rfl _ _ 29 rfl (w.heap.size+1) 3 i0 (.int .i64 0) 1 8 Tryz.underlying29 hi hz0 hz1 hz2 rfl (by decide) _ ls.length (ls.map (Value.int .i64)) rfl (HOV.out.1.alloc _) ⟨wr.heap.size,0,none⟩ 1 1 [.int .i64 k] rfl rfl (cell_one_new _ _ _) (ints_oneCell .i64 [(k:Int)]) (by unfold maxLen;omega) (by omega) (by have:=HR.out.2.2;simp;omega) ?_;intro v1 w1 hown1 hgrow1 hnil1 hloc1)
    have hov1:OVI w1 (w.heap.size+1) v1 (ls++[(k:Int)]):=⟨by rw [List.length_append,List.map_append];exact hown1,fun z hz=>by
     rcases List.mem_append.1 hz with hz | hz
     ·exact HOV.out.2 z hz
     ·simp at hz;omega⟩
    have hb1':Below (w.heap.size+1) W w1:=app_below HR.out.1 HR.out.2.2 HOV.out hgrow1
    obtain ⟨va1,vc1,hv1⟩:=hov1.form
    rw [←HE.out.1] at hov1 hv1
    subst hv1
    have HN1:Hid (OVI w1 (w.heap.size+1) (.slice va1 (liv ps (k+1) x).length vc1) (liv ps (k+1) x)∧Below (w.heap.size+1) W w1):=⟨hov1,hb1'⟩
    clear hown1 hgrow1 hnil1 hloc1 hov1 hb1' HOV
    go_roundw
    case rel=>exact ⟨k+1,va1,vc1,by omega,by go_num,rfl,HN1.out.1,HN1.out.2⟩
    case measure=>simp [intOf];omega
   ·rw [if_neg hx] at hls
    have HE:Hid (Value.slice va (liv ps k s).length vc=.slice va (liv ps (k+1) s).length vc∧OVI wr (w.heap.size+1) (.slice va (liv ps (k+1) s).length vc) (liv ps (k+1) s)):=by rw [hls];exact ⟨rfl,HOV.out⟩
    clear hls
    have key:¬x=s∨(x=s∧¬0<s):=by omega
    clear hx
    rcases key with h | ⟨rfl,h⟩
    all_goals
     go_wp2
     go_roundw
     case rel=>exact ⟨k+1,va,vc,by omega,by go_num,HE.out.1,HE.out.2,HR.out.1⟩
     case measure=>simp [intOf];omega
  ·have hkn:k=n:=by omega
   subst hkn
   obtain ⟨a2,c2,e2,hm2⟩:=HOV.out.mine
   obtain ⟨rfl,-,rfl⟩:va=a2∧(liv ps k s).length=(liv ps k s).length∧vc=c2:=by simpa using e2
   have HF:Hid (MinI wr w.heap.size wr.heap.size va vc (liv ps k s)):=hm2.mono (by omega) nl
   clear hm2 e2
   go_wp2
   go_ret
   exact ⟨⟨_,_,rfl,HF.out⟩,HR.out.2.1⟩
end Go.Proofs.YtaibkchbkedjnaaGreatDoor
