/- Lemmas on the way. -/
import Derived.Test.YtfeokafkhnbdiaaGreatDoorFp1
import Derived.Test.YtfeokafkhnbdiaaGreatDoorTb4
import Derived.Test.YtfeokafkhnbdiaaGreatDoorPut4
import Derived.Deep.RegionHeld3
import Derived.Test.YtfeokafkhnbdiaaGreatDoorPcB
import Derived.Test.YtfeokafkhnbdiaaGreatDoorINorm4
import Derived.Test.YtfeokafkhnbdiaaGreatDoorHPut2M
import Derived.Test.YtfeokafkhnbdiaaGreatDoorPmB
import Derived.Test.YtfeokafkhnbdiaaGreatDoorPut1
set_option maxRecDepth 20000
set_option maxHeartbeats 16000000
namespace Go.Proofs.YtfeokafkhnbdiaaGreatDoor
open Go.RowKit
set_option linter.unusedVariables false
theorem below_dP {B:Nat} {a b:World} (h:Below B a b) (n:Nat):Below B a (b.drewN n):=⟨h.os,h.tape,h.output,h.size,h.block⟩
theorem pow6 (b:Nat) (h:b≤6):wrap64 (2 ^ b)=((2 ^ b:Nat):Int)∧2 ^ b≤64∧1≤2 ^ b:=by
 have h1:2 ^ b≤2 ^ 6:=Nat.pow_le_pow_right (by omega) h
 have h2:0<2 ^ b:=Nat.pow_pos (by omega)
 have e:((2:Int) ^ b)=((2 ^ b:Nat):Int):=by simp
 refine ⟨?_,h1,h2⟩
 rw [e]
 exact IntWalk.wrap64_in _ (by omega)
theorem has_any (sy:Int) (b z p:Nat) (w:World) (hb:b≤6) (hz:z≤64) (hp:p≤64) :
  Calls Tryz.prog 150 #[.agg #[.int .i64 sy,.int .i64 b,.int .i64 z],.int .i64 p] w fun e w'=>e=.returned (.bool (decide (z≤p∧p<z+2 ^ b)))∧Below w.heap.size w w':=by
 have hw:Below w.heap.size w (w.alloc (Obj.cells #[.int .i64 sy,.int .i64 b,.int .i64 z] 177)):=bAw
 obtain ⟨e1,e2,e3⟩:=pow6 b hb
 have HP:Hid (wrap64 (2 ^ b)=((2 ^ b:Nat):Int)∧2 ^ b≤64):=⟨e1,e2⟩
 have hpw:(0:Int)≤wrap64 (2 ^ b)∧wrap64 (2 ^ b)≤64:=by omega
 obtain ⟨hp0,hp1⟩:=hpw
 have HW:Hid (Below w.heap.size w (w.alloc (Obj.cells #[.int .i64 sy,.int .i64 b,.int .i64 z] 177))∧True):=⟨hw,trivial⟩
 clear hw
 by_cases h1:z≤p
 ·by_cases h2:p<z+2 ^ b
  ·have HD:Hid (decide (z≤p∧p<z+2 ^ b)=true∧True):=⟨by simp;omega,trivial⟩
   have h1i:(z:Int)≤(p:Int):=by omega
   have h2i:(p:Int)<(z:Int)+wrap64 (2 ^ b):=by rw [e1];omega
   clear e1 e2 e3 h1 h2
   go_enter Tryz.func150,Tryz.ntmps150
   go_wp2_with fail
   go_quiet (fail)
   go_wp2
   go_ret
   exact ⟨by rw [HD.out.1];rfl,below_dP HW.out.1 _⟩
  ·have HD:Hid (decide (z≤p∧p<z+2 ^ b)=false∧True):=⟨by simp;omega,trivial⟩
   have h1i:(z:Int)≤(p:Int):=by omega
   have h2i:¬(p:Int)<(z:Int)+wrap64 (2 ^ b):=by rw [e1];omega
   have h2j:decide ((p:Int)<(z:Int)+wrap64 (2 ^ b))=false:=decide_eq_false h2i
   clear e1 e2 e3 h1 h2
   go_enter Tryz.func150,Tryz.ntmps150
   go_wp2_with fail
   go_quiet (fail)
   go_wp2
   go_ret
   exact ⟨by rw [HD.out.1];rfl,below_dP HW.out.1 _⟩
 ·have HD:Hid (decide (z≤p∧p<z+2 ^ b)=false∧True):=⟨by simp;omega,trivial⟩
  have h1j:decide (z≤p)=false:=decide_eq_false (by omega)
  clear e1 e2 e3 h1
  go_enter Tryz.func150,Tryz.ntmps150
  go_wp2_with fail
  go_quiet (fail)
  go_wp2
  go_ret
  exact ⟨by rw [HD.out.1];rfl,below_dP HW.out.1 _⟩
/-- placeFor: the first cell that is hit, or the error. -/
theorem placeFor_any (g:Nat) (T:List Int) (L:Nat) (s:Int) (p:Nat) (w:World) (hg:w.heap[g]?=some (.cells (cel T) 179 (0,0))) (hT:Gd T L) (hp:p<64) (hS:Sent w 14) :
  Calls Tryz.prog 130 #[.pointer (some ⟨g,0,none⟩),.int .i64 s,.int .i64 p] w fun e w'=>Below w.heap.size w w' ∧
   ((∃ q,First T s p q∧e=.returned (.tuple #[.int .i64 (q:Nat),.nilIface]))∨((∀ q,q<64→¬hit T s p q)∧∃ T' y,e=.returned (.tuple #[.int .i64 0,.iface T' y]))):=by
 have HG:Hid (w.heap[g]?=some (.cells (cel T) 179 (0,0))∧g<w.heap.size):=⟨hg,(Array.getElem?_eq_some_iff.1 hg).1⟩
 have HT:Hid (Gd T L):=hT
 obtain ⟨T',y,hc⟩:=hS
 have HC:Hid (w.cell? ⟨14,0,none⟩=some (.iface T' y)∧14<w.heap.size):=⟨hc,World.block_lt_of_cell? _ _ hc⟩
 clear hg hT hc
 go_enter Tryz.func130,Tryz.ntmps130
 go_wp2
 go_loopw [12] (fun i wr=>∃ k:Nat,k≤64∧i=.int .i64 k∧Below w.heap.size w wr∧∀ j,j<k→¬hit T s p j) (fun i _=>64-(intOf i).toNat)
 case atStart=>exact ⟨0,Nat.zero_le _,rfl,Below.refl _ _,fun j hj=>by omega⟩
 case round=>
  obtain ⟨k,hk,rfl,hbel,hno⟩:=hrel
  have HBL:Hid (Below w.heap.size w wr∧w.heap.size≤wr.heap.size∧∀ j,j<k→¬hit T s p j):=⟨hbel,hbel.size,hno⟩
  clear hno
  by_cases hlt:k<64
  ·obtain ⟨sy,b,z,e1,e2,e3,hsy,hb6,hz64⟩:=HT.out.cell k (by omega)
   have hTb:wr.heap[g]?=some (.cells (cel T) 179 (0,0)):=(hbel.block g HG.out.2).trans HG.out.1
   have t0:=arr_cell (tb:=T) hTb (k*3) (by rw [HT.out.len];omega)
   have t1:=arr_cell (tb:=T) hTb (k*3+1) (by rw [HT.out.len];omega)
   have t2:=arr_cell (tb:=T) hTb (k*3+2) (by rw [HT.out.len];omega)
   have lg:g<wr.heap.size:=by have:=HG.out.2;have:=HBL.out.2.1;omega
   rw [e1] at t0
   rw [e2] at t1
   rw [e3] at t2
   have HCB:Hid (cB T k=b∧cZ T k=z∧T.getD (k*3) 0=(sy:Int)):=⟨by unfold cB;rw [e2,Int.toNat_natCast],by unfold cZ;rw [e3,Int.toNat_natCast],e1⟩
   have hz63:z≤64:=Nat.le_trans (Nat.le_add_right z (2 ^ b)) hz64
   have HBA:Hid (Below w.heap.size w (wr.alloc (Obj.cells #[.int .i64 sy,.int .i64 b,.int .i64 z] 177))∧True):=⟨hbel.alloc HBL.out.2.1 _,trivial⟩
   clear hTb e1 e2 e3 hz64 hbel
   by_cases g1:(sy:Int)=s
   ·subst g1
    have h0:((sy:Int) == (sy:Int))=true:=by simp
    have HH:=has_any (sy:Int) b z p (wr.alloc (Obj.cells #[.int .i64 sy,.int .i64 b,.int .i64 z] 177)).drew hb6 hz63 (by omega)
    cases hd:decide (z≤p∧p<z+2 ^ b) with
    | true=>
     have HF:Hid (First T (sy:Int) p k):=⟨hlt,by
      unfold hit
      rw [HCB.out.1,HCB.out.2.1,HCB.out.2.2]
      exact ⟨rfl,of_decide_eq_true hd⟩,HBL.out.2.2⟩
     rw [hd] at HH
     clear hd
     go_wp2_with fail
     go_region
     all_goals
      go_wp2_with fail
      refine HH.mono ?_
      clear HH
      rintro e w8 ⟨rfl,hb8⟩
      have HB8:Hid (Below w.heap.size w w8∧True):=⟨HBA.out.1.drew.trans (hb8.mono HBA.out.1.size),trivial⟩
      clear hb8
      go_wp2
      go_ret2
      exact ⟨HB8.out.1,.inl ⟨k,HF.out,rfl⟩⟩
    | false=>
     have HN:Hid (∀ j,j<k+1→¬hit T (sy:Int) p j):=by
      intro j hj
      by_cases e:j=k
      ·subst e
       unfold hit
       rw [HCB.out.1,HCB.out.2.1]
       exact fun h=>absurd h.2 (of_decide_eq_false hd)
      ·exact HBL.out.2.2 j (by omega)
     rw [hd] at HH
     clear hd
     go_wp2_with fail
     go_region
     all_goals
      go_wp2_with fail
      refine HH.mono ?_
      clear HH
      rintro e w8 ⟨rfl,hb8⟩
      have HB8:Hid (Below w.heap.size w w8∧True):=⟨HBA.out.1.drew.trans (hb8.mono HBA.out.1.size),trivial⟩
      clear hb8
      go_wp2
      go_roundw
      case rel=>exact ⟨k+1,by omega,by go_num,HB8.out.1,HN.out⟩
      case measure=>simp [intOf];omega
   ·have h0:((sy:Int) == s)=false:=by simpa using g1
    have HN:Hid (∀ j,j<k+1→¬hit T s p j):=by
     intro j hj
     by_cases e:j=k
     ·subst e
      unfold hit
      rw [HCB.out.2.2]
      exact fun h=>g1 h.1
     ·exact HBL.out.2.2 j (by omega)
    clear g1
    go_wp2_with fail
    go_region
    all_goals
     go_wp2
     go_roundw
     case rel=>exact ⟨k+1,by omega,by go_num,HBA.out.1.drew,HN.out⟩
     case measure=>simp [intOf];omega
  ·have HKN:Hid (k=64∧True):=⟨by omega,trivial⟩
   have hce:=keep hbel HC.out.2 HC.out.1
   clear hbel
   go_wp2_with fail
   go_quiet (fail)
   go_wp2
   go_ret2
   exact ⟨below_dP HBL.out.1 _,.inr ⟨fun q hq=>HBL.out.2.2 q (by have:=HKN.out.1;omega),T',y,rfl⟩⟩
/-- The writer has n0 bits already. -/
theorem putText_any (R B g n0 V0:Nat) (b:Option Addr) (cb:Nat) (ls ts T:List Int) (w0 w:World) (hw:WI w B R n0 V0) (hg:w.heap[g]?=some (.cells (cel T) 179 (0,0))) (hgR:g≠R) (hT:Tab T ls) (hb:Ins w0 b ts) (hB:w0.heap.size=B) (hbel:Below B w0 w) (htl:ts.length≤300) (hn0:n0+(ts.length*6+6)≤4096) (hts:∀ k,k<ts.length→0≤ts.getD k 0∧ts.getD k 0<ls.length) (hS:Sent w0 14) (hSG:14<B) :
  Calls Tryz.prog 101 #[.pointer (some ⟨R,0,none⟩),.pointer (some ⟨g,0,none⟩),.slice b ts.length cb] w fun e w'=>Below B w0 w' ∧
   (shd ls ts→e=.returned .nilIface∧WI w' B R (n0+fN T ts) (V0+fV T ts*2 ^ n0))∧(¬shd ls ts→∃ T' y,e=.returned (.iface T' y)):=by
 have HP:Hid (Ins w0 b ts∧(∀ k,k<ts.length→0≤ts.getD k 0∧ts.getD k 0<ls.length)∧Tab T ls∧Sent w0 14∧w0.heap.size=B):=⟨hb,hts,hT,hS,hB⟩
 have HW:Hid (WI w B R (n0+0) (V0+0*2 ^ n0)∧w.heap[g]?=some (.cells (cel T) 179 (0,0))∧Below B w0 w):=⟨by simpa using hw,hg,hbel⟩
 clear hw hg hT hb hB hbel hts hS
 generalize hLn:ts.length=n at *
 have HLn:Hid (ts.length=n∧True):=⟨hLn,trivial⟩
 clear hLn
 go_enter Tryz.func101,Tryz.ntmps101
 go_wp2
 go_loopw [7,8] (fun s i wr=>∃ (k:Nat) (iz:Int),k≤n∧i=.int .i64 iz∧iz=(n:Int)-1-k∧s=.int .i64 ((fpS T ts k).1:Nat)∧WI wr B R (n0+(fpS T ts k).2.1) (V0+(fpS T ts k).2.2*2 ^ n0)∧wr.heap[g]?=some (.cells (cel T) 179 (0,0))∧Below B w0 wr∧∀ j,j<k→ls.getD (ts.getD (n-1-j) 0).toNat 0≠0) (fun _ i _=>(intOf i+1).toNat)
 case atStart=>exact ⟨0,(n:Int)-1,Nat.zero_le _,rfl,by simp,rfl,HW.out.1,HW.out.2.1,HW.out.2.2,fun j hj=>by omega⟩
 case round=>
  clear HW
  obtain ⟨k,iz,hk,rfl,hiz,rfl,hwi,hgb,hbel,hcod⟩:=hrel
  have hcod':∀ j,j<k→ls.getD (ts.getD (ts.length-1-j) 0).toNat 0≠0:=by rw [HLn.out.1];exact hcod
  obtain ⟨h1,h2,h3⟩:=fpS_ok HP.out.2.2.1 (by rw [HLn.out.1];exact HP.out.2.1) k (by rw [HLn.out.1];exact hk) hcod'
  have HS:Hid (WI wr B R (n0+(fpS T ts k).2.1) (V0+(fpS T ts k).2.2*2 ^ n0)∧wr.heap[g]?=some (.cells (cel T) 179 (0,0))∧Below B w0 wr∧(fpS T ts k).2.1≤6*k∧iz=(n:Int)-1-k∧∀ j,j<k→ls.getD (ts.getD (n-1-j) 0).toNat 0≠0):=⟨hwi,hgb,hbel,h2,hiz,hcod⟩
  by_cases hlt:k<n
  ·obtain ⟨j,hj⟩:∃ j:Nat,iz=j:=⟨iz.toNat,by omega⟩
   subst hj
   have hjn:j<n:=by omega
   have hjk:n-1-k=j:=by omega
   obtain ⟨b1,o1,rfl,hb1,hc1⟩:=(HP.out.1.below hbel (by rw [HP.out.2.2.2.2];exact Nat.le_refl _)).len_pos j (by rw [HLn.out.1];exact hjn)
   have hs0:=hc1 j (by rw [HLn.out.1];exact hjn)
   have hsy:=HP.out.2.1 j hjn
   have HPF:=placeFor_any g T ls.length (ts.getD j 0) (fpS T ts k).1 wr hgb HP.out.2.2.1.gd h1 (HP.out.2.2.2.1.below hbel hSG)
   have HJK:Hid (n-1-k=j∧0≤ts.getD j 0∧ts.getD j 0<ls.length):=⟨hjk,hsy⟩
   have hwb:B≤wr.heap.size:=by obtain ⟨_,_,_,_,_,h⟩:=hwi;exact h
   clear hc1 hwi hgb hbel hcod hcod' hiz h2 h3 hjk hsy
   generalize htj:ts.getD j 0=tj at *
   have HTJ:Hid (ts.getD j 0=tj∧True):=⟨htj,trivial⟩
   clear htj
   go_wp2_with fail
   refine HPF.mono ?_
   clear HPF hs0
   rintro e w2 ⟨hb2,⟨q,hF,rfl⟩ | ⟨hno,T',y,rfl⟩⟩
   ·have hshk:ls.getD tj.toNat 0≠0:=by
     intro h0
     exact HP.out.2.2.1.no tj (fpS T ts k).1 (fun k' hk'=>by rw [hk',Int.toNat_natCast] at h0;exact h0) q hF.1 hF.2.1
    have HCO:Hid (∀ j,j<k+1→ls.getD (ts.getD (n-1-j) 0).toNat 0≠0):=by
     intro i hi
     by_cases e:i=k
     ·rw [e,HJK.out.1,HTJ.out.1];exact hshk
     ·exact HS.out.2.2.2.2.2 i (by omega)
    have hF2:=fpS_first HP.out.2.2.1 (by rw [HLn.out.1];exact HP.out.2.1) k (by rw [HLn.out.1];exact hlt) (by rw [HLn.out.1];exact HCO.out)
    rw [HLn.out.1,HJK.out.1,HTJ.out.1] at hF2
    have hqe:=hF2.unique hF
    have hq64:=hF.1
    obtain ⟨sy,bb,z,e1,e2,e3,_,hb6,hz64⟩:=HP.out.2.2.1.gd.cell q hq64
    have hcb:cB T q=bb:=by unfold cB;rw [e2,Int.toNat_natCast]
    have hcz:cZ T q=z:=by unfold cZ;rw [e3,Int.toNat_natCast]
    have hh:=hF.2.1
    unfold hit at hh
    rw [hcb,hcz] at hh
    have HPX:Hid ((fpS T ts k).1-z<2 ^ bb):=by have:=hh.2;unfold Hid;omega
    have hzp:z≤(fpS T ts k).1:=hh.2.1
    have HST:Hid ((fpS T ts (k+1)).1=q∧(fpS T ts (k+1)).2.1=(fpS T ts k).2.1+bb∧(fpS T ts (k+1)).2.2=(fpS T ts k).2.2+((fpS T ts k).1-z)*2 ^ (fpS T ts k).2.1):=by
     refine ⟨hqe,?_,?_⟩
     ·rw [←hcb,←hqe];rfl
     ·rw [←hcz,←hqe];rfl
    have hgb2:w2.heap[g]?=some (.cells (cel T) 179 (0,0)):=(hb2.block g (Array.getElem?_eq_some_iff.1 HS.out.2.1).1).trans HS.out.2.1
    have t1:=arr_cell (tb:=T) hgb2 (q*3+1) (by rw [HP.out.2.2.1.gd.len];omega)
    have t2:=arr_cell (tb:=T) hgb2 (q*3+2) (by rw [HP.out.2.2.1.gd.len];omega)
    rw [e2] at t1
    rw [e3] at t2
    have HC:Hid (w2.cell? ⟨g,q*3+2,none⟩=some (.int .i64 z)∧w2.cell? ⟨g,q*3+1,none⟩=some (.int .i64 bb)):=⟨t2,t1⟩
    have HW2:Hid (WI w2 B R (n0+(fpS T ts k).2.1) (V0+(fpS T ts k).2.2*2 ^ n0)∧w2.heap[g]?=some (.cells (cel T) 179 (0,0))∧Below B w0 w2):=⟨HS.out.1.stay hb2,hgb2,HS.out.2.2.1.trans (hb2.mono hwb)⟩
    have HPU:Hid (∀ W:World,WI W B R (n0+(fpS T ts k).2.1) (V0+(fpS T ts k).2.2*2 ^ n0)→W.heap[g]?=some (.cells (cel T) 179 (0,0))→Calls Tryz.prog 79 #[.pointer (some ⟨R,0,none⟩),.int .i64 (IntKind.i64.wrap (((fpS T ts k).1:Int)-(z:Int))),.int .i64 (bb:Int)] W fun e w'=>e=.returned .nilIface∧WI w' B R (n0+(fpS T ts (k+1)).2.1) (V0+(fpS T ts (k+1)).2.2*2 ^ n0)∧Below B W w'∧w'.heap[g]?=some (.cells (cel T) 179 (0,0))):=by
     intro W hW hgW
     rw [IntWalk.i64_in _ (by omega)]
     have:=hW.putG hgW (by decide) hgR ((fpS T ts k).1-z) bb (by omega) HPX.out (by have:=HS.out.2.2.2.1;omega)
     rw [show (((fpS T ts k).1-z:Nat):Int)=((fpS T ts k).1:Int)-(z:Int) from by omega,Nat.add_assoc,←HST.out.2.1,put_at,←HST.out.2.2] at this
     exact this
    clear hb2 hF hF2 hqe e1 e2 e3 hcb hcz hh hgb2 t1 t2 hz64 HPX hshk
    have hq0:(q:Int)<64:=by omega
    generalize hpp:(fpS T ts k).1=pp at *
    clear hpp
    go_wp2_with fail
    have hq00:(0:Int)≤(q:Int):=by omega
    go_region_held3 (fun W=>W.cell? ⟨g,q*3+2,none⟩=some (.int .i64 z)∧W.cell? ⟨g,q*3+1,none⟩=some (.int .i64 bb))
     (first | exact HC.out | exact HC8.out)
     (first
      | (go_at_call 79;refine (HPU.out _ (by exact HW2.out.1) (by exact HW2.out.2.1)).mono ?_;rintro e w8 ⟨rfl,hw8,hb8,hg8⟩;have HW8:Hid (WI w8 B R (n0+(fpS T ts (k+1)).2.1) (V0+(fpS T ts (k+1)).2.2*2 ^ n0)∧w8.heap[g]?=some (.cells (cel T) 179 (0,0))∧Below B w0 w8):=⟨hw8,hg8,HW2.out.2.2.trans (Below.drewS hb8)⟩;have HC8:Hid (w8.cell? ⟨g,q*3+2,none⟩=some (.int .i64 z)∧w8.cell? ⟨g,q*3+1,none⟩=some (.int .i64 bb)):=⟨(by rw [cell_of_row _ _ _ _ _ _ hg8,←cell_of_row _ _ _ _ _ _ HW2.out.2.1];exact HC.out.1),(by rw [cell_of_row _ _ _ _ _ _ hg8,←cell_of_row _ _ _ _ _ _ HW2.out.2.1];exact HC.out.2)⟩;clear hw8 hb8 hg8))
    all_goals
     clear HC HC8 HPU HW2
     go_wp2
     go_roundw
     case rel=>exact ⟨k+1,(j:Int)-1,by omega,rfl,by have:=HS.out.2.2.2.2.1;omega,by rw [HST.out.1],HW8.out.1,HW8.out.2.1,HW8.out.2.2,HCO.out⟩
     case measure=>simp [intOf]
   ·have HNS:Hid (¬shd ls ts):=by
     intro h
     have hs:=h j (by rw [HLn.out.1];exact hjn)
     rw [HTJ.out.1] at hs
     obtain ⟨s,hse⟩:=Int.eq_ofNat_of_zero_le HJK.out.2.1
     rw [hse,Int.toNat_natCast] at hs
     obtain ⟨q,hq,hh⟩:=HP.out.2.2.1.ex s (fpS T ts k).1 (by have:=HJK.out.2.2;omega) h1 hs
     rw [hse] at hno
     exact hno q hq hh
    have HB2:Hid (Below B w0 w2∧True):=⟨HS.out.2.2.1.trans (hb2.mono hwb),trivial⟩
    clear hno hb2 HS
    go_wp2
    go_ret
    exact ⟨HB2.out.1,fun h=>absurd h HNS.out,fun _=>⟨T',y,rfl⟩⟩
  ·have hkn:k=n:=by omega
   subst hkn
   have hiz1:iz=-1:=by omega
   subst hiz1
   have HSH:Hid (shd ls ts):=by
    intro i hi
    have:=hcod (k-1-i) (by rw [HLn.out.1] at hi;omega)
    rw [show k-1-(k-1-i)=i from by rw [HLn.out.1] at hi;omega] at this
    exact this
   have HFN:Hid (fN T ts=(fpS T ts k).2.1+6∧fV T ts=(fpS T ts k).2.2+(fpS T ts k).1*2 ^ (fpS T ts k).2.1):=by unfold fN fV;rw [HLn.out.1];exact ⟨rfl,rfl⟩
   have HPT:=hwi.putG hgb (by decide) hgR (fpS T ts k).1 6 (by omega) (by omega) (by omega)
   rw [Nat.add_assoc,←HFN.out.1,put_at,←HFN.out.2] at HPT
   clear hwi hgb hcod hcod' hiz h3
   generalize (fpS T ts k).1=pp at *
   go_wp2_with fail
   refine HPT.mono ?_
   clear HPT
   rintro e w3 ⟨rfl,hw3,hb3,_⟩
   have HF:Hid (WI w3 B R (n0+fN T ts) (V0+fV T ts*2 ^ n0)∧Below B w0 w3):=⟨hw3,hbel.trans hb3⟩
   clear hw3 hb3 hbel HS
   go_wp2
   go_ret
   exact ⟨HF.out.2,fun _=>⟨rfl,HF.out.1⟩,fun h=>absurd HSH.out h⟩
def nou :List Int→Nat
 | []=>0
 | z :: t=>if z=0 then nou t+1 else 0
theorem nou_le (l:List Int):nou l≤l.length:=by
 induction l with
 | nil=>simp [nou]
 | cons z t ih=>simp only [nou,List.length_cons];split <;> omega
theorem nou_zero (l:List Int) (k:Nat) (h:k<nou l):l.getD k 0=0:=by
 induction l generalizing k with
 | nil=>simp [nou] at h
 | cons z t ih=>
  simp only [nou] at h
  split at h
  ·rename_i hz
   cases k with
   | zero=>simpa using hz
   | succ k=>simpa using ih k (by omega)
  ·omega
theorem nou_stop (l:List Int) (h:nou l<l.length):l.getD (nou l) 0≠0:=by
 induction l with
 | nil=>simp [nou] at h
 | cons z t ih=>
  by_cases hz:z=0
  ·have e:nou (z :: t)=nou t+1:=by simp [nou,hz]
   rw [e] at h ⊢
   simpa using ih (by simpa using h)
  ·have e:nou (z :: t)=0:=by simp [nou,hz]
   rw [e]
   simpa using hz
def run (zs:List Int) (i:Nat):Nat:=min (nou (zs.drop (i+1))) 7
def lp (zs:List Int):Nat→Nat→Nat→Nat→Nat × Nat
 | 0,_,n,V=>(n,V)
 | f+1,i,n,V=>if i<zs.length then (if zs.getD i 0=0 then lp zs f (i+1+run zs i) (n+7) (V+run zs i*2 ^ (n+4)) else lp zs f (i+1) (n+4) (V+(zs.getD i 0).toNat*2 ^ n)) else (n,V)
def lpF (zs:List Int):Nat × Nat:=lp zs zs.length 0 0 0
def lpG (zs:List Int) (n0 V0:Nat):Nat × Nat:=lp zs zs.length 0 n0 V0
theorem lp_end (zs:List Int) (f i n V:Nat) (h:¬i<zs.length):lp zs f i n V=(n,V):=by
 cases f with
 | zero=>rfl
 | succ f=>simp [lp,h]
theorem lp_zero (zs:List Int) (f i n V:Nat) (h:i<zs.length) (hz:zs.getD i 0=0):lp zs (f+1) i n V=lp zs f (i+1+run zs i) (n+7) (V+run zs i*2 ^ (n+4)):=by
 simp only [lp];rw [if_pos h,if_pos hz]
theorem lp_pos (zs:List Int) (f i n V:Nat) (h:i<zs.length) (hz:¬zs.getD i 0=0):lp zs (f+1) i n V=lp zs f (i+1) (n+4) (V+(zs.getD i 0).toNat*2 ^ n):=by
 simp only [lp];rw [if_pos h,if_neg hz]
theorem lp_le (zs:List Int) (f i n V:Nat):(lp zs f i n V).1≤n+7*f:=by
 induction f generalizing i n V with
 | zero=>simp [lp]
 | succ f ih=>
  simp only [lp]
  split
  ·split
   ·have:=ih (i+1+run zs i) (n+7) (V+run zs i*2 ^ (n+4));omega
   ·have:=ih (i+1) (n+4) (V+(zs.getD i 0).toNat*2 ^ n);omega
  ·simp
theorem run_le (zs:List Int) (i:Nat) (h:i<zs.length):run zs i≤7∧i+1+run zs i≤zs.length:=by
 have:=nou_le (zs.drop (i+1))
 rw [List.length_drop] at this
 unfold run
 omega
theorem drop_getD (zs:List Int) (i j:Nat):(zs.drop i).getD j 0=zs.getD (i+j) 0:=by simp [List.getD_eq_getElem?_getD]
theorem run_in (zs:List Int) (i j:Nat) (hj:j<run zs i):j<7∧i+j+1<zs.length∧zs.getD (i+j+1) 0=0:=by
 have h1:j<nou (zs.drop (i+1)):=by unfold run at hj;omega
 have h2:=nou_le (zs.drop (i+1))
 rw [List.length_drop] at h2
 have h3:=nou_zero _ j h1
 rw [drop_getD] at h3
 refine ⟨by unfold run at hj;omega,by omega,?_⟩
 rw [←h3];congr 1;omega
theorem run_out (zs:List Int) (i:Nat) (hi:i<zs.length) (h7:run zs i<7) (hl:i+run zs i+1<zs.length):zs.getD (i+run zs i+1) 0≠0:=by
 have h1:run zs i=nou (zs.drop (i+1)):=by unfold run at *;omega
 have h2:=nou_stop (zs.drop (i+1)) (by rw [List.length_drop,←h1];omega)
 rw [←h1,drop_getD] at h2
 intro h
 apply h2
 rw [←h];congr 1;omega
theorem shareWidth_any (n:Nat) (w:World) (h:n<256) :
  Calls Tryz.prog 129 #[.int .i64 (n:Int)] w fun e w'=>e=.returned (.int .i64 (bl n:Nat))∧w'=w:=by
 have h1:(n:Int)<256:=by omega
 go_enter Tryz.func129,Tryz.ntmps129
 go_wp2_with fail
 refine (len_any n w h).mono ?_
 rintro e w1 ⟨rfl,rfl⟩
 go_wp2
 go_ret
 exact ⟨rfl,rfl⟩
def lft (zs:List Int) (k:Nat):Nat:=(64-(zs.take k).sum).toNat
def nb (zs:List Int):Nat→Nat
 | 0=>0
 | k+1=>nb zs k+bl (lft zs k)
def vb (zs:List Int):Nat→Nat
 | 0=>0
 | k+1=>vb zs k+(zs.getD k 0).toNat*2 ^ nb zs k
theorem sum_nonneg {zs:List Int} (h:∀ z ∈ zs,0≤z):0≤zs.sum:=by
 induction zs with
 | nil=>simp
 | cons z zs ih=>
  have h1:=h z (by simp)
  have h2:=ih (fun y hy=>h y (by simp [hy]))
  simp only [List.sum_cons]
  omega
theorem normB_sum {zs:List Int} (h:normB zs=true):zs.sum=64∧∀ z ∈ zs,0≤z∧z≤64:=by
 simp only [normB,decide_eq_true_eq] at h
 exact ⟨h.2.2.2,h.2.2.1⟩
theorem norm_take {zs:List Int} (h:normB zs=true) (k:Nat):0≤(zs.take k).sum∧(zs.take k).sum≤64:=by
 obtain ⟨h1,h2⟩:=normB_sum h
 have e:(zs.take k).sum+(zs.drop k).sum=zs.sum:=by rw [←List.sum_append,List.take_append_drop]
 have h3:=sum_nonneg (zs:=zs.drop k) (fun z hz=>(h2 z (List.mem_of_mem_drop hz)).1)
 have h4:=sum_nonneg (zs:=zs.take k) (fun z hz=>(h2 z (List.mem_of_mem_take hz)).1)
 omega
theorem lft_eq {zs:List Int} (h:normB zs=true) (k:Nat):((lft zs k:Nat):Int)=64-(zs.take k).sum∧lft zs k≤64:=by
 have:=norm_take h k
 unfold lft
 omega
theorem lft_succ {zs:List Int} (h:normB zs=true) (k:Nat) (hk:k<zs.length):((lft zs (k+1):Nat):Int)=(lft zs k:Nat)-zs.getD k 0∧0≤zs.getD k 0∧zs.getD k 0≤(lft zs k:Nat):=by
 have h1:=lft_eq h k
 have h2:=lft_eq h (k+1)
 have h3:=sum_succ zs k hk
 have h4:=(normB_sum h).2 _ (getD_mem hk)
 omega
theorem nb_le {zs:List Int} (h:normB zs=true) (k:Nat):nb zs k≤7*k:=by
 induction k with
 | zero=>simp [nb]
 | succ k ih=>
  have h1:=lft_eq h k
  have h2:=bl_le7 _ h1.2
  simp only [nb]
  omega
theorem lft_end {zs:List Int} (h:normB zs=true):lft zs zs.length=0:=by
 have h1:=lft_eq h zs.length
 rw [List.take_length,(normB_sum h).1] at h1
 omega
def nbG (zs:List Int) (n0 k:Nat):Nat:=n0+nb zs k
def vbG (zs:List Int) (n0 V0 k:Nat):Nat:=V0+vb zs k*2 ^ n0
theorem nbG_step (zs:List Int) (n0 k:Nat):nbG zs n0 (k+1)=nbG zs n0 k+bl (lft zs k):=by
 simp only [nbG,nb];omega
theorem vbG_step (zs:List Int) (n0 V0 k:Nat):vbG zs n0 V0 (k+1)=vbG zs n0 V0 k+(zs.getD k 0).toNat*2 ^ nbG zs n0 k:=by
 simp only [nbG,vbG,vb]
 rw [Nat.add_mul,Nat.add_assoc,Nat.mul_assoc,←Nat.pow_add,Nat.add_comm (nb zs k) n0]
theorem nbG_le {zs:List Int} (h:normB zs=true) (n0 k:Nat):nbG zs n0 k≤n0+7*k:=by
 have:=nb_le h k
 unfold nbG;omega
theorem bumps_pos :∀ (zs cs:List Int) (i:Nat),(∀ c ∈ cs,0≤c)→(∀ z ∈ zs,0≤z)→i<cs.length→(0<cs.getD i 0∨(i:Int) ∈ zs)→0<(zs.foldl bump cs).getD i 0
 | [],cs,i,_,_,_,h=>by
  rcases h with h | h
  ·exact h
  ·simp at h
 | z :: zs,cs,i,hc,hz,hi,h=>by
  rw [List.foldl_cons]
  have h0:∀ k,0≤cs.getD k 0:=fun k=>by
   by_cases hk:k<cs.length
   ·exact hc _ (getD_mem hk)
   ·rw [List.getD_eq_getElem?_getD,List.getElem?_eq_none (by omega)];simp
  have hcb:∀ c ∈ bump cs z,0≤c:=fun c hm=>by
   unfold bump at hm
   rcases List.mem_or_eq_of_mem_set hm with hm | rfl
   ·exact hc c hm
   ·have:=h0 z.toNat;omega
  refine bumps_pos zs (bump cs z) i hcb (fun y hy=>hz y (by simp [hy])) (by rw [bump_len];exact hi) ?_
  have hget:(bump cs z).getD i 0=if z.toNat=i then cs.getD z.toNat 0+1 else cs.getD i 0:=by
   unfold bump
   simp only [List.getD_eq_getElem?_getD,List.getElem?_set]
   by_cases e:z.toNat=i
   ·subst e;simp [hi]
   ·simp [e]
  rw [hget]
  have hzn:=hz z (by simp)
  rcases h with h | h
  ·left
   split
   ·have:=h0 z.toNat;omega
   ·exact h
  ·rcases List.mem_cons.1 h with h | h
   ·left
    rw [if_pos (by omega)]
    have:=h0 z.toNat
    omega
   ·exact .inr h
theorem cnts_pos {zs:List Int} {n:Nat} (h:txtB zs n=true) (k:Nat) (hk:k<zs.length):0<(cnts zs n).getD (zs.getD k 0).toNat 0:=by
 have h1:=txtB_get h k hk
 unfold cnts
 refine bumps_pos zs (List.replicate n 0) _ (by intro c hc;simp at hc;omega) (fun z hz=>?_) (by rw [List.length_replicate];omega) (.inr ?_)
 ·obtain ⟨j,hj,rfl⟩:=List.getElem_of_mem hz
  have:=txtB_get h j hj
  rw [List.getD_eq_getElem?_getD,List.getElem?_eq_getElem hj] at this
  exact this.1
 ·rw [Int.toNat_of_nonneg h1.1]
  exact getD_mem hk
theorem cnts_cnt {zs:List Int} {n:Nat} (h:txtB zs n=true):cntB (cnts zs n)=true:=by
 simp only [txtB,decide_eq_true_eq] at h
 simp only [cntB,decide_eq_true_eq]
 rw [cnts_len]
 refine ⟨by omega,by omega,fun z hz=>?_⟩
 have:=cnts_rng zs n z hz
 omega
theorem sumF_pos {cs:List Int} {i:Nat} (hi:i<cs.length) (h:0<cs.getD i 0):1≤sumF one cs:=by
 induction cs generalizing i with
 | nil=>simp at hi
 | cons c cs ih=>
  have e:sumF one (c :: cs)=one c+sumF one cs:=by simp [sumF]
  have h1:=(sumF_bnd one 1 one_bnd cs).1
  rw [e]
  cases i with
  | zero=>
   have:one c=1:=by unfold one;rw [if_pos (by simpa using h)]
   omega
  | succ i=>
   have:=ih (i:=i) (by simpa using hi) (by simpa using h)
   have:=(one_bnd c).1
   omega
theorem cnts_sum {zs:List Int} {n:Nat} (h:txtB zs n=true) (h1:1≤zs.length):1≤sumF one (cnts zs n)∧sumF one (cnts zs n)≤n:=by
 refine ⟨sumF_pos (i:=(zs.getD 0 0).toNat) ?_ (cnts_pos h 0 (by omega)),?_⟩
 ·have:=txtB_get h 0 (by omega)
  rw [cnts_len];omega
 ·have:=(sumF_bnd one 1 one_bnd (cnts zs n)).2
  rw [cnts_len] at this
  omega
theorem cnts_lens {zs:List Int} (h:txtB zs 40=true) (h1:1≤zs.length):lensOkB (cnts zs 40) ((12:Nat):Int):=by
 obtain ⟨a,b⟩:=cnts_sum (n:=40) h h1
 have e:=coins_sum (cnts zs 40) (cnts zs 40).length nl
 rw [List.take_length,←coinsS_len] at e
 refine ⟨cnts_cnt (n:=40) h,by decide,by decide,by omega,?_⟩
 rw [Int.toNat_natCast]
 omega
def tL (zs:List Int):List Int:=lensV (cnts zs 40) 12
theorem tL_len (zs:List Int):(tL zs).length=40:=by unfold tL;rw [lensV_len,cnts_len]
theorem tL_ok {zs:List Int} (h:txtB zs 40=true) (h1:1≤zs.length):lensB (tL zs)=true∧coded (tL zs) zs:=by
 obtain ⟨c1,c2,c3,c4,c5⟩:=cnts_lens h h1
 rw [Int.toNat_natCast] at c5
 obtain ⟨lm,hF,-⟩:=lens_facts c1 (L:=12) (by omega) c4 c5
 refine ⟨hF.okB c1 (by omega) c4,fun k hk=>?_⟩
 have h2:=txtB_get h k hk
 have h3:=cnts_pos (n:=40) h k hk
 obtain ⟨_,_,_,e,e1,_⟩:=(hF.rng (zs.getD k 0).toNat (by rw [cnts_len];omega)).1 h3
 show (lensV (cnts zs 40) 12).getD _ 0≠0
 rw [e]
 omega
def tS (zs:List Int):List Int:=shares (cnts zs 40) (rest (cnts zs 40))
theorem tS_roomy {zs:List Int} (h:txtB zs 40=true) (h1:1≤zs.length):roomy (cnts zs 40):=by
 obtain ⟨a,b⟩:=cnts_sum (n:=40) h h1
 exact ⟨a,by omega⟩
theorem tS_ok {zs:List Int} (h:txtB zs 40=true) (h1:1≤zs.length):normB (tS zs)=true∧(tS zs).length=40∧shd (tS zs) zs:=by
 have hr:=tS_roomy h h1
 have hc:=cnts_cnt (n:=40) h
 have hf:=fair_all (some1_of hr.1) (rest (cnts zs 40))
 refine ⟨shares_norm hc hr,by have:=hf.1;rw [cnts_len] at this;exact this,fun k hk=>?_⟩
 have h2:=txtB_get h k hk
 have:=(hf.2 (zs.getD k 0).toNat (by rw [cnts_len];omega)).1 (cnts_pos (n:=40) h k hk)
 show (shares _ _).getD _ 0≠0
 omega
def tT (zs:List Int):List Int:=tb (pl (fl 0 (tS zs)) (plc 64)) (tS zs) 64
theorem tT_ok {zs:List Int} (h:txtB zs 40=true) (h1:1≤zs.length):Tab (tT zs) (tS zs):=tab_tb (tS_ok h h1).1
def byL (zs:List Int) (m U n0 V0:Nat):Nat × Nat:=
 ((lpG (tL zs) n0 V0).1+hN (tL zs) zs zs.length+m,(lpG (tL zs) n0 V0).2+hV (tL zs) (csOf (tL zs)) zs zs.length*2 ^ (lpG (tL zs) n0 V0).1+U*2 ^ ((lpG (tL zs) n0 V0).1+hN (tL zs) zs zs.length))
def byT (zs:List Int) (m U n0 V0:Nat):Nat × Nat:=
 (nbG (tS zs) n0 40+9+m+fN (tT zs) zs,vbG (tS zs) n0 V0 40+m*2 ^ nbG (tS zs) n0 40+U*2 ^ (nbG (tS zs) n0 40+9)+fV (tT zs) zs*2 ^ (nbG (tS zs) n0 40+9+m))
theorem byL_le {zs:List Int} (h:txtB zs 40=true) (h1:1≤zs.length) (n0 V0:Nat):(lpG (tL zs) n0 V0).1≤n0+280∧hN (tL zs) zs zs.length≤12*zs.length:=by
 have a:=lp_le (tL zs) (tL zs).length 0 n0 V0
 rw [tL_len] at a
 have e:=(lensB_okH (tL_ok h h1).1).2.2
 refine ⟨?_,hN_le e _⟩
 show (lp (tL zs) (tL zs).length 0 n0 V0).1≤_
 rw [tL_len]
 omega
end Go.Proofs.YtfeokafkhnbdiaaGreatDoor
