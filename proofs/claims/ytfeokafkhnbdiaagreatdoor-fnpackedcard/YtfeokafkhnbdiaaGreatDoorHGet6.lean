/- Lemmas on the way. -/
import Derived.Test.YtfeokafkhnbdiaaGreatDoorTakeI
import Derived.Test.YtfeokafkhnbdiaaGreatDoorSy2
import Derived.Test.YtfeokafkhnbdiaaGreatDoorLzP
import Derived.Test.YtfeokafkhnbdiaaGreatDoorPmB
import Derived.BigQuiet
import Derived.Test.YtfeokafkhnbdiaaGreatDoorPcB
import Derived.Test.YtfeokafkhnbdiaaGreatDoorHPut2M
import Derived.Deep.AppendLies
set_option maxRecDepth 20000
set_option maxHeartbeats 16000000
namespace Go.Proofs.YtfeokafkhnbdiaaGreatDoor
open Go.RowKit
set_option linter.unusedVariables false
set_option linter.unusedSimpArgs false
def giY (n V p s:Nat) (res:List Int) (q:Nat):Prop:=gi n V s s p [] false=some (res,q)∧lensB res=true
def giR (B:Nat) (w0 w':World) (R:Nat) (a:Option Addr) (L cap n V p s:Nat) (e:Ending):Prop:=Below B w0 w' ∧
   (∀ res q,giY n V p s res q→∃ a' cp,e=.returned (.tuple #[.slice a' res.length cp,.nilIface])∧MinI w' B w'.heap.size a' cp res∧RD w' B R a L cap n q) ∧
   ((¬∃ res q,giY n V p s res q)→∃ T x v,e=.returned (.tuple #[v,.iface T x]))
theorem giR.no {B:Nat} {w0 w':World} {R:Nat} {a:Option Addr} {L cap n V p s:Nat} {v x:Value} {T:TypeId} (hb:Below B w0 w') (h:gi n V s s p [] false=none):giR B w0 w' R a L cap n V p s (.returned (.tuple #[v,.iface T x])):=
 And.intro hb (And.intro (fun res q hy=>by have:=hy.1;rw [h] at this;cases this) (fun _=>⟨_,_,_,rfl⟩))
theorem below_dL {B:Nat} {a b:World} (h:Below B a b) (n:Nat):Below B a (b.drewN n):=⟨h.os,h.tape,h.output,h.size,h.block⟩
theorem OVI.stayR {S:Nat→Prop} {w w':World} {B:Nat} {v:Value} {zs:List Int} (h:OVI w B v zs) (ho:Only S w w') (hs:∀ k,v.ownBlock=some k→¬S k):OVI w' B v zs:=by
 refine ⟨⟨h.1.1,?_⟩,h.2⟩
 rcases h.1.2 with h' | ⟨g,cap,cur,h',hg,hh,r⟩
 ·exact .inl h'
 ·exact .inr ⟨g,cap,cur,h',hg,(ho.block g (Array.getElem?_eq_some_iff.1 hh).1 (hs g (by rw [h'];rfl))).trans hh,r⟩
theorem RD.grown {w w':World} {B B' R:Nat} {a:Option Addr} {L cap n p:Nat} {v:Value} {zs:List Int} (h:RD w B R a L cap n p) (ho:OVI w B' v zs) (hg:w.grownBy w' v.ownBlock):RD w' B R a L cap n p:=
 ⟨grown_blkI hg h.1 (ho.blk_ne h.1 (by decide)),h.2.1,Nat.le_trans h.2.2 hg.size⟩
theorem RD.alloc {w:World} {B R:Nat} {a:Option Addr} {L cap n p:Nat} (h:RD w B R a L cap n p) (o:Obj):RD (w.alloc o) B R a L cap n p:=h.only (Only.ofBelow (S:=fun _=>False) ((Below.refl _ _).alloc nl o) nl) (by simp)
theorem fr_below {w0 w w':World} {B R:Nat} (h:Below B w0 w∧B≤R∧B≤w.heap.size) (ho:Only (fun k=>k=R) w w'):Below B w0 w':=h.1.trans (ho.below h.2.2 (fun k hk=>by rw [hk];exact h.2.1))
theorem fr_grown {w w1 w':World} {R:Nat} {v:Value} {zs:List Int} (ho:Only (fun k=>k=R) w w1) (h:OVI w1 w.heap.size v zs) (hg:w1.grownBy w' v.ownBlock):Only (fun k=>k=R) w w':=
 ho.grown hg (fun k hk=>.inr (h.1.lt k hk).1)
/-- With the frame: nothing but the reader is written. -/
theorem getLens_fr (R B:Nat) (a:Option Addr) (cap:Nat) (zs:List Int) (n V p s:Nat) (w0 w:World) (hb:Byt w0 a zs) (hB:w0.heap.size=B) (hbel:Below B w0 w) (hz:zs=enc n V) (hn:n≤4096) (hR:RD w B R a zs.length cap n p) (hp:p≤n) (hs:s≤80)
  (s0:Sent w0 5) (s1:Sent w0 11) (s2:Sent w0 15) (h4:Four w0) (hG:5<B∧11<B∧15<B) :
  Calls Tryz.prog 152 #[.pointer (some ⟨R,0,none⟩),.int .i64 s] w fun e w'=>giR B w0 w' R a zs.length cap n V p s e∧Only (fun k=>k=R) w w':=by
 obtain ⟨i0,hi,hz0,hz1,hz2⟩:=info_parts Tryz.infoI64
 have HZ:Hid (zs=enc n V):=hz
 have HR:Hid (RD w B R a zs.length cap n p∧Below B w0 w):=⟨hR,hbel⟩
 have HBW:Hid (Below B w0 w∧B≤R∧B≤w.heap.size):=⟨hbel,hR.2.1,hR.2.2⟩
 have HE:Hid (Sent w0 5∧Sent w0 11∧Sent w0 15∧Four w0∧w0.heap.size=B∧Byt w0 a zs):=⟨s0,s1,s2,h4,hB,hb⟩
 clear hz hR hbel s0 s1 s2 h4 hB hb
 go_enter Tryz.func152,Tryz.ntmps152
 go_wp2
 go_loopw [6,7] (fun o ev wr=>∃ (q k f:Nat) (out:List Int) (au:Option Addr) (cu:Nat) (eb:Bool),o=.slice au k cu∧ev=.bool eb∧(out.length=k∧k≤s∧q≤n)∧(s≤f+k∧gi n V s f q out eb=gi n V s s p [] false)∧OVI wr w.heap.size (.slice au k cu) out∧RD wr B R a zs.length cap n q∧Below B w0 wr∧Only (fun k=>k=R) w wr) (fun o _ _=>s-lenS o)
 case atStart=>exact ⟨p,0,s,[],none,0,false,rfl,rfl,⟨rfl,by omega,hp⟩,⟨by omega,rfl⟩,OVI.nil _ _,HR.out.1,HR.out.2,Only.refl _ _⟩
 case round=>
  clear HR
  obtain ⟨q,k,f,out,au,cu,eb,rfl,rfl,⟨hkl,hk7,hq⟩,hgi,hov,hrd,hbel,hon⟩:=hrel
  have HON:Hid (Only (fun k=>k=R) w wr):=hon
  have hszW:w.heap.size≤wr.heap.size:=hon.size
  clear hon
  have HF:Hid (out.length=k∧s≤f+k∧gi n V s f q out eb=gi n V s s p [] false):=⟨hkl,hgi⟩
  have HB:Hid (Below B w0 wr∧RD wr B R a zs.length cap n q):=⟨hbel,hrd⟩
  have HOV:Hid (OVI wr w.heap.size (.slice au k cu) out):=hov
  have hsz:B≤wr.heap.size:=by have:=hbel.size;have:=HE.out.2.2.2.2.1;omega
  clear hkl hgi hov hbel hrd
  by_cases hlt:k<s
  ·have hlt2:(k:Int)<(s:Int):=by omega
   obtain ⟨f,rfl⟩:∃ g,f=g+1:=⟨f-1,by have:=HF.out.2.1;omega⟩
   by_cases c1:q+4≤n
   ·have HC:=HB.out.2.yes V 4 (by omega) (HE.out.2.2.2.2.2.below HB.out.1 (by rw [HE.out.2.2.2.2.1];exact Nat.le_refl _)) HZ.out (by omega) (by omega) (by omega)
    go_wp2_with fail
    refine HC.mono ?_
    clear HC
    rintro e w2 ⟨rfl,hrd2,hon2,hb2⟩
    have hxe:V / 2 ^ q % 2 ^ (4:Int).toNat=bt V q 4:=rfl
    rw [hxe]
    have hx16:=bt_lt V q 4
    have HON2:Hid (Only (fun k=>k=R) w w2):=HON.out.trans hon2
    have hzW2:w.heap.size≤w2.heap.size:=HON2.out.size
    have HRD2:Hid (RD w2 B R a zs.length cap n (q+4)):=hrd2
    have HB2:Hid (Below B w0 w2):=HB.out.1.trans hb2
    have HOV2:Hid (OVI w2 w.heap.size (.slice au k cu) out):=HOV.out.stayR hon2 (fun j hj he=>HOV.out.blk_ne HB.out.2.1 (by decide) (by rw [hj,he]))
    have hz3:B≤w2.heap.size:=hrd2.2.2
    have hu:w2.ownsRow w.heap.size 3 1 (.slice au k cu) k (out.map (Value.int .i64)):=by have:=HOV2.out.1;rw [HF.out.1] at this;exact this
    have HXB:Hid (∃ x,x=bt V q 4):=⟨_,rfl⟩
    obtain ⟨x,hxx⟩:=HXB.out
    rw [←hxx] at hx16 ⊢
    have HXE:Hid (x=bt V q 4):=hxx
    clear hxx hxe hb2 hrd2 hon2 HXB HOV
    have HK8:Hid (k≤87):=by unfold Hid;omega
    by_cases hx0:x=0
    ·have hx1:((x:Int) == 0)=true:=by rw [beq_iff_eq];omega
     have HX0:Hid (x=0∧bt V q 4=0):=⟨hx0,by rw [←HXE.out];exact hx0⟩
     clear hx0
     by_cases c2:q+7≤n
     ·skip
      go_wp2_with (at_builtin;(refine wpList_append_lies _ rfl (.tmp 23) (.tmp 25) 38 rfl w.heap.size 3 i0 (.int .i64 0) 1 8 Tryz.underlying38 hi hz0 hz1 hz2 rfl (by decide) (.slice au k cu) k (out.map (Value.int .i64)) rfl (hu.alloc _) ⟨w2.heap.size,0,none⟩ 1 1 [.int .i64 (x:Nat)] rfl rfl (by intro j y hj;match j,hj with | 0,hj=>(simp at hj;subst hj;simp [Addr.add])) (by intro y hy;simp at hy;subst hy;rfl) (by omega) (by have:=HK8.out;unfold maxLen;omega) (by have:=HK8.out;omega) (by simp;omega) _ rfl ?_);intro g cap1 w4 hown hgrow hat hlt1)
      have HOV4:Hid (OVI w4 w.heap.size (.slice (some ⟨g,0,none⟩) (k+1) cap1) (out++[((x:Nat):Int)])):=OVI.app HF.out.1 HOV2.out.2 (by omega) hown
      have HRD4:Hid (RD w4 B R a zs.length cap n (q+4)):=RD.grown (HRD2.out.alloc _) ⟨HOV2.out.1.alloc _,HOV2.out.2⟩ hgrow
      have HON4:Hid (Only (fun k=>k=R) w w4):=fr_grown (HON2.out.alloc _) ⟨HOV2.out.1.alloc _,HOV2.out.2⟩ hgrow
      have HB4:Hid (Below B w0 w4):=fr_below HBW.out HON4.out
      have hz4:B≤w4.heap.size:=HRD4.out.2.2
      clear hown hgrow hat hlt1 HOV2 HB2 HRD2 hu hz3 HON2 hzW2
      have HC:=HRD4.out.yes V 3 (by omega) (HE.out.2.2.2.2.2.below HB4.out (by rw [HE.out.2.2.2.2.1];exact Nat.le_refl _)) HZ.out (by omega) (by omega) (by omega)
      refine HC.mono ?_
      clear HC
      rintro e w5 ⟨rfl,hrd5,hon5,hb5⟩
      have hye:V / 2 ^ (q+4) % 2 ^ (3:Int).toNat=bt V (q+4) 3:=rfl
      rw [hye]
      have hy8:=bt_lt V (q+4) 3
      have HON5:Hid (Only (fun k=>k=R) w w5):=HON4.out.trans hon5
      have hzW5:w.heap.size≤w5.heap.size:=HON5.out.size
      have HRD5:Hid (RD w5 B R a zs.length cap n (q+7)):=hrd5
      have HB5:Hid (Below B w0 w5):=HB4.out.trans hb5
      have HOV5:Hid (OVI w5 w.heap.size (.slice (some ⟨g,0,none⟩) (k+1) cap1) (out++[((x:Nat):Int)])):=HOV4.out.stayR hon5 (fun j hj he=>HOV4.out.blk_ne HRD4.out.1 (by decide) (by rw [hj,he]))
      have hz5:B≤w5.heap.size:=hrd5.2.2
      have HL:Hid ((out++[((x:Nat):Int)]).length=k+1):=by rw [List.length_append,HF.out.1];rfl
      have HGB:Hid (eb=true∨s<k+1+bt V (q+4) 3→gi n V s s p [] false=none):=by
       intro hbad
       rw [←HF.out.2.2]
       exact gi_bad (by rw [HF.out.1];exact hlt) HX0.out.2 c2 (by rw [HF.out.1];exact hbad)
      have HGZ:Hid (¬(eb=true∨s<k+1+bt V (q+4) 3)→gi n V s f (q+7) (out++[0]++List.replicate (bt V (q+4) 3) 0) (decide (bt V (q+4) 3<7))=gi n V s s p [] false):=by
       intro hgd
       rw [←HF.out.2.2]
       exact (gi_zero (by rw [HF.out.1];exact hlt) HX0.out.2 c2 (by rw [HF.out.1];exact hgd)).symm
      clear hye hb5 hrd5 hon5 HOV4 HB4 HRD4 hz4
      generalize bt V (q+4) 3=y at *
      obtain ⟨T9,y9,he9⟩:=HE.out.2.2.1.below HB5.out hG.2.2
      by_cases hbad:eb=true∨s<k+1+y
      ·have HN:Hid (gi n V s s p [] false=none):=HGB.out hbad
       clear HGB HGZ
       cases eb with
       | true=>
        go_wp2
        try go_region
        all_goals try go_wp2
        all_goals exact bodyPost_ret (v:=.tuple #[.slice none 0 0,.iface 236 (.pointer (some ⟨w5.heap.size,0,none⟩))]) (by simp [results,Tryz.results152,go_sem]) rfl ⟨giR.no (by repeat (first | exact HB5.out | refine Below.drew ?_ | refine Below.alloc ?_ (by first | exact hz5 | (simp;omega)) _)) HN.out,by repeat (first | exact HON5.out | refine Only.drew ?_ | refine Only.alloc ?_ _)⟩
       | false=>
        have hbd:(s:Int)-((k:Int)+1)<(y:Int):=by
         rcases hbad with h | h
         ·cases h
         ·omega
        go_wp2
        try go_region
        all_goals try go_wp2
        all_goals exact bodyPost_ret (v:=.tuple #[.slice none 0 0,.iface 236 (.pointer (some ⟨w5.heap.size,0,none⟩))]) (by simp [results,Tryz.results152,go_sem]) rfl ⟨giR.no (by repeat (first | exact HB5.out | refine Below.drew ?_ | refine Below.alloc ?_ (by first | exact hz5 | (simp;omega)) _)) HN.out,by repeat (first | exact HON5.out | refine Only.drew ?_ | refine Only.alloc ?_ _)⟩
      ·have HG:=HGZ.out hbad
       have hbd:¬(s:Int)-((k:Int)+1)<(y:Int):=by omega
       have hks2:k+1+y≤s:=by omega
       cases eb with
       | true=>exact absurd (Or.inl rfl) hbad
       | false=>
        clear HGB HGZ hbad
        have HGG:Hid (gi n V s f (q+7) (out++[0]++List.replicate y 0) (decide (y<7))=gi n V s s p [] false):=HG
        clear HG
        go_wp2_with (at_builtin;(refine wpList_append_zer rfl (.tmp 53) (.tmp 54) rfl w.heap.size (.slice (some ⟨g,0,none⟩) (k+1) cap1) (out++[((x:Nat):Int)]) rfl HOV5.out y rfl (by rw [HL.out];omega) (by rw [HL.out];omega) hzW5 ?_);intro v6 w6 hown6 hgrow6)
        obtain ⟨a6,c6,rfl⟩:=hown6.form
        have hl6:(out++[((x:Nat):Int)]++List.replicate y 0).length=k+1+y:=by rw [List.length_append,HL.out,List.length_replicate]
        rw [hl6] at hown6 ⊢
        have HOV6:Hid (OVI w6 w.heap.size (.slice a6 (k+1+y) c6) (out++[0]++List.replicate y 0)):=by rw [HX0.out.1] at hown6;exact hown6
        have HON6:Hid (Only (fun k=>k=R) w w6):=fr_grown HON5.out HOV5.out hgrow6
        have HB6:Hid (Below B w0 w6):=fr_below HBW.out HON6.out
        have HRD6:Hid (RD w6 B R a zs.length cap n (q+7)):=RD.grown HRD5.out HOV5.out hgrow6
        have HL6:Hid ((out++[(0:Int)]++List.replicate y 0).length=k+1+y):=by rw [HX0.out.1] at hl6;exact hl6
        clear hl6 hown6 hgrow6 HOV5 HB5 HL HRD5
        go_roundw
        case rel=>exact ⟨q+7,k+1+y,f,out++[0]++List.replicate y 0,a6,c6,decide (y<7),rfl,by simp;omega,⟨HL6.out,by omega,by omega⟩,⟨by have:=HF.out.2.1;omega,HGG.out⟩,HOV6.out,HRD6.out,HB6.out,HON6.out⟩
        case measure=>simp [lenS];omega
     ·skip
      go_wp2_with (at_builtin;(refine wpList_append_lies _ rfl (.tmp 23) (.tmp 25) 38 rfl w.heap.size 3 i0 (.int .i64 0) 1 8 Tryz.underlying38 hi hz0 hz1 hz2 rfl (by decide) (.slice au k cu) k (out.map (Value.int .i64)) rfl (hu.alloc _) ⟨w2.heap.size,0,none⟩ 1 1 [.int .i64 (x:Nat)] rfl rfl (by intro j y hj;match j,hj with | 0,hj=>(simp at hj;subst hj;simp [Addr.add])) (by intro y hy;simp at hy;subst hy;rfl) (by omega) (by have:=HK8.out;unfold maxLen;omega) (by have:=HK8.out;omega) (by simp;omega) _ rfl ?_);intro g cap1 w4 hown hgrow hat hlt1)
      have HOV4:Hid (OVI w4 w.heap.size (.slice (some ⟨g,0,none⟩) (k+1) cap1) (out++[((x:Nat):Int)])):=OVI.app HF.out.1 HOV2.out.2 (by omega) hown
      have HRD4:Hid (RD w4 B R a zs.length cap n (q+4)):=RD.grown (HRD2.out.alloc _) ⟨HOV2.out.1.alloc _,HOV2.out.2⟩ hgrow
      have HON4:Hid (Only (fun k=>k=R) w w4):=fr_grown (HON2.out.alloc _) ⟨HOV2.out.1.alloc _,HOV2.out.2⟩ hgrow
      have HB4:Hid (Below B w0 w4):=fr_below HBW.out HON4.out
      have hz4:B≤w4.heap.size:=HRD4.out.2.2
      clear hown hgrow hat hlt1 HOV2 HB2 HRD2 hu hz3 HON2 hzW2
      have HN:Hid (gi n V s s p [] false=none):=by rw [←HF.out.2.2];exact gi_7 (by rw [HF.out.1];exact hlt) c1 HX0.out.2 c2
      have HC:=HRD4.out.no 3 (by omega) (by omega) (HE.out.1.below HB4.out hG.1) (HE.out.2.1.below HB4.out hG.2.1) (by omega)
      refine HC.mono ?_
      clear HC
      rintro e w5 ⟨⟨T,y,rfl⟩,m,rfl⟩
      go_wp2
      exact bodyPost_ret (v:=.tuple #[.slice none 0 0,.iface T y]) (by simp [results,Tryz.results152,go_sem]) rfl ⟨giR.no (below_dL HB4.out _) HN.out,HON4.out.drewN _⟩
    ·have hx1:((x:Int) == 0)=false:=by rw [beq_eq_false_iff_ne];omega
     go_wp2_with (at_builtin;(refine wpList_append_lies _ rfl (.tmp 23) (.tmp 25) 38 rfl w.heap.size 3 i0 (.int .i64 0) 1 8 Tryz.underlying38 hi hz0 hz1 hz2 rfl (by decide) (.slice au k cu) k (out.map (Value.int .i64)) rfl (hu.alloc _) ⟨w2.heap.size,0,none⟩ 1 1 [.int .i64 (x:Nat)] rfl rfl (by intro j y hj;match j,hj with | 0,hj=>(simp at hj;subst hj;simp [Addr.add])) (by intro y hy;simp at hy;subst hy;rfl) (by omega) (by have:=HK8.out;unfold maxLen;omega) (by have:=HK8.out;omega) (by simp;omega) _ rfl ?_);intro g cap1 w4 hown hgrow hat hlt1)
     have HOV4:Hid (OVI w4 w.heap.size (.slice (some ⟨g,0,none⟩) (k+1) cap1) (out++[((x:Nat):Int)])):=OVI.app HF.out.1 HOV2.out.2 (by omega) hown
     have HRD4:Hid (RD w4 B R a zs.length cap n (q+4)):=RD.grown (HRD2.out.alloc _) ⟨HOV2.out.1.alloc _,HOV2.out.2⟩ hgrow
     have HON4:Hid (Only (fun k=>k=R) w w4):=fr_grown (HON2.out.alloc _) ⟨HOV2.out.1.alloc _,HOV2.out.2⟩ hgrow
     have HB4:Hid (Below B w0 w4):=fr_below HBW.out HON4.out
     have hz4:B≤w4.heap.size:=HRD4.out.2.2
     clear hown hgrow hat hlt1 HOV2 HB2 HRD2 hu hz3 HON2 hzW2
     have HG:Hid (gi n V s f (q+4) (out++[((x:Nat):Int)]) false=gi n V s s p [] false):=by rw [←HF.out.2.2,HXE.out];exact (gi_pos (by rw [HF.out.1];exact hlt) c1 (by rw [←HXE.out];exact hx0)).symm
     go_roundw
     case rel=>exact ⟨q+4,k+1,f,out++[((x:Nat):Int)],some ⟨g,0,none⟩,cap1,false,rfl,rfl,⟨by rw [List.length_append,HF.out.1];rfl,by omega,by omega⟩,⟨by have:=HF.out.2.1;omega,HG.out⟩,HOV4.out,HRD4.out,HB4.out,HON4.out⟩
     case measure=>simp [lenS];omega
   ·have HN:Hid (gi n V s s p [] false=none):=by rw [←HF.out.2.2];exact gi_4 (by rw [HF.out.1];exact hlt) c1
    have HC:=HB.out.2.no 4 (by omega) (by omega) (HE.out.1.below HB.out.1 hG.1) (HE.out.2.1.below HB.out.1 hG.2.1) (by omega)
    go_wp2_with fail
    refine HC.mono ?_
    clear HC
    rintro e w2 ⟨⟨T,y,rfl⟩,m,rfl⟩
    go_wp2
    exact bodyPost_ret (v:=.tuple #[.slice none 0 0,.iface T y]) (by simp [results,Tryz.results152,go_sem]) rfl ⟨giR.no (below_dL HB.out.1 _) HN.out,HON.out.drewN _⟩
  ·have hlt2:¬(k:Int)<(s:Int):=by omega
   have HG:Hid (gi n V s s p [] false=some (out,q)):=by rw [←HF.out.2.2];exact gi_end (by rw [HF.out.1];exact hlt)
   have hks:k=s:=by omega
   subst hks
   have HC:=checkLens_any au cu out wr HOV.out.ins (by rw [HF.out.1];omega) (HE.out.2.2.2.1.below (by rw [HE.out.2.2.2.2.1];exact HB.out.1))
   rw [HF.out.1] at HC
   go_wp2_with fail
   refine HC.mono ?_
   clear HC
   rintro e w5 ⟨hb5,hy5,hn5⟩
   obtain ⟨a',c',e',hm⟩:=HOV.out.mine
   have HON5:Hid (Only (fun k=>k=R) w w5):=HON.out.trans (Only.ofBelow hb5 nl)
   have HM:Hid (MinI w5 B w5.heap.size au cu out):=by
    obtain ⟨rfl,-,rfl⟩:au=a'∧k=out.length∧cu=c':=by simpa using e'
    exact (hm.below hb5).mono HBW.out.2.2 hb5.size
   have HB5:Hid (Below B w0 w5∧RD w5 B R a zs.length cap n q):=⟨HB.out.1.trans (hb5.mono hsz),HB.out.2.only (Only.ofBelow (S:=fun _=>False) hb5 nl) (by simp)⟩
   clear e' hm hb5
   cases hlb:lensB out with
   | true=>
    obtain rfl:=hy5 hlb
    have HRR:giR B w0 w5 R a zs.length cap n V p k (.returned (.tuple #[.slice au k cu,.nilIface])):=by
     refine And.intro HB5.out.1 (And.intro (fun res q' hy=>?_) (fun hno=>absurd ⟨out,q,HG.out,hlb⟩ hno))
     obtain ⟨rfl,rfl⟩:out=res∧q=q':=by have:=hy.1;rw [HG.out] at this;simpa using this
     exact ⟨au,cu,by rw [HF.out.1],HM.out,HB5.out.2⟩
    clear hy5 hn5 HG HM HOV HF HB5 hlb HB
    go_wp2
    exact bodyPost_ret (v:=.tuple #[.slice au k cu,.nilIface]) (by simp [results,Tryz.results152,go_sem]) rfl ⟨HRR,HON5.out⟩
   | false=>
    obtain ⟨pp,rfl⟩:=hn5 hlb
    have HRR:giR B w0 w5 R a zs.length cap n V p k (.returned (.tuple #[.slice au k cu,.iface 236 (.pointer (some pp))])):=by
     refine And.intro HB5.out.1 (And.intro (fun res q' hy=>?_) (fun hno=>⟨_,_,_,rfl⟩))
     obtain ⟨rfl,rfl⟩:out=res∧q=q':=by have:=hy.1;rw [HG.out] at this;simpa using this
     have:=hy.2
     rw [hlb] at this
     cases this
    clear hy5 hn5 HG HM HOV HF HB5 hlb HB
    go_wp2
    exact bodyPost_ret (v:=.tuple #[.slice au k cu,.iface 236 (.pointer (some pp))]) (by simp [results,Tryz.results152,go_sem]) rfl ⟨HRR,HON5.out⟩
def cd (v p:Nat):Nat→Nat
 | 0=>0
 | k+1=>2*cd v p k+v / 2 ^ (p+k) % 2
theorem cd_lt (v p:Nat):∀ k,cd v p k<2 ^ k
 | 0=>by simp [cd]
 | k+1=>by
  have:=cd_lt v p k
  simp only [cd]
  rw [Nat.pow_succ]
  omega
def Hit (ls cs:List Int) (v p k i:Nat):Prop:=ls.getD i 0=(k:Int)∧cs.getD i 0=(cd v p k:Nat)
def NoHit (ls cs:List Int) (v p k:Nat):Prop:=∀ j i,1≤j→j≤k→i<ls.length→¬Hit ls cs v p j i
def One (ls cs:List Int) (n v p i k:Nat):Prop:=1≤k∧k≤12∧p+k≤n∧i<ls.length∧Hit ls cs v p k i∧(∀ j,j<i→¬Hit ls cs v p k j)∧NoHit ls cs v p (k-1)
inductive Reads (ls cs:List Int) (n v p:Nat):List Int→Nat→Prop
 | nil:Reads ls cs n v p [] p
 | snoc {q:List Int} {e i k:Nat}:Reads ls cs n v p q e→One ls cs n v e i k→Reads ls cs n v p (q++[(i:Int)]) (e+k)
end Go.Proofs.YtfeokafkhnbdiaaGreatDoor
namespace Go.Proofs.YtfeokafkhnbdiaaGreatDoor
set_option linter.unusedVariables false
theorem One.no {ls cs:List Int} {n v p i k:Nat} (h:One ls cs n v p i k) (hn:NoHit ls cs v p (min 12 (n-p))):False:=by
 obtain ⟨h1,h2,h3,h4,h5,_⟩:=h
 exact hn k i h1 (by omega) h4 h5
theorem One.unique {ls cs:List Int} {n v p i k i' k':Nat} (h:One ls cs n v p i k) (h':One ls cs n v p i' k'):i=i'∧k=k':=by
 obtain ⟨h1,h2,h3,h4,h5,h6,h7⟩:=h
 obtain ⟨g1,g2,g3,g4,g5,g6,g7⟩:=h'
 have hk:k=k':=by
  rcases Nat.lt_trichotomy k k' with hh | hh | hh
  ·exact absurd h5 (g7 k i h1 (by omega) h4)
  ·exact hh
  ·exact absurd g5 (h7 k' i' g1 (by omega) g4)
 subst hk
 refine ⟨?_,rfl⟩
 rcases Nat.lt_trichotomy i i' with hh | hh | hh
 ·exact absurd h5 (g6 i hh)
 ·exact hh
 ·exact absurd g5 (h6 i' hh)
theorem Reads.unique {ls cs:List Int} {n v p:Nat} {q:List Int} {E:Nat} (h:Reads ls cs n v p q E):∀ {q':List Int} {E':Nat},Reads ls cs n v p q' E'→q.length=q'.length→q=q'∧E=E':=by
 induction h with
 | nil=>
  intro q' E' h' hl
  cases h' with
  | nil=>exact ⟨rfl,rfl⟩
  | snoc h1 h2=>simp at hl
 | @snoc q e i k h1 h2 ih=>
  intro q' E' h' hl
  cases h' with
  | nil=>simp at hl
  | @snoc q2 e2 i2 k2 g1 g2=>
   obtain ⟨rfl,rfl⟩:=ih g1 (by simpa using hl)
   obtain ⟨rfl,rfl⟩:=h2.unique g2
   exact ⟨rfl,rfl⟩
theorem Reads.cut {ls cs:List Int} {n v p:Nat} {q:List Int} {E:Nat} (h:Reads ls cs n v p q E):∀ m,m<q.length→∃ e i k,Reads ls cs n v p (q.take m) e∧One ls cs n v e i k:=by
 induction h with
 | nil=>intro m hm;simp at hm
 | @snoc q e i k h1 h2 ih=>
  intro m hm
  by_cases hh:m<q.length
  ·obtain ⟨e',i',k',a,b⟩:=ih m hh
   exact ⟨e',i',k',by rw [List.take_append_of_le_length (by omega)];exact a,b⟩
  ·have:m=q.length:=by simp at hm;omega
   subst this
   exact ⟨e,i,k,by simpa using h1,h2⟩
theorem Reads.stuck {ls cs:List Int} {n v p:Nat} {q:List Int} {E:Nat} (h:Reads ls cs n v p q E) {q':List Int} {E':Nat} (h':Reads ls cs n v p q' E') (hl:q'.length<q.length) (hn:NoHit ls cs v E' (min 12 (n-E'))):False:=by
 obtain ⟨e,i,k,a,b⟩:=h.cut q'.length hl
 obtain ⟨-,rfl⟩:=a.unique h' (by simp;omega)
 exact b.no hn
theorem Reads.le {ls cs:List Int} {n v p:Nat} {q:List Int} {E:Nat} (h:Reads ls cs n v p q E) (hp:p≤n):E≤n:=by
 induction h with
 | nil=>exact hp
 | snoc h1 h2 ih=>exact h2.2.2.1
end Go.Proofs.YtfeokafkhnbdiaaGreatDoor
namespace Go.Proofs.YtfeokafkhnbdiaaGreatDoor
set_option linter.unusedVariables false
theorem atL_split (zs:List Int) (L k n:Nat) (h:k≤n):∃ r,atL zs L n=atL zs L k++r∧∀ t ∈ r,(k:Int)≤t:=by
 induction n with
 | zero => obtain rfl : k = 0 := by omega
           exact ⟨[],by simp,by simp⟩
 | succ n ih=>
  by_cases hk:k≤n
  ·obtain ⟨r,h1,h2⟩:=ih hk
   by_cases hz:zs.getD n 0=(L:Int)
   ·refine ⟨r++[(n:Int)],by rw [atL_yes zs L n hz,h1,List.append_assoc],fun t ht=>?_⟩
    rcases List.mem_append.1 ht with h | h
    ·exact h2 t h
    ·simp at h;omega
   ·exact ⟨r,by rw [atL_no zs L n hz];exact h1,h2⟩
  ·obtain rfl:k=n+1:=by omega
   exact ⟨[],by simp,by simp⟩
theorem atL_mono (zs:List Int) (L k n:Nat) (h:k≤n):(atL zs L k).length≤(atL zs L n).length:=by
 obtain ⟨r,h1,_⟩:=atL_split zs L k n h
 rw [h1,List.length_append]
 omega
theorem sbL_split (zs:List Int) (l m:Nat) (h:l≤m):∃ r,sbL zs m=sbL zs l++r∧∀ t ∈ r,∃ s:Nat,t=s∧(l:Int)<zs.getD s 0:=by
 induction m with
 | zero => obtain rfl : l = 0 := by omega
           exact ⟨[],by simp,by simp⟩
 | succ m ih=>
  by_cases hk:l≤m
  ·obtain ⟨r,h1,h2⟩:=ih hk
   refine ⟨r++atL zs (m+1) zs.length,by simp only [sbL];rw [h1,List.append_assoc],fun t ht=>?_⟩
   rcases List.mem_append.1 ht with h | h
   ·exact h2 t h
   ·obtain ⟨s,g1,g2,g3⟩:=atL_mem _ _ _ t h
    exact ⟨s,g1,by omega⟩
  ·obtain rfl:l=m+1:=by omega
   exact ⟨[],by simp,by simp⟩
theorem cst_keep (zs:List Int) (s:Nat) (l:List Int):∀ st:Nat × Nat × List Int,(∀ t ∈ l,t.toNat≠s)→(l.foldl (cst zs) st).2.2.getD s 0=st.2.2.getD s 0:=by
 induction l with
 | nil=>intro st _;rfl
 | cons t l ih=>
  intro st h
  rw [List.foldl_cons,ih _ (fun x hx=>h x (by simp [hx]))]
  have:=h t (by simp)
  simp only [cst,List.getD_eq_getElem?_getD,List.getElem?_set_ne this]
theorem crun_keep (zs l r:List Int) (s:Nat) (h:∀ t ∈ r,t.toNat≠s):(crun zs (l++r)).2.2.getD s 0=(crun zs l).2.2.getD s 0:=by
 unfold crun
 rw [List.foldl_append]
 exact cst_keep zs s r _ h
def fcd (zs:List Int) (M:Nat):Nat:=cv zs (sbL zs (M-1)) M
theorem cv_run (zs:List Int) (M k:Nat):cv zs (sbL zs (M-1)++atL zs M k) M=fcd zs M+(atL zs M k).length:=by
 induction k with
 | zero=>simp [atL_zero,fcd]
 | succ k ih=>
  by_cases hz:zs.getD k 0=(M:Int)
  ·have hzn:zN zs (k:Int)=M:=by unfold zN;rw [Int.toNat_natCast,hz];simp
   rw [atL_yes zs M k hz,←List.append_assoc,(cv_snoc zs _ (k:Int) M hzn).1,ih]
   simp
   omega
  ·rw [atL_no zs M k hz];exact ih
theorem code_at (zs:List Int) (M s:Nat) (h1:1≤M) (h2:M≤12) (hs:s<zs.length) (hz:zs.getD s 0=(M:Int)):(crun zs (sbL zs 12)).2.2.getD s 0=((fcd zs M+(atL zs M s).length:Nat):Int):=by
 obtain ⟨r,e1,m1⟩:=sbL_split zs M 12 h2
 obtain ⟨r2,e2,m2⟩:=atL_split zs M (s+1) zs.length hs
 have e3:sbL zs M=sbL zs (M-1)++atL zs M zs.length:=by
  obtain ⟨l,rfl⟩:∃ l,M=l+1:=⟨M-1,by omega⟩
  rfl
 have e4:sbL zs 12=((sbL zs (M-1)++atL zs M s)++[(s:Int)])++(r2++r):=by
  rw [e1,e3,e2,atL_yes zs M s hz]
  simp
 have hzn:zN zs (s:Int)=M:=by unfold zN;rw [Int.toNat_natCast,hz];simp
 rw [e4,crun_keep,(cv_snoc zs _ (s:Int) M hzn).2,cv_run]
 ·rw [Int.toNat_natCast,List.getD_eq_getElem?_getD,List.getElem?_set_self (by rw [crun_len];exact hs)]
  rfl
 ·intro t ht
  rcases List.mem_append.1 ht with h | h
  ·have:=m2 t h;omega
  ·obtain ⟨y,rfl,hy⟩:=m1 t h
   rw [Int.toNat_natCast]
   rintro rfl
   omega
theorem at_rank (zs:List Int) (M:Nat):∀ n j,j<(atL zs M n).length→∃ s:Nat,(atL zs M n).getD j 0=s∧s<n∧zs.getD s 0=(M:Int)∧(atL zs M s).length=j:=by
 intro n
 induction n with
 | zero=>intro j hj;simp [atL_zero] at hj
 | succ n ih=>
  intro j hj
  by_cases hz:zs.getD n 0=(M:Int)
  ·rw [atL_yes zs M n hz] at hj ⊢
   by_cases hjn:j<(atL zs M n).length
   ·obtain ⟨s,g1,g2,g3,g4⟩:=ih j hjn
    refine ⟨s,?_,by omega,g3,g4⟩
    rw [List.getD_eq_getElem?_getD,List.getElem?_append_left hjn,←List.getD_eq_getElem?_getD]
    exact g1
   ·have hje:j=(atL zs M n).length:=by simp at hj;omega
    refine ⟨n,?_,by omega,hz,hje.symm⟩
    rw [hje]
    simp [List.getD_eq_getElem?_getD]
  ·rw [atL_no zs M n hz] at hj ⊢
   obtain ⟨s,g1,g2,g3,g4⟩:=ih j hj
   exact ⟨s,g1,by omega,g3,g4⟩
structure Sy (ls:List Int) (v p k:Nat) (c f a:Nat):Prop where
 hc:c=cd v p k
 hf:f=cv ls (sbL ls k) k
 ha:a=(sbL ls k).length
 le:f≤c
 no:NoHit ls (crun ls (sbL ls 12)).2.2 v p k
theorem sy_zero (ls:List Int) (v p:Nat):Sy ls v p 0 0 0 0:=⟨rfl,(cv_nil ls).symm,rfl,Nat.le_refl _,fun j i h1 h2=>by omega⟩
theorem fcd_succ (ls:List Int) (k:Nat):fcd ls (k+1)=2*cv ls (sbL ls k) k:=by
 unfold fcd
 rw [Nat.add_sub_cancel,cv_double ls _ k (cr_ln ls _ _ (zN_sb ls k)),Nat.mul_comm]
theorem cv_full (ls:List Int) (k:Nat):cv ls (sbL ls (k+1)) (k+1)=fcd ls (k+1)+(atL ls (k+1) ls.length).length:=cv_run ls (k+1) ls.length
theorem sy_next {ls:List Int} {v p k c f a b:Nat} (h:Sy ls v p k c f a) (hk:k<12) (hb:b=v / 2 ^ (p+k) % 2) (hn:¬2*c+b-2*f<(atL ls (k+1) ls.length).length) :
  Sy ls v p (k+1) (2*c+b) (2*f+(atL ls (k+1) ls.length).length) (a+(atL ls (k+1) ls.length).length):=by
 have hc:2*c+b=cd v p (k+1):=by simp only [cd];rw [hb,h.hc]
 have hf:2*f+(atL ls (k+1) ls.length).length=cv ls (sbL ls (k+1)) (k+1):=by rw [cv_full,fcd_succ,←h.hf]
 have hle:=h.le
 refine ⟨hc,hf,by rw [h.ha];simp only [sbL,List.length_append],by omega,fun j i h1 h2 h3 hh=>?_⟩
 by_cases hj:j=k+1
 ·subst hj
  obtain ⟨g1,g2⟩:=hh
  have g3:=code_at ls (k+1) i h1 (by omega) h3 g1
  rw [g3] at g2
  have g4:=atL_yes ls (k+1) i g1
  have g5:=atL_mono ls (k+1) (i+1) ls.length h3
  rw [g4,List.length_append] at g5
  simp only [List.length_singleton] at g5
  have g6:=fcd_succ ls k
  rw [←h.hf] at g6
  omega
 ·exact h.no j i h1 (by omega) h3 hh
theorem sy_hit {ls:List Int} {n v p k c f a b:Nat} (h:Sy ls v p k c f a) (hk:k<12) (hp:p+k<n) (hb:b=v / 2 ^ (p+k) % 2) (hn:2*c+b-2*f<(atL ls (k+1) ls.length).length) :
  ∃ s:Nat,(sbL ls 12).getD (a+(2*c+b-2*f)) 0=s∧s<ls.length∧a+(2*c+b-2*f)<(sbL ls 12).length∧One ls (crun ls (sbL ls 12)).2.2 n v p s (k+1):=by
 have hc:2*c+b=cd v p (k+1):=by simp only [cd];rw [hb,h.hc]
 have hle:=h.le
 have g6:=fcd_succ ls k
 rw [←h.hf] at g6
 obtain ⟨s,g1,g2,g3,g4⟩:=at_rank ls (k+1) ls.length _ hn
 obtain ⟨r,e1,_⟩:=sbL_split ls (k+1) 12 hk
 have e2:sbL ls 12=sbL ls k++(atL ls (k+1) ls.length++r):=by rw [e1];simp only [sbL];rw [List.append_assoc]
 have hca:=code_at ls (k+1) s (by omega) (by omega) g2 g3
 refine ⟨s,?_,g2,?_,by omega,by omega,by omega,g2,⟨g3,?_⟩,?_,h.no⟩
 ·rw [e2,h.ha,List.getD_eq_getElem?_getD,List.getElem?_append_right (by omega),Nat.add_sub_cancel_left,List.getElem?_append_left hn,←List.getD_eq_getElem?_getD]
  exact g1
 ·rw [e2,h.ha]
  simp only [List.length_append]
  omega
 ·rw [hca,←hc]
  omega
 ·rintro j hj ⟨q1,q2⟩
  have q3:=code_at ls (k+1) j (by omega) (by omega) (by omega) q1
  rw [q3] at q2
  have q4:=atL_yes ls (k+1) j q1
  have q5:=atL_mono ls (k+1) (j+1) s hj
  rw [q4,List.length_append] at q5
  simp only [List.length_singleton] at q5
  omega
theorem sy_bound {ls:List Int} {v p k c f a:Nat} (h:Sy ls v p k c f a) (hk:k≤12) (hl:ls.length≤80):c≤4096∧f≤4096∧a≤960:=by
 have h1:=cd_lt v p k
 have h2:2 ^ k≤2 ^ 12:=Nat.pow_le_pow_right (by omega) hk
 have h3:=sbL_len ls k
 have h4:k*ls.length≤12*80:=Nat.mul_le_mul hk hl
 have h5:=h.hc;have h6:=h.le;have h7:=h.ha
 omega
end Go.Proofs.YtfeokafkhnbdiaaGreatDoor
