/- Lemmas on the way. -/
import Derived.Test.YtfeokafkhnbdiaaGreatDoorLGetM
import Derived.Test.YtfeokafkhnbdiaaGreatDoorICountsI
import Derived.Test.YtfeokafkhnbdiaaGreatDoorFp1
import Derived.Test.YtfeokafkhnbdiaaGreatDoorPut4
import Derived.Test.YtfeokafkhnbdiaaGreatDoorSy1
import Derived.Test.YtfeokafkhnbdiaaGreatDoorLzP
import Derived.Test.YtfeokafkhnbdiaaGreatDoorPmB
import Derived.BigQuiet
import Derived.Test.YtfeokafkhnbdiaaGreatDoorPcB
import Derived.Test.YtfeokafkhnbdiaaGreatDoorHPut2M
import Derived.Deep.AppendLies
set_option maxRecDepth 20000
set_option maxHeartbeats 16000000
namespace Go.Proofs.YtfeokafkhnbdiaaGreatDoor
open Go.RowKit
set_option linter.unusedVariables false
set_option linter.unusedSimpArgs false
structure SentT (w:World):Prop where
 over:∃ pe,w.cell? ⟨11,0,none⟩=some (.iface 246 (.pointer (some pe)))
 full:∃ T x,w.cell? ⟨6,0,none⟩=some (.iface T x)
 lt:11<w.heap.size∧6<w.heap.size
theorem RD.store {w:World} {B R:Nat} {a:Option Addr} {L cap n p:Nat} (h:RD w B R a L cap n p) (q:Nat):RD (w.setCell ⟨R,2,none⟩ (.int .i64 (q:Nat))) B R a L cap n q:=
 ⟨by rw [heap_setCell_same _ R 2 _ _ _ h.1];simp,h.2.1,by simpa using h.2.2⟩
theorem take_yes (Q B:Nat) (a:Option Addr) (cap:Nat) (zs:List Int) (n V p k:Nat) (w:World) (hR:RD w B Q a zs.length cap n p) (hb:Byt w a zs) (hz:zs=enc n V) (hn:n≤4096) (hp:p+k≤n) (hS:SentT w) :
  Calls Tryz.prog 155 #[.pointer (some ⟨Q,0,none⟩),.int .i64 k] w fun e w'=>
   ∃ a' cp,e=.returned (.tuple #[.agg #[.slice a' (enc k (bt V p k)).length cp,.int .i64 k],.nilIface])∧Mine w' w.heap.size w'.heap.size a' cp (enc k (bt V p k))∧RD w' B Q a zs.length cap n (p+k)∧Only (fun b=>b=Q) w w':=by
 obtain ⟨pe,g0⟩:=hS.over
 obtain ⟨T1,x1,g1⟩:=hS.full
 have hQl:Q<w.heap.size:=(Array.getElem?_eq_some_iff.1 hR.1).1
 have HA:Hid (RD w B Q a zs.length cap n p∧Byt w a zs∧zs=enc n V∧SentT w∧w.cell? ⟨11,0,none⟩=some (.iface 246 (.pointer (some pe)))∧w.cell? ⟨6,0,none⟩=some (.iface T1 x1)):=⟨hR,hb,hz,hS,g0,g1⟩
 clear hb hz hS g0 g1
 have HAN:=Ans.new w
 have hR1:=hR.only ((Only.refl (fun _=>False) w).alloc (Obj.cells #[.slice none 0 0,.int .i64 0] 40)) (by simp)
 go_enter Tryz.func155,Tryz.ntmps155
 go_wp2_with fail
 refine (hR1.left (by omega) (by omega)).mono ?_
 rintro e w1 ⟨rfl,m1,rfl⟩
 have HAN1:Hid _:=HAN.step (below_drewN (Below.refl _ _) m1) HAN.lt
 have HR1:Hid (RD ((w.alloc (Obj.cells #[.slice none 0 0,.int .i64 0] 40)).drewN m1) B Q a zs.length cap n p):=hR1.only ((Only.refl (fun _=>False) _).drewN m1) (by simp)
 clear HAN hR1
 generalize (w.alloc (Obj.cells #[.slice none 0 0,.int .i64 0] 40)).drewN m1=W1 at *
 go_wp2_with fail
 refine (newWriter_any none 0 [] 0 4096 W1 ⟨by simp,by simp⟩ (by simp)).mono ?_
 rintro e w3 ⟨R,g,rfl,hRw,hown,hRge,hb3⟩
 have hRlt:R<w3.heap.size:=(Array.getElem?_eq_some_iff.1 hRw).1
 have hWlt:w.heap.size<W1.heap.size:=HAN1.out.lt
 have HAN3:Hid _:=HAN1.out.step hb3 HAN1.out.lt
 have hR3:RD w3 B Q a zs.length cap n p:=HR1.out.only (Only.ofBelow (S:=fun _=>False) hb3 nl) (by simp)
 have HW3:Hid _:=(⟨hRw,hown,hRge,hb3,hR3⟩:_∧_∧_∧_∧_)
 have c0:=cellRR (j:=0) hR3.1 rfl
 have c1:=cellRR (j:=1) hR3.1 rfl
 have c2:=cellRR (j:=2) hR3.1 rfl
 clear hRw hown hRge hb3 hR3 HAN1 HR1 hR
 go_wp2
 go_region
 go_wp2_with fail
 have hO4:Only (fun _=>False) w3 (w3.alloc (Obj.cells #[.slice a zs.length cap,.int .i64 ((p:Int)+(k:Int)),.int .i64 (p:Int)] 109)).drew:=((Only.refl (fun _=>False) w3).alloc _).drew
 have hQ4:(w3.alloc (Obj.cells #[.slice a zs.length cap,.int .i64 ((p:Int)+(k:Int)),.int .i64 (p:Int)] 109)).drew.heap[w3.heap.size]?=some (.cells #[.slice a zs.length cap,.int .i64 ((p+k:Nat):Int),.int .i64 (p:Nat)] 109 (0,0)):=heap_alloc_new w3 _
 generalize (w3.alloc (Obj.cells #[.slice a zs.length cap,.int .i64 ((p:Int)+(k:Int)),.int .i64 (p:Int)] 109)).drew=W4 at *
 have hb4:Below w3.heap.size w3 W4:=hO4.below nl (by simp)
 have hA4:=HAN3.out.step hb4 HAN3.out.lt
 have hRD4:RD W4 B Q a zs.length cap n p:=HW3.out.2.2.2.2.only hO4 (by simp)
 have hv4:OwnV W4 W1.heap.size (.slice (some ⟨g,0,none⟩) 0 0) (enc 0 0):=OwnV.only (S:=fun _=>False) HW3.out.2.1.v hO4 (by simp)
 have hRw4:=(hb4.block R hRlt).trans HW3.out.1
 have z34:=hb4.size
 have z13:=HW3.out.2.2.2.1.size
 have hSL:=HA.out.2.2.2.1.lt
 refine (pour_any R W1.heap.size w3.heap.size _ a cap zs 0 0 (p+k) n V p T1 pe x1 W4 hRw4 hv4 (by simp) (by omega) hQ4 (HA.out.2.1.below hA4.bel nl) HA.out.2.2.1 (by omega) (by omega) hn (by omega) HW3.out.2.2.1 z13 (by omega) ?_ (keep hA4.bel hSL.1 HA.out.2.2.2.2.1) (keep hA4.bel hSL.2 HA.out.2.2.2.2.2)).mono ?_
 ·intro hpz x hx
  obtain ⟨bb,off,he,hbl,_⟩:=HA.out.2.1.2 hpz
  rw [he] at hx
  simp at hx
  rw [←hx]
  simp
  omega
 rintro e w5 ⟨hb5,hyes,-⟩
 obtain ⟨rfl,v',hR5,hv5⟩:=hyes (by omega)
 rw [Nat.add_sub_cancel_left,Nat.zero_add,Nat.zero_add,Nat.pow_zero,Nat.mul_one] at hv5
 rw [Nat.add_sub_cancel_left,Nat.zero_add] at hR5
 have hv5':OwnV w5 W1.heap.size v' (enc k (bt V p k)):=hv5
 have hA5:=hA4.step hb5 hWlt
 have hRD5:RD w5 B Q a zs.length cap n p:=⟨(hb5.block Q (by omega)).trans hRD4.1,hRD4.2.1,Nat.le_trans hRD4.2.2 hb5.size⟩
 obtain ⟨a',cp,rfl,hmine⟩:=hv5'.mine
 have x0:=hA5.r0
 have x1:=hA5.r1
 have y0:=hA5.f0
 have y1:=hA5.f1
 generalize hES:enc k (bt V p k)=es at *
 have d0:w5.cell? ⟨R,0,none⟩=some (.slice a' es.length cp):=cellR (j:=0) hR5 rfl
 have d1:w5.cell? ⟨R,1,none⟩=some (.int .i64 (k:Nat)):=cellR (j:=1) hR5 rfl
 have c2':w5.cell? ⟨Q,2,none⟩=some (.int .i64 (p:Nat)):=cellRR (j:=2) hRD5.1 rfl
 have f2:=hRD5.frz 2
 have HF:Hid (Mine w5 W1.heap.size w5.heap.size a' cp es∧RD w5 B Q a zs.length cap n p∧Below w.heap.size w w5):=⟨hmine,hRD5,hA5.bel⟩
 have hRQ:R≠Q:=by have:=HW3.out.2.2.1;omega
 have hRs:w.heap.size≤R:=by have:=HW3.out.2.2.1;omega
 clear hmine hRD5 hA5 hv5 hv5' hR5 hyes hb5 hRw4 hv4 hRD4 hA4 hb4 hQ4 hO4 c0 c1 c2 HW3 HAN3 HA
 have HES:Hid (enc k (bt V p k)=es):=hES
 clear hES
 go_wp2
 refine bodyPost_ret (v:=.tuple #[.agg #[.slice a' es.length cp,.int .i64 (k:Nat)],.nilIface]) (by simp [results,Tryz.results155,go_sem,x0,x1]) rfl ⟨a',cp,by rw [HES.out],?_,?_,?_⟩
 ·rw [HES.out]
  have hO3:Only (fun b=>b=Q∨b=w.heap.size) w5 (((w5.setCell ⟨Q,2,none⟩ (.int .i64 ((p:Int)+(k:Int)))).setCell ⟨w.heap.size,0,none⟩ (.slice a' es.length cp)).setCell ⟨w.heap.size,1,none⟩ (.int .i64 (k:Nat))):=
   Only.setCell (Only.setCell (Only.setCell (Only.refl (fun b=>b=Q∨b=w.heap.size) w5) (p:=⟨Q,2,none⟩) (.inl (.inl rfl)) _) (p:=⟨w.heap.size,0,none⟩) (.inl (.inr rfl)) _) (p:=⟨w.heap.size,1,none⟩) (.inl (.inr rfl)) _
  exact ((HF.out.1.only hO3 (fun b h1 _=>by omega)).mono (by omega) (by simp [World.setCell]))
 ·have h1:=HF.out.2.1.store (p+k)
  have hO4:Only (fun b=>b=w.heap.size) (w5.setCell ⟨Q,2,none⟩ (.int .i64 ((p+k:Nat):Int))) (((w5.setCell ⟨Q,2,none⟩ (.int .i64 ((p+k:Nat):Int))).setCell ⟨w.heap.size,0,none⟩ (.slice a' es.length cp)).setCell ⟨w.heap.size,1,none⟩ (.int .i64 (k:Nat))):=
   Only.setCell (Only.setCell (Only.refl (fun b=>b=w.heap.size) _) (p:=⟨w.heap.size,0,none⟩) (.inl rfl) _) (p:=⟨w.heap.size,1,none⟩) (.inl rfl) _
  exact RD.only h1 hO4 (by omega)
 ·have h0:Only (fun b=>b=Q) w w5:=Only.ofBelow HF.out.2.2 nl
  exact Only.setCell (Only.setCell (Only.setCell h0 (p:=⟨Q,2,none⟩) (.inl rfl) _) (p:=⟨w.heap.size,0,none⟩) (.inr nl) _) (p:=⟨w.heap.size,1,none⟩) (.inr nl) _
theorem take_no (Q B:Nat) (a:Option Addr) (L cap n p k:Nat) (w:World) (hR:RD w B Q a L cap n p) (hn:n≤4096) (hp:p≤n) (hk:k≤8388608) (hpk:n<p+k) (hS:SentT w) :
  Calls Tryz.prog 155 #[.pointer (some ⟨Q,0,none⟩),.int .i64 k] w fun e w'=>
   ∃ T x,e=.returned (.tuple #[.agg #[.slice none 0 0,.int .i64 0],.iface T x])∧Below w.heap.size w w':=by
 obtain ⟨pe,g0⟩:=hS.over
 have HAN:=Ans.new w
 have hR1:=hR.only ((Only.refl (fun _=>False) w).alloc (Obj.cells #[.slice none 0 0,.int .i64 0] 40)) (by simp)
 have hSL:=hS.lt
 clear hS
 go_enter Tryz.func155,Tryz.ntmps155
 go_wp2_with fail
 refine (hR1.left (by omega) (by omega)).mono ?_
 rintro e w1 ⟨rfl,m1,rfl⟩
 have hA1:=HAN.step (below_drewN (Below.refl _ _) m1) HAN.lt
 clear HAN hR1 hR
 generalize (w.alloc (Obj.cells #[.slice none 0 0,.int .i64 0] 40)).drewN m1=W1 at *
 have g1:=keep hA1.bel hSL.1 g0
 have x0:=hA1.r0
 have x1:=hA1.r1
 have y0:=hA1.f0
 have y1:=hA1.f1
 have HB:Hid (Below w.heap.size w W1):=hA1.bel
 have hgl:11<w.heap.size:=hSL.1
 clear hA1 g0 hSL
 go_wp2
 go_region
 go_wp2
 refine bodyPost_ret (v:=.tuple #[.agg #[.slice none 0 0,.int .i64 0],.iface 246 (.pointer (some pe))]) (by simp [results,Tryz.results155,go_sem,x0,x1]) rfl ⟨_,_,rfl,?_⟩
 have hbb:=HB.out
 repeat (first | exact hbb | refine Below.setCell ?_ (by simp) _ | refine below_drewN ?_ _ | refine below_drew' ?_)
def giY (n V p s:Nat) (res:List Int) (q:Nat):Prop:=gi n V s s p [] false=some (res,q)∧lensB res=true
def giR (B:Nat) (w0 w':World) (R:Nat) (a:Option Addr) (L cap n V p s:Nat) (e:Ending):Prop:=Below B w0 w' ∧
   (∀ res q,giY n V p s res q→∃ a' cp,e=.returned (.tuple #[.slice a' res.length cp,.nilIface])∧MinI w' B w'.heap.size a' cp res∧RD w' B R a L cap n q) ∧
   ((¬∃ res q,giY n V p s res q)→∃ T x v,e=.returned (.tuple #[v,.iface T x]))
theorem giR.no {B:Nat} {w0 w':World} {R:Nat} {a:Option Addr} {L cap n V p s:Nat} {v x:Value} {T:TypeId} (hb:Below B w0 w') (h:gi n V s s p [] false=none):giR B w0 w' R a L cap n V p s (.returned (.tuple #[v,.iface T x])):=
 And.intro hb (And.intro (fun res q hy=>by have:=hy.1;rw [h] at this;cases this) (fun _=>⟨_,_,_,rfl⟩))
theorem below_dL {B:Nat} {a b:World} (h:Below B a b) (n:Nat):Below B a (b.drewN n):=⟨h.os,h.tape,h.output,h.size,h.block⟩
theorem OVI.stayR {S:Nat→Prop} {w w':World} {B:Nat} {v:Value} {zs:List Int} (h:OVI w B v zs) (ho:Only S w w') (hs:∀ k,v.ownBlock=some k→¬S k):OVI w' B v zs:=by
 refine ⟨⟨h.1.1,?_⟩,h.2⟩
 rcases h.1.2 with h' | ⟨g,cap,cur,h',hg,hh,r⟩
 ·exact .inl h'
 ·exact .inr ⟨g,cap,cur,h',hg,(ho.block g (Array.getElem?_eq_some_iff.1 hh).1 (hs g (by rw [h'];rfl))).trans hh,r⟩
theorem RD.grown {w w':World} {B B' R:Nat} {a:Option Addr} {L cap n p:Nat} {v:Value} {zs:List Int} (h:RD w B R a L cap n p) (ho:OVI w B' v zs) (hg:w.grownBy w' v.ownBlock):RD w' B R a L cap n p:=
 ⟨grown_blkI hg h.1 (ho.blk_ne h.1 (by decide)),h.2.1,Nat.le_trans h.2.2 hg.size⟩
theorem RD.alloc {w:World} {B R:Nat} {a:Option Addr} {L cap n p:Nat} (h:RD w B R a L cap n p) (o:Obj):RD (w.alloc o) B R a L cap n p:=h.only (Only.ofBelow (S:=fun _=>False) ((Below.refl _ _).alloc nl o) nl) (by simp)
theorem fr_below {w0 w w':World} {B R:Nat} (h:Below B w0 w∧B≤R∧B≤w.heap.size) (ho:Only (fun k=>k=R) w w'):Below B w0 w':=h.1.trans (ho.below h.2.2 (fun k hk=>by rw [hk];exact h.2.1))
theorem fr_grown {w w1 w':World} {R:Nat} {v:Value} {zs:List Int} (ho:Only (fun k=>k=R) w w1) (h:OVI w1 w.heap.size v zs) (hg:w1.grownBy w' v.ownBlock):Only (fun k=>k=R) w w':=
 ho.grown hg (fun k hk=>.inr (h.1.lt k hk).1)
/-- With the frame: nothing but the reader is written. -/
theorem getLens_fr (R B:Nat) (a:Option Addr) (cap:Nat) (zs:List Int) (n V p s:Nat) (w0 w:World) (hb:Byt w0 a zs) (hB:w0.heap.size=B) (hbel:Below B w0 w) (hz:zs=enc n V) (hn:n≤4096) (hR:RD w B R a zs.length cap n p) (hp:p≤n) (hs:s≤80)
  (s0:Sent w0 5) (s1:Sent w0 11) (s2:Sent w0 15) (h4:Four w0) (hG:5<B∧11<B∧15<B) :
  Calls Tryz.prog 152 #[.pointer (some ⟨R,0,none⟩),.int .i64 s] w fun e w'=>giR B w0 w' R a zs.length cap n V p s e∧Only (fun k=>k=R) w w':=by
 obtain ⟨i0,hi,hz0,hz1,hz2⟩:=info_parts Tryz.infoI64
 have HZ:Hid (zs=enc n V):=hz
 have HR:Hid (RD w B R a zs.length cap n p∧Below B w0 w):=⟨hR,hbel⟩
 have HBW:Hid (Below B w0 w∧B≤R∧B≤w.heap.size):=⟨hbel,hR.2.1,hR.2.2⟩
 have HE:Hid (Sent w0 5∧Sent w0 11∧Sent w0 15∧Four w0∧w0.heap.size=B∧Byt w0 a zs):=⟨s0,s1,s2,h4,hB,hb⟩
 clear hz hR hbel s0 s1 s2 h4 hB hb
 go_enter Tryz.func152,Tryz.ntmps152
 go_wp2
 go_loopw [6,7] (fun o ev wr=>∃ (q k f:Nat) (out:List Int) (au:Option Addr) (cu:Nat) (eb:Bool),o=.slice au k cu∧ev=.bool eb∧(out.length=k∧k≤s∧q≤n)∧(s≤f+k∧gi n V s f q out eb=gi n V s s p [] false)∧OVI wr w.heap.size (.slice au k cu) out∧RD wr B R a zs.length cap n q∧Below B w0 wr∧Only (fun k=>k=R) w wr) (fun o _ _=>s-lenS o)
 case atStart=>exact ⟨p,0,s,[],none,0,false,rfl,rfl,⟨rfl,by omega,hp⟩,⟨by omega,rfl⟩,OVI.nil _ _,HR.out.1,HR.out.2,Only.refl _ _⟩
 case round=>
  clear HR
  obtain ⟨q,k,f,out,au,cu,eb,rfl,rfl,⟨hkl,hk7,hq⟩,hgi,hov,hrd,hbel,hon⟩:=hrel
  have HON:Hid (Only (fun k=>k=R) w wr):=hon
  have hszW:w.heap.size≤wr.heap.size:=hon.size
  clear hon
  have HF:Hid (out.length=k∧s≤f+k∧gi n V s f q out eb=gi n V s s p [] false):=⟨hkl,hgi⟩
  have HB:Hid (Below B w0 wr∧RD wr B R a zs.length cap n q):=⟨hbel,hrd⟩
  have HOV:Hid (OVI wr w.heap.size (.slice au k cu) out):=hov
  have hsz:B≤wr.heap.size:=by have:=hbel.size;have:=HE.out.2.2.2.2.1;omega
  clear hkl hgi hov hbel hrd
  by_cases hlt:k<s
  ·have hlt2:(k:Int)<(s:Int):=by omega
   obtain ⟨f,rfl⟩:∃ g,f=g+1:=⟨f-1,by have:=HF.out.2.1;omega⟩
   by_cases c1:q+4≤n
   ·have HC:=HB.out.2.yes V 4 (by omega) (HE.out.2.2.2.2.2.below HB.out.1 (by rw [HE.out.2.2.2.2.1];exact Nat.le_refl _)) HZ.out (by omega) (by omega) (by omega)
    go_wp2_with fail
    refine HC.mono ?_
    clear HC
    rintro e w2 ⟨rfl,hrd2,hon2,hb2⟩
    have hxe:V / 2 ^ q % 2 ^ (4:Int).toNat=bt V q 4:=rfl
    rw [hxe]
    have hx16:=bt_lt V q 4
    have HON2:Hid (Only (fun k=>k=R) w w2):=HON.out.trans hon2
    have hzW2:w.heap.size≤w2.heap.size:=HON2.out.size
    have HRD2:Hid (RD w2 B R a zs.length cap n (q+4)):=hrd2
    have HB2:Hid (Below B w0 w2):=HB.out.1.trans hb2
    have HOV2:Hid (OVI w2 w.heap.size (.slice au k cu) out):=HOV.out.stayR hon2 (fun j hj he=>HOV.out.blk_ne HB.out.2.1 (by decide) (by rw [hj,he]))
    have hz3:B≤w2.heap.size:=hrd2.2.2
    have hu:w2.ownsRow w.heap.size 3 1 (.slice au k cu) k (out.map (Value.int .i64)):=by have:=HOV2.out.1;rw [HF.out.1] at this;exact this
    have HXB:Hid (∃ x,x=bt V q 4):=⟨_,rfl⟩
    obtain ⟨x,hxx⟩:=HXB.out
    rw [←hxx] at hx16 ⊢
    have HXE:Hid (x=bt V q 4):=hxx
    clear hxx hxe hb2 hrd2 hon2 HXB HOV
    have HK8:Hid (k≤87):=by unfold Hid;omega
    by_cases hx0:x=0
    ·have hx1:((x:Int) == 0)=true:=by rw [beq_iff_eq];omega
     have HX0:Hid (x=0∧bt V q 4=0):=⟨hx0,by rw [←HXE.out];exact hx0⟩
     clear hx0
     by_cases c2:q+7≤n
     ·skip
      go_wp2_with (at_builtin;(refine wpList_append_lies _ rfl (.tmp 23) (.tmp 25) 38 rfl w.heap.size 3 i0 (.int .i64 0) 1 8 Tryz.underlying38 hi hz0 hz1 hz2 rfl (by decide) (.slice au k cu) k (out.map (Value.int .i64)) rfl (hu.alloc _) ⟨w2.heap.size,0,none⟩ 1 1 [.int .i64 (x:Nat)] rfl rfl (by intro j y hj;match j,hj with | 0,hj=>(simp at hj;subst hj;simp [Addr.add])) (by intro y hy;simp at hy;subst hy;rfl) (by omega) (by have:=HK8.out;unfold maxLen;omega) (by have:=HK8.out;omega) (by simp;omega) _ rfl ?_);intro g cap1 w4 hown hgrow hat hlt1)
      have HOV4:Hid (OVI w4 w.heap.size (.slice (some ⟨g,0,none⟩) (k+1) cap1) (out++[((x:Nat):Int)])):=OVI.app HF.out.1 HOV2.out.2 (by omega) hown
      have HRD4:Hid (RD w4 B R a zs.length cap n (q+4)):=RD.grown (HRD2.out.alloc _) ⟨HOV2.out.1.alloc _,HOV2.out.2⟩ hgrow
      have HON4:Hid (Only (fun k=>k=R) w w4):=fr_grown (HON2.out.alloc _) ⟨HOV2.out.1.alloc _,HOV2.out.2⟩ hgrow
      have HB4:Hid (Below B w0 w4):=fr_below HBW.out HON4.out
      have hz4:B≤w4.heap.size:=HRD4.out.2.2
      clear hown hgrow hat hlt1 HOV2 HB2 HRD2 hu hz3 HON2 hzW2
      have HC:=HRD4.out.yes V 3 (by omega) (HE.out.2.2.2.2.2.below HB4.out (by rw [HE.out.2.2.2.2.1];exact Nat.le_refl _)) HZ.out (by omega) (by omega) (by omega)
      refine HC.mono ?_
      clear HC
      rintro e w5 ⟨rfl,hrd5,hon5,hb5⟩
      have hye:V / 2 ^ (q+4) % 2 ^ (3:Int).toNat=bt V (q+4) 3:=rfl
      rw [hye]
      have hy8:=bt_lt V (q+4) 3
      have HON5:Hid (Only (fun k=>k=R) w w5):=HON4.out.trans hon5
      have hzW5:w.heap.size≤w5.heap.size:=HON5.out.size
      have HRD5:Hid (RD w5 B R a zs.length cap n (q+7)):=hrd5
      have HB5:Hid (Below B w0 w5):=HB4.out.trans hb5
      have HOV5:Hid (OVI w5 w.heap.size (.slice (some ⟨g,0,none⟩) (k+1) cap1) (out++[((x:Nat):Int)])):=HOV4.out.stayR hon5 (fun j hj he=>HOV4.out.blk_ne HRD4.out.1 (by decide) (by rw [hj,he]))
      have hz5:B≤w5.heap.size:=hrd5.2.2
      have HL:Hid ((out++[((x:Nat):Int)]).length=k+1):=by rw [List.length_append,HF.out.1];rfl
      have HGB:Hid (eb=true∨s<k+1+bt V (q+4) 3→gi n V s s p [] false=none):=by
       intro hbad
       rw [←HF.out.2.2]
       exact gi_bad (by rw [HF.out.1];exact hlt) HX0.out.2 c2 (by rw [HF.out.1];exact hbad)
      have HGZ:Hid (¬(eb=true∨s<k+1+bt V (q+4) 3)→gi n V s f (q+7) (out++[0]++List.replicate (bt V (q+4) 3) 0) (decide (bt V (q+4) 3<7))=gi n V s s p [] false):=by
       intro hgd
       rw [←HF.out.2.2]
       exact (gi_zero (by rw [HF.out.1];exact hlt) HX0.out.2 c2 (by rw [HF.out.1];exact hgd)).symm
      clear hye hb5 hrd5 hon5 HOV4 HB4 HRD4 hz4
      generalize bt V (q+4) 3=y at *
      obtain ⟨T9,y9,he9⟩:=HE.out.2.2.1.below HB5.out hG.2.2
      by_cases hbad:eb=true∨s<k+1+y
      ·have HN:Hid (gi n V s s p [] false=none):=HGB.out hbad
       clear HGB HGZ
       cases eb with
       | true=>
        go_wp2
        try go_region
        all_goals try go_wp2
        all_goals exact bodyPost_ret (v:=.tuple #[.slice none 0 0,.iface 236 (.pointer (some ⟨w5.heap.size,0,none⟩))]) (by simp [results,Tryz.results152,go_sem]) rfl ⟨giR.no (by repeat (first | exact HB5.out | refine Below.drew ?_ | refine Below.alloc ?_ (by first | exact hz5 | (simp;omega)) _)) HN.out,by repeat (first | exact HON5.out | refine Only.drew ?_ | refine Only.alloc ?_ _)⟩
       | false=>
        have hbd:(s:Int)-((k:Int)+1)<(y:Int):=by
         rcases hbad with h | h
         ·cases h
         ·omega
        go_wp2
        try go_region
        all_goals try go_wp2
        all_goals exact bodyPost_ret (v:=.tuple #[.slice none 0 0,.iface 236 (.pointer (some ⟨w5.heap.size,0,none⟩))]) (by simp [results,Tryz.results152,go_sem]) rfl ⟨giR.no (by repeat (first | exact HB5.out | refine Below.drew ?_ | refine Below.alloc ?_ (by first | exact hz5 | (simp;omega)) _)) HN.out,by repeat (first | exact HON5.out | refine Only.drew ?_ | refine Only.alloc ?_ _)⟩
      ·have HG:=HGZ.out hbad
       have hbd:¬(s:Int)-((k:Int)+1)<(y:Int):=by omega
       have hks2:k+1+y≤s:=by omega
       cases eb with
       | true=>exact absurd (Or.inl rfl) hbad
       | false=>
        clear HGB HGZ hbad
        have HGG:Hid (gi n V s f (q+7) (out++[0]++List.replicate y 0) (decide (y<7))=gi n V s s p [] false):=HG
        clear HG
        go_wp2_with (at_builtin;(refine wpList_append_zer rfl (.tmp 53) (.tmp 54) rfl w.heap.size (.slice (some ⟨g,0,none⟩) (k+1) cap1) (out++[((x:Nat):Int)]) rfl HOV5.out y rfl (by rw [HL.out];omega) (by rw [HL.out];omega) hzW5 ?_);intro v6 w6 hown6 hgrow6)
        obtain ⟨a6,c6,rfl⟩:=hown6.form
        have hl6:(out++[((x:Nat):Int)]++List.replicate y 0).length=k+1+y:=by rw [List.length_append,HL.out,List.length_replicate]
        rw [hl6] at hown6 ⊢
        have HOV6:Hid (OVI w6 w.heap.size (.slice a6 (k+1+y) c6) (out++[0]++List.replicate y 0)):=by rw [HX0.out.1] at hown6;exact hown6
        have HON6:Hid (Only (fun k=>k=R) w w6):=fr_grown HON5.out HOV5.out hgrow6
        have HB6:Hid (Below B w0 w6):=fr_below HBW.out HON6.out
        have HRD6:Hid (RD w6 B R a zs.length cap n (q+7)):=RD.grown HRD5.out HOV5.out hgrow6
        have HL6:Hid ((out++[(0:Int)]++List.replicate y 0).length=k+1+y):=by rw [HX0.out.1] at hl6;exact hl6
        clear hl6 hown6 hgrow6 HOV5 HB5 HL HRD5
        go_roundw
        case rel=>exact ⟨q+7,k+1+y,f,out++[0]++List.replicate y 0,a6,c6,decide (y<7),rfl,by simp;omega,⟨HL6.out,by omega,by omega⟩,⟨by have:=HF.out.2.1;omega,HGG.out⟩,HOV6.out,HRD6.out,HB6.out,HON6.out⟩
        case measure=>simp [lenS];omega
     ·skip
      go_wp2_with (at_builtin;(refine wpList_append_lies _ rfl (.tmp 23) (.tmp 25) 38 rfl w.heap.size 3 i0 (.int .i64 0) 1 8 Tryz.underlying38 hi hz0 hz1 hz2 rfl (by decide) (.slice au k cu) k (out.map (Value.int .i64)) rfl (hu.alloc _) ⟨w2.heap.size,0,none⟩ 1 1 [.int .i64 (x:Nat)] rfl rfl (by intro j y hj;match j,hj with | 0,hj=>(simp at hj;subst hj;simp [Addr.add])) (by intro y hy;simp at hy;subst hy;rfl) (by omega) (by have:=HK8.out;unfold maxLen;omega) (by have:=HK8.out;omega) (by simp;omega) _ rfl ?_);intro g cap1 w4 hown hgrow hat hlt1)
      have HOV4:Hid (OVI w4 w.heap.size (.slice (some ⟨g,0,none⟩) (k+1) cap1) (out++[((x:Nat):Int)])):=OVI.app HF.out.1 HOV2.out.2 (by omega) hown
      have HRD4:Hid (RD w4 B R a zs.length cap n (q+4)):=RD.grown (HRD2.out.alloc _) ⟨HOV2.out.1.alloc _,HOV2.out.2⟩ hgrow
      have HON4:Hid (Only (fun k=>k=R) w w4):=fr_grown (HON2.out.alloc _) ⟨HOV2.out.1.alloc _,HOV2.out.2⟩ hgrow
      have HB4:Hid (Below B w0 w4):=fr_below HBW.out HON4.out
      have hz4:B≤w4.heap.size:=HRD4.out.2.2
      clear hown hgrow hat hlt1 HOV2 HB2 HRD2 hu hz3 HON2 hzW2
      have HN:Hid (gi n V s s p [] false=none):=by rw [←HF.out.2.2];exact gi_7 (by rw [HF.out.1];exact hlt) c1 HX0.out.2 c2
      have HC:=HRD4.out.no 3 (by omega) (by omega) (HE.out.1.below HB4.out hG.1) (HE.out.2.1.below HB4.out hG.2.1) (by omega)
      refine HC.mono ?_
      clear HC
      rintro e w5 ⟨⟨T,y,rfl⟩,m,rfl⟩
      go_wp2
      exact bodyPost_ret (v:=.tuple #[.slice none 0 0,.iface T y]) (by simp [results,Tryz.results152,go_sem]) rfl ⟨giR.no (below_dL HB4.out _) HN.out,HON4.out.drewN _⟩
    ·have hx1:((x:Int) == 0)=false:=by rw [beq_eq_false_iff_ne];omega
     go_wp2_with (at_builtin;(refine wpList_append_lies _ rfl (.tmp 23) (.tmp 25) 38 rfl w.heap.size 3 i0 (.int .i64 0) 1 8 Tryz.underlying38 hi hz0 hz1 hz2 rfl (by decide) (.slice au k cu) k (out.map (Value.int .i64)) rfl (hu.alloc _) ⟨w2.heap.size,0,none⟩ 1 1 [.int .i64 (x:Nat)] rfl rfl (by intro j y hj;match j,hj with | 0,hj=>(simp at hj;subst hj;simp [Addr.add])) (by intro y hy;simp at hy;subst hy;rfl) (by omega) (by have:=HK8.out;unfold maxLen;omega) (by have:=HK8.out;omega) (by simp;omega) _ rfl ?_);intro g cap1 w4 hown hgrow hat hlt1)
     have HOV4:Hid (OVI w4 w.heap.size (.slice (some ⟨g,0,none⟩) (k+1) cap1) (out++[((x:Nat):Int)])):=OVI.app HF.out.1 HOV2.out.2 (by omega) hown
     have HRD4:Hid (RD w4 B R a zs.length cap n (q+4)):=RD.grown (HRD2.out.alloc _) ⟨HOV2.out.1.alloc _,HOV2.out.2⟩ hgrow
     have HON4:Hid (Only (fun k=>k=R) w w4):=fr_grown (HON2.out.alloc _) ⟨HOV2.out.1.alloc _,HOV2.out.2⟩ hgrow
     have HB4:Hid (Below B w0 w4):=fr_below HBW.out HON4.out
     have hz4:B≤w4.heap.size:=HRD4.out.2.2
     clear hown hgrow hat hlt1 HOV2 HB2 HRD2 hu hz3 HON2 hzW2
     have HG:Hid (gi n V s f (q+4) (out++[((x:Nat):Int)]) false=gi n V s s p [] false):=by rw [←HF.out.2.2,HXE.out];exact (gi_pos (by rw [HF.out.1];exact hlt) c1 (by rw [←HXE.out];exact hx0)).symm
     go_roundw
     case rel=>exact ⟨q+4,k+1,f,out++[((x:Nat):Int)],some ⟨g,0,none⟩,cap1,false,rfl,rfl,⟨by rw [List.length_append,HF.out.1];rfl,by omega,by omega⟩,⟨by have:=HF.out.2.1;omega,HG.out⟩,HOV4.out,HRD4.out,HB4.out,HON4.out⟩
     case measure=>simp [lenS];omega
   ·have HN:Hid (gi n V s s p [] false=none):=by rw [←HF.out.2.2];exact gi_4 (by rw [HF.out.1];exact hlt) c1
    have HC:=HB.out.2.no 4 (by omega) (by omega) (HE.out.1.below HB.out.1 hG.1) (HE.out.2.1.below HB.out.1 hG.2.1) (by omega)
    go_wp2_with fail
    refine HC.mono ?_
    clear HC
    rintro e w2 ⟨⟨T,y,rfl⟩,m,rfl⟩
    go_wp2
    exact bodyPost_ret (v:=.tuple #[.slice none 0 0,.iface T y]) (by simp [results,Tryz.results152,go_sem]) rfl ⟨giR.no (below_dL HB.out.1 _) HN.out,HON.out.drewN _⟩
  ·have hlt2:¬(k:Int)<(s:Int):=by omega
   have HG:Hid (gi n V s s p [] false=some (out,q)):=by rw [←HF.out.2.2];exact gi_end (by rw [HF.out.1];exact hlt)
   have hks:k=s:=by omega
   subst hks
   have HC:=checkLens_any au cu out wr HOV.out.ins (by rw [HF.out.1];omega) (HE.out.2.2.2.1.below (by rw [HE.out.2.2.2.2.1];exact HB.out.1))
   rw [HF.out.1] at HC
   go_wp2_with fail
   refine HC.mono ?_
   clear HC
   rintro e w5 ⟨hb5,hy5,hn5⟩
   obtain ⟨a',c',e',hm⟩:=HOV.out.mine
   have HON5:Hid (Only (fun k=>k=R) w w5):=HON.out.trans (Only.ofBelow hb5 nl)
   have HM:Hid (MinI w5 B w5.heap.size au cu out):=by
    obtain ⟨rfl,-,rfl⟩:au=a'∧k=out.length∧cu=c':=by simpa using e'
    exact (hm.below hb5).mono HBW.out.2.2 hb5.size
   have HB5:Hid (Below B w0 w5∧RD w5 B R a zs.length cap n q):=⟨HB.out.1.trans (hb5.mono hsz),HB.out.2.only (Only.ofBelow (S:=fun _=>False) hb5 nl) (by simp)⟩
   clear e' hm hb5
   cases hlb:lensB out with
   | true=>
    obtain rfl:=hy5 hlb
    have HRR:giR B w0 w5 R a zs.length cap n V p k (.returned (.tuple #[.slice au k cu,.nilIface])):=by
     refine And.intro HB5.out.1 (And.intro (fun res q' hy=>?_) (fun hno=>absurd ⟨out,q,HG.out,hlb⟩ hno))
     obtain ⟨rfl,rfl⟩:out=res∧q=q':=by have:=hy.1;rw [HG.out] at this;simpa using this
     exact ⟨au,cu,by rw [HF.out.1],HM.out,HB5.out.2⟩
    clear hy5 hn5 HG HM HOV HF HB5 hlb HB
    go_wp2
    exact bodyPost_ret (v:=.tuple #[.slice au k cu,.nilIface]) (by simp [results,Tryz.results152,go_sem]) rfl ⟨HRR,HON5.out⟩
   | false=>
    obtain ⟨pp,rfl⟩:=hn5 hlb
    have HRR:giR B w0 w5 R a zs.length cap n V p k (.returned (.tuple #[.slice au k cu,.iface 236 (.pointer (some pp))])):=by
     refine And.intro HB5.out.1 (And.intro (fun res q' hy=>?_) (fun hno=>⟨_,_,_,rfl⟩))
     obtain ⟨rfl,rfl⟩:out=res∧q=q':=by have:=hy.1;rw [HG.out] at this;simpa using this
     have:=hy.2
     rw [hlb] at this
     cases this
    clear hy5 hn5 HG HM HOV HF HB5 hlb HB
    go_wp2
    exact bodyPost_ret (v:=.tuple #[.slice au k cu,.iface 236 (.pointer (some pp))]) (by simp [results,Tryz.results152,go_sem]) rfl ⟨HRR,HON5.out⟩
def cd (v p:Nat):Nat→Nat
 | 0=>0
 | k+1=>2*cd v p k+v / 2 ^ (p+k) % 2
theorem cd_lt (v p:Nat):∀ k,cd v p k<2 ^ k
 | 0=>by simp [cd]
 | k+1=>by
  have:=cd_lt v p k
  simp only [cd]
  rw [Nat.pow_succ]
  omega
def Hit (ls cs:List Int) (v p k i:Nat):Prop:=ls.getD i 0=(k:Int)∧cs.getD i 0=(cd v p k:Nat)
def NoHit (ls cs:List Int) (v p k:Nat):Prop:=∀ j i,1≤j→j≤k→i<ls.length→¬Hit ls cs v p j i
def One (ls cs:List Int) (n v p i k:Nat):Prop:=1≤k∧k≤12∧p+k≤n∧i<ls.length∧Hit ls cs v p k i∧(∀ j,j<i→¬Hit ls cs v p k j)∧NoHit ls cs v p (k-1)
inductive Reads (ls cs:List Int) (n v p:Nat):List Int→Nat→Prop
 | nil:Reads ls cs n v p [] p
 | snoc {q:List Int} {e i k:Nat}:Reads ls cs n v p q e→One ls cs n v e i k→Reads ls cs n v p (q++[(i:Int)]) (e+k)
end Go.Proofs.YtfeokafkhnbdiaaGreatDoor
namespace Go.Proofs.YtfeokafkhnbdiaaGreatDoor
set_option linter.unusedVariables false
theorem One.no {ls cs:List Int} {n v p i k:Nat} (h:One ls cs n v p i k) (hn:NoHit ls cs v p (min 12 (n-p))):False:=by
 obtain ⟨h1,h2,h3,h4,h5,_⟩:=h
 exact hn k i h1 (by omega) h4 h5
theorem One.unique {ls cs:List Int} {n v p i k i' k':Nat} (h:One ls cs n v p i k) (h':One ls cs n v p i' k'):i=i'∧k=k':=by
 obtain ⟨h1,h2,h3,h4,h5,h6,h7⟩:=h
 obtain ⟨g1,g2,g3,g4,g5,g6,g7⟩:=h'
 have hk:k=k':=by
  rcases Nat.lt_trichotomy k k' with hh | hh | hh
  ·exact absurd h5 (g7 k i h1 (by omega) h4)
  ·exact hh
  ·exact absurd g5 (h7 k' i' g1 (by omega) g4)
 subst hk
 refine ⟨?_,rfl⟩
 rcases Nat.lt_trichotomy i i' with hh | hh | hh
 ·exact absurd h5 (g6 i hh)
 ·exact hh
 ·exact absurd g5 (h6 i' hh)
theorem Reads.unique {ls cs:List Int} {n v p:Nat} {q:List Int} {E:Nat} (h:Reads ls cs n v p q E):∀ {q':List Int} {E':Nat},Reads ls cs n v p q' E'→q.length=q'.length→q=q'∧E=E':=by
 induction h with
 | nil=>
  intro q' E' h' hl
  cases h' with
  | nil=>exact ⟨rfl,rfl⟩
  | snoc h1 h2=>simp at hl
 | @snoc q e i k h1 h2 ih=>
  intro q' E' h' hl
  cases h' with
  | nil=>simp at hl
  | @snoc q2 e2 i2 k2 g1 g2=>
   obtain ⟨rfl,rfl⟩:=ih g1 (by simpa using hl)
   obtain ⟨rfl,rfl⟩:=h2.unique g2
   exact ⟨rfl,rfl⟩
theorem Reads.cut {ls cs:List Int} {n v p:Nat} {q:List Int} {E:Nat} (h:Reads ls cs n v p q E):∀ m,m<q.length→∃ e i k,Reads ls cs n v p (q.take m) e∧One ls cs n v e i k:=by
 induction h with
 | nil=>intro m hm;simp at hm
 | @snoc q e i k h1 h2 ih=>
  intro m hm
  by_cases hh:m<q.length
  ·obtain ⟨e',i',k',a,b⟩:=ih m hh
   exact ⟨e',i',k',by rw [List.take_append_of_le_length (by omega)];exact a,b⟩
  ·have:m=q.length:=by simp at hm;omega
   subst this
   exact ⟨e,i,k,by simpa using h1,h2⟩
theorem Reads.stuck {ls cs:List Int} {n v p:Nat} {q:List Int} {E:Nat} (h:Reads ls cs n v p q E) {q':List Int} {E':Nat} (h':Reads ls cs n v p q' E') (hl:q'.length<q.length) (hn:NoHit ls cs v E' (min 12 (n-E'))):False:=by
 obtain ⟨e,i,k,a,b⟩:=h.cut q'.length hl
 obtain ⟨-,rfl⟩:=a.unique h' (by simp;omega)
 exact b.no hn
theorem Reads.le {ls cs:List Int} {n v p:Nat} {q:List Int} {E:Nat} (h:Reads ls cs n v p q E) (hp:p≤n):E≤n:=by
 induction h with
 | nil=>exact hp
 | snoc h1 h2 ih=>exact h2.2.2.1
end Go.Proofs.YtfeokafkhnbdiaaGreatDoor
