/- Lemmas on the way. -/
import Derived.Test.YtfeokafkhnbdiaaGreatDoorFg3
import Derived.Test.YtfeokafkhnbdiaaGreatDoorFnD
import Derived.Test.YtfeokafkhnbdiaaGreatDoorTakeI
import Derived.Test.YtfeokafkhnbdiaaGreatDoorHGet6
import Derived.Test.YtfeokafkhnbdiaaGreatDoorTb4
import Derived.Test.YtfeokafkhnbdiaaGreatDoorINorm4
import Derived.Test.YtfeokafkhnbdiaaGreatDoorSy2
import Derived.Test.YtfeokafkhnbdiaaGreatDoorEnM
import Derived.BigQuiet
set_option maxRecDepth 20000
set_option maxHeartbeats 16000000
namespace Go.Proofs.YtfeokafkhnbdiaaGreatDoor
open Go.RowKit
set_option linter.unusedVariables false
structure SentF (w:World):Prop where
 s0:Sent w 5
 s1:Sent w 11
 s2:Sent w 16
 hG:5<w.heap.size∧11<w.heap.size∧16<w.heap.size
theorem SentF.below {w w':World} (h:SentF w) (hb:Below w.heap.size w w'):SentF w':=
 ⟨h.s0.below hb h.hG.1,h.s1.below hb h.hG.2.1,h.s2.below hb h.hG.2.2,by have:=hb.size;have:=h.hG;omega⟩
theorem below_dF {B:Nat} {a b:World} (h:Below B a b) (n:Nat):Below B a (b.drewN n):=⟨h.os,h.tape,h.output,h.size,h.block⟩
theorem fgB_shortF {T:List Int} {v N n:Nat} (h:N<6):fgB T v N n=false:=by
 unfold fgB
 rw [decide_eq_false_iff_not]
 omega
theorem fgB_longF {T:List Int} {v E n:Nat}:fgB T v (E+6) n=decide (sg T v E n=some (0,0)):=by unfold fgB;simp
theorem wholeText_any (a:Option Addr) (ca:Nat) (ls:List Int) (x:Option Addr) (cx:Nat) (zs:List Int) (N v n:Nat) (T:List Int) (w:World) (ha:Ins w a ls) (hx:Byt w x zs) (hz:zs=enc N v) (hN:N≤4096) (hn:n≤300) (hnb:normB ls=true) (hTe:tb (pl (fl 0 ls) (plc 64)) ls 64=T) (hS:SentF w) :
  Calls Tryz.prog 157 #[.slice a ls.length ca,.agg #[.slice x zs.length cx,.int .i64 N],.int .i64 n] w fun e w'=>Below w.heap.size w w' ∧
   ((fgB T v N n = false ∧ ∃ T' y, e = .returned (.tuple #[.slice none 0 0, .iface T' y])) ∨
    (fgB T v N n=true∧∃ gq,e=.returned (.tuple #[.slice (some ⟨gq,0,none⟩) n n,.nilIface])∧OwI w' w.heap.size gq n (so T v (N-6) n))):=by
 have hw:Below w.heap.size w (w.alloc (Obj.cells #[.slice x zs.length cx,.int .i64 N] 40)):=bAw
 have hbd:=normB_bnd hnb
 have hw2:Below (w.alloc (Obj.cells #[.slice x zs.length cx,.int .i64 N] 40)).heap.size (w.alloc (Obj.cells #[.slice x zs.length cx,.int .i64 N] 40)) ((w.alloc (Obj.cells #[.slice x zs.length cx,.int .i64 N] 40)).alloc (Obj.cells #[.slice x zs.length cx,.int .i64 N,.int .i64 N] 109)):=bAw
 have HRN:Hid (((w.alloc (Obj.cells #[.slice x zs.length cx,.int .i64 N] 40)).alloc (Obj.cells #[.slice x zs.length cx,.int .i64 N,.int .i64 N] 109)).heap[w.heap.size+1]?=some (.cells #[.slice x zs.length cx,.int .i64 N,.int .i64 N] 109 (0,0))∧(w.alloc (Obj.cells #[.slice x zs.length cx,.int .i64 N] 40)).heap.size=w.heap.size+1∧((w.alloc (Obj.cells #[.slice x zs.length cx,.int .i64 N] 40)).alloc (Obj.cells #[.slice x zs.length cx,.int .i64 N,.int .i64 N] 109)).heap.size=w.heap.size+2):=by
  have:=heap_alloc_new (w.alloc (Obj.cells #[.slice x zs.length cx,.int .i64 N] 40)) (Obj.cells #[.slice x zs.length cx,.int .i64 N,.int .i64 N] 109)
  rw [World.size_alloc] at this
  exact ⟨this,by simp,by simp⟩
 have HX0:Hid (Byt (w.alloc (Obj.cells #[.slice x zs.length cx,.int .i64 N] 40)) x zs):=hx.alloc _
 have HCO:=cellsOf_any a ca ls _ ((ha.below hw nl).below hw2 nl) hnb
 have HS1:Hid (SentF (w.alloc (Obj.cells #[.slice x zs.length cx,.int .i64 N] 40))):=hS.below hw
 have HGD:Hid (Gd T ls.length):=by unfold Hid;rw [←hTe];exact gd_tb hnb
 rw [hTe] at HCO
 have HPK:Hid (zs=enc N v∧True):=⟨hz,trivial⟩
 have HBW:Hid (_∧_):=⟨hw,hw2⟩
 clear hz hTe hnb hw hw2 hx ha hS
 go_enter Tryz.func157,Tryz.ntmps157
 go_wp2_with fail
 generalize w.alloc (Obj.cells #[.slice x zs.length cx,.int .i64 N] 40)=W0 at *
 generalize W0.alloc (Obj.cells #[.slice x zs.length cx,.int .i64 N,.int .i64 N] 109)=W1 at *
 refine HCO.mono ?_
 clear HCO
 rintro e w2 ⟨g,rfl,hg,hTg,hb2⟩
 have hTg':w2.heap[g]?=some (.cells (cel T) 179 (0,0)):=hTg
 have hs2:=hb2.size
 have HR2:Hid (RD w2 W0.heap.size (w.heap.size+1) x zs.length cx N N∧Below W0.heap.size W0 w2∧Below w.heap.size w w2):=by
  have h1:=HRN.out.2.1
  have h2:=HRN.out.2.2
  have hb02:=HBW.out.2.trans (hb2.mono (show W0.heap.size≤W1.heap.size by omega))
  exact ⟨⟨(hb2.block (w.heap.size+1) (by omega)).trans HRN.out.1,by omega,by omega⟩,hb02,HBW.out.1.trans (hb02.mono (by omega))⟩
 have HTG:Hid (w2.heap[g]?=some (.cells (cel T) 179 (0,0))∧g≠w.heap.size+1):=⟨hTg',by have:=HRN.out.2.2;omega⟩
 have HSS:Hid (w.heap.size+1≤w2.heap.size∧W0.heap.size=w.heap.size+1):=⟨by have:=HRN.out.2.2;omega,HRN.out.2.1⟩
 clear hTg hTg' hb2 hg hs2 HRN HBW
 by_cases h6:N<6
 ·have HBT:=backText_short (w.heap.size+1) g W0.heap.size x cx zs N n W0 w2 HR2.out.2.1 h6 HR2.out.1 HS1.out.s0 HS1.out.s1 ⟨HS1.out.hG.1,HS1.out.hG.2.1⟩
  go_wp2_with fail
  refine HBT.mono ?_
  clear HBT
  rintro e w3 ⟨hon,T',y,rfl⟩
  have HB3:Hid (Below w.heap.size w w3∧True):=⟨HR2.out.2.2.trans (hon.below (by have:=HSS.out.1;omega) (fun k hk=>by omega)),trivial⟩
  have HF:Hid (fgB T v N n=false∧True):=⟨fgB_shortF h6,trivial⟩
  clear hon HR2 HTG
  go_wp2
  go_ret2
  exact ⟨HB3.out.1,.inl ⟨HF.out.1,T',y,rfl⟩⟩
 ·obtain ⟨E,hE⟩:∃ E,N=E+6:=⟨N-6,by omega⟩
  have HNE:Hid (N=E+6∧N-6=E):=⟨hE,by omega⟩
  have HBT:=backText_long (w.heap.size+1) g W0.heap.size x cx zs E N v n T ls.length W0 w2 HX0.out rfl HR2.out.2.1 HPK.out.1 hN hn hE HGD.out (by omega) HR2.out.1 HTG.out.1 HTG.out.2 HS1.out.s0 HS1.out.s1 ⟨HS1.out.hG.1,HS1.out.hG.2.1⟩
  have HF:Hid (fgB T v N n=decide (sg T v E n=some (0,0))∧True):=⟨by rw [hE];exact fgB_longF,trivial⟩
  clear hE h6
  go_wp2_with fail
  refine HBT.mono ?_
  clear HBT
  rintro e w3 ⟨hon,⟨hno,T',y,rfl⟩ | ⟨st,en,gq,hsg,rfl,how,hrd⟩⟩
  ·have HB3:Hid (Below w.heap.size w w3∧True):=⟨HR2.out.2.2.trans (hon.below (by have:=HSS.out.1;omega) (fun k hk=>by omega)),trivial⟩
   have HF2:Hid (fgB T v N n=false∧True):=⟨by rw [HF.out.1,hno];rfl,trivial⟩
   clear hon HR2 HTG hno HF
   go_wp2
   go_ret2
   exact ⟨HB3.out.1,.inl ⟨HF2.out.1,T',y,rfl⟩⟩
  ·have HB3:Hid (Below w.heap.size w w3∧True):=⟨HR2.out.2.2.trans (hon.below (by have:=HSS.out.1;omega) (fun k hk=>by omega)),trivial⟩
   have c2:w3.cell? ⟨w.heap.size+1,2,none⟩=some (.int .i64 en):=cellRR (j:=2) hrd.1 rfl
   have hS3:=HS1.out.below (HR2.out.2.1.trans (hon.below (by have:=HSS.out;omega) (fun k hk=>by have:=HSS.out;omega)))
   have HOW:Hid (OwI w3 w.heap.size gq n (so T v E n)):=how.mono (by have:=HSS.out.1;omega)
   have HSG:Hid (sg T v E n=some (st,en)∧True):=⟨hsg,trivial⟩
   obtain ⟨Te,ye,hce⟩:=hS3.s2
   clear hon hrd how HR2 HTG hsg hS3
   by_cases h1:st=0
   ·by_cases h2:en=0
    ·have HF2:Hid (fgB T v N n=true∧True):=⟨by rw [HF.out.1,HSG.out.1,h1,h2];rfl,trivial⟩
     subst h1 h2
     clear HSG HF
     go_wp2
     go_ret2
     exact ⟨HB3.out.1,.inr ⟨HF2.out.1,gq,rfl,by rw [HNE.out.2];exact HOW.out⟩⟩
    ·have HF2:Hid (fgB T v N n=false∧True):=⟨by rw [HF.out.1,HSG.out.1];simp;omega,trivial⟩
     have h2i:((en:Int) != 0)=true:=by simp;omega
     subst h1
     clear HSG HF
     go_wp2
     go_quiet (fail)
     go_wp2
     go_ret2
     exact ⟨below_dF HB3.out.1 _,.inl ⟨HF2.out.1,Te,ye,rfl⟩⟩
   ·have HF2:Hid (fgB T v N n=false∧True):=⟨by rw [HF.out.1,HSG.out.1];simp;omega,trivial⟩
    have h2i:((st:Int) != 0)=true:=by simp;omega
    clear HSG HF
    go_wp2
    go_quiet (fail)
    go_wp2
    go_ret2
    exact ⟨below_dF HB3.out.1 _,.inl ⟨HF2.out.1,Te,ye,rfl⟩⟩
set_option linter.unusedSimpArgs false
theorem SentT.below {w w':World} (h:SentT w) (hb:Below w.heap.size w w'):SentT w':=by
 obtain ⟨pe,h0⟩:=h.over
 obtain ⟨T,x,h1⟩:=h.full
 exact ⟨⟨pe,keep hb h.lt.1 h0⟩,⟨T,x,keep hb h.lt.2 h1⟩,by have:=hb.size;have:=h.lt;omega⟩
structure SentD (w:World):Prop where
 t:SentT w
 f:SentF w
 s3:Sent w 15
 s4:Sent w 20
 s5:Sent w 9
 s6:Sent w 7
 s7:Sent w 0
 s8:Sent w 1
 four:Four w
 hG:15<w.heap.size∧20<w.heap.size∧9<w.heap.size∧7<w.heap.size∧0<w.heap.size∧1<w.heap.size
theorem SentD.below {w w':World} (h:SentD w) (hb:Below w.heap.size w w'):SentD w':=
 ⟨h.t.below hb,h.f.below hb,h.s3.below hb h.hG.1,h.s4.below hb h.hG.2.1,h.s5.below hb h.hG.2.2.1,h.s6.below hb h.hG.2.2.2.1,h.s7.below hb h.hG.2.2.2.2.1,h.s8.below hb h.hG.2.2.2.2.2,h.four.below hb,by have:=hb.size;have:=h.hG;omega⟩
structure AnO (R:Nat) (w W:World):Prop where
 r0:W.cell? ⟨w.heap.size,0,none⟩=some (.slice none 0 0)
 r1:W.cell? ⟨w.heap.size,1,none⟩=some (.int .i64 0)
 f0:W.frozen? ⟨w.heap.size,0,none⟩=false
 f1:W.frozen? ⟨w.heap.size,1,none⟩=false
 lt:w.heap.size<W.heap.size
 on:Only (fun k=>k=R) w W
theorem AnO.new (R:Nat) (w:World):AnO R w (w.alloc (Obj.cells #[.slice none 0 0,.int .i64 0] 40)):=⟨by simp,by simp,by simp,by simp,by simp,(Only.refl _ _).alloc _⟩
theorem AnO.step {R:Nat} {w W W':World} (h:AnO R w W) (ho:Only (fun k=>k=R) W W') (hR:R<w.heap.size):AnO R w W':=
 ⟨ho.cell h.lt (by omega) h.r0,ho.cell h.lt (by omega) h.r1,(World.frozen?_of_block (ho.block w.heap.size h.lt (by omega))).trans h.f0,(World.frozen?_of_block (ho.block w.heap.size h.lt (by omega))).trans h.f1,Nat.lt_of_lt_of_le h.lt ho.size,h.on.trans ho⟩
theorem gi_le (n V s:Nat) (f:Nat):∀ (p:Nat) (out:List Int) (e:Bool) (res:List Int) (q:Nat),p≤n→gi n V s f p out e=some (res,q)→q≤n:=by
 induction f with
 | zero=>
  intro p out e res q hp h
  simp only [gi,Option.some.injEq,Prod.mk.injEq] at h
  omega
 | succ f ih=>
  intro p out e res q hp h
  simp only [gi] at h
  split at h
  ·split at h
   ·split at h
    ·split at h
     ·split at h
      ·cases h
      ·exact ih _ _ _ _ _ (by omega) h
     ·cases h
    ·exact ih _ _ _ _ _ (by omega) h
   ·cases h
  ·simp only [Option.some.injEq,Prod.mk.injEq] at h
   omega
def RdH (n V p N:Nat) (ts:List Int) (E:Nat):Prop:=∃ res q,giY n V p 40 res q∧ts.length=N∧Reads res (crun res (sbL res 12)).2.2 n V q ts E
theorem RdH.unique {n V p N:Nat} {ts ts':List Int} {E E':Nat} (h:RdH n V p N ts E) (h':RdH n V p N ts' E'):ts=ts'∧E=E':=by
 obtain ⟨res,q,hg,hl,hr⟩:=h
 obtain ⟨res',q',hg',hl',hr'⟩:=h'
 obtain ⟨rfl,rfl⟩:res=res'∧q=q':=by have:=hg'.1;rw [hg.1] at this;simpa using this
 exact hr.unique hr' (by omega)
theorem getByLengths_any (R B:Nat) (a:Option Addr) (cap:Nat) (zs:List Int) (n V p N:Nat) (w0 w:World) (hb:Byt w0 a zs) (hB:w0.heap.size=B) (hbel:Below B w0 w) (hz:zs=enc n V) (hn:n≤4096) (hR:RD w B R a zs.length cap n p) (hp:p≤n) (hN:N≤300) (hS:SentD w0) :
  Calls Tryz.prog 135 #[.pointer (some ⟨R,0,none⟩),.int .i64 N] w fun e w'=>Only (fun k=>k=R) w w' ∧
   ((∃ ts E g a' cp,RdH n V p N ts E∧E≤n∧OwI w' w.heap.size g N ts∧Mine w' w.heap.size w'.heap.size a' cp (enc (n-E) (bt V E (n-E))) ∧
     e=.returned (.tuple #[.slice (some ⟨g,0,none⟩) N N,.agg #[.slice a' (enc (n-E) (bt V E (n-E))).length cp,.int .i64 ((n-E:Nat):Int)],.nilIface])) ∨
    ((¬∃ ts E,RdH n V p N ts E)∧∃ T x v z l c M,e=.returned (.tuple #[v,.agg #[.slice z l c,.int .i64 M],.iface T x]))):=by
 have hRl:R<w.heap.size:=(Array.getElem?_eq_some_iff.1 hR.1).1
 have hBW:Below B w0 w∧B≤R∧B≤w.heap.size:=⟨hbel,hR.2.1,hR.2.2⟩
 have HQ:Hid (Byt w0 a zs∧w0.heap.size=B∧zs=enc n V∧SentD w0∧(Below B w0 w∧B≤R∧B≤w.heap.size)):=⟨hb,hB,hz,hS,hBW⟩
 have hA1:=AnO.new R w
 have hG1:=hS.hG
 have hG2:=hS.f.hG
 have HGL:=getLens_fr R B a cap zs n V p 40 w0 _ hb hB (fr_below hBW hA1.on) hz hn (hR.only (Only.alloc (Only.refl (fun _=>False) w) _) (by simp)) hp (by omega) hS.f.s0 hS.f.s1 hS.s3 hS.four (by omega)
 have HA1:Hid _:=hA1
 clear hb hB hz hS hBW hbel hR hA1
 go_enter Tryz.func135,Tryz.ntmps135
 go_wp2_with fail
 refine HGL.mono ?_
 clear HGL
 rintro e w2 ⟨⟨hb2,hy2,hn2⟩,ho2⟩
 have HA2:Hid (AnO R w w2):=AnO.step HA1.out ho2 hRl
 clear HA1 ho2
 by_cases hex:∃ res q,giY n V p 40 res q
 ·obtain ⟨res,q,hgi⟩:=hex
  obtain ⟨a2,c2,rfl,hm2,hrd2⟩:=hy2 res q hgi
  obtain ⟨hr1,hr2,-⟩:=lensB_okG hgi.2
  have hqn:q≤n:=gi_le n V 40 40 p [] false res q hp hgi.1
  have HNR:=newHuffReader_any a2 c2 res R w2 hm2.byt hr2
  have HW2:Hid (RD w2 B R a zs.length cap n q∧Below B w0 w2∧giY n V p 40 res q):=⟨hrd2,hb2,hgi⟩
  have hR2:R<w2.heap.size:=(Array.getElem?_eq_some_iff.1 hrd2.1).1
  clear hy2 hn2 hb2 hm2 hrd2 hgi
  go_wp2_with fail
  refine HNR.mono ?_
  clear HNR
  rintro e w3 ⟨H,ao,co,rfl,hhr,hmo,hHs,hb3⟩
  have hA3:AnO R w w3:=AnO.step HA2.out (Only.ofBelow hb3 nl) hRl
  have hbl3:=fr_below HQ.out.2.2.2.2 hA3.on
  have hrd3:RD w3 B R a zs.length cap n q:=HW2.out.1.only (Only.ofBelow (S:=fun _=>False) hb3 nl) (by simp)
  have HTX:=text_any H R B w2.heap.size ao co res a cap zs n V q N w0 w3 HQ.out.1 HQ.out.2.1 hbl3 HQ.out.2.2.1 hn hqn hN hr2 hhr hmo hrd3 (by omega) hR2 HQ.out.2.2.2.1.f.s0 HQ.out.2.2.2.1.f.s1 HQ.out.2.2.2.1.s4 (by omega)
  have HA3:Hid (AnO R w w3):=hA3
  have z23:=hb3.size
  have HGI:Hid (giY n V p 40 res q):=HW2.out.2.2
  have z2:w.heap.size<w2.heap.size:=HA2.out.lt
  clear hhr hmo hHs hb3 hA3 hbl3 hrd3 HA2 HW2
  go_wp2_with fail
  refine HTX.mono ?_
  clear HTX
  rintro e w4 ⟨ho4,hb4,⟨ts,E,g,hl,hrds,how,hrd4,rfl⟩ | ⟨ts,E,T,y,hl,hrds,hno,rfl⟩⟩
  ·have hEn:E≤n:=hrds.le hqn
   have HA4:Hid (AnO R w w4):=AnO.step HA3.out ho4 hRl
   have HF4:Hid (RdH n V p N ts E∧OwI w4 w.heap.size g N ts∧w3.heap.size≤g∧RD w4 B R a zs.length cap n E∧Below B w0 w4):=⟨⟨res,q,HGI.out,hl,hrds⟩,how.mono (by omega),how.lt.1,hrd4,hb4⟩
   have HLE:=hrd4.left (by omega) (by omega)
   clear ho4 hb4 hrds how hrd4 HA3 HGI hl
   go_wp2_with fail
   refine HLE.mono ?_
   clear HLE
   rintro e w5 ⟨rfl,m5,rfl⟩
   have hA5:AnO R w (w4.drewN m5):=AnO.step HA4.out ((Only.refl _ _).drewN m5) hRl
   have hF5:OwI (w4.drewN m5) w.heap.size g N ts∧RD (w4.drewN m5) B R a zs.length cap n E∧Below B w0 (w4.drewN m5):=⟨HF4.out.2.1.drewN m5,HF4.out.2.2.2.1.only ((Only.refl (fun _=>False) _).drewN m5) (by simp),below_drewN HF4.out.2.2.2.2 m5⟩
   have HRH:Hid (RdH n V p N ts E∧w3.heap.size≤g):=⟨HF4.out.1,HF4.out.2.2.1⟩
   clear HA4 HF4
   generalize w4.drewN m5=w5 at *
   have hnE:((n:Int)-(E:Int))=((n-E:Nat):Int):=by omega
   rw [hnE]
   have HTK:=take_yes R B a cap zs n V E (n-E) w5 hF5.2.1 (HQ.out.1.below hF5.2.2 (by rw [HQ.out.2.1];exact Nat.le_refl _)) HQ.out.2.2.1 hn (by omega) (HQ.out.2.2.2.1.t.below (by rw [HQ.out.2.1];exact hF5.2.2))
   have HA5:Hid (AnO R w w5∧OwI w5 w.heap.size g N ts):=⟨hA5,hF5.1⟩
   have HDE:Hid (∃ d,d=n-E):=⟨_,rfl⟩
   clear hA5 hF5 hnE
   generalize hde:n-E=d at *
   have HD:Hid (n-E=d):=hde
   clear hde HDE
   go_wp2_with fail
   refine HTK.mono ?_
   clear HTK
   rintro e w6 ⟨a6,c6,rfl,hm6,hrd6,ho6⟩
   have HA6:Hid (AnO R w w6):=AnO.step HA5.out.1 ho6 hRl
   have HO6:Hid (OwI w6 w.heap.size g N ts):=HA5.out.2.only ho6 (by have:=HRH.out.2;omega)
   have HM6:Hid (Mine w6 w5.heap.size w6.heap.size a6 c6 (enc d (bt V E d))):=hm6
   have z5:w.heap.size<w5.heap.size:=HA5.out.1.lt
   have z6:=ho6.size
   have z7:w.heap.size<w6.heap.size:=by omega
   clear hm6 hrd6 ho6 HA5
   have x0:=HA6.out.r0
   have x1:=HA6.out.r1
   have y0:=HA6.out.f0
   have y1:=HA6.out.f1
   generalize hES:enc d (bt V E d)=es at *
   have HES:Hid (enc d (bt V E d)=es):=hES
   clear hES
   go_wp2
   go_region
   go_wp2
   have hO7:Only (fun k=>k=w.heap.size) w6 (((w6.setCell ⟨w.heap.size,0,none⟩ (.slice a6 es.length c6)).setCell ⟨w.heap.size,1,none⟩ (.int .i64 (d:Nat))).alloc (Obj.cells #[.slice a6 es.length c6,.int .i64 (d:Nat)] 40)).drew:=
    (((Only.setCell (Only.setCell (Only.refl (fun k=>k=w.heap.size) w6) (p:=⟨w.heap.size,0,none⟩) (.inl rfl) _) (p:=⟨w.heap.size,1,none⟩) (.inl rfl) _)).alloc _).drew
   have hO8:Only (fun k=>k=R) w (((w6.setCell ⟨w.heap.size,0,none⟩ (.slice a6 es.length c6)).setCell ⟨w.heap.size,1,none⟩ (.int .i64 (d:Nat))).alloc (Obj.cells #[.slice a6 es.length c6,.int .i64 (d:Nat)] 40)).drew:=
    (((Only.setCell (Only.setCell HA6.out.on (p:=⟨w.heap.size,0,none⟩) (.inr nl) _) (p:=⟨w.heap.size,1,none⟩) (.inr nl) _)).alloc _).drew
   have q0:(((w6.setCell ⟨w.heap.size,0,none⟩ (.slice a6 es.length c6)).setCell ⟨w.heap.size,1,none⟩ (.int .i64 (d:Nat))).alloc (Obj.cells #[.slice a6 es.length c6,.int .i64 (d:Nat)] 40)).drew.cell? ⟨w.heap.size,0,none⟩=some (.slice a6 es.length c6):=keepA _ (by simpa using z7) (by simp [go_sem,x0,x1])
   have q1:(((w6.setCell ⟨w.heap.size,0,none⟩ (.slice a6 es.length c6)).setCell ⟨w.heap.size,1,none⟩ (.int .i64 (d:Nat))).alloc (Obj.cells #[.slice a6 es.length c6,.int .i64 (d:Nat)] 40)).drew.cell? ⟨w.heap.size,1,none⟩=some (.int .i64 (d:Nat)):=keepA _ (by simpa using z7) (by simp [go_sem,x0,x1])
   refine bodyPost_ret (v:=.tuple #[.slice (some ⟨g,0,none⟩) N N,.agg #[.slice a6 es.length c6,.int .i64 (d:Nat)],.nilIface]) (by simp [results,Tryz.results135,go_sem,q0,q1]) rfl ⟨hO8,.inl ⟨ts,E,g,a6,c6,HRH.out.1,hEn,?_,?_,by rw [HD.out,HES.out]⟩⟩
   ·exact HO6.out.only hO7 (by have:=HRH.out.2;omega)
   ·rw [HD.out,HES.out]
    exact (HM6.out.only hO7 (fun b h1 _=>by omega)).mono (by omega) hO7.size
  ·have HNO:Hid (¬∃ ts E,RdH n V p N ts E):=by
    rintro ⟨ts',E',res',q',hg',hl',hr'⟩
    obtain ⟨rfl,rfl⟩:res=res'∧q=q':=by have:=hg'.1;rw [HGI.out.1] at this;simpa using this
    exact hr'.stuck hrds (by omega) hno
   have hA4:AnO R w w4:=AnO.step HA3.out ho4 hRl
   have HON:Hid (Only (fun k=>k=R) w w4):=hA4.on
   obtain ⟨x0,x1,y0,y1,_,_⟩:=hA4
   clear ho4 hb4 hrds hno HA3 HGI hl
   go_wp2
   refine bodyPost_ret (v:=.tuple #[.slice none 0 0,.agg #[.slice none 0 0,.int .i64 0],.iface T y]) (by simp [results,Tryz.results135,go_sem,x0,x1]) rfl ⟨?_,.inr ⟨HNO.out,_,_,_,_,_,_,_,rfl⟩⟩
   have h0:=HON.out
   repeat (first | exact h0 | refine Only.setCell ?_ (.inr (by simp)) _)
 ·obtain ⟨T,x,v,rfl⟩:=hn2 hex
  have HNO:Hid (¬∃ ts E,RdH n V p N ts E):=fun ⟨ts,E,res,q,h,_⟩=>hex ⟨res,q,h⟩
  have x0:=HA2.out.r0
  have x1:=HA2.out.r1
  have y0:=HA2.out.f0
  have y1:=HA2.out.f1
  clear hy2 hn2 hex hb2
  go_wp2
  refine bodyPost_ret (v:=.tuple #[.slice none 0 0,.agg #[.slice none 0 0,.int .i64 0],.iface T x]) (by simp [results,Tryz.results135,go_sem,x0,x1]) rfl ⟨?_,.inr ⟨HNO.out,_,_,_,_,_,_,_,rfl⟩⟩
  have h0:=HA2.out.on
  repeat (first | exact h0 | refine Only.setCell ?_ (.inr (by simp)) _)
def gL (V p:Nat):Nat→Nat × Nat
 | 0=>(64,p)
 | k+1=>((gL V p k).1-V / 2 ^ (gL V p k).2 % 2 ^ bl (gL V p k).1,(gL V p k).2+bl (gL V p k).1)
def gX (V p k:Nat):Nat:=V / 2 ^ (gL V p k).2 % 2 ^ bl (gL V p k).1
def good (n V p k:Nat):Prop:=∀ j,j<k→(gL V p j).2+bl (gL V p j).1≤n∧gX V p j≤(gL V p j).1
def gXs (V p s:Nat):List Int:=(List.range s).map (fun k=>((gX V p k:Nat):Int))
theorem gL_le (V p k:Nat):(gL V p k).1≤64:=by
 induction k with
 | zero=>simp [gL]
 | succ k ih=>simp only [gL];omega
theorem gX_lt (V p k:Nat):gX V p k<128:=by
 have h1:=bl_le7 _ (gL_le V p k)
 have h2:gX V p k<2 ^ bl (gL V p k).1:=Nat.mod_lt _ (Nat.pow_pos (by omega))
 have h3:2 ^ bl (gL V p k).1≤2 ^ 7:=Nat.pow_le_pow_right (by omega) h1
 omega
theorem gXs_len (V p s:Nat):(gXs V p s).length=s:=by simp [gXs]
theorem gXs_get (V p s k:Nat) (h:k<s):(gXs V p s).getD k 0=(gX V p k:Nat):=by
 simp [gXs,List.getD_eq_getElem?_getD,h]
theorem gXs_rng (V p s:Nat):∀ z ∈ gXs V p s,-9223372036854775808≤z∧z≤9223372036854775807:=by
 intro z hz
 simp only [gXs,List.mem_map,List.mem_range] at hz
 obtain ⟨k,_,rfl⟩:=hz
 have:=gX_lt V p k
 omega
theorem good_succ {n V p k:Nat} (h:good n V p k) (h1:(gL V p k).2+bl (gL V p k).1≤n) (h2:gX V p k≤(gL V p k).1):good n V p (k+1):=by
 intro j hj
 by_cases h':j=k
 ·subst h';exact ⟨h1,h2⟩
 ·exact h j (by omega)
theorem good_pos {n V p k:Nat} (hp:p≤n) (h:good n V p k):(gL V p k).2≤n:=by
 cases k with
 | zero=>exact hp
 | succ k=>exact (h k (by omega)).1
theorem gL_succ1 (V p k:Nat):(gL V p (k+1)).1=(gL V p k).1-gX V p k:=rfl
theorem gL_succ2 (V p k:Nat):(gL V p (k+1)).2=(gL V p k).2+bl (gL V p k).1:=rfl
theorem bad_size {n V p k s:Nat} (hk:k<s) (h:¬(gL V p k).2+bl (gL V p k).1≤n):¬good n V p s:=fun h'=>h (h' k hk).1
theorem bad_share {n V p k s:Nat} (hk:k<s) (h:¬gX V p k≤(gL V p k).1):¬good n V p s:=fun h'=>h (h' k hk).2
def gotN (n V p s:Nat):Prop:=good n V p s∧(gL V p s).1=0
theorem below_dQ {B:Nat} {a b:World} (h:Below B a b) (n:Nat):Below B a (b.drewN n):=⟨h.os,h.tape,h.output,h.size,h.block⟩
/-- With the frame: nothing but the reader is written. -/
theorem getNorm_fr (R B:Nat) (a:Option Addr) (cap:Nat) (zs:List Int) (n V p s:Nat) (w0 w:World) (hb:Byt w0 a zs) (hB:w0.heap.size=B) (hbel:Below B w0 w) (hz:zs=enc n V) (hn:n≤4096) (hR:RD w B R a zs.length cap n p) (hp:p≤n) (hs:s≤80)
  (s0:Sent w0 5) (s1:Sent w0 11) (s2:Sent w0 9) (hG:5<B∧11<B∧9<B) :
  Calls Tryz.prog 156 #[.pointer (some ⟨R,0,none⟩),.int .i64 s] w fun e w'=>Below B w0 w' ∧
   (gotN n V p s→e=.returned (.tuple #[.slice (some ⟨w.heap.size,0,none⟩) s s,.nilIface])∧OwI w' B w.heap.size s (gXs V p s)∧RD w' B R a zs.length cap n (gL V p s).2) ∧
   (¬gotN n V p s→∃ T x v,e=.returned (.tuple #[v,.iface T x]))∧Only (fun k=>k=R) w w':=by
 obtain ⟨i0,hi,hz0,hz1,hz2⟩:=info_parts Tryz.infoI64
 have hBw:B≤w.heap.size:=hR.2.2
 have hRw:R<w.heap.size:=(Array.getElem?_eq_some_iff.1 hR.1).1
 have HR:Hid (RD w B R a zs.length cap n p):=hR
 have HZ:Hid (zs=enc n V):=hz
 have HXR:Hid _:=gXs_rng V p s
 have HXL:Hid _:=gXs_len V p s
 clear hR hz
 go_enter Tryz.func156,Tryz.ntmps156
 go_wp2_with (at_make;refine wpList_make_full _ rfl _ _ 38 rfl w.heap.size 3 i0 (.int .i64 0) 1 Tryz.underlying38 hi hz0 hz1 .i64 .i64 _ _ s rfl rfl rfl rfl (by rw [hz2];omega) (by unfold maxLen;omega) nl ?_;intro w1 hown hgrow)
 have h0:OwI w1 w.heap.size w.heap.size s (part (gXs V p s) 0):=by
  rw [part_zero,gXs_len]
  refine ⟨?_,by intro z hz;simp at hz;omega⟩
  rw [made_zeroI] at hown
  simpa using hown
 have hbw:Below w.heap.size w w1:=(Below.refl _ _).grown hgrow nl (by intro k hk;cases hk)
 have H0:Hid (OwI w1 w.heap.size w.heap.size s (part (gXs V p s) 0)):=h0
 have HB1:Hid (Below B w0 w1):=hbel.trans (hbw.mono hBw)
 have HON1:Hid (Only (fun k=>k=R) w w1):=Only.ofBelow hbw nl
 have HR1:Hid (RD w1 B R a zs.length cap n p):=HR.out.only (Only.ofBelow (S:=fun _=>False) hbw nl) (by simp)
 clear h0 hown hgrow hi hz0 hz1 hz2 hbw hbel HR
 go_loopw [7,15] (fun l i wr=>∃ k:Nat,k≤s∧i=.int .i64 k∧l=.int .i64 ((gL V p k).1:Nat)∧good n V p k∧OwI wr w.heap.size w.heap.size s (part (gXs V p s) k)∧RD wr B R a zs.length cap n (gL V p k).2∧Below B w0 wr∧Only (fun k=>k=R) w wr) (fun _ i _=>s-(intOf i).toNat)
 case atStart=>exact ⟨0,Nat.zero_le _,rfl,rfl,fun j hj=>by omega,H0.out,HR1.out,HB1.out,HON1.out⟩
 case round=>
  clear H0 HR1 HB1 HON1
  obtain ⟨k,hk,rfl,rfl,hgood,hown,hrd,hbel,hon⟩:=hrel
  have HON:Hid (Only (fun k=>k=R) w wr):=hon
  clear hon
  have HGD:Hid (good n V p k):=hgood
  have HO:Hid (OwI wr w.heap.size w.heap.size s (part (gXs V p s) k)):=hown
  have HRD:Hid (RD wr B R a zs.length cap n (gL V p k).2):=hrd
  have hq:=good_pos hp hgood
  clear hgood hown hrd
  by_cases hlt:k<s
  ·have hl:=gL_le V p k
   have hb7:=bl_le7 _ hl
   have HXG:Hid ((gXs V p s).getD k 0=(gX V p k:Nat)):=gXs_get V p s k hlt
   have HX:Hid (gX V p k=V / 2 ^ (gL V p k).2 % 2 ^ bl (gL V p k).1):=rfl
   have hx:=gX_lt V p k
   have HBS:Hid _:=bad_size (n:=n) (V:=V) (p:=p) hlt
   have HBX:Hid _:=bad_share (n:=n) (V:=V) (p:=p) hlt
   have HGS:Hid _:=@good_succ n V p k
   have HS1:Hid _:=gL_succ1 V p k
   have HS2:Hid _:=gL_succ2 V p k
   generalize (gL V p k).1=l at *
   generalize (gL V p k).2=q at *
   generalize gX V p k=x at *
   go_wp2_with fail
   refine (shareWidth_any l wr (by omega)).mono ?_
   rintro e w1 ⟨rfl,rfl⟩
   by_cases c1:q+bl l≤n
   ·go_wp2_with fail
    refine (HRD.out.yes V ((bl l:Nat):Int) (by omega) (hb.below hbel (by omega)) HZ.out (by omega) (by omega) (by omega)).mono ?_
    rintro e w2 ⟨rfl,hrd2,hon2,hb2⟩
    have HON2:Hid (Only (fun k=>k=R) w w2):=HON.out.trans hon2
    have HRD2:Hid (RD w2 B R a zs.length cap n (q+bl l)):=by simpa [Hid] using hrd2
    have HO2:Hid (OwI w2 w.heap.size w.heap.size s (part (gXs V p s) k)):=HO.out.only hon2 (by omega)
    have hbel2:Below B w0 w2:=hbel.trans hb2
    have hxe:V / 2 ^ q % 2 ^ ((bl l:Nat):Int).toNat=x:=by rw [HX.out];simp
    rw [hxe]
    clear hrd2 hon2 hb2 hbel HRD HO hxe
    by_cases c2:x≤l
    ·have HG2:Hid (good n V p (k+1)):=HGS.out HGD.out c1 c2
     have hpl:(part (gXs V p s) k).length=s:=by rw [part_len _ _ (by rw [HXL.out];omega)];exact HXL.out
     have hdst:=HO2.out.cell k (by omega)
     have hfz:=HO2.out.frozen k
     have R2:=HO2.out.store k ((gXs V p s).getD k 0) (by rw [HXG.out];omega)
     rw [part_set _ _ (by rw [HXL.out];exact hlt),HXG.out] at R2
     have HR2:Hid (OwI (w2.setCell ⟨w.heap.size,k,none⟩ (.int .i64 (x:Nat))) w.heap.size w.heap.size s (part (gXs V p s) (k+1))):=R2
     have HB2:Hid (Below B w0 (w2.setCell ⟨w.heap.size,k,none⟩ (.int .i64 (x:Nat)))):=hbel2.setCell (p:=⟨w.heap.size,k,none⟩) hBw (.int .i64 (x:Nat))
     have HON3:Hid (Only (fun k=>k=R) w (w2.setCell ⟨w.heap.size,k,none⟩ (.int .i64 (x:Nat)))):=HON2.out.setCell (p:=⟨w.heap.size,k,none⟩) (.inr nl) _
     have HRD3:Hid (RD (w2.setCell ⟨w.heap.size,k,none⟩ (.int .i64 (x:Nat))) B R a zs.length cap n (q+bl l)):=HRD2.out.only (Only.setCell (Only.refl (fun b=>b=w.heap.size) w2) (p:=⟨w.heap.size,k,none⟩) (.inl rfl) _) (by omega)
     have E1:Hid ((l:Int)-(x:Nat)=(((gL V p (k+1)).1:Nat):Int)):=by have:=HS1.out;unfold Hid;omega
     clear R2 hpl HRD2 HO2 hbel2 HS1 HBS HBX HGS HX HXG
     generalize (part (gXs V p s) k).getD k 0=old at *
     go_wp2
     go_roundw
     case rel=>exact ⟨k+1,by omega,by go_num,by rw [E1.out],HG2.out,by simpa using HR2.out,by rw [HS2.out];simpa using HRD3.out,by simpa using HB2.out,by simpa using HON3.out⟩
     case measure=>simp [intOf];omega
    ·have HN:Hid (¬gotN n V p s):=fun h=>HBX.out c2 h.1
     obtain ⟨T,y,hc⟩:=s2.below hbel2 (by omega)
     clear HBS HBX HGS HX HXG HRD2 HO2 HS1 HS2
     go_wp2
     go_quiet (fail)
     go_wp2
     exact bodyPost_ret (v:=.tuple #[.slice none 0 0,.iface T y]) (by simp [results,Tryz.results156,go_sem]) rfl ⟨below_dQ hbel2 _,fun h=>absurd h HN.out,fun _=>⟨T,y,_,rfl⟩,HON2.out.drewN _⟩
   ·have HN:Hid (¬gotN n V p s):=fun h=>HBS.out c1 h.1
    go_wp2_with fail
    refine (HRD.out.no ((bl l:Nat):Int) (by omega) (by omega) (s0.below hbel (by omega)) (s1.below hbel (by omega)) (by omega)).mono ?_
    rintro e w2 ⟨⟨T,y,rfl⟩,m,rfl⟩
    clear HBS HBX HGS HX HXG HRD HO HS1 HS2
    go_wp2
    exact bodyPost_ret (v:=.tuple #[.slice none 0 0,.iface T y]) (by simp [results,Tryz.results156,go_sem]) rfl ⟨below_dQ hbel _,fun h=>absurd h HN.out,fun _=>⟨T,y,_,rfl⟩,HON.out.drewN _⟩
  ·have hkn:k=s:=by omega
   subst hkn
   have hall:=HO.out
   rw [show part (gXs V p k) k=gXs V p k from by have:=part_all (gXs V p k);rw [HXL.out] at this;exact this] at hall
   have HA:Hid (OwI wr B w.heap.size k (gXs V p k)):=hall.mono hBw
   clear hall HO
   have hl:=gL_le V p k
   by_cases c0:(gL V p k).1=0
   ·have HY:Hid (gotN n V p k):=⟨HGD.out,c0⟩
    rw [c0]
    go_wp2
    exact bodyPost_ret (v:=.tuple #[.slice (some ⟨w.heap.size,0,none⟩) k k,.nilIface]) (by simp [results,Tryz.results156,go_sem]) rfl ⟨hbel,fun _=>⟨rfl,HA.out,HRD.out⟩,fun h=>absurd HY.out h,HON.out⟩
   ·have HN:Hid (¬gotN n V p k):=fun h=>c0 h.2
    obtain ⟨T,y,hc⟩:=s2.below hbel (by omega)
    generalize (gL V p k).1=l at *
    have hne:((l:Int) != 0)=true:=by rw [bne_iff_ne];omega
    clear HRD HA HGD
    go_wp2
    go_quiet (fail)
    go_wp2
    exact bodyPost_ret (v:=.tuple #[.slice none 0 0,.iface T y]) (by simp [results,Tryz.results156,go_sem]) rfl ⟨below_dQ hbel _,fun h=>absurd h HN.out,fun _=>⟨T,y,_,rfl⟩,HON.out.drewN _⟩
end Go.Proofs.YtfeokafkhnbdiaaGreatDoor
