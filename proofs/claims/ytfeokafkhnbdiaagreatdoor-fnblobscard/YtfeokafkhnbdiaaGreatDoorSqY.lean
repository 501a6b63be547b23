/- Lemmas on the way. -/
import Derived.Test.YtfeokafkhnbdiaaGreatDoorJoin1
import Derived.Test.YtfeokafkhnbdiaaGreatDoorSqEq
import Derived.Test.YtfeokafkhnbdiaaGreatDoorUs2
import Derived.Test.YtfeokafkhnbdiaaGreatDoorPcB
import Derived.Test.YtfeokafkhnbdiaaGreatDoorPmB
import Derived.Test.YtfeokafkhnbdiaaGreatDoorUs3
import Derived.Test.YtfeokafkhnbdiaaGreatDoorTakeI
import Derived.Test.YtfeokafkhnbdiaaGreatDoorSqB
set_option maxRecDepth 20000
set_option maxHeartbeats 16000000
namespace Go.Proofs.YtfeokafkhnbdiaaGreatDoor
open Go.RowKit
set_option linter.unusedVariables false
set_option linter.unusedSimpArgs false
def usR (w w':World) (N V:Nat) (ts:List Int) (e:Ending):Prop:=Below w.heap.size w w' ∧
 (∀ cs,uqF N V ts=some cs→∃ v ss,e=.returned (.tuple #[v,.bool true])∧ss.map Sq.ct=cs∧OVq w' w.heap.size v ss∧DeepQ w' w.heap.size ss∧Sml ss∧ss.length≤301) ∧
 (uqF N V ts=none→∃ v,e=.returned (.tuple #[v,.bool false]))
def soR (w w':World) (N V:Nat) (ts:List Int) (e:Ending):Prop:=Below w.heap.size w w' ∧
 (∀ cs,uqF N V ts=some cs→∃ v ss,(ss.map Sq.ct=cs∧OVq w' w.heap.size v ss∧DeepQ w' w.heap.size ss∧Sml ss∧ss.length≤301)∧((sqn ss).isSome=true→e=.returned (.tuple #[v,.nilIface]))∧((sqn ss).isSome=false→∃ T y u,e=.returned (.tuple #[u,.iface T y]))) ∧
 (uqF N V ts=none→∃ T y u,e=.returned (.tuple #[u,.iface T y]))
theorem soR.no {w w':World} {N V:Nat} {ts:List Int} {u y:Value} {T:TypeId} (hb:Below w.heap.size w w') (h:uqF N V ts=none):soR w w' N V ts (.returned (.tuple #[u,.iface T y])):=
 And.intro hb (And.intro (fun cs hc=>by rw [h] at hc;cases hc) (fun _=>⟨_,_,_,rfl⟩))
theorem below_dS {B:Nat} {a b:World} (h:Below B a b) (n:Nat):Below B a (b.drewN n):=⟨h.os,h.tape,h.output,h.size,h.block⟩
theorem seqsOf_any (a:Option Addr) (cap:Nat) (ts:List Int) (x:Option Addr) (cx:Nat) (zs:List Int) (N V:Nat) (w:World) (ha:Ins w a ts) (hx:Byt w x zs) (hz:zs=enc N V) (hN:N≤4096) (ht:∀ s ∈ ts,0≤s∧s<40) (hl:ts.length≤300) (hcap:ts.length≤cap)
  (s0:Sent w 5) (s1:Sent w 11) (s2:Sent w 7) (s3:Sent w 0) (s4:Sent w 1) (hG:5<w.heap.size∧11<w.heap.size∧7<w.heap.size∧0<w.heap.size∧1<w.heap.size) :
  Calls Tryz.prog 46 #[.slice a ts.length cap,.agg #[.slice x zs.length cx,.int .i64 N]] w fun e w'=>soR w w' N V ts e:=by
 have HE:Hid (Sent w 5∧Sent w 11∧Sent w 7∧Sent w 0∧Sent w 1):=⟨s0,s1,s2,s3,s4⟩
 have HIN:Hid (Ins w a ts∧Byt w x zs∧zs=enc N V∧(∀ s ∈ ts,0≤s∧s<40)∧ts.length≤300):=⟨ha,hx,hz,ht,hl⟩
 have HTL:Hid (∃ k,ts.length=k):=⟨_,rfl⟩
 obtain ⟨n,hn⟩:=HTL.out
 rw [hn] at hl hcap ⊢
 have HNL:Hid (ts.length=n):=hn
 clear s0 s1 s2 s3 s4 ha hx hz ht hn HTL
 go_enter Tryz.func46,Tryz.ntmps46
 have HST:Hid (SR w (((w.alloc (Obj.cells #[.slice x zs.length cx,.int .i64 N] 40)).alloc (Obj.cells #[.slice x zs.length cx,.int .i64 N,.int .i64 0] 109)).alloc (Obj.cells #[.slice a n cap,.pointer (some ⟨w.heap.size+1,0,none⟩)] 111)) w.heap.size (w.heap.size+1+1) (w.heap.size+1) ts ∧
   RD (((w.alloc (Obj.cells #[.slice x zs.length cx,.int .i64 N] 40)).alloc (Obj.cells #[.slice x zs.length cx,.int .i64 N,.int .i64 0] 109)).alloc (Obj.cells #[.slice a n cap,.pointer (some ⟨w.heap.size+1,0,none⟩)] 111)) w.heap.size (w.heap.size+1) x zs.length cx N 0 ∧
   Below w.heap.size w (((w.alloc (Obj.cells #[.slice x zs.length cx,.int .i64 N] 40)).alloc (Obj.cells #[.slice x zs.length cx,.int .i64 N,.int .i64 0] 109)).alloc (Obj.cells #[.slice a n cap,.pointer (some ⟨w.heap.size+1,0,none⟩)] 111)) ∧
   w.heap.size+3≤(((w.alloc (Obj.cells #[.slice x zs.length cx,.int .i64 N] 40)).alloc (Obj.cells #[.slice x zs.length cx,.int .i64 N,.int .i64 0] 109)).alloc (Obj.cells #[.slice a n cap,.pointer (some ⟨w.heap.size+1,0,none⟩)] 111)).heap.size):=by
  refine ⟨⟨a,cap,?_,HIN.out.1,by rw [HNL.out];exact hcap,by omega⟩,⟨?_,by omega,by simp;omega⟩,(((Below.refl _ _).alloc nl _).alloc (by simp) _).alloc (by simp;omega) _,by simp⟩
  ·rw [HNL.out]
   have:=heap_alloc_new ((w.alloc (Obj.cells #[.slice x zs.length cx,.int .i64 N] 40)).alloc (Obj.cells #[.slice x zs.length cx,.int .i64 N,.int .i64 0] 109)) (Obj.cells #[.slice a n cap,.pointer (some ⟨w.heap.size+1,0,none⟩)] 111)
   simpa using this
  ·have h1:=heap_alloc_new (w.alloc (Obj.cells #[.slice x zs.length cx,.int .i64 N] 40)) (Obj.cells #[.slice x zs.length cx,.int .i64 N,.int .i64 0] 109)
   have h2:((w.alloc (Obj.cells #[.slice x zs.length cx,.int .i64 N] 40)).alloc (Obj.cells #[.slice x zs.length cx,.int .i64 N,.int .i64 0] 109)).heap[w.heap.size+1]?=some (Obj.cells #[.slice x zs.length cx,.int .i64 N,.int .i64 0] 109 (0,0)):=by simpa using h1
   exact ((Below.refl _ ((w.alloc (Obj.cells #[.slice x zs.length cx,.int .i64 N] 40)).alloc (Obj.cells #[.slice x zs.length cx,.int .i64 N,.int .i64 0] 109))).alloc nl _).block (w.heap.size+1) (by simp) |>.trans h2
 go_wp2
 generalize ((w.alloc (Obj.cells #[.slice x zs.length cx,.int .i64 N] 40)).alloc (Obj.cells #[.slice x zs.length cx,.int .i64 N,.int .i64 0] 109)).alloc (Obj.cells #[.slice a n cap,.pointer (some ⟨w.heap.size+1,0,none⟩)] 111)=W3 at *
 go_loopw [7] (fun lv wr=>∃ (rest:List Int) (p:Nat) (ss:List Sq) (oa:Option Addr) (oc:Nat),lv=.slice oa ss.length oc∧(SR w wr w.heap.size (w.heap.size+1+1) (w.heap.size+1) rest∧RD wr w.heap.size (w.heap.size+1) x zs.length cx N p∧Below w.heap.size w wr∧w.heap.size+3≤wr.heap.size)∧(p≤N∧rest.length+ss.length≤300∧∀ z ∈ rest,z ∈ ts)∧uqE N (uq N V rest p [] 0 (ss.map Sq.ct))=uqF N V ts∧Sml ss∧OVq wr (w.heap.size+3) (.slice oa ss.length oc) ss∧DeepQ wr (w.heap.size+3) ss) (fun _ wr=>lenAt (w.heap.size+1+1) wr)
 case atStart=>exact ⟨ts,0,[],none,0,rfl,HST.out,⟨by omega,by rw [HNL.out];simpa using hl,fun _ h=>h⟩,rfl,Sml.nil,OVq.nil _ _,DeepQ.nil _ _⟩
 case round=>
  clear HST
  obtain ⟨rest,p,ss,oa,oc,rfl,hst,⟨hp,hrs,hsub⟩,hu,hsm,hoq,hdq⟩:=hrel
  have HT:Hid ((SR w wr w.heap.size (w.heap.size+1+1) (w.heap.size+1) rest∧RD wr w.heap.size (w.heap.size+1) x zs.length cx N p∧Below w.heap.size w wr∧w.heap.size+3≤wr.heap.size)∧uqE N (uq N V rest p [] 0 (ss.map Sq.ct))=uqF N V ts∧Sml ss∧OVq wr (w.heap.size+3) (.slice oa ss.length oc) ss∧DeepQ wr (w.heap.size+3) ss∧∀ z ∈ rest,z ∈ ts):=⟨hst,hu,hsm,hoq,hdq,hsub⟩
  obtain ⟨qa,qc,hq1,-⟩:=hst.1
  have q0:wr.cell? ⟨w.heap.size+1+1,0,none⟩=some (.slice qa rest.length qc):=cellRR (j:=0) hq1 rfl
  have q1:wr.cell? ⟨w.heap.size+1+1,1,none⟩=some (.pointer (some ⟨w.heap.size+1,0,none⟩)):=cellRR (j:=1) hq1 rfl
  have HLA:Hid (lenAt (w.heap.size+1+1) wr=rest.length∧True):=⟨hst.1.lenAt,trivial⟩
  clear hst hu hsm hoq hdq hq1 hsub
  by_cases hre:rest=[]
  ·subst hre
   have HC:=HT.out.1.2.1.left (by omega) (by omega)
   have HUE:Hid (uqF N V ts=if p=N then some (ss.map Sq.ct) else none):=by
    unfold Hid
    rw [←HT.out.2.1]
    simp [uq,uqE]
   simp only [List.length_nil] at q0
   go_wp2_with fail
   refine HC.mono ?_
   clear HC q0 q1
   rintro e w2 ⟨rfl,m,rfl⟩
   by_cases hpN:p=N
   ·subst hpN
    have hp0:¬(0:Int)<(p:Int)-(p:Int):=by omega
    have hsq:Sqs wr oa ss:=HT.out.2.2.2.1.sqs (fun z hz=>⟨HT.out.2.2.1.rng z hz,HT.out.2.2.2.2.1.byt hz⟩)
    have HSQ:Hid (Sqs (wr.drewN m) oa ss):=hsq.below (below_dS (Below.refl wr.heap.size wr) m) nl
    clear hsq
    have HUY:Hid (uqF p V ts=some (ss.map Sq.ct)∧True):=⟨by rw [HUE.out];simp,trivial⟩
    clear HUE
    have HC:=implSeqsOk_any oa oc ss (wr.drewN m) HSQ.out (by omega) (fun z hz=>by have:=HT.out.2.2.1 z hz;omega)
    go_wp2_with fail
    refine HC.mono ?_
    clear HC
    rintro e w3 ⟨rfl,hb3⟩
    have HB3:Hid (Below w.heap.size w w3∧OVq w3 w.heap.size (.slice oa ss.length oc) ss∧DeepQ w3 w.heap.size ss):=by
     have hb4:Below wr.heap.size wr w3:=⟨hb3.os,hb3.tape,hb3.output,hb3.size,hb3.block⟩
     exact ⟨HT.out.1.2.2.1.trans (hb4.mono (by have:=HT.out.1.2.2.2;omega)),(HT.out.2.2.2.1.below hb4).weak (by omega),(HT.out.2.2.2.2.1.below hb4).weak (by omega)⟩
    clear hb3
    cases hso:(sqn ss).isSome with
    | true=>
     have HY:Hid (soR w w3 p V ts (.returned (.tuple #[.slice oa ss.length oc,.nilIface]))):=by
      refine And.intro HB3.out.1 (And.intro (fun cs hc=>?_) (fun hn=>?_))
      ·rw [HUY.out.1] at hc
       simp only [Option.some.injEq] at hc
       exact ⟨_,ss,⟨hc,HB3.out.2.1,HB3.out.2.2,HT.out.2.2.1,by omega⟩,fun _=>rfl,fun h=>by rw [hso] at h;cases h⟩
      ·rw [HUY.out.1] at hn
       cases hn
     clear HSQ HUY hso
     go_wp2
     exact bodyPost_ret (v:=.tuple #[.slice oa ss.length oc,.nilIface]) (by simp [results,Tryz.results46,go_sem]) rfl HY.out
    | false=>
     obtain ⟨T9,y9,he9⟩:=HE.out.2.2.2.2.below HB3.out.1 hG.2.2.2.2
     have HY:Hid (∀ m',soR w (w3.drewN m') p V ts (.returned (.tuple #[.slice none 0 0,.iface T9 y9]))):=by
      intro m'
      refine And.intro (below_dS HB3.out.1 m') (And.intro (fun cs hc=>?_) (fun hn=>⟨_,_,_,rfl⟩))
      rw [HUY.out.1] at hc
      simp only [Option.some.injEq] at hc
      exact ⟨_,ss,⟨hc,HB3.out.2.1.below (below_dS (Below.refl _ _) m'),HB3.out.2.2.below (below_dS (Below.refl _ _) m'),HT.out.2.2.1,by omega⟩,fun h=>(by first | (rw [hso] at h;cases h) | (cases h)),fun _=>⟨_,_,_,rfl⟩⟩
     clear HSQ HUY hso
     go_wp2
     go_quiet (fail)
     go_wp2
     exact bodyPost_ret (v:=.tuple #[.slice none 0 0,.iface T9 y9]) (by simp [results,Tryz.results46,go_sem]) rfl (HY.out _)
   ·have hp0:(0:Int)<(N:Int)-(p:Int):=by omega
    have HN:Hid (uqF N V ts=none):=by unfold Hid;rw [HUE.out,if_neg hpN]
    have hbm:Below w.heap.size w (wr.drewN m):=below_dS HT.out.1.2.2.1 m
    obtain ⟨T9,y9,he9⟩:=HE.out.2.2.2.1.below hbm hG.2.2.2.1
    have HBM:Hid (Below w.heap.size w (wr.drewN m)):=hbm
    clear hbm HUE HT HLA
    generalize wr.drewN m=w2 at *
    go_wp2
    go_quiet (fail)
    go_wp2
    exact bodyPost_ret (v:=.tuple #[.slice none 0 0,.iface T9 y9]) (by simp [results,Tryz.results46,go_sem]) rfl (soR.no (below_dS HBM.out _) HN.out)
  ·have hrp:0<rest.length:=List.length_pos_iff.2 hre
   have hrp2:(0:Int)<(rest.length:Int):=by omega
   have HC:=seq_any w.heap.size (w.heap.size+1+1) (w.heap.size+1) rest x cx zs N V p w wr rfl HT.out.1.2.2.1 HT.out.1.1 HT.out.1.2.1 hp HIN.out.2.1 HIN.out.2.2.1 hN (fun z hz=>HIN.out.2.2.2.1 z (HT.out.2.2.2.2.2 z hz)) (by omega) hre HE.out.1 HE.out.2.1 HE.out.2.2.1 ⟨hG.1,hG.2.1,hG.2.2.1⟩
   go_wp2_with fail
   refine HC.mono ?_
   clear HC q0 q1
   rintro e w2 (⟨lv2,ls,sn,sd,rest2,p2,rfl,hsr2,hrd2,hp2,hov2,hon2,hlen2,hnd2,hsub2,hu2⟩ | ⟨⟨T,y,va,vl,vc,v1,v2,rfl⟩,hbad,hon2⟩)
   ·obtain ⟨la,lc,rfl⟩:=hov2.form
    have hA2:Below w2.heap.size w2 ((w2.alloc (Obj.cells #[.slice la ls.length lc,.int .i64 sn,.int .i64 sd] 37)).alloc (Obj.cells #[.slice la ls.length lc,.int .i64 sn,.int .i64 sd] 37)):=((Below.refl _ _).alloc nl _).alloc (by simp) _
    have hw2:wr.heap.size≤w2.heap.size:=hon2.size
    have hw3:=HT.out.1.2.2.2
    have hoq2:OVq w2 (w.heap.size+3) (.slice oa ss.length oc) ss:=HT.out.2.2.2.1.stay hon2 (fun k hk=>by have:=HT.out.2.2.2.1.blk hk;omega)
    have hdq2:DeepQ w2 (w.heap.size+3) ss:=HT.out.2.2.2.2.1.stay hon2 (fun z hz k hk=>by have:=(HT.out.2.2.2.2.1.mine z hz).rowB hk;omega)
    have hdq3:DeepQ w2 (w.heap.size+3) (ss++[⟨la,lc,ls,sn,sd⟩]):=by
     obtain ⟨a5,c5,e5,hm5,hr5⟩:=hov2.mineAt
     obtain ⟨rfl,rfl⟩:la=a5∧lc=c5:=by simpa using e5
     refine hdq2.snoc (hm5.mono (by omega) nl) (fun z hz k hk hk2=>?_)
     have h1:=((HT.out.2.2.2.2.1.mine z hz).rowB hk).2
     have h2:=hov2.blk (hr5 k hk2)
     omega
    have HO2:Hid (OVq ((w2.alloc (Obj.cells #[.slice la ls.length lc,.int .i64 sn,.int .i64 sd] 37)).alloc (Obj.cells #[.slice la ls.length lc,.int .i64 sn,.int .i64 sd] 37)) (w.heap.size+3) (.slice oa ss.length oc) ss∧DeepQ ((w2.alloc (Obj.cells #[.slice la ls.length lc,.int .i64 sn,.int .i64 sd] 37)).alloc (Obj.cells #[.slice la ls.length lc,.int .i64 sn,.int .i64 sd] 37)) (w.heap.size+3) (ss++[⟨la,lc,ls,sn,sd⟩])):=⟨hoq2.below hA2,hdq3.below hA2⟩
    have HS2:Hid (SR w w2 w.heap.size (w.heap.size+1+1) (w.heap.size+1) rest2∧RD w2 w.heap.size (w.heap.size+1) x zs.length cx N p2∧Below w.heap.size w w2):=⟨hsr2,hrd2,HT.out.1.2.2.1.trans (hon2.below (by omega) (fun k hk=>by omega))⟩
    have HU2:Hid (uqE N (uq N V rest2 p2 [] 0 ((ss++[(⟨la,lc,ls,sn,sd⟩:Sq)]).map Sq.ct))=uqF N V ts):=by
     unfold Hid
     rw [←HT.out.2.1,hu2 (ss.map Sq.ct),List.map_append]
     rfl
    have HSM:Hid (Sml (ss++[⟨la,lc,ls,sn,sd⟩])):=HT.out.2.2.1.snoc ⟨hnd2.1,hnd2.2.1,hnd2.2.2.1,hnd2.2.2.2,by simp only;omega⟩
    have HSB:Hid (∀ z ∈ rest2,z ∈ ts):=fun z hz=>HT.out.2.2.2.2.2 z (hsub2 z hz)
    have HLN:Hid (rest2.length<rest.length∧p2≤N):=⟨hlen2.2,hp2⟩
    have hss3:ss.length≤300:=by omega
    have hln2:=hlen2.2
    clear hsr2 hrd2 hp2 hov2 hon2 hlen2 hnd2 hsub2 hu2 hA2 hoq2 hdq2 hdq3 HT
    go_wp2_with (at_builtin;(refine wpList_append_sq rfl (.tmp 30) (.tmp 32) rfl (w.heap.size+3) (.slice oa ss.length oc) ss rfl HO2.out.1 (w2.heap.size+1) 1 ⟨la,lc,ls,sn,sd⟩ rfl (by intro j u hj;have h9:=newsQ (w2.alloc (Obj.cells #[.slice la ls.length lc,.int .i64 sn,.int .i64 sd] 37)) la ls.length lc sn sd 37 ⟨la,lc,ls,sn,sd⟩ rfl rfl rfl rfl rfl j u hj;simpa using h9) (by omega) (by simp;omega) ?_);intro v4 w4 hown hgrow)
    have hA3:Below w2.heap.size w2 ((w2.alloc (Obj.cells #[.slice la ls.length lc,.int .i64 sn,.int .i64 sd] 37)).alloc (Obj.cells #[.slice la ls.length lc,.int .i64 sn,.int .i64 sd] 37)):=((Below.refl _ _).alloc nl _).alloc (by simp) _
    have hon4:Only (fun k=>w.heap.size+3≤k) w2 w4:=(Only.ofBelow (S:=fun k=>w.heap.size+3≤k) hA3 nl).grown hgrow (fun k hk=>.inl (HO2.out.1.blk hk).1)
    have HF4:Hid ((SR w w4 w.heap.size (w.heap.size+1+1) (w.heap.size+1) rest2∧RD w4 w.heap.size (w.heap.size+1) x zs.length cx N p2∧Below w.heap.size w w4∧w.heap.size+3≤w4.heap.size)∧OVq w4 (w.heap.size+3) v4 (ss++[⟨la,lc,ls,sn,sd⟩])∧DeepQ w4 (w.heap.size+3) (ss++[⟨la,lc,ls,sn,sd⟩])):=
     ⟨⟨HS2.out.1.only hon4 (by omega),HS2.out.2.1.only hon4 (by omega),HS2.out.2.2.trans (hon4.below (by omega) (fun k hk=>by omega)),by have:=hon4.size;omega⟩,hown,HO2.out.2.grown HO2.out.1 hgrow⟩
    obtain ⟨o4,c4,rfl⟩:=hown.form
    clear hown hgrow hA3 hon4 HO2 HS2
    go_roundw
    case rel=>exact ⟨rest2,p2,_,o4,c4,rfl,HF4.out.1,⟨HLN.out.2,by rw [List.length_append];simp;omega,HSB.out⟩,HU2.out,HSM.out,HF4.out.2.1,HF4.out.2.2⟩
    case measure=>rw [HF4.out.1.1.lenAt,HLA.out.1];exact HLN.out.1
   ·have HN:Hid (uqF N V ts=none):=by
     unfold Hid
     rw [←HT.out.2.1]
     exact hbad _
    have HB2:Hid (Below w.heap.size w w2):=HT.out.1.2.2.1.trans (hon2.below (by have:=HT.out.1.2.2.2;omega) (fun k hk=>by omega))
    clear HT HLA hbad hon2
    go_wp2
    exact bodyPost_ret (v:=.tuple #[.slice none 0 0,.iface T y]) (by simp [results,Tryz.results46,go_sem]) rfl (soR.no (by first | exact HB2.out | exact HB2.out.alloc (by have:=HB2.out.size;omega) _) HN.out)
def rep (b:List Int) (d:Nat):Nat→List Int
 | 0=>b
 | k+1=>rep b d k++[(rep b d k).getD ((rep b d k).length-d) 0]
theorem rep_len (b:List Int) (d k:Nat):(rep b d k).length=b.length+k:=by
 induction k with
 | zero=>rfl
 | succ k ih=>simp only [rep,List.length_append,ih,List.length_singleton];omega
def exb (ss:List Sq):Nat→List Int
 | 0=>[]
 | k+1=>rep (exb ss k++(ss.getD k dq).ls) (ss.getD k dq).d.toNat (ss.getD k dq).n.toNat
theorem stp_val {last:Bool} {m:Nat} {s:Sq} {m':Nat} (h:stp last m s=some m'):m'=m+s.ls.length+s.n.toNat∧0≤s.n∧m'≤64∧(0<s.n→1≤s.d∧s.d≤((m+s.ls.length:Nat):Int)):=by
 have hle:=stp_le h
 unfold stp at h
 split at h
 ·cases h
 ·split at h
  ·rename_i h0
   split at h
   ·simp only [Option.some.injEq] at h
    refine ⟨by rw [h0];simp;omega,by omega,hle,by omega⟩
   ·cases h
  ·split at h
   ·rename_i hq
    simp only [Option.some.injEq] at h
    exact ⟨by omega,by omega,hle,fun _=>⟨hq.2.2.1,hq.2.2.2⟩⟩
   ·cases h
theorem exb_len {ss:List Sq} {k m:Nat} (h:sqc ss k=some m):(exb ss k).length=m:=by
 induction k generalizing m with
 | zero=>simp [sqc] at h;simp [exb,←h]
 | succ k ih=>
  simp only [sqc,Option.bind_eq_some_iff] at h
  obtain ⟨m0,h1,h2⟩:=h
  simp only [exb,rep_len,List.length_append,ih h1]
  exact (stp_val h2).1.symm
structure SqAt (ss:List Sq) (k:Nat):Prop where
 hn:0≤(ss.getD k dq).n
 hl:(exb ss k).length+(ss.getD k dq).ls.length+(ss.getD k dq).n.toNat≤64
 hd:0<(ss.getD k dq).n→1≤(ss.getD k dq).d∧(ss.getD k dq).d≤(((exb ss k).length+(ss.getD k dq).ls.length:Nat):Int)
theorem sqn_at {ss:List Sq} {m:Nat} (h:sqn ss=some m):ss.length≤40∧m≤64∧(exb ss ss.length).length=m∧∀ k,k<ss.length→SqAt ss k:=by
 unfold sqn at h
 split at h
 ·cases h
 ·refine ⟨by omega,sqc_le h,exb_len h,fun k hk=>?_⟩
  cases h1:sqc ss (k+1) with
  | none=>rw [sqc_none h1 _ (by omega)] at h;cases h
  | some m1=>
   simp only [sqc,Option.bind_eq_some_iff] at h1
   obtain ⟨m0,g1,g2⟩:=h1
   obtain ⟨v1,v2,v3,v4⟩:=stp_val g2
   have e:=exb_len g1
   exact ⟨v2,by omega,fun h0=>by rw [e];exact v4 h0⟩
theorem exb_ct {ss ts:List Sq} (h:ss.map Sq.ct=ts.map Sq.ct) (k:Nat):exb ss k=exb ts k:=by
 induction k with
 | zero=>rfl
 | succ k ih=>
  have hg:(ss.getD k dq).ct=(ts.getD k dq).ct:=by
   have:(ss.map Sq.ct).getD k dq.ct=(ts.map Sq.ct).getD k dq.ct:=by rw [h]
   simpa [List.getD_eq_getElem?_getD,List.getElem?_map,Option.getD_map] using this
  simp only [Sq.ct,Prod.mk.injEq] at hg
  simp only [exb,ih,hg]
theorem implExec_any (a:Option Addr) (cap:Nat) (ss:List Sq) (w:World) (hb:Sqs w a ss) (hx:ss.length≤281474976710656) (hxl:∀ s ∈ ss,s.ls.length≤281474976710656) :
  Calls Tryz.prog 12 #[.slice a ss.length cap] w fun e w'=>(∃ v,e=.returned (.tuple #[v,.bool (sqn ss).isSome])∧OVB w' w.heap.size v (if (sqn ss).isSome then exb ss ss.length else []))∧Below w.heap.size w w':=by
 have HSB:=implSeqBytes_any a cap ss w hb hx hxl
 cases hs:sqn ss with
 | none=>
  rw [sqz_none hs] at HSB
  clear hs
  go_enter Tryz.func12,Tryz.ntmps12
  go_wp2_with fail
  refine HSB.mono ?_
  rintro e w1 ⟨rfl,hb1⟩
  clear HSB
  go_wp2
  exact bodyPost_ret (v:=.tuple #[.slice none 0 0,.bool false]) (by simp [results,Tryz.results12,go_sem]) rfl ⟨⟨_,rfl,OVB.nil _ _⟩,hb1⟩
 | some m=>
  rw [sqz_some hs] at HSB
  obtain ⟨i0,hi,hz0,hz1,hz2⟩:=info_parts Tryz.infoU8
  obtain ⟨h40,hm64,hel,hat⟩:=sqn_at hs
  have HSS:Hid (Sqs w a ss):=hb
  have HAT:Hid (∀ k,k<ss.length→SqAt ss k):=hat
  have HIF:Hid ((if (some m).isSome then exb ss ss.length else [])=exb ss ss.length):=rfl
  generalize (if (some m).isSome then exb ss ss.length else [])=R0 at *
  clear hb hat hs hel
  generalize hlen:ss.length=n at *
  have HL:Hid (ss.length=n):=hlen
  clear hlen
  go_enter Tryz.func12,Tryz.ntmps12
  go_wp2_with fail
  refine HSB.mono ?_
  rintro e w1 ⟨rfl,hb1⟩
  clear HSB
  have hsz1:=hb1.size
  go_wp2_with (at_make;refine wpList_make_own _ rfl _ _ 22 rfl w.heap.size 5 i0 (.int .u8 0) 1 Tryz.underlying22 hi hz0 hz1 .i64 .i64 _ m rfl rfl rfl (by rw [hz2];omega) (by unfold maxLen;omega) hsz1 ?_;intro w2 hown hgrow)
  have HOV0:Hid (OVB w2 w.heap.size (.slice (some ⟨w1.heap.size,0,none⟩) 0 m) (exb ss 0)):=⟨hown,by simp [exb]⟩
  have HB2:Hid (Below w.heap.size w w2):=hb1.grown hgrow hsz1 (by intro k hk;cases hk)
  clear hown hgrow hi hz0 hz1 hz2 hb1
  go_loopw [5,16] (fun x i wr=>∃ k:Nat,k≤n∧i=.int .i64 k∧OVB wr w.heap.size x (exb ss k)∧Below w.heap.size w wr) (fun _ i _=>n-(intOf i).toNat)
  case atStart=>exact ⟨0,Nat.zero_le _,rfl,HOV0.out,HB2.out⟩
  case round=>
   clear HOV0 HB2
   obtain ⟨k,hk,rfl,hov,hbel⟩:=hrel
   obtain ⟨ax,cx,rfl⟩:=hov.form
   have HOV:Hid (OVB wr w.heap.size (.slice ax (exb ss k).length cx) (exb ss k)):=hov
   clear hov
   by_cases hlt:k<n
   ·obtain ⟨b,off,rfl,hb1,hc1⟩:=(HSS.out.below hbel nl).len_pos k (by rw [HL.out];exact hlt)
    have hli:=hc1 k (by rw [HL.out];exact hlt)
    obtain ⟨q1,q2,q3⟩:=HAT.out k hlt
    have HEX:Hid (exb ss (k+1)=rep (exb ss k++(ss.getD k dq).ls) (ss.getD k dq).d.toNat (ss.getD k dq).n.toNat):=rfl
    clear hc1
    generalize ss.getD k dq=s at *
    obtain ⟨sa,sc,sl,sn,sd⟩:=s
    obtain ⟨c0,c1,c2,hby⟩:=hli
    simp only at c0 c1 c2 hby q1 q2 q3 HEX
    obtain ⟨N,rfl⟩:=Int.eq_ofNat_of_zero_le q1
    simp only [Int.toNat_natCast] at q2 HEX
    clear q1
    generalize hE:exb ss k=E at *
    generalize hEl:E.length=L at *
    have HEL:Hid (E.length=L):=hEl
    clear hEl hE
    have hsz:=hbel.size
    have HBA:Hid (Byt (wr.alloc (Obj.cells #[.slice sa sl.length sc,.int .i64 N,.int .i64 sd] 37)) sa sl):=hby.alloc _
    have HOA:Hid (OVB (wr.alloc (Obj.cells #[.slice sa sl.length sc,.int .i64 N,.int .i64 sd] 37)) w.heap.size (.slice ax L cx) E):=HOV.out.alloc _
    have HBW:Hid (Below w.heap.size w (wr.alloc (Obj.cells #[.slice sa sl.length sc,.int .i64 N,.int .i64 sd] 37))):=hbel.alloc hsz _
    have hza:w.heap.size≤(wr.alloc (Obj.cells #[.slice sa sl.length sc,.int .i64 N,.int .i64 sd] 37)).heap.size:=by simp;omega
    have HQ:Hid ((wr.alloc (Obj.cells #[.slice sa sl.length sc,.int .i64 N,.int .i64 sd] 37)).heap[wr.heap.size]?=some (.cells #[.slice sa sl.length sc,.int .i64 N,.int .i64 sd] 37 (0,0))):=heap_alloc_new wr _
    clear hby HOV
    go_wp2_with (at_builtin;(refine wpList_append_byt rfl (.tmp 20) (.tmp 22) rfl w.heap.size (.slice ax L cx) E rfl HOA.out sa sc sl rfl HBA.out (by have:=HEL.out;omega) hza ?_;intro v1 w1 hov1 hgr1;have e1:w1.cell? ⟨wr.heap.size,1,none⟩=some (.int .i64 N):=blk_cell (j:=1) (grown_blk hgr1 HQ.out (HOA.out.blk_ne HQ.out (by decide))) rfl))
    have HB1:Hid (Below w.heap.size w w1):=appB_below HBW.out hza HOA.out hgr1
    have hQ1:=grown_blk hgr1 HQ.out (HOA.out.blk_ne HQ.out (by decide))
    have HQ1:Hid (w1.heap[wr.heap.size]?=some (.cells #[.slice sa sl.length sc,.int .i64 N,.int .i64 sd] 37 (0,0))):=hQ1
    have HF:Hid (OVB w1 w.heap.size v1 (rep (E++sl) sd.toNat 0)):=hov1
    have HG:Hid ((E++sl).length=L+sl.length):=by unfold Hid;rw [List.length_append,HEL.out]
    clear hov1 hgr1 HBA HOA HBW HQ c0 c1 c2 hbel hsz hza hQ1
    generalize wr.heap.size=Q at *
    generalize E++sl=F at *
    generalize hLl:L+sl.length=M at *
    clear hLl
    clear e1
    go_loopw [5,26] (fun x i wi=>∃ j:Nat,j≤N∧i=.int .i64 j∧OVB wi w.heap.size x (rep F sd.toNat j)∧Below w.heap.size w wi∧wi.heap[Q]?=some (.cells #[.slice sa sl.length sc,.int .i64 N,.int .i64 sd] 37 (0,0))) (fun _ i _=>N-(intOf i).toNat)
    case atStart=>exact ⟨0,Nat.zero_le _,rfl,HF.out,HB1.out,HQ1.out⟩
    case round=>
     clear HF HB1 HQ1
     obtain ⟨j,hj,rfl,hov,hbel,hQ⟩:=hrel
     have hrl:=rep_len F sd.toNat j
     rw [HG.out] at hrl
     obtain ⟨au,cu,rfl⟩:=hov.form
     have HR1:Hid (rep F sd.toNat (j+1)=rep F sd.toNat j++[(rep F sd.toNat j).getD ((rep F sd.toNat j).length-sd.toNat) 0]):=rfl
     by_cases hjn:j<N
     ·obtain ⟨u1,u2⟩:=q3 (by omega)
      obtain ⟨D,rfl⟩:=Int.eq_ofNat_of_zero_le (show 0≤sd by omega)
      simp only [Int.toNat_natCast] at *
      have hix:M+j-D<(rep F D j).length:=by omega
      obtain ⟨b2,o2,rfl,hb2,hc2⟩:=hov.byt.len_pos (M+j-D) hix
      have hs2:=hc2 (M+j-D) hix
      have hzr:=getD_rng hov.2 (M+j-D)
      rw [hrl] at HR1
      have HOV:Hid (OVB wr w.heap.size (.slice (some ⟨b2,o2,none⟩) (M+j) cu) (rep F D j)):=by rw [←hrl];exact hov
      rw [hrl]
      have HRL:Hid ((rep F D j).length=M+j):=hrl
      have hP64:M+j≤64:=by omega
      generalize hix2:M+j-D=ix at *
      have hdi:ix<M+j:=by omega
      have HPJ:Hid ((((M+j:Nat):Nat):Int)-(D:Int)=(ix:Int)):=by unfold Hid;omega
      clear hix2 hc2 hov hrl hix
      generalize M+j=P at *
      have hdd:=HPJ.out
      clear HPJ
      generalize (rep F D j).getD ix 0=z at *
      generalize rep F D j=G at *
      have hsz:=hbel.size
      have d2:wr.cell? ⟨Q,2,none⟩=some (.int .i64 D):=blk_cell (j:=2) hQ rfl
      have HOA:Hid (OVB (wr.alloc (.cells #[.int .u8 z] 5)) w.heap.size (.slice (some ⟨b2,o2,none⟩) P cu) G):=HOV.out.alloc _
      have HB3:Hid (Below w.heap.size w (wr.alloc (.cells #[.int .u8 z] 5))):=hbel.alloc hsz _
      have HY1:Hid (Byt (wr.alloc (.cells #[.int .u8 z] 5)) (some ⟨wr.heap.size,0,none⟩) [z]):=byt_one wr z hzr
      have HQ3:Hid ((wr.alloc (.cells #[.int .u8 z] 5)).heap[Q]?=some (.cells #[.slice sa sl.length sc,.int .i64 N,.int .i64 D] 37 (0,0))):=(Below.heap_alloc _ _ _ (Array.getElem?_eq_some_iff.1 hQ).1).trans hQ
      have hza:w.heap.size≤(wr.alloc (Obj.cells #[.int .u8 z] 5)).heap.size:=by simp;omega
      clear HOV hbel hQ
      go_wp2_with (at_builtin;(refine wpList_append_byt rfl (.tmp 28) (.tmp 37) rfl w.heap.size (.slice (some ⟨b2,o2,none⟩) P cu) G rfl HOA.out (some ⟨wr.heap.size,0,none⟩) 1 [z] rfl HY1.out (by have:=HRL.out;simp;omega) hza ?_;intro v2 w2 hov2 hgr2))
      have HB4:Hid (Below w.heap.size w w2):=appB_below HB3.out hza HOA.out hgr2
      have HQ4:Hid (w2.heap[Q]?=some (.cells #[.slice sa sl.length sc,.int .i64 N,.int .i64 D] 37 (0,0))):=grown_blk hgr2 HQ3.out (HOA.out.blk_ne HQ3.out (by decide))
      have HO4:Hid (OVB w2 w.heap.size v2 (rep F D (j+1))):=by rw [HR1.out];exact hov2
      clear hov2 hgr2 HOA HY1 HQ3 HB3 d2 hza
      go_wp2
      go_roundw
      case rel=>exact ⟨j+1,by omega,by go_num,HO4.out,HB4.out,HQ4.out⟩
      case measure=>simp [intOf];omega
     ·have hje:j=N:=by omega
      subst hje
      have HO4:Hid (OVB wr w.heap.size (.slice au (rep F sd.toNat j).length cu) (exb ss (k+1))):=by rw [HEX.out];exact hov
      clear hov HR1
      go_wp2
      go_roundw
      case rel=>exact ⟨k+1,by omega,by go_num,HO4.out,hbel⟩
      case measure=>simp [intOf];omega
   ·have hkn:k=n:=by omega
    subst hkn
    go_wp2
    exact bodyPost_ret (v:=.tuple #[.slice ax (exb ss k).length cx,.bool true]) (by simp [results,Tryz.results12,go_sem]) rfl ⟨⟨_,rfl,by rw [HIF.out];exact HOV.out⟩,hbel⟩
end Go.Proofs.YtfeokafkhnbdiaaGreatDoor
