/- Lemmas on the way. -/
import Derived.Test.YtfeokafkhnbdiaaGreatDoorSqX0
import Derived.Test.YtfeokafkhnbdiaaGreatDoorUs3
import Derived.Test.YtfeokafkhnbdiaaGreatDoorLvC
import Derived.Laws.Bits64b
import Derived.Test.YtfeokafkhnbdiaaGreatDoorWidth
import Derived.Lib.MakeNoZero
import Derived.Laws.CopyOwn
import Derived.Deep.RegionLaw
set_option maxRecDepth 20000
set_option maxHeartbeats 16000000
namespace Go.Proofs.YtfeokafkhnbdiaaGreatDoor
open Go.RowKit
set_option linter.unusedVariables false
theorem implExec_any (a:Option Addr) (cap:Nat) (ss:List Sq) (w:World) (hb:Sqs w a ss) (hx:ss.length≤281474976710656) (hxl:∀ s ∈ ss,s.ls.length≤281474976710656) :
  Calls Tryz.prog 12 #[.slice a ss.length cap] w fun e w'=>(∃ v,e=.returned (.tuple #[v,.bool (sqn ss).isSome])∧OVB w' w.heap.size v (if (sqn ss).isSome then exb ss ss.length else []))∧Below w.heap.size w w':=by
 have HSB:=implSeqBytes_any a cap ss w hb hx hxl
 cases hs:sqn ss with
 | none=>
  rw [sqz_none hs] at HSB
  clear hs
  go_enter Tryz.func12,Tryz.ntmps12
  go_wp2_with fail
  refine HSB.mono ?_
  rintro e w1 ⟨rfl,hb1⟩
  clear HSB
  go_wp2
  exact bodyPost_ret (v:=.tuple #[.slice none 0 0,.bool false]) (by simp [results,Tryz.results12,go_sem]) rfl ⟨⟨_,rfl,OVB.nil _ _⟩,hb1⟩
 | some m=>
  rw [sqz_some hs] at HSB
  obtain ⟨i0,hi,hz0,hz1,hz2⟩:=info_parts Tryz.infoU8
  obtain ⟨h40,hm64,hel,hat⟩:=sqn_at hs
  have HSS:Hid (Sqs w a ss):=hb
  have HAT:Hid (∀ k,k<ss.length→SqAt ss k):=hat
  have HIF:Hid ((if (some m).isSome then exb ss ss.length else [])=exb ss ss.length):=rfl
  generalize (if (some m).isSome then exb ss ss.length else [])=R0 at *
  clear hb hat hs hel
  generalize hlen:ss.length=n at *
  have HL:Hid (ss.length=n):=hlen
  clear hlen
  go_enter Tryz.func12,Tryz.ntmps12
  go_wp2_with fail
  refine HSB.mono ?_
  rintro e w1 ⟨rfl,hb1⟩
  clear HSB
  have hsz1:=hb1.size
  go_wp2_with (at_make;refine wpList_make_own _ rfl _ _ 22 rfl w.heap.size 5 i0 (.int .u8 0) 1 Tryz.underlying22 hi hz0 hz1 .i64 .i64 _ m rfl rfl rfl (by rw [hz2];omega) (by unfold maxLen;omega) hsz1 ?_;intro w2 hown hgrow)
  have HOV0:Hid (OVB w2 w.heap.size (.slice (some ⟨w1.heap.size,0,none⟩) 0 m) (exb ss 0)):=⟨hown,by simp [exb]⟩
  have HB2:Hid (Below w.heap.size w w2):=hb1.grown hgrow hsz1 (by intro k hk;cases hk)
  clear hown hgrow hi hz0 hz1 hz2 hb1
  go_loopw [5,16] (fun x i wr=>∃ k:Nat,k≤n∧i=.int .i64 k∧OVB wr w.heap.size x (exb ss k)∧Below w.heap.size w wr) (fun _ i _=>n-(intOf i).toNat)
  case atStart=>exact ⟨0,Nat.zero_le _,rfl,HOV0.out,HB2.out⟩
  case round=>
   clear HOV0 HB2
   obtain ⟨k,hk,rfl,hov,hbel⟩:=hrel
   obtain ⟨ax,cx,rfl⟩:=hov.form
   have HOV:Hid (OVB wr w.heap.size (.slice ax (exb ss k).length cx) (exb ss k)):=hov
   clear hov
   by_cases hlt:k<n
   ·obtain ⟨b,off,rfl,hb1,hc1⟩:=(HSS.out.below hbel nl).len_pos k (by rw [HL.out];exact hlt)
    have hli:=hc1 k (by rw [HL.out];exact hlt)
    obtain ⟨q1,q2,q3⟩:=HAT.out k hlt
    have HEX:Hid (exb ss (k+1)=rep (exb ss k++(ss.getD k dq).ls) (ss.getD k dq).d.toNat (ss.getD k dq).n.toNat):=rfl
    clear hc1
    generalize ss.getD k dq=s at *
    obtain ⟨sa,sc,sl,sn,sd⟩:=s
    obtain ⟨c0,c1,c2,hby⟩:=hli
    simp only at c0 c1 c2 hby q1 q2 q3 HEX
    obtain ⟨N,rfl⟩:=Int.eq_ofNat_of_zero_le q1
    simp only [Int.toNat_natCast] at q2 HEX
    clear q1
    generalize hE:exb ss k=E at *
    generalize hEl:E.length=L at *
    have HEL:Hid (E.length=L):=hEl
    clear hEl hE
    have hsz:=hbel.size
    have HBA:Hid (Byt (wr.alloc (Obj.cells #[.slice sa sl.length sc,.int .i64 N,.int .i64 sd] 37)) sa sl):=hby.alloc _
    have HOA:Hid (OVB (wr.alloc (Obj.cells #[.slice sa sl.length sc,.int .i64 N,.int .i64 sd] 37)) w.heap.size (.slice ax L cx) E):=HOV.out.alloc _
    have HBW:Hid (Below w.heap.size w (wr.alloc (Obj.cells #[.slice sa sl.length sc,.int .i64 N,.int .i64 sd] 37))):=hbel.alloc hsz _
    have hza:w.heap.size≤(wr.alloc (Obj.cells #[.slice sa sl.length sc,.int .i64 N,.int .i64 sd] 37)).heap.size:=by simp;omega
    have HQ:Hid ((wr.alloc (Obj.cells #[.slice sa sl.length sc,.int .i64 N,.int .i64 sd] 37)).heap[wr.heap.size]?=some (.cells #[.slice sa sl.length sc,.int .i64 N,.int .i64 sd] 37 (0,0))):=heap_alloc_new wr _
    clear hby HOV
    go_wp2_with (at_builtin;(refine wpList_append_byt rfl (.tmp 20) (.tmp 22) rfl w.heap.size (.slice ax L cx) E rfl HOA.out sa sc sl rfl HBA.out (by have:=HEL.out;omega) hza ?_;intro v1 w1 hov1 hgr1;have e1:w1.cell? ⟨wr.heap.size,1,none⟩=some (.int .i64 N):=blk_cell (j:=1) (grown_blk hgr1 HQ.out (HOA.out.blk_ne HQ.out (by decide))) rfl))
    have HB1:Hid (Below w.heap.size w w1):=appB_below HBW.out hza HOA.out hgr1
    have hQ1:=grown_blk hgr1 HQ.out (HOA.out.blk_ne HQ.out (by decide))
    have HQ1:Hid (w1.heap[wr.heap.size]?=some (.cells #[.slice sa sl.length sc,.int .i64 N,.int .i64 sd] 37 (0,0))):=hQ1
    have HF:Hid (OVB w1 w.heap.size v1 (rep (E++sl) sd.toNat 0)):=hov1
    have HG:Hid ((E++sl).length=L+sl.length):=by unfold Hid;rw [List.length_append,HEL.out]
    clear hov1 hgr1 HBA HOA HBW HQ c0 c1 c2 hbel hsz hza hQ1
    generalize wr.heap.size=Q at *
    generalize E++sl=F at *
    generalize hLl:L+sl.length=M at *
    clear hLl
    clear e1
    go_loopw [5,26] (fun x i wi=>∃ j:Nat,j≤N∧i=.int .i64 j∧OVB wi w.heap.size x (rep F sd.toNat j)∧Below w.heap.size w wi∧wi.heap[Q]?=some (.cells #[.slice sa sl.length sc,.int .i64 N,.int .i64 sd] 37 (0,0))) (fun _ i _=>N-(intOf i).toNat)
    case atStart=>exact ⟨0,Nat.zero_le _,rfl,HF.out,HB1.out,HQ1.out⟩
    case round=>
     clear HF HB1 HQ1
     obtain ⟨j,hj,rfl,hov,hbel,hQ⟩:=hrel
     have hrl:=rep_len F sd.toNat j
     rw [HG.out] at hrl
     obtain ⟨au,cu,rfl⟩:=hov.form
     have HR1:Hid (rep F sd.toNat (j+1)=rep F sd.toNat j++[(rep F sd.toNat j).getD ((rep F sd.toNat j).length-sd.toNat) 0]):=rfl
     by_cases hjn:j<N
     ·obtain ⟨u1,u2⟩:=q3 (by omega)
      obtain ⟨D,rfl⟩:=Int.eq_ofNat_of_zero_le (show 0≤sd by omega)
      simp only [Int.toNat_natCast] at *
      have hix:M+j-D<(rep F D j).length:=by omega
      obtain ⟨b2,o2,rfl,hb2,hc2⟩:=hov.byt.len_pos (M+j-D) hix
      have hs2:=hc2 (M+j-D) hix
      have hzr:=getD_rng hov.2 (M+j-D)
      rw [hrl] at HR1
      have HOV:Hid (OVB wr w.heap.size (.slice (some ⟨b2,o2,none⟩) (M+j) cu) (rep F D j)):=by rw [←hrl];exact hov
      rw [hrl]
      have HRL:Hid ((rep F D j).length=M+j):=hrl
      have hP64:M+j≤64:=by omega
      generalize hix2:M+j-D=ix at *
      have hdi:ix<M+j:=by omega
      have HPJ:Hid ((((M+j:Nat):Nat):Int)-(D:Int)=(ix:Int)):=by unfold Hid;omega
      clear hix2 hc2 hov hrl hix
      generalize M+j=P at *
      have hdd:=HPJ.out
      clear HPJ
      generalize (rep F D j).getD ix 0=z at *
      generalize rep F D j=G at *
      have hsz:=hbel.size
      have d2:wr.cell? ⟨Q,2,none⟩=some (.int .i64 D):=blk_cell (j:=2) hQ rfl
      have HOA:Hid (OVB (wr.alloc (.cells #[.int .u8 z] 5)) w.heap.size (.slice (some ⟨b2,o2,none⟩) P cu) G):=HOV.out.alloc _
      have HB3:Hid (Below w.heap.size w (wr.alloc (.cells #[.int .u8 z] 5))):=hbel.alloc hsz _
      have HY1:Hid (Byt (wr.alloc (.cells #[.int .u8 z] 5)) (some ⟨wr.heap.size,0,none⟩) [z]):=byt_one wr z hzr
      have HQ3:Hid ((wr.alloc (.cells #[.int .u8 z] 5)).heap[Q]?=some (.cells #[.slice sa sl.length sc,.int .i64 N,.int .i64 D] 37 (0,0))):=(Below.heap_alloc _ _ _ (Array.getElem?_eq_some_iff.1 hQ).1).trans hQ
      have hza:w.heap.size≤(wr.alloc (Obj.cells #[.int .u8 z] 5)).heap.size:=by simp;omega
      clear HOV hbel hQ
      go_wp2_with (at_builtin;(refine wpList_append_byt rfl (.tmp 28) (.tmp 37) rfl w.heap.size (.slice (some ⟨b2,o2,none⟩) P cu) G rfl HOA.out (some ⟨wr.heap.size,0,none⟩) 1 [z] rfl HY1.out (by have:=HRL.out;simp;omega) hza ?_;intro v2 w2 hov2 hgr2))
      have HB4:Hid (Below w.heap.size w w2):=appB_below HB3.out hza HOA.out hgr2
      have HQ4:Hid (w2.heap[Q]?=some (.cells #[.slice sa sl.length sc,.int .i64 N,.int .i64 D] 37 (0,0))):=grown_blk hgr2 HQ3.out (HOA.out.blk_ne HQ3.out (by decide))
      have HO4:Hid (OVB w2 w.heap.size v2 (rep F D (j+1))):=by rw [HR1.out];exact hov2
      clear hov2 hgr2 HOA HY1 HQ3 HB3 d2 hza
      go_wp2
      go_roundw
      case rel=>exact ⟨j+1,by omega,by go_num,HO4.out,HB4.out,HQ4.out⟩
      case measure=>simp [intOf];omega
     ·have hje:j=N:=by omega
      subst hje
      have HO4:Hid (OVB wr w.heap.size (.slice au (rep F sd.toNat j).length cu) (exb ss (k+1))):=by rw [HEX.out];exact hov
      clear hov HR1
      go_wp2
      go_roundw
      case rel=>exact ⟨k+1,by omega,by go_num,HO4.out,hbel⟩
      case measure=>simp [intOf];omega
   ·have hkn:k=n:=by omega
    subst hkn
    go_wp2
    exact bodyPost_ret (v:=.tuple #[.slice ax (exb ss k).length cx,.bool true]) (by simp [results,Tryz.results12,go_sem]) rfl ⟨⟨_,rfl,by rw [HIF.out];exact HOV.out⟩,hbel⟩
set_option linter.unusedSimpArgs false
def OsY (n V m:Nat) (bs:List Int):Prop:=∃ ts M U ss,RdS n V m ts M U∧uqF M U ts=some (ss.map Sq.ct)∧(sqn ss).isSome=true∧exb ss ss.length=bs
theorem OsY.unique {n V m:Nat} {bs bs':List Int} (h:OsY n V m bs) (h':OsY n V m bs'):bs=bs':=by
 obtain ⟨ts,M,U,ss,h1,h2,h3,rfl⟩:=h
 obtain ⟨ts',M',U',ss',h1',h2',h3',rfl⟩:=h'
 obtain ⟨rfl,rfl,rfl⟩:=h1.unique h1'
 rw [h2] at h2'
 have hc:ss.map Sq.ct=ss'.map Sq.ct:=by simpa using h2'
 have hl:ss.length=ss'.length:=by have:=congrArg List.length hc;simpa using this
 rw [exb_ct hc,hl]
theorem openedSymbols_ok (m:Nat) (a:Option Addr) (cap:Nat) (zs:List Int) (n V:Nat) (w:World) (hm:m≤255) (hn:n≤4096) (hS:SentD w)
  (hO:Calls Tryz.prog 105 #[.slice a zs.length cap] w fun e w'=>∃ a' cp,e=.returned (.tuple #[.agg #[.slice a' (enc n V).length cp,.int .i64 (n:Nat)],.bool true])∧Mine w' w.heap.size w'.heap.size a' cp (enc n V)∧Below w.heap.size w w') :
  Calls Tryz.prog 89 #[.int .i64 m,.slice a zs.length cap] w fun e w'=>Below w.heap.size w w' ∧
   ((∃ bs v,OsY n V m bs∧OVB w' w.heap.size v bs∧e=.returned (.tuple #[v,.nilIface]))∨((¬∃ bs,OsY n V m bs)∧∃ T x v,e=.returned (.tuple #[v,.iface T x]))):=by
 have HS:Hid (SentD w):=hS
 clear hS
 go_enter Tryz.func89,Tryz.ntmps89
 go_wp2_with fail
 refine hO.mono ?_
 clear hO
 rintro e w1 ⟨a1,c1,rfl,hm1,hb1⟩
 obtain ⟨es,hes⟩:∃ es,es=enc n V:=⟨_,rfl⟩
 rw [←hes] at hm1 ⊢
 have HES:Hid (es=enc n V):=hes
 clear hes
 obtain ⟨w2,hw2⟩:∃ w2,w2=w1.alloc (Obj.cells #[.slice a1 es.length c1,.int .i64 (n:Nat)] 40):=⟨_,rfl⟩
 have hz2:w2.heap.size=w1.heap.size+1:=by rw [hw2];simp
 have hb12:Below w1.heap.size w1 w2:=by rw [hw2];exact (Below.refl _ _).alloc nl _
 have hbz2:Byt w2 a1 es:=(hm1.below hb12).byt
 have hb2:Below w.heap.size w w2:=hb1.trans (hb12.mono hb1.size)
 have hS2:SentD w2:=HS.out.below hb2
 have hr3:RD (w2.alloc (Obj.cells #[.slice a1 es.length c1,.int .i64 (n:Nat),.int .i64 0] 109)) w2.heap.size w2.heap.size a1 es.length c1 n 0:=⟨heap_alloc_new w2 _,Nat.le_refl _,by simp⟩
 have hb3:Below w2.heap.size w2 (w2.alloc (Obj.cells #[.slice a1 es.length c1,.int .i64 (n:Nat),.int .i64 0] 109)):=bAw
 have HGS:=getSymbols_any w2.heap.size w2.heap.size a1 c1 es n V m w2 _ hbz2 rfl hb3 HES.out hn hr3 hm hS2
 have HB:Hid (Below w.heap.size w w2∧Below w2.heap.size w2 (w2.alloc (Obj.cells #[.slice a1 es.length c1,.int .i64 (n:Nat),.int .i64 0] 109))∧w.heap.size≤w2.heap.size∧SentD w2):=⟨hb2,hb3,hb2.size,hS2⟩
 have hc0:w2.cell? ⟨w1.heap.size,0,none⟩=some (.slice a1 es.length c1):=by rw [hw2];simp
 have hc1:w2.cell? ⟨w1.heap.size,1,none⟩=some (.int .i64 (n:Nat)):=by rw [hw2];simp
 clear hb12 hbz2 hb2 hS2 hr3 hb3 hm1 hb1
 have HW2:Hid (w2=w1.alloc (Obj.cells #[.slice a1 es.length c1,.int .i64 (n:Nat)] 40)):=hw2
 clear hw2
 go_wp2_with fail
 rw [←HW2.out,←hz2]
 refine HGS.mono ?_
 clear HGS HW2 hc0 hc1
 obtain ⟨w3,hw3⟩:∃ w3,w3=w2.alloc (Obj.cells #[.slice a1 es.length c1,.int .i64 (n:Nat),.int .i64 0] 109):=⟨_,rfl⟩
 rw [←hw3] at HB ⊢
 have z3:w2.heap.size<w3.heap.size:=by rw [hw3];simp
 clear hw3
 have hww:=HB.out.2.2.1
 rintro e w4 ⟨ho4,⟨ts,M,U,g,a4,c4,hrs,how,hm4,rfl⟩ | ⟨hno,T,x,v,z,l,c,M,rfl⟩⟩
 ·have hb4:Below w2.heap.size w2 w4:=HB.out.2.1.trans (ho4.below (by omega) (fun k hk=>by omega))
  obtain ⟨hrng,hlen⟩:=hrs.rng
  have hMn:=hrs.le
  have hN8:bt V 0 8<256:=bt_lt V 0 8
  obtain ⟨xs,hxs⟩:∃ xs,xs=enc M U:=⟨_,rfl⟩
  rw [←hxs] at hm4 ⊢
  rw [←hlen] at how hN8 ⊢
  have hb5:Below w2.heap.size w2 (w4.alloc (Obj.cells #[.slice a4 xs.length c4,.int .i64 (M:Nat)] 40)):=hb4.alloc (by have:=ho4.size;omega) _
  have hS5:=HB.out.2.2.2.below hb5
  have hG1:=hS5.hG
  have hG2:=hS5.f.hG
  have HSO:=seqsOf_any (some ⟨g,0,none⟩) ts.length ts a4 c4 xs M U _ ((how.alloc _).byt) ((hm4.below ((Below.refl _ _).alloc nl (Obj.cells #[.slice a4 xs.length c4,.int .i64 (M:Nat)] 40))).byt) hxs (by omega) hrng (by omega) nl hS5.f.s0 hS5.f.s1 hS5.s6 hS5.s7 hS5.s8 (by omega)
  have z45:w4.heap.size<(w4.alloc (Obj.cells #[.slice a4 xs.length c4,.int .i64 (M:Nat)] 40)).heap.size:=by simp
  have HB5:Hid (Below w.heap.size w (w4.alloc (Obj.cells #[.slice a4 xs.length c4,.int .i64 (M:Nat)] 40))∧SentD (w4.alloc (Obj.cells #[.slice a4 xs.length c4,.int .i64 (M:Nat)] 40))):=⟨HB.out.1.trans (hb5.mono hww),hS5⟩
  have HRS:Hid (RdS n V m ts M U∧xs=enc M U):=⟨hrs,hxs⟩
  clear hb4 hb5 hS5 hrs how hm4 ho4 hrng hxs HB hlen
  go_wp2_with fail
  refine HSO.mono ?_
  clear HSO
  obtain ⟨w5,hw5⟩:∃ w5,w5=w4.alloc (Obj.cells #[.slice a4 xs.length c4,.int .i64 (M:Nat)] 40):=⟨_,rfl⟩
  rw [←hw5] at HB5 ⊢
  clear hw5 z45
  rintro e w6 ⟨hb6,hy6,hn6⟩
  have HB6:Hid (Below w.heap.size w w6∧w.heap.size≤w5.heap.size):=⟨HB5.out.1.trans (hb6.mono HB5.out.1.size),HB5.out.1.size⟩
  have HS6:Hid (SentD w6):=HB5.out.2.below hb6
  cases hu:uqF M U ts with
  | none=>
   obtain ⟨T,y,u,rfl⟩:=hn6 hu
   have HNO:Hid (¬∃ bs,OsY n V m bs):=by
    rintro ⟨bs,ts',M',U',ss,h1,h2,-⟩
    obtain ⟨rfl,rfl,rfl⟩:=HRS.out.1.unique h1
    rw [hu] at h2
    cases h2
   clear hy6 hn6 hu hb6
   go_wp2
   exact bodyPost_ret (v:=.tuple #[.slice none 0 0,.iface T y]) (by simp [results,Tryz.results89,go_sem]) rfl ⟨HB6.out.1,.inr ⟨HNO.out,_,_,_,rfl⟩⟩
  | some cs=>
   obtain ⟨v6,ss,⟨hct,hov,hdq,hsm,hsl⟩,hyes,hnot⟩:=hy6 cs hu
   by_cases hso:(sqn ss).isSome=true
   ·obtain rfl:=hyes hso
    obtain ⟨a6,c6,rfl⟩:=hov.form
    have hsq:Sqs w6 a6 ss:=hov.sqs (fun z hz=>⟨hsm.rng z hz,hdq.byt hz⟩)
    have HEX:=implExec_any a6 c6 ss w6 hsq (by omega) (fun z hz=>by have:=hsm z hz;omega)
    rw [hso,if_pos rfl] at HEX
    have HOY:Hid (OsY n V m (exb ss ss.length)):=⟨ts,M,U,ss,HRS.out.1,by rw [hu,hct],hso,rfl⟩
    have z6:=HB6.out.1.size
    clear hy6 hn6 hu hb6 hyes hnot hov hdq hsm hct hsq hso
    go_wp2_with fail
    refine HEX.mono ?_
    clear HEX
    rintro e w7 ⟨⟨v7,rfl,hv7⟩,hb7⟩
    have HF:Hid (Below w.heap.size w w7∧OVB w7 w6.heap.size v7 (exb ss ss.length)):=⟨HB6.out.1.trans (hb7.mono z6),hv7⟩
    clear hb7 hv7
    go_wp2
    refine bodyPost_ret (v:=.tuple #[v7,.nilIface]) (by simp [results,Tryz.results89,go_sem]) rfl ⟨HF.out.1,.inl ⟨_,_,HOY.out,?_,rfl⟩⟩
    refine ⟨⟨HF.out.2.1.1,?_⟩,HF.out.2.2⟩
    rcases HF.out.2.1.2 with h | ⟨g',cap',cur,he,hg,r⟩
    ·exact .inl h
    ·exact .inr ⟨g',cap',cur,he,by omega,r⟩
   ·have hsf:(sqn ss).isSome=false:=by simpa using hso
    obtain ⟨T,y,u,rfl⟩:=hnot hsf
    have HNO:Hid (¬∃ bs,OsY n V m bs):=by
     rintro ⟨bs,ts',M',U',ss',h1,h2,h3,-⟩
     obtain ⟨rfl,rfl,rfl⟩:=HRS.out.1.unique h1
     rw [hu] at h2
     have hc:ss.map Sq.ct=ss'.map Sq.ct:=by rw [hct];simpa using h2
     rw [sqn_ct hc] at hso
     exact hso h3
    clear hy6 hn6 hu hb6 hyes hnot hov hdq hsm hct hso hsf
    go_wp2
    exact bodyPost_ret (v:=.tuple #[.slice none 0 0,.iface T y]) (by simp [results,Tryz.results89,go_sem]) rfl ⟨HB6.out.1,.inr ⟨HNO.out,_,_,_,rfl⟩⟩
 ·have HNO:Hid (¬∃ bs,OsY n V m bs):=fun ⟨bs,ts,M,U,ss,h1,_⟩=>hno ⟨ts,M,U,h1⟩
  have HB4:Hid (Below w.heap.size w w4∧w.heap.size≤w4.heap.size):=⟨HB.out.1.trans ((HB.out.2.1.trans (ho4.below (by omega) (fun k hk=>by omega))).mono hww),by have:=ho4.size;omega⟩
  clear hno ho4 HB
  go_wp2
  exact bodyPost_ret (v:=.tuple #[.slice none 0 0,.iface T x]) (by simp [results,Tryz.results89,go_sem]) rfl ⟨HB4.out.1.alloc HB4.out.2 _,.inr ⟨HNO.out,_,_,_,rfl⟩⟩
theorem openedSymbols_no (m:Nat) (a:Option Addr) (cap:Nat) (zs:List Int) (w:World) (hs:Sent w 10) (hlt:10<w.heap.size)
  (hO:Calls Tryz.prog 105 #[.slice a zs.length cap] w fun e w'=>e=.returned (.tuple #[.agg #[.slice none 0 0,.int .i64 0],.bool false])∧Below w.heap.size w w') :
  Calls Tryz.prog 89 #[.int .i64 m,.slice a zs.length cap] w fun e w'=>Below w.heap.size w w'∧∃ T x v,e=.returned (.tuple #[v,.iface T x]):=by
 obtain ⟨T,x,hc⟩:=hs
 go_enter Tryz.func89,Tryz.ntmps89
 go_wp2_with fail
 refine hO.mono ?_
 clear hO
 rintro e w1 ⟨rfl,hb1⟩
 have hc1:=keep hb1 hlt hc
 have HB:Hid (Below w.heap.size w w1):=hb1
 have hz:=hb1.size
 have hl1:10<w1.heap.size:=by omega
 clear hb1 hc
 go_wp2
 go_quiet (fail)
 go_wp2
 refine bodyPost_ret (v:=.tuple #[.slice none 0 0,.iface T x]) (by simp [results,Tryz.results89,go_sem]) rfl ⟨?_,_,_,_,rfl⟩
 have hbb:=HB.out
 repeat (first | exact hbb | refine below_drewN ?_ _ | refine Below.drew ?_ | refine Below.alloc ?_ (by first | exact hz | (simp;omega)) _)
theorem mul64_small (k:Nat) (hk:k≤64) (w:World) :
  Calls Tryz.prog 133 #[.int .u64 k,.int .u64 64] w fun e w'=>e=.returned (.tuple #[.int .u64 0,.int .u64 ((k*64:Nat):Int)])∧w'=w:=by
 have e1:bits .and .u64 (k:Int) 4294967295=(k:Int):=by
  have h:=bits_and_u64_nat k 4294967295 (by omega) (by omega)
  have e:k &&& 4294967295=k % 4294967296:=Nat.and_two_pow_sub_one_eq_mod k 32
  rw [e,Nat.mod_eq_of_lt (by omega)] at h
  exact h
 have e2:bits .and .u64 64 4294967295=64:=by rfl
 have e3:(k:Int) / 4294967296=0:=by omega
 have e4:IntKind.u64.wrap ((k:Int)*64)=(k:Int)*64:=by rw [IntKind.wrap_u64];omega
 have e5:((k:Int)*64) / 4294967296=0:=by omega
 have e6:bits .and .u64 0 4294967295=0:=by rfl
 go_enter Tryz.func133,Tryz.ntmps133
 go_wp2
 go_ret2
 exact ⟨by simp [e1,e2,e3,e4,e5,e6],rfl⟩
theorem mul_small (k:Nat) (hk:k≤64) (w:World) :
  Calls Tryz.prog 103 #[.int .u64 k,.int .u64 64] w fun e w'=>e=.returned (.tuple #[.int .u64 0,.int .u64 ((k*64:Nat):Int)])∧w'=w:=by
 have c64:=mul64_small k hk w
 go_enter Tryz.func103,Tryz.ntmps103
 go_wp2_with fail
 refine c64.mono ?_
 rintro e w' ⟨rfl,rfl⟩
 go_wp2
 go_ret2
 exact ⟨rfl,rfl⟩
def dbl (zs:List Int):Nat→List Int
 | 0=>zs
 | i+1=>dbl zs i++dbl zs i
theorem dbl_len (zs:List Int):∀ i,(dbl zs i).length=zs.length*2 ^ i
 | 0=>by simp [dbl]
 | i+1=>by
  rw [dbl,List.length_append,dbl_len zs i,Nat.pow_succ,←Nat.mul_assoc,Nat.mul_two]
theorem dbl_mem (zs:List Int):∀ i,∀ z ∈ dbl zs i,z ∈ zs
 | 0,z,h=>h
 | i+1,z,h=>by
  simp only [dbl,List.mem_append,or_self] at h
  exact dbl_mem zs i z h
def Buf8 (w wr:World) (g M:Nat) (Z:List Int):Prop:=
 ∃ cur:List Value,wr.heap[g]?=some (.cells cur.toArray 5 (0,0))∧M≤cur.length∧cur.take Z.length=Z.map (Value.int .u8)∧Z.length≤M∧Below g w wr
theorem splice_take {cur:List Value} {Z Y:List Int} (h:cur.take Z.length=Z.map (Value.int .u8)) (hl:Z.length+Y.length≤cur.length) :
  (splice cur Z.length (Y.map (Value.int .u8))).take (Z++Y).length=(Z++Y).map (Value.int .u8)∧(splice cur Z.length (Y.map (Value.int .u8))).length=cur.length:=by
 unfold splice
 rw [h]
 constructor
 ·rw [←List.append_assoc,←List.map_append]
  rw [List.take_left' (by simp)]
 ·simp
  omega
theorem Buf8.cells {w wr:World} {g M:Nat} {Z:List Int} (h:Buf8 w wr g M Z):∀ i,i<Z.length→wr.cell? ⟨g,i,none⟩=some (.int .u8 (Z.getD i 0)):=by
 obtain ⟨cur,hg,hM,ht,hl,_⟩:=h
 intro i hi
 have h1:cur[i]?=some (.int .u8 (Z.getD i 0)):=by
  have:=congrArg (·[i]?) ht
  simp only [List.getElem?_take,if_pos hi,List.getElem?_map] at this
  rw [this]
  simp [List.getD,List.getElem?_eq_getElem hi]
 simp [World.cell?,hg,h1]
theorem Buf8.byt {w wr:World} {g M:Nat} {Z:List Int} (h:Buf8 w wr g M Z) (hr:∀ z ∈ Z,0≤z∧z≤255):Byt wr (some ⟨g,0,none⟩) Z:=by
 refine ⟨hr,fun hp=>⟨g,0,rfl,?_,fun i hi=>by rw [Nat.zero_add];exact h.cells i hi⟩⟩
 obtain ⟨cur,hg,_⟩:=h
 exact (Array.getElem?_eq_some_iff.1 hg).1
theorem dbl_step {k L N i:Nat} (hi:i≤6) (hL:L=k*2 ^ i) (hN:k*64=N) (h1:1≤k) (hlt:L<N):i<6∧L+L≤N∧1≤L:=by
 obtain rfl | rfl | rfl | rfl | rfl | rfl | rfl:i=0∨i=1∨i=2∨i=3∨i=4∨i=5∨i=6:=by omega
 all_goals
  simp at hL
  omega
theorem dbl_end {k L N i:Nat} (hi:i≤6) (hL:L=k*2 ^ i) (hN:k*64=N) (h1:1≤k) (hlt:¬L<N):i=6:=by
 obtain rfl | rfl | rfl | rfl | rfl | rfl | rfl:i=0∨i=1∨i=2∨i=3∨i=4∨i=5∨i=6:=by omega
 all_goals
  simp at hL
  omega
theorem repeat_any (a:Option Addr) (cap:Nat) (zs:List Int) (w:World) (hb:Byt w a zs) (h1:1≤zs.length) (h2:zs.length≤64) :
  Calls Tryz.prog 88 #[.slice a zs.length cap,.int .i64 64] w fun e w'=>(∃ a' c,e=.returned (.slice a' (dbl zs 6).length c)∧Byt w' a' (dbl zs 6))∧Below w.heap.size w w':=by
 obtain ⟨i0,hi,hz0,hz1,hz2⟩:=info_parts Tryz.infoU8
 have hsz:(Tryz.prog.info? 5).map (·.size)=some 1:=by rw [hi];simp [hz1]
 have HONE:Hid (∀ zs:List Int,∀ u ∈ zs.map (Value.int .u8),u.oneCell'=true):=oneCells
 have HR:Hid (∀ z ∈ zs,0≤z∧z≤255):=hb.1
 have HSRC:Hid (∀ W:World,(∀ b o,b<w.heap.size→W.cell? ⟨b,o,none⟩=w.cell? ⟨b,o,none⟩)→0<(zs.map (Value.int .u8)).length→∃ ad,a=some ad∧∀ j u,(zs.map (Value.int .u8))[j]?=some u→W.cell? (ad.add j)=some u):=by
  intro W hW hp
  obtain ⟨b,off,rfl,hbl,hc⟩:=hb.2 (by simpa using hp)
  exact ⟨_,rfl,news_of (fun i hi=>(hW b (off+i) hbl).trans (hc i hi))⟩
 clear hb
 have HM:=mul_small zs.length h2 w
 have hdl:=dbl_len zs 6
 generalize hlen:zs.length=k at *
 have HL:Hid (zs.length=k):=hlen
 clear hlen
 obtain ⟨N,hN⟩:∃ N,k*64=N:=⟨_,rfl⟩
 rw [hN] at HM
 have hN0:64≤N:=by omega
 have hN1:N≤4096:=by omega
 have HN:Hid (k*64=N∧(dbl zs 6).length=N):=⟨hN,by rw [hdl,←hN]⟩
 have hkN:k≤N:=by omega
 rw [HN.out.2]
 clear hdl hN
 have u1:IntKind.u64.wrap (k:Int)=k:=by rw [IntKind.wrap_u64];omega
 have u2:IntKind.i64.wrap (N:Int)=N:=by rw [IntKind.wrap_i64];omega
 have n1:¬(9223372036854775807:Int)<(N:Int):=by omega
 have n2:¬((k:Int)=0):=by omega
 have n3:¬(8192:Int)<(N:Int):=by omega
 obtain ⟨cs,hrunM,hle,_⟩:=Lib.run_makeNoZero (P:=Tryz.prog) w #[3] 22 5 Tryz.underlying22 N (by omega)
 have hcall:(callFunc 104 #[.int .i64 (N:Int)]).run Tryz.prog w=.ok (.value (.slice (some ⟨w.heap.size,0,none⟩) N cs.size)) ((w.alloc (.cells cs 5)).drewN 2):=by
  rw [run_callFunc_extern Tryz.func104 (by kernel_rfl) (by kernel_rfl) (by kernel_rfl) (e:=Extern.BytealgMakeNoZero.makeNoZero #[3] #[22]) (by kernel_rfl),hrunM]
  rfl
 clear hrunM
 go_enter Tryz.func88,Tryz.ntmps88
 go_wp2_with fail
 refine HM.mono ?_
 clear HM
 rintro e w' ⟨rfl,hw⟩
 rw [hw]
 clear hw
 have HBLK:Hid (((w.alloc (.cells cs 5)).drewN 2).heap[w.heap.size]?=some (.cells cs.toList.toArray 5 (0,0))):=by
  show (w.alloc (.cells cs 5)).heap[w.heap.size]?=_
  rw [heap_alloc_new w _]
 have HBEL:Hid (Below w.heap.size w ((w.alloc (.cells cs 5)).drewN 2)):=by
  have h:Below w.heap.size w (w.alloc (.cells cs 5)):=bAw
  exact ⟨h.os,h.tape,h.output,h.size,h.block⟩
 go_wp2_with (have _t:=HBLK;refine wpList_copy_splice rfl (.tmp 58) (.tmp 59) 22 22 rfl 5 Tryz.underlying22 hsz (some ⟨w.heap.size,0,none⟩) a N N k cap rfl rfl w.heap.size 0 cs.toList 5 HBLK.out (zs.map (Value.int .u8)) (by rw [List.length_map,HL.out];exact (Nat.min_eq_left hkN).symm) (fun hp=>⟨rfl,HSRC.out _ (fun b o hb=>HBEL.out.cell (p:=⟨b,o,none⟩) hb) hp⟩) (by rw [List.length_map,HL.out,Array.length_toList];omega) (HONE.out zs) w.heap.size w HBEL.out nl ?_;intro w2 hblk2 hbel2;clear hcall HBLK HBEL HSRC)
 have HB8:Hid (Buf8 w w2 w.heap.size N zs):=by
  obtain ⟨t1,t2⟩:=splice_take (cur:=cs.toList) (Z:=[]) (Y:=zs) (by simp) (by rw [HL.out];simp;omega)
  refine ⟨_,hblk2.out,?_,?_,by rw [HL.out];exact hkN,hbel2⟩
  ·rw [show (0:Nat)=([]:List Int).length from rfl,t2]
   simpa using hle
  ·simpa using t1
 clear hblk2 hbel2
 rw [HL.out]
 go_loopw [10] (fun p wr=>∃ (i L:Nat),i≤6∧L≤N∧p=.int .i64 L∧Hid (L=(dbl zs i).length∧L=k*2 ^ i∧Buf8 w wr w.heap.size N (dbl zs i))) (fun p _=>N-(intOf p).toNat)
 case atStart=>exact ⟨0,k,by omega,hkN,rfl,⟨HL.out.symm,by simp,HB8.out⟩⟩
 case round=>
  obtain ⟨i,L,hi6,hLN,rfl,HI⟩:=hrel
  by_cases hLT:L<N
  ·have hlt:(L:Int)<(N:Int):=by omega
   obtain ⟨hi5,hLL,hL1⟩:=dbl_step hi6 HI.out.2.1 HN.out.1 h1 hLT
   have hsl1:∀ W,(Instr.slice 22 (.slice (some ⟨w.heap.size,0,none⟩) N N) (some (.int .i64 (L:Int))) none none).run Tryz.prog W=.ok (.slice (some ⟨w.heap.size,L,none⟩) (N-L) (N-L)) W:=by
    intro W
    have h0:¬N=L:=by omega
    have h3:¬L=0:=by omega
    rw [run_slice_l W 22 _ _ _ (by simp [Program.elem,Tryz.underlying22]) .i64 _ (by omega) (by omega)]
    simp [Program.elem,Tryz.underlying22,Go.sizeOf,typeInfo,hi,hz1,Result.andThen,sliced,Addr.add,h0,h3]
   have hsl2:∀ W,(Instr.slice 22 (.slice (some ⟨w.heap.size,0,none⟩) N N) none (some (.int .i64 (L:Int))) none).run Tryz.prog W=.ok (.slice (some ⟨w.heap.size,0,none⟩) L N) W:=by
    intro W
    have h0:¬N=0:=by omega
    rw [run_slice_h W 22 _ _ _ (by simp [Program.elem,Tryz.underlying22]) .i64 _ (by omega) (by omega)]
    simp [Program.elem,Tryz.underlying22,Go.sizeOf,typeInfo,hi,hz1,Result.andThen,sliced,Addr.add,h0]
   have hmn:min (L:Int) (N:Int)=L:=by omega
   have HNX:Hid (L+L=(dbl zs (i+1)).length∧L+L=k*2 ^ (i+1)):=by
    obtain ⟨e1,e2,_⟩:=HI.out
    exact ⟨by rw [dbl,List.length_append,←e1],by rw [Nat.pow_succ,←Nat.mul_assoc,←e2,Nat.mul_two]⟩
   have HZL:Hid ((dbl zs i).length=L):=HI.out.1.symm
   obtain ⟨cur,hg,hM,ht,hl,hbel⟩:=HI.out.2.2
   have hcl:=HI.out.2.2.cells
   have HC:Hid (∀ j u,((dbl zs i).map (Value.int .u8))[j]?=some u→wr.cell? ((⟨w.heap.size,0,none⟩:Addr).add j)=some u):=news_of (fun j hj=>by rw [Nat.zero_add];exact hcl j hj)
   have HS:Hid ((splice cur L ((dbl zs i).map (Value.int .u8))).take (dbl zs (i+1)).length=(dbl zs (i+1)).map (Value.int .u8)∧N≤(splice cur L ((dbl zs i).map (Value.int .u8))).length):=by
    have:=splice_take (Y:=dbl zs i) ht (by rw [HZL.out];omega)
    rw [HZL.out] at this
    exact ⟨this.1,by rw [this.2];exact hM⟩
   have HG:Hid (wr.heap[w.heap.size]?=some (.cells cur.toArray 5 (0,0))∧L+L≤cur.length∧Below w.heap.size w wr):=⟨hg,by omega,hbel⟩
   have hadd:IntKind.i64.wrap ((L:Int)+(L:Int))=((L+L:Nat):Int):=by rw [IntKind.wrap_i64];omega
   clear hg hM ht hl hbel hcl HI
   go_wp2_with fail
   go_region_law (refine step_copy_splice rfl (.tmp 70) (.tmp 73) 22 22 rfl 5 Tryz.underlying22 hsz (some ⟨w.heap.size,L,none⟩) (some ⟨w.heap.size,0,none⟩) (N-L) (N-L) L N (by simp [Act.eval,Act.put]) (by simp [Act.eval,Act.put]) w.heap.size L cur 5 (by exact HG.out.1) ((dbl zs i).map (Value.int .u8)) (by rw [List.length_map,HZL.out];exact (Nat.min_eq_left (by omega)).symm) (fun _=>⟨rfl,_,rfl,by exact HC.out⟩) (by rw [List.length_map,HZL.out];exact HG.out.2.1) (HONE.out _) w.heap.size w (by exact HG.out.2.2.drew) nl ?_;intro w4 hg4 hb4;rw [List.length_map,HZL.out])
   all_goals
    go_wp2
    simp only [List.getElem_toArray,List.getElem_cons_succ,List.getElem_cons_zero,Act.put,List.setIfInBounds_toArray,List.set_cons_succ,List.set_cons_zero]
    go_roundw
    case rel=>exact ⟨i+1,L+L,by omega,hLL,by first | rfl | go_num | simp [hadd],⟨HNX.out.1,HNX.out.2,_,hg4.out,HS.out.2,HS.out.1,by rw [←HNX.out.1];exact hLL,hb4⟩⟩
    case measure=>first | (simp [intOf];omega) | (simp [intOf,hadd];omega)
  ·have hge:¬(L:Int)<(N:Int):=by omega
   obtain rfl:=dbl_end hi6 HI.out.2.1 HN.out.1 h1 hLT
   go_wp2
   go_ret
   have hB:=HI.out.2.2
   refine ⟨⟨_,⟨_,rfl⟩,hB.byt fun z hz=>HR.out z (dbl_mem zs 6 z hz)⟩,?_⟩
   obtain ⟨_,_,_,_,_,hb⟩:=hB
   exact hb
end Go.Proofs.YtfeokafkhnbdiaaGreatDoor
