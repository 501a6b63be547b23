/- Lemmas on the way. -/
import Derived.Test.YtfeokafkhnbdiaaGreatDoorUs2
import Derived.Test.YtfeokafkhnbdiaaGreatDoorSqY
import Derived.Test.YtfeokafkhnbdiaaGreatDoorSqEq
import Derived.Laws.Bits64b
import Derived.Test.YtfeokafkhnbdiaaGreatDoorPut1
import Derived.Lib.MakeNoZero
import Derived.Laws.CopyOwn
import Derived.Deep.RegionLaw
import Derived.Test.YtfeokafkhnbdiaaGreatDoorFnI
set_option maxRecDepth 20000
set_option maxHeartbeats 16000000
namespace Go.Proofs.YtfeokafkhnbdiaaGreatDoor
open Go.RowKit
set_option linter.unusedVariables false
set_option linter.unusedSimpArgs false
def OsY (n V m:Nat) (bs:List Int):Prop:=∃ ts M U ss,RdS n V m ts M U∧uqF M U ts=some (ss.map Sq.ct)∧(sqn ss).isSome=true∧exb ss ss.length=bs
theorem OsY.unique {n V m:Nat} {bs bs':List Int} (h:OsY n V m bs) (h':OsY n V m bs'):bs=bs':=by
 obtain ⟨ts,M,U,ss,h1,h2,h3,rfl⟩:=h
 obtain ⟨ts',M',U',ss',h1',h2',h3',rfl⟩:=h'
 obtain ⟨rfl,rfl,rfl⟩:=h1.unique h1'
 rw [h2] at h2'
 have hc:ss.map Sq.ct=ss'.map Sq.ct:=by simpa using h2'
 have hl:ss.length=ss'.length:=by have:=congrArg List.length hc;simpa using this
 rw [exb_ct hc,hl]
theorem openedSymbols_ok (m:Nat) (a:Option Addr) (cap:Nat) (zs:List Int) (n V:Nat) (w:World) (hm:m≤255) (hn:n≤4096) (hS:SentD w)
  (hO:Calls Tryz.prog 105 #[.slice a zs.length cap] w fun e w'=>∃ a' cp,e=.returned (.tuple #[.agg #[.slice a' (enc n V).length cp,.int .i64 (n:Nat)],.bool true])∧Mine w' w.heap.size w'.heap.size a' cp (enc n V)∧Below w.heap.size w w') :
  Calls Tryz.prog 89 #[.int .i64 m,.slice a zs.length cap] w fun e w'=>Below w.heap.size w w' ∧
   ((∃ bs v,OsY n V m bs∧OVB w' w.heap.size v bs∧e=.returned (.tuple #[v,.nilIface]))∨((¬∃ bs,OsY n V m bs)∧∃ T x v,e=.returned (.tuple #[v,.iface T x]))):=by
 have HS:Hid (SentD w):=hS
 clear hS
 go_enter Tryz.func89,Tryz.ntmps89
 go_wp2_with fail
 refine hO.mono ?_
 clear hO
 rintro e w1 ⟨a1,c1,rfl,hm1,hb1⟩
 obtain ⟨es,hes⟩:∃ es,es=enc n V:=⟨_,rfl⟩
 rw [←hes] at hm1 ⊢
 have HES:Hid (es=enc n V):=hes
 clear hes
 obtain ⟨w2,hw2⟩:∃ w2,w2=w1.alloc (Obj.cells #[.slice a1 es.length c1,.int .i64 (n:Nat)] 40):=⟨_,rfl⟩
 have hz2:w2.heap.size=w1.heap.size+1:=by rw [hw2];simp
 have hb12:Below w1.heap.size w1 w2:=by rw [hw2];exact (Below.refl _ _).alloc nl _
 have hbz2:Byt w2 a1 es:=(hm1.below hb12).byt
 have hb2:Below w.heap.size w w2:=hb1.trans (hb12.mono hb1.size)
 have hS2:SentD w2:=HS.out.below hb2
 have hr3:RD (w2.alloc (Obj.cells #[.slice a1 es.length c1,.int .i64 (n:Nat),.int .i64 0] 109)) w2.heap.size w2.heap.size a1 es.length c1 n 0:=⟨heap_alloc_new w2 _,Nat.le_refl _,by simp⟩
 have hb3:Below w2.heap.size w2 (w2.alloc (Obj.cells #[.slice a1 es.length c1,.int .i64 (n:Nat),.int .i64 0] 109)):=bAw
 have HGS:=getSymbols_any w2.heap.size w2.heap.size a1 c1 es n V m w2 _ hbz2 rfl hb3 HES.out hn hr3 hm hS2
 have HB:Hid (Below w.heap.size w w2∧Below w2.heap.size w2 (w2.alloc (Obj.cells #[.slice a1 es.length c1,.int .i64 (n:Nat),.int .i64 0] 109))∧w.heap.size≤w2.heap.size∧SentD w2):=⟨hb2,hb3,hb2.size,hS2⟩
 have hc0:w2.cell? ⟨w1.heap.size,0,none⟩=some (.slice a1 es.length c1):=by rw [hw2];simp
 have hc1:w2.cell? ⟨w1.heap.size,1,none⟩=some (.int .i64 (n:Nat)):=by rw [hw2];simp
 clear hb12 hbz2 hb2 hS2 hr3 hb3 hm1 hb1
 have HW2:Hid (w2=w1.alloc (Obj.cells #[.slice a1 es.length c1,.int .i64 (n:Nat)] 40)):=hw2
 clear hw2
 go_wp2_with fail
 rw [←HW2.out,←hz2]
 refine HGS.mono ?_
 clear HGS HW2 hc0 hc1
 obtain ⟨w3,hw3⟩:∃ w3,w3=w2.alloc (Obj.cells #[.slice a1 es.length c1,.int .i64 (n:Nat),.int .i64 0] 109):=⟨_,rfl⟩
 rw [←hw3] at HB ⊢
 have z3:w2.heap.size<w3.heap.size:=by rw [hw3];simp
 clear hw3
 have hww:=HB.out.2.2.1
 rintro e w4 ⟨ho4,⟨ts,M,U,g,a4,c4,hrs,how,hm4,rfl⟩ | ⟨hno,T,x,v,z,l,c,M,rfl⟩⟩
 ·have hb4:Below w2.heap.size w2 w4:=HB.out.2.1.trans (ho4.below (by omega) (fun k hk=>by omega))
  obtain ⟨hrng,hlen⟩:=hrs.rng
  have hMn:=hrs.le
  have hN8:bt V 0 8<256:=bt_lt V 0 8
  obtain ⟨xs,hxs⟩:∃ xs,xs=enc M U:=⟨_,rfl⟩
  rw [←hxs] at hm4 ⊢
  rw [←hlen] at how hN8 ⊢
  have hb5:Below w2.heap.size w2 (w4.alloc (Obj.cells #[.slice a4 xs.length c4,.int .i64 (M:Nat)] 40)):=hb4.alloc (by have:=ho4.size;omega) _
  have hS5:=HB.out.2.2.2.below hb5
  have hG1:=hS5.hG
  have hG2:=hS5.f.hG
  have HSO:=seqsOf_any (some ⟨g,0,none⟩) ts.length ts a4 c4 xs M U _ ((how.alloc _).byt) ((hm4.below ((Below.refl _ _).alloc nl (Obj.cells #[.slice a4 xs.length c4,.int .i64 (M:Nat)] 40))).byt) hxs (by omega) hrng (by omega) nl hS5.f.s0 hS5.f.s1 hS5.s6 hS5.s7 hS5.s8 (by omega)
  have z45:w4.heap.size<(w4.alloc (Obj.cells #[.slice a4 xs.length c4,.int .i64 (M:Nat)] 40)).heap.size:=by simp
  have HB5:Hid (Below w.heap.size w (w4.alloc (Obj.cells #[.slice a4 xs.length c4,.int .i64 (M:Nat)] 40))∧SentD (w4.alloc (Obj.cells #[.slice a4 xs.length c4,.int .i64 (M:Nat)] 40))):=⟨HB.out.1.trans (hb5.mono hww),hS5⟩
  have HRS:Hid (RdS n V m ts M U∧xs=enc M U):=⟨hrs,hxs⟩
  clear hb4 hb5 hS5 hrs how hm4 ho4 hrng hxs HB hlen
  go_wp2_with fail
  refine HSO.mono ?_
  clear HSO
  obtain ⟨w5,hw5⟩:∃ w5,w5=w4.alloc (Obj.cells #[.slice a4 xs.length c4,.int .i64 (M:Nat)] 40):=⟨_,rfl⟩
  rw [←hw5] at HB5 ⊢
  clear hw5 z45
  rintro e w6 ⟨hb6,hy6,hn6⟩
  have HB6:Hid (Below w.heap.size w w6∧w.heap.size≤w5.heap.size):=⟨HB5.out.1.trans (hb6.mono HB5.out.1.size),HB5.out.1.size⟩
  have HS6:Hid (SentD w6):=HB5.out.2.below hb6
  cases hu:uqF M U ts with
  | none=>
   obtain ⟨T,y,u,rfl⟩:=hn6 hu
   have HNO:Hid (¬∃ bs,OsY n V m bs):=by
    rintro ⟨bs,ts',M',U',ss,h1,h2,-⟩
    obtain ⟨rfl,rfl,rfl⟩:=HRS.out.1.unique h1
    rw [hu] at h2
    cases h2
   clear hy6 hn6 hu hb6
   go_wp2
   exact bodyPost_ret (v:=.tuple #[.slice none 0 0,.iface T y]) (by simp [results,Tryz.results89,go_sem]) rfl ⟨HB6.out.1,.inr ⟨HNO.out,_,_,_,rfl⟩⟩
  | some cs=>
   obtain ⟨v6,ss,⟨hct,hov,hdq,hsm,hsl⟩,hyes,hnot⟩:=hy6 cs hu
   by_cases hso:(sqn ss).isSome=true
   ·obtain rfl:=hyes hso
    obtain ⟨a6,c6,rfl⟩:=hov.form
    have hsq:Sqs w6 a6 ss:=hov.sqs (fun z hz=>⟨hsm.rng z hz,hdq.byt hz⟩)
    have HEX:=implExec_any a6 c6 ss w6 hsq (by omega) (fun z hz=>by have:=hsm z hz;omega)
    rw [hso,if_pos rfl] at HEX
    have HOY:Hid (OsY n V m (exb ss ss.length)):=⟨ts,M,U,ss,HRS.out.1,by rw [hu,hct],hso,rfl⟩
    have z6:=HB6.out.1.size
    clear hy6 hn6 hu hb6 hyes hnot hov hdq hsm hct hsq hso
    go_wp2_with fail
    refine HEX.mono ?_
    clear HEX
    rintro e w7 ⟨⟨v7,rfl,hv7⟩,hb7⟩
    have HF:Hid (Below w.heap.size w w7∧OVB w7 w6.heap.size v7 (exb ss ss.length)):=⟨HB6.out.1.trans (hb7.mono z6),hv7⟩
    clear hb7 hv7
    go_wp2
    refine bodyPost_ret (v:=.tuple #[v7,.nilIface]) (by simp [results,Tryz.results89,go_sem]) rfl ⟨HF.out.1,.inl ⟨_,_,HOY.out,?_,rfl⟩⟩
    refine ⟨⟨HF.out.2.1.1,?_⟩,HF.out.2.2⟩
    rcases HF.out.2.1.2 with h | ⟨g',cap',cur,he,hg,r⟩
    ·exact .inl h
    ·exact .inr ⟨g',cap',cur,he,by omega,r⟩
   ·have hsf:(sqn ss).isSome=false:=by simpa using hso
    obtain ⟨T,y,u,rfl⟩:=hnot hsf
    have HNO:Hid (¬∃ bs,OsY n V m bs):=by
     rintro ⟨bs,ts',M',U',ss',h1,h2,h3,-⟩
     obtain ⟨rfl,rfl,rfl⟩:=HRS.out.1.unique h1
     rw [hu] at h2
     have hc:ss.map Sq.ct=ss'.map Sq.ct:=by rw [hct];simpa using h2
     rw [sqn_ct hc] at hso
     exact hso h3
    clear hy6 hn6 hu hb6 hyes hnot hov hdq hsm hct hso hsf
    go_wp2
    exact bodyPost_ret (v:=.tuple #[.slice none 0 0,.iface T y]) (by simp [results,Tryz.results89,go_sem]) rfl ⟨HB6.out.1,.inr ⟨HNO.out,_,_,_,rfl⟩⟩
 ·have HNO:Hid (¬∃ bs,OsY n V m bs):=fun ⟨bs,ts,M,U,ss,h1,_⟩=>hno ⟨ts,M,U,h1⟩
  have HB4:Hid (Below w.heap.size w w4∧w.heap.size≤w4.heap.size):=⟨HB.out.1.trans ((HB.out.2.1.trans (ho4.below (by omega) (fun k hk=>by omega))).mono hww),by have:=ho4.size;omega⟩
  clear hno ho4 HB
  go_wp2
  exact bodyPost_ret (v:=.tuple #[.slice none 0 0,.iface T x]) (by simp [results,Tryz.results89,go_sem]) rfl ⟨HB4.out.1.alloc HB4.out.2 _,.inr ⟨HNO.out,_,_,_,rfl⟩⟩
theorem openedSymbols_no (m:Nat) (a:Option Addr) (cap:Nat) (zs:List Int) (w:World) (hs:Sent w 10) (hlt:10<w.heap.size)
  (hO:Calls Tryz.prog 105 #[.slice a zs.length cap] w fun e w'=>e=.returned (.tuple #[.agg #[.slice none 0 0,.int .i64 0],.bool false])∧Below w.heap.size w w') :
  Calls Tryz.prog 89 #[.int .i64 m,.slice a zs.length cap] w fun e w'=>Below w.heap.size w w'∧∃ T x v,e=.returned (.tuple #[v,.iface T x]):=by
 obtain ⟨T,x,hc⟩:=hs
 go_enter Tryz.func89,Tryz.ntmps89
 go_wp2_with fail
 refine hO.mono ?_
 clear hO
 rintro e w1 ⟨rfl,hb1⟩
 have hc1:=keep hb1 hlt hc
 have HB:Hid (Below w.heap.size w w1):=hb1
 have hz:=hb1.size
 have hl1:10<w1.heap.size:=by omega
 clear hb1 hc
 go_wp2
 go_quiet (fail)
 go_wp2
 refine bodyPost_ret (v:=.tuple #[.slice none 0 0,.iface T x]) (by simp [results,Tryz.results89,go_sem]) rfl ⟨?_,_,_,_,rfl⟩
 have hbb:=HB.out
 repeat (first | exact hbb | refine below_drewN ?_ _ | refine Below.drew ?_ | refine Below.alloc ?_ (by first | exact hz | (simp;omega)) _)
theorem mul64_small (k:Nat) (hk:k≤64) (w:World) :
  Calls Tryz.prog 133 #[.int .u64 k,.int .u64 64] w fun e w'=>e=.returned (.tuple #[.int .u64 0,.int .u64 ((k*64:Nat):Int)])∧w'=w:=by
 have e1:bits .and .u64 (k:Int) 4294967295=(k:Int):=by
  have h:=bits_and_u64_nat k 4294967295 (by omega) (by omega)
  have e:k &&& 4294967295=k % 4294967296:=Nat.and_two_pow_sub_one_eq_mod k 32
  rw [e,Nat.mod_eq_of_lt (by omega)] at h
  exact h
 have e2:bits .and .u64 64 4294967295=64:=by rfl
 have e3:(k:Int) / 4294967296=0:=by omega
 have e4:IntKind.u64.wrap ((k:Int)*64)=(k:Int)*64:=by rw [IntKind.wrap_u64];omega
 have e5:((k:Int)*64) / 4294967296=0:=by omega
 have e6:bits .and .u64 0 4294967295=0:=by rfl
 go_enter Tryz.func133,Tryz.ntmps133
 go_wp2
 go_ret2
 exact ⟨by simp [e1,e2,e3,e4,e5,e6],rfl⟩
theorem mul_small (k:Nat) (hk:k≤64) (w:World) :
  Calls Tryz.prog 103 #[.int .u64 k,.int .u64 64] w fun e w'=>e=.returned (.tuple #[.int .u64 0,.int .u64 ((k*64:Nat):Int)])∧w'=w:=by
 have c64:=mul64_small k hk w
 go_enter Tryz.func103,Tryz.ntmps103
 go_wp2_with fail
 refine c64.mono ?_
 rintro e w' ⟨rfl,rfl⟩
 go_wp2
 go_ret2
 exact ⟨rfl,rfl⟩
def dbl (zs:List Int):Nat→List Int
 | 0=>zs
 | i+1=>dbl zs i++dbl zs i
theorem dbl_len (zs:List Int):∀ i,(dbl zs i).length=zs.length*2 ^ i
 | 0=>by simp [dbl]
 | i+1=>by
  rw [dbl,List.length_append,dbl_len zs i,Nat.pow_succ,←Nat.mul_assoc,Nat.mul_two]
theorem dbl_mem (zs:List Int):∀ i,∀ z ∈ dbl zs i,z ∈ zs
 | 0,z,h=>h
 | i+1,z,h=>by
  simp only [dbl,List.mem_append,or_self] at h
  exact dbl_mem zs i z h
def Buf8 (w wr:World) (g M:Nat) (Z:List Int):Prop:=
 ∃ cur:List Value,wr.heap[g]?=some (.cells cur.toArray 5 (0,0))∧M≤cur.length∧cur.take Z.length=Z.map (Value.int .u8)∧Z.length≤M∧Below g w wr
theorem splice_take {cur:List Value} {Z Y:List Int} (h:cur.take Z.length=Z.map (Value.int .u8)) (hl:Z.length+Y.length≤cur.length) :
  (splice cur Z.length (Y.map (Value.int .u8))).take (Z++Y).length=(Z++Y).map (Value.int .u8)∧(splice cur Z.length (Y.map (Value.int .u8))).length=cur.length:=by
 unfold splice
 rw [h]
 constructor
 ·rw [←List.append_assoc,←List.map_append]
  rw [List.take_left' (by simp)]
 ·simp
  omega
theorem Buf8.cells {w wr:World} {g M:Nat} {Z:List Int} (h:Buf8 w wr g M Z):∀ i,i<Z.length→wr.cell? ⟨g,i,none⟩=some (.int .u8 (Z.getD i 0)):=by
 obtain ⟨cur,hg,hM,ht,hl,_⟩:=h
 intro i hi
 have h1:cur[i]?=some (.int .u8 (Z.getD i 0)):=by
  have:=congrArg (·[i]?) ht
  simp only [List.getElem?_take,if_pos hi,List.getElem?_map] at this
  rw [this]
  simp [List.getD,List.getElem?_eq_getElem hi]
 simp [World.cell?,hg,h1]
theorem Buf8.byt {w wr:World} {g M:Nat} {Z:List Int} (h:Buf8 w wr g M Z) (hr:∀ z ∈ Z,0≤z∧z≤255):Byt wr (some ⟨g,0,none⟩) Z:=by
 refine ⟨hr,fun hp=>⟨g,0,rfl,?_,fun i hi=>by rw [Nat.zero_add];exact h.cells i hi⟩⟩
 obtain ⟨cur,hg,_⟩:=h
 exact (Array.getElem?_eq_some_iff.1 hg).1
theorem dbl_step {k L N i:Nat} (hi:i≤6) (hL:L=k*2 ^ i) (hN:k*64=N) (h1:1≤k) (hlt:L<N):i<6∧L+L≤N∧1≤L:=by
 obtain rfl | rfl | rfl | rfl | rfl | rfl | rfl:i=0∨i=1∨i=2∨i=3∨i=4∨i=5∨i=6:=by omega
 all_goals
  simp at hL
  omega
theorem dbl_end {k L N i:Nat} (hi:i≤6) (hL:L=k*2 ^ i) (hN:k*64=N) (h1:1≤k) (hlt:¬L<N):i=6:=by
 obtain rfl | rfl | rfl | rfl | rfl | rfl | rfl:i=0∨i=1∨i=2∨i=3∨i=4∨i=5∨i=6:=by omega
 all_goals
  simp at hL
  omega
theorem repeat_any (a:Option Addr) (cap:Nat) (zs:List Int) (w:World) (hb:Byt w a zs) (h1:1≤zs.length) (h2:zs.length≤64) :
  Calls Tryz.prog 88 #[.slice a zs.length cap,.int .i64 64] w fun e w'=>(∃ a' c,e=.returned (.slice a' (dbl zs 6).length c)∧Byt w' a' (dbl zs 6))∧Below w.heap.size w w':=by
 obtain ⟨i0,hi,hz0,hz1,hz2⟩:=info_parts Tryz.infoU8
 have hsz:(Tryz.prog.info? 5).map (·.size)=some 1:=by rw [hi];simp [hz1]
 have HONE:Hid (∀ zs:List Int,∀ u ∈ zs.map (Value.int .u8),u.oneCell'=true):=oneCells
 have HR:Hid (∀ z ∈ zs,0≤z∧z≤255):=hb.1
 have HSRC:Hid (∀ W:World,(∀ b o,b<w.heap.size→W.cell? ⟨b,o,none⟩=w.cell? ⟨b,o,none⟩)→0<(zs.map (Value.int .u8)).length→∃ ad,a=some ad∧∀ j u,(zs.map (Value.int .u8))[j]?=some u→W.cell? (ad.add j)=some u):=by
  intro W hW hp
  obtain ⟨b,off,rfl,hbl,hc⟩:=hb.2 (by simpa using hp)
  exact ⟨_,rfl,news_of (fun i hi=>(hW b (off+i) hbl).trans (hc i hi))⟩
 clear hb
 have HM:=mul_small zs.length h2 w
 have hdl:=dbl_len zs 6
 generalize hlen:zs.length=k at *
 have HL:Hid (zs.length=k):=hlen
 clear hlen
 obtain ⟨N,hN⟩:∃ N,k*64=N:=⟨_,rfl⟩
 rw [hN] at HM
 have hN0:64≤N:=by omega
 have hN1:N≤4096:=by omega
 have HN:Hid (k*64=N∧(dbl zs 6).length=N):=⟨hN,by rw [hdl,←hN]⟩
 have hkN:k≤N:=by omega
 rw [HN.out.2]
 clear hdl hN
 have u1:IntKind.u64.wrap (k:Int)=k:=by rw [IntKind.wrap_u64];omega
 have u2:IntKind.i64.wrap (N:Int)=N:=by rw [IntKind.wrap_i64];omega
 have n1:¬(9223372036854775807:Int)<(N:Int):=by omega
 have n2:¬((k:Int)=0):=by omega
 have n3:¬(8192:Int)<(N:Int):=by omega
 obtain ⟨cs,hrunM,hle,_⟩:=Lib.run_makeNoZero (P:=Tryz.prog) w #[3] 22 5 Tryz.underlying22 N (by omega)
 have hcall:(callFunc 104 #[.int .i64 (N:Int)]).run Tryz.prog w=.ok (.value (.slice (some ⟨w.heap.size,0,none⟩) N cs.size)) ((w.alloc (.cells cs 5)).drewN 2):=by
  rw [run_callFunc_extern Tryz.func104 (by kernel_rfl) (by kernel_rfl) (by kernel_rfl) (e:=Extern.BytealgMakeNoZero.makeNoZero #[3] #[22]) (by kernel_rfl),hrunM]
  rfl
 clear hrunM
 go_enter Tryz.func88,Tryz.ntmps88
 go_wp2_with fail
 refine HM.mono ?_
 clear HM
 rintro e w' ⟨rfl,hw⟩
 rw [hw]
 clear hw
 have HBLK:Hid (((w.alloc (.cells cs 5)).drewN 2).heap[w.heap.size]?=some (.cells cs.toList.toArray 5 (0,0))):=by
  show (w.alloc (.cells cs 5)).heap[w.heap.size]?=_
  rw [heap_alloc_new w _]
 have HBEL:Hid (Below w.heap.size w ((w.alloc (.cells cs 5)).drewN 2)):=by
  have h:Below w.heap.size w (w.alloc (.cells cs 5)):=bAw
  exact ⟨h.os,h.tape,h.output,h.size,h.block⟩
 go_wp2_with (have _t:=HBLK;refine wpList_copy_splice rfl (.tmp 58) (.tmp 59) 22 22 rfl 5 Tryz.underlying22 hsz (some ⟨w.heap.size,0,none⟩) a N N k cap rfl rfl w.heap.size 0 cs.toList 5 HBLK.out (zs.map (Value.int .u8)) (by rw [List.length_map,HL.out];exact (Nat.min_eq_left hkN).symm) (fun hp=>⟨rfl,HSRC.out _ (fun b o hb=>HBEL.out.cell (p:=⟨b,o,none⟩) hb) hp⟩) (by rw [List.length_map,HL.out,Array.length_toList];omega) (HONE.out zs) w.heap.size w HBEL.out nl ?_;intro w2 hblk2 hbel2;clear hcall HBLK HBEL HSRC)
 have HB8:Hid (Buf8 w w2 w.heap.size N zs):=by
  obtain ⟨t1,t2⟩:=splice_take (cur:=cs.toList) (Z:=[]) (Y:=zs) (by simp) (by rw [HL.out];simp;omega)
  refine ⟨_,hblk2.out,?_,?_,by rw [HL.out];exact hkN,hbel2⟩
  ·rw [show (0:Nat)=([]:List Int).length from rfl,t2]
   simpa using hle
  ·simpa using t1
 clear hblk2 hbel2
 rw [HL.out]
 go_loopw [10] (fun p wr=>∃ (i L:Nat),i≤6∧L≤N∧p=.int .i64 L∧Hid (L=(dbl zs i).length∧L=k*2 ^ i∧Buf8 w wr w.heap.size N (dbl zs i))) (fun p _=>N-(intOf p).toNat)
 case atStart=>exact ⟨0,k,by omega,hkN,rfl,⟨HL.out.symm,by simp,HB8.out⟩⟩
 case round=>
  obtain ⟨i,L,hi6,hLN,rfl,HI⟩:=hrel
  by_cases hLT:L<N
  ·have hlt:(L:Int)<(N:Int):=by omega
   obtain ⟨hi5,hLL,hL1⟩:=dbl_step hi6 HI.out.2.1 HN.out.1 h1 hLT
   have hsl1:∀ W,(Instr.slice 22 (.slice (some ⟨w.heap.size,0,none⟩) N N) (some (.int .i64 (L:Int))) none none).run Tryz.prog W=.ok (.slice (some ⟨w.heap.size,L,none⟩) (N-L) (N-L)) W:=by
    intro W
    have h0:¬N=L:=by omega
    have h3:¬L=0:=by omega
    rw [run_slice_l W 22 _ _ _ (by simp [Program.elem,Tryz.underlying22]) .i64 _ (by omega) (by omega)]
    simp [Program.elem,Tryz.underlying22,Go.sizeOf,typeInfo,hi,hz1,Result.andThen,sliced,Addr.add,h0,h3]
   have hsl2:∀ W,(Instr.slice 22 (.slice (some ⟨w.heap.size,0,none⟩) N N) none (some (.int .i64 (L:Int))) none).run Tryz.prog W=.ok (.slice (some ⟨w.heap.size,0,none⟩) L N) W:=by
    intro W
    have h0:¬N=0:=by omega
    rw [run_slice_h W 22 _ _ _ (by simp [Program.elem,Tryz.underlying22]) .i64 _ (by omega) (by omega)]
    simp [Program.elem,Tryz.underlying22,Go.sizeOf,typeInfo,hi,hz1,Result.andThen,sliced,Addr.add,h0]
   have hmn:min (L:Int) (N:Int)=L:=by omega
   have HNX:Hid (L+L=(dbl zs (i+1)).length∧L+L=k*2 ^ (i+1)):=by
    obtain ⟨e1,e2,_⟩:=HI.out
    exact ⟨by rw [dbl,List.length_append,←e1],by rw [Nat.pow_succ,←Nat.mul_assoc,←e2,Nat.mul_two]⟩
   have HZL:Hid ((dbl zs i).length=L):=HI.out.1.symm
   obtain ⟨cur,hg,hM,ht,hl,hbel⟩:=HI.out.2.2
   have hcl:=HI.out.2.2.cells
   have HC:Hid (∀ j u,((dbl zs i).map (Value.int .u8))[j]?=some u→wr.cell? ((⟨w.heap.size,0,none⟩:Addr).add j)=some u):=news_of (fun j hj=>by rw [Nat.zero_add];exact hcl j hj)
   have HS:Hid ((splice cur L ((dbl zs i).map (Value.int .u8))).take (dbl zs (i+1)).length=(dbl zs (i+1)).map (Value.int .u8)∧N≤(splice cur L ((dbl zs i).map (Value.int .u8))).length):=by
    have:=splice_take (Y:=dbl zs i) ht (by rw [HZL.out];omega)
    rw [HZL.out] at this
    exact ⟨this.1,by rw [this.2];exact hM⟩
   have HG:Hid (wr.heap[w.heap.size]?=some (.cells cur.toArray 5 (0,0))∧L+L≤cur.length∧Below w.heap.size w wr):=⟨hg,by omega,hbel⟩
   have hadd:IntKind.i64.wrap ((L:Int)+(L:Int))=((L+L:Nat):Int):=by rw [IntKind.wrap_i64];omega
   clear hg hM ht hl hbel hcl HI
   go_wp2_with fail
   go_region_law (refine step_copy_splice rfl (.tmp 70) (.tmp 73) 22 22 rfl 5 Tryz.underlying22 hsz (some ⟨w.heap.size,L,none⟩) (some ⟨w.heap.size,0,none⟩) (N-L) (N-L) L N (by simp [Act.eval,Act.put]) (by simp [Act.eval,Act.put]) w.heap.size L cur 5 (by exact HG.out.1) ((dbl zs i).map (Value.int .u8)) (by rw [List.length_map,HZL.out];exact (Nat.min_eq_left (by omega)).symm) (fun _=>⟨rfl,_,rfl,by exact HC.out⟩) (by rw [List.length_map,HZL.out];exact HG.out.2.1) (HONE.out _) w.heap.size w (by exact HG.out.2.2.drew) nl ?_;intro w4 hg4 hb4;rw [List.length_map,HZL.out])
   all_goals
    go_wp2
    simp only [List.getElem_toArray,List.getElem_cons_succ,List.getElem_cons_zero,Act.put,List.setIfInBounds_toArray,List.set_cons_succ,List.set_cons_zero]
    go_roundw
    case rel=>exact ⟨i+1,L+L,by omega,hLL,by first | rfl | go_num | simp [hadd],⟨HNX.out.1,HNX.out.2,_,hg4.out,HS.out.2,HS.out.1,by rw [←HNX.out.1];exact hLL,hb4⟩⟩
    case measure=>first | (simp [intOf];omega) | (simp [intOf,hadd];omega)
  ·have hge:¬(L:Int)<(N:Int):=by omega
   obtain rfl:=dbl_end hi6 HI.out.2.1 HN.out.1 h1 hLT
   go_wp2
   go_ret
   have hB:=HI.out.2.2
   refine ⟨⟨_,⟨_,rfl⟩,hB.byt fun z hz=>HR.out z (dbl_mem zs 6 z hz)⟩,?_⟩
   obtain ⟨_,_,_,_,_,hb⟩:=hB
   exact hb
def OpnP (zs:List Int):Option (Nat × Nat)→Prop
 | some q=>q.1≤4096∧q.2<2 ^ q.1 ∧
   (∀ (a:Option Addr) (cap:Nat) (w:World),Byt w a zs→Calls Tryz.prog 105 #[.slice a zs.length cap] w fun e w'=>
    ∃ a' cp,e=.returned (.tuple #[.agg #[.slice a' (enc q.1 q.2).length cp,.int .i64 (q.1:Nat)],.bool true])∧Mine w' w.heap.size w'.heap.size a' cp (enc q.1 q.2)∧Below w.heap.size w w')
 | none=>
   ∀ (a:Option Addr) (cap:Nat) (w:World),Byt w a zs→Calls Tryz.prog 105 #[.slice a zs.length cap] w fun e w'=>
    e=.returned (.tuple #[.agg #[.slice none 0 0,.int .i64 0],.bool false])∧Below w.heap.size w w'
theorem opnP (zs:List Int) (hl:zs.length≤1048576) (hr:∀ z ∈ zs,0≤z∧z≤255):∃ o,OpnP zs o:=by
 by_cases h0:zs=[]∨zs.getD (zs.length-1) 0=0
 ·exact ⟨none,fun a cap w hb=>implOpen_no a cap zs w hb hl (h0.elim .inl (fun h=>.inr (.inl h)))⟩
 ·have hne:zs≠[]:=fun h=>h0 (.inl h)
  have hp:0<zs.length:=List.length_pos_iff.2 hne
  obtain ⟨L,hL⟩:∃ L,zs.length=L+1:=⟨zs.length-1,by omega⟩
  have hrL:=getD_rng hr L
  have hnz:zs.getD L 0≠0:=fun h=>h0 (.inr (by rw [show zs.length-1=L from by omega];exact h))
  obtain ⟨t,ht⟩:=Int.eq_ofNat_of_zero_le hrL.1
  rw [ht] at hrL hnz
  obtain ⟨b,hb8,h1,h2⟩:=top_bitW t (by omega) (by omega)
  have hok:=okB_open zs L b t hL h1 h2 hb8
  have hrng:∀ z ∈ openY zs L b t,0≤z∧z≤255:=by
   intro z hzz
   unfold openY at hzz
   split at hzz
   ·exact hr z (List.mem_of_mem_take hzz)
   ·rcases List.mem_or_eq_of_mem_set hzz with h | rfl
    ·exact hr z h
    ·omega
  by_cases hn:8*L+b≤4096
  ·rw [decide_eq_true hn] at hok
   obtain ⟨m,hm1,hm2,hm3,hm4⟩:=okB_enc hok hrng
   obtain rfl:8*L+b=m:=by omega
   refine ⟨some (8*L+b,val (openY zs L b t)),hn,hm4,fun a cap w hb=>?_⟩
   have:=implOpen_yes a cap zs L b t w hb hL ht h1 h2 hb8 hn
   rw [hL,←hm3]
   exact this
  ·exact ⟨none,fun a cap w hb=>implOpen_no a cap zs w hb hl (.inr (.inr ⟨L,b,t,hL,ht,h1,h2,hb8,by omega⟩))⟩
def RbY (o:Option (Nat × Nat)) (m:Nat) (zs bs:List Int):Prop:=
 bs.length=64∧((m=0∧bs=zs)∨(m=1∧zs.length=1∧bs=dbl zs 6)∨((m=2∨m=3)∧∃ q,o=some q∧OsY q.1 q.2 m bs))
structure SentB (w:World):Prop where
 d:SentD w
 b0:Sent w 10
 b1:Sent w 3
 b2:Sent w 4
 b3:Sent w 2
 hB:10<w.heap.size∧3<w.heap.size∧4<w.heap.size∧2<w.heap.size
theorem SentB.below {w w':World} (h:SentB w) (hb:Below w.heap.size w w'):SentB w':=
 ⟨h.d.below hb,h.b0.below hb h.hB.1,h.b1.below hb h.hB.2.1,h.b2.below hb h.hB.2.2.1,h.b3.below hb h.hB.2.2.2,by have:=hb.size;have:=h.hB;omega⟩
theorem openedSymbols_any (m:Nat) (a:Option Addr) (cap:Nat) (zs:List Int) (o:Option (Nat × Nat)) (w:World) (hm:m≤255) (hb:Byt w a zs) (hO:OpnP zs o) (hS:SentB w) :
  Calls Tryz.prog 89 #[.int .i64 m,.slice a zs.length cap] w fun e w'=>Below w.heap.size w w' ∧
   ((∃ bs v,(∃ q,o=some q∧OsY q.1 q.2 m bs)∧OVB w' w.heap.size v bs∧e=.returned (.tuple #[v,.nilIface]))∨((¬∃ bs q,o=some q∧OsY q.1 q.2 m bs)∧∃ T x v,e=.returned (.tuple #[v,.iface T x]))):=by
 cases o with
 | none=>
  refine (openedSymbols_no m a cap zs w hS.b0 hS.hB.1 (hO a cap w hb)).mono ?_
  rintro e w' ⟨h1,h2⟩
  exact ⟨h1,.inr ⟨by simp,h2⟩⟩
 | some q=>
  refine (openedSymbols_ok m a cap zs q.1 q.2 w hm hO.1 hS.d (hO.2.2 a cap w hb)).mono ?_
  rintro e w' ⟨h1,⟨bs,v,h2,h3⟩ | ⟨h2,h3⟩⟩
  ·exact ⟨h1,.inl ⟨bs,v,⟨q,rfl,h2⟩,h3⟩⟩
  ·refine ⟨h1,.inr ⟨?_,h3⟩⟩
   rintro ⟨bs,q',hq,h⟩
   cases hq
   exact h2 ⟨bs,h⟩
theorem readBlock_raw (a:Option Addr) (cap:Nat) (zs:List Int) (o:Option (Nat × Nat)) (w:World) (hb:Byt w a zs) (h2:zs.length≤64) (hS:SentB w) :
  Calls Tryz.prog 75 #[.int .i64 0,.slice a zs.length cap] w fun e w'=>Below w.heap.size w w' ∧
   ((∃ bs v,RbY o 0 zs bs∧OVB w' w.heap.size v bs∧e=.returned (.tuple #[v,.nilIface]))∨((¬∃ bs,RbY o 0 zs bs)∧∃ T x v,e=.returned (.tuple #[v,.iface T x]))):=by
 have HS:Hid (SentB w):=hS
 have HC:=bytesClone_any a cap zs w hb (by omega)
 clear hS hb
 go_enter Tryz.func75,Tryz.ntmps75
 go_wp2_with fail
 refine HC.mono ?_
 clear HC
 rintro e w1 ⟨⟨v,rfl,hov⟩,hb1⟩
 obtain ⟨va,vc,rfl⟩:=hov.form
 have HO:Hid (OVB w1 w.heap.size (.slice va zs.length vc) zs∧Below w.heap.size w w1):=⟨hov,hb1⟩
 obtain ⟨T,x,hc⟩:=(HS.out.below hb1).b2
 have hl1:=(HS.out.below hb1).hB
 clear hov hb1
 by_cases h64:zs.length=64
 ·have HY:Hid (RbY o 0 zs zs∧OVB w1 w.heap.size (.slice va 64 vc) zs):=⟨⟨h64,.inl ⟨rfl,rfl⟩⟩,by rw [←h64];exact HO.out.1⟩
  have hz:(zs.length:Int)=64:=by omega
  go_wp2
  go_ret2
  exact ⟨HO.out.2,.inl ⟨zs,_,HY.out.1,HY.out.2,rfl⟩⟩
 ·have HN:Hid (¬∃ bs,RbY o 0 zs bs):=by
   rintro ⟨bs,h,⟨_,rfl⟩ | ⟨h0,_⟩ | ⟨h0,_⟩⟩
   ·exact h64 h
   ·omega
   ·omega
  have hz:¬(zs.length:Int)=64:=by omega
  go_wp2
  go_quiet (fail)
  go_wp2
  go_ret2
  exact ⟨below_drewN HO.out.2 _,.inr ⟨HN.out,_,_,_,rfl⟩⟩
theorem readBlock_run (a:Option Addr) (cap:Nat) (zs:List Int) (o:Option (Nat × Nat)) (w:World) (hb:Byt w a zs) (h1:1≤zs.length) (h2:zs.length≤64) (hS:SentB w) :
  Calls Tryz.prog 75 #[.int .i64 1,.slice a zs.length cap] w fun e w'=>Below w.heap.size w w' ∧
   ((∃ bs v,RbY o 1 zs bs∧OVB w' w.heap.size v bs∧e=.returned (.tuple #[v,.nilIface]))∨((¬∃ bs,RbY o 1 zs bs)∧∃ T x v,e=.returned (.tuple #[v,.iface T x]))):=by
 have HS:Hid (SentB w):=hS
 have HC:=repeat_any a cap zs w hb h1 h2
 have hdl:=dbl_len zs 6
 obtain ⟨ds,hds⟩:∃ ds,ds=dbl zs 6:=⟨_,rfl⟩
 rw [←hds] at HC hdl
 have HD:Hid (ds=dbl zs 6∧ds.length=zs.length*64):=⟨hds,hdl⟩
 clear hS hb hds hdl
 go_enter Tryz.func75,Tryz.ntmps75
 go_wp2_with fail
 refine HC.mono ?_
 clear HC
 rintro e w0 ⟨⟨da,dc,rfl,hbd⟩,hb0⟩
 have HC:=bytesClone_any da dc ds w0 hbd (by have:=HD.out.2;omega)
 have HB0:Hid (Below w.heap.size w w0):=hb0
 clear hbd hb0
 go_wp2_with fail
 refine HC.mono ?_
 clear HC
 rintro e w1 ⟨⟨v,rfl,hov⟩,hb1⟩
 obtain ⟨va,vc,rfl⟩:=hov.form
 have hb01:=HB0.out.trans (hb1.mono HB0.out.size)
 have HO:Hid (OVB w1 w.heap.size (.slice va ds.length vc) ds∧Below w.heap.size w w1):=⟨hov.weak HB0.out.size,hb01⟩
 obtain ⟨T,x,hc⟩:=(HS.out.below hb01).b2
 have hl1:=(HS.out.below hb01).hB
 clear hov hb1 hb01
 by_cases h64:ds.length=64
 ·have HY:Hid (RbY o 1 zs ds∧OVB w1 w.heap.size (.slice va 64 vc) ds):=⟨⟨h64,.inr (.inl ⟨rfl,by have:=HD.out.2;omega,HD.out.1⟩)⟩,by rw [←h64];exact HO.out.1⟩
  have hz:(ds.length:Int)=64:=by omega
  go_wp2
  go_ret2
  exact ⟨HO.out.2,.inl ⟨ds,_,HY.out.1,HY.out.2,rfl⟩⟩
 ·have HN:Hid (¬∃ bs,RbY o 1 zs bs):=by
   rintro ⟨bs,h,⟨h0,_⟩ | ⟨_,h0,rfl⟩ | ⟨h0,_⟩⟩
   ·omega
   ·have:=HD.out.2
    omega
   ·omega
  have hz:¬(ds.length:Int)=64:=by omega
  go_wp2
  go_quiet (fail)
  go_wp2
  go_ret2
  exact ⟨below_drewN HO.out.2 _,.inr ⟨HN.out,_,_,_,rfl⟩⟩
theorem readBlock_sym (m:Nat) (a:Option Addr) (cap:Nat) (zs:List Int) (o:Option (Nat × Nat)) (w:World) (hm:m=2∨m=3) (hb:Byt w a zs) (hO:OpnP zs o) (hS:SentB w) :
  Calls Tryz.prog 75 #[.int .i64 m,.slice a zs.length cap] w fun e w'=>Below w.heap.size w w' ∧
   ((∃ bs v,RbY o m zs bs∧OVB w' w.heap.size v bs∧e=.returned (.tuple #[v,.nilIface]))∨((¬∃ bs,RbY o m zs bs)∧∃ T x v,e=.returned (.tuple #[v,.iface T x]))):=by
 have HS:Hid (SentB w):=hS
 have HC:=openedSymbols_any m a cap zs o w (by omega) hb hO hS
 have HN2:Hid ((¬∃ bs q,o=some q∧OsY q.1 q.2 m bs)→¬∃ bs,RbY o m zs bs):=by
  rintro h ⟨bs,-,⟨h0,_⟩ | ⟨h0,_⟩ | ⟨_,q,hq,hy⟩⟩
  ·omega
  ·omega
  ·exact h ⟨bs,q,hq,hy⟩
 have HN3:Hid (∀ bs bs',(∃ q,o=some q∧OsY q.1 q.2 m bs)→RbY o m zs bs'→bs'=bs):=by
  rintro bs bs' ⟨q,hq,hy⟩ ⟨-,⟨h0,_⟩ | ⟨h0,_⟩ | ⟨_,q',hq',hy'⟩⟩
  ·omega
  ·omega
  ·rw [hq] at hq'
   cases hq'
   exact hy'.unique hy
 have HN5:Hid (∀ bs,(∃ q,o=some q∧OsY q.1 q.2 m bs)→¬bs.length=64→¬∃ bs,RbY o m zs bs):=by
  rintro bs hy h64 ⟨bs',h⟩
  have:=HN3.out bs bs' hy h
  subst this
  exact h64 h.1
 have HN4:Hid (∀ bs,bs.length=64→(∃ q,o=some q∧OsY q.1 q.2 m bs)→RbY o m zs bs):=fun bs h64 h=>⟨h64,.inr (.inr ⟨hm,h⟩)⟩
 clear hS hb hO
 go_enter Tryz.func75,Tryz.ntmps75
 rcases hm with rfl | rfl
 all_goals
  go_wp2_with fail
  refine HC.mono ?_
  clear HC
  rintro e w1 ⟨hb1,⟨bs,v,hy,hov,rfl⟩ | ⟨hno,T,x,v,rfl⟩⟩
  ·obtain ⟨va,vc,rfl⟩:=hov.form
   have HO:Hid (OVB w1 w.heap.size (.slice va bs.length vc) bs∧Below w.heap.size w w1):=⟨hov,hb1⟩
   have HYQ:Hid (∃ q,o=some q∧OsY q.1 q.2 _ bs):=hy
   obtain ⟨T,x,hc⟩:=(HS.out.below hb1).b2
   have hl1:=(HS.out.below hb1).hB
   clear hov hb1 hy
   by_cases h64:bs.length=64
   ·have HY:Hid (RbY o _ zs bs∧OVB w1 w.heap.size (.slice va 64 vc) bs):=⟨HN4.out bs h64 HYQ.out,by rw [←h64];exact HO.out.1⟩
    have hz:(bs.length:Int)=64:=by omega
    go_wp2
    go_ret2
    exact ⟨HO.out.2,.inl ⟨bs,_,HY.out.1,HY.out.2,rfl⟩⟩
   ·have HN:Hid (¬∃ bs,RbY o _ zs bs):=HN5.out bs HYQ.out h64
    have hz:¬(bs.length:Int)=64:=by omega
    go_wp2
    go_quiet (fail)
    go_wp2
    go_ret2
    exact ⟨below_drewN HO.out.2 _,.inr ⟨HN.out,_,_,_,rfl⟩⟩
  ·have HB1:Hid (Below w.heap.size w w1):=hb1
   have HN:=HN2.out hno
   clear hb1 hno
   have HNH:Hid (¬∃ bs,RbY o _ zs bs):=HN
   clear HN HN2 HN3 HN4 HN5
   go_wp2
   go_ret2
   exact ⟨HB1.out,.inr ⟨HNH.out,_,_,_,rfl⟩⟩
theorem readBlock_other (m:Nat) (a:Option Addr) (cap:Nat) (zs:List Int) (o:Option (Nat × Nat)) (w:World) (hm:4≤m) (hS:SentB w) :
  Calls Tryz.prog 75 #[.int .i64 m,.slice a zs.length cap] w fun e w'=>Below w.heap.size w w' ∧
   ((∃ bs v,RbY o m zs bs∧OVB w' w.heap.size v bs∧e=.returned (.tuple #[v,.nilIface]))∨((¬∃ bs,RbY o m zs bs)∧∃ T x v,e=.returned (.tuple #[v,.iface T x]))):=by
 obtain ⟨T,x,hc⟩:=hS.b1
 have hl1:=hS.hB
 have HN:Hid (¬∃ bs,RbY o m zs bs):=by
  rintro ⟨bs,-,⟨h0,_⟩ | ⟨h0,_⟩ | ⟨h0,_⟩⟩ <;> omega
 have e0:((m:Int) == 0)=false:=by simp;omega
 have e1:((m:Int) == 1)=false:=by simp;omega
 have e2:((m:Int) == 2)=false:=by simp;omega
 have e3:((m:Int) == 3)=false:=by simp;omega
 clear hS hm
 go_enter Tryz.func75,Tryz.ntmps75
 go_wp2
 go_ret2
 exact ⟨Below.refl _ _,.inr ⟨HN.out,_,_,_,rfl⟩⟩
theorem readBlock_any (m:Nat) (a:Option Addr) (cap:Nat) (zs:List Int) (o:Option (Nat × Nat)) (w:World) (hb:Byt w a zs) (h1:1≤zs.length) (h2:zs.length≤64) (hO:OpnP zs o) (hS:SentB w) :
  Calls Tryz.prog 75 #[.int .i64 m,.slice a zs.length cap] w fun e w'=>Below w.heap.size w w' ∧
   ((∃ bs v,RbY o m zs bs∧OVB w' w.heap.size v bs∧e=.returned (.tuple #[v,.nilIface]))∨((¬∃ bs,RbY o m zs bs)∧∃ T x v,e=.returned (.tuple #[v,.iface T x]))):=by
 rcases (by omega:m=0∨m=1∨(m=2∨m=3)∨4≤m) with rfl | rfl | hm | hm
 ·exact readBlock_raw a cap zs o w hb h2 hS
 ·exact readBlock_run a cap zs o w hb h1 h2 hS
 ·exact readBlock_sym m a cap zs o w hm hb hO hS
 ·exact readBlock_other m a cap zs o w hm hS
end Go.Proofs.YtfeokafkhnbdiaaGreatDoor
