/- Lemmas on the way. -/
import Derived.Test.YtaibkchbkedjnaaGreatDoorHGet7
import Derived.BigQuiet
import Derived.Test.YtaibkchbkedjnaaGreatDoorBit1
import Derived.Test.YtaibkchbkedjnaaGreatDoorPlP
import Derived.RangeFuncNested
import Derived.RangeFuncBound
import Derived.RangeFuncCalls
import Derived.RangeFuncLeaves
import Derived.RangeFuncFrom
import Derived.Shelf.Abstract
import Derived.Shelf.RegionOpen
import Derived.WalkKit
import Derived.OwnWalkIn
import Derived.TacticsInMore
import Derived.LoopNIn
import Derived.LoopIn
import Derived.Deep.MidRow
set_option maxRecDepth 20000
set_option maxHeartbeats 16000000
namespace Go.Proofs.YtaibkchbkedjnaaGreatDoor
open Go.RowKit
set_option linter.unusedVariables false
theorem symbol_any (H R B Bo:Nat) (ao:Option Addr) (co:Nat) (ls:List Int) (a:Option Addr) (cap:Nat) (zs:List Int) (n v p:Nat) (w0 w:World) (hb:Byt w0 a zs) (hB:w0.heap.size=B) (hbel:Below B w0 w) (hz:zs=enc n v) (hn:n≤4096) (hp:p≤n) (hl:ls.length≤80)
  (hH:HR w H R (hm ls (sbL ls 12)) ao (sbL ls 12).length co) (hM:MinI w Bo H ao co (sbL ls 12)) (hR:RD w B R a zs.length cap n p) (hRo:R<Bo) (hRH:R<H)
  (s0:Sent w0 17) (s1:Sent w0 18) (s2:Sent w0 27) (hG:17<B∧18<B∧27<B) :
  Calls Tryz.prog 236 #[.pointer (some ⟨H,0,none⟩)] w fun e w'=>Only (fun k=>k=R) w w' ∧
   ((∃ i k, One ls (crun ls (sbL ls 12)).2.2 n v p i k ∧ e = .returned (.tuple #[.int .i64 (i : Nat), .nilIface]) ∧ RD w' B R a zs.length cap n (p + k)) ∨
    (NoHit ls (crun ls (sbL ls 12)).2.2 v p (min 12 (n-p))∧∃ T x u,e=.returned (.tuple #[u,.iface T x]))):=by
 have hodl:(sbL ls 12).length≤2000:=by have:=sbL_len ls 12;omega
 have HRG:Hid (∀ z ∈ sbL ls 12,0≤z∧z≤80):=fun z hz=>by obtain ⟨s,h1,h2,_⟩:=sbL_mem ls 12 z hz;omega
 have HHR:Hid _:=hH
 have HM:Hid (MinI w Bo H ao co (sbL ls 12)):=hM
 have HRD:Hid _:=hR
 have HZ:Hid (zs=enc n v):=hz
 have HBB:Hid (Byt w0 a zs):=hb
 have HBE:Hid (Below B w0 w):=hbel
 have HWB:Hid (w0.heap.size=B):=hB
 have HBR:Hid (B≤R∧B≤w.heap.size):=⟨hR.2.1,hR.2.2⟩
 clear hH hM hR hz hb hbel hB
 go_enter Tryz.func236,Tryz.ntmps236
 go_wp2
 go_loopw [4,5,6,7] (fun c f x l wr=>∃ (k cn fn xn:Nat) (y:Int),y=(k:Int)+1∧k≤12∧p+k≤n∧Sy ls v p k cn fn xn∧c=.int .i64 cn∧f=.int .i64 fn∧x=.int .i64 xn∧l=.int .i64 y∧RD wr B R a zs.length cap n (p+k)∧Only (fun k=>k=R) w wr) (fun _ _ _ l _=>(13-intOf l).toNat)
 case atStart=>exact ⟨0,0,0,0,1,by simp,by omega,by omega,sy_zero ls v p,rfl,rfl,rfl,rfl,HRD.out,Only.refl _ _⟩
 case round=>
  clear HRD
  obtain ⟨k,cn,fn,xn,y,hy,hk,hpk,hsy,rfl,rfl,rfl,rfl,hrd,hon⟩:=hrel
  obtain ⟨hcb,hfb,hxb⟩:=sy_bound hsy hk hl
  have HSY:Hid (Sy ls v p k cn fn xn):=hsy
  have HRD:Hid (RD wr B R a zs.length cap n (p+k)):=hrd
  have HON:Hid (Only (fun k=>k=R) w wr):=hon
  have HBW:Hid (Below B w0 wr):=HBE.out.trans (hon.below HBR.out.2 (fun j hj=>by rw [hj];exact HBR.out.1))
  have hH2:HR wr H R (hm ls (sbL ls 12)) ao (sbL ls 12).length co:=HHR.out.only hon (by omega)
  have c0:=hH2.c0
  have c14:=hH2.co
  have hle:=hsy.le
  have HH2:Hid _:=hH2
  have hyb:1≤y∧y≤13:=by omega
  clear hsy hrd hon hH2
  have HY:Hid (y=(k:Int)+1):=hy
  have hfc:(fn:Int)≤cn:=by omega
  by_cases h12:k<12
  ·have hy12:y≤12:=by omega
   have HYT:Hid (y.toNat=k+1):=by unfold Hid;omega
   clear hy
   by_cases hpn:p+k<n
   ·have HGET:=HRD.out.yes v 1 (by omega) (HBB.out.below HBW.out (by rw [HWB.out];exact Nat.le_refl _)) HZ.out (by omega) (by omega) (by omega)
    go_wp2_with fail
    refine HGET.mono ?_
    clear HGET
    rintro e w2 ⟨rfl,hrd2,hon2,hb2⟩
    have HRD2:Hid (RD w2 B R a zs.length cap n (p+k+1)):=by simpa [Hid] using hrd2
    have HON2:Hid (Only (fun k=>k=R) w w2):=HON.out.trans hon2
    have hH3:=HH2.out.only hon2 (by omega)
    have d14:=hH3.co
    have dm:=hH3.cm (k+1) (by omega)
    rw [hm_at ls (k+1) (by omega) (by omega),←HYT.out] at dm
    have HBT:(v / 2 ^ (p+k) % 2 ^ (1:Int).toNat)=v / 2 ^ (p+k) % 2:=by simp
    rw [HBT]
    have hbit:v / 2 ^ (p+k) % 2<2:=Nat.mod_lt _ (by omega)
    have HNX:=fun h=>sy_next (b:=v / 2 ^ (p+k) % 2) HSY.out h12 rfl h
    have HHT:=fun h=>sy_hit (n:=n) (b:=v / 2 ^ (p+k) % 2) HSY.out h12 hpn rfl h
    have HM3:Hid (MinI w2 Bo H ao co (sbL ls 12)):=HM.out.only HON2.out (fun j h1 h2=>by omega)
    have hmb:=atL_len ls (k+1) ls.length
    rw [HYT.out] at dm
    generalize (atL ls (k+1) ls.length).length=m at *
    generalize v / 2 ^ (p+k) % 2=b at *
    rw [←HYT.out] at dm
    clear hrd2 hon2 hb2 hH3 HBT HSY HRD HON c0 c14 HH2 HBW HHR
    by_cases hhit:2*cn+b-2*fn<m
    ·obtain ⟨s,q1,q2,q3,q4⟩:=HHT hhit
     have HQ4:Hid _:=q4
     obtain ⟨b1,o1,rfl,hb1,hc1⟩:=HM3.out.byt.len_pos (xn+(2*cn+b-2*fn)) q3
     have hs1:=hc1 _ q3
     rw [q1] at hs1
     have HIX:Hid ((xn:Int)+(2*cn+b)-fn*2=((xn+(2*cn+b-2*fn):Nat):Int)):=by unfold Hid;omega
     have hdl:(2*(cn:Int)+b-fn*2<m):=by omega
     have HQ3:Hid (xn+(2*cn+b-2*fn)<(sbL ls 12).length):=q3
     clear hc1 q1 q4 HHT HNX HM3 hhit q3 hpk
     generalize hix:xn+(2*cn+b-2*fn)=ix at *
     clear hix
     have hixl:(ix:Int)<(sbL ls 12).length:=by have:=HQ3.out;omega
     generalize (sbL ls 12).length=N at *
     have hE:=HIX.out
     clear HIX
     go_wp2
     refine bodyPost_ret (v:=.tuple #[.int .i64 (s:Nat),.nilIface]) (by simp [results,Tryz.results236,go_sem]) rfl ?_
     exact ⟨HON2.out,.inl ⟨s,k+1,HQ4.out,rfl,by simpa [Nat.add_assoc] using HRD2.out⟩⟩
    ·have HS2:Hid (Sy ls v p (k+1) (2*cn+b) (2*fn+m) (xn+m)):=HNX hhit
     have hdl:¬(2*(cn:Int)+b-fn*2<m):=by omega
     clear HNX HHT HM3 d14 hhit
     go_wp2
     go_roundw
     case rel=>exact ⟨k+1,2*cn+b,2*fn+m,xn+m,y+1,by have:=HY.out;omega,by omega,by omega,HS2.out,by go_num,by go_num,by go_num,by go_num,by simpa [Nat.add_assoc] using HRD2.out,HON2.out⟩
     case measure=>simp [intOf];omega
   ·have HN:Hid (NoHit ls (crun ls (sbL ls 12)).2.2 v p (min 12 (n-p))):=by
     rw [show min 12 (n-p)=k from by omega]
     exact HSY.out.no
    have HGET:=HRD.out.no 1 (by omega) (by omega) (s0.below HBW.out (by omega)) (s1.below HBW.out (by omega)) (by omega)
    go_wp2_with fail
    refine HGET.mono ?_
    clear HGET
    rintro e w2 ⟨⟨T,x,rfl⟩,m,rfl⟩
    clear HSY HRD HH2
    go_wp2
    refine bodyPost_ret (v:=.tuple #[.int .i64 0,.iface T x]) (by simp [results,Tryz.results236,go_sem]) rfl ?_
    exact ⟨HON.out.drewN _,.inr ⟨HN.out,T,x,_,rfl⟩⟩
  ·have hk12:k=12:=by omega
   have HN:Hid (NoHit ls (crun ls (sbL ls 12)).2.2 v p (min 12 (n-p))):=by
    rw [show min 12 (n-p)=k from by omega]
    exact HSY.out.no
   have hy13:¬y≤12:=by omega
   obtain ⟨T,x,hc⟩:=s2.below HBW.out (by omega)
   clear HSY HRD HH2 hy hk12
   go_wp2
   go_quiet (fail)
   go_wp2
   refine bodyPost_ret (v:=.tuple #[.int .i64 0,.iface T x]) (by simp [results,Tryz.results236,go_sem]) rfl ?_
   exact ⟨HON.out.drewN _,.inr ⟨HN.out,T,x,_,rfl⟩⟩
theorem lensB_okG {zs:List Int} (h:lensB zs=true):1≤zs.length∧zs.length≤80∧∀ z ∈ zs,0≤z∧z≤12:=by
 simp only [lensB,decide_eq_true_eq] at h
 exact ⟨h.1,h.2.1,h.2.2.1⟩
/-- text of the program: the reader of codes at H over the reader at R, from place p on. -/
theorem text_any (H R B B0:Nat) (ao:Option Addr) (co:Nat) (ls:List Int) (x:Option Addr) (cx:Nat) (zs:List Int) (n V p N:Nat) (w0 w:World) (hx:Byt w0 x zs) (hB:w0.heap.size=B) (hbel:Below B w0 w) (hz:zs=enc n V) (hn:n≤4096) (hp:p≤n) (hN:N≤300) (hn2:ls.length≤80)
  (hHR:HR w H R (hm ls (sbL ls 12)) ao (sbL ls 12).length co) (hMO:MinI w B0 H ao co (sbL ls 12)) (hRD:RD w B R x zs.length cx n p) (hRH:R<H) (hRB0:R<B0)
  (s0:Sent w0 17) (s1:Sent w0 18) (s2:Sent w0 27) (hG:17<w0.heap.size∧18<w0.heap.size∧27<w0.heap.size) :
  Calls Tryz.prog 225 #[.pointer (some ⟨H,0,none⟩),.int .i64 N] w fun e w'=>Only (fun k=>k=R) w w'∧Below B w0 w' ∧
   ((∃ q E g, q.length = N ∧ Reads ls (crun ls (sbL ls 12)).2.2 n V p q E ∧ OwI w' w.heap.size g N q ∧ RD w' B R x zs.length cx n E ∧ e = .returned (.tuple #[.slice (some ⟨g, 0, none⟩) N N, .nilIface])) ∨
    (∃ q E T y,q.length<N∧Reads ls (crun ls (sbL ls 12)).2.2 n V p q E∧NoHit ls (crun ls (sbL ls 12)).2.2 V E (min 12 (n-E))∧e=.returned (.tuple #[.slice none 0 0,.iface T y]))):=by
 obtain ⟨i0,hi,hz0,hz1,hz2⟩:=info_parts Tryz.infoI64
 have HPK:Hid (Byt w0 x zs∧w0.heap.size=B∧zs=enc n V∧Sent w0 17∧Sent w0 18∧Sent w0 27∧(17<w0.heap.size∧18<w0.heap.size∧27<w0.heap.size)):=⟨hx,hB,hz,s0,s1,s2,hG⟩
 have HW:Hid (HR w H R (hm ls (sbL ls 12)) ao (sbL ls 12).length co∧MinI w B0 H ao co (sbL ls 12)∧RD w B R x zs.length cx n p∧Below B w0 w):=⟨hHR,hMO,hRD,hbel⟩
 have hRlt:R<w.heap.size:=(Array.getElem?_eq_some_iff.1 hRD.1).1
 have hBR:=hRD.2.1
 have hHw:H<w.heap.size:=hHR.lt
 clear hx hB hz s0 s1 s2 hG hHR hMO hRD hbel
 go_enter Tryz.func225,Tryz.ntmps225
 go_wp2_with (at_make;refine wpList_make_full _ rfl _ _ 29 rfl w.heap.size 3 i0 (.int .i64 0) 1 Tryz.underlying29 hi hz0 hz1 .i64 .i64 _ _ N rfl rfl rfl rfl (by rw [hz2];omega) (by unfold maxLen;omega) nl ?_;intro w5 hown hgrow)
 have hbw:Below w.heap.size w w5:=(Below.refl _ _).grown hgrow nl (by intro k hk;cases hk)
 have H0:Hid (OwI w5 w.heap.size w.heap.size N ([]++List.replicate N 0)):=by
  rw [List.nil_append]
  refine ⟨?_,by intro z hz;simp at hz;omega⟩
  rw [made_zeroI] at hown
  simpa using hown
 have HO5:Only (fun _=>False) w w5:=Only.ofBelow (S:=fun _=>False) hbw nl
 have HW5:Hid (HR w5 H R (hm ls (sbL ls 12)) ao (sbL ls 12).length co∧MinI w5 B0 H ao co (sbL ls 12)∧RD w5 B R x zs.length cx n p∧Below B w0 w5∧Only (fun k=>k=R) w w5):=
  ⟨HW.out.1.only HO5 (by simp),HW.out.2.1.only HO5 (by simp),HW.out.2.2.1.only HO5 (by simp),HW.out.2.2.2.trans (hbw.mono HW.out.2.2.1.2.2),Only.ofBelow hbw nl⟩
 clear HW HO5 hbw hown hgrow hi hz0 hz1 hz2
 generalize hg4:w.heap.size=g at *
 have HG4:Hid (w.heap.size=g∧True):=⟨hg4,trivial⟩
 clear hg4
 go_loopw [14] (fun i wr=>∃ (k:Nat) (q:List Int) (P:Nat),k≤N∧q.length=k∧i=.int .i64 k∧Reads ls (crun ls (sbL ls 12)).2.2 n V p q P∧OwI wr g g N (q++List.replicate (N-k) 0)∧HR wr H R (hm ls (sbL ls 12)) ao (sbL ls 12).length co∧MinI wr B0 H ao co (sbL ls 12)∧RD wr B R x zs.length cx n P∧Below B w0 wr∧Only (fun k=>k=R) w wr) (fun i _=>N-(intOf i).toNat)
 case atStart=>exact ⟨0,[],p,Nat.zero_le _,rfl,rfl,.nil,H0.out,HW5.out.1,HW5.out.2.1,HW5.out.2.2.1,HW5.out.2.2.2.1,HW5.out.2.2.2.2⟩
 case round=>
  clear H0 HW5
  obtain ⟨k,q,P,hk,hql,rfl,hrds,hown,hhr,hmo,hrd,hbel,honw⟩:=hrel
  have HS:Hid (q.length=k∧Reads ls (crun ls (sbL ls 12)).2.2 n V p q P∧OwI wr g g N (q++List.replicate (N-k) 0)∧HR wr H R (hm ls (sbL ls 12)) ao (sbL ls 12).length co∧MinI wr B0 H ao co (sbL ls 12)∧RD wr B R x zs.length cx n P∧Below B w0 wr∧Only (fun k=>k=R) w wr∧P≤n):=⟨hql,hrds,hown,hhr,hmo,hrd,hbel,honw,hrds.le hp⟩
  have hgl:=hown.lt.2
  clear hql hrds hown hhr hmo hrd hbel honw
  by_cases hlt:k<N
  ·have HSY:=symbol_any H R B B0 ao co ls x cx zs n V P w0 wr HPK.out.1 HPK.out.2.1 HS.out.2.2.2.2.2.2.1 HPK.out.2.2.1 hn HS.out.2.2.2.2.2.2.2.2 hn2 HS.out.2.2.2.1 HS.out.2.2.2.2.1 HS.out.2.2.2.2.2.1 (by omega) (by omega) HPK.out.2.2.2.1 HPK.out.2.2.2.2.1 HPK.out.2.2.2.2.2.1 (by have h:=HPK.out.2.2.2.2.2.2;rw [HPK.out.2.1] at h;exact h)
   go_wp2_with fail
   refine HSY.mono ?_
   clear HSY
   rintro e w6 ⟨hon,⟨i,m,hone,rfl,hrd6⟩ | ⟨hno,T,y,u,rfl⟩⟩
   ·have hll:(q++List.replicate (N-k) 0).length=N:=by rw [List.length_append,List.length_replicate,HS.out.1];omega
    have hib:i<80:=by have:=hone.2.2.2.1;omega
    have ho6:OwI w6 g g N (q++List.replicate (N-k) 0):=HS.out.2.2.1.only hon (by omega)
    have hdst:=ho6.cell k (by rw [hll];exact hlt)
    have hfz:=ho6.frozen k
    have hset:(q++List.replicate (N-k) (0:Int)).set k ((i:Nat):Int)=(q++[((i:Nat):Int)])++List.replicate (N-(k+1)) 0:=by
     rw [List.set_append_right _ _ (by rw [HS.out.1];exact Nat.le_refl _),HS.out.1,Nat.sub_self,show N-k=(N-(k+1))+1 from by omega,List.replicate_succ,List.set_cons_zero,List.append_assoc]
     rfl
    have hR7:=ho6.store k ((i:Nat):Int) (by omega)
    rw [hset] at hR7
    have hon7:Only (fun b=>b=g) w6 (w6.setCell ⟨g,k,none⟩ (.int .i64 (i:Nat))):=Only.setCell (Only.refl (fun b=>b=g) w6) (p:=⟨g,k,none⟩) (.inl rfl) _
    have hBwr:B≤wr.heap.size:=HS.out.2.2.2.2.2.1.2.2
    have hHg:H<wr.heap.size:=HS.out.2.2.2.1.lt
    have HF:Hid ((q++[((i:Nat):Int)]).length=k+1∧Reads ls (crun ls (sbL ls 12)).2.2 n V p (q++[(i:Int)]) (P+m)∧OwI (w6.setCell ⟨g,k,none⟩ (.int .i64 (i:Nat))) g g N ((q++[((i:Nat):Int)])++List.replicate (N-(k+1)) 0)∧HR (w6.setCell ⟨g,k,none⟩ (.int .i64 (i:Nat))) H R (hm ls (sbL ls 12)) ao (sbL ls 12).length co∧MinI (w6.setCell ⟨g,k,none⟩ (.int .i64 (i:Nat))) B0 H ao co (sbL ls 12)∧RD (w6.setCell ⟨g,k,none⟩ (.int .i64 (i:Nat))) B R x zs.length cx n (P+m)∧Below B w0 (w6.setCell ⟨g,k,none⟩ (.int .i64 (i:Nat)))∧Only (fun k=>k=R) w (w6.setCell ⟨g,k,none⟩ (.int .i64 (i:Nat)))):=by
     refine ⟨by rw [List.length_append,HS.out.1];rfl,.snoc HS.out.2.1 hone,hR7,?_,?_,hrd6.only hon7 (by omega),?_,?_⟩
     ·exact (HS.out.2.2.2.1.only hon (by omega)).only hon7 (by omega)
     ·exact (HS.out.2.2.2.2.1.only hon (fun j h1 h2=>by omega)).only hon7 (fun j h1 h2=>by omega)
     ·exact (HS.out.2.2.2.2.2.2.1.trans (hon.below hBwr (fun j hj=>by omega))).setCell (p:=⟨g,k,none⟩) (by have:=HG4.out.1;simp;omega) _
     ·exact (HS.out.2.2.2.2.2.2.2.1.trans hon).setCell (.inr (by rw [HG4.out.1];exact Nat.le_refl _)) _
    clear hR7 hon7 hset hll hon hone hrd6 ho6 HS
    generalize (q++List.replicate (N-k) 0).getD k 0=old at *
    go_wp2
    go_roundw
    case rel=>exact ⟨k+1,q++[((i:Nat):Int)],P+m,by omega,HF.out.1,by go_num,HF.out.2.1,HF.out.2.2.1,HF.out.2.2.2.1,HF.out.2.2.2.2.1,HF.out.2.2.2.2.2.1,HF.out.2.2.2.2.2.2.1,HF.out.2.2.2.2.2.2.2⟩
    case measure=>simp [intOf];omega
   ·have HF:Hid (Only (fun k=>k=R) w w6∧Below B w0 w6∧NoHit ls (crun ls (sbL ls 12)).2.2 V P (min 12 (n-P))∧q.length<N∧Reads ls (crun ls (sbL ls 12)).2.2 n V p q P):=⟨HS.out.2.2.2.2.2.2.2.1.trans hon,HS.out.2.2.2.2.2.2.1.trans (hon.below HS.out.2.2.2.2.2.1.2.2 (fun j hj=>by omega)),hno,by rw [HS.out.1];exact hlt,HS.out.2.1⟩
    clear hno hon HS
    go_wp2
    go_ret2
    exact ⟨HF.out.1,HF.out.2.1,.inr ⟨q,P,T,y,HF.out.2.2.2.1,HF.out.2.2.2.2,HF.out.2.2.1,rfl⟩⟩
  ·have hkn:k=N:=by omega
   subst hkn
   have HFI:Hid (OwI wr w.heap.size g k q∧True):=by
    have:=HS.out.2.2.1
    rw [Nat.sub_self] at this
    simp only [List.replicate_zero,List.append_nil] at this
    exact ⟨this.mono (by rw [HG4.out.1];exact Nat.le_refl _),trivial⟩
   go_wp2
   go_ret2
   exact ⟨HS.out.2.2.2.2.2.2.2.1,HS.out.2.2.2.2.2.2.1,.inl ⟨q,P,g,HS.out.1,HS.out.2.1,HFI.out.1,HS.out.2.2.2.2.2.1,rfl⟩⟩
theorem sum_succ (zs:List Int) (k:Nat) (h:k<zs.length):(zs.take (k+1)).sum=(zs.take k).sum+zs.getD k 0:=by
 rw [List.take_succ_eq_append_getElem h,List.sum_append]
 simp [List.getD_eq_getElem?_getD,List.getElem?_eq_getElem h]
def normB (zs:List Int):Bool:=decide (1≤zs.length∧zs.length≤80∧(∀ z ∈ zs,0≤z∧z≤64)∧zs.sum=64)
theorem normB_get {zs:List Int} (h:normB zs=true) (k:Nat) (hk:k<zs.length):0≤zs.getD k 0∧zs.getD k 0≤64:=by
 simp only [normB,decide_eq_true_eq] at h
 exact h.2.2.1 _ (getD_mem hk)
theorem normB_bnd {zs:List Int} (h:normB zs=true):1≤zs.length∧zs.length≤80:=by
 simp only [normB,decide_eq_true_eq] at h
 exact ⟨h.1,h.2.1⟩
def fl :Nat→List Int→List Int
 | _,[]=>[]
 | i,z :: zs=>List.replicate z.toNat (i:Int)++fl (i+1) zs
theorem sum_nn {zs:List Int} (h:∀ z ∈ zs,0≤z) (j:Nat):0≤(zs.take j).sum:=by
 induction zs generalizing j with
 | nil=>simp
 | cons z zs ih=>
  cases j with
  | zero=>simp
  | succ j=>
   have h1:=h z (by simp)
   have h2:=ih (fun y hy=>h y (by simp [hy])) j
   simp only [List.take_succ_cons,List.sum_cons]
   omega
theorem fl_at (zs:List Int):∀ (i j k:Nat),(∀ z ∈ zs,0≤z)→j<zs.length→(k:Int)<zs.getD j 0→(fl i zs).getD ((zs.take j).sum.toNat+k) 0=((i+j:Nat):Int):=by
 induction zs with
 | nil=>intro i j k _ hj;simp at hj
 | cons z zs ih=>
  intro i j k h hj hk
  cases j with
  | zero=>
   simp only [List.getD_cons_zero] at hk
   simp only [fl,List.take_zero,List.sum_nil,Int.toNat_zero,Nat.zero_add,Nat.add_zero]
   rw [List.getD_eq_getElem?_getD,List.getElem?_append_left (by rw [List.length_replicate];omega),List.getElem?_replicate,if_pos (by omega)]
   rfl
  | succ j=>
   have h1:=h z (by simp)
   have h2:=sum_nn (fun y hy=>h y (by simp [hy])) j (zs:=zs)
   have:=ih (i+1) j k (fun y hy=>h y (by simp [hy])) (by simpa using hj) (by simpa using hk)
   simp only [fl,List.take_succ_cons,List.sum_cons]
   rw [List.getD_eq_getElem?_getD,List.getElem?_append_right (by rw [List.length_replicate];omega),List.length_replicate,←List.getD_eq_getElem?_getD,show (z+(zs.take j).sum).toNat+k-z.toNat=(zs.take j).sum.toNat+k from by omega,this]
   congr 1
   omega
def pl (F:List Int) (ps:List Nat):List Int:=ps.zipIdx.foldl (fun r pj=>r.set pj.1 (F.getD pj.2 0)) (List.replicate 64 0)
theorem pl_snoc (F:List Int) (ps:List Nat) (x:Nat):pl F (ps++[x])=(pl F ps).set x (F.getD ps.length 0):=by
 unfold pl
 rw [List.zipIdx_append,List.foldl_append]
 simp
theorem pl_len (F:List Int) (ps:List Nat):(pl F ps).length=64:=by
 unfold pl
 generalize ps.zipIdx=l
 have:∀ (l:List (Nat × Nat)) (r:List Int),r.length=64→(l.foldl (fun r pj=>r.set pj.1 (F.getD pj.2 0)) r).length=64:=by
  intro l
  induction l with
  | nil=>intro r h;simpa using h
  | cons p l ih=>intro r h;simp only [List.foldl_cons];exact ih _ (by rw [List.length_set];exact h)
 exact this l _ (by simp)
def plc (m:Nat):List Nat:=(List.range m).map fun j=>43*j % 64
theorem plc_succ (m:Nat):plc (m+1)=plc m++[43*m % 64]:=by simp [plc,List.range_succ]
theorem plc_len (m:Nat):(plc m).length=m:=by simp [plc]
theorem made_rowI {w:World} {B g n:Nat} (hown:w.ownsRow B 3 1 (.slice (some ⟨g,0,none⟩) n n) n (madeCells (Value.int .i64 0).cells (n*1)).toList):OwI w B g n (List.replicate n 0):=by
 refine ⟨?_,by intro z hz;simp at hz;omega⟩
 rw [made_zeroI] at hown
 simpa using hown
theorem fl_mem (zs:List Int):∀ i,∀ z ∈ fl i zs,∃ j,j<zs.length∧z=((i+j:Nat):Int)∧0<zs.getD j 0:=by
 induction zs with
 | nil=>intro i z hz;simp [fl] at hz
 | cons y zs ih=>
  intro i z hz
  simp only [fl,List.mem_append,List.mem_replicate] at hz
  rcases hz with ⟨h,rfl⟩ | hz
  ·exact ⟨0,by simp,by simp,by simp;omega⟩
  ·obtain ⟨j,h1,h2,h3⟩:=ih (i+1) z hz
   exact ⟨j+1,by simpa using h1,by rw [h2];congr 1;omega,by simpa using h3⟩
theorem fl_len (zs:List Int):∀ i,(∀ z ∈ zs,0≤z)→((fl i zs).length:Int)=zs.sum:=by
 induction zs with
 | nil=>intro i _;simp [fl]
 | cons y zs ih=>
  intro i h
  have h1:=h y (by simp)
  have h2:=ih (i+1) (fun z hz=>h z (by simp [hz]))
  simp only [fl,List.length_append,List.length_replicate,List.sum_cons]
  omega
theorem pl_get (F:List Int):∀ m,m≤64→∀ p,p<64→(pl F (plc m)).getD p 0=if 3*p % 64<m then F.getD (3*p % 64) 0 else 0:=by
 intro m
 induction m with
 | zero=>
  intro _ p hp
  rw [if_neg (by omega)]
  show (List.replicate 64 (0:Int)).getD p 0=0
  rw [List.getD_eq_getElem?_getD,List.getElem?_replicate,if_pos hp]
  rfl
 | succ m ih=>
  intro hm p hp
  rw [plc_succ,pl_snoc,plc_len]
  by_cases he:43*m % 64=p
  ·have h3:3*p % 64=m:=by omega
   rw [List.getD_eq_getElem?_getD,he,List.getElem?_set_self (by rw [pl_len];exact hp),h3,if_pos (by omega)]
   rfl
  ·have h3:3*p % 64≠m:=by omega
   rw [List.getD_eq_getElem?_getD,List.getElem?_set_ne he,←List.getD_eq_getElem?_getD,ih (by omega) p hp]
   by_cases hl:3*p % 64<m
   ·rw [if_pos hl,if_pos (by omega)]
   ·rw [if_neg hl,if_neg (by omega)]
theorem sp_sym {zs:List Int} (hn:normB zs=true) (p:Nat) (hp:p<64):∃ s:Nat,(pl (fl 0 zs) (plc 64)).getD p 0=(s:Int)∧s<zs.length∧0<zs.getD s 0∧zs.getD s 0≤64:=by
 have hnn:(∀ z ∈ zs,0≤z)∧zs.sum=64:=by
  have h:=hn
  simp only [normB,decide_eq_true_eq] at h
  exact ⟨fun z hz=>(h.2.2.1 z hz).1,h.2.2.2⟩
 have hl:=fl_len zs 0 hnn.1
 rw [hnn.2] at hl
 rw [pl_get _ 64 nl p hp,if_pos (by omega),List.getD_eq_getElem?_getD,List.getElem?_eq_getElem (by omega)]
 obtain ⟨j,h1,h2,h3⟩:=fl_mem zs 0 _ (List.getElem_mem (show 3*p % 64<(fl 0 zs).length by omega))
 refine ⟨j,by simpa using h2,h1,h3,(normB_get hn j h1).2⟩
def nx (SP zs:List Int):Nat→List Int
 | 0=>zs
 | i+1=>(nx SP zs i).set (SP.getD i 0).toNat ((nx SP zs i).getD (SP.getD i 0).toNat 0+1)
theorem nx_len (SP zs:List Int) (i:Nat):(nx SP zs i).length=zs.length:=by
 induction i with
 | zero=>rfl
 | succ i ih=>rw [nx,List.length_set,ih]
theorem nx_bnd (SP zs:List Int) (i j:Nat):zs.getD j 0≤(nx SP zs i).getD j 0∧(nx SP zs i).getD j 0≤zs.getD j 0+i:=by
 induction i with
 | zero=>simp [nx]
 | succ i ih=>
  rw [nx]
  by_cases hj:(SP.getD i 0).toNat=j
  ·rw [hj]
   by_cases hl:j<(nx SP zs i).length
   ·rw [List.getD_eq_getElem?_getD (l:=(nx SP zs i).set _ _),List.getElem?_set_self hl]
    simp only [Option.getD_some]
    omega
   ·rw [List.set_eq_of_length_le (by omega)]
    omega
  ·rw [List.getD_eq_getElem?_getD (l:=(nx SP zs i).set _ _),List.getElem?_set_ne hj,←List.getD_eq_getElem?_getD]
   omega
def wd (x:Nat):Nat:=6-Nat.log2 x
theorem wd_rng {x:Nat} (h1:1≤x) (h2:x≤127):wd x≤6∧64≤x*2 ^ wd x∧x*2 ^ wd x<128:=by
 unfold wd
 have hl:=Nat.log2_self_le (n:=x) (by omega)
 have hu:=Nat.lt_log2_self (n:=x)
 have h6:Nat.log2 x<7:=(Nat.log2_lt (by omega)).2 (by omega)
 have e:2 ^ Nat.log2 x*2 ^ (6-Nat.log2 x)=64:=by rw [←Nat.pow_add,show Nat.log2 x+(6-Nat.log2 x)=6 from by omega]
 have e2:2 ^ (Nat.log2 x+1)*2 ^ (6-Nat.log2 x)=128:=by rw [←Nat.pow_add,show Nat.log2 x+1+(6-Nat.log2 x)=7 from by omega]
 have hp:0<2 ^ (6-Nat.log2 x):=Nat.pow_pos (by omega)
 refine ⟨by omega,?_,?_⟩
 ·rw [←e];exact Nat.mul_le_mul_right _ hl
 ·rw [←e2];exact Nat.mul_lt_mul_of_pos_right hu hp
theorem wd_least {x b:Nat} (h1:1≤x) (h2:x≤127) (hb:b<wd x):x*2 ^ b<64:=by
 unfold wd at hb
 have hu:=Nat.lt_log2_self (n:=x)
 have e2:2 ^ (Nat.log2 x+1)*2 ^ b≤64:=by
  rw [←Nat.pow_add]
  exact Nat.le_trans (Nat.pow_le_pow_right (by omega) (show Nat.log2 x+1+b≤6 by omega)) (by decide)
 exact Nat.lt_of_lt_of_le (Nat.mul_lt_mul_of_pos_right hu (Nat.pow_pos (by omega))) e2
def tb (SP zs:List Int):Nat→List Int
 | 0=>[]
 | i+1=>tb SP zs i++[SP.getD i 0,(wd ((nx SP zs i).getD (SP.getD i 0).toNat 0).toNat:Nat),(((nx SP zs i).getD (SP.getD i 0).toNat 0).toNat*2 ^ wd ((nx SP zs i).getD (SP.getD i 0).toNat 0).toNat:Nat)-64]
theorem tb_len (SP zs:List Int) (i:Nat):(tb SP zs i).length=i*3:=by
 induction i with
 | zero=>rfl
 | succ i ih=>rw [tb,List.length_append,ih];simp;omega
theorem shl_in (X j:Nat) (hX:X≤127) (hj:j≤6):wrap64 ((X:Int)*2 ^ j)=((X*2 ^ j:Nat):Int):=by
 have h1:X*2 ^ j≤127*2 ^ 6:=Nat.mul_le_mul hX (Nat.pow_le_pow_right (by omega) hj)
 have e:((X:Int)*2 ^ j)=((X*2 ^ j:Nat):Int):=by simp
 rw [e]
 exact IntWalk.wrap64_in _ (by omega)
theorem tb_rng {zs:List Int} (hn:normB zs=true):∀ k,k≤64→∀ z ∈ tb (pl (fl 0 zs) (plc 64)) zs k,-64≤z∧z≤127:=by
 intro k
 induction k with
 | zero=>intro _ z hz;simp [tb] at hz
 | succ k ih=>
  intro hk z hz
  obtain ⟨s,hs,hsl,hzp,hz64⟩:=sp_sym hn k (by omega)
  have hbd:=normB_bnd hn
  have hbn:=nx_bnd (pl (fl 0 zs) (plc 64)) zs k s
  rw [tb,hs,Int.toNat_natCast] at hz
  simp only [List.mem_append,List.mem_cons,List.not_mem_nil,or_false] at hz
  obtain ⟨X,hX⟩:=Int.eq_ofNat_of_zero_le (show 0≤(nx (pl (fl 0 zs) (plc 64)) zs k).getD s 0 by omega)
  rw [hX,Int.toNat_natCast] at hz
  have hw:=wd_rng (x:=X) (by omega) (by omega)
  rcases hz with hz | rfl | rfl | rfl
  ·exact ih (by omega) z hz
  ·omega
  ·omega
  ·omega
def cX (SP zs:List Int) (p:Nat):Nat:=((nx SP zs p).getD (SP.getD p 0).toNat 0).toNat
theorem tb_step (SP zs:List Int) (n p j:Nat) (hp:p<n) (hj:j<3):(tb SP zs (n+1)).getD (p*3+j) 0=(tb SP zs n).getD (p*3+j) 0:=by
 rw [tb,List.getD_eq_getElem?_getD,List.getElem?_append_left (by rw [tb_len];omega),←List.getD_eq_getElem?_getD]
theorem tb_new (SP zs:List Int) (n j:Nat):(tb SP zs (n+1)).getD (n*3+j) 0=[SP.getD n 0,(wd (cX SP zs n):Nat),(cX SP zs n*2 ^ wd (cX SP zs n):Nat)-64].getD j 0:=by
 rw [tb,List.getD_eq_getElem?_getD,List.getElem?_append_right (by rw [tb_len];omega),tb_len,Nat.add_sub_cancel_left,←List.getD_eq_getElem?_getD]
 rfl
theorem tb_get (SP zs:List Int) (p j:Nat) (hj:j<3):∀ n,p<n→(tb SP zs n).getD (p*3+j) 0=[SP.getD p 0,(wd (cX SP zs p):Nat),(cX SP zs p*2 ^ wd (cX SP zs p):Nat)-64].getD j 0:=by
 intro n
 induction n with
 | zero=>intro h;omega
 | succ n ih=>
  intro h
  by_cases he:p<n
  ·rw [tb_step SP zs n p j he hj,ih he]
  ·obtain rfl:p=n:=by omega
   exact tb_new SP zs p j
structure Gd (T:List Int) (L:Nat):Prop where
 len:T.length=192
 cell:∀ p,p<64→∃ s b z:Nat,T.getD (p*3) 0=s∧T.getD (p*3+1) 0=b∧T.getD (p*3+2) 0=z∧s<L∧b≤6∧z+2 ^ b≤64
theorem wd_top {x:Nat} (h1:1≤x) (h2:x≤127):(x+1)*2 ^ wd x≤128:=by
 unfold wd
 have hu:=Nat.lt_log2_self (n:=x)
 have h6:Nat.log2 x<7:=(Nat.log2_lt (by omega)).2 (by omega)
 have e2:2 ^ (Nat.log2 x+1)*2 ^ (6-Nat.log2 x)=128:=by rw [←Nat.pow_add,show Nat.log2 x+1+(6-Nat.log2 x)=7 from by omega]
 rw [←e2]
 exact Nat.mul_le_mul_right _ hu
theorem gd_tb {zs:List Int} (hn:normB zs=true):Gd (tb (pl (fl 0 zs) (plc 64)) zs 64) zs.length:=by
 refine ⟨tb_len _ _ _,fun p hp=>?_⟩
 obtain ⟨s,hs,hsl,hzp,hz64⟩:=sp_sym hn p hp
 have hbn:=nx_bnd (pl (fl 0 zs) (plc 64)) zs p s
 have hX1:1≤cX (pl (fl 0 zs) (plc 64)) zs p:=by unfold cX;rw [hs,Int.toNat_natCast];omega
 have hX2:cX (pl (fl 0 zs) (plc 64)) zs p≤127:=by unfold cX;rw [hs,Int.toNat_natCast];omega
 have h0:=tb_get (pl (fl 0 zs) (plc 64)) zs p 0 (by omega) 64 hp
 have h1:=tb_get (pl (fl 0 zs) (plc 64)) zs p 1 (by omega) 64 hp
 have h2:=tb_get (pl (fl 0 zs) (plc 64)) zs p 2 (by omega) 64 hp
 have hw:=wd_rng hX1 hX2
 have ht:=wd_top hX1 hX2
 generalize cX (pl (fl 0 zs) (plc 64)) zs p=X at *
 rw [Nat.add_mul,Nat.one_mul] at ht
 exact ⟨s,wd X,X*2 ^ wd X-64,by rw [Nat.add_zero] at h0;rw [h0];simpa using hs,by rw [h1];rfl,by rw [h2];show ((X*2 ^ wd X:Nat):Int)-64=_;omega,hsl,hw.1,by omega⟩
def cB (T:List Int) (p:Nat):Nat:=(T.getD (p*3+1) 0).toNat
def cZ (T:List Int) (p:Nat):Nat:=(T.getD (p*3+2) 0).toNat
def sg (T:List Int) (v E:Nat):Nat→Option (Nat × Nat)
 | 0=>some (v / 2 ^ E % 64,E)
 | i+1=>match sg T v E i with
  | none=>none
  | some (st,en)=>if en<cB T st then none else some (cZ T st+v / 2 ^ (en-cB T st) % 2 ^ cB T st,en-cB T st)
def so (T:List Int) (v E:Nat):Nat→List Int
 | 0=>[]
 | i+1=>so T v E i++[match sg T v E i with | some (st,_)=>T.getD (st*3) 0 | none=>0]
theorem so_len (T:List Int) (v E i:Nat):(so T v E i).length=i:=by
 induction i with
 | zero=>rfl
 | succ i ih=>rw [so,List.length_append,ih];rfl
theorem sg_none {T:List Int} {v E k:Nat} (h:sg T v E k=none):∀ n,k≤n→sg T v E n=none:=by
 intro n
 induction n with
 | zero => intro hk; obtain rfl : k = 0 := by omega
           exact h
 | succ n ih=>
  intro hk
  by_cases e:k=n+1
  ·subst e;exact h
  ·rw [sg,ih (by omega)]
theorem sg_rng {T:List Int} {L:Nat} (hT:Gd T L) (v E:Nat):∀ i st en,sg T v E i=some (st,en)→st<64∧en≤E:=by
 intro i
 induction i with
 | zero=>
  intro st en h
  simp only [sg,Option.some.injEq,Prod.mk.injEq] at h
  omega
 | succ i ih=>
  intro st en h
  rw [sg] at h
  cases hq:sg T v E i with
  | none=>rw [hq] at h;simp at h
  | some q=>
   obtain ⟨s0,e0⟩:=q
   rw [hq] at h
   simp only at h
   obtain ⟨h1,h2⟩:=ih s0 e0 hq
   by_cases hl:e0<cB T s0
   ·rw [if_pos hl] at h;simp at h
   ·rw [if_neg hl] at h
    simp only [Option.some.injEq,Prod.mk.injEq] at h
    obtain ⟨s,b,z,k1,k2,k3,k4,k5,k6⟩:=hT.cell s0 h1
    have hb:cB T s0=b:=by unfold cB;rw [k2,Int.toNat_natCast]
    have hz:cZ T s0=z:=by unfold cZ;rw [k3,Int.toNat_natCast]
    rw [hb,hz] at h
    have:v / 2 ^ (e0-b) % 2 ^ b<2 ^ b:=Nat.mod_lt _ (Nat.pow_pos (by omega))
    omega
theorem sg_step {T:List Int} {v E i st en:Nat} (h:sg T v E i=some (st,en)) (hl:¬en<cB T st):sg T v E (i+1)=some (cZ T st+v / 2 ^ (en-cB T st) % 2 ^ cB T st,en-cB T st):=by
 rw [sg,h]
 simp only
 rw [if_neg hl]
theorem sg_stop {T:List Int} {v E i st en:Nat} (h:sg T v E i=some (st,en)) (hl:en<cB T st):sg T v E (i+1)=none:=by
 rw [sg,h]
 simp only
 rw [if_pos hl]
theorem so_step {T:List Int} {v E i st en:Nat} (h:sg T v E i=some (st,en)):so T v E (i+1)=so T v E i++[T.getD (st*3) 0]:=by
 rw [so,h]
def fgB (T:List Int) (v N n:Nat):Bool:=decide (6≤N∧sg T v (N-6) n=some (0,0))
end Go.Proofs.YtaibkchbkedjnaaGreatDoor
namespace Go.Proofs.YtaibkchbkedjnaaGreatDoor
open Go.RowKit Go.Shelf
attribute [local go_sem] Oper.semAt_some
set_option linter.unusedVariables false
abbrev P64 :={ x:Nat // x<64 }
set_option maxRecDepth 100000 in
theorem place_stops (F:Fence) (n:Nat) (hF:F.fn 249) (hro:F.round=none) (hn:1≤n) (w:World) :
  SeqStops F n Tryz.prog 249 #[] (fun v:P64=>Value.int .i64 ((v.1:Nat):Int)) (fun xs=>xs.map (·.1)=plc 64) (fun _=>True) 64 w:=fun l J Jx W _ _ _ hY h0=>by
 refine callsIn_of_wp Tryz.func249 rfl hF ?_ hro
 simp only [Tryz.ntmps249,List.size_toArray,List.length_cons,List.length_nil,Nat.reduceAdd,Nat.reduceSub,Array.replicate_succ,Array.replicate_zero,List.push_toArray,List.append_toArray,List.nil_append,List.cons_append]
 gi_wp2
 gi_loopw [2,3] (fun p i wr=>∃ (k q:Nat) (pre:List P64),k≤64∧i=.int .i64 k∧q=43*k % 64∧p=.int .i64 q∧pre.map (·.1)=plc k∧J pre wr) (fun _ i _=>64-(intOf i).toNat)
 case atStart=>exact ⟨0,0,[],Nat.zero_le _,rfl,rfl,rfl,rfl,h0⟩
 case round=>
  obtain ⟨k,q,pre,hk,rfl,hq,rfl,hp,hJ⟩:=hrel
  have hq64:q<64:=by omega
  have hl:pre.length=k:=by have:=congrArg List.length hp;simpa [plc_len] using this
  by_cases hlt:k<64
  ·obtain ⟨fn,tmps,assign,body,hy,hR⟩:=hY pre ⟨q,hq64⟩ wr hJ (by omega)
   dsimp only at hy
   have HQ:Hid (q=43*k % 64):=hq
   have HP:Hid (pre.map (·.1)=plc k):=hp
   have HL:Hid (pre.length=k):=hl
   clear hq hp hl
   gi_wp2
   refine hR.mono ?_
   rintro e W3 (⟨rfl,hJ3,hk3⟩ | ⟨rfl,hJx3⟩)
   ·gi_wp2
    go_roundw
    case rel=>exact ⟨k+1,(q+43) % 64,pre++[⟨q,hq64⟩],by omega,by go_num,by rw [HQ.out];omega,by go_num,by rw [List.map_append,HP.out,plc_succ,←HQ.out];rfl,hJ3⟩
    case measure=>simp [intOf];omega
   ·gi_wp2
    refine bodyPost_ret (results_none rfl _ _ _) rfl ?_
    exact ⟨⟨_,rfl⟩,.inr ⟨_,trivial,hJx3⟩⟩
  ·have hke:k=64:=by omega
   subst hke
   gi_wp2
   go_end0
   exact ⟨⟨_,rfl⟩,.inl ⟨pre,hp,hJ⟩⟩
attribute [local go_sem] Oper.semAt_some
set_option linter.unusedVariables false
def Z64 :Array Value:=((List.replicate 64 (0:Int)).map (Value.int .i64)).toArray
theorem z64 :(#[.int .i64 0,.int .i64 0,.int .i64 0,.int .i64 0,.int .i64 0,.int .i64 0,.int .i64 0,.int .i64 0,.int .i64 0,.int .i64 0,.int .i64 0,.int .i64 0,.int .i64 0,.int .i64 0,.int .i64 0,.int .i64 0,.int .i64 0,.int .i64 0,.int .i64 0,.int .i64 0,.int .i64 0,.int .i64 0,.int .i64 0,.int .i64 0,.int .i64 0,.int .i64 0,.int .i64 0,.int .i64 0,.int .i64 0,.int .i64 0,.int .i64 0,.int .i64 0,.int .i64 0,.int .i64 0,.int .i64 0,.int .i64 0,.int .i64 0,.int .i64 0,.int .i64 0,.int .i64 0,.int .i64 0,.int .i64 0,.int .i64 0,.int .i64 0,.int .i64 0,.int .i64 0,.int .i64 0,.int .i64 0,.int .i64 0,.int .i64 0,.int .i64 0,.int .i64 0,.int .i64 0,.int .i64 0,.int .i64 0,.int .i64 0,.int .i64 0,.int .i64 0,.int .i64 0,.int .i64 0,.int .i64 0,.int .i64 0,.int .i64 0,.int .i64 0]:Array Value)=Z64:=rfl
structure SpW (w W:World) (V:Value) (G S Lf:Nat) (tb:List Int) (s left:Nat):Prop where
 bx:Boxed W G 29 V
 rs:W.heap[G+1]?=some (.cells Z64 321 (0,0))
 tab:W.heap[G+1+1]?=some (.cells (tb.map (Value.int .i64)).toArray 321 (0,0))
 sy:Boxed W S 3 (.int .i64 s)
 lf:Boxed W Lf 3 (.int .i64 left)
 bel:Below G w W
section
variable {w W W' : World} {V : Value} {G S Lf : Nat} {tb : List Int} {s left : Nat}
theorem SpW.own {B:Nat} {row:Option Nat} (h:SpW w W V G S Lf tb s left) (hg:W.grownBy W' row) (hr:∀ r,row=some r→B≤r∧∃ o:Obj,W.heap[r]?=some o∧o.isCells=false) (hB:G≤B) (hw:G≤w.heap.size):SpW w W' V G S Lf tb s left:=by
 have hr':∀ r,row=some r→∃ o:Obj,W.heap[r]?=some o∧o.isCells=false:=fun r e=>(hr r e).2
 exact ⟨(grownBy_keeps_cells hg hr' h.bx rfl).trans h.bx,(grownBy_keeps_cells hg hr' h.rs rfl).trans h.rs,(grownBy_keeps_cells hg hr' h.tab rfl).trans h.tab,(grownBy_keeps_cells hg hr' h.sy rfl).trans h.sy,(grownBy_keeps_cells hg hr' h.lf rfl).trans h.lf,h.bel.grown hg (Nat.le_trans hw h.bel.size) (fun k e=>Nat.le_trans hB (hr k e).1)⟩
theorem SpW.setS (h:SpW w W V G S Lf tb s left) (hS:G+1+1<S) (hne:S≠Lf) (s':Nat):SpW w (W.setCell ⟨S,0,none⟩ (.int .i64 s')) V G S Lf tb s' left:=
 ⟨(Below.heap_setCell _ _ _ _ (by simp;omega)).trans h.bx,(Below.heap_setCell _ _ _ _ (by simp;omega)).trans h.rs,(Below.heap_setCell _ _ _ _ (by simp;omega)).trans h.tab,h.sy.set _,(Below.heap_setCell _ _ _ _ (by simpa using hne.symm)).trans h.lf,h.bel.setCell (by simp;omega) _⟩
theorem SpW.setL (h:SpW w W V G S Lf tb s left) (hS:G+1+1<Lf) (hne:S≠Lf) (l':Nat):SpW w (W.setCell ⟨Lf,0,none⟩ (.int .i64 l')) V G S Lf tb s l':=
 ⟨(Below.heap_setCell _ _ _ _ (by simp;omega)).trans h.bx,(Below.heap_setCell _ _ _ _ (by simp;omega)).trans h.rs,(Below.heap_setCell _ _ _ _ (by simp;omega)).trans h.tab,(Below.heap_setCell _ _ _ _ (by simpa using hne)).trans h.sy,h.lf.set _,h.bel.setCell (by simp;omega) _⟩
theorem SpW.setT (h:SpW w W V G S Lf tb s left) (hS:G+1+1<S) (hL:G+1+1<Lf) (x:Nat) (v:Int):SpW w (W.setCell ⟨G+1+1,x,none⟩ (.int .i64 v)) V G S Lf (tb.set x v) s left:=
 ⟨(Below.heap_setCell _ _ _ _ (by simp;omega)).trans h.bx,(Below.heap_setCell _ _ _ _ (by simp)).trans h.rs,by rw [heap_setCell_same _ _ x _ _ _ h.tab];simp [List.map_set],(Below.heap_setCell _ _ _ _ (by simp;omega)).trans h.sy,(Below.heap_setCell _ _ _ _ (by simp;omega)).trans h.lf,h.bel.setCell (by simp;omega) _⟩
end
theorem normB_sumS {zs:List Int} (hn:normB zs=true):(∀ z ∈ zs,0≤z)∧zs.sum=64:=by
 simp only [normB,decide_eq_true_eq] at hn
 exact ⟨fun z hz=>(hn.2.2.1 z hz).1,hn.2.2.2⟩
theorem tab_cell {w:World} {g:Nat} {T:TypeId} {tb:List Int} (h:w.heap[g]?=some (.cells (tb.map (Value.int .i64)).toArray T (0,0))) (x:Nat) (hx:x<tb.length):w.cell? ⟨g,x,none⟩=some (.int .i64 (tb.getD x 0)):=by
 rw [cell_of_row _ _ x _ _ _ h]
 simp [List.getD_eq_getElem?_getD,hx]
theorem wpListIn_load_rowS {n:Nat} {P:Program} {ops:Array Oper} {rest:List Oper} {op:Oper} {a:Act} {w:World} {Q:Exit→Act→World→Prop} (hgd:op.guard=none) (ty:TypeId) (x:Operand) (ho:op.op=.load ty x) (b:Nat) (hx:a.eval x=.pointer (some ⟨b,0,none⟩)) (v:Value)
  (hl:(loadVar ty ⟨b,0,none⟩).run P w=.ok v w) (h:wpListIn Fence.wide n P ops Q rest (a.put op.dst v) w):wpListIn Fence.wide n P ops Q (op :: rest) a w:=wpListIn_plain hgd fun K hK=>by
 refine ⟨fun _ _=>trivial,?_⟩
 show op.uponIn _ _ _ _ _ _ ((op.semAt none a.eval).run P w)
 rw [Oper.semAt_none]
 unfold execOp
 simp only [ho,hx,Instr.loadAt,Instr.sureAddr,Sem.run_bind,Sem.run_pure,Result.andThen_ok,hl]
 exact hK _ _ h
theorem wpListIn_store_rowS {n:Nat} {P:Program} {ops:Array Oper} {rest:List Oper} {op:Oper} {a:Act} {w w':World} {Q:Exit→Act→World→Prop} (hgd:op.guard=none) (ty:TypeId) (x y:Operand) (ho:op.op=.store ty x y) (b:Nat) (hx:a.eval x=.pointer (some ⟨b,0,none⟩)) (v:Value) (hy:a.eval y=v)
  (hl:(storeVar ty ⟨b,0,none⟩ v).run P w=.ok () w') (h:wpListIn Fence.wide n P ops Q rest (a.put op.dst undef) w'):wpListIn Fence.wide n P ops Q (op :: rest) a w:=wpListIn_plain hgd fun K hK=>by
 refine ⟨fun _ _=>trivial,?_⟩
 show op.uponIn _ _ _ _ _ _ ((op.semAt none a.eval).run P w)
 rw [Oper.semAt_none]
 unfold execOp
 simp only [ho,hx,hy,Instr.storeAt,Instr.sureAddr,Sem.run_bind,Sem.run_pure,Result.andThen_ok,hl]
 exact hK _ _ h
theorem results_cell1 {fn:Func} {p:Tmp} {ty:TypeId} (h:fn.results=#[.cell p ty]) (tmps:Array Value) (P:Program) (w:World):(results fn tmps).run P w=((asAddr (tmps.getD p undef)).run P w).andThen fun a w₁=>(loadVar ty a).run P w₁:=by
 simp only [results,h]
 simp [Sem.run_bind,Result.andThen]
theorem below_setRowS {B g:Nat} {w0 w:World} (hb:Below B w0 w) (hBg:B≤g) (cs:Array Value):Below B w0 (w.setRow g cs):=
 hb.trans ⟨rfl,rfl,rfl,by simp [World.setRow],fun k hk=>setRow_other w g k cs (by omega)⟩
def cellN (w:World) (S:Nat):Nat:=match w.cell? ⟨S,0,none⟩ with
 | some v=>(intOf v).toNat
 | none=>0
theorem cellN_eq {w:World} {S s:Nat} {t:TypeId} (h:Boxed w S t (.int .i64 s)):cellN w S=s:=by
 unfold cellN
 rw [h.cell]
 simp [intOf]
set_option maxRecDepth 100000 in
theorem spreadOf_in (n:Nat) (hn3:3≤n) (a:Option Addr) (cap:Nat) (zs:List Int) (w:World) (hb:Ins w a zs) (hn:normB zs=true) :
  CallsIn Fence.wide n Tryz.prog 246 #[.slice a zs.length cap] w fun e w'=>e=.returned (.agg ((pl (fl 0 zs) (plc 64)).map (Value.int .i64)).toArray)∧Below w.heap.size w w':=by
 have h1:1≤n:=by omega
 have hbd:=normB_bnd hn
 obtain ⟨b1,o1,rfl,hb1,hc1⟩:=hb.len_pos 0 (by omega)
 have HC:Hid (∀ i,i<zs.length→w.cell? ⟨b1,o1+i,none⟩=some (.int .i64 (zs.getD i 0))):=hc1
 have hs0:=hc1 0 (by omega)
 have HN:Hid (normB zs=true):=hn
 clear hn hb hc1
 generalize hL:zs.length=L at *
 have HL:Hid (zs.length=L):=hL
 clear hL
 obtain ⟨L',rfl⟩:∃ L',L=L'+1:=⟨L-1,by omega⟩
 refine callsIn_of_wp_marks Tryz.func246 rfl trivial ?_ rfl
 simp only [Tryz.ntmps246,List.size_toArray,List.length_cons,List.length_nil,Nat.reduceAdd,Nat.reduceSub,Array.replicate_succ,Array.replicate_zero,List.push_toArray,List.append_toArray,List.nil_append,List.cons_append]
 gi_wp2
 rw [z64]
 have HB0:Hid (Below w.heap.size w (((w.alloc (Obj.cells #[.slice (some ⟨b1,o1,none⟩) (L'+1) cap] 29)).alloc (Obj.cells Z64 321)).alloc (Obj.cells Z64 321))):=(((Below.refl _ _).alloc nl _).alloc (by simp) _).alloc (by simp;omega) _
 have HX0:Hid (Boxed (((w.alloc (Obj.cells #[.slice (some ⟨b1,o1,none⟩) (L'+1) cap] 29)).alloc (Obj.cells Z64 321)).alloc (Obj.cells Z64 321)) w.heap.size 29 (.slice (some ⟨b1,o1,none⟩) (L'+1) cap)):=((Boxed.new w _ _).alloc _).alloc _
 have HP0:Hid ((((w.alloc (Obj.cells #[.slice (some ⟨b1,o1,none⟩) (L'+1) cap] 29)).alloc (Obj.cells Z64 321)).alloc (Obj.cells Z64 321)).heap[w.heap.size+1]?=some (.cells Z64 321 (0,0))):=by
  have:=World.alloc_heap_new (w.alloc (Obj.cells #[.slice (some ⟨b1,o1,none⟩) (L'+1) cap] 29)) (Obj.cells Z64 321)
  rw [World.size_alloc] at this
  exact (Below.heap_alloc _ _ _ (by simp)).trans this
 have HQ0:Hid ((((w.alloc (Obj.cells #[.slice (some ⟨b1,o1,none⟩) (L'+1) cap] 29)).alloc (Obj.cells Z64 321)).alloc (Obj.cells Z64 321)).heap[w.heap.size+1+1]?=some (.cells Z64 321 (0,0))):=by
  have:=World.alloc_heap_new ((w.alloc (Obj.cells #[.slice (some ⟨b1,o1,none⟩) (L'+1) cap] 29)).alloc (Obj.cells Z64 321)) (Obj.cells Z64 321)
  rw [World.size_alloc,World.size_alloc] at this
  exact this
 have HS0:Hid ((((w.alloc (Obj.cells #[.slice (some ⟨b1,o1,none⟩) (L'+1) cap] 29)).alloc (Obj.cells Z64 321)).alloc (Obj.cells Z64 321)).heap.size=w.heap.size+1+1+1):=by simp [Hid]
 generalize ((w.alloc (Obj.cells #[.slice (some ⟨b1,o1,none⟩) (L'+1) cap] 29)).alloc (Obj.cells Z64 321)).alloc (Obj.cells Z64 321)=W0 at *
 generalize hG:w.heap.size=G at *
 have HG:Hid (w.heap.size=G):=hG
 clear hG
 have c0:=HX0.out.cell
 have c1:W0.cell? ⟨b1,o1+0,none⟩=some (.int .i64 (zs.getD 0 0)):=keep HB0.out hb1 hs0
 have l0:=HX0.out.lt
 have l1:b1<W0.heap.size:=by omega
 obtain ⟨z0,hz0⟩:∃ z0:Int,zs.getD 0 0=z0:=⟨_,rfl⟩
 have HZ:Hid (zs.getD 0 0=z0):=hz0
 rw [hz0] at c1
 rw [Nat.add_zero] at c1
 clear hs0 hz0
 have hmx:Tryz.prog.follows .mixedOrders=true:=by kernel_rfl
 have hz0n:0≤z0:=by have:=normB_get HN.out 0 (by rw [HL.out];omega);rw [HZ.out] at this;omega
 obtain ⟨y0,rfl⟩:=Int.eq_ofNat_of_zero_le hz0n
 gi_region
 all_goals have hsz:=HS0.out
 all_goals have HSZ:Hid (W0.heap.size=G+1+1+1):=hsz
 all_goals clear HS0
 have H1:Hid (SpW w ((W0.alloc (Obj.cells #[.int .i64 0] 3)).alloc (Obj.cells #[.int .i64 (y0:Int)] 3)).drew (.slice (some ⟨b1,o1,none⟩) (L'+1) cap) G W0.heap.size (W0.heap.size+1) (pl (fl 0 zs) []) 0 y0):=
  ⟨(HX0.out.alloc _).alloc _,(Below.heap_alloc _ _ _ (by simp;omega)).trans ((Below.heap_alloc _ _ _ (by omega)).trans HP0.out),(Below.heap_alloc _ _ _ (by simp;omega)).trans ((Below.heap_alloc _ _ _ (by omega)).trans HQ0.out),(Boxed.new W0 3 _).alloc _,(by have:=Boxed.new (W0.alloc (Obj.cells #[.int .i64 0] 3)) 3 (.int .i64 (y0:Int));rw [World.size_alloc] at this;exact this),((HB0.out.alloc (by omega) _).alloc (by simp;omega) _).drew⟩
 have HF:Hid (G+1+1<W0.heap.size∧G+1+1<(W0.heap.size+1)∧W0.heap.size≠(W0.heap.size+1)):=by unfold Hid;omega
 generalize ((W0.alloc (Obj.cells #[.int .i64 0] 3)).alloc (Obj.cells #[.int .i64 (y0:Int)] 3)).drew=W1 at H1 ⊢
 generalize W0.heap.size+1=Lf at H1 HF ⊢
 generalize W0.heap.size=S at H1 HF ⊢
 clear HX0 HP0 HQ0 HB0 HSZ l0 l1 c0 c1 hmx hsz
 rotate_left
 have H1:Hid (SpW w ((W0.alloc (Obj.cells #[.int .i64 (y0:Int)] 3)).alloc (Obj.cells #[.int .i64 0] 3)).drew (.slice (some ⟨b1,o1,none⟩) (L'+1) cap) G (W0.heap.size+1) W0.heap.size (pl (fl 0 zs) []) 0 y0):=
  ⟨(HX0.out.alloc _).alloc _,(Below.heap_alloc _ _ _ (by simp;omega)).trans ((Below.heap_alloc _ _ _ (by omega)).trans HP0.out),(Below.heap_alloc _ _ _ (by simp;omega)).trans ((Below.heap_alloc _ _ _ (by omega)).trans HQ0.out),(by have:=Boxed.new (W0.alloc (Obj.cells #[.int .i64 (y0:Int)] 3)) 3 (.int .i64 0);rw [World.size_alloc] at this;exact this),(Boxed.new W0 3 _).alloc _,((HB0.out.alloc (by omega) _).alloc (by simp;omega) _).drew⟩
 have HF:Hid (G+1+1<(W0.heap.size+1)∧G+1+1<W0.heap.size∧(W0.heap.size+1)≠W0.heap.size):=by unfold Hid;omega
 generalize ((W0.alloc (Obj.cells #[.int .i64 (y0:Int)] 3)).alloc (Obj.cells #[.int .i64 0] 3)).drew=W1 at H1 ⊢
 generalize W0.heap.size+1=S at H1 HF ⊢
 generalize W0.heap.size=Lf at H1 HF ⊢
 clear HX0 HP0 HQ0 HB0 HSZ l0 l1 c0 c1 hmx hsz
 all_goals
  obtain ⟨hS,hLf,hne⟩:=HF.out
  have HW1:Hid (G≤W1.heap.size):=by have:=H1.out.bx.lt;unfold Hid;omega
  have hsum64:=(normB_sumS HN.out)
  have HALL:Hid ((∀ z ∈ zs,0≤z)∧zs.sum=64):=hsum64
  clear hsum64 HF
  gi_wp2
  refine wpIn_rangeFunc_ownF rfl h1 (gf:=249) (lb:=#[]) rfl trivial (enters_of Tryz.func249 (by kernel_rfl) rfl)
   (encs:=fun x:P64=>#[.int .i64 ((x.1:Nat):Int)]) (Kp:=KeepsWalks) (place_stops Fence.wide (n-1) trivial rfl (by omega) W1) walksK_t walksK_b (Below.refl _ _) (fun _=>rfl)
   (fun pre W=>∃ s left:Nat,s<L'+1∧(left:Int)≤zs.getD s 0∧(zs.take s).sum+zs.getD s 0-left=(pre.length:Int)∧SpW w W (.slice (some ⟨b1,o1,none⟩) (L'+1) cap) G S Lf (pl (fl 0 zs) (pre.map (·.1))) s left)
   (fun _ _ _=>False)
   (fun pre A B row hs hg hr=>by obtain ⟨s,left,p1,p2,p3,h⟩:=hs;exact ⟨s,left,p1,p2,p3,h.own hg hr HW1.out (by rw [HG.out];exact Nat.le_refl _)⟩)
   (fun _ _ _ _ _ hs _ _=>hs)
   ⟨0,y0,by omega,by rw [HZ.out];exact Int.le_refl _,by rw [HZ.out];simp,H1.out⟩
   (fun x=>{ tmps:=#[(.slice (some ⟨b1,o1,none⟩) (L'+1) cap),.pointer (some ⟨G,0,none⟩),.pointer (some ⟨G+1,0,none⟩),.pointer (some ⟨G+1+1,0,none⟩),.pointer (some ⟨S,0,none⟩),.pointer (some ⟨Lf,0,none⟩),.int .i64 ((x.1:Nat):Int),(.slice (some ⟨b1,o1,none⟩) (L'+1) cap),.pointer (some ⟨b1,o1,none⟩),.int .i64 y0,.int .i64 ((x.1:Nat):Int),undef,undef,undef,undef,undef,undef,undef,undef,undef,undef,undef,undef,undef,undef],defers:=[] }) ?assign ?body ?done ?stop
  case assign=>
   intro l x W K hK
   gi_wp2
   exact hK
  case body=>
   rintro l pre ⟨x,hx⟩ W ⟨s,left,hs,hle,hsum,hw⟩ hlt
   have HH:Hid (∃ s left:Nat,s<L'+1∧(left:Int)≤zs.getD s 0∧(zs.take s).sum+zs.getD s 0-left=(pre.length:Int)∧SpW w W (.slice (some ⟨b1,o1,none⟩) (L'+1) cap) G S Lf (pl (fl 0 zs) (pre.map (·.1))) s left):=⟨s,left,hs,hle,hsum,hw⟩
   clear hs hle hsum hw s left
   gi_wp2
   gi_loopw [] (fun wr=>(∃ s left:Nat,s<L'+1∧(left:Int)≤zs.getD s 0∧(zs.take s).sum+zs.getD s 0-left=(pre.length:Int)∧SpW w wr (.slice (some ⟨b1,o1,none⟩) (L'+1) cap) G S Lf (pl (fl 0 zs) (pre.map (·.1))) s left)∧KeepsOthers W wr) (fun wr=>L'+1-cellN wr S)
   case atStart=>exact ⟨HH.out,KeepsOthers.refl _⟩
   case round=>
    obtain ⟨⟨s,left,hs,hle,hsum,hw⟩,hko⟩:=hrel
    have HNs:Hid (cellN wr S=s):=cellN_eq hw.sy
    have HKO:Hid (KeepsOthers W wr):=hko
    have x0:=hw.bx.cell
    have x1:=hw.sy.cell
    have x2:=hw.lf.cell
    have y1:=hw.sy.frozen
    have y2:=hw.lf.frozen
    have h1s:=sum_succ zs s (by rw [HL.out];exact hs)
    have hgs:=normB_get HN.out s (by rw [HL.out];exact hs)
    by_cases hl0:left=0
    ·subst hl0
     have hs1:s+1<L'+1:=by
      rcases Nat.lt_or_ge (s+1) (L'+1) with h | h
      ·exact h
      ·exfalso
       have e:s+1=zs.length:=by rw [HL.out];omega
       rw [e,List.take_length,HALL.out.2] at h1s
       omega
     have hg:=normB_get HN.out (s+1) (by rw [HL.out];exact hs1)
     obtain ⟨z1,hz1⟩:=Int.eq_ofNat_of_zero_le hg.1
     have HZ1:Hid (zs.getD (s+1) 0=(z1:Int)):=hz1
     have hc:=keep hw.bel hb1 (HC.out (s+1) hs1)
     rw [hz1] at hc
     have hbS:b1≠S:=by omega
     have hbL:b1≠Lf:=by omega
     have HSUM:Hid ((zs.take (s+1)).sum+zs.getD (s+1) 0-z1=(pre.length:Int)):=by unfold Hid;rw [h1s,HZ1.out];omega
     have HW2:Hid (SpW w ((wr.setCell ⟨S,0,none⟩ (.int .i64 ((s:Int)+1))).setCell ⟨Lf,0,none⟩ (.int .i64 z1)) (.slice (some ⟨b1,o1,none⟩) (L'+1) cap) G S Lf (pl (fl 0 zs) (pre.map (·.1))) (s+1) z1):=by
      have:=(hw.setS hS hne (s+1)).setL hLf hne z1
      rw [show (((s+1:Nat)):Int)=(s:Int)+1 from by omega] at this
      exact this
     have hSL:=hne
     have hLS:=hne.symm
     clear hw hle hsum h1s hgs hg hz1 hko
     gi_wp2
     go_roundw
     case rel=>exact ⟨⟨s+1,z1,hs1,by rw [HZ1.out];exact Int.le_refl _,HSUM.out,HW2.out⟩,(HKO.out.trans (KeepsOthers.setCell _ _ _)).trans (KeepsOthers.setCell _ _ _)⟩
     case measure=>
      rw [cellN_eq HW2.out.sy,HNs.out]
      omega
    ·obtain ⟨l',rfl⟩:∃ l',left=l'+1:=⟨left-1,by omega⟩
     have hl1:(((l'+1:Nat):Int) == 0)=false:=by simp;omega
     have HFL:Hid ((fl 0 zs).getD (pre.map (·.1)).length 0=(s:Int)):=by
      unfold Hid
      have h2:=sum_nn HALL.out.1 s
      have:=fl_at zs 0 s (zs.getD s 0-(l'+1:Nat)).toNat HALL.out.1 (by rw [HL.out];exact hs) (by omega)
      rw [show (zs.take s).sum.toNat+(zs.getD s 0-(l'+1:Nat)).toNat=(pre.map (·.1)).length from by rw [List.length_map];omega,Nat.zero_add] at this
      exact this
     have hlen:=pl_len (fl 0 zs) (pre.map (·.1))
     have hc:=tab_cell hw.tab x (by rw [hlen];exact hx)
     have hf:=frozen_of_row wr _ x _ _ hw.tab
     have HW2:Hid (SpW w ((wr.setCell ⟨G+1+1,x,none⟩ (.int .i64 s)).setCell ⟨Lf,0,none⟩ (.int .i64 l')) (.slice (some ⟨b1,o1,none⟩) (L'+1) cap) G S Lf (pl (fl 0 zs) ((pre++[(⟨x,hx⟩:P64)]).map (·.1))) s l'):=by
      have:=(hw.setT hS hLf x (s:Int)).setL hLf hne l'
      rw [List.map_append,List.map_cons,List.map_nil,pl_snoc,HFL.out]
      exact this
     have HSUM:Hid ((zs.take s).sum+zs.getD s 0-l'=((pre++[(⟨x,hx⟩:P64)]).length:Int)):=by unfold Hid;rw [List.length_append,List.length_singleton];omega
     have HLE:Hid ((l':Int)≤zs.getD s 0):=by unfold Hid;omega
     have hlb:(l':Int)≤64:=by omega
     have hTS:G+1+1≠S:=by omega
     have hTL:G+1+1≠Lf:=by omega
     have hST:=hTS.symm
     have hLT:=hTL.symm
     generalize (pl (fl 0 zs) (pre.map (·.1))).getD x 0=old at *
     clear hw hle hsum h1s hgs hko hlen
     gi_wp2
     have hk2:=(HKO.out.trans (KeepsOthers.setCell wr ⟨G+1+1,x,none⟩ (.int .i64 s))).trans (KeepsOthers.setCell _ ⟨Lf,0,none⟩ (.int .i64 l'))
     exact ⟨hk2,hk2.walks,s,l',hs,HLE.out,HSUM.out,HW2.out⟩
  case done=>
   rintro D ys W hD hys ⟨s,left,hs,hle,hsum,hw⟩ hK
   rw [hys] at hw
   have hlen:=pl_len (fl 0 zs) (plc 64)
   have hsz:(((pl (fl 0 zs) (plc 64)).map (Value.int .i64)).toArray).size=64:=by simp [hlen]
   have hlv:=run_loadVar_row (P:=Tryz.prog) W (G+1+1) 321 321 _ (0,0) _ hw.tab Tryz.underlying321 rfl (by rw [hsz];kernel_rfl)
   have hsv:=run_storeVar_row (P:=Tryz.prog) W (G+1) 321 321 Z64 _ hw.rs (by rw [hsz];kernel_rfl) (by rw [hsz];rfl) (by simp [Value.oneCell'])
   have HLV:Hid _:=hlv
   have HSV:Hid _:=hsv
   have HWW:Hid (SpW w W (.slice (some ⟨b1,o1,none⟩) (L'+1) cap) G S Lf (pl (fl 0 zs) (plc 64)) s left):=hw
   clear hlv hsv hw
   simp only [Exit.then,Exit.inBlock]
   gi_step
   apply wpIn_seq_k
   intro _ _
   apply wpIn_region_lit
   refine wpListIn_load_rowS rfl 321 (.tmp 3) rfl (G+1+1) rfl _ HLV.out ?_
   refine wpListIn_store_rowS rfl 321 (.tmp 2) (.tmp 24) rfl (G+1) rfl _ rfl HSV.out ?_
   apply wpListIn_nil
   gi_wp2
   have hD1:G+1<D:=by
    have h2:=(Array.getElem?_eq_some_iff.1 H1.out.tab).1
    omega
   generalize hE:((pl (fl 0 zs) (plc 64)).map (Value.int .i64)).toArray=E at *
   have hK':(W.setRow (G+1) E).heap[D]?=some (.deferred (some [])):=(setRow_other _ _ _ _ (by omega)).trans hK
   have hr1:(W.setRow (G+1) E).heap[G+1]?=some (.cells E 321 (0,0)):=setRow_heap _ _ _ _ _ _ HWW.out.rs
   have hr2:((W.setRow (G+1) E).putObj D (.deferred none)).heap[G+1]?=some (.cells E 321 (0,0)):=(World.putObj_heap_other (by omega)).trans hr1
   have hlast:=run_loadVar_row (P:=Tryz.prog) _ (G+1) 321 321 E (0,0) _ hr2 Tryz.underlying321 rfl (by rw [hsz];kernel_rfl)
   refine ⟨by simp,.inl ⟨_,_,rfl,run_takeDeferred hK',?_⟩⟩
   refine ⟨.agg E,?_,rfl,?_⟩
   ·rw [results_cell1 Tryz.results246]
    exact hlast
   ·rw [HG.out]
    exact (below_setRowS HWW.out.bel (by omega) _).trans (belowK_b (w:=W1) HW1.out _ D _ _ hD hK' rfl rfl)
  case stop=>
   rintro D c pre W _ _ h _
   exact h.elim
end Go.Proofs.YtaibkchbkedjnaaGreatDoor
