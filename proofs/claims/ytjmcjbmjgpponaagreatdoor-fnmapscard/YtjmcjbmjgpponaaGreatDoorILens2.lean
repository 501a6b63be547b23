import Derived.Test.YtjmcjbmjgpponaaGreatDoorHGet8
set_option maxRecDepth 20000
set_option maxHeartbeats 16000000
namespace Go.Proofs.YtjmcjbmjgpponaaGreatDoor
open Go.RowKit
set_option linter.unusedVariables false
theorem zk5 (a:Option Addr) (ca:Nat) (ls:List Int) (b:Option Addr) (cb:Nat) (cs:List Int) (x:Option Addr) (cx:Nat) (zs:List Int) (n v p:Nat) (w:World) (ha:Ins w a ls) (hb:Ins w b cs) (hx:Byt w x zs) (hz:zs=enc n v) (hn:n<=4104) (hp:p<=n) (hl:ls.length<=80) (hcl:cs.length=ls.length) :
  Calls Tryz.prog 127 #[.slice a ls.length ca,.slice b ls.length cb,.agg #[.slice x zs.length cx,.int .i64 n],.int .i64 p] w fun e w'=>Below w.heap.size w w' /\
   ((∃ k i, 1 <= k /\ k <= 12 /\ p + k <= n /\ i < ls.length /\ Hit ls cs v p k i /\ (∀ j, j < i -> ¬ Hit ls cs v p k j) /\ z0y ls cs v p (k-1) /\ e = .returned (.tuple #[.int .i64 i, .int .i64 (p + k : Nat)])) \/
    (z0y ls cs v p (min 12 (n-p))/\e=.returned (.tuple #[.int .i64 (-1),.int .i64 (-1)]))):=by
 have hw:Bw w (w.alloc (Obj.cells #[.slice x zs.length cx,.int .i64 n] 106)):=bAw;have HW:Hid _:=hw;have HA:Hid (Ins w a ls):=ha;have HB:Hid (Ins w b cs):=hb;have HX:Hid (Byt w x zs):=hx;have HZ:Hid (zs=enc n v):=hz;have HL:Hid (zs.length=(n+7) / 8):=by unfold Hid;rw [hz,z0a]
 have HC:Hid (cs.length=ls.length):=hcl;clear hw ha hb hx hz hcl;generalize hz0:zs.length=Z at *;have HZL:Hid (zs.length=Z):=hz0;clear hz0;generalize hn0:ls.length=m at *;have HLL:Hid (ls.length=m):=hn0;clear hn0
 go_enter Tryz.func127,Tryz.ntmps127
 go_wp2
 go_loopw [3,10,11] (fun t c k wr=>∃ (j:Nat) (tz kz cz:Int),j<=12/\p+j<=n/\tz=(p:Int)+j/\kz=(j:Int)+1/\cz=(cd v p j:Nat)/\t=.int .i64 tz/\c=.int .i64 cz/\k=.int .i64 kz/\Below w.heap.size w wr/\w.heap.size<wr.heap.size /\
   wr.cell? ⟨w.heap.size,0,none⟩=some (.slice x Z cx)/\wr.cell? ⟨w.heap.size,1,none⟩=some (.int .i64 n)/\z0y ls cs v p j) (fun _ _ k _=>(13-intOf k).toNat)
 case atStart=>exact ⟨0,p,1,0,by omega,by omega,by simp,by simp,by simp [cd],rfl,rfl,rfl,HW.out,by simp,by simp,by simp,fun j i h1 h2=>by omega⟩
 case round=>
  clear HW;obtain ⟨j,tz,kz,cz,hj,hpj,ht,hk,hc,rfl,rfl,rfl,hbel,hsz,p0,p1,hnh⟩:=hrel;have HNH:Hid (z0y ls cs v p j):=hnh;have HBL:Hid (Bw w wr):=hbel;have HT:Hid (tz=(p:Int)+j):=ht;have HK:Hid (kz=(j:Int)+1):=hk;have hcb:=zgv v p j;have hcp:2 ^ j<=2 ^ 12:=Nat.pow_le_pow_right (by omega) hj
  have hcz:0<=cz/\cz<=4096:=by omega
  have HCZ:Hid (cz=(cd v p j:Nat)):=hc;have htz:0<=tz/\tz<=4200:=by omega
  have hkz:1<=kz/\kz<=13:=by omega
  clear hnh hbel hcb hcp hc
  by_cases hgo:j<12/\p+j<n
  ·have h1:kz<=12:=by omega
   have h2:tz<(n:Int):=by omega
   have HBT:Hid (z3w zs tz.toNat=v / 2 ^ (p+j) % 2):=by
    have:=z2n n v (p+j) (by omega)
    rw [<-HZ.out] at this;unfold Hid;rw [show tz.toNat=p+j from by omega]
    exact this
   have HZT:Hid (tz.toNat / 8<zs.length):=by have:=HL.out;have:=HZL.out;unfold Hid;omega
   have HLB:=z21 x cx zs (n:Int) tz wr (HX.out.below HBL.out nl) htz.1 HZT.out (by omega)
   rw [HZL.out,HBT.out] at HLB;have hb2:v / 2 ^ (p+j) % 2<2:=Nat.mod_lt _ (by omega)
   have HCD:Hid (2*cz+((v / 2 ^ (p+j) % 2:Nat):Int)=(cd v p (j+1):Nat)):=by have:=HCZ.out;unfold Hid;simp only [cd];omega
   generalize hbb:((v / 2 ^ (p+j) % 2:Nat):Int)=bz at *;have hbz:0<=bz/\bz<=1:=by omega
   clear ht hk hb2 hbb;go_wp2_with fail
   refine HLB.mono ?_;clear HLB;rintro e w1 ⟨rfl,hb1⟩;have HB1:Hid (Bw w w1):=HBL.out.trans (hb1.mono (Nat.le_of_lt hsz));have q0:=keep hb1 hsz p0;have q1:=keep hb1 hsz p1;have hsz1:w.heap.size<w1.heap.size:=Nat.lt_of_lt_of_le hsz hb1.size;clear hb1 p0 p1 hsz;have hdz:0<=2*cz+bz/\2*cz+bz<=8193:=by omega
   go_wp2
   generalize 2*cz+bz=ez at *
   go_loopw [12] (fun i wi=>∃ q:Nat,q<=m/\i=.int .i64 q/\wi=w1/\∀ y,y<q->¬Hit ls cs v p (j+1) y) (fun i _=>m-(intOf i).toNat)
   case atStart=>exact ⟨0,Nat.zero_le _,rfl,rfl,fun y hy=>by omega⟩
   case round=>
    obtain ⟨q,hq,rfl,hwi,hny⟩:=hrel;subst hwi;have HNY:Hid (∀ y,y<q->¬Hit ls cs v p (j+1) y):=hny;clear hny
    by_cases hlt:q<m
    ·obtain ⟨b1,o1,rfl,hb1,hc1⟩:=(HA.out.below HB1.out nl).len_pos q (by rw [HLL.out];exact hlt)
     have l0:=hc1 q (by rw [HLL.out];exact hlt)
     obtain ⟨b2,o2,rfl,hb2,hc2⟩:=(HB.out.below HB1.out nl).len_pos q (by rw [HC.out];exact hlt)
     have d0:=hc2 q (by rw [HC.out];exact hlt)
     have HHI:Hid (Hit ls cs v p (j+1) q↔ls.getD q 0=kz/\cs.getD q 0=ez):=by
      unfold Hid Hit;rw [HCD.out,HK.out]
      simp
     generalize ls.getD q 0=lz at *;generalize cs.getD q 0=dz at *;clear hc1 hc2;have HGO:Hid (¬Hit ls cs v p (j+1) q->∀ y,y<q+1->¬Hit ls cs v p (j+1) y):=fun h y hy=>by
      by_cases hyq:y=q
      ·subst hyq;exact h
      ·exact HNY.out y (by omega)
     by_cases hlk:lz=kz
     ·subst hlk
      by_cases hde:dz=ez
      ·subst hde
       have HH:Hid (Hit ls cs v p (j+1) q):=HHI.out.2 ⟨rfl,rfl⟩;have HPK:Hid (tz+1=((p+(j+1):Nat):Int)):=by have:=HT.out;unfold Hid;omega
       clear HHI HGO;go_wp2;refine bodyPost_ret (v:=.tuple #[.int .i64 q,.int .i64 (tz+1)]) (by simp [results,Tryz.results127,go_sem]) rfl ?_
       exact ⟨HB1.out,.inl ⟨j+1,q,by omega,by omega,by omega,by omega,HH.out,HNY.out,HNH.out,by rw [HPK.out]⟩⟩
      ·have HN2:Hid (∀ y,y<q+1->¬Hit ls cs v p (j+1) y):=HGO.out (fun h=>hde (HHI.out.1 h).2)
       have hne:(dz == ez)=false:=by simpa using hde
       clear HHI HGO HNY;go_wp2;go_roundw
       case rel=>exact ⟨q+1,by omega,by go_num,trivial,HN2.out⟩
       case measure=>simp [intOf];omega
     ·have HN2:Hid (∀ y,y<q+1->¬Hit ls cs v p (j+1) y):=HGO.out (fun h=>hlk (HHI.out.1 h).1)
      have hne:(lz == kz)=false:=by simpa using hlk
      clear HHI HGO HNY;go_wp2;go_roundw
      case rel=>exact ⟨q+1,by omega,by go_num,trivial,HN2.out⟩
      case measure=>simp [intOf];omega
    ·have hqm:q=m:=by omega
     subst hqm;have HN2:Hid (z0y ls cs v p (j+1)):=fun y i h3 h4 h5=>by
      by_cases hy:y=j+1
      ·subst hy;exact HNY.out i (by rw [HLL.out] at h5;exact h5)
      ·exact HNH.out y i h3 (by omega) h5
     have HT2:Hid (tz+1=(p:Int)+(j+1:Nat)):=by have:=HT.out;unfold Hid;omega
     have HK2:Hid (kz+1=((j+1:Nat):Int)+1):=by have:=HK.out;unfold Hid;omega
     clear HNY HNH;go_wp2;go_roundw
     case rel=>exact ⟨j+1,tz+1,kz+1,ez,by omega,by omega,HT2.out,HK2.out,HCD.out,by go_num,rfl,by go_num,HB1.out,hsz1,q0,q1,HN2.out⟩
     case measure=>simp [intOf];omega
  ·have HFN:Hid (z0y ls cs v p (min 12 (n-p))):=by
    have e:min 12 (n-p)=j:=by omega
    rw [e];exact HNH.out
   by_cases h12:j<12
   ·have h1:kz<=12:=by omega
    have h2:(n:Int)<=tz:=by omega
    clear ht hk;go_wp2;refine bodyPost_ret (v:=.tuple #[.int .i64 (-1),.int .i64 (-1)]) (by simp [results,Tryz.results127,go_sem]) rfl ?_
    exact ⟨HBL.out,.inr ⟨HFN.out,rfl⟩⟩
   ·have h1:12<kz:=by omega
    clear ht hk;go_wp2;refine bodyPost_ret (v:=.tuple #[.int .i64 (-1),.int .i64 (-1)]) (by simp [results,Tryz.results127,go_sem]) rfl ?_
    exact ⟨HBL.out,.inr ⟨HFN.out,rfl⟩⟩
theorem zji (a:Option Addr) (ca:Nat) (ls:List Int) (x:Option Addr) (cx:Nat) (zs:List Int) (n v p N:Nat) (w:World) (ha:Ins w a ls) (hx:Byt w x zs) (hz:zs=enc n v) (hn:n<=4104) (hp:p<=n) (hl:ls.length<=80) (hN:N<=300) :
  Calls Tryz.prog 104 #[.slice a ls.length ca,.agg #[.slice x zs.length cx,.int .i64 n],.int .i64 p,.int .i64 N] w fun e w'=>Below w.heap.size w w' /\
   ((∃ q E u, q.length = N /\ Reads ls (zh ls (sbL ls 12)).2.2 n v p q E /\ OVI w' w.heap.size u q /\ e = .returned (.tuple #[u, .int .i64 (E : Nat), .bool true])) \/
    (∃ q E,q.length<N/\Reads ls (zh ls (sbL ls 12)).2.2 n v p q E/\z0y ls (zh ls (sbL ls 12)).2.2 v E (min 12 (n-E))/\e=.returned (.tuple #[.slice none 0 0,.int .i64 (-1),.bool false]))):=by
 obtain ⟨i0,hi,hz0,hz1,hz2⟩:=info_parts Tryz.infoI64;have hw:Below w.heap.size w (w.alloc (Obj.cells #[.slice x zs.length cx,.int .i64 n] 106)):=bAw;have r0:(w.alloc (Obj.cells #[.slice x zs.length cx,.int .i64 n] 106)).cell? ⟨w.heap.size,0,none⟩=some (.slice x zs.length cx):=by simp
 have r1:(w.alloc (Obj.cells #[.slice x zs.length cx,.int .i64 n] 106)).cell? ⟨w.heap.size,1,none⟩=some (.int .i64 n):=by simp
 have HSZ:Hid (w.heap.size<(w.alloc (Obj.cells #[.slice x zs.length cx,.int .i64 n] 106)).heap.size):=by simp [Hid]
 have HLC:=z7f a ca ls _ (ha.below hw nl) hl;have HCL:Hid _:=z5g ls (sbL ls 12);have HZ:Hid (zs=enc n v):=hz;clear hz
 go_enter Tryz.func104,Tryz.ntmps104
 go_wp2_with fail
 generalize w.alloc (Obj.cells #[.slice x zs.length cx,.int .i64 n] 106)=W at *;refine HLC.mono ?_;clear HLC;rintro e w1 ⟨rfl,hc1,hb1⟩;have hbw1:Below w.heap.size w w1:=hw.trans (hb1.mono (Nat.le_of_lt HSZ.out));have HBW:Hid (Below w.heap.size w w1):=hbw1;have HA:Hid (Ins w1 a ls):=ha.below hbw1 nl;have HX:Hid (Byt w1 x zs):=hx.below hbw1 nl;have HCC:Hid (Ins w1 (some ⟨W.heap.size,0,none⟩) (zh ls (sbL ls 12)).2.2):=hc1.byt
 have HR:Hid (w1.cell? ⟨w.heap.size,0,none⟩=some (.slice x zs.length cx)/\w1.cell? ⟨w.heap.size,1,none⟩=some (.int .i64 n)):=⟨keep hb1 HSZ.out r0,keep hb1 HSZ.out r1⟩;have HS1:Hid (w.heap.size<w1.heap.size):=by have:=HSZ.out;have:=hb1.size;unfold Hid;omega
 clear hw r0 r1 HSZ hc1 hb1 hbw1 ha hx;generalize W.heap.size=gc at *;generalize hcs0:(zh ls (sbL ls 12)).2.2=cs at *;have HCSE:Hid ((zh ls (sbL ls 12)).2.2=cs):=hcs0;clear hcs0;generalize hB:w1.heap.size=B at *;have HB:Hid (w1.heap.size=B):=hB;clear hB;go_wp2
 go_loopw [2,12,13] (fun t o i wr=>∃ (k:Nat) (q:List Int) (P:Nat),k<=N/\i=.int .i64 k/\t=.int .i64 P/\P<=n/\OVI wr B o q/\q.length=k/\Reads ls cs n v p q P/\Below B w1 wr) (fun _ _ i _=>N-(intOf i).toNat)
 case atStart=>exact ⟨0,[],p,Nat.zero_le _,rfl,rfl,hp,OVI.nil _ _,rfl,.nil,Below.refl _ _⟩
 case round=>
  obtain ⟨k,q,P,hk,rfl,rfl,hP,hov,hql,hrd,hbel⟩:=hrel;obtain ⟨au,cu,rfl⟩:=hov.form;have HQL:Hid (q.length=k):=hql;rw [hql] at hov ⊢;have HOV:Hid (OVI wr B (.slice au k cu) q):=hov;have HRD:Hid (Reads ls cs n v p q P):=hrd;have HBL:Hid (Below B w1 wr):=hbel;have c0:=keep hbel HS1.out HR.out.1;have c1:=keep hbel HS1.out HR.out.2;have HBB:Hid (Below w.heap.size w wr):=HBW.out.trans (hbel.mono (Nat.le_of_lt HS1.out))
  have HZW:Hid (B<=wr.heap.size):=by have:=hbel.size;have:=HB.out;unfold Hid;omega
  clear hov hql hrd hbel
  by_cases hlt:k<N
  ·have HONE:=zk5 a ca ls (some ⟨gc,0,none⟩) ls.length cs x cx zs n v P wr (HA.out.below HBL.out (by rw [HB.out];exact Nat.le_refl _)) (HCC.out.below HBL.out (by rw [HB.out];exact Nat.le_refl _)) (HX.out.below HBL.out (by rw [HB.out];exact Nat.le_refl _)) HZ.out hn hP hl HCL.out
   go_wp2_with fail
   refine HONE.mono ?_;clear HONE;rintro e w2 ⟨hb2,⟨m,i,g1,g2,g3,g4,g5,g6,g7,rfl⟩ | ⟨hno,rfl⟩⟩
   ·have HB2:Hid (Below B w1 w2):=HBL.out.trans (hb2.mono HZW.out)
    have HOV2:Hid (OVI w2 B (.slice au k cu) q):=HOV.out.stay (Only.ofBelow (S:=fun _=>False) hb2 nl) (by simp)
    have HRD2:Hid (Reads ls cs n v p (q++[(i:Int)]) (P+m)):=.snoc HRD.out ⟨g1,g2,g3,g4,g5,g6,g7⟩;have hz3:B<=w2.heap.size:=Nat.le_trans HZW.out hb2.size;have hu:w2.ownsRow B 3 1 (.slice au k cu) k (q.map (Value.int .i64)):=by have:=HOV2.out.1;rw [HQL.out] at this;exact this
    clear hb2 g5 g6 g7 HRD HOV HBL c0 c1;generalize P+m=P2 at *;generalize hiz:(i:Int)=iz at *;have hir:0<=iz/\iz<=80:=by omega
    clear hiz g1 g2 g4;have HN3:Hid (k+1<=300):=by unfold Hid;omega
    have hk3:k+1<=300:=HN3.out;clear hN hn hl hp hP;go_wp2_with (at_builtin;(refine wpList_append_lies _ rfl (.tmp 33) (.tmp 35) 57 rfl B 3 i0 (.int .i64 0) 1 8 Tryz.underlying57 hi hz0 hz1 hz2 rfl (by decide) (.slice au k cu) k (q.map (Value.int .i64)) rfl (hu.alloc _) ⟨w2.heap.size,0,none⟩ 1 1 [.int .i64 iz] rfl rfl (by intro j y hj;match j,hj with | 0,hj=>(simp at hj;subst hj;simp [Addr.add])) (by intro y hy;simp at hy;subst hy;rfl) (by have:=HN3.out;omega) (by have:=HN3.out;unfold maxLen;omega) (by have:=HN3.out;omega) (by simp;omega) _ rfl ?_);intro g cap1 w4 hown hgrow hat hlt1)
    have HOV4:Hid (OVI w4 B (.slice (some ⟨g,0,none⟩) (k+1) cap1) (q++[iz])):=OVI.app HQL.out HOV2.out.2 (by omega) hown
    have HB4:Hid (Below B w1 w4):=z26 HB2.out hz3 HOV2.out hgrow;clear hown hgrow hat hlt1 HOV2 HB2 hu;go_wp2;go_roundw
    case rel=>exact ⟨k+1,q++[iz],P2,by omega,by go_num,rfl,g3,HOV4.out,by rw [List.length_append,HQL.out];rfl,HRD2.out,HB4.out⟩
    case measure=>simp [intOf];omega
   ·have HB2:Hid (Below w.heap.size w w2):=HBB.out.trans (hb2.mono (by have:=HZW.out;have:=HS1.out;omega))
    have HNO:Hid (z0y ls cs v P (min 12 (n-P))):=hno;clear hb2 hno HOV HBL c0 c1;go_wp2;refine bodyPost_ret (v:=.tuple #[.slice none 0 0,.int .i64 (-1),.bool false]) (by simp [results,Tryz.results104,go_sem]) rfl ?_
    rw [HCSE.out];exact ⟨HB2.out,.inr ⟨q,P,by rw [HQL.out];exact hlt,HRD.out,HNO.out,rfl⟩⟩
  ·have hkn:k=N:=by omega
   subst hkn;go_wp2;refine bodyPost_ret (v:=.tuple #[.slice au k cu,.int .i64 (P:Nat),.bool true]) (by simp [results,Tryz.results104,go_sem]) rfl ?_
   rw [HCSE.out];exact ⟨HBB.out,.inl ⟨q,P,_,HQL.out,HRD.out,HOV.out.weak (Nat.le_of_lt HS1.out),rfl⟩⟩
theorem zcv (a:Option Addr) (cap:Nat) (zs:List Int) (w:World) (hb:Ins w a zs) (hn:zs.length<=281474976710656) :
  Calls Tryz.prog 145 #[.slice a zs.length cap] w fun e w'=>e=.returned (.bool (zv zs))/\w'=w:=by
 by_cases h:1<=zs.length/\zs.length<=80
 ·obtain ⟨h1,h2⟩:=h
  have HF:=fun h=>zgd a cap zs w hb h2 h
  generalize hlen:zs.length=n at *;have HL:Hid (zs.length=n):=hlen;have HFF:Hid _:=HF;clear hlen HF
  go_enter Tryz.func145,Tryz.ntmps145
  go_wp2
  go_loop [3,4] (fun x i=>∃ k:Nat,k<=n/\i=.int .i64 k/\x=.int .i64 (zf one (zs.take k))/\∀ z ∈ zs.take k,0<=z/\z<=12) (fun _ i=>n-(intOf i).toNat)
  case atStart=>exact ⟨0,Nat.zero_le _,rfl,by simp [zf],by simp⟩
  case round=>
   obtain ⟨k,hk,rfl,rfl,htk⟩:=hrel;have HT:Hid (∀ z ∈ zs.take k,0<=z/\z<=12):=htk;clear htk
   by_cases hlt:k<n
   ·obtain ⟨b1,o1,rfl,hb1,hc1⟩:=hb.len_pos k (by rw [HL.out];exact hlt)
    have hs1:=hc1 k (by rw [HL.out];exact hlt)
    have g1:=z3q hb.1 k;have hF:=z0t one 1 z27 (zs.take k);have hF2:(zs.take k).length<=80:=by rw [List.length_take,HL.out];omega
    have HS:Hid (zf one (zs.take (k+1))=zf one (zs.take k)+one (zs.getD k 0)):=z1j one zs k (by rw [HL.out];exact hlt)
    clear hc1 hb HFF;generalize hx:zs.getD k 0=x at *;have HX:Hid (zs.getD k 0=x):=hx;clear hx;generalize hFF:zf one (zs.take k)=F at *;have hFb:0<=F/\F<=80:=by omega
    clear hF hF2 hFF
    by_cases h3:0<=x
    ·by_cases h4:x<=12
     ·have HT':Hid (∀ z ∈ zs.take (k+1),0<=z/\z<=12):=z5o HT.out (by rw [HL.out];exact hlt) (by rw [HX.out];exact ⟨h3,h4⟩)
      by_cases h5:0<x
      ·have HP:Hid (one x=1):=by simp [Hid,one,h5]
       go_wp2
       go_round
       case rel=>exact ⟨k+1,by omega,by go_num,by rw [HS.out,HP.out],HT'.out⟩
       case measure=>simp [intOf];omega
      ·have HP:Hid (one x=0):=by simp [Hid,one,h5]
       go_wp2
       go_round
       case rel=>exact ⟨k+1,by omega,by go_num,by rw [HS.out,HP.out];simp,HT'.out⟩
       case measure=>simp [intOf];omega
     ·have HN:Hid (zv zs=false):=z3p (by rw [HL.out];exact hlt) (by rw [HX.out];omega)
      go_wp2
      go_ret;exact ⟨by simp [HN.out],rfl⟩
    ·have HN:Hid (zv zs=false):=z3p (by rw [HL.out];exact hlt) (by rw [HX.out];omega)
     go_wp2
     go_ret;exact ⟨by simp [HN.out],rfl⟩
   ·have hkn:k=n:=by omega
    subst hkn;have e:zs.take k=zs:=List.take_of_length_le (by rw [HL.out];exact Nat.le_refl _)
    have HE:Hid (zv zs=_):=zar (by rw [HL.out];exact h1) (by rw [HL.out];exact h2) (by rw [HL.out];exact HT.out)
    have HC:Hid (Calls Tryz.prog 171 #[.slice a k cap] w fun e w'=>e=.returned (.int .i64 (zf zq zs))/\w'=w):=HFF.out (by have:=HT.out;rw [e] at this;exact this)
    have hF:=z0t one 1 z27 zs;have hG:=z0t zq 4096 z3x zs;rw [HL.out] at hF hG;rw [e];clear e HFF HT;generalize zf one zs=F at *;generalize zf zq zs=G at *
    by_cases c1:F=1
    ·subst c1
     go_wp2_with fail
     refine HC.out.mono ?_;rintro e' w' ⟨rfl,rfl⟩;go_wp2;go_ret;exact ⟨by rw [HE.out];by_cases g:G=2048 <;> simp [g],rfl⟩
    ·by_cases c2:1<F
     ·go_wp2_with fail
      refine HC.out.mono ?_;rintro e' w' ⟨rfl,rfl⟩;go_wp2;go_ret;exact ⟨by rw [HE.out];by_cases g:G=4096 <;> simp [g,c1,c2],rfl⟩
     ·go_wp2
      go_ret;exact ⟨by rw [HE.out,decide_eq_false (p:=F=1/\G=2048\/1<F/\G=4096) (by omega)];rfl,rfl⟩
 ·rw [zbg h]
  by_cases c1:1<=zs.length
  ·have c2:80<zs.length:=by omega
   go_enter Tryz.func145,Tryz.ntmps145
   go_wp2
   go_ret;exact ⟨rfl,rfl⟩
  ·go_enter Tryz.func145,Tryz.ntmps145
   go_wp2
   go_ret;exact ⟨rfl,rfl⟩
end Go.Proofs.YtjmcjbmjgpponaaGreatDoor
