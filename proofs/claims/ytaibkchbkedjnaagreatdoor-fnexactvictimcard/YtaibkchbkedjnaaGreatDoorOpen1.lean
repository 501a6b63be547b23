/- Lemmas on the way. -/
import Derived.Test.YtaibkchbkedjnaaGreatDoorIParts
import Derived.Test.YtaibkchbkedjnaaGreatDoorPlP
import Derived.Deep.AppendLies
import Derived.Deep.RegionLaw
import Derived.BigRegion
import Derived.Deep.RegionHeld3
import Derived.WalkKit
import Derived.Laws.BitsAllLaws
import Derived.Deep.RegionWith
set_option maxRecDepth 20000
set_option maxHeartbeats 16000000
namespace Go.Proofs.YtaibkchbkedjnaaGreatDoor
open Go.RowKit
set_option linter.unusedVariables false
theorem toItem_any (n:Int) (a:Option Addr) (cap:Nat) (zs:List Int) (w:World) (hb:Byt w a zs) (hn:zs.length≤1048576) :
  Calls Tryz.prog 125 #[.agg #[.int .i64 n,.slice a zs.length cap]] w fun e w'=>
   ∃ g,e=.returned (.agg #[.int .i64 n,.slice (some ⟨g,0,none⟩) zs.length zs.length])∧Own w' w.heap.size g zs.length zs∧Below w.heap.size w w':=by
 go_enter Tryz.func125,Tryz.ntmps125
 go_wp2_with fail
 have hw:Below w.heap.size w (((w.alloc (Obj.cells #[.int .i64 n,.slice a zs.length cap] 151)).alloc (Obj.cells #[.int .i64 0,.slice none 0 0] 113)).alloc (Obj.cells #[.int .i64 n,.slice none 0 0] 113)):=
  (((Below.refl _ _).alloc nl _).alloc (by simp) _).alloc (by simp;omega) _
 refine (toByteS_any a cap zs _ (hb.below hw nl) hn).mono ?_
 rintro e w1 ⟨rfl,hown,hbel⟩
 obtain ⟨hc,hf⟩:=bcell hbel
 have hz:=hbel.size
 have hb2:=hw.trans (hbel.mono (by simp;omega))
 simp at hc hf hz hown
 clear hbel hw
 go_wp2
 refine bodyPost_ret (v:=.agg #[.int .i64 n,.slice (some ⟨w.heap.size+1+1+1,0,none⟩) zs.length zs.length]) (by simp [results,Tryz.results125,go_sem,hc]) rfl ⟨_,rfl,?_,?_⟩
 ·refine Own.mono (B:=w.heap.size+1+1+1) ?_ (by omega)
  repeat (refine Own.setCell_other ?_ (by simp) _)
  exact hown
 ·repeat (refine Below.setCell ?_ (by first | (simp;done) | (simp;omega)) _)
  exact hb2
theorem toItemS_any (a:Option Addr) (cap:Nat) (ss:List El) (w:World) (hb:Els true w a ss) (hn:ss.length≤1048576) (hl:∀ s ∈ ss,s.ls.length≤1048576) :
  Calls Tryz.prog 86 #[.slice a ss.length cap] w fun e w'=>
   e=.returned (.slice (some ⟨w.heap.size,0,none⟩) ss.length ss.length)∧(∃ ts,CopT w' w.heap.size (.slice (some ⟨w.heap.size,0,none⟩) ss.length ss.length) ts ss)∧Below w.heap.size w w':=by
 obtain ⟨i0,hi,hz0,hz1,hz2⟩:=info_parts Tryz.infoItem
 have HSS:Hid (Els true w a ss):=hb
 have HLS:Hid (∀ s ∈ ss,s.ls.length≤1048576):=hl
 clear hb hl
 generalize hlen:ss.length=n at *
 have HL:Hid (ss.length=n∧True):=⟨hlen,trivial⟩
 clear hlen
 go_enter Tryz.func86,Tryz.ntmps86
 go_wp2_with (at_make;refine wpList_make_full _ rfl _ _ 45 rfl w.heap.size 113 i0 (.agg #[.int .i64 0,.slice none 0 0]) 2 Tryz.underlying45 hi hz0 hz1 .i64 .i64 _ _ n rfl rfl rfl rfl (by rw [hz2];omega) (by unfold maxLen;omega) nl ?_;intro w1 hown hgrow)
 have hbw:Below w.heap.size w w1:=(Below.refl _ _).grown hgrow nl (by intro k hk;cases hk)
 have H0:Hid (OVt w1 w.heap.size (.slice (some ⟨w.heap.size,0,none⟩) n n) ([]++List.replicate n de)):=by
  rw [List.nil_append]
  rw [made_pens] at hown
  exact ⟨by rw [List.length_replicate];exact hown⟩
 clear hown hgrow hi hz0 hz1 hz2
 go_loopw [4] (fun i wr=>∃ (k:Nat) (bs:List El),k≤n∧i=.int .i64 k∧bs.length=k∧bs.map El.ct=(ss.take k).map El.ct∧OVt wr w.heap.size (.slice (some ⟨w.heap.size,0,none⟩) n n) (bs++List.replicate (n-k) de)∧Deep wr w.heap.size bs∧(∀ e ∈ bs,rE true e)∧Below w.heap.size w wr) (fun i _=>n-(intOf i).toNat)
 case atStart=>exact ⟨0,[],Nat.zero_le _,rfl,rfl,by simp,H0.out,Deep.nil _ _,by simp,hbw⟩
 case round=>
  clear H0 hbw
  obtain ⟨k,bs,hk,rfl,hbl,hct,hown,hdeep,hrg0,hbel⟩:=hrel
  have HBL:Hid (bs.length=k∧bs.map El.ct=(ss.take k).map El.ct):=⟨hbl,hct⟩
  have HO:Hid (OVt wr w.heap.size (.slice (some ⟨w.heap.size,0,none⟩) n n) (bs++List.replicate (n-k) de)∧Deep wr w.heap.size bs∧(∀ e ∈ bs,rE true e)):=⟨hown,hdeep,hrg0⟩
  clear hbl hct hown hdeep hrg0
  by_cases hlt:k<n
  ·obtain ⟨b,off,rfl,hb1,c0,c1,hby,hrg⟩:=(HSS.out.below hbel nl).pen k (by rw [HL.out.1];exact hlt)
   have hll:=HLS.out _ (getD_memE (k:=k) (by rw [HL.out.1];exact hlt))
   have HCS:Hid ((ss.take (k+1)).map El.ct=(ss.take k).map El.ct++[(ss.getD k de).ct]∧True):=⟨ctE_take_succ ss k (by rw [HL.out.1];exact hlt),trivial⟩
   generalize ss.getD k de=s at *
   obtain ⟨sn,sa,sc,sl⟩:=s
   simp only at c0 c1 hby hll
   have HRG:Hid (rE true ⟨sn,sa,sc,sl⟩):=hrg
   have HBY:Hid (Byt wr sa sl):=hby
   clear hrg hby
   go_wp2_with fail
   refine (toItem_any sn sa sc sl wr HBY.out hll).mono ?_
   rintro e w2 ⟨g2,rfl,ho2,hb2⟩
   have hlt2:=ho2.lt
   have hlo:(bs++List.replicate (n-k) de).length=n:=by rw [List.length_append,List.length_replicate,HBL.out.1];omega
   have hgd:=getD_app_replE bs (n-k) k (by rw [HBL.out.1];exact Nat.le_refl _)
   have hO2:OVt w2 w.heap.size (.slice (some ⟨w.heap.size,0,none⟩) n n) (bs++List.replicate (n-k) de):=HO.out.1.below hb2
   have hs1:=hO2.store k (by omega) ⟨sn,none,0,[]⟩ 0 (by simp [eW]) (.int .i64 sn) (by rw [hgd];rfl) (g:=w.heap.size) rfl
   have hst:=hs1.store k (by rw [List.length_set];omega) ⟨sn,some ⟨g2,0,none⟩,sl.length,sl⟩ 1 (by simp [eW]) (.slice (some ⟨g2,0,none⟩) sl.length sl.length) (by rw [List.getD_eq_getElem?_getD,List.getElem?_set_self (by omega)];rfl) (g:=w.heap.size) rfl
   rw [List.set_set,set_app_replE bs (n-k) k _ HBL.out.1 (by omega),show n-k-1=n-(k+1) from by omega,show k*eW true+0=k*2 from by simp [eW],show k*eW true+1=k*2+1 from by simp [eW]] at hst
   have hdp:Deep w2 w.heap.size (bs++[⟨sn,some ⟨g2,0,none⟩,sl.length,sl⟩]):=(HO.out.2.1.below hb2).snoc (U:=wr.heap.size) (.inr ⟨_,rfl,hlt2.1,hlt2.2,ho2⟩) (fun x hx k hk=>HO.out.2.1.lt x hx k hk) hbel.size
   have HDP:Hid (Deep ((w2.setCell ⟨w.heap.size,k*2,none⟩ (.int .i64 sn)).setCell ⟨w.heap.size,k*2+1,none⟩ (.slice (some ⟨g2,0,none⟩) sl.length sl.length)) w.heap.size (bs++[⟨sn,some ⟨g2,0,none⟩,sl.length,sl⟩])):=
    hdp.stay (S:=fun b=>b=w.heap.size) (((Only.refl (fun b=>b=w.heap.size) w2).setCell (p:=⟨w.heap.size,k*2,none⟩) (.inl rfl) _).setCell (p:=⟨w.heap.size,k*2+1,none⟩) (.inl rfl) _) (fun x hx j hj e=>hO2.other (hdp.mine x hx) (g:=w.heap.size) rfl (e ▸ hj))
   have HST:Hid _:=hst
   obtain ⟨g',cap',e',_,_,hfz,hli⟩:=hO2.cell k (by omega)
   obtain ⟨rfl,-,rfl⟩:w.heap.size=g'∧_∧n=cap':=by simpa using e'
   have f0:=hfz (k*2)
   have f1:=hfz (k*2+1)
   have l1:=(hli k (by omega)).c0 rfl
   have l2:=(hli k (by omega)).c1
   rw [hgd] at l1 l2
   simp only [eW,eO,cond_true] at l1 l2
   have HB2:Hid (Below w.heap.size w w2):=hbel.trans (hb2.mono hbel.size)
   have HRN:Hid (∀ e ∈ bs++[⟨sn,some ⟨g2,0,none⟩,sl.length,sl⟩],rE true e):=rE_snoc HO.out.2.2 ⟨HRG.out.lo,HRG.out.hi,HRG.out.len,HRG.out.zero⟩
   clear hst hs1 hO2 ho2 hb2 HO hbel HBY c0 c1 hdp hfz hli e' HRG hlo hgd
   go_wp2
   go_roundw
   case rel=>exact ⟨k+1,bs++[⟨sn,some ⟨g2,0,none⟩,sl.length,sl⟩],by omega,by go_num,by rw [List.length_append,HBL.out.1];rfl,by rw [List.map_append,HBL.out.2,HCS.out.1];rfl,HST.out,HDP.out,HRN.out,(HB2.out.setCell (p:=⟨w.heap.size,_,none⟩) nl _).setCell (p:=⟨w.heap.size,_,none⟩) nl _⟩
   case measure=>simp [intOf];omega
  ·have hkn:k=n:=by omega
   subst hkn
   have HA:Hid (CopT wr w.heap.size (.slice (some ⟨w.heap.size,0,none⟩) k k) bs ss):=by
    have h1:=HO.out.1
    rw [Nat.sub_self,List.replicate_zero,List.append_nil] at h1
    exact ⟨by rw [HBL.out.2,List.take_of_length_le (by rw [HL.out.1];exact Nat.le_refl _)],h1,HO.out.2.1,HO.out.2.2⟩
   clear HO
   go_wp2
   go_ret
   exact ⟨rfl,⟨bs,HA.out⟩,hbel⟩
theorem toPack_any (E O:Int) (a:Option Addr) (cap:Nat) (es:List El) (w:World) (hb:Els true w a es) (hn:es.length≤1048576) (hl:∀ s ∈ es,s.ls.length≤1048576) :
  Calls Tryz.prog 49 #[.agg #[.int .i64 E,.int .i64 O,.slice a es.length cap]] w fun e w'=>
   (∃ g ts,e=.returned (.agg #[.int .i64 E,.int .i64 O,.slice (some ⟨g,0,none⟩) es.length es.length])∧CopT w' w.heap.size (.slice (some ⟨g,0,none⟩) es.length es.length) ts es)∧Below w.heap.size w w':=by
 have HB:Hid (Els true w a es):=hb
 have HL:Hid (∀ s ∈ es,s.ls.length≤1048576):=hl
 clear hb hl
 go_enter Tryz.func49,Tryz.ntmps49
 go_wp2_with fail
 have hw:Below w.heap.size w (((w.alloc (Obj.cells #[.int .i64 E,.int .i64 O,.slice a es.length cap] 32)).alloc (Obj.cells #[.int .i64 0,.int .i64 0,.slice none 0 0] 47)).alloc (Obj.cells #[.int .i64 E,.int .i64 O,.slice none 0 0] 47)):=
  (((Below.refl _ _).alloc nl _).alloc (by simp) _).alloc (by simp;omega) _
 refine (toItemS_any a cap es _ (HB.out.below hw nl) hn HL.out).mono ?_
 rintro e w1 ⟨rfl,⟨ts,hcop⟩,hbel⟩
 obtain ⟨hc,hf⟩:=bcell hbel
 have hz:=hbel.size
 have HB2:Hid (Below w.heap.size w w1):=hw.trans (hbel.mono (by simp;omega))
 simp at hc hf hz hcop
 have HC:Hid _:=hcop
 clear hbel hw hcop
 go_wp2
 refine bodyPost_ret (v:=.agg #[.int .i64 E,.int .i64 O,.slice (some ⟨w.heap.size+1+1+1,0,none⟩) es.length es.length]) (by simp [results,Tryz.results49,go_sem,hc]) rfl ⟨⟨_,ts,rfl,?_⟩,?_⟩
 ·refine (HC.out.stay (S:=fun b=>b=w.heap.size+1∨b=w.heap.size+1+1) ?_ (by intro k hk;omega)).weak (by omega)
  repeat (first | exact Only.refl _ _ | refine Only.setCell ?_ (by first | exact .inl (.inl rfl) | exact .inl (.inr rfl)) _)
 ·have hb2:=HB2.out
  repeat (first | exact hb2 | refine Below.setCell ?_ (by first | (simp;done) | (simp;omega)) _)
theorem szItem_any (n:Int) (a:Option Addr) (cap:Nat) (zs:List Int) (left:Int) (w:World) (hn:zs.length≤maxLen) (h0:0≤left) (h1:left≤1048576) :
  Calls Tryz.prog 114 #[.agg #[.int .i64 n,.slice a zs.length cap],.int .i64 left] w fun e w'=>e=.returned (.int .i64 (if (zs.length:Int)≤left then left-zs.length else -1))∧Below w.heap.size w w':=by
 by_cases h:(zs.length:Int)≤left
 ·go_enter Tryz.func114,Tryz.ntmps114
  go_wp2_with (go_at_call 112;refine (szByteS_any _ _ _ _ _ hn h0 h1).mono ?_;rintro e w' ⟨rfl,rfl⟩;rw [if_pos h])
  go_ret
  exact ⟨rfl,(Below.refl _ _).alloc nl _⟩
 ·go_enter Tryz.func114,Tryz.ntmps114
  go_wp2_with (go_at_call 112;refine (szByteS_any _ _ _ _ _ hn h0 h1).mono ?_;rintro e w' ⟨rfl,rfl⟩;rw [if_neg h])
  go_ret
  exact ⟨rfl,(Below.refl _ _).alloc nl _⟩
theorem szItemS_any (a:Option Addr) (cap:Nat) (ss:List El) (left:Int) (w:World) (hb:Els true w a ss) (hm:ss.length≤maxLen) (h0:0≤left) (h1:left≤1048576) :
  Calls Tryz.prog 75 #[.slice a ss.length cap,.int .i64 left] w fun e w'=>(∃ z:Int,e=.returned (.int .i64 z)∧(z=-1∨(0≤z∧z≤left∧z+ss.length+elets ss=left)))∧Below w.heap.size w w':=by
 have HSS:Hid (Els true w a ss):=hb
 unfold maxLen at hm
 clear hb
 have HEL:Hid (elets (ss.take ss.length)=elets ss∧True):=⟨by rw [List.take_length],trivial⟩
 generalize hlen:ss.length=n at *
 have HL:Hid (ss.length=n∧True):=⟨hlen,trivial⟩
 clear hlen
 by_cases hn:(n:Int)≤left
 ·go_enter Tryz.func75,Tryz.ntmps75
  go_wp2
  go_loopw [1,5] (fun l i wr=>∃ (k:Nat) (z:Int),k≤n∧i=.int .i64 k∧l=.int .i64 z∧0≤z∧z≤1048576∧z≤left∧(n:Int)+(elets (ss.take k):Nat)+z=left∧Below w.heap.size w wr) (fun _ i _=>n-(intOf i).toNat)
  case atStart=>exact ⟨0,left-n,Nat.zero_le _,rfl,rfl,by omega,by omega,by omega,by simp [elets];omega,Below.refl _ _⟩
  case round=>
   obtain ⟨k,z,hk,rfl,rfl,hz0,hz1,hz2,hsum,hbel⟩:=hrel
   have HSUM:Hid ((n:Int)+(elets (ss.take k):Nat)+z=left∧True):=⟨hsum,trivial⟩
   clear hsum
   by_cases hlt:k<n
   ·obtain ⟨b,off,rfl,hb1,c0,c1,hby,hrg⟩:=(HSS.out.below hbel nl).pen k (by rw [HL.out.1];exact hlt)
    have HT:Hid (elets (ss.take (k+1))=elets (ss.take k)+(ss.getD k de).ls.length∧True):=⟨elets_take_succ ss k (by rw [HL.out.1];exact hlt),trivial⟩
    generalize ss.getD k de=s at *
    obtain ⟨sn,sa,sc,sl⟩:=s
    simp only at c0 c1 HT
    have hml:=hrg.len
    simp only at hml
    clear hby hrg
    have HSZ:=szItem_any sn sa sc sl z wr hml hz0 hz1
    go_wp2_with fail
    refine HSZ.mono ?_
    clear HSZ
    rintro e w1 ⟨rfl,hb2⟩
    have HB2:Hid (Below w.heap.size w w1):=hbel.trans (hb2.mono hbel.size)
    clear hb2 hbel c0 c1
    by_cases hc:(sl.length:Int)≤z
    ·rw [if_pos hc]
     have HS2:Hid ((n:Int)+(elets (ss.take (k+1)):Nat)+(z-sl.length)=left∧True):=by
      have h1:=HSUM.out.1
      have h2:=HT.out.1
      exact ⟨by omega,trivial⟩
     go_wp2
     go_roundw
     case rel=>exact ⟨k+1,z-sl.length,by omega,by go_num,rfl,by omega,by omega,by omega,HS2.out.1,HB2.out⟩
     case measure=>simp [intOf];omega
    ·rw [if_neg hc]
     go_wp2
     go_ret
     exact ⟨⟨-1,rfl,.inl rfl⟩,HB2.out⟩
   ·have hkn:k=n:=by omega
    subst hkn
    have HF:Hid (z+(k:Int)+elets ss=left∧True):=by
     have h1:=HSUM.out.1
     rw [HEL.out.1] at h1
     exact ⟨by omega,trivial⟩
    go_wp2
    go_ret
    exact ⟨⟨z,rfl,.inr ⟨hz0,hz2,HF.out.1⟩⟩,hbel⟩
 ·go_enter Tryz.func75,Tryz.ntmps75
  go_wp2
  go_ret
  exact ⟨⟨-1,rfl,.inl rfl⟩,Below.refl _ _⟩
theorem szPack_any (E O:Int) (a:Option Addr) (cap:Nat) (es:List El) (w:World) (hb:Els true w a es) (hm:es.length≤maxLen) (left:Int) (h0:0≤left) (h1:left≤1048576) :
  Calls Tryz.prog 43 #[.agg #[.int .i64 E,.int .i64 O,.slice a es.length cap],.int .i64 left] w fun e w'=>(∃ z:Int,e=.returned (.int .i64 z)∧(z=-1∨(0≤z∧z≤left∧z+es.length+elets es=left)))∧Below w.heap.size w w':=by
 have hw:Below w.heap.size w (w.alloc (Obj.cells #[.int .i64 E,.int .i64 O,.slice a es.length cap] 32)):=bAw
 have HS:=szItemS_any a cap es left _ (hb.below hw nl) hm h0 h1
 clear hb hm
 go_enter Tryz.func43,Tryz.ntmps43
 go_wp2_with fail
 refine HS.mono ?_
 clear HS
 rintro e w1 ⟨⟨z,rfl,hz⟩,hb1⟩
 have HB1:Hid (Below w.heap.size w w1):=hw.trans (hb1.mono (by simp))
 clear hw hb1
 rcases hz with rfl | ⟨hz0,hz1,hz2⟩
 ·go_wp2
  go_ret
  exact ⟨⟨-1,rfl,.inl rfl⟩,HB1.out⟩
 ·have HZ:Hid (z+(es.length:Int)+elets es=left∧True):=⟨hz2,trivial⟩
  clear hz2
  go_wp2
  go_ret
  exact ⟨⟨z,rfl,.inr ⟨hz0,hz1,HZ.out.1⟩⟩,HB1.out⟩
set_option linter.unusedSimpArgs false
structure DkV where
 sa:Option Addr
 sc:Nat
 ss:List El
 pa:Option Addr
 pc:Nat
 ps:List El
 E:Int
 O:Int
 ma:Option Addr
 mc:Nat
 ms:List (Int × Int)
 va:Option Addr
 vc:Nat
 vs:List (Int × Int)
 ca:Option Addr
 cc:Nat
 cs:List Int
 F:Int
 G:Int
 oa:Option Addr
 oc:Nat
 os:List El
def DkV.cells (d:DkV):Array Value:=#[.slice d.sa d.ss.length d.sc,.slice d.pa d.ps.length d.pc,.int .i64 d.E,.int .i64 d.O,.slice d.ma d.ms.length d.mc,.slice d.va d.vs.length d.vc,.slice d.ca d.cs.length d.cc,.int .i64 d.F,.int .i64 d.G,.slice d.oa d.os.length d.oc]
structure DkI (w:World) (d:DkV):Prop where
 raw:RawI w d.sa d.pa d.ss d.ps
 map:Pls w d.ma d.ms
 sav:Pls w d.va d.vs
 chn:Ins w d.ca d.cs
 opn:Els true w d.oa d.os
theorem DkI.below {w w':World} {d:DkV} {B:Nat} (h:DkI w d) (hb:Below B w w') (hB:w.heap.size≤B):DkI w' d:=
 ⟨h.raw.below hb hB,h.map.below hb hB,h.sav.below hb hB,h.chn.below hb hB,h.opn.below hb hB⟩
structure DkM (d:DkV):Prop where
 ss:d.ss.length≤maxLen
 ps:d.ps.length≤maxLen
 ms:d.ms.length≤maxLen
 vs:d.vs.length≤maxLen
 cs:d.cs.length≤maxLen
 os:d.os.length≤maxLen
def dkN (d:DkV):Nat:=d.ss.length+elets d.ss+d.ps.length+elets d.ps+d.ms.length+d.vs.length+d.cs.length+d.os.length+elets d.os
structure DkF (d:DkV):Prop where
 raw:Few d.ss d.ps
 ms:d.ms.length≤1048576
 vs:d.vs.length≤1048576
 cs:d.cs.length≤1048576
 opn:FewI d.os
 sum:dkN d≤1048576
theorem DkF.mk' {d:DkV} (h:dkN d≤1048576):DkF d:=by
 unfold dkN at h
 exact ⟨Few.mk' (by omega),by omega,by omega,by omega,FewI.mk' (by omega),h⟩
structure DkS (d e:DkV):Prop where
 ss:d.ss.map El.ct=e.ss.map El.ct
 ps:d.ps.map El.ct=e.ps.map El.ct
 E:d.E=e.E
 O:d.O=e.O
 ms:d.ms=e.ms
 vs:d.vs=e.vs
 cs:d.cs=e.cs
 F:d.F=e.F
 G:d.G=e.G
 os:d.os.map El.ct=e.os.map El.ct
theorem DkS.symm {d e:DkV} (h:DkS d e):DkS e d:=⟨h.ss.symm,h.ps.symm,h.E.symm,h.O.symm,h.ms.symm,h.vs.symm,h.cs.symm,h.F.symm,h.G.symm,h.os.symm⟩
theorem DkS.trans {d e f:DkV} (h:DkS d e) (k:DkS e f):DkS d f:=⟨h.ss.trans k.ss,h.ps.trans k.ps,h.E.trans k.E,h.O.trans k.O,h.ms.trans k.ms,h.vs.trans k.vs,h.cs.trans k.cs,h.F.trans k.F,h.G.trans k.G,h.os.trans k.os⟩
theorem DkS.n {d e:DkV} (h:DkS d e):dkN d=dkN e:=by
 unfold dkN
 rw [len_ctE h.ss,len_ctE h.ps,len_ctE h.os,elets_ct _ _ h.ss,elets_ct _ _ h.ps,elets_ct _ _ h.os,h.ms,h.vs,h.cs]
theorem DkF.same {d e:DkV} (h:DkF d) (hs:DkS e d):DkF e:=DkF.mk' (by rw [hs.n];exact h.sum)
structure Dk10 (W:World) (b:Nat) (d:DkV):Prop where
 c0:W.cell? ⟨b,0,none⟩=some (.slice d.sa d.ss.length d.sc)
 c1:W.cell? ⟨b,1,none⟩=some (.slice d.pa d.ps.length d.pc)
 c2:W.cell? ⟨b,2,none⟩=some (.int .i64 d.E)
 c3:W.cell? ⟨b,3,none⟩=some (.int .i64 d.O)
 c4:W.cell? ⟨b,4,none⟩=some (.slice d.ma d.ms.length d.mc)
 c5:W.cell? ⟨b,5,none⟩=some (.slice d.va d.vs.length d.vc)
 c6:W.cell? ⟨b,6,none⟩=some (.slice d.ca d.cs.length d.cc)
 c7:W.cell? ⟨b,7,none⟩=some (.int .i64 d.F)
 c8:W.cell? ⟨b,8,none⟩=some (.int .i64 d.G)
 c9:W.cell? ⟨b,9,none⟩=some (.slice d.oa d.os.length d.oc)
 lt:b<W.heap.size
theorem Dk10.keep {W W':World} {b B:Nat} {d:DkV} (h:Dk10 W b d) (hb:Below B W W') (hB:b<B):Dk10 W' b d:=⟨kp hb hB h.c0,kp hb hB h.c1,kp hb hB h.c2,kp hb hB h.c3,kp hb hB h.c4,kp hb hB h.c5,kp hb hB h.c6,kp hb hB h.c7,kp hb hB h.c8,kp hb hB h.c9,Nat.lt_of_lt_of_le h.lt hb.size⟩
theorem Dk10.step {W W':World} {b:Nat} {d:DkV} (h:Dk10 W b d) (hb:Below W.heap.size W W'):Dk10 W' b d:=h.keep hb h.lt
theorem Dk10.new (w:World) (d:DkV) (T:TypeId):Dk10 (w.alloc (Obj.cells #[.slice d.sa d.ss.length d.sc,.slice d.pa d.ps.length d.pc,.int .i64 d.E,.int .i64 d.O,.slice d.ma d.ms.length d.mc,.slice d.va d.vs.length d.vc,.slice d.ca d.cs.length d.cc,.int .i64 d.F,.int .i64 d.G,.slice d.oa d.os.length d.oc] T)) w.heap.size d:=⟨by simp,by simp,by simp,by simp,by simp,by simp,by simp,by simp,by simp,by simp,by simp⟩
theorem Dk10.alloc {W:World} {b:Nat} {d:DkV} (h:Dk10 W b d) (o:Obj):Dk10 (W.alloc o) b d:=h.step ((Below.refl W.heap.size W).alloc nl o)
theorem Dk10.drew {W:World} {b:Nat} {d:DkV} (h:Dk10 W b d):Dk10 W.drew b d:=h.step ((Below.refl W.heap.size W).drew)
structure RawV (W:World) (B X:Nat) (vs vp:Value) (ss ps:List El):Prop where
 o:RawO W B vs vp ss ps
 r:∀ k,blkR vs vp ss ps k→k<X
theorem RawO.v {W:World} {B:Nat} {vs vp:Value} {ss ps:List El} (h:RawO W B vs vp ss ps):RawV W B W.heap.size vs vp ss ps:=⟨h,fun k hk=>(h.inside k hk).2⟩
theorem RawV.stab {lo hi B X:Nat} {vs vp:Value} {ss ps:List El} (h1:lo≤B) (h2:X≤hi):Stab lo hi (fun W=>RawV W B X vs vp ss ps):=fun T W W' hp ho ht hl=>
 ⟨hp.o.stay ho (fun k hk=>ht k (by have:=(hp.o.inside k hk).1;omega) (by have:=hp.r k hk;omega)),hp.r⟩
theorem stab_minP {lo hi B U:Nat} {a:Option Addr} {c:Nat} {zs:List (Int × Int)} (h1:lo≤B) (h2:U≤hi):Stab lo hi (fun W=>MinP W B U a c zs):=fun T W W' hp ho ht hl=>hp.only ho (fun k hk1 hk2=>ht k (by omega) (by omega))
structure DkO (W:World) (B B1 B2 B3 B4 Z:Nat) (d:DkV):Prop where
 raw:RawV W B B1 (.slice d.sa d.ss.length d.sc) (.slice d.pa d.ps.length d.pc) d.ss d.ps
 map:MinP W B1 B2 d.ma d.mc d.ms
 sav:MinP W B2 B3 d.va d.vc d.vs
 chn:MinI W B3 B4 d.ca d.cc d.cs
 opn:CopV W B4 Z (.slice d.oa d.os.length d.oc) d.os d.os
 ord:B≤B1∧B1≤B2∧B2≤B3∧B3≤B4∧B4≤Z
theorem DkO.stab {lo hi B B1 B2 B3 B4 Z:Nat} {d:DkV} (h1:lo≤B) (h2:Z≤hi):Stab lo hi (fun W=>DkO W B B1 B2 B3 B4 Z d):=fun T W W' hp ho ht hl=>by
 have o:=hp.ord
 exact ⟨RawV.stab (by omega) (by omega) T W W' hp.raw ho ht hl,stab_minP (by omega) (by omega) T W W' hp.map ho ht hl,stab_minP (by omega) (by omega) T W W' hp.sav ho ht hl,Stab.minI (by omega) (by omega) T W W' hp.chn ho ht hl,CopV.stab (by omega) (by omega) T W W' hp.opn ho ht hl,o⟩
theorem DkO.inn {W:World} {B B1 B2 B3 B4 Z:Nat} {d:DkV} (h:DkO W B B1 B2 B3 B4 Z d):DkI W d:=⟨h.raw.o.inn,h.map.pls,h.sav.pls,h.chn.byt,h.opn.cop.its.els⟩
theorem DkO.its {W:World} {B B1 B2 B3 B4 Z:Nat} {d:DkV} (h:DkO W B B1 B2 B3 B4 Z d):ItI W d.oa d.os:=h.opn.cop.its
def okB (N:Int) (zs:List Int):Bool:=
 decide (0≤N∧N≤4096∧(zs.length:Int)=(N+7) / 8) && (N % 8 == 0 || zs.getD (zs.length-1) 0 / 2 ^ (N % 8).toNat == 0)
theorem okB_neg {N:Int} {zs:List Int} (h:N<0):okB N zs=false:=by
 have:decide (0≤N∧N≤4096∧(zs.length:Int)=(N+7) / 8)=false:=by simp;omega
 rw [okB,this,Bool.false_and]
theorem okB_big {N:Int} {zs:List Int} (h:4096<N):okB N zs=false:=by
 have:decide (0≤N∧N≤4096∧(zs.length:Int)=(N+7) / 8)=false:=by simp;omega
 rw [okB,this,Bool.false_and]
theorem okB_len {N:Int} {zs:List Int} (h:¬(zs.length:Int)=(N+7) / 8):okB N zs=false:=by
 have:decide (0≤N∧N≤4096∧(zs.length:Int)=(N+7) / 8)=false:=by simp;omega
 rw [okB,this,Bool.false_and]
theorem okB_full {N:Int} {zs:List Int} (h0:0≤N) (h1:N≤4096) (h2:(zs.length:Int)=(N+7) / 8) (h3:N % 8=0):okB N zs=true:=by
 have:decide (0≤N∧N≤4096∧(zs.length:Int)=(N+7) / 8)=true:=by simp;exact ⟨h0,h1,h2⟩
 rw [okB,this,h3];rfl
theorem okB_last {N:Int} {zs:List Int} (h0:0≤N) (h1:N≤4096) (h2:(zs.length:Int)=(N+7) / 8) (h3:¬N % 8=0):okB N zs=(zs.getD (zs.length-1) 0 / 2 ^ (N % 8).toNat == 0):=by
 have:decide (0≤N∧N≤4096∧(zs.length:Int)=(N+7) / 8)=true:=by simp;exact ⟨h0,h1,h2⟩
 have h3':(N % 8 == 0)=false:=by simpa using h3
 rw [okB,this,h3',Bool.true_and,Bool.false_or]
theorem specOk_any (a:Option Addr) (cap:Nat) (zs:List Int) (N:Int) (w:World) (hb:Byt w a zs) (hn:zs.length≤281474976710656) :
  Calls Tryz.prog 155 #[.agg #[.slice a zs.length cap,.int .i64 N]] w fun e w'=>e=.returned (.bool (okB N zs))∧Below w.heap.size w w':=by
 have hw:Below w.heap.size w (w.alloc (Obj.cells #[.slice a zs.length cap,.int .i64 N] 155)):=bAw
 by_cases h0:N<0
 ·have hE:okB N zs=false:=okB_neg h0
  rw [hE]
  clear hE
  go_enter Tryz.func155,Tryz.ntmps155
  go_wp2
  go_ret
  exact ⟨rfl,hw⟩
 ·by_cases h1:4096<N
  ·have hE:okB N zs=false:=okB_big h1
   rw [hE]
   clear hE
   go_enter Tryz.func155,Tryz.ntmps155
   go_wp2
   go_ret
   exact ⟨rfl,hw⟩
  ·by_cases h2:(zs.length:Int)=(N+7) / 8
   ·generalize hlz:zs.length=n at *
    have HL:Hid (zs.length=n):=hlz
    clear hlz
    have h2':((n:Int) != (N+7) / 8)=false:=by simpa using h2
    have H2:Hid ((n:Int)=(N+7) / 8):=h2
    clear h2
    by_cases h3:N % 8=0
    ·have hE:okB N zs=true:=okB_full (by omega) (by omega) (by rw [HL.out];exact H2.out) h3
     have h3':(N % 8 == 0)=true:=by simpa using h3
     rw [hE]
     clear hE h3
     go_enter Tryz.func155,Tryz.ntmps155
     go_wp2
     go_quiet (fail)
     go_wp2
     go_ret
     exact ⟨rfl,below_drewN hw _⟩
    ·have hn1:1≤n:=by have:=H2.out;omega
     have h3':(N % 8 == 0)=false:=by simpa using h3
     obtain ⟨b,off,rfl,hbl,hc⟩:=hb.len_pos (n-1) (by rw [HL.out];omega)
     have hlast:=hc (n-1) (by rw [HL.out];omega)
     have hr:=getD_rng hb.1 (n-1)
     have hE:okB N zs=(zs.getD (n-1) 0 / 2 ^ (N % 8).toNat == 0):=by
      rw [okB_last (by omega) (by omega) (by rw [HL.out];exact H2.out) h3,HL.out]
     rw [hE]
     clear hE
     generalize zs.getD (n-1) 0=z at *
     go_enter Tryz.func155,Tryz.ntmps155
     go_wp2
     go_quiet (fail)
     go_wp2
     go_ret
     exact ⟨rfl,below_drewN hw _⟩
   ·have hE:okB N zs=false:=okB_len h2
    have h2':((zs.length:Int) != (N+7) / 8)=true:=by rw [bne_iff_ne];exact h2
    rw [hE]
    clear hE h2
    go_enter Tryz.func155,Tryz.ntmps155
    go_wp2
    go_ret
    exact ⟨rfl,hw⟩
theorem addr_add (b off j:Nat):(⟨b,off,none⟩:Addr).add j=⟨b,off+j,none⟩:=by unfold Addr.add;split <;> simp_all
theorem news_of {w:World} {b off:Nat} {zs:List Int} (hc:∀ i,i<zs.length→w.cell? ⟨b,off+i,none⟩=some (.int .u8 (zs.getD i 0))) :
  ∀ j u,(zs.map (Value.int .u8))[j]?=some u→w.cell? ((⟨b,off,none⟩:Addr).add j)=some u:=by
 intro j u hu
 have hj:j<zs.length:=by
  rcases Nat.lt_or_ge j zs.length with h | h
  ·exact h
  ·rw [List.getElem?_eq_none (by simpa using h)] at hu;cases hu
 rw [addr_add,hc j hj]
 simp [hj] at hu
 simp [hj,←hu]
theorem oneCells (zs:List Int):∀ u ∈ zs.map (Value.int .u8),u.oneCell'=true:=by
 intro u hu
 simp only [List.mem_map] at hu
 obtain ⟨z,_,rfl⟩:=hu
 rfl
end Go.Proofs.YtaibkchbkedjnaaGreatDoor
namespace Go.Proofs.YtaibkchbkedjnaaGreatDoor
def val :List Int→Nat
 | []=>0
 | z :: r=>z.toNat+256*val r
def encL :Nat→Nat→List Int
 | 0,_=>[]
 | k+1,v=>((v % 256:Nat):Int) :: encL k (v / 256)
def enc (n v:Nat):List Int:=encL ((n+7) / 8) v
theorem encL_len (k v:Nat):(encL k v).length=k:=by
 induction k generalizing v with
 | zero=>rfl
 | succ k ih=>simp [encL,ih]
theorem enc_len (n v:Nat):(enc n v).length=(n+7) / 8:=encL_len _ _
theorem encL_rng (k v:Nat):∀ z ∈ encL k v,0≤z∧z≤255:=by
 induction k generalizing v with
 | zero=>intro z hz;cases hz
 | succ k ih=>
  intro z hz
  simp only [encL,List.mem_cons] at hz
  rcases hz with rfl | hz
  ·omega
  ·exact ih _ z hz
theorem encL_get (k v i:Nat) (h:i<k):(encL k v).getD i 0=((v / 256 ^ i % 256:Nat):Int):=by
 induction k generalizing v i with
 | zero=>omega
 | succ k ih=>
  cases i with
  | zero=>simp [encL]
  | succ i=>
   have:=ih (v / 256) i (by omega)
   simp only [encL,List.getD_cons_succ,this]
   rw [Nat.div_div_eq_div_mul,Nat.pow_succ,Nat.mul_comm]
theorem val_encL (k v:Nat):val (encL k v)=v % 256 ^ k:=by
 induction k generalizing v with
 | zero=>simp [encL,val,Nat.mod_one]
 | succ k ih=>
  simp only [encL,val,ih,Int.toNat_natCast]
  rw [Nat.pow_succ,Nat.mul_comm (256 ^ k) 256,Nat.mod_mul]
theorem encL_val (zs:List Int) (h:∀ z ∈ zs,0≤z∧z≤255):encL zs.length (val zs)=zs:=by
 induction zs with
 | nil=>rfl
 | cons z r ih=>
  have hz:=h z (by simp)
  have hr:=ih (fun y hy=>h y (by simp [hy]))
  simp only [List.length_cons,encL,val]
  rw [show (z.toNat+256*val r) % 256=z.toNat from by omega,show (z.toNat+256*val r) / 256=val r from by omega,hr]
  congr 1
  omega
theorem val_lt (zs:List Int) (h:∀ z ∈ zs,0≤z∧z≤255):val zs<256 ^ zs.length:=by
 induction zs with
 | nil=>simp [val]
 | cons z r ih=>
  have hz:=h z (by simp)
  have hr:=ih (fun y hy=>h y (by simp [hy]))
  simp only [List.length_cons,val,Nat.pow_succ]
  omega
theorem encL_mod (k v:Nat):encL k (v % 256 ^ k)=encL k v:=by
 have:=encL_val (encL k v) (encL_rng k v)
 rwa [encL_len,val_encL] at this
theorem encL_append (k v:Nat):encL (k+1) v=encL k v++[((v / 256 ^ k % 256:Nat):Int)]:=by
 induction k generalizing v with
 | zero=>simp [encL]
 | succ k ih=>
  rw [encL,ih (v / 256)]
  simp only [encL,List.cons_append]
  rw [Nat.div_div_eq_div_mul,Nat.pow_succ,Nat.mul_comm (256 ^ k) 256]
theorem pow256 (k:Nat):256 ^ k=2 ^ (8*k):=by
 rw [Nat.pow_mul]
theorem enc_bit (n v p:Nat) (hp:p<n):(((enc n v).getD (p / 8) 0).toNat / 2 ^ (p % 8)) % 2=v / 2 ^ p % 2:=by
 rw [enc,encL_get _ _ _ (by omega),Int.toNat_natCast,pow256]
 have h1:v / 2 ^ p=v / 2 ^ (8*(p / 8)) / 2 ^ (p % 8):=by
  rw [Nat.div_div_eq_div_mul,←Nat.pow_add]
  congr 2
  omega
 rw [h1]
 generalize v / 2 ^ (8*(p / 8))=u
 have hq:p % 8<8:=Nat.mod_lt _ (by omega)
 generalize p % 8=q at hq
 have h256:256=2 ^ q*2 ^ (8-q):=by rw [←Nat.pow_add,show q+(8-q)=8 from by omega]
 rw [h256,Nat.mod_mul_right_div_self]
 obtain ⟨r,hr⟩:∃ r,8-q=r+1:=⟨7-q,by omega⟩
 rw [hr,Nat.pow_succ,Nat.mul_comm (2 ^ r) 2,Nat.mod_mul_right_mod]
theorem enc_step (n v s c:Nat) (hv:v<2 ^ n) (hc:c<2 ^ s) (hs:0<s) (h8:n % 8+s≤8) :
  enc (n+s) (v+c*2 ^ n)=(if n % 8=0 then enc n v++[0] else enc n v).set (n / 8) (((v / 256 ^ (n / 8)+c*2 ^ (n % 8):Nat):Int)):=by
 have hk:(n+s+7) / 8=n / 8+1:=by omega
 have hpow:2 ^ n=256 ^ (n / 8)*2 ^ (n % 8):=by
  rw [pow256,←Nat.pow_add,show 8*(n / 8)+n % 8=n from by omega]
 have hlow:encL (n / 8) (v+c*2 ^ n)=encL (n / 8) v:=by
  rw [←encL_mod,hpow,Nat.mul_left_comm,Nat.add_mul_mod_self_left,encL_mod]
 have hdiv:(v+c*2 ^ n) / 256 ^ (n / 8)=v / 256 ^ (n / 8)+c*2 ^ (n % 8):=by
  rw [hpow,Nat.mul_left_comm,Nat.add_mul_div_left _ _ (Nat.pow_pos (by omega))]
 have hvd:v / 256 ^ (n / 8)<2 ^ (n % 8):=by
  rw [Nat.div_lt_iff_lt_mul (Nat.pow_pos (by omega)),Nat.mul_comm,←hpow];exact hv
 have hlt:v / 256 ^ (n / 8)+c*2 ^ (n % 8)<256:=by
  have h1:(c+1)*2 ^ (n % 8)≤2 ^ s*2 ^ (n % 8):=Nat.mul_le_mul_right _ hc
  have h2:2 ^ s*2 ^ (n % 8)≤256:=by
   rw [←Nat.pow_add]
   have h3:2 ^ (s+n % 8)≤2 ^ 8:=Nat.pow_le_pow_right (by omega) (by omega)
   omega
  rw [Nat.add_mul,Nat.one_mul] at h1
  omega
 unfold enc
 rw [hk,encL_append,hlow,hdiv,Nat.mod_eq_of_lt hlt]
 by_cases h0:n % 8=0
 ·rw [if_pos h0,show (n+7) / 8=n / 8 from by omega]
  rw [List.set_append_right _ _ (by rw [encL_len];exact Nat.le_refl _),encL_len]
  simp
 ·rw [if_neg h0,show (n+7) / 8=n / 8+1 from by omega,encL_append]
  rw [List.set_append_right _ _ (by rw [encL_len];exact Nat.le_refl _),encL_len]
  simp
theorem enc_last (n v:Nat) (hv:v<2 ^ n) (h:n % 8≠0):(enc n v).getD (n / 8) 0=((v / 256 ^ (n / 8):Nat):Int):=by
 have hpow:2 ^ n=256 ^ (n / 8)*2 ^ (n % 8):=by
  rw [pow256,←Nat.pow_add,show 8*(n / 8)+n % 8=n from by omega]
 have hvd:v / 256 ^ (n / 8)<2 ^ (n % 8):=by
  rw [Nat.div_lt_iff_lt_mul (Nat.pow_pos (by omega)),Nat.mul_comm,←hpow];exact hv
 have h256:2 ^ (n % 8)≤2 ^ 8:=Nat.pow_le_pow_right (by omega) (by omega)
 rw [enc,encL_get _ _ _ (by omega),Nat.mod_eq_of_lt (by omega)]
theorem enc_top (n v:Nat) (hv:v<2 ^ n):v / 256 ^ (n / 8)<2 ^ (n % 8):=by
 have hpow:2 ^ n=256 ^ (n / 8)*2 ^ (n % 8):=by
  rw [pow256,←Nat.pow_add,show 8*(n / 8)+n % 8=n from by omega]
 rw [Nat.div_lt_iff_lt_mul (Nat.pow_pos (by omega)),Nat.mul_comm,←hpow];exact hv
theorem val_bits (n:Nat) (zs:List Int) (h:∀ z ∈ zs,0≤z∧z≤255) (hl:zs.length=(n+7) / 8) (ht:n % 8=0∨(zs.getD (zs.length-1) 0).toNat<2 ^ (n % 8)) :
  val zs<2 ^ n∧zs=enc n (val zs):=by
 have he:=encL_val zs h
 have hv:=val_lt zs h
 refine ⟨?_,by rw [enc,←hl,he]⟩
 by_cases h0:n % 8=0
 ·rw [hl,pow256,show 8*((n+7) / 8)=n from by omega] at hv
  exact hv
 ·have ht':=ht.resolve_left h0
  have hk:zs.length=n / 8+1:=by omega
  have hlast:zs.getD (zs.length-1) 0=((val zs / 256 ^ (n / 8) % 256:Nat):Int):=by
   have:=encL_get zs.length (val zs) (n / 8) (by omega)
   rw [he] at this
   rw [show zs.length-1=n / 8 from by omega]
   exact this
  rw [hlast,Int.toNat_natCast] at ht'
  have h256:val zs / 256 ^ (n / 8)<256:=by
   rw [Nat.div_lt_iff_lt_mul (Nat.pow_pos (by omega)),←Nat.pow_succ',show (n / 8).succ=zs.length from hk.symm];exact hv
  rw [Nat.mod_eq_of_lt h256,Nat.div_lt_iff_lt_mul (Nat.pow_pos (by omega)),pow256,←Nat.pow_add] at ht'
  rw [show n % 8+8*(n / 8)=n from by omega] at ht'
  exact ht'
theorem put_lt (n v s c:Nat) (hv:v<2 ^ n) (hc:c<2 ^ s):v+c*2 ^ n<2 ^ (n+s):=by
 have h1:(c+1)*2 ^ n≤2 ^ s*2 ^ n:=Nat.mul_le_mul_right _ hc
 rw [Nat.add_mul,Nat.one_mul,←Nat.pow_add,Nat.add_comm s n] at h1
 omega
theorem put_part (n v x i s:Nat):v+(x % 2 ^ i)*2 ^ n+(x / 2 ^ i % 2 ^ s)*2 ^ (n+i)=v+(x % 2 ^ (i+s))*2 ^ n:=by
 have h:x % 2 ^ (i+s)=x % 2 ^ i+2 ^ i*(x / 2 ^ i % 2 ^ s):=by rw [Nat.pow_add,Nat.mod_mul]
 rw [h,Nat.add_mul,Nat.pow_add,Nat.add_assoc]
 congr 2
 rw [Nat.mul_comm (2 ^ i),Nat.mul_assoc,Nat.mul_comm (2 ^ i)]
theorem get_up (v at' i:Nat):v / 2 ^ at' % 2 ^ (i+1)=v / 2 ^ at' % 2 ^ i+(v / 2 ^ (at'+i) % 2)*2 ^ i:=by
 rw [Nat.pow_add 2 i 1,Nat.mod_mul,Nat.pow_one,Nat.div_div_eq_div_mul,←Nat.pow_add,Nat.mul_comm (2 ^ i)]
theorem get_down (v at' i:Nat):v / 2 ^ at' % 2 ^ (i+1)=2*(v / 2 ^ (at'+1) % 2 ^ i)+v / 2 ^ at' % 2:=by
 rw [Nat.pow_succ,Nat.mul_comm (2 ^ i) 2,Nat.mod_mul,Nat.div_div_eq_div_mul,←Nat.pow_succ,Nat.add_comm]
end Go.Proofs.YtaibkchbkedjnaaGreatDoor
namespace Go.Proofs.YtaibkchbkedjnaaGreatDoor
open Go.RowKit
set_option linter.unusedVariables false
theorem okB_enc {N:Int} {zs:List Int} (h:okB N zs=true) (hr:∀ z ∈ zs,0≤z∧z≤255):∃ n:Nat,N=n∧n≤4096∧zs=enc n (val zs)∧val zs<2 ^ n:=by
 simp only [okB,Bool.and_eq_true,decide_eq_true_eq,Bool.or_eq_true,beq_iff_eq] at h
 obtain ⟨⟨h0,h1,h2⟩,h3⟩:=h
 obtain ⟨n,rfl⟩:=Int.eq_ofNat_of_zero_le h0
 have:=val_bits n zs hr (by omega) (by
  rcases h3 with h3 | h3
  ·exact .inl (by omega)
  ·refine .inr ?_
   have hz:=getD_rng hr (zs.length-1)
   obtain ⟨z,hz'⟩:=Int.eq_ofNat_of_zero_le hz.1
   rw [hz'] at h3 ⊢
   rw [show ((n:Int) % 8).toNat=n % 8 from by omega] at h3
   have h4:((z / 2 ^ (n % 8):Nat):Int)=0:=by simpa using h3
   rw [Int.toNat_natCast]
   have h5:z / 2 ^ (n % 8)=0:=by omega
   exact (Nat.div_eq_zero_iff_lt (Nat.pow_pos (by omega))).1 h5)
 exact ⟨n,rfl,by omega,this.2,this.1⟩
theorem ofInt_i64 (a:Nat) (ha:a<9223372036854775808):(BitVec.ofInt 64 (a:Int)).toNat=a:=by
 rw [BitVec.ofInt_natCast,BitVec.toNat_ofNat];exact Nat.mod_eq_of_lt (by omega)
theorem i64_and_nat (a b:Nat) (ha:a<9223372036854775808) (hb:b<9223372036854775808):bits .and .i64 (a:Int) (b:Int)=((a &&& b:Nat):Int):=by
 have hx:a &&& b<2 ^ 63:=Nat.and_lt_two_pow _ (by omega)
 show IntKind.i64.wrap ((BitVec.ofInt 64 (a:Int) &&& BitVec.ofInt 64 (b:Int)).toNat:Int)=_
 rw [BitVec.toNat_and,ofInt_i64 a ha,ofInt_i64 b hb,IntKind.wrap_i64]
 omega
theorem i64_or_nat (a b:Nat) (ha:a<9223372036854775808) (hb:b<9223372036854775808):bits .or .i64 (a:Int) (b:Int)=((a ||| b:Nat):Int):=by
 have hx:a ||| b<2 ^ 63:=Nat.or_lt_two_pow (by omega) (by omega)
 show IntKind.i64.wrap ((BitVec.ofInt 64 (a:Int) ||| BitVec.ofInt 64 (b:Int)).toNat:Int)=_
 rw [BitVec.toNat_or,ofInt_i64 a ha,ofInt_i64 b hb,IntKind.wrap_i64]
 omega
theorem bit64 (z:Int) (k:Nat) (h:0≤z∧z≤255):bits .and .i64 (wrap64 (z / 2 ^ k)) 1=((z.toNat / 2 ^ k % 2:Nat):Int):=by
 obtain ⟨n,rfl⟩:=Int.eq_ofNat_of_zero_le h.1
 have e:((n:Int) / 2 ^ k)=((n / 2 ^ k:Nat):Int):=by simp
 have hle:n / 2 ^ k≤n:=Nat.div_le_self _ _
 rw [e,Int.toNat_natCast]
 generalize n / 2 ^ k=m at *
 rw [IntWalk.wrap64_in _ (by omega)]
 have:=i64_and_nat m 1 (by omega) (by omega)
 rw [show ((1:Nat):Int)=1 from rfl] at this
 rw [this,nat_mask1]
theorem or_bit64 (n b i:Nat) (hn:n<2 ^ i) (hb:b≤1) (hi:i≤31):bits .or .i64 (n:Int) ((b*2 ^ i:Nat):Int)=((n+b*2 ^ i:Nat):Int):=by
 have h1:2 ^ i≤2 ^ 31:=Nat.pow_le_pow_right (by omega) hi
 have h2:b*2 ^ i≤1*2 ^ i:=Nat.mul_le_mul_right _ hb
 rw [i64_or_nat n (b*2 ^ i) (by omega) (by omega)]
 congr 1
 rw [Nat.or_comm,nat_join i _ _ (by simp) hn,Nat.add_comm]
theorem or_step64 (X j k:Nat) (z:Int) (hz:0≤z∧z≤255) (hx:X<2 ^ j) (hj:j≤31) :
  bits .or .i64 (X:Int) (wrap64 (bits .and .i64 (wrap64 (z / 2 ^ k)) 1*2 ^ j))=((X+z.toNat / 2 ^ k % 2*2 ^ j:Nat):Int):=by
 rw [bit64 z k hz]
 have hb:z.toNat / 2 ^ k % 2≤1:=by omega
 generalize z.toNat / 2 ^ k % 2=bt at *
 have e:((bt:Nat):Int)*2 ^ j=((bt*2 ^ j:Nat):Int):=by simp
 have h1:2 ^ j≤2 ^ 31:=Nat.pow_le_pow_right (by omega) hj
 have h2:bt*2 ^ j≤1*2 ^ j:=Nat.mul_le_mul_right _ hb
 have h3:=or_bit64 X bt j hx hb hj
 rw [e]
 generalize bt*2 ^ j=y at *
 rw [IntWalk.wrap64_in _ (by omega)]
 exact h3
theorem or_u8 (old x u:Nat) (ho:old<2 ^ u) (hx:x % 2 ^ u=0) (h8:x<256) (h9:old<256):bits .or .u8 (old:Int) (x:Int)=((old+x:Nat):Int):=by
 rw [u8_or_nat old x h9 h8]
 congr 1
 rw [Nat.or_comm,nat_join u _ _ hx ho,Nat.add_comm]
def openY (zs:List Int) (L b:Nat) (t:Nat):List Int:=if b=0 then zs.take L else zs.set L ((t-2 ^ b:Nat):Int)
theorem mask_low (t j:Nat) (hj:j<8) (h1:2 ^ j≤t) (h2:t<2 ^ (j+1)):bits .and .u8 (t:Int) ((2 ^ j-1) % 256)=((t-2 ^ j:Nat):Int):=by
 have hp:2 ^ j≤2 ^ 7:=Nat.pow_le_pow_right (by omega) (by omega)
 have hp0:0<2 ^ j:=Nat.pow_pos (by omega)
 rw [Nat.pow_succ] at h2
 have e:(((2:Int) ^ j-1) % 256)=((2 ^ j-1:Nat):Int):=by
  have:((2:Int) ^ j)=((2 ^ j:Nat):Int):=by simp
  rw [this]
  omega
 rw [e,u8_and_nat t (2 ^ j-1) (by omega) (by omega),Nat.and_two_pow_sub_one_eq_mod]
 congr 1
 rw [Nat.mod_eq_sub_mod h1,Nat.mod_eq_of_lt (by omega)]
theorem and1_zero :bits .and .u8 0 1=0:=by decide
theorem and1_one :bits .and .u8 1 1=1:=by decide
theorem keepF {B:Nat} {w w':World} (h:Below B w w') {b o:Nat} (hb:b<B) (hf:w.frozen? ⟨b,o,none⟩=false):w'.frozen? ⟨b,o,none⟩=false:=(h.frozen (p:=⟨b,o,none⟩) hb).trans hf
theorem keepAF {w:World} (ob:Obj) {b o:Nat} (hb:b<w.heap.size) (hf:w.frozen? ⟨b,o,none⟩=false):(w.alloc ob).frozen? ⟨b,o,none⟩=false:=keepF ((Below.refl w.heap.size w).alloc nl ob) hb hf
theorem after2 {w w1:World} {x0 x1:Value} {T:TypeId} {o2:Obj} {row:Option Nat} (h:((w.alloc (.cells #[x0,x1] T)).alloc o2).grownBy w1 row) (hr:row=some (w.heap.size+1)) :
  w1.cell? ⟨w.heap.size,0,none⟩=some x0∧w1.cell? ⟨w.heap.size,1,none⟩=some x1∧w1.frozen? ⟨w.heap.size,0,none⟩=false∧w1.frozen? ⟨w.heap.size,1,none⟩=false∧Below w.heap.size w w1∧w.heap.size+1<w1.heap.size:=by
 subst hr
 have hb:Below (w.heap.size+1) ((w.alloc (.cells #[x0,x1] T)).alloc o2) w1:=
  ⟨h.os,h.tape,h.output,h.size,fun k hk=>h.block k (by simp;omega) (by simp;omega)⟩
 have f:∀ j,((w.alloc (.cells #[x0,x1] T)).alloc o2).frozen? ⟨w.heap.size,j,none⟩=false:=fun j=>
  (((Below.refl (w.alloc (.cells #[x0,x1] T)).heap.size _).alloc nl o2).frozen (p:=⟨w.heap.size,j,none⟩) (by simp)).trans (by simp)
 have hs:=h.size
 simp at hs
 refine ⟨keep hb (by omega) (keepA _ (by simp) (by simp)),keep hb (by omega) (keepA _ (by simp) (by simp)),(hb.frozen (p:=⟨w.heap.size,0,none⟩) (by simp)).trans (f 0),(hb.frozen (p:=⟨w.heap.size,1,none⟩) (by simp)).trans (f 1),?_,by omega⟩
 exact (((Below.refl w.heap.size w).alloc nl _).alloc (by simp) _).trans (hb.mono (by omega))
theorem Mine.setC {w:World} {B U:Nat} {a:Option Addr} {cap:Nat} {zs:List Int} (h:Mine w B U a cap zs) {p:Addr} (hp:p.block<B) (u:Value):Mine (w.setCell p u) B U a cap zs:=
 h.only (Only.setCell (Only.refl (fun b=>b=p.block) w) (.inl rfl) u) (fun b h1 _=>by omega)
theorem openY_len (zs:List Int) (L b t:Nat) (hL:zs.length=L+1):(openY zs L b t).length=(8*L+b+7) / 8∨8≤b:=by
 by_cases hb:b=0
 ·left
  rw [openY,if_pos hb,List.length_take,hL,hb]
  omega
 ·by_cases h8:b<8
  ·left
   rw [openY,if_neg hb,List.length_set,hL]
   omega
  ·right;omega
theorem okB_open (zs:List Int) (L b t:Nat) (hL:zs.length=L+1) (h1:2 ^ b≤t) (h2:t<2 ^ (b+1)) (hb:b<8) :
  okB ((8*L+b:Nat):Int) (openY zs L b t)=decide (8*L+b≤4096):=by
 have hlen:(openY zs L b t).length=(8*L+b+7) / 8:=(openY_len zs L b t hL).resolve_right (by omega)
 by_cases hn:8*L+b≤4096
 ·rw [decide_eq_true hn]
  by_cases hb0:b=0
  ·subst hb0
   exact okB_full (by omega) (by omega) (by rw [hlen];omega) (by omega)
  ·rw [okB_last (by omega) (by omega) (by rw [hlen];omega) (by omega),hlen]
   rw [show (8*L+b+7) / 8-1=L from by omega,show (((8*L+b:Nat):Int) % 8).toNat=b from by omega]
   have hg:(openY zs L b t).getD L 0=((t-2 ^ b:Nat):Int):=by
    rw [openY,if_neg hb0]
    simp [hL]
   rw [hg]
   have hz:(t-2 ^ b) / 2 ^ b=0:=by
    rw [Nat.pow_succ] at h2
    exact Nat.div_eq_of_lt (by omega)
   have e:(((t-2 ^ b:Nat):Int) / 2 ^ b)=(((t-2 ^ b) / 2 ^ b:Nat):Int):=by
    have:((2:Int) ^ b)=((2 ^ b:Nat):Int):=by simp
    rw [this];rfl
   rw [e,hz]
   rfl
 ·rw [decide_eq_false hn]
  exact okB_big (by omega)
theorem l1open_yes (a:Option Addr) (cap:Nat) (zs:List Int) (L b t:Nat) (w:World) (hb:Byt w a zs) (hL:zs.length=L+1) (hcap:L+1≤cap) (hl:L≤1048576) (ht:zs.getD L 0=(t:Int)) (h1:2 ^ b≤t) (h2:t<2 ^ (b+1)) (hb8:b<8) :
  Calls Tryz.prog 117 #[.slice a (L+1) cap] w fun e w'=>∃ a' cp,e=.returned (.tuple #[.agg #[.slice a' (openY zs L b t).length cp,.int .i64 ((8*L+b:Nat):Int)],.bool (okB ((8*L+b:Nat):Int) (openY zs L b t))]) ∧
   Mine w' w.heap.size w'.heap.size a' cp (openY zs L b t)∧Below w.heap.size w w':=by
 obtain ⟨i0,hi,hz0,hz1,hz2⟩:=info_parts Tryz.infoU8
 obtain ⟨ab,off,rfl,hbl,hc⟩:=hb.2 (by omega)
 have hr:=getD_rng hb.1 L
 have ht1:1≤t:=Nat.le_trans (Nat.pow_pos (by omega)) h1
 have hcL:=hc L (by omega)
 rw [ht] at hcL hr
 have hne:((t:Int) == 0)=false:=by simp;omega
 have hlen0:(((L:Int)+1) == 0)=false:=by simp;omega
 have HT:Hid (zs.getD L 0=(t:Int)):=ht
 have HL:Hid (zs.length=L+1):=hL
 have HC:Hid (∀ i,i<zs.length→w.cell? ⟨ab,off+i,none⟩=some (.int .u8 (zs.getD i 0))):=hc
 have H1:Hid (2 ^ b≤t):=h1
 have H2:Hid (t<2 ^ (b+1)):=h2
 have hLp:(((L+1:Nat):Int))=(L:Int)+1:=by omega
 clear hc ht hL h1 h2
 go_enter Tryz.func117,Tryz.ntmps117
 go_wp2
 go_loop [4] (fun i=>∃ j:Nat,b≤j∧j≤7∧i=.int .i64 ((8*L+j:Nat):Int)) (fun i=>(intOf i).toNat)
 case atStart=>exact ⟨7,by omega,Nat.le_refl _,congrArg (Value.int .i64) (by omega)⟩
 case round=>
  obtain ⟨j,hbj,hj7,rfl⟩:=hrel
  obtain ⟨q,hq⟩:∃ q,q=8*L+j:=⟨_,rfl⟩
  have hqL:q / 8=L:=by omega
  have hqj:q % 8=j:=by omega
  have hq1:q / 8<L+1:=by omega
  have hq4:q≤8388616:=by omega
  have hcq:w.cell? ⟨ab,off+q / 8,none⟩=some (.int .u8 (t:Int)):=by rw [hqL];exact hcL
  have HQ:Hid (q=8*L+j):=hq
  rw [←hq]
  clear hq hqL hcL
  by_cases hlt:b<j
  ·have hdiv:t / 2 ^ (q % 8)=0:=by
    rw [hqj]
    refine Nat.div_eq_of_lt (Nat.lt_of_lt_of_le H2.out (Nat.pow_le_pow_right (by omega) (by omega)))
   have hdz:(t:Int) / 2 ^ (q % 8)=0:=by
    have e:(t:Int) / 2 ^ (q % 8)=((t / 2 ^ (q % 8):Nat):Int):=by simp
    rw [e,hdiv];rfl
   have ha:=and1_zero
   have hz:((0:Int) == 0)=true:=rfl
   clear hdiv hqj
   go_wp2
   go_round
   case rel=>exact ⟨j-1,by omega,by omega,congrArg (Value.int .i64) (by have:=HQ.out;omega)⟩
   case measure=>simp [intOf];have:=HQ.out;omega
  ·have hjb:j=b:=by omega
   subst hjb
   have hdiv:t / 2 ^ (q % 8)=1:=by
    rw [hqj]
    have h1:=H1.out
    have h2:=H2.out
    rw [Nat.pow_succ] at h2
    exact Nat.div_eq_of_lt_le (by omega) (by omega)
   have hdz:(t:Int) / 2 ^ (q % 8)=1:=by
    have e:(t:Int) / 2 ^ (q % 8)=((t / 2 ^ (q % 8):Nat):Int):=by simp
    rw [e,hdiv];rfl
   have ha:=and1_one
   have hz:((1:Int) == 0)=false:=rfl
   have HQJ:Hid (q % 8=j):=hqj
   clear hdiv hqj
   have hown0:∀ o1:Obj,((w.alloc o1).alloc (Obj.cells #[] 5)).ownsRow (w.heap.size+1) 5 1 (.slice (some ⟨w.heap.size+1,0,none⟩) 0 0) 0 []:=fun o1=>
    ⟨rfl,.inr ⟨_,0,#[],rfl,Nat.le_refl _,by have:=heap_alloc_new (w.alloc o1) (Obj.cells #[] 5);simpa using this,Nat.le_refl _,by simp,rfl,rfl⟩⟩
   by_cases hj0:j=0
   ·subst hj0
    have hm8:(q+7) / 8=L:=by have:=HQ.out;omega
    have hm8':((q:Int)+7) / 8=(L:Int):=by have:=HQ.out;omega
    have hj8:(q:Int) % 8≤0:=by have:=HQJ.out;omega
    have hnews:∀ o1 o2:Obj,∀ i u,((zs.take L).map (Value.int .u8))[i]?=some u→((w.alloc o1).alloc o2).cell? ((⟨ab,off,none⟩:Addr).add i)=some u:=by
     intro o1 o2
     refine news_of (fun i hi=>?_)
     have hiL:i<L:=by have:=HL.out;simp at hi;omega
     rw [show (zs.take L).getD i 0=zs.getD i 0 from by simp [hiL]]
     exact keepA _ (by simp;omega) (keepA _ hbl (HC.out i (by have:=HL.out;omega)))
    by_cases hL0:0<L
    ·have hll:(zs.take L).length=L:=by rw [List.length_take,HL.out];omega
     have HLL:Hid ((zs.take L).length=L):=hll
     clear hll
     go_wp2_with (at_builtin;(refine wpList_append_lies _ rfl (.tmp 35) (.tmp 40) 36 rfl (w.heap.size+1) 5 i0 (.int .u8 0) 1 1 Tryz.underlying36 hi hz0 hz1 hz2 rfl (by decide) (.slice (some ⟨w.heap.size+1,0,none⟩) 0 0) 0 [] rfl (by exact hown0 _) ⟨ab,off,none⟩ L cap ((zs.take L).map (Value.int .u8)) rfl (by rw [List.length_map,HLL.out];simp) (by exact hnews _ _) (oneCells _) hL0 (by unfold maxLen;omega) (by omega) (by simp) _ rfl ?_);intro g cp w1 hown hgrow hat hlt1)
     obtain ⟨r0,r1,f0,f1,hbb,hsz1⟩:=after2 hgrow rfl
     have ho:Own w1 (w.heap.size+1) g cp (zs.take L):=⟨by rw [HLL.out];simpa using hown,fun z hz=>hb.1 z (List.mem_of_mem_take hz)⟩
     clear hown hgrow hat hcq hdz
     have hyl:(openY zs L 0 t).length=L:=by rw [openY,if_pos rfl,List.length_take,HL.out];omega
     have hqq:((8*L+0:Nat):Int)=(q:Int):=by have:=HQ.out;omega
     have ho':Own w1 (w.heap.size+1) g cp (openY zs L 0 t):=by rw [openY,if_pos rfl];exact ho
     have hyl':(openY zs L 0 t).length≤1048577:=by rw [hyl];omega
     have HYL:Hid ((openY zs L 0 t).length=L):=hyl
     clear hyl
     generalize hYS:openY zs L 0 t=ys at *
     have HYS:Hid (openY zs L 0 t=ys):=hYS
     clear hYS
     have HO2:Hid (Own w1 (w.heap.size+1) g cp ys):=ho'
     have HB2:Hid (Below w.heap.size w w1):=hbb
     have hlt:=ho'.lt
     clear ho ho' hbb
     rw [show (Value.slice (some ⟨g,0,none⟩) L cp)=.slice (some ⟨g,0,none⟩) ys.length cp from by rw [HYL.out]]
     go_region_with (go_at_call 155;refine (specOk_any _ _ ys q _ (by exact (HO2.out.alloc _).byt) (by omega)).mono ?_;rintro e w5 ⟨rfl,hb5'⟩;have hb5:=Below.drewS hb5';have b0:w5.cell? ⟨w1.heap.size,0,none⟩=some (.slice (some ⟨g,0,none⟩) ys.length cp):=keep hb5 (by simp) (by simp);have b1:w5.cell? ⟨w1.heap.size,1,none⟩=some (.int .i64 q):=keep hb5 (by simp) (by simp);have x0:=keep hb5 (by simp;omega) (keepA _ (by omega) r0);have x1:=keep hb5 (by simp;omega) (keepA _ (by omega) r1);have y0:=keepF hb5 (by simp;omega) (keepAF _ (by omega) f0);have y1:=keepF hb5 (by simp;omega) (keepAF _ (by omega) f1))
     all_goals
      have hbb5:Below w.heap.size w w5:=(HB2.out.alloc (by omega) _).trans (hb5.mono (by show w.heap.size≤(w1.heap.push _).size;simp;omega))
      have ho5:Own w5 (w.heap.size+1) g cp ys:=(HO2.out.alloc _).below hb5 nl
      have HO5:Hid (Own w5 (w.heap.size+1) g cp ys):=ho5
      have HBB5:Hid (Below w.heap.size w w5):=hbb5
      have hlt5:=ho5.lt
      have HQQ:Hid (((8*L+0:Nat):Int)=(q:Int)):=hqq
      clear hb5 hb5' hbb5 ho5 hqq
      go_wp2
      refine bodyPost_ret (v:=.tuple #[.agg #[.slice (some ⟨g,0,none⟩) ys.length cp,.int .i64 (q:Int)],.bool (okB (q:Int) ys)]) (by simp [results,Tryz.results117,go_sem,x0,x1]) rfl ⟨some ⟨g,0,none⟩,cp,by rw [HYS.out,HQQ.out],?_,?_⟩
      ·rw [HYS.out]
       have hO3:Only (fun b=>b=w.heap.size) w5 ((w5.setCell ⟨w.heap.size,0,none⟩ (.slice (some ⟨g,0,none⟩) ys.length cp)).setCell ⟨w.heap.size,1,none⟩ (.int .i64 (q:Int))):=
        Only.setCell (Only.setCell (Only.refl (fun b=>b=w.heap.size) w5) (p:=⟨w.heap.size,0,none⟩) (.inl rfl) _) (p:=⟨w.heap.size,1,none⟩) (.inl rfl) _
       exact ((HO5.out.mine.only hO3 (fun b h1 _=>by omega)).mono (by omega) (by simp [World.setCell]))
      ·exact ((HBB5.out.setCell (by simp) _).setCell (by simp) _)
    ·have hL00:L=0:=by omega
     subst hL00
     go_wp2_with fail
     obtain ⟨w1,hw1⟩:∃ x,x=(w.alloc (Obj.cells #[.slice none 0 0,.int .i64 0] 155)).alloc (Obj.cells #[] 5):=⟨_,rfl⟩
     obtain ⟨g,hg⟩:∃ x,x=w.heap.size+1:=⟨_,rfl⟩
     obtain ⟨cp,hcp⟩:∃ x,x=0:=⟨_,rfl⟩
     have hz:w.heap.size+1+1=w1.heap.size:=by rw [hw1];simp
     have ho:Own w1 (w.heap.size+1) g cp (zs.take 0):=by
      rw [hw1,hg,hcp]
      exact ⟨hown0 _,by simp⟩
     have r0:w1.cell? ⟨w.heap.size,0,none⟩=some (.slice none 0 0):=by rw [hw1];exact keepA _ (by simp) (by simp)
     have r1:w1.cell? ⟨w.heap.size,1,none⟩=some (.int .i64 0):=by rw [hw1];exact keepA _ (by simp) (by simp)
     have f0:w1.frozen? ⟨w.heap.size,0,none⟩=false:=by rw [hw1];exact keepAF _ (by simp) (by simp)
     have f1:w1.frozen? ⟨w.heap.size,1,none⟩=false:=by rw [hw1];exact keepAF _ (by simp) (by simp)
     have hbb:Below w.heap.size w w1:=by rw [hw1];exact ((Below.refl w.heap.size w).alloc nl _).alloc (by simp) _
     have hsz1:w.heap.size+1<w1.heap.size:=by omega
     rw [hz,←hw1]
     rw [show (Value.slice (some ⟨w.heap.size+1,0,none⟩) 0 0)=.slice (some ⟨g,0,none⟩) 0 cp from by rw [hg,hcp]]
     clear hw1 hg hcp hz hcq hdz
     have hyl:(openY zs 0 0 t).length=0:=by rw [openY,if_pos rfl,List.length_take,HL.out];omega
     have hqq:((8*0+0:Nat):Int)=(q:Int):=by have:=HQ.out;omega
     have ho':Own w1 (w.heap.size+1) g cp (openY zs 0 0 t):=by rw [openY,if_pos rfl];exact ho
     have hyl':(openY zs 0 0 t).length≤1048577:=by rw [hyl];omega
     have HYL:Hid ((openY zs 0 0 t).length=0):=hyl
     clear hyl
     generalize hYS:openY zs 0 0 t=ys at *
     have HYS:Hid (openY zs 0 0 t=ys):=hYS
     clear hYS
     have HO2:Hid (Own w1 (w.heap.size+1) g cp ys):=ho'
     have HB2:Hid (Below w.heap.size w w1):=hbb
     have hlt:=ho'.lt
     clear ho ho' hbb
     rw [show (Value.slice (some ⟨g,0,none⟩) 0 cp)=.slice (some ⟨g,0,none⟩) ys.length cp from by rw [HYL.out]]
     go_region_with (go_at_call 155;refine (specOk_any _ _ ys q _ (by exact (HO2.out.alloc _).byt) (by omega)).mono ?_;rintro e w5 ⟨rfl,hb5'⟩;have hb5:=Below.drewS hb5';have b0:w5.cell? ⟨w1.heap.size,0,none⟩=some (.slice (some ⟨g,0,none⟩) ys.length cp):=keep hb5 (by simp) (by simp);have b1:w5.cell? ⟨w1.heap.size,1,none⟩=some (.int .i64 q):=keep hb5 (by simp) (by simp);have x0:=keep hb5 (by simp;omega) (keepA _ (by omega) r0);have x1:=keep hb5 (by simp;omega) (keepA _ (by omega) r1);have y0:=keepF hb5 (by simp;omega) (keepAF _ (by omega) f0);have y1:=keepF hb5 (by simp;omega) (keepAF _ (by omega) f1))
     all_goals
      have hbb5:Below w.heap.size w w5:=(HB2.out.alloc (by omega) _).trans (hb5.mono (by show w.heap.size≤(w1.heap.push _).size;simp;omega))
      have ho5:Own w5 (w.heap.size+1) g cp ys:=(HO2.out.alloc _).below hb5 nl
      have HO5:Hid (Own w5 (w.heap.size+1) g cp ys):=ho5
      have HBB5:Hid (Below w.heap.size w w5):=hbb5
      have hlt5:=ho5.lt
      have HQQ:Hid (((8*0+0:Nat):Int)=(q:Int)):=hqq
      clear hb5 hb5' hbb5 ho5 hqq
      go_wp2
      refine bodyPost_ret (v:=.tuple #[.agg #[.slice (some ⟨g,0,none⟩) ys.length cp,.int .i64 (q:Int)],.bool (okB (q:Int) ys)]) (by simp [results,Tryz.results117,go_sem,x0,x1]) rfl ⟨some ⟨g,0,none⟩,cp,by rw [HYS.out,HQQ.out],?_,?_⟩
      ·rw [HYS.out]
       have hO3:Only (fun b=>b=w.heap.size) w5 ((w5.setCell ⟨w.heap.size,0,none⟩ (.slice (some ⟨g,0,none⟩) ys.length cp)).setCell ⟨w.heap.size,1,none⟩ (.int .i64 (q:Int))):=
        Only.setCell (Only.setCell (Only.refl (fun b=>b=w.heap.size) w5) (p:=⟨w.heap.size,0,none⟩) (.inl rfl) _) (p:=⟨w.heap.size,1,none⟩) (.inl rfl) _
       exact ((HO5.out.mine.only hO3 (fun b h1 _=>by omega)).mono (by omega) (by simp [World.setCell]))
      ·exact ((HBB5.out.setCell (by simp) _).setCell (by simp) _)
   ·have hm8:(q+7) / 8=L+1:=by have:=HQ.out;omega
    have hm8':((q:Int)+7) / 8=(L:Int)+1:=by have:=HQ.out;omega
    have hnews:∀ o1 o2:Obj,∀ i u,(zs.map (Value.int .u8))[i]?=some u→((w.alloc o1).alloc o2).cell? ((⟨ab,off,none⟩:Addr).add i)=some u:=by
     intro o1 o2
     refine news_of (fun i hi=>?_)
     exact keepA _ (by simp;omega) (keepA _ hbl (HC.out i hi))
    have hj8:(0:Int)<(q:Int) % 8:=by have:=HQJ.out;omega
    go_wp2_with (at_builtin;refine wpList_append_lies _ rfl (.tmp 35) (.tmp 40) 36 rfl (w.heap.size+1) 5 i0 (.int .u8 0) 1 1 Tryz.underlying36 hi hz0 hz1 hz2 rfl (by decide) (.slice (some ⟨w.heap.size+1,0,none⟩) 0 0) 0 [] rfl (by exact hown0 _) ⟨ab,off,none⟩ (L+1) cap (zs.map (Value.int .u8)) rfl (by have:=HL.out;simp [this]) (by exact hnews _ _) (oneCells zs) (by omega) (by unfold maxLen;omega) (by omega) (by simp) _ rfl ?_;intro g cp w1 hown hgrow hat hlt1)
    obtain ⟨r0,r1,f0,f1,hbb,hsz1⟩:=after2 hgrow rfl
    have ho:Own w1 (w.heap.size+1) g cp zs:=⟨by have:=HL.out;rw [this];simpa using hown,hb.1⟩
    have hlt:=ho.lt
    have cg:=ho.cell (q / 8) (by have:=HL.out;omega)
    rw [show q / 8=L from by have:=HQ.out;omega,HT.out,show L=q / 8 from by have:=HQ.out;omega] at cg
    have fg:=ho.frozen (q / 8)
    have HO:Hid (Own w1 (w.heap.size+1) g cp zs):=ho
    have HBB:Hid (Below w.heap.size w w1):=hbb
    have hg1:g≠w1.heap.size:=by omega
    clear hown hgrow hat ho hbb hcq hdz
    have hmask:bits .and .u8 (t:Int) ((2 ^ (q % 8)-1) % 256)=((t-2 ^ j:Nat):Int):=by rw [HQJ.out];exact mask_low t j hb8 H1.out H2.out
    have HMASK:Hid (bits .and .u8 (t:Int) ((2 ^ (q % 8)-1) % 256)=((t-2 ^ j:Nat):Int)):=hmask
    clear hmask
    go_region
    go_wp2_with fail
    rw [HMASK.out]
    have hrng:(0:Int)≤((t-2 ^ j:Nat):Int)∧((t-2 ^ j:Nat):Int)≤255:=by
     generalize 2 ^ j=pj
     omega
    have ho2:=(HO.out.store (q / 8) ((t-2 ^ j:Nat):Int) hrng)
    rw [show q / 8=L from by have:=HQ.out;omega] at ho2
    rw [show q / 8=L from by have:=HQ.out;omega]
    have hY:openY zs L j t=zs.set L ((t-2 ^ j:Nat):Int):=by rw [openY,if_neg hj0]
    rw [←hY] at ho2
    have hyl:(openY zs L j t).length=L+1:=by rw [hY,List.length_set];exact HL.out
    have hbb2:Below w.heap.size w (w1.setCell ⟨g,L,none⟩ (.int .u8 ((t-2 ^ j:Nat):Int))):=HBB.out.setCell (by simp;omega) _
    have hgr:g≠w.heap.size:=by omega
    have r0':=(World.cell?_setCell_other w1 ⟨g,L,none⟩ ⟨w.heap.size,0,none⟩ (.int .u8 ((t-2 ^ j:Nat):Int)) (by simp)).trans r0
    have r1':=(World.cell?_setCell_other w1 ⟨g,L,none⟩ ⟨w.heap.size,1,none⟩ (.int .u8 ((t-2 ^ j:Nat):Int)) (by simp)).trans r1
    have f0':(w1.setCell ⟨g,L,none⟩ (.int .u8 ((t-2 ^ j:Nat):Int))).frozen? ⟨w.heap.size,0,none⟩=false:=by simpa using f0
    have f1':(w1.setCell ⟨g,L,none⟩ (.int .u8 ((t-2 ^ j:Nat):Int))).frozen? ⟨w.heap.size,1,none⟩=false:=by simpa using f1
    have hz2':w1.heap.size=(w1.setCell ⟨g,L,none⟩ (.int .u8 ((t-2 ^ j:Nat):Int))).heap.size:=by simp [World.setCell]
    rw [hz2']
    rw [hz2'] at hsz1
    have hlt2:=ho2.lt
    clear r0 r1 f0 f1 cg fg hz2' HO HBB hlt1 hlt hg1 HMASK hrng hgr
    generalize w1.setCell ⟨g,L,none⟩ (.int .u8 ((t-2 ^ j:Nat):Int))=w2 at *
    have hqq:((8*L+j:Nat):Int)=(q:Int):=by have:=HQ.out;omega
    rw [←hyl]
    have hyl':(openY zs L j t).length≤1048577:=by rw [hyl];omega
    clear hY hyl
    generalize hYS:openY zs L j t=ys at *
    have HYS:Hid (openY zs L j t=ys):=hYS
    clear hYS
    have HO2:Hid (Own w2 (w.heap.size+1) g cp ys):=ho2
    have HB2:Hid (Below w.heap.size w w2):=hbb2
    clear ho2 hbb2
    go_region_with (go_at_call 155;refine (specOk_any _ _ ys q _ (by exact (HO2.out.alloc _).byt) (by omega)).mono ?_;rintro e w5 ⟨rfl,hb5'⟩;have hb5:=Below.drewS hb5';have b0:w5.cell? ⟨w2.heap.size,0,none⟩=some (.slice (some ⟨g,0,none⟩) ys.length cp):=keep hb5 (by simp) (by simp);have b1:w5.cell? ⟨w2.heap.size,1,none⟩=some (.int .i64 q):=keep hb5 (by simp) (by simp);have x0:=keep hb5 (by simp;omega) (keepA _ (by omega) r0');have x1:=keep hb5 (by simp;omega) (keepA _ (by omega) r1');have y0:=keepF hb5 (by simp;omega) (keepAF _ (by omega) f0');have y1:=keepF hb5 (by simp;omega) (keepAF _ (by omega) f1'))
    all_goals
     have hbb5:Below w.heap.size w w5:=(HB2.out.alloc (by omega) _).drew.trans (hb5.mono (by show w.heap.size≤(w2.heap.push _).size;simp;omega))
     have ho5:Own w5 (w.heap.size+1) g cp ys:=((HO2.out.alloc _).drewN 1).below hb5 nl
     have HO5:Hid (Own w5 (w.heap.size+1) g cp ys):=ho5
     have HBB5:Hid (Below w.heap.size w w5):=hbb5
     have hlt5:=ho5.lt
     have HQQ:Hid (((8*L+j:Nat):Int)=(q:Int)):=hqq
     clear hb5 hb5' hbb5 ho5 hqq
     go_wp2
     refine bodyPost_ret (v:=.tuple #[.agg #[.slice (some ⟨g,0,none⟩) ys.length cp,.int .i64 (q:Int)],.bool (okB (q:Int) ys)]) (by simp [results,Tryz.results117,go_sem,x0,x1]) rfl ⟨some ⟨g,0,none⟩,cp,by rw [HYS.out,HQQ.out],?_,?_⟩
     ·rw [HYS.out]
      have hO3:Only (fun b=>b=w.heap.size) w5 ((w5.setCell ⟨w.heap.size,0,none⟩ (.slice (some ⟨g,0,none⟩) ys.length cp)).setCell ⟨w.heap.size,1,none⟩ (.int .i64 (q:Int))):=
       Only.setCell (Only.setCell (Only.refl (fun b=>b=w.heap.size) w5) (p:=⟨w.heap.size,0,none⟩) (.inl rfl) _) (p:=⟨w.heap.size,1,none⟩) (.inl rfl) _
      exact ((HO5.out.mine.only hO3 (fun b h1 _=>by omega)).mono (by omega) (by simp [World.setCell]))
     ·exact ((HBB5.out.setCell (by simp) _).setCell (by simp) _)
end Go.Proofs.YtaibkchbkedjnaaGreatDoor
