/- Lemmas on the way. -/
import Derived.Test.YtaibkchbkedjnaaGreatDoorDcY
import Derived.Test.YtaibkchbkedjnaaGreatDoorLGetS
import Derived.Test.YtaibkchbkedjnaaGreatDoorHGet7
import Derived.Test.YtaibkchbkedjnaaGreatDoorPartM
import Derived.Test.YtaibkchbkedjnaaGreatDoorIParts
set_option maxRecDepth 20000
set_option maxHeartbeats 16000000
namespace Go.Proofs.YtaibkchbkedjnaaGreatDoor
open Go.RowKit
set_option linter.unusedVariables false
set_option linter.unusedSimpArgs false
theorem RdR.yes {n V m:Nat} {w w':World} {ts:List Int} {M U:Nat} {a1 a2:Option Addr} {c1 c2:Nat} (hb:Below w.heap.size w w') (h:RdS n V m ts M U) (h2:MinI w' w.heap.size w'.heap.size a1 c1 ts) (h3:Mine w' w.heap.size w'.heap.size a2 c2 (enc M U)) :
  RdR n V m w (.returned (.tuple #[.slice a1 ts.length c1,.agg #[.slice a2 (enc M U).length c2,.int .i64 (M:Nat)],.bool true])) w':=⟨hb,.inl ⟨ts,M,U,a1,c1,a2,c2,h,rfl,h2,h3⟩⟩
theorem RdR.no {n V m:Nat} {w w':World} {v:Value} {a2:Option Addr} {l2 c2:Nat} {M:Int} (hb:Below w.heap.size w w') (h:¬∃ ts M U,RdS n V m ts M U) :
  RdR n V m w (.returned (.tuple #[v,.agg #[.slice a2 l2 c2,.int .i64 M],.bool false])) w':=⟨hb,.inr ⟨h,v,a2,l2,c2,M,rfl⟩⟩
theorem l5read_short (n V m:Nat) (a:Option Addr) (cap l:Nat) (w:World) (h8:n<8) :
  Calls Tryz.prog 118 #[.agg #[.slice a l cap,.int .i64 (n:Nat)],.int .i64 m] w (RdR n V m w):=by
 have HN:Hid (¬∃ ts M U,RdS n V m ts M U):=by
  rintro ⟨ts,M,U,h,-⟩
  omega
 have h8':(n:Int)<8:=by omega
 go_enter Tryz.func118,Tryz.ntmps118
 go_wp2
 refine bodyPost_ret (v:=.tuple #[.slice none 0 0,.agg #[.slice none 0 0,.int .i64 0],.bool false]) (by simp [results,Tryz.results118,go_sem]) rfl (RdR.no ?_ HN.out)
 repeat (first | exact Below.refl _ _ | refine Below.setCell ?_ (by simp) _ | refine Below.alloc ?_ (by simp) _)
theorem StayP.last {w wr:World} {a:Option Addr} {K ca:Nat} {N:Int} {B:Nat} (h:StayP w wr a K ca N B) (u v:Value) :
  Only (fun b=>b=w.heap.size+1) wr ((wr.setCell ⟨w.heap.size+1,0,none⟩ u).setCell ⟨w.heap.size+1,1,none⟩ v)∧Below w.heap.size w ((wr.setCell ⟨w.heap.size+1,0,none⟩ u).setCell ⟨w.heap.size+1,1,none⟩ v):=
 ⟨Only.setCell (Only.setCell (Only.refl (fun b=>b=w.heap.size+1) wr) (p:=⟨w.heap.size+1,0,none⟩) (.inl rfl) _) (p:=⟨w.heap.size+1,1,none⟩) (.inl rfl) _,(h.bel.setCell (by simp) _).setCell (by simp) _⟩
theorem l5read_len (n V:Nat) (a:Option Addr) (cap:Nat) (zs:List Int) (w:World) (hb:Byt w a zs) (hz:zs=enc n V) (hV:V<2 ^ n) (hn:n≤4096) (h8:8≤n) :
  Calls Tryz.prog 118 #[.agg #[.slice a zs.length cap,.int .i64 (n:Nat)],.int .i64 2] w (RdR n V 2 w):=by
 have hst:=StayP.start w a zs.length cap (n:Int)
 obtain ⟨B,hB⟩:∃ B,B=w.heap.size+1+1:=⟨_,rfl⟩
 rw [←hB] at hst
 have HST:Hid _:=hst
 have HZ:Hid (zs=enc n V∧B=w.heap.size+1+1∧okB (n:Int) zs=true∧val zs=V):=⟨hz,hB,by rw [hz];exact okB_encB n V hn hV,by rw [hz];exact val_encB n V hV⟩
 have HC1:=l1get_any a cap zs (n:Int) 0 8 n V _ (hb.below hst.bel nl) hz (by omega) (by omega) (by omega) (by omega) (by omega)
 clear hst hB hz hV
 have g8:¬(n:Int)<8:=by omega
 go_enter Tryz.func118,Tryz.ntmps118
 go_wp2_with fail
 refine HC1.mono ?_
 clear HC1
 rintro e w1 ⟨rfl,hb1⟩
 have hst1:=HST.out.step hb1
 rw [show V / 2 ^ (0:Int).toNat % 2 ^ (8:Int).toNat=bt V 0 8 from rfl]
 obtain ⟨N,hNe⟩:∃ N,N=bt V 0 8:=⟨_,rfl⟩
 have hN8:N<256:=by rw [hNe];exact bt_lt V 0 8
 rw [←hNe]
 have HNE:Hid (N=bt V 0 8∧True):=⟨hNe,trivial⟩
 clear hNe HST hb1
 have HC2:=specLensGet_ok a cap zs n 8 40 w1 (hb.below hst1.bel nl) HZ.out.2.2.1 (by rw [HZ.out.2.2.2];exact HZ.out.1) hn h8 (by omega) (by omega)
 rw [HZ.out.2.2.2] at HC2
 have p0:=hst1.a0
 have p1:=hst1.a1
 have HST1:Hid _:=hst1
 clear hst1
 go_wp2_with fail
 refine HC2.mono ?_
 clear HC2
 rintro e w2 ⟨hb2,hy2,hno2⟩
 have hst2:=HST1.out.step hb2
 by_cases hex:∃ res q,giY n V 8 40 res q
 ·obtain ⟨res,q,hgi⟩:=hex
  obtain ⟨a2,c2,rfl,hm2⟩:=hy2 res q hgi
  obtain ⟨-,hr2,-⟩:=lensB_okG hgi.2
  have hqn:q≤n:=gi_le n V 40 40 8 [] false res q h8 hgi.1
  have HC3:=l2get_any a2 c2 res a cap zs n V q N w2 hm2.byt (hb.below hst2.bel nl) HZ.out.1 (by omega) hqn hr2 (by omega)
  have HGI:Hid (giY n V 8 40 res q):=hgi
  have p20:=hst2.a0
  have p21:=hst2.a1
  have HST2:Hid _:=hst2
  clear hy2 hno2 hm2 hgi hst2 hb2 HST1 p0 p1
  go_wp2_with fail
  refine HC3.mono ?_
  clear HC3
  rintro e w3 ⟨hb3,⟨ts,E,u,hl,hrds,hov,rfl⟩ | ⟨ts,E,hl,hrds,hno,rfl⟩⟩
  ·have hst3:=HST2.out.step hb3
   have hEn:E≤n:=hrds.le hqn
   obtain ⟨a3,c3,rfl,hm3⟩:=hov.mine
   have HC4:=l5part_any a cap zs n V E n w3 (hb.below hst3.bel nl) HZ.out.1 hn hEn nl
   have HY:Hid (RdS n V 2 ts (n-E) (bt V E (n-E))):=⟨h8,.inl ⟨rfl,E,⟨res,q,HGI.out,by rw [←HNE.out.1];exact hl,hrds⟩,hEn,rfl,rfl⟩⟩
   have HM3:Hid (MinI w3 w2.heap.size w3.heap.size a3 c3 ts):=hm3
   have p30:=hst3.a0
   have p31:=hst3.a1
   have hsz2:=HST2.out.sz
   have HST3:Hid _:=hst3
   obtain ⟨d,hd⟩:∃ d,d=n-E:=⟨_,rfl⟩
   rw [←hd] at HC4 HY
   obtain ⟨U,hU⟩:∃ U,U=bt V E d:=⟨_,rfl⟩
   rw [←hU] at HC4 HY
   obtain ⟨es,hes⟩:∃ es,es=enc d U:=⟨_,rfl⟩
   rw [←hes] at HC4
   have HES:Hid (es=enc d U∧True):=⟨hes,trivial⟩
   generalize htl:ts.length=tl at *
   have HTL:Hid (ts.length=tl∧True):=⟨htl,trivial⟩
   clear hb3 hl hrds hov hm3 hst3 HST2 p20 p21 hd hU hes htl
   go_wp2_with fail
   refine HC4.mono ?_
   clear HC4
   rintro e w4 ⟨a4,c4,rfl,hm4,hb4⟩
   have hst4:=HST3.out.step hb4
   have x0:=hst4.r0
   have x1:=hst4.r1
   have y0:=hst4.f0
   have y1:=hst4.f1
   have HST4:Hid _:=hst4
   have hsz3:=HST3.out.sz
   have HM4:Hid (MinI w4 w2.heap.size w4.heap.size a3 c3 ts∧Mine w4 w3.heap.size w4.heap.size a4 c4 es):=⟨(HM3.out.below hb4).mono nl hb4.size,hm4⟩
   clear hm4 hb4 hst4 HST3 p30 p31 HM3
   go_wp2
   obtain ⟨hon,hbel⟩:=HST4.out.last (.slice a4 es.length c4) (.int .i64 (d:Nat))
   have hBB:=HZ.out.2.1
   have hsz:=hon.size
   refine bodyPost_ret (v:=.tuple #[.slice a3 tl c3,.agg #[.slice a4 es.length c4,.int .i64 (d:Nat)],.bool true]) (by simp [results,Tryz.results118,go_sem,x0,x1]) rfl ?_
   rw [←HTL.out.1,HES.out.1]
   rw [HES.out.1] at hon hbel hsz
   refine RdR.yes hbel HY.out ?_ ?_
   ·exact (HM4.out.1.only hon (fun b h1 _=>by omega)).mono (by omega) hsz
   ·rw [←HES.out.1]
    rw [←HES.out.1] at hon hsz
    exact (HM4.out.2.only hon (fun b h1 _=>by omega)).mono (by omega) hsz
  ·have HNO:Hid (¬∃ ts M U,RdS n V 2 ts M U):=by
    rintro ⟨ts',M',U',-,⟨-,E',⟨res',q',hg',hl',hr'⟩,-⟩ | ⟨h,-⟩⟩
    ·obtain ⟨rfl,rfl⟩:res=res'∧q=q':=by have:=hg'.1;rw [HGI.out.1] at this;simpa using this
     exact hr'.stuck hrds (by rw [hl',←HNE.out.1];exact hl) hno
    ·exact h rfl
   have hst3:=HST2.out.step hb3
   have x0:=hst3.r0
   have x1:=hst3.r1
   have y0:=hst3.f0
   have y1:=hst3.f1
   have HST3:Hid _:=hst3
   clear hb3 hl hrds hno hst3 HST2 p20 p21 HGI
   go_wp2
   exact bodyPost_ret (v:=.tuple #[.slice none 0 0,.agg #[.slice none 0 0,.int .i64 0],.bool false]) (by simp [results,Tryz.results118,go_sem,x0,x1]) rfl (RdR.no (HST3.out.last _ _).2 HNO.out)
 ·obtain rfl:=hno2 hex
  have HNO:Hid (¬∃ ts M U,RdS n V 2 ts M U):=by
   rintro ⟨ts',M',U',-,⟨-,E',⟨res',q',hg',-⟩,-⟩ | ⟨h,-⟩⟩
   ·exact hex ⟨res',q',hg'⟩
   ·exact h rfl
  have x0:=hst2.r0
  have x1:=hst2.r1
  have y0:=hst2.f0
  have y1:=hst2.f1
  have HST2:Hid _:=hst2
  clear hy2 hno2 hst2 hb2 HST1 p0 p1 hex
  go_wp2
  exact bodyPost_ret (v:=.tuple #[.slice none 0 0,.agg #[.slice none 0 0,.int .i64 0],.bool false]) (by simp [results,Tryz.results118,go_sem,x0,x1]) rfl (RdR.no (HST2.out.last _ _).2 HNO.out)
theorem l5read_tab (n V:Nat) (a:Option Addr) (cap:Nat) (zs:List Int) (w:World) (hb:Byt w a zs) (hz:zs=enc n V) (hV:V<2 ^ n) (hn:n≤4096) (h8:8≤n) :
  Calls Tryz.prog 118 #[.agg #[.slice a zs.length cap,.int .i64 (n:Nat)],.int .i64 3] w (RdR n V 3 w):=by
 have hst:=StayP.start w a zs.length cap (n:Int)
 obtain ⟨B,hB⟩:∃ B,B=w.heap.size+1+1:=⟨_,rfl⟩
 rw [←hB] at hst
 have HST:Hid _:=hst
 have HZ:Hid (zs=enc n V∧B=w.heap.size+1+1):=⟨hz,hB⟩
 have HC1:=l1get_any a cap zs (n:Int) 0 8 n V _ (hb.below hst.bel nl) hz (by omega) (by omega) (by omega) (by omega) (by omega)
 clear hst hB hz hV
 have g8:¬(n:Int)<8:=by omega
 go_enter Tryz.func118,Tryz.ntmps118
 go_wp2_with fail
 refine HC1.mono ?_
 clear HC1
 rintro e w1 ⟨rfl,hb1⟩
 have hst1:=HST.out.step hb1
 rw [show V / 2 ^ (0:Int).toNat % 2 ^ (8:Int).toNat=bt V 0 8 from rfl]
 obtain ⟨N,hNe⟩:∃ N,N=bt V 0 8:=⟨_,rfl⟩
 have hN8:N<256:=by rw [hNe];exact bt_lt V 0 8
 rw [←hNe]
 have HNE:Hid (N=bt V 0 8∧True):=⟨hNe,trivial⟩
 clear hNe HST hb1
 have HC2:=l3getNorm_any a cap zs n V 8 40 w1 (hb.below hst1.bel nl) HZ.out.1 hn h8 (by omega) (by omega)
 have p0:=hst1.a0
 have p1:=hst1.a1
 have HST1:Hid _:=hst1
 clear hst1
 go_wp2_with fail
 refine HC2.mono ?_
 clear HC2
 rintro e w2 ⟨hb2,hy2,hno2⟩
 have hst2:=HST1.out.step hb2
 by_cases hex:gotN n V 8 40
 ·obtain ⟨rfl,hown⟩:=hy2 hex
  have HGX:Hid (gotN n V 8 40∧normB (gXs V 8 40)=true∧(gXs V 8 40).length=40):=⟨hex,got_normB (by omega) (by omega) hex,gXs_len V 8 40⟩
  have p20:=hst2.a0
  have p21:=hst2.a1
  have HST2:Hid _:=hst2
  have HOW:Hid (OwI w2 w1.heap.size (w1.heap.size+1) 40 (gXs V 8 40)):=hown
  obtain ⟨A,hA⟩:∃ A,A=(gL V 8 40).2:=⟨_,rfl⟩
  rw [←hA]
  have HA:Hid (A=(gL V 8 40).2∧True):=⟨hA,trivial⟩
  clear hy2 hno2 hown hst2 hb2 HST1 p0 p1 hA hex
  by_cases hA9:A+9≤n
  ·have g9:¬((n:Int)-9<(A:Int)):=by omega
   have HC3:=l1get_any a cap zs (n:Int) (A:Int) 9 n V w2 (hb.below HST2.out.bel nl) HZ.out.1 (by omega) (by omega) (by omega) (by omega) (by omega)
   rw [show V / 2 ^ ((A:Nat):Int).toNat % 2 ^ (9:Int).toNat=bt V A 9 from rfl] at HC3
   obtain ⟨k,hk⟩:∃ k,k=bt V A 9:=⟨_,rfl⟩
   have hk9:k<512:=by rw [hk];exact bt_lt V A 9
   rw [←hk] at HC3
   have HK:Hid (k=bt V A 9∧True):=⟨hk,trivial⟩
   clear hk
   go_wp2_with fail
   refine HC3.mono ?_
   clear HC3
   rintro e w3 ⟨rfl,hb3⟩
   have hst3:=HST2.out.step hb3
   have HOW3:Hid (OwI w3 w1.heap.size (w1.heap.size+1) 40 (gXs V 8 40)):=HOW.out.below hb3 nl
   have p30:=hst3.a0
   have p31:=hst3.a1
   have HST3:Hid _:=hst3
   clear hst3 hb3 HST2 HOW p20 p21
   by_cases hkn:A+9+k≤n
   ·have gk:¬((n:Int)-(k:Int)<(A:Int)+9):=by omega
    have HC4:=l5part_any a cap zs n V (A+9+k) n w3 (hb.below HST3.out.bel nl) HZ.out.1 hn hkn nl
    obtain ⟨d,hd⟩:∃ d,d=n-(A+9+k):=⟨_,rfl⟩
    rw [←hd] at HC4
    obtain ⟨X,hX⟩:∃ X,X=bt V (A+9+k) d:=⟨_,rfl⟩
    rw [←hX] at HC4
    obtain ⟨es,hes⟩:∃ es,es=enc d X:=⟨_,rfl⟩
    rw [←hes] at HC4
    have HES:Hid (es=enc d X∧X=bt V (A+9+k) d∧d=n-(A+9+k)):=⟨hes,hX,hd⟩
    have hdn:d≤n:=by omega
    clear hd hX hes
    go_wp2_with fail
    rw [show ((A:Int)+9+(k:Int))=((A+9+k:Nat):Int) from by omega]
    refine HC4.mono ?_
    clear HC4
    rintro e w4 ⟨a4,c4,rfl,hm4,hb4⟩
    have hst4:=HST3.out.step hb4
    have HOW4:Hid (OwI w4 w1.heap.size (w1.heap.size+1) 40 (gXs V 8 40)):=HOW3.out.below hb4 nl
    obtain ⟨xs,hxs⟩:∃ xs,xs=gXs V 8 40:=⟨_,rfl⟩
    have HXS:Hid (xs=gXs V 8 40∧True):=⟨hxs,trivial⟩
    have hx40:xs.length=40:=by rw [hxs];exact HGX.out.2.2
    obtain ⟨T,hT⟩:∃ T,T=tbN V 8:=⟨_,rfl⟩
    have hins:Ins w4 (some ⟨w1.heap.size+1,0,none⟩) xs:=by rw [hxs];exact HOW4.out.mine.byt
    have HC5:=l3get_any (some ⟨w1.heap.size+1,0,none⟩) 40 xs a4 c4 es d X N T w4 hins hm4.byt HES.out.1 (by omega) (by omega) (by rw [hxs];exact HGX.out.2.1) (by rw [hT,hxs];rfl)
    rw [hx40] at HC5
    have HT:Hid (T=tbN V 8∧True):=⟨hT,trivial⟩
    have HST4:Hid _:=hst4
    clear hst4 hb4 HST3 HOW3 p30 p31 hm4 hins hxs hx40 hT
    go_wp2_with fail
    refine HC5.mono ?_
    clear HC5
    rintro e w5 ⟨u,rfl,hov,hb5⟩
    have hst5:=HST4.out.step hb5
    have HC6:=l5part_any a cap zs n V (A+9) (A+9+k) w5 (hb.below hst5.bel nl) HZ.out.1 hn (by omega) hkn
    rw [show A+9+k-(A+9)=k from by omega] at HC6
    obtain ⟨Y,hY⟩:∃ Y,Y=bt V (A+9) k:=⟨_,rfl⟩
    rw [←hY] at HC6
    obtain ⟨fs,hfs⟩:∃ fs,fs=enc k Y:=⟨_,rfl⟩
    rw [←hfs] at HC6
    have HFS:Hid (fs=enc k Y∧Y=bt V (A+9) k):=⟨hfs,hY⟩
    have HU:Hid (fgB T X d N=true→OVI w5 w4.heap.size u (so T X (d-6) N)):=hov
    have p50:=hst5.a0
    have p51:=hst5.a1
    have hsz4:=HST4.out.sz
    have HST5:Hid _:=hst5
    clear hst5 hb5 HST4 HOW4 hY hfs hov
    obtain ⟨t,ht⟩:∃ t,t=fgB T X d N:=⟨_,rfl⟩
    rw [←ht]
    have HTT:Hid (t=fgB T X d N∧True):=⟨ht,trivial⟩
    clear ht
    go_wp2_with fail
    refine HC6.mono ?_
    clear HC6
    rintro e w6 ⟨a6,c6,rfl,hm6,hb6⟩
    have hst6:=HST5.out.step hb6
    have x0:=hst6.r0
    have x1:=hst6.r1
    have y0:=hst6.f0
    have y1:=hst6.f1
    have hsz5:=HST5.out.sz
    have HST6:Hid _:=hst6
    have HM6:Hid (Mine w6 w5.heap.size w6.heap.size a6 c6 fs∧Below w5.heap.size w5 w6):=⟨hm6,hb6⟩
    clear hm6 hb6 hst6 HST5 p50 p51
    go_wp2
    obtain ⟨hon,hbel⟩:=HST6.out.last (.slice a6 fs.length c6) (.int .i64 (k:Nat))
    have hBB:=HZ.out.2
    have hsz:=hon.size
    refine bodyPost_ret (v:=.tuple #[u,.agg #[.slice a6 fs.length c6,.int .i64 (k:Nat)],.bool t]) (by simp [results,Tryz.results118,go_sem,x0,x1]) rfl ?_
    cases t with
    | true=>
     obtain ⟨a5,c5,rfl,hm5⟩:=(HU.out HTT.out.1.symm).mine
     have HY:RdS n V 3 (so T X (d-6) N) k Y:=by
      refine ⟨h8,.inr ⟨by omega,A+9,⟨HGX.out.1,by rw [HA.out.1],hA9,by rw [←HA.out.1];exact HK.out.1.symm,hkn,?_,?_⟩,hkn,HFS.out.2⟩⟩
      ·rw [←HES.out.2.2,←HES.out.2.1,←HT.out.1,←HNE.out.1]
       exact HTT.out.1.symm
      ·rw [←HES.out.2.2,←HES.out.2.1,←HT.out.1,←HNE.out.1]
     rw [HFS.out.1] at hon hbel hsz HM6 ⊢
     refine RdR.yes hbel HY ?_ ?_
     ·exact (((hm5.below HM6.out.2).mono nl HM6.out.2.size).only hon (fun b h1 _=>by omega)).mono (by omega) hsz
     ·exact (HM6.out.1.only hon (fun b h1 _=>by omega)).mono (by omega) hsz
    | false=>
     refine RdR.no hbel ?_
     rintro ⟨ts',M',U',-,⟨h,-⟩ | ⟨-,E',⟨h1,h2,h3,h4,h5,h6,h7⟩,-⟩⟩
     ·omega
     ·have e1:E'=A+9:=by rw [←h2,HA.out.1]
      have e2:M'=k:=by rw [←h4,←HA.out.1];exact HK.out.1.symm
      rw [e1,e2,←HES.out.2.2,←HES.out.2.1,←HT.out.1,←HNE.out.1,←HTT.out.1] at h6
      cases h6
   ·have gk:(n:Int)-(k:Int)<(A:Int)+9:=by omega
    have HNO:Hid (¬∃ ts M U,RdS n V 3 ts M U):=by
     rintro ⟨ts',M',U',-,⟨h,-⟩ | ⟨-,E',⟨h1,h2,h3,h4,h5,h6,h7⟩,-⟩⟩
     ·omega
     ·have e1:E'=A+9:=by rw [←h2,HA.out.1]
      have e2:M'=k:=by rw [←h4,←HA.out.1];exact HK.out.1.symm
      omega
    have x0:=HST3.out.r0
    have x1:=HST3.out.r1
    have y0:=HST3.out.f0
    have y1:=HST3.out.f1
    go_wp2
    exact bodyPost_ret (v:=.tuple #[.slice none 0 0,.agg #[.slice none 0 0,.int .i64 0],.bool false]) (by simp [results,Tryz.results118,go_sem,x0,x1]) rfl (RdR.no (HST3.out.last _ _).2 HNO.out)
  ·have g9:(n:Int)-9<(A:Int):=by omega
   have HNO:Hid (¬∃ ts M U,RdS n V 3 ts M U):=by
    rintro ⟨ts',M',U',-,⟨h,-⟩ | ⟨-,E',⟨h1,h2,h3,-⟩,-⟩⟩
    ·omega
    ·have e1:E'=A+9:=by rw [←h2,HA.out.1]
     omega
   have x0:=HST2.out.r0
   have x1:=HST2.out.r1
   have y0:=HST2.out.f0
   have y1:=HST2.out.f1
   go_wp2
   exact bodyPost_ret (v:=.tuple #[.slice none 0 0,.agg #[.slice none 0 0,.int .i64 0],.bool false]) (by simp [results,Tryz.results118,go_sem,x0,x1]) rfl (RdR.no (HST2.out.last _ _).2 HNO.out)
 ·obtain ⟨v,y,rfl⟩:=hno2 hex
  have HNO:Hid (¬∃ ts M U,RdS n V 3 ts M U):=by
   rintro ⟨ts',M',U',-,⟨h,-⟩ | ⟨-,E',⟨h1,-⟩,-⟩⟩
   ·omega
   ·exact hex h1
  have x0:=hst2.r0
  have x1:=hst2.r1
  have y0:=hst2.f0
  have y1:=hst2.f1
  have HST2:Hid _:=hst2
  clear hy2 hno2 hst2 hb2 HST1 p0 p1 hex
  go_wp2
  exact bodyPost_ret (v:=.tuple #[.slice none 0 0,.agg #[.slice none 0 0,.int .i64 0],.bool false]) (by simp [results,Tryz.results118,go_sem,x0,x1]) rfl (RdR.no (HST2.out.last _ _).2 HNO.out)
theorem rdC :RdC:=by
 intro n V m a cap w hn hV hm hb
 by_cases h8:n<8
 ·exact l5read_short n V m a cap _ w h8
 ·rcases hm with rfl | rfl
  ·exact l5read_len n V a cap _ w hb rfl hV hn (by omega)
  ·exact l5read_tab n V a cap _ w hb rfl hV hn (by omega)
def DcA (Y:Option (List Int)) (w:World) (e:Ending) (w':World):Prop:=Below w.heap.size w w' ∧
 ((∃ bs v,Y=some bs∧OVB w' w.heap.size v bs∧e=.returned (.tuple #[v,.bool true]))∨(Y=none∧∃ v,e=.returned (.tuple #[v,.bool false])))
def DcE (Y:Option (List Int)) (w:World) (e:Ending) (w':World):Prop:=Below w.heap.size w w' ∧
 ((∃ bs v,Y=some bs∧OVB w' w.heap.size v bs∧e=.returned (.tuple #[v,.bool true]))∨(Y=none∧e=.returned (.tuple #[.slice none 0 0,.bool false])))
def DecW (xs:List Int) (Y:Option (List Int)):Prop:=(∀ bs,Y=some bs→bs.length=64∧2≤xs.length∧xs.length≤65) ∧
 (∀ (a:Option Addr) (cap:Nat) (w:World),xs.length≤cap→Byt w a xs→Calls Tryz.prog 82 #[.slice a xs.length cap] w (DcA Y w)) ∧
 (∀ (a:Option Addr) (cap:Nat) (w:World),xs.length≤cap→Byt w a xs→SentB w→Calls Tryz.prog 93 #[.slice a xs.length cap] w (DcE Y w))
theorem rbY_unique {o:Option (Nat × Nat)} {m:Nat} {zs bs bs':List Int} (h:RbY o m zs bs) (h':RbY o m zs bs'):bs=bs':=by
 obtain ⟨-,h⟩:=h
 obtain ⟨-,h'⟩:=h'
 rcases h with ⟨e0,rfl⟩ | ⟨e0,-,rfl⟩ | ⟨e0,q,rfl,hy⟩
 ·rcases h' with ⟨-,rfl⟩ | ⟨e1,-⟩ | ⟨e1,-⟩
  ·rfl
  ·omega
  ·omega
 ·rcases h' with ⟨e1,-⟩ | ⟨-,-,rfl⟩ | ⟨e1,-⟩
  ·omega
  ·rfl
  ·omega
 ·rcases h' with ⟨e1,-⟩ | ⟨e1,-⟩ | ⟨-,q',hq,hy'⟩
  ·omega
  ·omega
  ·cases hq
   exact hy.unique hy'
theorem DcP.ans {o:Option (Nat × Nat)} {m:Nat} {zs:List Int} {w w':World} {e:Ending} {Y:Option (List Int)} (hy:∀ bs,RbY o m zs bs→Y=some bs) (hn:(¬∃ bs,RbY o m zs bs)→Y=none) (h:DcP o m zs w e w'):DcA Y w e w':=by
 obtain ⟨hb,⟨bs,v,h1,h2,h3⟩ | ⟨h1,v,h3⟩⟩:=h
 ·exact ⟨hb,.inl ⟨bs,v,hy bs h1,h2,h3⟩⟩
 ·exact ⟨hb,.inr ⟨hn h1,v,h3⟩⟩
theorem decW (xs:List Int) (hl:xs.length≤1048576) (hr:∀ z ∈ xs,0≤z∧z≤255):∃ Y,DecW xs Y:=by
 by_cases h2:xs.length<2∨65<xs.length
 ·refine ⟨none,⟨fun bs h=>(by cases h),?_,?_⟩⟩
  ·intro a cap w hc hb
   refine (l5decode_no a cap xs.length w h2).mono ?_
   rintro e w' ⟨rfl,rfl⟩
   exact ⟨Below.refl _ _,.inr ⟨rfl,_,rfl⟩⟩
  ·intro a cap w hc hb hS
   refine (decodeI_no a cap xs.length w h2 hS).mono ?_
   rintro e w' ⟨hb',rfl⟩
   exact ⟨hb',.inr ⟨rfl,rfl⟩⟩
 ·cases xs with
  | nil=>simp at h2
  | cons x zs=>
   simp only [List.length_cons] at h2
   have h1:1≤zs.length:=by omega
   have h64:zs.length≤64:=by omega
   obtain ⟨m,rfl⟩:=Int.eq_ofNat_of_zero_le (hr x (by simp)).1
   obtain ⟨o,hO⟩:=opnW zs (by omega) (fun z hz=>hr z (by simp [hz]))
   obtain ⟨Y,hY,hN,hYr⟩:∃ Y:Option (List Int),(∀ bs,RbY o m zs bs→Y=some bs)∧((¬∃ bs,RbY o m zs bs)→Y=none)∧(∀ bs,Y=some bs→RbY o m zs bs):=by
    by_cases h:∃ bs,RbY o m zs bs
    ·obtain ⟨bs,hbs⟩:=h
     exact ⟨some bs,fun b hb=>by rw [rbY_unique hbs hb],fun hn=>absurd ⟨bs,hbs⟩ hn,fun b hb=>by cases hb;exact hbs⟩
    ·exact ⟨none,fun b hb=>absurd ⟨b,hb⟩ h,fun _=>rfl,fun b hb=>by cases hb⟩
   refine ⟨Y,⟨fun bs hbs=>⟨(hYr bs hbs).1,by simp only [List.length_cons];omega,by simp only [List.length_cons];omega⟩,?_,?_⟩⟩
   ·intro a cap w hc hb
    simp only [List.length_cons] at hc ⊢
    have key:Calls Tryz.prog 82 #[.slice a (zs.length+1) cap] w (DcP o m zs w):=by
     have cs:m=0∨m=1∨m=2∨m=3∨4≤m:=by omega
     rcases cs with rfl | rfl | rfl | rfl | h4
     ·exact l5decode_raw a cap zs o w hb h1 h64 hc
     ·exact l5decode_run a cap zs o w hb h1 h64 hc
     ·cases o with
      | none=>exact l5decode_symN a cap 2 zs w (.inl rfl) hb h1 h64 hc hO
      | some q=>exact l5decode_sym2 a cap zs q.1 q.2 w hb h1 h64 hc hO rdC
     ·cases o with
      | none=>exact l5decode_symN a cap 3 zs w (.inr rfl) hb h1 h64 hc hO
      | some q=>exact l5decode_sym3 a cap zs q.1 q.2 w hb h1 h64 hc hO rdC
     ·exact l5decode_other a cap m zs o w hb h1 h64 h4
    exact key.mono fun e w' h=>h.ans hY hN
   ·intro a cap w hc hb hS
    simp only [List.length_cons] at hc ⊢
    refine (decodeI_any a cap m zs o w hb h1 h64 hc hO hS).mono ?_
    rintro e w' ⟨hb',⟨bs,v,h1,h2,h3⟩ | ⟨h1,h3⟩⟩
    ·exact ⟨hb',.inl ⟨bs,v,hY bs h1,h2,h3⟩⟩
    ·exact ⟨hb',.inr ⟨hN h1,h3⟩⟩
def DecF (f:List Int→Option (List Int)):Prop:=∀ ls:List Int,ls.length≤1048576→(∀ z ∈ ls,0≤z∧z≤255)→DecW ls (f ls)
theorem decF_ex :∃ f,DecF f:=by
 have h:∀ ls:List Int,∃ Y,(ls.length≤1048576∧∀ z ∈ ls,0≤z∧z≤255)→DecW ls Y:=by
  intro ls
  by_cases hg:ls.length≤1048576∧∀ z ∈ ls,0≤z∧z≤255
  ·obtain ⟨Y,hY⟩:=decW ls hg.1 hg.2
   exact ⟨Y,fun _=>hY⟩
  ·exact ⟨none,fun h=>absurd h hg⟩
 obtain ⟨f,hf⟩:=Classical.skolem.1 h
 exact ⟨f,fun ls h1 h2=>hf ls ⟨h1,h2⟩⟩
structure FewJ (es:List El):Prop where
 n:es.length≤1048576
 l:∀ s ∈ es,s.ls.length≤1048576
 s:elets es≤1048576
def itOk (f:List Int→Option (List Int)) (e:El):Prop:=(0≤e.n∧e.n<16)∧(e.ls=[]∨(f e.ls).isSome=true)
def apT (f:List Int→Option (List Int)) (es:List El) (k:Nat):Prop:=∀ i,i<k→itOk f (es.getD i de)∧∀ j,j<i→(es.getD j de).n≠(es.getD i de).n
def szP (es:List El):Nat:=6+2*es.length+elets es
structure PkR (f:List Int→Option (List Int)) (E O:Int) (es:List El):Prop where
 e0:0≤E
 e1:E≤60000
 o0:0≤O
 o1:O≤60000
 n:es.length≤16
 ap:apT f es es.length
 sz:szP es≤256
theorem apT_succ {f:List Int→Option (List Int)} {es:List El} {k:Nat} (h:apT f es k) (h1:itOk f (es.getD k de)) (h2:∀ j,j<k→(es.getD j de).n≠(es.getD k de).n):apT f es (k+1):=by
 intro i hi
 by_cases e:i=k
 ·subst e;exact ⟨h1,h2⟩
 ·exact h i (by omega)
theorem apT_zero (f:List Int→Option (List Int)) (es:List El):apT f es 0:=fun i hi=>by omega
theorem itOk_ct {f:List Int→Option (List Int)} {e e':El} (h:e.ct=e'.ct):itOk f e↔itOk f e':=by
 obtain ⟨n,a,c,ls⟩:=e
 obtain ⟨n',a',c',ls'⟩:=e'
 simp only [El.ct,Prod.mk.injEq] at h
 obtain ⟨rfl,rfl⟩:=h
 exact Iff.rfl
theorem n_ct {es ts:List El} (h:es.map El.ct=ts.map El.ct) (k:Nat):(es.getD k de).n=(ts.getD k de).n:=by
 have:=congrArg Prod.fst (ctE_get h k)
 exact this
theorem apT_ct {f:List Int→Option (List Int)} {es ts:List El} (h:es.map El.ct=ts.map El.ct) (k:Nat) (ha:apT f es k):apT f ts k:=by
 intro i hi
 obtain ⟨h1,h2⟩:=ha i hi
 refine ⟨(itOk_ct (ctE_get h i)).1 h1,fun j hj=>?_⟩
 rw [←n_ct h j,←n_ct h i]
 exact h2 j hj
theorem PkR.ct {f:List Int→Option (List Int)} {E O:Int} {es ts:List El} (h:es.map El.ct=ts.map El.ct) (hp:PkR f E O es):PkR f E O ts:=by
 have hl:=len_ctE h
 refine ⟨hp.e0,hp.e1,hp.o0,hp.o1,by rw [←hl];exact hp.n,by rw [←hl];exact apT_ct h _ hp.ap,?_⟩
 have:=hp.sz
 unfold szP at *
 rw [←hl,←elets_ct es ts h]
 exact this
theorem epochOk_any (x:Int) (w:World) :
  Calls Tryz.prog 88 #[.int .i64 x] w fun e w'=>e=.returned (.bool (decide (0≤x∧x≤60000)))∧w'=w:=by
 have key:(0≤x∧x≤60000)∨¬0≤x∨(0≤x∧¬x≤60000):=by omega
 rcases key with ⟨h1,h2⟩ | h1 | ⟨h1,h2⟩
 ·rw [decide_eq_true ⟨h1,h2⟩]
  go_enter Tryz.func88,Tryz.ntmps88
  go_wp2
  go_ret
  exact ⟨by simp [h1,h2],rfl⟩
 ·rw [decide_eq_false (fun hh=>h1 hh.1)]
  go_enter Tryz.func88,Tryz.ntmps88
  go_wp2
  go_ret
  exact ⟨by simp [h1],rfl⟩
 ·rw [decide_eq_false (fun hh=>h2 hh.2)]
  go_enter Tryz.func88,Tryz.ntmps88
  go_wp2
  go_ret
  exact ⟨by simp [h1,h2],rfl⟩
theorem itemRight_any (f:List Int→Option (List Int)) (hf:DecF f) (n:Int) (a:Option Addr) (c:Nat) (ls:List Int) (w:World) (hb:Byt w a ls) (hc:ls.length≤c) (hl:ls.length≤1048576) (hS:SentB w) :
  Calls Tryz.prog 184 #[.agg #[.int .i64 n,.slice a ls.length c]] w fun r w'=>((itOk f ⟨n,a,c,ls⟩∧r=.returned (.bool true))∨(¬itOk f ⟨n,a,c,ls⟩∧r=.returned (.bool false)))∧Below w.heap.size w w':=by
 have hw:Below w.heap.size w (w.alloc (Obj.cells #[.int .i64 n,.slice a ls.length c] 113)):=bAw
 have HD:=(hf ls hl hb.1).2.2 a c _ hc (hb.below hw nl) (hS.below hw)
 have HI:Hid (itOk f ⟨n,a,c,ls⟩↔(0≤n∧n<16)∧(ls=[]∨(f ls).isSome=true)):=Iff.rfl
 generalize itOk f ⟨n,a,c,ls⟩=I at *
 clear hb hS
 go_enter Tryz.func184,Tryz.ntmps184
 by_cases h0:n<0
 ·go_wp2
  go_ret
  exact ⟨.inr ⟨fun h=>by have:=HI.out.1 h;omega,rfl⟩,hw⟩
 ·by_cases h1:(16:Int)≤n
  ·go_wp2
   go_ret
   exact ⟨.inr ⟨fun h=>by have:=HI.out.1 h;omega,rfl⟩,hw⟩
  ·by_cases h2:ls.length=0
   ·have h2':(ls.length:Int)=0:=by omega
    have HN:Hid (I):=HI.out.2 ⟨by omega,.inl (List.eq_nil_of_length_eq_zero h2)⟩
    clear HD
    go_wp2
    go_ret
    exact ⟨.inl ⟨HN.out,rfl⟩,(Below.refl _ _).alloc nl _⟩
   ·have h2':¬((ls.length:Int)=0):=by omega
    have HN:Hid (I↔(f ls).isSome=true):=by
     constructor
     ·intro h
      rcases (HI.out.1 h).2 with h | h
      ·exact absurd (by rw [h];rfl) h2
      ·exact h
     ·intro h
      exact HI.out.2 ⟨by omega,.inr h⟩
    go_wp2_with fail
    refine HD.mono ?_
    clear HD
    rintro e w1 ⟨hb1,⟨bs,v,hy,hov,rfl⟩ | ⟨hy,rfl⟩⟩
    ·obtain ⟨va,vc,rfl⟩:=hov.form
     have HB1:Hid (Below w.heap.size w w1∧I):=⟨hw.trans (hb1.mono (by simp)),HN.out.2 (by rw [hy];rfl)⟩
     clear hb1 hy hov hw
     go_wp2
     go_ret
     exact ⟨.inl ⟨HB1.out.2,rfl⟩,HB1.out.1⟩
    ·have HB1:Hid (Below w.heap.size w w1∧¬I):=⟨hw.trans (hb1.mono (by simp)),fun h=>by have:=HN.out.1 h;rw [hy] at this;cases this⟩
     clear hb1 hy hw
     go_wp2
     go_ret
     exact ⟨.inr ⟨HB1.out.2,rfl⟩,HB1.out.1⟩
theorem packSizeI_any (E O:Int) (a:Option Addr) (cap:Nat) (es:List El) (w:World) (hb:Els true w a es) (hn:es.length≤1048576) (hl:elets es≤1048576) :
  Calls Tryz.prog 165 #[.agg #[.int .i64 E,.int .i64 O,.slice a es.length cap]] w fun r w'=>r=.returned (.int .i64 (szP es:Nat))∧Below w.heap.size w w':=by
 have HB:Hid (Els true w a es):=hb
 have HSZ:Hid (szP es=6+2*es.length+elets es∧elets (es.take es.length)=elets es):=⟨rfl,by rw [List.take_length]⟩
 have HLE:Hid (∀ k,elets (es.take k)≤elets es):=elets_take_le es
 clear hb
 generalize szP es=Z at *
 generalize hlen:es.length=n at *
 have HL:Hid (es.length=n∧True):=⟨hlen,trivial⟩
 clear hlen
 have hw:Below w.heap.size w (w.alloc (Obj.cells #[.int .i64 E,.int .i64 O,.slice a n cap] 47)):=bAw
 go_enter Tryz.func165,Tryz.ntmps165
 go_wp2
 go_loopw [3,9] (fun s i wr=>∃ (k z:Nat),k≤n∧i=.int .i64 k∧s=.int .i64 z∧z=6+2*k+elets (es.take k)∧Below w.heap.size w wr) (fun _ i _=>n-(intOf i).toNat)
 case atStart=>exact ⟨0,6,Nat.zero_le _,rfl,rfl,by simp [elets],hw⟩
 case round=>
  obtain ⟨k,z,hk,rfl,rfl,hz,hbel⟩:=hrel
  have HZ:Hid (z=6+2*k+elets (es.take k)∧True):=⟨hz,trivial⟩
  have hzb:z≤4000000:=by have:=HLE.out k;omega
  clear hz
  by_cases hlt:k<n
  ·obtain ⟨b,off,rfl,hb1,c0,c1,hby,hrg⟩:=(HB.out.below hbel nl).pen k (by rw [HL.out.1];exact hlt)
   have HT:Hid (elets (es.take (k+1))=elets (es.take k)+(es.getD k de).ls.length∧(es.getD k de).ls.length≤1048576):=⟨elets_take_succ es k (by rw [HL.out.1];exact hlt),by have:=elets_mem (getD_memE (es:=es) (k:=k) (by rw [HL.out.1];exact hlt));omega⟩
   generalize es.getD k de=s at *
   obtain ⟨sn,sa,sc,sl⟩:=s
   simp only at c0 c1 HT
   have hsl:sl.length≤1048576:=HT.out.2
   have HZ2:Hid (z+(2+sl.length)=6+2*(k+1)+elets (es.take (k+1))∧True):=⟨by have h1:=HZ.out.1;have h2:=HT.out.1;omega,trivial⟩
   have HBW:Hid (Below w.heap.size w wr):=hbel
   clear hby hrg hbel
   go_wp2
   go_roundw
   case rel=>exact ⟨k+1,z+(2+sl.length),by omega,by go_num,by go_num,HZ2.out.1,HBW.out.alloc (by have:=HBW.out.size;omega) _⟩
   case measure=>simp [intOf];omega
  ·have hkn:k=n:=by omega
   subst hkn
   have HZ2:Hid (z=Z∧True):=⟨by have h1:=HZ.out.1;have h2:=HSZ.out;omega,trivial⟩
   go_wp2
   go_ret
   exact ⟨by rw [←HZ2.out.1];rfl,hbel⟩
def ThB (W:World) (X:Nat) (es:List El) (k:Nat):Prop:=X<W.heap.size∧∀ i:Nat,i<16→W.frozen? ⟨X,i,none⟩=false∧∃ t,W.cell? ⟨X,i,none⟩=some (.bool t)∧(t=true↔∃ j,j<k∧(es.getD j de).n=(i:Nat))
theorem ThB.below {W W':World} {X:Nat} {es:List El} {k:Nat} (h:ThB W X es k) (hb:Below W.heap.size W W'):ThB W' X es k:=
 ⟨Nat.lt_of_lt_of_le h.1 hb.size,fun i hi=>⟨(hb.frozen (p:=⟨X,i,none⟩) h.1).trans (h.2 i hi).1,by
  obtain ⟨t,h1,h2⟩:=(h.2 i hi).2
  exact ⟨t,keep hb h.1 h1,h2⟩⟩⟩
theorem ThB.put {W:World} {X q:Nat} {es:List El} {k:Nat} (h:ThB W X es k) (hq:(es.getD k de).n=(q:Nat)) (hq16:q<16):ThB (W.setCell ⟨X,q,none⟩ (.bool true)) X es (k+1):=by
 refine ⟨by simpa using h.1,fun i hi=>⟨by have:=(h.2 i hi).1;simpa using this,?_⟩⟩
 obtain ⟨t,h1,h2⟩:=(h.2 i hi).2
 by_cases e:i=q
 ·subst e
  exact ⟨true,World.cell?_setCell_same W _ _ h1,by simpa using ⟨k,by omega,hq⟩⟩
 ·refine ⟨t,(World.cell?_setCell_other W _ _ _ (by simp <;> omega)).trans h1,h2.trans ⟨?_,?_⟩⟩
  ·rintro ⟨j,h3,h4⟩
   exact ⟨j,by omega,h4⟩
  ·rintro ⟨j,h3,h4⟩
   by_cases e2:j=k
   ·subst e2
    rw [hq] at h4
    exact absurd (by omega) e
   ·exact ⟨j,by omega,h4⟩
theorem ThB.new (W:World) (T:TypeId) (es:List El):ThB (W.alloc (Obj.cells #[.bool false,.bool false,.bool false,.bool false,.bool false,.bool false,.bool false,.bool false,.bool false,.bool false,.bool false,.bool false,.bool false,.bool false,.bool false,.bool false] T)) W.heap.size es 0:=by
 refine ⟨by simp,fun i hi=>⟨by simp,false,?_,by simp⟩⟩
 have h:i=0∨i=1∨i=2∨i=3∨i=4∨i=5∨i=6∨i=7∨i=8∨i=9∨i=10∨i=11∨i=12∨i=13∨i=14∨i=15:=by omega
 rcases h with rfl | rfl | rfl | rfl | rfl | rfl | rfl | rfl | rfl | rfl | rfl | rfl | rfl | rfl | rfl | rfl <;> simp
theorem itemsApart_any (f:List Int→Option (List Int)) (hf:DecF f) (E O:Int) (a:Option Addr) (cap:Nat) (es:List El) (w:World) (hb:ItI w a es) (hx:FewJ es) (hS:SentB w) :
  Calls Tryz.prog 164 #[.agg #[.int .i64 E,.int .i64 O,.slice a es.length cap]] w fun r w'=>((apT f es es.length∧r=.returned (.bool true))∨(¬apT f es es.length∧r=.returned (.bool false)))∧Below w.heap.size w w':=by
 have HB:Hid (ItI w a es∧FewJ es∧SentB w∧DecF f):=⟨hb,hx,hS,hf⟩
 have hn:=hx.n
 clear hb hx hS hf
 generalize hlen:es.length=n at *
 have HL:Hid (es.length=n∧True):=⟨hlen,trivial⟩
 clear hlen
 have hw:Below w.heap.size w (w.alloc (Obj.cells #[.int .i64 E,.int .i64 O,.slice a n cap] 47)):=bAw
 go_enter Tryz.func164,Tryz.ntmps164
 have hT0:=ThB.new (w.alloc (Obj.cells #[.int .i64 E,.int .i64 O,.slice a n cap] 47)) 249 es
 simp only [World.size_alloc] at hT0
 have HT0:Hid _:=hT0
 clear hT0
 go_wp2
 go_loopw [9] (fun i wr=>∃ k:Nat,k≤n∧i=.int .i64 k∧apT f es k∧ThB wr (w.heap.size+1) es k∧Below w.heap.size w wr) (fun i _=>n-(intOf i).toNat)
 case atStart=>exact ⟨0,Nat.zero_le _,rfl,apT_zero f es,HT0.out,hw.alloc (by simp) _⟩
 case round=>
  clear HT0 hw
  obtain ⟨k,hk,rfl,hap,hth,hbel⟩:=hrel
  have HAP:Hid (apT f es k∧ThB wr (w.heap.size+1) es k∧Below w.heap.size w wr):=⟨hap,hth,hbel⟩
  clear hap hth
  by_cases hlt:k<n
  ·obtain ⟨b,off,rfl,hb1,c0,c1,hby,hrg⟩:=(HB.out.1.els.below hbel nl).pen k (by rw [HL.out.1];exact hlt)
   have hmem:=getD_memE (es:=es) (k:=k) (by rw [HL.out.1];exact hlt)
   have hcp:=HB.out.1.cap _ hmem
   have hll:=HB.out.2.1.l _ hmem
   have HE:Hid (∃ s,es.getD k de=s∧True):=⟨_,rfl,trivial⟩
   generalize hs:es.getD k de=s at *
   obtain ⟨sn,sa,sc,sl⟩:=s
   simp only at c0 c1 hcp hll hby
   have HS:Hid (es.getD k de=⟨sn,sa,sc,sl⟩∧True):=⟨hs,trivial⟩
   have hbx:Below wr.heap.size wr (wr.alloc (Obj.cells #[.int .i64 sn,.slice sa sl.length sc] 113)):=bAw
   have hbw:Below w.heap.size w (wr.alloc (Obj.cells #[.int .i64 sn,.slice sa sl.length sc] 113)):=hbel.trans (hbx.mono hbel.size)
   have HIT:=itemRight_any f HB.out.2.2.2 sn sa sc sl _ (hby.below hbx nl) hcp hll (HB.out.2.2.1.below hbw)
   have q0:(wr.alloc (Obj.cells #[.int .i64 sn,.slice sa sl.length sc] 113)).cell? ⟨wr.heap.size,0,none⟩=some (.int .i64 sn):=by simp
   have HQ:Hid (ThB (wr.alloc (Obj.cells #[.int .i64 sn,.slice sa sl.length sc] 113)) (w.heap.size+1) es k∧Below w.heap.size w (wr.alloc (Obj.cells #[.int .i64 sn,.slice sa sl.length sc] 113))∧wr.heap.size<(wr.alloc (Obj.cells #[.int .i64 sn,.slice sa sl.length sc] 113)).heap.size):=⟨HAP.out.2.1.below hbx,hbw,by simp⟩
   clear hmem hcp hll hby hrg hs hbx hbw HE
   go_wp2_with fail
   generalize wr.alloc (Obj.cells #[.int .i64 sn,.slice sa sl.length sc] 113)=W at *
   refine HIT.mono ?_
   clear HIT
   rintro e w2 ⟨⟨hit,rfl⟩ | ⟨hit,rfl⟩,hb2⟩
   ·obtain ⟨q,hq⟩:=Int.eq_ofNat_of_zero_le hit.1.1
    have hq16:=hit.1.2
    simp only at hq hq16
    have hq0:(0:Int)≤sn:=hit.1.1
    subst hq
    have hth2:ThB w2 (w.heap.size+1) es k:=HQ.out.1.below hb2
    obtain ⟨hfz,t,hct,hti⟩:=hth2.2 q (by omega)
    have p0:w2.cell? ⟨wr.heap.size,0,none⟩=some (.int .i64 (q:Nat)):=keep hb2 HQ.out.2.2 q0
    have HW2:Hid (ThB w2 (w.heap.size+1) es k∧Below w.heap.size w w2∧itOk f ⟨(q:Nat),sa,sc,sl⟩∧(t=true↔∃ j,j<k∧(es.getD j de).n=(q:Nat))):=⟨hth2,HQ.out.2.1.trans (hb2.mono HQ.out.2.1.size),hit,hti⟩
    clear hth2 hb2 hit hti q0 c0 c1
    cases t with
    | true=>
     have HNO:Hid (¬apT f es n):=by
      intro h
      obtain ⟨j,hj,hn2⟩:=HW2.out.2.2.2.1 rfl
      refine (h k hlt).2 j hj ?_
      rw [hn2,HS.out.1]
     go_wp2
     go_ret
     exact ⟨.inr ⟨HNO.out,rfl⟩,HW2.out.2.1⟩
    | false=>
     have HN:Hid (apT f es (k+1)∧ThB (w2.setCell ⟨w.heap.size+1,q,none⟩ (.bool true)) (w.heap.size+1) es (k+1)∧Below w.heap.size w (w2.setCell ⟨w.heap.size+1,q,none⟩ (.bool true))):=by
      refine ⟨apT_succ HAP.out.1 (by rw [HS.out.1];exact HW2.out.2.2.1) ?_,HW2.out.1.put (by rw [HS.out.1]) (by omega),HW2.out.2.1.setCell (by simp) _⟩
      intro j hj e
      rw [HS.out.1] at e
      have:=HW2.out.2.2.2.2 ⟨j,hj,e⟩
      cases this
     go_wp2
     go_roundw
     case rel=>exact ⟨k+1,by omega,by go_num,HN.out.1,by simpa using HN.out.2.1,by simpa using HN.out.2.2⟩
     case measure=>simp [intOf];omega
   ·have HNO:Hid (¬apT f es n∧Below w.heap.size w w2):=by
     refine ⟨fun h=>hit ?_,HQ.out.2.1.trans (hb2.mono HQ.out.2.1.size)⟩
     have:=(h k hlt).1
     rw [HS.out.1] at this
     exact this
    clear hb2 hit q0 c0 c1
    go_wp2
    go_ret
    exact ⟨.inr ⟨HNO.out.1,rfl⟩,HNO.out.2⟩
  ·have hkn:k=n:=by omega
   subst hkn
   go_wp2
   go_ret
   exact ⟨.inl ⟨HAP.out.1,rfl⟩,HAP.out.2.2⟩
theorem implPackOk_any (f:List Int→Option (List Int)) (hf:DecF f) (E O:Int) (a:Option Addr) (cap:Nat) (es:List El) (w:World) (hb:ItI w a es) (hx:FewJ es) (hS:SentB w) :
  Calls Tryz.prog 130 #[.agg #[.int .i64 E,.int .i64 O,.slice a es.length cap]] w fun r w'=>((PkR f E O es∧r=.returned (.bool true))∨(¬PkR f E O es∧r=.returned (.bool false)))∧Below w.heap.size w w':=by
 have hw:Below w.heap.size w (w.alloc (Obj.cells #[.int .i64 E,.int .i64 O,.slice a es.length cap] 47)):=bAw
 have HX:Box3 (w.alloc (Obj.cells #[.int .i64 E,.int .i64 O,.slice a es.length cap] 47)) w.heap.size _ _ _:=Box3.new w (.int .i64 E) (.int .i64 O) (.slice a es.length cap) 47
 have HIA:=itemsApart_any f hf E O a cap es _ (hb.below hw nl) hx (hS.below hw)
 have HB:Hid (ItI w a es∧FewJ es):=⟨hb,hx⟩
 have HP:Hid (PkR f E O es↔(0≤E∧E≤60000)∧(0≤O∧O≤60000)∧es.length≤16∧apT f es es.length∧szP es≤256):=
  ⟨fun h=>⟨⟨h.e0,h.e1⟩,⟨h.o0,h.o1⟩,h.n,h.ap,h.sz⟩,fun h=>⟨h.1.1,h.1.2,h.2.1.1,h.2.1.2,h.2.2.1,h.2.2.2.1,h.2.2.2.2⟩⟩
 generalize PkR f E O es=PK at *
 generalize apT f es es.length=AP at *
 have hszb:szP es≤4000000:=by have:=hx.n;have:=hx.s;unfold szP;omega
 have hn2:=hx.n
 clear hb hx hS
 by_cases hE:0≤E∧E≤60000
 ·by_cases hO:0≤O∧O≤60000
  ·by_cases h16:es.length≤16
   ·have g16:¬((16:Int)<(es.length:Int)):=by omega
    go_enter Tryz.func130,Tryz.ntmps130
    obtain ⟨r0,r1,r2,-,-,-,rl⟩:=HX
    go_wp2_with fail
    generalize w.alloc (Obj.cells #[.int .i64 E,.int .i64 O,.slice a es.length cap] 47)=W at *
    refine (epochOk_any E _).mono ?_
    rintro e w1 ⟨rfl,rfl⟩
    rw [decide_eq_true hE]
    go_wp2_with fail
    refine (epochOk_any O _).mono ?_
    rintro e w2 ⟨rfl,rfl⟩
    rw [decide_eq_true hO]
    go_wp2_with fail
    refine HIA.mono ?_
    clear HIA
    rintro e w3 ⟨⟨hap,rfl⟩ | ⟨hap,rfl⟩,hb3⟩
    ·have HW3:Hid (Below w.heap.size w w3∧AP):=⟨hw.trans (hb3.mono (by have:=hw.size;omega)),hap⟩
     have s0:=keep hb3 rl r0
     have s1:=keep hb3 rl r1
     have s2:=keep hb3 rl r2
     have HSZ:=packSizeI_any E O a cap es w3 (HB.out.1.els.below HW3.out.1 nl) (by omega) HB.out.2.s
     clear hap hb3 r0 r1 r2 rl
     go_wp2_with fail
     refine HSZ.mono ?_
     clear HSZ
     rintro e w4 ⟨rfl,hb4⟩
     have HW4:Hid (Below w.heap.size w w4):=HW3.out.1.trans (hb4.mono HW3.out.1.size)
     clear hb4 s0 s1 s2
     by_cases hz:szP es≤256
     ·have HR:Hid PK:=HP.out.2 ⟨hE,hO,h16,HW3.out.2,hz⟩
      generalize szP es=Z at *
      have hz2:decide ((Z:Int)≤256)=true:=by simp;omega
      go_wp2
      go_ret
      exact ⟨.inl ⟨HR.out,by simp [hz2] <;> omega⟩,HW4.out⟩
     ·have HR:Hid (¬PK):=fun h=>hz (HP.out.1 h).2.2.2.2
      generalize szP es=Z at *
      have hz2:decide ((Z:Int)≤256)=false:=by simp;omega
      go_wp2
      go_ret
      exact ⟨.inr ⟨HR.out,by simp [hz2] <;> omega⟩,HW4.out⟩
    ·have HW3:Hid (Below w.heap.size w w3∧¬PK):=⟨hw.trans (hb3.mono (by have:=hw.size;omega)),fun h=>hap (HP.out.1 h).2.2.2.1⟩
     clear hap hb3 r0 r1 r2 rl
     go_wp2
     go_ret
     exact ⟨.inr ⟨HW3.out.2,rfl⟩,HW3.out.1⟩
   ·have g16:(16:Int)<(es.length:Int):=by omega
    have HR:Hid (¬PK):=fun h=>h16 (HP.out.1 h).2.2.1
    go_enter Tryz.func130,Tryz.ntmps130
    clear HIA HX
    go_wp2_with fail
    refine (epochOk_any E _).mono ?_
    rintro e w1 ⟨rfl,rfl⟩
    rw [decide_eq_true hE]
    go_wp2_with fail
    refine (epochOk_any O _).mono ?_
    rintro e w2 ⟨rfl,rfl⟩
    rw [decide_eq_true hO]
    go_wp2
    go_ret
    exact ⟨.inr ⟨HR.out,rfl⟩,hw⟩
  ·have HR:Hid (¬PK):=fun h=>hO (HP.out.1 h).2.1
   go_enter Tryz.func130,Tryz.ntmps130
   clear HIA HX
   go_wp2_with fail
   refine (epochOk_any E _).mono ?_
   rintro e w1 ⟨rfl,rfl⟩
   rw [decide_eq_true hE]
   go_wp2_with fail
   refine (epochOk_any O _).mono ?_
   rintro e w2 ⟨rfl,rfl⟩
   rw [decide_eq_false hO]
   go_wp2
   go_ret
   exact ⟨.inr ⟨HR.out,rfl⟩,hw⟩
 ·have HR:Hid (¬PK):=fun h=>hE (HP.out.1 h).1
  go_enter Tryz.func130,Tryz.ntmps130
  clear HIA HX
  go_wp2_with fail
  refine (epochOk_any E _).mono ?_
  rintro e w1 ⟨rfl,rfl⟩
  rw [decide_eq_false hE]
  go_wp2
  go_ret
  exact ⟨.inr ⟨HR.out,rfl⟩,hw⟩
theorem l7item_any (f:List Int→Option (List Int)) (hf:DecF f) (n:Int) (a:Option Addr) (c:Nat) (ls:List Int) (w:World) (hb:Byt w a ls) (hc:ls.length≤c) (hl:ls.length≤1048576) :
  Calls Tryz.prog 115 #[.agg #[.int .i64 n,.slice a ls.length c]] w fun r w'=>((itOk f ⟨n,a,c,ls⟩∧r=.returned (.bool true))∨(¬itOk f ⟨n,a,c,ls⟩∧r=.returned (.bool false)))∧Below w.heap.size w w':=by
 have hw:Below w.heap.size w (w.alloc (Obj.cells #[.int .i64 n,.slice a ls.length c] 113)):=bAw
 have HD:=(hf ls hl hb.1).2.1 a c _ hc (hb.below hw nl)
 have HI:Hid (itOk f ⟨n,a,c,ls⟩↔(0≤n∧n<16)∧(ls=[]∨(f ls).isSome=true)):=Iff.rfl
 generalize itOk f ⟨n,a,c,ls⟩=I at *
 clear hb
 go_enter Tryz.func115,Tryz.ntmps115
 by_cases h0:n<0
 ·go_wp2
  go_ret
  exact ⟨.inr ⟨fun h=>by have:=HI.out.1 h;omega,rfl⟩,hw⟩
 ·by_cases h1:(16:Int)≤n
  ·go_wp2
   go_ret
   exact ⟨.inr ⟨fun h=>by have:=HI.out.1 h;omega,rfl⟩,hw⟩
  ·by_cases h2:ls.length=0
   ·have h2':(ls.length:Int)=0:=by omega
    have HN:Hid (I):=HI.out.2 ⟨by omega,.inl (List.eq_nil_of_length_eq_zero h2)⟩
    clear HD
    go_wp2
    go_ret
    exact ⟨.inl ⟨HN.out,rfl⟩,(Below.refl _ _).alloc nl _⟩
   ·have h2':¬((ls.length:Int)=0):=by omega
    have HN:Hid (I↔(f ls).isSome=true):=by
     constructor
     ·intro h
      rcases (HI.out.1 h).2 with h | h
      ·exact absurd (by rw [h];rfl) h2
      ·exact h
     ·intro h
      exact HI.out.2 ⟨by omega,.inr h⟩
    go_wp2_with fail
    refine HD.mono ?_
    clear HD
    rintro e w1 ⟨hb1,⟨bs,v,hy,hov,rfl⟩ | ⟨hy,v,rfl⟩⟩
    ·obtain ⟨va,vc,rfl⟩:=hov.form
     have HB1:Hid (Below w.heap.size w w1∧I):=⟨hw.trans (hb1.mono (by simp)),HN.out.2 (by rw [hy];rfl)⟩
     clear hb1 hy hov hw
     go_wp2
     go_ret
     exact ⟨.inl ⟨HB1.out.2,rfl⟩,HB1.out.1⟩
    ·have HB1:Hid (Below w.heap.size w w1∧¬I):=⟨hw.trans (hb1.mono (by simp)),fun h=>by have:=HN.out.1 h;rw [hy] at this;cases this⟩
     clear hb1 hy hw
     go_wp2
     go_ret
     exact ⟨.inr ⟨HB1.out.2,rfl⟩,HB1.out.1⟩
theorem l7size_any (E O:Int) (a:Option Addr) (cap:Nat) (es:List El) (w:World) (hb:Els true w a es) (hn:es.length≤1048576) (hl:elets es≤1048576) :
  Calls Tryz.prog 116 #[.agg #[.int .i64 E,.int .i64 O,.slice a es.length cap]] w fun r w'=>r=.returned (.int .i64 (szP es:Nat))∧Below w.heap.size w w':=by
 have HSZ:Hid (szP es=6+2*es.length+elets es∧elets (es.take es.length)=elets es):=⟨rfl,by rw [List.take_length]⟩
 have HLE:Hid (∀ k,elets (es.take k)≤elets es):=elets_take_le es
 have hw:Below w.heap.size w (w.alloc (Obj.cells #[.int .i64 E,.int .i64 O,.slice a es.length cap] 47)):=bAw
 have HB:Hid (Els true (w.alloc (Obj.cells #[.int .i64 E,.int .i64 O,.slice a es.length cap] 47)) a es):=hb.below hw nl
 obtain ⟨r0,r1,r2,-,-,-,rl⟩:Box3 (w.alloc (Obj.cells #[.int .i64 E,.int .i64 O,.slice a es.length cap] 47)) w.heap.size _ _ _:=Box3.new w (.int .i64 E) (.int .i64 O) (.slice a es.length cap) 47
 clear hb r0 r1
 generalize szP es=Z at *
 go_enter Tryz.func116,Tryz.ntmps116
 go_wp2
 generalize w.alloc (Obj.cells #[.int .i64 E,.int .i64 O,.slice a es.length cap] 47)=W at *
 generalize hlen:es.length=n at *
 have HL:Hid (es.length=n∧True):=⟨hlen,trivial⟩
 clear hlen
 go_loop [3,4] (fun s i=>∃ (k z:Nat),k≤n∧i=.int .i64 k∧s=.int .i64 z∧z=6+2*k+elets (es.take k)) (fun _ i=>n-(intOf i).toNat)
 case atStart=>exact ⟨0,6,Nat.zero_le _,rfl,rfl,by simp [elets]⟩
 case round=>
  obtain ⟨k,z,hk,rfl,rfl,hz⟩:=hrel
  have HZ:Hid (z=6+2*k+elets (es.take k)∧True):=⟨hz,trivial⟩
  have hzb:z≤4000000:=by have:=HLE.out k;omega
  clear hz
  by_cases hlt:k<n
  ·obtain ⟨b,off,rfl,hb1,c0,c1,hby,hrg⟩:=HB.out.pen k (by rw [HL.out.1];exact hlt)
   have HT:Hid (elets (es.take (k+1))=elets (es.take k)+(es.getD k de).ls.length∧(es.getD k de).ls.length≤1048576):=⟨elets_take_succ es k (by rw [HL.out.1];exact hlt),by have:=elets_mem (getD_memE (es:=es) (k:=k) (by rw [HL.out.1];exact hlt));omega⟩
   generalize es.getD k de=s at *
   obtain ⟨sn,sa,sc,sl⟩:=s
   simp only at c0 c1 HT
   have hsl:sl.length≤1048576:=HT.out.2
   have HZ2:Hid (z+2+sl.length=6+2*(k+1)+elets (es.take (k+1))∧True):=⟨by have h1:=HZ.out.1;have h2:=HT.out.1;omega,trivial⟩
   clear hby hrg
   go_wp2
   go_round
   case rel=>exact ⟨k+1,z+2+sl.length,by omega,by go_num,by go_num,HZ2.out.1⟩
   case measure=>simp [intOf];omega
  ·have hkn:k=n:=by omega
   subst hkn
   have HZ2:Hid (z=Z∧True):=⟨by have h1:=HZ.out.1;have h2:=HSZ.out;omega,trivial⟩
   go_wp2
   go_ret
   exact ⟨by rw [←HZ2.out.1];rfl,hw⟩
def FndP (es:List El) (x z:Int):Prop:=(∃ k:Nat,k<es.length∧z=k∧(es.getD k de).n=x∧∀ j,j<k→(es.getD j de).n≠x)∨(z=-1∧∀ j,j<es.length→(es.getD j de).n≠x)
theorem l7find_any (E O x:Int) (a:Option Addr) (cap:Nat) (es:List El) (w:World) (hb:Els true w a es) (hn:es.length≤1048576) :
  Calls Tryz.prog 109 #[.agg #[.int .i64 E,.int .i64 O,.slice a es.length cap],.int .i64 x] w fun r w'=>(∃ z,r=.returned (.int .i64 z)∧FndP es x z)∧Below w.heap.size w w':=by
 have hw:Below w.heap.size w (w.alloc (Obj.cells #[.int .i64 E,.int .i64 O,.slice a es.length cap] 47)):=bAw
 have HB:Hid (Els true (w.alloc (Obj.cells #[.int .i64 E,.int .i64 O,.slice a es.length cap] 47)) a es):=hb.below hw nl
 obtain ⟨r0,r1,r2,-,-,-,rl⟩:Box3 (w.alloc (Obj.cells #[.int .i64 E,.int .i64 O,.slice a es.length cap] 47)) w.heap.size _ _ _:=Box3.new w (.int .i64 E) (.int .i64 O) (.slice a es.length cap) 47
 have HY:Hid (∀ k:Nat,k<es.length→(es.getD k de).n=x→(∀ j,j<k→(es.getD j de).n≠x)→FndP es x k):=fun k h1 h2 h3=>.inl ⟨k,h1,rfl,h2,h3⟩
 have HN:Hid ((∀ j,j<es.length→(es.getD j de).n≠x)→FndP es x (-1)):=fun h=>.inr ⟨rfl,h⟩
 clear hb r0 r1
 go_enter Tryz.func109,Tryz.ntmps109
 go_wp2
 generalize w.alloc (Obj.cells #[.int .i64 E,.int .i64 O,.slice a es.length cap] 47)=W at *
 generalize hlen:es.length=n at *
 have HL:Hid (es.length=n∧True):=⟨hlen,trivial⟩
 clear hlen
 go_loop [5] (fun i=>∃ k:Nat,k≤n∧i=.int .i64 k∧∀ j,j<k→(es.getD j de).n≠x) (fun i=>n-(intOf i).toNat)
 case atStart=>exact ⟨0,Nat.zero_le _,rfl,fun j hj=>by omega⟩
 case round=>
  obtain ⟨k,hk,rfl,hal⟩:=hrel
  have HAL:Hid (∀ j,j<k→(es.getD j de).n≠x):=hal
  clear hal
  by_cases hlt:k<n
  ·obtain ⟨b,off,rfl,hb1,c0,c1,hby,hrg⟩:=HB.out.pen k (by rw [HL.out.1];exact hlt)
   have HS:Hid (∃ s,es.getD k de=s∧True):=⟨_,rfl,trivial⟩
   generalize hs:es.getD k de=s at *
   obtain ⟨sn,sa,sc,sl⟩:=s
   simp only at c0 c1
   have HSN:Hid ((es.getD k de).n=sn∧True):=⟨by rw [hs],trivial⟩
   clear hby hrg hs HS
   by_cases hx:sn=x
   ·have hx2:(sn == x)=true:=by simpa using hx
    have HF:Hid (FndP es x k):=HY.out k hlt (by rw [HSN.out.1];exact hx) HAL.out
    clear hx
    go_wp2
    go_ret
    exact ⟨⟨_,rfl,HF.out⟩,hw⟩
   ·have hx2:(sn == x)=false:=by simpa using hx
    have HF:Hid (∀ j,j<k+1→(es.getD j de).n≠x):=by
     intro j hj
     by_cases e:j=k
     ·rw [e,HSN.out.1];exact hx
     ·exact HAL.out j (by omega)
    clear hx
    go_wp2
    go_round
    case rel=>exact ⟨k+1,by omega,by go_num,HF.out⟩
    case measure=>simp [intOf];omega
  ·have hkn:k=n:=by omega
   subst hkn
   have HF:Hid (FndP es x (-1)):=HN.out HAL.out
   go_wp2
   go_ret
   exact ⟨⟨_,rfl,HF.out⟩,hw⟩
theorem specPackOk_any (f:List Int→Option (List Int)) (hf:DecF f) (E O:Int) (a:Option Addr) (cap:Nat) (es:List El) (w:World) (hb:ItI w a es) (hx:FewJ es) :
  Calls Tryz.prog 80 #[.agg #[.int .i64 E,.int .i64 O,.slice a es.length cap]] w fun r w'=>((PkR f E O es∧r=.returned (.bool true))∨(¬PkR f E O es∧r=.returned (.bool false)))∧Below w.heap.size w w':=by
 have hw:Below w.heap.size w (w.alloc (Obj.cells #[.int .i64 E,.int .i64 O,.slice a es.length cap] 47)):=bAw
 have HP:Hid (PkR f E O es↔(0≤E∧E≤60000)∧(0≤O∧O≤60000)∧es.length≤16∧apT f es es.length∧szP es≤256):=
  ⟨fun h=>⟨⟨h.e0,h.e1⟩,⟨h.o0,h.o1⟩,h.n,h.ap,h.sz⟩,fun h=>⟨h.1.1,h.1.2,h.2.1.1,h.2.1.2,h.2.2.1,h.2.2.2.1,h.2.2.2.2⟩⟩
 generalize PkR f E O es=PK at *
 by_cases hE0:E<0
 ·have HR:Hid (¬PK):=fun h=>by have:=(HP.out.1 h).1;omega
  go_enter Tryz.func80,Tryz.ntmps80
  go_wp2
  go_ret
  exact ⟨.inr ⟨HR.out,rfl⟩,hw⟩
 by_cases hE1:60000<E
 ·have HR:Hid (¬PK):=fun h=>by have:=(HP.out.1 h).1;omega
  go_enter Tryz.func80,Tryz.ntmps80
  go_wp2
  go_ret
  exact ⟨.inr ⟨HR.out,rfl⟩,hw⟩
 by_cases hO0:O<0
 ·have HR:Hid (¬PK):=fun h=>by have:=(HP.out.1 h).2.1;omega
  go_enter Tryz.func80,Tryz.ntmps80
  go_wp2
  go_ret
  exact ⟨.inr ⟨HR.out,rfl⟩,hw⟩
 by_cases hO1:60000<O
 ·have HR:Hid (¬PK):=fun h=>by have:=(HP.out.1 h).2.1;omega
  go_enter Tryz.func80,Tryz.ntmps80
  go_wp2
  go_ret
  exact ⟨.inr ⟨HR.out,rfl⟩,hw⟩
 by_cases h16:16<es.length
 ·have h16':(16:Int)<(es.length:Int):=by omega
  have HR:Hid (¬PK):=fun h=>by have:=(HP.out.1 h).2.2.1;omega
  go_enter Tryz.func80,Tryz.ntmps80
  go_wp2
  go_ret
  exact ⟨.inr ⟨HR.out,rfl⟩,hw⟩
 have h16':¬((16:Int)<(es.length:Int)):=by omega
 have hszb:szP es≤4000000:=by have:=hx.n;have:=hx.s;unfold szP;omega
 have HB:Hid (ItI w a es∧FewJ es∧DecF f):=⟨hb,hx,hf⟩
 have HX:Hid (Box3 (w.alloc (Obj.cells #[.int .i64 E,.int .i64 O,.slice a es.length cap] 47)) w.heap.size _ _ _):=Box3.new w (.int .i64 E) (.int .i64 O) (.slice a es.length cap) 47
 have HPY:Hid (apT f es es.length→szP es≤256→PK):=fun h1 h2=>HP.out.2 ⟨by omega,by omega,by omega,h1,h2⟩
 have HPN:Hid (PK→apT f es es.length∧szP es≤256):=fun h=>(HP.out.1 h).2.2.2
 have hn2:=hx.n
 clear hb hx hf HP
 go_enter Tryz.func80,Tryz.ntmps80
 go_wp2
 generalize hW0:w.alloc (Obj.cells #[.int .i64 E,.int .i64 O,.slice a es.length cap] 47)=W0 at *
 clear hW0
 generalize hlen:es.length=n at *
 have HL:Hid (es.length=n∧True):=⟨hlen,trivial⟩
 clear hlen
 have HZB:Hid (szP es≤4000000):=hszb
 clear hszb
 go_loopw [3] (fun i wr=>∃ k:Nat,k≤n∧i=.int .i64 k∧apT f es k∧Box3 wr w.heap.size (.int .i64 E) (.int .i64 O) (.slice a n cap)∧Below w.heap.size w wr) (fun i _=>n-(intOf i).toNat)
 case atStart=>exact ⟨0,Nat.zero_le _,rfl,apT_zero f es,HX.out,hw⟩
 case round=>
  clear HX hw
  obtain ⟨k,hk,rfl,hap,hbx,hbel⟩:=hrel
  have HAP:Hid (apT f es k∧Box3 wr w.heap.size (.int .i64 E) (.int .i64 O) (.slice a n cap)):=⟨hap,hbx⟩
  obtain ⟨r0,r1,r2,-,-,-,rl⟩:=hbx
  clear hap
  by_cases hlt:k<n
  ·obtain ⟨b,off,rfl,hb1,c0,c1,hby,hrg⟩:=(HB.out.1.els.below hbel nl).pen k (by rw [HL.out.1];exact hlt)
   have hmem:=getD_memE (es:=es) (k:=k) (by rw [HL.out.1];exact hlt)
   have hcp:=HB.out.1.cap _ hmem
   have hll:=HB.out.2.1.l _ hmem
   generalize hs:es.getD k de=s at *
   obtain ⟨sn,sa,sc,sl⟩:=s
   simp only at c0 c1 hcp hll hby
   have HS:Hid (es.getD k de=⟨sn,sa,sc,sl⟩∧True):=⟨hs,trivial⟩
   have HFI:Hid (∀ W,Below w.heap.size w W→Calls Tryz.prog 109 #[.agg #[.int .i64 E,.int .i64 O,.slice (some ⟨b,off,none⟩) n cap],.int .i64 sn] W fun r w'=>(∃ z,r=.returned (.int .i64 z)∧FndP es sn z)∧Below W.heap.size W w'):=fun W hW=>by
    have:=l7find_any E O sn (some ⟨b,off,none⟩) cap es W (HB.out.1.els.below hW nl) (by rw [HL.out.1];exact hn2)
    rw [HL.out.1] at this
    exact this
   have HITA:Hid (∀ W,Below w.heap.size w W→Calls Tryz.prog 115 #[.agg #[.int .i64 sn,.slice sa sl.length sc]] W fun r w'=>((itOk f ⟨sn,sa,sc,sl⟩∧r=.returned (.bool true))∨(¬itOk f ⟨sn,sa,sc,sl⟩∧r=.returned (.bool false)))∧Below W.heap.size W w'):=fun W hW=>by
    have h9:=(HB.out.1.els.below hW nl).at k (by rw [HL.out.1];exact hlt)
    rw [hs] at h9
    exact l7item_any f HB.out.2.2 sn sa sc sl W h9.2 hcp hll
   have HCL:Hid (∀ W,Below wr.heap.size wr W→W.cell? ⟨w.heap.size,0,none⟩=some (.int .i64 E)∧W.cell? ⟨w.heap.size,1,none⟩=some (.int .i64 O)∧W.cell? ⟨w.heap.size,2,none⟩=some (.slice (some ⟨b,off,none⟩) n cap)∧W.cell? ⟨b,off+k*2,none⟩=some (.int .i64 sn)∧W.cell? ⟨b,off+k*2+1,none⟩=some (.slice sa sl.length sc)):=fun W h=>⟨keep h rl r0,keep h rl r1,keep h rl r2,keep h hb1 c0,keep h hb1 c1⟩
   have hbD:Below w.heap.size w wr.drew:=hbel.drew
   clear hmem hcp hll hby hrg hs r0 r1 c0 c1
   by_cases hok:itOk f ⟨sn,sa,sc,sl⟩
   ·have HIT:Hid (∀ W,Below w.heap.size w W→Calls Tryz.prog 115 #[.agg #[.int .i64 sn,.slice sa sl.length sc]] W fun r w'=>r=.returned (.bool true)∧Below W.heap.size W w'):=fun W hW=>(HITA.out W hW).mono fun r w' h=>by
     obtain ⟨⟨_,h1⟩ | ⟨h0,_⟩,h2⟩:=h
     ·exact ⟨h1,h2⟩
     ·exact absurd hok h0
    have HOK:Hid (itOk f ⟨sn,sa,sc,sl⟩):=hok
    clear HITA hok
    go_wp2_with fail
    refine wp_region_cut (S:=fun W=>W.cell? ⟨w.heap.size,0,none⟩=some (.int .i64 E)∧W.cell? ⟨w.heap.size,1,none⟩=some (.int .i64 O)∧W.cell? ⟨w.heap.size,2,none⟩=some (.slice (some ⟨b,off,none⟩) n cap)∧W.cell? ⟨b,off+k*2,none⟩=some (.int .i64 sn)∧W.cell? ⟨b,off+k*2+1,none⟩=some (.slice sa sl.length sc)) 19 (by kernel_rfl) (by kernel_rfl) (HCL.out _ (Below.refl _ _).drew) (fun hHeld=>?_)
    refine tk 0 (v:=?_) ?_ ?_
    rotate_left
    ·(intro w hSw;(try dsimp only at hSw);go_simp;try (with_reducible rfl))
    try simp only [tkS]
    refine tk 1 (v:=?_) ?_ ?_
    rotate_left
    ·(intro w hSw;(try dsimp only at hSw);go_simp;try (with_reducible rfl))
    try simp only [tkS]
    refine tk 2 (v:=?_) ?_ ?_
    rotate_left
    ·(intro w hSw;(try dsimp only at hSw);go_simp;try (with_reducible rfl))
    try simp only [tkS]
    refine tk 3 (v:=?_) ?_ ?_
    rotate_left
    ·(intro w hSw;(try dsimp only at hSw);go_simp;try (with_reducible rfl))
    try simp only [tkS]
    refine tk 4 (v:=?_) ?_ ?_
    rotate_left
    ·(intro w hSw;(try dsimp only at hSw);go_simp;try (with_reducible rfl))
    try simp only [tkS]
    refine wpAnyH_ready (rs:=[5]) (by kernel_rfl) (by simp) ?_
    refine AllReadyH.cons rfl (fun K hK=>?_) AllReadyH.nil
    go_simp
    refine (HIT.out _ hbD).mono ?_
    rintro e w2 ⟨rfl,hb2'⟩
    have hb2:Below wr.heap.size wr w2:=Below.drewS hb2'
    have HB2:Hid (Below w.heap.size w w2∧Below wr.heap.size wr w2):=⟨hbel.trans (hb2.mono hbel.size),hb2⟩
    clear hb2 hb2'
    dsimp only
    refine hK.out _ _ (HCL.out _ HB2.out.2) (fun hHeld=>?_)
    clear hK K
    try simp only [tkS]
    refine tk 6 (v:=?_) ?_ ?_
    rotate_left
    ·(intro w hSw;(try dsimp only at hSw);go_simp;try (with_reducible rfl))
    try simp only [tkS]
    refine tk 7 (v:=?_) ?_ ?_
    rotate_left
    ·(intro w hSw;(try dsimp only at hSw);go_simp;try (with_reducible rfl))
    try simp only [tkS]
    refine tk 8 (v:=?_) ?_ ?_
    rotate_left
    ·(intro w hSw;(try dsimp only at hSw);go_simp;try (with_reducible rfl))
    try simp only [tkS]
    refine tk 9 (v:=?_) ?_ ?_
    rotate_left
    ·(intro w hSw;(try dsimp only at hSw);go_simp;try (with_reducible rfl))
    try simp only [tkS]
    refine tk 10 (v:=?_) ?_ ?_
    rotate_left
    ·(intro w hSw;(try dsimp only at hSw);go_simp;try (with_reducible rfl))
    try simp only [tkS]
    refine tk 11 (v:=?_) ?_ ?_
    rotate_left
    ·(intro w hSw;(try dsimp only at hSw);go_simp;try (with_reducible rfl))
    try simp only [tkS]
    refine tk 12 (v:=?_) ?_ ?_
    rotate_left
    ·(intro w hSw;(try dsimp only at hSw);go_simp;try (with_reducible rfl))
    try simp only [tkS]
    refine tk 13 (v:=?_) ?_ ?_
    rotate_left
    ·(intro w hSw;(try dsimp only at hSw);go_simp;try (with_reducible rfl))
    try simp only [tkS]
    refine tk 14 (v:=?_) ?_ ?_
    rotate_left
    ·(intro w hSw;(try dsimp only at hSw);go_simp;try (with_reducible rfl))
    try simp only [tkS]
    refine tk 16 (v:=?_) ?_ ?_
    rotate_left
    ·(intro w hSw;(try dsimp only at hSw);go_simp;try (with_reducible rfl))
    try simp only [tkS]
    refine wpAnyH_ready (rs:=[15]) (by kernel_rfl) (by simp) ?_
    refine AllReadyH.cons rfl (fun K hK=>?_) AllReadyH.nil
    go_simp
    refine (HFI.out _ HB2.out.1).mono ?_
    rintro e w3 ⟨⟨z,rfl,hz⟩,hb3⟩
    have HB3:Hid (Below w.heap.size w w3∧Below wr.heap.size wr w3∧FndP es sn z):=⟨HB2.out.1.trans (hb3.mono HB2.out.1.size),HB2.out.2.trans (hb3.mono HB2.out.2.size),hz⟩
    clear hb3 hz
    dsimp only
    refine hK.out _ _ (HCL.out _ HB3.out.2.1) (fun hHeld=>?_)
    clear hK K
    try simp only [tkS]
    refine tk 17 (v:=?_) ?_ ?_
    rotate_left
    ·(intro w hSw;(try dsimp only at hSw);go_simp;try (with_reducible rfl))
    try simp only [tkS]
    refine tk 18 (v:=?_) ?_ ?_
    rotate_left
    ·(intro w hSw;(try dsimp only at hSw);go_simp;try (with_reducible rfl))
    try simp only [tkS]
    refine wpAnyH_done (by kernel_rfl) ?_ _
    simp only [cutQ,List.drop_succ_cons,List.drop_zero]
    by_cases hzk:z=(k:Int)
    ·have hz2:(z != (k:Int))=false:=by simpa using hzk
     have HN:Hid (apT f es (k+1)∧Box3 w3 w.heap.size (.int .i64 E) (.int .i64 O) (.slice (some ⟨b,off,none⟩) n cap)):=by
      refine ⟨apT_succ HAP.out.1 (by rw [HS.out.1];exact HOK.out) ?_,HAP.out.2.step HB3.out.2.1⟩
      rw [HS.out.1]
      rcases HB3.out.2.2 with ⟨k',h1,h2,h3,h4⟩ | ⟨h2,_⟩
      ·obtain rfl:k'=k:=by omega
       exact h4
      ·omega
     clear hzk
     go_wp2
     go_roundw
     case rel=>exact ⟨k+1,by omega,by go_num,HN.out.1,HN.out.2,HB3.out.1⟩
     case measure=>simp [intOf];omega
    ·have hz2:(z != (k:Int))=true:=by simpa using hzk
     have HN:Hid (¬PK):=by
      intro h
      have h9:=(HPN.out h).1 k hlt
      rw [HS.out.1] at h9
      apply hzk
      rcases HB3.out.2.2 with ⟨k',h1,h2,h3,h4⟩ | ⟨h2,h4⟩
      ·rcases Nat.lt_trichotomy k' k with hh | hh | hh
       ·exact absurd h3 (h9.2 k' hh)
       ·omega
       ·exact absurd (by rw [HS.out.1]) (h4 k hh)
      ·exact absurd (by rw [HS.out.1]) (h4 k (by rw [HL.out.1];exact hlt))
     clear hzk
     go_wp2
     go_ret
     exact ⟨.inr ⟨HN.out,rfl⟩,HB3.out.1⟩
   ·have HIT:Hid (∀ W,Below w.heap.size w W→Calls Tryz.prog 115 #[.agg #[.int .i64 sn,.slice sa sl.length sc]] W fun r w'=>r=.returned (.bool false)∧Below W.heap.size W w'):=fun W hW=>(HITA.out W hW).mono fun r w' h=>by
     obtain ⟨⟨h0,_⟩ | ⟨_,h1⟩,h2⟩:=h
     ·exact absurd h0 hok
     ·exact ⟨h1,h2⟩
    have HN:Hid (¬PK):=by
     intro h
     have h9:=((HPN.out h).1 k hlt).1
     rw [HS.out.1] at h9
     exact hok h9
    clear HITA hok
    go_wp2_with fail
    refine wp_region_cut (S:=fun W=>W.cell? ⟨w.heap.size,0,none⟩=some (.int .i64 E)∧W.cell? ⟨w.heap.size,1,none⟩=some (.int .i64 O)∧W.cell? ⟨w.heap.size,2,none⟩=some (.slice (some ⟨b,off,none⟩) n cap)∧W.cell? ⟨b,off+k*2,none⟩=some (.int .i64 sn)∧W.cell? ⟨b,off+k*2+1,none⟩=some (.slice sa sl.length sc)) 19 (by kernel_rfl) (by kernel_rfl) (HCL.out _ (Below.refl _ _).drew) (fun hHeld=>?_)
    refine tk 0 (v:=?_) ?_ ?_
    rotate_left
    ·(intro w hSw;(try dsimp only at hSw);go_simp;try (with_reducible rfl))
    try simp only [tkS]
    refine tk 1 (v:=?_) ?_ ?_
    rotate_left
    ·(intro w hSw;(try dsimp only at hSw);go_simp;try (with_reducible rfl))
    try simp only [tkS]
    refine tk 2 (v:=?_) ?_ ?_
    rotate_left
    ·(intro w hSw;(try dsimp only at hSw);go_simp;try (with_reducible rfl))
    try simp only [tkS]
    refine tk 3 (v:=?_) ?_ ?_
    rotate_left
    ·(intro w hSw;(try dsimp only at hSw);go_simp;try (with_reducible rfl))
    try simp only [tkS]
    refine tk 4 (v:=?_) ?_ ?_
    rotate_left
    ·(intro w hSw;(try dsimp only at hSw);go_simp;try (with_reducible rfl))
    try simp only [tkS]
    refine wpAnyH_ready (rs:=[5]) (by kernel_rfl) (by simp) ?_
    refine AllReadyH.cons rfl (fun K hK=>?_) AllReadyH.nil
    go_simp
    refine (HIT.out _ hbD).mono ?_
    rintro e w2 ⟨rfl,hb2'⟩
    have hb2:Below wr.heap.size wr w2:=Below.drewS hb2'
    have HB2:Hid (Below w.heap.size w w2∧Below wr.heap.size wr w2):=⟨hbel.trans (hb2.mono hbel.size),hb2⟩
    clear hb2 hb2'
    dsimp only
    refine hK.out _ _ (HCL.out _ HB2.out.2) (fun hHeld=>?_)
    clear hK K
    try simp only [tkS]
    refine tk 6 (v:=?_) ?_ ?_
    rotate_left
    ·(intro w hSw;(try dsimp only at hSw);go_simp;try (with_reducible rfl))
    try simp only [tkS]
    refine tk 7 (v:=?_) ?_ ?_
    rotate_left
    ·(intro w hSw;(try dsimp only at hSw);go_simp;try (with_reducible rfl))
    try simp only [tkS]
    refine tu 8 ?_
    try simp only [tkS]
    refine tu 9 ?_
    try simp only [tkS]
    refine tu 10 ?_
    try simp only [tkS]
    refine tu 11 ?_
    try simp only [tkS]
    refine tu 12 ?_
    try simp only [tkS]
    refine tu 13 ?_
    try simp only [tkS]
    refine tu 14 ?_
    try simp only [tkS]
    refine tu 16 ?_
    try simp only [tkS]
    refine tu 15 ?_
    try simp only [tkS]
    refine tu 17 ?_
    try simp only [tkS]
    refine tk 18 (v:=?_) ?_ ?_
    rotate_left
    ·(intro w hSw;(try dsimp only at hSw);go_simp;try (with_reducible rfl))
    try simp only [tkS]
    refine wpAnyH_done (by kernel_rfl) ?_ _
    simp only [cutQ,List.drop_succ_cons,List.drop_zero]
    go_wp2
    go_ret
    exact ⟨.inr ⟨HN.out,rfl⟩,HB2.out.1⟩
  ·have hkn:k=n:=by omega
   subst hkn
   have HSZ:=l7size_any E O a cap es wr (HB.out.1.els.below hbel nl) (by rw [HL.out.1];exact hn2) HB.out.2.1.s
   rw [HL.out.1] at HSZ
   have HBE:Hid (Below w.heap.size w wr):=hbel
   have hzb:=HZB.out
   clear hbel
   go_wp2_with fail
   refine HSZ.mono ?_
   clear HSZ
   rintro e w2 ⟨rfl,hb2⟩
   have HB2:Hid (Below w.heap.size w w2):=HBE.out.trans (hb2.mono HBE.out.size)
   clear hb2
   by_cases hz:szP es≤256
   ·have HR:Hid PK:=HPY.out HAP.out.1 hz
    clear HPY HPN HZB
    generalize szP es=Z at *
    have hz2:decide ((Z:Int)≤256)=true:=by simp;omega
    go_wp2
    go_ret
    exact ⟨.inl ⟨HR.out,by simp [hz2] <;> omega⟩,HB2.out⟩
   ·have HR:Hid (¬PK):=fun h=>hz (HPN.out h).2
    clear HPY HPN HZB
    generalize szP es=Z at *
    have hz2:decide ((Z:Int)≤256)=false:=by simp;omega
    go_wp2
    go_ret
    exact ⟨.inr ⟨HR.out,by simp [hz2] <;> omega⟩,HB2.out⟩
end Go.Proofs.YtaibkchbkedjnaaGreatDoor
