/-
  The law on PackAdd returns true, whatever is handed in, and writes nothing that was there. (Typed by wip/mklpb.py.)
-/
import Derived.Test.YtiabhcfcpkkhoaaGreatDoorElC
import Derived.Test.YtiabhcfcpkkhoaaGreatDoorItTo
import Derived.Test.YtiabhcfcpkkhoaaGreatDoorItEq
namespace Go.Proofs.YtiabhcfcpkkhoaaGreatDoor
open Go.RowKit
set_option linter.unusedVariables false

set_option maxHeartbeats 400000 in
theorem szByteS_any (a:Option Addr) (n cap:Nat) (left:Int) (w:World) (hn:n≤maxLen) (h0:0≤left) (h1:left≤1048576) :
    Calls Tryz.prog 16 #[.slice a n cap,.int .i64 left] w fun e w'=>e=.returned (.int .i64 (if (n:Int)≤left then left - n else -1))∧w'=w:=by
  unfold maxLen at hn
  by_cases h:(n:Int)≤left
  · go_enter Tryz.func16,Tryz.ntmps16
    go_wp2
    go_ret
    exact ⟨rfl,rfl⟩
  · go_enter Tryz.func16,Tryz.ntmps16
    go_wp2
    go_ret
    exact ⟨rfl,rfl⟩

set_option maxHeartbeats 800000 in
theorem szItem_any (n:Int) (a:Option Addr) (cap:Nat) (zs:List Int) (left:Int) (w:World) (hn:zs.length≤maxLen) (h0:0≤left) (h1:left≤1048576) :
    Calls Tryz.prog 5 #[.agg #[.int .i64 n,.slice a zs.length cap],.int .i64 left] w fun e w'=>e=.returned (.int .i64 (if (zs.length:Int)≤left then left - zs.length else -1))∧Below w.heap.size w w':=by
  by_cases h:(zs.length:Int)≤left
  · go_enter Tryz.func5,Tryz.ntmps5
    go_wp2_with (go_at_call 16;refine (szByteS_any _ _ _ _ _ hn h0 h1).mono ?_;rintro e w' ⟨rfl,rfl⟩;rw [if_pos h])
    go_ret
    exact ⟨rfl,(Below.refl _ _).alloc (Nat.le_refl _) _⟩
  · go_enter Tryz.func5,Tryz.ntmps5
    go_wp2_with (go_at_call 16;refine (szByteS_any _ _ _ _ _ hn h0 h1).mono ?_;rintro e w' ⟨rfl,rfl⟩;rw [if_neg h])
    go_ret
    exact ⟨rfl,(Below.refl _ _).alloc (Nat.le_refl _) _⟩

set_option maxHeartbeats 1600000 in
theorem szItemS_any (a:Option Addr) (cap:Nat) (ss:List El) (left:Int) (w:World) (hb:Els true w a ss) (hm:ss.length≤maxLen) (h0:0≤left) (h1:left≤1048576) :
    Calls Tryz.prog 15 #[.slice a ss.length cap,.int .i64 left] w fun e w'=>(∃ z:Int,e=.returned (.int .i64 z)∧(z=-1∨(0≤z∧z≤left∧z+ss.length+elets ss=left)))∧Below w.heap.size w w':=by
  have HSS:Hid (Els true w a ss):=hb
  unfold maxLen at hm
  clear hb
  have HEL:Hid (elets (ss.take ss.length)=elets ss∧True):=⟨by rw [List.take_length],trivial⟩
  generalize hlen:ss.length=n at *
  have HL:Hid (ss.length=n∧True):=⟨hlen,trivial⟩
  clear hlen
  by_cases hn:(n:Int)≤left
  · go_enter Tryz.func15,Tryz.ntmps15
    go_wp2
    go_loopw [1,5] (fun l i wr=>∃ (k:Nat) (z:Int),k≤n∧i=.int .i64 k∧l=.int .i64 z∧0≤z∧z≤1048576∧z≤left∧(n:Int)+(elets (ss.take k):Nat)+z=left∧Below w.heap.size w wr) (fun _ i _=>n - (intOf i).toNat)
    case atStart=>exact ⟨0,left - n,Nat.zero_le _,rfl,rfl,by omega,by omega,by omega,by simp [elets];omega,Below.refl _ _⟩
    case round=>
      obtain ⟨k,z,hk,rfl,rfl,hz0,hz1,hz2,hsum,hbel⟩:=hrel
      have HSUM:Hid ((n:Int)+(elets (ss.take k):Nat)+z=left∧True):=⟨hsum,trivial⟩
      clear hsum
      by_cases hlt:k<n
      · obtain ⟨b,off,rfl,hb1,c0,c1,hby,hrg⟩:=(HSS.out.below hbel (Nat.le_refl _)).pen k (by rw [HL.out.1];exact hlt)
        have HT:Hid (elets (ss.take (k+1))=elets (ss.take k)+(ss.getD k de).ls.length∧True):=⟨elets_take_succ ss k (by rw [HL.out.1];exact hlt),trivial⟩
        generalize ss.getD k de=s at *
        obtain ⟨sn,sa,sc,sl⟩:=s
        simp only at c0 c1 HT
        have hml:=hrg.len
        simp only at hml
        clear hby hrg
        have HSZ:=szItem_any sn sa sc sl z wr hml hz0 hz1
        go_wp2_with fail
        refine HSZ.mono ?_
        clear HSZ
        rintro e w1 ⟨rfl,hb2⟩
        have HB2:Hid (Below w.heap.size w w1):=hbel.trans (hb2.mono hbel.size)
        clear hb2 hbel c0 c1
        by_cases hc:(sl.length:Int)≤z
        · rw [if_pos hc]
          have HS2:Hid ((n:Int)+(elets (ss.take (k+1)):Nat)+(z - sl.length)=left∧True):=by
            have h1:=HSUM.out.1
            have h2:=HT.out.1
            exact ⟨by omega,trivial⟩
          go_wp2
          go_roundw
          case rel=>exact ⟨k+1,z - sl.length,by omega,by go_num,rfl,by omega,by omega,by omega,HS2.out.1,HB2.out⟩
          case measure=>simp [intOf];omega
        · rw [if_neg hc]
          go_wp2
          go_ret
          exact ⟨⟨-1,rfl,.inl rfl⟩,HB2.out⟩
      · have hkn:k=n:=by omega
        subst hkn
        have HF:Hid (z+(k:Int)+elets ss=left∧True):=by
          have h1:=HSUM.out.1
          rw [HEL.out.1] at h1
          exact ⟨by omega,trivial⟩
        go_wp2
        go_ret
        exact ⟨⟨z,rfl,.inr ⟨hz0,hz2,HF.out.1⟩⟩,hbel⟩
  · go_enter Tryz.func15,Tryz.ntmps15
    go_wp2
    go_ret
    exact ⟨⟨-1,rfl,.inl rfl⟩,Below.refl _ _⟩

set_option maxHeartbeats 1600000 in
theorem szPack_any (E O:Int) (a:Option Addr) (cap:Nat) (es:List El) (w:World) (hb:Els true w a es) (hm:es.length≤maxLen) (left:Int) (h0:0≤left) (h1:left≤1048576) :
    Calls Tryz.prog 4 #[.agg #[.int .i64 E,.int .i64 O,.slice a es.length cap],.int .i64 left] w fun e w'=>(∃ z:Int,e=.returned (.int .i64 z)∧(z=-1∨(0≤z∧z≤left∧z+es.length+elets es=left)))∧Below w.heap.size w w':=by
  have hw:Below w.heap.size w (w.alloc (Obj.cells #[Value.int IntKind.i64 E,Value.int IntKind.i64 O,Value.slice a es.length cap] 24)):=(Below.refl _ _).alloc (Nat.le_refl _) _
  have HS:=szItemS_any a cap es left _ (hb.below hw (Nat.le_refl _)) hm h0 h1
  clear hb hm
  go_enter Tryz.func4,Tryz.ntmps4
  go_wp2_with fail
  refine HS.mono ?_
  clear HS
  rintro e w1 ⟨⟨z,rfl,hz⟩,hb1⟩
  have HB1:Hid (Below w.heap.size w w1):=hw.trans (hb1.mono (by simp))
  clear hw hb1
  rcases hz with rfl | ⟨hz0,hz1,hz2⟩
  · go_wp2
    go_ret
    exact ⟨⟨-1,rfl,.inl rfl⟩,HB1.out⟩
  · have HZ:Hid (z+(es.length:Int)+elets es=left∧True):=⟨hz2,trivial⟩
    clear hz2
    go_wp2
    go_ret
    exact ⟨⟨z,rfl,.inr ⟨hz0,hz1,HZ.out.1⟩⟩,HB1.out⟩
set_option linter.unusedSimpArgs false
structure LpF (w W:World) (E O E0 O0 xn:Int) (a xa:Option Addr) (n cap xm xc Y:Nat) (v:Value) (ts fs:List El):Prop where
  bel:Below w.heap.size w W
  c3:Ce3 W w.heap.size (.int .i64 E) (.int .i64 O) (.slice a n cap)
  c2:Ce2 W (w.heap.size+1) (.int .i64 xn) (.slice xa xm xc)
  cy:Ce3 W Y (.int .i64 E0) (.int .i64 O0) v
  cop:CopT W (w.heap.size+1+1) v ts fs
  y0:w.heap.size+1+1≤Y
  y1:Y<W.heap.size
theorem lpS {w w2 w5:World} {E O E0 O0 xn:Int} {a xa:Option Addr} {n cap xm xc Y U:Nat} {v:Value} {ts fs:List El} (hb:Below w.heap.size w w2) (h3:Ce3 w2 w.heap.size (.int .i64 E) (.int .i64 O) (.slice a n cap)) (h2:Ce2 w2 (w.heap.size+1) (.int .i64 xn) (.slice xa xm xc)) (hs:w.heap.size+1+1≤w2.heap.size)
    (h5:Below w2.heap.size w2 w5) (bz:Box3 w5 Y (.int .i64 0) (.int .i64 0) (.slice none 0 0)) (hY:w2.heap.size≤Y) (hc:CopT w5 U v ts fs) (hU:Y<U) :
    LpF w (((w5.setCell ⟨Y,0,none⟩ (.int .i64 E0)).setCell ⟨Y,1,none⟩ (.int .i64 O0)).setCell ⟨Y,2,none⟩ v) E O E0 O0 xn a xa n cap xm xc Y v ts fs∧Below w2.heap.size w2 (((w5.setCell ⟨Y,0,none⟩ (.int .i64 E0)).setCell ⟨Y,1,none⟩ (.int .i64 O0)).setCell ⟨Y,2,none⟩ v):=by
  have hon:Only (fun b=>b=Y) w5 (((w5.setCell ⟨Y,0,none⟩ (.int .i64 E0)).setCell ⟨Y,1,none⟩ (.int .i64 O0)).setCell ⟨Y,2,none⟩ v):=
    (((Only.refl (fun b=>b=Y) w5).setCell (p:=⟨Y,0,none⟩) (.inl rfl) _).setCell (p:=⟨Y,1,none⟩) (.inl rfl) _).setCell (p:=⟨Y,2,none⟩) (.inl rfl) _
  have hbw:Below w2.heap.size w2 (((w5.setCell ⟨Y,0,none⟩ (.int .i64 E0)).setCell ⟨Y,1,none⟩ (.int .i64 O0)).setCell ⟨Y,2,none⟩ v):=h5.trans (hon.below (by have:=h5.size;omega) (by intro k hk;omega))
  obtain ⟨z0,z1,z2,-,-,-,zl⟩:=bz
  refine ⟨⟨hb.trans (hbw.mono (by omega)),⟨keep hbw (by omega) h3.1,keep hbw (by omega) h3.2.1,keep hbw (by omega) h3.2.2⟩,⟨keep hbw (by omega) h2.1,keep hbw (by omega) h2.2⟩,⟨by simp [go_sem,z0,z1,z2],by simp [go_sem,z0,z1,z2],by simp [go_sem,z0,z1,z2]⟩,(hc.stay hon (fun k hk e=>by omega)).weak (by omega),by omega,by have:=hon.size;omega⟩,hbw⟩
theorem lpN {w w2 w5:World} {E O E0 O0 xn:Int} {a xa:Option Addr} {n cap xm xc U:Nat} {v:Value} {ts fs:List El} {T:TypeId} (hb:Below w.heap.size w w2) (h3:Ce3 w2 w.heap.size (.int .i64 E) (.int .i64 O) (.slice a n cap)) (h2:Ce2 w2 (w.heap.size+1) (.int .i64 xn) (.slice xa xm xc)) (hs:w.heap.size+1+1≤w2.heap.size)
    (h5:Below w2.heap.size w2 w5) (hc:CopT w5 U v ts fs) (hU:w2.heap.size≤U) :
    LpF w (w5.alloc (Obj.cells #[.int .i64 E0,.int .i64 O0,v] T)) E O E0 O0 xn a xa n cap xm xc w5.heap.size v ts fs∧Below w2.heap.size w2 (w5.alloc (Obj.cells #[.int .i64 E0,.int .i64 O0,v] T)):=by
  have hba:Below w5.heap.size w5 (w5.alloc (Obj.cells #[.int .i64 E0,.int .i64 O0,v] T)):=(Below.refl _ _).alloc (Nat.le_refl _) _
  have h5s:=h5.size
  have hbw:=h5.trans (hba.mono h5s)
  exact ⟨⟨hb.trans (hbw.mono (by omega)),⟨keep hbw (by omega) h3.1,keep hbw (by omega) h3.2.1,keep hbw (by omega) h3.2.2⟩,⟨keep hbw (by omega) h2.1,keep hbw (by omega) h2.2⟩,⟨by simp,by simp,by simp⟩,(hc.below hba).weak (by omega),by omega,by simp⟩,hbw⟩
theorem paFew {f:List Int→Option (List Int)} {E O E0 O0:Int} {es fs:List El} {q:El} {R:Bool} (h:PaP f E O es q E0 O0 fs R) (hs:FewI es):FewI fs:=by
  rcases h with ⟨_,_,_,rfl,_⟩ | ⟨_,_,_,_,rfl,_⟩ | ⟨_,hz,_,_,rfl,_⟩
  · exact FewI.mk' (by simp [elets])
  · exact hs
  · refine FewI.mk' ?_
    unfold szP at hz
    omega

set_option maxRecDepth 20000 in
set_option maxHeartbeats 16000000 in
theorem lawPackAdd_any (E O:Int) (a:Option Addr) (cap:Nat) (es:List El) (xn:Int) (xa:Option Addr) (xc:Nat) (xl:List Int) (w:World) (hb:Els true w a es) (hm:es.length≤maxLen) (hq:Byt w xa xl) (hqm:xl.length≤maxLen) (hqr:-9223372036854775808≤xn∧xn≤9223372036854775807) (hS:SentB w) :
    Calls Tryz.prog 3 #[.agg #[.int .i64 E,.int .i64 O,.slice a es.length cap],.agg #[.int .i64 xn,.slice xa xl.length xc]] w fun e w'=>e=.returned (.bool true)∧Below w.heap.size w w':=by
  obtain ⟨f,hf⟩:=decF_ex
  obtain ⟨E0,O0,fs,R,hpa⟩:=PaP.ex f E O es ⟨xn,xa,xc,xl⟩
  have hw0:Below w.heap.size w (w.alloc (Obj.cells #[Value.int IntKind.i64 E,Value.int IntKind.i64 O,Value.slice a es.length cap] 24)):=(Below.refl _ _).alloc (Nat.le_refl _) _
  have hw:Below w.heap.size w ((w.alloc (Obj.cells #[Value.int IntKind.i64 E,Value.int IntKind.i64 O,Value.slice a es.length cap] 24)).alloc (Obj.cells #[Value.int IntKind.i64 xn,Value.slice xa xl.length xc] 27)):=hw0.alloc (by simp) _
  have hbx:=(Box3.new w (.int .i64 E) (.int .i64 O) (.slice a es.length cap) 24).alloc (Obj.cells #[Value.int IntKind.i64 xn,Value.slice xa xl.length xc] 27)
  have hbq:=Box2.new (w.alloc (Obj.cells #[Value.int IntKind.i64 E,Value.int IntKind.i64 O,Value.slice a es.length cap] 24)) (.int .i64 xn) (.slice xa xl.length xc) 27
  simp only [World.size_alloc] at hbq
  have HSZ:=szPack_any E O a cap es _ (hb.below hw (Nat.le_refl _)) hm 1048576 (by omega) (by omega)
  have HB:Hid (Els true w a es∧SentB w∧Byt w xa xl∧DecF f∧PaP f E O es ⟨xn,xa,xc,xl⟩ E0 O0 fs R):=⟨hb,hS,hq,hf,hpa⟩
  have hRR:(R != R)=false:=by simp
  clear hb hS hq hf hpa hw0
  go_enter Tryz.func3,Tryz.ntmps3
  go_wp2_with fail
  generalize (w.alloc (Obj.cells #[Value.int IntKind.i64 E,Value.int IntKind.i64 O,Value.slice a es.length cap] 24)).alloc (Obj.cells #[Value.int IntKind.i64 xn,Value.slice xa xl.length xc] 27)=W0 at *
  refine HSZ.mono ?_
  clear HSZ
  rintro e w1 ⟨⟨z,rfl,hz⟩,hb1⟩
  have hx1:=hbx.step hb1
  have hq1:=hbq.keep hb1 hbq.lt
  have HB1:Hid (Below w.heap.size w w1):=hw.trans (hb1.mono (by have:=hw.size;omega))
  clear hb1 hw hbx hbq
  rcases hz with rfl | ⟨hz0,hz1,hz2⟩
  · clear hx1 hq1
    go_wp2
    go_ret
    exact ⟨rfl,HB1.out⟩
  have HF:Hid (FewI es∧es.length+elets es≤1048576):=⟨FewI.mk' (by omega),by omega⟩
  have hzn:¬ z<0:=by omega
  clear hz2
  have HSI:=szItem_any xn xa xc xl z w1 hqm hz0 (by omega)
  obtain ⟨p0,p1,p2,-,-,-,pl⟩:=id hx1
  obtain ⟨y0,y1,-,-,yl⟩:=id hq1
  go_wp2_with fail
  refine HSI.mono ?_
  clear HSI
  rintro e w2 ⟨rfl,hb2⟩
  have HB2:Hid (Below w.heap.size w w2):=HB1.out.trans (hb2.mono HB1.out.size)
  have hx2:=hx1.step hb2
  have hq2:=hq1.keep hb2 hq1.lt
  clear hb2 hx1 hq1 p0 p1 p2 pl y0 y1 yl HB1
  by_cases hxz:(xl.length:Int)≤z
  rotate_left 1
  · rw [if_neg hxz]
    go_wp2
    go_ret
    exact ⟨rfl,HB2.out⟩
  rw [if_pos hxz]
  have hxl:xl.length≤1048576:=by omega
  have hzx:¬ (z - (xl.length:Int)<0):=by omega
  have HSPEC:Hid (∀ (b c:Option Addr) (ts:List El) (U V:Nat) (W:World),CopT W U (.slice b es.length es.length) ts es→Mine W V W.heap.size c xl.length xl→Below w.heap.size w W→Calls Tryz.prog 6 #[.agg #[.int .i64 E,.int .i64 O,.slice b es.length es.length],.agg #[.int .i64 xn,.slice c xl.length xl.length]] W fun r w'=>(∃ va vc us,r=.returned (.tuple #[.agg #[.int .i64 E0,.int .i64 O0,.slice va us.length vc],.bool R])∧CopT w' W.heap.size (.slice va us.length vc) us fs)∧Below W.heap.size W w'):=fun b c ts U V W h1 h2 h3=>by
    have h9:=specPackAdd_any f HB.out.2.2.2.1 E O b es.length ts xn c xl.length xl W h1.its (HF.out.1.ct h1.ct).j h2.byt (Nat.le_refl _) hxl ⟨hqr.1,hqr.2,hqm,by simp⟩
    rw [len_ctE h1.ct] at h9
    refine h9.mono fun r w' h=>?_
    obtain ⟨⟨E',O',gs,R',v,us,k1,rfl,k3⟩,k4⟩:=h
    obtain ⟨rfl,rfl,k5,rfl⟩:=k1.same HB.out.2.2.2.2 h1.ct rfl
    obtain ⟨va,vc,rfl⟩:=k3.row.form
    exact ⟨⟨va,vc,us,rfl,⟨k3.ct.trans k5,k3.row,k3.deep,k3.rng⟩⟩,k4⟩
  have HIMPL:Hid (∀ (b c:Option Addr) (ts:List El) (U V:Nat) (W:World),CopT W U (.slice b es.length es.length) ts es→Mine W V W.heap.size c xl.length xl→Below w.heap.size w W→Calls Tryz.prog 9 #[.agg #[.int .i64 E,.int .i64 O,.slice b es.length es.length],.agg #[.int .i64 xn,.slice c xl.length xl.length]] W fun r w'=>(∃ va vc us,r=.returned (.tuple #[.agg #[.int .i64 E0,.int .i64 O0,.slice va us.length vc],.bool R])∧CopT w' W.heap.size (.slice va us.length vc) us fs)∧Below W.heap.size W w'):=fun b c ts U V W h1 h2 h3=>by
    have h9:=implPackAdd_any f HB.out.2.2.2.1 E O b es.length ts xn c xl.length xl W h1.its (HF.out.1.ct h1.ct).j h2.byt (Nat.le_refl _) hxl ⟨hqr.1,hqr.2,hqm,by simp⟩ (HB.out.2.1.below h3)
    rw [len_ctE h1.ct] at h9
    refine h9.mono fun r w' h=>?_
    obtain ⟨⟨E',O',gs,R',v,us,k1,rfl,k3⟩,k4⟩:=h
    obtain ⟨rfl,rfl,k5,rfl⟩:=k1.same HB.out.2.2.2.2 h1.ct rfl
    obtain ⟨va,vc,rfl⟩:=k3.row.form
    exact ⟨⟨va,vc,us,rfl,⟨k3.ct.trans k5,k3.row,k3.deep,k3.rng⟩⟩,k4⟩
  have HTP:Hid (∀ W,Below w.heap.size w W→Calls Tryz.prog 7 #[.agg #[.int .i64 E,.int .i64 O,.slice a es.length cap]] W fun e w'=>(∃ g ts,e=.returned (.agg #[.int .i64 E,.int .i64 O,.slice (some ⟨g,0,none⟩) es.length es.length])∧CopT w' W.heap.size (.slice (some ⟨g,0,none⟩) es.length es.length) ts es)∧Below W.heap.size W w'):=fun W h=>toPack_any E O a cap es W (HB.out.1.below h (Nat.le_refl _)) HF.out.1.n HF.out.1.l
  have HTI:Hid (∀ W,Below w.heap.size w W→Calls Tryz.prog 8 #[.agg #[.int .i64 xn,.slice xa xl.length xc]] W fun e w'=>∃ g,e=.returned (.agg #[.int .i64 xn,.slice (some ⟨g,0,none⟩) xl.length xl.length])∧Own w' W.heap.size g xl.length xl∧Below W.heap.size W w'):=fun W h=>toItem_any xn xa xc xl W (HB.out.2.2.1.below h (Nat.le_refl _)) hxl
  have HFF:Hid (FewI fs):=paFew HB.out.2.2.2.2 HF.out.1
  have HC3:Hid (Ce3 w2 w.heap.size (.int .i64 E) (.int .i64 O) (.slice a es.length cap)∧Ce2 w2 (w.heap.size+1) (.int .i64 xn) (.slice xa xl.length xc)∧w.heap.size+1+1≤w2.heap.size):=⟨⟨hx2.c0,hx2.c1,hx2.c2⟩,⟨hq2.c0,hq2.c1⟩,hq2.lt⟩
  clear hx2 hq2 HB hzn hz0 hz1 hxz hqr hqm hm
  have HCL:Hid (∀ W,Below w2.heap.size w2 W→W.cell? ⟨w.heap.size,0,none⟩=some (.int .i64 E)∧W.cell? ⟨w.heap.size,1,none⟩=some (.int .i64 O)∧W.cell? ⟨w.heap.size,2,none⟩=some (.slice a es.length cap)∧W.cell? ⟨w.heap.size+1,0,none⟩=some (.int .i64 xn)∧W.cell? ⟨w.heap.size+1,1,none⟩=some (.slice xa xl.length xc)):=fun W h=>by
    obtain ⟨h3,h2,hs⟩:=HC3.out
    exact ⟨keep h (by omega) h3.1,keep h (by omega) h3.2.1,keep h (by omega) h3.2.2,keep h (by omega) h2.1,keep h (by omega) h2.2⟩
  have hsb:=(HC3.out).2.2
  go_wp2_with fail
  refine wp_region_cut (S:=fun W=>W.cell? ⟨w.heap.size,0,none⟩=some (.int .i64 E)∧W.cell? ⟨w.heap.size,1,none⟩=some (.int .i64 O)∧W.cell? ⟨w.heap.size,2,none⟩=some (.slice a es.length cap)∧W.cell? ⟨w.heap.size+1,0,none⟩=some (.int .i64 xn)∧W.cell? ⟨w.heap.size+1,1,none⟩=some (.slice xa xl.length xc)) 11 (by kernel_rfl) (by kernel_rfl) (HCL.out _ ((Below.refl _ _).drew)) (fun hHeld=>?_)
  refine wpAnyH_take (i:=0) (v:=?_) rfl (by kernel_rfl) (by kernel_rfl) (by kernel_rfl) (fun _ _ _ h=>h) (Or.inl ⟨by rfl,?_⟩) (by assumption) ?_
  rotate_left 1
  · (intro w hSw;(try dsimp only at hSw);go_simp;try (with_reducible rfl))
  try simp only [List.getElem_toArray,List.getElem_cons_zero,List.getElem_cons_succ,Act.put,List.setIfInBounds_toArray,List.set_cons_zero,List.set_cons_succ]
  refine wpAnyH_take (i:=2) (v:=?_) rfl (by kernel_rfl) (by kernel_rfl) (by kernel_rfl) (fun _ _ _ h=>h) (Or.inl ⟨by rfl,?_⟩) (by assumption) ?_
  rotate_left 1
  · (intro w hSw;(try dsimp only at hSw);go_simp;try (with_reducible rfl))
  try simp only [List.getElem_toArray,List.getElem_cons_zero,List.getElem_cons_succ,Act.put,List.setIfInBounds_toArray,List.set_cons_zero,List.set_cons_succ]
  refine wpAnyH_ready (rs:=[1,8]) (by kernel_rfl) (by simp) ?_
  refine AllReadyH.cons rfl (fun K hK=>?_) (AllReadyH.cons rfl (fun K hK=>?_) AllReadyH.nil)
  focus
    go_simp
    refine (HTP.out _ (HB2.out.trans ((((Below.refl w2.heap.size w2).drew)).mono (by have:=HB2.out.size;omega)))).mono ?_
    rintro e w3 ⟨⟨g3,ts3,rfl,hcop3⟩,hb3'⟩
    have hb3:Below w2.heap.size w2 w3:=(((Below.refl w2.heap.size w2).drew)).trans (hb3'.mono (((Below.refl w2.heap.size w2).drew)).size)
    have HC3c:Hid (CopT w3 w2.heap.size (.slice (some ⟨g3,0,none⟩) es.length es.length) ts3 es):=hcop3.weak (((Below.refl w2.heap.size w2).drew)).size
    skip
    dsimp only
    refine hK.out _ _ (HCL.out _ hb3) (fun hHeld=>?_)
    clear hK K
    try simp only [List.getElem_toArray,List.getElem_cons_zero,List.getElem_cons_succ,Act.put,List.setIfInBounds_toArray,List.set_cons_zero,List.set_cons_succ]
    refine wpAnyH_ready (rs:=[3,8]) (by kernel_rfl) (by simp) ?_
    refine AllReadyH.cons rfl (fun K hK=>?_) (AllReadyH.cons rfl (fun K hK=>?_) AllReadyH.nil)
    focus
      have HC3d:=HC3c
      go_simp
      refine (HTI.out _ (HB2.out.trans ((hb3).mono (by have:=HB2.out.size;omega)))).mono ?_
      rintro e w4 ⟨g4,rfl,hown4,hb4'⟩
      have hb4:Below w2.heap.size w2 w4:=(hb3).trans (hb4'.mono (hb3).size)
      have HC4c:Hid (CopT w4 w2.heap.size (.slice (some ⟨g3,0,none⟩) es.length es.length) ts3 es∧Mine w4 w2.heap.size w4.heap.size (some ⟨g4,0,none⟩) xl.length xl):=⟨HC3d.out.below hb4',hown4.mine.mono (hb3).size (Nat.le_refl _)⟩
      skip
      dsimp only
      refine hK.out _ _ (HCL.out _ hb4) (fun hHeld=>?_)
      clear hK K
      try simp only [List.getElem_toArray,List.getElem_cons_zero,List.getElem_cons_succ,Act.put,List.setIfInBounds_toArray,List.set_cons_zero,List.set_cons_succ]
      refine wpAnyH_ready (rs:=[4,8]) (by kernel_rfl) (by simp) ?_
      refine AllReadyH.cons rfl (fun K hK=>?_) (AllReadyH.cons rfl (fun K hK=>?_) AllReadyH.nil)
      focus
        have HC4d:=HC4c
        go_simp
        refine (HSPEC.out (some ⟨g3,0,none⟩) (some ⟨g4,0,none⟩) ts3 _ _ _ HC4d.out.1 HC4d.out.2 (HB2.out.trans ((hb4).mono (by have:=HB2.out.size;omega)))).mono ?_
        rintro e w5 ⟨⟨va,vc,ts,rfl,hcop5⟩,hb5'⟩
        have hb5:Below w2.heap.size w2 w5:=(hb4).trans (hb5'.mono (hb4).size)
        skip
        dsimp only
        refine hK.out _ _ (HCL.out _ hb5) (fun hHeld=>?_)
        clear hK K
        try simp only [List.getElem_toArray,List.getElem_cons_zero,List.getElem_cons_succ,Act.put,List.setIfInBounds_toArray,List.set_cons_zero,List.set_cons_succ]
        refine wpAnyH_take (i:=5) (v:=?_) rfl (by kernel_rfl) (by kernel_rfl) (by kernel_rfl) (fun _ _ _ h=>h) (Or.inl ⟨by rfl,?_⟩) (by assumption) ?_
        rotate_left 1
        · (intro w hSw;(try dsimp only at hSw);go_simp;try (with_reducible rfl))
        try simp only [List.getElem_toArray,List.getElem_cons_zero,List.getElem_cons_succ,Act.put,List.setIfInBounds_toArray,List.set_cons_zero,List.set_cons_succ]
        refine wpAnyH_take (i:=6) (v:=?_) rfl (by kernel_rfl) (by kernel_rfl) (by kernel_rfl) (fun _ _ _ h=>h) (Or.inl ⟨by rfl,?_⟩) (by assumption) ?_
        rotate_left 1
        · (intro w hSw;(try dsimp only at hSw);go_simp;try (with_reducible rfl))
        try simp only [List.getElem_toArray,List.getElem_cons_zero,List.getElem_cons_succ,Act.put,List.setIfInBounds_toArray,List.set_cons_zero,List.set_cons_succ]
        refine wpAnyH_take (i:=7) (v:=?_) rfl (by kernel_rfl) (by kernel_rfl) (by kernel_rfl) (fun _ _ _ h=>h) (Or.inl ⟨by rfl,?_⟩) (by assumption) ?_
        rotate_left 1
        · (intro w hSw;(try dsimp only at hSw);go_simp;try (with_reducible rfl))
        try simp only [List.getElem_toArray,List.getElem_cons_zero,List.getElem_cons_succ,Act.put,List.setIfInBounds_toArray,List.set_cons_zero,List.set_cons_succ]
        refine wpAnyH_ready (rs:=[8]) (by kernel_rfl) (by simp) ?_
        refine AllReadyH.cons rfl (fun K hK=>?_) AllReadyH.nil
        go_simp
        refine hK.out _ _ (HCL.out _ (hb5.trans (((Below.refl _ _).alloc (Nat.le_refl _) _).mono hb5.size))) (fun hHeld=>?_)
        clear hK K
        try simp only [List.getElem_toArray,List.getElem_cons_zero,List.getElem_cons_succ,Act.put,List.setIfInBounds_toArray,List.set_cons_zero,List.set_cons_succ]
        refine wpAnyH_ready (rs:=[9]) (by kernel_rfl) (by simp) ?_
        refine AllReadyH.cons rfl (fun K hK=>?_) AllReadyH.nil
        go_simp
        refine hK.out _ _ (HCL.out _ (hb5.trans (((Below.refl _ _).alloc (Nat.le_refl _) _).mono hb5.size))) (fun hHeld=>?_)
        clear hK K
        try simp only [List.getElem_toArray,List.getElem_cons_zero,List.getElem_cons_succ,Act.put,List.setIfInBounds_toArray,List.set_cons_zero,List.set_cons_succ]
        refine wpAnyH_ready (rs:=[10]) (by kernel_rfl) (by simp) ?_
        refine AllReadyH.cons rfl (fun K hK=>?_) AllReadyH.nil
        go_simp
        refine hK.out _ _ (hHeld) (fun hHeld=>?_)
        clear hK K
        try simp only [List.getElem_toArray,List.getElem_cons_zero,List.getElem_cons_succ,Act.put,List.setIfInBounds_toArray,List.set_cons_zero,List.set_cons_succ]
        refine wpAnyH_done (by kernel_rfl) ?_ _
        simp only [cutQ,List.drop_succ_cons,List.drop_zero]
        have HLP:=lpN (T:=32) (E0:=E0) (O0:=O0) HB2.out (HC3.out).1 (HC3.out).2.1 (HC3.out).2.2 hb5 hcop5 (by first | omega | (have:=hb3.size;have:=hb4.size;have:=hb5.size;omega))
        have HLP0:=HLP.1
        clear HLP
        clear hHeld
        try clear zz0 zz1 zz2 zf0 zf1 zf2 zzl
        try clear bz bz3 bz4
        try clear hY
        clear hcop5 hb5' hb5 hb4' hb4 hb3' hb3 HC3c HC4c HC3d HC4d hown4 hcop3 HCL hsb HC3 HSPEC HB2
        generalize w5.alloc (Obj.cells #[.int .i64 E0,.int .i64 O0,.slice va ts.length vc] 32)=W8 at *
        generalize w5.heap.size=Y8 at *
        generalize hva:va=va0 at *
        generalize hvc:vc=vc0 at *
        clear hva hvc
      rotate_left 1
      go_simp
      refine hK.out _ _ (HCL.out _ (hb4.trans (((Below.refl w4.heap.size w4).alloc (Nat.le_refl _) (Obj.cells #[Value.int IntKind.i64 0,Value.int IntKind.i64 0,Value.slice none 0 0] 32)).mono hb4.size))) (fun hHeld=>?_)
      clear hK K
      try simp only [List.getElem_toArray,List.getElem_cons_zero,List.getElem_cons_succ,Act.put,List.setIfInBounds_toArray,List.set_cons_zero,List.set_cons_succ]
      have bz4:=Box3.new w4 (.int .i64 0) (.int .i64 0) (.slice none 0 0) 32
      have HC4d:Hid (CopT (w4.alloc (Obj.cells #[Value.int IntKind.i64 0,Value.int IntKind.i64 0,Value.slice none 0 0] 32)) w2.heap.size (.slice (some ⟨g3,0,none⟩) es.length es.length) ts3 es∧Mine (w4.alloc (Obj.cells #[Value.int IntKind.i64 0,Value.int IntKind.i64 0,Value.slice none 0 0] 32)) w2.heap.size (w4.alloc (Obj.cells #[Value.int IntKind.i64 0,Value.int IntKind.i64 0,Value.slice none 0 0] 32)).heap.size (some ⟨g4,0,none⟩) xl.length xl):=And.intro (HC4c.out.1.below ((Below.refl w4.heap.size w4).alloc (Nat.le_refl _) (Obj.cells #[Value.int IntKind.i64 0,Value.int IntKind.i64 0,Value.slice none 0 0] 32))) ((HC4c.out.2.below ((Below.refl w4.heap.size w4).alloc (Nat.le_refl _) (Obj.cells #[Value.int IntKind.i64 0,Value.int IntKind.i64 0,Value.slice none 0 0] 32))).mono (Nat.le_refl _) (by simp))
      have hY:w2.heap.size≤w4.heap.size:=hb4.size
      refine wpAnyH_ready (rs:=[4]) (by kernel_rfl) (by simp) ?_
      refine AllReadyH.cons rfl (fun K hK=>?_) AllReadyH.nil
      go_simp
      refine (HSPEC.out (some ⟨g3,0,none⟩) (some ⟨g4,0,none⟩) ts3 _ _ _ HC4d.out.1 HC4d.out.2 (HB2.out.trans (((hb4.trans (((Below.refl w4.heap.size w4).alloc (Nat.le_refl _) (Obj.cells #[Value.int IntKind.i64 0,Value.int IntKind.i64 0,Value.slice none 0 0] 32)).mono hb4.size))).mono (by have:=HB2.out.size;omega)))).mono ?_
      rintro e w5 ⟨⟨va,vc,ts,rfl,hcop5⟩,hb5'⟩
      have hb5:Below w2.heap.size w2 w5:=((hb4.trans (((Below.refl w4.heap.size w4).alloc (Nat.le_refl _) (Obj.cells #[Value.int IntKind.i64 0,Value.int IntKind.i64 0,Value.slice none 0 0] 32)).mono hb4.size))).trans (hb5'.mono ((hb4.trans (((Below.refl w4.heap.size w4).alloc (Nat.le_refl _) (Obj.cells #[Value.int IntKind.i64 0,Value.int IntKind.i64 0,Value.slice none 0 0] 32)).mono hb4.size))).size)
      have bz5:=bz4.step hb5'
      dsimp only
      refine hK.out _ _ (HCL.out _ hb5) (fun hHeld=>?_)
      clear hK K
      try simp only [List.getElem_toArray,List.getElem_cons_zero,List.getElem_cons_succ,Act.put,List.setIfInBounds_toArray,List.set_cons_zero,List.set_cons_succ]
      refine wpAnyH_take (i:=5) (v:=?_) rfl (by kernel_rfl) (by kernel_rfl) (by kernel_rfl) (fun _ _ _ h=>h) (Or.inl ⟨by rfl,?_⟩) (by assumption) ?_
      rotate_left 1
      · (intro w hSw;(try dsimp only at hSw);go_simp;try (with_reducible rfl))
      try simp only [List.getElem_toArray,List.getElem_cons_zero,List.getElem_cons_succ,Act.put,List.setIfInBounds_toArray,List.set_cons_zero,List.set_cons_succ]
      refine wpAnyH_take (i:=6) (v:=?_) rfl (by kernel_rfl) (by kernel_rfl) (by kernel_rfl) (fun _ _ _ h=>h) (Or.inl ⟨by rfl,?_⟩) (by assumption) ?_
      rotate_left 1
      · (intro w hSw;(try dsimp only at hSw);go_simp;try (with_reducible rfl))
      try simp only [List.getElem_toArray,List.getElem_cons_zero,List.getElem_cons_succ,Act.put,List.setIfInBounds_toArray,List.set_cons_zero,List.set_cons_succ]
      refine wpAnyH_take (i:=7) (v:=?_) rfl (by kernel_rfl) (by kernel_rfl) (by kernel_rfl) (fun _ _ _ h=>h) (Or.inl ⟨by rfl,?_⟩) (by assumption) ?_
      rotate_left 1
      · (intro w hSw;(try dsimp only at hSw);go_simp;try (with_reducible rfl))
      try simp only [List.getElem_toArray,List.getElem_cons_zero,List.getElem_cons_succ,Act.put,List.setIfInBounds_toArray,List.set_cons_zero,List.set_cons_succ]
      have HLP:=lpS (E0:=E0) (O0:=O0) HB2.out (HC3.out).1 (HC3.out).2.1 (HC3.out).2.2 hb5 bz5 (hY) hcop5 (by first | (have h1:=hb3'.size;have h2:=hb4'.size;simp at h1;omega) | (have h1:=hb4'.size;simp at h1;omega) | (simp;done) | (simp;omega))
      obtain ⟨zz0,zz1,zz2,zf0,zf1,zf2,zzl⟩:=bz5
      refine wpAnyH_ready (rs:=[9]) (by kernel_rfl) (by simp) ?_
      refine AllReadyH.cons rfl (fun K hK=>?_) AllReadyH.nil
      go_simp
      refine hK.out _ _ (HCL.out _ HLP.2) (fun hHeld=>?_)
      clear hK K
      try simp only [List.getElem_toArray,List.getElem_cons_zero,List.getElem_cons_succ,Act.put,List.setIfInBounds_toArray,List.set_cons_zero,List.set_cons_succ]
      refine wpAnyH_ready (rs:=[10]) (by kernel_rfl) (by simp) ?_
      refine AllReadyH.cons rfl (fun K hK=>?_) AllReadyH.nil
      go_simp
      refine hK.out _ _ (hHeld) (fun hHeld=>?_)
      clear hK K
      try simp only [List.getElem_toArray,List.getElem_cons_zero,List.getElem_cons_succ,Act.put,List.setIfInBounds_toArray,List.set_cons_zero,List.set_cons_succ]
      refine wpAnyH_done (by kernel_rfl) ?_ _
      simp only [cutQ,List.drop_succ_cons,List.drop_zero]
      have HLP0:=HLP.1
      clear HLP
      clear hHeld
      try clear zz0 zz1 zz2 zf0 zf1 zf2 zzl
      try clear bz bz3 bz4
      try clear hY
      clear hcop5 hb5' hb5 hb4' hb4 hb3' hb3 HC3c HC4c HC3d HC4d hown4 hcop3 HCL hsb HC3 HSPEC HB2
      generalize ((w5.setCell ⟨w4.heap.size,0,none⟩ (.int .i64 E0)).setCell ⟨w4.heap.size,1,none⟩ (.int .i64 O0)).setCell ⟨w4.heap.size,2,none⟩ (.slice va ts.length vc)=W8 at *
      generalize w4.heap.size=Y8 at *
      generalize hva:va=va0 at *
      generalize hvc:vc=vc0 at *
      clear hva hvc
    rotate_left 2
    go_simp
    refine hK.out _ _ (HCL.out _ (hb3.trans (((Below.refl w3.heap.size w3).alloc (Nat.le_refl _) (Obj.cells #[Value.int IntKind.i64 0,Value.int IntKind.i64 0,Value.slice none 0 0] 32)).mono hb3.size))) (fun hHeld=>?_)
    clear hK K
    try simp only [List.getElem_toArray,List.getElem_cons_zero,List.getElem_cons_succ,Act.put,List.setIfInBounds_toArray,List.set_cons_zero,List.set_cons_succ]
    have bz3:=Box3.new w3 (.int .i64 0) (.int .i64 0) (.slice none 0 0) 32
    have HC3d:Hid (CopT (w3.alloc (Obj.cells #[Value.int IntKind.i64 0,Value.int IntKind.i64 0,Value.slice none 0 0] 32)) w2.heap.size (.slice (some ⟨g3,0,none⟩) es.length es.length) ts3 es):=HC3c.out.below ((Below.refl w3.heap.size w3).alloc (Nat.le_refl _) (Obj.cells #[Value.int IntKind.i64 0,Value.int IntKind.i64 0,Value.slice none 0 0] 32))
    have hY:w2.heap.size≤w3.heap.size:=hb3.size
    refine wpAnyH_ready (rs:=[3]) (by kernel_rfl) (by simp) ?_
    refine AllReadyH.cons rfl (fun K hK=>?_) AllReadyH.nil
    go_simp
    refine (HTI.out _ (HB2.out.trans (((hb3.trans (((Below.refl w3.heap.size w3).alloc (Nat.le_refl _) (Obj.cells #[Value.int IntKind.i64 0,Value.int IntKind.i64 0,Value.slice none 0 0] 32)).mono hb3.size))).mono (by have:=HB2.out.size;omega)))).mono ?_
    rintro e w4 ⟨g4,rfl,hown4,hb4'⟩
    have hb4:Below w2.heap.size w2 w4:=((hb3.trans (((Below.refl w3.heap.size w3).alloc (Nat.le_refl _) (Obj.cells #[Value.int IntKind.i64 0,Value.int IntKind.i64 0,Value.slice none 0 0] 32)).mono hb3.size))).trans (hb4'.mono ((hb3.trans (((Below.refl w3.heap.size w3).alloc (Nat.le_refl _) (Obj.cells #[Value.int IntKind.i64 0,Value.int IntKind.i64 0,Value.slice none 0 0] 32)).mono hb3.size))).size)
    have HC4c:Hid (CopT w4 w2.heap.size (.slice (some ⟨g3,0,none⟩) es.length es.length) ts3 es∧Mine w4 w2.heap.size w4.heap.size (some ⟨g4,0,none⟩) xl.length xl):=⟨HC3d.out.below hb4',hown4.mine.mono ((hb3.trans (((Below.refl w3.heap.size w3).alloc (Nat.le_refl _) (Obj.cells #[Value.int IntKind.i64 0,Value.int IntKind.i64 0,Value.slice none 0 0] 32)).mono hb3.size))).size (Nat.le_refl _)⟩
    have bz4:=bz3.step hb4'
    dsimp only
    have HC4d:=HC4c
    refine hK.out _ _ (HCL.out _ hb4) (fun hHeld=>?_)
    clear hK K
    try simp only [List.getElem_toArray,List.getElem_cons_zero,List.getElem_cons_succ,Act.put,List.setIfInBounds_toArray,List.set_cons_zero,List.set_cons_succ]
    refine wpAnyH_ready (rs:=[4]) (by kernel_rfl) (by simp) ?_
    refine AllReadyH.cons rfl (fun K hK=>?_) AllReadyH.nil
    go_simp
    refine (HSPEC.out (some ⟨g3,0,none⟩) (some ⟨g4,0,none⟩) ts3 _ _ _ HC4d.out.1 HC4d.out.2 (HB2.out.trans ((hb4).mono (by have:=HB2.out.size;omega)))).mono ?_
    rintro e w5 ⟨⟨va,vc,ts,rfl,hcop5⟩,hb5'⟩
    have hb5:Below w2.heap.size w2 w5:=(hb4).trans (hb5'.mono (hb4).size)
    have bz5:=bz4.step hb5'
    dsimp only
    refine hK.out _ _ (HCL.out _ hb5) (fun hHeld=>?_)
    clear hK K
    try simp only [List.getElem_toArray,List.getElem_cons_zero,List.getElem_cons_succ,Act.put,List.setIfInBounds_toArray,List.set_cons_zero,List.set_cons_succ]
    refine wpAnyH_take (i:=5) (v:=?_) rfl (by kernel_rfl) (by kernel_rfl) (by kernel_rfl) (fun _ _ _ h=>h) (Or.inl ⟨by rfl,?_⟩) (by assumption) ?_
    rotate_left 1
    · (intro w hSw;(try dsimp only at hSw);go_simp;try (with_reducible rfl))
    try simp only [List.getElem_toArray,List.getElem_cons_zero,List.getElem_cons_succ,Act.put,List.setIfInBounds_toArray,List.set_cons_zero,List.set_cons_succ]
    refine wpAnyH_take (i:=6) (v:=?_) rfl (by kernel_rfl) (by kernel_rfl) (by kernel_rfl) (fun _ _ _ h=>h) (Or.inl ⟨by rfl,?_⟩) (by assumption) ?_
    rotate_left 1
    · (intro w hSw;(try dsimp only at hSw);go_simp;try (with_reducible rfl))
    try simp only [List.getElem_toArray,List.getElem_cons_zero,List.getElem_cons_succ,Act.put,List.setIfInBounds_toArray,List.set_cons_zero,List.set_cons_succ]
    refine wpAnyH_take (i:=7) (v:=?_) rfl (by kernel_rfl) (by kernel_rfl) (by kernel_rfl) (fun _ _ _ h=>h) (Or.inl ⟨by rfl,?_⟩) (by assumption) ?_
    rotate_left 1
    · (intro w hSw;(try dsimp only at hSw);go_simp;try (with_reducible rfl))
    try simp only [List.getElem_toArray,List.getElem_cons_zero,List.getElem_cons_succ,Act.put,List.setIfInBounds_toArray,List.set_cons_zero,List.set_cons_succ]
    have HLP:=lpS (E0:=E0) (O0:=O0) HB2.out (HC3.out).1 (HC3.out).2.1 (HC3.out).2.2 hb5 bz5 (hY) hcop5 (by first | (have h1:=hb3'.size;have h2:=hb4'.size;simp at h1;omega) | (have h1:=hb4'.size;simp at h1;omega) | (simp;done) | (simp;omega))
    obtain ⟨zz0,zz1,zz2,zf0,zf1,zf2,zzl⟩:=bz5
    refine wpAnyH_ready (rs:=[9]) (by kernel_rfl) (by simp) ?_
    refine AllReadyH.cons rfl (fun K hK=>?_) AllReadyH.nil
    go_simp
    refine hK.out _ _ (HCL.out _ HLP.2) (fun hHeld=>?_)
    clear hK K
    try simp only [List.getElem_toArray,List.getElem_cons_zero,List.getElem_cons_succ,Act.put,List.setIfInBounds_toArray,List.set_cons_zero,List.set_cons_succ]
    refine wpAnyH_ready (rs:=[10]) (by kernel_rfl) (by simp) ?_
    refine AllReadyH.cons rfl (fun K hK=>?_) AllReadyH.nil
    go_simp
    refine hK.out _ _ (hHeld) (fun hHeld=>?_)
    clear hK K
    try simp only [List.getElem_toArray,List.getElem_cons_zero,List.getElem_cons_succ,Act.put,List.setIfInBounds_toArray,List.set_cons_zero,List.set_cons_succ]
    refine wpAnyH_done (by kernel_rfl) ?_ _
    simp only [cutQ,List.drop_succ_cons,List.drop_zero]
    have HLP0:=HLP.1
    clear HLP
    clear hHeld
    try clear zz0 zz1 zz2 zf0 zf1 zf2 zzl
    try clear bz bz3 bz4
    try clear hY
    clear hcop5 hb5' hb5 hb4' hb4 hb3' hb3 HC3c HC4c HC3d HC4d hown4 hcop3 HCL hsb HC3 HSPEC HB2
    generalize ((w5.setCell ⟨w3.heap.size,0,none⟩ (.int .i64 E0)).setCell ⟨w3.heap.size,1,none⟩ (.int .i64 O0)).setCell ⟨w3.heap.size,2,none⟩ (.slice va ts.length vc)=W8 at *
    generalize w3.heap.size=Y8 at *
    generalize hva:va=va0 at *
    generalize hvc:vc=vc0 at *
    clear hva hvc
  rotate_left 3
  go_simp
  refine hK.out _ _ (HCL.out _ (((Below.refl w2.heap.size w2).alloc (Nat.le_refl _) (Obj.cells #[Value.int IntKind.i64 0,Value.int IntKind.i64 0,Value.slice none 0 0] 32)).drew)) (fun hHeld=>?_)
  clear hK K
  try simp only [List.getElem_toArray,List.getElem_cons_zero,List.getElem_cons_succ,Act.put,List.setIfInBounds_toArray,List.set_cons_zero,List.set_cons_succ]
  have bz:=(Box3.new w2 (.int .i64 0) (.int .i64 0) (.slice none 0 0) 32).step ((Below.refl _ _).drew)
  have hY:w2.heap.size≤w2.heap.size:=Nat.le_refl _
  refine wpAnyH_ready (rs:=[1]) (by kernel_rfl) (by simp) ?_
  refine AllReadyH.cons rfl (fun K hK=>?_) AllReadyH.nil
  go_simp
  refine (HTP.out _ (HB2.out.trans (((((Below.refl w2.heap.size w2).alloc (Nat.le_refl _) (Obj.cells #[Value.int IntKind.i64 0,Value.int IntKind.i64 0,Value.slice none 0 0] 32)).drew)).mono (by have:=HB2.out.size;omega)))).mono ?_
  rintro e w3 ⟨⟨g3,ts3,rfl,hcop3⟩,hb3'⟩
  have hb3:Below w2.heap.size w2 w3:=((((Below.refl w2.heap.size w2).alloc (Nat.le_refl _) (Obj.cells #[Value.int IntKind.i64 0,Value.int IntKind.i64 0,Value.slice none 0 0] 32)).drew)).trans (hb3'.mono ((((Below.refl w2.heap.size w2).alloc (Nat.le_refl _) (Obj.cells #[Value.int IntKind.i64 0,Value.int IntKind.i64 0,Value.slice none 0 0] 32)).drew)).size)
  have HC3c:Hid (CopT w3 w2.heap.size (.slice (some ⟨g3,0,none⟩) es.length es.length) ts3 es):=hcop3.weak ((((Below.refl w2.heap.size w2).alloc (Nat.le_refl _) (Obj.cells #[Value.int IntKind.i64 0,Value.int IntKind.i64 0,Value.slice none 0 0] 32)).drew)).size
  have bz3:=bz.step hb3'
  dsimp only
  have HC3d:=HC3c
  refine hK.out _ _ (HCL.out _ hb3) (fun hHeld=>?_)
  clear hK K
  try simp only [List.getElem_toArray,List.getElem_cons_zero,List.getElem_cons_succ,Act.put,List.setIfInBounds_toArray,List.set_cons_zero,List.set_cons_succ]
  refine wpAnyH_ready (rs:=[3]) (by kernel_rfl) (by simp) ?_
  refine AllReadyH.cons rfl (fun K hK=>?_) AllReadyH.nil
  go_simp
  refine (HTI.out _ (HB2.out.trans ((hb3).mono (by have:=HB2.out.size;omega)))).mono ?_
  rintro e w4 ⟨g4,rfl,hown4,hb4'⟩
  have hb4:Below w2.heap.size w2 w4:=(hb3).trans (hb4'.mono (hb3).size)
  have HC4c:Hid (CopT w4 w2.heap.size (.slice (some ⟨g3,0,none⟩) es.length es.length) ts3 es∧Mine w4 w2.heap.size w4.heap.size (some ⟨g4,0,none⟩) xl.length xl):=⟨HC3d.out.below hb4',hown4.mine.mono (hb3).size (Nat.le_refl _)⟩
  have bz4:=bz3.step hb4'
  dsimp only
  have HC4d:=HC4c
  refine hK.out _ _ (HCL.out _ hb4) (fun hHeld=>?_)
  clear hK K
  try simp only [List.getElem_toArray,List.getElem_cons_zero,List.getElem_cons_succ,Act.put,List.setIfInBounds_toArray,List.set_cons_zero,List.set_cons_succ]
  refine wpAnyH_ready (rs:=[4]) (by kernel_rfl) (by simp) ?_
  refine AllReadyH.cons rfl (fun K hK=>?_) AllReadyH.nil
  go_simp
  refine (HSPEC.out (some ⟨g3,0,none⟩) (some ⟨g4,0,none⟩) ts3 _ _ _ HC4d.out.1 HC4d.out.2 (HB2.out.trans ((hb4).mono (by have:=HB2.out.size;omega)))).mono ?_
  rintro e w5 ⟨⟨va,vc,ts,rfl,hcop5⟩,hb5'⟩
  have hb5:Below w2.heap.size w2 w5:=(hb4).trans (hb5'.mono (hb4).size)
  have bz5:=bz4.step hb5'
  dsimp only
  refine hK.out _ _ (HCL.out _ hb5) (fun hHeld=>?_)
  clear hK K
  try simp only [List.getElem_toArray,List.getElem_cons_zero,List.getElem_cons_succ,Act.put,List.setIfInBounds_toArray,List.set_cons_zero,List.set_cons_succ]
  refine wpAnyH_take (i:=5) (v:=?_) rfl (by kernel_rfl) (by kernel_rfl) (by kernel_rfl) (fun _ _ _ h=>h) (Or.inl ⟨by rfl,?_⟩) (by assumption) ?_
  rotate_left 1
  · (intro w hSw;(try dsimp only at hSw);go_simp;try (with_reducible rfl))
  try simp only [List.getElem_toArray,List.getElem_cons_zero,List.getElem_cons_succ,Act.put,List.setIfInBounds_toArray,List.set_cons_zero,List.set_cons_succ]
  refine wpAnyH_take (i:=6) (v:=?_) rfl (by kernel_rfl) (by kernel_rfl) (by kernel_rfl) (fun _ _ _ h=>h) (Or.inl ⟨by rfl,?_⟩) (by assumption) ?_
  rotate_left 1
  · (intro w hSw;(try dsimp only at hSw);go_simp;try (with_reducible rfl))
  try simp only [List.getElem_toArray,List.getElem_cons_zero,List.getElem_cons_succ,Act.put,List.setIfInBounds_toArray,List.set_cons_zero,List.set_cons_succ]
  refine wpAnyH_take (i:=7) (v:=?_) rfl (by kernel_rfl) (by kernel_rfl) (by kernel_rfl) (fun _ _ _ h=>h) (Or.inl ⟨by rfl,?_⟩) (by assumption) ?_
  rotate_left 1
  · (intro w hSw;(try dsimp only at hSw);go_simp;try (with_reducible rfl))
  try simp only [List.getElem_toArray,List.getElem_cons_zero,List.getElem_cons_succ,Act.put,List.setIfInBounds_toArray,List.set_cons_zero,List.set_cons_succ]
  have HLP:=lpS (E0:=E0) (O0:=O0) HB2.out (HC3.out).1 (HC3.out).2.1 (HC3.out).2.2 hb5 bz5 (hY) hcop5 (by first | (have h1:=hb3'.size;have h2:=hb4'.size;simp at h1;omega) | (have h1:=hb4'.size;simp at h1;omega) | (simp;done) | (simp;omega))
  obtain ⟨zz0,zz1,zz2,zf0,zf1,zf2,zzl⟩:=bz5
  refine wpAnyH_ready (rs:=[9]) (by kernel_rfl) (by simp) ?_
  refine AllReadyH.cons rfl (fun K hK=>?_) AllReadyH.nil
  go_simp
  refine hK.out _ _ (HCL.out _ HLP.2) (fun hHeld=>?_)
  clear hK K
  try simp only [List.getElem_toArray,List.getElem_cons_zero,List.getElem_cons_succ,Act.put,List.setIfInBounds_toArray,List.set_cons_zero,List.set_cons_succ]
  refine wpAnyH_ready (rs:=[10]) (by kernel_rfl) (by simp) ?_
  refine AllReadyH.cons rfl (fun K hK=>?_) AllReadyH.nil
  go_simp
  refine hK.out _ _ (hHeld) (fun hHeld=>?_)
  clear hK K
  try simp only [List.getElem_toArray,List.getElem_cons_zero,List.getElem_cons_succ,Act.put,List.setIfInBounds_toArray,List.set_cons_zero,List.set_cons_succ]
  refine wpAnyH_done (by kernel_rfl) ?_ _
  simp only [cutQ,List.drop_succ_cons,List.drop_zero]
  have HLP0:=HLP.1
  clear HLP
  clear hHeld
  try clear zz0 zz1 zz2 zf0 zf1 zf2 zzl
  try clear bz bz3 bz4
  try clear hY
  clear hcop5 hb5' hb5 hb4' hb4 hb3' hb3 HC3c HC4c HC3d HC4d hown4 hcop3 HCL hsb HC3 HSPEC HB2
  generalize ((w5.setCell ⟨w2.heap.size,0,none⟩ (.int .i64 E0)).setCell ⟨w2.heap.size,1,none⟩ (.int .i64 O0)).setCell ⟨w2.heap.size,2,none⟩ (.slice va ts.length vc)=W8 at *
  generalize w2.heap.size=Y8 at *
  generalize hva:va=va0 at *
  generalize hvc:vc=vc0 at *
  clear hva hvc
  all_goals
    have HL8:Hid (LpF w W8 E O E0 O0 xn a xa es.length cap xl.length xc Y8 (.slice va0 ts.length vc0) ts fs):=HLP0
    clear HLP0
    have h8y:=HL8.out.y1
    obtain ⟨p0,p1,p2⟩:=HL8.out.c3
    obtain ⟨y0,y1⟩:=HL8.out.c2
    have hp8:w.heap.size+1<W8.heap.size:=by have:=HL8.out.y0;omega
    have HT9:=HTP.out W8 HL8.out.bel
    go_wp2_with fail
    refine HT9.mono ?_
    clear HT9
    rintro e w9 ⟨⟨g9,us,rfl,hcop9⟩,hb9⟩
    have hba9:Below w9.heap.size w9 (w9.alloc (Obj.cells #[Value.int IntKind.i64 E,Value.int IntKind.i64 O,Value.slice (some ⟨g9,0,none⟩) es.length es.length] 32)):=(Below.refl _ _).alloc (Nat.le_refl _) _
    have hb9a:Below W8.heap.size W8 (w9.alloc (Obj.cells #[Value.int IntKind.i64 E,Value.int IntKind.i64 O,Value.slice (some ⟨g9,0,none⟩) es.length es.length] 32)):=hb9.trans (hba9.mono hb9.size)
    have hbx9:=Box3.new w9 (.int .i64 E) (.int .i64 O) (.slice (some ⟨g9,0,none⟩) es.length es.length) 32
    have HC9:Hid (CopV (w9.alloc (Obj.cells #[Value.int IntKind.i64 E,Value.int IntKind.i64 O,Value.slice (some ⟨g9,0,none⟩) es.length es.length] 32)) W8.heap.size w9.heap.size (.slice (some ⟨g9,0,none⟩) es.length es.length) us es∧W8.heap.size≤w9.heap.size):=⟨⟨hcop9.below hba9,hcop9.v.r,hcop9.v.d⟩,hb9.size⟩
    have y0a:=keep hb9a hp8 y0
    have y1a:=keep hb9a hp8 y1
    have HT10:=HTI.out _ (HL8.out.bel.trans (hb9a.mono HL8.out.bel.size))
    have HBA9:Hid (Below W8.heap.size W8 (w9.alloc (Obj.cells #[Value.int IntKind.i64 E,Value.int IntKind.i64 O,Value.slice (some ⟨g9,0,none⟩) es.length es.length] 32))∧w9.heap.size+1=(w9.alloc (Obj.cells #[Value.int IntKind.i64 E,Value.int IntKind.i64 O,Value.slice (some ⟨g9,0,none⟩) es.length es.length] 32)).heap.size):=⟨hb9a,by simp⟩
    clear hcop9 hb9 hba9 hb9a p0 p1 p2 y0 y1
    go_wp2_with fail
    generalize w9.alloc (Obj.cells #[Value.int IntKind.i64 E,Value.int IntKind.i64 O,Value.slice (some ⟨g9,0,none⟩) es.length es.length] 32)=W9 at *
    refine HT10.mono ?_
    clear HT10
    rintro e w10 ⟨g10,rfl,hown10,hb10⟩
    have hba10:Below w10.heap.size w10 (w10.alloc (Obj.cells #[Value.int IntKind.i64 xn,Value.slice (some ⟨g10,0,none⟩) xl.length xl.length] 36)):=(Below.refl _ _).alloc (Nat.le_refl _) _
    have hb10a:Below W9.heap.size W9 (w10.alloc (Obj.cells #[Value.int IntKind.i64 xn,Value.slice (some ⟨g10,0,none⟩) xl.length xl.length] 36)):=hb10.trans (hba10.mono hb10.size)
    have hbq10:=Box2.new w10 (.int .i64 xn) (.slice (some ⟨g10,0,none⟩) xl.length xl.length) 36
    have hbx10:=hbx9.step hb10a
    have HC10:Hid (CopV (w10.alloc (Obj.cells #[Value.int IntKind.i64 xn,Value.slice (some ⟨g10,0,none⟩) xl.length xl.length] 36)) W8.heap.size w9.heap.size (.slice (some ⟨g9,0,none⟩) es.length es.length) us es∧Mine (w10.alloc (Obj.cells #[Value.int IntKind.i64 xn,Value.slice (some ⟨g10,0,none⟩) xl.length xl.length] 36)) (w9.heap.size+1) w10.heap.size (some ⟨g10,0,none⟩) xl.length xl∧Below W8.heap.size W8 (w10.alloc (Obj.cells #[Value.int IntKind.i64 xn,Value.slice (some ⟨g10,0,none⟩) xl.length xl.length] 36))∧W8.heap.size≤w9.heap.size∧w9.heap.size+1≤w10.heap.size∧w10.heap.size+1=(w10.alloc (Obj.cells #[Value.int IntKind.i64 xn,Value.slice (some ⟨g10,0,none⟩) xl.length xl.length] 36)).heap.size):=by
      have h1:=HBA9.out.2
      exact ⟨⟨HC9.out.1.cop.below hb10a,HC9.out.1.r,HC9.out.1.d⟩,by rw [h1];exact hown10.mine.below hba10,HBA9.out.1.trans (hb10a.mono HBA9.out.1.size),HC9.out.2,by rw [h1];exact hb10.size,by simp⟩
    clear hown10 hb10 hba10 hb10a hbx9 HC9 HBA9 y0a y1a
    obtain ⟨q0,q1,q2,-,-,-,ql⟩:=id hbx10
    obtain ⟨s0,s1,-,-,sl0⟩:=id hbq10
    have HXY:Hid _:=(⟨hbx10,hbq10⟩:_∧_)
    clear hbx10 hbq10
    go_wp2_with fail
    generalize w10.alloc (Obj.cells #[Value.int IntKind.i64 xn,Value.slice (some ⟨g10,0,none⟩) xl.length xl.length] 36)=W10 at *
    refine (HIMPL.out (some ⟨g9,0,none⟩) (some ⟨g10,0,none⟩) us W8.heap.size (w9.heap.size+1) W10 HC10.out.1.cop (HC10.out.2.1.mono (Nat.le_refl _) (by have:=HC10.out.2.2.2.2.2;omega)) (HL8.out.bel.trans (HC10.out.2.2.1.mono HL8.out.bel.size))).mono ?_
    rintro e w12 ⟨⟨va2,vc2,ts2,rfl,hcop12⟩,hb12⟩
    have hba12:Below w12.heap.size w12 (w12.alloc (Obj.cells #[Value.int IntKind.i64 E0,Value.int IntKind.i64 O0,Value.slice va2 ts2.length vc2] 32)):=(Below.refl _ _).alloc (Nat.le_refl _) _
    have hbg:=Box3.new w12 (.int .i64 E0) (.int .i64 O0) (.slice va2 ts2.length vc2) 32
    have hb12a:=hb12.trans (hba12.mono hb12.size)
    have HS12:Hid (Snp w (w12.alloc (Obj.cells #[Value.int IntKind.i64 E0,Value.int IntKind.i64 O0,Value.slice va2 ts2.length vc2] 32)) (w.heap.size+1+1) W8.heap.size W10.heap.size (w12.heap.size+1)
        (fun W=>Ce3 W w.heap.size (.int .i64 E) (.int .i64 O) (.slice a es.length cap)∧Ce2 W (w.heap.size+1) (.int .i64 xn) (.slice xa xl.length xc))
        (fun W=>CopV W (w.heap.size+1+1) W8.heap.size (.slice va0 ts.length vc0) ts fs∧Ce3 W Y8 (.int .i64 E0) (.int .i64 O0) (.slice va0 ts.length vc0))
        (fun W=>(CopV W W8.heap.size w9.heap.size (.slice (some ⟨g9,0,none⟩) es.length es.length) us es∧Ce3 W w9.heap.size (.int .i64 E) (.int .i64 O) (.slice (some ⟨g9,0,none⟩) es.length es.length))∧(Mine W (w9.heap.size+1) w10.heap.size (some ⟨g10,0,none⟩) xl.length xl∧Ce2 W w10.heap.size (.int .i64 xn) (.slice (some ⟨g10,0,none⟩) xl.length xl.length)))
        (fun W=>CopV W W10.heap.size w12.heap.size (.slice va2 ts2.length vc2) ts2 fs∧Ce3 W w12.heap.size (.int .i64 E0) (.int .i64 O0) (.slice va2 ts2.length vc2))):=by
      obtain ⟨h1,h2,h3,h4,h5,h6⟩:=HC10.out
      have h7:=hb12.size
      have h8:=HL8.out.y0
      have hb8:Below W8.heap.size W8 (w12.alloc (Obj.cells #[Value.int IntKind.i64 E0,Value.int IntKind.i64 O0,Value.slice va2 ts2.length vc2] 32)):=h3.trans (hb12a.mono h3.size)
      have hx:=HXY.out.1.step hb12a
      have hq:=HXY.out.2.keep hb12a HXY.out.2.lt
      have c3:=HL8.out.c3
      have c2:=HL8.out.c2
      have cy:=HL8.out.cy
      refine ⟨HL8.out.bel.trans (hb8.mono HL8.out.bel.size),by simp;omega,(Ce3.stab (Nat.le_refl _) (by omega)).and (Ce2.stab (by omega) (by omega)),⟨⟨keep hb8 (by omega) c3.1,keep hb8 (by omega) c3.2.1,keep hb8 (by omega) c3.2.2⟩,⟨keep hb8 (by omega) c2.1,keep hb8 (by omega) c2.2⟩⟩,
        (CopV.stab (Nat.le_refl _) (Nat.le_refl _)).and (Ce3.stab h8 h8y),⟨⟨HL8.out.cop.below hb8,HL8.out.cop.v.r,HL8.out.cop.v.d⟩,⟨keep hb8 h8y cy.1,keep hb8 h8y cy.2.1,keep hb8 h8y cy.2.2⟩⟩,
        ((CopV.stab (Nat.le_refl _) (by omega)).and (Ce3.stab h4 (by omega))).and ((Stab.mine (by omega) (by omega)).and (Ce2.stab (by omega) (by omega))),⟨⟨⟨h1.cop.below hb12a,h1.r,h1.d⟩,⟨hx.c0,hx.c1,hx.c2⟩⟩,⟨h2.below hb12a,⟨hq.c0,hq.c1⟩⟩⟩,
        (CopV.stab (Nat.le_refl _) (by omega)).and (Ce3.stab h7 (by omega)),⟨⟨hcop12.below hba12,hcop12.v.r,hcop12.v.d⟩,⟨hbg.c0,hbg.c1,hbg.c2⟩⟩⟩
    have HOD:Hid (W8.heap.size≤w9.heap.size∧w9.heap.size+1≤w10.heap.size∧w10.heap.size+1=W10.heap.size∧W10.heap.size≤w12.heap.size):=⟨HC10.out.2.2.2.1,HC10.out.2.2.2.2.1,HC10.out.2.2.2.2.2,hb12.size⟩
    clear hcop12 hb12 hba12 hbg hb12a HC10 HXY q0 q1 q2 ql s0 s1 sl0 HL8 h8y hp8
    obtain ⟨l0,l1,l2⟩:=HS12.out.hw.2
    obtain ⟨n0,n1,n2⟩:=HS12.out.hg.2
    have HEQ:=eqPack_cop E0 O0 va2 va0 vc2 vc0 fs ts2 ts _ HS12.out.hg.1.cop HS12.out.hw.1.cop HFF.out
    go_wp2_with fail
    clear l0 l1 l2 n0 n1 n2
    generalize w12.alloc (Obj.cells #[Value.int IntKind.i64 E0,Value.int IntKind.i64 O0,Value.slice va2 ts2.length vc2] 32)=w13 at *
    generalize w12.heap.size=X3 at *
    generalize W10.heap.size=V at *
    generalize w10.heap.size=X2 at *
    generalize w9.heap.size=X1 at *
    generalize W8.heap.size=U at *
    refine HEQ.mono ?_
    clear HEQ
    rintro e w14 ⟨rfl,hb14⟩
    have HS14:Hid _:=HS12.out.step hb14
    clear hb14 HS12
    go_wp2_with fail
    go_region_held3 (fun W=>W.cell? ⟨w.heap.size,0,none⟩=some (.int .i64 E)∧W.cell? ⟨w.heap.size,1,none⟩=some (.int .i64 O)∧W.cell? ⟨w.heap.size,2,none⟩=some (.slice a es.length cap)∧W.cell? ⟨X1,0,none⟩=some (.int .i64 E)∧W.cell? ⟨X1,1,none⟩=some (.int .i64 O)∧W.cell? ⟨X1,2,none⟩=some (.slice (some ⟨g9,0,none⟩) es.length es.length))
      (first | exact ⟨HS14.out.hb.1.1,HS14.out.hb.1.2.1,HS14.out.hb.1.2.2,HS14.out.hx.1.2.1,HS14.out.hx.1.2.2.1,HS14.out.hx.1.2.2.2⟩ | exact ⟨HS15.out.hb.1.1,HS15.out.hb.1.2.1,HS15.out.hb.1.2.2,HS15.out.hx.1.2.1,HS15.out.hx.1.2.2.1,HS15.out.hx.1.2.2.2⟩ | exact ⟨HS15b.out.hb.1.1,HS15b.out.hb.1.2.1,HS15b.out.hb.1.2.2,HS15b.out.hx.1.2.1,HS15b.out.hx.1.2.2.1,HS15b.out.hx.1.2.2.2⟩)
      (first
        | (go_at_call 7; refine (HTP.out _ HS14.out.bel.drew).mono ?_; rintro e w15 ⟨⟨g15, vs, rfl, hcop15⟩, hb15'⟩; have HS15 : Hid _ := HS14.out.step (Below.drewS hb15'); have HC15 : Hid _ := hcop15; clear hcop15 hb15')
        | (go_at_call 10; refine (eqPack_two E O (some ⟨g9, 0, none⟩) (some ⟨g15, 0, none⟩) es us vs w15 HS15.out.hx.1.1.cop HC15.out HF.out.1).mono ?_; rintro e w15b ⟨rfl, hb15b⟩; have HS15b : Hid _ := HS15.out.step hb15b; clear hb15b))
    clear HS14 HS15 HC15
    go_wp2_with fail
    go_region_held3 (fun W=>W.cell? ⟨w.heap.size+1,0,none⟩=some (.int .i64 xn)∧W.cell? ⟨w.heap.size+1,1,none⟩=some (.slice xa xl.length xc)∧W.cell? ⟨X2,0,none⟩=some (.int .i64 xn)∧W.cell? ⟨X2,1,none⟩=some (.slice (some ⟨g10,0,none⟩) xl.length xl.length))
      (first | exact ⟨HS15b.out.hb.2.1,HS15b.out.hb.2.2,HS15b.out.hx.2.2.1,HS15b.out.hx.2.2.2⟩ | exact ⟨HS15c.out.hb.2.1,HS15c.out.hb.2.2,HS15c.out.hx.2.2.1,HS15c.out.hx.2.2.2⟩ | exact ⟨HS15d.out.hb.2.1,HS15d.out.hb.2.2,HS15d.out.hx.2.2.1,HS15d.out.hx.2.2.2⟩)
      (first
        | (go_at_call 8; refine (HTI.out _ HS15b.out.bel.drew).mono ?_; rintro e w15c ⟨g15c, rfl, hown15, hb15'⟩; have HS15c : Hid _ := HS15b.out.step (Below.drewS hb15'); have HC15 : Hid (Byt w15c (some ⟨g15c, 0, none⟩) xl) := hown15.byt; clear hown15 hb15')
        | (go_at_call 11; refine (eqItem_yes (some ⟨g10, 0, none⟩) (some ⟨g15c, 0, none⟩) xl.length xl.length xl xn w15c HS15c.out.hx.2.1.byt HC15.out (by omega)).mono ?_; rintro e w15d ⟨rfl, hb15d⟩; have HS15d : Hid _ := HS15c.out.step hb15d; clear hb15d))
    clear HS15b HS15c HC15
    have hul:us.length=es.length:=len_ctE HS15d.out.hx.1.1.cop.ct
    have HEU:Hid (elets us=elets es∧True):=⟨elets_ct _ _ HS15d.out.hx.1.1.cop.ct,trivial⟩
    have HMK:=markPack_own E O (some ⟨g9,0,none⟩) es.length U us 1 w15d (by rw [hul];exact HS15d.out.hx.1.1.cop.row) HS15d.out.hx.1.1.cop.deep (by rw [hul,HEU.out.1];exact HF.out.2) (by omega) (by rw [hul,HEU.out.1];have:=HF.out.2;omega)
    rw [hul,HEU.out.1] at HMK
    clear hul
    obtain ⟨q0,q1,q2⟩:=HS15d.out.hx.1.2
    go_wp2_with fail
    refine HMK.mono ?_
    clear HMK
    rintro e w20 ⟨rfl,-,ho20⟩
    have HS20:Hid (Snp w w20 (w.heap.size+1+1) U V (X3+1)
        (fun W=>Ce3 W w.heap.size (.int .i64 E) (.int .i64 O) (.slice a es.length cap)∧Ce2 W (w.heap.size+1) (.int .i64 xn) (.slice xa xl.length xc))
        (fun W=>CopV W (w.heap.size+1+1) U (.slice va0 ts.length vc0) ts fs∧Ce3 W Y8 (.int .i64 E0) (.int .i64 O0) (.slice va0 ts.length vc0))
        (fun W=>Mine W (X1+1) X2 (some ⟨g10,0,none⟩) xl.length xl∧Ce2 W X2 (.int .i64 xn) (.slice (some ⟨g10,0,none⟩) xl.length xl.length))
        (fun W=>CopV W V X3 (.slice va2 ts2.length vc2) ts2 fs∧Ce3 W X3 (.int .i64 E0) (.int .i64 O0) (.slice va2 ts2.length vc2))):=by
      have hod:=HOD.out
      have hT:∀ k,((Value.slice (some ⟨g9,0,none⟩) es.length es.length).ownBlock=some k∨∃ s ∈ us,rowOf s.a k)→U≤k∧k<X1:=fun k hk=>by
        rcases hk with hk | ⟨s,hs,hk⟩
        · exact ⟨(HS15d.out.hx.1.1.cop.row.blk hk).1,HS15d.out.hx.1.1.r k hk⟩
        · exact ⟨((HS15d.out.hx.1.1.cop.deep.mine s hs).rowE hk).1,HS15d.out.hx.1.1.d s hs k hk⟩
      have hord:=HS15d.out.ord
      refine HS15d.out.markX ho20 (fun k hk=>by have:=hT k hk;omega) ((Stab.mine (by omega) (by omega)).and (Ce2.stab (by omega) (by omega))) ⟨HS15d.out.hx.2.1.only ho20 (fun k h1 h2 hk=>by have:=hT k hk;omega),?_⟩
      exact ⟨ho20.cell (by omega) (fun hk=>by have:=hT _ hk;omega) HS15d.out.hx.2.2.1,ho20.cell (by omega) (fun hk=>by have:=hT _ hk;omega) HS15d.out.hx.2.2.2⟩
    clear ho20 HS15d q0 q1 q2
    obtain ⟨s0,s1⟩:=HS20.out.hx.2
    have hkk:(0:Int)≤1+(elets es:Nat)+(es.length:Nat)∧1+(elets es:Int)+(es.length:Int)≤2097152:=by have:=HF.out.2;omega
    have HMI:=markItem_any xn (some ⟨g10,0,none⟩) (X1+1) X2 xl.length xl (1+(elets es:Nat)+(es.length:Nat)) w20 HS20.out.hx.1 (by omega) hkk.1 hkk.2
    go_wp2_with fail
    refine HMI.mono ?_
    clear HMI
    rintro e w21 ⟨rfl,ho21⟩
    have HS21:Hid (Snp w w21 (w.heap.size+1+1) U V (X3+1)
        (fun W=>Ce3 W w.heap.size (.int .i64 E) (.int .i64 O) (.slice a es.length cap)∧Ce2 W (w.heap.size+1) (.int .i64 xn) (.slice xa xl.length xc))
        (fun W=>CopV W (w.heap.size+1+1) U (.slice va0 ts.length vc0) ts fs∧Ce3 W Y8 (.int .i64 E0) (.int .i64 O0) (.slice va0 ts.length vc0))
        (fun _=>True)
        (fun W=>CopV W V X3 (.slice va2 ts2.length vc2) ts2 fs∧Ce3 W X3 (.int .i64 E0) (.int .i64 O0) (.slice va2 ts2.length vc2))):=
      HS20.out.markX ho21 (fun k hk=>by have h1:=HS20.out.hx.1.rowT hk;have h2:=HOD.out;omega) (Stab.true _ _) trivial
    have hk2:¬ ((1:Int)+(elets es:Nat)+(es.length:Nat)+(xl.length:Nat)<0):=by omega
    clear ho21 HS20 s0 s1
    obtain ⟨l0,l1,l2⟩:=HS21.out.hw.2
    obtain ⟨n0,n1,n2⟩:=HS21.out.hg.2
    have HEQ:=eqPack_cop E0 O0 va2 va0 vc2 vc0 fs ts2 ts _ HS21.out.hg.1.cop HS21.out.hw.1.cop HFF.out
    go_wp2_with fail
    refine HEQ.mono ?_
    clear HEQ
    rintro e w22 ⟨rfl,hb22⟩
    have HS22:Hid _:=HS21.out.step hb22
    clear hb22 HS21 l0 l1 l2 n0 n1 n2 hkk hk2
    obtain ⟨n0,n1,n2⟩:=HS22.out.hg.2
    have HL2:Hid (elets ts2=elets ts2∧ts2.length+elets ts2≤1048576):=⟨rfl,by rw [len_ctE HS22.out.hg.1.cop.ct,elets_ct _ _ HS22.out.hg.1.cop.ct];exact HFF.out.sum⟩
    have HF2:Hid (ts2.length+elets ts2≤1048576∧(1:Int)+ts2.length+elets ts2<2097152):=⟨HL2.out.2,by have:=HL2.out.2;omega⟩
    have HMK:=markPack_own E0 O0 va2 vc2 V ts2 1 w22 HS22.out.hg.1.cop.row HS22.out.hg.1.cop.deep HF2.out.1 (by omega) (Int.le_of_lt HF2.out.2)
    go_wp2_with fail
    refine HMK.mono ?_
    clear HMK
    rintro e w23 ⟨rfl,hmk,ho23⟩
    have HS16:Hid (Snp w w23 (w.heap.size+1+1) U V (X3+1)
        (fun W=>Ce3 W w.heap.size (.int .i64 E) (.int .i64 O) (.slice a es.length cap)∧Ce2 W (w.heap.size+1) (.int .i64 xn) (.slice xa xl.length xc))
        (fun W=>CopV W (w.heap.size+1+1) U (.slice va0 ts.length vc0) ts fs∧Ce3 W Y8 (.int .i64 E0) (.int .i64 O0) (.slice va0 ts.length vc0))
        (fun _=>True)
        (fun W=>CopV W V X3 (.slice va2 ts2.length vc2) (mkE true 1 ts2) (mkE true 1 ts2)∧Ce3 W X3 (.int .i64 E0) (.int .i64 O0) (.slice va2 ts2.length vc2))):=by
      have hord:=HS22.out.ord
      have hT:∀ k,((Value.slice va2 ts2.length vc2).ownBlock=some k∨∃ s ∈ ts2,rowOf s.a k)→V≤k∧k<X3:=fun k hk=>by
        rcases hk with hk | ⟨s,hs,hk⟩
        · exact ⟨(HS22.out.hg.1.cop.row.blk hk).1,HS22.out.hg.1.r k hk⟩
        · exact ⟨((HS22.out.hg.1.cop.deep.mine s hs).rowE hk).1,HS22.out.hg.1.d s hs k hk⟩
      have hd:∀ e ∈ mkE true 1 ts2,∀ k,rowOf e.a k→k<X3:=fun e he k hk=>by
        have h1:e.a ∈ (mkE true 1 ts2).map El.a:=List.mem_map_of_mem he
        rw [mkE_a] at h1
        obtain ⟨s,hs,h2⟩:=List.mem_map.1 h1
        exact HS22.out.hg.1.d s hs k (by rw [h2];exact hk)
      refine HS22.out.markG ho23 (fun k hk=>by have:=hT k hk;omega) ((CopV.stab (Nat.le_refl _) (by omega)).and (Ce3.stab HOD.out.2.2.2 (by omega))) ⟨⟨⟨rfl,hmk.1,hmk.2,mkE_rng true 1 ts2 HS22.out.hg.1.cop.rng (by omega) (by have:=HF2.out.1;omega)⟩,HS22.out.hg.1.r,hd⟩,?_⟩
      exact ⟨ho23.cell (by omega) (fun hk=>by have:=hT _ hk;omega) HS22.out.hg.2.1,ho23.cell (by omega) (fun hk=>by have:=hT _ hk;omega) HS22.out.hg.2.2.1,ho23.cell (by omega) (fun hk=>by have:=hT _ hk;omega) HS22.out.hg.2.2.2⟩
    clear hmk ho23 HS22 n0 n1 n2
    obtain ⟨n0,n1,n2⟩:=HS16.out.hg.2
    have HHL:=heldPack_any E0 O0 va2 vc2 ts2 1 w23 HS16.out.hg.1.cop.its.els HF2.out.1 (by omega) HF2.out.2
    go_wp2_with fail
    refine HHL.mono ?_
    clear HHL
    rintro e w24 ⟨rfl,hb24⟩
    have HS24:Hid _:=HS16.out.step hb24
    clear hb24 HS16 n0 n1 n2
    have hk3:¬ ((1:Int)+(elets ts2:Nat)+(ts2.length:Nat)<0):=by omega
    have HC3b:Hid (Ce3 w24 w.heap.size (.int .i64 E) (.int .i64 O) (.slice a es.length cap)∧Ce2 w24 (w.heap.size+1) (.int .i64 xn) (.slice xa xl.length xc)∧w.heap.size+1+1≤w24.heap.size):=⟨HS24.out.hb.1,HS24.out.hb.2,by have:=HS24.out.ord;omega⟩
    have HCLb:Hid (∀ W,Below w24.heap.size w24 W→W.cell? ⟨w.heap.size,0,none⟩=some (.int .i64 E)∧W.cell? ⟨w.heap.size,1,none⟩=some (.int .i64 O)∧W.cell? ⟨w.heap.size,2,none⟩=some (.slice a es.length cap)∧W.cell? ⟨w.heap.size+1,0,none⟩=some (.int .i64 xn)∧W.cell? ⟨w.heap.size+1,1,none⟩=some (.slice xa xl.length xc)):=fun W h=>by
      obtain ⟨h3,h2,hs⟩:=HC3b.out
      exact ⟨keep h (by omega) h3.1,keep h (by omega) h3.2.1,keep h (by omega) h3.2.2,keep h (by omega) h2.1,keep h (by omega) h2.2⟩
    have hsbb:=(HC3b.out).2.2
    go_wp2_with fail
    refine wp_region_cut (S:=fun W=>W.cell? ⟨w.heap.size,0,none⟩=some (.int .i64 E)∧W.cell? ⟨w.heap.size,1,none⟩=some (.int .i64 O)∧W.cell? ⟨w.heap.size,2,none⟩=some (.slice a es.length cap)∧W.cell? ⟨w.heap.size+1,0,none⟩=some (.int .i64 xn)∧W.cell? ⟨w.heap.size+1,1,none⟩=some (.slice xa xl.length xc)) 11 (by kernel_rfl) (by kernel_rfl) (HCLb.out _ ((Below.refl _ _).drew)) (fun hHeld=>?_)
    refine wpAnyH_take (i:=0) (v:=?_) rfl (by kernel_rfl) (by kernel_rfl) (by kernel_rfl) (fun _ _ _ h=>h) (Or.inl ⟨by rfl,?_⟩) (by assumption) ?_
    rotate_left 1
    · (intro w hSw;(try dsimp only at hSw);go_simp;try (with_reducible rfl))
    try simp only [List.getElem_toArray,List.getElem_cons_zero,List.getElem_cons_succ,Act.put,List.setIfInBounds_toArray,List.set_cons_zero,List.set_cons_succ]
    refine wpAnyH_take (i:=2) (v:=?_) rfl (by kernel_rfl) (by kernel_rfl) (by kernel_rfl) (fun _ _ _ h=>h) (Or.inl ⟨by rfl,?_⟩) (by assumption) ?_
    rotate_left 1
    · (intro w hSw;(try dsimp only at hSw);go_simp;try (with_reducible rfl))
    try simp only [List.getElem_toArray,List.getElem_cons_zero,List.getElem_cons_succ,Act.put,List.setIfInBounds_toArray,List.set_cons_zero,List.set_cons_succ]
    refine wpAnyH_ready (rs:=[1,8]) (by kernel_rfl) (by simp) ?_
    refine AllReadyH.cons rfl (fun K hK=>?_) (AllReadyH.cons rfl (fun K hK=>?_) AllReadyH.nil)
    focus
      go_simp
      refine (HTP.out _ (HS24.out.bel.trans ((((Below.refl w24.heap.size w24).drew)).mono (by have:=HS24.out.bel.size;omega)))).mono ?_
      rintro e w3 ⟨⟨g3,ts3,rfl,hcop3⟩,hb3'⟩
      have hb3:Below w24.heap.size w24 w3:=(((Below.refl w24.heap.size w24).drew)).trans (hb3'.mono (((Below.refl w24.heap.size w24).drew)).size)
      have HC3c:Hid (CopT w3 w24.heap.size (.slice (some ⟨g3,0,none⟩) es.length es.length) ts3 es):=hcop3.weak (((Below.refl w24.heap.size w24).drew)).size
      skip
      dsimp only
      refine hK.out _ _ (HCLb.out _ hb3) (fun hHeld=>?_)
      clear hK K
      try simp only [List.getElem_toArray,List.getElem_cons_zero,List.getElem_cons_succ,Act.put,List.setIfInBounds_toArray,List.set_cons_zero,List.set_cons_succ]
      refine wpAnyH_ready (rs:=[3,8]) (by kernel_rfl) (by simp) ?_
      refine AllReadyH.cons rfl (fun K hK=>?_) (AllReadyH.cons rfl (fun K hK=>?_) AllReadyH.nil)
      focus
        have HC3d:=HC3c
        go_simp
        refine (HTI.out _ (HS24.out.bel.trans ((hb3).mono (by have:=HS24.out.bel.size;omega)))).mono ?_
        rintro e w4 ⟨g4,rfl,hown4,hb4'⟩
        have hb4:Below w24.heap.size w24 w4:=(hb3).trans (hb4'.mono (hb3).size)
        have HC4c:Hid (CopT w4 w24.heap.size (.slice (some ⟨g3,0,none⟩) es.length es.length) ts3 es∧Mine w4 w24.heap.size w4.heap.size (some ⟨g4,0,none⟩) xl.length xl):=⟨HC3d.out.below hb4',hown4.mine.mono (hb3).size (Nat.le_refl _)⟩
        skip
        dsimp only
        refine hK.out _ _ (HCLb.out _ hb4) (fun hHeld=>?_)
        clear hK K
        try simp only [List.getElem_toArray,List.getElem_cons_zero,List.getElem_cons_succ,Act.put,List.setIfInBounds_toArray,List.set_cons_zero,List.set_cons_succ]
        refine wpAnyH_ready (rs:=[4,8]) (by kernel_rfl) (by simp) ?_
        refine AllReadyH.cons rfl (fun K hK=>?_) (AllReadyH.cons rfl (fun K hK=>?_) AllReadyH.nil)
        focus
          have HC4d:=HC4c
          go_simp
          refine (HIMPL.out (some ⟨g3,0,none⟩) (some ⟨g4,0,none⟩) ts3 _ _ _ HC4d.out.1 HC4d.out.2 (HS24.out.bel.trans ((hb4).mono (by have:=HS24.out.bel.size;omega)))).mono ?_
          rintro e w5 ⟨⟨va,vc,ts5,rfl,hcop5⟩,hb5'⟩
          have hb5:Below w24.heap.size w24 w5:=(hb4).trans (hb5'.mono (hb4).size)
          skip
          dsimp only
          refine hK.out _ _ (HCLb.out _ hb5) (fun hHeld=>?_)
          clear hK K
          try simp only [List.getElem_toArray,List.getElem_cons_zero,List.getElem_cons_succ,Act.put,List.setIfInBounds_toArray,List.set_cons_zero,List.set_cons_succ]
          refine wpAnyH_take (i:=5) (v:=?_) rfl (by kernel_rfl) (by kernel_rfl) (by kernel_rfl) (fun _ _ _ h=>h) (Or.inl ⟨by rfl,?_⟩) (by assumption) ?_
          rotate_left 1
          · (intro w hSw;(try dsimp only at hSw);go_simp;try (with_reducible rfl))
          try simp only [List.getElem_toArray,List.getElem_cons_zero,List.getElem_cons_succ,Act.put,List.setIfInBounds_toArray,List.set_cons_zero,List.set_cons_succ]
          refine wpAnyH_take (i:=6) (v:=?_) rfl (by kernel_rfl) (by kernel_rfl) (by kernel_rfl) (fun _ _ _ h=>h) (Or.inl ⟨by rfl,?_⟩) (by assumption) ?_
          rotate_left 1
          · (intro w hSw;(try dsimp only at hSw);go_simp;try (with_reducible rfl))
          try simp only [List.getElem_toArray,List.getElem_cons_zero,List.getElem_cons_succ,Act.put,List.setIfInBounds_toArray,List.set_cons_zero,List.set_cons_succ]
          refine wpAnyH_take (i:=7) (v:=?_) rfl (by kernel_rfl) (by kernel_rfl) (by kernel_rfl) (fun _ _ _ h=>h) (Or.inl ⟨by rfl,?_⟩) (by assumption) ?_
          rotate_left 1
          · (intro w hSw;(try dsimp only at hSw);go_simp;try (with_reducible rfl))
          try simp only [List.getElem_toArray,List.getElem_cons_zero,List.getElem_cons_succ,Act.put,List.setIfInBounds_toArray,List.set_cons_zero,List.set_cons_succ]
          refine wpAnyH_ready (rs:=[8]) (by kernel_rfl) (by simp) ?_
          refine AllReadyH.cons rfl (fun K hK=>?_) AllReadyH.nil
          go_simp
          refine hK.out _ _ (HCLb.out _ (hb5.trans (((Below.refl _ _).alloc (Nat.le_refl _) _).mono hb5.size))) (fun hHeld=>?_)
          clear hK K
          try simp only [List.getElem_toArray,List.getElem_cons_zero,List.getElem_cons_succ,Act.put,List.setIfInBounds_toArray,List.set_cons_zero,List.set_cons_succ]
          refine wpAnyH_ready (rs:=[9]) (by kernel_rfl) (by simp) ?_
          refine AllReadyH.cons rfl (fun K hK=>?_) AllReadyH.nil
          go_simp
          refine hK.out _ _ (HCLb.out _ (hb5.trans (((Below.refl _ _).alloc (Nat.le_refl _) _).mono hb5.size))) (fun hHeld=>?_)
          clear hK K
          try simp only [List.getElem_toArray,List.getElem_cons_zero,List.getElem_cons_succ,Act.put,List.setIfInBounds_toArray,List.set_cons_zero,List.set_cons_succ]
          refine wpAnyH_ready (rs:=[10]) (by kernel_rfl) (by simp) ?_
          refine AllReadyH.cons rfl (fun K hK=>?_) AllReadyH.nil
          go_simp
          refine hK.out _ _ (hHeld) (fun hHeld=>?_)
          clear hK K
          try simp only [List.getElem_toArray,List.getElem_cons_zero,List.getElem_cons_succ,Act.put,List.setIfInBounds_toArray,List.set_cons_zero,List.set_cons_succ]
          refine wpAnyH_done (by kernel_rfl) ?_ _
          simp only [cutQ,List.drop_succ_cons,List.drop_zero]
          have HLP:=lpN (T:=32) (E0:=E0) (O0:=O0) HS24.out.bel (HC3b.out).1 (HC3b.out).2.1 (HC3b.out).2.2 hb5 hcop5 (by first | omega | (have:=hb3.size;have:=hb4.size;have:=hb5.size;omega))
          have HLQ:Hid (Below w24.heap.size w24 (w5.alloc (Obj.cells #[.int .i64 E0,.int .i64 O0,.slice va ts5.length vc] 32))∧Ce3 (w5.alloc (Obj.cells #[.int .i64 E0,.int .i64 O0,.slice va ts5.length vc] 32)) (w5.heap.size) (.int .i64 E0) (.int .i64 O0) (.slice va ts5.length vc)∧CopT (w5.alloc (Obj.cells #[.int .i64 E0,.int .i64 O0,.slice va ts5.length vc] 32)) (w.heap.size+1+1) (.slice va ts5.length vc) ts5 fs):=⟨HLP.2,HLP.1.cy,HLP.1.cop⟩
          clear HLP
          clear hHeld
          try clear zz0 zz1 zz2 zf0 zf1 zf2 zzl
          try clear bz bz3 bz4
          try clear hY
          clear hcop5 hb5' hb5 hb4' hb4 hb3' hb3 HC3c HC4c HC3d HC4d hown4 hcop3 HCLb hsbb HC3b HIMPL HTP HTI
          generalize w5.alloc (Obj.cells #[.int .i64 E0,.int .i64 O0,.slice va ts5.length vc] 32)=W31 at *
          have HS17:Hid _:=HS24.out.step HLQ.out.1
          clear HS24
          generalize w5.heap.size=Y31 at *
        rotate_left 1
        go_simp
        refine hK.out _ _ (HCLb.out _ (hb4.trans (((Below.refl w4.heap.size w4).alloc (Nat.le_refl _) (Obj.cells #[Value.int IntKind.i64 0,Value.int IntKind.i64 0,Value.slice none 0 0] 32)).mono hb4.size))) (fun hHeld=>?_)
        clear hK K
        try simp only [List.getElem_toArray,List.getElem_cons_zero,List.getElem_cons_succ,Act.put,List.setIfInBounds_toArray,List.set_cons_zero,List.set_cons_succ]
        have bz4:=Box3.new w4 (.int .i64 0) (.int .i64 0) (.slice none 0 0) 32
        have HC4d:Hid (CopT (w4.alloc (Obj.cells #[Value.int IntKind.i64 0,Value.int IntKind.i64 0,Value.slice none 0 0] 32)) w24.heap.size (.slice (some ⟨g3,0,none⟩) es.length es.length) ts3 es∧Mine (w4.alloc (Obj.cells #[Value.int IntKind.i64 0,Value.int IntKind.i64 0,Value.slice none 0 0] 32)) w24.heap.size (w4.alloc (Obj.cells #[Value.int IntKind.i64 0,Value.int IntKind.i64 0,Value.slice none 0 0] 32)).heap.size (some ⟨g4,0,none⟩) xl.length xl):=And.intro (HC4c.out.1.below ((Below.refl w4.heap.size w4).alloc (Nat.le_refl _) (Obj.cells #[Value.int IntKind.i64 0,Value.int IntKind.i64 0,Value.slice none 0 0] 32))) ((HC4c.out.2.below ((Below.refl w4.heap.size w4).alloc (Nat.le_refl _) (Obj.cells #[Value.int IntKind.i64 0,Value.int IntKind.i64 0,Value.slice none 0 0] 32))).mono (Nat.le_refl _) (by simp))
        have hY:w24.heap.size≤w4.heap.size:=hb4.size
        refine wpAnyH_ready (rs:=[4]) (by kernel_rfl) (by simp) ?_
        refine AllReadyH.cons rfl (fun K hK=>?_) AllReadyH.nil
        go_simp
        refine (HIMPL.out (some ⟨g3,0,none⟩) (some ⟨g4,0,none⟩) ts3 _ _ _ HC4d.out.1 HC4d.out.2 (HS24.out.bel.trans (((hb4.trans (((Below.refl w4.heap.size w4).alloc (Nat.le_refl _) (Obj.cells #[Value.int IntKind.i64 0,Value.int IntKind.i64 0,Value.slice none 0 0] 32)).mono hb4.size))).mono (by have:=HS24.out.bel.size;omega)))).mono ?_
        rintro e w5 ⟨⟨va,vc,ts5,rfl,hcop5⟩,hb5'⟩
        have hb5:Below w24.heap.size w24 w5:=((hb4.trans (((Below.refl w4.heap.size w4).alloc (Nat.le_refl _) (Obj.cells #[Value.int IntKind.i64 0,Value.int IntKind.i64 0,Value.slice none 0 0] 32)).mono hb4.size))).trans (hb5'.mono ((hb4.trans (((Below.refl w4.heap.size w4).alloc (Nat.le_refl _) (Obj.cells #[Value.int IntKind.i64 0,Value.int IntKind.i64 0,Value.slice none 0 0] 32)).mono hb4.size))).size)
        have bz5:=bz4.step hb5'
        dsimp only
        refine hK.out _ _ (HCLb.out _ hb5) (fun hHeld=>?_)
        clear hK K
        try simp only [List.getElem_toArray,List.getElem_cons_zero,List.getElem_cons_succ,Act.put,List.setIfInBounds_toArray,List.set_cons_zero,List.set_cons_succ]
        refine wpAnyH_take (i:=5) (v:=?_) rfl (by kernel_rfl) (by kernel_rfl) (by kernel_rfl) (fun _ _ _ h=>h) (Or.inl ⟨by rfl,?_⟩) (by assumption) ?_
        rotate_left 1
        · (intro w hSw;(try dsimp only at hSw);go_simp;try (with_reducible rfl))
        try simp only [List.getElem_toArray,List.getElem_cons_zero,List.getElem_cons_succ,Act.put,List.setIfInBounds_toArray,List.set_cons_zero,List.set_cons_succ]
        refine wpAnyH_take (i:=6) (v:=?_) rfl (by kernel_rfl) (by kernel_rfl) (by kernel_rfl) (fun _ _ _ h=>h) (Or.inl ⟨by rfl,?_⟩) (by assumption) ?_
        rotate_left 1
        · (intro w hSw;(try dsimp only at hSw);go_simp;try (with_reducible rfl))
        try simp only [List.getElem_toArray,List.getElem_cons_zero,List.getElem_cons_succ,Act.put,List.setIfInBounds_toArray,List.set_cons_zero,List.set_cons_succ]
        refine wpAnyH_take (i:=7) (v:=?_) rfl (by kernel_rfl) (by kernel_rfl) (by kernel_rfl) (fun _ _ _ h=>h) (Or.inl ⟨by rfl,?_⟩) (by assumption) ?_
        rotate_left 1
        · (intro w hSw;(try dsimp only at hSw);go_simp;try (with_reducible rfl))
        try simp only [List.getElem_toArray,List.getElem_cons_zero,List.getElem_cons_succ,Act.put,List.setIfInBounds_toArray,List.set_cons_zero,List.set_cons_succ]
        have HLP:=lpS (E0:=E0) (O0:=O0) HS24.out.bel (HC3b.out).1 (HC3b.out).2.1 (HC3b.out).2.2 hb5 bz5 (hY) hcop5 (by first | (have h1:=hb3'.size;have h2:=hb4'.size;simp at h1;omega) | (have h1:=hb4'.size;simp at h1;omega) | (simp;done) | (simp;omega))
        obtain ⟨zz0,zz1,zz2,zf0,zf1,zf2,zzl⟩:=bz5
        refine wpAnyH_ready (rs:=[9]) (by kernel_rfl) (by simp) ?_
        refine AllReadyH.cons rfl (fun K hK=>?_) AllReadyH.nil
        go_simp
        refine hK.out _ _ (HCLb.out _ HLP.2) (fun hHeld=>?_)
        clear hK K
        try simp only [List.getElem_toArray,List.getElem_cons_zero,List.getElem_cons_succ,Act.put,List.setIfInBounds_toArray,List.set_cons_zero,List.set_cons_succ]
        refine wpAnyH_ready (rs:=[10]) (by kernel_rfl) (by simp) ?_
        refine AllReadyH.cons rfl (fun K hK=>?_) AllReadyH.nil
        go_simp
        refine hK.out _ _ (hHeld) (fun hHeld=>?_)
        clear hK K
        try simp only [List.getElem_toArray,List.getElem_cons_zero,List.getElem_cons_succ,Act.put,List.setIfInBounds_toArray,List.set_cons_zero,List.set_cons_succ]
        refine wpAnyH_done (by kernel_rfl) ?_ _
        simp only [cutQ,List.drop_succ_cons,List.drop_zero]
        have HLQ:Hid (Below w24.heap.size w24 (((w5.setCell ⟨w4.heap.size,0,none⟩ (.int .i64 E0)).setCell ⟨w4.heap.size,1,none⟩ (.int .i64 O0)).setCell ⟨w4.heap.size,2,none⟩ (.slice va ts5.length vc))∧Ce3 (((w5.setCell ⟨w4.heap.size,0,none⟩ (.int .i64 E0)).setCell ⟨w4.heap.size,1,none⟩ (.int .i64 O0)).setCell ⟨w4.heap.size,2,none⟩ (.slice va ts5.length vc)) (w4.heap.size) (.int .i64 E0) (.int .i64 O0) (.slice va ts5.length vc)∧CopT (((w5.setCell ⟨w4.heap.size,0,none⟩ (.int .i64 E0)).setCell ⟨w4.heap.size,1,none⟩ (.int .i64 O0)).setCell ⟨w4.heap.size,2,none⟩ (.slice va ts5.length vc)) (w.heap.size+1+1) (.slice va ts5.length vc) ts5 fs):=⟨HLP.2,HLP.1.cy,HLP.1.cop⟩
        clear HLP
        clear hHeld
        try clear zz0 zz1 zz2 zf0 zf1 zf2 zzl
        try clear bz bz3 bz4
        try clear hY
        clear hcop5 hb5' hb5 hb4' hb4 hb3' hb3 HC3c HC4c HC3d HC4d hown4 hcop3 HCLb hsbb HC3b HIMPL HTP HTI
        generalize ((w5.setCell ⟨w4.heap.size,0,none⟩ (.int .i64 E0)).setCell ⟨w4.heap.size,1,none⟩ (.int .i64 O0)).setCell ⟨w4.heap.size,2,none⟩ (.slice va ts5.length vc)=W31 at *
        have HS17:Hid _:=HS24.out.step HLQ.out.1
        clear HS24
        generalize w4.heap.size=Y31 at *
      rotate_left 2
      go_simp
      refine hK.out _ _ (HCLb.out _ (hb3.trans (((Below.refl w3.heap.size w3).alloc (Nat.le_refl _) (Obj.cells #[Value.int IntKind.i64 0,Value.int IntKind.i64 0,Value.slice none 0 0] 32)).mono hb3.size))) (fun hHeld=>?_)
      clear hK K
      try simp only [List.getElem_toArray,List.getElem_cons_zero,List.getElem_cons_succ,Act.put,List.setIfInBounds_toArray,List.set_cons_zero,List.set_cons_succ]
      have bz3:=Box3.new w3 (.int .i64 0) (.int .i64 0) (.slice none 0 0) 32
      have HC3d:Hid (CopT (w3.alloc (Obj.cells #[Value.int IntKind.i64 0,Value.int IntKind.i64 0,Value.slice none 0 0] 32)) w24.heap.size (.slice (some ⟨g3,0,none⟩) es.length es.length) ts3 es):=HC3c.out.below ((Below.refl w3.heap.size w3).alloc (Nat.le_refl _) (Obj.cells #[Value.int IntKind.i64 0,Value.int IntKind.i64 0,Value.slice none 0 0] 32))
      have hY:w24.heap.size≤w3.heap.size:=hb3.size
      refine wpAnyH_ready (rs:=[3]) (by kernel_rfl) (by simp) ?_
      refine AllReadyH.cons rfl (fun K hK=>?_) AllReadyH.nil
      go_simp
      refine (HTI.out _ (HS24.out.bel.trans (((hb3.trans (((Below.refl w3.heap.size w3).alloc (Nat.le_refl _) (Obj.cells #[Value.int IntKind.i64 0,Value.int IntKind.i64 0,Value.slice none 0 0] 32)).mono hb3.size))).mono (by have:=HS24.out.bel.size;omega)))).mono ?_
      rintro e w4 ⟨g4,rfl,hown4,hb4'⟩
      have hb4:Below w24.heap.size w24 w4:=((hb3.trans (((Below.refl w3.heap.size w3).alloc (Nat.le_refl _) (Obj.cells #[Value.int IntKind.i64 0,Value.int IntKind.i64 0,Value.slice none 0 0] 32)).mono hb3.size))).trans (hb4'.mono ((hb3.trans (((Below.refl w3.heap.size w3).alloc (Nat.le_refl _) (Obj.cells #[Value.int IntKind.i64 0,Value.int IntKind.i64 0,Value.slice none 0 0] 32)).mono hb3.size))).size)
      have HC4c:Hid (CopT w4 w24.heap.size (.slice (some ⟨g3,0,none⟩) es.length es.length) ts3 es∧Mine w4 w24.heap.size w4.heap.size (some ⟨g4,0,none⟩) xl.length xl):=⟨HC3d.out.below hb4',hown4.mine.mono ((hb3.trans (((Below.refl w3.heap.size w3).alloc (Nat.le_refl _) (Obj.cells #[Value.int IntKind.i64 0,Value.int IntKind.i64 0,Value.slice none 0 0] 32)).mono hb3.size))).size (Nat.le_refl _)⟩
      have bz4:=bz3.step hb4'
      dsimp only
      have HC4d:=HC4c
      refine hK.out _ _ (HCLb.out _ hb4) (fun hHeld=>?_)
      clear hK K
      try simp only [List.getElem_toArray,List.getElem_cons_zero,List.getElem_cons_succ,Act.put,List.setIfInBounds_toArray,List.set_cons_zero,List.set_cons_succ]
      refine wpAnyH_ready (rs:=[4]) (by kernel_rfl) (by simp) ?_
      refine AllReadyH.cons rfl (fun K hK=>?_) AllReadyH.nil
      go_simp
      refine (HIMPL.out (some ⟨g3,0,none⟩) (some ⟨g4,0,none⟩) ts3 _ _ _ HC4d.out.1 HC4d.out.2 (HS24.out.bel.trans ((hb4).mono (by have:=HS24.out.bel.size;omega)))).mono ?_
      rintro e w5 ⟨⟨va,vc,ts5,rfl,hcop5⟩,hb5'⟩
      have hb5:Below w24.heap.size w24 w5:=(hb4).trans (hb5'.mono (hb4).size)
      have bz5:=bz4.step hb5'
      dsimp only
      refine hK.out _ _ (HCLb.out _ hb5) (fun hHeld=>?_)
      clear hK K
      try simp only [List.getElem_toArray,List.getElem_cons_zero,List.getElem_cons_succ,Act.put,List.setIfInBounds_toArray,List.set_cons_zero,List.set_cons_succ]
      refine wpAnyH_take (i:=5) (v:=?_) rfl (by kernel_rfl) (by kernel_rfl) (by kernel_rfl) (fun _ _ _ h=>h) (Or.inl ⟨by rfl,?_⟩) (by assumption) ?_
      rotate_left 1
      · (intro w hSw;(try dsimp only at hSw);go_simp;try (with_reducible rfl))
      try simp only [List.getElem_toArray,List.getElem_cons_zero,List.getElem_cons_succ,Act.put,List.setIfInBounds_toArray,List.set_cons_zero,List.set_cons_succ]
      refine wpAnyH_take (i:=6) (v:=?_) rfl (by kernel_rfl) (by kernel_rfl) (by kernel_rfl) (fun _ _ _ h=>h) (Or.inl ⟨by rfl,?_⟩) (by assumption) ?_
      rotate_left 1
      · (intro w hSw;(try dsimp only at hSw);go_simp;try (with_reducible rfl))
      try simp only [List.getElem_toArray,List.getElem_cons_zero,List.getElem_cons_succ,Act.put,List.setIfInBounds_toArray,List.set_cons_zero,List.set_cons_succ]
      refine wpAnyH_take (i:=7) (v:=?_) rfl (by kernel_rfl) (by kernel_rfl) (by kernel_rfl) (fun _ _ _ h=>h) (Or.inl ⟨by rfl,?_⟩) (by assumption) ?_
      rotate_left 1
      · (intro w hSw;(try dsimp only at hSw);go_simp;try (with_reducible rfl))
      try simp only [List.getElem_toArray,List.getElem_cons_zero,List.getElem_cons_succ,Act.put,List.setIfInBounds_toArray,List.set_cons_zero,List.set_cons_succ]
      have HLP:=lpS (E0:=E0) (O0:=O0) HS24.out.bel (HC3b.out).1 (HC3b.out).2.1 (HC3b.out).2.2 hb5 bz5 (hY) hcop5 (by first | (have h1:=hb3'.size;have h2:=hb4'.size;simp at h1;omega) | (have h1:=hb4'.size;simp at h1;omega) | (simp;done) | (simp;omega))
      obtain ⟨zz0,zz1,zz2,zf0,zf1,zf2,zzl⟩:=bz5
      refine wpAnyH_ready (rs:=[9]) (by kernel_rfl) (by simp) ?_
      refine AllReadyH.cons rfl (fun K hK=>?_) AllReadyH.nil
      go_simp
      refine hK.out _ _ (HCLb.out _ HLP.2) (fun hHeld=>?_)
      clear hK K
      try simp only [List.getElem_toArray,List.getElem_cons_zero,List.getElem_cons_succ,Act.put,List.setIfInBounds_toArray,List.set_cons_zero,List.set_cons_succ]
      refine wpAnyH_ready (rs:=[10]) (by kernel_rfl) (by simp) ?_
      refine AllReadyH.cons rfl (fun K hK=>?_) AllReadyH.nil
      go_simp
      refine hK.out _ _ (hHeld) (fun hHeld=>?_)
      clear hK K
      try simp only [List.getElem_toArray,List.getElem_cons_zero,List.getElem_cons_succ,Act.put,List.setIfInBounds_toArray,List.set_cons_zero,List.set_cons_succ]
      refine wpAnyH_done (by kernel_rfl) ?_ _
      simp only [cutQ,List.drop_succ_cons,List.drop_zero]
      have HLQ:Hid (Below w24.heap.size w24 (((w5.setCell ⟨w3.heap.size,0,none⟩ (.int .i64 E0)).setCell ⟨w3.heap.size,1,none⟩ (.int .i64 O0)).setCell ⟨w3.heap.size,2,none⟩ (.slice va ts5.length vc))∧Ce3 (((w5.setCell ⟨w3.heap.size,0,none⟩ (.int .i64 E0)).setCell ⟨w3.heap.size,1,none⟩ (.int .i64 O0)).setCell ⟨w3.heap.size,2,none⟩ (.slice va ts5.length vc)) (w3.heap.size) (.int .i64 E0) (.int .i64 O0) (.slice va ts5.length vc)∧CopT (((w5.setCell ⟨w3.heap.size,0,none⟩ (.int .i64 E0)).setCell ⟨w3.heap.size,1,none⟩ (.int .i64 O0)).setCell ⟨w3.heap.size,2,none⟩ (.slice va ts5.length vc)) (w.heap.size+1+1) (.slice va ts5.length vc) ts5 fs):=⟨HLP.2,HLP.1.cy,HLP.1.cop⟩
      clear HLP
      clear hHeld
      try clear zz0 zz1 zz2 zf0 zf1 zf2 zzl
      try clear bz bz3 bz4
      try clear hY
      clear hcop5 hb5' hb5 hb4' hb4 hb3' hb3 HC3c HC4c HC3d HC4d hown4 hcop3 HCLb hsbb HC3b HIMPL HTP HTI
      generalize ((w5.setCell ⟨w3.heap.size,0,none⟩ (.int .i64 E0)).setCell ⟨w3.heap.size,1,none⟩ (.int .i64 O0)).setCell ⟨w3.heap.size,2,none⟩ (.slice va ts5.length vc)=W31 at *
      have HS17:Hid _:=HS24.out.step HLQ.out.1
      clear HS24
      generalize w3.heap.size=Y31 at *
    rotate_left 3
    go_simp
    refine hK.out _ _ (HCLb.out _ (((Below.refl w24.heap.size w24).alloc (Nat.le_refl _) (Obj.cells #[Value.int IntKind.i64 0,Value.int IntKind.i64 0,Value.slice none 0 0] 32)).drew)) (fun hHeld=>?_)
    clear hK K
    try simp only [List.getElem_toArray,List.getElem_cons_zero,List.getElem_cons_succ,Act.put,List.setIfInBounds_toArray,List.set_cons_zero,List.set_cons_succ]
    have bz:=(Box3.new w24 (.int .i64 0) (.int .i64 0) (.slice none 0 0) 32).step ((Below.refl _ _).drew)
    have hY:w24.heap.size≤w24.heap.size:=Nat.le_refl _
    refine wpAnyH_ready (rs:=[1]) (by kernel_rfl) (by simp) ?_
    refine AllReadyH.cons rfl (fun K hK=>?_) AllReadyH.nil
    go_simp
    refine (HTP.out _ (HS24.out.bel.trans (((((Below.refl w24.heap.size w24).alloc (Nat.le_refl _) (Obj.cells #[Value.int IntKind.i64 0,Value.int IntKind.i64 0,Value.slice none 0 0] 32)).drew)).mono (by have:=HS24.out.bel.size;omega)))).mono ?_
    rintro e w3 ⟨⟨g3,ts3,rfl,hcop3⟩,hb3'⟩
    have hb3:Below w24.heap.size w24 w3:=((((Below.refl w24.heap.size w24).alloc (Nat.le_refl _) (Obj.cells #[Value.int IntKind.i64 0,Value.int IntKind.i64 0,Value.slice none 0 0] 32)).drew)).trans (hb3'.mono ((((Below.refl w24.heap.size w24).alloc (Nat.le_refl _) (Obj.cells #[Value.int IntKind.i64 0,Value.int IntKind.i64 0,Value.slice none 0 0] 32)).drew)).size)
    have HC3c:Hid (CopT w3 w24.heap.size (.slice (some ⟨g3,0,none⟩) es.length es.length) ts3 es):=hcop3.weak ((((Below.refl w24.heap.size w24).alloc (Nat.le_refl _) (Obj.cells #[Value.int IntKind.i64 0,Value.int IntKind.i64 0,Value.slice none 0 0] 32)).drew)).size
    have bz3:=bz.step hb3'
    dsimp only
    have HC3d:=HC3c
    refine hK.out _ _ (HCLb.out _ hb3) (fun hHeld=>?_)
    clear hK K
    try simp only [List.getElem_toArray,List.getElem_cons_zero,List.getElem_cons_succ,Act.put,List.setIfInBounds_toArray,List.set_cons_zero,List.set_cons_succ]
    refine wpAnyH_ready (rs:=[3]) (by kernel_rfl) (by simp) ?_
    refine AllReadyH.cons rfl (fun K hK=>?_) AllReadyH.nil
    go_simp
    refine (HTI.out _ (HS24.out.bel.trans ((hb3).mono (by have:=HS24.out.bel.size;omega)))).mono ?_
    rintro e w4 ⟨g4,rfl,hown4,hb4'⟩
    have hb4:Below w24.heap.size w24 w4:=(hb3).trans (hb4'.mono (hb3).size)
    have HC4c:Hid (CopT w4 w24.heap.size (.slice (some ⟨g3,0,none⟩) es.length es.length) ts3 es∧Mine w4 w24.heap.size w4.heap.size (some ⟨g4,0,none⟩) xl.length xl):=⟨HC3d.out.below hb4',hown4.mine.mono (hb3).size (Nat.le_refl _)⟩
    have bz4:=bz3.step hb4'
    dsimp only
    have HC4d:=HC4c
    refine hK.out _ _ (HCLb.out _ hb4) (fun hHeld=>?_)
    clear hK K
    try simp only [List.getElem_toArray,List.getElem_cons_zero,List.getElem_cons_succ,Act.put,List.setIfInBounds_toArray,List.set_cons_zero,List.set_cons_succ]
    refine wpAnyH_ready (rs:=[4]) (by kernel_rfl) (by simp) ?_
    refine AllReadyH.cons rfl (fun K hK=>?_) AllReadyH.nil
    go_simp
    refine (HIMPL.out (some ⟨g3,0,none⟩) (some ⟨g4,0,none⟩) ts3 _ _ _ HC4d.out.1 HC4d.out.2 (HS24.out.bel.trans ((hb4).mono (by have:=HS24.out.bel.size;omega)))).mono ?_
    rintro e w5 ⟨⟨va,vc,ts5,rfl,hcop5⟩,hb5'⟩
    have hb5:Below w24.heap.size w24 w5:=(hb4).trans (hb5'.mono (hb4).size)
    have bz5:=bz4.step hb5'
    dsimp only
    refine hK.out _ _ (HCLb.out _ hb5) (fun hHeld=>?_)
    clear hK K
    try simp only [List.getElem_toArray,List.getElem_cons_zero,List.getElem_cons_succ,Act.put,List.setIfInBounds_toArray,List.set_cons_zero,List.set_cons_succ]
    refine wpAnyH_take (i:=5) (v:=?_) rfl (by kernel_rfl) (by kernel_rfl) (by kernel_rfl) (fun _ _ _ h=>h) (Or.inl ⟨by rfl,?_⟩) (by assumption) ?_
    rotate_left 1
    · (intro w hSw;(try dsimp only at hSw);go_simp;try (with_reducible rfl))
    try simp only [List.getElem_toArray,List.getElem_cons_zero,List.getElem_cons_succ,Act.put,List.setIfInBounds_toArray,List.set_cons_zero,List.set_cons_succ]
    refine wpAnyH_take (i:=6) (v:=?_) rfl (by kernel_rfl) (by kernel_rfl) (by kernel_rfl) (fun _ _ _ h=>h) (Or.inl ⟨by rfl,?_⟩) (by assumption) ?_
    rotate_left 1
    · (intro w hSw;(try dsimp only at hSw);go_simp;try (with_reducible rfl))
    try simp only [List.getElem_toArray,List.getElem_cons_zero,List.getElem_cons_succ,Act.put,List.setIfInBounds_toArray,List.set_cons_zero,List.set_cons_succ]
    refine wpAnyH_take (i:=7) (v:=?_) rfl (by kernel_rfl) (by kernel_rfl) (by kernel_rfl) (fun _ _ _ h=>h) (Or.inl ⟨by rfl,?_⟩) (by assumption) ?_
    rotate_left 1
    · (intro w hSw;(try dsimp only at hSw);go_simp;try (with_reducible rfl))
    try simp only [List.getElem_toArray,List.getElem_cons_zero,List.getElem_cons_succ,Act.put,List.setIfInBounds_toArray,List.set_cons_zero,List.set_cons_succ]
    have HLP:=lpS (E0:=E0) (O0:=O0) HS24.out.bel (HC3b.out).1 (HC3b.out).2.1 (HC3b.out).2.2 hb5 bz5 (hY) hcop5 (by first | (have h1:=hb3'.size;have h2:=hb4'.size;simp at h1;omega) | (have h1:=hb4'.size;simp at h1;omega) | (simp;done) | (simp;omega))
    obtain ⟨zz0,zz1,zz2,zf0,zf1,zf2,zzl⟩:=bz5
    refine wpAnyH_ready (rs:=[9]) (by kernel_rfl) (by simp) ?_
    refine AllReadyH.cons rfl (fun K hK=>?_) AllReadyH.nil
    go_simp
    refine hK.out _ _ (HCLb.out _ HLP.2) (fun hHeld=>?_)
    clear hK K
    try simp only [List.getElem_toArray,List.getElem_cons_zero,List.getElem_cons_succ,Act.put,List.setIfInBounds_toArray,List.set_cons_zero,List.set_cons_succ]
    refine wpAnyH_ready (rs:=[10]) (by kernel_rfl) (by simp) ?_
    refine AllReadyH.cons rfl (fun K hK=>?_) AllReadyH.nil
    go_simp
    refine hK.out _ _ (hHeld) (fun hHeld=>?_)
    clear hK K
    try simp only [List.getElem_toArray,List.getElem_cons_zero,List.getElem_cons_succ,Act.put,List.setIfInBounds_toArray,List.set_cons_zero,List.set_cons_succ]
    refine wpAnyH_done (by kernel_rfl) ?_ _
    simp only [cutQ,List.drop_succ_cons,List.drop_zero]
    have HLQ:Hid (Below w24.heap.size w24 (((w5.setCell ⟨w24.heap.size,0,none⟩ (.int .i64 E0)).setCell ⟨w24.heap.size,1,none⟩ (.int .i64 O0)).setCell ⟨w24.heap.size,2,none⟩ (.slice va ts5.length vc))∧Ce3 (((w5.setCell ⟨w24.heap.size,0,none⟩ (.int .i64 E0)).setCell ⟨w24.heap.size,1,none⟩ (.int .i64 O0)).setCell ⟨w24.heap.size,2,none⟩ (.slice va ts5.length vc)) (w24.heap.size) (.int .i64 E0) (.int .i64 O0) (.slice va ts5.length vc)∧CopT (((w5.setCell ⟨w24.heap.size,0,none⟩ (.int .i64 E0)).setCell ⟨w24.heap.size,1,none⟩ (.int .i64 O0)).setCell ⟨w24.heap.size,2,none⟩ (.slice va ts5.length vc)) (w.heap.size+1+1) (.slice va ts5.length vc) ts5 fs):=⟨HLP.2,HLP.1.cy,HLP.1.cop⟩
    clear HLP
    clear hHeld
    try clear zz0 zz1 zz2 zf0 zf1 zf2 zzl
    try clear bz bz3 bz4
    try clear hY
    clear hcop5 hb5' hb5 hb4' hb4 hb3' hb3 HC3c HC4c HC3d HC4d hown4 hcop3 HCLb hsbb HC3b HIMPL HTP HTI
    generalize ((w5.setCell ⟨w24.heap.size,0,none⟩ (.int .i64 E0)).setCell ⟨w24.heap.size,1,none⟩ (.int .i64 O0)).setCell ⟨w24.heap.size,2,none⟩ (.slice va ts5.length vc)=W31 at *
    have HS17:Hid _:=HS24.out.step HLQ.out.1
    clear HS24
    generalize w24.heap.size=Y31 at *
    all_goals
      obtain ⟨k0,k1,k2⟩:=HLQ.out.2.1
      obtain ⟨l0,l1,l2⟩:=HS17.out.hw.2
      have HEQ:=eqPack_cop E0 O0 va va0 vc vc0 fs ts5 ts W31 HLQ.out.2.2 HS17.out.hw.1.cop HFF.out
      go_wp2_with fail
      refine HEQ.mono ?_
      clear HEQ
      rintro e w18 ⟨rfl,hb18⟩
      have HS18:Hid _:=HS17.out.step hb18
      clear hb18 HS17 k0 k1 k2 l0 l1 l2 HLQ
      obtain ⟨n0,n1,n2⟩:=HS18.out.hg.2
      have HHL:=heldPack_any E0 O0 va2 vc2 ts2 1 w18 HS18.out.hg.1.cop.its.els HF2.out.1 (by omega) HF2.out.2
      go_wp2_with fail
      refine HHL.mono ?_
      clear HHL
      rintro e w19 ⟨rfl,hb19⟩
      have HBF:Hid (Below w.heap.size w w19):=(HS18.out.step hb19).bel
      clear hb19 HS18 n0 n1 n2
      go_wp2
      go_ret
      exact ⟨rfl,HBF.out⟩
end Go.Proofs.YtiabhcfcpkkhoaaGreatDoor
