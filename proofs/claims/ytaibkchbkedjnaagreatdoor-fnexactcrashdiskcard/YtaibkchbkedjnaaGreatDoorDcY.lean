import Derived.Test.YtaibkchbkedjnaaGreatDoorDcS
set_option maxRecDepth 20000
set_option maxHeartbeats 16000000
namespace Go.Proofs.YtaibkchbkedjnaaGreatDoor
open Go.RowKit
set_option linter.unusedVariables false
set_option linter.unusedSimpArgs false
def RdR (n V m:Nat) (w:World) (e:Ending) (w':World):Prop:=Below w.heap.size w w' /\
 ((∃ ts M U a1 c1 a2 c2, RdS n V m ts M U /\ e = .returned (.tuple #[.slice a1 ts.length c1, .agg #[.slice a2 (enc M U).length c2, .int .i64 (M : Nat)], .bool true]) /\ MinI w' w.heap.size w'.heap.size a1 c1 ts /\ Mine w' w.heap.size w'.heap.size a2 c2 (enc M U)) \/
  ((¬∃ ts M U,RdS n V m ts M U)/\∃ v a2 l2 c2 M,e=.returned (.tuple #[v,.agg #[.slice a2 l2 c2,.int .i64 M],.bool false])))
def RdF (n V m:Nat) (w w':World) (v:Value) (a2:Option Addr) (l2 c2:Nat) (M:Int) (t:Bool):Prop:=Below w.heap.size w w' /\
 ((t=true/\∃ ts N U a1 c1,RdS n V m ts N U/\M=(N:Nat)/\v=.slice a1 ts.length c1/\l2=(enc N U).length/\MinI w' w.heap.size w'.heap.size a1 c1 ts/\Mine w' w.heap.size w'.heap.size a2 c2 (enc N U))\/(t=false/\¬∃ ts M U,RdS n V m ts M U))
theorem RdR.form {n V m:Nat} {w w':World} {e:Ending} (h:RdR n V m w e w'):∃ v a2 l2 c2 M t,e=.returned (.tuple #[v,.agg #[.slice a2 l2 c2,.int .i64 M],.bool t])/\Hid (RdF n V m w w' v a2 l2 c2 M t):=by
 obtain ⟨hb,⟨ts,M,U,a1,c1,a2,c2,h1,rfl,h2,h3⟩ | ⟨h1,v,a2,l2,c2,M,rfl⟩⟩:=h
 ·exact ⟨_,a2,_,c2,_,true,rfl,⟨hb,.inl ⟨rfl,ts,M,U,a1,c1,h1,rfl,rfl,rfl,h2,h3⟩⟩⟩
 ·exact ⟨v,a2,l2,c2,M,false,rfl,⟨hb,.inr ⟨rfl,h1⟩⟩⟩
theorem RdF.late {n V m:Nat} {w w':World} {v:Value} {a2:Option Addr} {l2 c2:Nat} {M:Int} {t:Bool} (h:Hid (RdF n V m w w' v a2 l2 c2 M t)) (Y:Nat) :
  (Y<w.heap.size/\w.cell? ⟨Y,0,none⟩=some (.slice none 0 0)/\w.cell? ⟨Y,1,none⟩=some (.int .i64 0)/\w.frozen? ⟨Y,0,none⟩=false/\w.frozen? ⟨Y,1,none⟩=false) ->
   w'.cell? ⟨Y,0,none⟩=some (.slice none 0 0)/\w'.cell? ⟨Y,1,none⟩=some (.int .i64 0)/\w'.frozen? ⟨Y,0,none⟩=false/\w'.frozen? ⟨Y,1,none⟩=false:=by
 rintro ⟨h0,h1,h2,h3,h4⟩;exact ⟨keep h.out.1 h0 h1,keep h.out.1 h0 h2,(h.out.1.frozen (p:=⟨Y,0,none⟩) h0).trans h3,(h.out.1.frozen (p:=⟨Y,1,none⟩) h0).trans h4⟩
def RdC :Prop:=∀ (n V m:Nat) (a:Option Addr) (cap:Nat) (w:World),n<=4096->V<2 ^ n->(m=2\/m=3)->Byt w a (enc n V) ->
 Calls Tryz.prog 118 #[.agg #[.slice a (enc n V).length cap,.int .i64 (n:Nat)],.int .i64 m] w (RdR n V m w)
theorem z43 (a:Option Addr) (cap m:Nat) (zs:List Int) (w:World) (hm:m=2\/m=3) (hb:Byt w a ((m:Int) :: zs)) (h1:1<=zs.length) (h2:zs.length<=64) (hcap:zs.length+1<=cap) (hO:z3n zs none) :
  Calls Tryz.prog 82 #[.slice a (zs.length+1) cap] w (DcP none m zs w):=by
 obtain ⟨b,off,rfl,hbl,c0,hbt,hm0,hm1⟩:=hb.head1;have HC:=hO.1 _ (cap-1) w (by omega) hbt
 have HN:Hid (¬∃ bs,RbY none m zs bs):=by
  rintro ⟨bs,-,⟨h0,_⟩ | ⟨h0,_⟩ | ⟨_,q,hq,_⟩⟩
  ·omega
  ·omega
  ·cases hq
 clear hb hbt hO;have g1:¬((zs.length:Int)+1<2):=by omega
 have g2:¬((65:Int)<(zs.length:Int)+1):=by omega
 have g3:(0:Int)<(zs.length:Int)+1:=by omega
 have g6:(1:Int)<=(zs.length:Int)+1:=by omega
 have g4:¬cap=1:=by omega
 have g5:¬cap=0:=by omega
 go_enter Tryz.func82,Tryz.ntmps82
 rcases hm with rfl | rfl
 all_goals
  simp only [Int.cast_ofNat_Int] at c0
  go_wp2_with fail
  refine HC.mono ?_;clear HC;rintro e w1 ⟨a',l,cp,M,rfl,hb1⟩;have HB:Hid (Below w.heap.size w w1):=hb1;have hz1:=hb1.size;clear hb1;go_wp2
  go_ret2
  refine DcP.no ?_ HN.out _ rfl;have hbb:=HB.out
  repeat (first | exact hbb | refine Below.setCell ?_ (by first | exact hz1 | (simp;omega)) _ | refine Below.alloc ?_ (by first | exact hz1 | (simp;omega)) _)
def SyT (n V m:Nat) (w W:World) (Y:Nat) (v:Value) (a2:Option Addr) (l2 c2:Nat) (M:Int) (t:Bool):Prop:=
 Below w.heap.size w W/\W.cell? ⟨Y,0,none⟩=some (.slice a2 l2 c2)/\W.cell? ⟨Y,1,none⟩=some (.int .i64 M) /\
 ((t=true/\∃ ts N U a1 c1,RdS n V m ts N U/\M=(N:Nat)/\v=.slice a1 ts.length c1/\l2=(enc N U).length/\Ins W a1 ts/\Byt W a2 (enc N U))\/(t=false/\¬∃ ts M U,RdS n V m ts M U))
theorem RdF.syt {n V m:Nat} {w w1 w2 W:World} {Y:Nat} {v:Value} {a2:Option Addr} {l2 c2:Nat} {M:Int} {t:Bool} (h:RdF n V m w1 w2 v a2 l2 c2 M t) (hb:Below w.heap.size w W) (ho:Only (fun k=>k=Y) w2 W) (hY:Y<w1.heap.size\/w2.heap.size<=Y) (c0:W.cell? ⟨Y,0,none⟩=some (.slice a2 l2 c2)) (c1:W.cell? ⟨Y,1,none⟩=some (.int .i64 M)):SyT n V m w W Y v a2 l2 c2 M t:=by
 refine ⟨hb,c0,c1,?_⟩;rcases h.2 with ⟨rfl,ts,N,U,a1,c1',h1,h2,h3,h4,h5,h6⟩ | h2
 ·exact .inl ⟨rfl,ts,N,U,a1,c1',h1,h2,h3,h4,(h5.only ho (fun k k1 k2 e=>by omega)).byt,(h6.only ho (fun k k1 k2 e=>by omega)).byt⟩
 ·exact .inr h2
theorem z03 {n V m:Nat} {zs bs:List Int} (hm:m=2\/m=3) (h:RbY (some (n,V)) m zs bs):bs.length=64/\OsY n V m bs:=by
 obtain ⟨h0,⟨h1,_⟩ | ⟨h1,_⟩ | ⟨-,q,hq,hy⟩⟩:=h
 ·omega
 ·omega
 ·cases hq
  exact ⟨h0,hy⟩
theorem z72 {n V m:Nat} {zs bs:List Int} (hm:m=2\/m=3) (h0:bs.length=64) (h:OsY n V m bs):RbY (some (n,V)) m zs bs:=⟨h0,.inr (.inr ⟨hm,(n,V),rfl,h⟩)⟩
theorem z9w (a:Option Addr) (cap:Nat) (zs:List Int) (n V:Nat) (w:World) (hb:Byt w a (((2:Nat):Int) :: zs)) (h1:1<=zs.length) (h2:zs.length<=64) (hcap:zs.length+1<=cap) (hO:z3n zs (some (n,V))) (hR:RdC) :
  Calls Tryz.prog 82 #[.slice a (zs.length+1) cap] w (DcP (some (n,V)) 2 zs w):=by
 obtain ⟨b,off,rfl,hbl,c0,hbt,hm0,hm1⟩:=hb.head1;have HC:=hO.2.2.1 _ (cap-1) w (by omega) hbt
 have HQ:Hid (n<=4096/\V<2 ^ n/\RdC):=⟨hO.1,hO.2.1,hR⟩;clear hb hbt hO hR;have g1:¬((zs.length:Int)+1<2):=by omega
 have g2:¬((65:Int)<(zs.length:Int)+1):=by omega
 have g3:(0:Int)<(zs.length:Int)+1:=by omega
 have g6:(1:Int)<=(zs.length:Int)+1:=by omega
 have g4:¬cap=1:=by omega
 have g5:¬cap=0:=by omega
 go_enter Tryz.func82,Tryz.ntmps82
 simp only [Int.cast_ofNat_Int] at c0
 go_wp2_with fail
 refine HC.mono ?_;clear HC;rintro e w1 ⟨a',cp,rfl,hmn,hb1⟩
 dsimp only at hmn ⊢
 obtain ⟨es,hes⟩:∃ es,es=enc n V:=⟨_,rfl⟩;rw [<-hes] at hmn ⊢;have HES:Hid (es=enc n V/\Byt w1 a' es):=⟨hes,hmn.byt⟩;have HB:Hid (Below w.heap.size w w1):=hb1;have hz1:=hb1.size;have c1:w1.cell? ⟨b,off,none⟩=some (.int .u8 2):=keep hb1 hbl c0;have hbl1:b<w1.heap.size:=by omega
 clear hb1 hmn hes;have HRD:Hid (∀ W,Below w1.heap.size w1 W->Calls Tryz.prog 118 #[.agg #[.slice a' es.length cp,.int .i64 (n:Nat)],.int .i64 2] W (RdR n V 2 W)):=fun W hW=>by
  have:=HQ.out.2.2 n V 2 a' cp W HQ.out.1 HQ.out.2.1 (by omega) (by rw [<-HES.out.1];exact HES.out.2.below hW nl)
  rw [<-HES.out.1] at this;exact this
 go_wp2_with fail
 refine zh (S:=fun W=>W.cell? ⟨w1.heap.size,0,none⟩=some (.slice a' es.length cp)/\W.cell? ⟨w1.heap.size,1,none⟩=some (.int .i64 (n:Nat))/\W.cell? ⟨b,off,none⟩=some (.int .u8 2)) 14 (by kernel_rfl) (by kernel_rfl) (⟨by simp,by simp,by first | exact ze _ hbl1 c1 | (simp;exact ze _ hbl1 c1)⟩) (fun hHeld=>?_)
 refine tk 0 ?_
 try simp only [tkS]
 refine tk 1 ?_
 try simp only [tkS]
 refine tk 2 ?_
 try simp only [tkS]
 refine tk 3 ?_
 try simp only [tkS]
 refine tk 4 ?_
 try simp only [tkS]
 refine wpAnyH_ready (rs:=[5,10]) (by kernel_rfl) (by simp) ?_
 refine AllReadyH.cons rfl (fun K hK=>?_) (AllReadyH.cons rfl (fun K hK=>?_) AllReadyH.nil)
 ·go_simp
  rw [show IntKind.i64.wrap 2=2 from rfl]
  have hbD1:Below w1.heap.size w1 ((w1.alloc (Obj.cells #[.slice a' es.length cp,.int .i64 (n:Nat)] 155)).drew):=((Below.refl _ _).alloc nl _).drew;have e0:((w1.alloc (Obj.cells #[.slice a' es.length cp,.int .i64 (n:Nat)] 155)).drew).cell? ⟨w1.heap.size,0,none⟩=some (.slice a' es.length cp):=hHeld.1;have e1:((w1.alloc (Obj.cells #[.slice a' es.length cp,.int .i64 (n:Nat)] 155)).drew).cell? ⟨w1.heap.size,1,none⟩=some (.int .i64 (n:Nat)):=hHeld.2.1
  have e2:((w1.alloc (Obj.cells #[.slice a' es.length cp,.int .i64 (n:Nat)] 155)).drew).cell? ⟨b,off,none⟩=some (.int .u8 2):=hHeld.2.2;refine (HRD.out _ hbD1).mono ?_
  intro e2' w2 hr2
  obtain ⟨v,a2,l2,c2,M,t,rfl,hr3⟩:=hr2.form;have hbD:=hr3.out.1;have z2:=hbD.size
  simp only [World.size_drew,World.size_alloc] at z2
  have HB2:Hid (Below w.heap.size w w2):=HB.out.trans ((hbD1.trans (hbD.mono (by simp <;> omega))).mono hz1)
  dsimp only
  refine hK.out _ _ (⟨keep hbD (by simp <;> omega) e0,keep hbD (by simp <;> omega) e1,keep hbD (by simp <;> omega) e2⟩) (fun hHeld=>?_)
  clear hK K e0 e1 e2 hr2
  try simp only [tkS]
  refine tk 6 ?_
  try simp only [tkS]
  refine tk 7 ?_
  try simp only [tkS]
  refine tk 8 ?_
  try simp only [tkS]
  refine tk 9 ?_
  try simp only [tkS]
  have hH2:=hHeld;refine wpAnyH_ready (rs:=[10]) (by kernel_rfl) (by simp) ?_
  refine AllReadyH.cons rfl (fun K hK=>?_) AllReadyH.nil
  go_simp
  refine hK.out _ _ (⟨ze _ (by omega) hHeld.1,ze _ (by omega) hHeld.2.1,ze _ (by omega) hHeld.2.2⟩) (fun hHeld=>?_)
  clear hK K
  try simp only [tkS]
  refine wpAnyH_ready (rs:=[11]) (by kernel_rfl) (by simp) ?_
  refine AllReadyH.cons rfl (fun K hK=>?_) AllReadyH.nil
  go_simp
  refine hK.out _ _ (hHeld) (fun hHeld=>?_)
  clear hK K
  try simp only [tkS]
  refine wpAnyH_ready (rs:=[12]) (by kernel_rfl) (by simp) ?_
  refine AllReadyH.cons rfl (fun K hK=>?_) AllReadyH.nil
  go_simp
  refine hK.out _ _ (⟨ze _ (by omega) hH2.1,ze _ (by omega) hH2.2.1,ze _ (by omega) hH2.2.2⟩) (fun hHeld=>?_)
  clear hK K
  try simp only [tkS]
  refine wpAnyH_ready (rs:=[13]) (by kernel_rfl) (by simp) ?_
  refine AllReadyH.cons rfl (fun K hK=>?_) AllReadyH.nil
  go_simp
  refine hK.out _ _ (hHeld) (fun hHeld=>?_)
  clear hK K
  try simp only [tkS]
  refine wpAnyH_done (by kernel_rfl) ?_ _
  simp only [z0i,List.drop_succ_cons,List.drop_zero]
  have HBF:Hid (Below w.heap.size w (w2.alloc (Obj.cells #[.slice a2 l2 c2,.int .i64 M] 155))):=HB2.out.alloc (by omega) _
  have hOF:Only (fun k=>k=w2.heap.size) w2 (w2.alloc (Obj.cells #[.slice a2 l2 c2,.int .i64 M] 155)):=Only.alloc (Only.refl (fun k=>k=w2.heap.size) w2) _
  have hF:(w2.alloc (Obj.cells #[.slice a2 l2 c2,.int .i64 M] 155)).cell? ⟨w2.heap.size,0,none⟩=some (.slice a2 l2 c2)/\(w2.alloc (Obj.cells #[.slice a2 l2 c2,.int .i64 M] 155)).cell? ⟨w2.heap.size,1,none⟩=some (.int .i64 M):=⟨by simp,by simp⟩
  have HT:Hid (SyT n V 2 w (w2.alloc (Obj.cells #[.slice a2 l2 c2,.int .i64 M] 155)) (w2.heap.size) v a2 l2 c2 M t):=hr3.out.syt HBF.out hOF (by first | exact .inr nl | exact .inl (by simp)) (by first | exact hF.1 | simp) (by first | exact hF.2 | simp)
  clear hHeld HBF hOF hF hbD hr3 HB2 hbD1;generalize w2.alloc (Obj.cells #[.slice a2 l2 c2,.int .i64 M] 155)=W3 at *;obtain ⟨hbW,d0,d1,hcase⟩:=HT.out;clear HT;rcases hcase with ⟨rfl,ts,N,U,a1,c1',hrds,rfl,rfl,rfl,hins,hbyt⟩ | ⟨rfl,hno⟩
  ·obtain ⟨hs40,hts⟩:=hrds.rng
   have h8:=z00 V 0 8;have hNn:=hrds.le;have HUS:=z0y a1 c1' ts a2 c2 (enc N U) N U W3 hins hbyt rfl (by have:=HQ.out.1;omega) hs40 (by omega)
   have HRS:Hid (RdS n V 2 ts N U/\Below w.heap.size w W3):=⟨hrds,hbW⟩;have hzW:=hbW.size;clear hs40 hts h8 hins hbyt hrds hbW;generalize enc N U=fs at *;go_wp2_with fail
   refine HUS.mono ?_;clear HUS d0 d1;rintro e w4 ⟨hb4,hy4,hn4⟩;have HB4:Hid (Below w.heap.size w w4):=HRS.out.2.trans (hb4.mono hzW);clear hb4
   cases hu:uqF N U ts with
   | none=>
    obtain ⟨v4,rfl⟩:=hn4 hu;have HNO:Hid (¬∃ bs,RbY (some (n,V)) 2 zs bs):=by
     rintro ⟨bs,hbs⟩;obtain ⟨-,ts',M',U',ss,h1,h2,-⟩:=z03 (by omega) hbs
     obtain ⟨rfl,rfl,rfl⟩:=HRS.out.1.unique h1;rw [hu] at h2
     cases h2
    clear hy4 hn4 hu;go_wp2
    go_ret2
    exact DcP.no HB4.out HNO.out _ rfl
   | some cs=>
    obtain ⟨v4,ss,rfl,hct,hoq,hdq,hsm,hln⟩:=hy4 cs hu;obtain ⟨va,vc,rfl⟩:=hoq.form;have hsq:Sqs w4 va ss:=hoq.sqs (fun z hz=>⟨hsm.rng z hz,hdq.byt hz⟩)
    have HCS:Hid (ss.map Sq.ct=cs/\uqF N U ts=some cs):=⟨hct,hu⟩;have HK:=z17 va vc ss w4 hsq (by omega) (fun z hz=>by have:=hsm z hz;omega)
    have HSQ:Hid (Sqs w4 va ss):=hsq;clear hy4 hn4 hu hct hoq hdq hsm hsq;go_wp2_with fail
    refine HK.mono ?_;clear HK;rintro e w5 ⟨rfl,hb5⟩;have HB5:Hid (Below w.heap.size w w5):=HB4.out.trans (hb5.mono HB4.out.size);have HSQ5:Hid (Sqs w5 va ss):=HSQ.out.below hb5 nl;clear hb5 HSQ HB4
    cases hso:(sqn ss).isSome with
    | false=>
     have HNO:Hid (¬∃ bs,RbY (some (n,V)) 2 zs bs):=by
      rintro ⟨bs,hbs⟩;obtain ⟨-,ts',M',U',ss',h1,h2,h3,-⟩:=z03 (by omega) hbs
      obtain ⟨rfl,rfl,rfl⟩:=HRS.out.1.unique h1;rw [HCS.out.2] at h2;have hc:ss.map Sq.ct=ss'.map Sq.ct:=by rw [HCS.out.1];simpa using h2
      rw [<-z4t hc,hso] at h3
      cases h3
     clear hso;go_wp2
     go_ret2
     exact DcP.no HB5.out HNO.out _ rfl
    | true=>
     obtain ⟨k,hk⟩:=Option.isSome_iff_exists.1 hso;have HX:=z2f va vc ss w5 HSQ5.out k hk;have HOY:Hid (OsY n V 2 (exb ss ss.length)):=⟨ts,N,U,ss,HRS.out.1,by rw [HCS.out.2,HCS.out.1],hso,rfl⟩
     clear hso hk;obtain ⟨bs,hbs⟩:∃ bs,bs=exb ss ss.length:=⟨_,rfl⟩;rw [<-hbs] at HX HOY;clear hbs;have hz5:=HB5.out.size;go_wp2_with fail
     refine HX.mono ?_;clear HX;rintro e w6 ⟨⟨v6,rfl,hv6⟩,hb6⟩;obtain ⟨a6,c6,rfl⟩:=hv6.form;have HF:Hid (Below w.heap.size w w6/\OVB w6 w.heap.size (.slice a6 bs.length c6) bs):=by
      refine ⟨HB5.out.trans (hb6.mono hz5),⟨hv6.1.1,?_⟩,hv6.2⟩;rcases hv6.1.2 with h | ⟨g',cap',cur,he,hg,r⟩
      ·exact .inl h
      ·exact .inr ⟨g',cap',cur,he,by omega,r⟩
     clear hv6 hb6
     by_cases h64:bs.length=64
     ·have h64':((bs.length:Int) == 64)=true:=by rw [h64];rfl
      have HL:Hid (bs.length=64/\True):=⟨h64,trivial⟩;clear h64;go_wp2
      go_ret2
      refine DcP.yes HF.out.1 bs _ (z72 (by omega) HL.out.1 HOY.out) HF.out.2 ?_
      simp [HL.out.1]
     ·have h64':((bs.length:Int) == 64)=false:=by simp;omega
      have HL:Hid (¬bs.length=64):=h64;clear h64;go_wp2
      go_ret2
      refine DcP.no HF.out.1 ?_ (.slice a6 bs.length c6) ?_
      ·rintro ⟨bs',hbs'⟩
       obtain ⟨h0,hy⟩:=z03 (by omega) hbs'
       rw [hy.unique HOY.out] at h0;exact HL.out h0
      ·have h9:¬((bs.length:Int)=64):=by have:=HL.out;omega
       simp [h9]
  ·have HNO:Hid (¬∃ bs,RbY (some (n,V)) 2 zs bs):=by
    rintro ⟨bs,hbs⟩;obtain ⟨-,ts',M',U',ss,h1,-⟩:=z03 (by omega) hbs
    exact hno ⟨_,_,_,h1⟩
   have HBW:Hid (Below w.heap.size w W3):=hbW;clear hno hbW;go_wp2
   go_ret2
   exact DcP.no HBW.out HNO.out _ rfl
 ·go_simp
  refine hK.out _ _ (⟨ze _ (by simp) (by simp),ze _ (by simp) (by simp),ze _ (by simp <;> omega) (ze _ hbl1 c1)⟩) (fun hHeld=>?_)
  clear hK K
  try simp only [tkS]
  refine wpAnyH_ready (rs:=[5]) (by kernel_rfl) (by simp) ?_
  refine AllReadyH.cons rfl (fun K hK=>?_) AllReadyH.nil
  go_simp
  rw [show IntKind.i64.wrap 2=2 from rfl]
  have hbD1:Below w1.heap.size w1 (((w1.alloc (Obj.cells #[.slice a' es.length cp,.int .i64 (n:Nat)] 155)).alloc (Obj.cells #[.slice none 0 0,.int .i64 0] 155)).drew):=(((Below.refl _ _).alloc nl _).alloc (by simp) _).drew
  have e0:(((w1.alloc (Obj.cells #[.slice a' es.length cp,.int .i64 (n:Nat)] 155)).alloc (Obj.cells #[.slice none 0 0,.int .i64 0] 155)).drew).cell? ⟨w1.heap.size,0,none⟩=some (.slice a' es.length cp):=hHeld.1;have e1:(((w1.alloc (Obj.cells #[.slice a' es.length cp,.int .i64 (n:Nat)] 155)).alloc (Obj.cells #[.slice none 0 0,.int .i64 0] 155)).drew).cell? ⟨w1.heap.size,1,none⟩=some (.int .i64 (n:Nat)):=hHeld.2.1
  have e2:(((w1.alloc (Obj.cells #[.slice a' es.length cp,.int .i64 (n:Nat)] 155)).alloc (Obj.cells #[.slice none 0 0,.int .i64 0] 155)).drew).cell? ⟨b,off,none⟩=some (.int .u8 2):=hHeld.2.2;refine (HRD.out _ hbD1).mono ?_
  intro e2' w2 hr2
  obtain ⟨v,a2,l2,c2,M,t,rfl,hr3⟩:=hr2.form;have hbD:=hr3.out.1;have z2:=hbD.size
  simp only [World.size_drew,World.size_alloc] at z2
  have HB2:Hid (Below w.heap.size w w2):=HB.out.trans ((hbD1.trans (hbD.mono (by simp <;> omega))).mono hz1)
  obtain ⟨k0,k1,k2,k3⟩:=RdF.late hr3 (w1.heap.size+1) ⟨by simp,by simp,by simp,by simp,by simp⟩
  dsimp only
  refine hK.out _ _ (⟨keep hbD (by simp <;> omega) e0,keep hbD (by simp <;> omega) e1,keep hbD (by simp <;> omega) e2⟩) (fun hHeld=>?_)
  clear hK K
  try simp only [tkS]
  refine tk 6 ?_
  try simp only [tkS]
  refine tk 7 ?_
  try simp only [tkS]
  refine tk 8 ?_
  try simp only [tkS]
  refine tk 9 ?_
  try simp only [tkS]
  refine wpAnyH_ready (rs:=[11]) (by kernel_rfl) (by simp) ?_
  refine AllReadyH.cons rfl (fun K hK=>?_) AllReadyH.nil
  go_simp
  refine hK.out _ _ (hHeld) (fun hHeld=>?_)
  clear hK K
  try simp only [tkS]
  refine wpAnyH_ready (rs:=[12]) (by kernel_rfl) (by simp) ?_
  refine AllReadyH.cons rfl (fun K hK=>?_) AllReadyH.nil
  have hOS:Only (fun k=>k=w1.heap.size+1) (w2) ((w2.setCell ⟨w1.heap.size+1,0,none⟩ (.slice a2 l2 c2)).setCell ⟨w1.heap.size+1,1,none⟩ (.int .i64 M)):=Only.setCell (Only.setCell (Only.refl (fun k=>k=w1.heap.size+1) _) (p:=⟨w1.heap.size+1,0,none⟩) (.inl rfl) _) (p:=⟨w1.heap.size+1,1,none⟩) (.inl rfl) _
  go_simp
  refine hK.out _ _ (⟨hOS.cell (by first | omega | (simp <;> omega)) (by first | omega | (simp <;> omega)) hHeld.1,hOS.cell (by first | omega | (simp <;> omega)) (by first | omega | (simp <;> omega)) hHeld.2.1,hOS.cell (by first | omega | (simp <;> omega)) (by first | omega | (simp <;> omega)) hHeld.2.2⟩) (fun hHeld=>?_)
  clear hK K
  try simp only [tkS]
  refine wpAnyH_ready (rs:=[13]) (by kernel_rfl) (by simp) ?_
  refine AllReadyH.cons rfl (fun K hK=>?_) AllReadyH.nil
  go_simp
  refine hK.out _ _ (hHeld) (fun hHeld=>?_)
  clear hK K
  try simp only [tkS]
  refine wpAnyH_done (by kernel_rfl) ?_ _
  simp only [z0i,List.drop_succ_cons,List.drop_zero]
  have HBF:Hid (Below w.heap.size w ((w2.setCell ⟨w1.heap.size+1,0,none⟩ (.slice a2 l2 c2)).setCell ⟨w1.heap.size+1,1,none⟩ (.int .i64 M))):=(HB2.out.setCell (by simp <;> omega) _).setCell (by simp <;> omega) _
  have hOF:Only (fun k=>k=w1.heap.size+1) w2 ((w2.setCell ⟨w1.heap.size+1,0,none⟩ (.slice a2 l2 c2)).setCell ⟨w1.heap.size+1,1,none⟩ (.int .i64 M)):=hOS
  have hF:((w2.setCell ⟨w1.heap.size+1,0,none⟩ (.slice a2 l2 c2)).setCell ⟨w1.heap.size+1,1,none⟩ (.int .i64 M)).cell? ⟨w1.heap.size+1,0,none⟩=some (.slice a2 l2 c2)/\((w2.setCell ⟨w1.heap.size+1,0,none⟩ (.slice a2 l2 c2)).setCell ⟨w1.heap.size+1,1,none⟩ (.int .i64 M)).cell? ⟨w1.heap.size+1,1,none⟩=some (.int .i64 M):=⟨by simp [go_sem,k0,k1],by simp [go_sem,k0,k1]⟩
  have HT:Hid (SyT n V 2 w ((w2.setCell ⟨w1.heap.size+1,0,none⟩ (.slice a2 l2 c2)).setCell ⟨w1.heap.size+1,1,none⟩ (.int .i64 M)) (w1.heap.size+1) v a2 l2 c2 M t):=hr3.out.syt HBF.out hOF (by first | exact .inr nl | exact .inl (by simp)) (by first | exact hF.1 | simp) (by first | exact hF.2 | simp)
  clear hHeld HBF hOF hF hbD hr3 HB2 hbD1;generalize (w2.setCell ⟨w1.heap.size+1,0,none⟩ (.slice a2 l2 c2)).setCell ⟨w1.heap.size+1,1,none⟩ (.int .i64 M)=W3 at *;obtain ⟨hbW,d0,d1,hcase⟩:=HT.out;clear HT;rcases hcase with ⟨rfl,ts,N,U,a1,c1',hrds,rfl,rfl,rfl,hins,hbyt⟩ | ⟨rfl,hno⟩
  ·obtain ⟨hs40,hts⟩:=hrds.rng
   have h8:=z00 V 0 8;have hNn:=hrds.le;have HUS:=z0y a1 c1' ts a2 c2 (enc N U) N U W3 hins hbyt rfl (by have:=HQ.out.1;omega) hs40 (by omega)
   have HRS:Hid (RdS n V 2 ts N U/\Below w.heap.size w W3):=⟨hrds,hbW⟩;have hzW:=hbW.size;clear hs40 hts h8 hins hbyt hrds hbW;generalize enc N U=fs at *;go_wp2_with fail
   refine HUS.mono ?_;clear HUS d0 d1;rintro e w4 ⟨hb4,hy4,hn4⟩;have HB4:Hid (Below w.heap.size w w4):=HRS.out.2.trans (hb4.mono hzW);clear hb4
   cases hu:uqF N U ts with
   | none=>
    obtain ⟨v4,rfl⟩:=hn4 hu;have HNO:Hid (¬∃ bs,RbY (some (n,V)) 2 zs bs):=by
     rintro ⟨bs,hbs⟩;obtain ⟨-,ts',M',U',ss,h1,h2,-⟩:=z03 (by omega) hbs
     obtain ⟨rfl,rfl,rfl⟩:=HRS.out.1.unique h1;rw [hu] at h2
     cases h2
    clear hy4 hn4 hu;go_wp2
    go_ret2
    exact DcP.no HB4.out HNO.out _ rfl
   | some cs=>
    obtain ⟨v4,ss,rfl,hct,hoq,hdq,hsm,hln⟩:=hy4 cs hu;obtain ⟨va,vc,rfl⟩:=hoq.form;have hsq:Sqs w4 va ss:=hoq.sqs (fun z hz=>⟨hsm.rng z hz,hdq.byt hz⟩)
    have HCS:Hid (ss.map Sq.ct=cs/\uqF N U ts=some cs):=⟨hct,hu⟩;have HK:=z17 va vc ss w4 hsq (by omega) (fun z hz=>by have:=hsm z hz;omega)
    have HSQ:Hid (Sqs w4 va ss):=hsq;clear hy4 hn4 hu hct hoq hdq hsm hsq;go_wp2_with fail
    refine HK.mono ?_;clear HK;rintro e w5 ⟨rfl,hb5⟩;have HB5:Hid (Below w.heap.size w w5):=HB4.out.trans (hb5.mono HB4.out.size);have HSQ5:Hid (Sqs w5 va ss):=HSQ.out.below hb5 nl;clear hb5 HSQ HB4
    cases hso:(sqn ss).isSome with
    | false=>
     have HNO:Hid (¬∃ bs,RbY (some (n,V)) 2 zs bs):=by
      rintro ⟨bs,hbs⟩;obtain ⟨-,ts',M',U',ss',h1,h2,h3,-⟩:=z03 (by omega) hbs
      obtain ⟨rfl,rfl,rfl⟩:=HRS.out.1.unique h1;rw [HCS.out.2] at h2;have hc:ss.map Sq.ct=ss'.map Sq.ct:=by rw [HCS.out.1];simpa using h2
      rw [<-z4t hc,hso] at h3
      cases h3
     clear hso;go_wp2
     go_ret2
     exact DcP.no HB5.out HNO.out _ rfl
    | true=>
     obtain ⟨k,hk⟩:=Option.isSome_iff_exists.1 hso;have HX:=z2f va vc ss w5 HSQ5.out k hk;have HOY:Hid (OsY n V 2 (exb ss ss.length)):=⟨ts,N,U,ss,HRS.out.1,by rw [HCS.out.2,HCS.out.1],hso,rfl⟩
     clear hso hk;obtain ⟨bs,hbs⟩:∃ bs,bs=exb ss ss.length:=⟨_,rfl⟩;rw [<-hbs] at HX HOY;clear hbs;have hz5:=HB5.out.size;go_wp2_with fail
     refine HX.mono ?_;clear HX;rintro e w6 ⟨⟨v6,rfl,hv6⟩,hb6⟩;obtain ⟨a6,c6,rfl⟩:=hv6.form;have HF:Hid (Below w.heap.size w w6/\OVB w6 w.heap.size (.slice a6 bs.length c6) bs):=by
      refine ⟨HB5.out.trans (hb6.mono hz5),⟨hv6.1.1,?_⟩,hv6.2⟩;rcases hv6.1.2 with h | ⟨g',cap',cur,he,hg,r⟩
      ·exact .inl h
      ·exact .inr ⟨g',cap',cur,he,by omega,r⟩
     clear hv6 hb6
     by_cases h64:bs.length=64
     ·have h64':((bs.length:Int) == 64)=true:=by rw [h64];rfl
      have HL:Hid (bs.length=64/\True):=⟨h64,trivial⟩;clear h64;go_wp2
      go_ret2
      refine DcP.yes HF.out.1 bs _ (z72 (by omega) HL.out.1 HOY.out) HF.out.2 ?_
      simp [HL.out.1]
     ·have h64':((bs.length:Int) == 64)=false:=by simp;omega
      have HL:Hid (¬bs.length=64):=h64;clear h64;go_wp2
      go_ret2
      refine DcP.no HF.out.1 ?_ (.slice a6 bs.length c6) ?_
      ·rintro ⟨bs',hbs'⟩
       obtain ⟨h0,hy⟩:=z03 (by omega) hbs'
       rw [hy.unique HOY.out] at h0;exact HL.out h0
      ·have h9:¬((bs.length:Int)=64):=by have:=HL.out;omega
       simp [h9]
  ·have HNO:Hid (¬∃ bs,RbY (some (n,V)) 2 zs bs):=by
    rintro ⟨bs,hbs⟩;obtain ⟨-,ts',M',U',ss,h1,-⟩:=z03 (by omega) hbs
    exact hno ⟨_,_,_,h1⟩
   have HBW:Hid (Below w.heap.size w W3):=hbW;clear hno hbW;go_wp2
   go_ret2
   exact DcP.no HBW.out HNO.out _ rfl
theorem z9k (a:Option Addr) (cap:Nat) (zs:List Int) (n V:Nat) (w:World) (hb:Byt w a (((3:Nat):Int) :: zs)) (h1:1<=zs.length) (h2:zs.length<=64) (hcap:zs.length+1<=cap) (hO:z3n zs (some (n,V))) (hR:RdC) :
  Calls Tryz.prog 82 #[.slice a (zs.length+1) cap] w (DcP (some (n,V)) 3 zs w):=by
 obtain ⟨b,off,rfl,hbl,c0,hbt,hm0,hm1⟩:=hb.head1;have HC:=hO.2.2.1 _ (cap-1) w (by omega) hbt
 have HQ:Hid (n<=4096/\V<2 ^ n/\RdC):=⟨hO.1,hO.2.1,hR⟩;clear hb hbt hO hR;have g1:¬((zs.length:Int)+1<2):=by omega
 have g2:¬((65:Int)<(zs.length:Int)+1):=by omega
 have g3:(0:Int)<(zs.length:Int)+1:=by omega
 have g6:(1:Int)<=(zs.length:Int)+1:=by omega
 have g4:¬cap=1:=by omega
 have g5:¬cap=0:=by omega
 go_enter Tryz.func82,Tryz.ntmps82
 simp only [Int.cast_ofNat_Int] at c0
 go_wp2_with fail
 refine HC.mono ?_;clear HC;rintro e w1 ⟨a',cp,rfl,hmn,hb1⟩
 dsimp only at hmn ⊢
 obtain ⟨es,hes⟩:∃ es,es=enc n V:=⟨_,rfl⟩;rw [<-hes] at hmn ⊢;have HES:Hid (es=enc n V/\Byt w1 a' es):=⟨hes,hmn.byt⟩;have HB:Hid (Below w.heap.size w w1):=hb1;have hz1:=hb1.size;have c1:w1.cell? ⟨b,off,none⟩=some (.int .u8 3):=keep hb1 hbl c0;have hbl1:b<w1.heap.size:=by omega
 clear hb1 hmn hes;have HRD:Hid (∀ W,Below w1.heap.size w1 W->Calls Tryz.prog 118 #[.agg #[.slice a' es.length cp,.int .i64 (n:Nat)],.int .i64 3] W (RdR n V 3 W)):=fun W hW=>by
  have:=HQ.out.2.2 n V 3 a' cp W HQ.out.1 HQ.out.2.1 (by omega) (by rw [<-HES.out.1];exact HES.out.2.below hW nl)
  rw [<-HES.out.1] at this;exact this
 go_wp2_with fail
 refine zh (S:=fun W=>W.cell? ⟨w1.heap.size,0,none⟩=some (.slice a' es.length cp)/\W.cell? ⟨w1.heap.size,1,none⟩=some (.int .i64 (n:Nat))/\W.cell? ⟨b,off,none⟩=some (.int .u8 3)) 14 (by kernel_rfl) (by kernel_rfl) (⟨by simp,by simp,by first | exact ze _ hbl1 c1 | (simp;exact ze _ hbl1 c1)⟩) (fun hHeld=>?_)
 refine tk 0 ?_
 try simp only [tkS]
 refine tk 1 ?_
 try simp only [tkS]
 refine tk 2 ?_
 try simp only [tkS]
 refine tk 3 ?_
 try simp only [tkS]
 refine tk 4 ?_
 try simp only [tkS]
 refine wpAnyH_ready (rs:=[5,10]) (by kernel_rfl) (by simp) ?_
 refine AllReadyH.cons rfl (fun K hK=>?_) (AllReadyH.cons rfl (fun K hK=>?_) AllReadyH.nil)
 ·go_simp
  rw [show IntKind.i64.wrap 3=3 from rfl]
  have hbD1:Below w1.heap.size w1 ((w1.alloc (Obj.cells #[.slice a' es.length cp,.int .i64 (n:Nat)] 155)).drew):=((Below.refl _ _).alloc nl _).drew;have e0:((w1.alloc (Obj.cells #[.slice a' es.length cp,.int .i64 (n:Nat)] 155)).drew).cell? ⟨w1.heap.size,0,none⟩=some (.slice a' es.length cp):=hHeld.1;have e1:((w1.alloc (Obj.cells #[.slice a' es.length cp,.int .i64 (n:Nat)] 155)).drew).cell? ⟨w1.heap.size,1,none⟩=some (.int .i64 (n:Nat)):=hHeld.2.1
  have e2:((w1.alloc (Obj.cells #[.slice a' es.length cp,.int .i64 (n:Nat)] 155)).drew).cell? ⟨b,off,none⟩=some (.int .u8 3):=hHeld.2.2;refine (HRD.out _ hbD1).mono ?_
  intro e2' w2 hr2
  obtain ⟨v,a2,l2,c2,M,t,rfl,hr3⟩:=hr2.form;have hbD:=hr3.out.1;have z2:=hbD.size
  simp only [World.size_drew,World.size_alloc] at z2
  have HB2:Hid (Below w.heap.size w w2):=HB.out.trans ((hbD1.trans (hbD.mono (by simp <;> omega))).mono hz1)
  dsimp only
  refine hK.out _ _ (⟨keep hbD (by simp <;> omega) e0,keep hbD (by simp <;> omega) e1,keep hbD (by simp <;> omega) e2⟩) (fun hHeld=>?_)
  clear hK K e0 e1 e2 hr2
  try simp only [tkS]
  refine tk 6 ?_
  try simp only [tkS]
  refine tk 7 ?_
  try simp only [tkS]
  refine tk 8 ?_
  try simp only [tkS]
  refine tk 9 ?_
  try simp only [tkS]
  have hH2:=hHeld;refine wpAnyH_ready (rs:=[10]) (by kernel_rfl) (by simp) ?_
  refine AllReadyH.cons rfl (fun K hK=>?_) AllReadyH.nil
  go_simp
  refine hK.out _ _ (⟨ze _ (by omega) hHeld.1,ze _ (by omega) hHeld.2.1,ze _ (by omega) hHeld.2.2⟩) (fun hHeld=>?_)
  clear hK K
  try simp only [tkS]
  refine wpAnyH_ready (rs:=[11]) (by kernel_rfl) (by simp) ?_
  refine AllReadyH.cons rfl (fun K hK=>?_) AllReadyH.nil
  go_simp
  refine hK.out _ _ (hHeld) (fun hHeld=>?_)
  clear hK K
  try simp only [tkS]
  refine wpAnyH_ready (rs:=[12]) (by kernel_rfl) (by simp) ?_
  refine AllReadyH.cons rfl (fun K hK=>?_) AllReadyH.nil
  go_simp
  refine hK.out _ _ (⟨ze _ (by omega) hH2.1,ze _ (by omega) hH2.2.1,ze _ (by omega) hH2.2.2⟩) (fun hHeld=>?_)
  clear hK K
  try simp only [tkS]
  refine wpAnyH_ready (rs:=[13]) (by kernel_rfl) (by simp) ?_
  refine AllReadyH.cons rfl (fun K hK=>?_) AllReadyH.nil
  go_simp
  refine hK.out _ _ (hHeld) (fun hHeld=>?_)
  clear hK K
  try simp only [tkS]
  refine wpAnyH_done (by kernel_rfl) ?_ _
  simp only [z0i,List.drop_succ_cons,List.drop_zero]
  have HBF:Hid (Below w.heap.size w (w2.alloc (Obj.cells #[.slice a2 l2 c2,.int .i64 M] 155))):=HB2.out.alloc (by omega) _
  have hOF:Only (fun k=>k=w2.heap.size) w2 (w2.alloc (Obj.cells #[.slice a2 l2 c2,.int .i64 M] 155)):=Only.alloc (Only.refl (fun k=>k=w2.heap.size) w2) _
  have hF:(w2.alloc (Obj.cells #[.slice a2 l2 c2,.int .i64 M] 155)).cell? ⟨w2.heap.size,0,none⟩=some (.slice a2 l2 c2)/\(w2.alloc (Obj.cells #[.slice a2 l2 c2,.int .i64 M] 155)).cell? ⟨w2.heap.size,1,none⟩=some (.int .i64 M):=⟨by simp,by simp⟩
  have HT:Hid (SyT n V 3 w (w2.alloc (Obj.cells #[.slice a2 l2 c2,.int .i64 M] 155)) (w2.heap.size) v a2 l2 c2 M t):=hr3.out.syt HBF.out hOF (by first | exact .inr nl | exact .inl (by simp)) (by first | exact hF.1 | simp) (by first | exact hF.2 | simp)
  clear hHeld HBF hOF hF hbD hr3 HB2 hbD1;generalize w2.alloc (Obj.cells #[.slice a2 l2 c2,.int .i64 M] 155)=W3 at *;obtain ⟨hbW,d0,d1,hcase⟩:=HT.out;clear HT;rcases hcase with ⟨rfl,ts,N,U,a1,c1',hrds,rfl,rfl,rfl,hins,hbyt⟩ | ⟨rfl,hno⟩
  ·obtain ⟨hs40,hts⟩:=hrds.rng
   have h8:=z00 V 0 8;have hNn:=hrds.le;have HUS:=z0y a1 c1' ts a2 c2 (enc N U) N U W3 hins hbyt rfl (by have:=HQ.out.1;omega) hs40 (by omega)
   have HRS:Hid (RdS n V 3 ts N U/\Below w.heap.size w W3):=⟨hrds,hbW⟩;have hzW:=hbW.size;clear hs40 hts h8 hins hbyt hrds hbW;generalize enc N U=fs at *;go_wp2_with fail
   refine HUS.mono ?_;clear HUS d0 d1;rintro e w4 ⟨hb4,hy4,hn4⟩;have HB4:Hid (Below w.heap.size w w4):=HRS.out.2.trans (hb4.mono hzW);clear hb4
   cases hu:uqF N U ts with
   | none=>
    obtain ⟨v4,rfl⟩:=hn4 hu;have HNO:Hid (¬∃ bs,RbY (some (n,V)) 3 zs bs):=by
     rintro ⟨bs,hbs⟩;obtain ⟨-,ts',M',U',ss,h1,h2,-⟩:=z03 (by omega) hbs
     obtain ⟨rfl,rfl,rfl⟩:=HRS.out.1.unique h1;rw [hu] at h2
     cases h2
    clear hy4 hn4 hu;go_wp2
    go_ret2
    exact DcP.no HB4.out HNO.out _ rfl
   | some cs=>
    obtain ⟨v4,ss,rfl,hct,hoq,hdq,hsm,hln⟩:=hy4 cs hu;obtain ⟨va,vc,rfl⟩:=hoq.form;have hsq:Sqs w4 va ss:=hoq.sqs (fun z hz=>⟨hsm.rng z hz,hdq.byt hz⟩)
    have HCS:Hid (ss.map Sq.ct=cs/\uqF N U ts=some cs):=⟨hct,hu⟩;have HK:=z17 va vc ss w4 hsq (by omega) (fun z hz=>by have:=hsm z hz;omega)
    have HSQ:Hid (Sqs w4 va ss):=hsq;clear hy4 hn4 hu hct hoq hdq hsm hsq;go_wp2_with fail
    refine HK.mono ?_;clear HK;rintro e w5 ⟨rfl,hb5⟩;have HB5:Hid (Below w.heap.size w w5):=HB4.out.trans (hb5.mono HB4.out.size);have HSQ5:Hid (Sqs w5 va ss):=HSQ.out.below hb5 nl;clear hb5 HSQ HB4
    cases hso:(sqn ss).isSome with
    | false=>
     have HNO:Hid (¬∃ bs,RbY (some (n,V)) 3 zs bs):=by
      rintro ⟨bs,hbs⟩;obtain ⟨-,ts',M',U',ss',h1,h2,h3,-⟩:=z03 (by omega) hbs
      obtain ⟨rfl,rfl,rfl⟩:=HRS.out.1.unique h1;rw [HCS.out.2] at h2;have hc:ss.map Sq.ct=ss'.map Sq.ct:=by rw [HCS.out.1];simpa using h2
      rw [<-z4t hc,hso] at h3
      cases h3
     clear hso;go_wp2
     go_ret2
     exact DcP.no HB5.out HNO.out _ rfl
    | true=>
     obtain ⟨k,hk⟩:=Option.isSome_iff_exists.1 hso;have HX:=z2f va vc ss w5 HSQ5.out k hk;have HOY:Hid (OsY n V 3 (exb ss ss.length)):=⟨ts,N,U,ss,HRS.out.1,by rw [HCS.out.2,HCS.out.1],hso,rfl⟩
     clear hso hk;obtain ⟨bs,hbs⟩:∃ bs,bs=exb ss ss.length:=⟨_,rfl⟩;rw [<-hbs] at HX HOY;clear hbs;have hz5:=HB5.out.size;go_wp2_with fail
     refine HX.mono ?_;clear HX;rintro e w6 ⟨⟨v6,rfl,hv6⟩,hb6⟩;obtain ⟨a6,c6,rfl⟩:=hv6.form;have HF:Hid (Below w.heap.size w w6/\OVB w6 w.heap.size (.slice a6 bs.length c6) bs):=by
      refine ⟨HB5.out.trans (hb6.mono hz5),⟨hv6.1.1,?_⟩,hv6.2⟩;rcases hv6.1.2 with h | ⟨g',cap',cur,he,hg,r⟩
      ·exact .inl h
      ·exact .inr ⟨g',cap',cur,he,by omega,r⟩
     clear hv6 hb6
     by_cases h64:bs.length=64
     ·have h64':((bs.length:Int) == 64)=true:=by rw [h64];rfl
      have HL:Hid (bs.length=64/\True):=⟨h64,trivial⟩;clear h64;go_wp2
      go_ret2
      refine DcP.yes HF.out.1 bs _ (z72 (by omega) HL.out.1 HOY.out) HF.out.2 ?_
      simp [HL.out.1]
     ·have h64':((bs.length:Int) == 64)=false:=by simp;omega
      have HL:Hid (¬bs.length=64):=h64;clear h64;go_wp2
      go_ret2
      refine DcP.no HF.out.1 ?_ (.slice a6 bs.length c6) ?_
      ·rintro ⟨bs',hbs'⟩
       obtain ⟨h0,hy⟩:=z03 (by omega) hbs'
       rw [hy.unique HOY.out] at h0;exact HL.out h0
      ·have h9:¬((bs.length:Int)=64):=by have:=HL.out;omega
       simp [h9]
  ·have HNO:Hid (¬∃ bs,RbY (some (n,V)) 3 zs bs):=by
    rintro ⟨bs,hbs⟩;obtain ⟨-,ts',M',U',ss,h1,-⟩:=z03 (by omega) hbs
    exact hno ⟨_,_,_,h1⟩
   have HBW:Hid (Below w.heap.size w W3):=hbW;clear hno hbW;go_wp2
   go_ret2
   exact DcP.no HBW.out HNO.out _ rfl
 ·go_simp
  refine hK.out _ _ (⟨ze _ (by simp) (by simp),ze _ (by simp) (by simp),ze _ (by simp <;> omega) (ze _ hbl1 c1)⟩) (fun hHeld=>?_)
  clear hK K
  try simp only [tkS]
  refine wpAnyH_ready (rs:=[5]) (by kernel_rfl) (by simp) ?_
  refine AllReadyH.cons rfl (fun K hK=>?_) AllReadyH.nil
  go_simp
  rw [show IntKind.i64.wrap 3=3 from rfl]
  have hbD1:Below w1.heap.size w1 (((w1.alloc (Obj.cells #[.slice a' es.length cp,.int .i64 (n:Nat)] 155)).alloc (Obj.cells #[.slice none 0 0,.int .i64 0] 155)).drew):=(((Below.refl _ _).alloc nl _).alloc (by simp) _).drew
  have e0:(((w1.alloc (Obj.cells #[.slice a' es.length cp,.int .i64 (n:Nat)] 155)).alloc (Obj.cells #[.slice none 0 0,.int .i64 0] 155)).drew).cell? ⟨w1.heap.size,0,none⟩=some (.slice a' es.length cp):=hHeld.1;have e1:(((w1.alloc (Obj.cells #[.slice a' es.length cp,.int .i64 (n:Nat)] 155)).alloc (Obj.cells #[.slice none 0 0,.int .i64 0] 155)).drew).cell? ⟨w1.heap.size,1,none⟩=some (.int .i64 (n:Nat)):=hHeld.2.1
  have e2:(((w1.alloc (Obj.cells #[.slice a' es.length cp,.int .i64 (n:Nat)] 155)).alloc (Obj.cells #[.slice none 0 0,.int .i64 0] 155)).drew).cell? ⟨b,off,none⟩=some (.int .u8 3):=hHeld.2.2;refine (HRD.out _ hbD1).mono ?_
  intro e2' w2 hr2
  obtain ⟨v,a2,l2,c2,M,t,rfl,hr3⟩:=hr2.form;have hbD:=hr3.out.1;have z2:=hbD.size
  simp only [World.size_drew,World.size_alloc] at z2
  have HB2:Hid (Below w.heap.size w w2):=HB.out.trans ((hbD1.trans (hbD.mono (by simp <;> omega))).mono hz1)
  obtain ⟨k0,k1,k2,k3⟩:=RdF.late hr3 (w1.heap.size+1) ⟨by simp,by simp,by simp,by simp,by simp⟩
  dsimp only
  refine hK.out _ _ (⟨keep hbD (by simp <;> omega) e0,keep hbD (by simp <;> omega) e1,keep hbD (by simp <;> omega) e2⟩) (fun hHeld=>?_)
  clear hK K
  try simp only [tkS]
  refine tk 6 ?_
  try simp only [tkS]
  refine tk 7 ?_
  try simp only [tkS]
  refine tk 8 ?_
  try simp only [tkS]
  refine tk 9 ?_
  try simp only [tkS]
  refine wpAnyH_ready (rs:=[11]) (by kernel_rfl) (by simp) ?_
  refine AllReadyH.cons rfl (fun K hK=>?_) AllReadyH.nil
  go_simp
  refine hK.out _ _ (hHeld) (fun hHeld=>?_)
  clear hK K
  try simp only [tkS]
  refine wpAnyH_ready (rs:=[12]) (by kernel_rfl) (by simp) ?_
  refine AllReadyH.cons rfl (fun K hK=>?_) AllReadyH.nil
  have hOS:Only (fun k=>k=w1.heap.size+1) (w2) ((w2.setCell ⟨w1.heap.size+1,0,none⟩ (.slice a2 l2 c2)).setCell ⟨w1.heap.size+1,1,none⟩ (.int .i64 M)):=Only.setCell (Only.setCell (Only.refl (fun k=>k=w1.heap.size+1) _) (p:=⟨w1.heap.size+1,0,none⟩) (.inl rfl) _) (p:=⟨w1.heap.size+1,1,none⟩) (.inl rfl) _
  go_simp
  refine hK.out _ _ (⟨hOS.cell (by first | omega | (simp <;> omega)) (by first | omega | (simp <;> omega)) hHeld.1,hOS.cell (by first | omega | (simp <;> omega)) (by first | omega | (simp <;> omega)) hHeld.2.1,hOS.cell (by first | omega | (simp <;> omega)) (by first | omega | (simp <;> omega)) hHeld.2.2⟩) (fun hHeld=>?_)
  clear hK K
  try simp only [tkS]
  refine wpAnyH_ready (rs:=[13]) (by kernel_rfl) (by simp) ?_
  refine AllReadyH.cons rfl (fun K hK=>?_) AllReadyH.nil
  go_simp
  refine hK.out _ _ (hHeld) (fun hHeld=>?_)
  clear hK K
  try simp only [tkS]
  refine wpAnyH_done (by kernel_rfl) ?_ _
  simp only [z0i,List.drop_succ_cons,List.drop_zero]
  have HBF:Hid (Below w.heap.size w ((w2.setCell ⟨w1.heap.size+1,0,none⟩ (.slice a2 l2 c2)).setCell ⟨w1.heap.size+1,1,none⟩ (.int .i64 M))):=(HB2.out.setCell (by simp <;> omega) _).setCell (by simp <;> omega) _
  have hOF:Only (fun k=>k=w1.heap.size+1) w2 ((w2.setCell ⟨w1.heap.size+1,0,none⟩ (.slice a2 l2 c2)).setCell ⟨w1.heap.size+1,1,none⟩ (.int .i64 M)):=hOS
  have hF:((w2.setCell ⟨w1.heap.size+1,0,none⟩ (.slice a2 l2 c2)).setCell ⟨w1.heap.size+1,1,none⟩ (.int .i64 M)).cell? ⟨w1.heap.size+1,0,none⟩=some (.slice a2 l2 c2)/\((w2.setCell ⟨w1.heap.size+1,0,none⟩ (.slice a2 l2 c2)).setCell ⟨w1.heap.size+1,1,none⟩ (.int .i64 M)).cell? ⟨w1.heap.size+1,1,none⟩=some (.int .i64 M):=⟨by simp [go_sem,k0,k1],by simp [go_sem,k0,k1]⟩
  have HT:Hid (SyT n V 3 w ((w2.setCell ⟨w1.heap.size+1,0,none⟩ (.slice a2 l2 c2)).setCell ⟨w1.heap.size+1,1,none⟩ (.int .i64 M)) (w1.heap.size+1) v a2 l2 c2 M t):=hr3.out.syt HBF.out hOF (by first | exact .inr nl | exact .inl (by simp)) (by first | exact hF.1 | simp) (by first | exact hF.2 | simp)
  clear hHeld HBF hOF hF hbD hr3 HB2 hbD1;generalize (w2.setCell ⟨w1.heap.size+1,0,none⟩ (.slice a2 l2 c2)).setCell ⟨w1.heap.size+1,1,none⟩ (.int .i64 M)=W3 at *;obtain ⟨hbW,d0,d1,hcase⟩:=HT.out;clear HT;rcases hcase with ⟨rfl,ts,N,U,a1,c1',hrds,rfl,rfl,rfl,hins,hbyt⟩ | ⟨rfl,hno⟩
  ·obtain ⟨hs40,hts⟩:=hrds.rng
   have h8:=z00 V 0 8;have hNn:=hrds.le;have HUS:=z0y a1 c1' ts a2 c2 (enc N U) N U W3 hins hbyt rfl (by have:=HQ.out.1;omega) hs40 (by omega)
   have HRS:Hid (RdS n V 3 ts N U/\Below w.heap.size w W3):=⟨hrds,hbW⟩;have hzW:=hbW.size;clear hs40 hts h8 hins hbyt hrds hbW;generalize enc N U=fs at *;go_wp2_with fail
   refine HUS.mono ?_;clear HUS d0 d1;rintro e w4 ⟨hb4,hy4,hn4⟩;have HB4:Hid (Below w.heap.size w w4):=HRS.out.2.trans (hb4.mono hzW);clear hb4
   cases hu:uqF N U ts with
   | none=>
    obtain ⟨v4,rfl⟩:=hn4 hu;have HNO:Hid (¬∃ bs,RbY (some (n,V)) 3 zs bs):=by
     rintro ⟨bs,hbs⟩;obtain ⟨-,ts',M',U',ss,h1,h2,-⟩:=z03 (by omega) hbs
     obtain ⟨rfl,rfl,rfl⟩:=HRS.out.1.unique h1;rw [hu] at h2
     cases h2
    clear hy4 hn4 hu;go_wp2
    go_ret2
    exact DcP.no HB4.out HNO.out _ rfl
   | some cs=>
    obtain ⟨v4,ss,rfl,hct,hoq,hdq,hsm,hln⟩:=hy4 cs hu;obtain ⟨va,vc,rfl⟩:=hoq.form;have hsq:Sqs w4 va ss:=hoq.sqs (fun z hz=>⟨hsm.rng z hz,hdq.byt hz⟩)
    have HCS:Hid (ss.map Sq.ct=cs/\uqF N U ts=some cs):=⟨hct,hu⟩;have HK:=z17 va vc ss w4 hsq (by omega) (fun z hz=>by have:=hsm z hz;omega)
    have HSQ:Hid (Sqs w4 va ss):=hsq;clear hy4 hn4 hu hct hoq hdq hsm hsq;go_wp2_with fail
    refine HK.mono ?_;clear HK;rintro e w5 ⟨rfl,hb5⟩;have HB5:Hid (Below w.heap.size w w5):=HB4.out.trans (hb5.mono HB4.out.size);have HSQ5:Hid (Sqs w5 va ss):=HSQ.out.below hb5 nl;clear hb5 HSQ HB4
    cases hso:(sqn ss).isSome with
    | false=>
     have HNO:Hid (¬∃ bs,RbY (some (n,V)) 3 zs bs):=by
      rintro ⟨bs,hbs⟩;obtain ⟨-,ts',M',U',ss',h1,h2,h3,-⟩:=z03 (by omega) hbs
      obtain ⟨rfl,rfl,rfl⟩:=HRS.out.1.unique h1;rw [HCS.out.2] at h2;have hc:ss.map Sq.ct=ss'.map Sq.ct:=by rw [HCS.out.1];simpa using h2
      rw [<-z4t hc,hso] at h3
      cases h3
     clear hso;go_wp2
     go_ret2
     exact DcP.no HB5.out HNO.out _ rfl
    | true=>
     obtain ⟨k,hk⟩:=Option.isSome_iff_exists.1 hso;have HX:=z2f va vc ss w5 HSQ5.out k hk;have HOY:Hid (OsY n V 3 (exb ss ss.length)):=⟨ts,N,U,ss,HRS.out.1,by rw [HCS.out.2,HCS.out.1],hso,rfl⟩
     clear hso hk;obtain ⟨bs,hbs⟩:∃ bs,bs=exb ss ss.length:=⟨_,rfl⟩;rw [<-hbs] at HX HOY;clear hbs;have hz5:=HB5.out.size;go_wp2_with fail
     refine HX.mono ?_;clear HX;rintro e w6 ⟨⟨v6,rfl,hv6⟩,hb6⟩;obtain ⟨a6,c6,rfl⟩:=hv6.form;have HF:Hid (Below w.heap.size w w6/\OVB w6 w.heap.size (.slice a6 bs.length c6) bs):=by
      refine ⟨HB5.out.trans (hb6.mono hz5),⟨hv6.1.1,?_⟩,hv6.2⟩;rcases hv6.1.2 with h | ⟨g',cap',cur,he,hg,r⟩
      ·exact .inl h
      ·exact .inr ⟨g',cap',cur,he,by omega,r⟩
     clear hv6 hb6
     by_cases h64:bs.length=64
     ·have h64':((bs.length:Int) == 64)=true:=by rw [h64];rfl
      have HL:Hid (bs.length=64/\True):=⟨h64,trivial⟩;clear h64;go_wp2
      go_ret2
      refine DcP.yes HF.out.1 bs _ (z72 (by omega) HL.out.1 HOY.out) HF.out.2 ?_
      simp [HL.out.1]
     ·have h64':((bs.length:Int) == 64)=false:=by simp;omega
      have HL:Hid (¬bs.length=64):=h64;clear h64;go_wp2
      go_ret2
      refine DcP.no HF.out.1 ?_ (.slice a6 bs.length c6) ?_
      ·rintro ⟨bs',hbs'⟩
       obtain ⟨h0,hy⟩:=z03 (by omega) hbs'
       rw [hy.unique HOY.out] at h0;exact HL.out h0
      ·have h9:¬((bs.length:Int)=64):=by have:=HL.out;omega
       simp [h9]
  ·have HNO:Hid (¬∃ bs,RbY (some (n,V)) 3 zs bs):=by
    rintro ⟨bs,hbs⟩;obtain ⟨-,ts',M',U',ss,h1,-⟩:=z03 (by omega) hbs
    exact hno ⟨_,_,_,h1⟩
   have HBW:Hid (Below w.heap.size w W3):=hbW;clear hno hbW;go_wp2
   go_ret2
   exact DcP.no HBW.out HNO.out _ rfl
end Go.Proofs.YtaibkchbkedjnaaGreatDoor
