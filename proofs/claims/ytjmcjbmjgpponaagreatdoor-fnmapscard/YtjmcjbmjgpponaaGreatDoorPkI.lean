import Derived.Test.YtjmcjbmjgpponaaGreatDoorDcY
import Derived.Test.YtjmcjbmjgpponaaGreatDoorFg2
set_option maxRecDepth 20000
set_option maxHeartbeats 16000000
namespace Go.Proofs.YtjmcjbmjgpponaaGreatDoor
open Go.RowKit
set_option linter.unusedVariables false
set_option linter.unusedSimpArgs false
theorem zqp (V p j:Nat):bt V p (j+1)=bt V p j+(V / 2 ^ (p+j) % 2)*2 ^ j:=by
 rw [z1x,Nat.mul_comm]
 rfl
theorem zp7 {w:World} {B k:Nat} {v:Value} {zs:List Int} (h:OwnV w B v zs) (hk:v.ownBlock=some k):B<=k/\k<w.heap.size:=h.1.lt k hk
theorem zgy {w w':World} {B:Nat} {v:Value} {zs:List Int} (h:OwnV w B v zs) (hb:Below w.heap.size w w'):OwnV w' B v zs:=by
 rcases h.1.2 with ⟨h1,h2⟩ | ⟨g,cap,cur,rfl,r⟩
 ·exact ⟨⟨h.1.1,.inl ⟨h1,h2⟩⟩,h.2⟩
 ·exact Own.below (g:=g) (cap:=cap) h hb nl
structure StayP (w wr:World) (a:Option Addr) (K ca:Nat) (N:Int) (B:Nat):Prop where
 bel:Below w.heap.size w wr
 a0:wr.cell? ⟨w.heap.size,0,none⟩=some (.slice a K ca)
 a1:wr.cell? ⟨w.heap.size,1,none⟩=some (.int .i64 N)
 r0:wr.cell? ⟨w.heap.size+1,0,none⟩=some (.slice none 0 0)
 r1:wr.cell? ⟨w.heap.size+1,1,none⟩=some (.int .i64 0)
 f0:wr.frozen? ⟨w.heap.size+1,0,none⟩=false
 f1:wr.frozen? ⟨w.heap.size+1,1,none⟩=false
 hB:B=w.heap.size+1+1
 sz:B<=wr.heap.size
theorem StayP.only {S:Nat->Prop} {w wr w':World} {a:Option Addr} {K ca:Nat} {N:Int} {B:Nat} (h:StayP w wr a K ca N B) (ho:Only S wr w') (hs:∀ k,S k->B<=k):StayP w w' a K ca N B:=by
 have hB:=h.hB;have hz:=h.sz;have hs':=ho.size;have n:∀ k,k<B->¬S k:=fun k hk hS=>by have:=hs k hS;omega
 exact ⟨h.bel.trans (ho.below (by omega) (fun k hk=>by have:=hs k hk;omega)),ho.cell (by omega) (n _ (by omega)) h.a0,ho.cell (by omega) (n _ (by omega)) h.a1,ho.cell (by omega) (n _ (by omega)) h.r0,ho.cell (by omega) (n _ (by omega)) h.r1,
  (World.frozen?_of_block (ho.block (w.heap.size+1) (by omega) (n _ (by omega)))).trans h.f0,(World.frozen?_of_block (ho.block (w.heap.size+1) (by omega) (n _ (by omega)))).trans h.f1,h.hB,by omega⟩
theorem StayP.step {w wr w':World} {a:Option Addr} {K ca:Nat} {N:Int} {B:Nat} (h:StayP w wr a K ca N B) (hb:Below wr.heap.size wr w'):StayP w w' a K ca N B:=
 h.only (Only.ofBelow (S:=fun _=>False) hb nl) (by simp)
theorem StayP.start (w:World) (a:Option Addr) (K ca:Nat) (N:Int):StayP w ((w.alloc (Obj.cells #[.slice a K ca,.int .i64 N] 106)).alloc (Obj.cells #[.slice none 0 0,.int .i64 0] 106)) a K ca N (w.heap.size+1+1):=by
 have hn:=heap_alloc_new (w.alloc (Obj.cells #[.slice a K ca,.int .i64 N] 106)) (Obj.cells #[.slice none 0 0,.int .i64 0] 106)
 simp only [World.size_alloc] at hn
 refine ⟨((Below.refl _ _).alloc nl _).alloc (by simp) _,zb _ (by simp) (by simp),zb _ (by simp) (by simp),zm (j:=0) hn rfl,zm (j:=1) hn rfl,z0q hn,z0q hn,rfl,by simp⟩
theorem z53 (a:Option Addr) (cap:Nat) (zs:List Int) (n V p q:Nat) (w:World) (hb:Byt w a zs) (hz:zs=enc n V) (hn:n<=4096) (hpq:p<=q) (hq:q<=n) :
  Calls Tryz.prog 105 #[.agg #[.slice a zs.length cap,.int .i64 n],.int .i64 p,.int .i64 q] w fun e w'=>
   ∃ a' cp,e=.returned (.agg #[.slice a' (enc (q-p) (bt V p (q-p))).length cp,.int .i64 ((q-p:Nat):Int)])/\Mine w' w.heap.size w'.heap.size a' cp (enc (q-p) (bt V p (q-p)))/\Below w.heap.size w w':=by
 obtain ⟨d,hd⟩:∃ d,d=q-p:=⟨q-p,rfl⟩;rw [<-hd];have HD:Hid (q=p+d):=by simp [Hid];omega
 clear hd;have HZ:Hid (zs=enc n V/\zs.length=(n+7) / 8):=⟨hz,by rw [hz,z0a]⟩
 clear hz;have hst:=StayP.start w a zs.length cap (n:Int);obtain ⟨B,hB⟩:∃ B,B=w.heap.size+1+1:=⟨_,rfl⟩;rw [<-hB] at hst;have HST:Hid _:=hst.step ((Below.refl _ _).alloc nl (Obj.cells #[.slice none 0 0,.int .i64 0] 106));have HN:Hid _:=heap_alloc_new ((w.alloc (Obj.cells #[.slice a zs.length cap,.int .i64 n] 106)).alloc (Obj.cells #[.slice none 0 0,.int .i64 0] 106)) (Obj.cells #[.slice none 0 0,.int .i64 0] 106)
 have HBQ:Hid (B=w.heap.size+1+1):=hB;clear hst hB
 go_enter Tryz.func105,Tryz.ntmps105
 go_wp2
 rw [<-HBQ.out]
 go_loopw [8] (fun i wr=>∃ (k:Nat) (u:Value),p+k<=q/\i=.int .i64 ((p+k:Nat):Int)/\wr.heap[B]?=some (.cells #[u,.int .i64 (k:Nat)] 106 (0,0))/\OwnV wr B u (enc k (bt V p k))/\StayP w wr a zs.length cap (n:Int) B) (fun i _=>q-(intOf i).toNat)
 case atStart=>
  refine ⟨0,.slice none 0 0,hpq,rfl,?_,?_,HST.out⟩
  ·have:=HN.out
   simp only [World.size_alloc] at this
   rw [<-HBQ.out] at this;exact this
  ·rw [za0]
   refine ⟨⟨?_,.inl ⟨rfl,rfl⟩⟩,by simp [enc,z0i]⟩
   rfl
 case round=>
  obtain ⟨k,u,hk,rfl,hRr,hur,hst⟩:=hrel;have hRl:B<wr.heap.size:=(Array.getElem?_eq_some_iff.1 hRr).1
  by_cases hlt:p+k<q
  ·have p0:=hst.a0
   have p1:=hst.a1;have HB:Hid (z3w zs ((p:Int)+(k:Int)).toNat=V / 2 ^ (p+k) % 2):=by
    have:=z2n n V (p+k) (by omega)
    rw [<-HZ.out.1] at this;rw [show ((p:Int)+(k:Int)).toNat=p+k from by omega]
    exact this
   have hbit:V / 2 ^ (p+k) % 2<2:=Nat.mod_lt _ (by omega)
   have HP:Hid (bt V p k+(V / 2 ^ (p+k) % 2)*2 ^ k=bt V p (k+1)):=(zqp V p k).symm;generalize V / 2 ^ (p+k) % 2=b at *;have HUR:Hid _:=(⟨hur,hRr⟩:_/\_);clear hur hRr;go_wp2_with fail
   refine (z21 a cap zs (n:Int) _ _ (hb.below hst.bel nl) (by omega) (by have:=HZ.out.2;omega) (by omega)).mono ?_
   rintro e w3 ⟨rfl,hb3⟩;rw [HB.out];have hst3:=hst.step hb3;have hur3:=zgy HUR.out.1 hb3;have hR3:=(hb3.block _ hRl).trans HUR.out.2;have z3:=hb3.size;clear hb3 hst p0 p1;go_wp2_with fail
   refine (z20 B B u k (bt V p k) (b:Int) 1 _ hR3 hur3 (z07 _ _ _) (by omega) (by omega) (by omega) (by omega) (by omega) (by omega)).mono ?_
   rintro e w4 ⟨rfl,v',hR4,hv4,honly4,hrow4⟩;have hst4:=hst3.only honly4 (fun j hj=>by
    rcases hj with hj | hj
    ·omega
    ·exact (zp7 hur3 hj).1)
   have hbt:(b:Int).toNat % 2 ^ (1:Int).toNat=b:=by
    simp
    omega
   rw [hbt,HP.out] at hv4;have HF:Hid _:=(⟨hR4,hv4,hst4⟩:_/\_/\_);clear hR4 hv4 hst4 honly4 hrow4 hur3 hR3 hst3;go_wp2;go_roundw
   case rel=>exact ⟨k+1,v',by omega,by go_num,HF.out.1,HF.out.2.1,HF.out.2.2⟩
   case measure=>simp [intOf];omega
  ·have hkm:k=d:=by have:=HD.out;omega
   subst hkm;obtain ⟨a',cp,rfl,hmine⟩:=hur.mine;generalize hYS:enc k (bt V p k)=xs at *;have HYS:Hid (enc k (bt V p k)=xs):=hYS;clear hYS;have d0:wr.cell? ⟨B,0,none⟩=some (.slice a' xs.length cp):=zm (j:=0) hRr rfl;have d1:wr.cell? ⟨B,1,none⟩=some (.int .i64 (k:Nat)):=zm (j:=1) hRr rfl;have HM:Hid (Mine wr B wr.heap.size a' cp xs):=hmine;have x0:=hst.r0;have x1:=hst.r1;have y0:=hst.f0;have y1:=hst.f1
   have HS:Hid _:=hst;clear hst hmine hur hRr;go_wp2;refine bodyPost_ret (v:=.agg #[.slice a' xs.length cp,.int .i64 (k:Nat)]) (by simp [results,Tryz.results105,go_sem,x0,x1]) rfl ⟨a',cp,by rw [HYS.out],?_,?_⟩
   ·rw [HYS.out]
    have hO3:Only (fun b=>b=w.heap.size+1) wr ((wr.setCell ⟨w.heap.size+1,0,none⟩ (.slice a' xs.length cp)).setCell ⟨w.heap.size+1,1,none⟩ (.int .i64 (k:Nat))):=
     Only.setCell (Only.setCell (Only.refl (fun b=>b=w.heap.size+1) wr) (p:=⟨w.heap.size+1,0,none⟩) (.inl rfl) _) (p:=⟨w.heap.size+1,1,none⟩) (.inl rfl) _
    have hBB:=HBQ.out;exact ((HM.out.only hO3 (fun b h1 _=>by omega)).mono (by omega) (by simp [World.setCell]))
   ·exact ((HS.out.bel.setCell (by simp) _).setCell (by simp) _)
theorem RdR.yes {n V m:Nat} {w w':World} {ts:List Int} {M U:Nat} {a1 a2:Option Addr} {c1 c2:Nat} (hb:Below w.heap.size w w') (h:RdS n V m ts M U) (h2:MinI w' w.heap.size w'.heap.size a1 c1 ts) (h3:Mine w' w.heap.size w'.heap.size a2 c2 (enc M U)) :
  RdR n V m w (.returned (.tuple #[.slice a1 ts.length c1,.agg #[.slice a2 (enc M U).length c2,.int .i64 (M:Nat)],.bool true])) w':=⟨hb,.inl ⟨ts,M,U,a1,c1,a2,c2,h,rfl,h2,h3⟩⟩
theorem RdR.no {n V m:Nat} {w w':World} {v:Value} {a2:Option Addr} {l2 c2:Nat} {M:Int} (hb:Below w.heap.size w w') (h:¬∃ ts M U,RdS n V m ts M U) :
  RdR n V m w (.returned (.tuple #[v,.agg #[.slice a2 l2 c2,.int .i64 M],.bool false])) w':=⟨hb,.inr ⟨h,v,a2,l2,c2,M,rfl⟩⟩
theorem zcz (n V m:Nat) (a:Option Addr) (cap l:Nat) (w:World) (h8:n<8) :
  Calls Tryz.prog 78 #[.agg #[.slice a l cap,.int .i64 (n:Nat)],.int .i64 m] w (RdR n V m w):=by
 have HN:Hid (¬∃ ts M U,RdS n V m ts M U):=by
  rintro ⟨ts,M,U,h,-⟩
  omega
 have h8':(n:Int)<8:=by omega
 go_enter Tryz.func78,Tryz.ntmps78
 go_wp2
 refine bodyPost_ret (v:=.tuple #[.slice none 0 0,.agg #[.slice none 0 0,.int .i64 0],.bool false]) (by simp [results,Tryz.results78,go_sem]) rfl (RdR.no ?_ HN.out)
 repeat (first | exact Below.refl _ _ | refine Below.setCell ?_ (by simp) _ | refine Below.alloc ?_ (by simp) _)
theorem StayP.last {w wr:World} {a:Option Addr} {K ca:Nat} {N:Int} {B:Nat} (h:StayP w wr a K ca N B) (u v:Value) :
  Only (fun b=>b=w.heap.size+1) wr ((wr.setCell ⟨w.heap.size+1,0,none⟩ u).setCell ⟨w.heap.size+1,1,none⟩ v)/\Below w.heap.size w ((wr.setCell ⟨w.heap.size+1,0,none⟩ u).setCell ⟨w.heap.size+1,1,none⟩ v):=
 ⟨Only.setCell (Only.setCell (Only.refl (fun b=>b=w.heap.size+1) wr) (p:=⟨w.heap.size+1,0,none⟩) (.inl rfl) _) (p:=⟨w.heap.size+1,1,none⟩) (.inl rfl) _,(h.bel.setCell (by simp) _).setCell (by simp) _⟩
theorem zhr (n V:Nat) (a:Option Addr) (cap:Nat) (zs:List Int) (w:World) (hb:Byt w a zs) (hz:zs=enc n V) (hV:V<2 ^ n) (hn:n<=4096) (h8:8<=n) :
  Calls Tryz.prog 78 #[.agg #[.slice a zs.length cap,.int .i64 (n:Nat)],.int .i64 2] w (RdR n V 2 w):=by
 have hst:=StayP.start w a zs.length cap (n:Int);obtain ⟨B,hB⟩:∃ B,B=w.heap.size+1+1:=⟨_,rfl⟩;rw [<-hB] at hst;have HST:Hid _:=hst;have HZ:Hid (zs=enc n V/\B=w.heap.size+1+1/\okB (n:Int) zs=true/\val zs=V):=⟨hz,hB,by rw [hz];exact zl5 n V hn hV,by rw [hz];exact zl6 n V hV⟩
 have HC1:=z0f a cap zs (n:Int) 0 8 n V _ (hb.below hst.bel nl) hz (by omega) (by omega) (by omega) (by omega) (by omega)
 clear hst hB hz hV;have g8:¬(n:Int)<8:=by omega
 go_enter Tryz.func78,Tryz.ntmps78
 go_wp2_with fail
 refine HC1.mono ?_;clear HC1;rintro e w1 ⟨rfl,hb1⟩;have hst1:=HST.out.step hb1;rw [show V / 2 ^ (0:Int).toNat % 2 ^ (8:Int).toNat=bt V 0 8 from rfl]
 obtain ⟨N,hNe⟩:∃ N,N=bt V 0 8:=⟨_,rfl⟩;have hN8:N<256:=by rw [hNe];exact z07 V 0 8
 rw [<-hNe];have HNE:Hid (N=bt V 0 8/\True):=⟨hNe,trivial⟩;clear hNe HST hb1;have HC2:=za7 a cap zs n 8 40 w1 (hb.below hst1.bel nl) HZ.out.2.2.1 (by rw [HZ.out.2.2.2];exact HZ.out.1) hn h8 (by omega) (by omega)
 rw [HZ.out.2.2.2] at HC2;have p0:=hst1.a0;have p1:=hst1.a1;have HST1:Hid _:=hst1;clear hst1;go_wp2_with fail
 refine HC2.mono ?_;clear HC2;rintro e w2 ⟨hb2,hy2,hno2⟩;have hst2:=HST1.out.step hb2
 by_cases hex:∃ res q,giY n V 8 40 res q
 ·obtain ⟨res,q,hgi⟩:=hex
  obtain ⟨a2,c2,rfl,hm2⟩:=hy2 res q hgi;obtain ⟨-,hr2,-⟩:=zb4 hgi.2;have hqn:q<=n:=zmx n V 40 40 8 [] false res q h8 hgi.1;have HC3:=zji a2 c2 res a cap zs n V q N w2 hm2.byt (hb.below hst2.bel nl) HZ.out.1 (by omega) hqn hr2 (by omega)
  have HGI:Hid (giY n V 8 40 res q):=hgi;have p20:=hst2.a0;have p21:=hst2.a1;have HST2:Hid _:=hst2;clear hy2 hno2 hm2 hgi hst2 hb2 HST1 p0 p1;go_wp2_with fail
  refine HC3.mono ?_;clear HC3;rintro e w3 ⟨hb3,⟨ts,E,u,hl,hrds,hov,rfl⟩ | ⟨ts,E,hl,hrds,hno,rfl⟩⟩
  ·have hst3:=HST2.out.step hb3
   have hEn:E<=n:=hrds.le hqn;obtain ⟨a3,c3,rfl,hm3⟩:=hov.mine;have HC4:=z53 a cap zs n V E n w3 (hb.below hst3.bel nl) HZ.out.1 hn hEn nl;have HY:Hid (RdS n V 2 ts (n-E) (bt V E (n-E))):=⟨h8,.inl ⟨rfl,E,⟨res,q,HGI.out,by rw [<-HNE.out.1];exact hl,hrds⟩,hEn,rfl,rfl⟩⟩
   have HM3:Hid (MinI w3 w2.heap.size w3.heap.size a3 c3 ts):=hm3;have p30:=hst3.a0;have p31:=hst3.a1;have hsz2:=HST2.out.sz;have HST3:Hid _:=hst3;obtain ⟨d,hd⟩:∃ d,d=n-E:=⟨_,rfl⟩;rw [<-hd] at HC4 HY;obtain ⟨U,hU⟩:∃ U,U=bt V E d:=⟨_,rfl⟩;rw [<-hU] at HC4 HY;obtain ⟨es,hes⟩:∃ es,es=enc d U:=⟨_,rfl⟩;rw [<-hes] at HC4;have HES:Hid (es=enc d U/\True):=⟨hes,trivial⟩;generalize htl:ts.length=tl at *;have HTL:Hid (ts.length=tl/\True):=⟨htl,trivial⟩
   clear hb3 hl hrds hov hm3 hst3 HST2 p20 p21 hd hU hes htl;go_wp2_with fail
   refine HC4.mono ?_;clear HC4;rintro e w4 ⟨a4,c4,rfl,hm4,hb4⟩;have hst4:=HST3.out.step hb4;have x0:=hst4.r0;have x1:=hst4.r1;have y0:=hst4.f0;have y1:=hst4.f1;have HST4:Hid _:=hst4;have hsz3:=HST3.out.sz;have HM4:Hid (MinI w4 w2.heap.size w4.heap.size a3 c3 ts/\Mine w4 w3.heap.size w4.heap.size a4 c4 es):=⟨(HM3.out.below hb4).mono nl hb4.size,hm4⟩;clear hm4 hb4 hst4 HST3 p30 p31 HM3;go_wp2;obtain ⟨hon,hbel⟩:=HST4.out.last (.slice a4 es.length c4) (.int .i64 (d:Nat))
   have hBB:=HZ.out.2.1;have hsz:=hon.size;refine bodyPost_ret (v:=.tuple #[.slice a3 tl c3,.agg #[.slice a4 es.length c4,.int .i64 (d:Nat)],.bool true]) (by simp [results,Tryz.results78,go_sem,x0,x1]) rfl ?_
   rw [<-HTL.out.1,HES.out.1];rw [HES.out.1] at hon hbel hsz;refine RdR.yes hbel HY.out ?_ ?_
   ·exact (HM4.out.1.only hon (fun b h1 _=>by omega)).mono (by omega) hsz
   ·rw [<-HES.out.1]
    rw [<-HES.out.1] at hon hsz;exact (HM4.out.2.only hon (fun b h1 _=>by omega)).mono (by omega) hsz
  ·have HNO:Hid (¬∃ ts M U,RdS n V 2 ts M U):=by
    rintro ⟨ts',M',U',-,⟨-,E',⟨res',q',hg',hl',hr'⟩,-⟩ | ⟨h,-⟩⟩
    ·obtain ⟨rfl,rfl⟩:res=res'/\q=q':=by have:=hg'.1;rw [HGI.out.1] at this;simpa using this
     exact hr'.stuck hrds (by rw [hl',<-HNE.out.1];exact hl) hno
    ·exact h rfl
   have hst3:=HST2.out.step hb3;have x0:=hst3.r0;have x1:=hst3.r1;have y0:=hst3.f0;have y1:=hst3.f1;have HST3:Hid _:=hst3;clear hb3 hl hrds hno hst3 HST2 p20 p21 HGI;go_wp2;exact bodyPost_ret (v:=.tuple #[.slice none 0 0,.agg #[.slice none 0 0,.int .i64 0],.bool false]) (by simp [results,Tryz.results78,go_sem,x0,x1]) rfl (RdR.no (HST3.out.last _ _).2 HNO.out)
 ·obtain rfl:=hno2 hex
  have HNO:Hid (¬∃ ts M U,RdS n V 2 ts M U):=by
   rintro ⟨ts',M',U',-,⟨-,E',⟨res',q',hg',-⟩,-⟩ | ⟨h,-⟩⟩
   ·exact hex ⟨res',q',hg'⟩
   ·exact h rfl
  have x0:=hst2.r0;have x1:=hst2.r1;have y0:=hst2.f0;have y1:=hst2.f1;have HST2:Hid _:=hst2;clear hy2 hno2 hst2 hb2 HST1 p0 p1 hex;go_wp2;exact bodyPost_ret (v:=.tuple #[.slice none 0 0,.agg #[.slice none 0 0,.int .i64 0],.bool false]) (by simp [results,Tryz.results78,go_sem,x0,x1]) rfl (RdR.no (HST2.out.last _ _).2 HNO.out)
theorem zgz (n V:Nat) (a:Option Addr) (cap:Nat) (zs:List Int) (w:World) (hb:Byt w a zs) (hz:zs=enc n V) (hV:V<2 ^ n) (hn:n<=4096) (h8:8<=n) :
  Calls Tryz.prog 78 #[.agg #[.slice a zs.length cap,.int .i64 (n:Nat)],.int .i64 3] w (RdR n V 3 w):=by
 have hst:=StayP.start w a zs.length cap (n:Int);obtain ⟨B,hB⟩:∃ B,B=w.heap.size+1+1:=⟨_,rfl⟩;rw [<-hB] at hst;have HST:Hid _:=hst;have HZ:Hid (zs=enc n V/\B=w.heap.size+1+1):=⟨hz,hB⟩;have HC1:=z0f a cap zs (n:Int) 0 8 n V _ (hb.below hst.bel nl) hz (by omega) (by omega) (by omega) (by omega) (by omega)
 clear hst hB hz hV;have g8:¬(n:Int)<8:=by omega
 go_enter Tryz.func78,Tryz.ntmps78
 go_wp2_with fail
 refine HC1.mono ?_;clear HC1;rintro e w1 ⟨rfl,hb1⟩;have hst1:=HST.out.step hb1;rw [show V / 2 ^ (0:Int).toNat % 2 ^ (8:Int).toNat=bt V 0 8 from rfl]
 obtain ⟨N,hNe⟩:∃ N,N=bt V 0 8:=⟨_,rfl⟩;have hN8:N<256:=by rw [hNe];exact z07 V 0 8
 rw [<-hNe];have HNE:Hid (N=bt V 0 8/\True):=⟨hNe,trivial⟩;clear hNe HST hb1;have HC2:=zc9 a cap zs n V 8 40 w1 (hb.below hst1.bel nl) HZ.out.1 hn h8 (by omega) (by omega)
 have p0:=hst1.a0;have p1:=hst1.a1;have HST1:Hid _:=hst1;clear hst1;go_wp2_with fail
 refine HC2.mono ?_;clear HC2;rintro e w2 ⟨hb2,hy2,hno2⟩;have hst2:=HST1.out.step hb2
 by_cases hex:z11 n V 8 40
 ·obtain ⟨rfl,hown⟩:=hy2 hex
  have HGX:Hid (z11 n V 8 40/\zk (gXs V 8 40)=true/\(gXs V 8 40).length=40):=⟨hex,z66 (by omega) (by omega) hex,z22 V 8 40⟩
  have p20:=hst2.a0;have p21:=hst2.a1;have HST2:Hid _:=hst2;have HOW:Hid (OwI w2 w1.heap.size (w1.heap.size+1) 40 (gXs V 8 40)):=hown;obtain ⟨A,hA⟩:∃ A,A=(gL V 8 40).2:=⟨_,rfl⟩;rw [<-hA];have HA:Hid (A=(gL V 8 40).2/\True):=⟨hA,trivial⟩;clear hy2 hno2 hown hst2 hb2 HST1 p0 p1 hA hex
  by_cases hA9:A+9<=n
  ·have g9:¬((n:Int)-9<(A:Int)):=by omega
   have HC3:=z0f a cap zs (n:Int) (A:Int) 9 n V w2 (hb.below HST2.out.bel nl) HZ.out.1 (by omega) (by omega) (by omega) (by omega) (by omega)
   rw [show V / 2 ^ ((A:Nat):Int).toNat % 2 ^ (9:Int).toNat=bt V A 9 from rfl] at HC3
   obtain ⟨k,hk⟩:∃ k,k=bt V A 9:=⟨_,rfl⟩;have hk9:k<512:=by rw [hk];exact z07 V A 9
   rw [<-hk] at HC3;have HK:Hid (k=bt V A 9/\True):=⟨hk,trivial⟩;clear hk;go_wp2_with fail
   refine HC3.mono ?_;clear HC3;rintro e w3 ⟨rfl,hb3⟩;have hst3:=HST2.out.step hb3;have HOW3:Hid (OwI w3 w1.heap.size (w1.heap.size+1) 40 (gXs V 8 40)):=HOW.out.below hb3 nl;have p30:=hst3.a0;have p31:=hst3.a1;have HST3:Hid _:=hst3;clear hst3 hb3 HST2 HOW p20 p21
   by_cases hkn:A+9+k<=n
   ·have gk:¬((n:Int)-(k:Int)<(A:Int)+9):=by omega
    have HC4:=z53 a cap zs n V (A+9+k) n w3 (hb.below HST3.out.bel nl) HZ.out.1 hn hkn nl;obtain ⟨d,hd⟩:∃ d,d=n-(A+9+k):=⟨_,rfl⟩;rw [<-hd] at HC4;obtain ⟨X,hX⟩:∃ X,X=bt V (A+9+k) d:=⟨_,rfl⟩;rw [<-hX] at HC4;obtain ⟨es,hes⟩:∃ es,es=enc d X:=⟨_,rfl⟩;rw [<-hes] at HC4;have HES:Hid (es=enc d X/\X=bt V (A+9+k) d/\d=n-(A+9+k)):=⟨hes,hX,hd⟩;have hdn:d<=n:=by omega
    clear hd hX hes;go_wp2_with fail
    rw [show ((A:Int)+9+(k:Int))=((A+9+k:Nat):Int) from by omega]
    refine HC4.mono ?_;clear HC4;rintro e w4 ⟨a4,c4,rfl,hm4,hb4⟩;have hst4:=HST3.out.step hb4;have HOW4:Hid (OwI w4 w1.heap.size (w1.heap.size+1) 40 (gXs V 8 40)):=HOW3.out.below hb4 nl;obtain ⟨xs,hxs⟩:∃ xs,xs=gXs V 8 40:=⟨_,rfl⟩;have HXS:Hid (xs=gXs V 8 40/\True):=⟨hxs,trivial⟩;have hx40:xs.length=40:=by rw [hxs];exact HGX.out.2.2
    obtain ⟨T,hT⟩:∃ T,T=tbN V 8:=⟨_,rfl⟩;have hins:Ins w4 (some ⟨w1.heap.size+1,0,none⟩) xs:=by rw [hxs];exact HOW4.out.mine.byt
    have HC5:=ziv (some ⟨w1.heap.size+1,0,none⟩) 40 xs a4 c4 es d X N T w4 hins hm4.byt HES.out.1 (by omega) (by omega) (by rw [hxs];exact HGX.out.2.1) (by rw [hT,hxs];rfl)
    rw [hx40] at HC5;have HT:Hid (T=tbN V 8/\True):=⟨hT,trivial⟩;have HST4:Hid _:=hst4;clear hst4 hb4 HST3 HOW3 p30 p31 hm4 hins hxs hx40 hT;go_wp2_with fail
    refine HC5.mono ?_;clear HC5;rintro e w5 ⟨u,rfl,hov,hb5⟩;have hst5:=HST4.out.step hb5;have HC6:=z53 a cap zs n V (A+9) (A+9+k) w5 (hb.below hst5.bel nl) HZ.out.1 hn (by omega) hkn
    rw [show A+9+k-(A+9)=k from by omega] at HC6
    obtain ⟨Y,hY⟩:∃ Y,Y=bt V (A+9) k:=⟨_,rfl⟩;rw [<-hY] at HC6;obtain ⟨fs,hfs⟩:∃ fs,fs=enc k Y:=⟨_,rfl⟩;rw [<-hfs] at HC6;have HFS:Hid (fs=enc k Y/\Y=bt V (A+9) k):=⟨hfs,hY⟩;have HU:Hid (fgB T X d N=true->OVI w5 w4.heap.size u (so T X (d-6) N)):=hov;have p50:=hst5.a0;have p51:=hst5.a1;have hsz4:=HST4.out.sz;have HST5:Hid _:=hst5;clear hst5 hb5 HST4 HOW4 hY hfs hov;obtain ⟨t,ht⟩:∃ t,t=fgB T X d N:=⟨_,rfl⟩
    rw [<-ht];have HTT:Hid (t=fgB T X d N/\True):=⟨ht,trivial⟩;clear ht;go_wp2_with fail
    refine HC6.mono ?_;clear HC6;rintro e w6 ⟨a6,c6,rfl,hm6,hb6⟩;have hst6:=HST5.out.step hb6;have x0:=hst6.r0;have x1:=hst6.r1;have y0:=hst6.f0;have y1:=hst6.f1;have hsz5:=HST5.out.sz;have HST6:Hid _:=hst6;have HM6:Hid (Mine w6 w5.heap.size w6.heap.size a6 c6 fs/\Below w5.heap.size w5 w6):=⟨hm6,hb6⟩;clear hm6 hb6 hst6 HST5 p50 p51;go_wp2;obtain ⟨hon,hbel⟩:=HST6.out.last (.slice a6 fs.length c6) (.int .i64 (k:Nat))
    have hBB:=HZ.out.2;have hsz:=hon.size;refine bodyPost_ret (v:=.tuple #[u,.agg #[.slice a6 fs.length c6,.int .i64 (k:Nat)],.bool t]) (by simp [results,Tryz.results78,go_sem,x0,x1]) rfl ?_
    cases t with
    | true=>
     obtain ⟨a5,c5,rfl,hm5⟩:=(HU.out HTT.out.1.symm).mine;have HY:RdS n V 3 (so T X (d-6) N) k Y:=by
      refine ⟨h8,.inr ⟨by omega,A+9,⟨HGX.out.1,by rw [HA.out.1],hA9,by rw [<-HA.out.1];exact HK.out.1.symm,hkn,?_,?_⟩,hkn,HFS.out.2⟩⟩
      ·rw [<-HES.out.2.2,<-HES.out.2.1,<-HT.out.1,<-HNE.out.1]
       exact HTT.out.1.symm
      ·rw [<-HES.out.2.2,<-HES.out.2.1,<-HT.out.1,<-HNE.out.1]
     rw [HFS.out.1] at hon hbel hsz HM6 ⊢;refine RdR.yes hbel HY ?_ ?_
     ·exact (((hm5.below HM6.out.2).mono nl HM6.out.2.size).only hon (fun b h1 _=>by omega)).mono (by omega) hsz
     ·exact (HM6.out.1.only hon (fun b h1 _=>by omega)).mono (by omega) hsz
    | false=>
     refine RdR.no hbel ?_;rintro ⟨ts',M',U',-,⟨h,-⟩ | ⟨-,E',⟨h1,h2,h3,h4,h5,h6,h7⟩,-⟩⟩
     ·omega
     ·have e1:E'=A+9:=by rw [<-h2,HA.out.1]
      have e2:M'=k:=by rw [<-h4,<-HA.out.1];exact HK.out.1.symm
      rw [e1,e2,<-HES.out.2.2,<-HES.out.2.1,<-HT.out.1,<-HNE.out.1,<-HTT.out.1] at h6
      cases h6
   ·have gk:(n:Int)-(k:Int)<(A:Int)+9:=by omega
    have HNO:Hid (¬∃ ts M U,RdS n V 3 ts M U):=by
     rintro ⟨ts',M',U',-,⟨h,-⟩ | ⟨-,E',⟨h1,h2,h3,h4,h5,h6,h7⟩,-⟩⟩
     ·omega
     ·have e1:E'=A+9:=by rw [<-h2,HA.out.1]
      have e2:M'=k:=by rw [<-h4,<-HA.out.1];exact HK.out.1.symm
      omega
    have x0:=HST3.out.r0;have x1:=HST3.out.r1;have y0:=HST3.out.f0;have y1:=HST3.out.f1;go_wp2;exact bodyPost_ret (v:=.tuple #[.slice none 0 0,.agg #[.slice none 0 0,.int .i64 0],.bool false]) (by simp [results,Tryz.results78,go_sem,x0,x1]) rfl (RdR.no (HST3.out.last _ _).2 HNO.out)
  ·have g9:(n:Int)-9<(A:Int):=by omega
   have HNO:Hid (¬∃ ts M U,RdS n V 3 ts M U):=by
    rintro ⟨ts',M',U',-,⟨h,-⟩ | ⟨-,E',⟨h1,h2,h3,-⟩,-⟩⟩
    ·omega
    ·have e1:E'=A+9:=by rw [<-h2,HA.out.1]
     omega
   have x0:=HST2.out.r0;have x1:=HST2.out.r1;have y0:=HST2.out.f0;have y1:=HST2.out.f1;go_wp2;exact bodyPost_ret (v:=.tuple #[.slice none 0 0,.agg #[.slice none 0 0,.int .i64 0],.bool false]) (by simp [results,Tryz.results78,go_sem,x0,x1]) rfl (RdR.no (HST2.out.last _ _).2 HNO.out)
 ·obtain ⟨v,y,rfl⟩:=hno2 hex
  have HNO:Hid (¬∃ ts M U,RdS n V 3 ts M U):=by
   rintro ⟨ts',M',U',-,⟨h,-⟩ | ⟨-,E',⟨h1,-⟩,-⟩⟩
   ·omega
   ·exact hex h1
  have x0:=hst2.r0;have x1:=hst2.r1;have y0:=hst2.f0;have y1:=hst2.f1;have HST2:Hid _:=hst2;clear hy2 hno2 hst2 hb2 HST1 p0 p1 hex;go_wp2;exact bodyPost_ret (v:=.tuple #[.slice none 0 0,.agg #[.slice none 0 0,.int .i64 0],.bool false]) (by simp [results,Tryz.results78,go_sem,x0,x1]) rfl (RdR.no (HST2.out.last _ _).2 HNO.out)
theorem rdC :RdC:=by
 intro n V m a cap w hn hV hm hb
 by_cases h8:n<8
 ·exact zcz n V m a cap _ w h8
 ·rcases hm with rfl | rfl
  ·exact zhr n V a cap _ w hb rfl hV hn (by omega)
  ·exact zgz n V a cap _ w hb rfl hV hn (by omega)
def DcA (Y:Option (List Int)) (w:World) (e:Ending) (w':World):Prop:=Below w.heap.size w w' /\
 ((∃ bs v,Y=some bs/\OVB w' w.heap.size v bs/\e=.returned (.tuple #[v,.bool true]))\/(Y=none/\∃ v,e=.returned (.tuple #[v,.bool false])))
def DcE (Y:Option (List Int)) (w:World) (e:Ending) (w':World):Prop:=Below w.heap.size w w' /\
 ((∃ bs v,Y=some bs/\OVB w' w.heap.size v bs/\e=.returned (.tuple #[v,.bool true]))\/(Y=none/\e=.returned (.tuple #[.slice none 0 0,.bool false])))
def zle (xs:List Int) (Y:Option (List Int)):Prop:=(∀ bs,Y=some bs->bs.length=64/\2<=xs.length/\xs.length<=65) /\
 (∀ (a:Option Addr) (cap:Nat) (w:World),xs.length<=cap->Byt w a xs->Calls Tryz.prog 59 #[.slice a xs.length cap] w (DcA Y w)) /\
 (∀ (a:Option Addr) (cap:Nat) (w:World),xs.length<=cap->Byt w a xs->SentB w->Calls Tryz.prog 44 #[.slice a xs.length cap] w (DcE Y w))
theorem zhs {o:Option (Nat × Nat)} {m:Nat} {zs bs bs':List Int} (h:RbY o m zs bs) (h':RbY o m zs bs'):bs=bs':=by
 obtain ⟨-,h⟩:=h;obtain ⟨-,h'⟩:=h';rcases h with ⟨e0,rfl⟩ | ⟨e0,-,rfl⟩ | ⟨e0,q,rfl,hy⟩
 ·rcases h' with ⟨-,rfl⟩ | ⟨e1,-⟩ | ⟨e1,-⟩
  ·rfl
  ·omega
  ·omega
 ·rcases h' with ⟨e1,-⟩ | ⟨-,-,rfl⟩ | ⟨e1,-⟩
  ·omega
  ·rfl
  ·omega
 ·rcases h' with ⟨e1,-⟩ | ⟨e1,-⟩ | ⟨-,q',hq,hy'⟩
  ·omega
  ·omega
  ·cases hq
   exact hy.unique hy'
theorem DcP.ans {o:Option (Nat × Nat)} {m:Nat} {zs:List Int} {w w':World} {e:Ending} {Y:Option (List Int)} (hy:∀ bs,RbY o m zs bs->Y=some bs) (hn:(¬∃ bs,RbY o m zs bs)->Y=none) (h:DcP o m zs w e w'):DcA Y w e w':=by
 obtain ⟨hb,⟨bs,v,h1,h2,h3⟩ | ⟨h1,v,h3⟩⟩:=h
 ·exact ⟨hb,.inl ⟨bs,v,hy bs h1,h2,h3⟩⟩
 ·exact ⟨hb,.inr ⟨hn h1,v,h3⟩⟩
theorem zre (xs:List Int) (hl:xs.length<=1048576) (hr:∀ z ∈ xs,0<=z/\z<=255):∃ Y,zle xs Y:=by
 by_cases h2:xs.length<2\/65<xs.length
 ·refine ⟨none,⟨fun bs h=>(by cases h),?_,?_⟩⟩
  ·intro a cap w hc hb
   refine (zeu a cap xs.length w h2).mono ?_;rintro e w' ⟨rfl,rfl⟩;exact ⟨Below.refl _ _,.inr ⟨rfl,_,rfl⟩⟩
  ·intro a cap w hc hb hS
   refine (zgp a cap xs.length w h2 hS).mono ?_;rintro e w' ⟨hb',rfl⟩;exact ⟨hb',.inr ⟨rfl,rfl⟩⟩
 ·cases xs with
  | nil=>simp at h2
  | cons x zs=>
   simp only [List.length_cons] at h2
   have h1:1<=zs.length:=by omega
   have h64:zs.length<=64:=by omega
   obtain ⟨m,rfl⟩:=Int.eq_ofNat_of_zero_le (hr x (by simp)).1
   obtain ⟨o,hO⟩:=zr9 zs (by omega) (fun z hz=>hr z (by simp [hz]))
   obtain ⟨Y,hY,hN,hYr⟩:∃ Y:Option (List Int),(∀ bs,RbY o m zs bs->Y=some bs)/\((¬∃ bs,RbY o m zs bs)->Y=none)/\(∀ bs,Y=some bs->RbY o m zs bs):=by
    by_cases h:∃ bs,RbY o m zs bs
    ·obtain ⟨bs,hbs⟩:=h
     exact ⟨some bs,fun b hb=>by rw [zhs hbs hb],fun hn=>absurd ⟨bs,hbs⟩ hn,fun b hb=>by cases hb;exact hbs⟩
    ·exact ⟨none,fun b hb=>absurd ⟨b,hb⟩ h,fun _=>rfl,fun b hb=>by cases hb⟩
   refine ⟨Y,⟨fun bs hbs=>⟨(hYr bs hbs).1,by simp only [List.length_cons];omega,by simp only [List.length_cons];omega⟩,?_,?_⟩⟩
   ·intro a cap w hc hb
    simp only [List.length_cons] at hc ⊢
    have key:Calls Tryz.prog 59 #[.slice a (zs.length+1) cap] w (DcP o m zs w):=by
     have cs:m=0\/m=1\/m=2\/m=3\/4<=m:=by omega
     rcases cs with rfl | rfl | rfl | rfl | h4
     ·exact zci a cap zs o w hb h1 h64 hc
     ·exact zcl a cap zs o w hb h1 h64 hc
     ·cases o with
      | none=>exact z5u a cap 2 zs w (.inl rfl) hb h1 h64 hc hO
      | some q=>exact zcc a cap zs q.1 q.2 w hb h1 h64 hc hO rdC
     ·cases o with
      | none=>exact z5u a cap 3 zs w (.inr rfl) hb h1 h64 hc hO
      | some q=>exact zc7 a cap zs q.1 q.2 w hb h1 h64 hc hO rdC
     ·exact za8 a cap m zs o w hb h1 h64 h4
    exact key.mono fun e w' h=>h.ans hY hN
   ·intro a cap w hc hb hS
    simp only [List.length_cons] at hc ⊢
    refine (zf7 a cap m zs o w hb h1 h64 hc hO.p hS).mono ?_;rintro e w' ⟨hb',⟨bs,v,h1,h2,h3⟩ | ⟨h1,h3⟩⟩
    ·exact ⟨hb',.inl ⟨bs,v,hY bs h1,h2,h3⟩⟩
    ·exact ⟨hb',.inr ⟨hN h1,h3⟩⟩
def z2w (f:List Int->Option (List Int)):Prop:=∀ ls:List Int,ls.length<=1048576->(∀ z ∈ ls,0<=z/\z<=255)->zle ls (f ls)
theorem zoe :∃ f,z2w f:=by
 have h:∀ ls:List Int,∃ Y,(ls.length<=1048576/\∀ z ∈ ls,0<=z/\z<=255)->zle ls Y:=by
  intro ls
  by_cases hg:ls.length<=1048576/\∀ z ∈ ls,0<=z/\z<=255
  ·obtain ⟨Y,hY⟩:=zre ls hg.1 hg.2
   exact ⟨Y,fun _=>hY⟩
  ·exact ⟨none,fun h=>absurd h hg⟩
 obtain ⟨f,hf⟩:=Classical.skolem.1 h;exact ⟨f,fun ls h1 h2=>hf ls ⟨h1,h2⟩⟩
structure z29 (es:List El):Prop where
 n:es.length<=1048576
 l:∀ s ∈ es,s.ls.length<=1048576
 s:zl es<=1048576
def z1t (f:List Int->Option (List Int)) (e:El):Prop:=(0<=e.n/\e.n<16)/\(e.ls=[]\/(f e.ls).isSome=true)
def apT (f:List Int->Option (List Int)) (es:List El) (k:Nat):Prop:=∀ i,i<k->z1t f (es.getD i de)/\∀ j,j<i->(es.getD j de).n≠(es.getD i de).n
def szP (es:List El):Nat:=6+2*es.length+zl es
structure PkR (f:List Int->Option (List Int)) (E O:Int) (es:List El):Prop where
 e0:0<=E
 e1:E<=60000
 o0:0<=O
 o1:O<=60000
 n:es.length<=16
 ap:apT f es es.length
 sz:szP es<=256
theorem zd0 {f:List Int->Option (List Int)} {es:List El} {k:Nat} (h:apT f es k) (h1:z1t f (es.getD k de)) (h2:∀ j,j<k->(es.getD j de).n≠(es.getD k de).n):apT f es (k+1):=by
 intro i hi
 by_cases e:i=k
 ·subst e;exact ⟨h1,h2⟩
 ·exact h i (by omega)
theorem zdh (f:List Int->Option (List Int)) (es:List El):apT f es 0:=fun i hi=>by omega
theorem z0z (x:Int) (w:World) :
  Calls Tryz.prog 31 #[.int .i64 x] w fun e w'=>e=.returned (.bool (decide (0<=x/\x<=60000)))/\w'=w:=by
 have key:(0<=x/\x<=60000)\/¬0<=x\/(0<=x/\¬x<=60000):=by omega
 rcases key with ⟨h1,h2⟩ | h1 | ⟨h1,h2⟩
 ·rw [decide_eq_true ⟨h1,h2⟩]
  go_enter Tryz.func31,Tryz.ntmps31
  go_wp2
  go_ret;exact ⟨by simp [h1,h2],rfl⟩
 ·rw [decide_eq_false (fun hh=>h1 hh.1)]
  go_enter Tryz.func31,Tryz.ntmps31
  go_wp2
  go_ret;exact ⟨by simp [h1],rfl⟩
 ·rw [decide_eq_false (fun hh=>h2 hh.2)]
  go_enter Tryz.func31,Tryz.ntmps31
  go_wp2
  go_ret;exact ⟨by simp [h1,h2],rfl⟩
theorem zc5 (f:List Int->Option (List Int)) (hf:z2w f) (n:Int) (a:Option Addr) (c:Nat) (ls:List Int) (w:World) (hb:Byt w a ls) (hc:ls.length<=c) (hl:ls.length<=1048576) (hS:SentB w) :
  Calls Tryz.prog 47 #[.agg #[.int .i64 n,.slice a ls.length c]] w fun r w'=>((z1t f ⟨n,a,c,ls⟩/\r=.returned (.bool true))\/(¬z1t f ⟨n,a,c,ls⟩/\r=.returned (.bool false)))/\Below w.heap.size w w':=by
 have hw:Bw w (w.alloc (Obj.cells #[.int .i64 n,.slice a ls.length c] 39)):=bAw;have HD:=(hf ls hl hb.1).2.2 a c _ hc (hb.below hw nl) (hS.below hw);have HI:Hid (z1t f ⟨n,a,c,ls⟩↔(0<=n/\n<16)/\(ls=[]\/(f ls).isSome=true)):=Iff.rfl;generalize z1t f ⟨n,a,c,ls⟩=I at *;clear hb hS
 go_enter Tryz.func47,Tryz.ntmps47
 by_cases h0:n<0
 ·go_wp2
  go_ret;exact ⟨.inr ⟨fun h=>by have:=HI.out.1 h;omega,rfl⟩,hw⟩
 ·by_cases h1:(16:Int)<=n
  ·go_wp2
   go_ret;exact ⟨.inr ⟨fun h=>by have:=HI.out.1 h;omega,rfl⟩,hw⟩
  ·by_cases h2:ls.length=0
   ·have h2':(ls.length:Int)=0:=by omega
    have HN:Hid (I):=HI.out.2 ⟨by omega,.inl (List.eq_nil_of_length_eq_zero h2)⟩
    clear HD;go_wp2;go_ret;exact ⟨.inl ⟨HN.out,rfl⟩,(Below.refl _ _).alloc nl _⟩
   ·have h2':¬((ls.length:Int)=0):=by omega
    have HN:Hid (I↔(f ls).isSome=true):=by
     constructor
     ·intro h
      rcases (HI.out.1 h).2 with h | h
      ·exact absurd (by rw [h];rfl) h2
      ·exact h
     ·intro h
      exact HI.out.2 ⟨by omega,.inr h⟩
    go_wp2_with fail
    refine HD.mono ?_;clear HD;rintro e w1 ⟨hb1,⟨bs,v,hy,hov,rfl⟩ | ⟨hy,rfl⟩⟩
    ·obtain ⟨va,vc,rfl⟩:=hov.form
     have HB1:Hid (Bw w w1/\I):=⟨hw.trans (hb1.mono (by simp)),HN.out.2 (by rw [hy];rfl)⟩
     clear hb1 hy hov hw;go_wp2;go_ret;exact ⟨.inl ⟨HB1.out.2,rfl⟩,HB1.out.1⟩
    ·have HB1:Hid (Bw w w1/\¬I):=⟨hw.trans (hb1.mono (by simp)),fun h=>by have:=HN.out.1 h;rw [hy] at this;cases this⟩
     clear hb1 hy hw;go_wp2;go_ret;exact ⟨.inr ⟨HB1.out.2,rfl⟩,HB1.out.1⟩
theorem zbo (E O:Int) (a:Option Addr) (cap:Nat) (es:List El) (w:World) (hb:Els true w a es) (hn:es.length<=1048576) (hl:zl es<=1048576) :
  Calls Tryz.prog 33 #[.agg #[.int .i64 E,.int .i64 O,.slice a es.length cap]] w fun r w'=>r=.returned (.int .i64 (szP es:Nat))/\Below w.heap.size w w':=by
 have HB:Hid (Els true w a es):=hb;have HSZ:Hid (szP es=6+2*es.length+zl es/\zl (es.take es.length)=zl es):=⟨rfl,by rw [List.take_length]⟩
 have HLE:Hid (∀ k,zl (es.take k)<=zl es):=z5s es;clear hb;generalize szP es=Z at *;generalize hlen:es.length=n at *;have HL:Hid (es.length=n/\True):=⟨hlen,trivial⟩;clear hlen;have hw:Bw w (w.alloc (Obj.cells #[.int .i64 E,.int .i64 O,.slice a n cap] 25)):=bAw
 go_enter Tryz.func33,Tryz.ntmps33
 go_wp2
 go_loopw [3,9] (fun s i wr=>∃ (k z:Nat),k<=n/\i=.int .i64 k/\s=.int .i64 z/\z=6+2*k+zl (es.take k)/\Below w.heap.size w wr) (fun _ i _=>n-(intOf i).toNat)
 case atStart=>exact ⟨0,6,Nat.zero_le _,rfl,rfl,by simp [zl],hw⟩
 case round=>
  obtain ⟨k,z,hk,rfl,rfl,hz,hbel⟩:=hrel;have HZ:Hid (z=6+2*k+zl (es.take k)/\True):=⟨hz,trivial⟩;have hzb:z<=4000000:=by have:=HLE.out k;omega
  clear hz
  by_cases hlt:k<n
  ·obtain ⟨b,off,rfl,hb1,c0,c1,hby,hrg⟩:=(HB.out.below hbel nl).pen k (by rw [HL.out.1];exact hlt)
   have HT:Hid (zl (es.take (k+1))=zl (es.take k)+(es.getD k de).ls.length/\(es.getD k de).ls.length<=1048576):=⟨z3j es k (by rw [HL.out.1];exact hlt),by have:=zaw (z1m (es:=es) (k:=k) (by rw [HL.out.1];exact hlt));omega⟩
   generalize es.getD k de=s at *;obtain ⟨sn,sa,sc,sl⟩:=s
   simp only at c0 c1 HT
   have hsl:sl.length<=1048576:=HT.out.2;have HZ2:Hid (z+(2+sl.length)=6+2*(k+1)+zl (es.take (k+1))/\True):=⟨by have h1:=HZ.out.1;have h2:=HT.out.1;omega,trivial⟩
   have HBW:Hid (Bw w wr):=hbel;clear hby hrg hbel;go_wp2;go_roundw
   case rel=>exact ⟨k+1,z+(2+sl.length),by omega,by go_num,by go_num,HZ2.out.1,HBW.out.alloc (by have:=HBW.out.size;omega) _⟩
   case measure=>simp [intOf];omega
  ·have hkn:k=n:=by omega
   subst hkn;have HZ2:Hid (z=Z/\True):=⟨by have h1:=HZ.out.1;have h2:=HSZ.out;omega,trivial⟩
   go_wp2
   go_ret;exact ⟨by rw [<-HZ2.out.1];rfl,hbel⟩
end Go.Proofs.YtjmcjbmjgpponaaGreatDoor
