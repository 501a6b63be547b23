/- Lemmas on the way. -/
import Derived.Test.YtaibkchbkedjnaaGreatDoorSetlS
import Derived.Test.YtaibkchbkedjnaaGreatDoorCloneS
import Derived.Test.YtaibkchbkedjnaaGreatDoorQTake
import Derived.Test.YtaibkchbkedjnaaGreatDoorCopI
set_option maxRecDepth 20000
set_option maxHeartbeats 16000000
namespace Go.Proofs.YtaibkchbkedjnaaGreatDoor
open Go.RowKit
set_option linter.unusedVariables false
set_option linter.unusedSimpArgs false
theorem setl_byt {P:Option Addr→List Int→Prop} {ss ps:List El} (h1:∀ e ∈ ss,P e.a e.ls) (h2:∀ e ∈ ps,P e.a e.ls) (f:Nat→Bool) (k:Nat) (hk:k≤ps.length):∀ e ∈ setl ss ps f k,P e.a e.ls:=by
 induction k with
 | zero=>exact h1
 | succ k ih=>
  intro e he
  simp only [setl] at he
  split at he
  ·rcases List.mem_or_eq_of_mem_set he with he | rfl
   ·exact ih (by omega) e he
   ·exact h2 (ps.getD k de) (getD_memE (es:=ps) (k:=k) (by omega))
  ·exact ih (by omega) e he
theorem OVr.cap {p:Bool} {w:World} {B:Nat} {a:Option Addr} {n c:Nat} {es:List El} (h:OVr p w B (.slice a n c) es) (hn:0<n):∃ g,a=some ⟨g,0,none⟩∧n≤c:=by
 rcases h.own.2 with ⟨e,h0⟩ | ⟨g,cap,cur,e,hg,hh,r,_⟩
 ·simp at e
  omega
 ·simp at e
  obtain ⟨rfl,rfl,rfl⟩:=e
  exact ⟨g,rfl,r⟩
structure SetI (w W:World) (Q:Nat) (v u qv:Value) (es ps:List El):Prop where
 bel:Below w.heap.size w W
 rs:OVr false W (w.heap.size+2) v es
 rp:OVr true W (w.heap.size+2) u ps
 box:Box2 W Q qv (.int .i64 60)
 hQ:w.heap.size+2≤Q
 nv:¬v.ownBlock=some Q
 nu:¬u.ownBlock=some Q
 res:Box2 W (w.heap.size+1) (.slice none 0 0) (.slice none 0 0)
section
variable {w W W' : World} {Q : Nat} {v u qv qv' : Value} {es ps : List El}
theorem SetI.step (h:SetI w W Q v u qv es ps) (hb:Below W.heap.size W W'):SetI w W' Q v u qv es ps:=
 ⟨h.bel.trans (hb.mono h.bel.size),h.rs.below hb,h.rp.below hb,h.box.keep hb h.box.lt,h.hQ,h.nv,h.nu,h.res.keep hb h.res.lt⟩
theorem SetI.took (h:SetI w W Q v u qv es ps) (ho:Only (fun b=>b=Q) W W') (hx:Box2 W' Q qv' (.int .i64 60)):SetI w W' Q v u qv' es ps:=
 ⟨h.bel.trans (ho.below h.bel.size (by rintro k rfl;have:=h.hQ;omega)),h.rs.stay ho (fun k hk e=>h.nv (e ▸ hk)),h.rp.stay ho (fun k hk e=>h.nu (e ▸ hk)),hx,h.hQ,h.nv,h.nu,h.res.only ho (by have:=h.hQ;omega)⟩
theorem SetI.put (h:SetI w W Q v u qv es ps) {g:Nat} (hg:v.ownBlock=some g) (i:Nat) (hi:i<es.length) (e:El) :
  SetI w (W.setCell ⟨g,i,none⟩ (.slice e.a e.ls.length e.c)) Q v u qv (es.set i e) ps:=by
 have hon:Only (fun b=>b=g) W (W.setCell ⟨g,i,none⟩ (.slice e.a e.ls.length e.c)):=(Only.refl (fun b=>b=g) W).setCell (p:=⟨g,i,none⟩) (.inl rfl) _
 have hst:=h.rs.store i hi e 0 (by simp [eW]) (.slice e.a e.ls.length e.c) rfl hg
 rw [show i*eW false+0=i from by simp [eW]] at hst
 have hgB:=(h.rs.blk hg).1
 have hgQ:g≠Q:=fun e=>h.nv (e ▸ hg)
 exact ⟨h.bel.setCell (p:=⟨g,i,none⟩) (by simp only;omega) _,hst,h.rp.stay hon (fun k hk e=>h.rs.two h.rp (e ▸ hg) hk),h.box.other (by simp only;exact hgQ) _,h.hQ,h.nv,h.nu,h.res.other (by simp only;omega) _⟩
end
theorem kept_any (k P:Nat) (da:Option Addr) (dc:Nat) (ds:List Bool) (w:World) (hP:w.cell? ⟨P,0,none⟩=some (.slice da ds.length dc)) (hd:Bos w da ds) (hdl:ds.length≤281474976710656) (hk:k≤1000) :
  Calls Tryz.prog 105 #[.int .i64 k,.pointer (some ⟨P,0,none⟩)] w fun e w'=>e=.returned (.bool (kep false ds k))∧Below w.heap.size w w':=by
 by_cases hkb:k<ds.length
 ·obtain ⟨kb,ko,rfl,hkb1,hkc⟩:=hd.pos k hkb
  have hkb2:(k:Int)<(ds.length:Int):=by omega
  rw [show kep false ds k=ds.getD k false from by simp only [kep,decide_eq_true hkb,Bool.false_or,Bool.true_and]]
  generalize ds.getD k false=z at *
  clear hd
  go_enter Tryz.func105,Tryz.ntmps105
  go_wp2
  go_ret
  exact ⟨rfl,Below.refl _ _⟩
 ·have hkb2:¬(k:Int)<(ds.length:Int):=by omega
  rw [show kep false ds k=false from by simp only [kep,decide_eq_false hkb];rfl]
  clear hd
  go_enter Tryz.func105,Tryz.ntmps105
  go_wp2
  go_ret
  exact ⟨rfl,Below.refl _ _⟩
theorem settledC_any (sa pa:Option Addr) (sc pc:Nat) (ss ps:List El) (P:Nat) (da:Option Addr) (dc:Nat) (ds:List Bool) (w:World) (hb:RawI w sa pa ss ps) (hP:w.cell? ⟨P,0,none⟩=some (.slice da ds.length dc)) (hd:Bos w da ds) (hR:Rok ss ps) (hdl:ds.length≤281474976710656) :
  Calls Tryz.prog 104 #[.agg #[.slice sa ss.length sc,.slice pa ps.length pc],.func (.func 105) #[] #[.pointer (some ⟨P,0,none⟩)]] w fun e w'=>
   (∃ v u ts,e=.returned (.agg #[v,u])∧ts.map El.ct=(setl ss ps (kep false ds) ps.length).map El.ct∧RawO w' w.heap.size v u ts [])∧Below w.heap.size w w':=by
 have HB:Hid (RawI w sa pa ss ps∧Bos w da ds∧w.cell? ⟨P,0,none⟩=some (.slice da ds.length dc)∧P<w.heap.size):=⟨hb,⟨hd,hP,World.block_lt_of_cell? _ _ hP⟩⟩
 have HR:Hid (Rok ss ps):=hR
 have hR1:=hR.1
 have hR2:=hR.2.1
 have hR3:=hR.2.2.1
 clear hb hR hd hP
 have HW:Hid (Below w.heap.size w ((w.alloc (Obj.cells #[.slice sa ss.length sc,.slice pa ps.length pc] 41)).alloc (Obj.cells #[.slice none 0 0,.slice none 0 0] 41))):=((Below.refl _ _).alloc nl _).alloc (by simp) _
 have HX:Hid (Box2 ((w.alloc (Obj.cells #[.slice sa ss.length sc,.slice pa ps.length pc] 41)).alloc (Obj.cells #[.slice none 0 0,.slice none 0 0] 41)) w.heap.size (.slice sa ss.length sc) (.slice pa ps.length pc)∧Box2 ((w.alloc (Obj.cells #[.slice sa ss.length sc,.slice pa ps.length pc] 41)).alloc (Obj.cells #[.slice none 0 0,.slice none 0 0] 41)) (w.heap.size+1) (.slice none 0 0) (.slice none 0 0)):=by
  refine ⟨(Box2.new _ _ _ _).alloc _,?_⟩
  have h9:=Box2.new (w.alloc (Obj.cells #[.slice sa ss.length sc,.slice pa ps.length pc] 41)) (.slice none 0 0) (.slice none 0 0) 41
  simpa using h9
 have HCL:=cloneSec_any sa sc ss _ (HB.out.1.1.below HW.out nl) (by omega)
 go_enter Tryz.func104,Tryz.ntmps104
 go_wp2_with fail
 refine HCL.mono ?_
 clear HCL
 rintro e w1 ⟨⟨v,rfl,hov⟩,hb1⟩
 obtain ⟨va,vc,rfl⟩:=hov.form
 have HX1:Hid (Box2 w1 w.heap.size (.slice sa ss.length sc) (.slice pa ps.length pc)∧Box2 w1 (w.heap.size+1) (.slice none 0 0) (.slice none 0 0)∧Below w.heap.size w w1∧OVr false w1 (w.heap.size+2) (.slice va ss.length vc) ss∧w.heap.size+2≤w1.heap.size):=⟨HX.out.1.keep hb1 HX.out.1.lt,HX.out.2.keep hb1 HX.out.2.lt,HW.out.trans (hb1.mono HW.out.size),hov.weak (by simp),by have:=hb1.size;simp at this;omega⟩
 clear HX HW hov hb1
 obtain ⟨x0,x1,-,-,xl⟩:=HX1.out.1
 have HWT:=waits_any sa pa sc pc ss.length ps w1 ((HB.out.1.below HX1.out.2.2.1 nl).2) (by omega)
 go_wp2_with fail
 refine HWT.mono ?_
 clear HWT x0 x1 xl
 rintro e w2 ⟨⟨Q,u,rfl,hq⟩,hb2⟩
 obtain ⟨ua,uc,rfl⟩:=hq.row.form
 have HS0:Hid (SetI w w2 Q (.slice va ss.length vc) (.slice ua ps.length uc) (.slice ua ps.length uc) ss ps):=by
  have h9:=HX1.out.2.2.2.2
  refine ⟨HX1.out.2.2.1.trans (hb2.mono HX1.out.2.2.1.size),HX1.out.2.2.2.1.below hb2,hq.row.weak h9,hq.box,by have:=hq.hQ;omega,fun he=>?_,hq.ne,HX1.out.2.1.keep hb2 HX1.out.2.1.lt⟩
  have h7:=(HX1.out.2.2.2.1.blk he).2
  have h8:=hq.hQ
  omega
 have HCP:Hid (0<ps.length→∃ gp,ua=some ⟨gp,0,none⟩∧ps.length≤uc):=fun h0=>hq.row.cap h0
 obtain ⟨x0,x1,-,-,xl⟩:=HX1.out.1.keep hb2 HX1.out.1.lt
 clear HX1 hb2 hq
 generalize hmm:ps.length=m at *
 generalize hnn:ss.length=n at *
 have HNM:Hid (ps.length=m∧ss.length=n):=⟨hmm,hnn⟩
 clear hmm hnn
 go_wp2
 go_loopw [18] (fun i wr=>∃ (k r:Nat) (qv:Value),k+r=m∧i=.int .i64 k∧(0<r→∃ gp cc,ua=some ⟨gp,0,none⟩∧qv=.slice (some ⟨gp,k*2,none⟩) r cc∧r≤cc)∧SetI w wr Q (.slice va n vc) (.slice ua m uc) qv (setl ss ps (kep false ds) k) ps) (fun i _=>m-(intOf i).toNat)
 case atStart=>
  refine ⟨0,m,_,by omega,rfl,fun h0=>?_,HS0.out⟩
  obtain ⟨gp,rfl,h1⟩:=HCP.out h0
  exact ⟨gp,uc,rfl,by rw [Nat.zero_mul],h1⟩
 case round=>
  clear HS0 HCP x0 x1 xl
  obtain ⟨k,r,qv,hkr,rfl,hqv,hset⟩:=hrel
  have hsl:(setl ss ps (kep false ds) k).length=n:=by rw [setl_len];exact HNM.out.2
  by_cases hlt:0<r
  ·obtain ⟨r,rfl⟩:∃ j,r=j+1:=⟨r-1,by omega⟩
   obtain ⟨gp,cc,rfl,rfl,hcc⟩:=hqv hlt
   have hkm:k<ps.length:=by rw [HNM.out.1];omega
   have hkm2:(k:Int)<(m:Int):=by omega
   obtain ⟨gp2,uc2,e2,hgp1,hgp2,-,hcp⟩:=hset.rp.cell k hkm
   obtain ⟨rfl,-,rfl⟩:gp=gp2∧_∧uc=uc2:=by simpa using e2
   have hc0:=(hcp k hkm).c0 rfl
   have hc1:=(hcp k hkm).c1
   simp only [eW,eO,cond_true] at hc0 hc1
   have hpk:=HR.out.2.2.2.2 k hkm
   unfold pok at hpk
   rw [HNM.out.2] at hpk
   obtain ⟨i0,hi0⟩:=Int.eq_ofNat_of_zero_le hpk.1
   have hi0n:i0<n:=by have:=hpk.2.1;omega
   obtain ⟨gs,cs',e1,hgs1,hgs2,hfz,hcs⟩:=hset.rs.cell i0 (by omega)
   obtain ⟨rfl,-,rfl⟩:va=some ⟨gs,0,none⟩∧_∧vc=cs':=by simpa using e1
   have hs1:=(hcs i0 (by omega)).c1
   have hfz0:=hfz i0
   simp only [eW,eO,cond_false,Nat.mul_one,Nat.add_zero] at hs1
   generalize (setl ss ps (kep false ds) k).getD i0 de=eo at *
   have HST:Hid ((kep false ds k=true→setl ss ps (kep false ds) (k+1)=(setl ss ps (kep false ds) k).set i0 { ps.getD k de with n:=0 })∧(kep false ds k=false→setl ss ps (kep false ds) (k+1)=setl ss ps (kep false ds) k)):=by
    refine ⟨fun hh=>?_,fun hh=>?_⟩
    ·simp only [setl,hh,if_true,hi0,Int.toNat_natCast]
    ·simp only [setl,hh]
     rfl
   have HSK:Hid (SetI w wr Q (.slice (some ⟨gs,0,none⟩) n vc) (.slice (some ⟨gp,0,none⟩) m uc) (.slice (some ⟨gp,k*2,none⟩) (r+1) cc) (setl ss ps (kep false ds) k) ps∧gs<wr.heap.size∧(setl ss ps (kep false ds) k).length=n):=⟨hset,hgs2,hsl⟩
   have HTK:=take_any Q gp (k*2) r cc (ps.getD k de).n (ps.getD k de).a (ps.getD k de).ls.length (ps.getD k de).c wr hset.box hcc (by omega) hc0 hc1
   obtain ⟨q0,q1,-,-,ql0⟩:=hset.box
   rw [hi0] at HTK hc0
   have hne:gs≠Q:=fun e=>hset.nv (by rw [e];rfl)
   clear hset e1 e2 hcs hcp hpk hi0 hfz hqv
   generalize ps.getD k de=qd at *
   obtain ⟨qn,qa,qc,ql⟩:=qd
   simp only at HST HTK hc0 hc1
   have hi0a:(0:Int)≤(i0:Int):=by omega
   have hi0b:(i0:Int)<(n:Int):=by omega
   go_wp2_with fail
   refine HTK.mono ?_
   clear HTK
   rintro e w3 ⟨rfl,⟨o',hbx3,ho3⟩,hb3,hon3⟩
   have hal:Below w3.heap.size w3 (w3.alloc (Obj.cells #[.int .i64 (i0:Nat),.slice qa ql.length qc] 141)):=ba
   have HS3:Hid (SetI w (w3.alloc (Obj.cells #[.int .i64 (i0:Nat),.slice qa ql.length qc] 141)) Q (.slice (some ⟨gs,0,none⟩) n vc) (.slice (some ⟨gp,0,none⟩) m uc) (.slice (some ⟨gp,o',none⟩) r (cc-1)) (setl ss ps (kep false ds) k) ps∧Box2 (w3.alloc (Obj.cells #[.int .i64 (i0:Nat),.slice qa ql.length qc] 141)) w3.heap.size (.int .i64 (i0:Nat)) (.slice qa ql.length qc)):=⟨(HSK.out.1.took hon3 hbx3).step hal,Box2.new _ _ _ _⟩
   have hgl3:gs<w3.heap.size:=Nat.lt_of_lt_of_le HSK.out.2.1 hb3.size
   have k3:=keepA (Obj.cells #[.int .i64 (i0:Nat),.slice qa ql.length qc] 141) hgl3 (hon3.cell HSK.out.2.1 hne hs1)
   have f3:(w3.alloc (Obj.cells #[.int .i64 (i0:Nat),.slice qa ql.length qc] 141)).frozen? ⟨gs,i0,none⟩=false:=(frozO (Only.ofBelow (S:=fun _=>False) hal nl) hgl3 (by simp)).trans ((frozO hon3 HSK.out.2.1 hne).trans hfz0)
   have HKC:=kept_any k P da dc ds (w3.alloc (Obj.cells #[.int .i64 (i0:Nat),.slice qa ql.length qc] 141)) (keep HS3.out.1.bel HB.out.2.2.2 HB.out.2.2.1) (HB.out.2.1.below HS3.out.1.bel nl) hdl (by omega)
   clear hb3 hon3 hal hbx3 hs1 hfz0 hc0 hc1 q0 q1 ql0
   go_wp2_with fail
   refine HKC.mono ?_
   clear HKC
   rintro e w4 ⟨rfl,hb4⟩
   have HS4:Hid (SetI w w4 Q (.slice (some ⟨gs,0,none⟩) n vc) (.slice (some ⟨gp,0,none⟩) m uc) (.slice (some ⟨gp,o',none⟩) r (cc-1)) (setl ss ps (kep false ds) k) ps):=HS3.out.1.step hb4
   obtain ⟨b0,b1,-,-,bl⟩:=HS3.out.2.keep hb4 HS3.out.2.lt
   have k4:=keep hb4 (by simp;omega) k3
   have f4:w4.frozen? ⟨gs,i0,none⟩=false:=(frozO (Only.ofBelow (S:=fun _=>False) hb4 nl) (by simp;omega) (by simp)).trans f3
   clear hb4 HS3 k3 f3
   cases KK:kep false ds k with
   | true=>
    have HPT:Hid (SetI w (w4.setCell ⟨gs,i0,none⟩ (.slice qa ql.length qc)) Q (.slice (some ⟨gs,0,none⟩) n vc) (.slice (some ⟨gp,0,none⟩) m uc) (.slice (some ⟨gp,o',none⟩) r (cc-1)) (setl ss ps (kep false ds) (k+1)) ps):=by
     rw [HST.out.1 KK]
     exact HS4.out.put (g:=gs) rfl i0 (by rw [HSK.out.2.2];exact hi0n) { n:=0,a:=qa,c:=qc,ls:=ql }
    go_wp2
    go_roundw
    case rel=>exact ⟨k+1,r,_,by omega,by go_num,fun h=>⟨gp,cc-1,rfl,by rw [ho3 h,Nat.succ_mul],by omega⟩,HPT.out⟩
    case measure=>simp [intOf];omega
   | false=>
    have HPT:Hid (SetI w w4 Q (.slice (some ⟨gs,0,none⟩) n vc) (.slice (some ⟨gp,0,none⟩) m uc) (.slice (some ⟨gp,o',none⟩) r (cc-1)) (setl ss ps (kep false ds) (k+1)) ps):=by
     rw [HST.out.2 KK]
     exact HS4.out
    go_wp2
    go_roundw
    case rel=>exact ⟨k+1,r,_,by omega,by go_num,fun h=>⟨gp,cc-1,rfl,by rw [ho3 h,Nat.succ_mul],by omega⟩,HPT.out⟩
    case measure=>simp [intOf];omega
  ·obtain rfl:r=0:=by omega
   obtain rfl:k=m:=by omega
   have HIN:Hid (RawI wr va none (setl ss ps (kep false ds) k) []∧Below w.heap.size w wr):=⟨⟨hset.rs.els (fun e he=>⟨setl_rE HB.out.1.1.rng HB.out.1.2.rng _ _ (by rw [HNM.out.1];exact Nat.le_refl _) e he,setl_byt (P:=fun a l=>Byt wr a l) (fun e he=>((HB.out.1.1.below hset.bel nl).1 e he).2) (fun e he=>((HB.out.1.2.below hset.bel nl).1 e he).2) _ _ (by rw [HNM.out.1];exact Nat.le_refl _) e he⟩),by simp,by simp⟩,hset.bel⟩
   have hown:=copied_any va none vc 0 (setl ss ps (kep false ds) k) [] wr HIN.out.1 (by omega) (by simp) (fun s hs=>by have:=setl_lens HR.out.lens.1 (fun k hk=>HR.out.lens.2 _ (getD_memE hk)) (kep false ds) k (by rw [HNM.out.1];exact Nat.le_refl _) s hs;omega) (by simp)
   rw [hsl] at hown
   simp only [List.length_nil] at hown
   have HBX2:Hid (Box2 wr (w.heap.size+1) (.slice none 0 0) (.slice none 0 0)):=hset.res
   clear hset hqv
   go_wp2_with fail
   refine hown.mono ?_
   clear hown
   rintro e w2 ⟨⟨v2,u2,ts2,qs2,rfl,hct2,hr2⟩,hb2⟩
   have hq0:qs2=[]:=List.map_eq_nil_iff.1 (by rw [hct2.2];rfl)
   subst hq0
   obtain ⟨ka2,kc2,pa2,pc2,rfl,rfl⟩:=hr2.form
   obtain ⟨r0,r1,r2,r3,rl⟩:=HBX2.out.keep hb2 HBX2.out.lt
   have hon:Only (fun b=>b=w.heap.size+1) w2 ((w2.setCell ⟨w.heap.size+1,0,none⟩ (.slice ka2 ts2.length kc2)).setCell ⟨w.heap.size+1,1,none⟩ (.slice pa2 0 pc2)):=((Only.refl (fun b=>b=w.heap.size+1) w2).setCell (p:=⟨w.heap.size+1,0,none⟩) (.inl rfl) _).setCell (p:=⟨w.heap.size+1,1,none⟩) (.inl rfl) _
   have hX1:w.heap.size+1<wr.heap.size:=HBX2.out.lt
   have HRR:Hid (RawO ((w2.setCell ⟨w.heap.size+1,0,none⟩ (.slice ka2 ts2.length kc2)).setCell ⟨w.heap.size+1,1,none⟩ (.slice pa2 0 pc2)) w.heap.size (.slice ka2 ts2.length kc2) (.slice pa2 0 pc2) ts2 []):=(hr2.stay hon (fun b hb e=>by have:=(hr2.inside b hb).1;omega)).weak (by omega)
   have hbb:=HIN.out.2.trans (hb2.mono HIN.out.2.size)
   have HBE:Hid (Below w.heap.size w ((w2.setCell ⟨w.heap.size+1,0,none⟩ (.slice ka2 ts2.length kc2)).setCell ⟨w.heap.size+1,1,none⟩ (.slice pa2 0 pc2))):=(hbb.setCell (p:=⟨w.heap.size+1,0,none⟩) (by simp) _).setCell (p:=⟨w.heap.size+1,1,none⟩) (by simp) _
   have HCC:Hid (ts2.map El.ct=(setl ss ps (kep false ds) ps.length).map El.ct∧True):=⟨by rw [hct2.1,HNM.out.1],trivial⟩
   clear hr2 hb2 hon hbb hct2 hX1
   go_wp2
   exact bodyPost_ret (v:=.agg #[.slice ka2 ts2.length kc2,.slice pa2 0 pc2]) (by simp [results,Tryz.results104,go_sem,r0,r1]) rfl ⟨⟨_,_,ts2,rfl,HCC.out.1,HRR.out⟩,HBE.out⟩
end Go.Proofs.YtaibkchbkedjnaaGreatDoor
