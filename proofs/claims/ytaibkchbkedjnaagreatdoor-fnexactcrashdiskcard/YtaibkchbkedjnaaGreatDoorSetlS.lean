/- Lemmas on the way. -/
import Derived.Test.YtaibkchbkedjnaaGreatDoorSetl
import Derived.Test.YtaibkchbkedjnaaGreatDoorBosW
set_option maxRecDepth 20000
set_option maxHeartbeats 16000000
namespace Go.Proofs.YtaibkchbkedjnaaGreatDoor
open Go.RowKit
set_option linter.unusedVariables false
set_option linter.unusedSimpArgs false
def kep (ev:Bool) (bs:List Bool) (k:Nat):Bool:=ev || (decide (k<bs.length) && bs.getD k false)
theorem l6settle_any (sa pa:Option Addr) (sc pc:Nat) (ss ps:List El) (ka:Option Addr) (kc:Nat) (bs:List Bool) (ev:Bool) (w:World) (hb:RawI w sa pa ss ps) (hk:Bos w ka bs) (hR:Rok ss ps) (hbl:bs.length≤281474976710656) :
  Calls Tryz.prog 103 #[.agg #[.slice sa ss.length sc,.slice pa ps.length pc],.slice ka bs.length kc,.bool ev] w fun e w'=>
   (∃ v u ts,e=.returned (.agg #[v,u])∧ts.map El.ct=(setl ss ps (kep ev bs) ps.length).map El.ct∧RawO w' w.heap.size v u ts [])∧Below w.heap.size w w':=by
 have HB:Hid (RawI w sa pa ss ps∧Bos w ka bs):=⟨hb,hk⟩
 have HR:Hid (Rok ss ps):=hR
 have hR1:=hR.1
 have hR2:=hR.2.1
 have hR3:=hR.2.2.1
 clear hb hk hR
 have HW:Hid (Below w.heap.size w ((w.alloc (Obj.cells #[.slice sa ss.length sc,.slice pa ps.length pc] 41)).alloc (Obj.cells #[.slice none 0 0,.slice none 0 0] 41))):=((Below.refl _ _).alloc nl _).alloc (by simp) _
 have HX:Hid (Box2 ((w.alloc (Obj.cells #[.slice sa ss.length sc,.slice pa ps.length pc] 41)).alloc (Obj.cells #[.slice none 0 0,.slice none 0 0] 41)) (w.heap.size+1) (.slice none 0 0) (.slice none 0 0)):=by
  have h9:=Box2.new (w.alloc (Obj.cells #[.slice sa ss.length sc,.slice pa ps.length pc] 41)) (.slice none 0 0) (.slice none 0 0) 41
  simp at h9
  exact h9
 go_enter Tryz.func103,Tryz.ntmps103
 go_wp2_with fail
 refine (l6own_any sa pa sc pc ss ps _ (HB.out.1.below HW.out nl) (by omega) (by omega) (fun s hs=>by have:=HR.out.lens.1 s hs;omega) (fun s hs=>by have:=HR.out.lens.2 s hs;omega)).mono ?_
 rintro e w1 ⟨⟨v,u,ts,qs,rfl,hct,hr1⟩,hb1⟩
 have hlt1:w.heap.size+1<((w.alloc (Obj.cells #[.slice sa ss.length sc,.slice pa ps.length pc] 41)).alloc (Obj.cells #[.slice none 0 0,.slice none 0 0] 41)).heap.size:=HX.out.lt
 have hxr:=HX.out.keep hb1 HX.out.lt
 have hbb:=HW.out.trans (hb1.mono HW.out.size)
 generalize hB0:((w.alloc (Obj.cells #[.slice sa ss.length sc,.slice pa ps.length pc] 41)).alloc (Obj.cells #[.slice none 0 0,.slice none 0 0] 41)).heap.size=B at *
 have HBB:Hid (w.heap.size+1<B∧B≤w1.heap.size):=⟨hlt1,by rw [←hB0];exact hb1.size⟩
 obtain ⟨va,vc,ua,uc,rfl,rfl⟩:=hr1.form
 have hts:=len_ctE hct.1
 have hqs:=len_ctE hct.2
 rw [hts,hqs] at hr1
 rw [hts,hqs]
 have HCT:Hid (qs.map El.ct=ps.map El.ct∧qs.length=ps.length):=⟨hct.2,hqs⟩
 have hba:Below w1.heap.size w1 (w1.alloc (Obj.cells #[.slice va ss.length vc,.slice ua ps.length uc] 41)):=ba
 have HS0:Hid (SetS w (w1.alloc (Obj.cells #[.slice va ss.length vc,.slice ua ps.length uc] 41)) B w1.heap.size (.slice va ss.length vc) (.slice ua ps.length uc) ts qs∧ts.map El.ct=(setl ss ps (kep ev bs) 0).map El.ct):=by
  have hr2:=hr1.below hba
  refine ⟨⟨hbb.trans (hba.mono hbb.size),by have:=HBB.out.1;omega,hbb.size,hr2.rs,hr2.rp,fun e he=>hr2.deep.mine e (List.mem_append_left _ he),fun e he=>hr2.deep.mine e (List.mem_append_right _ he),Box2.new _ _ _ _,?_,?_,?_,?_⟩,hct.1⟩
  ·exact fun he=>by have:=(hr1.inside _ (.inl he)).2;omega
  ·exact fun he=>by have:=(hr1.inside _ (.inr (.inl he))).2;omega
  ·exact fun e he hk=>by have:=(hr1.inside _ (.inr (.inr ⟨e,List.mem_append_left _ he,hk⟩))).2;omega
  ·exact fun e he hk=>by have:=(hr1.inside _ (.inr (.inr ⟨e,List.mem_append_right _ he,hk⟩))).2;omega
 have HBR:Hid (Box2 (w1.alloc (Obj.cells #[.slice va ss.length vc,.slice ua ps.length uc] 41)) (w.heap.size+1) (.slice none 0 0) (.slice none 0 0)):=hxr.keep hba hxr.lt
 have HXX:Hid (w.heap.size+1<w1.heap.size):=hxr.lt
 clear hct hr1 hb1 hxr hbb hba hlt1 hB0 HX HW hts hqs
 go_wp2
 generalize w1.alloc (Obj.cells #[.slice va ss.length vc,.slice ua ps.length uc] 41)=W0 at *
 generalize w1.heap.size=X at *
 generalize hmm:ps.length=m at *
 generalize hnn:ss.length=n at *
 have HNM:Hid (ps.length=m∧ss.length=n):=⟨hmm,hnn⟩
 clear hmm hnn
 go_loopw [8] (fun i wr=>∃ (k:Nat) (es:List El),k≤m∧i=.int .i64 k∧SetS w wr B X (.slice va n vc) (.slice ua m uc) es qs∧es.map El.ct=(setl ss ps (kep ev bs) k).map El.ct∧Box2 wr (w.heap.size+1) (.slice none 0 0) (.slice none 0 0)) (fun i _=>m-(intOf i).toNat)
 case atStart=>exact ⟨0,ts,Nat.zero_le _,rfl,HS0.out.1,HS0.out.2,HBR.out⟩
 case round=>
  clear HS0 HBR
  obtain ⟨k,es,hk,rfl,hset,hct,hbx⟩:=hrel
  have HSK:Hid (SetS w wr B X (.slice va n vc) (.slice ua m uc) es qs):=hset
  have HBX0:Hid (Box2 wr (w.heap.size+1) (.slice none 0 0) (.slice none 0 0)):=hbx
  have hesl:es.length=n:=by rw [len_ctE hct,setl_len];exact HNM.out.2
  have HES:Hid (es.length=n∧es.map El.ct=(setl ss ps (kep ev bs) k).map El.ct):=⟨hesl,hct⟩
  obtain ⟨x0,x1,-,-,xl⟩:=hset.box
  by_cases hlt:k<m
  ·have hkq:k<qs.length:=by rw [HCT.out.2];exact hlt
   have hpk:=HR.out.2.2.2.2 k (by rw [HNM.out.1];exact hlt)
   have hce:=ctE_get HCT.out.1 k
   obtain ⟨gs,cs',e1,hgs1,hgs2,hfz,hcs⟩:=hset.rs.cell 0 (by omega)
   obtain ⟨rfl,-,rfl⟩:va=some ⟨gs,0,none⟩∧_∧vc=cs':=by simpa using e1
   obtain ⟨gp,cp',e2,hgp1,hgp2,-,hcp⟩:=hset.rp.cell k hkq
   obtain ⟨rfl,-,rfl⟩:ua=some ⟨gp,0,none⟩∧_∧uc=cp':=by simpa using e2
   have hc0:=(hcp k hkq).c0 rfl
   have hc1:=(hcp k hkq).c1
   simp only [eW,eO,cond_true] at hc0 hc1
   simp only [El.ct,Prod.mk.injEq] at hce
   unfold pok at hpk
   rw [←hce.1,←hce.2,HNM.out.2] at hpk
   obtain ⟨i0,hi0⟩:=Int.eq_ofNat_of_zero_le hpk.1
   have hi0n:i0<n:=by have:=hpk.2.1;omega
   have HCK:Hid ((kep ev bs k=true→(es.set i0 { qs.getD k de with n:=0 }).map El.ct=(setl ss ps (kep ev bs) (k+1)).map El.ct)∧True):=by
    refine ⟨fun hkk=>?_,trivial⟩
    simp only [setl,hkk,if_true]
    rw [ct_set,ct_set,HES.out.2,←hce.1,hi0]
    simp only [El.ct,hce.2,Int.toNat_natCast]
   have HCN:Hid ((kep ev bs k=false→es.map El.ct=(setl ss ps (kep ev bs) (k+1)).map El.ct)∧True):=by
    refine ⟨fun hkk=>?_,trivial⟩
    simp only [setl,hkk]
    exact HES.out.2
   have hsd:SetS w wr.drew B X (.slice (some ⟨gs,0,none⟩) n vc) (.slice (some ⟨gp,0,none⟩) m uc) es qs:=hset.step ⟨rfl,rfl,rfl,Nat.le_refl _,fun _ _=>rfl⟩
   have hput:=hsd.put (g:=gs) rfl i0 k (by omega) hkq
   have hgX:gs≠X:=fun e=>hset.nv (by rw [e];rfl)
   have hgH:w.heap.size+1≠gs:=by have:=HBB.out.1;omega
   have HBX1:Hid (Box2 (wr.drew.setCell ⟨gs,i0,none⟩ (.slice (qs.getD k de).a (qs.getD k de).ls.length (qs.getD k de).c)) (w.heap.size+1) (.slice none 0 0) (.slice none 0 0)):=(hbx.keep (B:=wr.heap.size) (W':=wr.drew) ⟨rfl,rfl,rfl,Nat.le_refl _,fun _ _=>rfl⟩ hbx.lt).other (by simp only;omega) _
   obtain ⟨gp2,cp2,e3,-,-,-,hcp2⟩:=hput.1.rp.cell k hkq
   obtain ⟨rfl,-,-⟩:gp=gp2∧_∧uc=cp2:=by simpa using e3
   have hd0:=(hcp2 k hkq).c0 rfl
   have hd1:=(hcp2 k hkq).c1
   simp only [eW,eO,cond_true] at hd0 hd1
   rw [hi0] at hc0 hd0
   have hst:=hcs i0 (by omega)
   have hst1:=hst.c1
   simp only [eW,eO,cond_false,Nat.mul_one,Nat.add_zero] at hst1
   have hfz0:=hfz i0
   have HPT:Hid (SetS w (wr.drew.setCell ⟨gs,i0,none⟩ (.slice (qs.getD k de).a (qs.getD k de).ls.length (qs.getD k de).c)) B X (.slice (some ⟨gs,0,none⟩) n vc) (.slice (some ⟨gp,0,none⟩) m uc) (es.set i0 { qs.getD k de with n:=0 }) qs):=hput.1
   have HC0:Hid (wr.cell? ⟨X,0,none⟩=some (.slice (some ⟨gs,0,none⟩) n vc)∧wr.cell? ⟨X,1,none⟩=some (.slice (some ⟨gp,0,none⟩) m uc)∧wr.cell? ⟨gp,k*2,none⟩=some (.int .i64 (i0:Nat))∧wr.cell? ⟨gp,k*2+1,none⟩=some (.slice (qs.getD k de).a (qs.getD k de).ls.length (qs.getD k de).c)):=⟨x0,x1,hc0,hc1⟩
   have HC1:Hid ((wr.drew.setCell ⟨gs,i0,none⟩ (.slice (qs.getD k de).a (qs.getD k de).ls.length (qs.getD k de).c)).cell? ⟨X,0,none⟩=some (.slice (some ⟨gs,0,none⟩) n vc)∧(wr.drew.setCell ⟨gs,i0,none⟩ (.slice (qs.getD k de).a (qs.getD k de).ls.length (qs.getD k de).c)).cell? ⟨X,1,none⟩=some (.slice (some ⟨gp,0,none⟩) m uc)∧(wr.drew.setCell ⟨gs,i0,none⟩ (.slice (qs.getD k de).a (qs.getD k de).ls.length (qs.getD k de).c)).cell? ⟨gp,k*2,none⟩=some (.int .i64 (i0:Nat))∧(wr.drew.setCell ⟨gs,i0,none⟩ (.slice (qs.getD k de).a (qs.getD k de).ls.length (qs.getD k de).c)).cell? ⟨gp,k*2+1,none⟩=some (.slice (qs.getD k de).a (qs.getD k de).ls.length (qs.getD k de).c)):=⟨hput.1.box.c0,hput.1.box.c1,hd0,hd1⟩
   have HKB:=HB.out.2.below hset.bel nl
   clear hset hct hbx hce hpk e1 e2 e3 hcs hcp hcp2 hsd hput hd0 hd1 hst hi0
   generalize hqd:qs.getD k de=qd at *
   obtain ⟨qn,qa,qc,ql⟩:=qd
   simp only at HPT HC0 HC1 hc1 HCK HBX1
   clear hqd
   have hi0a:(0:Int)≤(i0:Int):=by omega
   have hi0b:(i0:Int)<(n:Int):=by omega
   generalize es.getD i0 de=eo at *
   cases ev with
   | true=>
    have KK:kep true bs k=true:=rfl
    go_wp2
    go_region_held3 (fun W=>W.cell? ⟨X,0,none⟩=some (.slice (some ⟨gs,0,none⟩) n vc)∧W.cell? ⟨X,1,none⟩=some (.slice (some ⟨gp,0,none⟩) m uc)∧W.cell? ⟨gp,k*2,none⟩=some (.int .i64 (i0:Nat))∧W.cell? ⟨gp,k*2+1,none⟩=some (.slice qa ql.length qc))
     (first | exact HC0.out | exact HC1.out) (first | fail)
    go_wp2
    go_roundw
    case rel=>exact ⟨k+1,_,by omega,by go_num,HPT.out,HCK.out.1 KK,HBX1.out⟩
    case measure=>simp [intOf];omega
   | false=>
    by_cases hkb:k<bs.length
    ·obtain ⟨kb,ko,rfl,hkb1,hkc⟩:=HKB.pos k hkb
     have hkb2:(k:Int)<(bs.length:Int):=by omega
     cases hz:bs.getD k false with
     | true=>
      rw [hz] at hkc
      have KK:kep false bs k=true:=by simp only [kep,hz,decide_eq_true hkb];rfl
      go_wp2
      go_region_held3 (fun W=>W.cell? ⟨X,0,none⟩=some (.slice (some ⟨gs,0,none⟩) n vc)∧W.cell? ⟨X,1,none⟩=some (.slice (some ⟨gp,0,none⟩) m uc)∧W.cell? ⟨gp,k*2,none⟩=some (.int .i64 (i0:Nat))∧W.cell? ⟨gp,k*2+1,none⟩=some (.slice qa ql.length qc))
       (first | exact HC0.out | exact HC1.out) (first | fail)
      go_wp2
      go_roundw
      case rel=>exact ⟨k+1,_,by omega,by go_num,HPT.out,HCK.out.1 KK,HBX1.out⟩
      case measure=>simp [intOf];omega
     | false=>
      rw [hz] at hkc
      have KK:kep false bs k=false:=by simp only [kep,hz,decide_eq_true hkb];rfl
      go_wp2
      go_roundw
      case rel=>exact ⟨k+1,_,by omega,by go_num,HSK.out,HCN.out.1 KK,HBX0.out⟩
      case measure=>simp [intOf];omega
    ·have hkb2:¬(k:Int)<(bs.length:Int):=by omega
     have KK:kep false bs k=false:=by simp only [kep,decide_eq_false hkb];rfl
     go_wp2
     go_roundw
     case rel=>exact ⟨k+1,_,by omega,by go_num,HSK.out,HCN.out.1 KK,HBX0.out⟩
     case measure=>simp [intOf];omega
  ·have hkm:k=m:=by omega
   subst hkm
   have hdr:=hset.drop (rE_ct (ss:=setl ss ps (kep ev bs) k) HES.out.2 (setl_rE HB.out.1.1.rng HB.out.1.2.rng _ _ (by rw [HNM.out.1];exact Nat.le_refl _)))
   have HIN:Hid (RawI (wr.setCell ⟨X,1,none⟩ (.slice none 0 0)) va none es []∧Below w.heap.size w (wr.setCell ⟨X,1,none⟩ (.slice none 0 0))):=⟨hdr.1,hdr.2.1⟩
   have HLS:Hid ((∀ s ∈ es,s.ls.length≤1000000)∧True):=⟨fun s hs=>by
    have h9:=len_of_ct (ms:=es) (ss:=setl ss ps (kep ev bs) k) HES.out.2 (setl_lens HR.out.lens.1 (fun k hk=>HR.out.lens.2 _ (getD_memE hk)) _ _ (by rw [HNM.out.1];exact Nat.le_refl _)) s hs
    omega,trivial⟩
   have HBX2:Hid (Box2 (wr.setCell ⟨X,1,none⟩ (.slice none 0 0)) (w.heap.size+1) (.slice none 0 0) (.slice none 0 0)):=hbx.other (by have:=HXX.out;simp only;omega) _
   obtain ⟨y0,y1,y2,y3,yl⟩:=hset.box
   obtain ⟨z0,z1,z2,z3,zl⟩:=hdr.2.2
   have hown:=l6own_any va none vc 0 es [] _ HIN.out.1 (by omega) (by simp) HLS.out.1 (by simp)
   rw [hesl] at hown
   simp only [List.length_nil] at hown
   clear hset hct hbx hdr x0 x1 xl HSK HBX0
   go_wp2_with fail
   refine hown.mono ?_
   clear hown
   rintro e w2 ⟨⟨v2,u2,ts2,qs2,rfl,hct2,hr2⟩,hb2⟩
   have hq0:qs2=[]:=List.map_eq_nil_iff.1 (by rw [hct2.2];rfl)
   subst hq0
   obtain ⟨ka2,kc2,pa2,pc2,rfl,rfl⟩:=hr2.form
   obtain ⟨r0,r1,r2,r3,rl⟩:=HBX2.out.keep hb2 HBX2.out.lt
   have hon:Only (fun b=>b=w.heap.size+1) w2 ((w2.setCell ⟨w.heap.size+1,0,none⟩ (.slice ka2 ts2.length kc2)).setCell ⟨w.heap.size+1,1,none⟩ (.slice pa2 0 pc2)):=((Only.refl (fun b=>b=w.heap.size+1) w2).setCell (p:=⟨w.heap.size+1,0,none⟩) (.inl rfl) _).setCell (p:=⟨w.heap.size+1,1,none⟩) (.inl rfl) _
   have hX1:w.heap.size+1<(wr.setCell ⟨X,1,none⟩ (.slice none 0 0)).heap.size:=HBX2.out.lt
   have HRR:Hid (RawO ((w2.setCell ⟨w.heap.size+1,0,none⟩ (.slice ka2 ts2.length kc2)).setCell ⟨w.heap.size+1,1,none⟩ (.slice pa2 0 pc2)) w.heap.size (.slice ka2 ts2.length kc2) (.slice pa2 0 pc2) ts2 []):=(hr2.stay hon (fun b hb e=>by have:=(hr2.inside b hb).1;omega)).weak (by omega)
   have hbb:=HIN.out.2.trans (hb2.mono HIN.out.2.size)
   have HBE:Hid (Below w.heap.size w ((w2.setCell ⟨w.heap.size+1,0,none⟩ (.slice ka2 ts2.length kc2)).setCell ⟨w.heap.size+1,1,none⟩ (.slice pa2 0 pc2))):=(hbb.setCell (p:=⟨w.heap.size+1,0,none⟩) (by simp) _).setCell (p:=⟨w.heap.size+1,1,none⟩) (by simp) _
   have HCC:Hid (ts2.map El.ct=(setl ss ps (kep ev bs) ps.length).map El.ct∧True):=⟨by rw [hct2.1,HES.out.2,HNM.out.1],trivial⟩
   clear hr2 hb2 hon hbb hct2 hX1 y0 y1 z0 z1
   go_wp2
   exact bodyPost_ret (v:=.agg #[.slice ka2 ts2.length kc2,.slice pa2 0 pc2]) (by simp [results,Tryz.results103,go_sem,r0,r1]) rfl ⟨⟨_,_,ts2,rfl,HCC.out.1,HRR.out⟩,HBE.out⟩
end Go.Proofs.YtaibkchbkedjnaaGreatDoor
