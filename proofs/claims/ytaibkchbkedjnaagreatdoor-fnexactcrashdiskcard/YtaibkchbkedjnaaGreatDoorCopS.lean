/- Lemmas on the way. -/
import Derived.Test.YtaibkchbkedjnaaGreatDoorItEq
import Derived.Test.YtaibkchbkedjnaaGreatDoorCop
set_option maxRecDepth 20000
set_option maxHeartbeats 16000000
namespace Go.Proofs.YtaibkchbkedjnaaGreatDoor
open Go.RowKit
set_option linter.unusedVariables false
set_option linter.unusedSimpArgs false
theorem l6own_any (sa pa:Option Addr) (sc pc:Nat) (ss ps:List El) (w:World) (hb:RawI w sa pa ss ps) (hn:ss.length≤1000) (hm:ps.length≤1000) (hl:∀ s ∈ ss,s.ls.length≤1000000) (hp:∀ s ∈ ps,s.ls.length≤1000000) :
  Calls Tryz.prog 145 #[.agg #[.slice sa ss.length sc,.slice pa ps.length pc]] w fun e w'=>
   (∃ v u ts qs,e=.returned (.agg #[v,u])∧(ts.map El.ct=ss.map El.ct∧qs.map El.ct=ps.map El.ct)∧RawO w' w.heap.size v u ts qs)∧Below w.heap.size w w':=by
 have HB:Hid (RawI w sa pa ss ps):=hb
 have HL:Hid ((∀ s ∈ ss,s.ls.length≤1000000)∧(∀ s ∈ ps,s.ls.length≤1000000)):=⟨hl,hp⟩
 clear hb hl hp
 generalize hlen:ss.length=n at *
 generalize hlen2:ps.length=m at *
 have HLN:Hid (ss.length=n∧ps.length=m):=⟨hlen,hlen2⟩
 clear hlen hlen2
 go_enter Tryz.func145,Tryz.ntmps145
 have HR0:Hid (Box2 (((w.alloc (Obj.cells #[.slice sa n sc,.slice pa m pc] 41)).alloc (Obj.cells #[.slice none 0 0,.slice none 0 0] 41)).alloc (Obj.cells #[.slice none 0 0,.slice none 0 0] 41)) w.heap.size (.slice sa n sc) (.slice pa m pc)∧Box2 (((w.alloc (Obj.cells #[.slice sa n sc,.slice pa m pc] 41)).alloc (Obj.cells #[.slice none 0 0,.slice none 0 0] 41)).alloc (Obj.cells #[.slice none 0 0,.slice none 0 0] 41)) (w.heap.size+1) (.slice none 0 0) (.slice none 0 0)∧CopR w (((w.alloc (Obj.cells #[.slice sa n sc,.slice pa m pc] 41)).alloc (Obj.cells #[.slice none 0 0,.slice none 0 0] 41)).alloc (Obj.cells #[.slice none 0 0,.slice none 0 0] 41)) (w.heap.size+1+1) (.slice none 0 0) (.slice none 0 0) [] []):=by
  refine ⟨((Box2.new _ _ _ _).alloc _).alloc _,?_,⟨(((Below.refl _ _).alloc nl _).alloc (by simp) _).alloc (by simp;omega) _,by omega,OVr.nil _ _ _,OVr.nil _ _ _,Deep.nil _ _,?_⟩⟩
  ·have h9:=(Box2.new (w.alloc (Obj.cells #[.slice sa n sc,.slice pa m pc] 41)) (.slice none 0 0) (.slice none 0 0) 41).alloc (Obj.cells #[.slice none 0 0,.slice none 0 0] 41)
   simpa using h9
  ·have h9:=Box2.new ((w.alloc (Obj.cells #[.slice sa n sc,.slice pa m pc] 41)).alloc (Obj.cells #[.slice none 0 0,.slice none 0 0] 41)) (.slice none 0 0) (.slice none 0 0) 41
   simpa using h9
 go_wp2
 go_loopw [4] (fun i wr=>∃ (k:Nat) (v:Value) (es:List El),k≤n∧i=.int .i64 k∧es.map El.ct=(ss.take k).map El.ct∧Box2 wr w.heap.size (.slice sa n sc) (.slice pa m pc)∧Box2 wr (w.heap.size+1) (.slice none 0 0) (.slice none 0 0)∧CopR w wr (w.heap.size+1+1) v (.slice none 0 0) es []) (fun i _=>n-(intOf i).toNat)
 case atStart=>exact ⟨0,_,[],Nat.zero_le _,rfl,by simp,HR0.out.1,HR0.out.2.1,HR0.out.2.2⟩
 case round=>
  clear HR0
  obtain ⟨k,v,es,hk,rfl,hct,hb0,hb1,hcop⟩:=hrel
  have hes:es.length=k:=by
   have:=congrArg List.length hct
   simp only [List.length_map,List.length_take,HLN.out.1] at this
   omega
  have HST:Hid (es.map El.ct=(ss.take k).map El.ct∧es.length=k):=⟨hct,hes⟩
  have HBX:Hid (Box2 wr w.heap.size (.slice sa n sc) (.slice pa m pc)∧Box2 wr (w.heap.size+1) (.slice none 0 0) (.slice none 0 0)):=⟨hb0,hb1⟩
  have HCO:Hid (CopR w wr (w.heap.size+1+1) v (.slice none 0 0) es []):=hcop
  clear hct hes hb0 hb1
  by_cases hlt:k<n
  ·obtain ⟨va,vc,rfl⟩:=hcop.rs.form
   obtain ⟨c0,c1,f0,f1,hl⟩:=hcop.box
   obtain ⟨b,off,rfl,hbl,d0,hby,hrg⟩:=(HB.out.1.below hcop.bel nl).sec k (by rw [HLN.out.1];exact hlt)
   have hll:=HL.out.1 _ (getD_memE (k:=k) (by rw [HLN.out.1];exact hlt))
   have HCS:Hid ((ss.take (k+1)).map El.ct=(ss.take k).map El.ct++[(ss.getD k de).ct]∧True):=⟨ctE_take_succ ss k (by rw [HLN.out.1];exact hlt),trivial⟩
   have HEN:Hid ((ss.getD k de).n=0):=hrg.zero rfl
   clear hcop hrg
   generalize ss.getD k de=s at *
   obtain ⟨sn,a2,c2,sl⟩:=s
   simp only at d0 hby hll HEN
   have HBY:Hid (Byt wr a2 sl):=hby
   clear hby
   have hk1:es.length≤1000:=by have:=HST.out.2;omega
   have hbw:b<w.heap.size:=by
    obtain ⟨b',o',e',h',_⟩:=HB.out.1.sec k (by rw [HLN.out.1];exact hlt)
    simp at e'
    omega
   obtain ⟨x0,x1,-,-,xl⟩:=HBX.out.1
   go_wp2
   have HE1:Hid (OVB (wr.drew.alloc (Obj.cells #[] 5)) wr.heap.size (.slice (some ⟨wr.heap.size,0,none⟩) 0 0) []∧Byt (wr.drew.alloc (Obj.cells #[] 5)) a2 sl∧Below wr.heap.size wr (wr.drew.alloc (Obj.cells #[] 5))):=⟨OVB.empty wr.drew _ nl,(HBY.out.drewN 1).alloc _,Below.drewS ((Below.refl wr.heap.size wr.drew).alloc nl _)⟩
   refine wp_region_cut (S:=fun W=>W.cell? ⟨w.heap.size+1+1,0,none⟩=some (.slice va es.length vc)∧W.cell? ⟨w.heap.size,0,none⟩=some (.slice (some ⟨b,off,none⟩) n sc)∧W.cell? ⟨b,off+k,none⟩=some (.slice a2 sl.length c2)) 11 (by kernel_rfl) (by kernel_rfl) (by exact ⟨c0,x0,d0⟩) (fun hHeld=>?_)
   refine tk 0 (v:=?_) ?_ ?_
   rotate_left
   ·(intro w hSw;(try dsimp only at hSw);go_simp;try (with_reducible rfl))
   try simp only [tkS]
   refine tk 1 (v:=?_) ?_ ?_
   rotate_left
   ·(intro w hSw;(try dsimp only at hSw);go_simp;try (with_reducible rfl))
   try simp only [tkS]
   refine tk 3 (v:=?_) ?_ ?_
   rotate_left
   ·(intro w hSw;(try dsimp only at hSw);go_simp;try (with_reducible rfl))
   try simp only [tkS]
   refine tk 4 (v:=?_) ?_ ?_
   rotate_left
   ·(intro w hSw;(try dsimp only at hSw);go_simp;try (with_reducible rfl))
   try simp only [tkS]
   refine tk 5 (v:=?_) ?_ ?_
   rotate_left
   ·(intro w hSw;(try dsimp only at hSw);go_simp;try (with_reducible rfl))
   try simp only [tkS]
   refine tk 6 (v:=?_) ?_ ?_
   rotate_left
   ·(intro w hSw;(try dsimp only at hSw);go_simp;try (with_reducible rfl))
   try simp only [tkS]
   refine tk 7 (v:=?_) ?_ ?_
   rotate_left
   ·(intro w hSw;(try dsimp only at hSw);go_simp;try (with_reducible rfl))
   try simp only [tkS]
   refine wpAnyH_ready (rs:=[2]) (by kernel_rfl) (by simp) ?_
   refine AllReadyH.cons rfl (fun K hK=>?_) AllReadyH.nil
   go_simp
   refine hK.out _ _ (by exact ⟨keepA _ hl c0,keepA _ (by omega) x0,keepA _ hbl d0⟩) (fun hHeld=>?_)
   clear hK K
   try simp only [tkS]
   refine wpAnyH_ready (rs:=[8]) (by kernel_rfl) (by simp) ?_
   refine AllReadyH.cons rfl (fun K hK=>?_) AllReadyH.nil
   refine wanted_step rfl (wp_append_byt (.tmp 15) (.tmp 20) rfl wr.heap.size (.slice (some ⟨wr.heap.size,0,none⟩) 0 0) [] (by simp [Act.eval]) (HE1.out.1) a2 c2 sl (by simp [Act.eval]) (HE1.out.2.1) (by simp;omega) (by simp) ?_)
   intro v2 w2 hov2 hg2
   have hb2:Below wr.heap.size wr w2:=appB_below HE1.out.2.2 (by simp) HE1.out.1 hg2
   rw [List.nil_append] at hov2
   obtain ⟨ua,uc,rfl,hm2⟩:=hov2.mine
   have HM2:Hid (Mine w2 wr.heap.size w2.heap.size ua uc sl∧Below wr.heap.size wr w2):=⟨hm2,hb2⟩
   have k0:=keep hb2 hl c0
   have k1:=keep hb2 (by omega) x0
   have k2:=keep hb2 hbl d0
   have hl2:w.heap.size+1+1<w2.heap.size:=by have:=hb2.size;omega
   have hbl2:b<w2.heap.size:=by have:=hb2.size;omega
   clear hm2 hb2 hov2 hg2
   refine hK.out _ _ (by exact ⟨k0,k1,k2⟩) (fun hHeld=>?_)
   clear hK K
   try simp only [tkS]
   refine wpAnyH_ready (rs:=[9]) (by kernel_rfl) (by simp) ?_
   refine AllReadyH.cons rfl (fun K hK=>?_) AllReadyH.nil
   go_simp
   refine hK.out _ _ (by exact ⟨keepA _ hl2 k0,keepA _ (by omega) k1,keepA _ hbl2 k2⟩) (fun hHeld=>?_)
   clear hK K
   try simp only [tkS]
   refine wpAnyH_ready (rs:=[10]) (by kernel_rfl) (by simp) ?_
   refine AllReadyH.cons rfl (fun K hK=>?_) AllReadyH.nil
   refine wanted_step rfl (wp_append_el false (.tmp 14) (.tmp 22) rfl (w.heap.size+1+1+1) (.slice va es.length vc) es (by simp [Act.eval]) (HCO.out.rs.below (cop_mid (e:=⟨sn,ua,uc,sl⟩) HCO.out HM2.out.2 HM2.out.1).1) w2.heap.size 1 ⟨sn,ua,uc,sl⟩ (by simp [Act.eval]) (newsS w2 _ sl.length uc 36 _ rfl rfl rfl) (by omega) (by simp;omega) ?_)
   intro v3 w3 hov3 hg3
   obtain ⟨sa3,sc3,hv3⟩:=hov3.form
   rw [List.length_append,List.length_singleton] at hv3
   subst hv3
   have HM:Hid _:=HCO.out.moreS (e:=⟨sn,ua,uc,sl⟩) HM2.out.2 HM2.out.1 hov3 hg3
   have c3:=keep HM.out.2 (by omega) c0
   have x3:=keep HM.out.2 (by omega) x0
   have hne:¬(Value.slice va es.length vc).ownBlock=some b:=fun he=>by have:=(HCO.out.rs.blk he).1;omega
   have d3:=(Only.ofGrown hg3).cell (b:=b) (o:=off+k) (by simp;omega) hne (keepA _ hbl2 k2)
   have g3:=(HM.out.2.frozen (p:=⟨w.heap.size+1+1,0,none⟩) (by simp)).trans f0
   have hl3:w.heap.size+1+1<w3.heap.size:=by have:=HM.out.2.size;omega
   clear hov3 hg3
   refine hK.out _ _ (by exact ⟨c3,x3,d3⟩) (fun hHeld=>?_)
   clear hK K
   try simp only [tkS]
   refine wpAnyH_done (by kernel_rfl) ?_ _
   simp only [cutQ,List.drop_succ_cons,List.drop_zero]
   have HMC:Hid (CopR w (w3.setCell ⟨w.heap.size+1+1,0,none⟩ (.slice sa3 (es.length+1) sc3)) (w.heap.size+1+1) (.slice sa3 (es.length+1) sc3) (.slice none 0 0) (es++[⟨sn,ua,uc,sl⟩]) []):=HM.out.1
   have HB2:Hid (Box2 (w3.setCell ⟨w.heap.size+1+1,0,none⟩ (.slice sa3 (es.length+1) sc3)) w.heap.size (.slice (some ⟨b,off,none⟩) n sc) (.slice pa m pc)∧Box2 (w3.setCell ⟨w.heap.size+1+1,0,none⟩ (.slice sa3 (es.length+1) sc3)) (w.heap.size+1) (.slice none 0 0) (.slice none 0 0)):=⟨(HBX.out.1.keep HM.out.2 (by omega)).other (by simp;omega) _,(HBX.out.2.keep HM.out.2 (by omega)).other (by simp) _⟩
   have HCT2:Hid ((es++[(⟨sn,ua,uc,sl⟩:El)]).map El.ct=(ss.take (k+1)).map El.ct∧True):=⟨by rw [List.map_append,HST.out.1,HCS.out.1];rfl,trivial⟩
   clear HM HM2 c0 c1 f0 f1 d0 HCO HBX HCS HST x0 x1 k0 k1 k2 x3 d3 HE1
   go_wp2
   go_roundw
   case rel=>exact ⟨k+1,_,_,by omega,by go_num,HCT2.out.1,HB2.out.1,HB2.out.2,HMC.out⟩
   case measure=>simp [intOf];omega
  ·have hkn:k=n:=by omega
   subst hkn
   obtain ⟨x0,x1,-,-,xl⟩:=HBX.out.1
   have HES:Hid (es.map El.ct=ss.map El.ct∧True):=⟨by rw [HST.out.1,List.take_of_length_le (by rw [HLN.out.1];exact Nat.le_refl _)],trivial⟩
   clear hcop HST
   go_wp2
   go_loopw [5] (fun i wr2=>∃ (j:Nat) (u:Value) (fs:List El),j≤m∧i=.int .i64 j∧fs.map El.ct=(ps.take j).map El.ct∧(Box2 wr2 w.heap.size (.slice sa k sc) (.slice pa m pc)∧Box2 wr2 (w.heap.size+1) (.slice none 0 0) (.slice none 0 0))∧CopR w wr2 (w.heap.size+1+1) v u es fs) (fun i _=>m-(intOf i).toNat)
   case atStart=>exact ⟨0,_,[],Nat.zero_le _,rfl,by simp,HBX.out,HCO.out⟩
   case round=>
    clear HBX HCO x0 x1 xl
    obtain ⟨j,u,fs,hj,rfl,hct,hb1,hcop⟩:=hrel
    generalize wr=wr2 at *
    have hfs:fs.length=j:=by
     have:=congrArg List.length hct
     simp only [List.length_map,List.length_take,HLN.out.2] at this
     omega
    have HST:Hid (fs.map El.ct=(ps.take j).map El.ct∧fs.length=j):=⟨hct,hfs⟩
    have HBX:Hid (Box2 wr2 w.heap.size (.slice sa k sc) (.slice pa m pc)∧Box2 wr2 (w.heap.size+1) (.slice none 0 0) (.slice none 0 0)):=hb1
    have HC0:Hid (CopR w wr2 (w.heap.size+1+1) v u es fs):=hcop
    clear hct hfs hb1
    by_cases hlt:j<m
    ·obtain ⟨fa,fc,rfl⟩:=hcop.rp.form
     obtain ⟨c0,c1,f0,f1,hl⟩:=hcop.box
     obtain ⟨b,off,rfl,hbl,d0,d1,hby,hrg⟩:=(HB.out.2.below hcop.bel nl).pen j (by rw [HLN.out.2];exact hlt)
     have hll:=HL.out.2 _ (getD_memE (k:=j) (by rw [HLN.out.2];exact hlt))
     have HCS:Hid ((ps.take (j+1)).map El.ct=(ps.take j).map El.ct++[(ps.getD j de).ct]∧True):=⟨ctE_take_succ ps j (by rw [HLN.out.2];exact hlt),trivial⟩
     clear hcop hrg
     generalize ps.getD j de=s at *
     obtain ⟨sn,a2,c2,sl⟩:=s
     simp only at d0 d1 hby hll
     have HBY:Hid (Byt wr2 a2 sl):=hby
     clear hby
     have hk1:fs.length≤1000:=by have:=HST.out.2;omega
     have hbw:b<w.heap.size:=by
      obtain ⟨b',o',e',h',_⟩:=HB.out.2.pen j (by rw [HLN.out.2];exact hlt)
      simp at e'
      omega
     obtain ⟨x0,x1,-,-,xl⟩:=HBX.out.1
     have HE1:Hid (OVB (wr2.drew.alloc (Obj.cells #[] 5)) wr2.heap.size (.slice (some ⟨wr2.heap.size,0,none⟩) 0 0) []∧Byt (wr2.drew.alloc (Obj.cells #[] 5)) a2 sl∧Below wr2.heap.size wr2 (wr2.drew.alloc (Obj.cells #[] 5))):=⟨OVB.empty wr2.drew _ nl,(HBY.out.drewN 1).alloc _,Below.drewS ((Below.refl wr2.heap.size wr2.drew).alloc nl _)⟩
     go_wp2
     refine wp_region_cut (S:=fun W=>W.cell? ⟨w.heap.size+1+1,1,none⟩=some (.slice fa fs.length fc)∧W.cell? ⟨w.heap.size,1,none⟩=some (.slice (some ⟨b,off,none⟩) m pc)∧W.cell? ⟨b,off+j*2,none⟩=some (.int .i64 sn)∧W.cell? ⟨b,off+j*2+1,none⟩=some (.slice a2 sl.length c2)) 19 (by kernel_rfl) (by kernel_rfl) (by exact ⟨c1,x1,d0,d1⟩) (fun hHeld=>?_)
     refine tk 0 (v:=?_) ?_ ?_
     rotate_left
     ·(intro w hSw;(try dsimp only at hSw);go_simp;try (with_reducible rfl))
     try simp only [tkS]
     refine tk 1 (v:=?_) ?_ ?_
     rotate_left
     ·(intro w hSw;(try dsimp only at hSw);go_simp;try (with_reducible rfl))
     try simp only [tkS]
     refine tk 2 (v:=?_) ?_ ?_
     rotate_left
     ·(intro w hSw;(try dsimp only at hSw);go_simp;try (with_reducible rfl))
     try simp only [tkS]
     refine tk 3 (v:=?_) ?_ ?_
     rotate_left
     ·(intro w hSw;(try dsimp only at hSw);go_simp;try (with_reducible rfl))
     try simp only [tkS]
     refine tk 4 (v:=?_) ?_ ?_
     rotate_left
     ·(intro w hSw;(try dsimp only at hSw);go_simp;try (with_reducible rfl))
     try simp only [tkS]
     refine tk 5 (v:=?_) ?_ ?_
     rotate_left
     ·(intro w hSw;(try dsimp only at hSw);go_simp;try (with_reducible rfl))
     try simp only [tkS]
     refine tk 6 (v:=?_) ?_ ?_
     rotate_left
     ·(intro w hSw;(try dsimp only at hSw);go_simp;try (with_reducible rfl))
     try simp only [tkS]
     refine tk 7 (v:=?_) ?_ ?_
     rotate_left
     ·(intro w hSw;(try dsimp only at hSw);go_simp;try (with_reducible rfl))
     try simp only [tkS]
     refine tk 9 (v:=?_) ?_ ?_
     rotate_left
     ·(intro w hSw;(try dsimp only at hSw);go_simp;try (with_reducible rfl))
     try simp only [tkS]
     refine tk 10 (v:=?_) ?_ ?_
     rotate_left
     ·(intro w hSw;(try dsimp only at hSw);go_simp;try (with_reducible rfl))
     try simp only [tkS]
     refine tk 11 (v:=?_) ?_ ?_
     rotate_left
     ·(intro w hSw;(try dsimp only at hSw);go_simp;try (with_reducible rfl))
     try simp only [tkS]
     refine tk 12 (v:=?_) ?_ ?_
     rotate_left
     ·(intro w hSw;(try dsimp only at hSw);go_simp;try (with_reducible rfl))
     try simp only [tkS]
     refine tk 13 (v:=?_) ?_ ?_
     rotate_left
     ·(intro w hSw;(try dsimp only at hSw);go_simp;try (with_reducible rfl))
     try simp only [tkS]
     refine tk 14 (v:=?_) ?_ ?_
     rotate_left
     ·(intro w hSw;(try dsimp only at hSw);go_simp;try (with_reducible rfl))
     try simp only [tkS]
     refine wpAnyH_ready (rs:=[8]) (by kernel_rfl) (by simp) ?_
     refine AllReadyH.cons rfl (fun K hK=>?_) AllReadyH.nil
     go_simp
     refine hK.out _ _ (by exact ⟨keepA _ hl c1,keepA _ (by omega) x1,keepA _ hbl d0,keepA _ hbl d1⟩) (fun hHeld=>?_)
     clear hK K
     try simp only [tkS]
     refine wpAnyH_ready (rs:=[15]) (by kernel_rfl) (by simp) ?_
     refine AllReadyH.cons rfl (fun K hK=>?_) AllReadyH.nil
     refine wanted_step rfl (wp_append_byt (.tmp 40) (.tmp 46) rfl wr2.heap.size (.slice (some ⟨wr2.heap.size,0,none⟩) 0 0) [] (by simp [Act.eval]) (HE1.out.1) a2 c2 sl (by simp [Act.eval]) (HE1.out.2.1) (by simp;omega) (by simp) ?_)
     intro v2 w2 hov2 hg2
     have hb2:Below wr2.heap.size wr2 w2:=appB_below HE1.out.2.2 (by simp) HE1.out.1 hg2
     rw [List.nil_append] at hov2
     obtain ⟨ua,uc,rfl,hm2⟩:=hov2.mine
     have HM2:Hid (Mine w2 wr2.heap.size w2.heap.size ua uc sl∧Below wr2.heap.size wr2 w2):=⟨hm2,hb2⟩
     have k0:=keep hb2 hl c1
     have k1:=keep hb2 (by omega) x1
     have k2:=keep hb2 hbl d0
     have k3:=keep hb2 hbl d1
     have hl2:w.heap.size+1+1<w2.heap.size:=by have:=hb2.size;omega
     have hbl2:b<w2.heap.size:=by have:=hb2.size;omega
     clear hm2 hb2 hov2 hg2
     refine hK.out _ _ (by exact ⟨k0,k1,k2,k3⟩) (fun hHeld=>?_)
     clear hK K
     try simp only [tkS]
     refine tk 16 (v:=?_) ?_ ?_
     rotate_left
     ·(intro w hSw;(try dsimp only at hSw);go_simp;try (with_reducible rfl))
     try simp only [tkS]
     refine wpAnyH_ready (rs:=[17]) (by kernel_rfl) (by simp) ?_
     refine AllReadyH.cons rfl (fun K hK=>?_) AllReadyH.nil
     go_simp
     refine hK.out _ _ (by exact ⟨keepA _ hl2 k0,keepA _ (by omega) k1,keepA _ hbl2 k2,keepA _ hbl2 k3⟩) (fun hHeld=>?_)
     clear hK K
     try simp only [tkS]
     refine wpAnyH_ready (rs:=[18]) (by kernel_rfl) (by simp) ?_
     refine AllReadyH.cons rfl (fun K hK=>?_) AllReadyH.nil
     refine wanted_step rfl (wp_append_el true (.tmp 33) (.tmp 49) rfl (w.heap.size+1+1+1) (.slice fa fs.length fc) fs (by simp [Act.eval]) (HC0.out.rp.below (cop_mid (e:=⟨sn,ua,uc,sl⟩) HC0.out HM2.out.2 HM2.out.1).1) w2.heap.size 1 ⟨sn,ua,uc,sl⟩ (by simp [Act.eval]) (newsP w2 sn _ sl.length uc 141 _ rfl rfl rfl rfl) (by omega) (by simp;omega) ?_)
     intro v3 w3 hov3 hg3
     obtain ⟨sa3,sc3,hv3⟩:=hov3.form
     rw [List.length_append,List.length_singleton] at hv3
     subst hv3
     have HM:Hid _:=HC0.out.moreP (e:=⟨sn,ua,uc,sl⟩) HM2.out.2 HM2.out.1 hov3 hg3
     have c3:=keep HM.out.2 (by omega) c1
     have x3:=keep HM.out.2 (by omega) x1
     have hne:¬(Value.slice fa fs.length fc).ownBlock=some b:=fun he=>by have:=(HC0.out.rp.blk he).1;omega
     have d3:=(Only.ofGrown hg3).cell (b:=b) (o:=off+j*2) (by simp;omega) hne (keepA _ hbl2 k2)
     have d4:=(Only.ofGrown hg3).cell (b:=b) (o:=off+j*2+1) (by simp;omega) hne (keepA _ hbl2 k3)
     have g3:=(HM.out.2.frozen (p:=⟨w.heap.size+1+1,1,none⟩) (by simp)).trans f1
     have hl3:w.heap.size+1+1<w3.heap.size:=by have:=HM.out.2.size;omega
     clear hov3 hg3
     refine hK.out _ _ (by exact ⟨c3,x3,d3,d4⟩) (fun hHeld=>?_)
     clear hK K
     try simp only [tkS]
     refine wpAnyH_done (by kernel_rfl) ?_ _
     simp only [cutQ,List.drop_succ_cons,List.drop_zero]
     have HMC:Hid (CopR w (w3.setCell ⟨w.heap.size+1+1,1,none⟩ (.slice sa3 (fs.length+1) sc3)) (w.heap.size+1+1) v (.slice sa3 (fs.length+1) sc3) es (fs++[⟨sn,ua,uc,sl⟩])):=HM.out.1
     have HB2:Hid (Box2 (w3.setCell ⟨w.heap.size+1+1,1,none⟩ (.slice sa3 (fs.length+1) sc3)) w.heap.size (.slice sa k sc) (.slice (some ⟨b,off,none⟩) m pc)∧Box2 (w3.setCell ⟨w.heap.size+1+1,1,none⟩ (.slice sa3 (fs.length+1) sc3)) (w.heap.size+1) (.slice none 0 0) (.slice none 0 0)):=⟨(HBX.out.1.keep HM.out.2 (by omega)).other (by simp;omega) _,(HBX.out.2.keep HM.out.2 (by omega)).other (by simp) _⟩
     have HCT2:Hid ((fs++[(⟨sn,ua,uc,sl⟩:El)]).map El.ct=(ps.take (j+1)).map El.ct∧True):=⟨by rw [List.map_append,HST.out.1,HCS.out.1];rfl,trivial⟩
     clear HM HM2 c0 c1 f0 f1 d0 d1 HC0 HBX HCS HST x0 x1 k0 k1 k2 k3 x3 d3 d4 HE1
     go_wp2
     go_roundw
     case rel=>exact ⟨j+1,_,_,by omega,by go_num,HCT2.out.1,HB2.out,HMC.out⟩
     case measure=>simp [intOf];omega
    ·have hjm:j=m:=by omega
     subst hjm
     obtain ⟨va,vc,rfl⟩:=hcop.rs.form
     obtain ⟨ua,uc,rfl⟩:=hcop.rp.form
     obtain ⟨c0,c1,f0,f1,hl⟩:=hcop.box
     obtain ⟨x0,x1,-,-,xl⟩:=HBX.out.1
     obtain ⟨r0,r1,g0,g1,rl⟩:=HBX.out.2
     have hr:=hcop.raw ⟨rE_ct HES.out.1 HB.out.1.rng,rE_ct (ts:=fs) (ss:=ps) (by rw [HST.out.1,List.take_of_length_le (by rw [HLN.out.2];exact Nat.le_refl _)]) HB.out.2.rng⟩
     have hon:Only (fun b=>b=w.heap.size+1) wr2 ((wr2.setCell ⟨w.heap.size+1,0,none⟩ (.slice va es.length vc)).setCell ⟨w.heap.size+1,1,none⟩ (.slice ua fs.length uc)):=((Only.refl (fun b=>b=w.heap.size+1) wr2).setCell (p:=⟨w.heap.size+1,0,none⟩) (.inl rfl) _).setCell (p:=⟨w.heap.size+1,1,none⟩) (.inl rfl) _
     have HR:Hid (RawO ((wr2.setCell ⟨w.heap.size+1,0,none⟩ (.slice va es.length vc)).setCell ⟨w.heap.size+1,1,none⟩ (.slice ua fs.length uc)) w.heap.size (.slice va es.length vc) (.slice ua fs.length uc) es fs):=(hr.stay hon (fun b hb e=>by have:=(hr.inside b hb).1;omega)).weak (by omega)
     have HBE:Hid (Below w.heap.size w ((wr2.setCell ⟨w.heap.size+1,0,none⟩ (.slice va es.length vc)).setCell ⟨w.heap.size+1,1,none⟩ (.slice ua fs.length uc))):=(hcop.bel.setCell (p:=⟨w.heap.size+1,0,none⟩) (by simp) _).setCell (p:=⟨w.heap.size+1,1,none⟩) (by simp) _
     have HFS:Hid (fs.map El.ct=ps.map El.ct∧True):=⟨by rw [HST.out.1,List.take_of_length_le (by rw [HLN.out.2];exact Nat.le_refl _)],trivial⟩
     clear hcop hr hon HST HC0 HBX
     go_wp2
     exact bodyPost_ret (v:=.agg #[.slice va es.length vc,.slice ua fs.length uc]) (by simp [results,Tryz.results145,go_sem,r0,r1]) rfl ⟨⟨_,_,es,fs,rfl,⟨HES.out.1,HFS.out.1⟩,HR.out⟩,HBE.out⟩
end Go.Proofs.YtaibkchbkedjnaaGreatDoor
