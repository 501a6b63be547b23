import Derived.Test.YtaibkchbkedjnaaGreatDoorRwSeC
set_option maxRecDepth 20000
set_option maxHeartbeats 16000000
namespace Go.Proofs.YtaibkchbkedjnaaGreatDoor
open Go.RowKit
set_option linter.unusedVariables false
theorem zak (a:Option Addr) (cap:Nat) (es:List El) (w:World) (hb:Els false w a es) (hn:es.length<=1000000) :
  Calls Tryz.prog 146 #[.slice a es.length cap] w fun e w'=>(∃ v,e=.returned v/\OVr false w' w.heap.size v es)/\Below w.heap.size w w':=by
 cases a with
 | none=>
  have hz:=zb4 hb;subst hz;have heq:(binOp .eql 22 (.slice none 0 cap) (.slice none 0 0)).run Tryz.prog w=.ok (.bool true) w:=Lib.run_eql_slice_nil w _ _ none 0 cap 0 0 Tryz.underlying22
  go_enter Tryz.func146,Tryz.ntmps146
  go_wp2
  go_ret;exact ⟨⟨_,rfl,OVr.nil _ _ _⟩,Below.refl _ _⟩
 | some ad=>
  have HO:Hid (OVr false (w.alloc (Obj.cells #[] 36)) w.heap.size (.slice (some ⟨w.heap.size,0,none⟩) 0 0) []):=OVr.empty false w _ nl;have HB:Hid (Below w.heap.size w (w.alloc (Obj.cells #[] 36))):=ba;have HY:Hid (Els false (w.alloc (Obj.cells #[] 36)) (some ad) es):=hb.below HB.out nl;clear hb;have heq:(binOp .eql 22 (.slice (some ad) es.length cap) (.slice none 0 0)).run Tryz.prog w=.ok (.bool false) w:=Lib.run_eql_slice_nil w _ _ (some ad) es.length cap 0 0 Tryz.underlying22
  go_enter Tryz.func146,Tryz.ntmps146
  go_wp2_with (at_builtin;(refine z2b false rfl (.tmp 5) (.tmp 6) rfl w.heap.size (.slice (some ⟨w.heap.size,0,none⟩) 0 0) [] es rfl HO.out ad cap rfl HY.out (by simp;omega) (by simp) ?_;intro v1 w1 hov1 hgr1;have HB1:Hid (Below w.heap.size w w1):=z2d HB.out (by simp) HO.out hgr1;have HV1:Hid (OVr false w1 w.heap.size v1 es):=(by rw [List.nil_append] at hov1;exact hov1);clear hov1 hgr1))
  go_ret;exact ⟨⟨_,rfl,HV1.out⟩,HB1.out⟩
def zix (es:List El) (x:Int):Nat->Option El
 | 0=>none
 | k+1=>if (es.getD k de).n=x then some (es.getD k de) else zix es x k
def rdE (ss ps:List El) (x:Int):El:=(zix ps x ps.length).getD (ss.getD x.toNat de)
def rdB (ss ps:List El) (x:Int):Bool:=rok ss ps && decide (0<=x/\x<(ss.length:Int))
def rdL (ss ps:List El) (x:Int):List Int:=if rdB ss ps x=true then (rdE ss ps x).ls else []
structure Que (W:World) (B Q:Nat) (v:Value) (es:List El):Prop where
 box:Box2 W Q v (.int .i64 60)
 hQ:B<=Q
 row:OVr true W B v es
 ne:¬v.ownBlock=some Q
theorem zd9 (a:Option Addr) (cap:Nat) (es:List El) (w:World) (hb:Els true w a es) (hn:es.length<=1000000) :
  Calls Tryz.prog 173 #[.slice a es.length cap,.int .i64 60] w fun e w'=>(∃ Q v,e=.returned (.pointer (some ⟨Q,0,none⟩))/\Que w' w.heap.size Q v es)/\Below w.heap.size w w':=by
 go_enter Tryz.func173,Tryz.ntmps173
 go_wp2_with fail
 refine (z9d a cap es w hb hn).mono ?_;rintro e w1 ⟨⟨v,rfl,hov⟩,hb1⟩;obtain ⟨va,vc,rfl⟩:=hov.form;have HB2:Hid (Below w.heap.size w (w1.alloc (Obj.cells #[.slice va es.length vc,.int .i64 60] 235))):=hb1.alloc hb1.size _;have HQ:Hid (Que (w1.alloc (Obj.cells #[.slice va es.length vc,.int .i64 60] 235)) w.heap.size w1.heap.size (.slice va es.length vc) es):=⟨Box2.new _ _ _ _,hb1.size,hov.below ((Below.refl _ _).alloc nl _),fun he=>by have:=(hov.blk he).2;omega⟩
 clear hov hb1;go_wp2;go_ret;exact ⟨⟨_,_,rfl,HQ.out⟩,HB2.out⟩
theorem zh0 (sa pa:Option Addr) (sc pc n:Nat) (es:List El) (w:World) (hb:Els true w pa es) (hn:es.length<=1000000) :
  Calls Tryz.prog 147 #[.agg #[.slice sa n sc,.slice pa es.length pc]] w fun e w'=>(∃ Q v,e=.returned (.pointer (some ⟨Q,0,none⟩))/\Que w' w.heap.size Q v es)/\Below w.heap.size w w':=by
 have HW:Hid (Below w.heap.size w (w.alloc (Obj.cells #[.slice sa n sc,.slice pa es.length pc] 41))):=ba
 go_enter Tryz.func147,Tryz.ntmps147
 go_wp2_with fail
 refine (zd9 pa pc es _ (hb.below HW.out nl) hn).mono ?_;rintro e w1 ⟨⟨Q,v,rfl,hq⟩,hb1⟩;have HB1:Hid (Below w.heap.size w w1):=HW.out.trans (hb1.mono HW.out.size);have HQ:Hid (Que w1 w.heap.size Q v es):=⟨hq.box,by have:=hq.hQ;simp at this;omega,hq.row.weak (by simp),hq.ne⟩
 clear hq hb1;go_wp2;go_ret;exact ⟨⟨_,_,rfl,HQ.out⟩,HB1.out⟩
set_option linter.unusedSimpArgs false
theorem zhp (Q g off n c:Nat) (x:Int) (a:Option Addr) (l ec:Nat) (w:World) (hq:Box2 w Q (.slice (some ⟨g,off,none⟩) (n+1) c) (.int .i64 60)) (hc:n+1<=c) (hn:n<=1000000) (h0:w.cell? ⟨g,off,none⟩=some (.int .i64 x)) (h1:w.cell? ⟨g,off+1,none⟩=some (.slice a l ec)) :
  Calls Tryz.prog 148 #[.pointer (some ⟨Q,0,none⟩)] w fun e w'=>e=.returned (.tuple #[.agg #[.int .i64 x,.slice a l ec],.bool true])/\(∃ o',Box2 w' Q (.slice (some ⟨g,o',none⟩) n (c-1)) (.int .i64 60)/\(0<n->o'=off+2))/\Below Q w w'/\Only (fun b=>b=Q) w w':=by
 have HQ:Hid (Box2 w Q (.slice (some ⟨g,off,none⟩) (n+1) c) (.int .i64 60)):=hq;obtain ⟨z0,z1,y0,y1,zl⟩:=hq;have hgl:=World.block_lt_of_cell? _ _ h0
 simp only at hgl
 have hcmp:((((n+1:Nat):Int)) == 0)=false:=by rw [beq_eq_false_iff_ne];omega
 have HON:Hid (∀ o':Nat,(0<n->o'=off+2)->∀ ob1 ob2:Obj,(∃ p',Box2 (((w.setCell ⟨Q,0,none⟩ (.slice (some ⟨g,o',none⟩) n (c-1))).alloc ob1).alloc ob2) Q (.slice (some ⟨g,p',none⟩) n (c-1)) (.int .i64 60)/\(0<n->p'=off+2))/\Below Q w (((w.setCell ⟨Q,0,none⟩ (.slice (some ⟨g,o',none⟩) n (c-1))).alloc ob1).alloc ob2)/\Only (fun b=>b=Q) w (((w.setCell ⟨Q,0,none⟩ (.slice (some ⟨g,o',none⟩) n (c-1))).alloc ob1).alloc ob2)):=by
  intro o' ho ob1 ob2
  have hb1:Below w.heap.size (w.setCell ⟨Q,0,none⟩ (.slice (some ⟨g,o',none⟩) n (c-1))) (((w.setCell ⟨Q,0,none⟩ (.slice (some ⟨g,o',none⟩) n (c-1))).alloc ob1).alloc ob2):=((Below.refl _ _).alloc (by simp) _).alloc (by simp) _
  refine ⟨⟨o',(((HQ.out.set0 _).alloc _).alloc _),ho⟩,?_,?_⟩
  ·exact ((Below.refl Q w).setCell (p:=⟨Q,0,none⟩) (by simp) _).trans (hb1.mono (by omega))
  ·exact ((Only.refl (fun b=>b=Q) w).setCell (p:=⟨Q,0,none⟩) (.inl rfl) _).trans (Only.ofBelow hb1 (by simp))
 go_enter Tryz.func148,Tryz.ntmps148
 go_wp2
 case inl h=>
  subst h;exact bodyPost_ret (v:=.tuple #[.agg #[.int .i64 x,.slice a l ec],.bool true]) (by simp [results,Tryz.results148,go_sem]) rfl ⟨rfl,HON.out off (by omega) _ _⟩
 case inr h=>
  exact bodyPost_ret (v:=.tuple #[.agg #[.int .i64 x,.slice a l ec],.bool true]) (by simp [results,Tryz.results148,go_sem]) rfl ⟨rfl,HON.out (off+2) (fun _=>rfl) _ _⟩
theorem zei (sa pa:Option Addr) (sc pc:Nat) (ss ps:List El) (w:World) (hb:RawI w sa pa ss ps) (hn:ss.length<=1000) (hm:ps.length<=1000) (hl:∀ s ∈ ss,s.ls.length<=1000000) (hp:∀ s ∈ ps,s.ls.length<=1000000) :
  Calls Tryz.prog 149 #[.agg #[.slice sa ss.length sc,.slice pa ps.length pc]] w fun e w'=>
   (∃ v u ts qs,e=.returned (.agg #[v,u])/\(ts.map El.ct=ss.map El.ct/\qs.map El.ct=ps.map El.ct)/\RawO w' w.heap.size v u ts qs)/\Below w.heap.size w w':=by
 have HB:Hid (RawI w sa pa ss ps):=hb;have HL:Hid ((∀ s ∈ ss,s.ls.length<=1000000)/\(∀ s ∈ ps,s.ls.length<=1000000)):=⟨hl,hp⟩;clear hb hl hp;generalize hlen:ss.length=n at *;generalize hlen2:ps.length=m at *;have HLN:Hid (ss.length=n/\ps.length=m):=⟨hlen,hlen2⟩;clear hlen hlen2
 go_enter Tryz.func149,Tryz.ntmps149
 have HR0:Hid (Box2 (((w.alloc (Obj.cells #[.slice sa n sc,.slice pa m pc] 41)).alloc (Obj.cells #[.slice none 0 0,.slice none 0 0] 41)).alloc (Obj.cells #[.slice none 0 0,.slice none 0 0] 41)) w.heap.size (.slice sa n sc) (.slice pa m pc)/\Box2 (((w.alloc (Obj.cells #[.slice sa n sc,.slice pa m pc] 41)).alloc (Obj.cells #[.slice none 0 0,.slice none 0 0] 41)).alloc (Obj.cells #[.slice none 0 0,.slice none 0 0] 41)) (w.heap.size+1) (.slice none 0 0) (.slice none 0 0)/\CopR w (((w.alloc (Obj.cells #[.slice sa n sc,.slice pa m pc] 41)).alloc (Obj.cells #[.slice none 0 0,.slice none 0 0] 41)).alloc (Obj.cells #[.slice none 0 0,.slice none 0 0] 41)) (w.heap.size+1+1) (.slice none 0 0) (.slice none 0 0) [] []):=by
  refine ⟨((Box2.new _ _ _ _).alloc _).alloc _,?_,⟨(((Below.refl _ _).alloc nl _).alloc (by simp) _).alloc (by simp;omega) _,by omega,OVr.nil _ _ _,OVr.nil _ _ _,Deep.nil _ _,?_⟩⟩
  ·have h9:=(Box2.new (w.alloc (Obj.cells #[.slice sa n sc,.slice pa m pc] 41)) (.slice none 0 0) (.slice none 0 0) 41).alloc (Obj.cells #[.slice none 0 0,.slice none 0 0] 41)
   simpa using h9
  ·have h9:=Box2.new ((w.alloc (Obj.cells #[.slice sa n sc,.slice pa m pc] 41)).alloc (Obj.cells #[.slice none 0 0,.slice none 0 0] 41)) (.slice none 0 0) (.slice none 0 0) 41
   simpa using h9
 go_wp2
 go_loopw [11] (fun i wr=>∃ (k:Nat) (v:Value) (es:List El),k<=n/\i=.int .i64 k/\es.map El.ct=(ss.take k).map El.ct/\Box2 wr w.heap.size (.slice sa n sc) (.slice pa m pc)/\Box2 wr (w.heap.size+1) (.slice none 0 0) (.slice none 0 0)/\CopR w wr (w.heap.size+1+1) v (.slice none 0 0) es []) (fun i _=>n-(intOf i).toNat)
 case atStart=>exact ⟨0,_,[],Nat.zero_le _,rfl,by simp,HR0.out.1,HR0.out.2.1,HR0.out.2.2⟩
 case round=>
  clear HR0;obtain ⟨k,v,es,hk,rfl,hct,hb0,hb1,hcop⟩:=hrel;have hes:es.length=k:=by
   have:=congrArg List.length hct
   simp only [List.length_map,List.length_take,HLN.out.1] at this
   omega
  have HST:Hid (es.map El.ct=(ss.take k).map El.ct/\es.length=k):=⟨hct,hes⟩;have HBX:Hid (Box2 wr w.heap.size (.slice sa n sc) (.slice pa m pc)/\Box2 wr (w.heap.size+1) (.slice none 0 0) (.slice none 0 0)):=⟨hb0,hb1⟩;have HCO:Hid (CopR w wr (w.heap.size+1+1) v (.slice none 0 0) es []):=hcop;clear hct hes hb0 hb1
  by_cases hlt:k<n
  ·obtain ⟨va,vc,rfl⟩:=hcop.rs.form
   obtain ⟨c0,c1,f0,f1,hl⟩:=hcop.box;obtain ⟨b,off,rfl,hbl,d0,hby,hrg⟩:=(HB.out.1.below hcop.bel nl).sec k (by rw [HLN.out.1];exact hlt)
   have hll:=HL.out.1 _ (zf (k:=k) (by rw [HLN.out.1];exact hlt))
   have HCS:Hid ((ss.take (k+1)).map El.ct=(ss.take k).map El.ct++[(ss.getD k de).ct]/\True):=⟨z0d ss k (by rw [HLN.out.1];exact hlt),trivial⟩
   have HEN:Hid ((ss.getD k de).n=0):=hrg.zero rfl;clear hcop hrg;generalize ss.getD k de=s at *;obtain ⟨sn,a2,c2,sl⟩:=s
   simp only at d0 hby hll HEN
   have HBY:Hid (Byt wr a2 sl):=hby;clear hby;have hk1:es.length<=1000:=by have:=HST.out.2;omega
   go_wp2
   refine zh (S:=fun W=>W.cell? ⟨w.heap.size+1+1,0,none⟩=some (.slice va es.length vc)) 6 (by kernel_rfl) (by kernel_rfl) (by exact c0) (fun hHeld=>?_)
   refine tk 0 ?_
   try simp only [tkS]
   refine tk 1 ?_
   try simp only [tkS]
   refine tk 2 ?_
   try simp only [tkS]
   refine wpAnyH_ready (rs:=[3]) (by kernel_rfl) (by simp) ?_
   refine AllReadyH.cons rfl (fun K hK=>?_) AllReadyH.nil
   go_simp
   refine (z1a a2 c2 sl _ (by exact HBY.out) hll).mono ?_
   rintro e w2 ⟨⟨u,rfl,hov2⟩,hb2'⟩;have hb2:Below wr.heap.size wr w2:=Below.drewS hb2';obtain ⟨ua,uc,rfl,hm2⟩:=hov2.mine;have HM2:Hid (Mine w2 wr.heap.size w2.heap.size ua uc sl/\Below wr.heap.size wr w2):=⟨hm2,hb2⟩;have c2:=keep hb2 hl c0;have hl2:w.heap.size+1+1<w2.heap.size:=by have:=hb2.size;omega
   clear hm2 hb2 hb2' hov2
   dsimp only
   refine hK.out _ _ (by exact c2) (fun hHeld=>?_)
   clear hK K
   try simp only [tkS]
   refine wpAnyH_ready (rs:=[4]) (by kernel_rfl) (by simp) ?_
   refine AllReadyH.cons rfl (fun K hK=>?_) AllReadyH.nil
   go_simp
   refine hK.out _ _ (by exact ze _ hl2 c2) (fun hHeld=>?_)
   clear hK K
   try simp only [tkS]
   refine wpAnyH_ready (rs:=[5]) (by kernel_rfl) (by simp) ?_
   refine AllReadyH.cons rfl (fun K hK=>?_) AllReadyH.nil
   refine z0v rfl (z1n false (.tmp 16) (.tmp 19) rfl (w.heap.size+1+1+1) (.slice va es.length vc) es (by simp [Act.eval]) (HCO.out.rs.below (z2i (e:=⟨sn,ua,uc,sl⟩) HCO.out HM2.out.2 HM2.out.1).1) w2.heap.size 1 ⟨sn,ua,uc,sl⟩ (by simp [Act.eval]) (ziw w2 _ sl.length uc 36 _ rfl rfl rfl) (by omega) (by simp;omega) ?_)
   intro v3 w3 hov3 hg3
   obtain ⟨sa3,sc3,hv3⟩:=hov3.form;rw [List.length_append,List.length_singleton] at hv3;subst hv3;have HM:Hid _:=HCO.out.moreS (e:=⟨sn,ua,uc,sl⟩) HM2.out.2 HM2.out.1 hov3 hg3;have c3:=keep HM.out.2 (by omega) c0
   have g3:=(HM.out.2.frozen (p:=⟨w.heap.size+1+1,0,none⟩) (by simp)).trans f0
   have hl3:w.heap.size+1+1<w3.heap.size:=by have:=HM.out.2.size;omega
   clear hov3 hg3;refine hK.out _ _ (by exact c3) (fun hHeld=>?_)
   clear hK K
   try simp only [tkS]
   refine wpAnyH_done (by kernel_rfl) ?_ _
   simp only [z0i,List.drop_succ_cons,List.drop_zero]
   have HMC:Hid (CopR w (w3.setCell ⟨w.heap.size+1+1,0,none⟩ (.slice sa3 (es.length+1) sc3)) (w.heap.size+1+1) (.slice sa3 (es.length+1) sc3) (.slice none 0 0) (es++[⟨sn,ua,uc,sl⟩]) []):=HM.out.1;have HB2:Hid (Box2 (w3.setCell ⟨w.heap.size+1+1,0,none⟩ (.slice sa3 (es.length+1) sc3)) w.heap.size (.slice (some ⟨b,off,none⟩) n sc) (.slice pa m pc)/\Box2 (w3.setCell ⟨w.heap.size+1+1,0,none⟩ (.slice sa3 (es.length+1) sc3)) (w.heap.size+1) (.slice none 0 0) (.slice none 0 0)):=⟨(HBX.out.1.keep HM.out.2 (by omega)).other (by simp;omega) _,(HBX.out.2.keep HM.out.2 (by omega)).other (by simp) _⟩
   have HCT2:Hid ((es++[(⟨sn,ua,uc,sl⟩:El)]).map El.ct=(ss.take (k+1)).map El.ct/\True):=⟨by rw [List.map_append,HST.out.1,HCS.out.1];rfl,trivial⟩
   clear HM HM2 c0 c1 f0 f1 d0 HCO HBX HCS HST;go_wp2;go_roundw
   case rel=>exact ⟨k+1,_,_,by omega,by go_num,HCT2.out.1,HB2.out.1,HB2.out.2,HMC.out⟩
   case measure=>simp [intOf];omega
  ·have hkn:k=n:=by omega
   subst hkn;obtain ⟨x0,x1,-,-,xl⟩:=HBX.out.1;have HES:Hid (es.map El.ct=ss.map El.ct/\True):=⟨by rw [HST.out.1,List.take_of_length_le (by rw [HLN.out.1];exact Nat.le_refl _)],trivial⟩
   clear hcop HST;go_wp2
   go_loopw [26] (fun i wr2=>∃ (j:Nat) (u:Value) (fs:List El),j<=m/\i=.int .i64 j/\fs.map El.ct=(ps.take j).map El.ct/\Box2 wr2 (w.heap.size+1) (.slice none 0 0) (.slice none 0 0)/\CopR w wr2 (w.heap.size+1+1) v u es fs) (fun i _=>m-(intOf i).toNat)
   case atStart=>exact ⟨0,_,[],Nat.zero_le _,rfl,by simp,HBX.out.2,HCO.out⟩
   case round=>
    clear HBX HCO x0 x1 xl;obtain ⟨j,u,fs,hj,rfl,hct,hb1,hcop⟩:=hrel;generalize wr=wr2 at *;have hfs:fs.length=j:=by
     have:=congrArg List.length hct
     simp only [List.length_map,List.length_take,HLN.out.2] at this
     omega
    have HST:Hid (fs.map El.ct=(ps.take j).map El.ct/\fs.length=j):=⟨hct,hfs⟩;have HBX:Hid (Box2 wr2 (w.heap.size+1) (.slice none 0 0) (.slice none 0 0)):=hb1;have HC0:Hid (CopR w wr2 (w.heap.size+1+1) v u es fs):=hcop;clear hct hfs hb1
    by_cases hlt:j<m
    ·obtain ⟨fa,fc,rfl⟩:=hcop.rp.form
     obtain ⟨c0,c1,f0,f1,hl⟩:=hcop.box;obtain ⟨b,off,rfl,hbl,d0,d1,hby,hrg⟩:=(HB.out.2.below hcop.bel nl).pen j (by rw [HLN.out.2];exact hlt)
     have hll:=HL.out.2 _ (zf (k:=j) (by rw [HLN.out.2];exact hlt))
     have HCS:Hid ((ps.take (j+1)).map El.ct=(ps.take j).map El.ct++[(ps.getD j de).ct]/\True):=⟨z0d ps j (by rw [HLN.out.2];exact hlt),trivial⟩
     clear hcop hrg;generalize ps.getD j de=s at *;obtain ⟨sn,a2,c2,sl⟩:=s
     simp only at d0 d1 hby hll
     have hba:Below wr2.heap.size wr2 (wr2.alloc (Obj.cells #[.int .i64 sn,.slice a2 sl.length c2] 141)):=ba;have HBY:Hid (Byt (wr2.alloc (Obj.cells #[.int .i64 sn,.slice a2 sl.length c2] 141)) a2 sl):=hby.below hba nl;have HC1:Hid (CopR w (wr2.alloc (Obj.cells #[.int .i64 sn,.slice a2 sl.length c2] 141)) (w.heap.size+1+1) v (.slice fa fs.length fc) es fs):=HC0.out.step hba;have HBX1:Hid (Box2 (wr2.alloc (Obj.cells #[.int .i64 sn,.slice a2 sl.length c2] 141)) (w.heap.size+1) (.slice none 0 0) (.slice none 0 0)):=HBX.out.keep hba HBX.out.lt
     clear hby hba c0 c1 f0 f1;have hk1:fs.length<=1000:=by have:=HST.out.2;omega
     go_wp2
     obtain ⟨c0,c1,f0,f1,hl⟩:=HC1.out.box;obtain ⟨b0,b1,-,-,bl⟩:=Box2.new wr2 (.int .i64 sn) (.slice a2 sl.length c2) 141;have hlw:w.heap.size+1+1<wr2.heap.size:=HC0.out.box.lt;refine zh (S:=fun W=>W.cell? ⟨w.heap.size+1+1,1,none⟩=some (.slice fa fs.length fc)/\W.cell? ⟨wr2.heap.size,0,none⟩=some (.int .i64 sn)/\W.cell? ⟨wr2.heap.size,1,none⟩=some (.slice a2 sl.length c2)) 10 (by kernel_rfl) (by kernel_rfl) (by exact ⟨c1,b0,b1⟩) (fun hHeld=>?_)
     refine tk 0 ?_
     try simp only [tkS]
     refine tk 1 ?_
     try simp only [tkS]
     refine tk 2 ?_
     try simp only [tkS]
     refine tk 3 ?_
     try simp only [tkS]
     refine tk 4 ?_
     try simp only [tkS]
     refine tk 5 ?_
     try simp only [tkS]
     refine wpAnyH_ready (rs:=[6]) (by kernel_rfl) (by simp) ?_
     refine AllReadyH.cons rfl (fun K hK=>?_) AllReadyH.nil
     go_simp
     refine (z1a a2 c2 sl _ (by exact HBY.out) hll).mono ?_
     rintro e w2 ⟨⟨uu,rfl,hov2⟩,hb2'⟩;have hb2:Below (wr2.heap.size+1) (wr2.alloc (Obj.cells #[.int .i64 sn,.slice a2 sl.length c2] 141)) w2:=by have h9:=Below.drewS hb2';simpa using h9
     obtain ⟨ua,uc,rfl,hm2⟩:=hov2.mine;have HM2:Hid (Mine w2 (wr2.alloc (Obj.cells #[.int .i64 sn,.slice a2 sl.length c2] 141)).heap.size w2.heap.size ua uc sl/\Below (wr2.alloc (Obj.cells #[.int .i64 sn,.slice a2 sl.length c2] 141)).heap.size (wr2.alloc (Obj.cells #[.int .i64 sn,.slice a2 sl.length c2] 141)) w2):=⟨hm2,Below.drewS hb2'⟩;have k1:=keep hb2 (by omega) c1
     have o0:=keep hb2 (by omega) b0
     have o1:=keep hb2 (by omega) b1
     have hl2:w.heap.size+1+1<w2.heap.size:=by have:=hb2.size;simp at this;omega
     have bl2:wr2.heap.size<w2.heap.size:=by have:=hb2.size;simp at this;omega
     clear hm2 hb2 hb2' hov2
     dsimp only
     refine hK.out _ _ (by exact ⟨k1,o0,o1⟩) (fun hHeld=>?_)
     clear hK K
     try simp only [tkS]
     refine tk 7 ?_
     try simp only [tkS]
     refine wpAnyH_ready (rs:=[8]) (by kernel_rfl) (by simp) ?_
     refine AllReadyH.cons rfl (fun K hK=>?_) AllReadyH.nil
     go_simp
     refine hK.out _ _ (by exact ⟨ze _ hl2 k1,ze _ bl2 o0,ze _ bl2 o1⟩) (fun hHeld=>?_)
     clear hK K
     try simp only [tkS]
     refine wpAnyH_ready (rs:=[9]) (by kernel_rfl) (by simp) ?_
     refine AllReadyH.cons rfl (fun K hK=>?_) AllReadyH.nil
     refine z0v rfl (z1n true (.tmp 31) (.tmp 38) rfl (w.heap.size+1+1+1) (.slice fa fs.length fc) fs (by simp [Act.eval]) (HC1.out.rp.below (z2i (e:=⟨sn,ua,uc,sl⟩) HC1.out HM2.out.2 HM2.out.1).1) w2.heap.size 1 ⟨sn,ua,uc,sl⟩ (by simp [Act.eval]) (ziz w2 sn _ sl.length uc 141 _ rfl rfl rfl rfl) (by omega) (by simp;omega) ?_)
     intro v3 w3 hov3 hg3
     obtain ⟨sa3,sc3,hv3⟩:=hov3.form;rw [List.length_append,List.length_singleton] at hv3;subst hv3;have HM:Hid _:=HC1.out.moreP (e:=⟨sn,ua,uc,sl⟩) HM2.out.2 HM2.out.1 hov3 hg3;have c3:=keep HM.out.2 (by omega) c1
     have g3:=(HM.out.2.frozen (p:=⟨w.heap.size+1+1,1,none⟩) (by simp)).trans f1
     have hl3:w.heap.size+1+1<w3.heap.size:=by have:=HM.out.2.size;simp at this;omega
     have hne:¬(Value.slice fa fs.length fc).ownBlock=some wr2.heap.size:=fun he=>by have:=(HC0.out.rp.blk he).2;omega
     have p0:=(Only.ofGrown hg3).cell (b:=wr2.heap.size) (o:=0) (by simp;omega) hne (ze _ bl2 o0)
     have p1:=(Only.ofGrown hg3).cell (b:=wr2.heap.size) (o:=1) (by simp;omega) hne (ze _ bl2 o1)
     clear hov3 hg3;refine hK.out _ _ (by exact ⟨c3,p0,p1⟩) (fun hHeld=>?_)
     clear hK K
     try simp only [tkS]
     refine wpAnyH_done (by kernel_rfl) ?_ _
     simp only [z0i,List.drop_succ_cons,List.drop_zero]
     have HMC:Hid (CopR w (w3.setCell ⟨w.heap.size+1+1,1,none⟩ (.slice sa3 (fs.length+1) sc3)) (w.heap.size+1+1) v (.slice sa3 (fs.length+1) sc3) es (fs++[⟨sn,ua,uc,sl⟩])):=HM.out.1;have HB2:Hid (Box2 (w3.setCell ⟨w.heap.size+1+1,1,none⟩ (.slice sa3 (fs.length+1) sc3)) (w.heap.size+1) (.slice none 0 0) (.slice none 0 0)):=(HBX1.out.keep HM.out.2 (by omega)).other (by simp) _
     have HCT2:Hid ((fs++[(⟨sn,ua,uc,sl⟩:El)]).map El.ct=(ps.take (j+1)).map El.ct/\True):=⟨by rw [List.map_append,HST.out.1,HCS.out.1];rfl,trivial⟩
     clear HM HM2 c0 c1 f0 f1 d0 d1 HC0 HC1 HBX HBX1 HCS HST o0 o1 p0 p1 b0 b1 k1;go_wp2;go_roundw
     case rel=>exact ⟨j+1,_,_,by omega,by go_num,HCT2.out.1,HB2.out,HMC.out⟩
     case measure=>simp [intOf];omega
    ·have hjm:j=m:=by omega
     subst hjm;obtain ⟨va,vc,rfl⟩:=hcop.rs.form;obtain ⟨ua,uc,rfl⟩:=hcop.rp.form;obtain ⟨c0,c1,f0,f1,hl⟩:=hcop.box;obtain ⟨r0,r1,g0,g1,rl⟩:=HBX.out;have hr:=hcop.raw ⟨z71 HES.out.1 HB.out.1.rng,z71 (ts:=fs) (ss:=ps) (by rw [HST.out.1,List.take_of_length_le (by rw [HLN.out.2];exact Nat.le_refl _)]) HB.out.2.rng⟩
     have hon:Only (fun b=>b=w.heap.size+1) wr2 ((wr2.setCell ⟨w.heap.size+1,0,none⟩ (.slice va es.length vc)).setCell ⟨w.heap.size+1,1,none⟩ (.slice ua fs.length uc)):=((Only.refl (fun b=>b=w.heap.size+1) wr2).setCell (p:=⟨w.heap.size+1,0,none⟩) (.inl rfl) _).setCell (p:=⟨w.heap.size+1,1,none⟩) (.inl rfl) _
     have HR:Hid (RawO ((wr2.setCell ⟨w.heap.size+1,0,none⟩ (.slice va es.length vc)).setCell ⟨w.heap.size+1,1,none⟩ (.slice ua fs.length uc)) w.heap.size (.slice va es.length vc) (.slice ua fs.length uc) es fs):=(hr.stay hon (fun b hb e=>by have:=(hr.inside b hb).1;omega)).weak (by omega)
     have HBE:Hid (Below w.heap.size w ((wr2.setCell ⟨w.heap.size+1,0,none⟩ (.slice va es.length vc)).setCell ⟨w.heap.size+1,1,none⟩ (.slice ua fs.length uc))):=(hcop.bel.setCell (p:=⟨w.heap.size+1,0,none⟩) (by simp) _).setCell (p:=⟨w.heap.size+1,1,none⟩) (by simp) _
     have HFS:Hid (fs.map El.ct=ps.map El.ct/\True):=⟨by rw [HST.out.1,List.take_of_length_le (by rw [HLN.out.2];exact Nat.le_refl _)],trivial⟩
     clear hcop hr hon HST HC0 HBX;go_wp2;exact bodyPost_ret (v:=.agg #[.slice va es.length vc,.slice ua fs.length uc]) (by simp [results,Tryz.results149,go_sem,r0,r1]) rfl ⟨⟨_,_,es,fs,rfl,⟨HES.out.1,HFS.out.1⟩,HR.out⟩,HBE.out⟩
theorem zi4 {P:Option Addr->List Int->Prop} {ss ps:List El} (h1:∀ e ∈ ss,P e.a e.ls) (h2:∀ e ∈ ps,P e.a e.ls) (f:Nat->Bool) (k:Nat) (hk:k<=ps.length):∀ e ∈ zo ss ps f k,P e.a e.ls:=by
 induction k with
 | zero=>exact h1
 | succ k ih=>
  intro e he
  simp only [zo] at he
  split at he
  ·rcases List.mem_or_eq_of_mem_set he with he | rfl
   ·exact ih (by omega) e he
   ·exact h2 (ps.getD k de) (zf (es:=ps) (k:=k) (by omega))
  ·exact ih (by omega) e he
theorem OVr.cap {p:Bool} {w:World} {B:Nat} {a:Option Addr} {n c:Nat} {es:List El} (h:OVr p w B (.slice a n c) es) (hn:0<n):∃ g,a=some ⟨g,0,none⟩/\n<=c:=by
 rcases h.own.2 with ⟨e,h0⟩ | ⟨g,cap,cur,e,hg,hh,r,_⟩
 ·simp at e
  omega
 ·simp at e
  obtain ⟨rfl,rfl,rfl⟩:=e;exact ⟨g,rfl,r⟩
structure SetI (w W:World) (Q:Nat) (v u qv:Value) (es ps:List El):Prop where
 bel:Below w.heap.size w W
 rs:OVr false W (w.heap.size+2) v es
 rp:OVr true W (w.heap.size+2) u ps
 box:Box2 W Q qv (.int .i64 60)
 hQ:w.heap.size+2<=Q
 nv:¬v.ownBlock=some Q
 nu:¬u.ownBlock=some Q
 res:Box2 W (w.heap.size+1) (.slice none 0 0) (.slice none 0 0)
section
variable {w W W' : World} {Q : Nat} {v u qv qv' : Value} {es ps : List El}
theorem SetI.step (h:SetI w W Q v u qv es ps) (hb:Below W.heap.size W W'):SetI w W' Q v u qv es ps:=
 ⟨h.bel.trans (hb.mono h.bel.size),h.rs.below hb,h.rp.below hb,h.box.keep hb h.box.lt,h.hQ,h.nv,h.nu,h.res.keep hb h.res.lt⟩
theorem SetI.took (h:SetI w W Q v u qv es ps) (ho:Only (fun b=>b=Q) W W') (hx:Box2 W' Q qv' (.int .i64 60)):SetI w W' Q v u qv' es ps:=
 ⟨h.bel.trans (ho.below h.bel.size (by rintro k rfl;have:=h.hQ;omega)),h.rs.stay ho (fun k hk e=>h.nv (e ▸ hk)),h.rp.stay ho (fun k hk e=>h.nu (e ▸ hk)),hx,h.hQ,h.nv,h.nu,h.res.only ho (by have:=h.hQ;omega)⟩
theorem SetI.put (h:SetI w W Q v u qv es ps) {g:Nat} (hg:v.ownBlock=some g) (i:Nat) (hi:i<es.length) (e:El) :
  SetI w (W.setCell ⟨g,i,none⟩ (.slice e.a e.ls.length e.c)) Q v u qv (es.set i e) ps:=by
 have hon:Only (fun b=>b=g) W (W.setCell ⟨g,i,none⟩ (.slice e.a e.ls.length e.c)):=(Only.refl (fun b=>b=g) W).setCell (p:=⟨g,i,none⟩) (.inl rfl) _
 have hst:=h.rs.store i hi e 0 (by simp [eW]) (.slice e.a e.ls.length e.c) rfl hg
 rw [show i*eW false+0=i from by simp [eW]] at hst
 have hgB:=(h.rs.blk hg).1;have hgQ:g≠Q:=fun e=>h.nv (e ▸ hg)
 exact ⟨h.bel.setCell (p:=⟨g,i,none⟩) (by simp only;omega) _,hst,h.rp.stay hon (fun k hk e=>h.rs.two h.rp (e ▸ hg) hk),h.box.other (by simp only;exact hgQ) _,h.hQ,h.nv,h.nu,h.res.other (by simp only;omega) _⟩
end
theorem zip (k P:Nat) (da:Option Addr) (dc:Nat) (ds:List Bool) (w:World) (hP:w.cell? ⟨P,0,none⟩=some (.slice da ds.length dc)) (hd:Bos w da ds) (hdl:ds.length<=281474976710656) (hk:k<=1000) :
  Calls Tryz.prog 105 #[.int .i64 k,.pointer (some ⟨P,0,none⟩)] w fun e w'=>e=.returned (.bool (kep false ds k))/\Below w.heap.size w w':=by
 by_cases hkb:k<ds.length
 ·obtain ⟨kb,ko,rfl,hkb1,hkc⟩:=hd.pos k hkb
  have hkb2:(k:Int)<(ds.length:Int):=by omega
  rw [show kep false ds k=ds.getD k false from by simp only [kep,decide_eq_true hkb,Bool.false_or,Bool.true_and]]
  generalize ds.getD k false=z at *;clear hd
  go_enter Tryz.func105,Tryz.ntmps105
  go_wp2
  go_ret;exact ⟨rfl,Below.refl _ _⟩
 ·have hkb2:¬(k:Int)<(ds.length:Int):=by omega
  rw [show kep false ds k=false from by simp only [kep,decide_eq_false hkb];rfl]
  clear hd
  go_enter Tryz.func105,Tryz.ntmps105
  go_wp2
  go_ret;exact ⟨rfl,Below.refl _ _⟩
theorem zah (sa pa:Option Addr) (sc pc:Nat) (ss ps:List El) (P:Nat) (da:Option Addr) (dc:Nat) (ds:List Bool) (w:World) (hb:RawI w sa pa ss ps) (hP:w.cell? ⟨P,0,none⟩=some (.slice da ds.length dc)) (hd:Bos w da ds) (hR:Rok ss ps) (hdl:ds.length<=281474976710656) :
  Calls Tryz.prog 104 #[.agg #[.slice sa ss.length sc,.slice pa ps.length pc],.func (.func 105) #[] #[.pointer (some ⟨P,0,none⟩)]] w fun e w'=>
   (∃ v u ts,e=.returned (.agg #[v,u])/\ts.map El.ct=(zo ss ps (kep false ds) ps.length).map El.ct/\RawO w' w.heap.size v u ts [])/\Below w.heap.size w w':=by
 have HB:Hid (RawI w sa pa ss ps/\Bos w da ds/\w.cell? ⟨P,0,none⟩=some (.slice da ds.length dc)/\P<w.heap.size):=⟨hb,⟨hd,hP,World.block_lt_of_cell? _ _ hP⟩⟩;have HR:Hid (Rok ss ps):=hR;have hR1:=hR.1;have hR2:=hR.2.1;have hR3:=hR.2.2.1;clear hb hR hd hP;have HW:Hid (Below w.heap.size w ((w.alloc (Obj.cells #[.slice sa ss.length sc,.slice pa ps.length pc] 41)).alloc (Obj.cells #[.slice none 0 0,.slice none 0 0] 41))):=((Below.refl _ _).alloc nl _).alloc (by simp) _
 have HX:Hid (Box2 ((w.alloc (Obj.cells #[.slice sa ss.length sc,.slice pa ps.length pc] 41)).alloc (Obj.cells #[.slice none 0 0,.slice none 0 0] 41)) w.heap.size (.slice sa ss.length sc) (.slice pa ps.length pc)/\Box2 ((w.alloc (Obj.cells #[.slice sa ss.length sc,.slice pa ps.length pc] 41)).alloc (Obj.cells #[.slice none 0 0,.slice none 0 0] 41)) (w.heap.size+1) (.slice none 0 0) (.slice none 0 0)):=by
  refine ⟨(Box2.new _ _ _ _).alloc _,?_⟩;have h9:=Box2.new (w.alloc (Obj.cells #[.slice sa ss.length sc,.slice pa ps.length pc] 41)) (.slice none 0 0) (.slice none 0 0) 41
  simpa using h9
 have HCL:=zak sa sc ss _ (HB.out.1.1.below HW.out nl) (by omega)
 go_enter Tryz.func104,Tryz.ntmps104
 go_wp2_with fail
 refine HCL.mono ?_;clear HCL;rintro e w1 ⟨⟨v,rfl,hov⟩,hb1⟩;obtain ⟨va,vc,rfl⟩:=hov.form;have HX1:Hid (Box2 w1 w.heap.size (.slice sa ss.length sc) (.slice pa ps.length pc)/\Box2 w1 (w.heap.size+1) (.slice none 0 0) (.slice none 0 0)/\Below w.heap.size w w1/\OVr false w1 (w.heap.size+2) (.slice va ss.length vc) ss/\w.heap.size+2<=w1.heap.size):=⟨HX.out.1.keep hb1 HX.out.1.lt,HX.out.2.keep hb1 HX.out.2.lt,HW.out.trans (hb1.mono HW.out.size),hov.weak (by simp),by have:=hb1.size;simp at this;omega⟩
 clear HX HW hov hb1;obtain ⟨x0,x1,-,-,xl⟩:=HX1.out.1;have HWT:=zh0 sa pa sc pc ss.length ps w1 ((HB.out.1.below HX1.out.2.2.1 nl).2) (by omega)
 go_wp2_with fail
 refine HWT.mono ?_;clear HWT x0 x1 xl;rintro e w2 ⟨⟨Q,u,rfl,hq⟩,hb2⟩;obtain ⟨ua,uc,rfl⟩:=hq.row.form;have HS0:Hid (SetI w w2 Q (.slice va ss.length vc) (.slice ua ps.length uc) (.slice ua ps.length uc) ss ps):=by
  have h9:=HX1.out.2.2.2.2;refine ⟨HX1.out.2.2.1.trans (hb2.mono HX1.out.2.2.1.size),HX1.out.2.2.2.1.below hb2,hq.row.weak h9,hq.box,by have:=hq.hQ;omega,fun he=>?_,hq.ne,HX1.out.2.1.keep hb2 HX1.out.2.1.lt⟩
  have h7:=(HX1.out.2.2.2.1.blk he).2;have h8:=hq.hQ
  omega
 have HCP:Hid (0<ps.length->∃ gp,ua=some ⟨gp,0,none⟩/\ps.length<=uc):=fun h0=>hq.row.cap h0
 obtain ⟨x0,x1,-,-,xl⟩:=HX1.out.1.keep hb2 HX1.out.1.lt;clear HX1 hb2 hq;generalize hmm:ps.length=m at *;generalize hnn:ss.length=n at *;have HNM:Hid (ps.length=m/\ss.length=n):=⟨hmm,hnn⟩;clear hmm hnn;go_wp2
 go_loopw [18] (fun i wr=>∃ (k r:Nat) (qv:Value),k+r=m/\i=.int .i64 k/\(0<r->∃ gp cc,ua=some ⟨gp,0,none⟩/\qv=.slice (some ⟨gp,k*2,none⟩) r cc/\r<=cc)/\SetI w wr Q (.slice va n vc) (.slice ua m uc) qv (zo ss ps (kep false ds) k) ps) (fun i _=>m-(intOf i).toNat)
 case atStart=>
  refine ⟨0,m,_,by omega,rfl,fun h0=>?_,HS0.out⟩
  obtain ⟨gp,rfl,h1⟩:=HCP.out h0;exact ⟨gp,uc,rfl,by rw [Nat.zero_mul],h1⟩
 case round=>
  clear HS0 HCP x0 x1 xl;obtain ⟨k,r,qv,hkr,rfl,hqv,hset⟩:=hrel;have hsl:(zo ss ps (kep false ds) k).length=n:=by rw [z69];exact HNM.out.2
  by_cases hlt:0<r
  ·obtain ⟨r,rfl⟩:∃ j,r=j+1:=⟨r-1,by omega⟩
   obtain ⟨gp,cc,rfl,rfl,hcc⟩:=hqv hlt;have hkm:k<ps.length:=by rw [HNM.out.1];omega
   have hkm2:(k:Int)<(m:Int):=by omega
   obtain ⟨gp2,uc2,e2,hgp1,hgp2,-,hcp⟩:=hset.rp.cell k hkm;obtain ⟨rfl,-,rfl⟩:gp=gp2/\_/\uc=uc2:=by simpa using e2
   have hc0:=(hcp k hkm).c0 rfl;have hc1:=(hcp k hkm).c1
   simp only [eW,eO,cond_true] at hc0 hc1
   have hpk:=HR.out.2.2.2.2 k hkm;unfold pok at hpk;rw [HNM.out.2] at hpk;obtain ⟨i0,hi0⟩:=Int.eq_ofNat_of_zero_le hpk.1;have hi0n:i0<n:=by have:=hpk.2.1;omega
   obtain ⟨gs,cs',e1,hgs1,hgs2,hfz,hcs⟩:=hset.rs.cell i0 (by omega)
   obtain ⟨rfl,-,rfl⟩:va=some ⟨gs,0,none⟩/\_/\vc=cs':=by simpa using e1
   have hs1:=(hcs i0 (by omega)).c1
   have hfz0:=hfz i0
   simp only [eW,eO,cond_false,Nat.mul_one,Nat.add_zero] at hs1
   generalize (zo ss ps (kep false ds) k).getD i0 de=eo at *;have HST:Hid ((kep false ds k=true->zo ss ps (kep false ds) (k+1)=(zo ss ps (kep false ds) k).set i0 { ps.getD k de with n:=0 })/\(kep false ds k=false->zo ss ps (kep false ds) (k+1)=zo ss ps (kep false ds) k)):=by
    refine ⟨fun hh=>?_,fun hh=>?_⟩
    ·simp only [zo,hh,if_true,hi0,Int.toNat_natCast]
    ·simp only [zo,hh]
     rfl
   have HSK:Hid (SetI w wr Q (.slice (some ⟨gs,0,none⟩) n vc) (.slice (some ⟨gp,0,none⟩) m uc) (.slice (some ⟨gp,k*2,none⟩) (r+1) cc) (zo ss ps (kep false ds) k) ps/\gs<wr.heap.size/\(zo ss ps (kep false ds) k).length=n):=⟨hset,hgs2,hsl⟩;have HTK:=zhp Q gp (k*2) r cc (ps.getD k de).n (ps.getD k de).a (ps.getD k de).ls.length (ps.getD k de).c wr hset.box hcc (by omega) hc0 hc1
   obtain ⟨q0,q1,-,-,ql0⟩:=hset.box;rw [hi0] at HTK hc0;have hne:gs≠Q:=fun e=>hset.nv (by rw [e];rfl)
   clear hset e1 e2 hcs hcp hpk hi0 hfz hqv;generalize ps.getD k de=qd at *;obtain ⟨qn,qa,qc,ql⟩:=qd
   simp only at HST HTK hc0 hc1
   have hi0a:(0:Int)<=(i0:Int):=by omega
   have hi0b:(i0:Int)<(n:Int):=by omega
   go_wp2_with fail
   refine HTK.mono ?_;clear HTK;rintro e w3 ⟨rfl,⟨o',hbx3,ho3⟩,hb3,hon3⟩;have hal:Below w3.heap.size w3 (w3.alloc (Obj.cells #[.int .i64 (i0:Nat),.slice qa ql.length qc] 141)):=ba;have HS3:Hid (SetI w (w3.alloc (Obj.cells #[.int .i64 (i0:Nat),.slice qa ql.length qc] 141)) Q (.slice (some ⟨gs,0,none⟩) n vc) (.slice (some ⟨gp,0,none⟩) m uc) (.slice (some ⟨gp,o',none⟩) r (cc-1)) (zo ss ps (kep false ds) k) ps/\Box2 (w3.alloc (Obj.cells #[.int .i64 (i0:Nat),.slice qa ql.length qc] 141)) w3.heap.size (.int .i64 (i0:Nat)) (.slice qa ql.length qc)):=⟨(HSK.out.1.took hon3 hbx3).step hal,Box2.new _ _ _ _⟩
   have hgl3:gs<w3.heap.size:=Nat.lt_of_lt_of_le HSK.out.2.1 hb3.size;have k3:=ze (Obj.cells #[.int .i64 (i0:Nat),.slice qa ql.length qc] 141) hgl3 (hon3.cell HSK.out.2.1 hne hs1);have f3:(w3.alloc (Obj.cells #[.int .i64 (i0:Nat),.slice qa ql.length qc] 141)).frozen? ⟨gs,i0,none⟩=false:=(z6u (Only.ofBelow (S:=fun _=>False) hal nl) hgl3 (by simp)).trans ((z6u hon3 HSK.out.2.1 hne).trans hfz0)
   have HKC:=zip k P da dc ds (w3.alloc (Obj.cells #[.int .i64 (i0:Nat),.slice qa ql.length qc] 141)) (keep HS3.out.1.bel HB.out.2.2.2 HB.out.2.2.1) (HB.out.2.1.below HS3.out.1.bel nl) hdl (by omega)
   clear hb3 hon3 hal hbx3 hs1 hfz0 hc0 hc1 q0 q1 ql0;go_wp2_with fail
   refine HKC.mono ?_;clear HKC;rintro e w4 ⟨rfl,hb4⟩;have HS4:Hid (SetI w w4 Q (.slice (some ⟨gs,0,none⟩) n vc) (.slice (some ⟨gp,0,none⟩) m uc) (.slice (some ⟨gp,o',none⟩) r (cc-1)) (zo ss ps (kep false ds) k) ps):=HS3.out.1.step hb4;obtain ⟨b0,b1,-,-,bl⟩:=HS3.out.2.keep hb4 HS3.out.2.lt;have k4:=keep hb4 (by simp;omega) k3
   have f4:w4.frozen? ⟨gs,i0,none⟩=false:=(z6u (Only.ofBelow (S:=fun _=>False) hb4 nl) (by simp;omega) (by simp)).trans f3
   clear hb4 HS3 k3 f3
   cases KK:kep false ds k with
   | true=>
    have HPT:Hid (SetI w (w4.setCell ⟨gs,i0,none⟩ (.slice qa ql.length qc)) Q (.slice (some ⟨gs,0,none⟩) n vc) (.slice (some ⟨gp,0,none⟩) m uc) (.slice (some ⟨gp,o',none⟩) r (cc-1)) (zo ss ps (kep false ds) (k+1)) ps):=by
     rw [HST.out.1 KK];exact HS4.out.put (g:=gs) rfl i0 (by rw [HSK.out.2.2];exact hi0n) { n:=0,a:=qa,c:=qc,ls:=ql }
    go_wp2
    go_roundw
    case rel=>exact ⟨k+1,r,_,by omega,by go_num,fun h=>⟨gp,cc-1,rfl,by rw [ho3 h,Nat.succ_mul],by omega⟩,HPT.out⟩
    case measure=>simp [intOf];omega
   | false=>
    have HPT:Hid (SetI w w4 Q (.slice (some ⟨gs,0,none⟩) n vc) (.slice (some ⟨gp,0,none⟩) m uc) (.slice (some ⟨gp,o',none⟩) r (cc-1)) (zo ss ps (kep false ds) (k+1)) ps):=by
     rw [HST.out.2 KK];exact HS4.out
    go_wp2
    go_roundw
    case rel=>exact ⟨k+1,r,_,by omega,by go_num,fun h=>⟨gp,cc-1,rfl,by rw [ho3 h,Nat.succ_mul],by omega⟩,HPT.out⟩
    case measure=>simp [intOf];omega
  ·obtain rfl:r=0:=by omega
   obtain rfl:k=m:=by omega
   have HIN:Hid (RawI wr va none (zo ss ps (kep false ds) k) []/\Below w.heap.size w wr):=⟨⟨hset.rs.els (fun e he=>⟨zdg HB.out.1.1.rng HB.out.1.2.rng _ _ (by rw [HNM.out.1];exact Nat.le_refl _) e he,zi4 (P:=fun a l=>Byt wr a l) (fun e he=>((HB.out.1.1.below hset.bel nl).1 e he).2) (fun e he=>((HB.out.1.2.below hset.bel nl).1 e he).2) _ _ (by rw [HNM.out.1];exact Nat.le_refl _) e he⟩),by simp,by simp⟩,hset.bel⟩
   have hown:=zei va none vc 0 (zo ss ps (kep false ds) k) [] wr HIN.out.1 (by omega) (by simp) (fun s hs=>by have:=z4f HR.out.lens.1 (fun k hk=>HR.out.lens.2 _ (zf hk)) (kep false ds) k (by rw [HNM.out.1];exact Nat.le_refl _) s hs;omega) (by simp)
   rw [hsl] at hown
   simp only [List.length_nil] at hown
   have HBX2:Hid (Box2 wr (w.heap.size+1) (.slice none 0 0) (.slice none 0 0)):=hset.res;clear hset hqv;go_wp2_with fail
   refine hown.mono ?_;clear hown;rintro e w2 ⟨⟨v2,u2,ts2,qs2,rfl,hct2,hr2⟩,hb2⟩;have hq0:qs2=[]:=List.map_eq_nil_iff.1 (by rw [hct2.2];rfl)
   subst hq0;obtain ⟨ka2,kc2,pa2,pc2,rfl,rfl⟩:=hr2.form;obtain ⟨r0,r1,r2,r3,rl⟩:=HBX2.out.keep hb2 HBX2.out.lt;have hon:Only (fun b=>b=w.heap.size+1) w2 ((w2.setCell ⟨w.heap.size+1,0,none⟩ (.slice ka2 ts2.length kc2)).setCell ⟨w.heap.size+1,1,none⟩ (.slice pa2 0 pc2)):=((Only.refl (fun b=>b=w.heap.size+1) w2).setCell (p:=⟨w.heap.size+1,0,none⟩) (.inl rfl) _).setCell (p:=⟨w.heap.size+1,1,none⟩) (.inl rfl) _
   have hX1:w.heap.size+1<wr.heap.size:=HBX2.out.lt;have HRR:Hid (RawO ((w2.setCell ⟨w.heap.size+1,0,none⟩ (.slice ka2 ts2.length kc2)).setCell ⟨w.heap.size+1,1,none⟩ (.slice pa2 0 pc2)) w.heap.size (.slice ka2 ts2.length kc2) (.slice pa2 0 pc2) ts2 []):=(hr2.stay hon (fun b hb e=>by have:=(hr2.inside b hb).1;omega)).weak (by omega)
   have hbb:=HIN.out.2.trans (hb2.mono HIN.out.2.size);have HBE:Hid (Below w.heap.size w ((w2.setCell ⟨w.heap.size+1,0,none⟩ (.slice ka2 ts2.length kc2)).setCell ⟨w.heap.size+1,1,none⟩ (.slice pa2 0 pc2))):=(hbb.setCell (p:=⟨w.heap.size+1,0,none⟩) (by simp) _).setCell (p:=⟨w.heap.size+1,1,none⟩) (by simp) _
   have HCC:Hid (ts2.map El.ct=(zo ss ps (kep false ds) ps.length).map El.ct/\True):=⟨by rw [hct2.1,HNM.out.1],trivial⟩
   clear hr2 hb2 hon hbb hct2 hX1;go_wp2;exact bodyPost_ret (v:=.agg #[.slice ka2 ts2.length kc2,.slice pa2 0 pc2]) (by simp [results,Tryz.results104,go_sem,r0,r1]) rfl ⟨⟨_,_,ts2,rfl,HCC.out.1,HRR.out⟩,HBE.out⟩
theorem z6j (sa pa:Option Addr) (sc pc:Nat) (ss ps:List El) (da:Option Addr) (dc:Nat) (ds:List Bool) (w:World) (hb:RawI w sa pa ss ps) (hd:Bos w da ds) (hx:ss.length<=281474976710656) (hy:ps.length<=281474976710656) (hxl:∀ s ∈ ss,s.ls.length<=281474976710656) (hyl:∀ s ∈ ps,s.ls.length<=281474976710656) (hdl:ds.length<=281474976710656) :
  Calls Tryz.prog 62 #[.agg #[.slice sa ss.length sc,.slice pa ps.length pc],.slice da ds.length dc] w fun e w'=>(∃ v u ts qs,e=.returned (.tuple #[.agg #[v,u],.bool (crB ss ps ds)])/\(ts.map El.ct=crS ss ps ds/\qs.map El.ct=crP ss ps ds)/\RawO w' w.heap.size v u ts qs)/\Below w.heap.size w w':=by
 have HB:Hid (RawI w sa pa ss ps/\Bos w da ds):=⟨hb,hd⟩;have HW:Hid (Below w.heap.size w (((w.alloc (Obj.cells #[.slice sa ss.length sc,.slice pa ps.length pc] 41)).alloc (Obj.cells #[.slice da ds.length dc] 56)).alloc (Obj.cells #[.slice none 0 0,.slice none 0 0] 41))):=(((Below.refl _ _).alloc nl _).alloc (by simp) _).alloc (by simp;omega) _
 have HX:Hid (Box2 (((w.alloc (Obj.cells #[.slice sa ss.length sc,.slice pa ps.length pc] 41)).alloc (Obj.cells #[.slice da ds.length dc] 56)).alloc (Obj.cells #[.slice none 0 0,.slice none 0 0] 41)) w.heap.size (.slice sa ss.length sc) (.slice pa ps.length pc)/\Box2 (((w.alloc (Obj.cells #[.slice sa ss.length sc,.slice pa ps.length pc] 41)).alloc (Obj.cells #[.slice da ds.length dc] 56)).alloc (Obj.cells #[.slice none 0 0,.slice none 0 0] 41)) (w.heap.size+1+1) (.slice none 0 0) (.slice none 0 0)/\World.cell? (((w.alloc (Obj.cells #[.slice sa ss.length sc,.slice pa ps.length pc] 41)).alloc (Obj.cells #[.slice da ds.length dc] 56)).alloc (Obj.cells #[.slice none 0 0,.slice none 0 0] 41)) ⟨w.heap.size+1,0,none⟩=some (.slice da ds.length dc)):=by
  refine ⟨((Box2.new _ _ _ _).alloc _).alloc _,?_,?_⟩
  ·have h9:=Box2.new ((w.alloc (Obj.cells #[.slice sa ss.length sc,.slice pa ps.length pc] 41)).alloc (Obj.cells #[.slice da ds.length dc] 56)) (.slice none 0 0) (.slice none 0 0) 41
   simpa using h9
  ·refine ze _ (by simp) ?_
   simp
 have HSP:=z3x sa pa sc pc ss ps _ (HB.out.1.below HW.out nl) hx hy hxl hyl;clear hb hxl hyl hd;obtain ⟨AS,hAS⟩:∃ AS,AS=seS ss ps false ds:=⟨_,rfl⟩;rw [show crS ss ps ds=AS from hAS.symm,show crP ss ps ds=[] from rfl,show (crB ss ps ds)=rok ss ps from rfl]
 cases hr:rok ss ps with
 | true=>
  rw [hr] at HSP;rw [zfn hr] at hAS;have HAS:Hid (AS=(zo ss ps (kep false ds) ps.length).map El.ct/\True):=⟨hAS,trivial⟩;have HR:Hid (Rok ss ps):=zb8 hr;clear hAS hr
  go_enter Tryz.func62,Tryz.ntmps62
  go_wp2_with fail
  refine HSP.mono ?_;clear HSP;rintro e w1 ⟨rfl,hb1⟩;have HX1:Hid (Box2 w1 w.heap.size (.slice sa ss.length sc) (.slice pa ps.length pc)/\Box2 w1 (w.heap.size+1+1) (.slice none 0 0) (.slice none 0 0)/\Below w.heap.size w w1/\w1.cell? ⟨w.heap.size+1,0,none⟩=some (.slice da ds.length dc)):=⟨HX.out.1.keep hb1 HX.out.1.lt,HX.out.2.1.keep hb1 HX.out.2.1.lt,HW.out.trans (hb1.mono HW.out.size),keep hb1 (by simp) HX.out.2.2⟩
  obtain ⟨x0,x1,-,-,xl⟩:=HX1.out.1;clear hb1 HX HW;have HST:=zah sa pa sc pc ss ps (w.heap.size+1) da dc ds w1 (HB.out.1.below HX1.out.2.2.1 nl) HX1.out.2.2.2 (HB.out.2.below HX1.out.2.2.1 nl) HR.out hdl;go_wp2_with fail
  refine HST.mono ?_;clear HST;rintro e w2 ⟨⟨v2,u2,ts2,rfl,hct2,hr2⟩,hb2⟩;obtain ⟨ka2,kc2,pa2,pc2,rfl,rfl⟩:=hr2.form;obtain ⟨r0,r1,r2,r3,rl⟩:=HX1.out.2.1.keep hb2 HX1.out.2.1.lt;have hon:Only (fun b=>b=w.heap.size+1+1) w2 ((w2.setCell ⟨w.heap.size+1+1,0,none⟩ (.slice ka2 ts2.length kc2)).setCell ⟨w.heap.size+1+1,1,none⟩ (.slice pa2 0 pc2)):=((Only.refl (fun b=>b=w.heap.size+1+1) w2).setCell (p:=⟨w.heap.size+1+1,0,none⟩) (.inl rfl) _).setCell (p:=⟨w.heap.size+1+1,1,none⟩) (.inl rfl) _
  have hX1:w.heap.size+1+1<w1.heap.size:=HX1.out.2.1.lt;have HRR:Hid (RawO ((w2.setCell ⟨w.heap.size+1+1,0,none⟩ (.slice ka2 ts2.length kc2)).setCell ⟨w.heap.size+1+1,1,none⟩ (.slice pa2 0 pc2)) w.heap.size (.slice ka2 ts2.length kc2) (.slice pa2 0 pc2) ts2 []):=(hr2.stay hon (fun b hb e=>by have:=(hr2.inside b hb).1;omega)).weak (by omega)
  have hbb:=HX1.out.2.2.1.trans (hb2.mono HX1.out.2.2.1.size);have HBE:Hid (Below w.heap.size w ((w2.setCell ⟨w.heap.size+1+1,0,none⟩ (.slice ka2 ts2.length kc2)).setCell ⟨w.heap.size+1+1,1,none⟩ (.slice pa2 0 pc2))):=(hbb.setCell (p:=⟨w.heap.size+1+1,0,none⟩) (by simp only;omega) _).setCell (p:=⟨w.heap.size+1+1,1,none⟩) (by simp only;omega) _
  have HCC:Hid (ts2.map El.ct=AS/\True):=⟨by rw [hct2,HAS.out.1],trivial⟩
  clear hr2 hb2 hon hbb hct2 hX1 x0 x1 xl;go_wp2;exact bodyPost_ret (v:=.tuple #[.agg #[.slice ka2 ts2.length kc2,.slice pa2 0 pc2],.bool true]) (by simp [results,Tryz.results62,go_sem,r0,r1]) rfl ⟨⟨_,_,ts2,[],rfl,⟨HCC.out.1,rfl⟩,HRR.out⟩,HBE.out⟩
 | false=>
  rw [hr] at HSP;rw [zis hr] at hAS;subst hAS;clear hr
  go_enter Tryz.func62,Tryz.ntmps62
  go_wp2_with fail
  refine HSP.mono ?_;clear HSP;rintro e w1 ⟨rfl,hb1⟩;obtain ⟨x0,x1,-,-,xl⟩:=HX.out.1.keep hb1 HX.out.1.lt;obtain ⟨r0,r1,r2,r3,rl⟩:=HX.out.2.1.keep hb1 HX.out.2.1.lt;have hbb:Below w.heap.size w w1:=HW.out.trans (hb1.mono HW.out.size);have HB1:Hid (Below w.heap.size w ((w1.setCell ⟨w.heap.size+1+1,0,none⟩ (.slice none 0 0)).setCell ⟨w.heap.size+1+1,1,none⟩ (.slice none 0 0))):=(hbb.setCell (p:=⟨w.heap.size+1+1,0,none⟩) (by simp only;omega) _).setCell (p:=⟨w.heap.size+1+1,1,none⟩) (by simp only;omega) _
  clear hb1 hbb;go_wp2;exact bodyPost_ret (v:=.tuple #[.agg #[.slice none 0 0,.slice none 0 0],.bool false]) (by simp [results,Tryz.results62,go_sem,r0,r1]) rfl ⟨⟨_,_,[],[],rfl,⟨rfl,rfl⟩,⟨OVr.nil _ _ _,OVr.nil _ _ _,Deep.nil _ _,by simp,by simp⟩⟩,HB1.out⟩
end Go.Proofs.YtaibkchbkedjnaaGreatDoor
