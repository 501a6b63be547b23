/- Lemmas on the way. -/
import Derived.Test.YtfeokafkhnbdiaaGreatDoorPcB
import Derived.Test.YtfeokafkhnbdiaaGreatDoorEnF
import Derived.Deep.RegionHeld3
import Derived.Test.YtfeokafkhnbdiaaGreatDoorPcN
import Derived.Test.YtfeokafkhnbdiaaGreatDoorBCut
import Derived.Test.YtfeokafkhnbdiaaGreatDoorCut
import Derived.Test.YtfeokafkhnbdiaaGreatDoorHPut2M
import Derived.Maps.GroupsBeside
import Derived.OpenShut
import Derived.ChangeSlices
import Derived.BigQuiet
import Derived.Laws.CopyOwn
import Derived.Deep.RegionLaw
import Derived.Test.YtfeokafkhnbdiaaGreatDoorPut1
set_option maxRecDepth 20000
set_option maxHeartbeats 16000000
namespace Go.Proofs.YtfeokafkhnbdiaaGreatDoor
open Go.RowKit
set_option linter.unusedVariables false
set_option linter.unusedSimpArgs false
theorem l4own_any (a:Option Addr) (cap:Nat) (ss:List Sq) (w:World) (hb:Sqs w a ss) (hn:ss.length≤1000) (hl:∀ s ∈ ss,s.ls.length≤1000000) :
  Calls Tryz.prog 70 #[.slice a ss.length cap] w fun e w'=>(∃ v ts,e=.returned v∧ts.map Sq.ct=ss.map Sq.ct∧OVq w' w.heap.size v ts∧DeepQ w' w.heap.size ts)∧Below w.heap.size w w':=by
 have HB:Hid (Sqs w a ss∧∀ s ∈ ss,s.ls.length≤1000000):=⟨hb,hl⟩
 clear hb hl
 generalize hlen:ss.length=n at *
 have HLN:Hid (ss.length=n∧True):=⟨hlen,trivial⟩
 clear hlen
 go_enter Tryz.func70,Tryz.ntmps70
 go_wp2
 go_loopw [3,4] (fun o i wr=>∃ (k:Nat) (ts:List Sq) (oa:Option Addr) (oc:Nat),k≤n∧i=.int .i64 k∧o=.slice oa ts.length oc∧ts.map Sq.ct=(ss.take k).map Sq.ct∧OVq wr w.heap.size (.slice oa ts.length oc) ts∧DeepQ wr w.heap.size ts∧Below w.heap.size w wr) (fun _ i _=>n-(intOf i).toNat)
 case atStart=>exact ⟨0,[],none,0,Nat.zero_le _,rfl,rfl,by simp,OVq.nil _ _,DeepQ.nil _ _,Below.refl _ _⟩
 case round=>
  obtain ⟨k,ts,oa,oc,hk,rfl,rfl,hct,hoq,hdq,hbel⟩:=hrel
  have hes:ts.length=k:=by
   have:=congrArg List.length hct
   simp only [List.length_map,List.length_take,HLN.out.1] at this
   omega
  have HST:Hid (ts.map Sq.ct=(ss.take k).map Sq.ct∧ts.length=k):=⟨hct,hes⟩
  have HO:Hid (OVq wr w.heap.size (.slice oa ts.length oc) ts∧DeepQ wr w.heap.size ts):=⟨hoq,hdq⟩
  have HBB:Hid (Below w.heap.size w wr):=hbel
  clear hct hoq hdq
  by_cases hlt:k<n
  ·obtain ⟨b,off,rfl,hbw,hly⟩:=HB.out.1.len_pos k (by rw [HLN.out.1];exact hlt)
   have hk3:=(hly k (by rw [HLN.out.1];exact hlt)).below hbel nl hbw
   have d0:=hk3.c0
   have d1:=hk3.c1
   have d2:=hk3.c2
   have hby:=hk3.byt
   have hll:=HB.out.2 _ (getD_memS (k:=k) (by rw [HLN.out.1];exact hlt))
   have HCS:Hid ((ss.take (k+1)).map Sq.ct=(ss.take k).map Sq.ct++[(ss.getD k dq).ct]∧True):=⟨ct_take_succ ss k (by rw [HLN.out.1];exact hlt),trivial⟩
   have hbl:b<wr.heap.size:=Nat.lt_of_lt_of_le hbw hbel.size
   clear hk3 hly hbel
   generalize ss.getD k dq=s at *
   obtain ⟨a2,c2,sl,sn,sd⟩:=s
   simp only at d0 d1 d2 hby hll
   have HBY:Hid (Byt wr a2 sl):=hby
   clear hby
   have hk1:ts.length≤1000:=by omega
   have hwz:w.heap.size≤wr.heap.size:=HBB.out.size
   clear hes
   go_wp2
   have HE1:Hid (OVB (wr.drew.alloc (Obj.cells #[] 5)) wr.heap.size (.slice (some ⟨wr.heap.size,0,none⟩) 0 0) []∧Byt (wr.drew.alloc (Obj.cells #[] 5)) a2 sl∧Below wr.heap.size wr (wr.drew.alloc (Obj.cells #[] 5))):=⟨OVB.empty wr.drew _ nl,(HBY.out.drewN 1).alloc _,Below.drewS ((Below.refl wr.heap.size wr.drew).alloc nl _)⟩
   refine wp_region_cut (S:=fun W=>W.cell? ⟨b,off+k*3,none⟩=some (.slice a2 sl.length c2)∧W.cell? ⟨b,off+k*3+1,none⟩=some (.int .i64 sn)∧W.cell? ⟨b,off+k*3+2,none⟩=some (.int .i64 sd)) 21 (by kernel_rfl) (by kernel_rfl) (by exact ⟨d0,d1,d2⟩) (fun hHeld=>?_)
   refine tk 0 (v:=?_) ?_ ?_
   rotate_left
   ·(intro w hSw;(try dsimp only at hSw);go_simp;try (with_reducible rfl))
   try simp only [tkS]
   refine tk 2 (v:=?_) ?_ ?_
   rotate_left
   ·(intro w hSw;(try dsimp only at hSw);go_simp;try (with_reducible rfl))
   try simp only [tkS]
   refine tk 3 (v:=?_) ?_ ?_
   rotate_left
   ·(intro w hSw;(try dsimp only at hSw);go_simp;try (with_reducible rfl))
   try simp only [tkS]
   refine tk 4 (v:=?_) ?_ ?_
   rotate_left
   ·(intro w hSw;(try dsimp only at hSw);go_simp;try (with_reducible rfl))
   try simp only [tkS]
   refine tk 5 (v:=?_) ?_ ?_
   rotate_left
   ·(intro w hSw;(try dsimp only at hSw);go_simp;try (with_reducible rfl))
   try simp only [tkS]
   refine tk 6 (v:=?_) ?_ ?_
   rotate_left
   ·(intro w hSw;(try dsimp only at hSw);go_simp;try (with_reducible rfl))
   try simp only [tkS]
   refine tk 8 (v:=?_) ?_ ?_
   rotate_left
   ·(intro w hSw;(try dsimp only at hSw);go_simp;try (with_reducible rfl))
   try simp only [tkS]
   refine tk 9 (v:=?_) ?_ ?_
   rotate_left
   ·(intro w hSw;(try dsimp only at hSw);go_simp;try (with_reducible rfl))
   try simp only [tkS]
   refine tk 10 (v:=?_) ?_ ?_
   rotate_left
   ·(intro w hSw;(try dsimp only at hSw);go_simp;try (with_reducible rfl))
   try simp only [tkS]
   refine tk 11 (v:=?_) ?_ ?_
   rotate_left
   ·(intro w hSw;(try dsimp only at hSw);go_simp;try (with_reducible rfl))
   try simp only [tkS]
   refine tk 12 (v:=?_) ?_ ?_
   rotate_left
   ·(intro w hSw;(try dsimp only at hSw);go_simp;try (with_reducible rfl))
   try simp only [tkS]
   refine tk 13 (v:=?_) ?_ ?_
   rotate_left
   ·(intro w hSw;(try dsimp only at hSw);go_simp;try (with_reducible rfl))
   try simp only [tkS]
   refine tk 14 (v:=?_) ?_ ?_
   rotate_left
   ·(intro w hSw;(try dsimp only at hSw);go_simp;try (with_reducible rfl))
   try simp only [tkS]
   refine tk 15 (v:=?_) ?_ ?_
   rotate_left
   ·(intro w hSw;(try dsimp only at hSw);go_simp;try (with_reducible rfl))
   try simp only [tkS]
   refine tk 16 (v:=?_) ?_ ?_
   rotate_left
   ·(intro w hSw;(try dsimp only at hSw);go_simp;try (with_reducible rfl))
   try simp only [tkS]
   refine tk 17 (v:=?_) ?_ ?_
   rotate_left
   ·(intro w hSw;(try dsimp only at hSw);go_simp;try (with_reducible rfl))
   try simp only [tkS]
   refine wpAnyH_ready (rs:=[1]) (by kernel_rfl) (by simp) ?_
   refine AllReadyH.cons rfl (fun K hK=>?_) AllReadyH.nil
   go_simp
   refine hK.out _ _ (by exact ⟨keepA _ hbl d0,keepA _ hbl d1,keepA _ hbl d2⟩) (fun hHeld=>?_)
   clear hK K
   try simp only [tkS]
   refine wpAnyH_ready (rs:=[7]) (by kernel_rfl) (by simp) ?_
   refine AllReadyH.cons rfl (fun K hK=>?_) AllReadyH.nil
   refine wanted_step rfl (wp_append_byt (.tmp 12) (.tmp 17) rfl wr.heap.size (.slice (some ⟨wr.heap.size,0,none⟩) 0 0) [] (by simp [Act.eval]) (HE1.out.1) a2 c2 sl (by simp [Act.eval]) (HE1.out.2.1) (by simp;omega) (by simp) ?_)
   intro v2 w2 hov2 hg2
   have hb2:Below wr.heap.size wr w2:=appB_below HE1.out.2.2 (by simp) HE1.out.1 hg2
   rw [List.nil_append] at hov2
   obtain ⟨ua,uc,rfl,hm2⟩:=hov2.mine
   have HM2:Hid (Mine w2 wr.heap.size w2.heap.size ua uc sl∧Below wr.heap.size wr w2):=⟨hm2,hb2⟩
   have k0:=keep hb2 hbl d0
   have k1:=keep hb2 hbl d1
   have k2:=keep hb2 hbl d2
   have hbl2:b<w2.heap.size:=by have:=hb2.size;omega
   clear hm2 hb2 hov2 hg2
   refine hK.out _ _ (by exact ⟨k0,k1,k2⟩) (fun hHeld=>?_)
   clear hK K
   try simp only [tkS]
   refine tk 18 (v:=?_) ?_ ?_
   rotate_left
   ·(intro w hSw;(try dsimp only at hSw);go_simp;try (with_reducible rfl))
   try simp only [tkS]
   refine wpAnyH_ready (rs:=[19]) (by kernel_rfl) (by simp) ?_
   refine AllReadyH.cons rfl (fun K hK=>?_) AllReadyH.nil
   go_simp
   refine hK.out _ _ (by exact ⟨keepA _ hbl2 k0,keepA _ hbl2 k1,keepA _ hbl2 k2⟩) (fun hHeld=>?_)
   clear hK K
   try simp only [tkS]
   refine wpAnyH_ready (rs:=[20]) (by kernel_rfl) (by simp) ?_
   refine AllReadyH.cons rfl (fun K hK=>?_) AllReadyH.nil
   have hA2:Below w2.heap.size w2 (w2.alloc (Obj.cells #[.slice ua sl.length uc,.int .i64 sn,.int .i64 sd] 37)):=bAw
   have HO2:Hid (OVq (w2.alloc (Obj.cells #[.slice ua sl.length uc,.int .i64 sn,.int .i64 sd] 37)) w.heap.size (.slice oa ts.length oc) ts):=(HO.out.1.below HM2.out.2).below hA2
   refine wanted_step rfl (wp_append_sq (.tmp 11) (.tmp 30) rfl w.heap.size (.slice oa ts.length oc) ts (by simp [Act.eval]) HO2.out w2.heap.size 1 ⟨ua,uc,sl,sn,sd⟩ (by simp [Act.eval]) (newsQ w2 ua sl.length uc sn sd 37 ⟨ua,uc,sl,sn,sd⟩ rfl rfl rfl rfl rfl) (by omega) (by have:=HM2.out.2.size;simp;omega) ?_)
   intro v3 w3 hov3 hg3
   obtain ⟨sa3,sc3,hv3⟩:=hov3.form
   rw [List.length_append,List.length_singleton] at hv3
   subst hv3
   have hd3:DeepQ w2 w.heap.size (ts++[⟨ua,uc,sl,sn,sd⟩]):=(HO.out.2.below HM2.out.2).snoc (HM2.out.1.mono (by omega) nl) (fun z hz q hq hq2=>by
    have h1:=((HO.out.2.mine z hz).rowB hq).2
    have h2:=(HM2.out.1.rowB hq2).1
    omega)
   have HM:Hid (OVq w3 w.heap.size (.slice sa3 (ts.length+1) sc3) (ts++[⟨ua,uc,sl,sn,sd⟩])∧DeepQ w3 w.heap.size (ts++[⟨ua,uc,sl,sn,sd⟩])∧Below w.heap.size w w3):=⟨hov3,(hd3.below hA2).grown HO2.out hg3,appQ_below ((HBB.out.trans (HM2.out.2.mono HBB.out.size)).trans (hA2.mono (by have:=HBB.out.size;have:=HM2.out.2.size;omega))) (by have:=HBB.out.size;have:=HM2.out.2.size;simp;omega) HO2.out hg3⟩
   have hne:¬(Value.slice oa ts.length oc).ownBlock=some b:=fun he=>by have:=(HO2.out.blk he).1;omega
   have e0:=(Only.ofGrownQ hg3).cell (b:=b) (o:=off+k*3) (by simp;omega) hne (keepA _ hbl2 k0)
   have e1:=(Only.ofGrownQ hg3).cell (b:=b) (o:=off+k*3+1) (by simp;omega) hne (keepA _ hbl2 k1)
   have e2:=(Only.ofGrownQ hg3).cell (b:=b) (o:=off+k*3+2) (by simp;omega) hne (keepA _ hbl2 k2)
   clear hov3 hg3 hd3 hA2
   refine hK.out _ _ (by exact ⟨e0,e1,e2⟩) (fun hHeld=>?_)
   clear hK K
   try simp only [tkS]
   refine wpAnyH_done (by kernel_rfl) ?_ _
   simp only [cutQ,List.drop_succ_cons,List.drop_zero]
   have HCT2:Hid ((ts++[(⟨ua,uc,sl,sn,sd⟩:Sq)]).map Sq.ct=(ss.take (k+1)).map Sq.ct∧True):=⟨by rw [List.map_append,HST.out.1,HCS.out.1];rfl,trivial⟩
   have HL9:Hid ((ts++[(⟨ua,uc,sl,sn,sd⟩:Sq)]).length=ts.length+1∧True):=⟨by simp,trivial⟩
   clear HM2 d0 d1 d2 HO HCS HST k0 k1 k2 e0 e1 e2 HE1 HO2
   go_wp2
   go_roundw
   case rel=>exact ⟨k+1,_,sa3,sc3,by omega,by go_num,by rw [HL9.out.1],HCT2.out.1,by rw [HL9.out.1];exact HM.out.1,HM.out.2.1,HM.out.2.2⟩
   case measure=>simp [intOf];omega
  ·have hkn:k=n:=by omega
   subst hkn
   have HF:Hid (ts.map Sq.ct=ss.map Sq.ct∧True):=⟨by rw [HST.out.1,List.take_of_length_le (by rw [HLN.out.1];exact Nat.le_refl _)],trivial⟩
   clear hes
   go_wp2
   go_ret
   exact ⟨⟨_,ts,rfl,HF.out.1,HO.out.1,HO.out.2⟩,HBB.out⟩
def Few4 (ss:List Sq):Prop:=ss.length≤65∧∀ s ∈ ss,s.ls.length≤64∧(0≤s.n∧s.n≤64)∧(0≤s.d∧s.d≤64)
def FnA (w:World) (B:Nat) (v:Value) (cs:List (List Int × Int × Int)):Prop:=∃ ss:List Sq,ss.map Sq.ct=cs∧OVq w B v ss∧DeepQ w B ss∧Few4 ss
theorem St.few {ys:List Int} {f q:Nat} {ss:List Sq} (h:St ys f q (ss.map Sq.ct)) (hn:ys.length≤64):Few4 ss:=by
 have h1:=h.cl
 have h2:=h.ql
 rw [List.length_map] at h1
 refine ⟨by omega,fun s hs=>?_⟩
 obtain ⟨p1,n,d,p2,p3,p4⟩:=h.parts s.ct (List.mem_map_of_mem hs)
 have e1:s.ls.length≤ys.length:=p1
 have e2:s.n=n:=congrArg Prod.fst p2
 have e3:s.d=d:=congrArg Prod.snd p2
 omega
theorem Few4.snoc {ys:List Int} {f q:Nat} {ss:List Sq} (h:St ys f q (ss.map Sq.ct)) (hn:ys.length≤64) {s:Sq} (h1:s.ls.length≤64) (h2:0≤s.n∧s.n≤64) (h3:0≤s.d∧s.d≤64):Few4 (ss++[s]):=by
 have h4:=h.few hn
 have h5:=h.cl
 have h6:=h.ql
 rw [List.length_map] at h5
 refine ⟨by rw [List.length_append];simp;omega,fun x hx=>?_⟩
 rcases List.mem_append.1 hx with hx | hx
 ·exact h4.2 x hx
 ·obtain rfl:x=s:=by simpa using hx
  exact ⟨h1,h2,h3⟩
theorem Few4.rng {ss:List Sq} (h:Few4 ss):∀ s ∈ ss,rI s.n∧rI s.d∧s.ls.length≤maxLen:=fun s hs=>by
 obtain ⟨h1,h2,h3⟩:=h.2 s hs
 exact ⟨⟨by omega,by omega⟩,⟨by omega,by omega⟩,by unfold maxLen;omega⟩
theorem Few4.ct {ss ts:List Sq} (h:Few4 ss) (e:ts.map Sq.ct=ss.map Sq.ct):Few4 ts:=by
 have hl:=congrArg List.length e
 simp only [List.length_map] at hl
 refine ⟨by rw [hl];exact h.1,fun t ht=>?_⟩
 have h1:t.ct ∈ ss.map Sq.ct:=by rw [←e];exact List.mem_map_of_mem ht
 obtain ⟨s,hs,h2⟩:=List.mem_map.1 h1
 have h3:=h.2 s hs
 have e1:s.ls=t.ls:=congrArg Prod.fst h2
 have e2:s.n=t.n:=congrArg (fun c=>c.2.1) h2
 have e3:s.d=t.d:=congrArg (fun c=>c.2.2) h2
 rw [e1,e2,e3] at h3
 exact h3
theorem l4find_any (a:Option Addr) (c:Nat) (ys:List Int) (w:World) (hb:Byt w a ys) (hn:ys.length≤64) :
  Calls Tryz.prog 71 #[.slice a ys.length c] w fun e w'=>(∃ v,e=.returned v∧FnA w' w.heap.size v (found ys))∧Below w.heap.size w w':=by
 have HBY:Hid (Byt w a ys∧True):=⟨hb,trivial⟩
 have HLO:Hid (∀ (W:World) (p:Nat),Below w.heap.size w W→p<ys.length→Calls Tryz.prog 85 #[.slice a ys.length c,.int .i64 p] W fun e w'=>e=.returned (.tuple #[.int .i64 (lz ys p).1,.int .i64 (lz ys p).2])∧Below W.heap.size W w'):=fun W p hW hp=>by
  rw [lz_at hp]
  exact l4longest_any a c ys p W (hb.below hW nl) hn hp
 have HLE:Hid (∀ q,q+(lz ys q).1≤max q ys.length∧(lz ys q).2≤q):=lz_le ys
 have HEN:Hid (∀ q,¬q<ys.length→(lz ys q).1=0):=fun q h=>by rw [lz_end h]
 have HRG:Hid (∀ q,q<ys.length→0≤ys.getD q 0∧ys.getD q 0≤255):=fun q h=>by
  rw [List.getD_eq_getElem?_getD,List.getElem?_eq_getElem h]
  exact hb.1 _ (List.getElem_mem h)
 have HCN:Hid (∀ f q,f≤q→q<ys.length→cutL ys f q++[ys.getD q 0]=cutL ys f (q+1)):=cutL_snoc ys
 have HCL:Hid (∀ f q,f≤q→q≤ys.length→(cutL ys f q).length=q-f):=cutL_len ys
 have HTW:Hid (∀ f q cs,St ys f q cs→q<ys.length→¬takes ys q→St ys f (q+1) cs):=fun f q cs h1 h2 h3=>h1.wait h2 h3
 have HTT:Hid (∀ f q cs,St ys f q cs→q<ys.length→takes ys q→St ys (q+(lz ys q).1) (q+(lz ys q).1) (cs++[(cutL ys f q,((lz ys q).1:Int),((lz ys q).2:Int))])):=fun f q cs h1 h2 h3=>h1.take h2 h3
 have HDN:Hid (∀ f q cs,St ys f q cs→¬q<ys.length→found ys=fin ys f cs):=fun f q cs h1 h2=>h1.done h2
 have HSR:Hid (∀ f q cs,St ys f q cs→f≤q∧q≤ys.length∧cs.length≤q):=fun f q cs h=>⟨h.fq,h.ql,h.cl⟩
 have HFW:Hid (∀ f q ss,St ys f q (ss.map Sq.ct)→Few4 ss∧∀ s:Sq,s.ls.length≤64→(0≤s.n∧s.n≤64)→(0≤s.d∧s.d≤64)→Few4 (ss++[s])):=fun f q ss h=>⟨h.few hn,fun s h1 h2 h3=>Few4.snoc h hn h1 h2 h3⟩
 have HST:Hid (St ys 0 0 []):=St.start ys
 clear hb
 generalize hL:ys.length=n at *
 have HL:Hid (ys.length=n∧True):=⟨hL,trivial⟩
 clear hL
 go_enter Tryz.func71,Tryz.ntmps71
 go_wp2
 go_loopw [3,4,5] (fun ov lv iv wr=>∃ (f q:Nat) (ss:List Sq) (ls:List Int),iv=.int .i64 q∧St ys f q (ss.map Sq.ct)∧ls=cutL ys f q∧OVB wr w.heap.size lv ls∧OVq wr w.heap.size ov ss∧DeepQ wr w.heap.size ss∧Aprt ss lv∧Below w.heap.size w wr) (fun _ _ iv _=>n-(intOf iv).toNat)
 case atStart=>exact ⟨0,0,[],[],rfl,HST.out,(cutL_nil ys 0).symm,OVB.nil _ _,OVq.nil _ _,DeepQ.nil _ _,Aprt.none _,Below.refl _ _⟩
 case round=>
  obtain ⟨f,q,ss,ls,rfl,hst,hls,hob,hoq,hdq,hap,hbel⟩:=hrel
  obtain ⟨la,lc,rfl⟩:=hob.form
  obtain ⟨oa,oc,rfl⟩:=hoq.form
  obtain ⟨hfq,hqn,hcl⟩:=HSR.out _ _ _ hst
  have hll:ls.length=q-f:=by rw [hls];exact HCL.out f q hfq hqn
  rw [List.length_map] at hcl
  have HS:Hid (St ys f q (ss.map Sq.ct)∧ls=cutL ys f q∧ls.length=q-f):=⟨hst,hls,hll⟩
  have HO:Hid (OVB wr w.heap.size (.slice la ls.length lc) ls∧OVq wr w.heap.size (.slice oa ss.length oc) ss∧DeepQ wr w.heap.size ss∧Aprt ss (.slice la ls.length lc)):=⟨hob,hoq,hdq,hap⟩
  have HB:Hid (Below w.heap.size w wr):=hbel
  have hsz:=hbel.size
  have hlq:ls.length≤q:=by omega
  have hsq:ss.length≤q:=hcl
  clear hst hls hob hoq hdq hap hbel hll hcl
  by_cases hlt:q<n
  ·have h1:=HLO.out wr q HB.out hlt
   have hle:=(HLE.out q).1
   have hld:=(HLE.out q).2
   obtain ⟨b1,o1,rfl,hbl,hbc⟩:=HBY.out.1.2 (by rw [HL.out.1];omega)
   have hz:=HRG.out q hlt
   have HCZ:Hid (∀ W,Below w.heap.size w W→W.cell? ⟨b1,o1+q,none⟩=some (.int .u8 (ys.getD q 0))):=fun W hW=>keep hW hbl (hbc q (by rw [HL.out.1];exact hlt))
   have HTQ:Hid (takes ys q↔0<(lz ys q).1∧(lz ys (q+1)).1≤(lz ys q).1):=Iff.rfl
   have HCQ:Hid (cutL ys f q++[ys.getD q 0]=cutL ys f (q+1)∧True):=⟨HCN.out f q hfq hlt,trivial⟩
   have HT2:Hid (takes ys q→St ys (q+(lz ys q).1) (q+(lz ys q).1) (ss.map Sq.ct++[(cutL ys f q,((lz ys q).1:Int),((lz ys q).2:Int))])):=fun h=>HTT.out f q _ HS.out.1 hlt h
   clear hbl hbc
   generalize ys.getD q 0=z at *
   generalize (lz ys q).1=x at *
   generalize (lz ys q).2=y at *
   have hxn:q+x≤n:=by omega
   go_wp2_with fail
   refine h1.mono ?_
   clear h1
   rintro e w1 ⟨rfl,hb1⟩
   have HB1:Hid (Below w.heap.size w w1):=HB.out.trans (hb1.mono hsz)
   have HO1:Hid (OVB w1 w.heap.size (.slice la ls.length lc) ls∧OVq w1 w.heap.size (.slice oa ss.length oc) ss∧DeepQ w1 w.heap.size ss∧Aprt ss (.slice la ls.length lc)):=⟨HO.out.1.below hb1,HO.out.2.1.below hb1,HO.out.2.2.1.below hb1,HO.out.2.2.2⟩
   have hsz1:=HB1.out.size
   clear hb1 HO HB hsz hle
   by_cases hx0:x=0
   ·subst hx0
    have hcz:=HCZ.out w1 HB1.out
    have HWT:Hid (St ys f (q+1) (ss.map Sq.ct)∧ls++[z]=cutL ys f (q+1)):=⟨HTW.out f q _ HS.out.1 hlt (fun h=>by have:=(HTQ.out.1 h).1;omega),by rw [HS.out.2.1];exact HCQ.out.1⟩
    go_wp2_with (at_builtin;(refine wpList_append_b1 rfl (.tmp 41) (.tmp 46) rfl w.heap.size (.slice la ls.length lc) ls rfl (HO1.out.1.alloc _) w1.heap.size 1 z rfl (by simp) hz (by omega) (by simp;omega) ?_);intro v4 w4 hown hgrow hat)
    have HO4:Hid (OVB w4 w.heap.size v4 (ls++[z])∧OVq w4 w.heap.size (.slice oa ss.length oc) ss∧DeepQ w4 w.heap.size ss∧Aprt ss v4):=by
     have hbA:Below w1.heap.size w1 (w1.alloc (Obj.cells #[.int .u8 z] 5)):=bAw
     exact ⟨hown,(HO1.out.2.1.below hbA).grownB (HO1.out.1.alloc _) hgrow,(HO1.out.2.2.1.below hbA).grownB HO1.out.2.2.2 hgrow,HO1.out.2.2.2.app HO1.out.2.2.1 hat (by simp)⟩
    have HB4:Hid (Below w.heap.size w w4):=(HB1.out.alloc HB1.out.size _).grown hgrow (by have:=HB1.out.size;simp;omega) (fun k hk=>(HO1.out.1.blk hk))
    clear hown hgrow hat hcz
    go_roundw
    case rel=>exact ⟨f,q+1,ss,ls++[z],by go_num,HWT.out.1,HWT.out.2,HO4.out.1,HO4.out.2.1,HO4.out.2.2.1,HO4.out.2.2.2,HB4.out⟩
    case measure=>simp [intOf];omega
   ·have hx1:(0:Int)<(x:Int):=by omega
    have hx2:0<x:=by omega
    by_cases hq1:q+1<n
    ·have hq1I:(q:Int)+1<(n:Int):=by omega
     have h2:=HLO.out w1 (q+1) HB1.out hq1
     have e1:((q+1:Nat):Int)=(q:Int)+1:=by omega
     rw [e1] at h2
     obtain ⟨m,hm⟩:∃ m,m=(lz ys (q+1)).1:=⟨_,rfl⟩
     rw [←hm] at h2
     have HM:Hid (m=(lz ys (q+1)).1∧True):=⟨hm,trivial⟩
     have hmb:m≤64:=by have:=(HLE.out (q+1)).1;omega
     generalize (lz ys (q+1)).2=md at *
     clear hm e1
     go_wp2_with fail
     refine h2.mono ?_
     clear h2
     rintro e w2 ⟨rfl,hb2⟩
     have HB2:Hid (Below w.heap.size w w2):=HB1.out.trans (hb2.mono hsz1)
     have HO2:Hid (OVB w2 w.heap.size (.slice la ls.length lc) ls∧OVq w2 w.heap.size (.slice oa ss.length oc) ss∧DeepQ w2 w.heap.size ss∧Aprt ss (.slice la ls.length lc)):=⟨HO1.out.1.below hb2,HO1.out.2.1.below hb2,HO1.out.2.2.1.below hb2,HO1.out.2.2.2⟩
     have hsz2:=HB2.out.size
     clear hb2 HO1 HB1 hsz1
     by_cases hmx:x<m
     ·have hmxI:(x:Int)<(m:Int):=by omega
      have hcz:=HCZ.out w2 HB2.out
      have HWT:Hid (St ys f (q+1) (ss.map Sq.ct)∧ls++[z]=cutL ys f (q+1)):=⟨HTW.out f q _ HS.out.1 hlt (fun h=>by have h3:=(HTQ.out.1 h).2;rw [←HM.out.1] at h3;omega),by rw [HS.out.2.1];exact HCQ.out.1⟩
      go_wp2_with (at_builtin;(refine wpList_append_b1 rfl (.tmp 41) (.tmp 46) rfl w.heap.size (.slice la ls.length lc) ls rfl (HO2.out.1.alloc _) w2.heap.size 1 z rfl (by simp) hz (by omega) (by simp;omega) ?_);intro v4 w4 hown hgrow hat)
      have HO4:Hid (OVB w4 w.heap.size v4 (ls++[z])∧OVq w4 w.heap.size (.slice oa ss.length oc) ss∧DeepQ w4 w.heap.size ss∧Aprt ss v4):=by
       have hbA:Below w2.heap.size w2 (w2.alloc (Obj.cells #[.int .u8 z] 5)):=bAw
       exact ⟨hown,(HO2.out.2.1.below hbA).grownB (HO2.out.1.alloc _) hgrow,(HO2.out.2.2.1.below hbA).grownB HO2.out.2.2.2 hgrow,HO2.out.2.2.2.app HO2.out.2.2.1 hat (by simp)⟩
      have HB4:Hid (Below w.heap.size w w4):=(HB2.out.alloc HB2.out.size _).grown hgrow (by have:=HB2.out.size;simp;omega) (fun k hk=>(HO2.out.1.blk hk))
      clear hown hgrow hat hcz
      go_roundw
      case rel=>exact ⟨f,q+1,ss,ls++[z],by go_num,HWT.out.1,HWT.out.2,HO4.out.1,HO4.out.2.1,HO4.out.2.2.1,HO4.out.2.2.2,HB4.out⟩
      case measure=>simp [intOf];omega
     ·have hmxI:¬(x:Int)<(m:Int):=by omega
      have hx3:¬(x:Int)=0:=by omega
      have HTK:Hid (St ys (q+x) (q+x) (ss.map Sq.ct++[(ls,(x:Int),(y:Int))])):=by rw [HS.out.2.1];exact HT2.out (HTQ.out.2 ⟨hx2,by rw [←HM.out.1];omega⟩)
      go_wp2_with (at_builtin;(refine wpList_append_sq rfl (.tmp 50) (.tmp 55) rfl w.heap.size (.slice oa ss.length oc) ss rfl (HO2.out.2.1.below ((Below.refl _ _).alloc nl _)) w2.heap.size 1 ⟨la,lc,ls,(x:Int),(y:Int)⟩ rfl (newsQ w2 la ls.length lc _ _ _ _ rfl rfl rfl rfl rfl) (by omega) (by simp;omega) ?_);intro v4 w4 hown hgrow)
      have HO4:Hid (OVq w4 w.heap.size v4 (ss++[⟨la,lc,ls,(x:Int),(y:Int)⟩])∧DeepQ w4 w.heap.size (ss++[⟨la,lc,ls,(x:Int),(y:Int)⟩])):=by
       obtain ⟨a5,c5,e5,hm5,hr5⟩:=HO2.out.1.mineAt
       obtain ⟨rfl,rfl⟩:la=a5∧lc=c5:=by simpa using e5
       have hd5:DeepQ w2 w.heap.size (ss++[⟨la,lc,ls,(x:Int),(y:Int)⟩]):=HO2.out.2.2.1.snoc hm5 (fun z hz k hk hk2=>HO2.out.2.2.2 z hz k hk (hr5 k hk2))
       exact ⟨hown,(hd5.below ((Below.refl _ _).alloc nl _)).grown (HO2.out.2.1.below ((Below.refl _ _).alloc nl _)) hgrow⟩
      have HB4:Hid (Below w.heap.size w w4):=(HB2.out.alloc HB2.out.size _).grown hgrow (by have:=HB2.out.size;simp;omega) (fun k hk=>(HO2.out.2.1.blk hk).1)
      have HMP:Hid ((ss++[(⟨la,lc,ls,(x:Int),(y:Int)⟩:Sq)]).map Sq.ct=ss.map Sq.ct++[(ls,(x:Int),(y:Int))]∧True):=⟨by rw [List.map_append];rfl,trivial⟩
      clear hown hgrow
      go_roundw
      case rel=>exact ⟨q+x,q+x,ss++[⟨la,lc,ls,(x:Int),(y:Int)⟩],[],by congr 1,by rw [HMP.out.1];exact HTK.out,(cutL_nil ys (q+x)).symm,OVB.nil _ _,HO4.out.1,HO4.out.2,Aprt.none _,HB4.out⟩
      case measure=>simp [intOf];omega
    ·have hq1I:¬(q:Int)+1<(n:Int):=by omega
     have hx3:¬(x:Int)=0:=by omega
     have HTK:Hid (St ys (q+x) (q+x) (ss.map Sq.ct++[(ls,(x:Int),(y:Int))])):=by rw [HS.out.2.1];exact HT2.out (HTQ.out.2 ⟨hx2,by rw [HEN.out (q+1) hq1];omega⟩)
     go_wp2_with (at_builtin;(refine wpList_append_sq rfl (.tmp 50) (.tmp 55) rfl w.heap.size (.slice oa ss.length oc) ss rfl (HO1.out.2.1.below ((Below.refl _ _).alloc nl _)) w1.heap.size 1 ⟨la,lc,ls,(x:Int),(y:Int)⟩ rfl (newsQ w1 la ls.length lc _ _ _ _ rfl rfl rfl rfl rfl) (by omega) (by simp;omega) ?_);intro v4 w4 hown hgrow)
     have HO4:Hid (OVq w4 w.heap.size v4 (ss++[⟨la,lc,ls,(x:Int),(y:Int)⟩])∧DeepQ w4 w.heap.size (ss++[⟨la,lc,ls,(x:Int),(y:Int)⟩])):=by
      obtain ⟨a5,c5,e5,hm5,hr5⟩:=HO1.out.1.mineAt
      obtain ⟨rfl,rfl⟩:la=a5∧lc=c5:=by simpa using e5
      have hd5:DeepQ w1 w.heap.size (ss++[⟨la,lc,ls,(x:Int),(y:Int)⟩]):=HO1.out.2.2.1.snoc hm5 (fun z hz k hk hk2=>HO1.out.2.2.2 z hz k hk (hr5 k hk2))
      exact ⟨hown,(hd5.below ((Below.refl _ _).alloc nl _)).grown (HO1.out.2.1.below ((Below.refl _ _).alloc nl _)) hgrow⟩
     have HB4:Hid (Below w.heap.size w w4):=(HB1.out.alloc HB1.out.size _).grown hgrow (by have:=HB1.out.size;simp;omega) (fun k hk=>(HO1.out.2.1.blk hk).1)
     have HMP:Hid ((ss++[(⟨la,lc,ls,(x:Int),(y:Int)⟩:Sq)]).map Sq.ct=ss.map Sq.ct++[(ls,(x:Int),(y:Int))]∧True):=⟨by rw [List.map_append];rfl,trivial⟩
     clear hown hgrow
     go_roundw
     case rel=>exact ⟨q+x,q+x,ss++[⟨la,lc,ls,(x:Int),(y:Int)⟩],[],by congr 1,by rw [HMP.out.1];exact HTK.out,(cutL_nil ys (q+x)).symm,OVB.nil _ _,HO4.out.1,HO4.out.2,Aprt.none _,HB4.out⟩
     case measure=>simp [intOf];omega
  ·have HF:Hid (found ys=fin ys f (ss.map Sq.ct)∧q=n):=⟨HDN.out f q _ HS.out.1 hlt,by omega⟩
   have HFQ:=HFW.out f q ss HS.out.1
   by_cases hl0:ls.length=0
   ·have HFN:Hid (found ys=ss.map Sq.ct∧Few4 ss):=by
     refine ⟨?_,HFQ.1⟩
     rw [HF.out.1]
     unfold fin
     rw [if_neg (by have:=HS.out.2.2;have:=HF.out.2;rw [HL.out.1];omega)]
    have hl0I:¬(0:Int)<(ls.length:Int):=by omega
    clear HFQ
    go_wp2
    go_ret
    exact ⟨⟨_,rfl,ss,HFN.out.1.symm,HO.out.2.1,HO.out.2.2.1,HFN.out.2⟩,HB.out⟩
   ·have hl0I:(0:Int)<(ls.length:Int):=by omega
    have HFN:Hid (found ys=ss.map Sq.ct++[(ls,0,0)]∧Few4 (ss++[⟨la,lc,ls,0,0⟩])):=by
     refine ⟨?_,HFQ.2 _ (by show ls.length≤64;omega) ⟨by simp,by simp⟩ ⟨by simp,by simp⟩⟩
     rw [HF.out.1]
     unfold fin
     rw [if_pos (by have:=HS.out.2.2;have:=HF.out.2;rw [HL.out.1];omega),HL.out.1,HS.out.2.1,HF.out.2]
    have hl0n:0<ls.length:=by omega
    clear hl0 HFQ
    go_wp2_with (at_builtin;(refine wpList_append_sq rfl (.tmp 63) (.tmp 66) rfl w.heap.size (.slice oa ss.length oc) ss rfl (HO.out.2.1.below ((Below.refl _ _).alloc nl _)) wr.heap.size 1 ⟨la,lc,ls,0,0⟩ rfl (newsQ wr la ls.length lc _ _ _ _ rfl rfl rfl rfl rfl) (by omega) (by simp;omega) ?_);intro v4 w4 hown hgrow)
    go_ret
    obtain ⟨a5,c5,e5,hm5,hr5⟩:=HO.out.1.mineAt
    obtain ⟨rfl,rfl⟩:la=a5∧lc=c5:=by simpa using e5
    have hd5:DeepQ wr w.heap.size (ss++[⟨la,lc,ls,0,0⟩]):=HO.out.2.2.1.snoc hm5 (fun z hz k hk hk2=>HO.out.2.2.2 z hz k hk (hr5 k hk2))
    exact ⟨⟨v4,rfl,ss++[⟨la,lc,ls,0,0⟩],by rw [HFN.out.1,List.map_append];rfl,hown,(hd5.below ((Below.refl _ _).alloc nl _)).grown (HO.out.2.1.below ((Below.refl _ _).alloc nl _)) hgrow,HFN.out.2⟩,(HB.out.alloc hsz _).grown hgrow (by simp;omega) (fun k hk=>(HO.out.2.1.blk hk).1)⟩
end Go.Proofs.YtfeokafkhnbdiaaGreatDoor
namespace Go.Proofs.YtfeokafkhnbdiaaGreatDoor
open Go.RowKit Go.Maps Go.ChangeShapes Go.ChangeAt
set_option linter.unusedVariables false
theorem Tryz.zeroSI (w:World):(zeroValue 38).run Tryz.prog w=.ok (.slice none 0 0) w:=by kernel_rfl
def Itm (d:DataW Unit) (zs:List Int):Prop:=(d=.nil∧zs=[])∨d=.slice (lits .i64 zs) []
theorem lits_inj {zs ys:List Int} (h:(lits .i64 zs:List (DataW Unit))=lits .i64 ys):zs=ys:=by
 unfold lits at h
 exact (List.map_inj_right (fun a b hab=>by simpa using hab)).1 h
theorem Itm.eq {d:DataW Unit} {zs ys:List Int} (h:Itm d zs) (h2:Itm d ys):zs=ys:=by
 rcases h with ⟨h,rfl⟩ | h <;> rcases h2 with ⟨h2,rfl⟩ | h2
 ·rfl
 ·rw [h] at h2;cases h2
 ·rw [h] at h2;cases h2
 ·rw [h] at h2
  injection h2 with h2
  exact lits_inj h2
theorem Itm.of {w:World} {base:Nat} {e:TypeId} {v:Value} {zs:List Int} {d:DataW Unit} (h:w.ownsInts base e .i64 v zs) (hd:d=rowDatum .i64 v zs):Itm d zs:=by
 rcases h.datum (H:=Unit) with ⟨h1,h2⟩ | h1
 ·exact .inl ⟨hd.trans h1,h2⟩
 ·exact .inr (hd.trans h1)
theorem grown_below {w w':World} (hb:Below w.heap.size w w'):w.grownBy w' none:=⟨hb.os,hb.tape,hb.output,hb.size,fun k hk _=>hb.block k hk⟩
theorem wanted_step8 {P:Program} {ops:Array Oper} {o:Oper} {a:Act} {w:World} {K:Act→World→Prop} {Q:Exit→Act→World→Prop} {E:Prop} (hg:o.guard=none) (h:Oper.wp P o a w K Q) :
  if Region.wanted o (yielded ops a.tmps)=true then Oper.wp P o a w K Q else E:=by
 rw [if_pos (by simp [Region.wanted,hg])]
 exact h
theorem wp_append_i1 {o:Oper} {a:Act} {w:World} {K:Act→World→Prop} {Q:Exit→Act→World→Prop} (s x:Operand) (ho:o.op=.call { callee:=.builtin .append,args:=#[s,x],argTypes:=#[38,38] })
  (B:Nat) (v:Value) (zs:List Int) (hs:a.eval s=v) (hown:OVI w B v zs) (X:Nat) (z:Int) (hx:a.eval x=.slice (some ⟨X,0,none⟩) 1 1) (hX:w.cell? ⟨X,0,none⟩=some (.int .i64 z)) (hz0:-9223372036854775808≤z) (hz1:z≤9223372036854775807) (hb1:zs.length≤1000000) (hbase:B≤w.heap.size)
  (h:∀ v' w',OVI w' B v' (zs++[z])→w.grownBy w' v.ownBlock→(v'.ownBlock=v.ownBlock∨v'.ownBlock=some w.heap.size)→K (a.put o.dst v') w'):o.wp Tryz.prog a w K Q:=by
 obtain ⟨i0,hi,hz0',hz1',hz2⟩:=info_parts Tryz.infoI64
 obtain ⟨v',w',hr,h2,h3,_,h5⟩:=run_append_own_at (P:=Tryz.prog) w B 38 o.type 3 i0 (.int .i64 0) 1 8 Tryz.underlying38 hi hz0' hz1' hz2 rfl (by decide) v zs.length _ hown.1 ⟨X,0,none⟩ 1 1 [.int .i64 z] rfl (by
  intro j u hu
  cases j with
  | zero=>simp at hu;subst hu;simpa [Addr.add] using hX
  | succ j=>simp at hu) (by simp [Value.oneCell']) (by unfold maxLen;omega) (by omega) hbase
 have hr':(Builtin.append_ #[38,38] o.type #[v,.slice (some ⟨X,0,none⟩) 1 1]).run Tryz.prog w=.ok v' w':=hr
 unfold Oper.wp execOp
 simp only [ho,resolve,invoke,builtin,Sem.run_bind,Sem.run_pure,Result.andThen_ok,List.map_toArray,List.map_cons,List.map_nil,hs,hx,hr']
 refine h v' w' ⟨?_,fun y hy=>?_⟩ h3 h5
 ·rw [List.length_append,List.map_append]
  exact h2
 ·rcases List.mem_append.1 hy with hy | hy
  ·exact hown.2 y hy
  ·simp at hy
   omega
theorem blk_cellI {w:World} {R j:Nat} {cur:Array Value} {T:TypeId} {v:Value} (hR:w.heap[R]?=some (.cells cur T (0,0))) (hv:cur[j]?=some v):w.cell? ⟨R,j,none⟩=some v:=by
 rw [cell_of_row w R j cur T (0,0) hR];exact hv
theorem set_below {w0 w1 w2:World} {M:Nat} {v:Value} {zs:List Int} {wv:World} (hg1:w0.grownBy w1 v.ownBlock) (hg2:w1.grownBy w2 (some M)) (hM:M≤w0.heap.size) (ho:OVI wv (M+1) v zs):Below M w0 w2:=
 (((Below.refl M w0).grown hg1 hM (fun j hj=>by have:=ho.blk hj;omega)).grown hg2 (by have:=hg1.size;omega) (fun j hj=>by cases hj;exact Nat.le_refl _))
end Go.Proofs.YtfeokafkhnbdiaaGreatDoor
namespace Go.Proofs.YtfeokafkhnbdiaaGreatDoor
open Go.RowKit
set_option linter.unusedVariables false
set_option linter.unusedSimpArgs false
def LtA (ys:List Int) (p:Nat) (x y z:Int):Prop:=(p+3≤ys.length→x=ys.getD p 0∧y=ys.getD (p+1) 0∧z=ys.getD (p+2) 0)∧(0≤x∧x≤255)∧(0≤y∧y≤255)∧(0≤z∧z≤255)
theorem lt_cells {w:World} {b o:Nat} {ys:List Int} (hc:∀ i,i<ys.length→w.cell? ⟨b,o+i,none⟩=some (.int .u8 (ys.getD i 0))) (p k:Nat) (hk:p+k≤ys.length) :
  ∀ j u,(((ys.drop p).take k).map (Value.int .u8))[j]?=some u→w.cell? ((⟨b,o+p,none⟩:Addr).add j)=some u:=by
 intro j u hu
 simp only [List.getElem?_map,List.getElem?_take] at hu
 split at hu
 ·rename_i hj
  rw [List.getElem?_drop] at hu
  have h1:=hc (p+j) (by omega)
  rw [List.getElem?_eq_getElem (by omega)] at hu
  simp at hu
  rw [←hu]
  have h2:(⟨b,o+p,none⟩:Addr).add j=⟨b,o+(p+j),none⟩:=by
   cases j with
   | zero=>simp [Addr.add]
   | succ j=>simp [Addr.add];omega
  rw [h2,h1]
  simp [List.getD_eq_getElem?_getD,List.getElem?_eq_getElem (show p+j<ys.length by omega)]
 ·simp at hu
theorem lt_splice {ys:List Int} {p:Nat} (hr:∀ z ∈ ys,0≤z∧z≤255) (hp:p≤ys.length) :
  ∃ x y z:Int,splice [Value.int .u8 0,.int .u8 0,.int .u8 0] 0 (((ys.drop p).take (min (ys.length-p) 3)).map (Value.int .u8))=[Value.int .u8 x,.int .u8 y,.int .u8 z]∧LtA ys p x y z:=by
 have hd:(ys.drop p).length=ys.length-p:=List.length_drop
 have hm:∀ z ∈ ys.drop p,0≤z∧z≤255:=fun z hz=>hr z (List.mem_of_mem_drop hz)
 have hg:∀ i,ys.getD (p+i) 0=(ys.drop p).getD i 0:=fun i=>by simp [List.getD_eq_getElem?_getD]
 have h0:=hg 0
 rw [Nat.add_zero] at h0
 unfold LtA
 rw [h0,hg 1,hg 2,←hd]
 generalize ys.drop p=l at *
 rcases l with _ | ⟨x,_ | ⟨y,_ | ⟨z,l⟩⟩⟩
 ·exact ⟨0,0,0,by simp [splice],fun h=>by simp at hd;omega,by omega,by omega,by omega⟩
 ·have:=hm x (by simp)
  exact ⟨x,0,0,by simp [splice],fun h=>by simp at hd;omega,by omega,by omega,by omega⟩
 ·have:=hm x (by simp)
  have:=hm y (by simp)
  exact ⟨x,y,0,by simp [splice],fun h=>by simp at hd;omega,by omega,by omega,by omega⟩
 ·have:=hm x (by simp)
  have:=hm y (by simp)
  have:=hm z (by simp)
  refine ⟨x,y,z,?_,fun h=>⟨rfl,rfl,rfl⟩,by omega,by omega,by omega⟩
  rw [show min (x :: y :: z :: l).length 3=3 by simp]
  simp [splice]
theorem lettersAt_any (a:Option Addr) (c:Nat) (ys:List Int) (p:Nat) (w:World) (hb:Byt w a ys) (hn:ys.length≤64) (hp:p≤ys.length) (hcap:ys.length≤c) :
  Calls Tryz.prog 60 #[.slice a ys.length c,.int .i64 p] w fun e w'=>(∃ x y z:Int,e=.returned (.tuple #[.agg #[.int .u8 x,.int .u8 y,.int .u8 z],.bool (decide (p+3≤ys.length))])∧LtA ys p x y z)∧Below w.heap.size w w':=by
 obtain ⟨i0,hi,hz0,hz1,hz2⟩:=info_parts Tryz.infoU8
 have hsz:(Tryz.prog.info? 5).map (·.size)=some 1:=by rw [hi];simp [hz1]
 obtain ⟨x,y,z,hsp,hlt⟩:=lt_splice hb.1 hp
 obtain ⟨cs,hcs⟩:∃ cs,cs=((ys.drop p).take (min (ys.length-p) 3)).map (Value.int .u8):=⟨_,rfl⟩
 obtain ⟨k,hk⟩:∃ k,k=min (ys.length-p) 3:=⟨_,rfl⟩
 rw [←hcs] at hsp
 have HCL:Hid (cs.length=k∧k=min (ys.length-p) 3):=⟨by rw [hcs,hk];simp,hk⟩
 have HONE:Hid (∀ u ∈ cs,u.oneCell'=true):=by rw [hcs];exact oneCells _
 have HSP:Hid (splice [Value.int .u8 0,.int .u8 0,.int .u8 0] 0 cs=[Value.int .u8 x,.int .u8 y,.int .u8 z]∧LtA ys p x y z):=⟨hsp,hlt⟩
 obtain ⟨a',ha'⟩:∃ a',a'=if c=p then a else a.map (·.add (p*1)):=⟨_,rfl⟩
 have HSRC:Hid (∀ W:World,Below w.heap.size w W→0<cs.length→∃ ad,a'=some ad∧∀ j u,cs[j]?=some u→W.cell? (ad.add j)=some u):=by
  intro W hW h0
  obtain ⟨b,o,rfl,hbl,hc⟩:=hb.2 (by rw [HCL.out.1,HCL.out.2] at h0;omega)
  rw [if_neg (by rw [HCL.out.1,HCL.out.2] at h0;omega)] at ha'
  refine ⟨⟨b,o+p,none⟩,?_,?_⟩
  ·rw [ha']
   simp [Addr.add]
  ·rw [hcs]
   exact lt_cells (fun i hi=>keep hW hbl (hc i hi)) p _ (by omega)
 have hslc:∀ W,(Instr.slice 22 (.slice a ys.length c) (some (.int .i64 (p:Int))) none none).run Tryz.prog W=.ok (.slice a' (ys.length-p) (c-p)) W:=by
  intro W
  rw [run_slice_l W 22 _ _ _ (by simp [Program.elem,Tryz.underlying22]) .i64 _ (by omega) (by omega)]
  rw [ha']
  simp [Program.elem,Tryz.underlying22,Go.sizeOf,typeInfo,hi,hz1,Result.andThen,sliced]
 have HEQ:Hid ((decide ((k:Int)=3)=decide (p+3≤ys.length))∧True):=by
  refine ⟨?_,trivial⟩
  rw [hk]
  congr 1
  apply propext
  omega
 generalize ys.length-p=n at *
 clear hb hsp hlt hcs hk ha' hcap
 go_enter Tryz.func60,Tryz.ntmps60
 go_wp2_with fail
 have HG:Hid (((w.alloc (Obj.cells #[.int .u8 0,.int .u8 0,.int .u8 0] 97)).alloc (Obj.cells #[.int .u8 0,.int .u8 0,.int .u8 0] 97)).heap[w.heap.size+1]?=some (.cells [Value.int .u8 0,.int .u8 0,.int .u8 0].toArray 97 (0,0))):=by
  have:=heap_alloc_new (w.alloc (Obj.cells #[.int .u8 0,.int .u8 0,.int .u8 0] 97)) (Obj.cells #[.int .u8 0,.int .u8 0,.int .u8 0] 97)
  rw [World.size_alloc] at this
  exact this
 have HB1:Hid (((w.alloc (Obj.cells #[.int .u8 0,.int .u8 0,.int .u8 0] 97)).alloc (Obj.cells #[.int .u8 0,.int .u8 0,.int .u8 0] 97)).heap[w.heap.size]?=some (.cells #[.int .u8 0,.int .u8 0,.int .u8 0] 97 (0,0))):=(Below.heap_alloc _ _ _ (by simp)).trans (heap_alloc_new w _)
 have HBEL:Hid (Below w.heap.size w ((w.alloc (Obj.cells #[.int .u8 0,.int .u8 0,.int .u8 0] 97)).alloc (Obj.cells #[.int .u8 0,.int .u8 0,.int .u8 0] 97))):=((Below.refl _ _).alloc nl _).alloc (by simp) _
 generalize (w.alloc (Obj.cells #[.int .u8 0,.int .u8 0,.int .u8 0] 97)).alloc (Obj.cells #[.int .u8 0,.int .u8 0,.int .u8 0] 97)=V at *
 generalize hG:w.heap.size=G at *
 have HGS:Hid (w.heap.size=G∧True):=⟨hG,trivial⟩
 clear hG
 go_region_law (refine step_copy_splice rfl (.tmp 8) (.tmp 11) 22 22 rfl 5 Tryz.underlying22 hsz (some ⟨G+1,0,none⟩) a' 3 3 n (c-p) (by simp [Act.eval,Act.put]) (by simp [Act.eval,Act.put]) (G+1) 0 [Value.int .u8 0,.int .u8 0,.int .u8 0] 97 (by exact HG.out) cs (by rw [HCL.out.1];exact HCL.out.2) (fun hp=>⟨rfl,HSRC.out _ (by exact HBEL.out.drew) hp⟩) (by rw [HCL.out.1,HCL.out.2];simp only [List.length_cons,List.length_nil];omega) HONE.out (G+1) V (by exact (Below.refl _ _).drew) nl ?_;intro w4 hg4 hb4;rw [HCL.out.1])
 all_goals
  have HG4:Hid (w4.heap[G+1]?=some (.cells #[.int .u8 x,.int .u8 y,.int .u8 z] 97 (0,0))):=by have:=hg4.out;rw [HSP.out.1] at this;exact this
  have HG1:Hid (w4.heap[G]?=some (.cells #[.int .u8 0,.int .u8 0,.int .u8 0] 97 (0,0))):=(hb4.block G (by omega)).trans HB1.out
  have d0:w4.cell? ⟨G+1,0,none⟩=some (.int .u8 x):=by rw [cell_of_row w4 (G+1) 0 _ _ (0,0) HG4.out];rfl
  have d1:w4.cell? ⟨G+1,1,none⟩=some (.int .u8 y):=by rw [cell_of_row w4 (G+1) 1 _ _ (0,0) HG4.out];rfl
  have d2:w4.cell? ⟨G+1,2,none⟩=some (.int .u8 z):=by rw [cell_of_row w4 (G+1) 2 _ _ (0,0) HG4.out];rfl
  have e0:w4.cell? ⟨G,0,none⟩=some (.int .u8 0):=by rw [cell_of_row w4 G 0 _ _ (0,0) HG1.out];rfl
  have e1:w4.cell? ⟨G,1,none⟩=some (.int .u8 0):=by rw [cell_of_row w4 G 1 _ _ (0,0) HG1.out];rfl
  have e2:w4.cell? ⟨G,2,none⟩=some (.int .u8 0):=by rw [cell_of_row w4 G 2 _ _ (0,0) HG1.out];rfl
  have HB4:Hid (Below G w w4):=HBEL.out.trans (hb4.mono (Nat.le_succ _))
  clear hg4 hb4
  clear HG HB1 HSRC HONE HCL
  have f0:=frozen_of_row w4 G 0 _ _ HG1.out
  have f1:=frozen_of_row w4 G 1 _ _ HG1.out
  have f2:=frozen_of_row w4 G 2 _ _ HG1.out
  obtain ⟨bb,hbb⟩:∃ bb,bb=decide ((k:Int)=3):=⟨_,rfl⟩
  have hkb:((k:Int) == 3)=bb:=by rw [hbb];rfl
  have HBB:Hid (bb=decide (p+3≤ys.length)∧True):=⟨hbb.trans HEQ.out.1,trivial⟩
  clear hbb HEQ
  simp only [List.getElem_toArray,List.getElem_cons_succ,List.getElem_cons_zero,Act.put,List.setIfInBounds_toArray,List.set_cons_succ,List.set_cons_zero]
  go_wp2
  refine bodyPost_ret (v:=.tuple #[.agg #[.int .u8 x,.int .u8 y,.int .u8 z],.bool bb]) (by simp [results,Tryz.results60,go_sem,e0,e1,e2]) rfl ⟨⟨x,y,z,by rw [HBB.out.1],HSP.out.2⟩,?_⟩
  rw [HGS.out.1]
  exact ((HB4.out.setCell nl _).setCell nl _).setCell nl _
end Go.Proofs.YtfeokafkhnbdiaaGreatDoor
