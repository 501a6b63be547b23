/- Lemmas on the way. -/
import Derived.Test.YtfeokafkhnbdiaaGreatDoorLvC
import Derived.Lib.SliceRun
import Derived.Test.YtfeokafkhnbdiaaGreatDoorLzT
import Derived.Test.YtfeokafkhnbdiaaGreatDoorPcN
import Derived.Deep.RegionHeld3
import Derived.Test.YtfeokafkhnbdiaaGreatDoorIs1
import Derived.Test.YtfeokafkhnbdiaaGreatDoorPcA
import Derived.Test.YtfeokafkhnbdiaaGreatDoorEnF
import Derived.Test.YtfeokafkhnbdiaaGreatDoorSyms
import Derived.Test.YtfeokafkhnbdiaaGreatDoorLzP
import Derived.Test.YtfeokafkhnbdiaaGreatDoorWidth
set_option maxRecDepth 20000
set_option maxHeartbeats 16000000
namespace Go.Proofs.YtfeokafkhnbdiaaGreatDoor
open Go.RowKit
set_option linter.unusedVariables false
theorem bytesClone_any (a:Option Addr) (cap:Nat) (zs:List Int) (w:World) (hb:Byt w a zs) (hn:zs.length≤1000000) :
  Calls Tryz.prog 38 #[.slice a zs.length cap] w fun e w'=>(∃ v,e=.returned v∧OVB w' w.heap.size v zs)∧Below w.heap.size w w':=by
 cases a with
 | none=>
  have hz:zs=[]:=by
   rcases Nat.eq_zero_or_pos zs.length with h0 | h0
   ·exact List.eq_nil_of_length_eq_zero h0
   ·obtain ⟨b,off,e,_⟩:=hb.2 h0
    cases e
  subst hz
  have heq:(binOp .eql 22 (.slice none 0 cap) (.slice none 0 0)).run Tryz.prog w=.ok (.bool true) w:=Lib.run_eql_slice_nil w _ _ none 0 cap 0 0 Tryz.underlying22
  go_enter Tryz.func38,Tryz.ntmps38
  go_wp2
  go_ret
  exact ⟨⟨_,rfl,OVB.nil _ _⟩,Below.refl _ _⟩
 | some ad=>
  have HO:Hid (OVB (w.alloc (Obj.cells #[] 5)) w.heap.size (.slice (some ⟨w.heap.size,0,none⟩) 0 0) []):=OVB.empty w _ nl
  have HY:Hid (Byt (w.alloc (Obj.cells #[] 5)) (some ad) zs):=hb.alloc _
  have HB:Hid (Below w.heap.size w (w.alloc (Obj.cells #[] 5))):=bAw
  clear hb
  have heq:(binOp .eql 22 (.slice (some ad) zs.length cap) (.slice none 0 0)).run Tryz.prog w=.ok (.bool false) w:=Lib.run_eql_slice_nil w _ _ (some ad) zs.length cap 0 0 Tryz.underlying22
  go_enter Tryz.func38,Tryz.ntmps38
  go_wp2_with (at_builtin;(refine wpList_append_byt rfl (.tmp 5) (.tmp 6) rfl w.heap.size (.slice (some ⟨w.heap.size,0,none⟩) 0 0) [] rfl HO.out (some ad) cap zs rfl HY.out (by simp;omega) (by simp) ?_;intro v1 w1 hov1 hgr1;have HB1:Hid (Below w.heap.size w w1):=appB_below HB.out (by simp) HO.out hgr1;have HV1:Hid (OVB w1 w.heap.size v1 zs):=(by simpa [Hid] using hov1);clear hov1 hgr1))
  go_ret
  exact ⟨⟨_,rfl,HV1.out⟩,HB1.out⟩
set_option linter.unusedSimpArgs false
theorem Tryz.fldP (x y:Value) (W:World):Sem.run Tryz.prog (Instr.field 60 (.agg #[x,y]) 0) W=.ok x W:=by kernel_rfl
theorem below_dN3 (w:World) (n:Nat):Below w.heap.size w (w.drewN n):=⟨rfl,rfl,rfl,Nat.le_refl _,fun _ _=>rfl⟩
theorem lz_P {ys:List Int} {q:Nat} (h:q≤ys.length):lz ys q=lzP ys q q:=by
 by_cases hq:q<ys.length
 ·rw [lz_at hq,lzP_lzA]
 ·rw [lz_end hq,lzP_short ys q (by omega)]
theorem Byt.cut {w:World} {b off:Nat} {ys:List Int} (h:Byt w (some ⟨b,off,none⟩) ys) (f q:Nat) (hf:f≤q) (hq:q≤ys.length):Byt w (some ⟨b,off+f,none⟩) (cutL ys f q):=by
 refine ⟨fun z hz=>h.1 z (cutL_mem hz),fun hp=>?_⟩
 rw [cutL_len ys f q hf hq] at hp
 obtain ⟨b',o',he,hlt,hc⟩:=h.2 (by omega)
 obtain ⟨rfl,rfl⟩:b=b'∧off=o':=by simpa using he
 refine ⟨b,off+f,rfl,hlt,fun j hj=>?_⟩
 rw [cutL_len ys f q hf hq] at hj
 have e:(cutL ys f q).getD j 0=ys.getD (f+j) 0:=by
  unfold cutL
  rw [List.getD_eq_getElem?_getD,List.getElem?_take,if_pos hj,List.getElem?_drop,←List.getD_eq_getElem?_getD]
 rw [e,Nat.add_assoc]
 exact hc (f+j) (by omega)
def BxP (w:World) (X x y:Nat):Prop:=w.heap[X]?=some (.cells #[.int .i64 x,.int .i64 y] 60 (0,0))
theorem BxP.c0 {w:World} {X x y:Nat} (h:BxP w X x y):w.cell? ⟨X,0,none⟩=some (.int .i64 x):=by rw [cell_of_row w X 0 _ _ (0,0) h];rfl
theorem BxP.c1 {w:World} {X x y:Nat} (h:BxP w X x y):w.cell? ⟨X,1,none⟩=some (.int .i64 y):=by rw [cell_of_row w X 1 _ _ (0,0) h];rfl
theorem BxP.lt {w:World} {X x y:Nat} (h:BxP w X x y):X<w.heap.size:=(Array.getElem?_eq_some_iff.1 h).1
theorem BxP.below {w w':World} {X x y:Nat} (h:BxP w X x y) (hb:Below w.heap.size w w'):BxP w' X x y:=(hb.block X h.lt).trans h
theorem implFind_yes (a:Option Addr) (c:Nat) (ys:List Int) (w:World) (hb:Byt w a ys) (hn:ys.length≤64) (hcap:ys.length≤c) :
  Calls Tryz.prog 10 #[.slice a ys.length c] w fun e w'=>(∃ v,e=.returned (.tuple #[v,.bool true])∧FnA w' w.heap.size v (found ys))∧Below w.heap.size w w':=by
 have HBY:Hid (Byt w a ys∧True):=⟨hb,trivial⟩
 have HLE:Hid (∀ q,q+(lz ys q).1≤max q ys.length∧(lz ys q).2≤q):=lz_le ys
 have HCL:Hid (∀ f q,f≤q→q≤ys.length→(cutL ys f q).length=q-f):=cutL_len ys
 have HTW:Hid (∀ f q cs,St ys f q cs→q<ys.length→¬takes ys q→St ys f (q+1) cs):=fun f q cs h1 h2 h3=>h1.wait h2 h3
 have HTT:Hid (∀ f q cs,St ys f q cs→q<ys.length→takes ys q→St ys (q+(lz ys q).1) (q+(lz ys q).1) (cs++[(cutL ys f q,((lz ys q).1:Int),((lz ys q).2:Int))])):=fun f q cs h1 h2 h3=>h1.take h2 h3
 have HDN:Hid (∀ f q cs,St ys f q cs→¬q<ys.length→found ys=fin ys f cs):=fun f q cs h1 h2=>h1.done h2
 have HSR:Hid (∀ f q cs,St ys f q cs→f≤q∧q≤ys.length∧cs.length≤q):=fun f q cs h=>⟨h.fq,h.ql,h.cl⟩
 have HFW:Hid (∀ f q ss,St ys f q (ss.map Sq.ct)→Few4 ss∧∀ s:Sq,s.ls.length≤64→(0≤s.n∧s.n≤64)→(0≤s.d∧s.d≤64)→Few4 (ss++[s])):=fun f q ss h=>⟨h.few hn,fun s h1 h2 h3=>Few4.snoc h hn h1 h2 h3⟩
 have HST:Hid (St ys 0 0 []):=St.start ys
 have HLG:Hid (∀ (R M:Nat) (W:World),Hst W R M a ys.length c→LivL W M ys.length (lpl ys ys.length)→Below w.heap.size w W→∀ q,q≤ys.length→Calls Tryz.prog 37 #[.pointer (some ⟨R,0,none⟩),.int .i64 q] W fun e w'=>e=.returned (.agg #[.int .i64 (lz ys q).1,.int .i64 (lz ys q).2])∧Below W.heap.size W w'):=fun R M W h1 h2 h3 q hq=>by
  rw [lz_P hq]
  exact longest_any R M a c ys q W h1 h2 (hb.below h3 nl) hn hq hcap
 have HCB:Hid (∀ (W:World),Below w.heap.size w W→∀ b o,a=some ⟨b,o,none⟩→∀ f q,f≤q→q≤ys.length→Calls Tryz.prog 38 #[.slice (some ⟨b,o+f,none⟩) (q-f) (c-f)] W fun e w'=>(∃ v,e=.returned v∧OVB w' W.heap.size v (cutL ys f q))∧Below W.heap.size W w'):=fun W hW b o ha f q h1 h2=>by
  subst ha
  have h:=bytesClone_any (some ⟨b,o+f,none⟩) (c-f) (cutL ys f q) W ((hb.below hW nl).cut f q h1 h2) (by rw [cutL_len ys f q h1 h2];omega)
  rw [cutL_len ys f q h1 h2] at h
  exact h
 have HHO:=historyOf_any a c ys w hb hn hcap
 clear hb
 generalize hL:ys.length=n at *
 have HL:Hid (ys.length=n∧True):=⟨hL,trivial⟩
 clear hL
 go_enter Tryz.func10,Tryz.ntmps10
 go_wp2_with fail
 refine HHO.mono ?_
 clear HHO
 rintro e w1 ⟨R,M,rfl,-,-,hH1,hV1,hb1⟩
 have H1:Hid (Hst w1 R M a n c∧LivL w1 M n (lpl ys n)∧Below w.heap.size w w1):=⟨hH1,hV1,hb1⟩
 have hsz1:=hb1.size
 clear hH1 hV1 hb1
 go_wp2
 go_loopw [5,6,7] (fun ov fv iv wr=>∃ (f q:Nat) (ss:List Sq),iv=.int .i64 q∧fv=.int .i64 f∧St ys f q (ss.map Sq.ct)∧OVq wr w1.heap.size ov ss∧DeepQ wr w1.heap.size ss∧Below w1.heap.size w1 wr) (fun _ _ iv _=>n-(intOf iv).toNat)
 case atStart=>exact ⟨0,0,[],rfl,rfl,HST.out,OVq.nil _ _,DeepQ.nil _ _,Below.refl _ _⟩
 case round=>
  obtain ⟨f,q,ss,rfl,rfl,hst,hoq,hdq,hbel⟩:=hrel
  obtain ⟨oa,oc,rfl⟩:=hoq.form
  obtain ⟨hfq,hqn,hcl⟩:=HSR.out _ _ _ hst
  rw [List.length_map] at hcl
  have HS:Hid (St ys f q (ss.map Sq.ct)∧True):=⟨hst,trivial⟩
  have HO:Hid (OVq wr w1.heap.size (.slice oa ss.length oc) ss∧DeepQ wr w1.heap.size ss):=⟨hoq,hdq⟩
  have HB:Hid (Below w1.heap.size w1 wr∧Below w.heap.size w wr):=⟨hbel,H1.out.2.2.trans (hbel.mono hsz1)⟩
  have hsz:=hbel.size
  have hsq:ss.length≤q:=hcl
  clear hst hoq hdq hbel hcl
  by_cases hlt:q<n
  ·have h1:=HLG.out R M wr (H1.out.1.below HB.out.1) (H1.out.2.1.below HB.out.1) HB.out.2 q hqn
   have hle:=(HLE.out q).1
   have hld:=(HLE.out q).2
   have HTQ:Hid (takes ys q↔0<(lz ys q).1∧(lz ys (q+1)).1≤(lz ys q).1):=Iff.rfl
   have HT2:Hid (takes ys q→St ys (q+(lz ys q).1) (q+(lz ys q).1) (ss.map Sq.ct++[(cutL ys f q,((lz ys q).1:Int),((lz ys q).2:Int))])):=fun h=>HTT.out f q _ HS.out.1 hlt h
   have HT3:Hid (¬takes ys q→St ys f (q+1) (ss.map Sq.ct)):=fun h=>HTW.out f q _ HS.out.1 hlt h
   generalize (lz ys q).1=x at *
   generalize (lz ys q).2=y at *
   have hxn:q+x≤n:=by omega
   have hnq:¬(n:Int)≤(q:Int):=by omega
   clear hle
   go_wp2_with fail
   refine h1.mono ?_
   clear h1
   rintro e w2 ⟨rfl,hb2⟩
   have HB2:Hid (Below w1.heap.size w1 (w2.alloc (Obj.cells #[.int .i64 x,.int .i64 y] 60))∧Below w.heap.size w (w2.alloc (Obj.cells #[.int .i64 x,.int .i64 y] 60))∧w1.heap.size≤w2.heap.size∧BxP (w2.alloc (Obj.cells #[.int .i64 x,.int .i64 y] 60)) w2.heap.size x y):=by
    have h3:Below w1.heap.size w1 w2:=HB.out.1.trans (hb2.mono hsz)
    have h4:Below w1.heap.size w1 (w2.alloc (Obj.cells #[.int .i64 x,.int .i64 y] 60)):=h3.alloc h3.size _
    exact ⟨h4,H1.out.2.2.trans (h4.mono hsz1),h3.size,heap_alloc_new w2 _⟩
   have HO2:Hid (OVq (w2.alloc (Obj.cells #[.int .i64 x,.int .i64 y] 60)) w1.heap.size (.slice oa ss.length oc) ss∧DeepQ (w2.alloc (Obj.cells #[.int .i64 x,.int .i64 y] 60)) w1.heap.size ss):=⟨(HO.out.1.below hb2).below ((Below.refl _ _).alloc nl _),(HO.out.2.below hb2).below ((Below.refl _ _).alloc nl _)⟩
   clear hb2 HO HB hsz
   go_wp2
   generalize w2.alloc (Obj.cells #[.int .i64 x,.int .i64 y] 60)=w3 at *
   generalize w2.heap.size=X at *
   have c0:=HB2.out.2.2.2.c0
   have c1:=HB2.out.2.2.2.c1
   have hXl:=HB2.out.2.2.2.lt
   by_cases hx0:x=0
   ·subst hx0
    have HW3:Hid (St ys f (q+1) (ss.map Sq.ct)):=HT3.out (fun h=>by have:=(HTQ.out.1 h).1;omega)
    have hz0:(((0:Nat):Int) == 0)=true:=rfl
    go_quiet (fail)
    go_wp2
    go_roundw
    case rel=>exact ⟨f,q+1,ss,by go_num,rfl,HW3.out,HO2.out.1.below (below_dN3 _ _),HO2.out.2.below (below_dN3 _ _),HB2.out.1.trans ((below_dN3 _ _).mono HB2.out.1.size)⟩
    case measure=>simp [intOf];omega
   ·have hx1:¬(x:Int)=0:=by omega
    have hz0:((x:Int) == 0)=false:=by simp [hx0]
    have h2:=fun (W:World) (hW:Below w1.heap.size w1 W)=>HLG.out R M W (H1.out.1.below hW) (H1.out.2.1.below hW) (H1.out.2.2.trans (hW.mono hsz1)) (q+1) (by omega)
    obtain ⟨m,hm⟩:∃ m,m=(lz ys (q+1)).1:=⟨_,rfl⟩
    rw [←hm] at h2
    have HM:Hid (m=(lz ys (q+1)).1∧True):=⟨hm,trivial⟩
    have HL2:Hid (∀ (W:World),Below w1.heap.size w1 W→Calls Tryz.prog 37 #[.pointer (some ⟨R,0,none⟩),.int .i64 ((q:Int)+1)] W fun e w'=>e=.returned (.agg #[.int .i64 m,.int .i64 (lz ys (q+1)).2])∧Below W.heap.size W w'):=fun W hW=>by
     have h:=h2 W hW
     rw [show ((q+1:Nat):Int)=(q:Int)+1 by omega] at h
     exact h
    clear h2 hm
    generalize (lz ys (q+1)).2=md at *
    have hfd:=fun W=>Tryz.fldP (.int .i64 m) (.int .i64 md) W
    have hqw:IntKind.i64.wrap ((q:Int)+1)=(q:Int)+1:=IntWalk.i64_in _ (by omega)
    go_region_held3 (fun W=>W.cell? ⟨X,0,none⟩=some (.int .i64 x)) (first | exact c0 | exact c4)
     (first | (go_at_call 37;(try rw [hqw]);refine (HL2.out _ (by exact HB2.out.1.drew)).mono ?_;rintro e w4 ⟨rfl,hb4'⟩;have hb4:Below w3.heap.size w3 w4:=Below.drewS hb4';have c4:=keep hb4 hXl c0))
    have HB4:Hid (Below w1.heap.size w1 w4∧Below w.heap.size w w4∧BxP w4 X x y):=⟨HB2.out.1.trans (hb4.mono HB2.out.1.size),HB2.out.2.1.trans (hb4.mono HB2.out.2.1.size),HB2.out.2.2.2.below hb4⟩
    have HO4:Hid (OVq w4 w1.heap.size (.slice oa ss.length oc) ss∧DeepQ w4 w1.heap.size ss):=⟨HO2.out.1.below hb4,HO2.out.2.below hb4⟩
    have hXw:w1.heap.size≤X:=HB2.out.2.2.1
    clear hb4 hb4' c0 c1 c4 HB2 HO2 HL2 hXl
    by_cases hmx:x<m
    ·have hmxI:(x:Int)<(m:Int):=by omega
     have HW3:Hid (St ys f (q+1) (ss.map Sq.ct)):=HT3.out (fun h=>by have h3:=(HTQ.out.1 h).2;rw [←HM.out.1] at h3;omega)
     go_wp2
     go_roundw
     case rel=>exact ⟨f,q+1,ss,by go_num,rfl,HW3.out,HO4.out.1,HO4.out.2,HB4.out.1⟩
     case measure=>simp [intOf];omega
    ·have hmxI:¬(x:Int)<(m:Int):=by omega
     have HW3:Hid (St ys (q+x) (q+x) (ss.map Sq.ct++[(cutL ys f q,(x:Int),(y:Int))])):=HT2.out (HTQ.out.2 ⟨by omega,by rw [←HM.out.1];omega⟩)
     obtain ⟨b1,o1,ha,hbl,hbc⟩:=HBY.out.1.2 (by rw [HL.out.1];omega)
     have HC4:=HCB.out w4.drew HB4.out.2.1.drew b1 o1 ha f q hfq hqn
     subst ha
     have hcf:¬c=f:=by omega
     have hcq:q≤c:=by omega
     have c0:=HB4.out.2.2.c0
     have c1:=HB4.out.2.2.c1
     have hXl:=HB4.out.2.2.lt
     have HX:Hid (∀ W,Below w4.heap.size w4 W→W.cell? ⟨X,0,none⟩=some (.int .i64 x)∧W.cell? ⟨X,1,none⟩=some (.int .i64 y)):=fun W hW=>⟨keep hW hXl c0,keep hW hXl c1⟩
     clear hbl hbc
     go_wp2
     refine wp_region_cut (S:=fun W=>W.cell? ⟨X,0,none⟩=some (.int .i64 x)∧W.cell? ⟨X,1,none⟩=some (.int .i64 y)) 13 (by kernel_rfl) (by kernel_rfl) (by exact ⟨c0,c1⟩) (fun hHeld=>?_)
     refine tk 0 (v:=?_) ?_ ?_
     rotate_left
     ·(intro w hSw;(try dsimp only at hSw);go_simp;try (with_reducible rfl))
     try simp only [tkS]
     refine tk 1 (v:=?_) ?_ ?_
     rotate_left
     ·(intro w hSw;(try dsimp only at hSw);go_simp;try (with_reducible rfl))
     try simp only [tkS]
     refine tk 2 (v:=?_) ?_ ?_
     rotate_left
     ·(intro w hSw;(try dsimp only at hSw);go_simp;try (with_reducible rfl))
     try simp only [tkS]
     refine tk 3 (v:=?_) ?_ ?_
     rotate_left
     ·(intro w hSw;(try dsimp only at hSw);go_simp;try (with_reducible rfl))
     try simp only [tkS]
     refine tk 4 (v:=?_) ?_ ?_
     rotate_left
     ·(intro w hSw;(try dsimp only at hSw);go_simp;try (with_reducible rfl))
     try simp only [tkS]
     refine tk 6 (v:=?_) ?_ ?_
     rotate_left
     ·(intro w hSw;(try dsimp only at hSw);go_simp;try (with_reducible rfl))
     try simp only [tkS]
     refine tk 7 (v:=?_) ?_ ?_
     rotate_left
     ·(intro w hSw;(try dsimp only at hSw);go_simp;try (with_reducible rfl))
     try simp only [tkS]
     refine tk 8 (v:=?_) ?_ ?_
     rotate_left
     ·(intro w hSw;(try dsimp only at hSw);go_simp;try (with_reducible rfl))
     try simp only [tkS]
     refine tk 9 (v:=?_) ?_ ?_
     rotate_left
     ·(intro w hSw;(try dsimp only at hSw);go_simp;try (with_reducible rfl))
     try simp only [tkS]
     refine wpAnyH_ready (rs:=[5]) (by kernel_rfl) (by simp) ?_
     refine AllReadyH.cons rfl (fun K hK=>?_) AllReadyH.nil
     go_simp
     refine HC4.mono ?_
     clear HC4
     rintro e w5 ⟨⟨v5,rfl,hov5⟩,hb5'⟩
     have hb5:Below w4.heap.size w4 w5:=Below.drewS hb5'
     obtain ⟨ua,uc,rfl,hm5⟩:=hov5.mine
     have HM5:Hid (Mine w5 w4.heap.size w5.heap.size ua uc (cutL ys f q)∧Below w4.heap.size w4 w5):=⟨hm5,hb5⟩
     refine hK.out _ _ (by exact HX.out _ hb5) (fun hHeld=>?_)
     clear hK K hov5 hm5 hb5'
     try simp only [tkS]
     refine tk 10 (v:=?_) ?_ ?_
     rotate_left
     ·(intro w hSw;(try dsimp only at hSw);go_simp;try (with_reducible rfl))
     try simp only [tkS]
     refine wpAnyH_ready (rs:=[11]) (by kernel_rfl) (by simp) ?_
     refine AllReadyH.cons rfl (fun K hK=>?_) AllReadyH.nil
     go_simp
     have hA5:Below w5.heap.size w5 (w5.alloc (Obj.cells #[.slice ua (cutL ys f q).length uc,.int .i64 x,.int .i64 y] 37)):=bAw
     refine hK.out _ _ (by exact HX.out _ (hb5.trans (hA5.mono hb5.size))) (fun hHeld=>?_)
     clear hK K
     try simp only [tkS]
     refine wpAnyH_ready (rs:=[12]) (by kernel_rfl) (by simp) ?_
     refine AllReadyH.cons rfl (fun K hK=>?_) AllReadyH.nil
     have HO5:Hid (OVq (w5.alloc (Obj.cells #[.slice ua (cutL ys f q).length uc,.int .i64 x,.int .i64 y] 37)) w1.heap.size (.slice oa ss.length oc) ss):=(HO4.out.1.below hb5).below hA5
     have hz4:w1.heap.size≤w4.heap.size:=HB4.out.1.size
     have hz5:w4.heap.size≤w5.heap.size:=hb5.size
     refine wanted_step rfl (wp_append_sq (.tmp 36) (.tmp 47) rfl w1.heap.size (.slice oa ss.length oc) ss (by simp [Act.eval]) HO5.out w5.heap.size 1 ⟨ua,uc,cutL ys f q,x,y⟩ (by simp [Act.eval]) (newsQ w5 ua (cutL ys f q).length uc x y 37 ⟨ua,uc,cutL ys f q,x,y⟩ rfl rfl rfl rfl rfl) (by omega) (by simp;omega) ?_)
     intro v6 w6 hov6 hg6
     have hd6:DeepQ w5 w1.heap.size (ss++[⟨ua,uc,cutL ys f q,x,y⟩]):=(HO4.out.2.below hb5).snoc (HM5.out.1.mono hz4 nl) (fun z hz k hk hk2=>by
      have h1:=((HO4.out.2.mine z hz).rowB hk).2
      have h2:=(HM5.out.1.rowB hk2).1
      omega)
     have HM6:Hid (OVq w6 w1.heap.size v6 (ss++[⟨ua,uc,cutL ys f q,x,y⟩])∧DeepQ w6 w1.heap.size (ss++[⟨ua,uc,cutL ys f q,x,y⟩])∧Below w1.heap.size w1 w6):=⟨hov6,(hd6.below hA5).grown HO5.out hg6,appQ_below ((HB4.out.1.trans (hb5.mono hz4)).trans (hA5.mono (by omega))) (by simp;omega) HO5.out hg6⟩
     have hne:¬(Value.slice oa ss.length oc).ownBlock=some X:=fun he=>HO4.out.1.ne HB4.out.2.2 (by decide) he
     have e0:=(Only.ofGrownQ hg6).cell (b:=X) (o:=0) (by simp;omega) hne (HX.out _ (hb5.trans (hA5.mono hb5.size))).1
     have e1:=(Only.ofGrownQ hg6).cell (b:=X) (o:=1) (by simp;omega) hne (HX.out _ (hb5.trans (hA5.mono hb5.size))).2
     have HMP:Hid ((ss++[(⟨ua,uc,cutL ys f q,x,y⟩:Sq)]).map Sq.ct=ss.map Sq.ct++[(cutL ys f q,(x:Int),(y:Int))]∧True):=⟨by rw [List.map_append];rfl,trivial⟩
     clear hov6 hg6 hd6 hA5
     refine hK.out _ _ (by exact ⟨e0,e1⟩) (fun hHeld=>?_)
     clear hK K
     try simp only [tkS]
     refine wpAnyH_done (by kernel_rfl) ?_ _
     simp only [cutQ,List.drop_succ_cons,List.drop_zero]
     clear HM5 hb5 c0 c1 HO4 HO5 HB4 HX hne
     go_wp2
     go_roundw
     case rel=>exact ⟨q+x,q+x,_,by congr 1,by congr 1,by rw [HMP.out.1];exact HW3.out,HM6.out.1,HM6.out.2.1,HM6.out.2.2⟩
     case measure=>simp [intOf];omega
  ·have HF:Hid (found ys=fin ys f (ss.map Sq.ct)∧q=n):=⟨HDN.out f q _ HS.out.1 hlt,by omega⟩
   have HFQ:=HFW.out f q ss HS.out.1
   have hnq:(n:Int)≤(q:Int):=by omega
   by_cases hfn:f<n
   ·have hfnI:(f:Int)<(n:Int):=by omega
    obtain ⟨b1,o1,ha,hbl,hbc⟩:=HBY.out.1.2 (by rw [HL.out.1];omega)
    have HC4:=HCB.out wr HB.out.2 b1 o1 ha f n (by omega) nl
    subst ha
    have hcf:¬c=f:=by omega
    clear hbl hbc
    go_wp2_with fail
    refine HC4.mono ?_
    clear HC4
    rintro e w5 ⟨⟨v5,rfl,hov5⟩,hb5⟩
    obtain ⟨ua,uc,rfl,hm5⟩:=hov5.mine
    have hz4:=hsz
    have hz5:=hb5.size
    have hA5:Below w5.heap.size w5 (w5.alloc (Obj.cells #[.slice ua (cutL ys f n).length uc,.int .i64 0,.int .i64 0] 37)):=bAw
    have HO5:Hid (OVq (w5.alloc (Obj.cells #[.slice ua (cutL ys f n).length uc,.int .i64 0,.int .i64 0] 37)) w1.heap.size (.slice oa ss.length oc) ss):=(HO.out.1.below hb5).below hA5
    have hd6:DeepQ w5 w1.heap.size (ss++[⟨ua,uc,cutL ys f n,0,0⟩]):=(HO.out.2.below hb5).snoc (hm5.mono hz4 nl) (fun z hz k hk hk2=>by
     have h1:=((HO.out.2.mine z hz).rowB hk).2
     have h2:=(hm5.rowB hk2).1
     omega)
    have HD6:Hid (DeepQ (w5.alloc (Obj.cells #[.slice ua (cutL ys f n).length uc,.int .i64 0,.int .i64 0] 37)) w1.heap.size (ss++[⟨ua,uc,cutL ys f n,0,0⟩])∧Below w1.heap.size w1 (w5.alloc (Obj.cells #[.slice ua (cutL ys f n).length uc,.int .i64 0,.int .i64 0] 37))):=⟨hd6.below hA5,(HB.out.1.trans (hb5.mono hz4)).trans (hA5.mono (by omega))⟩
    have HFN:Hid (found ys=ss.map Sq.ct++[(cutL ys f n,0,0)]∧Few4 (ss++[⟨ua,uc,cutL ys f n,0,0⟩])):=by
     refine ⟨?_,HFQ.2 _ (by show (cutL ys f n).length≤64;rw [HCL.out f n (by omega) nl];omega) ⟨by simp,by simp⟩ ⟨by simp,by simp⟩⟩
     rw [HF.out.1]
     unfold fin
     rw [HL.out.1,if_pos hfn]
    clear hov5 hm5 hd6 hA5 HFQ
    go_wp2_with (at_builtin;(refine wpList_append_sq rfl (.tmp 58) (.tmp 64) rfl w1.heap.size (.slice oa ss.length oc) ss rfl HO5.out w5.heap.size 1 ⟨ua,uc,cutL ys f n,0,0⟩ rfl (newsQ w5 ua (cutL ys f n).length uc 0 0 _ _ rfl rfl rfl rfl rfl) (by omega) (by simp;omega) ?_);intro v6 w6 hown hgrow)
    exact bodyPost_ret (v:=.tuple #[v6,.bool true]) (by simp [results,Tryz.results10,go_sem]) rfl ⟨⟨v6,rfl,ss++[⟨ua,uc,cutL ys f n,0,0⟩],by rw [HFN.out.1,List.map_append];rfl,hown.weak hsz1,(HD6.out.1.grown HO5.out hgrow).weak hsz1,HFN.out.2⟩,H1.out.2.2.trans ((appQ_below HD6.out.2 HD6.out.2.size HO5.out hgrow).mono hsz1)⟩
   ·have hfnI:¬(f:Int)<(n:Int):=by omega
    have HFN:Hid (found ys=ss.map Sq.ct∧Few4 ss):=by
     refine ⟨?_,HFQ.1⟩
     rw [HF.out.1]
     unfold fin
     rw [HL.out.1,if_neg hfn]
    clear HFQ
    go_wp2
    exact bodyPost_ret (v:=.tuple #[.slice oa ss.length oc,.bool true]) (by simp [results,Tryz.results10,go_sem]) rfl ⟨⟨_,rfl,ss,HFN.out.1.symm,HO.out.1.weak hsz1,HO.out.2.weak hsz1,HFN.out.2⟩,HB.out.2⟩
def RD (w:World) (B R:Nat) (a:Option Addr) (L cap n p:Nat):Prop:=w.heap[R]?=some (.cells #[.slice a L cap,.int .i64 n,.int .i64 p] 109 (0,0))∧B≤R∧B≤w.heap.size
theorem cellRR {w:World} {R j:Nat} {cur:Array Value} {T:TypeId} {v:Value} (hR:w.heap[R]?=some (.cells cur T (0,0))) (hv:cur[j]?=some v):w.cell? ⟨R,j,none⟩=some v:=by
 rw [cell_of_row w R j cur T (0,0) hR];exact hv
theorem RD.frz {w:World} {B R:Nat} {a:Option Addr} {L cap n p:Nat} (h:RD w B R a L cap n p) (j:Nat):w.frozen? ⟨R,j,none⟩=false:=frozen_of_row w R j _ _ h.1
theorem RD.yes {w:World} {B R:Nat} {a:Option Addr} {zs:List Int} {cap n p:Nat} (h:RD w B R a zs.length cap n p) (v:Nat) (width:Int) (hn:n≤4104) (hb:Byt w a zs) (hz:zs=enc n v) (k1:0≤width) (k2:width≤30) (k4:(p:Int)≤(n:Int)-width) :
  Calls Tryz.prog 93 #[.pointer (some ⟨R,0,none⟩),.int .i64 width] w fun e w'=>
   e=.returned (.tuple #[.int .i64 (v / 2 ^ p % 2 ^ width.toNat:Nat),.nilIface])∧RD w' B R a zs.length cap n (p+width.toNat)∧Only (fun k=>k=R) w w'∧Below B w w':=by
 refine (get_yes R a cap zs n v p width w hn hb hz (cellRR (j:=0) h.1 rfl) (cellRR (j:=1) h.1 rfl) (cellRR (j:=2) h.1 rfl) (h.frz 2) k1 k2 (by omega) k4).mono ?_
 rintro e w' ⟨rfl,m,rfl⟩
 have hR:(w.drewN m).heap[R]?=some (.cells #[.slice a zs.length cap,.int .i64 n,.int .i64 p] 109 (0,0)):=h.1
 have hO:Only (fun k=>k=R) w ((w.drewN m).setCell ⟨R,2,none⟩ (.int .i64 ((p:Int)+width))):=by
  have h0:Only (fun k=>k=R) w (w.drewN m):=Only.ofBelow (S:=fun k=>k=R) (B:=w.heap.size) ⟨rfl,rfl,rfl,Nat.le_refl _,fun _ _=>rfl⟩ nl
  exact Only.setCell h0 (p:=⟨R,2,none⟩) (.inl rfl) _
 refine ⟨by simp,⟨?_,h.2.1,Nat.le_trans h.2.2 hO.size⟩,hO,hO.below h.2.2 (fun k hk=>by rw [hk];exact h.2.1)⟩
 rw [heap_setCell_same _ R 2 _ _ _ hR]
 have e:((p:Int)+width)=((p+width.toNat:Nat):Int):=by omega
 rw [e]
 simp
theorem RD.no {w:World} {B R:Nat} {a:Option Addr} {zs:List Int} {cap n p:Nat} (h:RD w B R a zs.length cap n p) (width:Int) (hn:n≤4104) (hp:p≤4104) (s0:Sent w 5) (s2:Sent w 11) (k4:width<0∨30<width∨(n:Int)-width<p) :
  Calls Tryz.prog 93 #[.pointer (some ⟨R,0,none⟩),.int .i64 width] w fun e w'=>(∃ T x,e=.returned (.tuple #[.int .i64 0,.iface T x]))∧∃ m,w'=w.drewN m:=
 get_no R a cap zs n p width w hn (by omega) (cellRR (j:=0) h.1 rfl) (cellRR (j:=1) h.1 rfl) (cellRR (j:=2) h.1 rfl) s0 s2 (by omega)
theorem RD.only {w w':World} {B R:Nat} {a:Option Addr} {L cap n p:Nat} {S:Nat→Prop} (h:RD w B R a L cap n p) (ho:Only S w w') (hs:¬S R):RD w' B R a L cap n p:=
 ⟨(ho.block R (Array.getElem?_eq_some_iff.1 h.1).1 hs).trans h.1,h.2.1,Nat.le_trans h.2.2 ho.size⟩
def KeepT (R:Nat) (w w':World):Prop:=∀ (g:Nat) (cur:Array Value) (T:TypeId),w.heap[g]?=some (.cells cur T (0,0))→T≠5→g≠R→w'.heap[g]?=some (.cells cur T (0,0))
theorem SI.putK {w:World} {B R n V:Nat} (h:SI w B R n V) (x width:Nat) (h2:width≤30) (hxw:x<2 ^ width) (hn:n≤4096) :
  Calls Tryz.prog 52 #[.pointer (some ⟨R,0,none⟩),.int .i64 (x:Int),.int .i64 (width:Int)] w fun e w'=>e=.returned (.tuple #[])∧SI w' B R (n+width) (V+x*2 ^ n)∧Below B w w'∧KeepT R w w':=by
 obtain ⟨v,hR,hv,hV,hBR,hB⟩:=h
 have hp:2 ^ width≤2 ^ 30:=Nat.pow_le_pow_right (by omega) h2
 refine (l1put_any R B v n V x width w hR hv hV hB (by omega) (by omega) (by omega) (by omega) (by omega)).mono ?_
 rintro e w' ⟨rfl,v',hR',hv',ho,_⟩
 simp only [Int.toNat_natCast] at hR' hv'
 rw [Nat.mod_eq_of_lt hxw] at hv'
 have hb:Below B w w':=ho.below hB (fun k hk=>by
  rcases hk with hk | hk
  ·omega
  ·exact hv.blk hk)
 refine ⟨rfl,⟨v',hR',hv',put_lt n V width x hV hxw,hBR,Nat.le_trans hB hb.size⟩,hb,fun g cur T hg hT hgR=>?_⟩
 refine (ho.block g (Array.getElem?_eq_some_iff.1 hg).1 ?_).trans hg
 rintro (hk | hk)
 ·exact hgR hk
 ·exact hv.neP hk hg hT rfl
theorem WI.putK {w:World} {B R n V:Nat} (h:WI w B R n V) (x width:Nat) (h2:width≤30) (hxw:x<2 ^ width) (h3:n+width≤4096) :
  Calls Tryz.prog 79 #[.pointer (some ⟨R,0,none⟩),.int .i64 (x:Int),.int .i64 (width:Int)] w fun e w'=>e=.returned .nilIface∧WI w' B R (n+width) (V+x*2 ^ n)∧Below B w w'∧KeepT R w w':=by
 obtain ⟨v,hR,hv,hV,hBR,hB⟩:=h
 have hxi:(x:Int)<2 ^ ((width:Int)).toNat:=by
  have e:((2:Int) ^ width)=((2 ^ width:Nat):Int):=by simp
  rw [Int.toNat_natCast,e]
  exact Int.ofNat_lt.2 hxw
 refine (wput_yes R B v n V x width 4096 w hR hv hV hB (by omega) (by omega) (by omega) hxi (by omega) (by omega) (by omega)).mono ?_
 rintro e w' ⟨rfl,v',hR',hv',ho,_⟩
 have hb:Below B w w':=ho.below hB (fun k hk=>by
  rcases hk with hk | hk
  ·omega
  ·exact hv.blk hk)
 simp only [Int.toNat_natCast] at hR' hv'
 refine ⟨rfl,⟨v',hR',hv',put_lt n V width x hV hxw,hBR,Nat.le_trans hB hb.size⟩,hb,fun g cur T hg hT hgR=>?_⟩
 refine (ho.block g (Array.getElem?_eq_some_iff.1 hg).1 ?_).trans hg
 rintro (hk | hk)
 ·exact hgR hk
 ·exact hv.neP hk hg hT rfl
theorem OVI.keepT {R:Nat} {w w':World} {B:Nat} {v:Value} {zs:List Int} (h:OVI w B v zs) (hk:KeepT R w w') (hR:v.ownBlock≠some R):OVI w' B v zs:=by
 refine ⟨⟨h.1.1,?_⟩,h.2⟩
 rcases h.1.2 with h' | ⟨g,cap,cur,h',hg,hh,r⟩
 ·exact .inl h'
 ·exact .inr ⟨g,cap,cur,h',hg,hk g cur _ hh (by decide) (fun e=>hR (by rw [h',←e];rfl)),r⟩
theorem SI.grownI {w w':World} {B R n V:Nat} {v:Value} {zs:List Int} (h:SI w B R n V) (ho:OVI w B v zs) (hg:w.grownBy w' v.ownBlock):SI w' B R n V:=by
 obtain ⟨u,h1,h2,h3,h4,h5⟩:=h
 refine ⟨u,grown_blkI hg h1 (ho.blk_ne h1 (by decide)),⟨⟨h2.1.1,?_⟩,h2.2⟩,h3,h4,Nat.le_trans h5 hg.size⟩
 rcases h2.1.2 with h' | ⟨g,cap,cur,h',hgg,hh,r⟩
 ·exact .inl h'
 ·exact .inr ⟨g,cap,cur,h',hgg,grown_blkI hg hh (ho.blk_ne hh (by decide)),r⟩
theorem SI.setOther {w:World} {B R n V:Nat} (h:SI w B R n V) {P:Nat} {cur:Array Value} {T:TypeId} (hP:w.heap[P]?=some (.cells cur T (0,0))) (hT:T≠5) (hPR:P≠R) (j:Nat) (x:Value):SI (w.setCell ⟨P,j,none⟩ x) B R n V:=by
 have ho:Only (fun b=>b=P) w (w.setCell ⟨P,j,none⟩ x):=Only.setCell (Only.refl (fun b=>b=P) w) (p:=⟨P,j,none⟩) (.inl rfl) _
 obtain ⟨u,h1,h2,h3,h4,h5⟩:=h
 refine ⟨u,(ho.block R (Array.getElem?_eq_some_iff.1 h1).1 (fun e=>hPR e.symm)).trans h1,⟨⟨h2.1.1,?_⟩,h2.2⟩,h3,h4,Nat.le_trans h5 ho.size⟩
 rcases h2.1.2 with h' | ⟨g,cap,cur',h',hgg,hh,r⟩
 ·exact .inl h'
 ·refine .inr ⟨g,cap,cur',h',hgg,(ho.block g (Array.getElem?_eq_some_iff.1 hh).1 (fun e=>?_)).trans hh,r⟩
  subst e
  rw [hP] at hh
  simp at hh
  exact hT hh.2
theorem OVI.setOther {w:World} {B:Nat} {v:Value} {zs:List Int} (h:OVI w B v zs) {P:Nat} {cur:Array Value} {T:TypeId} (hP:w.heap[P]?=some (.cells cur T (0,0))) (hT:T≠3) (j:Nat) (x:Value):OVI (w.setCell ⟨P,j,none⟩ x) B v zs:=by
 have ho:Only (fun b=>b=P) w (w.setCell ⟨P,j,none⟩ x):=Only.setCell (Only.refl (fun b=>b=P) w) (p:=⟨P,j,none⟩) (.inl rfl) _
 refine ⟨⟨h.1.1,?_⟩,h.2⟩
 rcases h.1.2 with h' | ⟨g,cap,cur',h',hg,hh,r⟩
 ·exact .inl h'
 ·refine .inr ⟨g,cap,cur',h',hg,(ho.block g (Array.getElem?_eq_some_iff.1 hh).1 (fun e=>?_)).trans hh,r⟩
  subst e
  rw [hP] at hh
  simp at hh
  exact hT hh.2
structure SyS (w:World) (B P R:Nat) (st:SyT):Prop where
 box:∃ a c,w.heap[P]?=some (.cells #[.slice a st.1.length c] 38 (0,0))∧OVI w B (.slice a st.1.length c) st.1
 si:SI w B R st.2.1 st.2.2
 BP:B≤P
theorem SyS.ne {w:World} {B P R:Nat} {st:SyT} (h:SyS w B P R st):P≠R:=by
 obtain ⟨a,c,h1,_⟩:=h.box
 obtain ⟨v,h2,_⟩:=h.si
 rintro rfl
 rw [h1] at h2
 simp at h2
theorem SyS.put {w w':World} {B P R:Nat} {st:SyT} {n V:Nat} (h:SyS w B P R st) (hs:SI w' B R n V) (hk:KeepT R w w'):SyS w' B P R (st.1,n,V):=by
 obtain ⟨a,c,h1,h2⟩:=h.box
 refine ⟨⟨a,c,hk P _ _ h1 (by decide) h.ne,h2.keepT hk (fun e=>?_)⟩,hs,h.BP⟩
 obtain ⟨v,h3,_⟩:=h.si
 exact h2.blk_ne h3 (by decide) e.symm
theorem SyS.app {w w4:World} {B P R:Nat} {st:SyT} {a a4:Option Addr} {c c4:Nat} {z:Int} (h:SyS w B P R st) (hP:w.heap[P]?=some (.cells #[.slice a st.1.length c] 38 (0,0))) (ho:OVI w B (.slice a st.1.length c) st.1) (o:Obj) (hov:OVI w4 B (.slice a4 (st.1.length+1) c4) (st.1++[z])) (hg:(w.alloc o).grownBy w4 (Value.slice a st.1.length c).ownBlock) :
  w4.heap[P]?=some (.cells #[.slice a st.1.length c] 38 (0,0))∧SyS (w4.setCell ⟨P,0,none⟩ (.slice a4 (st.1.length+1) c4)) B P R (st.1++[z],st.2.1,st.2.2)∧Below B w (w4.setCell ⟨P,0,none⟩ (.slice a4 (st.1.length+1) c4)):=by
 have hA:Below w.heap.size w (w.alloc o):=(Below.refl _ _).alloc nl o
 have hoA:OVI (w.alloc o) B (.slice a st.1.length c) st.1:=ho.below hA
 have hPA:(w.alloc o).heap[P]?=some (.cells #[.slice a st.1.length c] 38 (0,0)):=(hA.block P (Array.getElem?_eq_some_iff.1 hP).1).trans hP
 have hP4:=grown_blkI hg hPA (hoA.blk_ne hPA (by decide))
 have hs4:=(h.si.stay hA).grownI hoA hg
 have hB:B≤w.heap.size:=by obtain ⟨v,_,_,_,_,h5⟩:=h.si;exact h5
 refine ⟨hP4,⟨⟨a4,c4,?_,?_⟩,hs4.setOther hP4 (by decide) h.ne 0 _,h.BP⟩,?_⟩
 ·rw [List.length_append,List.length_singleton,heap_setCell_same _ P 0 _ _ _ hP4]
  simp
 ·rw [List.length_append,List.length_singleton]
  exact hov.setOther hP4 (by decide) 0 _
 ·exact (((Below.refl B w).alloc hB o).grown hg (by simp;omega) (fun k hk=>ho.blk hk)).setCell (p:=⟨P,0,none⟩) h.BP _
theorem l5letter_any (B P R:Nat) (z:Int) (st:SyT) (w:World) (h:SyS w B P R st) (hz:0≤z∧z≤255) (hN:st.2.1≤4000) (hl:st.1.length≤1000) :
  Calls Tryz.prog 68 #[.pointer (some ⟨P,0,none⟩),.pointer (some ⟨R,0,none⟩),.int .u8 z] w fun e w'=>e=.returned (.tuple #[])∧SyS w' B P R (putL st z)∧Below B w w':=by
 obtain ⟨i0,hi,hz0,hz1,hz2⟩:=info_parts Tryz.infoI64
 obtain ⟨a,c,hP,ho⟩:=h.box
 have HS:Hid (SyS w B P R st∧w.heap[P]?=some (.cells #[.slice a st.1.length c] 38 (0,0))∧OVI w B (.slice a st.1.length c) st.1):=⟨h,hP,ho⟩
 have c0:w.cell? ⟨P,0,none⟩=some (.slice a st.1.length c):=cellRR (j:=0) hP rfl
 have hB:B≤w.heap.size:=by obtain ⟨v,_,_,_,_,h5⟩:=h.si;exact h5
 have hu:=ho.1
 obtain ⟨ts,n,V⟩:=st
 simp only at *
 clear h hP ho
 go_enter Tryz.func68,Tryz.ntmps68
 have HAND:Hid ((((z % 16).toNat:Nat):Int)=z % 16∧(z % 16).toNat<2 ^ 4):=⟨by omega,by omega⟩
 go_wp2_with (at_builtin;(refine wpList_append_lies _ rfl (.tmp 9) (.tmp 13) 38 rfl B 3 i0 (.int .i64 0) 1 8 Tryz.underlying38 hi hz0 hz1 hz2 rfl (by decide) (.slice a ts.length c) ts.length (ts.map (Value.int .i64)) rfl (hu.alloc _) ⟨w.heap.size,0,none⟩ 1 1 [.int .i64 (z / 16)] rfl rfl (by intro j y hj;match j,hj with | 0,hj=>(simp at hj;subst hj;simp [Addr.add])) (by intro y hy;simp at hy;subst hy;rfl) (by omega) (by unfold maxLen;omega) (by omega) (by simp;omega) _ rfl ?_);intro g cap1 w4 hown hgrow hat hlt1;have k4:=(HS.out.1.app HS.out.2.1 HS.out.2.2 _ (OVI.app rfl HS.out.2.2.2 (by omega) hown) hgrow).1;have k0:=cellRR (j:=0) k4 rfl;have kf:=frozen_of_row w4 P 0 _ _ k4)
 have HS4:Hid _:=(HS.out.1.app HS.out.2.1 HS.out.2.2 _ (OVI.app rfl HS.out.2.2.2 (by omega) hown) hgrow).2
 clear hown hgrow hat hlt1 k4 k0 kf hu c0
 have HC:=HS4.out.1.si.putK (z % 16).toNat 4 (by omega) HAND.out.2 (by simp only;omega)
 rw [HAND.out.1] at HC
 refine HC.mono ?_
 clear HC
 rintro e w5 ⟨rfl,hs5,hb5,hk5⟩
 have HY:Hid (SyS w5 B P R (putL (ts,n,V) z)∧Below B w w5):=⟨HS4.out.1.put hs5 hk5,HS4.out.2.trans hb5⟩
 clear hs5 hb5 hk5 HS4
 go_wp2
 go_end0
 exact ⟨rfl,HY.out⟩
theorem l5class_any (n:Nat) (w:World) (h1:1≤n) (h2:n<256) :
  Calls Tryz.prog 84 #[.int .i64 (n:Nat)] w fun e w'=>e=.returned (.int .i64 (cl n:Nat))∧w'=w:=by
 have hc:=cl_fact h1 h2
 have HC:Hid (2 ^ cl n≤n∧n<2 ^ (cl n+1)):=⟨hc.1,hc.2.1⟩
 have hc7:=hc.2.2.1
 clear hc
 generalize cl n=m at *
 go_enter Tryz.func84,Tryz.ntmps84
 go_wp2
 go_loopw [3] (fun kv wr=>∃ k:Nat,k≤m∧kv=.int .i64 k∧wr=w) (fun kv _=>m-(intOf kv).toNat)
 case atStart=>exact ⟨0,Nat.zero_le _,rfl,rfl⟩
 case round=>
  obtain ⟨k,hk,rfl,rfl⟩:=hrel
  by_cases hlt:k<m
  ·have hq:(0:Int)<(n:Int) / 2 ^ (k+1):=by
    have h9:2 ^ (k+1)≤2 ^ m:=Nat.pow_le_pow_right (by omega) (by omega)
    have h8:1≤n / 2 ^ (k+1):=(Nat.le_div_iff_mul_le (Nat.two_pow_pos _)).2 (by have:=HC.out.1;omega)
    have e:((n:Int) / 2 ^ (k+1))=((n / 2 ^ (k+1):Nat):Int):=by simp
    rw [e]
    omega
   go_wp2
   go_roundw
   case rel=>exact ⟨k+1,by omega,by go_num,by simp⟩
   case measure=>simp [intOf];omega
  ·have hkm:k=m:=by omega
   subst hkm
   have hq:¬(0:Int)<(n:Int) / 2 ^ (k+1):=by
    have h8:n / 2 ^ (k+1)=0:=Nat.div_eq_of_lt HC.out.2
    have e:((n:Int) / 2 ^ (k+1))=((n / 2 ^ (k+1):Nat):Int):=by simp
    rw [e]
    omega
   go_wp2
   go_ret
   exact ⟨rfl,rfl⟩
theorem wpowS (k:Nat) (h:k≤12):wrap64 (2 ^ k)=((2 ^ k:Nat):Int):=by
 have h2:2 ^ k≤2 ^ 12:=Nat.pow_le_pow_right (by omega) h
 have e:((2:Int) ^ k)=((2 ^ k:Nat):Int):=by simp
 rw [e]
 generalize 2 ^ k=P at *
 exact IntWalk.wrap64_in _ (by omega)
theorem l5number_any (B P R base m:Nat) (st:SyT) (w:World) (h:SyS w B P R st) (hm:1≤m∧m<256) (hba:base≤28) (hN:st.2.1≤4000) (hl:st.1.length≤1000) :
  Calls Tryz.prog 69 #[.pointer (some ⟨P,0,none⟩),.pointer (some ⟨R,0,none⟩),.int .i64 (base:Nat),.int .i64 (m:Nat)] w fun e w'=>e=.returned (.tuple #[])∧SyS w' B P R (putN base m st)∧Below B w w':=by
 obtain ⟨i0,hi,hz0,hz1,hz2⟩:=info_parts Tryz.infoI64
 obtain ⟨a,c,hP,ho⟩:=h.box
 have HS:Hid (SyS w B P R st∧w.heap[P]?=some (.cells #[.slice a st.1.length c] 38 (0,0))∧OVI w B (.slice a st.1.length c) st.1):=⟨h,hP,ho⟩
 have c0:w.cell? ⟨P,0,none⟩=some (.slice a st.1.length c):=cellRR (j:=0) hP rfl
 have hB:B≤w.heap.size:=by obtain ⟨v,_,_,_,_,h5⟩:=h.si;exact h5
 have hu:=ho.1
 obtain ⟨ts,n,V⟩:=st
 simp only at *
 have hc:=cl_fact hm.1 hm.2
 have HCL:=l5class_any m w hm.1 hm.2
 have HCF:Hid (2 ^ cl m≤m∧m<2 ^ (cl m+1)∧∃ k,cl m=k):=⟨hc.1,hc.2.1,_,rfl⟩
 have hc7:=hc.2.2.1
 obtain ⟨k,hk⟩:=HCF.out.2.2
 rw [hk] at HCL hc7
 have HK:Hid (cl m=k∧2 ^ k≤m∧m-2 ^ k<2 ^ k):=by
  refine ⟨hk,by rw [←hk];exact hc.1,?_⟩
  have h9:=hc.2.1
  rw [hk,Nat.pow_succ] at h9
  have h8:=hc.1
  rw [hk] at h8
  omega
 have HW:Hid (wrap64 ((m:Int)-wrap64 (2 ^ k))=((m-2 ^ k:Nat):Int)∧((base:Nat):Int)+(k:Nat)=((base+k:Nat):Int)):=by
  refine ⟨?_,by omega⟩
  rw [wpowS k (by omega)]
  have h9:=HK.out.2.1
  generalize 2 ^ k=Q at *
  rw [IntWalk.wrap64_in _ (by omega)]
  omega
 clear h hP ho hc hk HCF
 go_enter Tryz.func69,Tryz.ntmps69
 go_wp2_with fail
 refine HCL.mono ?_
 clear HCL
 rintro e w9 ⟨rfl,hw9⟩
 rw [hw9]
 clear hw9
 go_wp2_with (at_builtin;(refine wpList_append_lies _ rfl (.tmp 14) (.tmp 18) 38 rfl B 3 i0 (.int .i64 0) 1 8 Tryz.underlying38 hi hz0 hz1 hz2 rfl (by decide) (.slice a ts.length c) ts.length (ts.map (Value.int .i64)) rfl (hu.alloc _) ⟨w.heap.size,0,none⟩ 1 1 [.int .i64 ((base:Int)+(k:Nat))] rfl rfl (by intro j y hj;match j,hj with | 0,hj=>(simp at hj;subst hj;simp [Addr.add])) (by intro y hy;simp at hy;subst hy;rfl) (by omega) (by unfold maxLen;omega) (by omega) (by simp;omega) _ rfl ?_);intro g cap1 w4 hown hgrow hat hlt1;have k4:=(HS.out.1.app HS.out.2.1 HS.out.2.2 _ (OVI.app rfl HS.out.2.2.2 (by omega) hown) hgrow).1;have k0:=cellRR (j:=0) k4 rfl;have kf:=frozen_of_row w4 P 0 _ _ k4)
 have HS4:Hid _:=(HS.out.1.app HS.out.2.1 HS.out.2.2 _ (OVI.app rfl HS.out.2.2.2 (by omega) hown) hgrow).2
 clear hown hgrow hat hlt1 k4 k0 kf hu c0
 rw [HW.out.2] at HS4
 have HC:=HS4.out.1.si.putK (m-2 ^ k) k (by omega) HK.out.2.2 (by simp only;omega)
 rw [HW.out.1]
 refine HC.mono ?_
 clear HC
 rintro e w5 ⟨rfl,hs5,hb5,hk5⟩
 have HY:Hid (SyS w5 B P R (putN base m (ts,n,V))∧Below B w w5):=by
  unfold putN
  rw [HK.out.1]
  exact ⟨HS4.out.1.put hs5 hk5,HS4.out.2.trans hb5⟩
 clear hs5 hb5 hk5 HS4
 go_wp2
 go_end0
 exact ⟨rfl,HY.out⟩
end Go.Proofs.YtfeokafkhnbdiaaGreatDoor
