/- Lemmas on the way. -/
import Derived.Test.YtfeokafkhnbdiaaGreatDoorUsP
import Derived.Test.YtfeokafkhnbdiaaGreatDoorPcA
import Derived.Test.YtfeokafkhnbdiaaGreatDoorEnF
import Derived.Deep.RegionHeld3
import Derived.Test.YtfeokafkhnbdiaaGreatDoorPcN
import Derived.Test.YtfeokafkhnbdiaaGreatDoorCut
import Derived.Test.YtfeokafkhnbdiaaGreatDoorFnD
import Derived.Test.YtfeokafkhnbdiaaGreatDoorSyms
import Derived.Maps.GroupsBeside
import Derived.OpenShut
import Derived.ChangeSlices
set_option maxRecDepth 20000
set_option maxHeartbeats 16000000
namespace Go.Proofs.YtfeokafkhnbdiaaGreatDoor
open Go.RowKit
set_option linter.unusedVariables false
theorem heap_new (w:World) (o:Obj):(w.alloc o).heap[w.heap.size]?=some o:=by simp only [World.alloc,Array.getElem?_push_size]
theorem run_append_byt (w:World) (ty:TypeId) (B:Nat) (v:Value) (zs:List Int) (hown:OVB w B v zs) (xa:Option Addr) (c:Nat) (ys:List Int) (hy:Byt w xa ys) (hb1:zs.length+ys.length≤1000000) (hbase:B≤w.heap.size) :
  ∃ v' w',(Builtin.append_ #[22,22] ty #[v,.slice xa ys.length c]).run Tryz.prog w=.ok v' w'∧OVB w' B v' (zs++ys)∧w.grownBy w' v.ownBlock:=by
 obtain ⟨i0,hi,hz0,hz1,hz2⟩:=info_parts Tryz.infoU8
 have hr:∀ z ∈ zs++ys,0≤z∧z≤255:=fun z hz=>(List.mem_append.1 hz).elim (hown.2 z) (hy.1 z)
 cases xa with
 | none=>
  have hy0:ys=[]:=by
   rcases Nat.eq_zero_or_pos ys.length with h0 | h0
   ·exact List.eq_nil_of_length_eq_zero h0
   ·obtain ⟨b,off,e,_⟩:=hy.2 h0
    cases e
  subst hy0
  exact ⟨v,w,run_append_none (P:=Tryz.prog) w 22 ty 5 i0 Tryz.underlying22 hi B 1 zs.length v _ hown.1 c,by simpa using hown,World.grownBy.refl w _⟩
 | some ad=>
  have hnews:∀ j u,(ys.map (Value.int .u8))[j]?=some u→w.cell? (ad.add j)=some u:=by
   intro j u hu
   have hj:j<ys.length:=by
    rcases Nat.lt_or_ge j ys.length with h | h
    ·exact h
    ·rw [List.getElem?_eq_none (by simpa using h)] at hu;cases hu
   obtain ⟨b,off,e,_,hc⟩:=hy.2 (by omega)
   obtain rfl:ad=⟨b,off,none⟩:=by simpa using e
   exact news_of hc j u hu
  obtain ⟨v',w',hrun,h2,h3,_,_⟩:=run_append_own_at (P:=Tryz.prog) w B 22 ty 5 i0 (.int .u8 0) 1 1 Tryz.underlying22 hi hz0 hz1 hz2 rfl (by decide) v zs.length _ hown.1 ad ys.length c (ys.map (Value.int .u8)) (by simp) hnews (oneCells ys) (by unfold maxLen;omega) (by omega) hbase
  refine ⟨v',w',hrun,⟨?_,hr⟩,h3⟩
  rw [List.length_append,List.map_append]
  exact h2
theorem wanted_step {P:Program} {ops:Array Oper} {o:Oper} {a:Act} {w:World} {K:Act→World→Prop} {Q:Exit→Act→World→Prop} {E:Prop} (hg:o.guard=none) (h:Oper.wp P o a w K Q) :
  if Region.wanted o (yielded ops a.tmps)=true then Oper.wp P o a w K Q else E:=by
 rw [if_pos (by simp [Region.wanted,hg])]
 exact h
theorem OVB.empty (w:World) (B:Nat) (hB:B≤w.heap.size):OVB (w.alloc (Obj.cells #[] 5)) B (.slice (some ⟨w.heap.size,0,none⟩) 0 0) []:=
 ⟨⟨rfl,.inr ⟨w.heap.size,0,#[],rfl,hB,heap_new w _,Nat.le_refl _,by simp,rfl,rfl⟩⟩,by simp⟩
theorem wp_append_byt {o:Oper} {a:Act} {w:World} {K:Act→World→Prop} {Q:Exit→Act→World→Prop} (s x:Operand) (ho:o.op=.call { callee:=.builtin .append,args:=#[s,x],argTypes:=#[22,22] })
  (B:Nat) (v:Value) (zs:List Int) (hs:a.eval s=v) (hown:OVB w B v zs) (xa:Option Addr) (c:Nat) (ys:List Int) (hx:a.eval x=.slice xa ys.length c) (hy:Byt w xa ys) (hb1:zs.length+ys.length≤1000000) (hbase:B≤w.heap.size)
  (h:∀ v' w',OVB w' B v' (zs++ys)→w.grownBy w' v.ownBlock→K (a.put o.dst v') w'):o.wp Tryz.prog a w K Q:=by
 obtain ⟨v',w',hr,h2,h3⟩:=run_append_byt w o.type B v zs hown xa c ys hy hb1 hbase
 unfold Oper.wp execOp
 simp only [ho,resolve,invoke,builtin,Sem.run_bind,Sem.run_pure,Result.andThen_ok,List.map_toArray,List.map_cons,List.map_nil,hs,hx,hr]
 exact h v' w' h2 h3
set_option linter.unusedSimpArgs false
def Few4 (ss:List Sq):Prop:=ss.length≤65∧∀ s ∈ ss,s.ls.length≤64∧(0≤s.n∧s.n≤64)∧(0≤s.d∧s.d≤64)
def FnA (w:World) (B:Nat) (v:Value) (cs:List (List Int × Int × Int)):Prop:=∃ ss:List Sq,ss.map Sq.ct=cs∧OVq w B v ss∧DeepQ w B ss∧Few4 ss
theorem St.few {ys:List Int} {f q:Nat} {ss:List Sq} (h:St ys f q (ss.map Sq.ct)) (hn:ys.length≤64):Few4 ss:=by
 have h1:=h.cl
 have h2:=h.ql
 rw [List.length_map] at h1
 refine ⟨by omega,fun s hs=>?_⟩
 obtain ⟨p1,n,d,p2,p3,p4⟩:=h.parts s.ct (List.mem_map_of_mem hs)
 have e1:s.ls.length≤ys.length:=p1
 have e2:s.n=n:=congrArg Prod.fst p2
 have e3:s.d=d:=congrArg Prod.snd p2
 omega
theorem Few4.snoc {ys:List Int} {f q:Nat} {ss:List Sq} (h:St ys f q (ss.map Sq.ct)) (hn:ys.length≤64) {s:Sq} (h1:s.ls.length≤64) (h2:0≤s.n∧s.n≤64) (h3:0≤s.d∧s.d≤64):Few4 (ss++[s]):=by
 have h4:=h.few hn
 have h5:=h.cl
 have h6:=h.ql
 rw [List.length_map] at h5
 refine ⟨by rw [List.length_append];simp;omega,fun x hx=>?_⟩
 rcases List.mem_append.1 hx with hx | hx
 ·exact h4.2 x hx
 ·obtain rfl:x=s:=by simpa using hx
  exact ⟨h1,h2,h3⟩
theorem Few4.rng {ss:List Sq} (h:Few4 ss):∀ s ∈ ss,rI s.n∧rI s.d∧s.ls.length≤maxLen:=fun s hs=>by
 obtain ⟨h1,h2,h3⟩:=h.2 s hs
 exact ⟨⟨by omega,by omega⟩,⟨by omega,by omega⟩,by unfold maxLen;omega⟩
theorem l4find_any (a:Option Addr) (c:Nat) (ys:List Int) (w:World) (hb:Byt w a ys) (hn:ys.length≤64) :
  Calls Tryz.prog 71 #[.slice a ys.length c] w fun e w'=>(∃ v,e=.returned v∧FnA w' w.heap.size v (found ys))∧Below w.heap.size w w':=by
 have HBY:Hid (Byt w a ys∧True):=⟨hb,trivial⟩
 have HLO:Hid (∀ (W:World) (p:Nat),Below w.heap.size w W→p<ys.length→Calls Tryz.prog 85 #[.slice a ys.length c,.int .i64 p] W fun e w'=>e=.returned (.tuple #[.int .i64 (lz ys p).1,.int .i64 (lz ys p).2])∧Below W.heap.size W w'):=fun W p hW hp=>by
  rw [lz_at hp]
  exact l4longest_any a c ys p W (hb.below hW nl) hn hp
 have HLE:Hid (∀ q,q+(lz ys q).1≤max q ys.length∧(lz ys q).2≤q):=lz_le ys
 have HEN:Hid (∀ q,¬q<ys.length→(lz ys q).1=0):=fun q h=>by rw [lz_end h]
 have HRG:Hid (∀ q,q<ys.length→0≤ys.getD q 0∧ys.getD q 0≤255):=fun q h=>by
  rw [List.getD_eq_getElem?_getD,List.getElem?_eq_getElem h]
  exact hb.1 _ (List.getElem_mem h)
 have HCN:Hid (∀ f q,f≤q→q<ys.length→cutL ys f q++[ys.getD q 0]=cutL ys f (q+1)):=cutL_snoc ys
 have HCL:Hid (∀ f q,f≤q→q≤ys.length→(cutL ys f q).length=q-f):=cutL_len ys
 have HTW:Hid (∀ f q cs,St ys f q cs→q<ys.length→¬takes ys q→St ys f (q+1) cs):=fun f q cs h1 h2 h3=>h1.wait h2 h3
 have HTT:Hid (∀ f q cs,St ys f q cs→q<ys.length→takes ys q→St ys (q+(lz ys q).1) (q+(lz ys q).1) (cs++[(cutL ys f q,((lz ys q).1:Int),((lz ys q).2:Int))])):=fun f q cs h1 h2 h3=>h1.take h2 h3
 have HDN:Hid (∀ f q cs,St ys f q cs→¬q<ys.length→found ys=fin ys f cs):=fun f q cs h1 h2=>h1.done h2
 have HSR:Hid (∀ f q cs,St ys f q cs→f≤q∧q≤ys.length∧cs.length≤q):=fun f q cs h=>⟨h.fq,h.ql,h.cl⟩
 have HFW:Hid (∀ f q ss,St ys f q (ss.map Sq.ct)→Few4 ss∧∀ s:Sq,s.ls.length≤64→(0≤s.n∧s.n≤64)→(0≤s.d∧s.d≤64)→Few4 (ss++[s])):=fun f q ss h=>⟨h.few hn,fun s h1 h2 h3=>Few4.snoc h hn h1 h2 h3⟩
 have HST:Hid (St ys 0 0 []):=St.start ys
 clear hb
 generalize hL:ys.length=n at *
 have HL:Hid (ys.length=n∧True):=⟨hL,trivial⟩
 clear hL
 go_enter Tryz.func71,Tryz.ntmps71
 go_wp2
 go_loopw [3,4,5] (fun ov lv iv wr=>∃ (f q:Nat) (ss:List Sq) (ls:List Int),iv=.int .i64 q∧St ys f q (ss.map Sq.ct)∧ls=cutL ys f q∧OVB wr w.heap.size lv ls∧OVq wr w.heap.size ov ss∧DeepQ wr w.heap.size ss∧Aprt ss lv∧Below w.heap.size w wr) (fun _ _ iv _=>n-(intOf iv).toNat)
 case atStart=>exact ⟨0,0,[],[],rfl,HST.out,(cutL_nil ys 0).symm,OVB.nil _ _,OVq.nil _ _,DeepQ.nil _ _,Aprt.none _,Below.refl _ _⟩
 case round=>
  obtain ⟨f,q,ss,ls,rfl,hst,hls,hob,hoq,hdq,hap,hbel⟩:=hrel
  obtain ⟨la,lc,rfl⟩:=hob.form
  obtain ⟨oa,oc,rfl⟩:=hoq.form
  obtain ⟨hfq,hqn,hcl⟩:=HSR.out _ _ _ hst
  have hll:ls.length=q-f:=by rw [hls];exact HCL.out f q hfq hqn
  rw [List.length_map] at hcl
  have HS:Hid (St ys f q (ss.map Sq.ct)∧ls=cutL ys f q∧ls.length=q-f):=⟨hst,hls,hll⟩
  have HO:Hid (OVB wr w.heap.size (.slice la ls.length lc) ls∧OVq wr w.heap.size (.slice oa ss.length oc) ss∧DeepQ wr w.heap.size ss∧Aprt ss (.slice la ls.length lc)):=⟨hob,hoq,hdq,hap⟩
  have HB:Hid (Below w.heap.size w wr):=hbel
  have hsz:=hbel.size
  have hlq:ls.length≤q:=by omega
  have hsq:ss.length≤q:=hcl
  clear hst hls hob hoq hdq hap hbel hll hcl
  by_cases hlt:q<n
  ·have h1:=HLO.out wr q HB.out hlt
   have hle:=(HLE.out q).1
   have hld:=(HLE.out q).2
   obtain ⟨b1,o1,rfl,hbl,hbc⟩:=HBY.out.1.2 (by rw [HL.out.1];omega)
   have hz:=HRG.out q hlt
   have HCZ:Hid (∀ W,Below w.heap.size w W→W.cell? ⟨b1,o1+q,none⟩=some (.int .u8 (ys.getD q 0))):=fun W hW=>keep hW hbl (hbc q (by rw [HL.out.1];exact hlt))
   have HTQ:Hid (takes ys q↔0<(lz ys q).1∧(lz ys (q+1)).1≤(lz ys q).1):=Iff.rfl
   have HCQ:Hid (cutL ys f q++[ys.getD q 0]=cutL ys f (q+1)∧True):=⟨HCN.out f q hfq hlt,trivial⟩
   have HT2:Hid (takes ys q→St ys (q+(lz ys q).1) (q+(lz ys q).1) (ss.map Sq.ct++[(cutL ys f q,((lz ys q).1:Int),((lz ys q).2:Int))])):=fun h=>HTT.out f q _ HS.out.1 hlt h
   clear hbl hbc
   generalize ys.getD q 0=z at *
   generalize (lz ys q).1=x at *
   generalize (lz ys q).2=y at *
   have hxn:q+x≤n:=by omega
   go_wp2_with fail
   refine h1.mono ?_
   clear h1
   rintro e w1 ⟨rfl,hb1⟩
   have HB1:Hid (Below w.heap.size w w1):=HB.out.trans (hb1.mono hsz)
   have HO1:Hid (OVB w1 w.heap.size (.slice la ls.length lc) ls∧OVq w1 w.heap.size (.slice oa ss.length oc) ss∧DeepQ w1 w.heap.size ss∧Aprt ss (.slice la ls.length lc)):=⟨HO.out.1.below hb1,HO.out.2.1.below hb1,HO.out.2.2.1.below hb1,HO.out.2.2.2⟩
   have hsz1:=HB1.out.size
   clear hb1 HO HB hsz hle
   by_cases hx0:x=0
   ·subst hx0
    have hcz:=HCZ.out w1 HB1.out
    have HWT:Hid (St ys f (q+1) (ss.map Sq.ct)∧ls++[z]=cutL ys f (q+1)):=⟨HTW.out f q _ HS.out.1 hlt (fun h=>by have:=(HTQ.out.1 h).1;omega),by rw [HS.out.2.1];exact HCQ.out.1⟩
    go_wp2_with (at_builtin;(refine wpList_append_b1 rfl (.tmp 41) (.tmp 46) rfl w.heap.size (.slice la ls.length lc) ls rfl (HO1.out.1.alloc _) w1.heap.size 1 z rfl (by simp) hz (by omega) (by simp;omega) ?_);intro v4 w4 hown hgrow hat)
    have HO4:Hid (OVB w4 w.heap.size v4 (ls++[z])∧OVq w4 w.heap.size (.slice oa ss.length oc) ss∧DeepQ w4 w.heap.size ss∧Aprt ss v4):=by
     have hbA:Below w1.heap.size w1 (w1.alloc (Obj.cells #[.int .u8 z] 5)):=bAw
     exact ⟨hown,(HO1.out.2.1.below hbA).grownB (HO1.out.1.alloc _) hgrow,(HO1.out.2.2.1.below hbA).grownB HO1.out.2.2.2 hgrow,HO1.out.2.2.2.app HO1.out.2.2.1 hat (by simp)⟩
    have HB4:Hid (Below w.heap.size w w4):=(HB1.out.alloc HB1.out.size _).grown hgrow (by have:=HB1.out.size;simp;omega) (fun k hk=>(HO1.out.1.blk hk))
    clear hown hgrow hat hcz
    go_roundw
    case rel=>exact ⟨f,q+1,ss,ls++[z],by go_num,HWT.out.1,HWT.out.2,HO4.out.1,HO4.out.2.1,HO4.out.2.2.1,HO4.out.2.2.2,HB4.out⟩
    case measure=>simp [intOf];omega
   ·have hx1:(0:Int)<(x:Int):=by omega
    have hx2:0<x:=by omega
    by_cases hq1:q+1<n
    ·have hq1I:(q:Int)+1<(n:Int):=by omega
     have h2:=HLO.out w1 (q+1) HB1.out hq1
     have e1:((q+1:Nat):Int)=(q:Int)+1:=by omega
     rw [e1] at h2
     obtain ⟨m,hm⟩:∃ m,m=(lz ys (q+1)).1:=⟨_,rfl⟩
     rw [←hm] at h2
     have HM:Hid (m=(lz ys (q+1)).1∧True):=⟨hm,trivial⟩
     have hmb:m≤64:=by have:=(HLE.out (q+1)).1;omega
     generalize (lz ys (q+1)).2=md at *
     clear hm e1
     go_wp2_with fail
     refine h2.mono ?_
     clear h2
     rintro e w2 ⟨rfl,hb2⟩
     have HB2:Hid (Below w.heap.size w w2):=HB1.out.trans (hb2.mono hsz1)
     have HO2:Hid (OVB w2 w.heap.size (.slice la ls.length lc) ls∧OVq w2 w.heap.size (.slice oa ss.length oc) ss∧DeepQ w2 w.heap.size ss∧Aprt ss (.slice la ls.length lc)):=⟨HO1.out.1.below hb2,HO1.out.2.1.below hb2,HO1.out.2.2.1.below hb2,HO1.out.2.2.2⟩
     have hsz2:=HB2.out.size
     clear hb2 HO1 HB1 hsz1
     by_cases hmx:x<m
     ·have hmxI:(x:Int)<(m:Int):=by omega
      have hcz:=HCZ.out w2 HB2.out
      have HWT:Hid (St ys f (q+1) (ss.map Sq.ct)∧ls++[z]=cutL ys f (q+1)):=⟨HTW.out f q _ HS.out.1 hlt (fun h=>by have h3:=(HTQ.out.1 h).2;rw [←HM.out.1] at h3;omega),by rw [HS.out.2.1];exact HCQ.out.1⟩
      go_wp2_with (at_builtin;(refine wpList_append_b1 rfl (.tmp 41) (.tmp 46) rfl w.heap.size (.slice la ls.length lc) ls rfl (HO2.out.1.alloc _) w2.heap.size 1 z rfl (by simp) hz (by omega) (by simp;omega) ?_);intro v4 w4 hown hgrow hat)
      have HO4:Hid (OVB w4 w.heap.size v4 (ls++[z])∧OVq w4 w.heap.size (.slice oa ss.length oc) ss∧DeepQ w4 w.heap.size ss∧Aprt ss v4):=by
       have hbA:Below w2.heap.size w2 (w2.alloc (Obj.cells #[.int .u8 z] 5)):=bAw
       exact ⟨hown,(HO2.out.2.1.below hbA).grownB (HO2.out.1.alloc _) hgrow,(HO2.out.2.2.1.below hbA).grownB HO2.out.2.2.2 hgrow,HO2.out.2.2.2.app HO2.out.2.2.1 hat (by simp)⟩
      have HB4:Hid (Below w.heap.size w w4):=(HB2.out.alloc HB2.out.size _).grown hgrow (by have:=HB2.out.size;simp;omega) (fun k hk=>(HO2.out.1.blk hk))
      clear hown hgrow hat hcz
      go_roundw
      case rel=>exact ⟨f,q+1,ss,ls++[z],by go_num,HWT.out.1,HWT.out.2,HO4.out.1,HO4.out.2.1,HO4.out.2.2.1,HO4.out.2.2.2,HB4.out⟩
      case measure=>simp [intOf];omega
     ·have hmxI:¬(x:Int)<(m:Int):=by omega
      have hx3:¬(x:Int)=0:=by omega
      have HTK:Hid (St ys (q+x) (q+x) (ss.map Sq.ct++[(ls,(x:Int),(y:Int))])):=by rw [HS.out.2.1];exact HT2.out (HTQ.out.2 ⟨hx2,by rw [←HM.out.1];omega⟩)
      go_wp2_with (at_builtin;(refine wpList_append_sq rfl (.tmp 50) (.tmp 55) rfl w.heap.size (.slice oa ss.length oc) ss rfl (HO2.out.2.1.below ((Below.refl _ _).alloc nl _)) w2.heap.size 1 ⟨la,lc,ls,(x:Int),(y:Int)⟩ rfl (newsQ w2 la ls.length lc _ _ _ _ rfl rfl rfl rfl rfl) (by omega) (by simp;omega) ?_);intro v4 w4 hown hgrow)
      have HO4:Hid (OVq w4 w.heap.size v4 (ss++[⟨la,lc,ls,(x:Int),(y:Int)⟩])∧DeepQ w4 w.heap.size (ss++[⟨la,lc,ls,(x:Int),(y:Int)⟩])):=by
       obtain ⟨a5,c5,e5,hm5,hr5⟩:=HO2.out.1.mineAt
       obtain ⟨rfl,rfl⟩:la=a5∧lc=c5:=by simpa using e5
       have hd5:DeepQ w2 w.heap.size (ss++[⟨la,lc,ls,(x:Int),(y:Int)⟩]):=HO2.out.2.2.1.snoc hm5 (fun z hz k hk hk2=>HO2.out.2.2.2 z hz k hk (hr5 k hk2))
       exact ⟨hown,(hd5.below ((Below.refl _ _).alloc nl _)).grown (HO2.out.2.1.below ((Below.refl _ _).alloc nl _)) hgrow⟩
      have HB4:Hid (Below w.heap.size w w4):=(HB2.out.alloc HB2.out.size _).grown hgrow (by have:=HB2.out.size;simp;omega) (fun k hk=>(HO2.out.2.1.blk hk).1)
      have HMP:Hid ((ss++[(⟨la,lc,ls,(x:Int),(y:Int)⟩:Sq)]).map Sq.ct=ss.map Sq.ct++[(ls,(x:Int),(y:Int))]∧True):=⟨by rw [List.map_append];rfl,trivial⟩
      clear hown hgrow
      go_roundw
      case rel=>exact ⟨q+x,q+x,ss++[⟨la,lc,ls,(x:Int),(y:Int)⟩],[],by congr 1,by rw [HMP.out.1];exact HTK.out,(cutL_nil ys (q+x)).symm,OVB.nil _ _,HO4.out.1,HO4.out.2,Aprt.none _,HB4.out⟩
      case measure=>simp [intOf];omega
    ·have hq1I:¬(q:Int)+1<(n:Int):=by omega
     have hx3:¬(x:Int)=0:=by omega
     have HTK:Hid (St ys (q+x) (q+x) (ss.map Sq.ct++[(ls,(x:Int),(y:Int))])):=by rw [HS.out.2.1];exact HT2.out (HTQ.out.2 ⟨hx2,by rw [HEN.out (q+1) hq1];omega⟩)
     go_wp2_with (at_builtin;(refine wpList_append_sq rfl (.tmp 50) (.tmp 55) rfl w.heap.size (.slice oa ss.length oc) ss rfl (HO1.out.2.1.below ((Below.refl _ _).alloc nl _)) w1.heap.size 1 ⟨la,lc,ls,(x:Int),(y:Int)⟩ rfl (newsQ w1 la ls.length lc _ _ _ _ rfl rfl rfl rfl rfl) (by omega) (by simp;omega) ?_);intro v4 w4 hown hgrow)
     have HO4:Hid (OVq w4 w.heap.size v4 (ss++[⟨la,lc,ls,(x:Int),(y:Int)⟩])∧DeepQ w4 w.heap.size (ss++[⟨la,lc,ls,(x:Int),(y:Int)⟩])):=by
      obtain ⟨a5,c5,e5,hm5,hr5⟩:=HO1.out.1.mineAt
      obtain ⟨rfl,rfl⟩:la=a5∧lc=c5:=by simpa using e5
      have hd5:DeepQ w1 w.heap.size (ss++[⟨la,lc,ls,(x:Int),(y:Int)⟩]):=HO1.out.2.2.1.snoc hm5 (fun z hz k hk hk2=>HO1.out.2.2.2 z hz k hk (hr5 k hk2))
      exact ⟨hown,(hd5.below ((Below.refl _ _).alloc nl _)).grown (HO1.out.2.1.below ((Below.refl _ _).alloc nl _)) hgrow⟩
     have HB4:Hid (Below w.heap.size w w4):=(HB1.out.alloc HB1.out.size _).grown hgrow (by have:=HB1.out.size;simp;omega) (fun k hk=>(HO1.out.2.1.blk hk).1)
     have HMP:Hid ((ss++[(⟨la,lc,ls,(x:Int),(y:Int)⟩:Sq)]).map Sq.ct=ss.map Sq.ct++[(ls,(x:Int),(y:Int))]∧True):=⟨by rw [List.map_append];rfl,trivial⟩
     clear hown hgrow
     go_roundw
     case rel=>exact ⟨q+x,q+x,ss++[⟨la,lc,ls,(x:Int),(y:Int)⟩],[],by congr 1,by rw [HMP.out.1];exact HTK.out,(cutL_nil ys (q+x)).symm,OVB.nil _ _,HO4.out.1,HO4.out.2,Aprt.none _,HB4.out⟩
     case measure=>simp [intOf];omega
  ·have HF:Hid (found ys=fin ys f (ss.map Sq.ct)∧q=n):=⟨HDN.out f q _ HS.out.1 hlt,by omega⟩
   have HFQ:=HFW.out f q ss HS.out.1
   by_cases hl0:ls.length=0
   ·have HFN:Hid (found ys=ss.map Sq.ct∧Few4 ss):=by
     refine ⟨?_,HFQ.1⟩
     rw [HF.out.1]
     unfold fin
     rw [if_neg (by have:=HS.out.2.2;have:=HF.out.2;rw [HL.out.1];omega)]
    have hl0I:¬(0:Int)<(ls.length:Int):=by omega
    clear HFQ
    go_wp2
    go_ret
    exact ⟨⟨_,rfl,ss,HFN.out.1.symm,HO.out.2.1,HO.out.2.2.1,HFN.out.2⟩,HB.out⟩
   ·have hl0I:(0:Int)<(ls.length:Int):=by omega
    have HFN:Hid (found ys=ss.map Sq.ct++[(ls,0,0)]∧Few4 (ss++[⟨la,lc,ls,0,0⟩])):=by
     refine ⟨?_,HFQ.2 _ (by show ls.length≤64;omega) ⟨by simp,by simp⟩ ⟨by simp,by simp⟩⟩
     rw [HF.out.1]
     unfold fin
     rw [if_pos (by have:=HS.out.2.2;have:=HF.out.2;rw [HL.out.1];omega),HL.out.1,HS.out.2.1,HF.out.2]
    have hl0n:0<ls.length:=by omega
    clear hl0 HFQ
    go_wp2_with (at_builtin;(refine wpList_append_sq rfl (.tmp 63) (.tmp 66) rfl w.heap.size (.slice oa ss.length oc) ss rfl (HO.out.2.1.below ((Below.refl _ _).alloc nl _)) wr.heap.size 1 ⟨la,lc,ls,0,0⟩ rfl (newsQ wr la ls.length lc _ _ _ _ rfl rfl rfl rfl rfl) (by omega) (by simp;omega) ?_);intro v4 w4 hown hgrow)
    go_ret
    obtain ⟨a5,c5,e5,hm5,hr5⟩:=HO.out.1.mineAt
    obtain ⟨rfl,rfl⟩:la=a5∧lc=c5:=by simpa using e5
    have hd5:DeepQ wr w.heap.size (ss++[⟨la,lc,ls,0,0⟩]):=HO.out.2.2.1.snoc hm5 (fun z hz k hk hk2=>HO.out.2.2.2 z hz k hk (hr5 k hk2))
    exact ⟨⟨v4,rfl,ss++[⟨la,lc,ls,0,0⟩],by rw [HFN.out.1,List.map_append];rfl,hown,(hd5.below ((Below.refl _ _).alloc nl _)).grown (HO.out.2.1.below ((Below.refl _ _).alloc nl _)) hgrow,HFN.out.2⟩,(HB.out.alloc hsz _).grown hgrow (by simp;omega) (fun k hk=>(HO.out.2.1.blk hk).1)⟩
end Go.Proofs.YtfeokafkhnbdiaaGreatDoor
namespace Go.Proofs.YtfeokafkhnbdiaaGreatDoor
open Go.RowKit Go.Maps Go.ChangeShapes Go.ChangeAt
set_option linter.unusedVariables false
theorem Tryz.zeroSI (w:World):(zeroValue 38).run Tryz.prog w=.ok (.slice none 0 0) w:=by kernel_rfl
def Itm (d:DataW Unit) (zs:List Int):Prop:=(d=.nil∧zs=[])∨d=.slice (lits .i64 zs) []
theorem lits_inj {zs ys:List Int} (h:(lits .i64 zs:List (DataW Unit))=lits .i64 ys):zs=ys:=by
 unfold lits at h
 exact (List.map_inj_right (fun a b hab=>by simpa using hab)).1 h
theorem Itm.eq {d:DataW Unit} {zs ys:List Int} (h:Itm d zs) (h2:Itm d ys):zs=ys:=by
 rcases h with ⟨h,rfl⟩ | h <;> rcases h2 with ⟨h2,rfl⟩ | h2
 ·rfl
 ·rw [h] at h2;cases h2
 ·rw [h] at h2;cases h2
 ·rw [h] at h2
  injection h2 with h2
  exact lits_inj h2
theorem Itm.of {w:World} {base:Nat} {e:TypeId} {v:Value} {zs:List Int} {d:DataW Unit} (h:w.ownsInts base e .i64 v zs) (hd:d=rowDatum .i64 v zs):Itm d zs:=by
 rcases h.datum (H:=Unit) with ⟨h1,h2⟩ | h1
 ·exact .inl ⟨hd.trans h1,h2⟩
 ·exact .inr (hd.trans h1)
theorem grown_below {w w':World} (hb:Below w.heap.size w w'):w.grownBy w' none:=⟨hb.os,hb.tape,hb.output,hb.size,fun k hk _=>hb.block k hk⟩
theorem wanted_step8 {P:Program} {ops:Array Oper} {o:Oper} {a:Act} {w:World} {K:Act→World→Prop} {Q:Exit→Act→World→Prop} {E:Prop} (hg:o.guard=none) (h:Oper.wp P o a w K Q) :
  if Region.wanted o (yielded ops a.tmps)=true then Oper.wp P o a w K Q else E:=by
 rw [if_pos (by simp [Region.wanted,hg])]
 exact h
theorem wp_append_i1 {o:Oper} {a:Act} {w:World} {K:Act→World→Prop} {Q:Exit→Act→World→Prop} (s x:Operand) (ho:o.op=.call { callee:=.builtin .append,args:=#[s,x],argTypes:=#[38,38] })
  (B:Nat) (v:Value) (zs:List Int) (hs:a.eval s=v) (hown:OVI w B v zs) (X:Nat) (z:Int) (hx:a.eval x=.slice (some ⟨X,0,none⟩) 1 1) (hX:w.cell? ⟨X,0,none⟩=some (.int .i64 z)) (hz0:-9223372036854775808≤z) (hz1:z≤9223372036854775807) (hb1:zs.length≤1000000) (hbase:B≤w.heap.size)
  (h:∀ v' w',OVI w' B v' (zs++[z])→w.grownBy w' v.ownBlock→(v'.ownBlock=v.ownBlock∨v'.ownBlock=some w.heap.size)→K (a.put o.dst v') w'):o.wp Tryz.prog a w K Q:=by
 obtain ⟨i0,hi,hz0',hz1',hz2⟩:=info_parts Tryz.infoI64
 obtain ⟨v',w',hr,h2,h3,_,h5⟩:=run_append_own_at (P:=Tryz.prog) w B 38 o.type 3 i0 (.int .i64 0) 1 8 Tryz.underlying38 hi hz0' hz1' hz2 rfl (by decide) v zs.length _ hown.1 ⟨X,0,none⟩ 1 1 [.int .i64 z] rfl (by
  intro j u hu
  cases j with
  | zero=>simp at hu;subst hu;simpa [Addr.add] using hX
  | succ j=>simp at hu) (by simp [Value.oneCell']) (by unfold maxLen;omega) (by omega) hbase
 have hr':(Builtin.append_ #[38,38] o.type #[v,.slice (some ⟨X,0,none⟩) 1 1]).run Tryz.prog w=.ok v' w':=hr
 unfold Oper.wp execOp
 simp only [ho,resolve,invoke,builtin,Sem.run_bind,Sem.run_pure,Result.andThen_ok,List.map_toArray,List.map_cons,List.map_nil,hs,hx,hr']
 refine h v' w' ⟨?_,fun y hy=>?_⟩ h3 h5
 ·rw [List.length_append,List.map_append]
  exact h2
 ·rcases List.mem_append.1 hy with hy | hy
  ·exact hown.2 y hy
  ·simp at hy
   omega
theorem blk_cellI {w:World} {R j:Nat} {cur:Array Value} {T:TypeId} {v:Value} (hR:w.heap[R]?=some (.cells cur T (0,0))) (hv:cur[j]?=some v):w.cell? ⟨R,j,none⟩=some v:=by
 rw [cell_of_row w R j cur T (0,0) hR];exact hv
theorem set_below {w0 w1 w2:World} {M:Nat} {v:Value} {zs:List Int} {wv:World} (hg1:w0.grownBy w1 v.ownBlock) (hg2:w1.grownBy w2 (some M)) (hM:M≤w0.heap.size) (ho:OVI wv (M+1) v zs):Below M w0 w2:=
 (((Below.refl M w0).grown hg1 hM (fun j hj=>by have:=ho.blk hj;omega)).grown hg2 (by have:=hg1.size;omega) (fun j hj=>by cases hj;exact Nat.le_refl _))
end Go.Proofs.YtfeokafkhnbdiaaGreatDoor
