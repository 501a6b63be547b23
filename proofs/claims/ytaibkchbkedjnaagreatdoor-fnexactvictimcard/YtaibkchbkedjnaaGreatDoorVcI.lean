/- Lemmas on the way. -/
import Derived.Test.YtaibkchbkedjnaaGreatDoorPlP
import Derived.Test.YtaibkchbkedjnaaGreatDoorFr1
import Derived.RangeFuncNested
import Derived.RangeFuncBound
import Derived.RangeFuncCalls
import Derived.RangeFuncLeaves
import Derived.RangeFuncFrom
import Derived.Shelf.Abstract
import Derived.Shelf.RegionOpen
import Derived.WalkKit
import Derived.OwnWalkIn
import Derived.TacticsInMore
import Derived.LoopNIn
import Derived.LoopIn
import Derived.Test.YtaibkchbkedjnaaGreatDoorVcM
import Derived.Test.YtaibkchbkedjnaaGreatDoorDkI3
set_option maxRecDepth 20000
set_option maxHeartbeats 16000000
namespace Go.Proofs.YtaibkchbkedjnaaGreatDoor
open Go.RowKit
set_option linter.unusedVariables false
set_option linter.unusedSimpArgs false
theorem indexZ_any (a:Option Addr) (c:Nat) (zs:List Int) (x:Int) (w:World) (hb:Ins w a zs) (hn:zs.length≤1048576) :
  Calls Tryz.prog 174 #[.slice a zs.length c,.int .i64 x] w fun e w'=>(∃ r:Int,e=.returned (.int .i64 r)∧((zs.any (fun z=>z == x)=true∧0≤r)∨(zs.any (fun z=>z == x)=false∧r=-1)))∧w'=w:=by
 have HB:Hid (Ins w a zs):=hb
 have HH:Hid (∀ k,k<zs.length→zs.getD k 0=x→zs.any (fun z=>z == x)=true):=fun k hk e=>by
  rw [any_cs]
  exact ⟨k,hk,e⟩
 have HE:Hid ((∀ k,k<zs.length→zs.getD k 0≠x)→zs.any (fun z=>z == x)=false):=fun h=>by
  rw [←Bool.not_eq_true,any_cs]
  rintro ⟨k,hk,e⟩
  exact h k hk e
 clear hb
 generalize zs.any (fun z=>z == x)=B at *
 generalize hlen:zs.length=n at *
 have HL:Hid (zs.length=n∧True):=⟨hlen,trivial⟩
 clear hlen
 go_enter Tryz.func174,Tryz.ntmps174
 go_wp2
 go_loop [8] (fun i=>∃ k:Nat,k≤n∧i=.int .i64 k∧∀ j,j<k→zs.getD j 0≠x) (fun i=>n-(intOf i).toNat)
 case atStart=>exact ⟨0,Nat.zero_le _,rfl,fun j hj=>by omega⟩
 case round=>
  obtain ⟨k,hk,rfl,han⟩:=hrel
  have HAN:Hid (∀ j,j<k→zs.getD j 0≠x):=han
  clear han
  by_cases hlt:k<n
  ·obtain ⟨b,off,rfl,hb1,hc1⟩:=HB.out.2 (by rw [HL.out.1];omega)
   have c0:=hc1 k (by rw [HL.out.1];exact hlt)
   have hh:=HH.out k hlt
   clear hc1
   by_cases he:zs.getD k 0=x
   ·have h1:=hh he
    have HF:Hid (B=true):=h1
    have h2:(x == zs.getD k 0)=true:=by rw [he];simp
    clear hh h1
    generalize zs.getD k 0=z at *
    subst he
    go_wp2
    go_ret
    exact ⟨⟨_,rfl,.inl ⟨HF.out,by omega⟩⟩,rfl⟩
   ·have HN:Hid (∀ j,j<k+1→zs.getD j 0≠x):=fun j hj=>by
     rcases Nat.lt_or_ge j k with h | h
     ·exact HAN.out j h
     ·rw [show j=k by omega];exact he
    have h2:(x == zs.getD k 0)=false:=by simp;exact fun e=>he e.symm
    have h3:¬x=zs.getD k 0:=fun e=>he e.symm
    clear hh
    generalize zs.getD k 0=z at *
    go_wp2
    go_round
    case rel=>exact ⟨k+1,by omega,by go_num,HN.out⟩
    case measure=>simp [intOf];omega
  ·have hkn:k=n:=by omega
   subst hkn
   have HF:Hid (B=false):=HE.out HAN.out
   go_wp2
   go_ret
   exact ⟨⟨_,rfl,.inr ⟨HF.out,rfl⟩⟩,rfl⟩
theorem containsZ_any (a:Option Addr) (c:Nat) (zs:List Int) (x:Int) (w:World) (hb:Ins w a zs) (hn:zs.length≤1048576) :
  Calls Tryz.prog 151 #[.slice a zs.length c,.int .i64 x] w fun e w'=>e=.returned (.bool (zs.any (fun z=>z == x)))∧w'=w:=by
 have HI:=indexZ_any a c zs x w hb hn
 clear hb
 go_enter Tryz.func151,Tryz.ntmps151
 go_wp2_with fail
 refine HI.mono ?_
 clear HI
 rintro e w1 ⟨⟨r,rfl,hr⟩,rfl⟩
 rcases hr with ⟨h1,h2⟩ | ⟨h1,rfl⟩
 ·have H1:Hid (zs.any (fun z=>z == x)=true∧True):=⟨h1,trivial⟩
  clear h1
  go_wp2
  go_ret
  exact ⟨by rw [H1.out.1];simp [h2],rfl⟩
 ·have H1:Hid (zs.any (fun z=>z == x)=false∧True):=⟨h1,trivial⟩
  clear h1
  go_wp2
  go_ret
  exact ⟨by rw [H1.out.1];rfl,rfl⟩
end Go.Proofs.YtaibkchbkedjnaaGreatDoor
namespace Go.Proofs.YtaibkchbkedjnaaGreatDoor
open Go.RowKit Go.Shelf Go.Maps Go.WideElems Go.MapKept
attribute [local go_sem] Oper.semAt_some
set_option linter.unusedVariables false
set_option linter.unusedSimpArgs false
structure KpC (W W':World):Prop where
 size:W.heap.size≤W'.heap.size
 same:∀ (k:Nat) (o:Obj),W.heap[k]?=some o→(o.isCells=true∨o.isWalk=true)→W'.heap[k]?=some o
theorem KpC.refl (W:World):KpC W W:=⟨Nat.le_refl _,fun _ _ h _=>h⟩
theorem KpC.trans {A B C:World} (h:KpC A B) (k:KpC B C):KpC A C:=⟨Nat.le_trans h.size k.size,fun i o hi ho=>k.same i o (h.same i o hi ho) ho⟩
theorem KpC.put {w:World} (W:World) (l:Nat) (o o':Obj) (_:w.heap.size≤l) (h:W.heap[l]?=some o) (hc:o.isCells=false) (hw:o.isWalk=false):KpC W (W.putObj l o'):=
 ⟨by simp [World.putObj],fun k p hk hp=>by
  by_cases e:k=l
  ·subst e
   rw [h] at hk
   cases hk
   rw [hc,hw] at hp
   simp at hp
  ·exact (World.putObj_heap_other (by omega)).trans hk⟩
theorem KpC.cell {W W':World} (h:KpC W W') {p:Addr} {v:Value} (hc:W.cell? p=some v):W'.cell? p=some v:=by
 obtain ⟨o,ho,hco⟩:=cells_of_cell hc
 exact (World.cell?_of_block ((h.same _ _ ho (.inl hco)).trans ho.symm)).trans hc
theorem KpC.ins {W W':World} (h:KpC W W') {a:Option Addr} {zs:List Int} (hi:Ins W a zs):Ins W' a zs:=
 ⟨hi.1,fun h0=>by
  obtain ⟨b,off,e,hb,hc⟩:=hi.2 h0
  exact ⟨b,off,e,Nat.lt_of_lt_of_le hb h.size,fun i hi=>h.cell (hc i hi)⟩⟩
theorem KpC.dk {W W':World} (h:KpC W W') {b:Nat} {d:DkV} (x:Dk10 W b d):Dk10 W' b d:=
 ⟨h.cell x.c0,h.cell x.c1,h.cell x.c2,h.cell x.c3,h.cell x.c4,h.cell x.c5,h.cell x.c6,h.cell x.c7,h.cell x.c8,h.cell x.c9,Nat.lt_of_lt_of_le x.lt h.size⟩
theorem KpC.atl {W W':World} (h:KpC W W') {R M:Nat} {a:Option Addr} {n c:Nat} (x:Atl W R M a n c):Atl W' R M a n c:=⟨h.same _ _ x.blk (.inl rfl)⟩
theorem KpC.owns {W W':World} (h:KpC W W') {base:Nat} {e:TypeId} {q:IntKind} {v:Value} {zs:List Int} (x:W.ownsInts base e q v zs):W'.ownsInts base e q v zs:=by
 obtain ⟨⟨h1,h2⟩,h3⟩:=x
 refine ⟨⟨h1,?_⟩,h3⟩
 rcases h2 with h2 | ⟨g,cap,cur,e1,e2,e3,e4⟩
 ·exact .inl h2
 ·exact .inr ⟨g,cap,cur,e1,e2,h.same _ _ e3 (.inl rfl),e4⟩
theorem KpC.liv {W W':World} (h:KpC W W') {M n:Nat} {f:Int→List Int} (x:Liv W M n f):Liv W' M n f:=by
 obtain ⟨DD,⟨es,clock,hb,F,hs,hD,hbb,hlen,hap⟩,h2,h3⟩:=x
 have hst:∀ x ∈ es.toList,∀ z,rowElem (H:=Unit) W (M+1) 3 .i64 x.val=some z→rowElem W' (M+1) 3 .i64 x.val=some z:=fun x hx z hz=>by
  obtain ⟨zs,ho,rfl⟩:=rowElem_inv hz
  exact rowElem_mk (h.owns ho)
 obtain ⟨F1,hmap,_⟩:=F.stay hst
 refine ⟨DD,⟨es,clock,h.same _ _ hb (.inr rfl),F1,hs,by rw [hmap];exact hD,hbb,fun x hx zs ho=>?_,hap⟩,h2,h3⟩
 obtain ⟨y,hy⟩:=F.reads x hx
 obtain ⟨z,hz,_⟩:=rd_val hy
 obtain ⟨zs0,ho0,_⟩:=rowElem_inv hz
 rw [ho.unique (h.owns ho0)]
 exact hlen x hx zs0 ho0
abbrev VcA :={ x:Int × (Option Addr × (Nat × Nat)) // 0≤x.1∧x.1≤1000∧x.2.2.1≤1000 }
abbrev vcE (x:VcA):Array Value:=#[.int .i64 x.1.1,.slice x.1.2.1 x.1.2.2.1 x.1.2.2.2]
abbrev vcP (x:VcA):Int × Nat:=(x.1.1,x.1.2.2.1)
def vcL (d:DkV):Nat→List (Int × Nat)
 | 0=>[]
 | k+1=>if vcH d ((k+2:Nat):Int)=true then vcL d k else vcL d k++[(((k+2:Nat):Int),vcN d ((k+2:Nat):Int))]
theorem vcL_len (d:DkV):∀ k,(vcL d k).length≤k
 | 0=>Nat.le_refl _
 | k+1=>by
  have h:=vcL_len d k
  simp only [vcL]
  split
  ·omega
  ·rw [List.length_append,List.length_singleton];omega
theorem vcL_pre (d:DkV) (k:Nat):∀ j,vcL d k <+: vcL d (k+j)
 | 0=>List.prefix_rfl
 | j+1=>by
  refine (vcL_pre d k j).trans ?_
  show _ <+: vcL d (k+j+1)
  simp only [vcL]
  split
  ·exact List.prefix_rfl
  ·exact List.prefix_append _ _
set_option maxRecDepth 100000 in
theorem unch_stops (d:DkV) (m:Nat) (hm:1≤m) (B:Nat) (w:World) (hb:DkI w d) (hx:Dk10 w B d) (hr:2≤d.ss.length∧d.ss.length≤24) (hmap:mapB d.ms=true) (hcs:d.cs.length≤1048576) :
  SeqStopsK Fence.wide m Tryz.prog 150 #[.pointer (some ⟨B,0,none⟩)] vcE KpC (fun xs=>xs.map vcP=vcL d (d.ss.length-2)) (fun xs=>xs.map vcP <+: vcL d (d.ss.length-2)) d.ss.length w:=fun l J Jx W hW hJ hJx hY h0=>by
 refine callsIn_of_wp Tryz.func150 rfl trivial ?_ rfl
 simp only [Tryz.ntmps150,List.size_toArray,List.length_cons,List.length_nil,Nat.reduceAdd,Nat.reduceSub,Array.replicate_succ,Array.replicate_zero,List.push_toArray,List.append_toArray,List.nil_append,List.cons_append]
 have hln:=mapB_len d.ms hmap
 have H1:=callsIn_wide (n:=m-1).2 (atlasOf_any d.ma d.mc d.ms W (hb.map.below hW nl) (by omega))
 have HX:Hid (Dk10 W B d∧Ins W d.ca d.cs):=⟨hx.step hW,hb.chn.below hW nl⟩
 have HM:Hid (mapB d.ms=true):=hmap
 obtain ⟨x0,x1,x2,x3,x4,x5,x6,x7,x8,x9,xl⟩:=hx.step hW
 clear hb hx hmap
 gi_wp2_with fail
 refine ⟨trivial,H1.mono ?_⟩
 clear H1
 rintro e w1 ⟨⟨-,R,M,rfl,hA,hL,-⟩ | ⟨hf,-⟩,hb1⟩
 rotate_left
 ·rw [HM.out] at hf
  cases hf
 have HJ1:Hid (J [] w1):=hJ [] W w1 none h0 (grown_below hb1) (fun r e=>by cases e)
 have HX1:Hid (Dk10 w1 B d∧Ins w1 d.ca d.cs∧Atl w1 R M d.ma d.ms.length d.mc∧Liv w1 M d.ms.length (liv d.ms d.ms.length)):=⟨HX.out.1.step hb1,HX.out.2.below hb1 nl,hA,hL⟩
 clear hb1 hA hL HX x0 x1 x2 x3 x4 x5 x6 x7 x8 x9 xl hW h0
 obtain ⟨x0,x1,x2,x3,x4,x5,x6,x7,x8,x9,xl⟩:=HX1.out.1
 gi_wp2
 gi_loopw [5] (fun i wr=>∃ (k:Nat) (s:Int) (xs:List VcA),k+2≤d.ss.length∧s=((k+2:Nat):Int)∧i=.int .i64 s∧xs.map vcP=vcL d k∧J xs wr∧Dk10 wr B d∧Ins wr d.ca d.cs∧Atl wr R M d.ma d.ms.length d.mc∧Liv wr M d.ms.length (liv d.ms d.ms.length)) (fun i _=>d.ss.length-(intOf i).toNat)
 case atStart=>exact ⟨0,2,[],hr.1,rfl,rfl,rfl,HJ1.out,HX1.out⟩
 case round=>
  clear x0 x1 x2 x3 x4 x5 x6 x7 x8 x9 xl HJ1 HX1
  obtain ⟨k,s,xs,hk,hs,rfl,hxs,hJw,hx,hi,hA,hL⟩:=hrel
  have HR:Hid (s=((k+2:Nat):Int)∧xs.map vcP=vcL d k∧J xs wr∧Dk10 wr B d∧Ins wr d.ca d.cs∧Atl wr R M d.ma d.ms.length d.mc∧Liv wr M d.ms.length (liv d.ms d.ms.length)):=⟨hs,hxs,hJw,hx,hi,hA,hL⟩
  obtain ⟨x0,x1,x2,x3,x4,x5,x6,x7,x8,x9,xl⟩:=hx
  have hs2:2≤s∧s≤24:=by omega
  have H2:=callsIn_wide (n:=m-1).2 (containsZ_any d.ca d.cc d.cs s wr hi hcs)
  clear hs hxs hJw hi hA hL
  by_cases hlt:s<(d.ss.length:Int)
  ·gi_wp2_with fail
   refine ⟨trivial,H2.mono ?_⟩
   clear H2
   rintro e w2 ⟨rfl,rfl⟩
   have HST:Hid (∀ C:Bool,C=d.cs.any (fun z=>z == s)→vcL d (k+1)=if C=true then vcL d k else vcL d k++[(s,(liv d.ms d.ms.length s).length)]):=fun C e=>by
    rw [e,HR.out.1]
    rfl
   have hmn:(liv d.ms d.ms.length s).length≤16:=by have h3:=liv_len d.ms d.ms.length s;omega
   generalize hB:d.cs.any (fun z=>z == s)=C at *
   have HC:=HST.out C rfl
   have HV:Hid ((C=true→vcL d (k+1)=vcL d k)∧(C=false→vcL d (k+1)=vcL d k++[(s,(liv d.ms d.ms.length s).length)])):=⟨fun h=>by rw [HC,if_pos h],fun h=>by rw [HC,h];rfl⟩
   clear HC HST hB
   cases C with
   | true=>
    gi_wp2
    go_roundw
    case rel=>exact ⟨k+1,s+1,xs,by have:=HR.out.1;omega,by have:=HR.out.1;omega,by go_num,by rw [HV.out.1 (by simp)];exact HR.out.2.1,HR.out.2.2⟩
    case measure=>simp [intOf];omega
   | false=>
    obtain ⟨v,hlk,hov,-⟩:=HR.out.2.2.2.2.2.2.look (by omega) s (WalkArith.wf_i64 (by omega))
    obtain ⟨za,zc,rfl⟩:=hov.form
    clear hov
    have p1:=HR.out.2.2.2.2.2.1.c1
    have hRl:=HR.out.2.2.2.2.2.1.lt
    have hxl:xs.length<d.ss.length:=by have h:=congrArg List.length HR.out.2.1;rw [List.length_map] at h;have h2:=vcL_len d k;omega
    have hV2:=HV.out.2 (by simp)
    generalize (liv d.ms d.ms.length s).length=zn at *
    have HV2:Hid (vcL d (k+1)=vcL d k++[(s,zn)]):=hV2
    clear hV2
    have hxp:0≤s∧s≤1000∧zn≤1000:=by omega
    have HYX:=hY xs ⟨(s,(za,(zn,zc))),hxp⟩ w2 HR.out.2.2.1 hxl
    obtain ⟨fn,tmps,assign,body,hy,hYR⟩:=HYX
    dsimp only [vcE] at hy
    have HXP:Hid ((xs++[(⟨(s,(za,(zn,zc))),hxp⟩:VcA)]).map vcP=vcL d (k+1)):=by
     unfold Hid
     rw [List.map_append,HR.out.2.1,HV2.out]
     rfl
    gi_wp2_with fail
    refine hYR.mono ?_
    clear hYR hy
    rintro e w3 (⟨rfl,hJ3,hk3⟩ | ⟨rfl,hJx3⟩)
    ·have HN:Hid (J (xs++[⟨(s,(za,(zn,zc))),hxp⟩]) w3∧Dk10 w3 B d∧Ins w3 d.ca d.cs∧Atl w3 R M d.ma d.ms.length d.mc∧Liv w3 M d.ms.length (liv d.ms d.ms.length)):=
      ⟨hJ3,hk3.dk HR.out.2.2.2.1,hk3.ins HR.out.2.2.2.2.1,hk3.atl HR.out.2.2.2.2.2.1,hk3.liv HR.out.2.2.2.2.2.2⟩
     clear hJ3 hk3 x0 x1 x2 x3 x4 x5 x6 x7 x8 x9 xl p1 hRl hlk
     gi_wp2
     go_roundw
     case rel=>exact ⟨k+1,s+1,xs++[⟨(s,(za,(zn,zc))),hxp⟩],by have:=HR.out.1;omega,by have:=HR.out.1;omega,by go_num,HXP.out,HN.out⟩
     case measure=>simp [intOf];omega
    ·have HN:Hid (Jx (xs++[⟨(s,(za,(zn,zc))),hxp⟩]) w3):=hJx3
     have hkk:k+1≤d.ss.length-2:=by have:=HR.out.1;omega
     clear hJx3 x0 x1 x2 x3 x4 x5 x6 x7 x8 x9 xl p1 hRl hlk
     gi_wp2
     refine bodyPost_ret (results_none rfl _ _ _) rfl ?_
     refine ⟨⟨_,rfl⟩,.inr ⟨_,?_,HN.out⟩⟩
     rw [HXP.out]
     have h:=vcL_pre d (k+1) (d.ss.length-2-(k+1))
     rw [show k+1+(d.ss.length-2-(k+1))=d.ss.length-2 by omega] at h
     exact h
  ·have HF:Hid (xs.map vcP=vcL d (d.ss.length-2)∧J xs wr):=⟨by rw [HR.out.2.1];have:=HR.out.1;rw [show k=d.ss.length-2 by omega],HR.out.2.2.1⟩
   clear H2
   gi_wp2
   go_end0
   exact ⟨⟨_,rfl⟩,.inl ⟨xs,HF.out⟩⟩
end Go.Proofs.YtaibkchbkedjnaaGreatDoor
namespace Go.Proofs.YtaibkchbkedjnaaGreatDoor
open Go.RowKit Go.Shelf
attribute [local go_sem] Oper.semAt_some
set_option linter.unusedVariables false
set_option linter.unusedSimpArgs false
def bst (b q:Int × Nat):Int × Nat:=if 0<q.2∧q.2<b.2 then q else b
theorem vcF_bst (d:DkV):∀ k,vcF d k=(vcL d k).foldl bst (-1,17)
 | 0=>rfl
 | k+1=>by
  have h:=vcF_bst d k
  cases hc:vcH d ((k+2:Nat):Int) with
  | true=>simp only [vcF,vcL,hc,h];simp
  | false=>
   have e:vcL d (k+1)=vcL d k++[(((k+2:Nat):Int),vcN d ((k+2:Nat):Int))]:=by
    simp only [vcL,hc]
    rfl
   rw [e,List.foldl_append,List.foldl_cons,List.foldl_nil,←h]
   simp only [vcF,hc,bst,and_true]
theorem bst_keep (qs:List (Int × Nat)) (b:Int × Nat) (h:∀ q ∈ qs,0<q.2→b.2≤q.2):qs.foldl bst b=b:=by
 induction qs with
 | nil=>rfl
 | cons q qs ih=>
  rw [List.foldl_cons,show bst b q=b from if_neg (fun h2=>by have:=h q (by simp) h2.1;omega)]
  exact ih (fun r hr=>h r (by simp [hr]))
theorem bst_gt (qs:List (Int × Nat)) (b:Int × Nat) (f:Nat) (hb:f<b.2) (h:∀ q ∈ qs,0<q.2→f<q.2):f<(qs.foldl bst b).2:=by
 induction qs generalizing b with
 | nil=>exact hb
 | cons q qs ih=>
  rw [List.foldl_cons]
  refine ih _ ?_ (fun r hr=>h r (by simp [hr]))
  unfold bst
  split
  ·rename_i h2
   exact h q (by simp) h2.1
  ·exact hb
theorem vcF_none (d:DkV) (k L:Nat) (h:∀ q ∈ vcL d k,1≤q.2→L+1≤q.2) (hl:∀ q ∈ vcL d k,q.2≤L):(vcF d k).1=-1:=by
 rw [vcF_bst,bst_keep _ _ (fun q hq h0=>by have:=h q hq h0;have:=hl q hq;omega)]
theorem vcF_hit (d:DkV) (k f:Nat) (p:List (Int × Nat)) (x:Int × Nat) (hf:1≤f∧f≤16) (hp:p++[x] <+: vcL d k) (hn:∀ q ∈ p,q.2≠f) (hx:x.2=f) (h:∀ q ∈ vcL d k,1≤q.2→f≤q.2):(vcF d k).1=x.1:=by
 obtain ⟨r,hr⟩:=hp
 rw [←hr] at h
 rw [vcF_bst,←hr,List.foldl_append,List.foldl_append,List.foldl_cons,List.foldl_nil]
 have h1:=bst_gt p (-1,17) f (by show f<17;omega) (fun q hq h0=>by have:=h q (by simp [hq]) h0;have:=hn q hq;omega)
 rw [show bst (p.foldl bst (-1,17)) x=x from if_pos (by omega),bst_keep r x (fun q hq h0=>by have:=h q (by simp [hq]) h0;omega)]
theorem vcL_le (d:DkV):∀ (k:Nat) (q:Int × Nat),q ∈ vcL d k→q.2≤d.ms.length
 | 0,q,h=>by cases h
 | k+1,q,h=>by
  simp only [vcL] at h
  split at h
  ·exact vcL_le d k q h
  ·rcases List.mem_append.1 h with h | h
   ·exact vcL_le d k q h
   ·rw [List.mem_singleton.1 h]
    exact liv_len d.ms d.ms.length _
def MkD (D:Nat):Deferred:={ target:=.collected D,args:=#[] }
theorem leaves_marks {P:Program} {n:Nat} {fn:Func} {tmps:Array Value} {R:Ending→World→Prop} (B:Nat) (w0:World) (hB:B≤w0.heap.size) (hfin:∀ W,Below B w0 W→LeavesInM Fence.wide n P fn tmps R [] .returning W) :
  ∀ (Ds:List Nat) (W:World),Below B w0 W→Ds.Nodup→(∀ D ∈ Ds,B≤D∧W.heap[D]?=some (.deferred (some [])))→LeavesInM Fence.wide n P fn tmps R (Ds.map MkD) .returning W
 | [],W,hb,_,_=>hfin W hb
 | D :: Ds,W,hb,hnd,h=>by
  refine ⟨by simp,.inl ⟨D,_,rfl,run_takeDeferred (h D (by simp)).2,?_⟩⟩
  refine leaves_marks B w0 hB hfin Ds _ ?_ (List.nodup_cons.1 hnd).2 (fun E hE=>⟨(h E (by simp [hE])).1,?_⟩)
  ·exact hb.grown (grownBy_putObj' W D _) (Nat.le_trans hB hb.size) (fun k e=>by cases e;exact (h D (by simp)).1)
  ·exact (World.putObj_heap_other (fun e=>by subst e;exact (List.nodup_cons.1 hnd).1 hE)).trans (h E (by simp [hE])).2
structure VcW (w W:World) (d:DkV) (S Fd Fw B:Nat) (v:Int) (f:Nat) (Ds:List Nat):Prop where
 bx:Dk10 W S d
 fd:Boxed W Fd 3 (.int .i64 v)
 fw:Boxed W Fw 3 (.int .i64 f)
 mrk:∀ D ∈ Ds,S≤D∧D<B∧W.heap[D]?=some (.deferred (some []))
 bel:Below S w W
theorem VcW.own {w W W':World} {d:DkV} {S Fd Fw B:Nat} {v:Int} {f:Nat} {Ds:List Nat} {row:Option Nat} (h:VcW w W d S Fd Fw B v f Ds) (hg:W.grownBy W' row) (hr:∀ r,row=some r→B≤r∧∃ o:Obj,W.heap[r]?=some o∧o.isCells=false) (hB:S≤B) (hw:S≤w.heap.size):VcW w W' d S Fd Fw B v f Ds:=by
 have hr':∀ r,row=some r→∃ o:Obj,W.heap[r]?=some o∧o.isCells=false:=fun r e=>(hr r e).2
 refine ⟨⟨cell_kept h.bx.c0 hg hr',cell_kept h.bx.c1 hg hr',cell_kept h.bx.c2 hg hr',cell_kept h.bx.c3 hg hr',cell_kept h.bx.c4 hg hr',cell_kept h.bx.c5 hg hr',cell_kept h.bx.c6 hg hr',cell_kept h.bx.c7 hg hr',cell_kept h.bx.c8 hg hr',cell_kept h.bx.c9 hg hr',Nat.lt_of_lt_of_le h.bx.lt hg.size⟩,
  (grownBy_keeps_cells hg hr' h.fd rfl).trans h.fd,(grownBy_keeps_cells hg hr' h.fw rfl).trans h.fw,fun D hD=>⟨(h.mrk D hD).1,(h.mrk D hD).2.1,?_⟩,h.bel.grown hg (Nat.le_trans hw h.bel.size) (fun k e=>Nat.le_trans hB (hr k e).1)⟩
 have hm:=(h.mrk D hD).2
 exact (hg.block D (Array.getElem?_eq_some_iff.1 hm.2).1 (fun e=>by have:=(hr D e.symm).1;omega)).trans hm.2
theorem VcW.set {w W:World} {d:DkV} {S Fd Fw B:Nat} {v:Int} {f:Nat} {Ds:List Nat} (h:VcW w W d S Fd Fw B v f Ds) (hS:S<Fd) (hne:Fd≠Fw) (u:Int):VcW w (W.setCell ⟨Fd,0,none⟩ (.int .i64 u)) d S Fd Fw B u f Ds:=
 ⟨h.bx.keep (B:=S+1) ((Below.refl _ _).setCell (by show S+1≤Fd;omega) _) (by omega),h.fd.set _,h.fw.other hne.symm _,fun D hD=>⟨(h.mrk D hD).1,(h.mrk D hD).2.1,by
  have hm:=(h.mrk D hD).2.2
  refine (Below.heap_setCell _ _ _ _ (fun e=>?_)).trans hm
  simp only at e
  rw [e] at hm
  have:=h.fd
  unfold Boxed at this
  rw [this] at hm
  cases hm⟩,h.bel.setCell (by show S≤Fd;omega) _⟩
attribute [local go_sem] Oper.semAt_some
set_option linter.unusedVariables false
set_option linter.unusedSimpArgs false
theorem unchained_any (d:DkV) (w:World) :
  Calls Tryz.prog 108 #[.agg #[.slice d.sa d.ss.length d.sc,.slice d.pa d.ps.length d.pc,.int .i64 d.E,.int .i64 d.O,.slice d.ma d.ms.length d.mc,.slice d.va d.vs.length d.vc,.slice d.ca d.cs.length d.cc,.int .i64 d.F,.int .i64 d.G,.slice d.oa d.os.length d.oc]] w fun e w'=>e=.returned (.func (.func 150) #[] #[.pointer (some ⟨w.heap.size,0,none⟩)])∧w'=w.alloc (Obj.cells #[.slice d.sa d.ss.length d.sc,.slice d.pa d.ps.length d.pc,.int .i64 d.E,.int .i64 d.O,.slice d.ma d.ms.length d.mc,.slice d.va d.vs.length d.vc,.slice d.ca d.cs.length d.cc,.int .i64 d.F,.int .i64 d.G,.slice d.oa d.os.length d.oc] 49):=by
 go_enter Tryz.func108,Tryz.ntmps108
 go_wp2
 go_ret
 exact ⟨rfl,rfl⟩
theorem wpIn_scope_wide {P:Program} {n:Nat} {c:Code} {Q:Exit→Act→World→Prop} {a:Act} {w:World} (h:c.wpIn Fence.wide n P (Exit.noGoto Q) a w):(Code.scope c).wpIn Fence.wide n P Q a w:=wpIn_wide.2 (wp_scope_straight (wpIn_wide.1 h))
def vcMu (L:Nat) (a:Act) (W:World):Nat:=match a.tmps.getD 4 undef with
 | .pointer (some p)=>L+2-(match W.cell? p with
  | some v=>(intOf v).toNat
  | none=>0)
 | _=>0
def VcY (w:World) (d:DkV) (S Fd Fw B f:Nat) (Ds:List Nat) (pre:List VcA) (X:World):Prop:=(∀ x ∈ pre,(vcP x).2≠f)∧VcW w X d S Fd Fw B (-1) f Ds
def VcX (w:World) (d:DkV) (S Fd Fw B f:Nat) (Ds:List Nat) (pre:List VcA) (X:World):Prop:=∃ p x,pre=p++[x]∧(∀ y ∈ p,(vcP y).2≠f)∧(vcP x).2=f∧VcW w X d S Fd Fw B (vcP x).1 f Ds
theorem vcMu_eq {L:Nat} {a:Act} {W:World} {p:Addr} {g:Nat} (h1:a.tmps.getD 4 undef=.pointer (some p)) (h2:W.cell? p=some (.int .i64 g)):vcMu L a W=L+2-g:=by
 unfold vcMu
 rw [h1]
 simp only [h2,intOf,Int.toNat_natCast]
set_option maxRecDepth 100000 in
theorem victim_in (n:Nat) (hn3:3≤n) (d:DkV) (w:World) (hb:DkI w d) (hr:2≤d.ss.length∧d.ss.length≤24) (hmap:mapB d.ms=true) (hcs:d.cs.length≤1048576) :
  CallsIn Fence.wide n Tryz.prog 67 #[.agg #[.slice d.sa d.ss.length d.sc,.slice d.pa d.ps.length d.pc,.int .i64 d.E,.int .i64 d.O,.slice d.ma d.ms.length d.mc,.slice d.va d.vs.length d.vc,.slice d.ca d.cs.length d.cc,.int .i64 d.F,.int .i64 d.G,.slice d.oa d.os.length d.oc]] w fun e w'=>e=.returned (.int .i64 (vcF d (d.ss.length-2)).1)∧Below w.heap.size w w':=by
 have h1:1≤n:=by omega
 have hln:=mapB_len d.ms hmap
 have HB:Hid (DkI w d∧mapB d.ms=true):=⟨hb,hmap⟩
 have HD:Hid (Dk10 (w.alloc (Obj.cells #[.slice d.sa d.ss.length d.sc,.slice d.pa d.ps.length d.pc,.int .i64 d.E,.int .i64 d.O,.slice d.ma d.ms.length d.mc,.slice d.va d.vs.length d.vc,.slice d.ca d.cs.length d.cc,.int .i64 d.F,.int .i64 d.G,.slice d.oa d.os.length d.oc] 49)) w.heap.size d):=Dk10.new w d 49
 clear hb hmap
 refine callsIn_of_wp_marks Tryz.func67 rfl trivial ?_ rfl
 simp only [Tryz.ntmps67,List.size_toArray,List.length_cons,List.length_nil,Nat.reduceAdd,Nat.reduceSub,Array.replicate_succ,Array.replicate_zero,List.push_toArray,List.append_toArray,List.nil_append,List.cons_append]
 gi_wp2
 apply wpIn_scope_wide
 gi_wp2
 apply wpIn_label
 have e1:(w.alloc (Obj.cells #[.slice d.sa d.ss.length d.sc,.slice d.pa d.ps.length d.pc,.int .i64 d.E,.int .i64 d.O,.slice d.ma d.ms.length d.mc,.slice d.va d.vs.length d.vc,.slice d.ca d.cs.length d.cc,.int .i64 d.F,.int .i64 d.G,.slice d.oa d.os.length d.oc] 49)).heap.size=w.heap.size+1:=by simp
 have e2:((w.alloc (Obj.cells #[.slice d.sa d.ss.length d.sc,.slice d.pa d.ps.length d.pc,.int .i64 d.E,.int .i64 d.O,.slice d.ma d.ms.length d.mc,.slice d.va d.vs.length d.vc,.slice d.ca d.cs.length d.cc,.int .i64 d.F,.int .i64 d.G,.slice d.oa d.os.length d.oc] 49)).alloc (Obj.cells #[.int .i64 (-1)] 3)).heap.size=w.heap.size+1+1:=by simp
 have e3:(((w.alloc (Obj.cells #[.slice d.sa d.ss.length d.sc,.slice d.pa d.ps.length d.pc,.int .i64 d.E,.int .i64 d.O,.slice d.ma d.ms.length d.mc,.slice d.va d.vs.length d.vc,.slice d.ca d.cs.length d.cc,.int .i64 d.F,.int .i64 d.G,.slice d.oa d.os.length d.oc] 49)).alloc (Obj.cells #[.int .i64 (-1)] 3)).alloc (Obj.cells #[.int .i64 1] 3)).heap.size=w.heap.size+1+1+1:=by simp
 have HW0:Hid (VcW w (((w.alloc (Obj.cells #[.slice d.sa d.ss.length d.sc,.slice d.pa d.ps.length d.pc,.int .i64 d.E,.int .i64 d.O,.slice d.ma d.ms.length d.mc,.slice d.va d.vs.length d.vc,.slice d.ca d.cs.length d.cc,.int .i64 d.F,.int .i64 d.G,.slice d.oa d.os.length d.oc] 49)).alloc (Obj.cells #[.int .i64 (-1)] 3)).alloc (Obj.cells #[.int .i64 1] 3)) d w.heap.size (w.heap.size+1) (w.heap.size+1+1) (w.heap.size+1+1+1) (-1) 1 []):=by
  have b1:=Boxed.new (w.alloc (Obj.cells #[.slice d.sa d.ss.length d.sc,.slice d.pa d.ps.length d.pc,.int .i64 d.E,.int .i64 d.O,.slice d.ma d.ms.length d.mc,.slice d.va d.vs.length d.vc,.slice d.ca d.cs.length d.cc,.int .i64 d.F,.int .i64 d.G,.slice d.oa d.os.length d.oc] 49)) 3 (.int .i64 (-1))
  have b2:=Boxed.new ((w.alloc (Obj.cells #[.slice d.sa d.ss.length d.sc,.slice d.pa d.ps.length d.pc,.int .i64 d.E,.int .i64 d.O,.slice d.ma d.ms.length d.mc,.slice d.va d.vs.length d.vc,.slice d.ca d.cs.length d.cc,.int .i64 d.F,.int .i64 d.G,.slice d.oa d.os.length d.oc] 49)).alloc (Obj.cells #[.int .i64 (-1)] 3)) 3 (.int .i64 1)
  rw [e1] at b1
  rw [e2] at b2
  exact ⟨(HD.out.alloc _).alloc _,b1.alloc _,b2,fun D hD=>(by cases hD),(((Below.refl _ _).alloc nl _).alloc (by omega) _).alloc (by omega) _⟩
 gi_wp2
 generalize ((w.alloc (Obj.cells #[.slice d.sa d.ss.length d.sc,.slice d.pa d.ps.length d.pc,.int .i64 d.E,.int .i64 d.O,.slice d.ma d.ms.length d.mc,.slice d.va d.vs.length d.vc,.slice d.ca d.cs.length d.cc,.int .i64 d.F,.int .i64 d.G,.slice d.oa d.os.length d.oc] 49)).alloc (Obj.cells #[.int .i64 (-1)] 3)).alloc (Obj.cells #[.int .i64 1] 3)=W0 at *
 clear e1 e2 HD
 refine wpIn_loop (fun a W=>∃ (f Fw:Nat) (Ds:List Nat) (u5 u6 u7 u8 u9 u10 u11 u12 u13 u14 u15 u16 u17 u18 u19 u20 u21 u22 u23 u24 u25:Value),1≤f∧f≤d.ms.length+1∧w.heap.size+1<Fw∧Ds.Nodup∧VcW w W d w.heap.size (w.heap.size+1) Fw W.heap.size (-1) f Ds∧(∀ q ∈ vcL d (d.ss.length-2),1≤q.2→f≤q.2) ∧
  a={ tmps:=#[.agg #[.slice d.sa d.ss.length d.sc,.slice d.pa d.ps.length d.pc,.int .i64 d.E,.int .i64 d.O,.slice d.ma d.ms.length d.mc,.slice d.va d.vs.length d.vc,.slice d.ca d.cs.length d.cc,.int .i64 d.F,.int .i64 d.G,.slice d.oa d.os.length d.oc],.pointer (some ⟨w.heap.size,0,none⟩),.int .i64 0,.pointer (some ⟨w.heap.size+1,0,none⟩),.pointer (some ⟨Fw,0,none⟩),u5,u6,u7,u8,u9,u10,u11,u12,u13,u14,u15,u16,u17,u18,u19,u20,u21,u22,u23,u24,u25],defers:=Ds.map MkD }) (vcMu d.ms.length) ?start ?round
 case start=>exact ⟨1,w.heap.size+1+1,[],_,_,_,_,_,_,_,_,_,_,_,_,_,_,_,_,_,_,_,_,_,Nat.le_refl _,by omega,by omega,List.nodup_nil,by rw [e3];exact HW0.out,fun q _ h=>h,rfl⟩
 case round=>
  rintro a W ⟨f,Fw,Ds,u5,u6,u7,u8,u9,u10,u11,u12,u13,u14,u15,u16,u17,u18,u19,u20,u21,u22,u23,u24,u25,hf1,hf2,hFw,hnd,hw,hall,rfl⟩
  clear HW0 e3
  have HW:Hid (Ds.Nodup∧VcW w W d w.heap.size (w.heap.size+1) Fw W.heap.size (-1) f Ds∧∀ q ∈ vcL d (d.ss.length-2),1≤q.2→f≤q.2):=⟨hnd,hw,hall⟩
  obtain ⟨x0,x1,x2,x3,x4,x5,x6,x7,x8,x9,xl⟩:=hw.bx
  have y0:=hw.fd.cell
  have y1:=hw.fw.cell
  have y2:=hw.fw.frozen
  clear hnd hw hall
  by_cases hlt:f≤d.ms.length
  ·have hlti:(f:Int)≤(d.ms.length:Int):=by omega
   have H1:=callsIn_wide (n:=n-1).2 (unchained_any d W)
   gi_wp2_with fail
   refine ⟨trivial,H1.mono ?_⟩
   clear H1
   rintro e w1 ⟨rfl,rfl⟩
   have hsz:(W.alloc (Obj.cells #[.slice d.sa d.ss.length d.sc,.slice d.pa d.ps.length d.pc,.int .i64 d.E,.int .i64 d.O,.slice d.ma d.ms.length d.mc,.slice d.va d.vs.length d.vc,.slice d.ca d.cs.length d.cc,.int .i64 d.F,.int .i64 d.G,.slice d.oa d.os.length d.oc] 49)).heap.size=W.heap.size+1:=by simp
   have HDX:Hid (Dk10 (W.alloc (Obj.cells #[.slice d.sa d.ss.length d.sc,.slice d.pa d.ps.length d.pc,.int .i64 d.E,.int .i64 d.O,.slice d.ma d.ms.length d.mc,.slice d.va d.vs.length d.vc,.slice d.ca d.cs.length d.cc,.int .i64 d.F,.int .i64 d.G,.slice d.oa d.os.length d.oc] 49)) W.heap.size d):=Dk10.new W d 49
   have hbx:Below W.heap.size W (W.alloc (Obj.cells #[.slice d.sa d.ss.length d.sc,.slice d.pa d.ps.length d.pc,.int .i64 d.E,.int .i64 d.O,.slice d.ma d.ms.length d.mc,.slice d.va d.vs.length d.vc,.slice d.ca d.cs.length d.cc,.int .i64 d.F,.int .i64 d.G,.slice d.oa d.os.length d.oc] 49)):=bAw
   have HW1:Hid (VcW w (W.alloc (Obj.cells #[.slice d.sa d.ss.length d.sc,.slice d.pa d.ps.length d.pc,.int .i64 d.E,.int .i64 d.O,.slice d.ma d.ms.length d.mc,.slice d.va d.vs.length d.vc,.slice d.ca d.cs.length d.cc,.int .i64 d.F,.int .i64 d.G,.slice d.oa d.os.length d.oc] 49)) d w.heap.size (w.heap.size+1) Fw (W.heap.size+1) (-1) f Ds):=by
    have h:=HW.out.2.1.own (World.grownBy_alloc W (Obj.cells #[.slice d.sa d.ss.length d.sc,.slice d.pa d.ps.length d.pc,.int .i64 d.E,.int .i64 d.O,.slice d.ma d.ms.length d.mc,.slice d.va d.vs.length d.vc,.slice d.ca d.cs.length d.cc,.int .i64 d.F,.int .i64 d.G,.slice d.oa d.os.length d.oc] 49) none) (fun r e=>by cases e) (Nat.le_of_lt HW.out.2.1.bx.lt) nl
    exact ⟨h.bx,h.fd,h.fw,fun D hD=>⟨(h.mrk D hD).1,by have:=(h.mrk D hD).2.1;omega,(h.mrk D hD).2.2⟩,h.bel⟩
   have HDK:Hid (DkI (W.alloc (Obj.cells #[.slice d.sa d.ss.length d.sc,.slice d.pa d.ps.length d.pc,.int .i64 d.E,.int .i64 d.O,.slice d.ma d.ms.length d.mc,.slice d.va d.vs.length d.vc,.slice d.ca d.cs.length d.cc,.int .i64 d.F,.int .i64 d.G,.slice d.oa d.os.length d.oc] 49)) d):=HB.out.1.below HW1.out.bel nl
   clear x0 x1 x2 x3 x4 x5 x6 x7 x8 x9 xl y0 y1 y2 hbx
   have HWN:Hid (w.heap.size<W.heap.size):=HW.out.2.1.bx.lt
   have HFWL:Hid (Fw<W.heap.size+1):=by have:=HW1.out.fw.lt;unfold Hid;omega
   obtain ⟨W1,hW1⟩:∃ W1,W.alloc (Obj.cells #[.slice d.sa d.ss.length d.sc,.slice d.pa d.ps.length d.pc,.int .i64 d.E,.int .i64 d.O,.slice d.ma d.ms.length d.mc,.slice d.va d.vs.length d.vc,.slice d.ca d.cs.length d.cc,.int .i64 d.F,.int .i64 d.G,.slice d.oa d.os.length d.oc] 49)=W1:=⟨_,rfl⟩
   rw [hW1] at hsz HDX HW1 HDK ⊢
   have HSZ:Hid (W1.heap.size=W.heap.size+1):=hsz
   clear hW1 hsz
   gi_wp2
   refine wpIn_rangeFunc_ownF rfl h1 (gf:=150) (lb:=#[.pointer (some ⟨W.heap.size,0,none⟩)]) rfl trivial (enters_of Tryz.func150 (by kernel_rfl) rfl)
    (encs:=vcE) (Kp:=KpC) (unch_stops d (n-1) (by omega) W.heap.size W1 HDK.out HDX.out hr HB.out.2 hcs) (fun h k=>h.trans k) KpC.put (Below.refl _ _) (fun _=>rfl)
    (VcY w d w.heap.size (w.heap.size+1) Fw (W.heap.size+1) f Ds)
    (fun c pre X=>c=.exit 0∧VcX w d w.heap.size (w.heap.size+1) Fw (W.heap.size+1) f Ds pre X)
    (fun pre A B row hs hg hr2=>⟨hs.1,hs.2.own hg (fun r e=>by have h:=hr2 r e;rw [HSZ.out] at h;exact h) (by have:=HWN.out;omega) nl⟩)
    (fun c pre A B row hs hg hr2=>by
     obtain ⟨hc,p,x,h1,h2,h3,h4⟩:=hs
     exact ⟨hc,p,x,h1,h2,h3,h4.own hg (fun r e=>by have h:=hr2 r e;rw [HSZ.out] at h;exact h) (by have:=HWN.out;omega) nl⟩)
    ⟨fun x hx=>(by cases hx),HW1.out⟩
    (fun x=>{ tmps:=#[.agg #[.slice d.sa d.ss.length d.sc,.slice d.pa d.ps.length d.pc,.int .i64 d.E,.int .i64 d.O,.slice d.ma d.ms.length d.mc,.slice d.va d.vs.length d.vc,.slice d.ca d.cs.length d.cc,.int .i64 d.F,.int .i64 d.G,.slice d.oa d.os.length d.oc],.pointer (some ⟨w.heap.size,0,none⟩),.int .i64 0,.pointer (some ⟨w.heap.size+1,0,none⟩),.pointer (some ⟨Fw,0,none⟩),.int .i64 x.1.1,.slice x.1.2.1 x.1.2.2.1 x.1.2.2.2,.int .i64 f,.pointer (some ⟨w.heap.size,4,none⟩),.pointer (some ⟨w.heap.size,4,none⟩),.slice d.ma d.ms.length d.mc,.int .i64 d.ms.length,.bool true,u13,u14,.agg #[.slice d.sa d.ss.length d.sc,.slice d.pa d.ps.length d.pc,.int .i64 d.E,.int .i64 d.O,.slice d.ma d.ms.length d.mc,.slice d.va d.vs.length d.vc,.slice d.ca d.cs.length d.cc,.int .i64 d.F,.int .i64 d.G,.slice d.oa d.os.length d.oc],.func (.func 150) #[] #[.pointer (some ⟨W.heap.size,0,none⟩)],.int .i64 x.1.1,.slice x.1.2.1 x.1.2.2.1 x.1.2.2.2,u19,u20,u21,u22,u23,u24,u25],defers:=[] }) ?assign ?body ?done ?stop
   case assign=>
    intro l x X K hK
    gi_wp2
    exact hK
   case body=>
    rintro l pre ⟨⟨s,za,zn,zc⟩,hxp⟩ X ⟨hne,hw⟩ hl2
    have HI:Hid ((∀ x ∈ pre,(vcP x).2≠f)∧VcW w X d w.heap.size (w.heap.size+1) Fw (W.heap.size+1) (-1) f Ds):=⟨hne,hw⟩
    have y0:=hw.fd.cell
    have y1:=hw.fw.cell
    have y2:=hw.fd.frozen
    clear hne hw
    dsimp only at hxp
    by_cases hq:zn=f
    ·have hq2:((zn:Int) == (f:Int))=true:=by simp [hq]
     have hq3:(zn:Int)=(f:Int):=by omega
     have HQ:Hid (zn=f):=hq
     clear hq
     gi_wp2
     exact ⟨KeepsOthers.setCell _ _ _,rfl,pre,_,rfl,HI.out.1,HQ.out,HI.out.2.set (by omega) (by omega) s⟩
    ·have hq2:((zn:Int) == (f:Int))=false:=by simp;omega
     have hq3:¬(zn:Int)=(f:Int):=by omega
     have HQ:Hid (zn≠f):=hq
     clear hq
     gi_wp2
     refine ⟨KeepsOthers.refl _,KpC.refl _,fun y hy=>?_,HI.out.2⟩
     rcases List.mem_append.1 hy with h | h
     ·exact HI.out.1 y h
     ·rw [List.mem_singleton.1 h]
      exact HQ.out
   case done=>
    rintro D xs X hD hxs ⟨hne,hw⟩ hK
    have HI:Hid (W1.heap.size≤D∧xs.map vcP=vcL d (d.ss.length-2)∧(∀ x ∈ xs,(vcP x).2≠f)∧VcW w X d w.heap.size (w.heap.size+1) Fw (W.heap.size+1) (-1) f Ds∧X.heap[D]?=some (.deferred (some []))):=⟨hD,hxs,hne,hw,hK⟩
    have y1:=hw.fw.cell
    clear hD hxs hne hw hK
    have HVW:Hid (VcW w (X.alloc (Obj.cells #[.int .i64 ((f:Int)+1)] 3)) d w.heap.size (w.heap.size+1) X.heap.size (X.heap.size+1) (-1) (f+1) (D :: Ds)):=by
     have hi:=HI.out.2.2.2.1
     have hD:=HI.out.1
     have hk:=HI.out.2.2.2.2
     rw [HSZ.out] at hD
     have hSX:=hi.bx.lt
     have hDX:=(Array.getElem?_eq_some_iff.1 hk).1
     refine ⟨hi.bx.alloc _,hi.fd.alloc _,?_,fun E hE=>?_,hi.bel.alloc (Nat.le_of_lt hSX) _⟩
     ·rw [show ((f+1:Nat):Int)=(f:Int)+1 by omega]
      exact Boxed.new X 3 _
     ·rcases List.mem_cons.1 hE with rfl | h
      ·exact ⟨by have:=HWN.out;omega,by omega,(Below.heap_alloc _ _ _ hDX).trans hk⟩
      ·have h2:=hi.mrk E h
       have h3:=(Array.getElem?_eq_some_iff.1 h2.2.2).1
       exact ⟨h2.1,by omega,(Below.heap_alloc _ _ _ h3).trans h2.2.2⟩
    have HND:Hid ((D :: Ds).Nodup):=List.nodup_cons.2 ⟨fun h=>by have h2:=(HI.out.2.2.2.1.mrk D h).2.1;have h3:=HI.out.1;rw [HSZ.out] at h3;omega,HW.out.1⟩
    have HAL:Hid (∀ (a:Int) (b:Nat),(a,b) ∈ vcL d (d.ss.length-2)→1≤b→f+1≤b):=fun a b hq h0=>by
     have h2:=HW.out.2.2 (a,b) hq h0
     rw [←HI.out.2.1] at hq
     obtain ⟨y,hy,hyq⟩:=List.mem_map.1 hq
     have h3:=HI.out.2.2.1 y hy
     rw [hyq] at h3
     simp only at h2 h3
     omega
    have hc1:(X.alloc (Obj.cells #[.int .i64 ((f:Int)+1)] 3)).cell? ⟨X.heap.size,0,none⟩=some (.int .i64 ((f+1:Nat):Int)):=HVW.out.fw.cell
    have hc2:W.cell? ⟨Fw,0,none⟩=some (.int .i64 (f:Int)):=HW.out.2.1.fw.cell
    have HC:Hid ((X.alloc (Obj.cells #[.int .i64 ((f:Int)+1)] 3)).cell? ⟨X.heap.size,0,none⟩=some (.int .i64 ((f+1:Nat):Int))∧W.cell? ⟨Fw,0,none⟩=some (.int .i64 (f:Int))):=⟨hc1,hc2⟩
    have hXF:Fw<X.heap.size:=HI.out.2.2.2.1.fw.lt
    clear hc1 hc2
    simp only [Exit.then,Exit.inBlock]
    gi_wp2
    refine ⟨⟨f+1,by omega,by omega,X.heap.size,by omega,D :: Ds,HND.out,HVW.out,HAL.out,rfl,rfl⟩,?_⟩
    rw [vcMu_eq (g:=f+1) rfl HC.out.1,vcMu_eq (g:=f) rfl HC.out.2]
    omega
   case stop=>
    rintro D c pre X hD hpre ⟨rfl,p,x,rfl,hne,hx,hw⟩ hK
    have HI:Hid (VcW w X d w.heap.size (w.heap.size+1) Fw (W.heap.size+1) (vcP x).1 f Ds):=hw
    have y0:=hw.fd.cell
    have HF:Hid ((vcF d (d.ss.length-2)).1=(vcP x).1):=vcF_hit d _ f (p.map vcP) (vcP x) (by omega) (by rw [List.map_append] at hpre;exact hpre) (fun q hq=>by
     obtain ⟨y,hy,rfl⟩:=List.mem_map.1 hq
     exact hne y hy) hx HW.out.2.2
    have HK:Hid (W1.heap.size≤D∧X.heap[D]?=some (.deferred (some []))):=⟨hD,hK⟩
    clear hpre hne hx hw hK hD
    gi_wp2
    exact leaves_marks w.heap.size w nl (fun X hX=>⟨_,results_tmp rfl _ _ _,by rw [HF.out];rfl,hX⟩) (D :: Ds) X HI.out.bel (List.nodup_cons.2 ⟨fun h=>by have h2:=(HI.out.mrk D h).2.1;have h3:=HK.out.1;rw [HSZ.out] at h3;omega,HW.out.1⟩) (fun E hE=>by
     rcases List.mem_cons.1 hE with rfl | h
     ·exact ⟨by have h3:=HK.out.1;rw [HSZ.out] at h3;have:=HWN.out;omega,HK.out.2⟩
     ·exact ⟨(HI.out.mrk E h).1,(HI.out.mrk E h).2.2⟩)
  ·have hlti:¬(f:Int)≤(d.ms.length:Int):=by omega
   have HF:Hid ((vcF d (d.ss.length-2)).1=-1):=vcF_none d _ d.ms.length (fun q hq h0=>by have:=HW.out.2.2 q hq h0;omega) (vcL_le d _)
   gi_wp2_with fail
   exact leaves_marks w.heap.size w nl (fun X hX=>⟨_,results_tmp rfl _ _ _,by rw [HF.out];rfl,hX⟩) Ds W HW.out.2.1.bel HW.out.1 (fun D hD=>⟨(HW.out.2.1.mrk D hD).1,(HW.out.2.1.mrk D hD).2.2⟩)
end Go.Proofs.YtaibkchbkedjnaaGreatDoor
