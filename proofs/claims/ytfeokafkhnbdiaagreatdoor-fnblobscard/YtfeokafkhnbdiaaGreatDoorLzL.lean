/- Lemmas on the way. -/
import Derived.Test.YtfeokafkhnbdiaaGreatDoorPcN
import Derived.Test.YtfeokafkhnbdiaaGreatDoorSqEq
import Derived.Test.YtfeokafkhnbdiaaGreatDoorCut
import Derived.Test.YtfeokafkhnbdiaaGreatDoorFnD
import Derived.Test.YtfeokafkhnbdiaaGreatDoorHPut2M
import Derived.Maps.GroupsBeside
import Derived.OpenShut
import Derived.ChangeSlices
import Derived.BigQuiet
import Derived.Laws.CopyOwn
import Derived.Deep.RegionLaw
import Derived.Test.YtfeokafkhnbdiaaGreatDoorPcB
import Derived.Test.YtfeokafkhnbdiaaGreatDoorPut1
set_option maxRecDepth 20000
set_option maxHeartbeats 16000000
namespace Go.Proofs.YtfeokafkhnbdiaaGreatDoor
open Go.RowKit
set_option linter.unusedVariables false
set_option linter.unusedSimpArgs false
def Few4 (ss:List Sq):Prop:=ss.length≤65∧∀ s ∈ ss,s.ls.length≤64∧(0≤s.n∧s.n≤64)∧(0≤s.d∧s.d≤64)
def FnA (w:World) (B:Nat) (v:Value) (cs:List (List Int × Int × Int)):Prop:=∃ ss:List Sq,ss.map Sq.ct=cs∧OVq w B v ss∧DeepQ w B ss∧Few4 ss
theorem St.few {ys:List Int} {f q:Nat} {ss:List Sq} (h:St ys f q (ss.map Sq.ct)) (hn:ys.length≤64):Few4 ss:=by
 have h1:=h.cl
 have h2:=h.ql
 rw [List.length_map] at h1
 refine ⟨by omega,fun s hs=>?_⟩
 obtain ⟨p1,n,d,p2,p3,p4⟩:=h.parts s.ct (List.mem_map_of_mem hs)
 have e1:s.ls.length≤ys.length:=p1
 have e2:s.n=n:=congrArg Prod.fst p2
 have e3:s.d=d:=congrArg Prod.snd p2
 omega
theorem Few4.snoc {ys:List Int} {f q:Nat} {ss:List Sq} (h:St ys f q (ss.map Sq.ct)) (hn:ys.length≤64) {s:Sq} (h1:s.ls.length≤64) (h2:0≤s.n∧s.n≤64) (h3:0≤s.d∧s.d≤64):Few4 (ss++[s]):=by
 have h4:=h.few hn
 have h5:=h.cl
 have h6:=h.ql
 rw [List.length_map] at h5
 refine ⟨by rw [List.length_append];simp;omega,fun x hx=>?_⟩
 rcases List.mem_append.1 hx with hx | hx
 ·exact h4.2 x hx
 ·obtain rfl:x=s:=by simpa using hx
  exact ⟨h1,h2,h3⟩
theorem Few4.rng {ss:List Sq} (h:Few4 ss):∀ s ∈ ss,rI s.n∧rI s.d∧s.ls.length≤maxLen:=fun s hs=>by
 obtain ⟨h1,h2,h3⟩:=h.2 s hs
 exact ⟨⟨by omega,by omega⟩,⟨by omega,by omega⟩,by unfold maxLen;omega⟩
end Go.Proofs.YtfeokafkhnbdiaaGreatDoor
namespace Go.Proofs.YtfeokafkhnbdiaaGreatDoor
open Go.RowKit Go.Maps Go.ChangeShapes Go.ChangeAt
set_option linter.unusedVariables false
theorem Tryz.zeroSI (w:World):(zeroValue 38).run Tryz.prog w=.ok (.slice none 0 0) w:=by kernel_rfl
def Itm (d:DataW Unit) (zs:List Int):Prop:=(d=.nil∧zs=[])∨d=.slice (lits .i64 zs) []
theorem lits_inj {zs ys:List Int} (h:(lits .i64 zs:List (DataW Unit))=lits .i64 ys):zs=ys:=by
 unfold lits at h
 exact (List.map_inj_right (fun a b hab=>by simpa using hab)).1 h
theorem Itm.eq {d:DataW Unit} {zs ys:List Int} (h:Itm d zs) (h2:Itm d ys):zs=ys:=by
 rcases h with ⟨h,rfl⟩ | h <;> rcases h2 with ⟨h2,rfl⟩ | h2
 ·rfl
 ·rw [h] at h2;cases h2
 ·rw [h] at h2;cases h2
 ·rw [h] at h2
  injection h2 with h2
  exact lits_inj h2
theorem Itm.of {w:World} {base:Nat} {e:TypeId} {v:Value} {zs:List Int} {d:DataW Unit} (h:w.ownsInts base e .i64 v zs) (hd:d=rowDatum .i64 v zs):Itm d zs:=by
 rcases h.datum (H:=Unit) with ⟨h1,h2⟩ | h1
 ·exact .inl ⟨hd.trans h1,h2⟩
 ·exact .inr (hd.trans h1)
theorem grown_below {w w':World} (hb:Below w.heap.size w w'):w.grownBy w' none:=⟨hb.os,hb.tape,hb.output,hb.size,fun k hk _=>hb.block k hk⟩
theorem wanted_step8 {P:Program} {ops:Array Oper} {o:Oper} {a:Act} {w:World} {K:Act→World→Prop} {Q:Exit→Act→World→Prop} {E:Prop} (hg:o.guard=none) (h:Oper.wp P o a w K Q) :
  if Region.wanted o (yielded ops a.tmps)=true then Oper.wp P o a w K Q else E:=by
 rw [if_pos (by simp [Region.wanted,hg])]
 exact h
theorem wp_append_i1 {o:Oper} {a:Act} {w:World} {K:Act→World→Prop} {Q:Exit→Act→World→Prop} (s x:Operand) (ho:o.op=.call { callee:=.builtin .append,args:=#[s,x],argTypes:=#[38,38] })
  (B:Nat) (v:Value) (zs:List Int) (hs:a.eval s=v) (hown:OVI w B v zs) (X:Nat) (z:Int) (hx:a.eval x=.slice (some ⟨X,0,none⟩) 1 1) (hX:w.cell? ⟨X,0,none⟩=some (.int .i64 z)) (hz0:-9223372036854775808≤z) (hz1:z≤9223372036854775807) (hb1:zs.length≤1000000) (hbase:B≤w.heap.size)
  (h:∀ v' w',OVI w' B v' (zs++[z])→w.grownBy w' v.ownBlock→(v'.ownBlock=v.ownBlock∨v'.ownBlock=some w.heap.size)→K (a.put o.dst v') w'):o.wp Tryz.prog a w K Q:=by
 obtain ⟨i0,hi,hz0',hz1',hz2⟩:=info_parts Tryz.infoI64
 obtain ⟨v',w',hr,h2,h3,_,h5⟩:=run_append_own_at (P:=Tryz.prog) w B 38 o.type 3 i0 (.int .i64 0) 1 8 Tryz.underlying38 hi hz0' hz1' hz2 rfl (by decide) v zs.length _ hown.1 ⟨X,0,none⟩ 1 1 [.int .i64 z] rfl (by
  intro j u hu
  cases j with
  | zero=>simp at hu;subst hu;simpa [Addr.add] using hX
  | succ j=>simp at hu) (by simp [Value.oneCell']) (by unfold maxLen;omega) (by omega) hbase
 have hr':(Builtin.append_ #[38,38] o.type #[v,.slice (some ⟨X,0,none⟩) 1 1]).run Tryz.prog w=.ok v' w':=hr
 unfold Oper.wp execOp
 simp only [ho,resolve,invoke,builtin,Sem.run_bind,Sem.run_pure,Result.andThen_ok,List.map_toArray,List.map_cons,List.map_nil,hs,hx,hr']
 refine h v' w' ⟨?_,fun y hy=>?_⟩ h3 h5
 ·rw [List.length_append,List.map_append]
  exact h2
 ·rcases List.mem_append.1 hy with hy | hy
  ·exact hown.2 y hy
  ·simp at hy
   omega
theorem blk_cellI {w:World} {R j:Nat} {cur:Array Value} {T:TypeId} {v:Value} (hR:w.heap[R]?=some (.cells cur T (0,0))) (hv:cur[j]?=some v):w.cell? ⟨R,j,none⟩=some v:=by
 rw [cell_of_row w R j cur T (0,0) hR];exact hv
theorem set_below {w0 w1 w2:World} {M:Nat} {v:Value} {zs:List Int} {wv:World} (hg1:w0.grownBy w1 v.ownBlock) (hg2:w1.grownBy w2 (some M)) (hM:M≤w0.heap.size) (ho:OVI wv (M+1) v zs):Below M w0 w2:=
 (((Below.refl M w0).grown hg1 hM (fun j hj=>by have:=ho.blk hj;omega)).grown hg2 (by have:=hg1.size;omega) (fun j hj=>by cases hj;exact Nat.le_refl _))
end Go.Proofs.YtfeokafkhnbdiaaGreatDoor
namespace Go.Proofs.YtfeokafkhnbdiaaGreatDoor
open Go.RowKit
set_option linter.unusedVariables false
set_option linter.unusedSimpArgs false
def LtA (ys:List Int) (p:Nat) (x y z:Int):Prop:=(p+3≤ys.length→x=ys.getD p 0∧y=ys.getD (p+1) 0∧z=ys.getD (p+2) 0)∧(0≤x∧x≤255)∧(0≤y∧y≤255)∧(0≤z∧z≤255)
theorem lt_cells {w:World} {b o:Nat} {ys:List Int} (hc:∀ i,i<ys.length→w.cell? ⟨b,o+i,none⟩=some (.int .u8 (ys.getD i 0))) (p k:Nat) (hk:p+k≤ys.length) :
  ∀ j u,(((ys.drop p).take k).map (Value.int .u8))[j]?=some u→w.cell? ((⟨b,o+p,none⟩:Addr).add j)=some u:=by
 intro j u hu
 simp only [List.getElem?_map,List.getElem?_take] at hu
 split at hu
 ·rename_i hj
  rw [List.getElem?_drop] at hu
  have h1:=hc (p+j) (by omega)
  rw [List.getElem?_eq_getElem (by omega)] at hu
  simp at hu
  rw [←hu]
  have h2:(⟨b,o+p,none⟩:Addr).add j=⟨b,o+(p+j),none⟩:=by
   cases j with
   | zero=>simp [Addr.add]
   | succ j=>simp [Addr.add];omega
  rw [h2,h1]
  simp [List.getD_eq_getElem?_getD,List.getElem?_eq_getElem (show p+j<ys.length by omega)]
 ·simp at hu
theorem lt_splice {ys:List Int} {p:Nat} (hr:∀ z ∈ ys,0≤z∧z≤255) (hp:p≤ys.length) :
  ∃ x y z:Int,splice [Value.int .u8 0,.int .u8 0,.int .u8 0] 0 (((ys.drop p).take (min (ys.length-p) 3)).map (Value.int .u8))=[Value.int .u8 x,.int .u8 y,.int .u8 z]∧LtA ys p x y z:=by
 have hd:(ys.drop p).length=ys.length-p:=List.length_drop
 have hm:∀ z ∈ ys.drop p,0≤z∧z≤255:=fun z hz=>hr z (List.mem_of_mem_drop hz)
 have hg:∀ i,ys.getD (p+i) 0=(ys.drop p).getD i 0:=fun i=>by simp [List.getD_eq_getElem?_getD]
 have h0:=hg 0
 rw [Nat.add_zero] at h0
 unfold LtA
 rw [h0,hg 1,hg 2,←hd]
 generalize ys.drop p=l at *
 rcases l with _ | ⟨x,_ | ⟨y,_ | ⟨z,l⟩⟩⟩
 ·exact ⟨0,0,0,by simp [splice],fun h=>by simp at hd;omega,by omega,by omega,by omega⟩
 ·have:=hm x (by simp)
  exact ⟨x,0,0,by simp [splice],fun h=>by simp at hd;omega,by omega,by omega,by omega⟩
 ·have:=hm x (by simp)
  have:=hm y (by simp)
  exact ⟨x,y,0,by simp [splice],fun h=>by simp at hd;omega,by omega,by omega,by omega⟩
 ·have:=hm x (by simp)
  have:=hm y (by simp)
  have:=hm z (by simp)
  refine ⟨x,y,z,?_,fun h=>⟨rfl,rfl,rfl⟩,by omega,by omega,by omega⟩
  rw [show min (x :: y :: z :: l).length 3=3 by simp]
  simp [splice]
theorem lettersAt_any (a:Option Addr) (c:Nat) (ys:List Int) (p:Nat) (w:World) (hb:Byt w a ys) (hn:ys.length≤64) (hp:p≤ys.length) (hcap:ys.length≤c) :
  Calls Tryz.prog 60 #[.slice a ys.length c,.int .i64 p] w fun e w'=>(∃ x y z:Int,e=.returned (.tuple #[.agg #[.int .u8 x,.int .u8 y,.int .u8 z],.bool (decide (p+3≤ys.length))])∧LtA ys p x y z)∧Below w.heap.size w w':=by
 obtain ⟨i0,hi,hz0,hz1,hz2⟩:=info_parts Tryz.infoU8
 have hsz:(Tryz.prog.info? 5).map (·.size)=some 1:=by rw [hi];simp [hz1]
 obtain ⟨x,y,z,hsp,hlt⟩:=lt_splice hb.1 hp
 obtain ⟨cs,hcs⟩:∃ cs,cs=((ys.drop p).take (min (ys.length-p) 3)).map (Value.int .u8):=⟨_,rfl⟩
 obtain ⟨k,hk⟩:∃ k,k=min (ys.length-p) 3:=⟨_,rfl⟩
 rw [←hcs] at hsp
 have HCL:Hid (cs.length=k∧k=min (ys.length-p) 3):=⟨by rw [hcs,hk];simp,hk⟩
 have HONE:Hid (∀ u ∈ cs,u.oneCell'=true):=by rw [hcs];exact oneCells _
 have HSP:Hid (splice [Value.int .u8 0,.int .u8 0,.int .u8 0] 0 cs=[Value.int .u8 x,.int .u8 y,.int .u8 z]∧LtA ys p x y z):=⟨hsp,hlt⟩
 obtain ⟨a',ha'⟩:∃ a',a'=if c=p then a else a.map (·.add (p*1)):=⟨_,rfl⟩
 have HSRC:Hid (∀ W:World,Below w.heap.size w W→0<cs.length→∃ ad,a'=some ad∧∀ j u,cs[j]?=some u→W.cell? (ad.add j)=some u):=by
  intro W hW h0
  obtain ⟨b,o,rfl,hbl,hc⟩:=hb.2 (by rw [HCL.out.1,HCL.out.2] at h0;omega)
  rw [if_neg (by rw [HCL.out.1,HCL.out.2] at h0;omega)] at ha'
  refine ⟨⟨b,o+p,none⟩,?_,?_⟩
  ·rw [ha']
   simp [Addr.add]
  ·rw [hcs]
   exact lt_cells (fun i hi=>keep hW hbl (hc i hi)) p _ (by omega)
 have hslc:∀ W,(Instr.slice 22 (.slice a ys.length c) (some (.int .i64 (p:Int))) none none).run Tryz.prog W=.ok (.slice a' (ys.length-p) (c-p)) W:=by
  intro W
  rw [run_slice_l W 22 _ _ _ (by simp [Program.elem,Tryz.underlying22]) .i64 _ (by omega) (by omega)]
  rw [ha']
  simp [Program.elem,Tryz.underlying22,Go.sizeOf,typeInfo,hi,hz1,Result.andThen,sliced]
 have HEQ:Hid ((decide ((k:Int)=3)=decide (p+3≤ys.length))∧True):=by
  refine ⟨?_,trivial⟩
  rw [hk]
  congr 1
  apply propext
  omega
 generalize ys.length-p=n at *
 clear hb hsp hlt hcs hk ha' hcap
 go_enter Tryz.func60,Tryz.ntmps60
 go_wp2_with fail
 have HG:Hid (((w.alloc (Obj.cells #[.int .u8 0,.int .u8 0,.int .u8 0] 97)).alloc (Obj.cells #[.int .u8 0,.int .u8 0,.int .u8 0] 97)).heap[w.heap.size+1]?=some (.cells [Value.int .u8 0,.int .u8 0,.int .u8 0].toArray 97 (0,0))):=by
  have:=heap_alloc_new (w.alloc (Obj.cells #[.int .u8 0,.int .u8 0,.int .u8 0] 97)) (Obj.cells #[.int .u8 0,.int .u8 0,.int .u8 0] 97)
  rw [World.size_alloc] at this
  exact this
 have HB1:Hid (((w.alloc (Obj.cells #[.int .u8 0,.int .u8 0,.int .u8 0] 97)).alloc (Obj.cells #[.int .u8 0,.int .u8 0,.int .u8 0] 97)).heap[w.heap.size]?=some (.cells #[.int .u8 0,.int .u8 0,.int .u8 0] 97 (0,0))):=(Below.heap_alloc _ _ _ (by simp)).trans (heap_alloc_new w _)
 have HBEL:Hid (Below w.heap.size w ((w.alloc (Obj.cells #[.int .u8 0,.int .u8 0,.int .u8 0] 97)).alloc (Obj.cells #[.int .u8 0,.int .u8 0,.int .u8 0] 97))):=((Below.refl _ _).alloc nl _).alloc (by simp) _
 generalize (w.alloc (Obj.cells #[.int .u8 0,.int .u8 0,.int .u8 0] 97)).alloc (Obj.cells #[.int .u8 0,.int .u8 0,.int .u8 0] 97)=V at *
 generalize hG:w.heap.size=G at *
 have HGS:Hid (w.heap.size=G∧True):=⟨hG,trivial⟩
 clear hG
 go_region_law (refine step_copy_splice rfl (.tmp 8) (.tmp 11) 22 22 rfl 5 Tryz.underlying22 hsz (some ⟨G+1,0,none⟩) a' 3 3 n (c-p) (by simp [Act.eval,Act.put]) (by simp [Act.eval,Act.put]) (G+1) 0 [Value.int .u8 0,.int .u8 0,.int .u8 0] 97 (by exact HG.out) cs (by rw [HCL.out.1];exact HCL.out.2) (fun hp=>⟨rfl,HSRC.out _ (by exact HBEL.out.drew) hp⟩) (by rw [HCL.out.1,HCL.out.2];simp only [List.length_cons,List.length_nil];omega) HONE.out (G+1) V (by exact (Below.refl _ _).drew) nl ?_;intro w4 hg4 hb4;rw [HCL.out.1])
 all_goals
  have HG4:Hid (w4.heap[G+1]?=some (.cells #[.int .u8 x,.int .u8 y,.int .u8 z] 97 (0,0))):=by have:=hg4.out;rw [HSP.out.1] at this;exact this
  have HG1:Hid (w4.heap[G]?=some (.cells #[.int .u8 0,.int .u8 0,.int .u8 0] 97 (0,0))):=(hb4.block G (by omega)).trans HB1.out
  have d0:w4.cell? ⟨G+1,0,none⟩=some (.int .u8 x):=by rw [cell_of_row w4 (G+1) 0 _ _ (0,0) HG4.out];rfl
  have d1:w4.cell? ⟨G+1,1,none⟩=some (.int .u8 y):=by rw [cell_of_row w4 (G+1) 1 _ _ (0,0) HG4.out];rfl
  have d2:w4.cell? ⟨G+1,2,none⟩=some (.int .u8 z):=by rw [cell_of_row w4 (G+1) 2 _ _ (0,0) HG4.out];rfl
  have e0:w4.cell? ⟨G,0,none⟩=some (.int .u8 0):=by rw [cell_of_row w4 G 0 _ _ (0,0) HG1.out];rfl
  have e1:w4.cell? ⟨G,1,none⟩=some (.int .u8 0):=by rw [cell_of_row w4 G 1 _ _ (0,0) HG1.out];rfl
  have e2:w4.cell? ⟨G,2,none⟩=some (.int .u8 0):=by rw [cell_of_row w4 G 2 _ _ (0,0) HG1.out];rfl
  have HB4:Hid (Below G w w4):=HBEL.out.trans (hb4.mono (Nat.le_succ _))
  clear hg4 hb4
  clear HG HB1 HSRC HONE HCL
  have f0:=frozen_of_row w4 G 0 _ _ HG1.out
  have f1:=frozen_of_row w4 G 1 _ _ HG1.out
  have f2:=frozen_of_row w4 G 2 _ _ HG1.out
  obtain ⟨bb,hbb⟩:∃ bb,bb=decide ((k:Int)=3):=⟨_,rfl⟩
  have hkb:((k:Int) == 3)=bb:=by rw [hbb];rfl
  have HBB:Hid (bb=decide (p+3≤ys.length)∧True):=⟨hbb.trans HEQ.out.1,trivial⟩
  clear hbb HEQ
  simp only [List.getElem_toArray,List.getElem_cons_succ,List.getElem_cons_zero,Act.put,List.setIfInBounds_toArray,List.set_cons_succ,List.set_cons_zero]
  go_wp2
  refine bodyPost_ret (v:=.tuple #[.agg #[.int .u8 x,.int .u8 y,.int .u8 z],.bool bb]) (by simp [results,Tryz.results60,go_sem,e0,e1,e2]) rfl ⟨⟨x,y,z,by rw [HBB.out.1],HSP.out.2⟩,?_⟩
  rw [HGS.out.1]
  exact ((HB4.out.setCell nl _).setCell nl _).setCell nl _
end Go.Proofs.YtfeokafkhnbdiaaGreatDoor
