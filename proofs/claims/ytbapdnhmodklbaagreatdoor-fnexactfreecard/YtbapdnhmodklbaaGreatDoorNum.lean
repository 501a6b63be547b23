/-
  Plain mathematics: bytes as a number, a number as bytes; putting bits behind, getting some of them.
-/
import Derived.Test.YtbapdnhmodklbaaGreatDoorItP
import Derived.Test.YtbapdnhmodklbaaGreatDoorElP
import Derived.Deep.Slices
import Derived.Deep.Strs
import Derived.ChangeSame
import Derived.Test.YtbapdnhmodklbaaGreatDoorElSz
import Derived.Test.YtbapdnhmodklbaaGreatDoorDkW
import Derived.Test.YtbapdnhmodklbaaGreatDoorRows
import Derived.WalkKit
import Derived.ProofKit
import Derived.OpenShut
import Derived.ShutString
import Derived.ChangeOld
import Derived.Below
import Derived.Lib.SmallJoins
import Derived.Deep.AppendLies
import Derived.Deep.RegionLaw
import Derived.BigRegion
import Derived.Deep.RegionHeld3
namespace Go.Proofs.YtbapdnhmodklbaaGreatDoor
open Go.ChangeShapes Go.WideShapes Go.ChangeAt Go.RowKit Go.Joins
set_option linter.unusedVariables false

theorem Tryz.cellsLItem :Tryz.prog.cellsOf 105=2:=by kernel_rfl
theorem Tryz.cellsIBs :Tryz.prog.cellsOf 79=1:=by kernel_rfl
theorem Tryz.cellsIInt :Tryz.prog.cellsOf 3=1:=by kernel_rfl

set_option maxRecDepth 20000 in
theorem item_of_trod {H:Type} {enc:TypeId × Value→H} {W:World} {n:Nat} {cs:List Value} {x:DataW H × List MemPlace} {b off:Nat} (hl:cs.length=2) (hc:∀ i,i<2→W.cell? ⟨b,off+i,none⟩=cs[i]?)
    (h:DataW.trod enc Tryz.prog W 0 (fun _=>true) true n 105 cs=some x):∃ e:El,LieE true W b off e∧rE true e∧Byt W e.a e.ls:=by
  obtain ⟨y0,y1,k,-,-,g0,g1⟩:=trod_struct2 Tryz.underlying105 h
  match cs,hl with
  | [v0, v1], _ =>
    have g0':DataW.trod enc Tryz.prog W 0 (fun _=>true) true k 3 [v0]=some y0:=by
      have:=g0
      simp only [Tryz.cellsIInt] at this
      exact this
    have g1':DataW.trod enc Tryz.prog W 0 (fun _=>true) true k 79 [v1]=some y1:=by
      have:=g1
      simp only [Tryz.cellsIBs] at this
      exact this
    obtain ⟨N,e1,_,w1⟩:=DataW.trod_int Tryz.underlying3 g0'
    obtain ⟨a,zs,cap,rfl,hb,hm⟩:=byt_of_trod g1'
    simp at e1
    subst e1
    have h0:=hc 0 (by omega)
    have h1:=hc 1 (by omega)
    simp at h0 h1
    have hr:=bounds_i64 w1
    exact ⟨⟨N,a,cap,zs⟩,⟨fun _=>h0,h1⟩,⟨hr.1,hr.2,hm,by simp⟩,hb⟩
theorem its_of_trod (p:Bool) {T S:TypeId} (hT:Tryz.prog.underlying S=some (.slice T)) (hcell:Tryz.prog.cellsOf T=eW p) {H:Type} {enc:TypeId × Value→H} {W:World} {fuel:Nat} {v:Value} {y:DataW H × List MemPlace}
    (one:∀ {n:Nat} {cs:List Value} {x:DataW H × List MemPlace} {b off:Nat},cs.length=eW p→(∀ i,i<eW p→W.cell? ⟨b,off+i,none⟩=cs[i]?)→DataW.trod enc Tryz.prog W 0 (fun _=>true) true n T cs=some x→∃ e:El,LieE p W b off e∧rE p e∧Byt W e.a e.ls)
    (h:DataW.trod enc Tryz.prog W 0 (fun _=>true) true fuel S [v]=some y) :
    ∃ (a:Option Addr) (ss:List El) (cap:Nat),v=.slice a ss.length cap∧Els p W a ss∧ss.length≤maxLen:=by
  rcases Go.Deep.open_slice hT h with ⟨hcs,_⟩ | ⟨x,l,c,m,n,D,Pl,hcs,_,hl,hm,hmm,_,hx⟩
  · simp at hcs
    subst hcs
    exact ⟨none,[],0,rfl,⟨by simp,by simp⟩,by simp⟩
  · simp at hcs
    subst hcs
    simp only [if_true] at hmm
    subst hmm
    rw [hcell] at hx
    have hw:0<eW p:=by cases p <;> simp [eW]
    by_cases hl0:l=0
    · subst hl0
      exact ⟨some x,[],m,rfl,⟨by simp,by simp⟩,by simp⟩
    · obtain ⟨b,off,spot⟩:=x
      obtain ⟨cs0,h0,_⟩:=hx 0 (by omega)
      obtain ⟨_,hlen0,hcell0⟩:=World.cells?_some h0
      have hc0:=hcell0 0 (by omega)
      have hspot:spot=none:=by
        rw [List.getElem?_eq_getElem (by omega)] at hc0
        simpa [Addr.add] using World.cell?_spot hc0
      subst hspot
      have hblk:b<W.heap.size:=by
        rw [List.getElem?_eq_getElem (by omega)] at hc0
        have:=World.block_lt_of_cell? _ _ hc0
        simpa [Addr.add] using this
      have hadd:∀ o i:Nat,(⟨b,o,none⟩:Addr).add i=⟨b,o+i,none⟩:=fun o i=>by unfold Addr.add;split <;> simp_all
      have each:∀ i,i<l→∃ e:El,LieE p W b (off+i * eW p) e∧rE p e∧Byt W e.a e.ls:=by
        intro i hi
        obtain ⟨cs',h1,h2⟩:=hx i (by omega)
        obtain ⟨_,hlen,hcell⟩:=World.cells?_some h1
        refine one hlen (fun j hj=>?_) h2
        have:=hcell j hj
        rw [hadd,hadd] at this
        exact this
      haveI:Inhabited El:=⟨de⟩
      obtain ⟨f,hf⟩:=Go.Deep.choose_lt each
      have hlen:((List.range l).map f).length=l:=by simp
      refine ⟨some ⟨b,off,none⟩,(List.range l).map f,m,by rw [hlen],⟨?_,fun _=>⟨b,off,rfl,hblk,fun i hi=>?_⟩⟩,by rw [hlen];omega⟩
      · intro s hs
        simp only [List.mem_map,List.mem_range] at hs
        obtain ⟨i,hi,rfl⟩:=hs
        exact (hf i hi).2
      · rw [hlen] at hi
        rw [show ((List.range l).map f).getD i de=f i from by simp [List.getD_eq_getElem?_getD,hi]]
        exact (hf i hi).1
theorem items_of_trod {H:Type} {enc:TypeId × Value→H} {W:World} {fuel:Nat} {v:Value} {y:DataW H × List MemPlace} (h:DataW.trod enc Tryz.prog W 0 (fun _=>true) true fuel 30 [v]=some y) :
    ∃ (a:Option Addr) (ss:List El) (cap:Nat),v=.slice a ss.length cap∧Els true W a ss∧ss.length≤maxLen:=its_of_trod true Tryz.underlying30 Tryz.cellsLItem (fun a b c=>item_of_trod a b c) h
theorem Tryz.cellsLPend :Tryz.prog.cellsOf 103=2:=by kernel_rfl
theorem Tryz.cellsLBs :Tryz.prog.cellsOf 79=1:=by kernel_rfl
theorem Tryz.cellsLInt :Tryz.prog.cellsOf 3=1:=by kernel_rfl

set_option maxRecDepth 20000 in
theorem pen_of_trod {H:Type} {enc:TypeId × Value→H} {W:World} {n:Nat} {cs:List Value} {x:DataW H × List MemPlace} {b off:Nat} (hl:cs.length=2) (hc:∀ i,i<2→W.cell? ⟨b,off+i,none⟩=cs[i]?)
    (h:DataW.trod enc Tryz.prog W 0 (fun _=>true) true n 103 cs=some x):∃ e:El,LieE true W b off e∧rE true e∧Byt W e.a e.ls:=by
  obtain ⟨y0,y1,k,-,-,g0,g1⟩:=trod_struct2 Tryz.underlying103 h
  match cs,hl with
  | [v0, v1], _ =>
    have g0':DataW.trod enc Tryz.prog W 0 (fun _=>true) true k 3 [v0]=some y0:=by
      have:=g0
      simp only [Tryz.cellsLInt] at this
      exact this
    have g1':DataW.trod enc Tryz.prog W 0 (fun _=>true) true k 79 [v1]=some y1:=by
      have:=g1
      simp only [Tryz.cellsLBs] at this
      exact this
    obtain ⟨N,e1,_,w1⟩:=DataW.trod_int Tryz.underlying3 g0'
    obtain ⟨a,zs,cap,rfl,hb,hm⟩:=byt_of_trod g1'
    simp at e1
    subst e1
    have h0:=hc 0 (by omega)
    have h1:=hc 1 (by omega)
    simp at h0 h1
    have hr:=bounds_i64 w1
    exact ⟨⟨N,a,cap,zs⟩,⟨fun _=>h0,h1⟩,⟨hr.1,hr.2,hm,by simp⟩,hb⟩
set_option maxRecDepth 20000 in
theorem sec_of_trod {H:Type} {enc:TypeId × Value→H} {W:World} {n:Nat} {cs:List Value} {x:DataW H × List MemPlace} {b off:Nat} (hl:cs.length=1) (hc:∀ i,i<1→W.cell? ⟨b,off+i,none⟩=cs[i]?)
    (h:DataW.trod enc Tryz.prog W 0 (fun _=>true) true n 79 cs=some x):∃ e:El,LieE false W b off e∧rE false e∧Byt W e.a e.ls:=by
  match cs,hl with
  | [v0], _ =>
    obtain ⟨a,zs,cap,rfl,hb,hm⟩:=byt_of_trod h
    have h0:=hc 0 (by omega)
    simp at h0
    exact ⟨⟨0,a,cap,zs⟩,⟨by simp,h0⟩,⟨by simp,by simp,hm,by simp⟩,hb⟩

theorem els_of_trod (p:Bool) {T S:TypeId} (hT:Tryz.prog.underlying S=some (.slice T)) (hcell:Tryz.prog.cellsOf T=eW p) {H:Type} {enc:TypeId × Value→H} {W:World} {fuel:Nat} {v:Value} {y:DataW H × List MemPlace}
    (one:∀ {n:Nat} {cs:List Value} {x:DataW H × List MemPlace} {b off:Nat},cs.length=eW p→(∀ i,i<eW p→W.cell? ⟨b,off+i,none⟩=cs[i]?)→DataW.trod enc Tryz.prog W 0 (fun _=>true) true n T cs=some x→∃ e:El,LieE p W b off e∧rE p e∧Byt W e.a e.ls)
    (h:DataW.trod enc Tryz.prog W 0 (fun _=>true) true fuel S [v]=some y) :
    ∃ (a:Option Addr) (ss:List El) (cap:Nat),v=.slice a ss.length cap∧Els p W a ss∧ss.length≤maxLen:=by
  rcases Go.Deep.open_slice hT h with ⟨hcs,_⟩ | ⟨x,l,c,m,n,D,Pl,hcs,_,hl,hm,hmm,_,hx⟩
  · simp at hcs
    subst hcs
    exact ⟨none,[],0,rfl,⟨by simp,by simp⟩,by simp⟩
  · simp at hcs
    subst hcs
    simp only [if_true] at hmm
    subst hmm
    rw [hcell] at hx
    have hw:0<eW p:=by cases p <;> simp [eW]
    by_cases hl0:l=0
    · subst hl0
      exact ⟨some x,[],m,rfl,⟨by simp,by simp⟩,by simp⟩
    · obtain ⟨b,off,spot⟩:=x
      obtain ⟨cs0,h0,_⟩:=hx 0 (by omega)
      obtain ⟨_,hlen0,hcell0⟩:=World.cells?_some h0
      have hc0:=hcell0 0 (by omega)
      have hspot:spot=none:=by
        rw [List.getElem?_eq_getElem (by omega)] at hc0
        simpa [Addr.add] using World.cell?_spot hc0
      subst hspot
      have hblk:b<W.heap.size:=by
        rw [List.getElem?_eq_getElem (by omega)] at hc0
        have:=World.block_lt_of_cell? _ _ hc0
        simpa [Addr.add] using this
      have hadd:∀ o i:Nat,(⟨b,o,none⟩:Addr).add i=⟨b,o+i,none⟩:=fun o i=>by unfold Addr.add;split <;> simp_all
      have each:∀ i,i<l→∃ e:El,LieE p W b (off+i * eW p) e∧rE p e∧Byt W e.a e.ls:=by
        intro i hi
        obtain ⟨cs',h1,h2⟩:=hx i (by omega)
        obtain ⟨_,hlen,hcell⟩:=World.cells?_some h1
        refine one hlen (fun j hj=>?_) h2
        have:=hcell j hj
        rw [hadd,hadd] at this
        exact this
      haveI:Inhabited El:=⟨de⟩
      obtain ⟨f,hf⟩:=Go.Deep.choose_lt each
      have hlen:((List.range l).map f).length=l:=by simp
      refine ⟨some ⟨b,off,none⟩,(List.range l).map f,m,by rw [hlen],⟨?_,fun _=>⟨b,off,rfl,hblk,fun i hi=>?_⟩⟩,by rw [hlen];omega⟩
      · intro s hs
        simp only [List.mem_map,List.mem_range] at hs
        obtain ⟨i,hi,rfl⟩:=hs
        exact (hf i hi).2
      · rw [hlen] at hi
        rw [show ((List.range l).map f).getD i de=f i from by simp [List.getD_eq_getElem?_getD,hi]]
        exact (hf i hi).1
theorem secs_of_trod {H:Type} {enc:TypeId × Value→H} {W:World} {fuel:Nat} {v:Value} {y:DataW H × List MemPlace} (h:DataW.trod enc Tryz.prog W 0 (fun _=>true) true fuel 22 [v]=some y) :
    ∃ (a:Option Addr) (ss:List El) (cap:Nat),v=.slice a ss.length cap∧Els false W a ss∧ss.length≤maxLen:=els_of_trod false Tryz.underlying22 Tryz.cellsLBs (fun a b c=>sec_of_trod a b c) h
theorem pens_of_trod {H:Type} {enc:TypeId × Value→H} {W:World} {fuel:Nat} {v:Value} {y:DataW H × List MemPlace} (h:DataW.trod enc Tryz.prog W 0 (fun _=>true) true fuel 23 [v]=some y) :
    ∃ (a:Option Addr) (ss:List El) (cap:Nat),v=.slice a ss.length cap∧Els true W a ss∧ss.length≤maxLen:=els_of_trod true Tryz.underlying23 Tryz.cellsLPend (fun a b c=>pen_of_trod a b c) h
theorem Tryz.cellsLPl :Tryz.prog.cellsOf 112=2:=by kernel_rfl
theorem Tryz.cellsLPI :Tryz.prog.cellsOf 3=1:=by kernel_rfl

set_option maxRecDepth 20000 in
theorem plc_of_trod {H:Type} {enc:TypeId × Value→H} {W:World} {n:Nat} {cs:List Value} {x:DataW H × List MemPlace} {b off:Nat} (hl:cs.length=2) (hc:∀ i,i<2→W.cell? ⟨b,off+i,none⟩=cs[i]?)
    (h:DataW.trod enc Tryz.prog W 0 (fun _=>true) true n 112 cs=some x):∃ p:Int × Int,(W.cell? ⟨b,off,none⟩=some (.int .i64 p.1)∧W.cell? ⟨b,off+1,none⟩=some (.int .i64 p.2))∧rP p:=by
  obtain ⟨y0,y1,k,-,-,g0,g1⟩:=trod_struct2 Tryz.underlying112 h
  match cs,hl with
  | [v0, v1], _ =>
    have g0':DataW.trod enc Tryz.prog W 0 (fun _=>true) true k 3 [v0]=some y0:=by
      have:=g0
      simp only [Tryz.cellsLPI] at this
      exact this
    have g1':DataW.trod enc Tryz.prog W 0 (fun _=>true) true k 3 [v1]=some y1:=by
      have:=g1
      simp only [Tryz.cellsLPI] at this
      exact this
    obtain ⟨N,e1,_,w1⟩:=DataW.trod_int Tryz.underlying3 g0'
    obtain ⟨D,e2,_,w2⟩:=DataW.trod_int Tryz.underlying3 g1'
    simp at e1 e2
    subst e1 e2
    have h0:=hc 0 (by omega)
    have h1:=hc 1 (by omega)
    simp at h0 h1
    exact ⟨(N,D),⟨h0,h1⟩,bounds_i64 w1,bounds_i64 w2⟩

theorem pls_of_trod {H:Type} {enc:TypeId × Value→H} {W:World} {fuel:Nat} {v:Value} {y:DataW H × List MemPlace}
    (h:DataW.trod enc Tryz.prog W 0 (fun _=>true) true fuel 26 [v]=some y) :
    ∃ (a:Option Addr) (ps:List (Int × Int)) (cap:Nat),v=.slice a ps.length cap∧Pls W a ps∧ps.length≤maxLen:=by
  rcases Go.Deep.open_slice Tryz.underlying26 h with ⟨hcs,_⟩ | ⟨x,l,c,m,n,D,Pl,hcs,_,hl,hm,hmm,_,hx⟩
  · simp at hcs
    subst hcs
    exact ⟨none,[],0,rfl,⟨by simp,by simp⟩,by simp⟩
  · simp at hcs
    subst hcs
    simp only [if_true] at hmm
    subst hmm
    rw [Tryz.cellsLPl] at hx
    by_cases hl0:l=0
    · subst hl0
      exact ⟨some x,[],m,rfl,⟨by simp,by simp⟩,by simp⟩
    · obtain ⟨b,off,spot⟩:=x
      obtain ⟨cs0,h0,_⟩:=hx 0 (by omega)
      obtain ⟨_,hlen0,hcell0⟩:=World.cells?_some h0
      have hc0:=hcell0 0 (by omega)
      have hspot:spot=none:=by
        rw [List.getElem?_eq_getElem (by omega)] at hc0
        simpa [Addr.add] using World.cell?_spot hc0
      subst hspot
      have hblk:b<W.heap.size:=by
        rw [List.getElem?_eq_getElem (by omega)] at hc0
        have:=World.block_lt_of_cell? _ _ hc0
        simpa [Addr.add] using this
      have hadd:∀ o i:Nat,(⟨b,o,none⟩:Addr).add i=⟨b,o+i,none⟩:=fun o i=>by unfold Addr.add;split <;> simp_all
      have each:∀ i,i<l→∃ p:Int × Int,(W.cell? ⟨b,off+i * 2,none⟩=some (.int .i64 p.1)∧W.cell? ⟨b,off+i * 2+1,none⟩=some (.int .i64 p.2))∧rP p:=by
        intro i hi
        obtain ⟨cs',h1,h2⟩:=hx i (by omega)
        obtain ⟨_,hlen,hcell⟩:=World.cells?_some h1
        refine plc_of_trod hlen (fun j hj=>?_) h2
        have:=hcell j hj
        rw [hadd,hadd] at this
        exact this
      haveI:Inhabited (Int × Int):=⟨dp⟩
      obtain ⟨f,hf⟩:=Go.Deep.choose_lt each
      have hlen:((List.range l).map f).length=l:=by simp
      refine ⟨some ⟨b,off,none⟩,(List.range l).map f,m,by rw [hlen],⟨?_,fun _=>⟨b,off,rfl,hblk,fun i hi=>?_⟩⟩,by rw [hlen];omega⟩
      · intro s hs
        simp only [List.mem_map,List.mem_range] at hs
        obtain ⟨i,hi,rfl⟩:=hs
        exact (hf i hi).2
      · rw [hlen] at hi
        rw [show ((List.range l).map f).getD i dp=f i from by simp [List.getD_eq_getElem?_getD,hi]]
        exact (hf i hi).1
theorem ins_of_trod {H:Type} {enc:TypeId × Value→H} {W:World} {fuel:Nat} {v:Value} {y:DataW H × List MemPlace}
    (h:DataW.trod enc Tryz.prog W 0 (fun _=>true) true fuel 29 [v]=some y) :
    ∃ (a:Option Addr) (zs:List Int) (cap:Nat),v=.slice a zs.length cap∧Ins W a zs∧zs.length≤maxLen:=by
  rcases open_ints Tryz.underlying29 Tryz.underlying3 (by kernel_rfl) h with ⟨hcs,_⟩ | ⟨x,l,c,zs,hcs,_,hl,hm,hz,_,hcell,hwz⟩
  · simp at hcs
    subst hcs
    exact ⟨.none,[],0,rfl,⟨by simp,by simp⟩,by simp [maxLen]⟩
  · simp at hcs
    subst hcs
    simp only [if_true] at hz
    have hlen:(zs.take l).length=l:=by rw [List.length_take];omega
    refine ⟨some x,zs.take l,c,by rw [hlen],⟨?_,?_⟩,by rw [hlen];omega⟩
    · intro z hz'
      have h1:=hwz z (List.mem_of_mem_take hz')
      exact bounds_i64 h1
    · intro hp
      rw [hlen] at hp
      obtain ⟨b,off,spot⟩:=x
      have hc:=hcell 0 (by omega)
      have hspot:spot=.none:=by simpa [Addr.add] using World.cell?_spot hc
      subst hspot
      refine ⟨b,off,rfl,?_,fun i hi=>?_⟩
      · have:=World.block_lt_of_cell? _ _ hc
        simpa [Addr.add] using this
      · rw [hlen] at hi
        have:=hcell i (by omega)
        have hadd:(⟨b,off,.none⟩:Addr).add i=⟨b,off+i,.none⟩:=by unfold Addr.add;split <;> simp_all
        rw [hadd] at this
        rw [show (zs.take l).getD i 0=zs.getD i 0 from by simp [hi]]
        exact this

set_option maxRecDepth 20000 in
set_option maxHeartbeats 2000000 in
/-- A disk that came in. -/
theorem open_disk {H:Type} {enc:TypeId × Value→H} {W:World} {r:Reach} {b0:Nat} {v:Value} {dd:DataW H} {p:List MemPlace}
    (hv:Value.okWide Tryz.prog W r b0 34 v) (h:DataW.Trod enc Tryz.prog W 0 (fun _=>true) true 34 v dd p) :
    ∃ d:DkV,v=.agg #[Value.slice d.sa d.ss.length d.sc,Value.slice d.pa d.ps.length d.pc,Value.int IntKind.i64 d.E,Value.int IntKind.i64 d.O,Value.slice d.ma d.ms.length d.mc,Value.slice d.va d.vs.length d.vc,Value.slice d.ca d.cs.length d.cc,Value.int IntKind.i64 d.F,Value.int IntKind.i64 d.G,Value.slice d.oa d.os.length d.oc]∧DkI W d∧DkM d:=by
  obtain ⟨cs,rfl,hsz⟩:=okWide_struct Tryz.underlying34 hv
  have hC:Tryz.prog.cellsOf 34=10:=by kernel_rfl
  have k1:Tryz.prog.cellsOf 25=2:=by kernel_rfl
  have k2:Tryz.prog.cellsOf 28=1:=by kernel_rfl
  have k3:Tryz.prog.cellsOf 29=1:=by kernel_rfl
  have k4:Tryz.prog.cellsOf 32=3:=by kernel_rfl
  have k5:Tryz.prog.cellsOf 3=1:=by kernel_rfl
  have k6:Tryz.prog.cellsOf 22=1:=by kernel_rfl
  have k7:Tryz.prog.cellsOf 23=1:=by kernel_rfl
  have k8:Tryz.prog.cellsOf 26=1:=by kernel_rfl
  have k9:Tryz.prog.cellsOf 30=1:=by kernel_rfl
  have hsz1:=hsz.trans hC
  obtain ⟨v0,v1,v2,v3,v4,v5,v6,v7,v8,v9,rfl⟩:∃ v0 v1 v2 v3 v4 v5 v6 v7 v8 v9,cs=#[v0,v1,v2,v3,v4,v5,v6,v7,v8,v9]:=by
    obtain ⟨l⟩:=cs
    match l,hsz1 with
    | [v0, v1, v2, v3, v4, v5, v6, v7, v8, v9], _ => exact ⟨v0, v1, v2, v3, v4, v5, v6, v7, v8, v9, rfl⟩
  obtain ⟨fuel,hf⟩:=h
  obtain ⟨xs,n,-,-,hl,hlen,hg⟩:=DataW.trod_struct Tryz.underlying34 hf
  match xs,hlen with
  | [y0, y1, y2, y3, y4, y5, y6], _ =>
    have g0:DataW.trod enc Tryz.prog W 0 (fun _=>true) true n 25 [v0,v1]=some y0:=by simpa [Value.cells,k1] using hg 0 _ rfl
    have g1:DataW.trod enc Tryz.prog W 0 (fun _=>true) true n 3 [v2]=some y1:=by simpa [Value.cells,k5] using hg 1 _ rfl
    have g2:DataW.trod enc Tryz.prog W 0 (fun _=>true) true n 3 [v3]=some y2:=by simpa [Value.cells,k5] using hg 2 _ rfl
    have g3:DataW.trod enc Tryz.prog W 0 (fun _=>true) true n 28 [v4]=some y3:=by simpa [Value.cells,k2] using hg 3 _ rfl
    have g4:DataW.trod enc Tryz.prog W 0 (fun _=>true) true n 28 [v5]=some y4:=by simpa [Value.cells,k2] using hg 4 _ rfl
    have g5:DataW.trod enc Tryz.prog W 0 (fun _=>true) true n 29 [v6]=some y5:=by simpa [Value.cells,k3] using hg 5 _ rfl
    have g6:DataW.trod enc Tryz.prog W 0 (fun _=>true) true n 32 [v7,v8,v9]=some y6:=by simpa [Value.cells,k4] using hg 6 _ rfl
    obtain ⟨z0,z1,m,-,-,r0,r1⟩:=trod_struct2 Tryz.underlying25 g0
    obtain ⟨sa,ss,sc,e0,hs,hm1⟩:=secs_of_trod (v:=v0) (by simpa [k6] using r0)
    obtain ⟨pa,ps,pc,e1,hp,hm2⟩:=pens_of_trod (v:=v1) (by simpa [k6,k7] using r1)
    obtain ⟨E,e2,-,-⟩:=DataW.trod_int Tryz.underlying3 g1
    obtain ⟨O,e3,-,-⟩:=DataW.trod_int Tryz.underlying3 g2
    obtain ⟨z3,m3,-,-,r3⟩:=trod_struct1 Tryz.underlying28 g3
    obtain ⟨ma,ms,mc,e4,hms,hm3⟩:=pls_of_trod (v:=v4) (by simpa [k8] using r3)
    obtain ⟨z4,m4,-,-,r4⟩:=trod_struct1 Tryz.underlying28 g4
    obtain ⟨va,vs,vc,e5,hvs,hm4⟩:=pls_of_trod (v:=v5) (by simpa [k8] using r4)
    obtain ⟨ca,cs,cc,e6,hcs,hm5⟩:=ins_of_trod (v:=v6) g5
    obtain ⟨z6,z7,z8,m6,-,-,r6,r7,r8⟩:=Go.Deep.trod_struct3 Tryz.underlying32 g6
    obtain ⟨F,e7,-,-⟩:=DataW.trod_int Tryz.underlying3 (show DataW.trod enc Tryz.prog W 0 (fun _=>true) true m6 3 [v7]=some z6 by simpa [k5] using r6)
    obtain ⟨G,e8,-,-⟩:=DataW.trod_int Tryz.underlying3 (show DataW.trod enc Tryz.prog W 0 (fun _=>true) true m6 3 [v8]=some z7 by simpa [k5] using r7)
    obtain ⟨oa,os,oc,e9,hos,hm6⟩:=items_of_trod (v:=v9) (by simpa [k5,k9] using r8)
    simp at e2 e3 e7 e8
    subst e0 e1 e2 e3 e4 e5 e6 e7 e8 e9
    exact ⟨⟨sa,sc,ss,pa,pc,ps,E,O,ma,mc,ms,va,vc,vs,ca,cc,cs,F,G,oa,oc,os⟩,rfl,⟨⟨hs,hp⟩,hms,hvs,hcs,hos⟩,⟨hm1,hm2,hm3,hm4,hm5,hm6⟩⟩
end Go.Proofs.YtbapdnhmodklbaaGreatDoor
namespace Go.Proofs.YtbapdnhmodklbaaGreatDoor
open Go.RowKit
set_option linter.unusedVariables false

def okB (N:Int) (zs:List Int):Bool:=
  decide (0≤N∧N≤4096∧(zs.length:Int)=(N+7) / 8) && (N % 8 == 0 || zs.getD (zs.length - 1) 0 / 2 ^ (N % 8).toNat == 0)

theorem okB_neg {N:Int} {zs:List Int} (h:N<0):okB N zs=false:=by
  have:decide (0≤N∧N≤4096∧(zs.length:Int)=(N+7) / 8)=false:=by simp;omega
  rw [okB,this,Bool.false_and]
theorem okB_big {N:Int} {zs:List Int} (h:4096<N):okB N zs=false:=by
  have:decide (0≤N∧N≤4096∧(zs.length:Int)=(N+7) / 8)=false:=by simp;omega
  rw [okB,this,Bool.false_and]
theorem okB_len {N:Int} {zs:List Int} (h:¬ (zs.length:Int)=(N+7) / 8):okB N zs=false:=by
  have:decide (0≤N∧N≤4096∧(zs.length:Int)=(N+7) / 8)=false:=by simp;omega
  rw [okB,this,Bool.false_and]
theorem okB_full {N:Int} {zs:List Int} (h0:0≤N) (h1:N≤4096) (h2:(zs.length:Int)=(N+7) / 8) (h3:N % 8=0):okB N zs=true:=by
  have:decide (0≤N∧N≤4096∧(zs.length:Int)=(N+7) / 8)=true:=by simp;exact ⟨h0,h1,h2⟩
  rw [okB,this,h3];rfl
theorem okB_last {N:Int} {zs:List Int} (h0:0≤N) (h1:N≤4096) (h2:(zs.length:Int)=(N+7) / 8) (h3:¬ N % 8=0):okB N zs=(zs.getD (zs.length - 1) 0 / 2 ^ (N % 8).toNat == 0):=by
  have:decide (0≤N∧N≤4096∧(zs.length:Int)=(N+7) / 8)=true:=by simp;exact ⟨h0,h1,h2⟩
  have h3':(N % 8 == 0)=false:=by simpa using h3
  rw [okB,this,h3',Bool.true_and,Bool.false_or]
set_option maxHeartbeats 400000 in
theorem specOk_any (a:Option Addr) (cap:Nat) (zs:List Int) (N:Int) (w:World) (hb:Byt w a zs) (hn:zs.length≤281474976710656) :
    Calls Tryz.prog 98 #[.agg #[.slice a zs.length cap,.int .i64 N]] w fun e w'=>e=.returned (.bool (okB N zs))∧Below w.heap.size w w':=by
  have hw:Below w.heap.size w (w.alloc (Obj.cells #[Value.slice a zs.length cap,Value.int IntKind.i64 N] 131)):=(Below.refl _ _).alloc (Nat.le_refl _) _
  by_cases h0:N<0
  · have hE:okB N zs=false:=okB_neg h0
    rw [hE]
    clear hE
    go_enter Tryz.func98,Tryz.ntmps98
    go_wp2
    go_ret
    exact ⟨rfl,hw⟩
  · by_cases h1:4096<N
    · have hE:okB N zs=false:=okB_big h1
      rw [hE]
      clear hE
      go_enter Tryz.func98,Tryz.ntmps98
      go_wp2
      go_ret
      exact ⟨rfl,hw⟩
    · by_cases h2:(zs.length:Int)=(N+7) / 8
      · generalize hlz:zs.length=n at *
        have HL:Hid (zs.length=n):=hlz
        clear hlz
        have h2':((n:Int) != (N+7) / 8)=false:=by simpa using h2
        have H2:Hid ((n:Int)=(N+7) / 8):=h2
        clear h2
        by_cases h3:N % 8=0
        · have hE:okB N zs=true:=okB_full (by omega) (by omega) (by rw [HL.out];exact H2.out) h3
          have h3':(N % 8 == 0)=true:=by simpa using h3
          rw [hE]
          clear hE h3
          go_enter Tryz.func98,Tryz.ntmps98
          go_wp2
          go_quiet (fail)
          go_wp2
          go_ret
          exact ⟨rfl,below_drewN hw _⟩
        · have hn1:1≤n:=by have:=H2.out;omega
          have h3':(N % 8 == 0)=false:=by simpa using h3
          obtain ⟨b,off,rfl,hbl,hc⟩:=hb.len_pos (n - 1) (by rw [HL.out];omega)
          have hlast:=hc (n - 1) (by rw [HL.out];omega)
          have hr:=getD_rng hb.1 (n - 1)
          have hE:okB N zs=(zs.getD (n - 1) 0 / 2 ^ (N % 8).toNat == 0):=by
            rw [okB_last (by omega) (by omega) (by rw [HL.out];exact H2.out) h3,HL.out]
          rw [hE]
          clear hE
          generalize zs.getD (n - 1) 0=z at *
          go_enter Tryz.func98,Tryz.ntmps98
          go_wp2
          go_quiet (fail)
          go_wp2
          go_ret
          exact ⟨rfl,below_drewN hw _⟩
      · have hE:okB N zs=false:=okB_len h2
        have h2':((zs.length:Int) != (N+7) / 8)=true:=by rw [bne_iff_ne];exact h2
        rw [hE]
        clear hE h2
        go_enter Tryz.func98,Tryz.ntmps98
        go_wp2
        go_ret
        exact ⟨rfl,hw⟩
theorem addr_add (b off j:Nat):(⟨b,off,none⟩:Addr).add j=⟨b,off+j,none⟩:=by unfold Addr.add;split <;> simp_all

theorem news_of {w:World} {b off:Nat} {zs:List Int} (hc:∀ i,i<zs.length→w.cell? ⟨b,off+i,none⟩=some (.int .u8 (zs.getD i 0))) :
    ∀ j u,(zs.map (Value.int .u8))[j]?=some u→w.cell? ((⟨b,off,none⟩:Addr).add j)=some u:=by
  intro j u hu
  have hj:j<zs.length:=by
    rcases Nat.lt_or_ge j zs.length with h | h
    · exact h
    · rw [List.getElem?_eq_none (by simpa using h)] at hu;cases hu
  rw [addr_add,hc j hj]
  simp [hj] at hu
  simp [hj,← hu]

theorem oneCells (zs:List Int):∀ u ∈ zs.map (Value.int .u8),u.oneCell'=true:=by
  intro u hu
  simp only [List.mem_map] at hu
  obtain ⟨z,_,rfl⟩:=hu
  rfl

end Go.Proofs.YtbapdnhmodklbaaGreatDoor
namespace Go.Proofs.YtbapdnhmodklbaaGreatDoor

def val :List Int→Nat
  | [] => 0
  | z :: r => z.toNat + 256 * val r

def encL :Nat→Nat→List Int
  | 0, _ => []
  | k + 1, v => ((v % 256 : Nat) : Int) :: encL k (v / 256)

def enc (n v:Nat):List Int:=encL ((n+7) / 8) v

theorem encL_len (k v:Nat):(encL k v).length=k:=by
  induction k generalizing v with
  | zero => rfl
  | succ k ih => simp [encL, ih]

theorem enc_len (n v:Nat):(enc n v).length=(n+7) / 8:=encL_len _ _

theorem encL_rng (k v:Nat):∀ z ∈ encL k v,0≤z∧z≤255:=by
  induction k generalizing v with
  | zero => intro z hz; cases hz
  | succ k ih =>
    intro z hz
    simp only [encL,List.mem_cons] at hz
    rcases hz with rfl | hz
    · omega
    · exact ih _ z hz

theorem encL_get (k v i:Nat) (h:i<k):(encL k v).getD i 0=((v / 256 ^ i % 256:Nat):Int):=by
  induction k generalizing v i with
  | zero => omega
  | succ k ih =>
    cases i with
    | zero => simp [encL]
    | succ i =>
      have:=ih (v / 256) i (by omega)
      simp only [encL,List.getD_cons_succ,this]
      rw [Nat.div_div_eq_div_mul,Nat.pow_succ,Nat.mul_comm]

theorem val_encL (k v:Nat):val (encL k v)=v % 256 ^ k:=by
  induction k generalizing v with
  | zero => simp [encL, val, Nat.mod_one]
  | succ k ih =>
    simp only [encL,val,ih,Int.toNat_natCast]
    rw [Nat.pow_succ,Nat.mul_comm (256 ^ k) 256,Nat.mod_mul]

theorem encL_val (zs:List Int) (h:∀ z ∈ zs,0≤z∧z≤255):encL zs.length (val zs)=zs:=by
  induction zs with
  | nil => rfl
  | cons z r ih =>
    have hz:=h z (by simp)
    have hr:=ih (fun y hy=>h y (by simp [hy]))
    simp only [List.length_cons,encL,val]
    rw [show (z.toNat+256 * val r) % 256=z.toNat from by omega,show (z.toNat+256 * val r) / 256=val r from by omega,hr]
    congr 1
    omega

theorem val_lt (zs:List Int) (h:∀ z ∈ zs,0≤z∧z≤255):val zs<256 ^ zs.length:=by
  induction zs with
  | nil => simp [val]
  | cons z r ih =>
    have hz:=h z (by simp)
    have hr:=ih (fun y hy=>h y (by simp [hy]))
    simp only [List.length_cons,val,Nat.pow_succ]
    omega

theorem encL_mod (k v:Nat):encL k (v % 256 ^ k)=encL k v:=by
  have:=encL_val (encL k v) (encL_rng k v)
  rwa [encL_len,val_encL] at this

theorem encL_append (k v:Nat):encL (k+1) v=encL k v++[((v / 256 ^ k % 256:Nat):Int)]:=by
  induction k generalizing v with
  | zero => simp [encL]
  | succ k ih =>
    rw [encL,ih (v / 256)]
    simp only [encL,List.cons_append]
    rw [Nat.div_div_eq_div_mul,Nat.pow_succ,Nat.mul_comm (256 ^ k) 256]

theorem pow256 (k:Nat):256 ^ k=2 ^ (8 * k):=by
  rw [Nat.pow_mul]

theorem enc_bit (n v p:Nat) (hp:p<n):(((enc n v).getD (p / 8) 0).toNat / 2 ^ (p % 8)) % 2=v / 2 ^ p % 2:=by
  rw [enc,encL_get _ _ _ (by omega),Int.toNat_natCast,pow256]
  have h1:v / 2 ^ p=v / 2 ^ (8 * (p / 8)) / 2 ^ (p % 8):=by
    rw [Nat.div_div_eq_div_mul,← Nat.pow_add]
    congr 2
    omega
  rw [h1]
  generalize v / 2 ^ (8 * (p / 8))=u
  have hq:p % 8<8:=Nat.mod_lt _ (by omega)
  generalize p % 8=q at hq
  have h256:256=2 ^ q * 2 ^ (8 - q):=by rw [← Nat.pow_add,show q+(8 - q)=8 from by omega]
  rw [h256,Nat.mod_mul_right_div_self]
  obtain ⟨r,hr⟩:∃ r,8 - q=r+1:=⟨7 - q,by omega⟩
  rw [hr,Nat.pow_succ,Nat.mul_comm (2 ^ r) 2,Nat.mod_mul_right_mod]

theorem enc_step (n v s c:Nat) (hv:v<2 ^ n) (hc:c<2 ^ s) (hs:0<s) (h8:n % 8+s≤8) :
    enc (n+s) (v+c * 2 ^ n)=(if n % 8=0 then enc n v++[0] else enc n v).set (n / 8) (((v / 256 ^ (n / 8)+c * 2 ^ (n % 8):Nat):Int)):=by
  have hk:(n+s+7) / 8=n / 8+1:=by omega
  have hpow:2 ^ n=256 ^ (n / 8) * 2 ^ (n % 8):=by
    rw [pow256,← Nat.pow_add,show 8 * (n / 8)+n % 8=n from by omega]
  have hlow:encL (n / 8) (v+c * 2 ^ n)=encL (n / 8) v:=by
    rw [← encL_mod,hpow,Nat.mul_left_comm,Nat.add_mul_mod_self_left,encL_mod]
  have hdiv:(v+c * 2 ^ n) / 256 ^ (n / 8)=v / 256 ^ (n / 8)+c * 2 ^ (n % 8):=by
    rw [hpow,Nat.mul_left_comm,Nat.add_mul_div_left _ _ (Nat.pow_pos (by omega))]
  have hvd:v / 256 ^ (n / 8)<2 ^ (n % 8):=by
    rw [Nat.div_lt_iff_lt_mul (Nat.pow_pos (by omega)),Nat.mul_comm,← hpow];exact hv
  have hlt:v / 256 ^ (n / 8)+c * 2 ^ (n % 8)<256:=by
    have h1:(c+1) * 2 ^ (n % 8)≤2 ^ s * 2 ^ (n % 8):=Nat.mul_le_mul_right _ hc
    have h2:2 ^ s * 2 ^ (n % 8)≤256:=by
      rw [← Nat.pow_add]
      have h3:2 ^ (s+n % 8)≤2 ^ 8:=Nat.pow_le_pow_right (by omega) (by omega)
      omega
    rw [Nat.add_mul,Nat.one_mul] at h1
    omega
  unfold enc
  rw [hk,encL_append,hlow,hdiv,Nat.mod_eq_of_lt hlt]
  by_cases h0:n % 8=0
  · rw [if_pos h0,show (n+7) / 8=n / 8 from by omega]
    rw [List.set_append_right _ _ (by rw [encL_len];exact Nat.le_refl _),encL_len]
    simp
  · rw [if_neg h0,show (n+7) / 8=n / 8+1 from by omega,encL_append]
    rw [List.set_append_right _ _ (by rw [encL_len];exact Nat.le_refl _),encL_len]
    simp

theorem enc_last (n v:Nat) (hv:v<2 ^ n) (h:n % 8≠0):(enc n v).getD (n / 8) 0=((v / 256 ^ (n / 8):Nat):Int):=by
  have hpow:2 ^ n=256 ^ (n / 8) * 2 ^ (n % 8):=by
    rw [pow256,← Nat.pow_add,show 8 * (n / 8)+n % 8=n from by omega]
  have hvd:v / 256 ^ (n / 8)<2 ^ (n % 8):=by
    rw [Nat.div_lt_iff_lt_mul (Nat.pow_pos (by omega)),Nat.mul_comm,← hpow];exact hv
  have h256:2 ^ (n % 8)≤2 ^ 8:=Nat.pow_le_pow_right (by omega) (by omega)
  rw [enc,encL_get _ _ _ (by omega),Nat.mod_eq_of_lt (by omega)]

theorem enc_top (n v:Nat) (hv:v<2 ^ n):v / 256 ^ (n / 8)<2 ^ (n % 8):=by
  have hpow:2 ^ n=256 ^ (n / 8) * 2 ^ (n % 8):=by
    rw [pow256,← Nat.pow_add,show 8 * (n / 8)+n % 8=n from by omega]
  rw [Nat.div_lt_iff_lt_mul (Nat.pow_pos (by omega)),Nat.mul_comm,← hpow];exact hv

theorem val_bits (n:Nat) (zs:List Int) (h:∀ z ∈ zs,0≤z∧z≤255) (hl:zs.length=(n+7) / 8) (ht:n % 8=0∨(zs.getD (zs.length - 1) 0).toNat<2 ^ (n % 8)) :
    val zs<2 ^ n∧zs=enc n (val zs):=by
  have he:=encL_val zs h
  have hv:=val_lt zs h
  refine ⟨?_,by rw [enc,← hl,he]⟩
  by_cases h0:n % 8=0
  · rw [hl,pow256,show 8 * ((n+7) / 8)=n from by omega] at hv
    exact hv
  · have ht':=ht.resolve_left h0
    have hk:zs.length=n / 8+1:=by omega
    have hlast:zs.getD (zs.length - 1) 0=((val zs / 256 ^ (n / 8) % 256:Nat):Int):=by
      have:=encL_get zs.length (val zs) (n / 8) (by omega)
      rw [he] at this
      rw [show zs.length - 1=n / 8 from by omega]
      exact this
    rw [hlast,Int.toNat_natCast] at ht'
    have h256:val zs / 256 ^ (n / 8)<256:=by
      rw [Nat.div_lt_iff_lt_mul (Nat.pow_pos (by omega)),← Nat.pow_succ',show (n / 8).succ=zs.length from hk.symm];exact hv
    rw [Nat.mod_eq_of_lt h256,Nat.div_lt_iff_lt_mul (Nat.pow_pos (by omega)),pow256,← Nat.pow_add] at ht'
    rw [show n % 8+8 * (n / 8)=n from by omega] at ht'
    exact ht'

theorem put_lt (n v s c:Nat) (hv:v<2 ^ n) (hc:c<2 ^ s):v+c * 2 ^ n<2 ^ (n+s):=by
  have h1:(c+1) * 2 ^ n≤2 ^ s * 2 ^ n:=Nat.mul_le_mul_right _ hc
  rw [Nat.add_mul,Nat.one_mul,← Nat.pow_add,Nat.add_comm s n] at h1
  omega

theorem put_part (n v x i s:Nat):v+(x % 2 ^ i) * 2 ^ n+(x / 2 ^ i % 2 ^ s) * 2 ^ (n+i)=v+(x % 2 ^ (i+s)) * 2 ^ n:=by
  have h:x % 2 ^ (i+s)=x % 2 ^ i+2 ^ i * (x / 2 ^ i % 2 ^ s):=by rw [Nat.pow_add,Nat.mod_mul]
  rw [h,Nat.add_mul,Nat.pow_add,Nat.add_assoc]
  congr 2
  rw [Nat.mul_comm (2 ^ i),Nat.mul_assoc,Nat.mul_comm (2 ^ i)]

theorem get_up (v at' i:Nat):v / 2 ^ at' % 2 ^ (i+1)=v / 2 ^ at' % 2 ^ i+(v / 2 ^ (at'+i) % 2) * 2 ^ i:=by
  rw [Nat.pow_add 2 i 1,Nat.mod_mul,Nat.pow_one,Nat.div_div_eq_div_mul,← Nat.pow_add,Nat.mul_comm (2 ^ i)]

theorem get_down (v at' i:Nat):v / 2 ^ at' % 2 ^ (i+1)=2 * (v / 2 ^ (at'+1) % 2 ^ i)+v / 2 ^ at' % 2:=by
  rw [Nat.pow_succ,Nat.mul_comm (2 ^ i) 2,Nat.mod_mul,Nat.div_div_eq_div_mul,← Nat.pow_succ,Nat.add_comm]

end Go.Proofs.YtbapdnhmodklbaaGreatDoor
