/-
  A row of places appended to another.
-/
import Derived.Test.YtaibkchbkedjnaaGreatDoorItTo
import Derived.Test.YtaibkchbkedjnaaGreatDoorRbI
import Derived.Maps.AppendAt
import Derived.Lib.SliceRun
namespace Go.Proofs.YtaibkchbkedjnaaGreatDoor
open Go.RowKit
set_option linter.unusedVariables false
set_option linter.unusedSimpArgs false

theorem oneCellP (p:Int × Int):∀ u ∈ pcs p,u.oneCell'=true:=by
 intro u hu
 simp [pcs] at hu
 rcases hu with rfl | rfl <;> rfl

theorem wp_append_pls (S:TypeId) (hS:Tryz.prog.underlying S=some (.slice 127)) {o:Oper} {a:Act} {w:World} {K:Act→World→Prop} {Q:Exit→Act→World→Prop} (s x:Operand) (ho:o.op=.call { callee:=.builtin .append,args:=#[s,x],argTypes:=#[S,S] })
  (B:Nat) (v:Value) (ps qs:List (Int × Int)) (hs:a.eval s=v) (hown:OVp w B v ps) (xa:Addr) (c:Nat) (hx:a.eval x=.slice (some xa) qs.length c) (hX:Pls w (some xa) qs) (hb1:ps.length+qs.length≤1000000) (hbase:B≤w.heap.size)
  (h:∀ v' w',OVp w' B v' (ps++qs)→w.grownBy w' v.ownBlock→K (a.put o.dst v') w'):o.wp Tryz.prog a w K Q:=by
 obtain ⟨i0,hi,hz0',hz1',hz2⟩:=info_parts Tryz.infoPl
 have hnews:∀ j u,(qs.flatMap pcs)[j]?=some u→w.cell? (xa.add j)=some u:=by
  intro j u hu
  have hj:j<qs.length * 2:=by
   rcases Nat.lt_or_ge j (qs.length * 2) with h | h
   ·exact h
   ·rw [List.getElem?_eq_none (by rw [flatP_len];exact h)] at hu;cases hu
  have hi1:j / 2<qs.length:=by omega
  obtain ⟨b,off,e,hb,hc⟩:=hX.2 (Nat.lt_of_le_of_lt (Nat.zero_le _) hi1)
  obtain rfl:xa=⟨b,off,none⟩:=by simpa using e
  have hg:=flatP_get qs (j / 2) hi1
  have hl:=hc (j / 2) hi1
  rw [addr_add]
  have h2:j=j / 2 * 2∨j=j / 2 * 2+1:=by omega
  rcases h2 with h2 | h2
  ·rw [←h2] at hg hl
   rw [hl.1,←hg.1,hu]
  ·rw [←h2] at hg
   rw [show off+j=off+j / 2 * 2+1 from by omega,hl.2,←hg.2,hu]
 have hone:∀ u ∈ qs.flatMap pcs,u.oneCell'=true:=by
  intro u hu
  obtain ⟨e,_,he⟩:=List.mem_flatMap.1 hu
  exact oneCellP e u he
 obtain ⟨v',w',hr,h2,h3,_,_⟩:=run_append_own_at (P:=Tryz.prog) w B S o.type 127 i0 (.agg #[.int .i64 0,.int .i64 0]) 2 16 hS hi hz0' hz1' hz2 rfl (by decide) v ps.length _ hown.1 xa qs.length c (qs.flatMap pcs) (flatP_len qs) hnews hone (by unfold maxLen;omega) (by omega) hbase
 unfold Oper.wp execOp
 simp only [ho,resolve,invoke,builtin,Sem.run_bind,Sem.run_pure,Result.andThen_ok,List.map_toArray,List.map_cons,List.map_nil,hs,hx,hr]
 refine h v' w' ⟨?_,fun q hq=>?_⟩ h3
 ·rw [List.length_append,List.flatMap_append]
  exact h2
 ·rcases List.mem_append.1 hq with hq | hq
  ·exact hown.2 q hq
  ·exact hX.1 q hq
theorem wpList_append_pls (S:TypeId) (hS:Tryz.prog.underlying S=some (.slice 127)) {ops:Array Oper} {rest:List Oper} {o:Oper} {a:Act} {Q:Exit→Act→World→Prop} {w:World} (hgd:o.guard=none) (s x:Operand) (ho:o.op=.call { callee:=.builtin .append,args:=#[s,x],argTypes:=#[S,S] })
  (B:Nat) (v:Value) (ps qs:List (Int × Int)) (hs:a.eval s=v) (hown:OVp w B v ps) (xa:Addr) (c:Nat) (hx:a.eval x=.slice (some xa) qs.length c) (hX:Pls w (some xa) qs) (hb1:ps.length+qs.length≤1000000) (hbase:B≤w.heap.size)
  (h:∀ v' w',OVp w' B v' (ps++qs)→w.grownBy w' v.ownBlock→wpList Tryz.prog ops Q rest (a.put o.dst v') w'):wpList Tryz.prog ops Q (o :: rest) a w:=
 wpList_plain hgd fun _ hK=>wp_append_pls S hS s x ho B v ps qs hs hown xa c hx hX hb1 hbase fun v' w' h1 h2=>hK _ _ (h v' w' h1 h2)
theorem appP_below {w0 wr w1:World} {B:Nat} {v:Value} {ps:List (Int × Int)} (hbel:Below B w0 wr) (hB:B≤wr.heap.size) (h:OVp wr B v ps) (hg:wr.grownBy w1 v.ownBlock):Below B w0 w1:=
 hbel.grown hg hB (fun k hk=>(h.blk hk).1)
end Go.Proofs.YtaibkchbkedjnaaGreatDoor
