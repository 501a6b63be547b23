/- Lemmas on the way. -/
import Derived.Test.YtaibkchbkedjnaaGreatDoorElSz
import Derived.Test.YtaibkchbkedjnaaGreatDoorUs3
import Derived.Test.YtaibkchbkedjnaaGreatDoorBRep
namespace Go.Proofs.YtaibkchbkedjnaaGreatDoor
open Go.RowKit
set_option linter.unusedVariables false
theorem Only.ofGrown {w w':World} {row:Option Nat} (hg:w.grownBy w' row):Only (fun k=>row=some k) w w':=(Only.refl (fun k=>row=some k) w).grown hg (fun k hk=>.inl hk)
theorem oneCellE (p:Bool) (e:El):∀ u ∈ e.cells p,u.oneCell'=true:=by
 intro u hu
 cases p <;> simp [El.cells] at hu
 ·subst hu;rfl
 ·rcases hu with rfl | rfl <;> rfl
theorem newsS (w:World) (a:Option Addr) (L c:Nat) (T:TypeId) (e:El) (h1:e.a=a) (h2:e.ls.length=L) (h3:e.c=c):∀ j u,(e.cells false)[j]?=some u→(w.alloc (Obj.cells #[.slice a L c] T)).cell? ⟨w.heap.size,j,none⟩=some u:=by
 intro j u hu
 subst h1 h2 h3
 cases j with
 | zero=>simp [El.cells] at hu;simp [hu]
 | succ j=>simp [El.cells] at hu
theorem newsP (w:World) (n:Int) (a:Option Addr) (L c:Nat) (T:TypeId) (e:El) (h0:e.n=n) (h1:e.a=a) (h2:e.ls.length=L) (h3:e.c=c):∀ j u,(e.cells true)[j]?=some u→(w.alloc (Obj.cells #[.int .i64 n,.slice a L c] T)).cell? ⟨w.heap.size,j,none⟩=some u:=by
 intro j u hu
 subst h0 h1 h2 h3
 cases j with
 | zero=>simp [El.cells] at hu;simp [hu]
 | succ j=>
  cases j with
  | zero=>simp [El.cells] at hu;simp [hu]
  | succ j=>simp [El.cells] at hu
theorem infoE (p:Bool):∃ i z b,Tryz.prog.info? (eT p)=some i∧i.zero=some z∧i.size=eW p∧i.bytes=b∧z.cells.size=eW p∧b≤32:=by
 cases p
 ·obtain ⟨i0,hi,hz0,hz1,hz2⟩:=info_parts Tryz.infoBs
  exact ⟨i0,_,24,hi,hz0,hz1,hz2,rfl,by omega⟩
 ·obtain ⟨i0,hi,hz0,hz1,hz2⟩:=info_parts Tryz.infoPend
  exact ⟨i0,_,32,hi,hz0,hz1,hz2,rfl,by omega⟩
def eS (p:Bool):TypeId:=cond p 39 22
theorem undE (p:Bool):Tryz.prog.underlying (eS p)=some (.slice (eT p)):=by
 cases p
 ·exact Tryz.underlying22
 ·exact Tryz.underlying39
theorem wp_append_el (p:Bool) {o:Oper} {a:Act} {w:World} {K:Act→World→Prop} {Q:Exit→Act→World→Prop} (s x:Operand) (ho:o.op=.call { callee:=.builtin .append,args:=#[s,x],argTypes:=#[eS p,eS p] })
  (B:Nat) (v:Value) (es:List El) (hs:a.eval s=v) (hown:OVr p w B v es) (X c:Nat) (e:El) (hx:a.eval x=.slice (some ⟨X,0,none⟩) 1 c) (hX:∀ j u,(e.cells p)[j]?=some u→w.cell? ⟨X,j,none⟩=some u) (hb1:es.length≤1000000) (hbase:B≤w.heap.size)
  (h:∀ v' w',OVr p w' B v' (es++[e])→w.grownBy w' v.ownBlock→K (a.put o.dst v') w'):o.wp Tryz.prog a w K Q:=by
 obtain ⟨i0,z0,b0,hi,hz0,hz1,hz2,hz3,hb0⟩:=infoE p
 obtain ⟨v',w',hr,h2,h3,_,_⟩:=run_append_own_at (P:=Tryz.prog) w B (eS p) o.type (eT p) i0 z0 (eW p) b0 (undE p) hi hz0 hz1 hz2 hz3 (by cases p <;> simp [eW]) v es.length _ hown.own ⟨X,0,none⟩ 1 c (e.cells p) (by rw [cells_lenE,Nat.one_mul]) (fun j u hu=>by rw [addr_add,Nat.zero_add];exact hX j u hu) (oneCellE p e) (by unfold maxLen;omega) (Nat.le_trans (Nat.mul_le_mul (show es.length+1≤1000001 by omega) hb0) (by omega)) hbase
 unfold Oper.wp execOp
 simp only [ho,resolve,invoke,builtin,Sem.run_bind,Sem.run_pure,Result.andThen_ok,List.map_toArray,List.map_cons,List.map_nil,hs,hx,hr]
 refine h v' w' ⟨?_⟩ h3
 rw [List.length_append,List.flatMap_append]
 simpa using h2
theorem appE_below {p:Bool} {w0 wr w1:World} {B:Nat} {v:Value} {es:List El} (hbel:Below B w0 wr) (hB:B≤wr.heap.size) (h:OVr p wr B v es) (hg:wr.grownBy w1 v.ownBlock):Below B w0 w1:=
 hbel.grown hg hB (fun k hk=>(h.blk hk).1)
theorem Deep.grown {p:Bool} {w w':World} {B:Nat} {v:Value} {es fs:List El} (hd:Deep w B fs) (h:OVr p w B v es) (hg:w.grownBy w' v.ownBlock):Deep w' B fs:=
 hd.stay (Only.ofGrown hg) (fun x hx k hk e=>h.other (hd.mine x hx) e hk)
end Go.Proofs.YtaibkchbkedjnaaGreatDoor
