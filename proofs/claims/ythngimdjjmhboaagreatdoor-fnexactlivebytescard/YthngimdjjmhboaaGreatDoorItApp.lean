/-
  Rows of items that grow by an append; packs in the making.
-/
import Derived.Test.YthngimdjjmhboaaGreatDoorBox2
import Derived.Test.YthngimdjjmhboaaGreatDoorBApp
import Derived.Test.YthngimdjjmhboaaGreatDoorBRep
namespace Go.Proofs.YthngimdjjmhboaaGreatDoor
open Go.RowKit
set_option linter.unusedVariables false

theorem Only.ofGrownT {w w':World} {row:Option Nat} (hg:w.grownBy w' row):Only (fun k=>row=some k) w w':=(Only.refl (fun k=>row=some k) w).grown hg (fun k hk=>.inl hk)
theorem newsT (w:World) (n:Int) (a:Option Addr) (L c:Nat) (T:TypeId) (e:El) (h0:e.n=n) (h1:e.a=a) (h2:e.ls.length=L) (h3:e.c=c):∀ j u,(e.cells true)[j]?=some u→(w.alloc (Obj.cells #[.int .i64 n,.slice a L c] T)).cell? ⟨w.heap.size,j,none⟩=some u:=by
 intro j u hu
 subst h0 h1 h2 h3
 cases j with
 | zero=>simp [El.cells] at hu;simp [hu]
 | succ j=>
  cases j with
  | zero=>simp [El.cells] at hu;simp [hu]
  | succ j=>simp [El.cells] at hu

theorem wp_append_it {o:Oper} {a:Act} {w:World} {K:Act→World→Prop} {Q:Exit→Act→World→Prop} (s x:Operand) (ho:o.op=.call { callee:=.builtin .append,args:=#[s,x],argTypes:=#[45,45] })
  (B:Nat) (v:Value) (es:List El) (hs:a.eval s=v) (hown:OVt w B v es) (X c:Nat) (e:El) (hx:a.eval x=.slice (some ⟨X,0,none⟩) 1 c) (hX:∀ j u,(e.cells true)[j]?=some u→w.cell? ⟨X,j,none⟩=some u) (hb1:es.length≤1000000) (hbase:B≤w.heap.size)
  (h:∀ v' w',OVt w' B v' (es++[e])→w.grownBy w' v.ownBlock→K (a.put o.dst v') w'):o.wp Tryz.prog a w K Q:=by
 obtain ⟨i0,hi,hz0,hz1,hz2⟩:=info_parts Tryz.infoItem
 obtain ⟨v',w',hr,h2,h3,_,_⟩:=run_append_own_at (P:=Tryz.prog) w B 45 o.type 113 i0 _ (eW true) 32 Tryz.underlying45 hi hz0 hz1 hz2 rfl (by simp [eW]) v es.length _ hown.own ⟨X,0,none⟩ 1 c (e.cells true) (by rw [cells_lenE,Nat.one_mul]) (fun j u hu=>by rw [addr_add,Nat.zero_add];exact hX j u hu) (by
  intro u hu
  simp [El.cells] at hu
  rcases hu with rfl | rfl <;> rfl) (by unfold maxLen;omega) (by omega) hbase
 unfold Oper.wp execOp
 simp only [ho,resolve,invoke,builtin,Sem.run_bind,Sem.run_pure,Result.andThen_ok,List.map_toArray,List.map_cons,List.map_nil,hs,hx,hr]
 refine h v' w' ⟨?_⟩ h3
 rw [List.length_append,List.flatMap_append]
 simpa using h2
theorem Box3.set2 {W:World} {b:Nat} {x y z:Value} (h:Box3 W b x y z) (u:Value):Box3 (W.setCell ⟨b,2,none⟩ u) b x y u:=by
 obtain ⟨h0,h1,h2,h3,h4,h5,h6⟩:=h
 exact ⟨(World.cell?_setCell_other W _ _ _ (by simp)).trans h0,(World.cell?_setCell_other W _ _ _ (by simp)).trans h1,World.cell?_setCell_same W _ _ h2,by simp [h3],by simp [h4],by simp [h5],by simpa using h6⟩
theorem Box3.other {W:World} {b:Nat} {x y z:Value} (h:Box3 W b x y z) {p:Addr} (hp:p.block≠b) (u:Value):Box3 (W.setCell p u) b x y z:=by
 obtain ⟨h0,h1,h2,h3,h4,h5,h6⟩:=h
 have ne:∀ o:Nat,p≠⟨b,o,none⟩:=fun o e=>hp (by rw [e])
 exact ⟨(World.cell?_setCell_other W _ _ _ (ne 0)).trans h0,(World.cell?_setCell_other W _ _ _ (ne 1)).trans h1,(World.cell?_setCell_other W _ _ _ (ne 2)).trans h2,by simpa using h3,by simpa using h4,by simpa using h5,by simpa using h6⟩

structure CpP (w W:World) (X:Nat) (E O:Int) (u:Value) (fs:List El):Prop where
 bel:Below w.heap.size w W
 hX:w.heap.size≤X
 row:OVt W (X+1) u fs
 box:Box3 W X (.int .i64 E) (.int .i64 O) u
section
variable {w W W' w2 w3 : World} {X : Nat} {E O : Int} {u v' : Value} {fs : List El} {e : El} {ob : Obj}
theorem CpP.step (h:CpP w W X E O u fs) (hb:Below W.heap.size W W'):CpP w W' X E O u fs:=⟨h.bel.trans (hb.mono h.bel.size),h.hX,h.row.below hb,h.box.step hb⟩
theorem CpP.mid (h:CpP w W X E O u fs) (hb:Below W.heap.size W w2):Below W.heap.size W (w2.alloc ob)∧X+1≤(w2.alloc ob).heap.size:=by
 have hba:Below w2.heap.size w2 (w2.alloc ob):=(Below.refl _ _).alloc (Nat.le_refl _) _
 have hlt:=h.box.lt
 have hs2:=hb.size
 exact ⟨hb.trans (hba.mono hs2),by simp;omega⟩
theorem CpP.more (h:CpP w W X E O u fs) (hb:Below W.heap.size W w2) (hov:OVt w3 (X+1) v' (fs++[e])) (hg:(w2.alloc ob).grownBy w3 u.ownBlock) :
  CpP w (w3.setCell ⟨X,2,none⟩ v') X E O v' (fs++[e])∧Below (X+1) W w3:=by
 obtain ⟨hb2,hx2⟩:=h.mid (ob:=ob) hb
 have hx:=h.hX
 have hlt:=h.box.lt
 have hr2:=h.row.below hb2
 have hbw:Below (X+1) W w3:=(hb2.mono (by omega)).grown hg hx2 (fun k hk=>(hr2.blk hk).1)
 have hon:Only (fun b=>b=X) w3 (w3.setCell ⟨X,2,none⟩ v'):=(Only.refl (fun b=>b=X) w3).setCell (p:=⟨X,2,none⟩) (.inl rfl) _
 exact ⟨⟨(h.bel.trans (hbw.mono (by omega))).setCell (p:=⟨X,2,none⟩) hx _,hx,hov.stay hon (fun b hb e=>by have:=(hov.blk hb).1;omega),(h.box.keep hbw (by omega)).set2 _⟩,hbw⟩
theorem CpP.deep (h:CpP w W X E O u fs) (hd:Deep W (X+1) fs) (hb:Below W.heap.size W w2) (hm:Mine w2 W.heap.size w2.heap.size e.a e.c e.ls) (hg:(w2.alloc ob).grownBy w3 u.ownBlock) :
  Deep (w3.setCell ⟨X,2,none⟩ v') (X+1) (fs++[e]):=by
 obtain ⟨hb2,hx2⟩:=h.mid (ob:=ob) hb
 have hba:Below w2.heap.size w2 (w2.alloc ob):=(Below.refl _ _).alloc (Nat.le_refl _) _
 have hlt:=h.box.lt
 have hd2:Deep (w2.alloc ob) (X+1) (fs++[e]):=((hd.below hb).snoc (U:=W.heap.size) hm (fun x hx k hk=>hd.lt x hx k hk) (by omega)).below hba
 have hr2:=h.row.below hb2
 have hd3:Deep w3 (X+1) (fs++[e]):=hd2.stay (Only.ofGrownT hg) (fun x hx k hk e=>hr2.other (hd2.mine x hx) e hk)
 have hon:Only (fun b=>b=X) w3 (w3.setCell ⟨X,2,none⟩ v'):=(Only.refl (fun b=>b=X) w3).setCell (p:=⟨X,2,none⟩) (.inl rfl) _
 exact hd3.stay hon (fun x hx b hb e=>by have:=((hd3.mine x hx).rowE hb).1;omega)
end
theorem rE_ctT {ss ts:List El} (h:ts.map El.ct=ss.map El.ct) (hr:∀ e ∈ ss,rE true e):∀ e ∈ ts,rE true e:=by
 intro e he
 obtain ⟨i,hi,rfl⟩:=memE_get he
 have hl:=len_ctE h
 have h1:=ctE_get h i
 have h2:=hr _ (getD_memE (es:=ss) (k:=i) (by omega))
 have hn:(ts.getD i de).n=(ss.getD i de).n:=congrArg Prod.fst h1
 have hls:(ts.getD i de).ls=(ss.getD i de).ls:=congrArg Prod.snd h1
 exact ⟨by rw [hn];exact h2.lo,by rw [hn];exact h2.hi,by rw [hls];exact h2.len,by simp⟩
end Go.Proofs.YthngimdjjmhboaaGreatDoor
