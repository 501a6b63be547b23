/-
  Packs that are copied: l7own of the model, copied of the program. (Typed by wip/mkown.py.)
-/
import Derived.Test.YtiabhcfcpkkhoaaGreatDoorPkJ
import Derived.Test.YtiabhcfcpkkhoaaGreatDoorPkS
import Derived.Test.YtiabhcfcpkkhoaaGreatDoorItEq
import Derived.Test.YtiabhcfcpkkhoaaGreatDoorBApp
import Derived.Test.YtiabhcfcpkkhoaaGreatDoorRbI
import Derived.Test.YtiabhcfcpkkhoaaGreatDoorDcI
namespace Go.Proofs.YtiabhcfcpkkhoaaGreatDoor
open Go.RowKit
set_option linter.unusedVariables false

theorem FewI.j {es:List El} (h:FewI es):FewJ es:=⟨h.n,h.l,by have:=h.sum;omega⟩
theorem eqPack_two (E O:Int) (a b:Option Addr) (es us vs:List El) {B B':Nat} (w:World) (hu:CopT w B (.slice a es.length es.length) us es) (hv:CopT w B' (.slice b es.length es.length) vs es) (hx:FewI es) :
    Calls Tryz.prog 10 #[.agg #[.int .i64 E,.int .i64 O,.slice a es.length es.length],.agg #[.int .i64 E,.int .i64 O,.slice b es.length es.length]] w fun e w'=>e=.returned (.bool true)∧Below w.heap.size w w':=by
  have:=eqPack_yes E O a b es.length es.length us vs w hu.its.els hv.its.els (hu.ct.trans hv.ct.symm) (hx.ct hu.ct)
  rw [len_ctE hu.ct] at this
  exact this
theorem Only.ofGrownT {w w':World} {row:Option Nat} (hg:w.grownBy w' row):Only (fun k=>row=some k) w w':=(Only.refl (fun k=>row=some k) w).grown hg (fun k hk=>.inl hk)
theorem newsT (w:World) (n:Int) (a:Option Addr) (L c:Nat) (T:TypeId) (e:El) (h0:e.n=n) (h1:e.a=a) (h2:e.ls.length=L) (h3:e.c=c):∀ j u,(e.cells true)[j]?=some u→(w.alloc (Obj.cells #[.int .i64 n,.slice a L c] T)).cell? ⟨w.heap.size,j,none⟩=some u:=by
  intro j u hu
  subst h0 h1 h2 h3
  cases j with
  | zero => simp [El.cells] at hu; simp [hu]
  | succ j =>
    cases j with
    | zero => simp [El.cells] at hu; simp [hu]
    | succ j => simp [El.cells] at hu

theorem wp_append_it {o:Oper} {a:Act} {w:World} {K:Act→World→Prop} {Q:Exit→Act→World→Prop} (s x:Operand) (ho:o.op=.call { callee:=.builtin .append,args:=#[s,x],argTypes:=#[30,30] })
    (B:Nat) (v:Value) (es:List El) (hs:a.eval s=v) (hown:OVt w B v es) (X c:Nat) (e:El) (hx:a.eval x=.slice (some ⟨X,0,none⟩) 1 c) (hX:∀ j u,(e.cells true)[j]?=some u→w.cell? ⟨X,j,none⟩=some u) (hb1:es.length≤1000000) (hbase:B≤w.heap.size)
    (h:∀ v' w',OVt w' B v' (es++[e])→w.grownBy w' v.ownBlock→K (a.put o.dst v') w'):o.wp Tryz.prog a w K Q:=by
  obtain ⟨i0,hi,hz0,hz1,hz2⟩:=info_parts Tryz.infoItem
  obtain ⟨v',w',hr,h2,h3,_,_⟩:=run_append_own_at (P:=Tryz.prog) w B 30 o.type 36 i0 _ (eW true) 32 Tryz.underlying30 hi hz0 hz1 hz2 rfl (by simp [eW]) v es.length _ hown.own ⟨X,0,none⟩ 1 c (e.cells true) (by rw [cells_lenE,Nat.one_mul]) (fun j u hu=>by rw [addr_add,Nat.zero_add];exact hX j u hu) (by
    intro u hu
    simp [El.cells] at hu
    rcases hu with rfl | rfl <;> rfl) (by unfold maxLen;omega) (by omega) hbase
  unfold Oper.wp execOp
  simp only [ho,resolve,invoke,builtin,Sem.run_bind,Sem.run_pure,Result.andThen_ok,List.map_toArray,List.map_cons,List.map_nil,hs,hx,hr]
  refine h v' w' ⟨?_⟩ h3
  rw [List.length_append,List.flatMap_append]
  simpa using h2
theorem wpList_append_it {ops:Array Oper} {rest:List Oper} {o:Oper} {a:Act} {Q:Exit→Act→World→Prop} {w:World} (hgd:o.guard=none) (s x:Operand) (ho:o.op=.call { callee:=.builtin .append,args:=#[s,x],argTypes:=#[30,30] })
    (B:Nat) (v:Value) (es:List El) (hs:a.eval s=v) (hown:OVt w B v es) (X c:Nat) (e:El) (hx:a.eval x=.slice (some ⟨X,0,none⟩) 1 c) (hX:∀ j u,(e.cells true)[j]?=some u→w.cell? ⟨X,j,none⟩=some u) (hb1:es.length≤1000000) (hbase:B≤w.heap.size)
    (h:∀ v' w',OVt w' B v' (es++[e])→w.grownBy w' v.ownBlock→wpList Tryz.prog ops Q rest (a.put o.dst v') w'):wpList Tryz.prog ops Q (o :: rest) a w:=by
  refine wpList_plain hgd fun K hK'=>?_
  exact wp_append_it s x ho B v es hs hown X c e hx hX hb1 hbase (fun v' w' h1 h2=>hK' _ _ (h v' w' h1 h2))

theorem Box3.set2 {W:World} {b:Nat} {x y z:Value} (h:Box3 W b x y z) (u:Value):Box3 (W.setCell ⟨b,2,none⟩ u) b x y u:=by
  obtain ⟨h0,h1,h2,h3,h4,h5,h6⟩:=h
  exact ⟨(World.cell?_setCell_other W _ _ _ (by simp)).trans h0,(World.cell?_setCell_other W _ _ _ (by simp)).trans h1,World.cell?_setCell_same W _ _ h2,by simp [h3],by simp [h4],by simp [h5],by simpa using h6⟩
theorem Box3.other {W:World} {b:Nat} {x y z:Value} (h:Box3 W b x y z) {p:Addr} (hp:p.block≠b) (u:Value):Box3 (W.setCell p u) b x y z:=by
  obtain ⟨h0,h1,h2,h3,h4,h5,h6⟩:=h
  have ne:∀ o:Nat,p≠⟨b,o,none⟩:=fun o e=>hp (by rw [e])
  exact ⟨(World.cell?_setCell_other W _ _ _ (ne 0)).trans h0,(World.cell?_setCell_other W _ _ _ (ne 1)).trans h1,(World.cell?_setCell_other W _ _ _ (ne 2)).trans h2,by simpa using h3,by simpa using h4,by simpa using h5,by simpa using h6⟩

structure CpP (w W:World) (X:Nat) (E O:Int) (u:Value) (fs:List El):Prop where
  bel:Below w.heap.size w W
  hX:w.heap.size≤X
  row:OVt W (X+1) u fs
  box:Box3 W X (.int .i64 E) (.int .i64 O) u
section
variable {w W W' w2 w3 : World} {X : Nat} {E O : Int} {u v' : Value} {fs : List El} {e : El} {ob : Obj}
theorem CpP.step (h:CpP w W X E O u fs) (hb:Below W.heap.size W W'):CpP w W' X E O u fs:=⟨h.bel.trans (hb.mono h.bel.size),h.hX,h.row.below hb,h.box.step hb⟩
theorem CpP.mid (h:CpP w W X E O u fs) (hb:Below W.heap.size W w2):Below W.heap.size W (w2.alloc ob)∧X+1≤(w2.alloc ob).heap.size:=by
  have hba:Below w2.heap.size w2 (w2.alloc ob):=(Below.refl _ _).alloc (Nat.le_refl _) _
  have hlt:=h.box.lt
  have hs2:=hb.size
  exact ⟨hb.trans (hba.mono hs2),by simp;omega⟩
theorem CpP.more (h:CpP w W X E O u fs) (hb:Below W.heap.size W w2) (hov:OVt w3 (X+1) v' (fs++[e])) (hg:(w2.alloc ob).grownBy w3 u.ownBlock) :
    CpP w (w3.setCell ⟨X,2,none⟩ v') X E O v' (fs++[e])∧Below (X+1) W w3:=by
  obtain ⟨hb2,hx2⟩:=h.mid (ob:=ob) hb
  have hx:=h.hX
  have hlt:=h.box.lt
  have hr2:=h.row.below hb2
  have hbw:Below (X+1) W w3:=(hb2.mono (by omega)).grown hg hx2 (fun k hk=>(hr2.blk hk).1)
  have hon:Only (fun b=>b=X) w3 (w3.setCell ⟨X,2,none⟩ v'):=(Only.refl (fun b=>b=X) w3).setCell (p:=⟨X,2,none⟩) (.inl rfl) _
  exact ⟨⟨(h.bel.trans (hbw.mono (by omega))).setCell (p:=⟨X,2,none⟩) hx _,hx,hov.stay hon (fun b hb e=>by have:=(hov.blk hb).1;omega),(h.box.keep hbw (by omega)).set2 _⟩,hbw⟩
theorem CpP.deep (h:CpP w W X E O u fs) (hd:Deep W (X+1) fs) (hb:Below W.heap.size W w2) (hm:Mine w2 W.heap.size w2.heap.size e.a e.c e.ls) (hg:(w2.alloc ob).grownBy w3 u.ownBlock) :
    Deep (w3.setCell ⟨X,2,none⟩ v') (X+1) (fs++[e]):=by
  obtain ⟨hb2,hx2⟩:=h.mid (ob:=ob) hb
  have hba:Below w2.heap.size w2 (w2.alloc ob):=(Below.refl _ _).alloc (Nat.le_refl _) _
  have hlt:=h.box.lt
  have hd2:Deep (w2.alloc ob) (X+1) (fs++[e]):=((hd.below hb).snoc (U:=W.heap.size) hm (fun x hx k hk=>hd.lt x hx k hk) (by omega)).below hba
  have hr2:=h.row.below hb2
  have hd3:Deep w3 (X+1) (fs++[e]):=hd2.stay (Only.ofGrownT hg) (fun x hx k hk e=>hr2.other (hd2.mine x hx) e hk)
  have hon:Only (fun b=>b=X) w3 (w3.setCell ⟨X,2,none⟩ v'):=(Only.refl (fun b=>b=X) w3).setCell (p:=⟨X,2,none⟩) (.inl rfl) _
  exact hd3.stay hon (fun x hx b hb e=>by have:=((hd3.mine x hx).rowE hb).1;omega)
end
theorem rE_ctT {ss ts:List El} (h:ts.map El.ct=ss.map El.ct) (hr:∀ e ∈ ss,rE true e):∀ e ∈ ts,rE true e:=by
  intro e he
  obtain ⟨i,hi,rfl⟩:=memE_get he
  have hl:=len_ctE h
  have h1:=ctE_get h i
  have h2:=hr _ (getD_memE (es:=ss) (k:=i) (by omega))
  have hn:(ts.getD i de).n=(ss.getD i de).n:=congrArg Prod.fst h1
  have hls:(ts.getD i de).ls=(ss.getD i de).ls:=congrArg Prod.snd h1
  exact ⟨by rw [hn];exact h2.lo,by rw [hn];exact h2.hi,by rw [hls];exact h2.len,by simp⟩
set_option linter.unusedSimpArgs false
structure OwP7 (w W:World) (E O:Int) (a:Option Addr) (n cap:Nat) (u:Value) (fs:List El):Prop where
  cp:CpP w W (w.heap.size+1+1) E O u fs
  dp:Deep W (w.heap.size+1+1+1) fs
  bx:Box3 W w.heap.size (.int .i64 E) (.int .i64 O) (.slice a n cap)
  by':Box3 W (w.heap.size+1) (.int .i64 0) (.int .i64 0) (.slice none 0 0)
theorem OwP7.start (w:World) (E O:Int) (a:Option Addr) (n cap:Nat) (T T2 T3:TypeId):OwP7 w (((w.alloc (Obj.cells #[Value.int IntKind.i64 E,Value.int IntKind.i64 O,Value.slice a n cap] T)).alloc (Obj.cells #[Value.int IntKind.i64 0,Value.int IntKind.i64 0,Value.slice none 0 0] T2)).alloc (Obj.cells #[Value.int IntKind.i64 E,Value.int IntKind.i64 O,Value.slice none 0 0] T3)) E O a n cap (.slice none 0 0) []:=by
  have h1:=((Box3.new w (.int .i64 E) (.int .i64 O) (.slice a n cap) T).alloc (Obj.cells #[Value.int IntKind.i64 0,Value.int IntKind.i64 0,Value.slice none 0 0] T2)).alloc (Obj.cells #[Value.int IntKind.i64 E,Value.int IntKind.i64 O,Value.slice none 0 0] T3)
  have h2:=(Box3.new (w.alloc (Obj.cells #[Value.int IntKind.i64 E,Value.int IntKind.i64 O,Value.slice a n cap] T)) (.int .i64 0) (.int .i64 0) (.slice none 0 0) T2).alloc (Obj.cells #[Value.int IntKind.i64 E,Value.int IntKind.i64 O,Value.slice none 0 0] T3)
  have h3:=Box3.new ((w.alloc (Obj.cells #[Value.int IntKind.i64 E,Value.int IntKind.i64 O,Value.slice a n cap] T)).alloc (Obj.cells #[Value.int IntKind.i64 0,Value.int IntKind.i64 0,Value.slice none 0 0] T2)) (.int .i64 E) (.int .i64 O) (.slice none 0 0) T3
  simp only [World.size_alloc] at h2 h3
  exact ⟨⟨(((Below.refl _ _).alloc (Nat.le_refl _) _).alloc (by simp) _).alloc (by simp;omega) _,by omega,OVt.nil _ _,h3⟩,Deep.nil _ _,h1,h2⟩
theorem OwP7.step {w W W':World} {E O:Int} {a:Option Addr} {n cap:Nat} {u:Value} {fs:List El} (h:OwP7 w W E O a n cap u fs) (hb:Below W.heap.size W W'):OwP7 w W' E O a n cap u fs:=⟨h.cp.step hb,h.dp.below hb,h.bx.step hb,h.by'.step hb⟩
theorem OwP7.more {w W w2 w3:World} {E O:Int} {a:Option Addr} {n cap:Nat} {u v':Value} {fs:List El} {e:El} {ob:Obj} (h:OwP7 w W E O a n cap u fs) (hb:Below W.heap.size W w2) (hm:Mine w2 W.heap.size w2.heap.size e.a e.c e.ls) (hov:OVt w3 (w.heap.size+1+1+1) v' (fs++[e])) (hg:(w2.alloc ob).grownBy w3 u.ownBlock) :
    OwP7 w (w3.setCell ⟨w.heap.size+1+1,2,none⟩ v') E O a n cap v' (fs++[e])∧Below (w.heap.size+1+1+1) W w3:=by
  obtain ⟨h1,h2⟩:=h.cp.more hb hov hg
  exact ⟨⟨h1,h.cp.deep h.dp hb hm hg,(h.bx.keep h2 (by omega)).other (by simp;omega) _,(h.by'.keep h2 (by omega)).other (by simp) _⟩,h2⟩
def OwA (E O:Int) (es:List El) (w:World) (r:Ending) (w':World):Prop:=(∃ v ts,r=.returned (.agg #[.int .i64 E,.int .i64 O,v])∧CopT w' w.heap.size v ts es)∧Below w.heap.size w w'
theorem OwP7.last {w W:World} {E O:Int} {a:Option Addr} {n cap:Nat} {u:Value} {fs es:List El} (h:OwP7 w W E O a n cap u fs) (hc:fs.map El.ct=es.map El.ct) (hr:∀ e ∈ es,rE true e) :
    OwA E O es w (.returned (.agg #[.int .i64 E,.int .i64 O,u])) (((W.setCell ⟨w.heap.size+1,0,none⟩ (.int .i64 E)).setCell ⟨w.heap.size+1,1,none⟩ (.int .i64 O)).setCell ⟨w.heap.size+1,2,none⟩ u):=by
  have hcp:CopT W (w.heap.size+1+1+1) u fs es:=⟨hc,h.cp.row,h.dp,rE_ctT hc hr⟩
  have hon:Only (fun b=>b=w.heap.size+1) W (((W.setCell ⟨w.heap.size+1,0,none⟩ (.int .i64 E)).setCell ⟨w.heap.size+1,1,none⟩ (.int .i64 O)).setCell ⟨w.heap.size+1,2,none⟩ u):=
    (((Only.refl (fun b=>b=w.heap.size+1) W).setCell (p:=⟨w.heap.size+1,0,none⟩) (.inl rfl) _).setCell (p:=⟨w.heap.size+1,1,none⟩) (.inl rfl) _).setCell (p:=⟨w.heap.size+1,2,none⟩) (.inl rfl) _
  exact ⟨⟨u,fs,rfl,(hcp.stay hon (fun k hk e=>by omega)).weak (by omega)⟩,h.cp.bel.trans (hon.below (by have:=h.cp.bel.size;omega) (by intro k hk;omega))⟩

set_option maxRecDepth 20000 in
set_option maxHeartbeats 8000000 in
theorem l7own_any (E O:Int) (a:Option Addr) (cap:Nat) (es:List El) (w:World) (hb:Els true w a es) (hn:es.length≤1000) (hl:∀ s ∈ es,s.ls.length≤1000000) :
    Calls Tryz.prog 21 #[.agg #[.int .i64 E,.int .i64 O,.slice a es.length cap]] w (OwA E O es w):=by
  have HB:Hid (Els true w a es):=hb
  have HL:Hid (∀ s ∈ es,s.ls.length≤1000000):=hl
  have HRG:Hid (∀ e ∈ es,rE true e):=fun e he=>(hb.1 e he).1
  clear hb hl
  generalize hlen:es.length=n at *
  have HLN:Hid (es.length=n∧True):=⟨hlen,trivial⟩
  clear hlen
  have HS0:Hid _:=OwP7.start w E O a n cap 32 32 32
  go_enter Tryz.func21,Tryz.ntmps21
  go_wp2
  go_loopw [4] (fun i wr=>∃ (k:Nat) (u:Value) (fs:List El),k≤n∧i=.int .i64 k∧fs.map El.ct=(es.take k).map El.ct∧OwP7 w wr E O a n cap u fs) (fun i _=>n - (intOf i).toNat)
  case atStart=>exact ⟨0,_,[],Nat.zero_le _,rfl,by simp,HS0.out⟩
  case round=>
    clear HS0
    obtain ⟨k,u,fs,hk,rfl,hct,hop⟩:=hrel
    have HST:Hid (fs.map El.ct=(es.take k).map El.ct∧fs.length=k):=⟨hct,by have:=congrArg List.length hct;simp at this;have:=HLN.out.1;omega⟩
    clear hct
    obtain ⟨fa,fc,rfl⟩:=hop.cp.row.form
    have HOP:Hid (OwP7 w wr E O a n cap (.slice fa fs.length fc) fs):=hop
    obtain ⟨c0,c1,c2,f0,f1,f2,hlX⟩:=hop.cp.box
    obtain ⟨x0,x1,x2,-,-,-,xl⟩:=hop.bx
    obtain ⟨r0,r1,r2,g0,g1,g2,rl⟩:=hop.by'
    have hbel:=hop.cp.bel
    clear hop
    by_cases hlt:k<n
    · obtain ⟨b,off,rfl,hbl,d0,d1,hby,hrg⟩:=(HB.out.below hbel (Nat.le_refl _)).pen k (by rw [HLN.out.1];exact hlt)
      have hbw:b<w.heap.size:=by
        obtain ⟨b',o',e',h',_⟩:=HB.out.pen k (by rw [HLN.out.1];exact hlt)
        simp at e'
        omega
      have hll:=HL.out _ (getD_memE (k:=k) (by rw [HLN.out.1];exact hlt))
      have HCS:Hid ((es.take (k+1)).map El.ct=(es.take k).map El.ct++[(es.getD k de).ct]∧True):=⟨ctE_take_succ es k (by rw [HLN.out.1];exact hlt),trivial⟩
      have hk1:fs.length≤1000:=by have:=HST.out.2;omega
      clear hrg hbel
      generalize es.getD k de=s at *
      obtain ⟨sn,a2,c2',sl⟩:=s
      simp only at d0 d1 hby hll
      have HBY:Hid (Byt wr a2 sl):=hby
      clear hby
      have HE1:Hid (OVB (wr.drew.alloc (Obj.cells #[] 5)) wr.heap.size (.slice (some ⟨wr.heap.size,0,none⟩) 0 0) []∧Byt (wr.drew.alloc (Obj.cells #[] 5)) a2 sl∧Below wr.heap.size wr (wr.drew.alloc (Obj.cells #[] 5))):=⟨OVB.empty wr.drew _ (Nat.le_refl _),(HBY.out.drewN 1).alloc _,Below.drewS ((Below.refl wr.heap.size wr.drew).alloc (Nat.le_refl _) _)⟩
      go_wp2
      refine wp_region_cut (S:=fun W=>W.cell? ⟨w.heap.size+1+1,2,none⟩=some (.slice fa fs.length fc)∧W.cell? ⟨w.heap.size,2,none⟩=some (.slice (some ⟨b,off,none⟩) n cap)∧W.cell? ⟨b,off+k * 2,none⟩=some (.int .i64 sn)∧W.cell? ⟨b,off+k * 2+1,none⟩=some (.slice a2 sl.length c2')) 19 (by kernel_rfl) (by kernel_rfl) (by exact ⟨c2,x2,d0,d1⟩) (fun hHeld=>?_)
      refine wpAnyH_take (i:=0) (v:=?_) rfl (by kernel_rfl) (by kernel_rfl) (by kernel_rfl) (fun _ _ _ h=>h) (Or.inl ⟨by rfl,?_⟩) (by assumption) ?_
      rotate_left 1
      · (intro w hSw;(try dsimp only at hSw);go_simp;try (with_reducible rfl))
      try simp only [List.getElem_toArray,List.getElem_cons_zero,List.getElem_cons_succ,Act.put,List.setIfInBounds_toArray,List.set_cons_zero,List.set_cons_succ]
      refine wpAnyH_take (i:=1) (v:=?_) rfl (by kernel_rfl) (by kernel_rfl) (by kernel_rfl) (fun _ _ _ h=>h) (Or.inl ⟨by rfl,?_⟩) (by assumption) ?_
      rotate_left 1
      · (intro w hSw;(try dsimp only at hSw);go_simp;try (with_reducible rfl))
      try simp only [List.getElem_toArray,List.getElem_cons_zero,List.getElem_cons_succ,Act.put,List.setIfInBounds_toArray,List.set_cons_zero,List.set_cons_succ]
      refine wpAnyH_take (i:=2) (v:=?_) rfl (by kernel_rfl) (by kernel_rfl) (by kernel_rfl) (fun _ _ _ h=>h) (Or.inl ⟨by rfl,?_⟩) (by assumption) ?_
      rotate_left 1
      · (intro w hSw;(try dsimp only at hSw);go_simp;try (with_reducible rfl))
      try simp only [List.getElem_toArray,List.getElem_cons_zero,List.getElem_cons_succ,Act.put,List.setIfInBounds_toArray,List.set_cons_zero,List.set_cons_succ]
      refine wpAnyH_take (i:=3) (v:=?_) rfl (by kernel_rfl) (by kernel_rfl) (by kernel_rfl) (fun _ _ _ h=>h) (Or.inl ⟨by rfl,?_⟩) (by assumption) ?_
      rotate_left 1
      · (intro w hSw;(try dsimp only at hSw);go_simp;try (with_reducible rfl))
      try simp only [List.getElem_toArray,List.getElem_cons_zero,List.getElem_cons_succ,Act.put,List.setIfInBounds_toArray,List.set_cons_zero,List.set_cons_succ]
      refine wpAnyH_take (i:=4) (v:=?_) rfl (by kernel_rfl) (by kernel_rfl) (by kernel_rfl) (fun _ _ _ h=>h) (Or.inl ⟨by rfl,?_⟩) (by assumption) ?_
      rotate_left 1
      · (intro w hSw;(try dsimp only at hSw);go_simp;try (with_reducible rfl))
      try simp only [List.getElem_toArray,List.getElem_cons_zero,List.getElem_cons_succ,Act.put,List.setIfInBounds_toArray,List.set_cons_zero,List.set_cons_succ]
      refine wpAnyH_take (i:=5) (v:=?_) rfl (by kernel_rfl) (by kernel_rfl) (by kernel_rfl) (fun _ _ _ h=>h) (Or.inl ⟨by rfl,?_⟩) (by assumption) ?_
      rotate_left 1
      · (intro w hSw;(try dsimp only at hSw);go_simp;try (with_reducible rfl))
      try simp only [List.getElem_toArray,List.getElem_cons_zero,List.getElem_cons_succ,Act.put,List.setIfInBounds_toArray,List.set_cons_zero,List.set_cons_succ]
      refine wpAnyH_take (i:=6) (v:=?_) rfl (by kernel_rfl) (by kernel_rfl) (by kernel_rfl) (fun _ _ _ h=>h) (Or.inl ⟨by rfl,?_⟩) (by assumption) ?_
      rotate_left 1
      · (intro w hSw;(try dsimp only at hSw);go_simp;try (with_reducible rfl))
      try simp only [List.getElem_toArray,List.getElem_cons_zero,List.getElem_cons_succ,Act.put,List.setIfInBounds_toArray,List.set_cons_zero,List.set_cons_succ]
      refine wpAnyH_take (i:=7) (v:=?_) rfl (by kernel_rfl) (by kernel_rfl) (by kernel_rfl) (fun _ _ _ h=>h) (Or.inl ⟨by rfl,?_⟩) (by assumption) ?_
      rotate_left 1
      · (intro w hSw;(try dsimp only at hSw);go_simp;try (with_reducible rfl))
      try simp only [List.getElem_toArray,List.getElem_cons_zero,List.getElem_cons_succ,Act.put,List.setIfInBounds_toArray,List.set_cons_zero,List.set_cons_succ]
      refine wpAnyH_take (i:=9) (v:=?_) rfl (by kernel_rfl) (by kernel_rfl) (by kernel_rfl) (fun _ _ _ h=>h) (Or.inl ⟨by rfl,?_⟩) (by assumption) ?_
      rotate_left 1
      · (intro w hSw;(try dsimp only at hSw);go_simp;try (with_reducible rfl))
      try simp only [List.getElem_toArray,List.getElem_cons_zero,List.getElem_cons_succ,Act.put,List.setIfInBounds_toArray,List.set_cons_zero,List.set_cons_succ]
      refine wpAnyH_take (i:=10) (v:=?_) rfl (by kernel_rfl) (by kernel_rfl) (by kernel_rfl) (fun _ _ _ h=>h) (Or.inl ⟨by rfl,?_⟩) (by assumption) ?_
      rotate_left 1
      · (intro w hSw;(try dsimp only at hSw);go_simp;try (with_reducible rfl))
      try simp only [List.getElem_toArray,List.getElem_cons_zero,List.getElem_cons_succ,Act.put,List.setIfInBounds_toArray,List.set_cons_zero,List.set_cons_succ]
      refine wpAnyH_take (i:=11) (v:=?_) rfl (by kernel_rfl) (by kernel_rfl) (by kernel_rfl) (fun _ _ _ h=>h) (Or.inl ⟨by rfl,?_⟩) (by assumption) ?_
      rotate_left 1
      · (intro w hSw;(try dsimp only at hSw);go_simp;try (with_reducible rfl))
      try simp only [List.getElem_toArray,List.getElem_cons_zero,List.getElem_cons_succ,Act.put,List.setIfInBounds_toArray,List.set_cons_zero,List.set_cons_succ]
      refine wpAnyH_take (i:=12) (v:=?_) rfl (by kernel_rfl) (by kernel_rfl) (by kernel_rfl) (fun _ _ _ h=>h) (Or.inl ⟨by rfl,?_⟩) (by assumption) ?_
      rotate_left 1
      · (intro w hSw;(try dsimp only at hSw);go_simp;try (with_reducible rfl))
      try simp only [List.getElem_toArray,List.getElem_cons_zero,List.getElem_cons_succ,Act.put,List.setIfInBounds_toArray,List.set_cons_zero,List.set_cons_succ]
      refine wpAnyH_take (i:=13) (v:=?_) rfl (by kernel_rfl) (by kernel_rfl) (by kernel_rfl) (fun _ _ _ h=>h) (Or.inl ⟨by rfl,?_⟩) (by assumption) ?_
      rotate_left 1
      · (intro w hSw;(try dsimp only at hSw);go_simp;try (with_reducible rfl))
      try simp only [List.getElem_toArray,List.getElem_cons_zero,List.getElem_cons_succ,Act.put,List.setIfInBounds_toArray,List.set_cons_zero,List.set_cons_succ]
      refine wpAnyH_take (i:=14) (v:=?_) rfl (by kernel_rfl) (by kernel_rfl) (by kernel_rfl) (fun _ _ _ h=>h) (Or.inl ⟨by rfl,?_⟩) (by assumption) ?_
      rotate_left 1
      · (intro w hSw;(try dsimp only at hSw);go_simp;try (with_reducible rfl))
      try simp only [List.getElem_toArray,List.getElem_cons_zero,List.getElem_cons_succ,Act.put,List.setIfInBounds_toArray,List.set_cons_zero,List.set_cons_succ]
      refine wpAnyH_ready (rs:=[8]) (by kernel_rfl) (by simp) ?_
      refine AllReadyH.cons rfl (fun K hK=>?_) AllReadyH.nil
      go_simp
      refine hK.out _ _ (by exact ⟨keepA _ hlX c2,keepA _ (by omega) x2,keepA _ hbl d0,keepA _ hbl d1⟩) (fun hHeld=>?_)
      clear hK K
      try simp only [List.getElem_toArray,List.getElem_cons_zero,List.getElem_cons_succ,Act.put,List.setIfInBounds_toArray,List.set_cons_zero,List.set_cons_succ]
      refine wpAnyH_ready (rs:=[15]) (by kernel_rfl) (by simp) ?_
      refine AllReadyH.cons rfl (fun K hK=>?_) AllReadyH.nil
      refine wanted_step rfl (wp_append_byt (.tmp 25) (.tmp 31) rfl wr.heap.size (.slice (some ⟨wr.heap.size,0,none⟩) 0 0) [] (by simp [Act.eval]) (HE1.out.1) a2 c2' sl (by simp [Act.eval]) (HE1.out.2.1) (by simp;omega) (by simp) ?_)
      intro v2 w2 hov2 hg2
      have hb2:Below wr.heap.size wr w2:=appB_below HE1.out.2.2 (by simp) HE1.out.1 hg2
      rw [List.nil_append] at hov2
      obtain ⟨ua,uc,rfl,hm2⟩:=hov2.mine
      have HM2:Hid (Mine w2 wr.heap.size w2.heap.size ua uc sl∧Below wr.heap.size wr w2):=⟨hm2,hb2⟩
      have k0:=keep hb2 hlX c2
      have k1:=keep hb2 (by omega) x2
      have k2:=keep hb2 hbl d0
      have k3:=keep hb2 hbl d1
      have hl2:w.heap.size+1+1<w2.heap.size:=by have:=hb2.size;omega
      have hbl2:b<w2.heap.size:=by have:=hb2.size;omega
      clear hm2 hb2 hov2 hg2
      refine hK.out _ _ (by exact ⟨k0,k1,k2,k3⟩) (fun hHeld=>?_)
      clear hK K
      try simp only [List.getElem_toArray,List.getElem_cons_zero,List.getElem_cons_succ,Act.put,List.setIfInBounds_toArray,List.set_cons_zero,List.set_cons_succ]
      refine wpAnyH_take (i:=16) (v:=?_) rfl (by kernel_rfl) (by kernel_rfl) (by kernel_rfl) (fun _ _ _ h=>h) (Or.inl ⟨by rfl,?_⟩) (by assumption) ?_
      rotate_left 1
      · (intro w hSw;(try dsimp only at hSw);go_simp;try (with_reducible rfl))
      try simp only [List.getElem_toArray,List.getElem_cons_zero,List.getElem_cons_succ,Act.put,List.setIfInBounds_toArray,List.set_cons_zero,List.set_cons_succ]
      refine wpAnyH_ready (rs:=[17]) (by kernel_rfl) (by simp) ?_
      refine AllReadyH.cons rfl (fun K hK=>?_) AllReadyH.nil
      go_simp
      refine hK.out _ _ (by exact ⟨keepA _ hl2 k0,keepA _ (by omega) k1,keepA _ hbl2 k2,keepA _ hbl2 k3⟩) (fun hHeld=>?_)
      clear hK K
      try simp only [List.getElem_toArray,List.getElem_cons_zero,List.getElem_cons_succ,Act.put,List.setIfInBounds_toArray,List.set_cons_zero,List.set_cons_succ]
      refine wpAnyH_ready (rs:=[18]) (by kernel_rfl) (by simp) ?_
      refine AllReadyH.cons rfl (fun K hK=>?_) AllReadyH.nil
      refine wanted_step rfl (wp_append_it (.tmp 18) (.tmp 34) rfl (w.heap.size+1+1+1) (.slice fa fs.length fc) fs (by simp [Act.eval]) (HOP.out.cp.row.below (HOP.out.cp.mid HM2.out.2).1) w2.heap.size 1 ⟨sn,ua,uc,sl⟩ (by simp [Act.eval]) (newsT w2 sn _ sl.length uc 36 _ rfl rfl rfl rfl) (by omega) (by simp;omega) ?_)
      intro v3 w3 hov3 hg3
      obtain ⟨sa3,sc3,hv3⟩:=hov3.form
      rw [List.length_append,List.length_singleton] at hv3
      subst hv3
      have HM:Hid _:=HOP.out.more (e:=⟨sn,ua,uc,sl⟩) HM2.out.2 HM2.out.1 hov3 hg3
      have e3:=keep HM.out.2 (by omega) c2
      have y3:=keep HM.out.2 (by omega) x2
      have hne:¬ (Value.slice fa fs.length fc).ownBlock=some b:=fun he=>by have:=(HOP.out.cp.row.blk he).1;omega
      have d3:=(Only.ofGrownT hg3).cell (b:=b) (o:=off+k * 2) (by simp;omega) hne (keepA _ hbl2 k2)
      have d4:=(Only.ofGrownT hg3).cell (b:=b) (o:=off+k * 2+1) (by simp;omega) hne (keepA _ hbl2 k3)
      have g3:=(HM.out.2.frozen (p:=⟨w.heap.size+1+1,2,none⟩) (by simp)).trans f2
      have hl3:w.heap.size+1+1<w3.heap.size:=by have:=HM.out.2.size;omega
      clear hov3 hg3
      refine hK.out _ _ (by exact ⟨e3,y3,d3,d4⟩) (fun hHeld=>?_)
      clear hK K
      try simp only [List.getElem_toArray,List.getElem_cons_zero,List.getElem_cons_succ,Act.put,List.setIfInBounds_toArray,List.set_cons_zero,List.set_cons_succ]
      refine wpAnyH_done (by kernel_rfl) ?_ _
      simp only [cutQ,List.drop_succ_cons,List.drop_zero]
      clear HE1 d0 d1 k0 k1 k2 k3 y3 d3 d4
      have HCT2:Hid ((fs++[(⟨sn,ua,uc,sl⟩:El)]).map El.ct=(es.take (k+1)).map El.ct∧True):=⟨by rw [List.map_append,HST.out.1,HCS.out.1];rfl,trivial⟩
      have HMC:Hid (OwP7 w (w3.setCell ⟨w.heap.size+1+1,2,none⟩ (.slice sa3 (fs.length+1) sc3)) E O (some ⟨b,off,none⟩) n cap (.slice sa3 (fs.length+1) sc3) (fs++[⟨sn,ua,uc,sl⟩])):=HM.out.1
      clear HM HM2 HCS HST HOP c0 c1 c2 f0 f1 f2 x0 x1 x2 r0 r1 r2 g0 g1 g2
      go_wp2
      go_roundw
      case rel=>exact ⟨k+1,_,_,by omega,by go_num,HCT2.out.1,HMC.out⟩
      case measure=>simp [intOf];omega
    · have hkn:k=n:=by omega
      subst hkn
      have HFS:Hid (fs.map El.ct=es.map El.ct∧True):=⟨by rw [HST.out.1,List.take_of_length_le (by rw [HLN.out.1];exact Nat.le_refl _)],trivial⟩
      have HLA:Hid _:=HOP.out.last HFS.out.1 HRG.out
      clear HOP HST hbel x0 x1
      go_wp2
      refine bodyPost_ret (v:=.agg #[.int .i64 E,.int .i64 O,.slice fa fs.length fc]) (by simp [results,Tryz.results21,go_sem,r0,r1,r2]) rfl ?_
      exact HLA.out

set_option maxRecDepth 20000 in
set_option maxHeartbeats 8000000 in
theorem copied7_any (E O:Int) (a:Option Addr) (cap:Nat) (es:List El) (w:World) (hb:Els true w a es) (hn:es.length≤1000) (hl:∀ s ∈ es,s.ls.length≤1000000) :
    Calls Tryz.prog 28 #[.agg #[.int .i64 E,.int .i64 O,.slice a es.length cap]] w (OwA E O es w):=by
  have HB:Hid (Els true w a es):=hb
  have HL:Hid (∀ s ∈ es,s.ls.length≤1000000):=hl
  have HRG:Hid (∀ e ∈ es,rE true e):=fun e he=>(hb.1 e he).1
  clear hb hl
  generalize hlen:es.length=n at *
  have HLN:Hid (es.length=n∧True):=⟨hlen,trivial⟩
  clear hlen
  have HS0:Hid _:=OwP7.start w E O a n cap 32 32 32
  go_enter Tryz.func28,Tryz.ntmps28
  go_wp2
  go_loopw [14] (fun i wr=>∃ (k:Nat) (u:Value) (fs:List El),k≤n∧i=.int .i64 k∧fs.map El.ct=(es.take k).map El.ct∧OwP7 w wr E O a n cap u fs) (fun i _=>n - (intOf i).toNat)
  case atStart=>exact ⟨0,_,[],Nat.zero_le _,rfl,by simp,HS0.out⟩
  case round=>
    clear HS0
    obtain ⟨k,u,fs,hk,rfl,hct,hop⟩:=hrel
    have HST:Hid (fs.map El.ct=(es.take k).map El.ct∧fs.length=k):=⟨hct,by have:=congrArg List.length hct;simp at this;have:=HLN.out.1;omega⟩
    clear hct
    obtain ⟨fa,fc,rfl⟩:=hop.cp.row.form
    have HOP:Hid (OwP7 w wr E O a n cap (.slice fa fs.length fc) fs):=hop
    obtain ⟨c0,c1,c2,f0,f1,f2,hlX⟩:=hop.cp.box
    obtain ⟨x0,x1,x2,-,-,-,xl⟩:=hop.bx
    obtain ⟨r0,r1,r2,g0,g1,g2,rl⟩:=hop.by'
    have hbel:=hop.cp.bel
    clear hop
    by_cases hlt:k<n
    · obtain ⟨b,off,rfl,hbl,d0,d1,hby,hrg⟩:=(HB.out.below hbel (Nat.le_refl _)).pen k (by rw [HLN.out.1];exact hlt)
      have hbw:b<w.heap.size:=by
        obtain ⟨b',o',e',h',_⟩:=HB.out.pen k (by rw [HLN.out.1];exact hlt)
        simp at e'
        omega
      have hll:=HL.out _ (getD_memE (k:=k) (by rw [HLN.out.1];exact hlt))
      have HCS:Hid ((es.take (k+1)).map El.ct=(es.take k).map El.ct++[(es.getD k de).ct]∧True):=⟨ctE_take_succ es k (by rw [HLN.out.1];exact hlt),trivial⟩
      have hk1:fs.length≤1000:=by have:=HST.out.2;omega
      clear hrg hbel
      generalize es.getD k de=s at *
      obtain ⟨sn,a2,c2',sl⟩:=s
      simp only at d0 d1 hby hll
      have HBY:Hid (Byt wr a2 sl):=hby
      clear hby
      have hba:Below wr.heap.size wr (wr.alloc (Obj.cells #[Value.int IntKind.i64 sn,Value.slice a2 sl.length c2'] 36)):=(Below.refl _ _).alloc (Nat.le_refl _) _
      have HOP1:Hid _:=HOP.out.step hba
      have HCN:=bytesClone_any a2 c2' sl (wr.alloc (Obj.cells #[Value.int IntKind.i64 sn,Value.slice a2 sl.length c2'] 36)).drew ((HBY.out.below hba (Nat.le_refl _)).drewN 1) hll
      have e0:(wr.alloc (Obj.cells #[Value.int IntKind.i64 sn,Value.slice a2 sl.length c2'] 36)).cell? ⟨wr.heap.size,0,none⟩=some (.int .i64 sn):=by simp
      have e1:(wr.alloc (Obj.cells #[Value.int IntKind.i64 sn,Value.slice a2 sl.length c2'] 36)).cell? ⟨wr.heap.size,1,none⟩=some (.slice a2 sl.length c2'):=by simp
      have hb1l:wr.heap.size<(wr.alloc (Obj.cells #[Value.int IntKind.i64 sn,Value.slice a2 sl.length c2'] 36)).heap.size:=by simp
      go_wp2
      clear hba d0 d1 c0 c1 c2 f0 f1 f2 x0 x1 x2
      generalize wr.alloc (Obj.cells #[Value.int IntKind.i64 sn,Value.slice a2 sl.length c2'] 36)=W1 at *
      obtain ⟨c0,c1,c2,f0,f1,f2,hl1⟩:=HOP1.out.cp.box
      obtain ⟨x0,x1,x2,-,-,-,xl1⟩:=HOP1.out.bx
      have d0:=e0
      have d1:=e1
      refine wp_region_cut (S:=fun W=>W.cell? ⟨w.heap.size+1+1,2,none⟩=some (.slice fa fs.length fc)∧W.cell? ⟨wr.heap.size,0,none⟩=some (.int .i64 sn)∧W.cell? ⟨wr.heap.size,1,none⟩=some (.slice a2 sl.length c2')) 10 (by kernel_rfl) (by kernel_rfl) (by exact ⟨c2,d0,d1⟩) (fun hHeld=>?_)
      refine wpAnyH_take (i:=0) (v:=?_) rfl (by kernel_rfl) (by kernel_rfl) (by kernel_rfl) (fun _ _ _ h=>h) (Or.inl ⟨by rfl,?_⟩) (by assumption) ?_
      rotate_left 1
      · (intro w hSw;(try dsimp only at hSw);go_simp;try (with_reducible rfl))
      try simp only [List.getElem_toArray,List.getElem_cons_zero,List.getElem_cons_succ,Act.put,List.setIfInBounds_toArray,List.set_cons_zero,List.set_cons_succ]
      refine wpAnyH_take (i:=1) (v:=?_) rfl (by kernel_rfl) (by kernel_rfl) (by kernel_rfl) (fun _ _ _ h=>h) (Or.inl ⟨by rfl,?_⟩) (by assumption) ?_
      rotate_left 1
      · (intro w hSw;(try dsimp only at hSw);go_simp;try (with_reducible rfl))
      try simp only [List.getElem_toArray,List.getElem_cons_zero,List.getElem_cons_succ,Act.put,List.setIfInBounds_toArray,List.set_cons_zero,List.set_cons_succ]
      refine wpAnyH_take (i:=2) (v:=?_) rfl (by kernel_rfl) (by kernel_rfl) (by kernel_rfl) (fun _ _ _ h=>h) (Or.inl ⟨by rfl,?_⟩) (by assumption) ?_
      rotate_left 1
      · (intro w hSw;(try dsimp only at hSw);go_simp;try (with_reducible rfl))
      try simp only [List.getElem_toArray,List.getElem_cons_zero,List.getElem_cons_succ,Act.put,List.setIfInBounds_toArray,List.set_cons_zero,List.set_cons_succ]
      refine wpAnyH_take (i:=3) (v:=?_) rfl (by kernel_rfl) (by kernel_rfl) (by kernel_rfl) (fun _ _ _ h=>h) (Or.inl ⟨by rfl,?_⟩) (by assumption) ?_
      rotate_left 1
      · (intro w hSw;(try dsimp only at hSw);go_simp;try (with_reducible rfl))
      try simp only [List.getElem_toArray,List.getElem_cons_zero,List.getElem_cons_succ,Act.put,List.setIfInBounds_toArray,List.set_cons_zero,List.set_cons_succ]
      refine wpAnyH_take (i:=4) (v:=?_) rfl (by kernel_rfl) (by kernel_rfl) (by kernel_rfl) (fun _ _ _ h=>h) (Or.inl ⟨by rfl,?_⟩) (by assumption) ?_
      rotate_left 1
      · (intro w hSw;(try dsimp only at hSw);go_simp;try (with_reducible rfl))
      try simp only [List.getElem_toArray,List.getElem_cons_zero,List.getElem_cons_succ,Act.put,List.setIfInBounds_toArray,List.set_cons_zero,List.set_cons_succ]
      refine wpAnyH_take (i:=5) (v:=?_) rfl (by kernel_rfl) (by kernel_rfl) (by kernel_rfl) (fun _ _ _ h=>h) (Or.inl ⟨by rfl,?_⟩) (by assumption) ?_
      rotate_left 1
      · (intro w hSw;(try dsimp only at hSw);go_simp;try (with_reducible rfl))
      try simp only [List.getElem_toArray,List.getElem_cons_zero,List.getElem_cons_succ,Act.put,List.setIfInBounds_toArray,List.set_cons_zero,List.set_cons_succ]
      refine wpAnyH_ready (rs:=[6]) (by kernel_rfl) (by simp) ?_
      refine AllReadyH.cons rfl (fun K hK=>?_) AllReadyH.nil
      go_simp
      refine HCN.mono ?_
      clear HCN
      rintro e w2 ⟨⟨v2,rfl,hov2⟩,hb2'⟩
      have hb2:Below W1.heap.size W1 w2:=Below.drewS hb2'
      obtain ⟨ua,uc,rfl,hm2⟩:=hov2.mine
      have HM2:Hid (Mine w2 W1.heap.size w2.heap.size ua uc sl∧Below W1.heap.size W1 w2):=⟨hm2,hb2⟩
      have k0:=keep hb2 hl1 c2
      have k2:=keep hb2 hb1l d0
      have k3:=keep hb2 hb1l d1
      have hl2:w.heap.size+1+1<w2.heap.size:=by have:=hb2.size;omega
      have hbl2:wr.heap.size<w2.heap.size:=by have:=hb2.size;omega
      clear hm2 hb2 hov2 hb2'
      dsimp only
      refine hK.out _ _ (by exact ⟨k0,k2,k3⟩) (fun hHeld=>?_)
      clear hK K
      try simp only [List.getElem_toArray,List.getElem_cons_zero,List.getElem_cons_succ,Act.put,List.setIfInBounds_toArray,List.set_cons_zero,List.set_cons_succ]
      refine wpAnyH_take (i:=7) (v:=?_) rfl (by kernel_rfl) (by kernel_rfl) (by kernel_rfl) (fun _ _ _ h=>h) (Or.inl ⟨by rfl,?_⟩) (by assumption) ?_
      rotate_left 1
      · (intro w hSw;(try dsimp only at hSw);go_simp;try (with_reducible rfl))
      try simp only [List.getElem_toArray,List.getElem_cons_zero,List.getElem_cons_succ,Act.put,List.setIfInBounds_toArray,List.set_cons_zero,List.set_cons_succ]
      refine wpAnyH_ready (rs:=[8]) (by kernel_rfl) (by simp) ?_
      refine AllReadyH.cons rfl (fun K hK=>?_) AllReadyH.nil
      go_simp
      refine hK.out _ _ (by exact ⟨keepA _ hl2 k0,keepA _ hbl2 k2,keepA _ hbl2 k3⟩) (fun hHeld=>?_)
      clear hK K
      try simp only [List.getElem_toArray,List.getElem_cons_zero,List.getElem_cons_succ,Act.put,List.setIfInBounds_toArray,List.set_cons_zero,List.set_cons_succ]
      refine wpAnyH_ready (rs:=[9]) (by kernel_rfl) (by simp) ?_
      refine AllReadyH.cons rfl (fun K hK=>?_) AllReadyH.nil
      refine wanted_step rfl (wp_append_it (.tmp 19) (.tmp 26) rfl (w.heap.size+1+1+1) (.slice fa fs.length fc) fs (by simp [Act.eval]) (HOP1.out.cp.row.below (HOP1.out.cp.mid HM2.out.2).1) w2.heap.size 1 ⟨sn,ua,uc,sl⟩ (by simp [Act.eval]) (newsT w2 sn _ sl.length uc 36 _ rfl rfl rfl rfl) (by omega) (by simp;omega) ?_)
      intro v3 w3 hov3 hg3
      obtain ⟨sa3,sc3,hv3⟩:=hov3.form
      rw [List.length_append,List.length_singleton] at hv3
      subst hv3
      have HM:Hid _:=HOP1.out.more (e:=⟨sn,ua,uc,sl⟩) HM2.out.2 HM2.out.1 hov3 hg3
      have e3:=keep HM.out.2 (by omega) c2
      have hne:¬ (Value.slice fa fs.length fc).ownBlock=some b:=fun he=>by have:=(HOP.out.cp.row.blk he).1;omega
      have hne2:¬ (Value.slice fa fs.length fc).ownBlock=some wr.heap.size:=fun he=>by have:=(HOP.out.cp.row.blk he).2;omega
      have d3:=(Only.ofGrownT hg3).cell (b:=wr.heap.size) (o:=0) (by simp;omega) hne2 (keepA _ hbl2 k2)
      have d4:=(Only.ofGrownT hg3).cell (b:=wr.heap.size) (o:=1) (by simp;omega) hne2 (keepA _ hbl2 k3)
      have g3:=(HM.out.2.frozen (p:=⟨w.heap.size+1+1,2,none⟩) (by simp)).trans f2
      have hl3:w.heap.size+1+1<w3.heap.size:=by have:=HM.out.2.size;omega
      clear hov3 hg3
      refine hK.out _ _ (by exact ⟨e3,d3,d4⟩) (fun hHeld=>?_)
      clear hK K
      try simp only [List.getElem_toArray,List.getElem_cons_zero,List.getElem_cons_succ,Act.put,List.setIfInBounds_toArray,List.set_cons_zero,List.set_cons_succ]
      refine wpAnyH_done (by kernel_rfl) ?_ _
      simp only [cutQ,List.drop_succ_cons,List.drop_zero]
      clear HOP1 d0 d1 k0 k2 k3 d3 d4 e0 e1
      have HCT2:Hid ((fs++[(⟨sn,ua,uc,sl⟩:El)]).map El.ct=(es.take (k+1)).map El.ct∧True):=⟨by rw [List.map_append,HST.out.1,HCS.out.1];rfl,trivial⟩
      have HMC:Hid (OwP7 w (w3.setCell ⟨w.heap.size+1+1,2,none⟩ (.slice sa3 (fs.length+1) sc3)) E O (some ⟨b,off,none⟩) n cap (.slice sa3 (fs.length+1) sc3) (fs++[⟨sn,ua,uc,sl⟩])):=HM.out.1
      clear HM HM2 HCS HST HOP c0 c1 c2 f0 f1 f2 x0 x1 x2 r0 r1 r2 g0 g1 g2
      go_wp2
      go_roundw
      case rel=>exact ⟨k+1,_,_,by omega,by go_num,HCT2.out.1,HMC.out⟩
      case measure=>simp [intOf];omega
    · have hkn:k=n:=by omega
      subst hkn
      have HFS:Hid (fs.map El.ct=es.map El.ct∧True):=⟨by rw [HST.out.1,List.take_of_length_le (by rw [HLN.out.1];exact Nat.le_refl _)],trivial⟩
      have HLA:Hid _:=HOP.out.last HFS.out.1 HRG.out
      clear HOP HST hbel x0 x1
      go_wp2
      refine bodyPost_ret (v:=.agg #[.int .i64 E,.int .i64 O,.slice fa fs.length fc]) (by simp [results,Tryz.results28,go_sem,r0,r1,r2]) rfl ?_
      exact HLA.out
end Go.Proofs.YtiabhcfcpkkhoaaGreatDoor
