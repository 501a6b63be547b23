/- Lemmas on the way. -/
import Derived.Test.YtaibkchbkedjnaaGreatDoorElApp
import Derived.Test.YtaibkchbkedjnaaGreatDoorDcY
import Derived.Lib.SliceRun
set_option maxRecDepth 20000
set_option maxHeartbeats 16000000
namespace Go.Proofs.YtaibkchbkedjnaaGreatDoor
open Go.RowKit
set_option linter.unusedVariables false
theorem OVr.empty (p:Bool) (w:World) (B:Nat) (hB:B≤w.heap.size):OVr p (w.alloc (Obj.cells #[] (eT p))) B (.slice (some ⟨w.heap.size,0,none⟩) 0 0) []:=
 ⟨⟨by simp,.inr ⟨w.heap.size,0,#[],rfl,hB,heap_new w _,Nat.le_refl _,by simp,by simp,by simp⟩⟩⟩
theorem wp_append_row (p:Bool) {o:Oper} {a:Act} {w:World} {K:Act→World→Prop} {Q:Exit→Act→World→Prop} (s x:Operand) (ho:o.op=.call { callee:=.builtin .append,args:=#[s,x],argTypes:=#[eS p,eS p] })
  (B:Nat) (v:Value) (es fs:List El) (hs:a.eval s=v) (hown:OVr p w B v es) (xa:Addr) (c:Nat) (hx:a.eval x=.slice (some xa) fs.length c) (hX:Els p w (some xa) fs) (hb1:es.length+fs.length≤1000000) (hbase:B≤w.heap.size)
  (h:∀ v' w',OVr p w' B v' (es++fs)→w.grownBy w' v.ownBlock→K (a.put o.dst v') w'):o.wp Tryz.prog a w K Q:=by
 obtain ⟨i0,z0,b0,hi,hz0,hz1,hz2,hz3,hb0⟩:=infoE p
 have hp:0<eW p:=by cases p <;> simp [eW]
 have hnews:∀ j u,(fs.flatMap (El.cells p))[j]?=some u→w.cell? (xa.add j)=some u:=by
  intro j u hu
  have hj:j<fs.length*eW p:=by
   rcases Nat.lt_or_ge j (fs.length*eW p) with h | h
   ·exact h
   ·rw [List.getElem?_eq_none (by rw [eflat_len];exact h)] at hu;cases hu
  have hi1:j / eW p<fs.length:=by rw [Nat.div_lt_iff_lt_mul hp];exact hj
  have hi2:j % eW p<eW p:=Nat.mod_lt _ hp
  have hjj:j / eW p*eW p+j % eW p=j:=by rw [Nat.mul_comm];exact Nat.div_add_mod j (eW p)
  obtain ⟨b,off,e,hb,hc⟩:=hX.2 (Nat.lt_of_le_of_lt (Nat.zero_le _) hi1)
  obtain rfl:xa=⟨b,off,none⟩:=by simpa using e
  have hg:=eflat_get p fs (j / eW p) hi1 (j % eW p) hi2
  rw [hjj,hu] at hg
  have hl:=hc (j / eW p) hi1
  rw [addr_add]
  generalize hq:j / eW p=q at *
  generalize hr:j % eW p=r at *
  subst hjj
  cases p
  ·obtain rfl:r=0:=by simp [eW] at hi2;omega
   have h1:=hl.c1
   simp [eW,eO,El.cells] at h1 hg ⊢
   rw [h1,hg]
  ·have h0:=hl.c0 rfl
   have h1:=hl.c1
   have h2:r=0∨r=1:=by simp [eW] at hi2;omega
   rcases h2 with rfl | rfl
   ·simp [eW,El.cells] at h0 hg ⊢
    rw [h0,hg]
   ·simp [eW,eO,El.cells] at h1 hg ⊢
    rw [←Nat.add_assoc,h1,hg]
 have hone:∀ u ∈ fs.flatMap (El.cells p),u.oneCell'=true:=by
  intro u hu
  obtain ⟨e,_,he⟩:=List.mem_flatMap.1 hu
  exact oneCellE p e u he
 obtain ⟨v',w',hr,h2,h3,_,_⟩:=run_append_own_at (P:=Tryz.prog) w B (eS p) o.type (eT p) i0 z0 (eW p) b0 (undE p) hi hz0 hz1 hz2 hz3 hp v es.length _ hown.own xa fs.length c (fs.flatMap (El.cells p)) (eflat_len p fs) hnews hone (by unfold maxLen;omega) (Nat.le_trans (Nat.mul_le_mul hb1 hb0) (by omega)) hbase
 unfold Oper.wp execOp
 simp only [ho,resolve,invoke,builtin,Sem.run_bind,Sem.run_pure,Result.andThen_ok,List.map_toArray,List.map_cons,List.map_nil,hs,hx,hr]
 refine h v' w' ⟨?_⟩ h3
 rw [List.length_append,List.flatMap_append]
 exact h2
theorem wpList_append_row (p:Bool) {ops:Array Oper} {rest:List Oper} {o:Oper} {a:Act} {Q:Exit→Act→World→Prop} {w:World} (hgd:o.guard=none) (s x:Operand) (ho:o.op=.call { callee:=.builtin .append,args:=#[s,x],argTypes:=#[eS p,eS p] })
  (B:Nat) (v:Value) (es fs:List El) (hs:a.eval s=v) (hown:OVr p w B v es) (xa:Addr) (c:Nat) (hx:a.eval x=.slice (some xa) fs.length c) (hX:Els p w (some xa) fs) (hb1:es.length+fs.length≤1000000) (hbase:B≤w.heap.size)
  (h:∀ v' w',OVr p w' B v' (es++fs)→w.grownBy w' v.ownBlock→wpList Tryz.prog ops Q rest (a.put o.dst v') w'):wpList Tryz.prog ops Q (o :: rest) a w:=
 wpList_plain hgd fun _ hK=>wp_append_row p s x ho B v es fs hs hown xa c hx hX hb1 hbase fun v' w' h1 h2=>hK _ _ (h v' w' h1 h2)
theorem els_none {p:Bool} {w:World} {es:List El} (h:Els p w none es):es=[]:=by
 rcases Nat.eq_zero_or_pos es.length with h0 | h0
 ·exact List.eq_nil_of_length_eq_zero h0
 ·obtain ⟨b,off,e,_⟩:=h.2 h0
  cases e
theorem clonePend_any (a:Option Addr) (cap:Nat) (es:List El) (w:World) (hb:Els true w a es) (hn:es.length≤1000000) :
  Calls Tryz.prog 194 #[.slice a es.length cap] w fun e w'=>(∃ v,e=.returned v∧OVr true w' w.heap.size v es)∧Below w.heap.size w w':=by
 cases a with
 | none=>
  have hz:=els_none hb
  subst hz
  have heq:(binOp .eql 39 (.slice none 0 cap) (.slice none 0 0)).run Tryz.prog w=.ok (.bool true) w:=Lib.run_eql_slice_nil w _ _ none 0 cap 0 0 Tryz.underlying39
  go_enter Tryz.func194,Tryz.ntmps194
  go_wp2
  go_ret
  exact ⟨⟨_,rfl,OVr.nil _ _ _⟩,Below.refl _ _⟩
 | some ad=>
  have HO:Hid (OVr true (w.alloc (Obj.cells #[] 141)) w.heap.size (.slice (some ⟨w.heap.size,0,none⟩) 0 0) []):=OVr.empty true w _ nl
  have HB:Hid (Below w.heap.size w (w.alloc (Obj.cells #[] 141))):=ba
  have HY:Hid (Els true (w.alloc (Obj.cells #[] 141)) (some ad) es):=hb.below HB.out nl
  clear hb
  have heq:(binOp .eql 39 (.slice (some ad) es.length cap) (.slice none 0 0)).run Tryz.prog w=.ok (.bool false) w:=Lib.run_eql_slice_nil w _ _ (some ad) es.length cap 0 0 Tryz.underlying39
  go_enter Tryz.func194,Tryz.ntmps194
  go_wp2_with (at_builtin;(refine wpList_append_row true rfl (.tmp 5) (.tmp 6) rfl w.heap.size (.slice (some ⟨w.heap.size,0,none⟩) 0 0) [] es rfl HO.out ad cap rfl HY.out (by simp;omega) (by simp) ?_;intro v1 w1 hov1 hgr1;have HB1:Hid (Below w.heap.size w w1):=appE_below HB.out (by simp) HO.out hgr1;have HV1:Hid (OVr true w1 w.heap.size v1 es):=(by rw [List.nil_append] at hov1;exact hov1);clear hov1 hgr1))
  go_ret
  exact ⟨⟨_,rfl,HV1.out⟩,HB1.out⟩
end Go.Proofs.YtaibkchbkedjnaaGreatDoor
