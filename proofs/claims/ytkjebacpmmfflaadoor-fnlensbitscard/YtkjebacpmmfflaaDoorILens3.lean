/-
  The program's checkLens and LensOk.
-/
import Derived.Test.YtkjebacpmmfflaaDoorIBase
import Derived.LaidEql
import Derived.Stop.Asserts
import Derived.RowKitTokens
import Derived.Test.YtkjebacpmmfflaaDoorILensC
namespace Go.Proofs.YtkjebacpmmfflaaDoor
open Go.RowKit Go.Extern.Stop Go.Stop Go.Extern
set_option linter.unusedVariables false

theorem asNil (t : Value) (w : World) : Calls Tryd.prog 33 #[.nilIface, t] w fun e w' => e = .returned (.bool false) ∧ w' = w := by
  go_enter Tryd.func33, Tryd.ntmps33
  go_wp2
  go_ret
  exact ⟨rfl, rfl⟩

/-- The handle of a type, and reflectlite's Value of a variable of type **lensError or *lensError. -/
abbrev hand (t : Nat) : Value := .pointer (some ⟨11, t, none⟩)
abbrev valP (a : Addr) : Value := .agg #[hand 65, .pointer (some a), .int .u64 150]
abbrev valE (a : Addr) (fl : Int) : Value := .agg #[hand 60, .pointer (some a), .int .u64 fl]
abbrev rtyp (t : Nat) : Value := .iface 137 (.agg #[hand t])

theorem asV1 (t : Addr) (w : World) : (ReflectliteValue.unpack (.iface 65 (.pointer (some t)))).run Tryd.prog w = .ok (valP ⟨w.heap.size, 0, none⟩) (w.alloc (.cells #[.pointer (some t)] 65)) := by kernel_rfl
theorem asT1 (a : Addr) (w : World) : (ReflectliteValue.methodAny (ReflectliteValue.valueError "reflectlite.Value.Type" 0) (fun t _ _ _ => ReflectliteType.toType t) #[valP a]).run Tryd.prog w = .ok (rtyp 65) w := by kernel_rfl
theorem asMK (h : Value) (w : World) : (Go.method 288 137 (.agg #[h]) "Kind").run Tryd.prog w = .ok (91, h) w := by kernel_rfl
theorem asK1 (w : World) : ((ReflectliteType.abiMethod fun t => (fun a : Nat => Value.int IntKind.u8 (a : Int)) <$> Rtype.kind t) #[hand 65]).run Tryd.prog w = .ok (.int .u8 22) w := by kernel_rfl
theorem asK2 (w : World) : ((ReflectliteType.abiMethod fun t => (fun a : Nat => Value.int IntKind.u8 (a : Int)) <$> Rtype.kind t) #[hand 60]).run Tryd.prog w = .ok (.int .u8 22) w := by kernel_rfl
theorem asM1 (z : Sem Value) (f : TypeId → Addr → Nat → Nat → Sem Value) (v : Value) : ReflectliteValue.method z f #[v] = (do match ← ReflectliteValue.parts v with | none => z | some (t, a, fl) => f t a fl (fl % 32)) := rfl
theorem asP1 (a : Addr) (w : World) : (ReflectliteValue.parts (valP a)).run Tryd.prog w = .ok (some (65, a, 150)) w := by kernel_rfl
theorem asP2 (a : Addr) (w : World) : (ReflectliteValue.parts (valE a 406)).run Tryd.prog w = .ok (some (60, a, 406)) w := by kernel_rfl
theorem asP3 (a : Addr) (w : World) : (ReflectliteValue.parts (valE a 150)).run Tryd.prog w = .ok (some (60, a, 150)) w := by kernel_rfl
theorem asN1 (a p : Addr) (W : World) (ha : W.cell? a = some (.pointer (some p))) : (ReflectliteValue.method (ReflectliteValue.valueError "reflectlite.Value.IsNil" 0) ReflectliteValue.isNil #[valP a]).run Tryd.prog W = .ok (.bool false) W := by
  rw [asM1]
  simp only [Sem.run_bind, asP1, Result.andThen]
  simp [ReflectliteValue.isNil, loadVar, isAgg, underlying, Tryd.underlying65, ha, Result.andThen]
theorem asME (h : Value) (w : World) : (Go.method 288 137 (.agg #[h]) "Elem").run Tryd.prog w = .ok (117, .agg #[h]) w := by kernel_rfl
theorem asMI (h : Value) (w : World) : (Go.method 288 137 (.agg #[h]) "Implements").run Tryd.prog w = .ok (118, .agg #[h]) w := by kernel_rfl
theorem asMA (h : Value) (w : World) : (Go.method 288 137 (.agg #[h]) "AssignableTo").run Tryd.prog w = .ok (115, .agg #[h]) w := by kernel_rfl
theorem asE1 (w : World) : (ReflectliteType.method ReflectliteType.elem #[.agg #[hand 65]]).run Tryd.prog w = .ok (rtyp 60) w := by kernel_rfl
theorem asI1 (w : World) : (ReflectliteType.relation "Implements" ReflectliteType.implements_ #[.agg #[hand 60], rtyp 63]).run Tryd.prog w = .ok (.bool true) w := by kernel_rfl
theorem asO1 (v : Value) (w : World) : (ReflectliteType.typeOf #[.iface 60 v]).run Tryd.prog w = .ok (rtyp 60) w := by kernel_rfl
theorem asA1 (w : World) : (ReflectliteType.relation "AssignableTo" ReflectliteType.assignableTo #[.agg #[hand 60], rtyp 60]).run Tryd.prog w = .ok (.bool true) w := by kernel_rfl
theorem asV2 (e : Addr) (w : World) : (ReflectliteValue.unpack (.iface 60 (.pointer (some e)))).run Tryd.prog w = .ok (valE ⟨w.heap.size, 0, none⟩ 150) (w.alloc (.cells #[.pointer (some e)] 60)) := by kernel_rfl
theorem asEl (w : World) : (Rtype.elem? 65).run Tryd.prog w = .ok (some 60) w := by kernel_rfl
theorem asMk (p : Addr) (w : World) : (ReflectliteValue.mk 60 p ReflectliteValue.flagAddr).run Tryd.prog w = .ok (valE p 406) w := by kernel_rfl
theorem asE2 (a p : Addr) (W : World) (ha : W.cell? a = some (.pointer (some p))) : (ReflectliteValue.method (ReflectliteValue.valueError "reflectlite.Value.Elem" 0) ReflectliteValue.elem #[valP a]).run Tryd.prog W = .ok (valE p 406) W := by
  rw [asM1]
  simp only [Sem.run_bind, asP1, Result.andThen]
  simp [ReflectliteValue.elem, loadVar, isAgg, underlying, Tryd.underlying65, ha, Result.andThen, asEl, asMk]
theorem asD1 (w : World) : (Rtype.directlyAssignable 60 60).run Tryd.prog w = .ok true w := by kernel_rfl
theorem asS1 (ta b e : Addr) (old : Value) (W : World) (hb : W.cell? b = some (.pointer (some e))) (ht : W.cell? ta = some old) (hf : W.frozen? ta = false) :
    (ReflectliteValue.set #[valE ta 406, valE b 150]).run Tryd.prog W = .ok (.tuple #[]) (W.setCell ta (.pointer (some e))) := by
  refine Eq.trans (b := (ReflectliteValue.parts (valE ta 406) >>= fun p => ReflectliteValue.parts (valE b 150) >>= fun q => _).run Tryd.prog W) rfl ?_
  simp only [Sem.run_bind, asP2, asP3, Result.andThen]
  simp [ReflectliteValue.flagAddr, loadVar, isAgg, underlying, Tryd.underlying60, hb, Result.andThen, asD1, storeVar, Value.cells, storeCells, Addr.add]
  rw [run_store Tryd.prog W ta _ _ (by rfl)]
  simp [ht, hf]

/-- The three blocks that errors.As makes ahead of its test. -/
abbrev asW3 (w : World) (t : Addr) : World := ((w.alloc (.cells #[.pointer (some t)] 65)).alloc (.cells #[hand 65, .pointer (some ⟨w.heap.size, 0, none⟩), .int .u64 150] 105)).alloc (.cells #[hand 65, .pointer (some ⟨w.heap.size, 0, none⟩), .int .u64 150] 105)

set_option maxHeartbeats 4000000 in
theorem asHit (e t : Addr) (old : Value) (w : World) (hg : w.cell? ⟨0, 0, none⟩ = some (rtyp 63)) (ht0 : w.cell? t = some old) (hf0 : w.frozen? t = false) :
    Calls Tryd.prog 33 #[.iface 60 (.pointer (some e)), .iface 65 (.pointer (some t))] w fun ev w' =>
      ev = .returned (.bool true) ∧ w' = ((asW3 w t).alloc (.cells #[.pointer (some e)] 60)).setCell t (.pointer (some e)) := by
  have h6 := @run_callFunc_extern Tryd.prog 57 _ (fun args => ReflectliteValue.unpack (args.getD 0 (.tuple #[]))) Tryd.func57 (by kernel_rfl) (by kernel_rfl) (by kernel_rfl) (by kernel_rfl)
  have h7 := @run_callFunc_extern Tryd.prog 58 _ (ReflectliteValue.methodAny (ReflectliteValue.valueError "reflectlite.Value.Type" 0) (fun t _ _ _ => ReflectliteType.toType t)) Tryd.func58 (by kernel_rfl) (by kernel_rfl) (by kernel_rfl) (by kernel_rfl)
  have h8 := @run_callFunc_extern Tryd.prog 59 _ (ReflectliteValue.method (ReflectliteValue.valueError "reflectlite.Value.IsNil" 0) ReflectliteValue.isNil) Tryd.func59 (by kernel_rfl) (by kernel_rfl) (by kernel_rfl) (by kernel_rfl)
  have h9 := @run_callFunc_extern Tryd.prog 91 _ (ReflectliteType.abiMethod fun t => do pure (.int .u8 (← Rtype.kind t))) Tryd.func91 (by kernel_rfl) (by kernel_rfl) (by kernel_rfl) (by kernel_rfl)
  have h10 := @run_callFunc_extern Tryd.prog 117 _ (ReflectliteType.method ReflectliteType.elem) Tryd.func117 (by kernel_rfl) (by kernel_rfl) (by kernel_rfl) (by kernel_rfl)
  have h11 := @run_callFunc_extern Tryd.prog 118 _ (ReflectliteType.relation "Implements" ReflectliteType.implements_) Tryd.func118 (by kernel_rfl) (by kernel_rfl) (by kernel_rfl) (by kernel_rfl)
  have h12 := @run_callFunc_extern Tryd.prog 73 _ ReflectliteType.typeOf Tryd.func73 (by kernel_rfl) (by kernel_rfl) (by kernel_rfl) (by kernel_rfl)
  have h13 := @run_callFunc_extern Tryd.prog 115 _ (ReflectliteType.relation "AssignableTo" ReflectliteType.assignableTo) Tryd.func115 (by kernel_rfl) (by kernel_rfl) (by kernel_rfl) (by kernel_rfl)
  have h14 := @run_callFunc_extern Tryd.prog 74 _ (ReflectliteValue.method (ReflectliteValue.valueError "reflectlite.Value.Elem" 0) ReflectliteValue.elem) Tryd.func74 (by kernel_rfl) (by kernel_rfl) (by kernel_rfl) (by kernel_rfl)
  have h15 := @run_callFunc_extern Tryd.prog 75 _ ReflectliteValue.set Tryd.func75 (by kernel_rfl) (by kernel_rfl) (by kernel_rfl) (by kernel_rfl)
  have c1 := asO1
  have c2 := asMA
  have c3 := asA1
  have c4 := asV2
  have c5 := asV1
  have c6 := asT1
  have c7 := asMK
  have c8 := asME
  have c9 := asMI
  have c10 := asK1
  have c11 := asK2
  have c12 := asE1
  have c13 := asI1
  have n8 := asN1 ⟨w.heap.size, 0, none⟩ t ((w.alloc (.cells #[.pointer (some t)] 65)).alloc (.cells #[hand 65, .pointer (some ⟨w.heap.size, 0, none⟩), .int .u64 150] 105)) (by simp)
  have hlt : 0 < w.heap.size := World.block_lt_of_cell? _ _ hg
  have hg2 : ((w.alloc (.cells #[.pointer (some t)] 65)).alloc (.cells #[hand 65, .pointer (some ⟨w.heap.size, 0, none⟩), .int .u64 150] 105)).cell? ⟨0, 0, none⟩ = some (rtyp 63) := keepA _ (by simp <;> omega) (keepA _ hlt hg)
  have htl : t.block < w.heap.size := World.block_lt_of_cell? _ _ ht0
  have el := asE2 ⟨w.heap.size, 0, none⟩ t (asW3 w t) (keepA _ (by simp <;> omega) (keepA _ (by simp <;> omega) (by simp)))
  have st := asS1 t ⟨w.heap.size + 1 + 1 + 1, 0, none⟩ e old ((asW3 w t).alloc (.cells #[.pointer (some e)] 60))
    (by rw [World.cell?_alloc_at _ _ _ _ (by simp)]; rfl)
    (by rw [World.cell?_alloc_lt _ _ t (by simp; omega), World.cell?_alloc_lt _ _ t (by simp; omega), World.cell?_alloc_lt _ _ t (by simp; omega), World.cell?_alloc_lt _ _ t htl]; exact ht0)
    (by rw [World.frozen?_alloc_old _ _ t (by simp; omega), World.frozen?_alloc_old _ _ t (by simp; omega), World.frozen?_alloc_old _ _ t (by simp; omega), World.frozen?_alloc_old _ _ t (Nat.ne_of_lt htl)]; exact hf0)
  go_enter Tryd.func33, Tryd.ntmps33
  go_wp2
  refine wp_loop_rounds 1 ?_
  rw [rounds_succ]
  go_wp2
  go_ret
  exact ⟨rfl, rfl⟩
end Go.Proofs.YtkjebacpmmfflaaDoor
namespace Go.Proofs.YtkjebacpmmfflaaDoor
open Go.RowKit
set_option linter.unusedVariables false

/-- The handle that errors.As looks up. -/
def ErrT (w : World) : Prop := w.cell? ⟨0, 0, none⟩ = some (rtyp 63)
theorem ErrT.below {w w' : World} (h : ErrT w) (hb : Below w.heap.size w w') : ErrT w' := keep hb (World.block_lt_of_cell? _ _ h) h

set_option maxHeartbeats 2000000 in
theorem implLens_any (a : Option Addr) (cap : Nat) (zs : List Int) (w : World) (hb : Ins w a zs) (hn : zs.length ≤ 281474976710656) (h4 : Four w) (hE : ErrT w) :
    Calls Tryd.prog 11 #[.slice a zs.length cap] w fun e w' => e = .returned (.bool (lensB zs)) ∧ Below w.heap.size w w' := by
  have hw : Below w.heap.size w (w.alloc (.cells #[.pointer none] 60)) := (Below.refl _ _).alloc (Nat.le_refl _) _
  go_enter Tryd.func11, Tryd.ntmps11
  go_wp2_with fail
  refine (checkLens_any a cap zs _ (hb.below hw (Nat.le_refl _)) hn (h4.below hw)).mono ?_
  rintro e w1 ⟨hb1, hy, hx⟩
  have hbb : Below w.heap.size w w1 := hw.trans (hb1.mono (by simp))
  have hc : w1.cell? ⟨w.heap.size, 0, none⟩ = some (.pointer none) := keep hb1 (by simp) (by simp)
  have hf : w1.frozen? ⟨w.heap.size, 0, none⟩ = false := (hb1.frozen (p := ⟨w.heap.size, 0, none⟩) (by simp)).trans (by simp)
  have hE1 := hE.below hbb
  clear hb1 hw h4 hE hb
  cases hL : lensB zs with
  | true =>
    have HLL : Hid (lensB zs = true) := hL
    obtain rfl := hy hL
    clear hx hy hL
    go_wp2_with fail
    refine (asNil _ _).mono ?_
    rintro e w2 ⟨rfl, rfl⟩
    go_wp2
    go_ret
    exact ⟨by rw [HLL.out]; rfl, hbb⟩
  | false =>
    have HLL : Hid (lensB zs = false) := hL
    obtain ⟨p, rfl⟩ := hx hL
    clear hx hy hL
    go_wp2_with fail
    refine (asHit p ⟨w.heap.size, 0, none⟩ _ w1 hE1 hc hf).mono ?_
    rintro e w2 ⟨rfl, rfl⟩
    have hz := hbb.size
    have hB' : (Below w.heap.size w (((asW3 w1 ⟨w.heap.size, 0, none⟩).alloc (.cells #[.pointer (some p)] 60)).setCell ⟨w.heap.size, 0, none⟩ (.pointer (some p)))) := by
      refine Below.setCell (p := ⟨w.heap.size, 0, none⟩) ?_ (Nat.le_refl _) _
      exact (((hbb.alloc hz _).alloc (by simp; omega) _).alloc (by simp; omega) _).alloc (by simp; omega) _
    have HB : Hid _ := hB'
    clear hbb hE1 hc hf hB'
    generalize ((asW3 w1 ⟨w.heap.size, 0, none⟩).alloc (.cells #[.pointer (some p)] 60)).setCell ⟨w.heap.size, 0, none⟩ (.pointer (some p)) = w2 at *
    go_wp2
    go_ret
    exact ⟨by rw [HLL.out]; rfl, HB.out⟩
end Go.Proofs.YtkjebacpmmfflaaDoor
