/-
  The law on PackAdd returns true, whatever is handed in, and writes nothing that was there. (Typed by wip/mklpa.py.)
-/
import Derived.Test.YtdkffeemnenhdaaGreatDoorPkA
import Derived.Test.YtdkffeemnenhdaaGreatDoorItM
import Derived.Test.YtdkffeemnenhdaaGreatDoorSnp0
import Derived.Test.YtdkffeemnenhdaaGreatDoorCut
namespace Go.Proofs.YtdkffeemnenhdaaGreatDoor
open Go.RowKit
set_option linter.unusedVariables false
set_option linter.unusedSimpArgs false

/-- Copies that lie ahead of block X. -/
structure CopV (W : World) (B X : Nat) (v : Value) (ts ss : List El) : Prop where
  cop : CopT W B v ts ss
  r : ∀ k, v.ownBlock = some k → k < X
  d : ∀ e ∈ ts, ∀ k, rowOf e.a k → k < X
theorem CopV.stab {lo hi B X : Nat} {v : Value} {ts ss : List El} (h1 : lo ≤ B) (h2 : X ≤ hi) : Stab lo hi (fun W => CopV W B X v ts ss) := fun T W W' hp ho ht hl =>
  ⟨⟨hp.cop.ct, hp.cop.row.stay ho (fun k hk => ht k (by have := (hp.cop.row.blk hk).1; omega) (by have := hp.r k hk; omega)), hp.cop.deep.stay ho (fun e he k hk => ht k (by have := ((hp.cop.deep.mine e he).rowE hk).1; omega) (by have := hp.d e he k hk; omega)), hp.cop.rng⟩, hp.r, hp.d⟩
theorem CopT.v {W : World} {B : Nat} {v : Value} {ts ss : List El} (h : CopT W B v ts ss) : CopV W B W.heap.size v ts ss := ⟨h, fun k hk => (h.row.blk hk).2, fun e he k hk => ((h.deep.mine e he).rowE hk).2⟩
/-- The cells of a box of three, and of one of two. -/
def Ce3 (W : World) (b : Nat) (x y z : Value) : Prop := W.cell? ⟨b, 0, none⟩ = some x ∧ W.cell? ⟨b, 1, none⟩ = some y ∧ W.cell? ⟨b, 2, none⟩ = some z
def Ce2 (W : World) (b : Nat) (x y : Value) : Prop := W.cell? ⟨b, 0, none⟩ = some x ∧ W.cell? ⟨b, 1, none⟩ = some y
theorem Ce3.stab {lo hi b : Nat} {x y z : Value} (h1 : lo ≤ b) (h2 : b < hi) : Stab lo hi (fun W => Ce3 W b x y z) := (Stab.cell h1 h2).and ((Stab.cell h1 h2).and (Stab.cell h1 h2))
theorem Ce2.stab {lo hi b : Nat} {x y : Value} (h1 : lo ≤ b) (h2 : b < hi) : Stab lo hi (fun W => Ce2 W b x y) := (Stab.cell h1 h2).and (Stab.cell h1 h2)

/-- Two packs that say the same are equal. -/
theorem eqPack_cop (E O : Int) (a b : Option Addr) (ca cb : Nat) (fs us vs : List El) {B B' : Nat} (w : World) (hu : CopT w B (.slice a us.length ca) us fs) (hv : CopT w B' (.slice b vs.length cb) vs fs) (hx : FewI fs) :
    Calls Tryz.prog 13 #[.agg #[.int .i64 E, .int .i64 O, .slice a us.length ca], .agg #[.int .i64 E, .int .i64 O, .slice b vs.length cb]] w fun e w' => e = .returned (.bool true) ∧ Below w.heap.size w w' := by
  have := eqPack_yes E O a b ca cb us vs w hu.its.els hv.its.els (hu.ct.trans hv.ct.symm) (hx.ct hu.ct)
  rw [show us.length = vs.length from by rw [len_ctE hu.ct, len_ctE hv.ct]] at this ⊢
  exact this
set_option maxHeartbeats 1000000 in
theorem markItem_any (n : Int) (a : Option Addr) (B U c : Nat) (zs : List Int) (k : Int) (w : World) (h : Mine w B U a c zs) (hn : zs.length ≤ 2097152) (h0 : 0 ≤ k) (h1 : k ≤ 2097152) :
    Calls Tryz.prog 22 #[.agg #[.int .i64 n, .slice a zs.length c], .int .i64 k] w fun e w' => e = .returned (.int .i64 (k + zs.length)) ∧ Only (rowOf a) w w' := by
  have hw : Below w.heap.size w (w.alloc (Obj.cells #[Value.int IntKind.i64 n, Value.slice a zs.length c] 40)) := (Below.refl _ _).alloc (Nat.le_refl _) _
  have HM := markByteS_any a B U c zs k _ (h.below hw) hn h0 h1
  clear h
  go_enter Tryz.func22, Tryz.ntmps22
  go_wp2_with fail
  refine HM.mono ?_
  clear HM
  rintro e w1 ⟨rfl, -, h3⟩
  have HF : Hid (Only (rowOf a) w w1) := ((Only.refl (rowOf a) w).alloc _).trans h3
  clear h3 hw
  go_wp2
  go_ret
  exact ⟨rfl, HF.out⟩
set_option maxHeartbeats 1000000 in
theorem heldPack_any (E O : Int) (a : Option Addr) (cap : Nat) (ss : List El) (k : Int) (w : World) (h : Els true w a (mkE true k ss)) (hn : ss.length + elets ss ≤ 1048576) (h0 : 0 ≤ k) (h1 : k + ss.length + elets ss < 2097152) :
    Calls Tryz.prog 23 #[.agg #[.int .i64 E, .int .i64 O, .slice a ss.length cap], .int .i64 k] w fun e w' => e = .returned (.int .i64 (k + elets ss + ss.length)) ∧ Below w.heap.size w w' := by
  have hw : Below w.heap.size w (w.alloc (Obj.cells #[Value.int IntKind.i64 E, Value.int IntKind.i64 O, Value.slice a ss.length cap] 29)) := (Below.refl _ _).alloc (Nat.le_refl _) _
  have HM := heldItemS_any a cap ss k _ (h.below hw (Nat.le_refl _)) hn h0 h1
  clear h
  go_enter Tryz.func23, Tryz.ntmps23
  go_wp2_with fail
  refine HM.mono ?_
  clear HM
  rintro e w1 ⟨rfl, h3⟩
  have HF : Hid (Below w.heap.size w w1) := by
    first | exact hw.trans (h3.mono (by simp)) | (subst h3; exact hw)
  clear h3 hw
  have hnn : ¬ (k + elets ss + ss.length < 0) := by omega
  go_wp2
  go_ret
  exact ⟨rfl, HF.out⟩
end Go.Proofs.YtdkffeemnenhdaaGreatDoor
