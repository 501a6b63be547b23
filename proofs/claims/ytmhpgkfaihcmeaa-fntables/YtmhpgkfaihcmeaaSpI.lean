/-
  Spread of the program.
-/
import Derived.Deep.WholeRow
import Derived.Test.YtmhpgkfaihcmeaaSp3
import Derived.Test.YtmhpgkfaihcmeaaArR
namespace Go.Proofs.Ytmhpgkfaihcmeaa
open Go.RowKit
set_option linter.unusedVariables false

theorem fl_rng (zs : List Int) : ∀ i, ∀ z ∈ fl i zs, 0 ≤ z ∧ z ≤ ((i + zs.length : Nat) : Int) := by
  induction zs with
  | nil => intro i z hz; simp [fl] at hz
  | cons y zs ih =>
    intro i z hz
    simp only [fl, List.mem_append, List.mem_replicate] at hz
    rcases hz with ⟨_, rfl⟩ | hz
    · simp; omega
    · have := ih (i + 1) z hz
      simp only [List.length_cons]
      omega
theorem pl_rng (F : List Int) (m : Int) (hm : 0 ≤ m) (hF : ∀ z ∈ F, 0 ≤ z ∧ z ≤ m) (ps : List Nat) : ∀ z ∈ pl F ps, 0 ≤ z ∧ z ≤ m := by
  unfold pl
  generalize ps.zipIdx = l
  have : ∀ (l : List (Nat × Nat)) (r : List Int), (∀ z ∈ r, 0 ≤ z ∧ z ≤ m) → ∀ z ∈ l.foldl (fun r pj => r.set pj.1 (F.getD pj.2 0)) r, 0 ≤ z ∧ z ≤ m := by
    intro l
    induction l with
    | nil => intro r h; simpa using h
    | cons p l ih =>
      intro r h
      simp only [List.foldl_cons]
      refine ih _ fun z hz => ?_
      rcases List.mem_or_eq_of_mem_set hz with h' | rfl
      · exact h z h'
      · rw [List.getD_eq_getElem?_getD]
        cases hq : F[p.2]? with
        | none => simpa using hm
        | some x => simpa using hF x (List.mem_of_getElem? hq)
  exact this l _ (by intro z hz; simp at hz; omega)

theorem wpList_store_newS {P : Program} {ops : Array Oper} {rest : List Oper} {op : Oper} {a : Act} {w : World} {Q : Exit → Act → World → Prop} (hgd : op.guard = none) (ty : TypeId) (x y : Operand) (ho : op.op = .store ty x y) (c c' : Array Value) (hx : a.eval x = .pointer (some ⟨w.heap.size, 0, none⟩)) (hy : a.eval y = .agg c')
    (hi : (P.info? ty).map (·.size) = some c'.size) (hc : c.size = c'.size) (h1 : c'.all (·.oneCell') = true) (h : wpList P ops Q rest (a.put op.dst undef) (w.alloc (.cells c' ty))) : wpList P ops Q (op :: rest) a (w.alloc (.cells c ty)) := wpList_plain hgd fun K hK => by
  have hl := run_storeVar_new (P := P) w ty c c' hi hc h1
  unfold Oper.wp execOp
  simp only [ho, hx, hy, Instr.storeAt, Instr.sureAddr, Sem.run_bind, Sem.run_pure, Result.andThen_ok, hl]
  exact hK _ _ h

set_option maxHeartbeats 1600000 in
theorem implSpread_no (a : Option Addr) (cap : Nat) (zs : List Int) (w : World) (hb : Ins w a zs) (hl : zs.length ≤ 281474976710656) (h : normB zs = false) :
    Calls Try.prog 11 #[.slice a zs.length cap] w fun e w' => e = .returned (.tuple #[.slice none 0 0, .bool false]) ∧ w' = w := by
  have HT := implNormOk_any a cap zs w hb hl
  rw [h] at HT
  go_enter Try.func11, Try.ntmps11
  go_wp2_with fail
  refine HT.mono ?_
  rintro e w0 ⟨rfl, rfl⟩
  go_wp2
  go_ret2
  exact ⟨rfl, rfl⟩
set_option maxRecDepth 20000 in
set_option maxHeartbeats 1600000 in
theorem implSpread_yes (a : Option Addr) (cap : Nat) (zs : List Int) (w : World) (hb : Ins w a zs) (h : normB zs = true) :
    Calls Try.prog 11 #[.slice a zs.length cap] w fun e w' => ∃ g, e = .returned (.tuple #[.slice (some ⟨g, 0, none⟩) 64 64, .bool true]) ∧ ArI w' w.heap.size w'.heap.size (some ⟨g, 0, none⟩) (pl (fl 0 zs) (plc 64)) ∧ Below w.heap.size w w' := by
  have hl := normB_bnd h
  have HT := implNormOk_any a cap zs w hb (by omega)
  have HS := callsIn_wide.1 (spreadOf_in 3 (by omega) a cap zs w hb h)
  have hr := pl_rng (fl 0 zs) ((0 + zs.length : Nat) : Int) (by omega) (fl_rng zs 0) (plc 64)
  have HR : Hid (∀ z ∈ pl (fl 0 zs) (plc 64), -9223372036854775808 ≤ z ∧ z ≤ 9223372036854775807) := fun z hz => by have := hr z hz; omega
  have hyl := pl_len (fl 0 zs) (plc 64)
  rw [h] at HT
  generalize pl (fl 0 zs) (plc 64) = ys at *
  have hsz : ((ys.map (Value.int .i64)).toArray).size = 64 := by simp [hyl]
  have HI : Hid ((Try.prog.info? 43).map (·.size) = some ((ys.map (Value.int .i64)).toArray).size) := by unfold Hid; rw [hsz]; kernel_rfl
  have H1 : Hid (((ys.map (Value.int .i64)).toArray).all (·.oneCell') = true) := by unfold Hid; simp [Value.oneCell']
  have HSZ : Hid (((ys.map (Value.int .i64)).toArray).size = 64) := hsz
  clear hsz hr h hyl
  go_enter Try.func11, Try.ntmps11
  go_wp2_with fail
  refine HT.mono ?_
  rintro e w0 ⟨rfl, rfl⟩
  go_wp2_with fail
  refine HS.mono ?_
  rintro e w1 ⟨rfl, hbb⟩
  have HB : Hid (Below w0.heap.size w0 w1) := hbb
  clear hbb HS HT
  generalize hE : (ys.map (Value.int .i64)).toArray = E at *
  have HE : Hid ((ys.map (Value.int .i64)).toArray = E) := hE
  clear hE
  go_wp2_with (refine wpList_store_newS rfl 43 (.tmp 4) (.tmp 9) rfl _ E rfl rfl HI.out (by rw [HSZ.out]; rfl) H1.out ?_)
  go_ret2
  refine ⟨w1.heap.size, rfl, ⟨HR.out, .inr ⟨w1.heap.size, 43, rfl, HB.out.size, by simp, ?_⟩⟩, HB.out.alloc HB.out.size _⟩
  rw [HE.out]
  exact World.alloc_heap_new _ _

end Go.Proofs.Ytmhpgkfaihcmeaa
