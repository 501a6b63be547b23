/-
  What a writer's answer reads.
-/
import Derived.Test.YtkjebacpmmfflaaDoorPut4
namespace Go.Proofs.YtkjebacpmmfflaaDoor
open Go.RowKit
set_option linter.unusedVariables false

theorem OwnV.blk {w : World} {B : Nat} {v : Value} {zs : List Int} (h : OwnV w B v zs) {k : Nat} (hk : v.ownBlock = some k) : B ≤ k := by
  rcases h.1.2 with ⟨rfl, h0⟩ | ⟨g, cap, cur, rfl, hg, _⟩
  · simp [Value.ownBlock] at hk
  · simp [Value.ownBlock] at hk
    omega

/-- The program's writer at R has n bits, the number V, in a row of its own; room for 4096. -/
def WI (w : World) (B R n V : Nat) : Prop := ∃ v, w.heap[R]? = some (.cells #[v, .int .i64 n, .int .i64 4096] 75 (0, 0)) ∧ OwnV w B v (enc n V) ∧ V < 2 ^ n ∧ B ≤ R ∧ B ≤ w.heap.size
/-- The model's bits at R. -/
def SI (w : World) (B R n V : Nat) : Prop := ∃ v, w.heap[R]? = some (.cells #[v, .int .i64 n] 36 (0, 0)) ∧ OwnV w B v (enc n V) ∧ V < 2 ^ n ∧ B ≤ R ∧ B ≤ w.heap.size

theorem WI.put {w : World} {B R n V : Nat} (h : WI w B R n V) (x width : Int) (hx : 0 ≤ x) (h1 : 0 ≤ width) (h2 : width ≤ 30) (hxw : x < 2 ^ width.toNat) (h3 : width ≤ 4096 - n) (hn : n ≤ 4096) :
    Calls Tryd.prog 66 #[.pointer (some ⟨R, 0, none⟩), .int .i64 x, .int .i64 width] w fun e w' => e = .returned .nilIface ∧ WI w' B R (n + width.toNat) (V + x.toNat * 2 ^ n) ∧ Below B w w' := by
  obtain ⟨v, hR, hv, hV, hBR, hB⟩ := h
  refine (wput_yes R B v n V x width 4096 w hR hv hV hB hx h1 h2 hxw h3 (by omega) (by omega)).mono ?_
  rintro e w' ⟨rfl, v', hR', hv', ho, _⟩
  have hb : Below B w w' := ho.below hB (fun k hk => by
    rcases hk with hk | hk
    · omega
    · exact hv.blk hk)
  refine ⟨rfl, ⟨v', hR', hv', ?_, hBR, Nat.le_trans hB hb.size⟩, hb⟩
  refine put_lt n V width.toNat x.toNat hV ?_
  have e : ((2 : Int) ^ width.toNat) = ((2 ^ width.toNat : Nat) : Int) := by simp
  rw [e] at hxw
  omega

theorem SI.put {w : World} {B R n V : Nat} (h : SI w B R n V) (x width : Int) (hx : 0 ≤ x) (h1 : 0 ≤ width) (h2 : width ≤ 30) (hxw : x < 2 ^ width.toNat) (hn : n ≤ 4096) :
    Calls Tryd.prog 68 #[.pointer (some ⟨R, 0, none⟩), .int .i64 x, .int .i64 width] w fun e w' => e = .returned (.tuple #[]) ∧ SI w' B R (n + width.toNat) (V + x.toNat * 2 ^ n) ∧ Below B w w' := by
  obtain ⟨v, hR, hv, hV, hBR, hB⟩ := h
  have e : ((2 : Int) ^ width.toNat) = ((2 ^ width.toNat : Nat) : Int) := by simp
  rw [e] at hxw
  have hp : 2 ^ width.toNat ≤ 2 ^ 30 := Nat.pow_le_pow_right (by omega) (by omega)
  refine (l1put_any R B v n V x width w hR hv hV hB hx (by omega) h1 h2 (by omega)).mono ?_
  rintro e w' ⟨rfl, v', hR', hv', ho, _⟩
  rw [Nat.mod_eq_of_lt (by omega)] at hv'
  have hb : Below B w w' := ho.below hB (fun k hk => by
    rcases hk with hk | hk
    · omega
    · exact hv.blk hk)
  exact ⟨rfl, ⟨v', hR', hv', put_lt n V width.toNat x.toNat hV (by omega), hBR, Nat.le_trans hB hb.size⟩, hb⟩

theorem WI.drewN {w : World} {B R n V : Nat} (h : WI w B R n V) (m : Nat) : WI (w.drewN m) B R n V := h
theorem SI.drewN {w : World} {B R n V : Nat} (h : SI w B R n V) (m : Nat) : SI (w.drewN m) B R n V := h
theorem enc_zero : enc 0 0 = [] := by
  have := enc_len 0 0
  exact List.eq_nil_of_length_eq_zero (by simpa using this)
/-- New bits: nothing. -/
theorem SI.new (w : World) (B : Nat) (hB : B ≤ w.heap.size) : SI (w.alloc (.cells #[.slice none 0 0, .int .i64 0] 36)) B w.heap.size 0 0 := by
  refine ⟨.slice none 0 0, by simpa using heap_alloc_new w (.cells #[.slice none 0 0, .int .i64 0] 36), ?_, by simp, hB, by simp; omega⟩
  rw [enc_zero]
  exact ⟨⟨rfl, .inl ⟨rfl, rfl⟩⟩, by simp⟩
theorem WI.new {w : World} {B R g : Nat} (hR : w.heap[R]? = some (.cells #[.slice (some ⟨g, 0, none⟩) ([] : List Int).length ([] : List Int).length, .int .i64 0, .int .i64 4096] 75 (0, 0))) (ho : Own w B g ([] : List Int).length []) (hBR : B ≤ R) (hB : B ≤ w.heap.size) : WI w B R 0 0 := by
  refine ⟨_, by simpa using hR, ?_, by simp, hBR, hB⟩
  rw [enc_zero]
  exact ho.v
theorem WI.cells {w : World} {B R n V : Nat} (h : WI w B R n V) : ∃ a' cp, w.cell? ⟨R, 0, none⟩ = some (.slice a' (enc n V).length cp) ∧ w.cell? ⟨R, 1, none⟩ = some (.int .i64 n) ∧ Mine w B w.heap.size a' cp (enc n V) := by
  obtain ⟨v, hR, hv, _⟩ := h
  obtain ⟨a', cp, rfl, hm⟩ := hv.mine
  exact ⟨a', cp, cellR (j := 0) hR rfl, cellR (j := 1) hR rfl, hm⟩
theorem SI.cells {w : World} {B R n V : Nat} (h : SI w B R n V) : ∃ a' cp, w.cell? ⟨R, 0, none⟩ = some (.slice a' (enc n V).length cp) ∧ w.cell? ⟨R, 1, none⟩ = some (.int .i64 n) ∧ Mine w B w.heap.size a' cp (enc n V) := by
  obtain ⟨v, hR, hv, _⟩ := h
  obtain ⟨a', cp, rfl, hm⟩ := hv.mine
  exact ⟨a', cp, cellR (j := 0) hR rfl, cellR (j := 1) hR rfl, hm⟩

theorem mine_out {w3 : World} {B C g : Nat} {a' : Option Addr} {cp : Nat} {ys : List Int} (v0 v1 : Value) (hm : Mine w3 C w3.heap.size a' cp ys) (hg : g < C) (hB : B ≤ g) :
    Mine ((w3.setCell ⟨g, 0, none⟩ v0).setCell ⟨g, 1, none⟩ v1) B ((w3.setCell ⟨g, 0, none⟩ v0).setCell ⟨g, 1, none⟩ v1).heap.size a' cp ys := by
  have hO3 : Only (fun b => b = g) w3 ((w3.setCell ⟨g, 0, none⟩ v0).setCell ⟨g, 1, none⟩ v1) :=
    Only.setCell (Only.setCell (Only.refl (fun b => b = g) w3) (p := ⟨g, 0, none⟩) (.inl rfl) _) (p := ⟨g, 1, none⟩) (.inl rfl) _
  exact ((hm.only hO3 (fun b h1 _ => by omega)).mono (by omega) (by simp [World.setCell]))
end Go.Proofs.YtkjebacpmmfflaaDoor
