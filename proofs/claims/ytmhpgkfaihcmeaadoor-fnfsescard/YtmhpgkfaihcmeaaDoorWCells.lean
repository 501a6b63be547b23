/-
  What a writer's answer reads.
-/
import Derived.Test.YtmhpgkfaihcmeaaDoorPut4
import Derived.Test.YtmhpgkfaihcmeaaDoorIBase
namespace Go.Proofs.YtmhpgkfaihcmeaaDoor
open Go.RowKit
set_option linter.unusedVariables false

theorem OwnV.blk {w : World} {B : Nat} {v : Value} {zs : List Int} (h : OwnV w B v zs) {k : Nat} (hk : v.ownBlock = some k) : B ≤ k := by
  rcases h.1.2 with ⟨rfl, h0⟩ | ⟨g, cap, cur, rfl, hg, _⟩
  · simp [Value.ownBlock] at hk
  · simp [Value.ownBlock] at hk
    omega

/-- The program's writer at R has n bits, the number V, in a row of its own; room for 4096. -/
def WI (w : World) (B R n V : Nat) : Prop := ∃ v, w.heap[R]? = some (.cells #[v, .int .i64 n, .int .i64 4096] 60 (0, 0)) ∧ OwnV w B v (enc n V) ∧ V < 2 ^ n ∧ B ≤ R ∧ B ≤ w.heap.size
/-- The model's bits at R. -/
def SI (w : World) (B R n V : Nat) : Prop := ∃ v, w.heap[R]? = some (.cells #[v, .int .i64 n] 27 (0, 0)) ∧ OwnV w B v (enc n V) ∧ V < 2 ^ n ∧ B ≤ R ∧ B ≤ w.heap.size

theorem WI.put {w : World} {B R n V : Nat} (h : WI w B R n V) (x width : Int) (hx : 0 ≤ x) (h1 : 0 ≤ width) (h2 : width ≤ 30) (hxw : x < 2 ^ width.toNat) (h3 : width ≤ 4096 - n) (hn : n ≤ 4096) :
    Calls Tryd.prog 41 #[.pointer (some ⟨R, 0, none⟩), .int .i64 x, .int .i64 width] w fun e w' => e = .returned .nilIface ∧ WI w' B R (n + width.toNat) (V + x.toNat * 2 ^ n) ∧ Below B w w' := by
  obtain ⟨v, hR, hv, hV, hBR, hB⟩ := h
  refine (wput_yes R B v n V x width 4096 w hR hv hV hB hx h1 h2 hxw h3 (by omega) (by omega)).mono ?_
  rintro e w' ⟨rfl, v', hR', hv', ho, _⟩
  have hb : Below B w w' := ho.below hB (fun k hk => by
    rcases hk with hk | hk
    · omega
    · exact hv.blk hk)
  refine ⟨rfl, ⟨v', hR', hv', ?_, hBR, Nat.le_trans hB hb.size⟩, hb⟩
  refine put_lt n V width.toNat x.toNat hV ?_
  have e : ((2 : Int) ^ width.toNat) = ((2 ^ width.toNat : Nat) : Int) := by simp
  rw [e] at hxw
  omega

theorem SI.put {w : World} {B R n V : Nat} (h : SI w B R n V) (x width : Int) (hx : 0 ≤ x) (h1 : 0 ≤ width) (h2 : width ≤ 30) (hxw : x < 2 ^ width.toNat) (hn : n ≤ 4096) :
    Calls Tryd.prog 54 #[.pointer (some ⟨R, 0, none⟩), .int .i64 x, .int .i64 width] w fun e w' => e = .returned (.tuple #[]) ∧ SI w' B R (n + width.toNat) (V + x.toNat * 2 ^ n) ∧ Below B w w' := by
  obtain ⟨v, hR, hv, hV, hBR, hB⟩ := h
  have e : ((2 : Int) ^ width.toNat) = ((2 ^ width.toNat : Nat) : Int) := by simp
  rw [e] at hxw
  have hp : 2 ^ width.toNat ≤ 2 ^ 30 := Nat.pow_le_pow_right (by omega) (by omega)
  refine (l1put_any R B v n V x width w hR hv hV hB hx (by omega) h1 h2 (by omega)).mono ?_
  rintro e w' ⟨rfl, v', hR', hv', ho, _⟩
  rw [Nat.mod_eq_of_lt (by omega)] at hv'
  have hb : Below B w w' := ho.below hB (fun k hk => by
    rcases hk with hk | hk
    · omega
    · exact hv.blk hk)
  exact ⟨rfl, ⟨v', hR', hv', put_lt n V width.toNat x.toNat hV (by omega), hBR, Nat.le_trans hB hb.size⟩, hb⟩

theorem WI.drewN {w : World} {B R n V : Nat} (h : WI w B R n V) (m : Nat) : WI (w.drewN m) B R n V := h
theorem SI.drewN {w : World} {B R n V : Nat} (h : SI w B R n V) (m : Nat) : SI (w.drewN m) B R n V := h
theorem enc_zero : enc 0 0 = [] := by
  have := enc_len 0 0
  exact List.eq_nil_of_length_eq_zero (by simpa using this)
/-- New bits: nothing. -/
theorem SI.new (w : World) (B : Nat) (hB : B ≤ w.heap.size) : SI (w.alloc (.cells #[.slice none 0 0, .int .i64 0] 27)) B w.heap.size 0 0 := by
  refine ⟨.slice none 0 0, by simpa using heap_alloc_new w (.cells #[.slice none 0 0, .int .i64 0] 27), ?_, by simp, hB, by simp; omega⟩
  rw [enc_zero]
  exact ⟨⟨rfl, .inl ⟨rfl, rfl⟩⟩, by simp⟩
theorem WI.new {w : World} {B R g : Nat} (hR : w.heap[R]? = some (.cells #[.slice (some ⟨g, 0, none⟩) ([] : List Int).length ([] : List Int).length, .int .i64 0, .int .i64 4096] 60 (0, 0))) (ho : Own w B g ([] : List Int).length []) (hBR : B ≤ R) (hB : B ≤ w.heap.size) : WI w B R 0 0 := by
  refine ⟨_, by simpa using hR, ?_, by simp, hBR, hB⟩
  rw [enc_zero]
  exact ho.v
end Go.Proofs.YtmhpgkfaihcmeaaDoor
namespace Go.Proofs.YtmhpgkfaihcmeaaDoor
open Go.RowKit
set_option linter.unusedVariables false

theorem put_at (V0 V x n0 N : Nat) : V0 + V * 2 ^ n0 + x * 2 ^ (n0 + N) = V0 + (V + x * 2 ^ N) * 2 ^ n0 := by
  rw [Nat.add_mul, Nat.add_assoc, Nat.mul_assoc, ← Nat.pow_add, Nat.add_comm N n0]
theorem OwnV.neP {w : World} {B k R : Nat} {v : Value} {zs : List Int} {cur : Array Value} {T : TypeId} (h : OwnV w B v zs) (hk : v.ownBlock = some k) (hR : w.heap[R]? = some (.cells cur T (0, 0))) (hT : T ≠ 5) : k ≠ R := by
  rcases h.1.2 with ⟨rfl, h2⟩ | ⟨g, cap, cur', rfl, hg, hh, r⟩
  · simp [Value.ownBlock] at hk
  · simp [Value.ownBlock] at hk
    subst hk
    rintro rfl
    rw [hR] at hh
    simp at hh
    exact hT hh.2
theorem OwnV.stayP {w w' : World} {B : Nat} {v : Value} {zs : List Int} (h : OwnV w B v zs) (hb : Below w.heap.size w w') : OwnV w' B v zs := by
  rcases h.1.2 with ⟨h1, h2⟩ | ⟨g, cap, cur, rfl, hg, hh, r⟩
  · exact ⟨⟨h.1.1, .inl ⟨h1, h2⟩⟩, h.2⟩
  · exact ⟨⟨h.1.1, .inr ⟨g, cap, cur, rfl, hg, (hb.block g (Array.getElem?_eq_some_iff.1 hh).1).trans hh, r⟩⟩, h.2⟩
theorem WI.stay {w w' : World} {B R n V : Nat} (h : WI w B R n V) (hb : Below w.heap.size w w') : WI w' B R n V := by
  obtain ⟨v, h1, h2, h3, h4, h5⟩ := h
  exact ⟨v, (hb.block R (Array.getElem?_eq_some_iff.1 h1).1).trans h1, h2.stayP hb, h3, h4, Nat.le_trans h5 hb.size⟩
theorem SI.stay {w w' : World} {B R n V : Nat} (h : SI w B R n V) (hb : Below w.heap.size w w') : SI w' B R n V := by
  obtain ⟨v, h1, h2, h3, h4, h5⟩ := h
  exact ⟨v, (hb.block R (Array.getElem?_eq_some_iff.1 h1).1).trans h1, h2.stayP hb, h3, h4, Nat.le_trans h5 hb.size⟩
/-- A put leaves a block of another type as it was. -/
theorem WI.putG {w : World} {B R n V : Nat} (h : WI w B R n V) {g : Nat} {cur : Array Value} {T : TypeId} (hg : w.heap[g]? = some (.cells cur T (0, 0))) (hT : T ≠ 5) (hgR : g ≠ R) (x width : Nat) (h2 : width ≤ 30) (hxw : x < 2 ^ width) (h3 : n + width ≤ 4096) :
    Calls Tryd.prog 41 #[.pointer (some ⟨R, 0, none⟩), .int .i64 (x : Int), .int .i64 (width : Int)] w fun e w' => e = .returned .nilIface ∧ WI w' B R (n + width) (V + x * 2 ^ n) ∧ Below B w w' ∧ w'.heap[g]? = some (.cells cur T (0, 0)) := by
  obtain ⟨v, hR, hv, hV, hBR, hB⟩ := h
  have hxi : (x : Int) < 2 ^ ((width : Int)).toNat := by
    have e : ((2 : Int) ^ width) = ((2 ^ width : Nat) : Int) := by simp
    rw [Int.toNat_natCast, e]
    exact Int.ofNat_lt.2 hxw
  refine (wput_yes R B v n V x width 4096 w hR hv hV hB (by omega) (by omega) (by omega) hxi (by omega) (by omega) (by omega)).mono ?_
  rintro e w' ⟨rfl, v', hR', hv', ho, _⟩
  have hb : Below B w w' := ho.below hB (fun k hk => by
    rcases hk with hk | hk
    · omega
    · exact hv.blk hk)
  simp only [Int.toNat_natCast] at hR' hv'
  refine ⟨rfl, ⟨v', hR', hv', put_lt n V width x hV hxw, hBR, Nat.le_trans hB hb.size⟩, hb, ?_⟩
  refine (ho.block g (Array.getElem?_eq_some_iff.1 hg).1 ?_).trans hg
  rintro (hk | hk)
  · exact hgR hk
  · exact hv.neP hk hg hT rfl
theorem OwI.blockG {w w' : World} {B g cap : Nat} {zs : List Int} (h : OwI w B g cap zs) : ∃ cur, w.heap[g]? = some (.cells cur 3 (0, 0)) ∧ (w'.heap[g]? = some (.cells cur 3 (0, 0)) → OwI w' B g cap zs) := by
  rcases h.1.2 with ⟨h', _⟩ | ⟨g', cap', cur, h', hg, hh, r⟩
  · simp at h'
  · have e : g' = g := by simp at h'; exact h'.1.symm
    subst e
    exact ⟨cur, hh, fun hk => ⟨⟨h.1.1, .inr ⟨g', cap', cur, h', hg, hk, r⟩⟩, h.2⟩⟩
end Go.Proofs.YtmhpgkfaihcmeaaDoor
namespace Go.Proofs.YtmhpgkfaihcmeaaDoor
open Go.RowKit
set_option linter.unusedVariables false

theorem WI.cells {w : World} {B R n V : Nat} (h : WI w B R n V) : ∃ a' cp, w.cell? ⟨R, 0, none⟩ = some (.slice a' (enc n V).length cp) ∧ w.cell? ⟨R, 1, none⟩ = some (.int .i64 n) ∧ Mine w B w.heap.size a' cp (enc n V) := by
  obtain ⟨v, hR, hv, _⟩ := h
  obtain ⟨a', cp, rfl, hm⟩ := hv.mine
  exact ⟨a', cp, cellR (j := 0) hR rfl, cellR (j := 1) hR rfl, hm⟩
theorem SI.cells {w : World} {B R n V : Nat} (h : SI w B R n V) : ∃ a' cp, w.cell? ⟨R, 0, none⟩ = some (.slice a' (enc n V).length cp) ∧ w.cell? ⟨R, 1, none⟩ = some (.int .i64 n) ∧ Mine w B w.heap.size a' cp (enc n V) := by
  obtain ⟨v, hR, hv, _⟩ := h
  obtain ⟨a', cp, rfl, hm⟩ := hv.mine
  exact ⟨a', cp, cellR (j := 0) hR rfl, cellR (j := 1) hR rfl, hm⟩

theorem mine_out {w3 : World} {B C g : Nat} {a' : Option Addr} {cp : Nat} {ys : List Int} (v0 v1 : Value) (hm : Mine w3 C w3.heap.size a' cp ys) (hg : g < C) (hB : B ≤ g) :
    Mine ((w3.setCell ⟨g, 0, none⟩ v0).setCell ⟨g, 1, none⟩ v1) B ((w3.setCell ⟨g, 0, none⟩ v0).setCell ⟨g, 1, none⟩ v1).heap.size a' cp ys := by
  have hO3 : Only (fun b => b = g) w3 ((w3.setCell ⟨g, 0, none⟩ v0).setCell ⟨g, 1, none⟩ v1) :=
    Only.setCell (Only.setCell (Only.refl (fun b => b = g) w3) (p := ⟨g, 0, none⟩) (.inl rfl) _) (p := ⟨g, 1, none⟩) (.inl rfl) _
  exact ((hm.only hO3 (fun b h1 _ => by omega)).mono (by omega) (by simp [World.setCell]))
end Go.Proofs.YtmhpgkfaihcmeaaDoor
