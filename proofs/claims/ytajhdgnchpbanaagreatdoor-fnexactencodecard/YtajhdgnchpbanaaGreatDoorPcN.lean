/-
  countInto of the program: how often each symbol is in a parcel. (Typed by wip/mkpcn.py.)
-/
import Derived.Test.YtajhdgnchpbanaaGreatDoorPcL
import Derived.Test.YtajhdgnchpbanaaGreatDoorPcP
namespace Go.Proofs.YtajhdgnchpbanaaGreatDoor
open Go.RowKit
set_option linter.unusedVariables false
set_option linter.unusedSimpArgs false

def Pc.sz : Pc → Nat
  | .coin s c => 1
  | .pack a b n => a.sz + b.sz
/-- Its symbols are below n, and are there. -/
def Pc.ok (n : Nat) : Pc → Prop
  | .coin s c => s < n ∧ 1 ≤ c
  | .pack a b m => a.ok n ∧ b.ok n
def cntP : Pc → List Int → List Int
  | .coin s c, zs => bump zs s
  | .pack a b n, zs => cntP b (cntP a zs)
theorem cntP_len (p : Pc) : ∀ zs : List Int, (cntP p zs).length = zs.length := by
  induction p with
  | coin s c => intro zs; exact bump_len zs s
  | pack a b n iha ihb => intro zs; rw [cntP, ihb, iha]
theorem cntP_rng (p : Pc) : ∀ (zs : List Int) (M : Int), 0 ≤ M → (∀ z ∈ zs, 0 ≤ z ∧ z ≤ M) → ∀ z ∈ cntP p zs, 0 ≤ z ∧ z ≤ M + p.sz := by
  induction p with
  | coin s c => intro zs M h0 h; exact bump_rng h h0
  | pack a b n iha ihb =>
    intro zs M h0 h z hz
    have h1 := ihb (cntP a zs) (M + a.sz) (by omega) (iha zs M h0 h) z hz
    simp only [Pc.sz]
    omega
theorem sz_wt {n : Nat} (p : Pc) : p.ok n → p.sz ≤ p.wt := by
  induction p with
  | coin s c => intro h; exact h.2
  | pack a b m iha ihb =>
    intro h
    have h1 := iha h.1
    have h2 := ihb h.2
    simp only [Pc.sz, Pc.wt]
    omega

/-- What countInto does, asked of the value x of the parcel p. -/
def CI (F : FuncId) (x : Value) (p : Pc) : Prop := ∀ (B g cap : Nat) (zs : List Int) (W : World) (M : Int), OwI W B g cap zs → p.ok zs.length → 0 ≤ M → (∀ z ∈ zs, 0 ≤ z ∧ z ≤ M) → M + p.sz ≤ 1000000000000000000 →
  Calls Tryz.prog F #[x, .slice (some ⟨g, 0, none⟩) zs.length cap] W fun e w' => e = .returned (.tuple #[]) ∧ OwI w' B g cap (cntP p zs) ∧ Only (fun k => k = g) W w'

set_option maxRecDepth 20000 in
set_option maxHeartbeats 4000000 in
theorem coinCI (s c : Nat) : CI 121 (Pc.coin s c).bd (.coin s c) := by
  intro B g cap zs W M ho hok hM hr hm
  have hs : s < zs.length := hok.1
  have hg := ho.lt
  have hb0 : Below W.heap.size W (W.alloc (Obj.cells #[.int .i64 s, .int .i64 c] 141)) := (Below.refl _ _).alloc (Nat.le_refl _) _
  have ho1 := ho.below hb0 (Nat.le_refl _)
  have c0 := ho1.cell s hs
  have f0 := ho1.frozen s
  have hz := hr _ (getD_mem hs)
  have HE : Hid (OwI ((W.setCell ⟨g, s, none⟩ (.int .i64 (zs.getD s 0 + 1))).alloc (Obj.cells #[.int .i64 s, .int .i64 c] 141)) B g cap (cntP (.coin s c) zs) ∧ Only (fun k => k = g) W ((W.setCell ⟨g, s, none⟩ (.int .i64 (zs.getD s 0 + 1))).alloc (Obj.cells #[.int .i64 s, .int .i64 c] 141))) := by
    refine ⟨?_, ((Only.refl (fun k => k = g) W).setCell (p := ⟨g, s, none⟩) (.inl rfl) _).alloc _⟩
    have := (ho.store s (zs.getD s 0 + 1) (by simp only [Pc.sz] at hm; omega)).below ((Below.refl _ _).alloc (Nat.le_refl _) (Obj.cells #[.int .i64 s, .int .i64 c] 141)) (Nat.le_refl _)
    simpa [cntP, bump] using this
  have hsn : (s : Int) < (zs.length : Int) := by omega
  have hzm : zs.getD s 0 ≤ 1000000000000000000 := by omega
  have hz0 : 0 ≤ zs.getD s 0 := hz.1
  clear ho ho1 hr hm hz
  generalize zs.getD s 0 = z at *
  generalize zs.length = n at *
  show Calls _ _ #[.agg #[.int .i64 s, .int .i64 c], _] _ _
  go_enter Tryz.func121, Tryz.ntmps121
  go_wp2
  go_end0
  exact ⟨rfl, HE.out.1, HE.out.2⟩

set_option maxRecDepth 20000 in
set_option maxHeartbeats 4000000 in
theorem packCI_cc (a b : Pc) (m : Nat) (x y : Value) (hx : a.vl = .iface 141 x) (hy : b.vl = .iface 141 y) (ha : CI 121 x a) (hb : CI 121 y b) : CI 130 (Pc.pack a b m).bd (.pack a b m) := by
  intro B g cap zs W M ho hok hM hr hm
  rw [Pc.bd_pack, hx, hy]
  have hb0 : Below W.heap.size W (W.alloc (Obj.cells #[.iface 141 x, .iface 141 y, .int .i64 ((a.wt + b.wt : Nat) : Int), .int .i64 m] 149)) := (Below.refl _ _).alloc (Nat.le_refl _) _
  have hblk := heap_alloc_new W (Obj.cells #[.iface 141 x, .iface 141 y, .int .i64 ((a.wt + b.wt : Nat) : Int), .int .i64 m] 149)
  simp only [Pc.sz] at hm
  have HA := ha B g cap zs _ M (ho.below hb0 (Nat.le_refl _)) hok.1 hM hr (by omega)
  have HB : Hid (∀ W2, OwI W2 B g cap (cntP a zs) → Calls Tryz.prog 121 #[y, .slice (some ⟨g, 0, none⟩) zs.length cap] W2 fun e w' => e = .returned (.tuple #[]) ∧ OwI w' B g cap (cntP b (cntP a zs)) ∧ Only (fun k => k = g) W2 w') := fun W2 h2 => by
    have h := hb B g cap (cntP a zs) W2 (M + a.sz) h2 (by rw [cntP_len]; exact hok.2) (by omega) (cntP_rng a zs M hM hr) (by omega)
    rw [cntP_len] at h
    exact h
  have HG : Hid (W.heap.size ≠ g ∧ Only (fun k => k = g) W (W.alloc (Obj.cells #[.iface 141 x, .iface 141 y, .int .i64 ((a.wt + b.wt : Nat) : Int), .int .i64 m] 149))) := ⟨by have := ho.lt.2; omega, Only.ofBelow hb0 (Nat.le_refl _)⟩
  have HBK : Hid ((W.alloc (Obj.cells #[.iface 141 x, .iface 141 y, .int .i64 ((a.wt + b.wt : Nat) : Int), .int .i64 m] 149)).heap[W.heap.size]? = some (.cells #[.iface 141 x, .iface 141 y, .int .i64 ((a.wt + b.wt : Nat) : Int), .int .i64 m] 149 (0, 0))) := hblk
  have mA := Tryz.meth_coin_countInto
  have mB := Tryz.meth_coinPack_countInto
  clear hx hy ha hb ho hok hr hm hb0 hblk
  obtain ⟨sm, hsm⟩ : ∃ sm, sm = a.wt + b.wt := ⟨_, rfl⟩
  rw [← hsm] at HA HG HBK ⊢
  clear hsm
  go_enter Tryz.func130, Tryz.ntmps130
  go_wp2_with fail
  refine HA.mono ?_
  clear HA
  rintro e w1 ⟨rfl, ho1, on1⟩
  have c1 : w1.cell? ⟨W.heap.size, 1, none⟩ = some (.iface 141 y) := cell_blk ((on1.block _ (by simp) HG.out.1).trans HBK.out) rfl
  have HB1 := HB.out w1 ho1
  have HO1 : Hid (Only (fun k => k = g) W w1) := HG.out.2.trans on1
  clear ho1 on1
  go_wp2_with fail
  refine HB1.mono ?_
  clear HB1
  rintro e w2 ⟨rfl, ho2, on2⟩
  have HO2 : Hid (Only (fun k => k = g) W w2 ∧ OwI w2 B g cap (cntP (.pack a b m) zs)) := ⟨HO1.out.trans on2, ho2⟩
  clear ho2 on2
  go_wp2
  go_end0
  exact ⟨rfl, HO2.out.2, HO2.out.1⟩
set_option maxRecDepth 20000 in
set_option maxHeartbeats 4000000 in
theorem packCI_cp (a b : Pc) (m : Nat) (x y : Value) (hx : a.vl = .iface 141 x) (hy : b.vl = .iface 149 y) (ha : CI 121 x a) (hb : CI 130 y b) : CI 130 (Pc.pack a b m).bd (.pack a b m) := by
  intro B g cap zs W M ho hok hM hr hm
  rw [Pc.bd_pack, hx, hy]
  have hb0 : Below W.heap.size W (W.alloc (Obj.cells #[.iface 141 x, .iface 149 y, .int .i64 ((a.wt + b.wt : Nat) : Int), .int .i64 m] 149)) := (Below.refl _ _).alloc (Nat.le_refl _) _
  have hblk := heap_alloc_new W (Obj.cells #[.iface 141 x, .iface 149 y, .int .i64 ((a.wt + b.wt : Nat) : Int), .int .i64 m] 149)
  simp only [Pc.sz] at hm
  have HA := ha B g cap zs _ M (ho.below hb0 (Nat.le_refl _)) hok.1 hM hr (by omega)
  have HB : Hid (∀ W2, OwI W2 B g cap (cntP a zs) → Calls Tryz.prog 130 #[y, .slice (some ⟨g, 0, none⟩) zs.length cap] W2 fun e w' => e = .returned (.tuple #[]) ∧ OwI w' B g cap (cntP b (cntP a zs)) ∧ Only (fun k => k = g) W2 w') := fun W2 h2 => by
    have h := hb B g cap (cntP a zs) W2 (M + a.sz) h2 (by rw [cntP_len]; exact hok.2) (by omega) (cntP_rng a zs M hM hr) (by omega)
    rw [cntP_len] at h
    exact h
  have HG : Hid (W.heap.size ≠ g ∧ Only (fun k => k = g) W (W.alloc (Obj.cells #[.iface 141 x, .iface 149 y, .int .i64 ((a.wt + b.wt : Nat) : Int), .int .i64 m] 149))) := ⟨by have := ho.lt.2; omega, Only.ofBelow hb0 (Nat.le_refl _)⟩
  have HBK : Hid ((W.alloc (Obj.cells #[.iface 141 x, .iface 149 y, .int .i64 ((a.wt + b.wt : Nat) : Int), .int .i64 m] 149)).heap[W.heap.size]? = some (.cells #[.iface 141 x, .iface 149 y, .int .i64 ((a.wt + b.wt : Nat) : Int), .int .i64 m] 149 (0, 0))) := hblk
  have mA := Tryz.meth_coin_countInto
  have mB := Tryz.meth_coinPack_countInto
  clear hx hy ha hb ho hok hr hm hb0 hblk
  obtain ⟨sm, hsm⟩ : ∃ sm, sm = a.wt + b.wt := ⟨_, rfl⟩
  rw [← hsm] at HA HG HBK ⊢
  clear hsm
  go_enter Tryz.func130, Tryz.ntmps130
  go_wp2_with fail
  refine HA.mono ?_
  clear HA
  rintro e w1 ⟨rfl, ho1, on1⟩
  have c1 : w1.cell? ⟨W.heap.size, 1, none⟩ = some (.iface 149 y) := cell_blk ((on1.block _ (by simp) HG.out.1).trans HBK.out) rfl
  have HB1 := HB.out w1 ho1
  have HO1 : Hid (Only (fun k => k = g) W w1) := HG.out.2.trans on1
  clear ho1 on1
  go_wp2_with fail
  refine HB1.mono ?_
  clear HB1
  rintro e w2 ⟨rfl, ho2, on2⟩
  have HO2 : Hid (Only (fun k => k = g) W w2 ∧ OwI w2 B g cap (cntP (.pack a b m) zs)) := ⟨HO1.out.trans on2, ho2⟩
  clear ho2 on2
  go_wp2
  go_end0
  exact ⟨rfl, HO2.out.2, HO2.out.1⟩
set_option maxRecDepth 20000 in
set_option maxHeartbeats 4000000 in
theorem packCI_pc (a b : Pc) (m : Nat) (x y : Value) (hx : a.vl = .iface 149 x) (hy : b.vl = .iface 141 y) (ha : CI 130 x a) (hb : CI 121 y b) : CI 130 (Pc.pack a b m).bd (.pack a b m) := by
  intro B g cap zs W M ho hok hM hr hm
  rw [Pc.bd_pack, hx, hy]
  have hb0 : Below W.heap.size W (W.alloc (Obj.cells #[.iface 149 x, .iface 141 y, .int .i64 ((a.wt + b.wt : Nat) : Int), .int .i64 m] 149)) := (Below.refl _ _).alloc (Nat.le_refl _) _
  have hblk := heap_alloc_new W (Obj.cells #[.iface 149 x, .iface 141 y, .int .i64 ((a.wt + b.wt : Nat) : Int), .int .i64 m] 149)
  simp only [Pc.sz] at hm
  have HA := ha B g cap zs _ M (ho.below hb0 (Nat.le_refl _)) hok.1 hM hr (by omega)
  have HB : Hid (∀ W2, OwI W2 B g cap (cntP a zs) → Calls Tryz.prog 121 #[y, .slice (some ⟨g, 0, none⟩) zs.length cap] W2 fun e w' => e = .returned (.tuple #[]) ∧ OwI w' B g cap (cntP b (cntP a zs)) ∧ Only (fun k => k = g) W2 w') := fun W2 h2 => by
    have h := hb B g cap (cntP a zs) W2 (M + a.sz) h2 (by rw [cntP_len]; exact hok.2) (by omega) (cntP_rng a zs M hM hr) (by omega)
    rw [cntP_len] at h
    exact h
  have HG : Hid (W.heap.size ≠ g ∧ Only (fun k => k = g) W (W.alloc (Obj.cells #[.iface 149 x, .iface 141 y, .int .i64 ((a.wt + b.wt : Nat) : Int), .int .i64 m] 149))) := ⟨by have := ho.lt.2; omega, Only.ofBelow hb0 (Nat.le_refl _)⟩
  have HBK : Hid ((W.alloc (Obj.cells #[.iface 149 x, .iface 141 y, .int .i64 ((a.wt + b.wt : Nat) : Int), .int .i64 m] 149)).heap[W.heap.size]? = some (.cells #[.iface 149 x, .iface 141 y, .int .i64 ((a.wt + b.wt : Nat) : Int), .int .i64 m] 149 (0, 0))) := hblk
  have mA := Tryz.meth_coin_countInto
  have mB := Tryz.meth_coinPack_countInto
  clear hx hy ha hb ho hok hr hm hb0 hblk
  obtain ⟨sm, hsm⟩ : ∃ sm, sm = a.wt + b.wt := ⟨_, rfl⟩
  rw [← hsm] at HA HG HBK ⊢
  clear hsm
  go_enter Tryz.func130, Tryz.ntmps130
  go_wp2_with fail
  refine HA.mono ?_
  clear HA
  rintro e w1 ⟨rfl, ho1, on1⟩
  have c1 : w1.cell? ⟨W.heap.size, 1, none⟩ = some (.iface 141 y) := cell_blk ((on1.block _ (by simp) HG.out.1).trans HBK.out) rfl
  have HB1 := HB.out w1 ho1
  have HO1 : Hid (Only (fun k => k = g) W w1) := HG.out.2.trans on1
  clear ho1 on1
  go_wp2_with fail
  refine HB1.mono ?_
  clear HB1
  rintro e w2 ⟨rfl, ho2, on2⟩
  have HO2 : Hid (Only (fun k => k = g) W w2 ∧ OwI w2 B g cap (cntP (.pack a b m) zs)) := ⟨HO1.out.trans on2, ho2⟩
  clear ho2 on2
  go_wp2
  go_end0
  exact ⟨rfl, HO2.out.2, HO2.out.1⟩
set_option maxRecDepth 20000 in
set_option maxHeartbeats 4000000 in
theorem packCI_pp (a b : Pc) (m : Nat) (x y : Value) (hx : a.vl = .iface 149 x) (hy : b.vl = .iface 149 y) (ha : CI 130 x a) (hb : CI 130 y b) : CI 130 (Pc.pack a b m).bd (.pack a b m) := by
  intro B g cap zs W M ho hok hM hr hm
  rw [Pc.bd_pack, hx, hy]
  have hb0 : Below W.heap.size W (W.alloc (Obj.cells #[.iface 149 x, .iface 149 y, .int .i64 ((a.wt + b.wt : Nat) : Int), .int .i64 m] 149)) := (Below.refl _ _).alloc (Nat.le_refl _) _
  have hblk := heap_alloc_new W (Obj.cells #[.iface 149 x, .iface 149 y, .int .i64 ((a.wt + b.wt : Nat) : Int), .int .i64 m] 149)
  simp only [Pc.sz] at hm
  have HA := ha B g cap zs _ M (ho.below hb0 (Nat.le_refl _)) hok.1 hM hr (by omega)
  have HB : Hid (∀ W2, OwI W2 B g cap (cntP a zs) → Calls Tryz.prog 130 #[y, .slice (some ⟨g, 0, none⟩) zs.length cap] W2 fun e w' => e = .returned (.tuple #[]) ∧ OwI w' B g cap (cntP b (cntP a zs)) ∧ Only (fun k => k = g) W2 w') := fun W2 h2 => by
    have h := hb B g cap (cntP a zs) W2 (M + a.sz) h2 (by rw [cntP_len]; exact hok.2) (by omega) (cntP_rng a zs M hM hr) (by omega)
    rw [cntP_len] at h
    exact h
  have HG : Hid (W.heap.size ≠ g ∧ Only (fun k => k = g) W (W.alloc (Obj.cells #[.iface 149 x, .iface 149 y, .int .i64 ((a.wt + b.wt : Nat) : Int), .int .i64 m] 149))) := ⟨by have := ho.lt.2; omega, Only.ofBelow hb0 (Nat.le_refl _)⟩
  have HBK : Hid ((W.alloc (Obj.cells #[.iface 149 x, .iface 149 y, .int .i64 ((a.wt + b.wt : Nat) : Int), .int .i64 m] 149)).heap[W.heap.size]? = some (.cells #[.iface 149 x, .iface 149 y, .int .i64 ((a.wt + b.wt : Nat) : Int), .int .i64 m] 149 (0, 0))) := hblk
  have mA := Tryz.meth_coin_countInto
  have mB := Tryz.meth_coinPack_countInto
  clear hx hy ha hb ho hok hr hm hb0 hblk
  obtain ⟨sm, hsm⟩ : ∃ sm, sm = a.wt + b.wt := ⟨_, rfl⟩
  rw [← hsm] at HA HG HBK ⊢
  clear hsm
  go_enter Tryz.func130, Tryz.ntmps130
  go_wp2_with fail
  refine HA.mono ?_
  clear HA
  rintro e w1 ⟨rfl, ho1, on1⟩
  have c1 : w1.cell? ⟨W.heap.size, 1, none⟩ = some (.iface 149 y) := cell_blk ((on1.block _ (by simp) HG.out.1).trans HBK.out) rfl
  have HB1 := HB.out w1 ho1
  have HO1 : Hid (Only (fun k => k = g) W w1) := HG.out.2.trans on1
  clear ho1 on1
  go_wp2_with fail
  refine HB1.mono ?_
  clear HB1
  rintro e w2 ⟨rfl, ho2, on2⟩
  have HO2 : Hid (Only (fun k => k = g) W w2 ∧ OwI w2 B g cap (cntP (.pack a b m) zs)) := ⟨HO1.out.trans on2, ho2⟩
  clear ho2 on2
  go_wp2
  go_end0
  exact ⟨rfl, HO2.out.2, HO2.out.1⟩
theorem Pc.counted (p : Pc) : (∃ x, p.vl = .iface 141 x ∧ CI 121 x p) ∨ (∃ x, p.vl = .iface 149 x ∧ CI 130 x p) := by
  induction p with
  | coin s c => exact .inl ⟨_, rfl, coinCI s c⟩
  | pack a b n iha ihb =>
    refine .inr ⟨_, rfl, ?_⟩
    rcases iha with ⟨x, hx, ha⟩ | ⟨x, hx, ha⟩ <;> rcases ihb with ⟨y, hy, hb⟩ | ⟨y, hy, hb⟩
    · exact packCI_cc a b n x y hx hy ha hb
    · exact packCI_cp a b n x y hx hy ha hb
    · exact packCI_pc a b n x y hx hy ha hb
    · exact packCI_pp a b n x y hx hy ha hb
end Go.Proofs.YtajhdgnchpbanaaGreatDoor
