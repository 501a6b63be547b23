/-
  The rounds' lists: what is in them, how long they are; what Lens answers.
-/
import Derived.Test.YtfeokafkhnbdiaaGreatDoorICntI
import Derived.Test.YtfeokafkhnbdiaaGreatDoorPcP
namespace Go.Proofs.YtfeokafkhnbdiaaGreatDoor
open Go.RowKit
set_option linter.unusedVariables false
set_option linter.unusedSimpArgs false

def Pc.sz : Pc → Nat
  | .coin s c => 1
  | .pack a b n => a.sz + b.sz
/-- Its symbols are below n, and are there. -/
def Pc.ok (n : Nat) : Pc → Prop
  | .coin s c => s < n ∧ 1 ≤ c
  | .pack a b m => a.ok n ∧ b.ok n
def cntP : Pc → List Int → List Int
  | .coin s c, zs => bump zs s
  | .pack a b n, zs => cntP b (cntP a zs)
theorem cntP_len (p : Pc) : ∀ zs : List Int, (cntP p zs).length = zs.length := by
  induction p with
  | coin s c => intro zs; exact bump_len zs s
  | pack a b n iha ihb => intro zs; rw [cntP, ihb, iha]
theorem cntP_rng (p : Pc) : ∀ (zs : List Int) (M : Int), 0 ≤ M → (∀ z ∈ zs, 0 ≤ z ∧ z ≤ M) → ∀ z ∈ cntP p zs, 0 ≤ z ∧ z ≤ M + p.sz := by
  induction p with
  | coin s c => intro zs M h0 h; exact bump_rng h h0
  | pack a b n iha ihb =>
    intro zs M h0 h z hz
    have h1 := ihb (cntP a zs) (M + a.sz) (by omega) (iha zs M h0 h) z hz
    simp only [Pc.sz]
    omega
theorem sz_wt {n : Nat} (p : Pc) : p.ok n → p.sz ≤ p.wt := by
  induction p with
  | coin s c => intro h; exact h.2
  | pack a b m iha ihb =>
    intro h
    have h1 := iha h.1
    have h2 := ihb h.2
    simp only [Pc.sz, Pc.wt]
    omega

/-- What countInto does, asked of the value x of the parcel p. -/
def CI (F : FuncId) (x : Value) (p : Pc) : Prop := ∀ (B g cap : Nat) (zs : List Int) (W : World) (M : Int), OwI W B g cap zs → p.ok zs.length → 0 ≤ M → (∀ z ∈ zs, 0 ≤ z ∧ z ≤ M) → M + p.sz ≤ 1000000000000000000 →
  Calls Tryz.prog F #[x, .slice (some ⟨g, 0, none⟩) zs.length cap] W fun e w' => e = .returned (.tuple #[]) ∧ OwI w' B g cap (cntP p zs) ∧ Only (fun k => k = g) W w'

set_option maxRecDepth 20000 in
set_option maxHeartbeats 4000000 in
theorem coinCI (s c : Nat) : CI 182 (Pc.coin s c).bd (.coin s c) := by
  intro B g cap zs W M ho hok hM hr hm
  have hs : s < zs.length := hok.1
  have hg := ho.lt
  have hb0 : Below W.heap.size W (W.alloc (Obj.cells #[.int .i64 s, .int .i64 c] 198)) := (Below.refl _ _).alloc (Nat.le_refl _) _
  have ho1 := ho.below hb0 (Nat.le_refl _)
  have c0 := ho1.cell s hs
  have f0 := ho1.frozen s
  have hz := hr _ (getD_mem hs)
  have HE : Hid (OwI ((W.setCell ⟨g, s, none⟩ (.int .i64 (zs.getD s 0 + 1))).alloc (Obj.cells #[.int .i64 s, .int .i64 c] 198)) B g cap (cntP (.coin s c) zs) ∧ Only (fun k => k = g) W ((W.setCell ⟨g, s, none⟩ (.int .i64 (zs.getD s 0 + 1))).alloc (Obj.cells #[.int .i64 s, .int .i64 c] 198))) := by
    refine ⟨?_, ((Only.refl (fun k => k = g) W).setCell (p := ⟨g, s, none⟩) (.inl rfl) _).alloc _⟩
    have := (ho.store s (zs.getD s 0 + 1) (by simp only [Pc.sz] at hm; omega)).below ((Below.refl _ _).alloc (Nat.le_refl _) (Obj.cells #[.int .i64 s, .int .i64 c] 198)) (Nat.le_refl _)
    simpa [cntP, bump] using this
  have hsn : (s : Int) < (zs.length : Int) := by omega
  have hzm : zs.getD s 0 ≤ 1000000000000000000 := by omega
  have hz0 : 0 ≤ zs.getD s 0 := hz.1
  clear ho ho1 hr hm hz
  generalize zs.getD s 0 = z at *
  generalize zs.length = n at *
  show Calls _ _ #[.agg #[.int .i64 s, .int .i64 c], _] _ _
  go_enter Tryz.func182, Tryz.ntmps182
  go_wp2
  go_end0
  exact ⟨rfl, HE.out.1, HE.out.2⟩

set_option maxRecDepth 20000 in
set_option maxHeartbeats 4000000 in
theorem packCI_cc (a b : Pc) (m : Nat) (x y : Value) (hx : a.vl = .iface 198 x) (hy : b.vl = .iface 198 y) (ha : CI 182 x a) (hb : CI 182 y b) : CI 191 (Pc.pack a b m).bd (.pack a b m) := by
  intro B g cap zs W M ho hok hM hr hm
  rw [Pc.bd_pack, hx, hy]
  have hb0 : Below W.heap.size W (W.alloc (Obj.cells #[.iface 198 x, .iface 198 y, .int .i64 ((a.wt + b.wt : Nat) : Int), .int .i64 m] 205)) := (Below.refl _ _).alloc (Nat.le_refl _) _
  have hblk := heap_alloc_new W (Obj.cells #[.iface 198 x, .iface 198 y, .int .i64 ((a.wt + b.wt : Nat) : Int), .int .i64 m] 205)
  simp only [Pc.sz] at hm
  have HA := ha B g cap zs _ M (ho.below hb0 (Nat.le_refl _)) hok.1 hM hr (by omega)
  have HB : Hid (∀ W2, OwI W2 B g cap (cntP a zs) → Calls Tryz.prog 182 #[y, .slice (some ⟨g, 0, none⟩) zs.length cap] W2 fun e w' => e = .returned (.tuple #[]) ∧ OwI w' B g cap (cntP b (cntP a zs)) ∧ Only (fun k => k = g) W2 w') := fun W2 h2 => by
    have h := hb B g cap (cntP a zs) W2 (M + a.sz) h2 (by rw [cntP_len]; exact hok.2) (by omega) (cntP_rng a zs M hM hr) (by omega)
    rw [cntP_len] at h
    exact h
  have HG : Hid (W.heap.size ≠ g ∧ Only (fun k => k = g) W (W.alloc (Obj.cells #[.iface 198 x, .iface 198 y, .int .i64 ((a.wt + b.wt : Nat) : Int), .int .i64 m] 205))) := ⟨by have := ho.lt.2; omega, Only.ofBelow hb0 (Nat.le_refl _)⟩
  have HBK : Hid ((W.alloc (Obj.cells #[.iface 198 x, .iface 198 y, .int .i64 ((a.wt + b.wt : Nat) : Int), .int .i64 m] 205)).heap[W.heap.size]? = some (.cells #[.iface 198 x, .iface 198 y, .int .i64 ((a.wt + b.wt : Nat) : Int), .int .i64 m] 205 (0, 0))) := hblk
  have mA := Tryz.meth_coin_countInto
  have mB := Tryz.meth_coinPack_countInto
  clear hx hy ha hb ho hok hr hm hb0 hblk
  obtain ⟨sm, hsm⟩ : ∃ sm, sm = a.wt + b.wt := ⟨_, rfl⟩
  rw [← hsm] at HA HG HBK ⊢
  clear hsm
  go_enter Tryz.func191, Tryz.ntmps191
  go_wp2_with fail
  refine HA.mono ?_
  clear HA
  rintro e w1 ⟨rfl, ho1, on1⟩
  have c1 : w1.cell? ⟨W.heap.size, 1, none⟩ = some (.iface 198 y) := cell_blk ((on1.block _ (by simp) HG.out.1).trans HBK.out) rfl
  have HB1 := HB.out w1 ho1
  have HO1 : Hid (Only (fun k => k = g) W w1) := HG.out.2.trans on1
  clear ho1 on1
  go_wp2_with fail
  refine HB1.mono ?_
  clear HB1
  rintro e w2 ⟨rfl, ho2, on2⟩
  have HO2 : Hid (Only (fun k => k = g) W w2 ∧ OwI w2 B g cap (cntP (.pack a b m) zs)) := ⟨HO1.out.trans on2, ho2⟩
  clear ho2 on2
  go_wp2
  go_end0
  exact ⟨rfl, HO2.out.2, HO2.out.1⟩
set_option maxRecDepth 20000 in
set_option maxHeartbeats 4000000 in
theorem packCI_cp (a b : Pc) (m : Nat) (x y : Value) (hx : a.vl = .iface 198 x) (hy : b.vl = .iface 205 y) (ha : CI 182 x a) (hb : CI 191 y b) : CI 191 (Pc.pack a b m).bd (.pack a b m) := by
  intro B g cap zs W M ho hok hM hr hm
  rw [Pc.bd_pack, hx, hy]
  have hb0 : Below W.heap.size W (W.alloc (Obj.cells #[.iface 198 x, .iface 205 y, .int .i64 ((a.wt + b.wt : Nat) : Int), .int .i64 m] 205)) := (Below.refl _ _).alloc (Nat.le_refl _) _
  have hblk := heap_alloc_new W (Obj.cells #[.iface 198 x, .iface 205 y, .int .i64 ((a.wt + b.wt : Nat) : Int), .int .i64 m] 205)
  simp only [Pc.sz] at hm
  have HA := ha B g cap zs _ M (ho.below hb0 (Nat.le_refl _)) hok.1 hM hr (by omega)
  have HB : Hid (∀ W2, OwI W2 B g cap (cntP a zs) → Calls Tryz.prog 191 #[y, .slice (some ⟨g, 0, none⟩) zs.length cap] W2 fun e w' => e = .returned (.tuple #[]) ∧ OwI w' B g cap (cntP b (cntP a zs)) ∧ Only (fun k => k = g) W2 w') := fun W2 h2 => by
    have h := hb B g cap (cntP a zs) W2 (M + a.sz) h2 (by rw [cntP_len]; exact hok.2) (by omega) (cntP_rng a zs M hM hr) (by omega)
    rw [cntP_len] at h
    exact h
  have HG : Hid (W.heap.size ≠ g ∧ Only (fun k => k = g) W (W.alloc (Obj.cells #[.iface 198 x, .iface 205 y, .int .i64 ((a.wt + b.wt : Nat) : Int), .int .i64 m] 205))) := ⟨by have := ho.lt.2; omega, Only.ofBelow hb0 (Nat.le_refl _)⟩
  have HBK : Hid ((W.alloc (Obj.cells #[.iface 198 x, .iface 205 y, .int .i64 ((a.wt + b.wt : Nat) : Int), .int .i64 m] 205)).heap[W.heap.size]? = some (.cells #[.iface 198 x, .iface 205 y, .int .i64 ((a.wt + b.wt : Nat) : Int), .int .i64 m] 205 (0, 0))) := hblk
  have mA := Tryz.meth_coin_countInto
  have mB := Tryz.meth_coinPack_countInto
  clear hx hy ha hb ho hok hr hm hb0 hblk
  obtain ⟨sm, hsm⟩ : ∃ sm, sm = a.wt + b.wt := ⟨_, rfl⟩
  rw [← hsm] at HA HG HBK ⊢
  clear hsm
  go_enter Tryz.func191, Tryz.ntmps191
  go_wp2_with fail
  refine HA.mono ?_
  clear HA
  rintro e w1 ⟨rfl, ho1, on1⟩
  have c1 : w1.cell? ⟨W.heap.size, 1, none⟩ = some (.iface 205 y) := cell_blk ((on1.block _ (by simp) HG.out.1).trans HBK.out) rfl
  have HB1 := HB.out w1 ho1
  have HO1 : Hid (Only (fun k => k = g) W w1) := HG.out.2.trans on1
  clear ho1 on1
  go_wp2_with fail
  refine HB1.mono ?_
  clear HB1
  rintro e w2 ⟨rfl, ho2, on2⟩
  have HO2 : Hid (Only (fun k => k = g) W w2 ∧ OwI w2 B g cap (cntP (.pack a b m) zs)) := ⟨HO1.out.trans on2, ho2⟩
  clear ho2 on2
  go_wp2
  go_end0
  exact ⟨rfl, HO2.out.2, HO2.out.1⟩
set_option maxRecDepth 20000 in
set_option maxHeartbeats 4000000 in
theorem packCI_pc (a b : Pc) (m : Nat) (x y : Value) (hx : a.vl = .iface 205 x) (hy : b.vl = .iface 198 y) (ha : CI 191 x a) (hb : CI 182 y b) : CI 191 (Pc.pack a b m).bd (.pack a b m) := by
  intro B g cap zs W M ho hok hM hr hm
  rw [Pc.bd_pack, hx, hy]
  have hb0 : Below W.heap.size W (W.alloc (Obj.cells #[.iface 205 x, .iface 198 y, .int .i64 ((a.wt + b.wt : Nat) : Int), .int .i64 m] 205)) := (Below.refl _ _).alloc (Nat.le_refl _) _
  have hblk := heap_alloc_new W (Obj.cells #[.iface 205 x, .iface 198 y, .int .i64 ((a.wt + b.wt : Nat) : Int), .int .i64 m] 205)
  simp only [Pc.sz] at hm
  have HA := ha B g cap zs _ M (ho.below hb0 (Nat.le_refl _)) hok.1 hM hr (by omega)
  have HB : Hid (∀ W2, OwI W2 B g cap (cntP a zs) → Calls Tryz.prog 182 #[y, .slice (some ⟨g, 0, none⟩) zs.length cap] W2 fun e w' => e = .returned (.tuple #[]) ∧ OwI w' B g cap (cntP b (cntP a zs)) ∧ Only (fun k => k = g) W2 w') := fun W2 h2 => by
    have h := hb B g cap (cntP a zs) W2 (M + a.sz) h2 (by rw [cntP_len]; exact hok.2) (by omega) (cntP_rng a zs M hM hr) (by omega)
    rw [cntP_len] at h
    exact h
  have HG : Hid (W.heap.size ≠ g ∧ Only (fun k => k = g) W (W.alloc (Obj.cells #[.iface 205 x, .iface 198 y, .int .i64 ((a.wt + b.wt : Nat) : Int), .int .i64 m] 205))) := ⟨by have := ho.lt.2; omega, Only.ofBelow hb0 (Nat.le_refl _)⟩
  have HBK : Hid ((W.alloc (Obj.cells #[.iface 205 x, .iface 198 y, .int .i64 ((a.wt + b.wt : Nat) : Int), .int .i64 m] 205)).heap[W.heap.size]? = some (.cells #[.iface 205 x, .iface 198 y, .int .i64 ((a.wt + b.wt : Nat) : Int), .int .i64 m] 205 (0, 0))) := hblk
  have mA := Tryz.meth_coin_countInto
  have mB := Tryz.meth_coinPack_countInto
  clear hx hy ha hb ho hok hr hm hb0 hblk
  obtain ⟨sm, hsm⟩ : ∃ sm, sm = a.wt + b.wt := ⟨_, rfl⟩
  rw [← hsm] at HA HG HBK ⊢
  clear hsm
  go_enter Tryz.func191, Tryz.ntmps191
  go_wp2_with fail
  refine HA.mono ?_
  clear HA
  rintro e w1 ⟨rfl, ho1, on1⟩
  have c1 : w1.cell? ⟨W.heap.size, 1, none⟩ = some (.iface 198 y) := cell_blk ((on1.block _ (by simp) HG.out.1).trans HBK.out) rfl
  have HB1 := HB.out w1 ho1
  have HO1 : Hid (Only (fun k => k = g) W w1) := HG.out.2.trans on1
  clear ho1 on1
  go_wp2_with fail
  refine HB1.mono ?_
  clear HB1
  rintro e w2 ⟨rfl, ho2, on2⟩
  have HO2 : Hid (Only (fun k => k = g) W w2 ∧ OwI w2 B g cap (cntP (.pack a b m) zs)) := ⟨HO1.out.trans on2, ho2⟩
  clear ho2 on2
  go_wp2
  go_end0
  exact ⟨rfl, HO2.out.2, HO2.out.1⟩
set_option maxRecDepth 20000 in
set_option maxHeartbeats 4000000 in
theorem packCI_pp (a b : Pc) (m : Nat) (x y : Value) (hx : a.vl = .iface 205 x) (hy : b.vl = .iface 205 y) (ha : CI 191 x a) (hb : CI 191 y b) : CI 191 (Pc.pack a b m).bd (.pack a b m) := by
  intro B g cap zs W M ho hok hM hr hm
  rw [Pc.bd_pack, hx, hy]
  have hb0 : Below W.heap.size W (W.alloc (Obj.cells #[.iface 205 x, .iface 205 y, .int .i64 ((a.wt + b.wt : Nat) : Int), .int .i64 m] 205)) := (Below.refl _ _).alloc (Nat.le_refl _) _
  have hblk := heap_alloc_new W (Obj.cells #[.iface 205 x, .iface 205 y, .int .i64 ((a.wt + b.wt : Nat) : Int), .int .i64 m] 205)
  simp only [Pc.sz] at hm
  have HA := ha B g cap zs _ M (ho.below hb0 (Nat.le_refl _)) hok.1 hM hr (by omega)
  have HB : Hid (∀ W2, OwI W2 B g cap (cntP a zs) → Calls Tryz.prog 191 #[y, .slice (some ⟨g, 0, none⟩) zs.length cap] W2 fun e w' => e = .returned (.tuple #[]) ∧ OwI w' B g cap (cntP b (cntP a zs)) ∧ Only (fun k => k = g) W2 w') := fun W2 h2 => by
    have h := hb B g cap (cntP a zs) W2 (M + a.sz) h2 (by rw [cntP_len]; exact hok.2) (by omega) (cntP_rng a zs M hM hr) (by omega)
    rw [cntP_len] at h
    exact h
  have HG : Hid (W.heap.size ≠ g ∧ Only (fun k => k = g) W (W.alloc (Obj.cells #[.iface 205 x, .iface 205 y, .int .i64 ((a.wt + b.wt : Nat) : Int), .int .i64 m] 205))) := ⟨by have := ho.lt.2; omega, Only.ofBelow hb0 (Nat.le_refl _)⟩
  have HBK : Hid ((W.alloc (Obj.cells #[.iface 205 x, .iface 205 y, .int .i64 ((a.wt + b.wt : Nat) : Int), .int .i64 m] 205)).heap[W.heap.size]? = some (.cells #[.iface 205 x, .iface 205 y, .int .i64 ((a.wt + b.wt : Nat) : Int), .int .i64 m] 205 (0, 0))) := hblk
  have mA := Tryz.meth_coin_countInto
  have mB := Tryz.meth_coinPack_countInto
  clear hx hy ha hb ho hok hr hm hb0 hblk
  obtain ⟨sm, hsm⟩ : ∃ sm, sm = a.wt + b.wt := ⟨_, rfl⟩
  rw [← hsm] at HA HG HBK ⊢
  clear hsm
  go_enter Tryz.func191, Tryz.ntmps191
  go_wp2_with fail
  refine HA.mono ?_
  clear HA
  rintro e w1 ⟨rfl, ho1, on1⟩
  have c1 : w1.cell? ⟨W.heap.size, 1, none⟩ = some (.iface 205 y) := cell_blk ((on1.block _ (by simp) HG.out.1).trans HBK.out) rfl
  have HB1 := HB.out w1 ho1
  have HO1 : Hid (Only (fun k => k = g) W w1) := HG.out.2.trans on1
  clear ho1 on1
  go_wp2_with fail
  refine HB1.mono ?_
  clear HB1
  rintro e w2 ⟨rfl, ho2, on2⟩
  have HO2 : Hid (Only (fun k => k = g) W w2 ∧ OwI w2 B g cap (cntP (.pack a b m) zs)) := ⟨HO1.out.trans on2, ho2⟩
  clear ho2 on2
  go_wp2
  go_end0
  exact ⟨rfl, HO2.out.2, HO2.out.1⟩
theorem Pc.counted (p : Pc) : (∃ x, p.vl = .iface 198 x ∧ CI 182 x p) ∨ (∃ x, p.vl = .iface 205 x ∧ CI 191 x p) := by
  induction p with
  | coin s c => exact .inl ⟨_, rfl, coinCI s c⟩
  | pack a b n iha ihb =>
    refine .inr ⟨_, rfl, ?_⟩
    rcases iha with ⟨x, hx, ha⟩ | ⟨x, hx, ha⟩ <;> rcases ihb with ⟨y, hy, hb⟩ | ⟨y, hy, hb⟩
    · exact packCI_cc a b n x y hx hy ha hb
    · exact packCI_cp a b n x y hx hy ha hb
    · exact packCI_pc a b n x y hx hy ha hb
    · exact packCI_pp a b n x y hx hy ha hb
/-- Two lists put into one, the lighter first, of alike ones the first list's first. -/
def mrg : List Pc → List Pc → List Pc
  | [], b => b
  | a :: ar, [] => a :: ar
  | a :: ar, b :: br => if a.wt ≤ b.wt then a :: mrg ar (b :: br) else b :: mrg (a :: ar) br
termination_by a b => a.length + b.length
/-- A coin put among coins, behind those that weigh ar much. -/
def insP (p : Pc) : List Pc → List Pc
  | [] => [p]
  | q :: l => if q.wt ≤ p.wt then q :: insP p l else p :: q :: l
/-- The coins of the first k counts, the lighter first. -/
def srt (zs : List Int) : Nat → List Pc
  | 0 => []
  | k + 1 => if 0 < zs.getD k 0 then insP (.coin k (zs.getD k 0).toNat) (srt zs k) else srt zs k
def rnd (S : List Pc) : Nat → List Pc
  | 0 => []
  | k + 1 => mrg S (pairL (rnd S k) ((rnd S k).length / 2))

theorem insP_perm (p : Pc) : ∀ l, (insP p l).Perm (l ++ [p])
  | [] => List.Perm.refl _
  | q :: l => by
    simp only [insP]
    split
    · exact List.Perm.cons q (insP_perm p l)
    · exact (List.perm_append_singleton p (q :: l)).symm
theorem mrg_perm : ∀ a b, (mrg a b).Perm (a ++ b)
  | [], b => by rw [mrg]; exact List.Perm.refl _
  | a :: ar, [] => by rw [mrg]; simp
  | a :: ar, b :: br => by
    rw [mrg]
    split
    · exact List.Perm.cons a (mrg_perm ar (b :: br))
    · exact (List.Perm.cons b (mrg_perm (a :: ar) br)).trans (List.perm_middle (a := b) (l₁ := a :: ar) (l₂ := br)).symm
termination_by a b => a.length + b.length
theorem srt_perm (zs : List Int) : ∀ k, (srt zs k).Perm (coinsL zs k)
  | 0 => List.Perm.refl _
  | k + 1 => by
    simp only [srt, coinsL]
    split
    · exact (insP_perm _ _).trans (List.Perm.append_right _ (srt_perm zs k))
    · exact srt_perm zs k
/-- Sorted by key, all keys apart. -/
def KS (l : List Pc) : Prop := l.Pairwise (fun p q => p.key < q.key)
theorem key_of_wt {p q : Pc} (hq : q.plc < 1024) (hp : p.plc < 1024) (h : p.wt < q.wt) : p.key < q.key := by
  unfold Pc.key
  omega
theorem insP_KS {p : Pc} (hp : p.plc < 1024) : ∀ {l : List Pc}, KS l → (∀ q ∈ l, q.plc < p.plc) → KS (insP p l)
  | [], _, _ => by simp [insP, KS]
  | q :: l, h, hl => by
    obtain ⟨h1, h2⟩ := List.pairwise_cons.1 h
    have hq := hl q (by simp)
    simp only [insP]
    split
    · rename_i hw
      refine List.pairwise_cons.2 ⟨fun r hr => ?_, insP_KS hp h2 (fun r hr => hl r (by simp [hr]))⟩
      have hm := (insP_perm p l).mem_iff.1 hr
      rcases List.mem_append.1 hm with hm | hm
      · exact h1 r hm
      · simp at hm
        subst hm
        unfold Pc.key
        omega
    · rename_i hw
      have hlt : p.key < q.key := key_of_wt (by omega) hp (by omega)
      refine List.pairwise_cons.2 ⟨fun r hr => ?_, h⟩
      rcases List.mem_cons.1 hr with rfl | hr
      · exact hlt
      · have := h1 r hr
        omega
theorem srt_plc (zs : List Int) : ∀ k, ∀ q ∈ srt zs k, q.plc < k
  | 0, q, h => by simp [srt] at h
  | k + 1, q, h => by
    simp only [srt] at h
    split at h
    · rcases List.mem_append.1 ((insP_perm _ _).mem_iff.1 h) with h | h
      · have := srt_plc zs k q h; omega
      · simp at h; subst h; simp [Pc.plc]
    · have := srt_plc zs k q h; omega
theorem srt_KS (zs : List Int) : ∀ k, k ≤ 80 → KS (srt zs k)
  | 0, _ => List.Pairwise.nil
  | k + 1, hk => by
    simp only [srt]
    split
    · exact insP_KS (by simp [Pc.plc]; omega) (srt_KS zs k (by omega)) (fun q hq => by have := srt_plc zs k q hq; simpa [Pc.plc] using this)
    · exact srt_KS zs k (by omega)
theorem mrg_KS : ∀ {a b : List Pc}, KS a → KS b → (∀ p ∈ a, p.plc < 80) → (∀ q ∈ b, 80 ≤ q.plc ∧ q.plc < 1024) → KS (mrg a b)
  | [], b, _, hb, _, _ => by rw [mrg]; exact hb
  | a :: ar, [], ha, _, _, _ => by rw [mrg]; exact ha
  | a :: ar, b :: br, ha, hb, h1, h2 => by
    obtain ⟨a1, a2⟩ := List.pairwise_cons.1 ha
    obtain ⟨b1, b2⟩ := List.pairwise_cons.1 hb
    have ha0 := h1 a (by simp)
    have hb0 := h2 b (by simp)
    rw [mrg]
    split
    · rename_i hw
      have hab : a.key < b.key := by unfold Pc.key; omega
      refine List.pairwise_cons.2 ⟨fun r hr => ?_, mrg_KS a2 hb (fun p hp => h1 p (by simp [hp])) h2⟩
      rcases List.mem_append.1 ((mrg_perm _ _).mem_iff.1 hr) with hr | hr
      · exact a1 r hr
      · rcases List.mem_cons.1 hr with rfl | hr
        · exact hab
        · have := b1 r hr; omega
    · rename_i hw
      have hab : b.key < a.key := by unfold Pc.key; omega
      refine List.pairwise_cons.2 ⟨fun r hr => ?_, mrg_KS ha b2 h1 (fun q hq => h2 q (by simp [hq]))⟩
      rcases List.mem_append.1 ((mrg_perm _ _).mem_iff.1 hr) with hr | hr
      · rcases List.mem_cons.1 hr with rfl | hr
        · exact hab
        · have := a1 r hr; omega
      · exact b1 r hr
termination_by a b => a.length + b.length
/-- Whatever list has the same ones, sorted, is it. -/
theorem KS_only : ∀ {l m : List Pc}, KS l → m.Perm l → m.Pairwise (fun p q => p.key ≤ q.key) → m = l
  | [], m, _, hp, _ => List.Perm.eq_nil hp
  | x :: l, [], _, hp, _ => absurd hp.length_eq (by simp)
  | x :: l, y :: m, h, hp, hm => by
    obtain ⟨h1, h2⟩ := List.pairwise_cons.1 h
    obtain ⟨m1, m2⟩ := List.pairwise_cons.1 hm
    have hx : x ∈ y :: m := hp.mem_iff.2 (by simp)
    have hy : y ∈ x :: l := hp.mem_iff.1 (by simp)
    have e : x = y := by
      rcases List.mem_cons.1 hy with hy | hy
      · exact hy.symm
      · have k1 := h1 y hy
        rcases List.mem_cons.1 hx with hx | hx
        · exact hx
        · have := m1 x hx; omega
    subst e
    rw [KS_only h2 (List.Perm.cons_inv hp) m2]
theorem pairL_get (l : List Pc) (n i : Nat) (hi : i < n) : (pairL l n).getD i dpc = .pack (l.getD (2 * i) dpc) (l.getD (2 * i + 1) dpc) i := by
  induction n with
  | zero => omega
  | succ n ih =>
    simp only [pairL]
    rw [List.getD_eq_getElem?_getD]
    by_cases h : i < n
    · rw [List.getElem?_append_left (by rw [pairL_len]; exact h), ← List.getD_eq_getElem?_getD]
      exact ih h
    · have hin : i = n := by omega
      subst hin
      rw [List.getElem?_append_right (by rw [pairL_len]; exact Nat.le_refl _), pairL_len]
      simp
theorem pairL_mem {l : List Pc} {n : Nat} {p : Pc} (h : p ∈ pairL l n) : ∃ i, i < n ∧ p = .pack (l.getD (2 * i) dpc) (l.getD (2 * i + 1) dpc) i := by
  obtain ⟨i, hi, rfl⟩ := List.getElem_of_mem h
  have hin : i < n := by rw [pairL_len] at hi; exact hi
  refine ⟨i, hin, ?_⟩
  rw [← pairL_get l n i hin, List.getD_eq_getElem?_getD, List.getElem?_eq_getElem hi]
  rfl
theorem pairL_KS {l : List Pc} (h : KS l) (hp : ∀ p ∈ l, p.plc < 1024) (hl : l.length ≤ 160) : KS (pairL l (l.length / 2)) := by
  have hw : ∀ i j, i < j → j < l.length → (l.getD i dpc).wt ≤ (l.getD j dpc).wt := fun i j hij hj => by
    have h1 := List.pairwise_iff_getElem.1 h i j (by omega) hj hij
    have e1 : l.getD i dpc = l[i] := by simp [List.getD_eq_getElem?_getD, show i < l.length by omega]
    have e2 : l.getD j dpc = l[j] := by simp [List.getD_eq_getElem?_getD, hj]
    have p1 := hp l[i] (List.getElem_mem _)
    have p2 := hp l[j] (List.getElem_mem _)
    rw [e1, e2]
    unfold Pc.key at h1
    omega
  refine List.pairwise_iff_getElem.2 fun i j hi hj hij => ?_
  rw [pairL_len] at hi hj
  have e1 := pairL_get l (l.length / 2) i hi
  have e2 := pairL_get l (l.length / 2) j hj
  rw [List.getD_eq_getElem?_getD, List.getElem?_eq_getElem (by rw [pairL_len]; exact hi)] at e1
  rw [List.getD_eq_getElem?_getD, List.getElem?_eq_getElem (by rw [pairL_len]; exact hj)] at e2
  simp only [Option.getD_some] at e1 e2
  rw [e1, e2]
  have w1 := hw (2 * i) (2 * j) (by omega) (by omega)
  have w2 := hw (2 * i + 1) (2 * j + 1) (by omega) (by omega)
  unfold Pc.key
  simp only [Pc.wt, Pc.plc]
  omega
theorem getD_memP2 {l : List Pc} {i : Nat} (h : i < l.length) : l.getD i dpc ∈ l := by
  rw [List.getD_eq_getElem?_getD, List.getElem?_eq_getElem h]
  exact List.getElem_mem _
theorem coinsL_mem (zs : List Int) (hz : ∀ z ∈ zs, 0 ≤ z ∧ z ≤ 1000000) : ∀ k, k ≤ zs.length → ∀ p ∈ coinsL zs k, p.wt ≤ 1000000 ∧ p.plc < k ∧ p.ok k ∧ ∃ s c, p = .coin s c
  | 0, _, p, h => by simp [coinsL] at h
  | k + 1, hk, p, h => by
    have ih := coinsL_mem zs hz k (by omega)
    have up : ∀ p ∈ coinsL zs k, p.wt ≤ 1000000 ∧ p.plc < k + 1 ∧ p.ok (k + 1) ∧ ∃ s c, p = .coin s c := fun p hp => by
      obtain ⟨h1, h2, h3, s, c, rfl⟩ := ih p hp
      exact ⟨h1, by omega, ⟨by have := h3.1; omega, h3.2⟩, s, c, rfl⟩
    simp only [coinsL] at h
    split at h
    · rename_i hp
      rcases List.mem_append.1 h with h | h
      · exact up p h
      · simp only [List.mem_singleton] at h
        subst h
        have := hz _ (getD_mem (show k < zs.length by omega))
        exact ⟨by simp only [Pc.wt]; omega, by simp [Pc.plc], ⟨Nat.lt_succ_self _, by omega⟩, _, _, rfl⟩
    · exact up p h
theorem ok_mono {n m : Nat} (h : n ≤ m) (p : Pc) : p.ok n → p.ok m := by
  induction p with
  | coin s c => exact fun h1 => ⟨by have := h1.1; omega, h1.2⟩
  | pack a b k iha ihb => exact fun h1 => ⟨iha h1.1, ihb h1.2⟩
/-- The sorted coins of all counts. -/
def coinsS (zs : List Int) : List Pc := srt zs zs.length
theorem coinsS_len (zs : List Int) : (coinsS zs).length = (coinsL zs zs.length).length := (srt_perm zs zs.length).length_eq
theorem coinsS_mem {zs : List Int} (hz : ∀ z ∈ zs, 0 ≤ z ∧ z ≤ 1000000) : ∀ p ∈ coinsS zs, p.wt ≤ 1000000 ∧ p.plc < zs.length ∧ p.ok zs.length ∧ ∃ s c, p = .coin s c := fun p hp => coinsL_mem zs hz zs.length (Nat.le_refl _) p ((srt_perm zs zs.length).mem_iff.1 hp)
/-- What holds of each round's list. -/
theorem rnd_inv {zs : List Int} (hz : ∀ z ∈ zs, 0 ≤ z ∧ z ≤ 1000000) (hn : zs.length ≤ 80) : ∀ k, KS (rnd (coinsS zs) k) ∧ (∀ p ∈ rnd (coinsS zs) k, p.wt ≤ 1000000 * 2 ^ k ∧ p.plc < 240 ∧ p.ok zs.length) ∧ (rnd (coinsS zs) k).length ≤ 2 * (coinsS zs).length
  | 0 => ⟨List.Pairwise.nil, by simp [rnd], by simp [rnd]⟩
  | k + 1 => by
    obtain ⟨h1, h2, h3⟩ := rnd_inv hz hn k
    have hm : (coinsS zs).length ≤ 80 := by rw [coinsS_len]; have := coinsL_len zs zs.length; omega
    have hpk := pairL_KS h1 (fun p hp => by have := (h2 p hp).2.1; omega) (by omega)
    have hpm : ∀ p ∈ pairL (rnd (coinsS zs) k) ((rnd (coinsS zs) k).length / 2), p.wt ≤ 1000000 * 2 ^ (k + 1) ∧ 80 ≤ p.plc ∧ p.plc < 240 ∧ p.ok zs.length := fun p hp => by
      obtain ⟨i, hi, rfl⟩ := pairL_mem hp
      obtain ⟨a1, a2, a3⟩ := h2 _ (getD_memP2 (show 2 * i < (rnd (coinsS zs) k).length by omega))
      obtain ⟨b1, b2, b3⟩ := h2 _ (getD_memP2 (show 2 * i + 1 < (rnd (coinsS zs) k).length by omega))
      refine ⟨?_, by simp only [Pc.plc]; omega, by simp only [Pc.plc]; omega, a3, b3⟩
      simp only [Pc.wt]
      rw [Nat.pow_succ]
      omega
    have h2p : 1 ≤ 2 ^ (k + 1) := Nat.one_le_two_pow
    refine ⟨mrg_KS (srt_KS zs zs.length hn) hpk (fun p hp => by have := (coinsS_mem hz p hp).2.1; omega) (fun p hp => by have := hpm p hp; omega), ?_, ?_⟩
    · intro p hp
      rcases List.mem_append.1 ((mrg_perm _ _).mem_iff.1 hp) with hp | hp
      · obtain ⟨c1, c2, c3, _⟩ := coinsS_mem hz p hp
        refine ⟨Nat.le_trans c1 ?_, by omega, c3⟩
        exact Nat.le_mul_of_pos_right _ (by omega)
      · obtain ⟨c1, c2, c3, c4⟩ := hpm p hp
        exact ⟨c1, c3, c4⟩
    · show (mrg _ _).length ≤ _
      rw [(mrg_perm _ _).length_eq, List.length_append, pairL_len]
      omega
theorem rnd_long (S : List Pc) (L : Nat) (h : S.length ≤ 2 ^ L) : ∀ k, k ≤ L → 2 * S.length ≤ (rnd S (k + 1)).length + 2 ^ (L - k)
  | 0, _ => by
    show _ ≤ (mrg _ _).length + _
    rw [(mrg_perm _ _).length_eq, List.length_append]
    simp only [Nat.sub_zero]
    omega
  | k + 1, hk => by
    have ih := rnd_long S L h k (by omega)
    show _ ≤ (mrg _ _).length + _
    rw [(mrg_perm _ _).length_eq, List.length_append, pairL_len]
    have e : 2 ^ (L - k) = 2 * 2 ^ (L - (k + 1)) := by rw [show L - k = (L - (k + 1)) + 1 by omega, Nat.pow_succ, Nat.mul_comm]
    omega
theorem rnd_enough (S : List Pc) (L : Nat) (hL : 1 ≤ L) (h : S.length ≤ 2 ^ L) : 2 * S.length - 2 ≤ (rnd S L).length := by
  have := rnd_long S L h (L - 1) (by omega)
  rw [show L - 1 + 1 = L by omega, show L - (L - 1) = 1 by omega] at this
  omega
/-- What roundList makes of coins and packs is the next round's list. -/
theorem rnd_round {zs : List Int} (hz : ∀ z ∈ zs, 0 ≤ z ∧ z ≤ 1000000) (hn : zs.length ≤ 80) (k : Nat) {m : List Pc} (hp : m.Perm (coinsL zs zs.length ++ pairL (rnd (coinsS zs) k) ((rnd (coinsS zs) k).length / 2))) (hs : m.Pairwise (fun p q => p.key ≤ q.key)) : m = rnd (coinsS zs) (k + 1) :=
  KS_only (rnd_inv hz hn (k + 1)).1 (hp.trans ((List.Perm.append_right _ (srt_perm zs zs.length).symm).trans (mrg_perm _ _).symm)) hs

def cntL : List Pc → List Int → List Int
  | [], zs => zs
  | p :: l, zs => cntL l (cntP p zs)
theorem cntL_snoc (l : List Pc) (p : Pc) : ∀ zs, cntL (l ++ [p]) zs = cntP p (cntL l zs) := by
  induction l with
  | nil => intro zs; rfl
  | cons q l ih => intro zs; exact ih _
theorem cntL_len (l : List Pc) : ∀ zs, (cntL l zs).length = zs.length := by
  induction l with
  | nil => intro zs; rfl
  | cons q l ih => intro zs; rw [cntL, ih, cntP_len]
/-- What Lens answers. -/
def lensOkB (zs : List Int) (x : Int) : Prop := cntB zs = true ∧ 1 ≤ x ∧ x ≤ 12 ∧ 1 ≤ (coinsS zs).length ∧ (coinsS zs).length ≤ 2 ^ x.toNat
def lensV (zs : List Int) (L : Nat) : List Int := if (coinsS zs).length = 1 then cntP ((coinsS zs).getD 0 dpc) (List.replicate zs.length 0) else cntL ((rnd (coinsS zs) L).take (2 * (coinsS zs).length - 2)) (List.replicate zs.length 0)
theorem lensV_len (zs : List Int) (L : Nat) : (lensV zs L).length = zs.length := by
  unfold lensV
  split
  · rw [cntP_len]; simp
  · rw [cntL_len]; simp
end Go.Proofs.YtfeokafkhnbdiaaGreatDoor
