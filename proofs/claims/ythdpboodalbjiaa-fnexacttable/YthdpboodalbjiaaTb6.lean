/-
  Table, both sides.
-/
import Derived.Test.YthdpboodalbjiaaTb5
import Derived.Test.YthdpboodalbjiaaTb3
import Derived.Test.YthdpboodalbjiaaINorm
namespace Go.Proofs.Ythdpboodalbjiaa
open Go.RowKit
set_option linter.unusedVariables false

/-- A row of numbers that is only read, between two blocks. -/
def InR (w : World) (B U : Nat) (a : Option Addr) (fs : List Int) : Prop :=
  (∀ z ∈ fs, -9223372036854775808 ≤ z ∧ z ≤ 9223372036854775807) ∧ (fs = [] ∨ ∃ g, a = some ⟨g, 0, none⟩ ∧ B ≤ g ∧ g < U ∧ U ≤ w.heap.size ∧ ∀ i, i < fs.length → w.cell? ⟨g, i, none⟩ = some (.int .i64 (fs.getD i 0)))
theorem InR.byt {w : World} {B U : Nat} {a : Option Addr} {fs : List Int} (h : InR w B U a fs) : Ins w a fs := by
  refine ⟨h.1, fun hp => ?_⟩
  rcases h.2 with h' | ⟨g, rfl, h1, h2, h4, h3⟩
  · rw [h'] at hp; simp at hp
  · exact ⟨g, 0, rfl, by omega, fun i hi => by rw [Nat.zero_add]; exact h3 i hi⟩
theorem InR.only {S : Nat → Prop} {w w' : World} {B U : Nat} {a : Option Addr} {fs : List Int} (h : InR w B U a fs) (ho : Only S w w') (hs : ∀ k, B ≤ k → k < U → ¬ S k) : InR w' B U a fs := by
  refine ⟨h.1, ?_⟩
  rcases h.2 with h' | ⟨g, rfl, h1, h2, h4, h3⟩
  · exact .inl h'
  · exact .inr ⟨g, rfl, h1, h2, Nat.le_trans h4 ho.size, fun i hi => ho.cell (by omega) (hs g h1 h2) (h3 i hi)⟩
theorem InR.below {w w' : World} {B U : Nat} {a : Option Addr} {fs : List Int} (h : InR w B U a fs) (ho : Below w.heap.size w w') : InR w' B U a fs := h.only (Only.ofBelow (S := fun _ => False) ho (Nat.le_refl _)) (by simp)
theorem InR.mono {w : World} {B B' U : Nat} {a : Option Addr} {fs : List Int} (h : InR w B U a fs) (h1 : B' ≤ B) : InR w B' U a fs := by
  refine ⟨h.1, ?_⟩
  rcases h.2 with h' | ⟨g, rfl, k1, r⟩
  · exact .inl h'
  · exact .inr ⟨g, rfl, by omega, r⟩
theorem CV.inR {w : World} {B n c : Nat} {a : Option Addr} {fs : List Int} (h : CV w B (.slice a n c) n fs) (hr : ∀ z ∈ fs, -9223372036854775808 ≤ z ∧ z ≤ 9223372036854775807) (hl : fs.length = n * 3) : InR w B w.heap.size a fs := by
  refine ⟨hr, ?_⟩
  rcases h.2 with ⟨h', rfl⟩ | ⟨g, cap, cur, h', hg, r⟩
  · left
    exact List.eq_nil_of_length_eq_zero (by omega)
  · right
    simp at h'
    obtain ⟨rfl, rfl⟩ := h'
    have hlt := (h.lt g rfl).2
    refine ⟨g, rfl, hg, hlt, Nat.le_refl _, fun i hi => ?_⟩
    rw [World.ownsRow.cellAt h i (by omega)]
    simp [List.getElem?_eq_getElem hi]

theorem tb_rng {zs : List Int} (hn : normB zs = true) : ∀ k, k ≤ 64 → ∀ z ∈ tb (pl (fl 0 zs) (plc 64)) zs k, -64 ≤ z ∧ z ≤ 127 := by
  intro k
  induction k with
  | zero => intro _ z hz; simp [tb] at hz
  | succ k ih =>
    intro hk z hz
    obtain ⟨s, hs, hsl, hzp, hz64⟩ := sp_sym hn k (by omega)
    have hbd := normB_bnd hn
    have hbn := nx_bnd (pl (fl 0 zs) (plc 64)) zs k s
    rw [tb, hs, Int.toNat_natCast] at hz
    simp only [List.mem_append, List.mem_cons, List.not_mem_nil, or_false] at hz
    obtain ⟨X, hX⟩ := Int.eq_ofNat_of_zero_le (show 0 ≤ (nx (pl (fl 0 zs) (plc 64)) zs k).getD s 0 by omega)
    rw [hX, Int.toNat_natCast] at hz
    have hw := wd_rng (x := X) (by omega) (by omega)
    rcases hz with hz | rfl | rfl | rfl
    · exact ih (by omega) z hz
    · omega
    · omega
    · omega

set_option maxHeartbeats 1600000 in
theorem specTable_no (a : Option Addr) (cap : Nat) (zs : List Int) (w : World) (hb : Ins w a zs) (hl : zs.length ≤ 281474976710656) (h : normB zs = false) :
    Calls Try.prog 17 #[.slice a zs.length cap] w fun e w' => e = .returned (.tuple #[.slice none 0 0, .bool false]) ∧ w' = w := by
  have HT := specNormOk_any a cap zs w hb hl
  rw [h] at HT
  go_enter Try.func17, Try.ntmps17
  go_wp2_with fail
  refine HT.mono ?_
  rintro e w0 ⟨rfl, rfl⟩
  go_wp2
  go_ret2
  exact ⟨rfl, rfl⟩
set_option maxHeartbeats 1600000 in
theorem implTable_no (a : Option Addr) (cap : Nat) (zs : List Int) (w : World) (hb : Ins w a zs) (hl : zs.length ≤ 281474976710656) (h : normB zs = false) :
    Calls Try.prog 18 #[.slice a zs.length cap] w fun e w' => e = .returned (.tuple #[.slice none 0 0, .bool false]) ∧ w' = w := by
  have HT := implNormOk_any a cap zs w hb hl
  rw [h] at HT
  go_enter Try.func18, Try.ntmps18
  go_wp2_with fail
  refine HT.mono ?_
  rintro e w0 ⟨rfl, rfl⟩
  go_wp2
  go_ret2
  exact ⟨rfl, rfl⟩
set_option maxHeartbeats 1600000 in
theorem specTable_yes (a : Option Addr) (cap : Nat) (zs : List Int) (w : World) (hb : Ins w a zs) (h : normB zs = true) :
    Calls Try.prog 17 #[.slice a zs.length cap] w fun e w' => ∃ a' c', e = .returned (.tuple #[.slice a' 64 c', .bool true]) ∧ CV w' w.heap.size (.slice a' 64 c') 64 (tb (pl (fl 0 zs) (plc 64)) zs 64) ∧ Below w.heap.size w w' := by
  have hl := normB_bnd h
  have HT := specNormOk_any a cap zs w hb (by omega)
  have HS := l3table_any a cap zs w hb h
  rw [h] at HT
  generalize tb (pl (fl 0 zs) (plc 64)) zs 64 = ys at *
  clear h
  go_enter Try.func17, Try.ntmps17
  go_wp2_with fail
  refine HT.mono ?_
  rintro e w0 ⟨rfl, rfl⟩
  go_wp2_with fail
  refine HS.mono ?_
  rintro e w1 ⟨a', c', rfl, ho, hbb⟩
  have HO : Hid _ := ho
  have HB : Hid _ := hbb
  clear ho hbb HS HT
  go_wp2
  go_ret2
  exact ⟨a', c', rfl, HO.out, HB.out⟩
set_option maxHeartbeats 1600000 in
theorem implTable_yes (a : Option Addr) (cap : Nat) (zs : List Int) (w : World) (hb : Ins w a zs) (h : normB zs = true) :
    Calls Try.prog 18 #[.slice a zs.length cap] w fun e w' => ∃ g, e = .returned (.tuple #[.slice (some ⟨g, 0, none⟩) 64 64, .bool true]) ∧ ArI w' w.heap.size w'.heap.size (some ⟨g, 0, none⟩) (tb (pl (fl 0 zs) (plc 64)) zs 64) ∧ Below w.heap.size w w' := by
  have hl := normB_bnd h
  have HT := implNormOk_any a cap zs w hb (by omega)
  have HS := cellsOf_any a cap zs w hb h
  have hr := tb_rng h 64 (Nat.le_refl _)
  rw [h] at HT
  generalize tb (pl (fl 0 zs) (plc 64)) zs 64 = ys at *
  have HR : Hid (∀ z ∈ ys, -9223372036854775808 ≤ z ∧ z ≤ 9223372036854775807) := fun z hz => by have := hr z hz; omega
  clear h hr
  go_enter Try.func18, Try.ntmps18
  go_wp2_with fail
  refine HT.mono ?_
  rintro e w0 ⟨rfl, rfl⟩
  go_wp2_with fail
  refine HS.mono ?_
  rintro e w1 ⟨g, rfl, hg, ho, hbb⟩
  have HO : Hid (_ ∧ _ ∧ _) := ⟨ho, hbb, hg⟩
  clear ho hbb hg HS HT
  go_wp2
  go_ret2
  exact ⟨g, rfl, ⟨HR.out, .inr ⟨g, _, rfl, HO.out.2.2, (Array.getElem?_eq_some_iff.1 HO.out.1).1, HO.out.1⟩⟩, HO.out.2.1⟩

/-- The model and the program tell the same cells. -/
theorem table_both (cs : List Int) (hl : cs.length ≤ 1048576) : ∃ (fs : List Int) (n : Nat) (ok : Bool), fs.length = n * 3 ∧ n ≤ 64 ∧
    (∀ (a : Option Addr) (cap : Nat) (w : World), Ins w a cs → Calls Try.prog 17 #[.slice a cs.length cap] w fun e w' =>
      ∃ a' cp, e = .returned (.tuple #[.slice a' n cp, .bool ok]) ∧ InR w' w.heap.size w'.heap.size a' fs ∧ Below w.heap.size w w') ∧
    (∀ (a : Option Addr) (cap : Nat) (w : World), Ins w a cs → Calls Try.prog 18 #[.slice a cs.length cap] w fun e w' =>
      ∃ a' cp, e = .returned (.tuple #[.slice a' n cp, .bool ok]) ∧ ArI w' w.heap.size w'.heap.size a' fs ∧ Below w.heap.size w w') := by
  cases hc : normB cs with
  | true =>
    have hsl := tb_len (pl (fl 0 cs) (plc 64)) cs 64
    have hr := tb_rng hc 64 (Nat.le_refl _)
    refine ⟨tb (pl (fl 0 cs) (plc 64)) cs 64, 64, true, hsl, Nat.le_refl _, ?_, ?_⟩
    · intro a cap w hb
      refine (specTable_yes a cap cs w hb hc).mono ?_
      rintro e w' ⟨a', c', rfl, ho, hbb⟩
      exact ⟨a', c', rfl, ho.inR (fun z hz => by have := hr z hz; omega) hsl, hbb⟩
    · intro a cap w hb
      refine (implTable_yes a cap cs w hb hc).mono ?_
      rintro e w' ⟨g, rfl, ho, hbb⟩
      exact ⟨_, 64, rfl, ho, hbb⟩
  | false =>
    refine ⟨[], 0, false, rfl, by omega, ?_, ?_⟩
    · intro a cap w hb
      refine (specTable_no a cap cs w hb (by omega) hc).mono ?_
      rintro e w' ⟨rfl, rfl⟩
      exact ⟨none, 0, rfl, ⟨by simp, .inl rfl⟩, Below.refl _ _⟩
    · intro a cap w hb
      refine (implTable_no a cap cs w hb (by omega) hc).mono ?_
      rintro e w' ⟨rfl, rfl⟩
      exact ⟨none, 0, rfl, ⟨by simp, .inl ⟨rfl, rfl⟩⟩, Below.refl _ _⟩

structure SnapT (w W : World) (aw : Option Addr) (ys : List Int) (U : Nat) (ax : Option Addr) (cx : Nat) (xs : List Int) (V : Nat) (ag : Option Addr) (ts : List Int) : Prop where
  bel : Below w.heap.size w W
  hU : w.heap.size ≤ U ∧ U ≤ V ∧ V ≤ W.heap.size
  mw : InR W w.heap.size U aw ys
  mx : MinI W U V ax cx xs
  mg : ArI W V W.heap.size ag ts
section
variable {w W W' : World} {aw : Option Addr} {ys : List Int} {U : Nat} {ax : Option Addr} {cx : Nat} {xs : List Int} {V : Nat} {ag : Option Addr} {ts : List Int}
theorem SnapT.step (h : SnapT w W aw ys U ax cx xs V ag ts) (hb : Below W.heap.size W W') : SnapT w W' aw ys U ax cx xs V ag ts := by
  have h1 := h.hU; have hs := hb.size
  exact ⟨h.bel.trans (hb.mono (by omega)), ⟨h1.1, h1.2.1, by omega⟩, h.mw.below hb, h.mx.below hb, (h.mg.below hb).mono (Nat.le_refl _) hs⟩
theorem SnapT.markX (h : SnapT w W aw ys U ax cx xs V ag ts) (ho : Only (rowOf ax) W W') {xs' : List Int} (hm : MinI W' U V ax cx xs') : SnapT w W' aw ys U ax cx xs' V ag ts := by
  have h1 := h.hU; have hs := ho.size
  have hin : ∀ k, rowOf ax k → U ≤ k ∧ k < V := fun k hk => h.mx.row hk
  have hbel : Below w.heap.size W W' := ho.below (by omega) (fun k hk => by have := hin k hk; omega)
  exact ⟨h.bel.trans hbel, ⟨h1.1, h1.2.1, by omega⟩, h.mw.only ho (fun k _ _ hk => by have := hin k hk; omega), hm, (h.mg.only ho (fun k _ _ hk => by have := hin k hk; omega)).mono (Nat.le_refl _) hs⟩
theorem SnapT.markG (h : SnapT w W aw ys U ax cx xs V ag ts) (ho : Only (rowOf ag) W W') {ts' : List Int} (hm : ArI W' V W.heap.size ag ts') : SnapT w W' aw ys U ax cx xs V ag ts' := by
  have h1 := h.hU; have hs := ho.size
  have hin : ∀ k, rowOf ag k → V ≤ k ∧ k < W.heap.size := fun k hk => h.mg.row hk
  have hbel : Below w.heap.size W W' := ho.below (by omega) (fun k hk => by have := hin k hk; omega)
  exact ⟨h.bel.trans hbel, ⟨h1.1, h1.2.1, by omega⟩, h.mw.only ho (fun k _ _ hk => by have := hin k hk; omega), h.mx.only ho (fun k _ _ hk => by have := hin k hk; omega), hm.mono (Nat.le_refl _) hs⟩
end
end Go.Proofs.Ythdpboodalbjiaa
