/-
  The program's reader gives as many bits as there are, up to 30.
-/
import Derived.Test.YtdhnlbekkicjcaaDoorReader
namespace Go.Proofs.YtdhnlbekkicjcaaDoor
open Go.RowKit
set_option linter.unusedVariables false

set_option maxHeartbeats 800000 in
theorem left_any (R : Nat) (n p : Nat) (w : World) (hn : n ≤ 4104) (hp : p ≤ 4104)
    (c1 : w.cell? ⟨R, 1, none⟩ = some (.int .i64 n)) (c2 : w.cell? ⟨R, 2, none⟩ = some (.int .i64 p)) :
    Calls Tryd.prog 65 #[.pointer (some ⟨R, 0, none⟩)] w fun e w' => e = .returned (.int .i64 ((n : Int) - p)) ∧ ∃ m, w' = w.drewN m := by
  go_enter Tryd.func65, Tryd.ntmps65
  go_wp2_with fail
  go_quiet (fail)
  go_wp2
  go_ret
  exact ⟨rfl, _, rfl⟩

set_option maxHeartbeats 1600000 in
theorem some_no (R : Nat) (n p : Nat) (X : Value) (w : World) (hn : n ≤ 4104) (hp : p = n)
    (c1 : w.cell? ⟨R, 1, none⟩ = some (.int .i64 n)) (c2 : w.cell? ⟨R, 2, none⟩ = some (.int .i64 p)) (g0 : w.cell? ⟨2, 0, none⟩ = some X) :
    Calls Tryd.prog 62 #[.pointer (some ⟨R, 0, none⟩)] w fun e w' =>
      e = .returned (.tuple #[.int .i64 0, .int .i64 0, X]) ∧ ∃ m, w' = w.drewN m := by
  subst hp
  have HL := left_any R p p w hn hn c1 c2
  rw [Int.sub_self] at HL
  go_enter Tryd.func62, Tryd.ntmps62
  go_wp2_with fail
  refine HL.mono ?_
  rintro e w1 ⟨rfl, m1, rfl⟩
  go_wp2
  go_quiet (fail)
  go_wp2
  exact bodyPost_ret (v := .tuple #[.int .i64 0, .int .i64 0, X]) (by simp [results, Tryd.results62, go_sem]) rfl ⟨rfl, _, World.drewN_drewN ..⟩

set_option maxHeartbeats 1600000 in
theorem some_yes (R : Nat) (a : Option Addr) (cap : Nat) (zs : List Int) (n M v p : Nat) (w : World) (hn : n ≤ 4104) (hM : M ≤ 4104) (hnM : n ≤ M) (hb : Byt w a zs) (hz : zs = enc M v) (hp : p < n)
    (c0 : w.cell? ⟨R, 0, none⟩ = some (.slice a zs.length cap)) (c1 : w.cell? ⟨R, 1, none⟩ = some (.int .i64 n)) (c2 : w.cell? ⟨R, 2, none⟩ = some (.int .i64 p)) (f2 : w.frozen? ⟨R, 2, none⟩ = false) :
    Calls Tryd.prog 62 #[.pointer (some ⟨R, 0, none⟩)] w fun e w' =>
      e = .returned (.tuple #[.int .i64 (v / 2 ^ p % 2 ^ (min (n - p) 30) : Nat), .int .i64 (min (n - p) 30 : Nat), .nilIface]) ∧ ∃ m, w' = (w.drewN m).setCell ⟨R, 2, none⟩ (.int .i64 ((p + min (n - p) 30 : Nat) : Int)) := by
  have HZ : Hid (zs = enc M v) := hz
  clear hz
  have HL := left_any R n p w hn (by omega) c1 c2
  obtain ⟨s, hs⟩ : ∃ s, s = min (n - p) 30 := ⟨_, rfl⟩
  rw [← hs]
  have key : (s = 30 ∧ 30 < (n : Int) - (p : Int)) ∨ ((n : Int) - (p : Int) = (s : Int) ∧ (s : Int) ≤ 30 ∧ 0 < (s : Int)) := by omega
  clear hs
  rcases key with ⟨rfl, hk⟩ | ⟨hk, hk1, hk2⟩
  · go_enter Tryd.func62, Tryd.ntmps62
    go_wp2_with fail
    refine HL.mono ?_
    rintro e w1 ⟨rfl, m1, rfl⟩
    clear HL
    go_wp2_with fail
    all_goals try (exfalso; omega)
    refine (get_yesM R a cap zs n M v (p : Int) 30 _ hn hM hnM (hb.drewN _) HZ.out (by simpa using c0) (by simpa using c1) (by simpa using c2) (by simpa using f2) (by omega) (by omega) (by omega) (by omega)).mono ?_
    rintro e w2 ⟨rfl, m2, rfl⟩
    go_wp2
    exact bodyPost_ret (v := .tuple #[.int .i64 (v / 2 ^ p % 2 ^ 30 : Nat), .int .i64 30, .nilIface]) (by simp [results, Tryd.results62, go_sem]) rfl ⟨rfl, m1 + m2, by simp⟩
  · rw [hk] at HL
    go_enter Tryd.func62, Tryd.ntmps62
    go_wp2_with fail
    refine HL.mono ?_
    rintro e w1 ⟨rfl, m1, rfl⟩
    clear HL
    go_wp2_with fail
    all_goals try (exfalso; omega)
    refine (get_yesM R a cap zs n M v (p : Int) (s : Int) _ hn hM hnM (hb.drewN _) HZ.out (by simpa using c0) (by simpa using c1) (by simpa using c2) (by simpa using f2) (by omega) (by omega) (by omega) (by omega)).mono ?_
    rintro e w2 ⟨rfl, m2, rfl⟩
    go_wp2
    exact bodyPost_ret (v := .tuple #[.int .i64 (v / 2 ^ p % 2 ^ s : Nat), .int .i64 s, .nilIface]) (by simp [results, Tryd.results62, go_sem]) rfl ⟨rfl, m1 + m2, by simp⟩
end Go.Proofs.YtdhnlbekkicjcaaDoor
