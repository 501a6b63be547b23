/-
  Lengths as bits: four each, and three behind a nought that tell how many follow.
-/
import Derived.Test.YtkolfmjlkfkleaaDoorWri
import Derived.Test.YtkolfmjlkfkleaaDoorILens
import Derived.Test.YtkolfmjlkfkleaaDoorLPutM
namespace Go.Proofs.YtkolfmjlkfkleaaDoor
open Go.RowKit
set_option linter.unusedVariables false

theorem Ins.drop {w : World} {b off : Nat} {zs : List Int} (h : Ins w (some ⟨b, off, none⟩) zs) (i : Nat) : Ins w (some ⟨b, off + i, none⟩) (zs.drop i) := by
  refine ⟨fun z hz => h.1 z (List.mem_of_mem_drop hz), fun hp => ?_⟩
  rw [List.length_drop] at hp
  obtain ⟨b', o', he, hlt, hc⟩ := h.2 (by omega)
  obtain ⟨rfl, rfl⟩ : b = b' ∧ off = o' := by simpa using he
  refine ⟨b, off + i, rfl, hlt, fun j hj => ?_⟩
  rw [List.length_drop] at hj
  rw [drop_getD, Nat.add_assoc]
  exact hc (i + j) (by omega)

set_option maxHeartbeats 1600000 in
theorem noughts_any (a : Option Addr) (cap : Nat) (l : List Int) (w : World) (hb : Ins w a l) (hn : l.length ≤ 80) :
    Calls Tryd.prog 71 #[.slice a l.length cap] w fun e w' => e = .returned (.int .i64 (nou l : Nat)) ∧ w' = w := by
  have hle := nou_le l
  have HZ : Hid _ := nou_zero l
  have HS : Hid _ := nou_stop l
  generalize hlen : l.length = n at *
  have HL : Hid (l.length = n) := hlen
  clear hlen
  generalize nou l = m at *
  go_enter Tryd.func71, Tryd.ntmps71
  go_wp2
  go_loop [3] (fun i => ∃ k : Nat, k ≤ m ∧ i = .int .i64 k) (fun i => m - (intOf i).toNat)
  case atStart => exact ⟨0, Nat.zero_le _, rfl⟩
  case round =>
    obtain ⟨k, hk, rfl⟩ := hrel
    by_cases hlt : k < n
    · obtain ⟨b1, o1, rfl, hb1, hc1⟩ := hb.len_pos k (by rw [HL.out]; exact hlt)
      have hs1 := hc1 k (by rw [HL.out]; exact hlt)
      by_cases hkm : k < m
      · rw [HZ.out k hkm] at hs1
        clear hc1
        go_wp2
        go_round
        case rel => exact ⟨k + 1, by omega, by go_num⟩
        case measure => simp [intOf]; omega
      · have hke : k = m := by omega
        subst hke
        have hne := HS.out hlt
        generalize l.getD k 0 = x at *
        have hx : (x == 0) = false := by simpa using hne
        clear hc1
        go_wp2
        go_ret
        exact ⟨rfl, rfl⟩
    · have hke : k = m := by omega
      subst hke
      go_wp2
      go_ret
      exact ⟨rfl, rfl⟩
end Go.Proofs.YtkolfmjlkfkleaaDoor
