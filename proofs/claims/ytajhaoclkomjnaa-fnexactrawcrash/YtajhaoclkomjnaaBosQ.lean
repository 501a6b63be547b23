/-
  eqBoolS says yes of the same; markBoolS writes into its row alone.
-/
import Derived.Test.YtajhaoclkomjnaaBosP
namespace Go.Proofs.Ytajhaoclkomjnaa
open Go.RowKit
set_option linter.unusedVariables false

set_option maxHeartbeats 800000 in
theorem eqBoolS_yes (a b : Option Addr) (ca cb : Nat) (xs : List Bool) (w : World) (ha : Bos w a xs) (hb : Bos w b xs) (hx : xs.length ≤ 281474976710656) :
    Calls Try.prog 31 #[.slice a xs.length ca, .slice b xs.length cb] w fun e w' => e = .returned (.bool true) ∧ ∃ n, w' = w.drewN n := by
  have HA : Hid (Bos w a xs ∧ Bos w b xs) := ⟨ha, hb⟩
  clear ha hb
  generalize hlen : xs.length = n at *
  have HL : Hid (xs.length = n ∧ True) := ⟨hlen, trivial⟩
  clear hlen
  have hnn : ((n : Int) != (n : Int)) = false := by simp
  go_enter Try.func31, Try.ntmps31
  go_wp2
  go_loopw [5] (fun i wr => ∃ k m : Nat, k ≤ n ∧ i = .int .i64 k ∧ wr = w.drewN m) (fun i _ => n - (intOf i).toNat)
  case atStart => exact ⟨0, 0, Nat.zero_le _, rfl, rfl⟩
  case round =>
    obtain ⟨k, m, hk, rfl, rfl⟩ := hrel
    by_cases hlt : k < n
    · obtain ⟨b1, o1, rfl, hb1, hs1⟩ := HA.out.1.pos k (by rw [HL.out.1]; exact hlt)
      obtain ⟨b2, o2, rfl, hb2, hs2⟩ := HA.out.2.pos k (by rw [HL.out.1]; exact hlt)
      generalize xs.getD k false = z at *
      have hq : (z != z) = false := by simp
      go_wp2
      go_quiet (fail)
      go_wp2
      go_roundw
      case rel => exact ⟨k + 1, _, by omega, by go_num, rfl⟩
      case measure => simp [intOf]; omega
    · have hkn : k = n := by omega
      subst hkn
      go_wp2
      go_ret
      exact ⟨rfl, _, rfl⟩

set_option maxHeartbeats 800000 in
theorem markBoolS_own (B g cap : Nat) (bs : List Bool) (k : Int) (w : World) (h : OwBo w B g cap bs) (hn : bs.length ≤ 2097152) (h0 : 0 ≤ k) (h1 : k ≤ 2097152) :
    Calls Try.prog 32 #[.slice (some ⟨g, 0, none⟩) bs.length cap, .int .i64 k] w fun e w' => e = .returned (.int .i64 (k + bs.length)) ∧ (∃ cs, cs.length = bs.length ∧ OwBo w' B g cap cs) ∧ Only (· = g) w w' := by
  have HO : Hid (OwBo w B g cap bs) := h
  clear h
  generalize hlen : bs.length = n at *
  have HL : Hid (bs.length = n ∧ True) := ⟨hlen, trivial⟩
  clear hlen
  go_enter Try.func32, Try.ntmps32
  go_wp2
  go_loopw [1, 5] (fun q i wr => ∃ (j : Nat) (cs : List Bool), j ≤ n ∧ i = .int .i64 j ∧ q = .int .i64 (k + j) ∧ cs.length = n ∧ OwBo wr B g cap cs ∧ Only (· = g) w wr) (fun _ i _ => n - (intOf i).toNat)
  case atStart => exact ⟨0, bs, Nat.zero_le _, rfl, by simp, HL.out.1, HO.out, Only.refl _ _⟩
  case round =>
    obtain ⟨j, cs, hj, rfl, rfl, hcl, hown, honly⟩ := hrel
    by_cases hlt : j < n
    · have hdst := hown.cell j (by omega)
      have hfz := hown.frozen j
      have HR : Hid (∀ z : Bool, OwBo (wr.setCell ⟨g, j, none⟩ (.bool z)) B g cap (cs.set j z)) := fun z => hown.store j z
      have HB : Hid (∀ z : Bool, Only (· = g) w (wr.setCell ⟨g, j, none⟩ (.bool z))) := fun z => honly.setCell (.inl rfl) _
      have HCL : Hid (cs.length = n ∧ True) := ⟨hcl, trivial⟩
      generalize cs.getD j false = old at *
      clear hown honly hcl
      go_wp2
      go_roundw
      case rel => exact ⟨j + 1, cs.set j _, by omega, by go_num, by go_num, by rw [List.length_set]; exact HCL.out.1, HR.out _, HB.out _⟩
      case measure => simp [intOf]; omega
    · have hjn : j = n := by omega
      subst hjn
      have HF : Hid (OwBo wr B g cap cs ∧ cs.length = j) := ⟨hown, hcl⟩
      clear hown hcl
      go_wp2
      go_ret
      exact ⟨rfl, ⟨cs, HF.out.2, HF.out.1⟩, honly⟩
end Go.Proofs.Ytajhaoclkomjnaa
