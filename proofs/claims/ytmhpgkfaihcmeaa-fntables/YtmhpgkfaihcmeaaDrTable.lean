/-
  DrawTable of the model.
-/
import Derived.Test.YtmhpgkfaihcmeaaDrShB
namespace Go.Proofs.Ytmhpgkfaihcmeaa
open Go.RowKit
set_option linter.unusedVariables false

theorem drawTable_any (a : Option Addr) (bs : List Int) (cap : Nat) (w : World) (hb : Byt w a bs) (hl : bs.length ≤ maxLen) :
    Calls Try.prog 9 #[.slice a bs.length cap] w fun e w' => ∃ (v : Value) (l : List Int), e = .returned v ∧ OVI w' w.heap.size v l ∧ l.length ≤ 81 ∧ Below w.heap.size w w' := by
  go_enter Try.func9, Try.ntmps9
  go_wp2_with fail
  refine (l1New_any a bs cap w hb hl).mono ?_
  rintro e w1 ⟨rfl, hd1⟩
  have HD1 : Hid (Dr w w1 w.heap.size w.heap.size a bs cap) := hd1
  have hz := hd1.cur.lt.2
  clear hd1
  go_wp2_with fail
  refine HD1.out.bent.mono ?_
  rintro e w2 ⟨v, l, rfl, hov, hll, hd2, ho2⟩
  have HOV : Hid (OVI w2 w1.heap.size v l) := hov
  have HB : Hid (Below w.heap.size w w2) := hd2.bel
  obtain ⟨av, cv, rfl⟩ := hov.form
  clear hov hd2 ho2 HD1
  go_wp2
  go_ret
  refine ⟨_, l, rfl, ?_, hll, HB.out⟩
  have h1 := HOV.out
  refine ⟨⟨h1.1.1, ?_⟩, h1.2⟩
  rcases h1.1.2 with h' | ⟨g, c, cur, h', hg, r⟩
  · exact .inl h'
  · exact .inr ⟨g, c, cur, h', by omega, r⟩
end Go.Proofs.Ytmhpgkfaihcmeaa
