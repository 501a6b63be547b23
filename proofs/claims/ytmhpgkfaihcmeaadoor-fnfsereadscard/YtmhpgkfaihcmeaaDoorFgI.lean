/-
  FseGet of the program.
-/
import Derived.Test.YtmhpgkfaihcmeaaDoorFg4
import Derived.Test.YtmhpgkfaihcmeaaDoorOkI
import Derived.Test.YtmhpgkfaihcmeaaDoorOk2
namespace Go.Proofs.YtmhpgkfaihcmeaaDoor
open Go.RowKit
set_option linter.unusedVariables false

def fgArgs (ls : List Int) (N s : Int) (zs : List Int) : Prop := normB ls = true ∧ okB N zs = true ∧ 0 ≤ s ∧ s ≤ 300

set_option maxHeartbeats 4000000 in
theorem implFseGet_no (a : Option Addr) (ca : Nat) (ls : List Int) (x : Option Addr) (cx : Nat) (zs : List Int) (N s : Int) (w : World) (ha : Ins w a ls) (hx : Byt w x zs) (hl1 : ls.length ≤ 281474976710656) (hl : zs.length ≤ 281474976710656) (h : ¬ fgArgs ls N s zs) :
    Calls Tryd.prog 9 #[.slice a ls.length ca, .agg #[.slice x zs.length cx, .int .i64 N], .int .i64 s] w fun e w' =>
      e = .returned (.tuple #[.slice none 0 0, .bool false]) ∧ Below w.heap.size w w' := by
  have hw : Below w.heap.size w (w.alloc (Obj.cells #[Value.slice x zs.length cx, Value.int IntKind.i64 N] 27)) := (Below.refl _ _).alloc (Nat.le_refl _) _
  have HT := implNormOk_any a ca ls _ (ha.below hw (Nat.le_refl _)) hl1
  cases hlb : normB ls with
  | false =>
    rw [hlb] at HT
    clear hlb h
    go_enter Tryd.func9, Tryd.ntmps9
    go_wp2_with fail
    refine HT.mono ?_
    clear HT
    rintro e w1 ⟨rfl, rfl⟩
    go_wp2
    go_ret2
    exact ⟨rfl, hw⟩
  | true =>
    have key : okB N zs = false ∨ (okB N zs = true ∧ s < 0) ∨ (okB N zs = true ∧ 0 ≤ s ∧ 300 < s) := by
      cases hO : okB N zs with
      | false => exact .inl rfl
      | true =>
        right
        unfold fgArgs at h
        rw [hO, hlb] at h
        simp only [true_and] at h ⊢
        omega
    rw [hlb] at HT
    clear h hlb
    rcases key with hO | ⟨hO, g1⟩ | ⟨hO, g1, g2⟩
    all_goals
      have HO : Hid (_ ∧ True) := ⟨hO, trivial⟩
      clear hO
      go_enter Tryd.func9, Tryd.ntmps9
      go_wp2_with fail
      refine HT.mono ?_
      clear HT
      rintro e w0 ⟨rfl, rfl⟩
      go_wp2_with fail
      refine (implOk_any x cx zs _ _ (hx.below hw (Nat.le_refl _)) hl).mono ?_
      rintro e w1 ⟨rfl, hb1⟩
      rw [HO.out.1]
      have hbb := hw.trans (hb1.mono (by simp))
      clear hb1
      go_wp2
      go_ret2
      exact ⟨rfl, hbb⟩

set_option maxHeartbeats 4000000 in
theorem implFseGet_ok (a : Option Addr) (ca : Nat) (ls : List Int) (x : Option Addr) (cx : Nat) (zs : List Int) (N n : Nat) (T : List Int) (w : World) (ha : Ins w a ls) (hx : Byt w x zs) (hz : zs = enc N (val zs)) (hN : N ≤ 4096) (hn : n ≤ 300) (hnb : normB ls = true) (hO : okB (N : Int) zs = true) (hTe : tb (pl (fl 0 ls) (plc 64)) ls 64 = T) (hS : SentF w) :
    Calls Tryd.prog 9 #[.slice a ls.length ca, .agg #[.slice x zs.length cx, .int .i64 N], .int .i64 n] w fun e w' => Below w.heap.size w w' ∧
      (fgB T (val zs) N n = false → e = .returned (.tuple #[.slice none 0 0, .bool false])) ∧
      (fgB T (val zs) N n = true → ∃ g, e = .returned (.tuple #[.slice (some ⟨g, 0, none⟩) n n, .bool true]) ∧ OwI w' w.heap.size g n (so T (val zs) (N - 6) n)) := by
  have hw : Below w.heap.size w (w.alloc (Obj.cells #[Value.slice x zs.length cx, Value.int IntKind.i64 N] 27)) := (Below.refl _ _).alloc (Nat.le_refl _) _
  have hbd := normB_bnd hnb
  have hzl : zs.length ≤ 600 := by rw [hz, enc_len]; omega
  have HT := implNormOk_any a ca ls _ (ha.below hw (Nat.le_refl _)) (by omega)
  rw [hnb] at HT
  have HPK : Hid (zs = enc N (val zs) ∧ okB (N : Int) zs = true ∧ tb (pl (fl 0 ls) (plc 64)) ls 64 = T ∧ normB ls = true) := ⟨hz, hO, hTe, hnb⟩
  clear hz hO hTe hnb
  go_enter Tryd.func9, Tryd.ntmps9
  go_wp2_with fail
  refine HT.mono ?_
  clear HT
  rintro e w0 ⟨rfl, rfl⟩
  go_wp2_with fail
  refine (implOk_any x cx zs _ _ (hx.below hw (Nat.le_refl _)) (by omega)).mono ?_
  rintro e w1 ⟨rfl, hb1⟩
  rw [HPK.out.2.1]
  have hbb := hw.trans (hb1.mono (by simp))
  have q0 : w1.cell? ⟨w.heap.size, 0, none⟩ = some (.slice x zs.length cx) := keep hb1 (by simp) (by simp)
  have q1 : w1.cell? ⟨w.heap.size, 1, none⟩ = some (.int .i64 N) := keep hb1 (by simp) (by simp)
  have HL := wholeText_any a ca ls x cx zs N (val zs) n T w1 (ha.below hbb (Nat.le_refl _)) (hx.below hbb (Nat.le_refl _)) HPK.out.1 hN hn HPK.out.2.2.2 HPK.out.2.2.1 (hS.below hbb)
  have HB1 : Hid (Below w.heap.size w w1 ∧ True) := ⟨hbb, trivial⟩
  clear hb1 hw hbb
  go_wp2_with fail
  refine HL.mono ?_
  clear HL
  rintro e w2 ⟨hb2, ⟨hf, T', y, rfl⟩ | ⟨hf, g, rfl, how⟩⟩
  · have HF : Hid (Below w.heap.size w w2 ∧ fgB T (val zs) N n = false) := ⟨HB1.out.1.trans (hb2.mono HB1.out.1.size), hf⟩
    clear hf hb2
    go_wp2
    go_ret2
    exact ⟨HF.out.1, fun _ => rfl, fun h => by rw [HF.out.2] at h; simp at h⟩
  · have HF : Hid (Below w.heap.size w w2 ∧ fgB T (val zs) N n = true ∧ OwI w2 w1.heap.size g n (so T (val zs) (N - 6) n)) := ⟨HB1.out.1.trans (hb2.mono HB1.out.1.size), hf, how⟩
    clear hf hb2 how
    go_wp2
    go_ret2
    exact ⟨HF.out.1, fun h => by rw [HF.out.2.1] at h; simp at h, fun _ => ⟨g, rfl, HF.out.2.2.mono HB1.out.1.size⟩⟩

end Go.Proofs.YtmhpgkfaihcmeaaDoor
