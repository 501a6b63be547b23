/-
  HuffGet of the model, where its arguments are right.
-/
import Derived.Test.YtpmagpjiacpheaaDoorHGet7
import Derived.Test.YtpmagpjiacpheaaDoorILens2
import Derived.Test.YtpmagpjiacpheaaDoorOkS
namespace Go.Proofs.YtpmagpjiacpheaaDoor
open Go.RowKit
set_option linter.unusedVariables false

set_option maxRecDepth 20000 in
set_option maxHeartbeats 4000000 in
theorem specHuffGet_ok (a : Option Addr) (ca : Nat) (ls : List Int) (x : Option Addr) (cx : Nat) (zs : List Int) (n p N : Nat) (w : World) (ha : Ins w a ls) (hx : Byt w x zs) (hlb : lensB ls = true) (hO : okB (n : Int) zs = true) (hz : zs = enc n (val zs)) (hn : n ≤ 4096) (hp : p ≤ n) (hN : N ≤ 300) :
    Calls Tryd.prog 26 #[.slice a ls.length ca, .agg #[.slice x zs.length cx, .int .i64 n], .int .i64 p, .int .i64 N] w fun e w' => Below w.heap.size w w' ∧
      ((∃ q E u, q.length = N ∧ Reads ls (crun ls (sbL ls 12)).2.2 n (val zs) p q E ∧ OVI w' w.heap.size u q ∧ e = .returned (.tuple #[u, .int .i64 (E : Nat), .bool true])) ∨
       (∃ q E, q.length < N ∧ Reads ls (crun ls (sbL ls 12)).2.2 n (val zs) p q E ∧ NoHit ls (crun ls (sbL ls 12)).2.2 (val zs) E (min 12 (n - E)) ∧ e = .returned (.tuple #[.slice none 0 0, .int .i64 (-1), .bool false]))) := by
  have hw : Below w.heap.size w (w.alloc (Obj.cells #[Value.slice x zs.length cx, Value.int IntKind.i64 n] 33)) := (Below.refl _ _).alloc (Nat.le_refl _) _
  have hll : ls.length ≤ 80 := by
    simp only [lensB, decide_eq_true_eq] at hlb
    exact hlb.2.1
  have hzl : zs.length ≤ 600 := by rw [hz, enc_len]; omega
  have HT := specLens_any a ca ls _ (ha.below hw (Nat.le_refl _)) (by omega)
  have HK := specOk_any x cx zs (n : Int) _ (hx.below hw (Nat.le_refl _)) (by omega)
  rw [hlb] at HT
  rw [hO] at HK
  have HZ : Hid (zs = enc n (val zs)) := hz
  have r0 : (w.alloc (Obj.cells #[Value.slice x zs.length cx, Value.int IntKind.i64 n] 33)).cell? ⟨w.heap.size, 0, none⟩ = some (.slice x zs.length cx) := by simp
  have r1 : (w.alloc (Obj.cells #[Value.slice x zs.length cx, Value.int IntKind.i64 n] 33)).cell? ⟨w.heap.size, 1, none⟩ = some (.int .i64 n) := by simp
  have HSZ : Hid (w.heap.size < (w.alloc (Obj.cells #[Value.slice x zs.length cx, Value.int IntKind.i64 n] 33)).heap.size) := by simp [Hid]
  clear hz hlb hO
  go_enter Tryd.func26, Tryd.ntmps26
  go_wp2_with fail
  generalize w.alloc (Obj.cells #[Value.slice x zs.length cx, Value.int IntKind.i64 n] 33) = W at *
  refine HT.mono ?_
  rintro e w1 ⟨rfl, rfl⟩
  clear HT
  go_wp2_with fail
  refine HK.mono ?_
  rintro e w2 ⟨rfl, hb2⟩
  clear HK
  have c0 := keep hb2 HSZ.out r0
  have c1 := keep hb2 HSZ.out r1
  have HB2 : Hid (Below w.heap.size w w2) := hw.trans (hb2.mono (Nat.le_of_lt HSZ.out))
  have HG := l2get_any a ca ls x cx zs n (val zs) p N w2 (ha.below HB2.out (Nat.le_refl _)) (hx.below HB2.out (Nat.le_refl _)) HZ.out (by omega) hp hll hN
  clear hb2 r0 r1 hw ha hx
  go_wp2_with fail
  refine HG.mono ?_
  clear HG
  rintro e w3 ⟨hb3, ⟨q, E, u, h1, h2, h3, rfl⟩ | ⟨q, E, h1, h2, h3, rfl⟩⟩
  · have H1 : Hid (q.length = N ∧ Reads ls (crun ls (sbL ls 12)).2.2 n (val zs) p q E ∧ OVI w3 w.heap.size u q) := ⟨h1, h2, h3.weak HB2.out.size⟩
    have H3 : Hid (Below w.heap.size w w3) := HB2.out.trans (hb3.mono HB2.out.size)
    clear h1 h2 h3 hb3
    go_wp2
    refine bodyPost_ret (v := .tuple #[u, .int .i64 (E : Nat), .bool true]) (by simp [results, Tryd.results26, go_sem]) rfl ?_
    exact ⟨H3.out, .inl ⟨q, E, u, H1.out.1, H1.out.2.1, H1.out.2.2, rfl⟩⟩
  · have H1 : Hid (q.length < N ∧ Reads ls (crun ls (sbL ls 12)).2.2 n (val zs) p q E ∧ NoHit ls (crun ls (sbL ls 12)).2.2 (val zs) E (min 12 (n - E))) := ⟨h1, h2, h3⟩
    have H3 : Hid (Below w.heap.size w w3) := HB2.out.trans (hb3.mono HB2.out.size)
    clear h1 h2 h3 hb3
    go_wp2
    refine bodyPost_ret (v := .tuple #[.slice none 0 0, .int .i64 (-1), .bool false]) (by simp [results, Tryd.results26, go_sem]) rfl ?_
    exact ⟨H3.out, .inr ⟨q, E, H1.out.1, H1.out.2.1, H1.out.2.2, rfl⟩⟩
end Go.Proofs.YtpmagpjiacpheaaDoor
