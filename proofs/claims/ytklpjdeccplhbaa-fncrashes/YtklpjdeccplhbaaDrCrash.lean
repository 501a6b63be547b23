/-
  DrawRawCrash of the model: a device and which are kept.
-/
import Derived.Test.YtklpjdeccplhbaaDrKeep
namespace Go.Proofs.Ytklpjdeccplhbaa
open Go.RowKit
set_option linter.unusedVariables false
set_option linter.unusedSimpArgs false

set_option maxRecDepth 20000 in
set_option maxHeartbeats 4000000 in
theorem drawRawCrash_any (a : Option Addr) (bs : List Int) (cap : Nat) (w : World) (hb : Byt w a bs) (hl : bs.length ≤ maxLen) :
    Calls Try.prog 14 #[.slice a bs.length cap] w fun e w' => ∃ (sa : Option Addr) (sc : Nat) (pa : Option Addr) (pc : Nat) (es fs : List El) (ka : Option Addr) (kc : Nat) (ks : List Bool), e = .returned (.tuple #[.agg #[.slice sa es.length sc, .slice pa fs.length pc], .slice ka ks.length kc]) ∧ RawI w' sa pa es fs ∧ Bos w' ka ks ∧ (es.length ≤ 5 ∧ fs.length ≤ 61 ∧ (∀ e ∈ es ++ fs, e.ls.length ≤ 256) ∧ ks.length ≤ 7) ∧ Below w.heap.size w w' := by
  have hw : Below w.heap.size w (w.alloc (Obj.cells #[Value.slice none 0 0, Value.slice none 0 0] 26)) := (Below.refl _ _).alloc (Nat.le_refl _) _
  have HIN0 : Hid (Byt (w.alloc (Obj.cells #[Value.slice none 0 0, Value.slice none 0 0] 26)) a bs) := hb.below hw (Nat.le_refl _)
  have HR : Hid (Box2 (w.alloc (Obj.cells #[Value.slice none 0 0, Value.slice none 0 0] 26)) w.heap.size (.slice none 0 0) (.slice none 0 0) ∧ Below w.heap.size w (w.alloc (Obj.cells #[Value.slice none 0 0, Value.slice none 0 0] 26))) := ⟨Box2.new _ _ _ _, hw⟩
  clear hw hb
  go_enter Try.func14, Try.ntmps14
  go_wp2_with fail
  generalize w.alloc (Obj.cells #[Value.slice none 0 0, Value.slice none 0 0] 26) = W at *
  refine (l1New_any a bs cap W HIN0.out hl).mono ?_
  rintro e w1 ⟨rfl, hd1⟩
  have hR1 := hd1.cur.lt
  have HD1 : Hid (Dr W w1 W.heap.size W.heap.size a bs cap) := hd1
  have HWB : Hid (w.heap.size < W.heap.size) := HR.out.1.lt
  clear hd1 HIN0
  generalize hB : W.heap.size = B at *
  clear hB
  go_wp2_with fail
  refine HD1.out.bent6.mono ?_
  rintro e w2 ⟨⟨sa, sc, pa, pc, es, fs, rfl, hg, h5, h61, h256⟩, hd2, ho2⟩
  have HG2 : Hid (RawG w2 w1.heap.size sa pa es fs ∧ Dr W w2 B B a bs cap ∧ w1.heap.size ≤ w2.heap.size) := ⟨hg, hd2, ho2.size⟩
  have HLL : Hid (es.length ≤ 5 ∧ fs.length ≤ 61 ∧ ∀ e ∈ es ++ fs, e.ls.length ≤ 256) := ⟨h5, h61, h256⟩
  clear hg hd2 ho2 h5 h61 h256 HD1
  go_wp2_with fail
  refine HG2.out.2.1.keep6.mono ?_
  rintro e w3 ⟨⟨v, ks, rfl, hov, h7⟩, hd3, ho3⟩
  obtain ⟨ka, kc, rfl⟩ := hov.form
  have hwB := HWB.out
  have hs12 := HG2.out.2.2
  obtain ⟨r0, r1, r2, r3, rl⟩ := HR.out.1.keep hd3.bel HWB.out
  have hon : Only (fun b => b = w.heap.size) w3 ((w3.setCell ⟨w.heap.size, 0, none⟩ (.slice sa es.length sc)).setCell ⟨w.heap.size, 1, none⟩ (.slice pa fs.length pc)) := ((Only.refl (fun b => b = w.heap.size) w3).setCell (p := ⟨w.heap.size, 0, none⟩) (.inl rfl) _).setCell (p := ⟨w.heap.size, 1, none⟩) (.inl rfl) _
  have HF : Hid (RawI ((w3.setCell ⟨w.heap.size, 0, none⟩ (.slice sa es.length sc)).setCell ⟨w.heap.size, 1, none⟩ (.slice pa fs.length pc)) sa pa es fs ∧ Bos ((w3.setCell ⟨w.heap.size, 0, none⟩ (.slice sa es.length sc)).setCell ⟨w.heap.size, 1, none⟩ (.slice pa fs.length pc)) ka ks ∧ Below w.heap.size w ((w3.setCell ⟨w.heap.size, 0, none⟩ (.slice sa es.length sc)).setCell ⟨w.heap.size, 1, none⟩ (.slice pa fs.length pc))) := by
    refine ⟨((HG2.out.1.stay ho3 (fun k hk e => by omega)).stay hon (fun k hk e => by omega)).inn, ((hov.stay hon (fun k hk e => by omega)).bos).1, ?_⟩
    exact ((HR.out.2.trans (hd3.bel.mono (by omega))).setCell (p := ⟨w.heap.size, 0, none⟩) (by simp) _).setCell (p := ⟨w.heap.size, 1, none⟩) (by simp) _
  clear hov hd3 ho3 hon HG2
  go_wp2
  exact bodyPost_ret (v := .tuple #[.agg #[.slice sa es.length sc, .slice pa fs.length pc], .slice ka ks.length kc]) (by simp [results, Try.results14, go_sem, r0, r1]) rfl ⟨sa, sc, pa, pc, es, fs, ka, kc, ks, rfl, HF.out.1, HF.out.2.1, ⟨HLL.out.1, HLL.out.2.1, by first | exact HLL.out.2.2 | exact fun e he => HLL.out.2.2 e (List.mem_append.2 he), h7⟩, HF.out.2.2⟩
end Go.Proofs.Ytklpjdeccplhbaa
