/-
  eqRaw says yes of two devices that say the same.
-/
import Derived.Test.YtihpnijjkjbmlaaGreatDoorDkI2
import Derived.Test.YtihpnijjkjbmlaaGreatDoorPkI
import Derived.Test.YtihpnijjkjbmlaaGreatDoorOps
import Derived.Test.YtihpnijjkjbmlaaGreatDoorElTo
import Derived.Test.YtihpnijjkjbmlaaGreatDoorItSz
import Derived.Test.YtihpnijjkjbmlaaGreatDoorElP
import Derived.Deep.RegionHeld3
namespace Go.Proofs.YtihpnijjkjbmlaaGreatDoor
open Go.RowKit
set_option linter.unusedVariables false
set_option linter.unusedSimpArgs false

theorem mapB_lo {ps : List (Int × Int)} (h : mapB ps = true) (i : Nat) (hi : i < ps.length) : 0 ≤ (ps.getD i dp).1 := by
  unfold mapB at h
  simp only [Bool.and_eq_true] at h
  have h1 := okT_le ps ps.length (i + 1) h.2 hi
  simp only [okT, Bool.and_eq_true] at h1
  have h2 := h1.2
  unfold stpP nwh rgt at h2
  simp only [Bool.or_eq_true, Bool.and_eq_true, beq_iff_eq, decide_eq_true_eq] at h2
  omega

set_option maxRecDepth 20000 in
set_option maxHeartbeats 4000000 in
theorem mapsFit_any (d : DkV) (w : World) (hb : DkI w d) (hd : DkF d) :
    Calls Tryz.prog 25 #[.agg #[Value.slice d.sa d.ss.length d.sc, Value.slice d.pa d.ps.length d.pc, Value.int IntKind.i64 d.E, Value.int IntKind.i64 d.O, Value.slice d.ma d.ms.length d.mc, Value.slice d.va d.vs.length d.vc, Value.slice d.ca d.cs.length d.cc, Value.int IntKind.i64 d.F, Value.int IntKind.i64 d.G, Value.slice d.oa d.os.length d.oc]] w fun r w' => (((mapB d.ms = true ∧ mapB d.vs = true ∧ d.ms.length = d.vs.length ∧ gmB d.ms.length d.ss.length = true ∧ ¬ badP d.ms d.ss.length d.ms.length ∧ ¬ badP d.vs d.ss.length d.vs.length) ∧ r = .returned (.bool true)) ∨ (¬ (mapB d.ms = true ∧ mapB d.vs = true ∧ d.ms.length = d.vs.length ∧ gmB d.ms.length d.ss.length = true ∧ ¬ badP d.ms d.ss.length d.ms.length ∧ ¬ badP d.vs d.ss.length d.vs.length) ∧ r = .returned (.bool false))) ∧ Below w.heap.size w w' := by
  have HW0 : Hid (Below w.heap.size w (w.alloc (Obj.cells #[Value.slice d.sa d.ss.length d.sc, Value.slice d.pa d.ps.length d.pc, Value.int IntKind.i64 d.E, Value.int IntKind.i64 d.O, Value.slice d.ma d.ms.length d.mc, Value.slice d.va d.vs.length d.vc, Value.slice d.ca d.cs.length d.cc, Value.int IntKind.i64 d.F, Value.int IntKind.i64 d.G, Value.slice d.oa d.os.length d.oc] 47))) := (Below.refl _ _).alloc (Nat.le_refl _) _
  have hx0 := Dk10.new w d 47
  generalize hRP : (fun (r : Ending) (w' : World) => (((mapB d.ms = true ∧ mapB d.vs = true ∧ d.ms.length = d.vs.length ∧ gmB d.ms.length d.ss.length = true ∧ ¬ badP d.ms d.ss.length d.ms.length ∧ ¬ badP d.vs d.ss.length d.vs.length) ∧ r = .returned (.bool true)) ∨ (¬ (mapB d.ms = true ∧ mapB d.vs = true ∧ d.ms.length = d.vs.length ∧ gmB d.ms.length d.ss.length = true ∧ ¬ badP d.ms d.ss.length d.ms.length ∧ ¬ badP d.vs d.ss.length d.vs.length) ∧ r = .returned (.bool false))) ∧ Below w.heap.size w w') = RP
  have HNO : Hid (∀ W, ¬ (mapB d.ms = true ∧ mapB d.vs = true ∧ d.ms.length = d.vs.length ∧ gmB d.ms.length d.ss.length = true ∧ ¬ badP d.ms d.ss.length d.ms.length ∧ ¬ badP d.vs d.ss.length d.vs.length) → Below w.heap.size w W → RP (.returned (.bool false)) W) := fun W h hW => by rw [← hRP]; exact ⟨.inr ⟨h, rfl⟩, hW⟩
  have HYES : Hid (∀ W, (mapB d.ms = true ∧ mapB d.vs = true ∧ d.ms.length = d.vs.length ∧ gmB d.ms.length d.ss.length = true ∧ ¬ badP d.ms d.ss.length d.ms.length ∧ ¬ badP d.vs d.ss.length d.vs.length) → Below w.heap.size w W → RP (.returned (.bool true)) W) := fun W h hW => by rw [← hRP]; exact ⟨.inl ⟨h, rfl⟩, hW⟩
  clear hRP
  have HB : Hid (DkI w d) := hb
  have hm1 := hd.ms
  have hm2 := hd.vs
  have hm3 := hd.raw.n
  have H1 := implMapOk_any d.ma d.mc d.ms _ (hb.map.below HW0.out (Nat.le_refl _)) hd.ms
  clear hb hd
  go_enter Tryz.func25, Tryz.ntmps25
  go_wp2_with fail
  generalize (w.alloc (Obj.cells #[Value.slice d.sa d.ss.length d.sc, Value.slice d.pa d.ps.length d.pc, Value.int IntKind.i64 d.E, Value.int IntKind.i64 d.O, Value.slice d.ma d.ms.length d.mc, Value.slice d.va d.vs.length d.vc, Value.slice d.ca d.cs.length d.cc, Value.int IntKind.i64 d.F, Value.int IntKind.i64 d.G, Value.slice d.oa d.os.length d.oc] 47)) = w0 at *
  refine H1.mono ?_
  clear H1
  rintro e w1 ⟨rfl, hb1⟩
  have hx1 := hx0.step hb1
  have HW1 : Hid (Below w.heap.size w w1) := HW0.out.trans (hb1.mono HW0.out.size)
  clear hb1 hx0 HW0
  by_cases g1 : mapB d.ms = true
  rotate_left 1
  · have g' : mapB d.ms = false := by simpa using g1
    rw [g']
    have HF : Hid (RP (.returned (.bool false)) w1) := HNO.out _ (fun h => g1 h.1) HW1.out
    clear HB HNO HYES
    go_wp2
    exact HF.out
  rw [g1]
  obtain ⟨x0, x1, x2, x3, x4, x5, x6, x7, x8, x9, xl⟩ := id hx1
  have H2 := implMapOk_any d.va d.vc d.vs w1 (HB.out.sav.below HW1.out (Nat.le_refl _)) hm2
  go_wp2_with fail
  clear x0 x1 x2 x3 x4 x5 x6 x7 x8 x9 xl
  refine H2.mono ?_
  clear H2
  rintro e w2 ⟨rfl, hb2⟩
  have hx2 := hx1.step hb2
  have HW2 : Hid (Below w.heap.size w w2) := HW1.out.trans (hb2.mono HW1.out.size)
  clear hb2 hx1 HW1
  by_cases g2 : mapB d.vs = true
  rotate_left 1
  · have g' : mapB d.vs = false := by simpa using g2
    rw [g']
    have HF : Hid (RP (.returned (.bool false)) w2) := HNO.out _ (fun h => g2 h.2.1) HW2.out
    clear HB HNO HYES
    go_wp2
    exact HF.out
  rw [g2]
  obtain ⟨x0, x1, x2, x3, x4, x5, x6, x7, x8, x9, xl⟩ := id hx2
  by_cases hlen : d.ms.length = d.vs.length
  rotate_left 1
  · have hlb : ((d.ms.length : Int) != (d.vs.length : Int)) = true := by rw [bne_iff_ne]; omega
    have HF : Hid (RP (.returned (.bool false)) w2) := HNO.out _ (fun h => hlen h.2.2.1) HW2.out
    clear HB HNO HYES hlen
    go_wp2
    exact HF.out
  have HLE : Hid (d.ms.length = d.vs.length ∧ True) := ⟨hlen, trivial⟩
  have hlb : ((d.ms.length : Int) != (d.vs.length : Int)) = false := by rw [bne_eq_false_iff_eq]; omega
  clear hlen
  have H4 := implGeomOk_any d.ms.length d.ss.length w2
  go_wp2_with fail
  refine H4.mono ?_
  clear H4
  rintro e w3 ⟨rfl, rfl⟩
  by_cases g4 : gmB d.ms.length d.ss.length = true
  rotate_left 1
  · have g' : gmB d.ms.length d.ss.length = false := by simpa using g4
    rw [g']
    have HF : Hid (RP (.returned (.bool false)) w3) := HNO.out _ (fun h => g4 h.2.2.2.1) HW2.out
    clear HB HNO HYES
    go_wp2
    exact HF.out
  rw [g4]
  have H5 := hasPlaces_any d.sa d.pa d.sc d.pc d.ss.length d.ps.length d.ma d.mc d.ms w3 hm3 (HB.out.map.below HW2.out (Nat.le_refl _)) hm1
  go_wp2_with fail
  clear x0 x1 x2 x3 x4 x5 x6 x7 x8 x9 xl
  refine H5.mono ?_
  clear H5
  rintro e w5 ⟨h5, hb5⟩
  have hx5 := hx2.step hb5
  have HW5 : Hid (Below w.heap.size w w5) := HW2.out.trans (hb5.mono HW2.out.size)
  clear hb5 hx2 HW2
  rcases h5 with ⟨g5, rfl⟩ | ⟨g5, rfl⟩
  · skip
    have HF : Hid (RP (.returned (.bool false)) w5) := HNO.out _ (fun h => h.2.2.2.2.1 g5) HW5.out
    clear HB HNO HYES g5
    go_wp2
    exact HF.out
  have HG5 : Hid (¬ badP d.ms d.ss.length d.ms.length) := g5
  clear g5
  obtain ⟨x0, x1, x2, x3, x4, x5, x6, x7, x8, x9, xl⟩ := id hx5
  have H6 := hasPlaces_any d.sa d.pa d.sc d.pc d.ss.length d.ps.length d.va d.vc d.vs w5 hm3 (HB.out.sav.below HW5.out (Nat.le_refl _)) hm2
  go_wp2_with fail
  clear x0 x1 x2 x3 x4 x5 x6 x7 x8 x9 xl
  refine H6.mono ?_
  clear H6
  rintro e w6 ⟨h6, hb6⟩
  have hx6 := hx5.step hb6
  have HW6 : Hid (Below w.heap.size w w6) := HW5.out.trans (hb6.mono HW5.out.size)
  clear hb6 hx5 HW5
  rcases h6 with ⟨g6, rfl⟩ | ⟨g6, rfl⟩
  · skip
    have HF : Hid (RP (.returned (.bool false)) w6) := HNO.out _ (fun h => h.2.2.2.2.2 g6) HW6.out
    clear HB HNO HYES g6
    go_wp2
    exact HF.out
  have HF : Hid (RP (.returned (.bool true)) w6) := HYES.out _ ⟨g1, g2, HLE.out.1, g4, HG5.out, g6⟩ HW6.out
  clear HB HNO HYES g6
  go_wp2
  exact HF.out

set_option maxRecDepth 20000 in
set_option maxHeartbeats 4000000 in
theorem openFits_any (f : List Int → Option (List Int)) (hf : DecF f) (d : DkV) (w : World) (hb : DkI w d) (hi : ItI w d.oa d.os) (hd : DkF d) (hS : SentB w) :
    Calls Tryz.prog 27 #[.agg #[Value.slice d.sa d.ss.length d.sc, Value.slice d.pa d.ps.length d.pc, Value.int IntKind.i64 d.E, Value.int IntKind.i64 d.O, Value.slice d.ma d.ms.length d.mc, Value.slice d.va d.vs.length d.vc, Value.slice d.ca d.cs.length d.cc, Value.int IntKind.i64 d.F, Value.int IntKind.i64 d.G, Value.slice d.oa d.os.length d.oc]] w fun r w' => (((PkR f d.F d.G d.os ∧ d.F = 0 ∧ d.G = 0 ∧ ¬ badA d.os d.ms.length d.os.length) ∧ r = .returned (.bool true)) ∨ (¬ (PkR f d.F d.G d.os ∧ d.F = 0 ∧ d.G = 0 ∧ ¬ badA d.os d.ms.length d.os.length) ∧ r = .returned (.bool false))) ∧ Below w.heap.size w w' := by
  have hmf : ∀ (fn : Fn) (first cap : Array Value) (w : World), (Instr.makeFunc fn first cap).run Tryz.prog w = .ok (.func fn first cap) w := fun _ _ _ _ => rfl
  have HW0 : Hid (Below w.heap.size w (w.alloc (Obj.cells #[Value.slice d.sa d.ss.length d.sc, Value.slice d.pa d.ps.length d.pc, Value.int IntKind.i64 d.E, Value.int IntKind.i64 d.O, Value.slice d.ma d.ms.length d.mc, Value.slice d.va d.vs.length d.vc, Value.slice d.ca d.cs.length d.cc, Value.int IntKind.i64 d.F, Value.int IntKind.i64 d.G, Value.slice d.oa d.os.length d.oc] 47))) := (Below.refl _ _).alloc (Nat.le_refl _) _
  have hx0 := Dk10.new w d 47
  generalize hRP : (fun (r : Ending) (w' : World) => (((PkR f d.F d.G d.os ∧ d.F = 0 ∧ d.G = 0 ∧ ¬ badA d.os d.ms.length d.os.length) ∧ r = .returned (.bool true)) ∨ (¬ (PkR f d.F d.G d.os ∧ d.F = 0 ∧ d.G = 0 ∧ ¬ badA d.os d.ms.length d.os.length) ∧ r = .returned (.bool false))) ∧ Below w.heap.size w w') = RP
  have HNO : Hid (∀ W, ¬ (PkR f d.F d.G d.os ∧ d.F = 0 ∧ d.G = 0 ∧ ¬ badA d.os d.ms.length d.os.length) → Below w.heap.size w W → RP (.returned (.bool false)) W) := fun W h hW => by rw [← hRP]; exact ⟨.inr ⟨h, rfl⟩, hW⟩
  have HYES : Hid (∀ W, (PkR f d.F d.G d.os ∧ d.F = 0 ∧ d.G = 0 ∧ ¬ badA d.os d.ms.length d.os.length) → Below w.heap.size w W → RP (.returned (.bool true)) W) := fun W h hW => by rw [← hRP]; exact ⟨.inl ⟨h, rfl⟩, hW⟩
  clear hRP
  have HB : Hid (DkI w d) := hb
  have hm1 := hd.ms
  have hm2 := hd.opn.n
  have H1 := implPackOk_any f hf d.F d.G d.oa d.oc d.os _ (hi.below HW0.out (Nat.le_refl _)) hd.opn.j (hS.below HW0.out)
  clear hb hd hi hS hf
  go_enter Tryz.func27, Tryz.ntmps27
  go_wp2_with fail
  generalize (w.alloc (Obj.cells #[Value.slice d.sa d.ss.length d.sc, Value.slice d.pa d.ps.length d.pc, Value.int IntKind.i64 d.E, Value.int IntKind.i64 d.O, Value.slice d.ma d.ms.length d.mc, Value.slice d.va d.vs.length d.vc, Value.slice d.ca d.cs.length d.cc, Value.int IntKind.i64 d.F, Value.int IntKind.i64 d.G, Value.slice d.oa d.os.length d.oc] 47)) = w0 at *
  refine H1.mono ?_
  clear H1
  rintro e w1 ⟨h1, hb1⟩
  have hx1 := hx0.step hb1
  have HW1 : Hid (Below w.heap.size w w1) := HW0.out.trans (hb1.mono HW0.out.size)
  clear hb1 hx0 HW0
  rcases h1 with ⟨g1, rfl⟩ | ⟨g1, rfl⟩
  rotate_left 1
  · skip
    have HF : Hid (RP (.returned (.bool false)) w1) := HNO.out _ (fun h => g1 h.1) HW1.out
    clear HB HNO HYES g1
    go_wp2
    exact HF.out
  have HG1 : Hid (PkR f d.F d.G d.os) := g1
  clear g1
  obtain ⟨x0, x1, x2, x3, x4, x5, x6, x7, x8, x9, xl⟩ := id hx1
  by_cases hzF : d.F = 0
  rotate_left 1
  · have hzb : (d.F != 0) = true := by rw [bne_iff_ne]; exact hzF
    have HF : Hid (RP (.returned (.bool false)) w1) := HNO.out _ (fun h => hzF h.2.1) HW1.out
    clear HB HNO HYES hzF
    go_wp2
    exact HF.out
  have HZF : Hid (d.F = 0 ∧ True) := ⟨hzF, trivial⟩
  have hzbF : (d.F != 0) = false := by rw [hzF]; rfl
  clear hzF
  by_cases hzG : d.G = 0
  rotate_left 1
  · have hzb : (d.G != 0) = true := by rw [bne_iff_ne]; exact hzG
    have HF : Hid (RP (.returned (.bool false)) w1) := HNO.out _ (fun h => hzG h.2.2.1) HW1.out
    clear HB HNO HYES hzG
    go_wp2
    exact HF.out
  have HZG : Hid (d.G = 0 ∧ True) := ⟨hzG, trivial⟩
  have hzbG : (d.G != 0) = false := by rw [hzG]; rfl
  clear hzG
  have H2 := containsIt_any w.heap.size d.ma d.mc d.ms.length d.oa d.oc d.os w1 x4 xl hm1 (HB.out.opn.below HW1.out (Nat.le_refl _)) hm2
  go_wp2_with fail
  clear x0 x1 x2 x3 x4 x5 x6 x7 x8 x9 xl
  refine H2.mono ?_
  clear H2
  rintro e w2 ⟨h2, hb2⟩
  have hx2 := hx1.step hb2
  have HW2 : Hid (Below w.heap.size w w2) := HW1.out.trans (hb2.mono HW1.out.size)
  clear hb2 hx1 HW1
  rcases h2 with ⟨g2, rfl⟩ | ⟨g2, rfl⟩
  · skip
    have HF : Hid (RP (.returned (.bool false)) w2) := HNO.out _ (fun h => h.2.2.2 g2) HW2.out
    clear HB HNO HYES g2
    go_wp2
    exact HF.out
  have HF : Hid (RP (.returned (.bool true)) w2) := HYES.out _ ⟨HG1.out, HZF.out.1, HZG.out.1, g2⟩ HW2.out
  clear HB HNO HYES g2
  go_wp2
  exact HF.out

theorem DkG.parts {f : List Int → Option (List Int)} {d : DkV} : DkG f d ↔ rok d.ss d.ps = true ∧ (0 ≤ d.E ∧ d.E ≤ 60000) ∧ (0 ≤ d.O ∧ d.O ≤ 60000) ∧ (mapB d.ms = true ∧ mapB d.vs = true ∧ d.ms.length = d.vs.length ∧ gmB d.ms.length d.ss.length = true ∧ ¬ badP d.ms d.ss.length d.ms.length ∧ ¬ badP d.vs d.ss.length d.vs.length) ∧ chK d.cs d.ss.length d.cs.length ∧ (PkR f d.F d.G d.os ∧ d.F = 0 ∧ d.G = 0 ∧ ¬ badA d.os d.ms.length d.os.length) := by
  constructor
  · intro h
    exact ⟨h.raw, h.e, h.o, ⟨h.map, h.sav, h.len, h.geo, fun ⟨i, hi, hn⟩ => hn ⟨mapB_lo h.map i hi, h.pm i hi⟩, fun ⟨i, hi, hn⟩ => hn ⟨mapB_lo h.sav i hi, h.ps i hi⟩⟩, h.ch, h.op, h.f0, h.g0, fun ⟨i, hi, hn⟩ => by have := h.ad i hi; omega⟩
  · rintro ⟨h1, h2, h3, ⟨m1, m2, m3, m4, m5, m6⟩, h5, o1, o2, o3, o4⟩
    refine ⟨h1, m1, m2, m3, m4, fun i hi => ?_, fun i hi => ?_, h2, h3, h5, o1, o2, o3, fun i hi => ?_⟩
    · rcases Int.lt_or_le (d.ms.getD i dp).1 d.ss.length with h | h
      · exact h
      · exact absurd ⟨i, hi, fun h2 => by omega⟩ m5
    · rcases Int.lt_or_le (d.vs.getD i dp).1 d.ss.length with h | h
      · exact h
      · exact absurd ⟨i, hi, fun h2 => by omega⟩ m6
    · rcases Int.lt_or_le (d.os.getD i de).n d.ms.length with h | h
      · exact h
      · exact absurd ⟨i, hi, h⟩ o4

set_option maxRecDepth 20000 in
set_option maxHeartbeats 4000000 in
theorem implDiskOk_any (f : List Int → Option (List Int)) (hf : DecF f) (d : DkV) (w : World) (hb : DkI w d) (hi : ItI w d.oa d.os) (hd : DkF d) (hS : SentB w) :
    Calls Tryz.prog 7 #[.agg #[Value.slice d.sa d.ss.length d.sc, Value.slice d.pa d.ps.length d.pc, Value.int IntKind.i64 d.E, Value.int IntKind.i64 d.O, Value.slice d.ma d.ms.length d.mc, Value.slice d.va d.vs.length d.vc, Value.slice d.ca d.cs.length d.cc, Value.int IntKind.i64 d.F, Value.int IntKind.i64 d.G, Value.slice d.oa d.os.length d.oc]] w (DkA f d w) := by
  unfold DkA
  have HW0 : Hid (Below w.heap.size w (w.alloc (Obj.cells #[Value.slice d.sa d.ss.length d.sc, Value.slice d.pa d.ps.length d.pc, Value.int IntKind.i64 d.E, Value.int IntKind.i64 d.O, Value.slice d.ma d.ms.length d.mc, Value.slice d.va d.vs.length d.vc, Value.slice d.ca d.cs.length d.cc, Value.int IntKind.i64 d.F, Value.int IntKind.i64 d.G, Value.slice d.oa d.os.length d.oc] 47))) := (Below.refl _ _).alloc (Nat.le_refl _) _
  have hx0 := Dk10.new w d 47
  generalize hRP : (fun (r : Ending) (w' : World) => ((DkG f d ∧ r = .returned (.bool true)) ∨ (¬ DkG f d ∧ r = .returned (.bool false))) ∧ Below w.heap.size w w') = RP
  have HNO : Hid (∀ W, ¬ DkG f d → Below w.heap.size w W → RP (.returned (.bool false)) W) := fun W h hW => by rw [← hRP]; exact ⟨.inr ⟨h, rfl⟩, hW⟩
  have HYES : Hid (∀ W, DkG f d → Below w.heap.size w W → RP (.returned (.bool true)) W) := fun W h hW => by rw [← hRP]; exact ⟨.inl ⟨h, rfl⟩, hW⟩
  clear hRP
  have HB : Hid (DkI w d ∧ ItI w d.oa d.os ∧ DkF d ∧ SentB w ∧ DecF f) := ⟨hb, hi, hd, hS, hf⟩
  have H1 := implRawOk_any d.sa d.pa d.sc d.pc d.ss d.ps _ (hb.raw.below HW0.out (Nat.le_refl _)) (by have := hd.raw.n; omega) (by have := hd.raw.m; omega) (fun s hs => by have := hd.raw.l s hs; omega) (fun s hs => by have := hd.raw.p s hs; omega)
  clear hb hd hi hS hf
  go_enter Tryz.func7, Tryz.ntmps7
  go_wp2_with fail
  generalize (w.alloc (Obj.cells #[Value.slice d.sa d.ss.length d.sc, Value.slice d.pa d.ps.length d.pc, Value.int IntKind.i64 d.E, Value.int IntKind.i64 d.O, Value.slice d.ma d.ms.length d.mc, Value.slice d.va d.vs.length d.vc, Value.slice d.ca d.cs.length d.cc, Value.int IntKind.i64 d.F, Value.int IntKind.i64 d.G, Value.slice d.oa d.os.length d.oc] 47)) = w0 at *
  refine H1.mono ?_
  clear H1
  rintro e w1 ⟨rfl, hb1⟩
  have hx1 := hx0.step hb1
  have HW1 : Hid (Below w.heap.size w w1) := HW0.out.trans (hb1.mono HW0.out.size)
  clear hb1 hx0 HW0
  by_cases g1 : rok d.ss d.ps = true
  rotate_left 1
  · have g' : rok d.ss d.ps = false := by simpa using g1
    rw [g']
    have HF : Hid (RP (.returned (.bool false)) w1) := HNO.out _ (fun h => g1 h.raw) HW1.out
    clear HB HNO HYES
    go_wp2
    exact HF.out
  rw [g1]
  obtain ⟨x0, x1, x2, x3, x4, x5, x6, x7, x8, x9, xl⟩ := id hx1
  have HEE := epochOk_any d.E w1
  by_cases gE : 0 ≤ d.E ∧ d.E ≤ 60000
  rotate_left 1
  · rw [decide_eq_false gE] at HEE
    have HF : Hid (RP (.returned (.bool false)) w1) := HNO.out _ (fun h => gE h.e) HW1.out
    clear HB HNO HYES gE
    go_wp2_with fail
    refine HEE.mono ?_
    clear HEE
    rintro e w2 ⟨rfl, rfl⟩
    go_wp2
    exact HF.out
  rw [decide_eq_true gE] at HEE
  have HGE : Hid (0 ≤ d.E ∧ d.E ≤ 60000) := gE
  clear gE
  go_wp2_with fail
  refine HEE.mono ?_
  clear HEE
  rintro e w2 ⟨rfl, rfl⟩
  have HEO := epochOk_any d.O w2
  by_cases gO : 0 ≤ d.O ∧ d.O ≤ 60000
  rotate_left 1
  · rw [decide_eq_false gO] at HEO
    have HF : Hid (RP (.returned (.bool false)) w2) := HNO.out _ (fun h => gO h.o) HW1.out
    clear HB HNO HYES gO
    go_wp2_with fail
    refine HEO.mono ?_
    clear HEO
    rintro e w2 ⟨rfl, rfl⟩
    go_wp2
    exact HF.out
  rw [decide_eq_true gO] at HEO
  have HGO : Hid (0 ≤ d.O ∧ d.O ≤ 60000) := gO
  clear gO
  go_wp2_with fail
  refine HEO.mono ?_
  clear HEO
  rintro e w3 ⟨rfl, rfl⟩
  have H4 := mapsFit_any d _ (HB.out.1.below HW1.out (Nat.le_refl _)) HB.out.2.2.1
  go_wp2_with fail
  clear x0 x1 x2 x3 x4 x5 x6 x7 x8 x9 xl
  refine H4.mono ?_
  clear H4
  rintro e w4 ⟨h4, hb4⟩
  have hx4 := hx1.step hb4
  have HW4 : Hid (Below w.heap.size w w4) := HW1.out.trans (hb4.mono HW1.out.size)
  clear hb4 hx1 HW1
  rcases h4 with ⟨g4, rfl⟩ | ⟨g4, rfl⟩
  rotate_left 1
  · skip
    have HF : Hid (RP (.returned (.bool false)) w4) := HNO.out _ (fun h => g4 (DkG.parts.1 h).2.2.2.1) HW4.out
    clear HB HNO HYES g4
    go_wp2
    exact HF.out
  have HG4 : Hid (mapB d.ms = true ∧ mapB d.vs = true ∧ d.ms.length = d.vs.length ∧ gmB d.ms.length d.ss.length = true ∧ ¬ badP d.ms d.ss.length d.ms.length ∧ ¬ badP d.vs d.ss.length d.vs.length) := g4
  have hn24 : d.ss.length ≤ 24 := by
    have := g4.2.2.2.1
    unfold gmB at this
    have := of_decide_eq_true this
    omega
  clear g4
  obtain ⟨x0, x1, x2, x3, x4, x5, x6, x7, x8, x9, xl⟩ := id hx4
  have H5 := chainFits_any d w4 (HB.out.1.below HW4.out (Nat.le_refl _)) hn24 HB.out.2.2.1.cs
  go_wp2_with fail
  clear x0 x1 x2 x3 x4 x5 x6 x7 x8 x9 xl
  refine H5.mono ?_
  clear H5
  rintro e w5 ⟨h5, hb5⟩
  have hx5 := hx4.step hb5
  have HW5 : Hid (Below w.heap.size w w5) := HW4.out.trans (hb5.mono HW4.out.size)
  clear hb5 hx4 HW4
  rcases h5 with ⟨g5, rfl⟩ | ⟨g5, rfl⟩
  rotate_left 1
  · skip
    have HF : Hid (RP (.returned (.bool false)) w5) := HNO.out _ (fun h => g5 h.ch) HW5.out
    clear HB HNO HYES g5
    go_wp2
    exact HF.out
  have HG5 : Hid (chK d.cs d.ss.length d.cs.length) := g5
  clear g5
  obtain ⟨x0, x1, x2, x3, x4, x5, x6, x7, x8, x9, xl⟩ := id hx5
  have H6 := openFits_any f HB.out.2.2.2.2 d w5 (HB.out.1.below HW5.out (Nat.le_refl _)) (HB.out.2.1.below HW5.out (Nat.le_refl _)) HB.out.2.2.1 (HB.out.2.2.2.1.below HW5.out)
  go_wp2_with fail
  clear x0 x1 x2 x3 x4 x5 x6 x7 x8 x9 xl
  refine H6.mono ?_
  clear H6
  rintro e w6 ⟨h6, hb6⟩
  have hx6 := hx5.step hb6
  have HW6 : Hid (Below w.heap.size w w6) := HW5.out.trans (hb6.mono HW5.out.size)
  clear hb6 hx5 HW5
  rcases h6 with ⟨g6, rfl⟩ | ⟨g6, rfl⟩
  rotate_left 1
  · skip
    have HF : Hid (RP (.returned (.bool false)) w6) := HNO.out _ (fun h => g6 (DkG.parts.1 h).2.2.2.2.2) HW6.out
    clear HB HNO HYES g6
    go_wp2
    exact HF.out
  have HF : Hid (RP (.returned (.bool true)) w6) := HYES.out _ (DkG.parts.2 ⟨g1, HGE.out, HGO.out, HG4.out, HG5.out, g6⟩) HW6.out
  clear HB HNO HYES g6
  go_wp2
  exact HF.out
set_option maxHeartbeats 800000 in
theorem szIntS_left (a : Option Addr) (n cap : Nat) (left : Int) (w : World) (hm : n ≤ maxLen) (h0 : 0 ≤ left) (h1 : left ≤ 1048576) :
    Calls Tryz.prog 11 #[.slice a n cap, .int .i64 left] w fun e w' => (∃ z : Int, e = .returned (.int .i64 z) ∧ (z = -1 ∨ (0 ≤ z ∧ z ≤ left ∧ z + n = left))) ∧ w' = w := by
  unfold maxLen at hm
  by_cases h : (n : Int) ≤ left
  · go_enter Tryz.func11, Tryz.ntmps11
    go_wp2
    go_ret
    exact ⟨⟨left - n, by go_num, .inr ⟨by omega, by omega, by omega⟩⟩, rfl⟩
  · go_enter Tryz.func11, Tryz.ntmps11
    go_wp2
    go_ret
    exact ⟨⟨-1, rfl, .inl rfl⟩, rfl⟩

set_option maxHeartbeats 800000 in
theorem szPlaceS_left (a : Option Addr) (n cap : Nat) (left : Int) (w : World) (hm : n ≤ maxLen) (h0 : 0 ≤ left) (h1 : left ≤ 1048576) :
    Calls Tryz.prog 34 #[.slice a n cap, .int .i64 left] w fun e w' => (∃ z : Int, e = .returned (.int .i64 z) ∧ (z = -1 ∨ (0 ≤ z ∧ z ≤ left ∧ z + n = left))) ∧ w' = w := by
  unfold maxLen at hm
  by_cases h : (n : Int) ≤ left
  · go_enter Tryz.func34, Tryz.ntmps34
    go_wp2
    go_ret
    exact ⟨⟨left - n, by go_num, .inr ⟨by omega, by omega, by omega⟩⟩, rfl⟩
  · go_enter Tryz.func34, Tryz.ntmps34
    go_wp2
    go_ret
    exact ⟨⟨-1, rfl, .inl rfl⟩, rfl⟩

set_option maxHeartbeats 800000 in
theorem szMap_left (a : Option Addr) (n cap : Nat) (left : Int) (w : World) (hm : n ≤ maxLen) (h0 : 0 ≤ left) (h1 : left ≤ 1048576) :
    Calls Tryz.prog 10 #[.agg #[.slice a n cap], .int .i64 left] w fun e w' => (∃ z : Int, e = .returned (.int .i64 z) ∧ (z = -1 ∨ (0 ≤ z ∧ z ≤ left ∧ z + n = left))) ∧ Below w.heap.size w w' := by
  have hw : Below w.heap.size w (w.alloc (Obj.cells #[Value.slice a n cap] 28)) := (Below.refl _ _).alloc (Nat.le_refl _) _
  have HS := szPlaceS_left a n cap left (w.alloc (Obj.cells #[Value.slice a n cap] 28)) hm h0 h1
  clear hm
  go_enter Tryz.func10, Tryz.ntmps10
  go_wp2_with fail
  refine HS.mono ?_
  clear HS
  rintro e w1 ⟨⟨z, rfl, hz⟩, rfl⟩
  rcases hz with rfl | ⟨hz0, hz1, hz2⟩
  · go_wp2
    go_ret
    exact ⟨⟨-1, rfl, .inl rfl⟩, hw⟩
  · have HZ : Hid (z + (n : Int) = left ∧ True) := ⟨hz2, trivial⟩
    clear hz2
    go_wp2
    go_ret
    exact ⟨⟨z, rfl, .inr ⟨hz0, hz1, HZ.out.1⟩⟩, hw⟩

set_option maxHeartbeats 1600000 in
theorem szRaw_left (sa pa : Option Addr) (sc pc : Nat) (ss ps : List El) (w : World) (hb : RawI w sa pa ss ps) (hm1 : ss.length ≤ maxLen) (hm2 : ps.length ≤ maxLen) :
    Calls Tryz.prog 9 #[.agg #[.slice sa ss.length sc, .slice pa ps.length pc], .int .i64 1048576] w fun e w' => (∃ z : Int, e = .returned (.int .i64 z) ∧ (z = -1 ∨ (0 ≤ z ∧ z ≤ 1048576 ∧ z + ss.length + elets ss + ps.length + elets ps = 1048576))) ∧ Below w.heap.size w w' := by
  have HB : Hid (RawI w sa pa ss ps) := hb
  have HM : Hid (ss.length ≤ maxLen ∧ ps.length ≤ maxLen) := ⟨hm1, hm2⟩
  unfold maxLen at hm1 hm2
  clear hb
  go_enter Tryz.func9, Tryz.ntmps9
  go_wp2_with fail
  have hw : Below w.heap.size w (w.alloc (Obj.cells #[Value.slice sa ss.length sc, Value.slice pa ps.length pc] 25)) := (Below.refl _ _).alloc (Nat.le_refl _) _
  refine (szByteSS_any sa sc ss 1048576 _ (HB.out.1.below hw (Nat.le_refl _)) HM.out.1 (by omega) (by omega)).mono ?_
  rintro e w1 ⟨⟨z, rfl, hz⟩, rfl⟩
  rcases hz with rfl | ⟨hz0, hz1, hz2⟩
  · go_wp2
    go_ret
    exact ⟨⟨-1, rfl, .inl rfl⟩, hw⟩
  · have HZ : Hid (z + (ss.length : Int) + elets ss = 1048576 ∧ True) := ⟨hz2, trivial⟩
    clear hz2
    go_wp2_with fail
    refine (szPendS_any pa pc ps z _ (HB.out.2.below hw (Nat.le_refl _)) HM.out.2 hz0 hz1).mono ?_
    rintro e w2 ⟨⟨y, rfl, hy⟩, hb2⟩
    have HB2 : Hid (Below w.heap.size w w2) := hw.trans (hb2.mono (by simp))
    clear hw hb2
    rcases hy with rfl | ⟨hy0, hy1, hy2⟩
    · go_wp2
      go_ret
      exact ⟨⟨-1, rfl, .inl rfl⟩, HB2.out⟩
    · have HF : Hid (y ≤ 1048576 ∧ y + (ss.length : Int) + elets ss + ps.length + elets ps = 1048576) := by
        have := HZ.out.1
        exact ⟨by omega, by omega⟩
      clear hy2 HZ
      go_wp2
      go_ret
      exact ⟨⟨y, rfl, .inr ⟨hy0, HF.out⟩⟩, HB2.out⟩

set_option maxRecDepth 20000 in
set_option maxHeartbeats 4000000 in
theorem szDisk_any (d : DkV) (w : World) (hb : DkI w d) (hm : DkM d) :
    Calls Tryz.prog 4 #[.agg #[Value.slice d.sa d.ss.length d.sc, Value.slice d.pa d.ps.length d.pc, Value.int IntKind.i64 d.E, Value.int IntKind.i64 d.O, Value.slice d.ma d.ms.length d.mc, Value.slice d.va d.vs.length d.vc, Value.slice d.ca d.cs.length d.cc, Value.int IntKind.i64 d.F, Value.int IntKind.i64 d.G, Value.slice d.oa d.os.length d.oc], .int .i64 1048576] w fun e w' => (∃ z : Int, e = .returned (.int .i64 z) ∧ (z = -1 ∨ (0 ≤ z ∧ DkF d))) ∧ Below w.heap.size w w' := by
  have hw : Below w.heap.size w (w.alloc (Obj.cells #[Value.slice d.sa d.ss.length d.sc, Value.slice d.pa d.ps.length d.pc, Value.int IntKind.i64 d.E, Value.int IntKind.i64 d.O, Value.slice d.ma d.ms.length d.mc, Value.slice d.va d.vs.length d.vc, Value.slice d.ca d.cs.length d.cc, Value.int IntKind.i64 d.F, Value.int IntKind.i64 d.G, Value.slice d.oa d.os.length d.oc] 34)) := (Below.refl _ _).alloc (Nat.le_refl _) _
  have hx := Dk10.new w d 34
  have H1 := szRaw_left d.sa d.pa d.sc d.pc d.ss d.ps _ (hb.raw.below hw (Nat.le_refl _)) hm.ss hm.ps
  have HB : Hid (DkI w d ∧ DkM d) := ⟨hb, hm⟩
  clear hb hm
  go_enter Tryz.func4, Tryz.ntmps4
  go_wp2_with fail
  generalize w.alloc (Obj.cells #[Value.slice d.sa d.ss.length d.sc, Value.slice d.pa d.ps.length d.pc, Value.int IntKind.i64 d.E, Value.int IntKind.i64 d.O, Value.slice d.ma d.ms.length d.mc, Value.slice d.va d.vs.length d.vc, Value.slice d.ca d.cs.length d.cc, Value.int IntKind.i64 d.F, Value.int IntKind.i64 d.G, Value.slice d.oa d.os.length d.oc] 34) = W0 at *
  refine H1.mono ?_
  clear H1
  rintro e w1 ⟨⟨z1, rfl, hz1⟩, hb1⟩
  have HW1 : Hid (Below w.heap.size w w1) := hw.trans (hb1.mono hw.size)
  have hx1 := hx.step hb1
  clear hb1 hw hx
  rcases hz1 with rfl | hz1
  · go_wp2
    go_ret
    exact ⟨⟨-1, rfl, .inl rfl⟩, HW1.out⟩
  have hzn1 : ¬ z1 < 0 := by omega
  obtain ⟨x0, x1, x2, x3, x4, x5, x6, x7, x8, x9, xl⟩ := id hx1
  have H2 := szMap_left d.ma d.ms.length d.mc z1 w1 HB.out.2.ms hz1.1 (by omega)
  go_wp2_with fail
  refine H2.mono ?_
  clear H2
  rintro e w2 ⟨⟨z2, rfl, hz2⟩, hb2⟩
  have HW2 : Hid (Below w.heap.size w w2) := HW1.out.trans (hb2.mono HW1.out.size)
  have hx2 := hx1.step hb2
  clear hb2 HW1 hx1
  clear x0 x1 x2 x3 x4 x5 x6 x7 x8 x9 xl
  rcases hz2 with rfl | hz2
  · go_wp2
    go_ret
    exact ⟨⟨-1, rfl, .inl rfl⟩, HW2.out⟩
  have hzn2 : ¬ z2 < 0 := by omega
  obtain ⟨x0, x1, x2, x3, x4, x5, x6, x7, x8, x9, xl⟩ := id hx2
  have H3 := szMap_left d.va d.vs.length d.vc z2 w2 HB.out.2.vs hz2.1 (by omega)
  go_wp2_with fail
  refine H3.mono ?_
  clear H3
  rintro e w3 ⟨⟨z3, rfl, hz3⟩, hb3⟩
  have HW3 : Hid (Below w.heap.size w w3) := HW2.out.trans (hb3.mono HW2.out.size)
  have hx3 := hx2.step hb3
  clear hb3 HW2 hx2
  clear x0 x1 x2 x3 x4 x5 x6 x7 x8 x9 xl
  rcases hz3 with rfl | hz3
  · go_wp2
    go_ret
    exact ⟨⟨-1, rfl, .inl rfl⟩, HW3.out⟩
  have hzn3 : ¬ z3 < 0 := by omega
  obtain ⟨x0, x1, x2, x3, x4, x5, x6, x7, x8, x9, xl⟩ := id hx3
  have H4 := szIntS_left d.ca d.cs.length d.cc z3 w3 HB.out.2.cs hz3.1 (by omega)
  go_wp2_with fail
  refine H4.mono ?_
  clear H4
  rintro e w4 ⟨⟨z4, rfl, hz4⟩, rfl⟩
  rcases hz4 with rfl | hz4
  · go_wp2
    go_ret
    exact ⟨⟨-1, rfl, .inl rfl⟩, HW3.out⟩
  have hzn4 : ¬ z4 < 0 := by omega
  have H5 := szPack_any d.F d.G d.oa d.oc d.os _ (HB.out.1.opn.below HW3.out (Nat.le_refl _)) HB.out.2.os z4 hz4.1 (by omega)
  go_wp2_with fail
  refine H5.mono ?_
  clear H5
  rintro e w5 ⟨⟨z5, rfl, hz5⟩, hb5⟩
  have HW5 : Hid (Below w.heap.size w w5) := HW3.out.trans (hb5.mono HW3.out.size)
  have hx5 := hx3.step hb5
  clear hb5 HW3 hx3
  clear x0 x1 x2 x3 x4 x5 x6 x7 x8 x9 xl
  rcases hz5 with rfl | hz5
  · go_wp2
    go_ret
    exact ⟨⟨-1, rfl, .inl rfl⟩, HW5.out⟩
  have hzn5 : ¬ z5 < 0 := by omega
  have HF : Hid (DkF d) := DkF.mk' (by unfold dkN; omega)
  have h50 := hz5.1
  clear hz1 hz2 hz3 hz4 hz5
  go_wp2
  go_ret
  exact ⟨⟨z5, rfl, .inr ⟨h50, HF.out⟩⟩, HW5.out⟩
theorem below_dE {w W : World} {B : Nat} (h : Below B w W) (n : Nat) : Below B w (W.drewN n) := ⟨h.os, h.tape, h.output, h.size, h.block⟩

set_option maxHeartbeats 1600000 in
theorem eqByteSS_yes (a b : Option Addr) (ca cb : Nat) (ss ts : List El) (w : World) (ha : Els false w a ss) (hb : Els false w b ts) (hct : ss.map El.ct = ts.map El.ct) (hx : ss.length ≤ 281474976710656) (hxl : ∀ s ∈ ss, s.ls.length ≤ 281474976710656) :
    Calls Tryz.prog 50 #[.slice a ss.length ca, .slice b ss.length cb] w fun e w' => e = .returned (.bool true) ∧ Below w.heap.size w w' := by
  have htl : ts.length = ss.length := by have := congrArg List.length hct; simpa using this.symm
  have HA : Hid (Els false w a ss) := ha
  have HB : Hid (Els false w b ts) := hb
  have HCT : Hid (ss.map El.ct = ts.map El.ct ∧ ts.length = ss.length) := ⟨hct, htl⟩
  have HXL : Hid (∀ s ∈ ss, s.ls.length ≤ 281474976710656) := hxl
  clear ha hb hct htl hxl
  generalize hlen : ss.length = n at *
  have HL : Hid (ss.length = n ∧ True) := ⟨hlen, trivial⟩
  clear hlen
  have hnn : ((n : Int) != (n : Int)) = false := by simp
  go_enter Tryz.func50, Tryz.ntmps50
  go_wp2
  go_loopw [5] (fun i wr => ∃ k : Nat, k ≤ n ∧ i = .int .i64 k ∧ Below w.heap.size w wr) (fun i _ => n - (intOf i).toNat)
  case atStart => exact ⟨0, Nat.zero_le _, rfl, Below.refl _ _⟩
  case round =>
    obtain ⟨k, hk, rfl, hbel⟩ := hrel
    by_cases hlt : k < n
    · obtain ⟨b1, o1, rfl, hb1, c0, hy1, -⟩ := (HA.out.below hbel (Nat.le_refl _)).sec k (by rw [HL.out.1]; exact hlt)
      obtain ⟨b2, o2, rfl, hb2, d0, hy2, -⟩ := (HB.out.below hbel (Nat.le_refl _)).sec k (by rw [HCT.out.2]; exact hlt)
      have hml := HXL.out _ (getD_memE (k := k) (by rw [HL.out.1]; exact hlt))
      have hce := ctE_get HCT.out.1 k
      generalize ss.getD k de = s at *
      generalize ts.getD k de = t at *
      obtain ⟨sn, sa, sc, sl⟩ := s
      obtain ⟨tn, ta, tc, tl⟩ := t
      simp only [El.ct, Prod.mk.injEq] at hce
      obtain ⟨rfl, rfl⟩ := hce
      simp only at c0 d0 hy1 hy2 hml
      have HY1 : Hid (Byt wr sa sl) := hy1
      have HY2 : Hid (Byt wr ta sl) := hy2
      have HML : Hid (sl.length ≤ 281474976710656) := hml
      have HC : Hid (wr.cell? ⟨b1, o1 + k, none⟩ = some (.slice sa sl.length sc) ∧ wr.cell? ⟨b2, o2 + k, none⟩ = some (.slice ta sl.length tc)) := ⟨c0, d0⟩
      clear hy1 hy2 hml c0 d0
      go_wp2_with fail
      go_region_held3 (fun W => W.cell? ⟨b1, o1 + k, none⟩ = some (.slice sa sl.length sc) ∧ W.cell? ⟨b2, o2 + k, none⟩ = some (.slice ta sl.length tc))
        (first | exact HC.out | exact HC8.out)
        (first
          | (go_at_call 68; refine (eqByteS_yes sa ta sc tc sl _ (by exact HY1.out) (by exact HY2.out) HML.out).mono ?_; rintro e w8 ⟨rfl, n8, hw8⟩; have HB8 : Hid (Below w.heap.size w w8) := (by rw [hw8]; exact below_dE (below_dE hbel 1) n8); have HC8 : Hid (w8.cell? ⟨b1, o1 + k, none⟩ = some (.slice sa sl.length sc) ∧ w8.cell? ⟨b2, o2 + k, none⟩ = some (.slice ta sl.length tc)) := (by rw [hw8]; exact HC.out); clear hw8))
      clear HC HC8
      go_wp2
      go_roundw
      case rel => exact ⟨k + 1, by omega, by go_num, HB8.out⟩
      case measure => simp [intOf]; omega
    · have hkn : k = n := by omega
      subst hkn
      go_wp2
      go_ret
      exact ⟨rfl, hbel⟩

set_option maxHeartbeats 800000 in
theorem eqPend_yes (a b : Option Addr) (ca cb : Nat) (xs : List Int) (n : Int) (w : World) (ha : Byt w a xs) (hb : Byt w b xs) (hx : xs.length ≤ 281474976710656) :
    Calls Tryz.prog 69 #[.agg #[.int .i64 n, .slice a xs.length ca], .agg #[.int .i64 n, .slice b xs.length cb]] w fun e w' => e = .returned (.bool true) ∧ Below w.heap.size w w' := by
  have hw : Below w.heap.size w ((w.alloc (Obj.cells #[Value.int IntKind.i64 n, Value.slice a xs.length ca] 79)).alloc (Obj.cells #[Value.int IntKind.i64 n, Value.slice b xs.length cb] 79)) := ((Below.refl _ _).alloc (Nat.le_refl _) _).alloc (by simp) _
  have hnn : (n != n) = false := by simp
  go_enter Tryz.func69, Tryz.ntmps69
  go_wp2_with fail
  refine (eqByteS_yes a b ca cb xs _ (ha.below hw (Nat.le_refl _)) (hb.below hw (Nat.le_refl _)) hx).mono ?_
  rintro e w1 ⟨rfl, nq, rfl⟩
  go_wp2
  go_ret
  exact ⟨rfl, below_dE hw _⟩

set_option maxHeartbeats 1600000 in
theorem eqPendS_yes (a b : Option Addr) (ca cb : Nat) (ss ts : List El) (w : World) (ha : Els true w a ss) (hb : Els true w b ts) (hct : ss.map El.ct = ts.map El.ct) (hx : ss.length ≤ 281474976710656) (hxl : ∀ s ∈ ss, s.ls.length ≤ 281474976710656) :
    Calls Tryz.prog 51 #[.slice a ss.length ca, .slice b ss.length cb] w fun e w' => e = .returned (.bool true) ∧ Below w.heap.size w w' := by
  have htl : ts.length = ss.length := by have := congrArg List.length hct; simpa using this.symm
  have HA : Hid (Els true w a ss) := ha
  have HB : Hid (Els true w b ts) := hb
  have HCT : Hid (ss.map El.ct = ts.map El.ct ∧ ts.length = ss.length) := ⟨hct, htl⟩
  have HXL : Hid (∀ s ∈ ss, s.ls.length ≤ 281474976710656) := hxl
  clear ha hb hct htl hxl
  generalize hlen : ss.length = n at *
  have HL : Hid (ss.length = n ∧ True) := ⟨hlen, trivial⟩
  clear hlen
  have hnn : ((n : Int) != (n : Int)) = false := by simp
  go_enter Tryz.func51, Tryz.ntmps51
  go_wp2
  go_loopw [5] (fun i wr => ∃ k : Nat, k ≤ n ∧ i = .int .i64 k ∧ Below w.heap.size w wr) (fun i _ => n - (intOf i).toNat)
  case atStart => exact ⟨0, Nat.zero_le _, rfl, Below.refl _ _⟩
  case round =>
    obtain ⟨k, hk, rfl, hbel⟩ := hrel
    by_cases hlt : k < n
    · obtain ⟨b1, o1, rfl, hb1, c0, c1, hy1, -⟩ := (HA.out.below hbel (Nat.le_refl _)).pen k (by rw [HL.out.1]; exact hlt)
      obtain ⟨b2, o2, rfl, hb2, d0, d1, hy2, -⟩ := (HB.out.below hbel (Nat.le_refl _)).pen k (by rw [HCT.out.2]; exact hlt)
      have hml := HXL.out _ (getD_memE (k := k) (by rw [HL.out.1]; exact hlt))
      have hce := ctE_get HCT.out.1 k
      generalize ss.getD k de = s at *
      generalize ts.getD k de = t at *
      obtain ⟨sn, sa, sc, sl⟩ := s
      obtain ⟨tn, ta, tc, tl⟩ := t
      simp only [El.ct, Prod.mk.injEq] at hce
      obtain ⟨rfl, rfl⟩ := hce
      simp only at c0 c1 d0 d1 hy1 hy2 hml
      have HY1 : Hid (Byt wr sa sl) := hy1
      have HY2 : Hid (Byt wr ta sl) := hy2
      have HML : Hid (sl.length ≤ 281474976710656) := hml
      have HC : Hid (wr.cell? ⟨b1, o1 + k * 2, none⟩ = some (.int .i64 sn) ∧ wr.cell? ⟨b1, o1 + k * 2 + 1, none⟩ = some (.slice sa sl.length sc) ∧ wr.cell? ⟨b2, o2 + k * 2, none⟩ = some (.int .i64 sn) ∧ wr.cell? ⟨b2, o2 + k * 2 + 1, none⟩ = some (.slice ta sl.length tc)) := ⟨c0, c1, d0, d1⟩
      clear hy1 hy2 hml c0 c1 d0 d1
      go_wp2_with fail
      go_region_held3 (fun W => W.cell? ⟨b1, o1 + k * 2, none⟩ = some (.int .i64 sn) ∧ W.cell? ⟨b1, o1 + k * 2 + 1, none⟩ = some (.slice sa sl.length sc) ∧ W.cell? ⟨b2, o2 + k * 2, none⟩ = some (.int .i64 sn) ∧ W.cell? ⟨b2, o2 + k * 2 + 1, none⟩ = some (.slice ta sl.length tc))
        (first | exact HC.out | exact HC8.out)
        (first
          | (go_at_call 69; refine (eqPend_yes sa ta sc tc sl sn _ (by exact HY1.out) (by exact HY2.out) HML.out).mono ?_; rintro e w8 ⟨rfl, hb8'⟩; have HB8 : Hid (Below w.heap.size w w8) := hbel.trans ((Below.drewS hb8').mono hbel.size); have HC8 : Hid (w8.cell? ⟨b1, o1 + k * 2, none⟩ = some (.int .i64 sn) ∧ w8.cell? ⟨b1, o1 + k * 2 + 1, none⟩ = some (.slice sa sl.length sc) ∧ w8.cell? ⟨b2, o2 + k * 2, none⟩ = some (.int .i64 sn) ∧ w8.cell? ⟨b2, o2 + k * 2 + 1, none⟩ = some (.slice ta sl.length tc)) := ⟨keep (Below.drewS hb8') hb1 HC.out.1, keep (Below.drewS hb8') hb1 HC.out.2.1, keep (Below.drewS hb8') hb2 HC.out.2.2.1, keep (Below.drewS hb8') hb2 HC.out.2.2.2⟩; clear hb8'))
      clear HC HC8
      go_wp2
      go_roundw
      case rel => exact ⟨k + 1, by omega, by go_num, HB8.out⟩
      case measure => simp [intOf]; omega
    · have hkn : k = n := by omega
      subst hkn
      go_wp2
      go_ret
      exact ⟨rfl, hbel⟩

set_option maxHeartbeats 1600000 in
theorem eqRaw_yes (sa pa ta qa : Option Addr) (sc pc tc qc : Nat) (ss ps ts qs : List El) (w : World) (ha : RawI w sa pa ss ps) (hb : RawI w ta qa ts qs) (h1 : ss.map El.ct = ts.map El.ct) (h2 : ps.map El.ct = qs.map El.ct) (hx : Few ss ps) :
    Calls Tryz.prog 28 #[.agg #[.slice sa ss.length sc, .slice pa ps.length pc], .agg #[.slice ta ss.length tc, .slice qa ps.length qc]] w fun e w' => e = .returned (.bool true) ∧ Below w.heap.size w w' := by
  have HA : Hid (RawI w sa pa ss ps ∧ RawI w ta qa ts qs) := ⟨ha, hb⟩
  have HC : Hid (ss.map El.ct = ts.map El.ct ∧ ps.map El.ct = qs.map El.ct) := ⟨h1, h2⟩
  have HX : Hid (Few ss ps) := hx
  clear ha hb h1 h2 hx
  go_enter Tryz.func28, Tryz.ntmps28
  have hw : Below w.heap.size w ((w.alloc (Obj.cells #[Value.slice sa ss.length sc, Value.slice pa ps.length pc] 39)).alloc (Obj.cells #[Value.slice ta ss.length tc, Value.slice qa ps.length qc] 39)) := ((Below.refl _ _).alloc (Nat.le_refl _) _).alloc (by simp) _
  have hx0 : Box2 ((w.alloc (Obj.cells #[Value.slice sa ss.length sc, Value.slice pa ps.length pc] 39)).alloc (Obj.cells #[Value.slice ta ss.length tc, Value.slice qa ps.length qc] 39)) w.heap.size (.slice sa ss.length sc) (.slice pa ps.length pc) := (Box2.new w _ _ 39).alloc _
  have hx1 : Box2 ((w.alloc (Obj.cells #[Value.slice sa ss.length sc, Value.slice pa ps.length pc] 39)).alloc (Obj.cells #[Value.slice ta ss.length tc, Value.slice qa ps.length qc] 39)) (w.heap.size + 1) (.slice ta ss.length tc) (.slice qa ps.length qc) := by
    have h9 := Box2.new (w.alloc (Obj.cells #[Value.slice sa ss.length sc, Value.slice pa ps.length pc] 39)) (.slice ta ss.length tc) (.slice qa ps.length qc) 39
    simpa using h9
  go_wp2_with fail
  have hsz : w.heap.size + 1 + 1 = ((w.alloc (Obj.cells #[Value.slice sa ss.length sc, Value.slice pa ps.length pc] 39)).alloc (Obj.cells #[Value.slice ta ss.length tc, Value.slice qa ps.length qc] 39)).heap.size := by simp
  generalize (w.alloc (Obj.cells #[Value.slice sa ss.length sc, Value.slice pa ps.length pc] 39)).alloc (Obj.cells #[Value.slice ta ss.length tc, Value.slice qa ps.length qc] 39) = W at *
  refine (eqByteSS_yes sa ta sc tc ss ts W (HA.out.1.1.below hw (Nat.le_refl _)) (HA.out.2.1.below hw (Nat.le_refl _)) HC.out.1 (by have := HX.out.n; omega) (fun s hs => by have := HX.out.l s hs; omega)).mono ?_
  rintro e w1 ⟨rfl, hb1⟩
  have hy0 := hx0.keep hb1 hx0.lt
  have hy1 := hx1.keep hb1 hx1.lt
  have HB1 : Hid (Below w.heap.size w w1) := hw.trans (hb1.mono hw.size)
  clear hb1 hw hx0 hx1 hsz
  obtain ⟨r0, r1, -, -, rl⟩ := hy0
  obtain ⟨s0, s1, -, -, sl⟩ := hy1
  go_wp2_with fail
  refine (eqPendS_yes pa qa pc qc ps qs w1 (HA.out.1.2.below HB1.out (Nat.le_refl _)) (HA.out.2.2.below HB1.out (Nat.le_refl _)) HC.out.2 (by have := HX.out.m; omega) (fun s hs => by have := HX.out.p s hs; omega)).mono ?_
  rintro e w2 ⟨rfl, hb2⟩
  have HB2 : Hid (Below w.heap.size w w2) := HB1.out.trans (hb2.mono HB1.out.size)
  clear hb2
  go_wp2
  go_ret
  exact ⟨rfl, HB2.out⟩
end Go.Proofs.YtihpnijjkjbmlaaGreatDoor
