/-
  Bytes as strings: when two rows of bytes are one string.
-/
import Derived.Test.YtjeippleimlljaaGreatDoorRp4
import Derived.Defers
import Derived.Recover
import Derived.Test.YtjeippleimlljaaGreatDoorRp2
import Derived.Lib.Bytes
namespace Go.Proofs.YtjeippleimlljaaGreatDoor
open Go.RowKit
set_option linter.unusedVariables false
set_option linter.unusedSimpArgs false

theorem catchP_panicking (p q : Nat) (x0 x1 x2 y : Value) (u : TypeId) (pv : Value) (older : List PanicEntry) (w : World) (hp : Box3 w p x0 x1 x2) (hq : w.cell? ⟨q, 0, none⟩ = some y) (hz : w.frozen? ⟨q, 0, none⟩ = false) (hne : ¬ q = p) :
    CallsD Tryz.prog 14 #[.pointer (some ⟨p, 0, none⟩), .pointer (some ⟨q, 0, none⟩)] (.panicking ({ v := .iface u pv, recovered := false } :: older)) w fun e u' w' =>
      e = .returned (.tuple #[]) ∧ u' = .panicking ({ v := .iface u pv, recovered := true } :: older) ∧ w' = (((w.setCell ⟨p, 0, none⟩ (.int .i64 0)).setCell ⟨p, 1, none⟩ (.int .i64 0)).setCell ⟨p, 2, none⟩ (.slice none 0 0)).setCell ⟨q, 0, none⟩ (.bool false) := by
  obtain ⟨c0, c1, c2, f0, f1, f2, pl⟩ := hp
  refine callsD_of_wpS Tryz.func14 rfl fun c₀ cs hu => ?_
  apply wpS_seq
  apply wpS_region
  simp [wpOpsS, go_sem, recoverD, hu, Tryz.ntmps14, Exit.thenS]
  refine wpS_cond (t := true) (by simp [Act.eval, Array.replicate]) ?_
  simp only [if_true]
  apply wpS_region
  simp [wpOpsS, go_sem, c0, c1, c2, f0, f1, f2, hq, hz, hne, bodyPostS, results, Tryz.results14]

theorem catchP_idle (p q : Nat) (w : World) :
    CallsD Tryz.prog 14 #[.pointer (some ⟨p, 0, none⟩), .pointer (some ⟨q, 0, none⟩)] .returning w fun e u' w' => e = .returned (.tuple #[]) ∧ u' = .returning ∧ w' = w := by
  refine callsD_of_wpS Tryz.func14 rfl fun c₀ cs hu => ?_
  apply wpS_seq
  apply wpS_region
  simp [wpOpsS, go_sem, recoverD, hu, Tryz.ntmps14, Exit.thenS]
  refine wpS_cond (t := false) (by simp [Act.eval, Array.replicate]) ?_
  simp only [Bool.false_eq_true, if_false]
  refine wpS_of_wp (wp_skip ?_)
  cases c₀
  simp_all [bodyPostS, results, Tryz.results14]

/-- What PackRead answers. -/
def PrA (f : List Int → Option (List Int)) (zs : List Int) (w : World) (r : Ending) (w' : World) : Prop :=
  ((PrG f zs ∧ ∃ v fs, r = .returned (.tuple #[.agg #[.int .i64 (rpE zs), .int .i64 (rpO zs), v], .bool true]) ∧ CopT w' w.heap.size v fs (itL zs (rpM zs) (rpM zs))) ∨ (¬ PrG f zs ∧ r = .returned (.tuple #[.agg #[.int .i64 0, .int .i64 0, .slice none 0 0], .bool false]))) ∧ Below w.heap.size w w'

set_option maxRecDepth 20000 in
set_option maxHeartbeats 8000000 in
theorem implPackRead_any (f : List Int → Option (List Int)) (hf : DecF f) (a : Option Addr) (cap : Nat) (zs : List Int) (w : World) (hb : Byt w a zs) (hm : zs.length ≤ 281474976710656) (hc : zs.length ≤ cap) (hc2 : cap ≤ 281474976710656) (hS : SentR w) :
    Calls Tryz.prog 6 #[.slice a zs.length cap] w (PrA f zs w) := by
  have hmf : ∀ (fn : Fn) (first cap : Array Value) (w : World), (Instr.makeFunc fn first cap).run Tryz.prog w = .ok (.func fn first cap) w := fun _ _ _ _ => rfl
  have hw0 : Below w.heap.size w (w.alloc (Obj.cells #[Value.int IntKind.i64 0, Value.int IntKind.i64 0, Value.slice none 0 0] 25)) := (Below.refl _ _).alloc (Nat.le_refl _) _
  have hw : Below w.heap.size w ((w.alloc (Obj.cells #[Value.int IntKind.i64 0, Value.int IntKind.i64 0, Value.slice none 0 0] 25)).alloc (Obj.cells #[Value.bool false] 4)) := hw0.alloc (by simp) _
  have hP := (Box3.new w (.int .i64 0) (.int .i64 0) (.slice none 0 0) 25).alloc (Obj.cells #[Value.bool false] 4)
  have q0 : ((w.alloc (Obj.cells #[Value.int IntKind.i64 0, Value.int IntKind.i64 0, Value.slice none 0 0] 25)).alloc (Obj.cells #[Value.bool false] 4)).cell? ⟨w.heap.size + 1, 0, none⟩ = some (.bool false) := by simp
  have q1 : ((w.alloc (Obj.cells #[Value.int IntKind.i64 0, Value.int IntKind.i64 0, Value.slice none 0 0] 25)).alloc (Obj.cells #[Value.bool false] 4)).frozen? ⟨w.heap.size + 1, 0, none⟩ = false := by simp
  have hsz : ((w.alloc (Obj.cells #[Value.int IntKind.i64 0, Value.int IntKind.i64 0, Value.slice none 0 0] 25)).alloc (Obj.cells #[Value.bool false] 4)).heap.size = w.heap.size + 1 + 1 := by simp
  by_cases h256 : zs.length = 256
  rotate_left 1
  · obtain ⟨T, x, g0⟩ := (hS.below hw).sz
    have HF : Hid (PrA f zs w (.returned (.tuple #[.agg #[.int .i64 0, .int .i64 0, .slice none 0 0], .bool false])) ((((((w.alloc (Obj.cells #[Value.int IntKind.i64 0, Value.int IntKind.i64 0, Value.slice none 0 0] 25)).alloc (Obj.cells #[Value.bool false] 4)).setCell ⟨w.heap.size, 0, none⟩ (.int .i64 0)).setCell ⟨w.heap.size, 1, none⟩ (.int .i64 0)).setCell ⟨w.heap.size, 2, none⟩ (.slice none 0 0)).setCell ⟨w.heap.size + 1, 0, none⟩ (.bool false))) := ⟨.inr ⟨fun h => h256 h.len, rfl⟩, (((hw.setCell (by simp) _).setCell (by simp) _).setCell (by simp) _).setCell (by simp) _⟩
    obtain ⟨c0, c1, c2, f0, f1, f2, pl⟩ := id hP
    clear hb hS hw0 hsz
    go_enter_defers Tryz.func6, Tryz.ntmps6
    go_wp2
    generalize (w.alloc (Obj.cells #[Value.int IntKind.i64 0, Value.int IntKind.i64 0, Value.slice none 0 0] 25)).alloc (Obj.cells #[Value.bool false] 4) = W at *
    refine leaves_cons (f := 14) (args := #[.pointer (some ⟨w.heap.size, 0, none⟩), .pointer (some ⟨w.heap.size + 1, 0, none⟩)]) (by simp) (by simp [go_sem]) ?_
    refine (catchP_panicking w.heap.size (w.heap.size + 1) _ _ _ _ T x [] W hP q0 q1 (by omega)).mono ?_
    rintro e u' w'' ⟨rfl, rfl, rfl⟩
    simp [Leaves, settle, results, Tryz.results6, go_sem, c0, c1, c2, q0]
    exact HF.out
  · obtain ⟨b, o, rfl, hbl, hz⟩ := hb.2 (by omega)
    have key : ∀ (W : World) (v : Value) (T : TypeId), (W.alloc (Obj.cells #[v] T)).cell? ⟨W.heap.size, 0, none⟩ = some v ∧ (W.alloc (Obj.cells #[v] T)).frozen? ⟨W.heap.size, 0, none⟩ = false := fun W v T => ⟨by simp, by simp⟩
    have k2 := key ((w.alloc (Obj.cells #[Value.int IntKind.i64 0, Value.int IntKind.i64 0, Value.slice none 0 0] 25)).alloc (Obj.cells #[Value.bool false] 4)) (Value.slice (some ⟨b, o, none⟩) 256 cap) 43
    rw [hsz] at k2
    have hR : PrR (((w.alloc (Obj.cells #[Value.int IntKind.i64 0, Value.int IntKind.i64 0, Value.slice none 0 0] 25)).alloc (Obj.cells #[Value.bool false] 4)).alloc (Obj.cells #[Value.slice (some ⟨b, o, none⟩) 256 cap] 43)) (w.heap.size + 1 + 1) b o zs.length cap 0 := ⟨⟨o, by rw [h256]; exact k2.1, fun _ => rfl⟩, k2.2, by simp, Nat.zero_le _, hc⟩
    have hw2 : Below w.heap.size w (((w.alloc (Obj.cells #[Value.int IntKind.i64 0, Value.int IntKind.i64 0, Value.slice none 0 0] 25)).alloc (Obj.cells #[Value.bool false] 4)).alloc (Obj.cells #[Value.slice (some ⟨b, o, none⟩) 256 cap] 43)) := hw.alloc (by simp; omega) _
    have hB : PrB (((w.alloc (Obj.cells #[Value.int IntKind.i64 0, Value.int IntKind.i64 0, Value.slice none 0 0] 25)).alloc (Obj.cells #[Value.bool false] 4)).alloc (Obj.cells #[Value.slice (some ⟨b, o, none⟩) 256 cap] 43)) (w.heap.size + 1 + 1) b o zs := ⟨fun i hi => keep hw2 hbl (hz i hi), hb.1, by omega, by have := hw2.size; omega⟩
    have H1 := pack_any f hf (w.heap.size + 1 + 1) b o cap zs w _ hR hB h256 hc2 hS hw2 (by omega)
    have hP2 := hP.alloc (Obj.cells #[Value.slice (some ⟨b, o, none⟩) 256 cap] 43)
    have q02 := keepA (Obj.cells #[Value.slice (some ⟨b, o, none⟩) 256 cap] 43) (by simp) q0
    have q12 : (((w.alloc (Obj.cells #[Value.int IntKind.i64 0, Value.int IntKind.i64 0, Value.slice none 0 0] 25)).alloc (Obj.cells #[Value.bool false] 4)).alloc (Obj.cells #[Value.slice (some ⟨b, o, none⟩) 256 cap] 43)).frozen? ⟨w.heap.size + 1, 0, none⟩ = false := (((Below.refl _ _).alloc (Nat.le_refl _) _).frozen (p := ⟨w.heap.size + 1, 0, none⟩) (by simp)).trans q1
    have HW2 : Hid (Below w.heap.size w (((w.alloc (Obj.cells #[Value.int IntKind.i64 0, Value.int IntKind.i64 0, Value.slice none 0 0] 25)).alloc (Obj.cells #[Value.bool false] 4)).alloc (Obj.cells #[Value.slice (some ⟨b, o, none⟩) 256 cap] 43)) ∧ (((w.alloc (Obj.cells #[Value.int IntKind.i64 0, Value.int IntKind.i64 0, Value.slice none 0 0] 25)).alloc (Obj.cells #[Value.bool false] 4)).alloc (Obj.cells #[Value.slice (some ⟨b, o, none⟩) 256 cap] 43)).heap.size = w.heap.size + 1 + 1 + 1) := ⟨hw2, by simp⟩
    clear hb hS hw0 hsz hw hR hB hw2 hP q0 q1 hz key k2
    go_enter_defers Tryz.func6, Tryz.ntmps6
    go_wp2_with fail
    generalize ((w.alloc (Obj.cells #[Value.int IntKind.i64 0, Value.int IntKind.i64 0, Value.slice none 0 0] 25)).alloc (Obj.cells #[Value.bool false] 4)).alloc (Obj.cells #[Value.slice (some ⟨b, o, none⟩) 256 cap] 43) = W at *
    refine H1.mono ?_
    clear H1
    rintro e w1 ⟨h1, ho1⟩
    have hP3 := hP2.only ho1 (by omega)
    have q03 := ho1.cell (by have := HW2.out.2; omega) (by omega) q02
    have q13 := (frozO ho1 (b := w.heap.size + 1) (o := 0) (by have := HW2.out.2; omega) (by omega)).trans q12
    have hbw : Below w.heap.size w w1 := HW2.out.1.trans (ho1.below HW2.out.1.size (fun k hk => by omega))
    obtain ⟨c0, c1, c2, f0, f1, f2, pl⟩ := id hP3
    have HSZ : Hid (W.heap.size = w.heap.size + 1 + 1 + 1 ∧ W.heap.size ≤ w1.heap.size) := ⟨HW2.out.2, ho1.size⟩
    clear ho1 hP2 q02 q12 HW2
    rcases h1 with ⟨hG, v, fs, rfl, hcop⟩ | ⟨hG, T, x, rfl⟩
    rotate_left 1
    · have HF : Hid (PrA f zs w (.returned (.tuple #[.agg #[.int .i64 0, .int .i64 0, .slice none 0 0], .bool false])) ((((w1.setCell ⟨w.heap.size, 0, none⟩ (.int .i64 0)).setCell ⟨w.heap.size, 1, none⟩ (.int .i64 0)).setCell ⟨w.heap.size, 2, none⟩ (.slice none 0 0)).setCell ⟨w.heap.size + 1, 0, none⟩ (.bool false))) := ⟨.inr ⟨hG, rfl⟩, (((hbw.setCell (by simp) _).setCell (by simp) _).setCell (by simp) _).setCell (by simp) _⟩
      clear hbw
      go_wp2
      refine leaves_cons (f := 14) (args := #[.pointer (some ⟨w.heap.size, 0, none⟩), .pointer (some ⟨w.heap.size + 1, 0, none⟩)]) (by simp) (by simp [go_sem]) ?_
      refine (catchP_panicking w.heap.size (w.heap.size + 1) _ _ _ _ T x [] w1 hP3 q03 q13 (by omega)).mono ?_
      rintro e u' w'' ⟨rfl, rfl, rfl⟩
      simp [Leaves, settle, results, Tryz.results6, go_sem, c0, c1, c2, q03]
      exact HF.out
    · obtain ⟨va, vc, rfl⟩ := hcop.row.form
      obtain ⟨E, hE⟩ : ∃ y, rpE zs = y := ⟨_, rfl⟩
      obtain ⟨O, hO⟩ : ∃ y, rpO zs = y := ⟨_, rfl⟩
      have hon : Only (fun k => k = w.heap.size ∨ k = w.heap.size + 1) w1 ((((w1.setCell ⟨w.heap.size, 0, none⟩ (.int .i64 E)).setCell ⟨w.heap.size, 1, none⟩ (.int .i64 O)).setCell ⟨w.heap.size, 2, none⟩ (.slice va fs.length vc)).setCell ⟨w.heap.size + 1, 0, none⟩ (.bool true)) :=
        ((((Only.refl _ w1).setCell (p := ⟨w.heap.size, 0, none⟩) (.inl (.inl rfl)) _).setCell (p := ⟨w.heap.size, 1, none⟩) (.inl (.inl rfl)) _).setCell (p := ⟨w.heap.size, 2, none⟩) (.inl (.inl rfl)) _).setCell (p := ⟨w.heap.size + 1, 0, none⟩) (.inl (.inr rfl)) _
      have HF : Hid (PrA f zs w (.returned (.tuple #[.agg #[.int .i64 E, .int .i64 O, .slice va fs.length vc], .bool true])) ((((w1.setCell ⟨w.heap.size, 0, none⟩ (.int .i64 E)).setCell ⟨w.heap.size, 1, none⟩ (.int .i64 O)).setCell ⟨w.heap.size, 2, none⟩ (.slice va fs.length vc)).setCell ⟨w.heap.size + 1, 0, none⟩ (.bool true))) :=
        ⟨.inl ⟨hG, .slice va fs.length vc, fs, by rw [hE, hO], (hcop.stay hon (fun k hk e => by have := HSZ.out; omega)).weak (by have := HSZ.out; omega)⟩, hbw.trans (hon.below hbw.size (fun k hk => by omega))⟩
      rw [hE, hO]
      clear hbw hon hcop hG hE hO
      go_wp2
      refine leaves_cons (f := 14) (args := #[.pointer (some ⟨w.heap.size, 0, none⟩), .pointer (some ⟨w.heap.size + 1, 0, none⟩)]) (by simp) (by simp [go_sem]) ?_
      refine (catchP_idle w.heap.size (w.heap.size + 1) _).mono ?_
      rintro e u' w'' ⟨rfl, rfl, rfl⟩
      simp [Leaves, settle, results, Tryz.results6, go_sem, c0, c1, c2, q03]
      exact HF.out
end Go.Proofs.YtjeippleimlljaaGreatDoor
namespace Go.Proofs.YtjeippleimlljaaGreatDoor
open Go.RowKit
set_option linter.unusedVariables false
set_option linter.unusedSimpArgs false

theorem conv_bytes8 (w : World) (a : Option Addr) (c : Nat) (zs : List Int) (hb : Byt w a zs) : (convert 22 9 (.slice a zs.length c)).run Tryz.prog w = .ok (.string (strOfNums zs)) w := by
  rcases Nat.eq_zero_or_pos zs.length with h0 | h0
  · obtain rfl : zs = [] := List.eq_nil_of_length_eq_zero h0
    cases a with
    | none => exact run_convert_bytes_nil (P := Tryz.prog) w 22 5 Tryz.underlying22 Tryz.underlying5 0 c 9 Tryz.underlying9
    | some x =>
      show (convert 22 9 (.slice (some x) 0 c)).run Tryz.prog w = _
      rw [run_convert_bytes_string w 22 9 5 _ _ c Tryz.underlying22 Tryz.underlying5 Tryz.underlying9, run_bytesToString w x 0 c [] (by simp [loadCells, loadCellsFrom])]
      rfl
  · obtain ⟨b, off, rfl, _, hc⟩ := hb.2 h0
    exact run_convert_bytes_arg (P := Tryz.prog) w 22 5 Tryz.underlying22 Tryz.underlying5 b off zs.length c zs rfl hc 9 Tryz.underlying9

/-- What a comparison of two rows of bytes says. -/
def sm8 (zs ys : List Int) : Bool := (strOfNums zs).toList == (strOfNums ys).toList
theorem ofNat_inj8 {a b : Int} (ha : 0 ≤ a ∧ a ≤ 255) (hb : 0 ≤ b ∧ b ≤ 255) (h : UInt8.ofNat a.toNat = UInt8.ofNat b.toNat) : a = b := by
  have h1 := congrArg UInt8.toNat h
  simp only [UInt8.toNat_ofNat'] at h1
  omega
theorem sm8_head {zs ys : List Int} (hz : ∀ z ∈ zs, 0 ≤ z ∧ z ≤ 255) (hy : ∀ z ∈ ys, 0 ≤ z ∧ z ≤ 255) (h : sm8 zs ys = true) : zs.getD 0 0 = ys.getD 0 0 := by
  unfold sm8 at h
  rw [Lib.strOfNums_toList, Lib.strOfNums_toList, beq_iff_eq] at h
  unfold Lib.bytesOf at h
  cases zs with
  | nil =>
    have : ys = [] := by simpa using h.symm
    rw [this]
  | cons x xs =>
    cases ys with
    | nil => simp at h
    | cons y ys =>
      simp only [List.map_cons, List.cons.injEq] at h
      exact ofNat_inj8 (hz x (by simp)) (hy y (by simp)) h.1
theorem ofNats_inj8 : ∀ {zs ys : List Int}, (∀ z ∈ zs, 0 ≤ z ∧ z ≤ 255) → (∀ z ∈ ys, 0 ≤ z ∧ z ≤ 255) → zs.map (fun a => UInt8.ofNat a.toNat) = ys.map (fun a => UInt8.ofNat a.toNat) → zs = ys
  | [], [], _, _, _ => rfl
  | [], y :: ys, _, _, h => by simp at h
  | z :: zs, [], _, _, h => by simp at h
  | z :: zs, y :: ys, hz, hy, h => by
    simp only [List.map_cons, List.cons.injEq] at h
    rw [ofNat_inj8 (hz z (by simp)) (hy y (by simp)) h.1, ofNats_inj8 (fun x hx => hz x (by simp [hx])) (fun x hx => hy x (by simp [hx])) h.2]
theorem sm8_iff {zs ys : List Int} (hz : ∀ z ∈ zs, 0 ≤ z ∧ z ≤ 255) (hy : ∀ z ∈ ys, 0 ≤ z ∧ z ≤ 255) : sm8 zs ys = true ↔ zs = ys := by
  unfold sm8
  rw [Lib.strOfNums_toList, Lib.strOfNums_toList, beq_iff_eq]
  unfold Lib.bytesOf
  exact ⟨fun h => ofNats_inj8 hz hy h, fun h => by rw [h]⟩
end Go.Proofs.YtjeippleimlljaaGreatDoor
