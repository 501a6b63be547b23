/-
  Newest of the program.
-/
import Derived.Test.YtnelpioadpdphaaMpSr
import Derived.BigRegion
namespace Go.Proofs.Ytnelpioadpdphaa
open Go.RowKit
set_option linter.unusedVariables false
set_option linter.unusedSimpArgs false

/-- What Newest answers. -/
def nsQ (zs ys : List Int) : Bool := srB ys && (!srB zs || decide (srE zs < srE ys))
def nsE (zs ys : List Int) : Int := if nsQ zs ys then srE ys else srE zs
def nsP (zs ys : List Int) : List (Int × Int) := if nsQ zs ys then srP ys else srP zs
def nsB (zs ys : List Int) : Bool := if nsQ zs ys then true else srB zs

set_option maxRecDepth 20000 in
set_option maxHeartbeats 8000000 in
theorem implNewest_any (a b : Option Addr) (c d : Nat) (zs ys : List Int) (w : World) (ha : Byt w a zs) (hb : Byt w b ys) (hn : zs.length ≤ 1048576) (hm : ys.length ≤ 1048576) (hc : zs.length ≤ c ∧ c ≤ 9223372036854775807) (hd : ys.length ≤ d ∧ d ≤ 9223372036854775807) :
    Calls Try.prog 10 #[.slice a zs.length c, .slice b ys.length d] w fun r w' => (∃ a c, r = .returned (.tuple #[.int .i64 (nsE zs ys), .agg #[.slice a (nsP zs ys).length c], .bool (nsB zs ys)]) ∧ MinP w' w.heap.size w'.heap.size a c (nsP zs ys)) ∧ Below w.heap.size w w' := by
  have hw : Below w.heap.size w (w.alloc (Obj.cells #[.slice none 0 0] 25)) := (Below.refl _ _).alloc (Nat.le_refl _) _
  have t0 : (w.alloc (Obj.cells #[.slice none 0 0] 25)).cell? ⟨w.heap.size, 0, none⟩ = some (.slice none 0 0) := by simp
  have f0 : (w.alloc (Obj.cells #[.slice none 0 0] 25)).frozen? ⟨w.heap.size, 0, none⟩ = false := by simp
  have tl : w.heap.size + 1 = (w.alloc (Obj.cells #[.slice none 0 0] 25)).heap.size := by simp
  have HTL : Hid (w.heap.size + 1 = (w.alloc (Obj.cells #[.slice none 0 0] 25)).heap.size ∧ True) := ⟨tl, trivial⟩
  have HR1 := implSuperRead_any a c zs _ (ha.below hw (Nat.le_refl _)) hn hc.1 hc.2
  have HB : Hid (Byt w b ys) := hb
  have HR2 : Hid (∀ w, Byt w b ys → Calls Try.prog 7 #[.slice b ys.length d] w fun r w' => (∃ a c, r = .returned (.tuple #[.int .i64 (srE ys), .agg #[.slice a (srP ys).length c], .bool (srB ys)]) ∧ MinP w' w.heap.size w'.heap.size a c (srP ys)) ∧ Below w.heap.size w w') := fun w h => implSuperRead_any b d ys w h hm hd.1 hd.2
  have HPK : Hid (∀ q, q = nsQ zs ys → nsE zs ys = (if q then srE ys else srE zs) ∧ nsP zs ys = (if q then srP ys else srP zs) ∧ nsB zs ys = (if q then true else srB zs)) := fun q hq => by rw [hq]; exact ⟨rfl, rfl, rfl⟩
  have HQ : Hid (nsQ zs ys = (srB ys && (!srB zs || decide (srE zs < srE ys))) ∧ True) := ⟨rfl, trivial⟩
  clear ha hb tl
  generalize srE zs = e1 at *
  generalize srE ys = e2 at *
  generalize srB zs = b1 at *
  generalize srB ys = b2 at *
  generalize srP zs = p1 at *
  generalize srP ys = p2 at *
  go_enter Try.func10, Try.ntmps10
  go_wp2_with fail
  refine HR1.mono ?_
  clear HR1
  generalize w.alloc (Obj.cells #[.slice none 0 0] 25) = W at *
  rintro r w1 ⟨⟨va, vc, rfl, hmp1⟩, hb1⟩
  have h1l : w.heap.size < W.heap.size := by have := HTL.out.1; omega
  have hba : Below w1.heap.size w1 (w1.alloc (Obj.cells #[.slice va p1.length vc] 25)) := (Below.refl _ _).alloc (Nat.le_refl _) _
  have hbW := hb1.trans (hba.mono hb1.size)
  have t1 := keep hbW h1l t0
  have f1 := (hbW.frozen (p := ⟨w.heap.size, 0, none⟩) h1l).trans f0
  have HB2 : Hid (Below w.heap.size w (w1.alloc (Obj.cells #[.slice va p1.length vc] 25)) ∧ MinP (w1.alloc (Obj.cells #[.slice va p1.length vc] 25)) (w.heap.size + 1) w1.heap.size va vc p1 ∧ (w1.alloc (Obj.cells #[.slice va p1.length vc] 25)).cell? ⟨w1.heap.size, 0, none⟩ = some (.slice va p1.length vc) ∧ (w1.alloc (Obj.cells #[.slice va p1.length vc] 25)).heap.size = w1.heap.size + 1 ∧ w.heap.size < w1.heap.size) := ⟨hw.trans (hbW.mono (by omega)), (hmp1.mono (by omega) (Nat.le_refl _)).below hba, by simp, by simp, by have := hb1.size; omega⟩
  clear hb1 hba hbW hmp1 t0 f0 hw h1l
  go_wp2_with fail
  generalize w1.alloc (Obj.cells #[.slice va p1.length vc] 25) = w2 at *
  generalize w1.heap.size = X at *
  refine (HR2.out w2 (HB.out.below HB2.out.1 (Nat.le_refl _))).mono ?_
  rintro r w3 ⟨⟨vb, vd, rfl, hmp2⟩, hb3⟩
  have hl2 : w2.heap.size = X + 1 ∧ w.heap.size < X := ⟨HB2.out.2.2.2.1, HB2.out.2.2.2.2⟩
  have hba : Below w3.heap.size w3 (w3.alloc (Obj.cells #[.slice vb p2.length vd] 25)) := (Below.refl _ _).alloc (Nat.le_refl _) _
  have hbW := hb3.trans (hba.mono hb3.size)
  have t2 := keep hbW (by omega) t1
  have f2 := (hbW.frozen (p := ⟨w.heap.size, 0, none⟩) (by simp; omega)).trans f1
  have x2 := keep hbW (by omega) HB2.out.2.2.1
  have y2 : (w3.alloc (Obj.cells #[.slice vb p2.length vd] 25)).cell? ⟨w3.heap.size, 0, none⟩ = some (.slice vb p2.length vd) := by simp
  have HB4 : Hid (Below w.heap.size w (w3.alloc (Obj.cells #[.slice vb p2.length vd] 25)) ∧ MinP (w3.alloc (Obj.cells #[.slice vb p2.length vd] 25)) (w.heap.size + 1) X va vc p1 ∧ MinP (w3.alloc (Obj.cells #[.slice vb p2.length vd] 25)) (w.heap.size + 1) w3.heap.size vb vd p2 ∧ X < w3.heap.size ∧ w3.heap.size ≤ (w3.alloc (Obj.cells #[.slice vb p2.length vd] 25)).heap.size) := ⟨HB2.out.1.trans (hbW.mono (by omega)), HB2.out.2.1.below hbW, (hmp2.mono (by omega) (Nat.le_refl _)).below hba, by have := hb3.size; omega, by simp⟩
  have hne : ¬ w3.heap.size = w.heap.size ∧ ¬ X = w.heap.size := by have := hb3.size; omega
  obtain ⟨hne1, hne2⟩ := hne
  have HL2 : Hid (w.heap.size < X) := hl2.2
  clear hb3 hba hbW hmp2 t1 f1 HB2 HB hl2
  have key : nsQ zs ys = true ∨ nsQ zs ys = false := by cases nsQ zs ys <;> simp
  rcases key with hq | hq
  · have HF : Hid (nsE zs ys = e2 ∧ nsP zs ys = p2 ∧ nsB zs ys = true) := by have := HPK.out true hq.symm; unfold Hid; simpa using this
    have hqq := HQ.out.1
    rw [hq] at hqq
    have hb2 : b2 = true := by cases b2; · simp at hqq
                               · rfl
    subst hb2
    have hcs : b1 = false ∨ (b1 = true ∧ e1 < e2) := by
      cases b1
      · exact .inl rfl
      · refine .inr ⟨rfl, ?_⟩
        simpa using hqq.symm
    clear hqq hq HPK HQ
    rcases hcs with rfl | ⟨rfl, hlt⟩
    all_goals
      go_wp2_with fail
      generalize w3.alloc (Obj.cells #[.slice vb p2.length vd] 25) = w4 at *
      generalize w3.heap.size = Y at *
      have hon : Only (fun k => k = w.heap.size) w4 ((w4.drew).setCell ⟨w.heap.size, 0, none⟩ (.slice vb p2.length vd)) := (Only.drew (Only.refl (fun k => k = w.heap.size) w4)).setCell (p := ⟨w.heap.size, 0, none⟩) (.inl rfl) _
      have HMF : Hid (MinP ((w4.drew).setCell ⟨w.heap.size, 0, none⟩ (.slice vb p2.length vd)) w.heap.size ((w4.drew).setCell ⟨w.heap.size, 0, none⟩ (.slice vb p2.length vd)).heap.size vb vd p2) := (HB4.out.2.2.1.only hon (fun k h1 h2 h3 => by omega)).mono (by omega) (by have h7 := hon.size; have h8 := HB4.out.2.2.2.2; omega)
      clear hon
      go_region
      all_goals
        go_wp2
        refine bodyPost_ret (v := .tuple #[.int .i64 e2, .agg #[.slice vb p2.length vd], .bool true]) (by simp [results, Try.results10, go_sem, t2]) rfl ⟨⟨vb, vd, by rw [HF.out.1, HF.out.2.1, HF.out.2.2], by rw [HF.out.2.1]; exact HMF.out⟩, ?_⟩
        exact (HB4.out.1.drew).setCell (p := ⟨w.heap.size, 0, none⟩) (by simp) _
  · have HF : Hid (nsE zs ys = e1 ∧ nsP zs ys = p1 ∧ nsB zs ys = b1) := by have := HPK.out false hq.symm; unfold Hid; simpa using this
    have hqq := HQ.out.1
    rw [hq] at hqq
    have hcs : b2 = false ∨ (b2 = true ∧ b1 = true ∧ ¬ e1 < e2) := by
      cases b2
      · exact .inl rfl
      · cases b1
        · simp at hqq
        · refine .inr ⟨rfl, rfl, ?_⟩
          have := hqq.symm
          simp at this
          omega
    clear hqq hq HPK HQ
    rcases hcs with rfl | ⟨rfl, rfl, hlt⟩
    all_goals
      go_wp2_with fail
      generalize w3.alloc (Obj.cells #[.slice vb p2.length vd] 25) = w4 at *
      generalize w3.heap.size = Y at *
      have hon : Only (fun k => k = w.heap.size) w4 ((w4.drew).setCell ⟨w.heap.size, 0, none⟩ (.slice va p1.length vc)) := (Only.drew (Only.refl (fun k => k = w.heap.size) w4)).setCell (p := ⟨w.heap.size, 0, none⟩) (.inl rfl) _
      have HMF : Hid (MinP ((w4.drew).setCell ⟨w.heap.size, 0, none⟩ (.slice va p1.length vc)) w.heap.size ((w4.drew).setCell ⟨w.heap.size, 0, none⟩ (.slice va p1.length vc)).heap.size va vc p1) := (HB4.out.2.1.only hon (fun k h1 h2 h3 => by omega)).mono (by omega) (by have h7 := hon.size; have h8 := HB4.out.2.2.2; omega)
      clear hon
      go_region
      all_goals
        go_wp2
        first
          | refine bodyPost_ret (v := .tuple #[.int .i64 e1, .agg #[.slice va p1.length vc], .bool b1]) (by simp [results, Try.results10, go_sem, t2]) rfl ⟨⟨va, vc, by rw [HF.out.1, HF.out.2.1, HF.out.2.2], by rw [HF.out.2.1]; exact HMF.out⟩, ?_⟩
          | refine bodyPost_ret (v := .tuple #[.int .i64 e1, .agg #[.slice va p1.length vc], .bool true]) (by simp [results, Try.results10, go_sem, t2]) rfl ⟨⟨va, vc, by rw [HF.out.1, HF.out.2.1, HF.out.2.2], by rw [HF.out.2.1]; exact HMF.out⟩, ?_⟩
        exact (HB4.out.1.drew).setCell (p := ⟨w.heap.size, 0, none⟩) (by simp) _
end Go.Proofs.Ytnelpioadpdphaa
