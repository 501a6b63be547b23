/-
  RawRead, both.
-/
import Derived.Test.YtajhaoclkomjnaaRwOkI
import Derived.Test.YtajhaoclkomjnaaClone
namespace Go.Proofs.Ytajhaoclkomjnaa
open Go.RowKit
set_option linter.unusedVariables false

/-- The last one of the first k that is for x. -/
def lastU (es : List El) (x : Int) : Nat → Option El
  | 0 => none
  | k + 1 => if (es.getD k de).n = x then some (es.getD k de) else lastU es x k
theorem lastU_ct {es fs : List El} (h : fs.map El.ct = es.map El.ct) (x : Int) (k : Nat) : (lastU fs x k).map El.ct = (lastU es x k).map El.ct := by
  induction k with
  | zero => rfl
  | succ k ih =>
    have h1 := ctE_get h k
    have h2 : (fs.getD k de).n = (es.getD k de).n := congrArg Prod.fst h1
    simp only [lastU, h2]
    split
    · simp only [Option.map_some, h1]
    · exact ih
theorem lastU_mem {es : List El} {x : Int} {k : Nat} {e : El} (h : lastU es x k = some e) (hk : k ≤ es.length) : e ∈ es := by
  induction k with
  | zero => cases h
  | succ k ih =>
    simp only [lastU] at h
    split at h
    · cases h; exact getD_memE (by omega)
    · exact ih h (by omega)
/-- What is read at x. -/
def rdE (ss ps : List El) (x : Int) : El := (lastU ps x ps.length).getD (ss.getD x.toNat de)
theorem rdE_ct {ss ps ts qs : List El} (h1 : ts.map El.ct = ss.map El.ct) (h2 : qs.map El.ct = ps.map El.ct) (x : Int) : (rdE ts qs x).ls = (rdE ss ps x).ls := by
  have h3 := lastU_ct h2 x ps.length
  have h4 := ctE_get h1 x.toNat
  unfold rdE
  rw [len_ctE h2]
  cases ha : lastU qs x ps.length with
  | none =>
    rw [ha] at h3
    cases hb : lastU ps x ps.length with
    | none => exact congrArg Prod.snd h4
    | some e => rw [hb] at h3; simp at h3
  | some e =>
    rw [ha] at h3
    cases hb : lastU ps x ps.length with
    | none => rw [hb] at h3; simp at h3
    | some e2 =>
      rw [hb] at h3
      simp only [Option.map_some, Option.some.injEq] at h3
      exact congrArg Prod.snd h3

set_option maxHeartbeats 1600000 in
theorem l6read_any (sa pa : Option Addr) (sc pc : Nat) (ss ps : List El) (x : Nat) (w : World) (hb : RawI w sa pa ss ps) (hx : x < ss.length) (hn : ss.length ≤ 1000000) (hm : ps.length ≤ 1000000) :
    Calls Try.prog 45 #[.agg #[.slice sa ss.length sc, .slice pa ps.length pc], .int .i64 x] w fun e w' => e = .returned (.slice (rdE ss ps x).a (rdE ss ps x).ls.length (rdE ss ps x).c) ∧ Below w.heap.size w w' := by
  have HB : Hid (RawI w sa pa ss ps) := hb
  have HSU : Hid (∀ k, lastU ps x (k + 1) = if (ps.getD k de).n = (x : Int) then some (ps.getD k de) else lastU ps x k) := fun k => rfl
  have HRD : Hid (rdE ss ps x = (lastU ps x ps.length).getD (ss.getD x de) ∧ lastU ps x 0 = none) := ⟨by unfold rdE; rw [Int.toNat_natCast], rfl⟩
  clear hb
  generalize rdE ss ps x = R at *
  generalize hlen : ss.length = n at *
  generalize hlen2 : ps.length = m at *
  have HL : Hid (ss.length = n ∧ ps.length = m) := ⟨hlen, hlen2⟩
  clear hlen hlen2
  have HW : Hid (Below w.heap.size w (w.alloc (Obj.cells #[Value.slice sa n sc, Value.slice pa m pc] 30))) := (Below.refl _ _).alloc (Nat.le_refl _) _
  go_enter Try.func45, Try.ntmps45
  go_wp2
  go_loop [5] (fun i => ∃ k : Nat, k ≤ m ∧ i = .int .i64 ((k : Int) - 1) ∧ lastU ps x m = lastU ps x k) (fun i => (intOf i + 1).toNat)
  case atStart => exact ⟨m, Nat.le_refl _, rfl, rfl⟩
  case round =>
    obtain ⟨k, hk, rfl, heq⟩ := hrel
    have HE : Hid (lastU ps x m = lastU ps x k ∧ True) := ⟨heq, trivial⟩
    clear heq
    by_cases hk0 : 0 < k
    · obtain ⟨j, rfl⟩ : ∃ j, k = j + 1 := ⟨k - 1, by omega⟩
      obtain ⟨b, off, rfl, hb1, c0, c1, -, -⟩ := (HB.out.2.below HW.out (Nat.le_refl _)).pen j (by rw [HL.out.2]; omega)
      have HS := HSU.out j
      have hj1 : ((j + 1 : Nat) : Int) - 1 = (j : Int) := by omega
      rw [hj1]
      clear hj1
      generalize ps.getD j de = s at *
      obtain ⟨sn, a2, c2, sl⟩ := s
      simp only at c0 c1 HS
      by_cases hs : sn = (x : Int)
      · have HF : Hid (R = ⟨sn, a2, c2, sl⟩ ∧ True) := by
          rw [if_pos hs] at HS
          refine ⟨?_, trivial⟩
          rw [HRD.out.1, HE.out.1, HS]
          rfl
        subst hs
        have hxx : ((x : Int) == (x : Int)) = true := by simp
        clear HS
        go_wp2
        go_ret
        exact ⟨by rw [HF.out.1]; rfl, HW.out⟩
      · have HE2 : Hid (lastU ps x m = lastU ps x j ∧ True) := by
          rw [if_neg hs] at HS
          exact ⟨HE.out.1.trans HS, trivial⟩
        have hs' : (sn == (x : Int)) = false := by rw [beq_eq_false_iff_ne]; exact hs
        clear HS hs
        go_wp2
        go_round
        case rel => exact ⟨j, by omega, rfl, HE2.out.1⟩
        case measure => simp [intOf]
    · obtain rfl : k = 0 := by omega
      obtain ⟨b, off, rfl, hb1, c0, -, -⟩ := (HB.out.1.below HW.out (Nat.le_refl _)).sec x (by rw [HL.out.1]; exact hx)
      have HF : Hid (R = ss.getD x de ∧ True) := ⟨by rw [HRD.out.1, HE.out.1, HRD.out.2]; rfl, trivial⟩
      generalize ss.getD x de = s at *
      obtain ⟨sn, a2, c2, sl⟩ := s
      simp only at c0
      go_wp2
      go_ret
      exact ⟨by rw [HF.out.1]; rfl, HW.out⟩

/-- Whether something is read, and what. -/
def rdB (ss ps : List El) (x : Int) : Bool := rok ss ps && decide (0 ≤ x ∧ x < (ss.length : Int))
def rdL (ss ps : List El) (x : Int) : List Int := if rdB ss ps x = true then (rdE ss ps x).ls else []
theorem rd_ct {ss ps ts qs : List El} (h1 : ts.map El.ct = ss.map El.ct) (h2 : qs.map El.ct = ps.map El.ct) (x : Int) : rdB ts qs x = rdB ss ps x ∧ rdL ts qs x = rdL ss ps x := by
  have h3 : rdB ts qs x = rdB ss ps x := by unfold rdB; rw [rok_ct h1 h2, len_ctE h1]
  exact ⟨h3, by unfold rdL; rw [h3, rdE_ct h1 h2]⟩
theorem rd_yes {ss ps : List El} {x : Nat} (h : rok ss ps = true) (hx : x < ss.length) : rdB ss ps x = true ∧ rdL ss ps x = (rdE ss ps x).ls := by
  have h3 : rdB ss ps x = true := by unfold rdB; rw [h, decide_eq_true (by omega)]; rfl
  exact ⟨h3, by unfold rdL; rw [if_pos h3]⟩
theorem rd_no {ss ps : List El} {x : Int} (h : ¬ (rok ss ps = true ∧ 0 ≤ x ∧ x < (ss.length : Int))) : rdB ss ps x = false ∧ rdL ss ps x = [] := by
  have h3 : rdB ss ps x = false := by
    unfold rdB
    cases hr : rok ss ps with
    | false => rfl
    | true => rw [decide_eq_false (fun h2 => h ⟨hr, h2⟩)]; rfl
  exact ⟨h3, by unfold rdL; rw [h3]; rfl⟩
theorem rdE_byt {w : World} {sa pa : Option Addr} {ss ps : List El} {x : Nat} (h : RawI w sa pa ss ps) (hx : x < ss.length) : Byt w (rdE ss ps x).a (rdE ss ps x).ls := by
  unfold rdE
  cases ha : lastU ps x ps.length with
  | none => simp only [Option.getD_none, Int.toNat_natCast]; exact (h.1.at x hx).2
  | some e => exact (h.2.1 e (lastU_mem ha (Nat.le_refl _))).2
theorem rdE_len {ss ps : List El} {x : Nat} (h : Rok ss ps) (hx : x < ss.length) : (rdE ss ps x).ls.length = 256 := by
  unfold rdE
  cases ha : lastU ps x ps.length with
  | none => simp only [Option.getD_none, Int.toNat_natCast]; exact h.2.2.2.1 x hx
  | some e =>
    obtain ⟨i, hi, he⟩ := memE_get (lastU_mem ha (Nat.le_refl _))
    have := (h.2.2.2.2 i hi).2.2
    rw [he] at this
    exact this

set_option maxRecDepth 20000 in
set_option maxHeartbeats 1600000 in
theorem specRawRead_any (sa pa : Option Addr) (sc pc : Nat) (ss ps : List El) (x : Int) (w : World) (hb : RawI w sa pa ss ps) (hx : ss.length ≤ 281474976710656) (hy : ps.length ≤ 281474976710656) (hxl : ∀ s ∈ ss, s.ls.length ≤ 281474976710656) (hyl : ∀ s ∈ ps, s.ls.length ≤ 281474976710656) :
    Calls Try.prog 18 #[.agg #[.slice sa ss.length sc, .slice pa ps.length pc], .int .i64 x] w fun e w' => (∃ v, e = .returned (.tuple #[v, .bool (rdB ss ps x)]) ∧ OVB w' w.heap.size v (rdL ss ps x)) ∧ Below w.heap.size w w' := by
  have HB : Hid (RawI w sa pa ss ps) := hb
  have HW : Hid (Below w.heap.size w (w.alloc (Obj.cells #[Value.slice sa ss.length sc, Value.slice pa ps.length pc] 30))) := (Below.refl _ _).alloc (Nat.le_refl _) _
  have HX : Hid (Box2 (w.alloc (Obj.cells #[Value.slice sa ss.length sc, Value.slice pa ps.length pc] 30)) w.heap.size (.slice sa ss.length sc) (.slice pa ps.length pc)) := Box2.new _ _ _ _
  have HSP := specRawOk_any sa pa sc pc ss ps _ (HB.out.below HW.out (Nat.le_refl _)) hx hy hxl hyl
  clear hb hxl hyl
  cases hr : rok ss ps with
  | false =>
    rw [(rd_no (x := x) (by rw [hr]; simp)).1, (rd_no (x := x) (by rw [hr]; simp)).2]
    rw [hr] at HSP
    clear hr
    go_enter Try.func18, Try.ntmps18
    go_wp2_with fail
    refine HSP.mono ?_
    clear HSP
    rintro e w1 ⟨rfl, hb1⟩
    have HB1 : Hid (Below w.heap.size w w1) := HW.out.trans (hb1.mono HW.out.size)
    clear hb1
    go_wp2
    exact bodyPost_ret (v := .tuple #[.slice none 0 0, .bool false]) (by simp [results, Try.results18, go_sem]) rfl ⟨⟨_, rfl, OVB.nil _ _⟩, HB1.out⟩
  | true =>
    rw [hr] at HSP
    by_cases h : 0 ≤ x ∧ x < (ss.length : Int)
    · obtain ⟨x, rfl⟩ := Int.eq_ofNat_of_zero_le h.1
      have hxs : x < ss.length := by omega
      have h1 := rd_yes hr hxs
      rw [h1.1, h1.2]
      have hR := rok_ok hr
      have hl256 := rdE_len (x := x) hR hxs
      have HR : Hid (Rok ss ps) := hR
      obtain ⟨hR1, hR2, hR3, -, -⟩ := hR
      have HRD := fun W (h9 : RawI W sa pa ss ps) => l6read_any sa pa sc pc ss ps x W h9 hxs (by omega) (by omega)
      have HBY := fun W (h9 : RawI W sa pa ss ps) => rdE_byt (x := x) h9 hxs
      have HH : Hid ((∀ W, RawI W sa pa ss ps → _) ∧ _) := ⟨HRD, HBY⟩
      clear HRD HBY h1 hr h
      generalize rdE ss ps x = R at *
      obtain ⟨rn, ra, rc, rl⟩ := R
      simp only at *
      have HL256 : Hid (rl.length = 256 ∧ True) := ⟨hl256, trivial⟩
      clear hl256
      go_enter Try.func18, Try.ntmps18
      go_wp2_with fail
      refine HSP.mono ?_
      clear HSP
      rintro e w1 ⟨rfl, hb1⟩
      obtain ⟨x0, x1, -, -, xl⟩ := HX.out.keep hb1 HX.out.lt
      have HB1 : Hid (Below w.heap.size w w1) := HW.out.trans (hb1.mono HW.out.size)
      clear hb1 HX HW
      have HB2 : Hid (Below w.heap.size w (w1.alloc (Obj.cells #[] 5))) := HB1.out.alloc HB1.out.size _
      have HO2 : Hid (OVB (w1.alloc (Obj.cells #[] 5)) w.heap.size (.slice (some ⟨w1.heap.size, 0, none⟩) 0 0) []) := OVB.empty w1 _ HB1.out.size
      go_wp2_with fail
      generalize hw2 : w1.alloc (Obj.cells #[] 5) = w2 at *
      refine (HH.out.1 w2 (HB.out.below HB2.out (Nat.le_refl _))).mono ?_
      rintro e w3 ⟨rfl, hb3⟩
      have HB3 : Hid (Below w.heap.size w w3) := HB2.out.trans (hb3.mono HB2.out.size)
      have HO3 : Hid (OVB w3 w.heap.size (.slice (some ⟨w1.heap.size, 0, none⟩) 0 0) []) := HO2.out.below hb3
      have HY3 : Hid (Byt w3 ra rl) := HH.out.2 w3 (HB.out.below HB3.out (Nat.le_refl _))
      clear hb3 HB2 HO2 hw2 HH
      go_wp2_with (at_builtin; (refine wpList_append_byt rfl (.tmp 20) (.tmp 23) rfl w.heap.size (.slice (some ⟨w1.heap.size, 0, none⟩) 0 0) [] rfl HO3.out ra rc rl rfl HY3.out (by have := HL256.out.1; simp; omega) HB3.out.size ?_; intro v1 w4 hov1 hgr1; have HB4 : Hid (Below w.heap.size w w4) := appB_below HB3.out HB3.out.size HO3.out hgr1; have HV4 : Hid (OVB w4 w.heap.size v1 rl) := (by rw [List.nil_append] at hov1; exact hov1); clear hov1 hgr1))
      exact bodyPost_ret (v := .tuple #[v1, .bool true]) (by simp [results, Try.results18, go_sem]) rfl ⟨⟨_, rfl, HV4.out⟩, HB4.out⟩
    · rw [(rd_no (x := x) (fun h9 => h h9.2)).1, (rd_no (x := x) (fun h9 => h h9.2)).2]
      clear hr
      have key : x < 0 ∨ (0 ≤ x ∧ (ss.length : Int) ≤ x) := by omega
      clear h
      rcases key with h | ⟨h, h2⟩
      all_goals
        go_enter Try.func18, Try.ntmps18
        go_wp2_with fail
        refine HSP.mono ?_
        clear HSP
        rintro e w1 ⟨rfl, hb1⟩
        obtain ⟨x0, x1, -, -, xl⟩ := HX.out.keep hb1 HX.out.lt
        have HB1 : Hid (Below w.heap.size w w1) := HW.out.trans (hb1.mono HW.out.size)
        clear hb1
        go_wp2
        exact bodyPost_ret (v := .tuple #[.slice none 0 0, .bool false]) (by simp [results, Try.results18, go_sem]) rfl ⟨⟨_, rfl, OVB.nil _ _⟩, HB1.out⟩
end Go.Proofs.Ytajhaoclkomjnaa
