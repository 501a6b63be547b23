/-
  PackOk of the program.
-/
import Derived.Test.YtihpnijjkjbmlaaGreatDoorDcY
import Derived.Test.YtihpnijjkjbmlaaGreatDoorL5R
import Derived.Test.YtihpnijjkjbmlaaGreatDoorElP
import Derived.Test.YtihpnijjkjbmlaaGreatDoorItP
namespace Go.Proofs.YtihpnijjkjbmlaaGreatDoor
open Go.RowKit
set_option linter.unusedVariables false
set_option linter.unusedSimpArgs false

/-- What is told of bytes: a block, or none. -/
def DcA (Y : Option (List Int)) (w : World) (e : Ending) (w' : World) : Prop := Below w.heap.size w w' ∧
  ((∃ bs v, Y = some bs ∧ OVB w' w.heap.size v bs ∧ e = .returned (.tuple #[v, .bool true])) ∨ (Y = none ∧ ∃ v, e = .returned (.tuple #[v, .bool false])))
/-- The same; beside a false there is nothing. -/
def DcE (Y : Option (List Int)) (w : World) (e : Ending) (w' : World) : Prop := Below w.heap.size w w' ∧
  ((∃ bs v, Y = some bs ∧ OVB w' w.heap.size v bs ∧ e = .returned (.tuple #[v, .bool true])) ∨ (Y = none ∧ e = .returned (.tuple #[.slice none 0 0, .bool false])))
/-- What the model and the program tell of the bytes xs. -/
def DecW (xs : List Int) (Y : Option (List Int)) : Prop := (∀ bs, Y = some bs → bs.length = 64 ∧ 2 ≤ xs.length ∧ xs.length ≤ 65) ∧
  (∀ (a : Option Addr) (cap : Nat) (w : World), xs.length ≤ cap → Byt w a xs → Calls Tryz.prog 57 #[.slice a xs.length cap] w (DcA Y w)) ∧
  (∀ (a : Option Addr) (cap : Nat) (w : World), xs.length ≤ cap → Byt w a xs → SentB w → Calls Tryz.prog 91 #[.slice a xs.length cap] w (DcE Y w))

theorem rbY_unique {o : Option (Nat × Nat)} {m : Nat} {zs bs bs' : List Int} (h : RbY o m zs bs) (h' : RbY o m zs bs') : bs = bs' := by
  obtain ⟨-, h⟩ := h
  obtain ⟨-, h'⟩ := h'
  rcases h with ⟨e0, rfl⟩ | ⟨e0, -, rfl⟩ | ⟨e0, q, rfl, hy⟩
  · rcases h' with ⟨-, rfl⟩ | ⟨e1, -⟩ | ⟨e1, -⟩
    · rfl
    · omega
    · omega
  · rcases h' with ⟨e1, -⟩ | ⟨-, -, rfl⟩ | ⟨e1, -⟩
    · omega
    · rfl
    · omega
  · rcases h' with ⟨e1, -⟩ | ⟨e1, -⟩ | ⟨-, q', hq, hy'⟩
    · omega
    · omega
    · cases hq
      exact hy.unique hy'

theorem DcP.ans {o : Option (Nat × Nat)} {m : Nat} {zs : List Int} {w w' : World} {e : Ending} {Y : Option (List Int)} (hy : ∀ bs, RbY o m zs bs → Y = some bs) (hn : (¬ ∃ bs, RbY o m zs bs) → Y = none) (h : DcP o m zs w e w') : DcA Y w e w' := by
  obtain ⟨hb, ⟨bs, v, h1, h2, h3⟩ | ⟨h1, v, h3⟩⟩ := h
  · exact ⟨hb, .inl ⟨bs, v, hy bs h1, h2, h3⟩⟩
  · exact ⟨hb, .inr ⟨hn h1, v, h3⟩⟩

theorem decW (xs : List Int) (hl : xs.length ≤ 1048576) (hr : ∀ z ∈ xs, 0 ≤ z ∧ z ≤ 255) : ∃ Y, DecW xs Y := by
  by_cases h2 : xs.length < 2 ∨ 65 < xs.length
  · refine ⟨none, ⟨fun bs h => (by cases h), ?_, ?_⟩⟩
    · intro a cap w hc hb
      refine (l5decode_no a cap xs.length w h2).mono ?_
      rintro e w' ⟨rfl, rfl⟩
      exact ⟨Below.refl _ _, .inr ⟨rfl, _, rfl⟩⟩
    · intro a cap w hc hb hS
      refine (decodeI_no a cap xs.length w h2 hS).mono ?_
      rintro e w' ⟨hb', rfl⟩
      exact ⟨hb', .inr ⟨rfl, rfl⟩⟩
  · cases xs with
    | nil => simp at h2
    | cons x zs =>
      simp only [List.length_cons] at h2
      have h1 : 1 ≤ zs.length := by omega
      have h64 : zs.length ≤ 64 := by omega
      obtain ⟨m, rfl⟩ := Int.eq_ofNat_of_zero_le (hr x (by simp)).1
      obtain ⟨o, hO⟩ := opnW zs (by omega) (fun z hz => hr z (by simp [hz]))
      obtain ⟨Y, hY, hN, hYr⟩ : ∃ Y : Option (List Int), (∀ bs, RbY o m zs bs → Y = some bs) ∧ ((¬ ∃ bs, RbY o m zs bs) → Y = none) ∧ (∀ bs, Y = some bs → RbY o m zs bs) := by
        by_cases h : ∃ bs, RbY o m zs bs
        · obtain ⟨bs, hbs⟩ := h
          exact ⟨some bs, fun b hb => by rw [rbY_unique hbs hb], fun hn => absurd ⟨bs, hbs⟩ hn, fun b hb => by cases hb; exact hbs⟩
        · exact ⟨none, fun b hb => absurd ⟨b, hb⟩ h, fun _ => rfl, fun b hb => by cases hb⟩
      refine ⟨Y, ⟨fun bs hbs => ⟨(hYr bs hbs).1, by simp only [List.length_cons]; omega, by simp only [List.length_cons]; omega⟩, ?_, ?_⟩⟩
      · intro a cap w hc hb
        simp only [List.length_cons] at hc ⊢
        have key : Calls Tryz.prog 57 #[.slice a (zs.length + 1) cap] w (DcP o m zs w) := by
          have cs : m = 0 ∨ m = 1 ∨ m = 2 ∨ m = 3 ∨ 4 ≤ m := by omega
          rcases cs with rfl | rfl | rfl | rfl | h4
          · exact l5decode_raw a cap zs o w hb h1 h64 hc
          · exact l5decode_run a cap zs o w hb h1 h64 hc
          · cases o with
            | none => exact l5decode_symN a cap 2 zs w (.inl rfl) hb h1 h64 hc hO
            | some q => exact l5decode_sym2 a cap zs q.1 q.2 w hb h1 h64 hc hO rdC
          · cases o with
            | none => exact l5decode_symN a cap 3 zs w (.inr rfl) hb h1 h64 hc hO
            | some q => exact l5decode_sym3 a cap zs q.1 q.2 w hb h1 h64 hc hO rdC
          · exact l5decode_other a cap m zs o w hb h1 h64 h4
        exact key.mono fun e w' h => h.ans hY hN
      · intro a cap w hc hb hS
        simp only [List.length_cons] at hc ⊢
        refine (decodeI_any a cap m zs o w hb h1 h64 hc hO hS).mono ?_
        rintro e w' ⟨hb', ⟨bs, v, h1, h2, h3⟩ | ⟨h1, h3⟩⟩
        · exact ⟨hb', .inl ⟨bs, v, hY bs h1, h2, h3⟩⟩
        · exact ⟨hb', .inr ⟨hN h1, h3⟩⟩
/-- f tells of bytes what Decode tells. -/
def DecF (f : List Int → Option (List Int)) : Prop := ∀ ls : List Int, ls.length ≤ 1048576 → (∀ z ∈ ls, 0 ≤ z ∧ z ≤ 255) → DecW ls (f ls)
theorem decF_ex : ∃ f, DecF f := by
  have h : ∀ ls : List Int, ∃ Y, (ls.length ≤ 1048576 ∧ ∀ z ∈ ls, 0 ≤ z ∧ z ≤ 255) → DecW ls Y := by
    intro ls
    by_cases hg : ls.length ≤ 1048576 ∧ ∀ z ∈ ls, 0 ≤ z ∧ z ≤ 255
    · obtain ⟨Y, hY⟩ := decW ls hg.1 hg.2
      exact ⟨Y, fun _ => hY⟩
    · exact ⟨none, fun h => absurd h hg⟩
  obtain ⟨f, hf⟩ := Classical.skolem.1 h
  exact ⟨f, fun ls h1 h2 => hf ls ⟨h1, h2⟩⟩

/-- What is asked of items that are not too many. -/
structure FewJ (es : List El) : Prop where
  n : es.length ≤ 1048576
  l : ∀ s ∈ es, s.ls.length ≤ 1048576
  s : elets es ≤ 1048576

/-- A right item. -/
def itOk (f : List Int → Option (List Int)) (e : El) : Prop := (0 ≤ e.n ∧ e.n < 16) ∧ (e.ls = [] ∨ (f e.ls).isSome = true)
/-- The first k are right, and no two are of one address. -/
def apT (f : List Int → Option (List Int)) (es : List El) (k : Nat) : Prop := ∀ i, i < k → itOk f (es.getD i de) ∧ ∀ j, j < i → (es.getD j de).n ≠ (es.getD i de).n
/-- How long the pack is. -/
def szP (es : List El) : Nat := 6 + 2 * es.length + elets es
/-- A right pack. -/
structure PkR (f : List Int → Option (List Int)) (E O : Int) (es : List El) : Prop where
  e0 : 0 ≤ E
  e1 : E ≤ 60000
  o0 : 0 ≤ O
  o1 : O ≤ 60000
  n : es.length ≤ 16
  ap : apT f es es.length
  sz : szP es ≤ 256

theorem apT_succ {f : List Int → Option (List Int)} {es : List El} {k : Nat} (h : apT f es k) (h1 : itOk f (es.getD k de)) (h2 : ∀ j, j < k → (es.getD j de).n ≠ (es.getD k de).n) : apT f es (k + 1) := by
  intro i hi
  by_cases e : i = k
  · subst e; exact ⟨h1, h2⟩
  · exact h i (by omega)
theorem apT_zero (f : List Int → Option (List Int)) (es : List El) : apT f es 0 := fun i hi => by omega
theorem itOk_ct {f : List Int → Option (List Int)} {e e' : El} (h : e.ct = e'.ct) : itOk f e ↔ itOk f e' := by
  obtain ⟨n, a, c, ls⟩ := e
  obtain ⟨n', a', c', ls'⟩ := e'
  simp only [El.ct, Prod.mk.injEq] at h
  obtain ⟨rfl, rfl⟩ := h
  exact Iff.rfl
theorem n_ct {es ts : List El} (h : es.map El.ct = ts.map El.ct) (k : Nat) : (es.getD k de).n = (ts.getD k de).n := by
  have := congrArg Prod.fst (ctE_get h k)
  exact this
theorem apT_ct {f : List Int → Option (List Int)} {es ts : List El} (h : es.map El.ct = ts.map El.ct) (k : Nat) (ha : apT f es k) : apT f ts k := by
  intro i hi
  obtain ⟨h1, h2⟩ := ha i hi
  refine ⟨(itOk_ct (ctE_get h i)).1 h1, fun j hj => ?_⟩
  rw [← n_ct h j, ← n_ct h i]
  exact h2 j hj
theorem PkR.ct {f : List Int → Option (List Int)} {E O : Int} {es ts : List El} (h : es.map El.ct = ts.map El.ct) (hp : PkR f E O es) : PkR f E O ts := by
  have hl := len_ctE h
  refine ⟨hp.e0, hp.e1, hp.o0, hp.o1, by rw [← hl]; exact hp.n, by rw [← hl]; exact apT_ct h _ hp.ap, ?_⟩
  have := hp.sz
  unfold szP at *
  rw [← hl, ← elets_ct es ts h]
  exact this
/-- Right items are short. -/
theorem apT_short {f : List Int → Option (List Int)} (hf : DecF f) {es : List El} {k : Nat} (ha : apT f es k) (hk : k ≤ es.length) (hl : ∀ e ∈ es, e.ls.length ≤ 1048576) (hr : ∀ e ∈ es, ∀ z ∈ e.ls, 0 ≤ z ∧ z ≤ 255) : ∀ i, i < k → (es.getD i de).ls.length ≤ 65 := by
  intro i hi
  have hm := getD_memE (es := es) (k := i) (by omega)
  rcases (ha i hi).1.2 with h | h
  · rw [h]; simp
  · obtain ⟨bs, hbs⟩ := Option.isSome_iff_exists.1 h
    exact ((hf _ (hl _ hm) (hr _ hm)).1 bs hbs).2.2
theorem epochOk_any (x : Int) (w : World) :
    Calls Tryz.prog 24 #[.int .i64 x] w fun e w' => e = .returned (.bool (decide (0 ≤ x ∧ x ≤ 60000))) ∧ w' = w := by
  have key : (0 ≤ x ∧ x ≤ 60000) ∨ ¬ 0 ≤ x ∨ (0 ≤ x ∧ ¬ x ≤ 60000) := by omega
  rcases key with ⟨h1, h2⟩ | h1 | ⟨h1, h2⟩
  · rw [decide_eq_true ⟨h1, h2⟩]
    go_enter Tryz.func24, Tryz.ntmps24
    go_wp2
    go_ret
    exact ⟨by simp [h1, h2], rfl⟩
  · rw [decide_eq_false (fun hh => h1 hh.1)]
    go_enter Tryz.func24, Tryz.ntmps24
    go_wp2
    go_ret
    exact ⟨by simp [h1], rfl⟩
  · rw [decide_eq_false (fun hh => h2 hh.2)]
    go_enter Tryz.func24, Tryz.ntmps24
    go_wp2
    go_ret
    exact ⟨by simp [h1, h2], rfl⟩
set_option maxHeartbeats 1000000 in
theorem itemRight_any (f : List Int → Option (List Int)) (hf : DecF f) (n : Int) (a : Option Addr) (c : Nat) (ls : List Int) (w : World) (hb : Byt w a ls) (hc : ls.length ≤ c) (hl : ls.length ≤ 1048576) (hS : SentB w) :
    Calls Tryz.prog 79 #[.agg #[.int .i64 n, .slice a ls.length c]] w fun r w' => ((itOk f ⟨n, a, c, ls⟩ ∧ r = .returned (.bool true)) ∨ (¬ itOk f ⟨n, a, c, ls⟩ ∧ r = .returned (.bool false))) ∧ Below w.heap.size w w' := by
  have hw : Below w.heap.size w (w.alloc (Obj.cells #[Value.int IntKind.i64 n, Value.slice a ls.length c] 63)) := (Below.refl _ _).alloc (Nat.le_refl _) _
  have HD := (hf ls hl hb.1).2.2 a c _ hc (hb.below hw (Nat.le_refl _)) (hS.below hw)
  have HI : Hid (itOk f ⟨n, a, c, ls⟩ ↔ (0 ≤ n ∧ n < 16) ∧ (ls = [] ∨ (f ls).isSome = true)) := Iff.rfl
  generalize itOk f ⟨n, a, c, ls⟩ = I at *
  clear hb hS
  go_enter Tryz.func79, Tryz.ntmps79
  by_cases h0 : n < 0
  · go_wp2
    go_ret
    exact ⟨.inr ⟨fun h => by have := HI.out.1 h; omega, rfl⟩, hw⟩
  · by_cases h1 : (16 : Int) ≤ n
    · go_wp2
      go_ret
      exact ⟨.inr ⟨fun h => by have := HI.out.1 h; omega, rfl⟩, hw⟩
    · by_cases h2 : ls.length = 0
      · have h2' : (ls.length : Int) = 0 := by omega
        have HN : Hid (I) := HI.out.2 ⟨by omega, .inl (List.eq_nil_of_length_eq_zero h2)⟩
        clear HD
        go_wp2
        go_ret
        exact ⟨.inl ⟨HN.out, rfl⟩, (Below.refl _ _).alloc (Nat.le_refl _) _⟩
      · have h2' : ¬ ((ls.length : Int) = 0) := by omega
        have HN : Hid (I ↔ (f ls).isSome = true) := by
          constructor
          · intro h
            rcases (HI.out.1 h).2 with h | h
            · exact absurd (by rw [h]; rfl) h2
            · exact h
          · intro h
            exact HI.out.2 ⟨by omega, .inr h⟩
        go_wp2_with fail
        refine HD.mono ?_
        clear HD
        rintro e w1 ⟨hb1, ⟨bs, v, hy, hov, rfl⟩ | ⟨hy, rfl⟩⟩
        · obtain ⟨va, vc, rfl⟩ := hov.form
          have HB1 : Hid (Below w.heap.size w w1 ∧ I) := ⟨hw.trans (hb1.mono (by simp)), HN.out.2 (by rw [hy]; rfl)⟩
          clear hb1 hy hov hw
          go_wp2
          go_ret
          exact ⟨.inl ⟨HB1.out.2, rfl⟩, HB1.out.1⟩
        · have HB1 : Hid (Below w.heap.size w w1 ∧ ¬ I) := ⟨hw.trans (hb1.mono (by simp)), fun h => by have := HN.out.1 h; rw [hy] at this; cases this⟩
          clear hb1 hy hw
          go_wp2
          go_ret
          exact ⟨.inr ⟨HB1.out.2, rfl⟩, HB1.out.1⟩

set_option maxHeartbeats 1000000 in
theorem packSizeI_any (E O : Int) (a : Option Addr) (cap : Nat) (es : List El) (w : World) (hb : Els true w a es) (hn : es.length ≤ 1048576) (hl : elets es ≤ 1048576) :
    Calls Tryz.prog 66 #[.agg #[.int .i64 E, .int .i64 O, .slice a es.length cap]] w fun r w' => r = .returned (.int .i64 (szP es : Nat)) ∧ Below w.heap.size w w' := by
  have HB : Hid (Els true w a es) := hb
  have HSZ : Hid (szP es = 6 + 2 * es.length + elets es ∧ elets (es.take es.length) = elets es) := ⟨rfl, by rw [List.take_length]⟩
  have HLE : Hid (∀ k, elets (es.take k) ≤ elets es) := elets_take_le es
  clear hb
  generalize szP es = Z at *
  generalize hlen : es.length = n at *
  have HL : Hid (es.length = n ∧ True) := ⟨hlen, trivial⟩
  clear hlen
  have hw : Below w.heap.size w (w.alloc (Obj.cells #[Value.int IntKind.i64 E, Value.int IntKind.i64 O, Value.slice a n cap] 45)) := (Below.refl _ _).alloc (Nat.le_refl _) _
  go_enter Tryz.func66, Tryz.ntmps66
  go_wp2
  go_loopw [3, 9] (fun s i wr => ∃ (k z : Nat), k ≤ n ∧ i = .int .i64 k ∧ s = .int .i64 z ∧ z = 6 + 2 * k + elets (es.take k) ∧ Below w.heap.size w wr) (fun _ i _ => n - (intOf i).toNat)
  case atStart => exact ⟨0, 6, Nat.zero_le _, rfl, rfl, by simp [elets], hw⟩
  case round =>
    obtain ⟨k, z, hk, rfl, rfl, hz, hbel⟩ := hrel
    have HZ : Hid (z = 6 + 2 * k + elets (es.take k) ∧ True) := ⟨hz, trivial⟩
    have hzb : z ≤ 4000000 := by have := HLE.out k; omega
    clear hz
    by_cases hlt : k < n
    · obtain ⟨b, off, rfl, hb1, c0, c1, hby, hrg⟩ := (HB.out.below hbel (Nat.le_refl _)).pen k (by rw [HL.out.1]; exact hlt)
      have HT : Hid (elets (es.take (k + 1)) = elets (es.take k) + (es.getD k de).ls.length ∧ (es.getD k de).ls.length ≤ 1048576) := ⟨elets_take_succ es k (by rw [HL.out.1]; exact hlt), by have := elets_mem (getD_memE (es := es) (k := k) (by rw [HL.out.1]; exact hlt)); omega⟩
      generalize es.getD k de = s at *
      obtain ⟨sn, sa, sc, sl⟩ := s
      simp only at c0 c1 HT
      have hsl : sl.length ≤ 1048576 := HT.out.2
      have HZ2 : Hid (z + (2 + sl.length) = 6 + 2 * (k + 1) + elets (es.take (k + 1)) ∧ True) := ⟨by have h1 := HZ.out.1; have h2 := HT.out.1; omega, trivial⟩
      have HBW : Hid (Below w.heap.size w wr) := hbel
      clear hby hrg hbel
      go_wp2
      go_roundw
      case rel => exact ⟨k + 1, z + (2 + sl.length), by omega, by go_num, by go_num, HZ2.out.1, HBW.out.alloc (by have := HBW.out.size; omega) _⟩
      case measure => simp [intOf]; omega
    · have hkn : k = n := by omega
      subst hkn
      have HZ2 : Hid (z = Z ∧ True) := ⟨by have h1 := HZ.out.1; have h2 := HSZ.out; omega, trivial⟩
      go_wp2
      go_ret
      exact ⟨by rw [← HZ2.out.1]; rfl, hbel⟩
end Go.Proofs.YtihpnijjkjbmlaaGreatDoor
