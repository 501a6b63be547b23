/-
  RawRead, RawCrash and RawBarrier of the program at a device that is one.
-/
import Derived.Test.YtpedfcknmeeknaaDrRaw
import Derived.Test.YtpedfcknmeeknaaRawM
import Derived.Test.YtpedfcknmeeknaaRwWrI
import Derived.Test.YtpedfcknmeeknaaRwRdI
import Derived.Test.YtpedfcknmeeknaaRwSeI
import Derived.Test.YtpedfcknmeeknaaSameR2
namespace Go.Proofs.Ytpedfcknmeeknaa
open Go.RowKit
set_option linter.unusedVariables false
set_option linter.unusedSimpArgs false

/-- A device in a box. -/
structure DvF (W : World) (X : Nat) (sa pa : Option Addr) (sc pc n m : Nat) (es fs : List El) : Prop where
  i : RawI W sa pa es fs
  b : Box2 W X (.slice sa n sc) (.slice pa m pc)
theorem DvF.step {W W' : World} {X : Nat} {sa pa : Option Addr} {sc pc n m : Nat} {es fs : List El} (h : DvF W X sa pa sc pc n m es fs) (hb : Below W.heap.size W W') : DvF W' X sa pa sc pc n m es fs := ⟨h.i.below hb (Nat.le_refl _), h.b.keep hb h.b.lt⟩
theorem OVB.bytW {w : World} {B : Nat} {v : Value} {zs : List Int} (h : OVB w B v zs) : ∃ a c, v = .slice a zs.length c ∧ Byt w a zs := by
  obtain ⟨a, c, e, hm⟩ := h.mine
  exact ⟨a, c, e, hm.byt⟩
/-- Read at a place of a device that is one. -/
theorem readAt (sa pa : Option Addr) (sc pc n m : Nat) (es fs : List El) (s : Nat) (zs : List Int) (w : World) (h : RawI w sa pa es fs) (hr : Rok es fs) (hn : es.length = n) (hm : fs.length = m) (hs : s < n) (hz : (rdE es fs (s : Int)).ls = zs) :
    Calls Try.prog 9 #[.agg #[.slice sa n sc, .slice pa m pc], .int .i64 (s : Nat)] w fun e w' => (∃ a c, e = .returned (.tuple #[.slice a zs.length c, .bool true]) ∧ Byt w' a zs) ∧ Below w.heap.size w w' := by
  have h1 := hr.2.1
  have h2 := hr.2.2.1
  have h9 := implRawRead_any sa pa sc pc es fs (s : Int) w h (by omega) (by omega) (fun s hs => by have := hr.lens.1 s hs; omega) (fun s hs => by have := hr.lens.2 s hs; omega)
  have hy := rd_yes (x := s) (rok_yes hr) (by omega)
  rw [hn, hm, hy.1, hy.2, hz] at h9
  refine h9.mono ?_
  rintro e w' ⟨⟨v, rfl, hov⟩, hb⟩
  obtain ⟨a, c, rfl, hby⟩ := hov.bytW
  exact ⟨⟨a, c, rfl, hby⟩, hb⟩
theorem crashAt (sa pa : Option Addr) (sc pc n m : Nat) (es fs : List El) (ka : Option Addr) (kc : Nat) (ks : List Bool) (kn : Nat) (w : World) (h : RawI w sa pa es fs) (hk : Bos w ka ks) (hr : Rok es fs) (hn : es.length = n) (hm : fs.length = m) (hkn : ks.length = kn) (hk2 : kn ≤ 1000) :
    Calls Try.prog 11 #[.agg #[.slice sa n sc, .slice pa m pc], .slice ka kn kc] w fun e w' => (∃ ya yp yc yq ys, e = .returned (.tuple #[.agg #[.slice ya n yc, .slice yp 0 yq], .bool true]) ∧ (ys.map El.ct = (setl es fs (kep false ks) m).map El.ct ∧ ys.length = n ∧ Rok ys []) ∧ RawI w' ya yp ys []) ∧ Below w.heap.size w w' := by
  have h1 := hr.2.1
  have h2 := hr.2.2.1
  have h9 := implRawCrash_any sa pa sc pc es fs ka kc ks w h hk (by omega) (by omega) (fun s hs => by have := hr.lens.1 s hs; omega) (fun s hs => by have := hr.lens.2 s hs; omega) (by omega)
  rw [hn, hm, hkn, show crB es fs ks = true from rok_yes hr] at h9
  refine h9.mono ?_
  rintro e w' ⟨⟨v, u, ys, qs, rfl, ⟨hc, hq⟩, hro⟩, hb⟩
  have hq0 : qs = [] := List.map_eq_nil_iff.1 hq
  subst hq0
  obtain ⟨ya, yc, yp, yq, rfl, rfl⟩ := hro.form
  have hc2 : ys.map El.ct = (setl es fs (kep false ks) fs.length).map El.ct := by rw [hc]; exact se_yes (rok_yes hr) _ _
  have hok := hr.settled hc2
  rw [hm] at hc2
  exact ⟨⟨ya, yp, yc, yq, ys, by rw [hok.2, hn]; rfl, ⟨hc2, by omega, hok.1⟩, hro.inn⟩, hb⟩
theorem barrierAt (sa pa : Option Addr) (sc pc n m : Nat) (es fs : List El) (w : World) (h : RawI w sa pa es fs) (hr : Rok es fs) (hn : es.length = n) (hm : fs.length = m) :
    Calls Try.prog 10 #[.agg #[.slice sa n sc, .slice pa m pc]] w fun e w' => (∃ ya yp yc yq ys, e = .returned (.tuple #[.agg #[.slice ya n yc, .slice yp 0 yq], .bool true]) ∧ (ys.map El.ct = (setl es fs (kep true []) fs.length).map El.ct ∧ ys.length = n ∧ Rok ys []) ∧ RawI w' ya yp ys []) ∧ Below w.heap.size w w' := by
  have h1 := hr.2.1
  have h2 := hr.2.2.1
  have h9 := implRawBarrier_any sa pa sc pc es fs w h (by omega) (by omega) (fun s hs => by have := hr.lens.1 s hs; omega) (fun s hs => by have := hr.lens.2 s hs; omega)
  rw [hn, hm, show brB es fs = true from rok_yes hr] at h9
  refine h9.mono ?_
  rintro e w' ⟨⟨v, u, ys, qs, rfl, ⟨hc, hq⟩, hro⟩, hb⟩
  have hq0 : qs = [] := List.map_eq_nil_iff.1 hq
  subst hq0
  obtain ⟨ya, yc, yp, yq, rfl, rfl⟩ := hro.form
  have hc2 : ys.map El.ct = (setl es fs (kep true []) fs.length).map El.ct := by rw [hc]; exact se_yes (rok_yes hr) _ _
  have hok := hr.settled hc2
  exact ⟨⟨ya, yp, yc, yq, ys, by rw [hok.2, hn]; rfl, ⟨hc2, by omega, hok.1⟩, hro.inn⟩, hb⟩
end Go.Proofs.Ytpedfcknmeeknaa
