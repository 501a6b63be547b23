/-
  Which are kept, drawn; DrawRawCrash of the model.
-/
import Derived.Test.YtklpjdeccplhbaaDrBent
import Derived.Deep.AppendLies
namespace Go.Proofs.Ytklpjdeccplhbaa
open Go.RowKit
set_option linter.unusedVariables false
set_option linter.unusedSimpArgs false

/-- A slice value (nil, or a row of the call's own from block B on) that has the bools ks. -/
def OVo (w : World) (B : Nat) (v : Value) (ks : List Bool) : Prop := w.ownsRow B 4 1 v ks.length (ks.map Value.bool)
section
variable {S : Nat → Prop} {w w' : World} {B : Nat} {v : Value} {ks : List Bool}
theorem OVo.nil (w : World) (B : Nat) : OVo w B (.slice none 0 0) [] := ⟨rfl, .inl ⟨rfl, rfl⟩⟩
theorem OVo.form (h : OVo w B v ks) : ∃ (a : Option Addr) (c : Nat), v = .slice a ks.length c := by
  rcases h.2 with ⟨rfl, h0⟩ | ⟨g, cap, cur, rfl, _⟩
  · exact ⟨none, 0, by rw [h0]⟩
  · exact ⟨_, _, rfl⟩
theorem OVo.blk (h : OVo w B v ks) {k : Nat} (hk : v.ownBlock = some k) : B ≤ k := by
  rcases h.2 with ⟨rfl, h0⟩ | ⟨g, cap, cur, rfl, hg, _⟩
  · simp [Value.ownBlock] at hk
  · simp [Value.ownBlock] at hk
    omega
theorem OVo.stay (h : OVo w B v ks) (ho : Only S w w') (hs : ∀ k, B ≤ k → ¬ S k) : OVo w' B v ks := by
  refine ⟨h.1, ?_⟩
  rcases h.2 with h' | ⟨g, cap, cur, rfl, hg, hh, r⟩
  · exact .inl h'
  · exact .inr ⟨g, cap, cur, rfl, hg, (ho.block g (Array.getElem?_eq_some_iff.1 hh).1 (hs g hg)).trans hh, r⟩
theorem OVo.bos {a : Option Addr} {n c : Nat} (h : OVo w B (.slice a n c) ks) : Bos w a ks ∧ (∀ k, rowOf a k → B ≤ k) := by
  rcases h.2 with ⟨e, h0⟩ | ⟨g, cap, cur, e, hg, hh, r⟩
  · injection e with e1 e2 e3
    subst e1
    have : ks = [] := List.length_eq_zero_iff.1 h0
    subst this
    exact ⟨by simp [Bos], by rintro k ⟨x, e, _⟩; simp at e⟩
  · injection e with e1 e2 e3
    subst e1 e2 e3
    refine ⟨fun _ => ⟨g, 0, rfl, (Array.getElem?_eq_some_iff.1 hh).1, fun i hi => ?_⟩, ?_⟩
    · have h9 := World.ownsRow.cellAt h i (by omega)
      rw [Nat.zero_add, h9]
      simp [List.getD_eq_getElem?_getD, hi]
    · rintro k ⟨x, e, rfl⟩
      simp at e
      subst e
      exact hg
end

set_option maxRecDepth 20000 in
set_option maxHeartbeats 4000000 in
theorem Dr.keep6 {w0 w : World} {B R : Nat} {a : Option Addr} {bs : List Int} {cap : Nat} (h : Dr w0 w B R a bs cap) :
    Calls Try.prog 32 #[.pointer (some ⟨R, 0, none⟩)] w fun e w' => (∃ (v : Value) (ks : List Bool), e = .returned v ∧ OVo w' w.heap.size v ks ∧ ks.length ≤ 7) ∧ Dr w0 w' B R a bs cap ∧ Only (fun k => k = R) w w' := by
  have hRl := h.cur.lt
  have HRB : Hid (B ≤ R ∧ R < w.heap.size) := hRl
  have H : Hid (Dr w0 w B R a bs cap) := h
  obtain ⟨i0, hi, hz0, hz1, hz2⟩ := info_parts Try.infoBool
  clear h
  go_enter Try.func32, Try.ntmps32
  go_wp2_with fail
  refine (H.out.below 8 (by omega) (by omega)).mono ?_
  rintro e w1 ⟨⟨n, hn0, hn8, rfl⟩, hd1, ho1⟩
  obtain ⟨n, rfl⟩ := Int.eq_ofNat_of_zero_le hn0
  have HS0 : Hid (Dr w0 w1 B R a bs cap ∧ Only (fun k => k = R) w w1) := ⟨hd1, ho1⟩
  clear hd1 ho1 H
  go_wp2
  go_loopw [3, 5] (fun o i wr => ∃ (k : Nat) (ks : List Bool), k ≤ n ∧ ks.length ≤ k ∧ i = .int .i64 k ∧ OVo wr w.heap.size o ks ∧ Dr w0 wr B R a bs cap ∧ Only (fun k => k = R) w wr) (fun _ i _ => n - (intOf i).toNat)
  case atStart => exact ⟨0, [], Nat.zero_le _, Nat.le_refl _, rfl, OVo.nil _ _, HS0.out.1, HS0.out.2⟩
  case round =>
    clear HS0
    obtain ⟨k, ks, hk, hkk, rfl, hov, hdr, hon⟩ := hrel
    obtain ⟨au, cu, rfl⟩ := hov.form
    have HS : Hid (OVo wr w.heap.size (.slice au ks.length cu) ks ∧ Dr w0 wr B R a bs cap ∧ Only (fun k => k = R) w wr ∧ ks.length ≤ k) := ⟨hov, hdr, hon, hkk⟩
    clear hov hdr hon hkk
    by_cases hlt : k < n
    · go_wp2_with fail
      refine (HS.out.2.1.once 2 (by omega) (by omega)).mono ?_
      rintro e WW ⟨⟨b, rfl⟩, hd2, ho2⟩
      have hzW : w.heap.size ≤ WW.heap.size := Nat.le_trans HS.out.2.2.1.size ho2.size
      have HS2 : Hid (OVo WW w.heap.size (.slice au ks.length cu) ks ∧ Dr w0 WW B R a bs cap ∧ Only (fun k => k = R) w WW ∧ ks.length ≤ k) := ⟨HS.out.1.stay ho2 (fun k hk e => by omega), hd2, HS.out.2.2.1.trans ho2, HS.out.2.2.2⟩
      clear hd2 ho2 HS
      have hu : WW.ownsRow w.heap.size 4 1 (.slice au ks.length cu) ks.length (ks.map Value.bool) := HS2.out.1
      have HN3 : Hid (ks.length + 1 ≤ 31) := by have := HS2.out.2.2.2; unfold Hid; omega
      go_wp2_with (at_builtin; (refine wpList_append_lies _ rfl (.tmp 13) (.tmp 16) 36 rfl w.heap.size 4 i0 (.bool false) 1 1 Try.underlying36 hi hz0 hz1 hz2 rfl (by decide) (.slice au ks.length cu) ks.length (ks.map Value.bool) rfl (hu.alloc _) ⟨WW.heap.size, 0, none⟩ 1 1 [.bool b] rfl rfl (by intro j y hj; match j, hj with | 0, hj => (simp at hj; subst hj; simp [Addr.add])) (by intro y hy; simp at hy; subst hy; rfl) (by have := HN3.out; omega) (by have := HN3.out; unfold maxLen; omega) (by have := HN3.out; omega) (by simp; omega) _ rfl ?_); intro g cap1 w6 hown hgrow hat hlt1)
      have hO6' : Only (fun j => (Value.slice au ks.length cu).ownBlock = some j) WW w6 := Only.grown (Only.alloc (Only.refl _ _) _) hgrow (fun j hj => .inl hj)
      have HF6 : Hid (OVo w6 w.heap.size (.slice (some ⟨g, 0, none⟩) (ks.length + 1) cap1) (ks ++ [b]) ∧ Dr w0 w6 B R a bs cap ∧ Only (fun k => k = R) w w6) := by
        refine ⟨?_, HS2.out.2.1.other hO6' (fun hk => by have := HS2.out.1.blk hk; have := HRB.out; omega) (fun j hj => by have := HS2.out.1.blk hj; have := HRB.out; omega), HS2.out.2.2.1.trans' hO6' (fun j hj => HS2.out.1.blk hj)⟩
        have h9 := hown
        unfold OVo
        rw [List.length_append, List.length_singleton, List.map_append]
        exact h9
      have HK6 : Hid ((ks ++ [b]).length ≤ k + 1) := by have := HS2.out.2.2.2; unfold Hid; simp; omega
      clear hown hgrow hat hlt1 hO6' hu HS2
      go_wp2
      go_roundw
      case rel => exact ⟨k + 1, ks ++ [b], by omega, HK6.out, by go_num, by simpa using HF6.out.1, HF6.out.2.1, HF6.out.2.2⟩
      case measure => simp [intOf]; omega
    · go_wp2
      go_ret
      exact ⟨⟨_, ks, rfl, HS.out.1, by have := HS.out.2.2.2; omega⟩, HS.out.2.1, HS.out.2.2.1⟩
end Go.Proofs.Ytklpjdeccplhbaa
