/-
  What DrawFseGet draws: some shares, some bits, a number.
-/
import Derived.Test.YtmhpgkfaihcmeaaDoorBox2
import Derived.Test.YtmhpgkfaihcmeaaDoorFp8
import Derived.Test.YtmhpgkfaihcmeaaDoorFr1
import Derived.Test.YtmhpgkfaihcmeaaDoorEncB
namespace Go.Proofs.YtmhpgkfaihcmeaaDoor
open Go.RowKit
set_option linter.unusedVariables false
set_option linter.unusedSimpArgs false

theorem xor8F (a b : Int) : 0 ≤ bits .xor .u8 a b ∧ bits .xor .u8 a b ≤ 255 := by
  have h : bits .xor .u8 a b = IntKind.u8.wrap ((BitVec.ofInt 8 a ^^^ BitVec.ofInt 8 b).toNat : Int) := rfl
  have h2 := (BitVec.ofInt 8 a ^^^ BitVec.ofInt 8 b).isLt
  rw [h, IntWalk.u8_in _ (by omega)]
  omega
theorem OVI.stayX {S : Nat → Prop} {w w' : World} {B : Nat} {v : Value} {zs : List Int} (h : OVI w B v zs) (ho : Only S w w') (hs : ∀ k, v.ownBlock = some k → ¬ S k) : OVI w' B v zs := by
  refine ⟨⟨h.1.1, ?_⟩, h.2⟩
  rcases h.1.2 with h' | ⟨g, cap, cur, rfl, hg, hh, r⟩
  · exact .inl h'
  · exact .inr ⟨g, cap, cur, rfl, hg, (ho.block g (Array.getElem?_eq_some_iff.1 hh).1 (hs g rfl)).trans hh, r⟩
theorem OVI.insX {w : World} {B n c : Nat} {a : Option Addr} {l : List Int} (h : OVI w B (.slice a n c) l) : Ins w a l := by
  obtain ⟨a', cp, he, hm⟩ := h.mine
  simp at he
  obtain ⟨rfl, _⟩ := he
  exact hm.byt
theorem OVI.neX {w : World} {B C g cp : Nat} {v : Value} {zs ys : List Int} (h : OVI w B v zs) (ho : Own w C g cp ys) : ¬ v.ownBlock = some g := by
  intro hk
  rcases h.1.2 with ⟨rfl, _⟩ | ⟨k, cap, cur, rfl, hg, hh, r⟩
  · simp [Value.ownBlock] at hk
  · simp [Value.ownBlock] at hk
    exact ho.ne hh (by decide) hk.symm

/-- Shares of the call's own, and bits at X whose bytes are the call's own. -/
structure FX (W : World) (C X : Nat) (v : Value) (l : List Int) (a' : Option Addr) (cp L N : Nat) : Prop where
  box : Box2 W X (.slice a' L cp) (.int .i64 N)
  row : OVI W C v l
  hC : C ≤ X
  own : ∃ ys : List Int, ys.length = L ∧ ((a' = none ∧ ys = []) ∨ ∃ g, a' = some ⟨g, 0, none⟩ ∧ g < X ∧ Own W C g cp ys)
section
variable {W W' : World} {C X : Nat} {v : Value} {l : List Int} {a' : Option Addr} {cp L N : Nat}
theorem FX.only {S : Nat → Prop} (h : FX W C X v l a' cp L N) (ho : Only S W W') (hs : ∀ k, C ≤ k → ¬ S k) : FX W' C X v l a' cp L N := by
  refine ⟨h.box.only ho (hs X h.hC), h.row.stayX ho (fun k hk => hs k (h.row.blk hk)), h.hC, ?_⟩
  obtain ⟨ys, hl, h' | ⟨g, e, hg, hw⟩⟩ := h.own
  · exact ⟨ys, hl, .inl h'⟩
  · exact ⟨ys, hl, .inr ⟨g, e, hg, hw.only ho (hs g hw.lt.1)⟩⟩
theorem FX.byt (h : FX W C X v l a' cp L N) : ∃ ys : List Int, ys.length = L ∧ Byt W a' ys := by
  obtain ⟨ys, hl, ⟨rfl, rfl⟩ | ⟨g, rfl, hg, hw⟩⟩ := h.own
  · exact ⟨[], hl, by simp, by simp⟩
  · exact ⟨ys, hl, hw.byt⟩
theorem FX.cell (h : FX W C X v l a' cp L N) (hL : 0 < L) : ∃ g, a' = some ⟨g, 0, none⟩ ∧ g < X ∧ C ≤ g ∧ (∀ i, i < L → ∃ z, W.cell? ⟨g, i, none⟩ = some (.int .u8 z)) ∧ (∀ i, W.frozen? ⟨g, i, none⟩ = false) ∧ ∀ (i : Nat) (z : Int), 0 ≤ z ∧ z ≤ 255 → FX (W.setCell ⟨g, i, none⟩ (.int .u8 z)) C X v l a' cp L N := by
  obtain ⟨ys, hl, ⟨rfl, rfl⟩ | ⟨g, rfl, hg, hw⟩⟩ := h.own
  · simp at hl
    omega
  · refine ⟨g, rfl, hg, hw.lt.1, fun i hi => ⟨_, hw.cell i (by omega)⟩, fun i => hw.frozen i, fun i z hz => ?_⟩
    have hon : Only (fun b => b = g) W (W.setCell ⟨g, i, none⟩ (.int .u8 z)) := (Only.refl (fun b => b = g) W).setCell (p := ⟨g, i, none⟩) (.inl rfl) _
    exact ⟨h.box.other (by simp only; omega) _, h.row.stayX hon (fun k hk e => h.row.neX hw (e ▸ hk)), h.hC, ys.set i z, by simpa using hl, .inr ⟨g, rfl, hg, hw.store i z hz⟩⟩
end

theorem specFsePut_some (a : Option Addr) (ca : Nat) (ls : List Int) (b : Option Addr) (cb : Nat) (ts : List Int) (w : World) (ha : Ins w a ls) (hb : Ins w b ts) (hl1 : ls.length ≤ 281474976710656) (hl2 : ts.length ≤ 281474976710656) :
    Calls Tryd.prog 32 #[.slice a ls.length ca, .slice b ts.length cb] w fun e w' => ∃ (a' : Option Addr) (cp : Nat) (ys : List Int) (N : Nat) (ok : Bool), e = .returned (.tuple #[.agg #[.slice a' ys.length cp, .int .i64 N], .bool ok]) ∧ N ≤ 1806 ∧ ys.length = (N + 7) / 8 ∧ Mine w' w.heap.size w'.heap.size a' cp ys ∧ Below w.heap.size w w' := by
  by_cases h : fpArgs ls ts ∧ shd ls ts
  · refine (specFsePut_ok a ca ls b cb ts _ w ha hb h.1.1 h.1.2 h.2 rfl).mono ?_
    rintro e w' ⟨a', cp, rfl, hm, hbl⟩
    exact ⟨a', cp, _, _, true, rfl, fN_le (tabU_tb h.1.1).toTab (fun k hk => txtB_get h.1.2 k hk) h.2 (txtB_bnd h.1.2).2.2, enc_len _ _, hm, hbl⟩
  · refine (specFsePut_no a ca ls b cb ts w ha hb hl1 hl2 h).mono ?_
    rintro e w' ⟨rfl, hbl⟩
    exact ⟨none, 0, [], 0, false, rfl, by omega, rfl, .inl ⟨rfl, rfl, rfl⟩, hbl⟩

set_option maxRecDepth 20000 in
set_option maxHeartbeats 4000000 in
theorem drawFseGet_any (a : Option Addr) (bs : List Int) (cap : Nat) (w : World) (hb : Byt w a bs) (hl : bs.length ≤ maxLen) :
    Calls Tryd.prog 12 #[.slice a bs.length cap] w fun e w' => ∃ (v : Value) (l : List Int) (a' : Option Addr) (cp : Nat) (ys : List Int) (N n : Int), e = .returned (.tuple #[v, .agg #[.slice a' ys.length cp, .int .i64 N], .int .i64 n]) ∧ OVI w' w.heap.size v l ∧ l.length ≤ 81 ∧ Byt w' a' ys ∧ ys.length ≤ 600 ∧ -1 ≤ n ∧ n ≤ 32 ∧ Below w.heap.size w w' := by
  have hw : Below w.heap.size w (w.alloc (Obj.cells #[Value.slice none 0 0, Value.int IntKind.i64 0] 27)) := (Below.refl _ _).alloc (Nat.le_refl _) _
  have HIN0 : Hid (Byt (w.alloc (Obj.cells #[Value.slice none 0 0, Value.int IntKind.i64 0] 27)) a bs) := hb.below hw (Nat.le_refl _)
  have HR : Hid (Box2 (w.alloc (Obj.cells #[Value.slice none 0 0, Value.int IntKind.i64 0] 27)) w.heap.size (.slice none 0 0) (.int .i64 0) ∧ Below w.heap.size w (w.alloc (Obj.cells #[Value.slice none 0 0, Value.int IntKind.i64 0] 27))) := ⟨Box2.new _ _ _ _, hw⟩
  clear hw
  go_enter Tryd.func12, Tryd.ntmps12
  go_wp2_with fail
  generalize w.alloc (Obj.cells #[Value.slice none 0 0, Value.int IntKind.i64 0] 27) = W at *
  refine (l1New_any a bs cap W HIN0.out hl).mono ?_
  rintro e w1 ⟨rfl, hd1⟩
  have hR1 := hd1.cur.lt
  have HD1 : Hid (Dr W w1 W.heap.size W.heap.size a bs cap ∧ Byt w1 a bs) := ⟨hd1, HIN0.out.below hd1.bel (Nat.le_refl _)⟩
  have HWB : Hid (w.heap.size < W.heap.size) := HR.out.1.lt
  clear hd1 HIN0 hb
  generalize hB : W.heap.size = B at *
  clear hB
  have HDP := drawFsePut_any a bs cap w1 HD1.out.2 hl
  go_wp2_with fail
  refine HDP.mono ?_
  clear HDP
  rintro e w2 ⟨v, u, l, t, rfl, hov, hot, hl81, ht30, hb2⟩
  obtain ⟨al, cl, rfl⟩ := hov.form
  obtain ⟨at0, ct, rfl⟩ := hot.form
  have HD2 : Hid (Dr W w2 B B a bs cap) := HD1.out.1.other (S := fun _ => False) (Only.ofBelow hb2 (Nat.le_refl _)) (by simp) (by simp)
  have HFP := specFsePut_some al cl l at0 ct t w2 hov.insX hot.insX (by omega) (by omega)
  have HOV : Hid (OVI w2 w1.heap.size (.slice al l.length cl) l ∧ w1.heap.size ≤ w2.heap.size) := ⟨hov, hb2.size⟩
  clear hov hot hb2 HD1
  go_wp2_with fail
  refine HFP.mono ?_
  clear HFP
  rintro e w3 ⟨a', cp, ys, N, ok, rfl, hN, hys, hm, hb3⟩
  have hal : Below w3.heap.size w3 (w3.alloc (Obj.cells #[.slice a' ys.length cp, .int .i64 N] 27)) := (Below.refl _ _).alloc (Nat.le_refl _) _
  have HD4 : Hid (Dr W (w3.alloc (Obj.cells #[.slice a' ys.length cp, .int .i64 N] 27)) B B a bs cap) := (HD2.out.other (S := fun _ => False) (Only.ofBelow hb3 (Nat.le_refl _)) (by simp) (by simp)).other (S := fun _ => False) (Only.ofBelow hal (Nat.le_refl _)) (by simp) (by simp)
  have HFX : Hid (FX (w3.alloc (Obj.cells #[.slice a' ys.length cp, .int .i64 N] 27)) w1.heap.size w3.heap.size (.slice al l.length cl) l a' cp ys.length N) := by
    have h9 := HOV.out.2
    have h8 := hb3.size
    refine ⟨Box2.new _ _ _ _, (HOV.out.1.stayX (Only.ofBelow (S := fun _ => False) hb3 (Nat.le_refl _)) (by simp)).stayX (Only.ofBelow (S := fun _ => False) hal (Nat.le_refl _)) (by simp), by omega, ys, rfl, ?_⟩
    rcases hm with ⟨rfl, rfl, rfl⟩ | ⟨g, rfl, hg1, hg2, ho⟩
    · exact .inl ⟨rfl, rfl⟩
    · exact .inr ⟨g, rfl, hg2, (ho.only (Only.ofBelow (S := fun _ => False) hal (Nat.le_refl _)) (by simp)).mono h9⟩
  have HYL : Hid (ys.length = (N + 7) / 8) := hys
  clear hm hb3 hal HOV HD2 hys
  generalize ys.length = L at *
  go_wp2_with fail
  generalize w3.alloc (Obj.cells #[.slice a' L cp, .int .i64 N] 27) = w4 at *
  generalize w3.heap.size = X at *
  have hCB : B < w1.heap.size := hR1.2
  generalize w1.heap.size = C at *
  refine (HD4.out.once 5 (by omega) (by omega)).mono ?_
  rintro e w5 ⟨⟨b1, rfl⟩, hd5, ho5⟩
  have HF5 : Hid (FX w5 C X (.slice al l.length cl) l a' cp L N ∧ Dr W w5 B B a bs cap) := ⟨HFX.out.only ho5 (fun k hk => by omega), hd5⟩
  clear hd5 ho5 HFX HD4
  cases b1
  · skip
    go_wp2_with fail
    refine (HF5.out.2.once 4 (by omega) (by omega)).mono ?_
    rintro e w7 ⟨⟨b2, rfl⟩, hd7, ho7⟩
    have HF7 : Hid (FX w7 C X (.slice al l.length cl) l a' cp L N ∧ Dr W w7 B B a bs cap) := ⟨HF5.out.1.only ho7 (fun k hk => by omega), hd7⟩
    clear hd7 ho7 HF5
    cases b2
    · skip
      have HRB : Hid (Box2 w7 w.heap.size (.slice none 0 0) (.int .i64 0)) := HR.out.1.keep HF7.out.2.bel HWB.out
      have HBB : Hid (Below w.heap.size w w7) := HR.out.2.trans (HF7.out.2.bel.mono (by have := HWB.out; omega))
      obtain ⟨x0, x1, x2, x3, xl⟩ := HF7.out.1.box
      obtain ⟨r0, r1, r2, r3, rl⟩ := HRB.out
      have hXw : ¬ X = w.heap.size := by have := HWB.out; have := HF7.out.1.hC; omega
      go_wp2
      go_region
      have HON : Hid (∀ p q : Value, Only (fun b => b = w.heap.size) w7 ((w7.setCell ⟨w.heap.size, 0, none⟩ p).setCell ⟨w.heap.size, 1, none⟩ q)) := fun p q => ((Only.refl (fun b => b = w.heap.size) w7).setCell (p := ⟨w.heap.size, 0, none⟩) (.inl rfl) _).setCell (p := ⟨w.heap.size, 1, none⟩) (.inl rfl) _
      have hwB := HWB.out
      have hff := HF7.out.1.only (HON.out (.slice a' L cp) (.int .i64 N)) (fun k hk => by omega)
      have hbb : Below w.heap.size w ((w7.setCell ⟨w.heap.size, 0, none⟩ (.slice a' L cp)).setCell ⟨w.heap.size, 1, none⟩ (.int .i64 N)) := (HBB.out.setCell (p := ⟨w.heap.size, 0, none⟩) (by simp) _).setCell (p := ⟨w.heap.size, 1, none⟩) (by simp) _
      obtain ⟨ys9, hl9, hy9⟩ := hff.byt
      have HFIN : Hid (OVI ((w7.setCell ⟨w.heap.size, 0, none⟩ (.slice a' L cp)).setCell ⟨w.heap.size, 1, none⟩ (.int .i64 N)) w.heap.size (.slice al l.length cl) l ∧ Byt ((w7.setCell ⟨w.heap.size, 0, none⟩ (.slice a' L cp)).setCell ⟨w.heap.size, 1, none⟩ (.int .i64 N)) a' ys9 ∧ Below w.heap.size w ((w7.setCell ⟨w.heap.size, 0, none⟩ (.slice a' L cp)).setCell ⟨w.heap.size, 1, none⟩ (.int .i64 N)) ∧ ys9.length = L) := ⟨hff.row.weakD (by omega), hy9, hbb, hl9⟩
      clear hff hbb hy9 hl9
      go_wp2
      refine bodyPost_ret (v := .tuple #[.slice al l.length cl, .agg #[.slice a' L cp, .int .i64 (N : Nat)], .int .i64 ((t.length : Int))]) (by simp [results, Tryd.results12, go_sem, r0, r1]) rfl ⟨_, l, a', cp, ys9, (N : Nat), (t.length : Int), by rw [HFIN.out.2.2.2], ?_, hl81, ?_, by have := HYL.out; have := HFIN.out.2.2.2; omega, by omega, by omega, ?_⟩
      · first | exact HFIN.out.1 | exact HFIN.out.1.stayX (S := fun _ => False) (Only.drew (Only.refl _ _)) (by simp)
      · first | exact HFIN.out.2.1 | exact HFIN.out.2.1.drewN 1
      · first | exact HFIN.out.2.2.1 | exact HFIN.out.2.2.1.drew
    · obtain ⟨c0, c1, -, -, cl0⟩ := HF7.out.1.box
      by_cases hN0 : 0 < N
      · have hNp : (0 : Int) < (N : Int) := by omega
        go_wp2_with fail
        refine (HF7.out.2.belowBig N (by omega) (by omega)).mono ?_
        rintro e w8 ⟨⟨i, hi1, hi2, rfl⟩, hd8, ho8⟩
        obtain ⟨i, rfl⟩ := Int.eq_ofNat_of_zero_le hi1
        have hf8 := HF7.out.1.only ho8 (fun k hk => by omega)
        have hiL : i / 8 < L := by have := HYL.out; omega
        obtain ⟨gb, rfl, hgX, hgC, hz8, hfz8, hst⟩ := hf8.cell (by omega)
        obtain ⟨z, hz⟩ := hz8 (i / 8) hiL
        have hf0 := hfz8 (i / 8)
        obtain ⟨d0, d1, -, -, dl⟩ := hf8.box
        have HF9 : Hid (FX (w8.setCell ⟨gb, i / 8, none⟩ (.int .u8 (bits .xor .u8 z (2 ^ (i % 8) % 256)))).drew C X (.slice al l.length cl) l (some ⟨gb, 0, none⟩) cp L N ∧ Dr W (w8.setCell ⟨gb, i / 8, none⟩ (.int .u8 (bits .xor .u8 z (2 ^ (i % 8) % 256)))).drew B B a bs cap) := ⟨(hst (i / 8) _ (xor8F z (2 ^ (i % 8) % 256))).only (S := fun _ => False) (Only.drew (Only.refl _ _)) (by simp), hd8.other (S := fun b => b = gb) (Only.setCell (S := fun b => b = gb) (Only.refl (fun b => b = gb) w8) (p := ⟨gb, i / 8, none⟩) (.inl rfl) _).drew (by omega) (fun b hb => by omega)⟩
        clear hd8 ho8 hf8 hz8 hfz8 hst c0 c1 HF7
        go_wp2
        go_region
        generalize (w8.setCell ⟨gb, i / 8, none⟩ (.int .u8 (bits .xor .u8 z (2 ^ (i % 8) % 256)))).drew = w9 at *
        clear d0 d1 hz hf0
        have HRB : Hid (Box2 w9 w.heap.size (.slice none 0 0) (.int .i64 0)) := HR.out.1.keep HF9.out.2.bel HWB.out
        have HBB : Hid (Below w.heap.size w w9) := HR.out.2.trans (HF9.out.2.bel.mono (by have := HWB.out; omega))
        obtain ⟨x0, x1, x2, x3, xl⟩ := HF9.out.1.box
        obtain ⟨r0, r1, r2, r3, rl⟩ := HRB.out
        have hXw : ¬ X = w.heap.size := by have := HWB.out; have := HF9.out.1.hC; omega
        go_wp2
        go_region
        have HON : Hid (∀ p q : Value, Only (fun b => b = w.heap.size) w9 ((w9.setCell ⟨w.heap.size, 0, none⟩ p).setCell ⟨w.heap.size, 1, none⟩ q)) := fun p q => ((Only.refl (fun b => b = w.heap.size) w9).setCell (p := ⟨w.heap.size, 0, none⟩) (.inl rfl) _).setCell (p := ⟨w.heap.size, 1, none⟩) (.inl rfl) _
        have hwB := HWB.out
        have hff := HF9.out.1.only (HON.out (.slice (some ⟨gb, 0, none⟩) L cp) (.int .i64 N)) (fun k hk => by omega)
        have hbb : Below w.heap.size w ((w9.setCell ⟨w.heap.size, 0, none⟩ (.slice (some ⟨gb, 0, none⟩) L cp)).setCell ⟨w.heap.size, 1, none⟩ (.int .i64 N)) := (HBB.out.setCell (p := ⟨w.heap.size, 0, none⟩) (by simp) _).setCell (p := ⟨w.heap.size, 1, none⟩) (by simp) _
        obtain ⟨ys9, hl9, hy9⟩ := hff.byt
        have HFIN : Hid (OVI ((w9.setCell ⟨w.heap.size, 0, none⟩ (.slice (some ⟨gb, 0, none⟩) L cp)).setCell ⟨w.heap.size, 1, none⟩ (.int .i64 N)) w.heap.size (.slice al l.length cl) l ∧ Byt ((w9.setCell ⟨w.heap.size, 0, none⟩ (.slice (some ⟨gb, 0, none⟩) L cp)).setCell ⟨w.heap.size, 1, none⟩ (.int .i64 N)) (some ⟨gb, 0, none⟩) ys9 ∧ Below w.heap.size w ((w9.setCell ⟨w.heap.size, 0, none⟩ (.slice (some ⟨gb, 0, none⟩) L cp)).setCell ⟨w.heap.size, 1, none⟩ (.int .i64 N)) ∧ ys9.length = L) := ⟨hff.row.weakD (by omega), hy9, hbb, hl9⟩
        clear hff hbb hy9 hl9
        go_wp2
        refine bodyPost_ret (v := .tuple #[.slice al l.length cl, .agg #[.slice (some ⟨gb, 0, none⟩) L cp, .int .i64 (N : Nat)], .int .i64 ((t.length : Int))]) (by simp [results, Tryd.results12, go_sem, r0, r1]) rfl ⟨_, l, some ⟨gb, 0, none⟩, cp, ys9, (N : Nat), (t.length : Int), by rw [HFIN.out.2.2.2], ?_, hl81, ?_, by have := HYL.out; have := HFIN.out.2.2.2; omega, by omega, by omega, ?_⟩
        · first | exact HFIN.out.1 | exact HFIN.out.1.stayX (S := fun _ => False) (Only.drew (Only.refl _ _)) (by simp)
        · first | exact HFIN.out.2.1 | exact HFIN.out.2.1.drewN 1
        · first | exact HFIN.out.2.2.1 | exact HFIN.out.2.2.1.drew
      · have hNp : ¬ (0 : Int) < (N : Int) := by omega
        have HRB : Hid (Box2 w7 w.heap.size (.slice none 0 0) (.int .i64 0)) := HR.out.1.keep HF7.out.2.bel HWB.out
        have HBB : Hid (Below w.heap.size w w7) := HR.out.2.trans (HF7.out.2.bel.mono (by have := HWB.out; omega))
        obtain ⟨x0, x1, x2, x3, xl⟩ := HF7.out.1.box
        obtain ⟨r0, r1, r2, r3, rl⟩ := HRB.out
        have hXw : ¬ X = w.heap.size := by have := HWB.out; have := HF7.out.1.hC; omega
        go_wp2
        go_region
        have HON : Hid (∀ p q : Value, Only (fun b => b = w.heap.size) w7 ((w7.setCell ⟨w.heap.size, 0, none⟩ p).setCell ⟨w.heap.size, 1, none⟩ q)) := fun p q => ((Only.refl (fun b => b = w.heap.size) w7).setCell (p := ⟨w.heap.size, 0, none⟩) (.inl rfl) _).setCell (p := ⟨w.heap.size, 1, none⟩) (.inl rfl) _
        have hwB := HWB.out
        have hff := HF7.out.1.only (HON.out (.slice a' L cp) (.int .i64 N)) (fun k hk => by omega)
        have hbb : Below w.heap.size w ((w7.setCell ⟨w.heap.size, 0, none⟩ (.slice a' L cp)).setCell ⟨w.heap.size, 1, none⟩ (.int .i64 N)) := (HBB.out.setCell (p := ⟨w.heap.size, 0, none⟩) (by simp) _).setCell (p := ⟨w.heap.size, 1, none⟩) (by simp) _
        obtain ⟨ys9, hl9, hy9⟩ := hff.byt
        have HFIN : Hid (OVI ((w7.setCell ⟨w.heap.size, 0, none⟩ (.slice a' L cp)).setCell ⟨w.heap.size, 1, none⟩ (.int .i64 N)) w.heap.size (.slice al l.length cl) l ∧ Byt ((w7.setCell ⟨w.heap.size, 0, none⟩ (.slice a' L cp)).setCell ⟨w.heap.size, 1, none⟩ (.int .i64 N)) a' ys9 ∧ Below w.heap.size w ((w7.setCell ⟨w.heap.size, 0, none⟩ (.slice a' L cp)).setCell ⟨w.heap.size, 1, none⟩ (.int .i64 N)) ∧ ys9.length = L) := ⟨hff.row.weakD (by omega), hy9, hbb, hl9⟩
        clear hff hbb hy9 hl9
        go_wp2
        refine bodyPost_ret (v := .tuple #[.slice al l.length cl, .agg #[.slice a' L cp, .int .i64 (N : Nat)], .int .i64 ((t.length : Int))]) (by simp [results, Tryd.results12, go_sem, r0, r1]) rfl ⟨_, l, a', cp, ys9, (N : Nat), (t.length : Int), by rw [HFIN.out.2.2.2], ?_, hl81, ?_, by have := HYL.out; have := HFIN.out.2.2.2; omega, by omega, by omega, ?_⟩
        · first | exact HFIN.out.1 | exact HFIN.out.1.stayX (S := fun _ => False) (Only.drew (Only.refl _ _)) (by simp)
        · first | exact HFIN.out.2.1 | exact HFIN.out.2.1.drewN 1
        · first | exact HFIN.out.2.2.1 | exact HFIN.out.2.2.1.drew
  · go_wp2_with fail
    refine (HF5.out.2.below 3 (by omega) (by omega)).mono ?_
    rintro e w6 ⟨⟨y, hy1, hy2, rfl⟩, hd6, ho6⟩
    have HF6 : Hid (FX w6 C X (.slice al l.length cl) l a' cp L N ∧ Dr W w6 B B a bs cap) := ⟨HF5.out.1.only ho6 (fun k hk => by omega), hd6⟩
    clear hd6 ho6 HF5
    go_wp2_with fail
    refine (HF6.out.2.once 4 (by omega) (by omega)).mono ?_
    rintro e w7 ⟨⟨b2, rfl⟩, hd7, ho7⟩
    have HF7 : Hid (FX w7 C X (.slice al l.length cl) l a' cp L N ∧ Dr W w7 B B a bs cap) := ⟨HF6.out.1.only ho7 (fun k hk => by omega), hd7⟩
    clear hd7 ho7 HF6
    cases b2
    · skip
      have HRB : Hid (Box2 w7 w.heap.size (.slice none 0 0) (.int .i64 0)) := HR.out.1.keep HF7.out.2.bel HWB.out
      have HBB : Hid (Below w.heap.size w w7) := HR.out.2.trans (HF7.out.2.bel.mono (by have := HWB.out; omega))
      obtain ⟨x0, x1, x2, x3, xl⟩ := HF7.out.1.box
      obtain ⟨r0, r1, r2, r3, rl⟩ := HRB.out
      have hXw : ¬ X = w.heap.size := by have := HWB.out; have := HF7.out.1.hC; omega
      go_wp2
      go_region
      have HON : Hid (∀ p q : Value, Only (fun b => b = w.heap.size) w7 ((w7.setCell ⟨w.heap.size, 0, none⟩ p).setCell ⟨w.heap.size, 1, none⟩ q)) := fun p q => ((Only.refl (fun b => b = w.heap.size) w7).setCell (p := ⟨w.heap.size, 0, none⟩) (.inl rfl) _).setCell (p := ⟨w.heap.size, 1, none⟩) (.inl rfl) _
      have hwB := HWB.out
      have hff := HF7.out.1.only (HON.out (.slice a' L cp) (.int .i64 N)) (fun k hk => by omega)
      have hbb : Below w.heap.size w ((w7.setCell ⟨w.heap.size, 0, none⟩ (.slice a' L cp)).setCell ⟨w.heap.size, 1, none⟩ (.int .i64 N)) := (HBB.out.setCell (p := ⟨w.heap.size, 0, none⟩) (by simp) _).setCell (p := ⟨w.heap.size, 1, none⟩) (by simp) _
      obtain ⟨ys9, hl9, hy9⟩ := hff.byt
      have HFIN : Hid (OVI ((w7.setCell ⟨w.heap.size, 0, none⟩ (.slice a' L cp)).setCell ⟨w.heap.size, 1, none⟩ (.int .i64 N)) w.heap.size (.slice al l.length cl) l ∧ Byt ((w7.setCell ⟨w.heap.size, 0, none⟩ (.slice a' L cp)).setCell ⟨w.heap.size, 1, none⟩ (.int .i64 N)) a' ys9 ∧ Below w.heap.size w ((w7.setCell ⟨w.heap.size, 0, none⟩ (.slice a' L cp)).setCell ⟨w.heap.size, 1, none⟩ (.int .i64 N)) ∧ ys9.length = L) := ⟨hff.row.weakD (by omega), hy9, hbb, hl9⟩
      clear hff hbb hy9 hl9
      go_wp2
      refine bodyPost_ret (v := .tuple #[.slice al l.length cl, .agg #[.slice a' L cp, .int .i64 (N : Nat)], .int .i64 ((t.length : Int) + y - 1)]) (by simp [results, Tryd.results12, go_sem, r0, r1]) rfl ⟨_, l, a', cp, ys9, (N : Nat), (t.length : Int) + y - 1, by rw [HFIN.out.2.2.2], ?_, hl81, ?_, by have := HYL.out; have := HFIN.out.2.2.2; omega, by omega, by omega, ?_⟩
      · first | exact HFIN.out.1 | exact HFIN.out.1.stayX (S := fun _ => False) (Only.drew (Only.refl _ _)) (by simp)
      · first | exact HFIN.out.2.1 | exact HFIN.out.2.1.drewN 1
      · first | exact HFIN.out.2.2.1 | exact HFIN.out.2.2.1.drew
    · obtain ⟨c0, c1, -, -, cl0⟩ := HF7.out.1.box
      by_cases hN0 : 0 < N
      · have hNp : (0 : Int) < (N : Int) := by omega
        go_wp2_with fail
        refine (HF7.out.2.belowBig N (by omega) (by omega)).mono ?_
        rintro e w8 ⟨⟨i, hi1, hi2, rfl⟩, hd8, ho8⟩
        obtain ⟨i, rfl⟩ := Int.eq_ofNat_of_zero_le hi1
        have hf8 := HF7.out.1.only ho8 (fun k hk => by omega)
        have hiL : i / 8 < L := by have := HYL.out; omega
        obtain ⟨gb, rfl, hgX, hgC, hz8, hfz8, hst⟩ := hf8.cell (by omega)
        obtain ⟨z, hz⟩ := hz8 (i / 8) hiL
        have hf0 := hfz8 (i / 8)
        obtain ⟨d0, d1, -, -, dl⟩ := hf8.box
        have HF9 : Hid (FX (w8.setCell ⟨gb, i / 8, none⟩ (.int .u8 (bits .xor .u8 z (2 ^ (i % 8) % 256)))).drew C X (.slice al l.length cl) l (some ⟨gb, 0, none⟩) cp L N ∧ Dr W (w8.setCell ⟨gb, i / 8, none⟩ (.int .u8 (bits .xor .u8 z (2 ^ (i % 8) % 256)))).drew B B a bs cap) := ⟨(hst (i / 8) _ (xor8F z (2 ^ (i % 8) % 256))).only (S := fun _ => False) (Only.drew (Only.refl _ _)) (by simp), hd8.other (S := fun b => b = gb) (Only.setCell (S := fun b => b = gb) (Only.refl (fun b => b = gb) w8) (p := ⟨gb, i / 8, none⟩) (.inl rfl) _).drew (by omega) (fun b hb => by omega)⟩
        clear hd8 ho8 hf8 hz8 hfz8 hst c0 c1 HF7
        go_wp2
        go_region
        generalize (w8.setCell ⟨gb, i / 8, none⟩ (.int .u8 (bits .xor .u8 z (2 ^ (i % 8) % 256)))).drew = w9 at *
        clear d0 d1 hz hf0
        have HRB : Hid (Box2 w9 w.heap.size (.slice none 0 0) (.int .i64 0)) := HR.out.1.keep HF9.out.2.bel HWB.out
        have HBB : Hid (Below w.heap.size w w9) := HR.out.2.trans (HF9.out.2.bel.mono (by have := HWB.out; omega))
        obtain ⟨x0, x1, x2, x3, xl⟩ := HF9.out.1.box
        obtain ⟨r0, r1, r2, r3, rl⟩ := HRB.out
        have hXw : ¬ X = w.heap.size := by have := HWB.out; have := HF9.out.1.hC; omega
        go_wp2
        go_region
        have HON : Hid (∀ p q : Value, Only (fun b => b = w.heap.size) w9 ((w9.setCell ⟨w.heap.size, 0, none⟩ p).setCell ⟨w.heap.size, 1, none⟩ q)) := fun p q => ((Only.refl (fun b => b = w.heap.size) w9).setCell (p := ⟨w.heap.size, 0, none⟩) (.inl rfl) _).setCell (p := ⟨w.heap.size, 1, none⟩) (.inl rfl) _
        have hwB := HWB.out
        have hff := HF9.out.1.only (HON.out (.slice (some ⟨gb, 0, none⟩) L cp) (.int .i64 N)) (fun k hk => by omega)
        have hbb : Below w.heap.size w ((w9.setCell ⟨w.heap.size, 0, none⟩ (.slice (some ⟨gb, 0, none⟩) L cp)).setCell ⟨w.heap.size, 1, none⟩ (.int .i64 N)) := (HBB.out.setCell (p := ⟨w.heap.size, 0, none⟩) (by simp) _).setCell (p := ⟨w.heap.size, 1, none⟩) (by simp) _
        obtain ⟨ys9, hl9, hy9⟩ := hff.byt
        have HFIN : Hid (OVI ((w9.setCell ⟨w.heap.size, 0, none⟩ (.slice (some ⟨gb, 0, none⟩) L cp)).setCell ⟨w.heap.size, 1, none⟩ (.int .i64 N)) w.heap.size (.slice al l.length cl) l ∧ Byt ((w9.setCell ⟨w.heap.size, 0, none⟩ (.slice (some ⟨gb, 0, none⟩) L cp)).setCell ⟨w.heap.size, 1, none⟩ (.int .i64 N)) (some ⟨gb, 0, none⟩) ys9 ∧ Below w.heap.size w ((w9.setCell ⟨w.heap.size, 0, none⟩ (.slice (some ⟨gb, 0, none⟩) L cp)).setCell ⟨w.heap.size, 1, none⟩ (.int .i64 N)) ∧ ys9.length = L) := ⟨hff.row.weakD (by omega), hy9, hbb, hl9⟩
        clear hff hbb hy9 hl9
        go_wp2
        refine bodyPost_ret (v := .tuple #[.slice al l.length cl, .agg #[.slice (some ⟨gb, 0, none⟩) L cp, .int .i64 (N : Nat)], .int .i64 ((t.length : Int) + y - 1)]) (by simp [results, Tryd.results12, go_sem, r0, r1]) rfl ⟨_, l, some ⟨gb, 0, none⟩, cp, ys9, (N : Nat), (t.length : Int) + y - 1, by rw [HFIN.out.2.2.2], ?_, hl81, ?_, by have := HYL.out; have := HFIN.out.2.2.2; omega, by omega, by omega, ?_⟩
        · first | exact HFIN.out.1 | exact HFIN.out.1.stayX (S := fun _ => False) (Only.drew (Only.refl _ _)) (by simp)
        · first | exact HFIN.out.2.1 | exact HFIN.out.2.1.drewN 1
        · first | exact HFIN.out.2.2.1 | exact HFIN.out.2.2.1.drew
      · have hNp : ¬ (0 : Int) < (N : Int) := by omega
        have HRB : Hid (Box2 w7 w.heap.size (.slice none 0 0) (.int .i64 0)) := HR.out.1.keep HF7.out.2.bel HWB.out
        have HBB : Hid (Below w.heap.size w w7) := HR.out.2.trans (HF7.out.2.bel.mono (by have := HWB.out; omega))
        obtain ⟨x0, x1, x2, x3, xl⟩ := HF7.out.1.box
        obtain ⟨r0, r1, r2, r3, rl⟩ := HRB.out
        have hXw : ¬ X = w.heap.size := by have := HWB.out; have := HF7.out.1.hC; omega
        go_wp2
        go_region
        have HON : Hid (∀ p q : Value, Only (fun b => b = w.heap.size) w7 ((w7.setCell ⟨w.heap.size, 0, none⟩ p).setCell ⟨w.heap.size, 1, none⟩ q)) := fun p q => ((Only.refl (fun b => b = w.heap.size) w7).setCell (p := ⟨w.heap.size, 0, none⟩) (.inl rfl) _).setCell (p := ⟨w.heap.size, 1, none⟩) (.inl rfl) _
        have hwB := HWB.out
        have hff := HF7.out.1.only (HON.out (.slice a' L cp) (.int .i64 N)) (fun k hk => by omega)
        have hbb : Below w.heap.size w ((w7.setCell ⟨w.heap.size, 0, none⟩ (.slice a' L cp)).setCell ⟨w.heap.size, 1, none⟩ (.int .i64 N)) := (HBB.out.setCell (p := ⟨w.heap.size, 0, none⟩) (by simp) _).setCell (p := ⟨w.heap.size, 1, none⟩) (by simp) _
        obtain ⟨ys9, hl9, hy9⟩ := hff.byt
        have HFIN : Hid (OVI ((w7.setCell ⟨w.heap.size, 0, none⟩ (.slice a' L cp)).setCell ⟨w.heap.size, 1, none⟩ (.int .i64 N)) w.heap.size (.slice al l.length cl) l ∧ Byt ((w7.setCell ⟨w.heap.size, 0, none⟩ (.slice a' L cp)).setCell ⟨w.heap.size, 1, none⟩ (.int .i64 N)) a' ys9 ∧ Below w.heap.size w ((w7.setCell ⟨w.heap.size, 0, none⟩ (.slice a' L cp)).setCell ⟨w.heap.size, 1, none⟩ (.int .i64 N)) ∧ ys9.length = L) := ⟨hff.row.weakD (by omega), hy9, hbb, hl9⟩
        clear hff hbb hy9 hl9
        go_wp2
        refine bodyPost_ret (v := .tuple #[.slice al l.length cl, .agg #[.slice a' L cp, .int .i64 (N : Nat)], .int .i64 ((t.length : Int) + y - 1)]) (by simp [results, Tryd.results12, go_sem, r0, r1]) rfl ⟨_, l, a', cp, ys9, (N : Nat), (t.length : Int) + y - 1, by rw [HFIN.out.2.2.2], ?_, hl81, ?_, by have := HYL.out; have := HFIN.out.2.2.2; omega, by omega, by omega, ?_⟩
        · first | exact HFIN.out.1 | exact HFIN.out.1.stayX (S := fun _ => False) (Only.drew (Only.refl _ _)) (by simp)
        · first | exact HFIN.out.2.1 | exact HFIN.out.2.1.drewN 1
        · first | exact HFIN.out.2.2.1 | exact HFIN.out.2.2.1.drew
end Go.Proofs.YtmhpgkfaihcmeaaDoor
