/-
  A block of two cells: a variable of a type with two fields, as it lasts.
-/
import Derived.Test.YtmhpgkfaihcmeaaDoorDraw3
import Derived.Deep.AppendLies
import Derived.Test.YtmhpgkfaihcmeaaDoorIList
import Derived.Test.YtmhpgkfaihcmeaaDoorIBase
namespace Go.Proofs.YtmhpgkfaihcmeaaDoor
open Go.RowKit
set_option linter.unusedVariables false

theorem getD_memF {zs : List Int} {k : Nat} (h : k < zs.length) : zs.getD k 0 ∈ zs := by
  rw [List.getD_eq_getElem?_getD, List.getElem?_eq_getElem h]
  exact List.getElem_mem h
theorem OVI.weakD {w : World} {B B' : Nat} {v : Value} {zs : List Int} (h : OVI w B v zs) (hB : B' ≤ B) : OVI w B' v zs := by
  rcases h.1.2 with ⟨h1, h2⟩ | ⟨g, cap, cur, rfl, hg, r⟩
  · exact ⟨⟨h.1.1, .inl ⟨h1, h2⟩⟩, h.2⟩
  · exact ⟨⟨h.1.1, .inr ⟨g, cap, cur, rfl, by omega, r⟩⟩, h.2⟩
set_option maxRecDepth 20000 in
set_option maxHeartbeats 4000000 in
theorem drawFsePut_any (a : Option Addr) (bs : List Int) (cap : Nat) (w : World) (hb : Byt w a bs) (hl : bs.length ≤ maxLen) :
    Calls Tryd.prog 6 #[.slice a bs.length cap] w fun e w' => ∃ (v u : Value) (l t : List Int), e = .returned (.tuple #[v, u]) ∧ OVI w' w.heap.size v l ∧ OVI w' w.heap.size u t ∧ l.length ≤ 81 ∧ t.length ≤ 30 ∧ Below w.heap.size w w' := by
  obtain ⟨i0, hi, hz0, hz1, hz2⟩ := info_parts Tryd.infoI64
  go_enter Tryd.func6, Tryd.ntmps6
  go_wp2_with fail
  refine (l1New_any a bs cap w hb hl).mono ?_
  rintro e w1 ⟨rfl, hd1⟩
  go_wp2_with fail
  refine hd1.bent.mono ?_
  rintro e w2 ⟨v, l, rfl, hov, ⟨hl1, hl81⟩, hd2, ho2⟩
  obtain ⟨al, cl, rfl⟩ := hov.form
  have hz12 := ho2.size
  go_wp2_with fail
  refine (hd2.text (l.length : Int) (by omega) (by omega)).mono ?_
  rintro e w3 ⟨tv, t0, rfl, hot, ht30, htr, hd3, ho3⟩
  obtain ⟨at0, ct0, rfl⟩ := hot.form
  have hR1 : w.heap.size < w1.heap.size := hd1.cur.lt.2
  have HL3 : Hid (OVI w3 w1.heap.size (.slice al l.length cl) l ∧ OVI w3 w2.heap.size (.slice at0 t0.length ct0) t0) := ⟨hov.only ho3 (fun k hk => by omega), hot⟩
  have HTR : Hid (∀ k, k < t0.length → 0 ≤ t0.getD k 0 ∧ t0.getD k 0 < l.length) := fun k hk => htr _ (getD_memF hk)
  have HRL : Hid (w.heap.size < w1.heap.size ∧ w1.heap.size ≤ w2.heap.size ∧ w2.heap.size ≤ w3.heap.size) := ⟨hR1, hz12, ho3.size⟩
  have HD3 : Hid (Dr w w3 w.heap.size w.heap.size a bs cap) := hd3
  clear hov hot htr hd1 hd2 hd3 ho2 ho3 hz12 hR1 hb hl
  go_wp2
  go_loopw [7, 8] (fun o i wr => ∃ (k : Nat) (q : List Int), k ≤ t0.length ∧ q.length ≤ k ∧ i = .int .i64 k ∧ OVI wr w3.heap.size o q ∧ Dr w wr w.heap.size w.heap.size a bs cap ∧ Only (fun j => j = w.heap.size) w3 wr) (fun _ i _ => t0.length - (intOf i).toNat)
  case atStart => exact ⟨0, [], Nat.zero_le _, Nat.le_refl _, rfl, OVI.nil _ _, HD3.out, Only.refl _ _⟩
  case round =>
    clear HD3
    obtain ⟨k, q, hk, hqk, rfl, hov, hdr, hon⟩ := hrel
    obtain ⟨au, cu, rfl⟩ := hov.form
    have HQ : Hid (q.length ≤ k) := hqk
    have HS : Hid (OVI wr w3.heap.size (.slice au q.length cu) q ∧ Dr w wr w.heap.size w.heap.size a bs cap ∧ Only (fun j => j = w.heap.size) w3 wr) := ⟨hov, hdr, hon⟩
    clear hov hdr hon hqk
    by_cases hlt : k < t0.length
    · have hsr := HTR.out k hlt
      obtain ⟨sn, hsn⟩ := Int.eq_ofNat_of_zero_le hsr.1
      have hsl : sn < l.length := by omega
      have hLw : OVI wr w1.heap.size (.slice al l.length cl) l := HL3.out.1.only HS.out.2.2 (fun k hk => by have := HRL.out; omega)
      have hTw : OVI wr w2.heap.size (.slice at0 t0.length ct0) t0 := HL3.out.2.only HS.out.2.2 (fun k hk => by have := HRL.out; omega)
      have hLi : Ins wr al l := by
        obtain ⟨a', cp, he, hm⟩ := hLw.mine
        simp at he
        obtain ⟨rfl, _⟩ := he
        exact hm.byt
      have hTi : Ins wr at0 t0 := by
        obtain ⟨a', cp, he, hm⟩ := hTw.mine
        simp at he
        obtain ⟨rfl, _⟩ := he
        exact hm.byt
      have HKP : Hid (Ins wr at0 t0 ∧ t0.getD k 0 = (sn : Int)) := ⟨hTi, hsn⟩
      obtain ⟨b1, o1, rfl, hb1, hc1⟩ := hTi.len_pos k hlt
      have hb1g : w2.heap.size ≤ b1 := hTw.blk (k := b1) rfl
      have c1 := hc1 k hlt
      rw [hsn] at c1
      obtain ⟨b2, o2, rfl, hb2, hc2⟩ := hLi.len_pos sn hsl
      have c2 := hc2 sn hsl
      have hsn90 : (sn : Int) ≤ 90 := by omega
      generalize l.getD sn 0 = lv at *
      clear hc1 hc2 hLw hTw hLi hTi hsr hsn
      by_cases hpos : 0 < lv
      · obtain ⟨WW, hWW⟩ : ∃ WW, WW = wr := ⟨_, rfl⟩
        subst hWW
        have HOV : Hid (OVI WW w3.heap.size (.slice au q.length cu) q) := HS.out.1
        have HOO : Hid (Dr w WW w.heap.size w.heap.size a bs cap ∧ Only (fun j => j = w.heap.size) w3 WW) := HS.out.2
        clear HS
        have hu : WW.ownsRow w3.heap.size 3 1 (.slice au q.length cu) q.length (q.map (Value.int .i64)) := HOV.out.1
        have HN3 : Hid (q.length + 1 ≤ 31) := by have := HQ.out; unfold Hid; omega
        have hzW : w3.heap.size ≤ WW.heap.size := HOO.out.2.size
        go_wp2_with (at_builtin; (refine wpList_append_lies _ rfl (.tmp 35) (.tmp 40) 23 rfl w3.heap.size 3 i0 (.int .i64 0) 1 8 Tryd.underlying23 hi hz0 hz1 hz2 rfl (by decide) (.slice au q.length cu) q.length (q.map (Value.int .i64)) rfl (hu.alloc _) ⟨WW.heap.size, 0, none⟩ 1 1 [.int .i64 (sn : Int)] rfl rfl (by intro j y hj; match j, hj with | 0, hj => (simp at hj; subst hj; simp [Addr.add])) (by intro y hy; simp at hy; subst hy; rfl) (by have := HN3.out; omega) (by have := HN3.out; unfold maxLen; omega) (by have := HN3.out; omega) (by simp; omega) _ rfl ?_); intro g cap1 w6 hown hgrow hat hlt1)
        have hO6 : Only (fun j => j = w.heap.size) w3 w6 := Only.grown (Only.alloc HOO.out.2 _) hgrow (fun j hj => .inr (HOV.out.blk hj))
        have hO6' : Only (fun j => (Value.slice au q.length cu).ownBlock = some j) WW w6 := Only.grown (Only.alloc (Only.refl _ _) _) hgrow (fun j hj => .inl hj)
        have HF6 : Hid (OVI w6 w3.heap.size (.slice (some ⟨g, 0, none⟩) (q.length + 1) cap1) (q ++ [(sn : Int)]) ∧ Dr w w6 w.heap.size w.heap.size a bs cap ∧ Only (fun j => j = w.heap.size) w3 w6) := ⟨OVI.app rfl HOV.out.2 (by omega) hown, HOO.out.1.other hO6' (fun hk => by have := HOV.out.blk hk; have := HRL.out; omega) (fun j hj => by have := HOV.out.blk hj; have := HRL.out; omega), hO6⟩
        clear hown hgrow hat hlt1 hO6 hO6' hu HOV HOO
        go_wp2
        go_roundw
        case rel => exact ⟨k + 1, q ++ [(sn : Int)], by omega, by have := HQ.out; simp; omega, by go_num, by simpa using HF6.out.1, HF6.out.2.1, HF6.out.2.2⟩
        case measure => simp [intOf]; omega
      · have hneg : decide (0 < lv) = false := decide_eq_false hpos
        have HON := HS.out.2.1.once 20 (by omega) (by omega)
        go_wp2_with fail
        refine HON.mono ?_
        clear HON
        rintro e WW ⟨⟨bo, rfl⟩, hdw, how⟩
        have HOV : Hid (OVI WW w3.heap.size (.slice au q.length cu) q) := HS.out.1.only how (fun k hk => by have := HRL.out; omega)
        have HOO : Hid (Dr w WW w.heap.size w.heap.size a bs cap ∧ Only (fun j => j = w.heap.size) w3 WW) := ⟨hdw, HS.out.2.2.trans how⟩
        have c1' : WW.cell? ⟨b1, o1 + k, none⟩ = some (.int .i64 (sn : Int)) := how.cell hb1 (by have := HRL.out; omega) c1
        clear hdw how HS c1 c2
        cases bo with
        | true =>
          have hu : WW.ownsRow w3.heap.size 3 1 (.slice au q.length cu) q.length (q.map (Value.int .i64)) := HOV.out.1
          have HN3 : Hid (q.length + 1 ≤ 31) := by have := HQ.out; unfold Hid; omega
          have hzW : w3.heap.size ≤ WW.heap.size := HOO.out.2.size
          go_wp2_with (at_builtin; (refine wpList_append_lies _ rfl (.tmp 35) (.tmp 40) 23 rfl w3.heap.size 3 i0 (.int .i64 0) 1 8 Tryd.underlying23 hi hz0 hz1 hz2 rfl (by decide) (.slice au q.length cu) q.length (q.map (Value.int .i64)) rfl (hu.alloc _) ⟨WW.heap.size, 0, none⟩ 1 1 [.int .i64 (sn : Int)] rfl rfl (by intro j y hj; match j, hj with | 0, hj => (simp at hj; subst hj; simp [Addr.add])) (by intro y hy; simp at hy; subst hy; rfl) (by have := HN3.out; omega) (by have := HN3.out; unfold maxLen; omega) (by have := HN3.out; omega) (by simp; omega) _ rfl ?_); intro g cap1 w6 hown hgrow hat hlt1)
          have hO6 : Only (fun j => j = w.heap.size) w3 w6 := Only.grown (Only.alloc HOO.out.2 _) hgrow (fun j hj => .inr (HOV.out.blk hj))
          have hO6' : Only (fun j => (Value.slice au q.length cu).ownBlock = some j) WW w6 := Only.grown (Only.alloc (Only.refl _ _) _) hgrow (fun j hj => .inl hj)
          have HF6 : Hid (OVI w6 w3.heap.size (.slice (some ⟨g, 0, none⟩) (q.length + 1) cap1) (q ++ [(sn : Int)]) ∧ Dr w w6 w.heap.size w.heap.size a bs cap ∧ Only (fun j => j = w.heap.size) w3 w6) := ⟨OVI.app rfl HOV.out.2 (by omega) hown, HOO.out.1.other hO6' (fun hk => by have := HOV.out.blk hk; have := HRL.out; omega) (fun j hj => by have := HOV.out.blk hj; have := HRL.out; omega), hO6⟩
          clear hown hgrow hat hlt1 hO6 hO6' hu HOV HOO
          go_wp2
          go_roundw
          case rel => exact ⟨k + 1, q ++ [(sn : Int)], by omega, by have := HQ.out; simp; omega, by go_num, by simpa using HF6.out.1, HF6.out.2.1, HF6.out.2.2⟩
          case measure => simp [intOf]; omega
        | false =>
          go_wp2
          go_roundw
          case rel => exact ⟨k + 1, q, by omega, by have := HQ.out; omega, by go_num, HOV.out, HOO.out.1, HOO.out.2⟩
          case measure => simp [intOf]; omega
    · have hW3 : w.heap.size ≤ w3.heap.size := by have := HRL.out; omega
      have HF : Hid (OVI wr w.heap.size (.slice al l.length cl) l ∧ OVI wr w.heap.size (.slice au q.length cu) q ∧ Below w.heap.size w wr) := ⟨by
        have := HL3.out.1.only HS.out.2.2 (fun k hk => by have := HRL.out; omega)
        exact this.weakD (by have := HRL.out; omega), HS.out.1.weakD hW3, HS.out.2.1.bel⟩
      have HQ3 : Hid (q.length ≤ 30) := by have := HQ.out; unfold Hid; omega
      go_wp2
      go_ret2
      exact ⟨_, _, l, q, rfl, HF.out.1, HF.out.2.1, hl81, HQ3.out, HF.out.2.2⟩
end Go.Proofs.YtmhpgkfaihcmeaaDoor
namespace Go.Proofs.YtmhpgkfaihcmeaaDoor
open Go.RowKit
set_option linter.unusedVariables false

set_option maxHeartbeats 1600000 in
theorem Dr.belowBig {w0 w : World} {B R : Nat} {a : Option Addr} {bs : List Int} {cap : Nat} (h : Dr w0 w B R a bs cap) (n : Int) (hn : 0 < n) (hn2 : n ≤ 2147483648) :
    Calls Tryd.prog 33 #[.pointer (some ⟨R, 0, none⟩), .int .i64 n] w fun e w' => (∃ x : Int, 0 ≤ x ∧ x < n ∧ e = .returned (.int .i64 x)) ∧ Dr w0 w' B R a bs cap ∧ Only (fun k => k = R) w w' := by
  by_cases h256 : n ≤ 256
  · exact h.below n hn h256
  · have H : Hid (Dr w0 w B R a bs cap) := h
    clear h
    go_enter Tryd.func33, Tryd.ntmps33
    go_wp2_with fail
    refine H.out.byte.mono ?_
    rintro e w1 ⟨⟨x1, a1, b1, rfl⟩, hd1, ho1⟩
    have HD1 : Hid _ := hd1
    clear hd1 H
    go_wp2_with fail
    refine HD1.out.byte.mono ?_
    rintro e w2 ⟨⟨x2, a2, b2, rfl⟩, hd2, ho2⟩
    have HD2 : Hid _ := hd2
    have HO2 : Hid (Only (fun k => k = R) w w2) := ho1.trans ho2
    clear hd2 HD1 ho1 ho2
    go_wp2_with fail
    refine HD2.out.byte.mono ?_
    rintro e w3 ⟨⟨x3, a3, b3, rfl⟩, hd3, ho3⟩
    have HD3 : Hid _ := hd3
    have HO3 : Hid (Only (fun k => k = R) w w3) := HO2.out.trans ho3
    clear hd3 HD2 ho3 HO2
    go_wp2_with fail
    refine HD3.out.byte.mono ?_
    rintro e w4 ⟨⟨x4, a4, b4, rfl⟩, hd4, ho4⟩
    have HD4 : Hid _ := hd4
    have HO4 : Hid (Only (fun k => k = R) w w4) := HO3.out.trans ho4
    clear hd4 HD3 ho4 HO3
    go_wp2
    go_ret
    refine ⟨⟨_, ?_, ?_, rfl⟩, HD4.out, HO4.out⟩
    · exact Int.emod_nonneg _ (by omega)
    · exact Int.emod_lt_of_pos _ hn
end Go.Proofs.YtmhpgkfaihcmeaaDoor
namespace Go.Proofs.YtmhpgkfaihcmeaaDoor
open Go.RowKit
set_option linter.unusedVariables false

structure Box2 (W : World) (b : Nat) (x y : Value) : Prop where
  c0 : W.cell? ⟨b, 0, none⟩ = some x
  c1 : W.cell? ⟨b, 1, none⟩ = some y
  f0 : W.frozen? ⟨b, 0, none⟩ = false
  f1 : W.frozen? ⟨b, 1, none⟩ = false
  lt : b < W.heap.size
theorem Box2.new (w : World) (x y : Value) (T : TypeId) : Box2 (w.alloc (Obj.cells #[x, y] T)) w.heap.size x y := ⟨by simp, by simp, by simp, by simp, by simp⟩
theorem Box2.keep {W W' : World} {b B : Nat} {x y : Value} (h : Box2 W b x y) (hb : Below B W W') (hB : b < B) : Box2 W' b x y :=
  ⟨Go.Proofs.YtmhpgkfaihcmeaaDoor.keep hb hB h.c0, Go.Proofs.YtmhpgkfaihcmeaaDoor.keep hb hB h.c1, (hb.frozen (p := ⟨b, 0, none⟩) hB).trans h.f0, (hb.frozen (p := ⟨b, 1, none⟩) hB).trans h.f1, Nat.lt_of_lt_of_le h.lt hb.size⟩
theorem Box2.alloc {W : World} {b : Nat} {x y : Value} (h : Box2 W b x y) (o : Obj) : Box2 (W.alloc o) b x y := h.keep ((Below.refl W.heap.size W).alloc (Nat.le_refl _) o) h.lt
theorem frozO {S : Nat → Prop} {w w' : World} (h : Only S w w') {b o : Nat} (hb : b < w.heap.size) (hs : ¬ S b) : w'.frozen? ⟨b, o, none⟩ = w.frozen? ⟨b, o, none⟩ := by
  simp only [World.frozen?, h.block b hb hs]
theorem Box2.only {S : Nat → Prop} {W W' : World} {b : Nat} {x y : Value} (h : Box2 W b x y) (ho : Only S W W') (hs : ¬ S b) : Box2 W' b x y :=
  ⟨ho.cell h.lt hs h.c0, ho.cell h.lt hs h.c1, (frozO ho h.lt hs).trans h.f0, (frozO ho h.lt hs).trans h.f1, Nat.lt_of_lt_of_le h.lt ho.size⟩
theorem Box2.other {W : World} {b : Nat} {x y : Value} (h : Box2 W b x y) {p : Addr} (hp : p.block ≠ b) (u : Value) : Box2 (W.setCell p u) b x y :=
  h.only (S := fun k => k = p.block) ((Only.refl (fun k => k = p.block) W).setCell (.inl rfl) u) (fun e => hp e.symm)
theorem Box2.set0 {W : World} {b : Nat} {x y : Value} (h : Box2 W b x y) (u : Value) : Box2 (W.setCell ⟨b, 0, none⟩ u) b u y := by
  obtain ⟨h0, h1, h2, h3, h4⟩ := h
  exact ⟨World.cell?_setCell_same W _ _ h0, (World.cell?_setCell_other W _ _ _ (by simp)).trans h1, by simp [h2], by simp [h3], by simpa using h4⟩
theorem Box2.set1 {W : World} {b : Nat} {x y : Value} (h : Box2 W b x y) (u : Value) : Box2 (W.setCell ⟨b, 1, none⟩ u) b x u := by
  obtain ⟨h0, h1, h2, h3, h4⟩ := h
  exact ⟨(World.cell?_setCell_other W _ _ _ (by simp)).trans h0, World.cell?_setCell_same W _ _ h1, by simp [h2], by simp [h3], by simpa using h4⟩
end Go.Proofs.YtmhpgkfaihcmeaaDoor
