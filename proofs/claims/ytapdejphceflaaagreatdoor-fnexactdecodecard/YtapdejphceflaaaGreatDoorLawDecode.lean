/-
  The law on Decode returns true, whatever is handed in, and writes nothing that was there.
-/
import Derived.Test.YtapdejphceflaaaGreatDoorDcY
import Derived.Test.YtapdejphceflaaaGreatDoorL5R
import Derived.Test.YtapdejphceflaaaGreatDoorOnly
import Derived.Test.YtapdejphceflaaaGreatDoorILens
import Derived.Test.YtapdejphceflaaaGreatDoorSqA
namespace Go.Proofs.YtapdejphceflaaaGreatDoor
open Go.RowKit
set_option linter.unusedVariables false
set_option linter.unusedSimpArgs false

/-- What is told of bytes: a block, or none. -/
def DcA (Y : Option (List Int)) (w : World) (e : Ending) (w' : World) : Prop := Below w.heap.size w w' ∧
  ((∃ bs v, Y = some bs ∧ OVB w' w.heap.size v bs ∧ e = .returned (.tuple #[v, .bool true])) ∨ (Y = none ∧ ∃ v, e = .returned (.tuple #[v, .bool false])))
/-- The same; beside a false there is nothing. -/
def DcE (Y : Option (List Int)) (w : World) (e : Ending) (w' : World) : Prop := Below w.heap.size w w' ∧
  ((∃ bs v, Y = some bs ∧ OVB w' w.heap.size v bs ∧ e = .returned (.tuple #[v, .bool true])) ∨ (Y = none ∧ e = .returned (.tuple #[.slice none 0 0, .bool false])))
/-- What the model and the program tell of the bytes xs. -/
def DecW (xs : List Int) (Y : Option (List Int)) : Prop := (∀ bs, Y = some bs → bs.length = 64 ∧ 2 ≤ xs.length ∧ xs.length ≤ 65) ∧
  (∀ (a : Option Addr) (cap : Nat) (w : World), xs.length ≤ cap → Byt w a xs → Calls Tryz.prog 10 #[.slice a xs.length cap] w (DcA Y w)) ∧
  (∀ (a : Option Addr) (cap : Nat) (w : World), xs.length ≤ cap → Byt w a xs → SentB w → Calls Tryz.prog 6 #[.slice a xs.length cap] w (DcE Y w))

theorem rbY_unique {o : Option (Nat × Nat)} {m : Nat} {zs bs bs' : List Int} (h : RbY o m zs bs) (h' : RbY o m zs bs') : bs = bs' := by
  obtain ⟨-, h⟩ := h
  obtain ⟨-, h'⟩ := h'
  rcases h with ⟨e0, rfl⟩ | ⟨e0, -, rfl⟩ | ⟨e0, q, rfl, hy⟩
  · rcases h' with ⟨-, rfl⟩ | ⟨e1, -⟩ | ⟨e1, -⟩
    · rfl
    · omega
    · omega
  · rcases h' with ⟨e1, -⟩ | ⟨-, -, rfl⟩ | ⟨e1, -⟩
    · omega
    · rfl
    · omega
  · rcases h' with ⟨e1, -⟩ | ⟨e1, -⟩ | ⟨-, q', hq, hy'⟩
    · omega
    · omega
    · cases hq
      exact hy.unique hy'

theorem DcP.ans {o : Option (Nat × Nat)} {m : Nat} {zs : List Int} {w w' : World} {e : Ending} {Y : Option (List Int)} (hy : ∀ bs, RbY o m zs bs → Y = some bs) (hn : (¬ ∃ bs, RbY o m zs bs) → Y = none) (h : DcP o m zs w e w') : DcA Y w e w' := by
  obtain ⟨hb, ⟨bs, v, h1, h2, h3⟩ | ⟨h1, v, h3⟩⟩ := h
  · exact ⟨hb, .inl ⟨bs, v, hy bs h1, h2, h3⟩⟩
  · exact ⟨hb, .inr ⟨hn h1, v, h3⟩⟩

theorem decW (xs : List Int) (hl : xs.length ≤ 1048576) (hr : ∀ z ∈ xs, 0 ≤ z ∧ z ≤ 255) : ∃ Y, DecW xs Y := by
  by_cases h2 : xs.length < 2 ∨ 65 < xs.length
  · refine ⟨none, ⟨fun bs h => (by cases h), ?_, ?_⟩⟩
    · intro a cap w hc hb
      refine (l5decode_no a cap xs.length w h2).mono ?_
      rintro e w' ⟨rfl, rfl⟩
      exact ⟨Below.refl _ _, .inr ⟨rfl, _, rfl⟩⟩
    · intro a cap w hc hb hS
      refine (decodeI_no a cap xs.length w h2 hS).mono ?_
      rintro e w' ⟨hb', rfl⟩
      exact ⟨hb', .inr ⟨rfl, rfl⟩⟩
  · cases xs with
    | nil => simp at h2
    | cons x zs =>
      simp only [List.length_cons] at h2
      have h1 : 1 ≤ zs.length := by omega
      have h64 : zs.length ≤ 64 := by omega
      obtain ⟨m, rfl⟩ := Int.eq_ofNat_of_zero_le (hr x (by simp)).1
      obtain ⟨o, hO⟩ := opnW zs (by omega) (fun z hz => hr z (by simp [hz]))
      obtain ⟨Y, hY, hN, hYr⟩ : ∃ Y : Option (List Int), (∀ bs, RbY o m zs bs → Y = some bs) ∧ ((¬ ∃ bs, RbY o m zs bs) → Y = none) ∧ (∀ bs, Y = some bs → RbY o m zs bs) := by
        by_cases h : ∃ bs, RbY o m zs bs
        · obtain ⟨bs, hbs⟩ := h
          exact ⟨some bs, fun b hb => by rw [rbY_unique hbs hb], fun hn => absurd ⟨bs, hbs⟩ hn, fun b hb => by cases hb; exact hbs⟩
        · exact ⟨none, fun b hb => absurd ⟨b, hb⟩ h, fun _ => rfl, fun b hb => by cases hb⟩
      refine ⟨Y, ⟨fun bs hbs => ⟨(hYr bs hbs).1, by simp only [List.length_cons]; omega, by simp only [List.length_cons]; omega⟩, ?_, ?_⟩⟩
      · intro a cap w hc hb
        simp only [List.length_cons] at hc ⊢
        have key : Calls Tryz.prog 10 #[.slice a (zs.length + 1) cap] w (DcP o m zs w) := by
          have cs : m = 0 ∨ m = 1 ∨ m = 2 ∨ m = 3 ∨ 4 ≤ m := by omega
          rcases cs with rfl | rfl | rfl | rfl | h4
          · exact l5decode_raw a cap zs o w hb h1 h64 hc
          · exact l5decode_run a cap zs o w hb h1 h64 hc
          · cases o with
            | none => exact l5decode_symN a cap 2 zs w (.inl rfl) hb h1 h64 hc hO
            | some q => exact l5decode_sym2 a cap zs q.1 q.2 w hb h1 h64 hc hO rdC
          · cases o with
            | none => exact l5decode_symN a cap 3 zs w (.inr rfl) hb h1 h64 hc hO
            | some q => exact l5decode_sym3 a cap zs q.1 q.2 w hb h1 h64 hc hO rdC
          · exact l5decode_other a cap m zs o w hb h1 h64 h4
        exact key.mono fun e w' h => h.ans hY hN
      · intro a cap w hc hb hS
        simp only [List.length_cons] at hc ⊢
        refine (decodeI_any a cap m zs o w hb h1 h64 hc hO hS).mono ?_
        rintro e w' ⟨hb', ⟨bs, v, h1, h2, h3⟩ | ⟨h1, h3⟩⟩
        · exact ⟨hb', .inl ⟨bs, v, hY bs h1, h2, h3⟩⟩
        · exact ⟨hb', .inr ⟨hN h1, h3⟩⟩
end Go.Proofs.YtapdejphceflaaaGreatDoor
namespace Go.Proofs.YtapdejphceflaaaGreatDoor
open Go.RowKit
set_option linter.unusedVariables false

/-- Marks from k on. -/
def marks (k : Int) : Nat → List Int
  | 0 => []
  | n + 1 => marks k n ++ [(k + n) % 256]
theorem marks_len (k : Int) (n : Nat) : (marks k n).length = n := by
  induction n with
  | zero => rfl
  | succ n ih => simp [marks, ih]
theorem marks_rng (k : Int) (n : Nat) : ∀ z ∈ marks k n, 0 ≤ z ∧ z ≤ 255 := by
  induction n with
  | zero => intro z hz; cases hz
  | succ n ih =>
    intro z hz
    simp only [marks, List.mem_append, List.mem_singleton] at hz
    rcases hz with hz | rfl
    · exact ih z hz
    · omega
theorem marks_get (k : Int) (n i : Nat) (h : i < n) : (marks k n).getD i 0 = (k + i) % 256 := by
  induction n with
  | zero => omega
  | succ n ih =>
    simp only [marks, List.getD_eq_getElem?_getD, List.getElem?_append, marks_len]
    by_cases hi : i < n
    · rw [if_pos hi, ← List.getD_eq_getElem?_getD]; exact ih hi
    · have : i = n := by omega
      subst this
      simp
theorem marks_step (k : Int) (zs : List Int) (j : Nat) (h : j < zs.length) : (marks k j ++ zs.drop j).set j ((k + j) % 256) = marks k (j + 1) ++ zs.drop (j + 1) := by
  rw [List.set_append_right _ _ (by rw [marks_len]; exact Nat.le_refl _), marks_len, Nat.sub_self, List.drop_eq_getElem_cons h, List.set_cons_zero]
  simp [marks]

theorem wrap_u8_mod (k : Int) : IntKind.u8.wrap k = k % 256 := by simp [IntKind.wrap, IntKind.bits, IntKind.signed]

set_option maxHeartbeats 400000 in
theorem markByteS_own (B g cap : Nat) (zs : List Int) (k : Int) (w : World) (h : Own w B g cap zs) (hn : zs.length ≤ 2097152) (h0 : 0 ≤ k) (h1 : k ≤ 2097152) :
    Calls Tryz.prog 8 #[.slice (some ⟨g, 0, none⟩) zs.length cap, .int .i64 k] w fun e w' => e = .returned (.int .i64 (k + zs.length)) ∧ Own w' B g cap (marks k zs.length) ∧ Only (· = g) w w' := by
  generalize hlen : zs.length = n at *
  have HL : Hid (zs.length = n) := hlen
  clear hlen
  have HO : Hid (Own w B g cap zs) := h
  clear h
  go_enter Tryz.func8, Tryz.ntmps8
  go_wp2
  go_loopw [1, 5] (fun q i wr => ∃ j : Nat, j ≤ n ∧ i = .int .i64 j ∧ q = .int .i64 (k + j) ∧ Own wr B g cap (marks k j ++ zs.drop j) ∧ Only (· = g) w wr) (fun _ i _ => n - (intOf i).toNat)
  case atStart => exact ⟨0, Nat.zero_le _, rfl, by simp, by simpa [marks] using HO.out, Only.refl _ _⟩
  case round =>
    obtain ⟨j, hj, rfl, rfl, hown, honly⟩ := hrel
    by_cases hlt : j < n
    · have hl : (marks k j ++ zs.drop j).length = n := by rw [List.length_append, marks_len, List.length_drop, HL.out]; omega
      have hdst := hown.cell j (by omega)
      have hfz := hown.frozen j
      have R := hown.store j ((k + j) % 256) (by omega)
      rw [marks_step k zs j (by rw [HL.out]; exact hlt)] at R
      have HR : Hid (Own (wr.setCell ⟨g, j, none⟩ (.int .u8 ((k + j) % 256))) B g cap (marks k (j + 1) ++ zs.drop (j + 1))) := R
      have HB : Hid (Only (· = g) w (wr.setCell ⟨g, j, none⟩ (.int .u8 ((k + j) % 256)))) := honly.setCell (.inl rfl) _
      generalize (marks k j ++ zs.drop j).getD j 0 = old at *
      clear R hown honly hl
      go_wp2
      go_roundw
      case rel => exact ⟨j + 1, by omega, by go_num, by go_num, HR.out, HB.out⟩
      case measure => simp [intOf]; omega
    · have hjn : j = n := by omega
      subst hjn
      have hown' := hown
      rw [List.drop_of_length_le (by rw [HL.out]; exact Nat.le_refl _), List.append_nil] at hown'
      have HF : Hid (Own wr B g cap (marks k j)) := hown'
      clear hown hown'
      go_wp2
      go_ret
      exact ⟨rfl, HF.out, honly⟩

set_option maxHeartbeats 400000 in
theorem heldByteS_any (a : Option Addr) (cap n : Nat) (k : Int) (w : World) (h : Byt w a (marks k n)) (hn : n ≤ 2097152) (h0 : 0 ≤ k) (h1 : k ≤ 2097152) :
    Calls Tryz.prog 9 #[.slice a n cap, .int .i64 k] w fun e w' => e = .returned (.int .i64 (k + n)) ∧ w' = w := by
  have hl := marks_len k n
  have HB : Hid (Byt w a (marks k n)) := h
  clear h
  go_enter Tryz.func9, Tryz.ntmps9
  go_wp2
  go_loop [1, 5] (fun q i => ∃ j : Nat, j ≤ n ∧ i = .int .i64 j ∧ q = .int .i64 (k + j)) (fun _ i => n - (intOf i).toNat)
  case atStart => exact ⟨0, Nat.zero_le _, rfl, by simp⟩
  case round =>
    obtain ⟨j, hj, rfl, rfl⟩ := hrel
    by_cases hlt : j < n
    · obtain ⟨b, off, rfl, hbl, hc⟩ := HB.out.len_pos j (by rw [hl]; exact hlt)
      have hs := hc j (by rw [hl]; exact hlt)
      rw [marks_get k n j hlt] at hs
      have hq : ((k + j) % 256 != (k + j) % 256) = false := by simp
      clear hc hl
      go_wp2
      go_round
      case rel => exact ⟨j + 1, by omega, by go_num, by go_num⟩
      case measure => simp [intOf]; omega
    · have hjn : j = n := by omega
      subst hjn
      go_wp2
      go_ret
      exact ⟨rfl, rfl⟩

theorem markByteS_any (a : Option Addr) (B U cap : Nat) (zs : List Int) (k : Int) (w : World) (h : Mine w B U a cap zs) (hn : zs.length ≤ 2097152) (h0 : 0 ≤ k) (h1 : k ≤ 2097152) :
    Calls Tryz.prog 8 #[.slice a zs.length cap, .int .i64 k] w fun e w' => e = .returned (.int .i64 (k + zs.length)) ∧ Mine w' B U a cap (marks k zs.length) ∧ Only (rowOf a) w w' := by
  rcases h with ⟨rfl, rfl, rfl⟩ | ⟨g, rfl, g1, g2, h⟩
  · go_enter Tryz.func8, Tryz.ntmps8
    go_wp2
    refine wp_loop_rounds 1 ?_
    rw [rounds_succ]
    go_wp2
    go_ret
    exact ⟨by simp, .inl ⟨rfl, rfl, rfl⟩, Only.refl _ _⟩
  · refine (markByteS_own B g cap zs k w h hn h0 h1).mono ?_
    rintro e w' ⟨rfl, ho, hy⟩
    exact ⟨rfl, .inr ⟨g, rfl, g1, g2, ho⟩, hy.mono (fun k _ hk => ⟨_, rfl, hk.symm⟩)⟩

end Go.Proofs.YtapdejphceflaaaGreatDoor
namespace Go.Proofs.YtapdejphceflaaaGreatDoor
open Go.RowKit
set_option linter.unusedVariables false

/-- P is told by the blocks from lo on, ahead of hi, and by what is below them that nobody writes. -/
def Stab (lo hi : Nat) (P : World → Prop) : Prop := ∀ (T : Nat → Prop) (W W' : World), P W → Only T W W' → (∀ k, lo ≤ k → k < hi → ¬ T k) → hi ≤ W.heap.size → P W'
theorem Stab.true (lo hi : Nat) : Stab lo hi (fun _ => True) := fun _ _ _ _ _ _ _ => trivial
theorem Stab.and {lo hi : Nat} {P Q : World → Prop} (h : Stab lo hi P) (k : Stab lo hi Q) : Stab lo hi (fun W => P W ∧ Q W) := fun T W W' hp ho ht hl => ⟨h T W W' hp.1 ho ht hl, k T W W' hp.2 ho ht hl⟩
theorem Stab.cell {lo hi b o : Nat} {v : Value} (h1 : lo ≤ b) (h2 : b < hi) : Stab lo hi (fun W => W.cell? ⟨b, o, none⟩ = some v) := fun T W W' hp ho ht hl => ho.cell (by omega) (ht b h1 h2) hp
theorem Stab.minI {lo hi B U : Nat} {a : Option Addr} {c : Nat} {zs : List Int} (h1 : lo ≤ B) (h2 : U ≤ hi) : Stab lo hi (fun W => MinI W B U a c zs) := fun T W W' hp ho ht hl => hp.only ho (fun k hk1 hk2 => ht k (by omega) (by omega))
theorem Stab.mine {lo hi B U : Nat} {a : Option Addr} {c : Nat} {zs : List Int} (h1 : lo ≤ B) (h2 : U ≤ hi) : Stab lo hi (fun W => Mine W B U a c zs) := fun T W W' hp ho ht hl => hp.only ho (fun k hk1 hk2 => ht k (by omega) (by omega))

structure Snp (w W : World) (N U V Z : Nat) (PB PW PX PG : World → Prop) : Prop where
  bel : Below w.heap.size w W
  ord : w.heap.size ≤ N ∧ N ≤ U ∧ U ≤ V ∧ V ≤ Z ∧ Z ≤ W.heap.size
  sb : Stab w.heap.size N PB
  hb : PB W
  sw : Stab N U PW
  hw : PW W
  sx : Stab U V PX
  hx : PX W
  sg : Stab V Z PG
  hg : PG W
section
variable {w W W' : World} {N U V Z : Nat} {PB PW PX PG : World → Prop}
theorem Snp.step (h : Snp w W N U V Z PB PW PX PG) (hb : Below W.heap.size W W') : Snp w W' N U V Z PB PW PX PG := by
  have o := h.ord; have hs := hb.size
  have ho : Only (fun _ => False) W W' := Only.ofBelow hb (Nat.le_refl _)
  exact ⟨h.bel.trans (hb.mono (by omega)), by omega, h.sb, h.sb _ _ _ h.hb ho (by simp) (by omega), h.sw, h.sw _ _ _ h.hw ho (by simp) (by omega), h.sx, h.sx _ _ _ h.hx ho (by simp) (by omega), h.sg, h.sg _ _ _ h.hg ho (by simp) (by omega)⟩
theorem Snp.drew (h : Snp w W N U V Z PB PW PX PG) (n : Nat) : Snp w (W.drewN n) N U V Z PB PW PX PG := h.step ⟨rfl, rfl, rfl, Nat.le_refl _, fun _ _ => rfl⟩
theorem Snp.markX {T : Nat → Prop} {PX' : World → Prop} (h : Snp w W N U V Z PB PW PX PG) (ho : Only T W W') (hT : ∀ k, T k → U ≤ k ∧ k < V) (sx : Stab U V PX') (hx : PX' W') : Snp w W' N U V Z PB PW PX' PG := by
  have o := h.ord; have hs := ho.size
  have hbel : Below w.heap.size W W' := ho.below (by omega) (fun k hk => by have := hT k hk; omega)
  exact ⟨h.bel.trans hbel, by omega, h.sb, h.sb _ _ _ h.hb ho (fun k h1 h2 hk => by have := hT k hk; omega) (by omega), h.sw, h.sw _ _ _ h.hw ho (fun k h1 h2 hk => by have := hT k hk; omega) (by omega), sx, hx, h.sg, h.sg _ _ _ h.hg ho (fun k h1 h2 hk => by have := hT k hk; omega) (by omega)⟩
theorem Snp.markG {T : Nat → Prop} {PG' : World → Prop} (h : Snp w W N U V Z PB PW PX PG) (ho : Only T W W') (hT : ∀ k, T k → V ≤ k ∧ k < Z) (sg : Stab V Z PG') (hg : PG' W') : Snp w W' N U V Z PB PW PX PG' := by
  have o := h.ord; have hs := ho.size
  have hbel : Below w.heap.size W W' := ho.below (by omega) (fun k hk => by have := hT k hk; omega)
  exact ⟨h.bel.trans hbel, by omega, h.sb, h.sb _ _ _ h.hb ho (fun k h1 h2 hk => by have := hT k hk; omega) (by omega), h.sw, h.sw _ _ _ h.hw ho (fun k h1 h2 hk => by have := hT k hk; omega) (by omega), h.sx, h.sx _ _ _ h.hx ho (fun k h1 h2 hk => by have := hT k hk; omega) (by omega), sg, hg⟩
end
theorem MinI.rowT {W : World} {B D : Nat} {a : Option Addr} {c : Nat} {zs : List Int} (h : MinI W B D a c zs) {k : Nat} (hk : rowOf a k) : B ≤ k ∧ k < D := by
  obtain ⟨x, hx, rfl⟩ := hk
  rcases h with ⟨h', _⟩ | ⟨g, h', g1, g2, _⟩
  · rw [h'] at hx; cases hx
  · rw [h'] at hx
    simp at hx
    rw [← hx]
    exact ⟨g1, g2⟩
theorem Mine.rowT {W : World} {B D : Nat} {a : Option Addr} {c : Nat} {zs : List Int} (h : Mine W B D a c zs) {k : Nat} (hk : rowOf a k) : B ≤ k ∧ k < D := by
  obtain ⟨x, hx, rfl⟩ := hk
  rcases h with ⟨h', _⟩ | ⟨g, h', g1, g2, _⟩
  · rw [h'] at hx; cases hx
  · rw [h'] at hx
    simp at hx
    rw [← hx]
    exact ⟨g1, g2⟩
end Go.Proofs.YtapdejphceflaaaGreatDoor
namespace Go.Proofs.YtapdejphceflaaaGreatDoor
open Go.RowKit
set_option linter.unusedVariables false

set_option maxHeartbeats 800000 in
theorem eqByteS_any (a b : Option Addr) (ca cb : Nat) (xs ys : List Int) (w : World) (ha : Byt w a xs) (hb : Byt w b ys) (hx : xs.length ≤ 281474976710656) (hy : ys.length ≤ 281474976710656) :
    Calls Tryz.prog 7 #[.slice a xs.length ca, .slice b ys.length cb] w fun e w' => e = .returned (.bool (decide (xs = ys))) ∧ ∃ n, w' = w.drewN n := by
  by_cases hl : xs.length = ys.length
  · generalize hlx : xs.length = n at *
    have HX : Hid (xs.length = n) := hlx
    have HY : Hid (ys.length = n) := hl.symm
    rw [← hl]
    have hnn : ((n : Int) != (n : Int)) = false := by simp
    clear hlx hl hy
    go_enter Tryz.func7, Tryz.ntmps7
    go_wp2
    go_loopw [5] (fun i wr => ∃ k m : Nat, k ≤ n ∧ i = .int .i64 k ∧ wr = w.drewN m ∧ xs.take k = ys.take k) (fun i _ => n - (intOf i).toNat)
    case atStart => exact ⟨0, 0, Nat.zero_le _, rfl, rfl, by simp⟩
    case round =>
      obtain ⟨k, m, hk, rfl, rfl, htk⟩ := hrel
      have HT : Hid (xs.take k = ys.take k) := htk
      clear htk
      by_cases hlt : k < n
      · obtain ⟨b1, o1, rfl, hb1, hc1⟩ := ha.len_pos k (by rw [HX.out]; exact hlt)
        obtain ⟨b2, o2, rfl, hb2, hc2⟩ := hb.len_pos k (by rw [HY.out]; exact hlt)
        have hs1 := hc1 k (by rw [HX.out]; exact hlt)
        have hs2 := hc2 k (by rw [HY.out]; exact hlt)
        have g1 := getD_rng ha.1 k
        have g2 := getD_rng hb.1 k
        clear hc1 hc2 ha hb
        generalize hx1 : xs.getD k 0 = x1 at *
        generalize hy1 : ys.getD k 0 = y1 at *
        have HX1 : Hid (xs.getD k 0 = x1) := hx1
        have HY1 : Hid (ys.getD k 0 = y1) := hy1
        clear hx1 hy1
        by_cases hxy : x1 = y1
        · subst hxy
          have hq : (x1 != x1) = false := by simp
          have HT' : Hid (xs.take (k + 1) = ys.take (k + 1)) := take_eq_succ HT.out (by rw [HX.out]; exact hlt) (by rw [HY.out]; exact hlt) (by rw [HX1.out, HY1.out])
          go_wp2
          go_quiet (fail)
          go_wp2
          go_roundw
          case rel => exact ⟨k + 1, _, by omega, by go_num, rfl, HT'.out⟩
          case measure => simp [intOf]; omega
        · have hq : (x1 != y1) = true := by rw [bne_iff_ne]; exact hxy
          have HN : Hid (decide (xs = ys) = false) := by
            have : xs ≠ ys := ne_of_getD (k := k) (by rw [HX1.out, HY1.out]; exact hxy)
            simpa [Hid] using this
          clear hxy
          go_wp2
          go_quiet (fail)
          go_wp2
          go_ret
          exact ⟨by rw [HN.out]; rfl, _, World.drewN_drewN ..⟩
      · have HE : Hid (decide (xs = ys) = true) := by
          have h1 := HT.out
          rw [List.take_of_length_le (by rw [HX.out]; omega), List.take_of_length_le (by rw [HY.out]; omega)] at h1
          simpa [Hid] using h1
        go_wp2
        go_ret
        exact ⟨by rw [HE.out]; rfl, _, rfl⟩
  · have hne : decide (xs = ys) = false := by simp; intro h; exact hl (by rw [h])
    have hl' : ((xs.length : Int) != (ys.length : Int)) = true := by rw [bne_iff_ne]; omega
    rw [hne]
    go_enter Tryz.func7, Tryz.ntmps7
    go_wp2
    go_ret
    exact ⟨rfl, 0, rfl⟩

theorem eqByteS_yes (a b : Option Addr) (ca cb : Nat) (xs : List Int) (w : World) (ha : Byt w a xs) (hb : Byt w b xs) (hx : xs.length ≤ 281474976710656) :
    Calls Tryz.prog 7 #[.slice a xs.length ca, .slice b xs.length cb] w fun e w' => e = .returned (.bool true) ∧ ∃ n, w' = w.drewN n := by
  refine (eqByteS_any a b ca cb xs xs w ha hb hx hx).mono ?_
  rintro e w' ⟨rfl, h⟩
  exact ⟨by simp, h⟩

end Go.Proofs.YtapdejphceflaaaGreatDoor
namespace Go.Proofs.YtapdejphceflaaaGreatDoor
open Go.RowKit
set_option linter.unusedVariables false
set_option linter.unusedSimpArgs false

set_option maxHeartbeats 1000000 in
theorem specDecode_any (xs : List Int) (Y : Option (List Int)) (h : DecW xs Y) (a : Option Addr) (cap : Nat) (w : World) (hc : xs.length ≤ cap) (hb : Byt w a xs) :
    Calls Tryz.prog 4 #[.slice a xs.length cap] w (DcE Y w) := by
  have HR := h.2.1 a cap w hc hb
  clear hb h
  go_enter Tryz.func4, Tryz.ntmps4
  go_wp2_with fail
  refine HR.mono ?_
  clear HR
  rintro e w1 ⟨hb1, ⟨bs, v, hy, hov, rfl⟩ | ⟨hno, v, rfl⟩⟩
  · have HO : Hid (DcE Y w (.returned (.tuple #[v, .bool true])) w1) := ⟨hb1, .inl ⟨bs, v, hy, hov, rfl⟩⟩
    obtain ⟨va, vc, rfl⟩ := hov.form
    clear hy hov hb1
    go_wp2
    go_ret2
    exact HO.out
  · have HO : Hid (DcE Y w (.returned (.tuple #[.slice none 0 0, .bool false])) w1) := ⟨hb1, .inr ⟨hno, rfl⟩⟩
    clear hno hb1
    go_wp2
    go_ret2
    exact HO.out

/-- The block, or nothing; and whether there is one. -/
def dcL : Option (List Int) → List Int
  | some bs => bs
  | none => []
theorem DcE.mine {Y : Option (List Int)} {w w' : World} {e : Ending} (h : DcE Y w e w') : (∃ a c, e = .returned (.tuple #[.slice a (dcL Y).length c, .bool Y.isSome]) ∧ Mine w' w.heap.size w'.heap.size a c (dcL Y)) ∧ Below w.heap.size w w' := by
  obtain ⟨hb, ⟨bs, v, rfl, hov, rfl⟩ | ⟨rfl, rfl⟩⟩ := h
  · obtain ⟨a, c, rfl, hm⟩ := hov.mine
    exact ⟨⟨a, c, rfl, hm⟩, hb⟩
  · exact ⟨⟨none, 0, rfl, .inl ⟨rfl, rfl, rfl⟩⟩, hb⟩

set_option maxRecDepth 20000 in
set_option maxHeartbeats 8000000 in
theorem lawDecode_any (a : Option Addr) (cap : Nat) (xs : List Int) (w : World) (hb : Byt w a xs) (hm : xs.length ≤ maxLen) (hS : SentB w) :
    Calls Tryz.prog 3 #[.slice a xs.length cap] w fun e w' => e = .returned (.bool true) ∧ Below w.heap.size w w' := by
  by_cases hn : xs.length ≤ 1048576
  · obtain ⟨Y, hW⟩ := decW xs hn hb.1
    have hll : (dcL Y).length ≤ 64 := by
      cases Y with
      | none => simp [dcL]
      | some bs => have := (hW.1 bs rfl).1; simp only [dcL]; omega
    have HSPEC : Hid (∀ (a : Option Addr) (w : World), Byt w a xs → Calls Tryz.prog 4 #[.slice a xs.length xs.length] w fun e w' => (∃ a c, e = .returned (.tuple #[.slice a (dcL Y).length c, .bool Y.isSome]) ∧ Mine w' w.heap.size w'.heap.size a c (dcL Y)) ∧ Below w.heap.size w w') := fun a w h => (specDecode_any xs Y hW a _ w (Nat.le_refl _) h).mono fun e w' h => h.mine
    have HIMPL : Hid (∀ (a : Option Addr) (W : World), Byt W a xs → Below w.heap.size w W → Calls Tryz.prog 6 #[.slice a xs.length xs.length] W fun e w' => (∃ a c, e = .returned (.tuple #[.slice a (dcL Y).length c, .bool Y.isSome]) ∧ Mine w' W.heap.size w'.heap.size a c (dcL Y)) ∧ Below W.heap.size W w') := fun a W h hbl => (hW.2.2 a _ W (Nat.le_refl _) h (hS.below hbl)).mono fun e w' h => h.mine
    have HB : Hid (Byt w a xs) := hb
    clear hb hS hW
    generalize dcL Y = ls at *
    generalize Y.isSome = R at *
    have hRR : (R != R) = false := by simp
    have hn1 : ¬ ((1048576 : Int) < (xs.length : Int)) := by omega
    have HN : Hid (xs.length ≤ 1048576 ∧ True) := ⟨hn, trivial⟩
    have HC1 := toByteS_any a cap xs w HB.out hn
    go_enter Tryz.func3, Tryz.ntmps3
    go_wp2_with fail
    refine HC1.mono ?_
    clear HC1
    rintro e w2 ⟨rfl, ho2, hb2⟩
    have HB2 : Hid (Below w.heap.size w w2) := hb2
    have HSP := HSPEC.out (some ⟨w.heap.size, 0, none⟩) w2 ho2.byt
    have z2 := hb2.size
    clear hb2 ho2 HSPEC
    go_wp2_with fail
    refine HSP.mono ?_
    clear HSP
    rintro e w3 ⟨⟨aw, cw, rfl, hmw⟩, hb3⟩
    have HB3 : Hid (Below w.heap.size w w3 ∧ Mine w3 w.heap.size w3.heap.size aw cw ls) := ⟨HB2.out.trans (hb3.mono z2), hmw.mono z2 (Nat.le_refl _)⟩
    have z3 : w.heap.size ≤ w3.heap.size := HB3.out.1.size
    have HC1 := toByteS_any a cap xs w3 (HB.out.below HB3.out.1 (Nat.le_refl _)) hn
    clear hb3 HB2 hmw
    go_wp2_with fail
    refine HC1.mono ?_
    clear HC1
    rintro e w4 ⟨rfl, ho4, hb4⟩
    have HB4 : Hid (Below w.heap.size w w4 ∧ Mine w4 w.heap.size w3.heap.size aw cw ls ∧ Mine w4 w3.heap.size w4.heap.size (some ⟨w3.heap.size, 0, none⟩) xs.length xs ∧ w3.heap.size ≤ w4.heap.size) := ⟨HB3.out.1.trans (hb4.mono z3), HB3.out.2.below hb4, ho4.mine, hb4.size⟩
    have HIM := HIMPL.out (some ⟨w3.heap.size, 0, none⟩) w4 ho4.byt HB4.out.1
    clear hb4 ho4 HB3
    go_wp2_with fail
    refine HIM.mono ?_
    clear HIM
    rintro e w6 ⟨⟨ag, cg, rfl, hmg⟩, hb6⟩
    have HS6 : Hid (Snp w w6 w.heap.size w3.heap.size w4.heap.size w6.heap.size (fun _ => True) (fun W => Mine W w.heap.size w3.heap.size aw cw ls) (fun W => Mine W w3.heap.size w4.heap.size (some ⟨w3.heap.size, 0, none⟩) xs.length xs) (fun W => Mine W w4.heap.size w6.heap.size ag cg ls)) := by
      have hx := HB4.out.2.2.2
      have h6 := hb6.size
      exact ⟨HB4.out.1.trans (hb6.mono (by omega)), by omega, Stab.true _ _, trivial, Stab.mine (Nat.le_refl _) (Nat.le_refl _), HB4.out.2.1.below hb6, Stab.mine (Nat.le_refl _) (Nat.le_refl _), HB4.out.2.2.1.below hb6, Stab.mine (Nat.le_refl _) (Nat.le_refl _), hmg⟩
    clear hmg hb6 HB4
    generalize w6.heap.size = Z at *
    generalize w4.heap.size = X at *
    generalize w3.heap.size = U at *
    go_wp2_with fail
    refine (eqByteS_yes ag aw cg cw ls w6 HS6.out.hg.byt HS6.out.hw.byt (by omega)).mono ?_
    rintro e w7 ⟨rfl, n7, rfl⟩
    have HS7 : Hid _ := HS6.out.drew n7
    clear HS6
    generalize w6.drewN n7 = w7 at *
    have HC1 := toByteS_any a cap xs w7 (HB.out.below HS7.out.bel (Nat.le_refl _)) hn
    go_wp2_with fail
    refine HC1.mono ?_
    clear HC1
    rintro e w8 ⟨rfl, ho8, hb8⟩
    have HS8 : Hid _ := HS7.out.step hb8
    have HEQ := eqByteS_yes (some ⟨U, 0, none⟩) (some ⟨w7.heap.size, 0, none⟩) xs.length xs.length xs w8 HS8.out.hx.byt ho8.byt (by omega)
    clear HS7 ho8 hb8
    go_wp2_with fail
    refine HEQ.mono ?_
    clear HEQ
    rintro e w9 ⟨rfl, n9, rfl⟩
    have HS9 : Hid _ := HS8.out.drew n9
    clear HS8
    generalize w8.drewN n9 = w9 at *
    have HMK := markByteS_any (some ⟨U, 0, none⟩) U X xs.length xs 1 _ HS9.out.hx (by omega) (by omega) (by omega)
    go_wp2_with fail
    refine HMK.mono ?_
    clear HMK
    rintro e w10 ⟨rfl, hm10, ho10⟩
    have HS10 : Hid _ := HS9.out.markX ho10 (fun k hk => hm10.rowT hk) (Stab.mine (B := U) (U := X) (a := some ⟨U, 0, none⟩) (c := xs.length) (zs := marks 1 xs.length) (Nat.le_refl _) (Nat.le_refl _)) hm10
    clear hm10 ho10 HS9
    have hk0 : ¬ ((1 : Int) + (xs.length : Int) < 0) := by omega
    go_wp2_with fail
    refine (eqByteS_yes ag aw cg cw ls w10 HS10.out.hg.byt HS10.out.hw.byt (by omega)).mono ?_
    rintro e w11 ⟨rfl, n11, rfl⟩
    have HS11 : Hid _ := HS10.out.drew n11
    clear HS10
    generalize w10.drewN n11 = w11 at *
    have HMK := markByteS_any ag X Z cg ls 1 _ HS11.out.hg (by omega) (by omega) (by omega)
    go_wp2_with fail
    refine HMK.mono ?_
    clear HMK
    rintro e w12 ⟨rfl, hm12, ho12⟩
    have HS12 : Hid _ := HS11.out.markG ho12 (fun k hk => hm12.rowT hk) (Stab.mine (B := X) (U := Z) (a := ag) (c := cg) (zs := marks 1 ls.length) (Nat.le_refl _) (Nat.le_refl _)) hm12
    clear hm12 ho12 HS11
    go_wp2_with fail
    refine (heldByteS_any ag cg ls.length 1 _ HS12.out.hg.byt (by omega) (by omega) (by omega)).mono ?_
    rintro e w13 ⟨rfl, rfl⟩
    have HC1 := toByteS_any a cap xs w13 (HB.out.below HS12.out.bel (Nat.le_refl _)) hn
    go_wp2_with fail
    refine HC1.mono ?_
    clear HC1
    rintro e w14 ⟨rfl, ho14, hb14⟩
    have HS14 : Hid _ := HS12.out.step hb14
    have HIM := HIMPL.out (some ⟨w13.heap.size, 0, none⟩) w14 ho14.byt HS14.out.bel
    clear hb14 ho14 HS12 HIMPL
    go_wp2_with fail
    refine HIM.mono ?_
    clear HIM
    rintro e w15 ⟨⟨ah, ch, rfl, hmh⟩, hb15⟩
    have HS15 : Hid _ := HS14.out.step hb15
    have HMH : Hid (Byt w15 ah ls) := hmh.byt
    clear hmh hb15 HS14
    go_wp2_with fail
    refine (eqByteS_yes ah aw ch cw ls w15 HMH.out HS15.out.hw.byt (by omega)).mono ?_
    rintro e w16 ⟨rfl, n16, rfl⟩
    have HS16 : Hid _ := HS15.out.drew n16
    clear HS15 HMH
    generalize w15.drewN n16 = w16 at *
    go_wp2_with fail
    refine (heldByteS_any ag cg ls.length 1 _ HS16.out.hg.byt (by omega) (by omega) (by omega)).mono ?_
    rintro e w17 ⟨rfl, rfl⟩
    go_wp2
    go_ret
    exact ⟨rfl, HS16.out.bel⟩
  · have hn1 : ((1048576 : Int) < (xs.length : Int)) := by omega
    go_enter Tryz.func3, Tryz.ntmps3
    go_wp2
    go_ret
    exact ⟨rfl, Below.refl _ _⟩
end Go.Proofs.YtapdejphceflaaaGreatDoor
