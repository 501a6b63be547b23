/-
  The law on shares and their bits returns true, whatever is handed in, where the sentinels hold some error, and writes nothing that was there.
-/
import Derived.Test.YtfhcaoabohmkkaaDoorDrNGet
import Derived.Test.YtfhcaoabohmkkaaDoorNGetI
import Derived.Test.YtfhcaoabohmkkaaDoorNPutI
import Derived.Test.YtfhcaoabohmkkaaDoorSameI
namespace Go.Proofs.YtfhcaoabohmkkaaDoor
open Go.RowKit
set_option linter.unusedVariables false

theorem val_enc (M V : Nat) (h : V < 2 ^ M) : val (enc M V) = V := by
  unfold enc
  rw [val_encL]
  refine Nat.mod_eq_of_lt (Nat.lt_of_lt_of_le h ?_)
  rw [show 256 = 2 ^ 8 from rfl, ← Nat.pow_mul]
  exact Nat.pow_le_pow_right (by omega) (by omega)
theorem okB_of_enc (M V : Nat) (hM : M ≤ 4096) (h : V < 2 ^ M) : okB (M : Int) (enc M V) = true := by
  have hl := enc_len M V
  by_cases h8 : M % 8 = 0
  · exact okB_full (by omega) (by omega) (by rw [hl]; omega) (by omega)
  · rw [okB_last (by omega) (by omega) (by rw [hl]; omega) (by omega)]
    have h1 := enc_last M V h h8
    have h2 := enc_top M V h
    rw [show (enc M V).length - 1 = M / 8 from by omega, h1, show ((M : Int) % 8).toNat = M % 8 from by omega]
    have e : (((V / 256 ^ (M / 8) : Nat) : Int) / 2 ^ (M % 8)) = ((V / 256 ^ (M / 8) / 2 ^ (M % 8) : Nat) : Int) := by simp
    rw [e, Nat.div_eq_of_lt h2]
    rfl
theorem norm64 : normB [64] = true := by decide
theorem below_dB {B : Nat} {a b : World} (h : Below B a b) (n : Nat) : Below B a (b.drewN n) := ⟨h.os, h.tape, h.output, h.size, h.block⟩

set_option maxHeartbeats 8000000 in
theorem lawFnNormBits_any (a : Option Addr) (cap : Nat) (bs : List Int) (w : World) (hb : Byt w a bs) (hm : bs.length ≤ maxLen) (s0 : Sent w 2) (s1 : Sent w 4) (s2 : Sent w 0)
    (hG : 2 < w.heap.size ∧ 4 < w.heap.size ∧ 0 < w.heap.size) :
    Calls Tryd.prog 5 #[.slice a bs.length cap] w fun e w' => e = .returned (.bool true) ∧ Below w.heap.size w w' := by
  go_enter Tryd.func5, Tryd.ntmps5
  go_wp2_with fail
  refine (drawNormPut_any a bs cap w hb hm).mono ?_
  rintro e w1 ⟨v, l, rfl, hov, hll, hb1⟩
  obtain ⟨al, cl, rfl⟩ := hov.form
  obtain ⟨al', cl', he, hml⟩ := hov.mine
  obtain ⟨rfl, rfl⟩ : al = al' ∧ cl = cl' := by simpa using he
  have HB1 : Hid (Below w.heap.size w w1) := hb1
  have HL1 : Hid (Ins w1 al l) := hml.byt
  clear hov he hml hb1
  cases hn : normB l with
  | false =>
    have HN : Hid (normB l = false) := hn
    clear hn
    go_wp2_with fail
    refine (implNormPut_no al cl l w1 HL1.out (by omega) HN.out).mono ?_
    rintro e w2 ⟨rfl, hb2⟩
    have hba : Below w1.heap.size w1 (w2.alloc (Obj.cells #[Value.slice none 0 0, Value.int IntKind.i64 0] 27)) := hb2.alloc hb2.size _
    have HL2 : Hid (Ins (w2.alloc (Obj.cells #[Value.slice none 0 0, Value.int IntKind.i64 0] 27)) al l) := HL1.out.below hba (Nat.le_refl _)
    have HB2 : Hid (Below w.heap.size w (w2.alloc (Obj.cells #[Value.slice none 0 0, Value.int IntKind.i64 0] 27))) := HB1.out.trans (hba.mono HB1.out.size)
    clear hb2 hba HB1 HL1
    go_wp2_with fail
    generalize w2.alloc (Obj.cells #[Value.slice none 0 0, Value.int IntKind.i64 0] 27) = w3 at *
    have HS := specNormOk_any al cl l w3 HL2.out (by omega)
    have HI := implNormOk_any al cl l w3 HL2.out (by omega)
    rw [HN.out] at HS HI
    refine HS.mono ?_
    rintro e w4 ⟨rfl, rfl⟩
    go_wp2_with fail
    refine HI.mono ?_
    rintro e w5 ⟨rfl, rfl⟩
    clear HS HI HL2 HN
    have HBc : Hid (Below w.heap.size w w5) := HB2.out
    clear HB2
    go_wp2_with fail
    refine (drawNormGet_any a bs cap w5 (hb.below HBc.out (Nat.le_refl _)) hm).mono ?_
    rintro e u1 ⟨ay, cy, ys, N, t, m, rfl, hmy, hyl2, ht1, ht2, hm1, hm2, hbu⟩
    have hbb : Below w.heap.size w u1 := HBc.out.trans (hbu.mono HBc.out.size)
    have HBU : Hid (Below w.heap.size w (u1.alloc (Obj.cells #[Value.slice ay ys.length cy, Value.int IntKind.i64 N] 27))) := hbb.alloc hbb.size _
    have HYU : Hid (Byt (u1.alloc (Obj.cells #[Value.slice ay ys.length cy, Value.int IntKind.i64 N] 27)) ay ys) := hmy.byt.alloc _
    have HYR : Hid (∀ z ∈ ys, 0 ≤ z ∧ z ≤ 255) := hmy.byt.1
    clear hbu hmy hbb HBc
    go_wp2_with fail
    generalize u1.alloc (Obj.cells #[Value.slice ay ys.length cy, Value.int IntKind.i64 N] 27) = u2 at *
    generalize u1.heap.size = Y at *
    have T0 := s0.below HBU.out (by omega)
    have T1 := s1.below HBU.out (by omega)
    have T2 := s2.below HBU.out (by omega)
    have hsU := HBU.out.size
    have refuse : ∀ (R : World → Prop), True := fun _ => trivial
    by_cases hga : getArgs N t m ys
    · obtain ⟨hO, g1, g2, g3, g4⟩ := hga
      obtain ⟨k, rfl, hk1, hke, hkv⟩ := okB_enc hO HYR.out
      obtain ⟨p, rfl⟩ := Int.eq_ofNat_of_zero_le g1
      obtain ⟨s, rfl⟩ := Int.eq_ofNat_of_zero_le (show 0 ≤ m by omega)
      have HNG := implNormGet_ok ay cy ys k p s u2 HYU.out hO hke (by omega) (by omega) (by omega) (by omega) T0 T1 T2 (by omega)
      have HKE : Hid (ys = enc k (val ys)) := hke
      clear hO hke hkv
      generalize val ys = V2 at *
      refine HNG.mono ?_
      clear HNG
      rintro e u3 ⟨hb3, hy3, hn3⟩
      have HB3 : Hid (Below w.heap.size w u3) := HBU.out.trans (hb3.mono HBU.out.size)
      by_cases hgot : gotN k V2 p s
      · obtain ⟨g8, rfl, ho8⟩ := hy3 hgot
        obtain ⟨hnb8, hpos8⟩ := got_norm (by omega) (by omega) hgot
        have hgl := gXs_len V2 p s
        have HPOS : Hid (((gL V2 p s).2 : Nat) = p + nb (gXs V2 p s) s) := hpos8.symm
        have HI8 : Hid (Ins u3 (some ⟨g8, 0, none⟩) (gXs V2 p s)) := ho8.byt
        have hnb84 := nb_le hnb8 s
        have hposb : (gL V2 p s).2 ≤ 20000 := by omega
        have HNP := implNormPut_yes (some ⟨g8, 0, none⟩) s (gXs V2 p s) u3 HI8.out hnb8
        rw [hgl] at HNP
        have HN8 : Hid (normB (gXs V2 p s) = true) := hnb8
        have HGL : Hid ((gXs V2 p s).length = s) := hgl
        clear ho8 hy3 hn3 hb3 hgot hnb8 hpos8 hgl HYU T0 T1 T2
        generalize hpp : (gL V2 p s).2 = P at *
        clear hpp
        go_wp2_with fail
        refine HNP.mono ?_
        clear HNP
        rintro e u4 ⟨az, cz, rfl, hmz, hb4⟩
        have hsum : (p : Int) + ((nb (gXs V2 p s) s : Nat) : Int) = (P : Nat) := by have := HPOS.out; omega
        have hnbb : nb (gXs V2 p s) s ≤ 20000 := by omega
        have HPOS2 : Hid ((p : Int) + ((nb (gXs V2 p s) s : Nat) : Int) = (P : Nat)) := hsum
        generalize nb (gXs V2 p s) s = Z at *
        generalize enc Z (vb (gXs V2 p s) s) = zz at *
        have hI9 : Ins (u4.alloc (Obj.cells #[Value.slice az zz.length cz, Value.int IntKind.i64 (Z : Nat)] 27)) (some ⟨g8, 0, none⟩) (gXs V2 p s) := (HI8.out.below hb4 (Nat.le_refl _)).alloc _
        have HO9 := implNormOk_any (some ⟨g8, 0, none⟩) s (gXs V2 p s) _ hI9 (by rw [HGL.out]; omega)
        rw [HGL.out, HN8.out] at HO9
        have HB4 : Hid (Below w.heap.size w (u4.alloc (Obj.cells #[Value.slice az zz.length cz, Value.int IntKind.i64 (Z : Nat)] 27))) := (HB3.out.trans (hb4.mono HB3.out.size)).alloc (by have h1 := HB3.out.size; have h2 := hb4.size; omega) _
        have heq : ((P : Int) == (p : Int) + (Z : Int)) = true := by rw [HPOS2.out]; simp
        clear hmz hb4 hI9 HI8 hsum HPOS HPOS2 HB3
        go_wp2_with fail
        refine HO9.mono ?_
        clear HO9
        rintro e u5 ⟨rfl, rfl⟩
        go_wp2
        go_ret
        exact ⟨rfl, HB4.out⟩
      · obtain rfl := hn3 hgot
        clear hy3 hn3 hb3
        have HIN : Hid (∀ T, Ins (u3.alloc (.cells #[.int .i64 64] T)) (some ⟨u3.heap.size, 0, none⟩) [64]) := fun T => by
          have := ins_newN u3 T [64] (by intro z hz; simp at hz; omega)
          simpa using this
        have HBA : Hid (∀ T, Below w.heap.size w (u3.alloc (.cells #[.int .i64 64] T))) := fun T => HB3.out.alloc HB3.out.size _
        go_wp2_with fail
        have HO9 := implNormOk_any (some ⟨u3.heap.size, 0, none⟩) 1 [64] _ (HIN.out 3) (by simp)
        rw [norm64] at HO9
        refine HO9.mono ?_
        rintro e u5 ⟨rfl, rfl⟩
        go_wp2
        go_ret
        exact ⟨rfl, HBA.out _⟩
    · refine (implNormGet_no ay cy ys N t m u2 HYU.out (by omega) hga).mono ?_
      rintro e u3 ⟨rfl, hb3⟩
      have HB3 : Hid (Below w.heap.size w u3) := HBU.out.trans (hb3.mono HBU.out.size)
      clear hb3
      have HIN : Hid (∀ T, Ins (u3.alloc (.cells #[.int .i64 64] T)) (some ⟨u3.heap.size, 0, none⟩) [64]) := fun T => by
        have := ins_newN u3 T [64] (by intro z hz; simp at hz; omega)
        simpa using this
      have HBA : Hid (∀ T, Below w.heap.size w (u3.alloc (.cells #[.int .i64 64] T))) := fun T => HB3.out.alloc HB3.out.size _
      go_wp2_with fail
      have HO9 := implNormOk_any (some ⟨u3.heap.size, 0, none⟩) 1 [64] _ (HIN.out 3) (by simp)
      rw [norm64] at HO9
      refine HO9.mono ?_
      rintro e u5 ⟨rfl, rfl⟩
      go_wp2
      go_ret
      exact ⟨rfl, HBA.out _⟩
  | true =>
    have HN : Hid (normB l = true) := hn
    have hnbl := nb_le hn l.length
    obtain ⟨hl1, hl2⟩ := normB_bnd hn
    have HGN := norm_got hn
    have HVL := vb_lt hn l.length (Nat.le_refl _)
    have HGN' : Hid _ := HGN
    have HVL' : Hid _ := HVL
    clear hn HGN HVL
    go_wp2_with fail
    refine (implNormPut_yes al cl l w1 HL1.out HN.out).mono ?_
    rintro e w2 ⟨ax, cx, rfl, hmx, hb2⟩
    have hyl := enc_len (nb l l.length) (vb l l.length)
    generalize hM : nb l l.length = M at *
    generalize hV : vb l l.length = V at *
    clear hM hV
    generalize hX : enc M V = xs at *
    have HXE : Hid (enc M V = xs) := hX
    have HYL : Hid (xs.length = (M + 7) / 8) := hyl
    clear hX hyl
    have hba : Below w1.heap.size w1 (w2.alloc (Obj.cells #[Value.slice ax xs.length cx, Value.int IntKind.i64 (M : Nat)] 27)) := hb2.alloc hb2.size _
    have HL2 : Hid (Ins (w2.alloc (Obj.cells #[Value.slice ax xs.length cx, Value.int IntKind.i64 (M : Nat)] 27)) al l) := HL1.out.below hba (Nat.le_refl _)
    have HB2 : Hid (Below w.heap.size w (w2.alloc (Obj.cells #[Value.slice ax xs.length cx, Value.int IntKind.i64 (M : Nat)] 27))) := HB1.out.trans (hba.mono HB1.out.size)
    have HX2 : Hid (Byt (w2.alloc (Obj.cells #[Value.slice ax xs.length cx, Value.int IntKind.i64 (M : Nat)] 27)) ax xs) := hmx.byt.alloc _
    have c0 : (w2.alloc (Obj.cells #[Value.slice ax xs.length cx, Value.int IntKind.i64 (M : Nat)] 27)).cell? ⟨w2.heap.size, 0, none⟩ = some (.slice ax xs.length cx) := by simp
    have c1 : (w2.alloc (Obj.cells #[Value.slice ax xs.length cx, Value.int IntKind.i64 (M : Nat)] 27)).cell? ⟨w2.heap.size, 1, none⟩ = some (.int .i64 (M : Nat)) := by simp
    have HZ2 : Hid (w2.heap.size < (w2.alloc (Obj.cells #[Value.slice ax xs.length cx, Value.int IntKind.i64 (M : Nat)] 27)).heap.size) := by simp [Hid]
    have HC : Hid _ := (⟨c0, c1⟩ : _ ∧ _)
    clear hb2 hba HB1 HL1 hmx c0 c1
    go_wp2_with fail
    generalize w2.alloc (Obj.cells #[Value.slice ax xs.length cx, Value.int IntKind.i64 (M : Nat)] 27) = w3 at *
    generalize w2.heap.size = X at *
    have HS := specNormOk_any al cl l w3 HL2.out (by omega)
    have HI := implNormOk_any al cl l w3 HL2.out (by omega)
    rw [HN.out] at HS HI
    refine HS.mono ?_
    rintro e w4 ⟨rfl, rfl⟩
    go_wp2_with fail
    refine HI.mono ?_
    rintro e w5 ⟨rfl, rfl⟩
    clear HS HI HN
    have c0 := HC.out.1
    have c1 := HC.out.2
    go_wp2_with fail
    have hval : val xs = V := by rw [← HXE.out]; exact val_enc M V HVL'.out
    have hok : okB (M : Int) xs = true := by rw [← HXE.out]; exact okB_of_enc M V (by omega) HVL'.out
    have HNG := implNormGet_ok ax cx xs M 0 l.length w5 HX2.out hok (by rw [hval]; exact HXE.out.symm) (by omega) (by omega) hl1 hl2 (s0.below HB2.out (by omega)) (s1.below HB2.out (by omega)) (s2.below HB2.out (by omega)) (by have := HB2.out.size; omega)
    rw [hval] at HNG
    refine HNG.mono ?_
    clear HNG
    rintro e w6 ⟨hb6, hy6, -⟩
    obtain ⟨g6, rfl, ho6⟩ := hy6 HGN'.out.1
    rw [HGN'.out.2.1] at ho6
    rw [HGN'.out.2.2]
    have HL6 : Hid (Ins w6 al l) := HL2.out.below hb6 (Nat.le_refl _)
    have HG6 : Hid (Ins w6 (some ⟨g6, 0, none⟩) l) := ho6.byt
    have HB6 : Hid (Below w.heap.size w w6) := HB2.out.trans (hb6.mono HB2.out.size)
    have d1 := keep hb6 HZ2.out HC.out.2
    clear hb6 hy6 ho6 HL2 HX2 HB2 HC HGN' hval hok c0 c1
    have hMM : ((M : Int) != (M : Int)) = false := by simp
    go_wp2_with fail
    refine (sameInts_yes _ _ _ _ l _ HG6.out HL6.out (by omega)).mono ?_
    rintro e w7 ⟨rfl, n7, rfl⟩
    have HBc : Hid (Below w.heap.size w (w6.drewN n7)) := below_dB HB6.out n7
    clear HB6 HG6 HL6 d1
    generalize w6.drewN n7 = w7 at *
    go_wp2_with fail
    refine (drawNormGet_any a bs cap w7 (hb.below HBc.out (Nat.le_refl _)) hm).mono ?_
    rintro e u1 ⟨ay, cy, ys, N, t, m, rfl, hmy, hyl2, ht1, ht2, hm1, hm2, hbu⟩
    have hbb : Below w.heap.size w u1 := HBc.out.trans (hbu.mono HBc.out.size)
    have HBU : Hid (Below w.heap.size w (u1.alloc (Obj.cells #[Value.slice ay ys.length cy, Value.int IntKind.i64 N] 27))) := hbb.alloc hbb.size _
    have HYU : Hid (Byt (u1.alloc (Obj.cells #[Value.slice ay ys.length cy, Value.int IntKind.i64 N] 27)) ay ys) := hmy.byt.alloc _
    have HYR : Hid (∀ z ∈ ys, 0 ≤ z ∧ z ≤ 255) := hmy.byt.1
    clear hbu hmy hbb HBc
    go_wp2_with fail
    generalize u1.alloc (Obj.cells #[Value.slice ay ys.length cy, Value.int IntKind.i64 N] 27) = u2 at *
    generalize u1.heap.size = Y at *
    have T0 := s0.below HBU.out (by omega)
    have T1 := s1.below HBU.out (by omega)
    have T2 := s2.below HBU.out (by omega)
    have hsU := HBU.out.size
    have refuse : ∀ (R : World → Prop), True := fun _ => trivial
    by_cases hga : getArgs N t m ys
    · obtain ⟨hO, g1, g2, g3, g4⟩ := hga
      obtain ⟨k, rfl, hk1, hke, hkv⟩ := okB_enc hO HYR.out
      obtain ⟨p, rfl⟩ := Int.eq_ofNat_of_zero_le g1
      obtain ⟨s, rfl⟩ := Int.eq_ofNat_of_zero_le (show 0 ≤ m by omega)
      have HNG := implNormGet_ok ay cy ys k p s u2 HYU.out hO hke (by omega) (by omega) (by omega) (by omega) T0 T1 T2 (by omega)
      have HKE : Hid (ys = enc k (val ys)) := hke
      clear hO hke hkv
      generalize val ys = V2 at *
      refine HNG.mono ?_
      clear HNG
      rintro e u3 ⟨hb3, hy3, hn3⟩
      have HB3 : Hid (Below w.heap.size w u3) := HBU.out.trans (hb3.mono HBU.out.size)
      by_cases hgot : gotN k V2 p s
      · obtain ⟨g8, rfl, ho8⟩ := hy3 hgot
        obtain ⟨hnb8, hpos8⟩ := got_norm (by omega) (by omega) hgot
        have hgl := gXs_len V2 p s
        have HPOS : Hid (((gL V2 p s).2 : Nat) = p + nb (gXs V2 p s) s) := hpos8.symm
        have HI8 : Hid (Ins u3 (some ⟨g8, 0, none⟩) (gXs V2 p s)) := ho8.byt
        have hnb84 := nb_le hnb8 s
        have hposb : (gL V2 p s).2 ≤ 20000 := by omega
        have HNP := implNormPut_yes (some ⟨g8, 0, none⟩) s (gXs V2 p s) u3 HI8.out hnb8
        rw [hgl] at HNP
        have HN8 : Hid (normB (gXs V2 p s) = true) := hnb8
        have HGL : Hid ((gXs V2 p s).length = s) := hgl
        clear ho8 hy3 hn3 hb3 hgot hnb8 hpos8 hgl HYU T0 T1 T2
        generalize hpp : (gL V2 p s).2 = P at *
        clear hpp
        go_wp2_with fail
        refine HNP.mono ?_
        clear HNP
        rintro e u4 ⟨az, cz, rfl, hmz, hb4⟩
        have hsum : (p : Int) + ((nb (gXs V2 p s) s : Nat) : Int) = (P : Nat) := by have := HPOS.out; omega
        have hnbb : nb (gXs V2 p s) s ≤ 20000 := by omega
        have HPOS2 : Hid ((p : Int) + ((nb (gXs V2 p s) s : Nat) : Int) = (P : Nat)) := hsum
        generalize nb (gXs V2 p s) s = Z at *
        generalize enc Z (vb (gXs V2 p s) s) = zz at *
        have hI9 : Ins (u4.alloc (Obj.cells #[Value.slice az zz.length cz, Value.int IntKind.i64 (Z : Nat)] 27)) (some ⟨g8, 0, none⟩) (gXs V2 p s) := (HI8.out.below hb4 (Nat.le_refl _)).alloc _
        have HO9 := implNormOk_any (some ⟨g8, 0, none⟩) s (gXs V2 p s) _ hI9 (by rw [HGL.out]; omega)
        rw [HGL.out, HN8.out] at HO9
        have HB4 : Hid (Below w.heap.size w (u4.alloc (Obj.cells #[Value.slice az zz.length cz, Value.int IntKind.i64 (Z : Nat)] 27))) := (HB3.out.trans (hb4.mono HB3.out.size)).alloc (by have h1 := HB3.out.size; have h2 := hb4.size; omega) _
        have heq : ((P : Int) == (p : Int) + (Z : Int)) = true := by rw [HPOS2.out]; simp
        clear hmz hb4 hI9 HI8 hsum HPOS HPOS2 HB3
        go_wp2_with fail
        refine HO9.mono ?_
        clear HO9
        rintro e u5 ⟨rfl, rfl⟩
        go_wp2
        go_ret
        exact ⟨rfl, HB4.out⟩
      · obtain rfl := hn3 hgot
        clear hy3 hn3 hb3
        have HIN : Hid (∀ T, Ins (u3.alloc (.cells #[.int .i64 64] T)) (some ⟨u3.heap.size, 0, none⟩) [64]) := fun T => by
          have := ins_newN u3 T [64] (by intro z hz; simp at hz; omega)
          simpa using this
        have HBA : Hid (∀ T, Below w.heap.size w (u3.alloc (.cells #[.int .i64 64] T))) := fun T => HB3.out.alloc HB3.out.size _
        go_wp2_with fail
        have HO9 := implNormOk_any (some ⟨u3.heap.size, 0, none⟩) 1 [64] _ (HIN.out 3) (by simp)
        rw [norm64] at HO9
        refine HO9.mono ?_
        rintro e u5 ⟨rfl, rfl⟩
        go_wp2
        go_ret
        exact ⟨rfl, HBA.out _⟩
    · refine (implNormGet_no ay cy ys N t m u2 HYU.out (by omega) hga).mono ?_
      rintro e u3 ⟨rfl, hb3⟩
      have HB3 : Hid (Below w.heap.size w u3) := HBU.out.trans (hb3.mono HBU.out.size)
      clear hb3
      have HIN : Hid (∀ T, Ins (u3.alloc (.cells #[.int .i64 64] T)) (some ⟨u3.heap.size, 0, none⟩) [64]) := fun T => by
        have := ins_newN u3 T [64] (by intro z hz; simp at hz; omega)
        simpa using this
      have HBA : Hid (∀ T, Below w.heap.size w (u3.alloc (.cells #[.int .i64 64] T))) := fun T => HB3.out.alloc HB3.out.size _
      go_wp2_with fail
      have HO9 := implNormOk_any (some ⟨u3.heap.size, 0, none⟩) 1 [64] _ (HIN.out 3) (by simp)
      rw [norm64] at HO9
      refine HO9.mono ?_
      rintro e u5 ⟨rfl, rfl⟩
      go_wp2
      go_ret
      exact ⟨rfl, HBA.out _⟩
end Go.Proofs.YtfhcaoabohmkkaaDoor
