/-
  The law on CmdOk says true, whatever is handed in, and writes nothing that was there.
-/
import Derived.Test.YtgnilkhddhlakaaCmI
namespace Go.Proofs.Ytgnilkhddhlakaa
open Go.RowKit
set_option linter.unusedVariables false

set_option maxHeartbeats 4000000 in
theorem lawCmdOk_any (k x : Int) (a b : Option Addr) (ca cb : Nat) (zs : List Int) (bs : List Bool) (w : World) (hb : Byt w a zs) (hd : Bos w b bs) (hm1 : zs.length ≤ maxLen) (hm2 : bs.length ≤ maxLen) :
    Calls Try.prog 3 #[.agg #[.int .i64 k, .int .i64 x, .slice a zs.length ca, .slice b bs.length cb]] w fun e w' => e = .returned (.bool true) ∧ Below w.heap.size w w' := by
  have HB : Hid (Byt w a zs ∧ Bos w b bs) := ⟨hb, hd⟩
  have HSZ : Hid (∀ W, Calls Try.prog 4 #[.agg #[.int .i64 k, .int .i64 x, .slice a zs.length ca, .slice b bs.length cb], .int .i64 1048576] W fun e w' => (∃ z : Int, e = .returned (.int .i64 z) ∧ (z = -1 ∨ (0 ≤ z ∧ zs.length + bs.length ≤ 1048576))) ∧ Below W.heap.size W w') := fun W => szCmd_any k x a b _ _ ca cb W hm1 hm2
  have HTO : Hid (zs.length + bs.length ≤ 1048576 → ∀ W, Below w.heap.size w W → Calls Try.prog 6 #[.agg #[.int .i64 k, .int .i64 x, .slice a zs.length ca, .slice b bs.length cb]] W fun e w' => ∃ g h, e = .returned (.agg #[.int .i64 k, .int .i64 x, .slice (some ⟨g, 0, none⟩) zs.length zs.length, .slice (some ⟨h, 0, none⟩) bs.length bs.length]) ∧ Byt w' (some ⟨g, 0, none⟩) zs ∧ Bos w' (some ⟨h, 0, none⟩) bs ∧ Below W.heap.size W w') :=
    fun hs W hw => toCmd_any k x a b ca cb zs bs W (HB.out.1.below hw (Nat.le_refl _)) (HB.out.2.below hw (Nat.le_refl _)) hs
  have HEQ : Hid (zs.length + bs.length ≤ 1048576 → ∀ W g h g' h', Byt W g zs → Bos W h bs → Byt W g' zs → Bos W h' bs → Calls Try.prog 8 #[.agg #[.int .i64 k, .int .i64 x, .slice g zs.length zs.length, .slice h bs.length bs.length], .agg #[.int .i64 k, .int .i64 x, .slice g' zs.length zs.length, .slice h' bs.length bs.length]] W fun e w' => e = .returned (.bool true) ∧ Below W.heap.size W w') :=
    fun hs W g h g' h' h1 h2 h3 h4 => eqCmd_yes k x g h g' h' _ _ _ _ zs bs W h1 h2 h3 h4 hs
  have A0 : Hid (Below w.heap.size w (w.alloc (Obj.cells #[Value.int .i64 k, Value.int .i64 x, Value.slice a zs.length ca, Value.slice b bs.length cb] 25)) ∧ Box4 (w.alloc (Obj.cells #[Value.int .i64 k, Value.int .i64 x, Value.slice a zs.length ca, Value.slice b bs.length cb] 25)) w.heap.size (.int .i64 k) (.int .i64 x) (.slice a zs.length ca) (.slice b bs.length cb)) := ⟨(Below.refl _ _).alloc (Nat.le_refl _) _, Box4.new _ _ _ _ _ _⟩
  clear hb hd hm1 hm2 HB
  go_enter Try.func3, Try.ntmps3
  go_wp2_with fail
  refine (HSZ.out _).mono ?_
  rintro e w1 ⟨⟨z, rfl, hz⟩, hb1⟩
  have A1 : Hid (Below w.heap.size w w1 ∧ Box4 w1 w.heap.size (.int .i64 k) (.int .i64 x) (.slice a zs.length ca) (.slice b bs.length cb)) := ⟨A0.out.1.trans (hb1.mono A0.out.1.size), A0.out.2.keep hb1 A0.out.2.lt⟩
  clear hb1 A0
  obtain ⟨c0, c1, c2, c3, -, cl⟩ := A1.out.2
  rcases hz with rfl | ⟨hz0, hfew⟩
  · go_wp2
    go_ret
    exact ⟨rfl, A1.out.1⟩
  have HTO2 : Hid _ := HTO.out hfew
  have HEQ2 : Hid _ := HEQ.out hfew
  have HSP : Hid (∀ W g h, Calls Try.prog 5 #[.agg #[.int .i64 k, .int .i64 x, .slice g zs.length zs.length, .slice h bs.length bs.length]] W fun e w' => e = .returned (.bool (cmB k x zs.length bs.length)) ∧ Below W.heap.size W w') := fun W g h => specCmdOk_any k x g h _ _ _ _ W (by omega) (by omega)
  have HIM : Hid (∀ W g h, Calls Try.prog 7 #[.agg #[.int .i64 k, .int .i64 x, .slice g zs.length zs.length, .slice h bs.length bs.length]] W fun e w' => e = .returned (.bool (cmB k x zs.length bs.length)) ∧ Below W.heap.size W w') := fun W g h => implCmdOk_any k x g h _ _ _ _ W (by omega) (by omega)
  clear HTO HEQ hfew
  generalize hn : zs.length = n at *
  generalize hm : bs.length = m at *
  generalize cmB k x n m = O at *
  clear hn hm
  go_wp2_with fail
  refine (HTO2.out _ A1.out.1).mono ?_
  rintro e w2 ⟨gg, hh, rfl, -, -, hb2⟩
  have A2 : Hid (Below w.heap.size w w2 ∧ Box4 w2 w.heap.size (.int .i64 k) (.int .i64 x) (.slice a n ca) (.slice b m cb)) := ⟨A1.out.1.trans (hb2.mono A1.out.1.size), A1.out.2.keep hb2 A1.out.2.lt⟩
  clear hb2 A1 c0 c1 c2 c3 cl
  go_wp2_with fail
  refine (HSP.out _ _ _).mono ?_
  rintro e w3 ⟨rfl, hb3⟩
  have A3 : Hid (Below w.heap.size w w3 ∧ Box4 w3 w.heap.size (.int .i64 k) (.int .i64 x) (.slice a n ca) (.slice b m cb)) := ⟨A2.out.1.trans (hb3.mono A2.out.1.size), A2.out.2.keep hb3 A2.out.2.lt⟩
  clear hb3 A2
  obtain ⟨c0, c1, c2, c3, -, cl⟩ := A3.out.2
  go_wp2_with fail
  refine (HTO2.out _ A3.out.1).mono ?_
  rintro e w4 ⟨g, h, rfl, hy, ho, hb4⟩
  have A4 : Hid (Below w.heap.size w w4 ∧ Box4 w4 w.heap.size (.int .i64 k) (.int .i64 x) (.slice a n ca) (.slice b m cb)) := ⟨A3.out.1.trans (hb4.mono A3.out.1.size), A3.out.2.keep hb4 A3.out.2.lt⟩
  have A5 : Hid (Below w.heap.size w (w4.alloc (Obj.cells #[Value.int .i64 k, Value.int .i64 x, Value.slice (some ⟨g, 0, none⟩) n n, Value.slice (some ⟨h, 0, none⟩) m m] 28)) ∧ Box4 (w4.alloc (Obj.cells #[Value.int .i64 k, Value.int .i64 x, Value.slice (some ⟨g, 0, none⟩) n n, Value.slice (some ⟨h, 0, none⟩) m m] 28)) w.heap.size (.int .i64 k) (.int .i64 x) (.slice a n ca) (.slice b m cb)) := ⟨A4.out.1.alloc A4.out.1.size _, A4.out.2.alloc _⟩
  have X5 : Hid ((Byt (w4.alloc (Obj.cells #[Value.int .i64 k, Value.int .i64 x, Value.slice (some ⟨g, 0, none⟩) n n, Value.slice (some ⟨h, 0, none⟩) m m] 28)) (some ⟨g, 0, none⟩) zs ∧ Bos (w4.alloc (Obj.cells #[Value.int .i64 k, Value.int .i64 x, Value.slice (some ⟨g, 0, none⟩) n n, Value.slice (some ⟨h, 0, none⟩) m m] 28)) (some ⟨h, 0, none⟩) bs) ∧ Box4 (w4.alloc (Obj.cells #[Value.int .i64 k, Value.int .i64 x, Value.slice (some ⟨g, 0, none⟩) n n, Value.slice (some ⟨h, 0, none⟩) m m] 28)) w4.heap.size (.int .i64 k) (.int .i64 x) (.slice (some ⟨g, 0, none⟩) n n) (.slice (some ⟨h, 0, none⟩) m m)) :=
    ⟨⟨hy.alloc _, ho.below ((Below.refl w4.heap.size w4).alloc (Nat.le_refl _) _) (Nat.le_refl _)⟩, Box4.new _ _ _ _ _ _⟩
  clear hb4 A3 hy ho c0 c1 c2 c3 cl
  go_wp2_with fail
  generalize w4.alloc (Obj.cells #[Value.int .i64 k, Value.int .i64 x, Value.slice (some ⟨g, 0, none⟩) n n, Value.slice (some ⟨h, 0, none⟩) m m] 28) = W5 at *
  refine (HIM.out _ _ _).mono ?_
  rintro e w6 ⟨rfl, hb6⟩
  have A6 : Hid (Below w.heap.size w w6 ∧ Box4 w6 w.heap.size (.int .i64 k) (.int .i64 x) (.slice a n ca) (.slice b m cb)) := ⟨A5.out.1.trans (hb6.mono A5.out.1.size), A5.out.2.keep hb6 A5.out.2.lt⟩
  have X6 : Hid ((Byt w6 (some ⟨g, 0, none⟩) zs ∧ Bos w6 (some ⟨h, 0, none⟩) bs) ∧ Box4 w6 w4.heap.size (.int .i64 k) (.int .i64 x) (.slice (some ⟨g, 0, none⟩) n n) (.slice (some ⟨h, 0, none⟩) m m)) :=
    ⟨⟨X5.out.1.1.below hb6 (Nat.le_refl _), X5.out.1.2.below hb6 (Nat.le_refl _)⟩, X5.out.2.keep hb6 X5.out.2.lt⟩
  clear hb6 A5 X5 A4
  generalize w4.heap.size = X at *
  have hOO : (O != O) = false := by simp
  go_wp2_with fail
  go_region_held3 (fun W => (W.cell? ⟨X, 0, none⟩ = some (.int .i64 k) ∧ W.cell? ⟨X, 1, none⟩ = some (.int .i64 x) ∧ W.cell? ⟨X, 2, none⟩ = some (.slice (some ⟨g, 0, none⟩) n n) ∧ W.cell? ⟨X, 3, none⟩ = some (.slice (some ⟨h, 0, none⟩) m m)) ∧ W.cell? ⟨w.heap.size, 0, none⟩ = some (.int .i64 k) ∧ W.cell? ⟨w.heap.size, 1, none⟩ = some (.int .i64 x) ∧ W.cell? ⟨w.heap.size, 2, none⟩ = some (.slice a n ca) ∧ W.cell? ⟨w.heap.size, 3, none⟩ = some (.slice b m cb))
    (first | exact ⟨⟨X6.out.2.c0, X6.out.2.c1, X6.out.2.c2, X6.out.2.c3⟩, A6.out.2.c0, A6.out.2.c1, A6.out.2.c2, A6.out.2.c3⟩ | exact ⟨⟨X7.out.2.c0, X7.out.2.c1, X7.out.2.c2, X7.out.2.c3⟩, A7.out.2.c0, A7.out.2.c1, A7.out.2.c2, A7.out.2.c3⟩ | exact ⟨⟨X8.out.c0, X8.out.c1, X8.out.c2, X8.out.c3⟩, A8.out.2.c0, A8.out.2.c1, A8.out.2.c2, A8.out.2.c3⟩)
    (first
      | (go_at_call 6; refine (HTO2.out _ A6.out.1.drew).mono ?_; rintro e w7 ⟨g2, h2, rfl, hy7, ho7, hb7'⟩; have hb7 : Below w6.heap.size w6 w7 := Below.drewS hb7'; have A7 : Hid (Below w.heap.size w w7 ∧ Box4 w7 w.heap.size (.int .i64 k) (.int .i64 x) (.slice a n ca) (.slice b m cb)) := ⟨A6.out.1.trans (hb7.mono A6.out.1.size), A6.out.2.keep hb7 A6.out.2.lt⟩; have X7 : Hid (((Byt w7 (some ⟨g, 0, none⟩) zs ∧ Bos w7 (some ⟨h, 0, none⟩) bs) ∧ Byt w7 (some ⟨g2, 0, none⟩) zs ∧ Bos w7 (some ⟨h2, 0, none⟩) bs) ∧ Box4 w7 X (.int .i64 k) (.int .i64 x) (.slice (some ⟨g, 0, none⟩) n n) (.slice (some ⟨h, 0, none⟩) m m)) := ⟨⟨⟨X6.out.1.1.below hb7 (Nat.le_refl _), X6.out.1.2.below hb7 (Nat.le_refl _)⟩, hy7, ho7⟩, X6.out.2.keep hb7 X6.out.2.lt⟩; clear hb7' hb7 hy7 ho7)
      | (go_at_call 8; refine (HEQ2.out _ _ _ _ _ X7.out.1.1.1 X7.out.1.1.2 X7.out.1.2.1 X7.out.1.2.2).mono ?_; rintro e w8 ⟨rfl, hb8⟩; have A8 : Hid (Below w.heap.size w w8 ∧ Box4 w8 w.heap.size (.int .i64 k) (.int .i64 x) (.slice a n ca) (.slice b m cb)) := ⟨A7.out.1.trans (hb8.mono A7.out.1.size), A7.out.2.keep hb8 A7.out.2.lt⟩; have X8 : Hid _ := X7.out.2.keep hb8 X7.out.2.lt; clear hb8))
  clear A6 X6 A7 X7
  go_wp2
  go_ret
  exact ⟨rfl, A8.out.1⟩
end Go.Proofs.Ytgnilkhddhlakaa
