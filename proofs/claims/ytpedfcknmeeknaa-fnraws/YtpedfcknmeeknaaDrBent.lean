/-
  A device that is drawn, and bent now and then.
-/
import Derived.Test.YtpedfcknmeeknaaRawG
namespace Go.Proofs.Ytpedfcknmeeknaa
open Go.RowKit
set_option linter.unusedVariables false
set_option linter.unusedSimpArgs false

/-- How many wait, as the variable's block says. -/
def lenAt (w : World) (X : Nat) : Nat := match w.cell? ⟨X, 1, none⟩ with
  | some (.slice _ n _) => n
  | _ => 0
theorem lenAt_box {W : World} {X n c : Nat} {v : Value} {pa : Option Addr} (h : Box2 W X v (.slice pa n c)) : lenAt W X = n := by
  unfold lenAt
  rw [h.c1]
theorem drop_getD (zs : List Int) (i : Nat) : (zs.drop 1).getD i 0 = zs.getD (1 + i) 0 := by simp only [List.getD_eq_getElem?_getD, List.getElem?_drop]

set_option maxRecDepth 20000 in
set_option maxHeartbeats 8000000 in
theorem Dr.bent6 {w0 w : World} {B R : Nat} {a : Option Addr} {bs : List Int} {cap : Nat} (h : Dr w0 w B R a bs cap) :
    Calls Try.prog 18 #[.pointer (some ⟨R, 0, none⟩)] w fun e w' => (∃ (sa : Option Addr) (sc : Nat) (pa : Option Addr) (pc : Nat) (es fs : List El), e = .returned (.agg #[.slice sa es.length sc, .slice pa fs.length pc]) ∧ RawG w' w.heap.size sa pa es fs ∧ es.length ≤ 5 ∧ fs.length ≤ 61 ∧ ∀ e ∈ es ++ fs, e.ls.length ≤ 256) ∧ Dr w0 w' B R a bs cap ∧ Only (fun k => k = R) w w' := by
  have hRl := h.cur.lt
  have HRB : Hid (B ≤ R ∧ R < w.heap.size ∧ w0.heap.size = B) := ⟨hRl.1, hRl.2, h.hB⟩
  have hal : Below w.heap.size w (w.alloc (Obj.cells #[Value.slice none 0 0, Value.slice none 0 0] 26)) := (Below.refl _ _).alloc (Nat.le_refl _) _
  have HD0 : Hid (Dr w0 (w.alloc (Obj.cells #[Value.slice none 0 0, Value.slice none 0 0] 26)) B R a bs cap ∧ Box2 (w.alloc (Obj.cells #[Value.slice none 0 0, Value.slice none 0 0] 26)) w.heap.size (.slice none 0 0) (.slice none 0 0) ∧ Only (fun k => k = R) w (w.alloc (Obj.cells #[Value.slice none 0 0, Value.slice none 0 0] 26))) := ⟨h.other (S := fun _ => False) (Only.ofBelow hal (Nat.le_refl _)) (by simp) (by simp), Box2.new _ _ _ _, Only.ofBelow hal (Nat.le_refl _)⟩
  clear h hal
  have HDR := HD0.out.1.draw6
  go_enter Try.func18, Try.ntmps18
  go_wp2_with fail
  refine HDR.mono ?_
  clear HDR
  rintro e w2 ⟨⟨v, u, es, fs, rfl, hro, hok, h5, h6⟩, hd2, ho2⟩
  have hba : Below w2.heap.size w2 (w2.alloc (Obj.cells #[v, u] 26)) := (Below.refl _ _).alloc (Nat.le_refl _) _
  have hd3 : Dr w0 (w2.alloc (Obj.cells #[v, u] 26)) B R a bs cap := hd2.other (S := fun _ => False) (Only.ofBelow hba (Nat.le_refl _)) (by simp) (by simp)
  have HS3 : Hid (DrD w0 w (w2.alloc (Obj.cells #[v, u] 26)) B R w2.heap.size a bs cap v u es fs) := by
    have hr := HRB.out
    have hres := HD0.out.2.1.only ho2 (by omega)
    have hl2 := hres.lt
    rw [World.size_alloc] at hro
    refine ⟨⟨?_, by omega, by omega, hro.below hba, Box2.new _ _ _ _, fun k hk e => by have := (hro.inside k hk).2; omega⟩, hd3, (HD0.out.2.2.trans ho2).trans (Only.ofBelow hba (Nat.le_refl _)), hres.keep hba hl2, hok, hl2⟩
    have h9 := hd3.bel
    rw [← hr.2.2] at h9
    exact h9
  obtain ⟨va, vc, ua, uc, rfl, rfl⟩ := hro.form
  clear hro hok hd2 ho2 hba hd3 HD0
  go_wp2_with fail
  generalize w2.alloc (Obj.cells #[.slice va es.length vc, .slice ua fs.length uc] 26) = w3 at *
  generalize w2.heap.size = X at *
  refine (HS3.out.dr.once 9 (by omega) (by omega)).mono ?_
  rintro e w4 ⟨⟨b, rfl⟩, hd4, ho4⟩
  have HS4 : Hid (DrD w0 w w4 B R X a bs cap (.slice va es.length vc) (.slice ua fs.length uc) es fs) := HS3.out.cur HRB.out.2.1 hd4 ho4
  clear hd4 ho4 HS3
  cases b with
  | false =>
    have HE : Hid (BenE w0 w w4 B R X a bs cap va ua vc uc es fs) := HS4.out.benE h5
    clear HS4
    obtain ⟨x0, x1, x2, x3, xl⟩ := HE.out.box
    obtain ⟨r0, r1, r2, r3, rl⟩ := HE.out.res
    have HFI : Hid _ := HE.out.fin HRB.out.2.1 HRB.out.1 (.slice va (List.length (es)) vc) (.slice ua (List.length (fs)) uc)
    have HLL : Hid ((List.length (es)) ≤ 5 ∧ (List.length (fs)) ≤ 61 ∧ ∀ e ∈ es ++ fs, e.ls.length ≤ 256) := ⟨HE.out.l1, HE.out.l2, HE.out.l3⟩
    clear HE
    go_wp2
    exact bodyPost_ret (v := .agg #[.slice va (List.length (es)) vc, .slice ua (List.length (fs)) uc]) (by simp [results, Try.results18, go_sem, r0, r1]) rfl ⟨⟨va, vc, ua, uc, es, fs, rfl, HFI.out.1, HLL.out.1, HLL.out.2.1, by first | exact HLL.out.2.2 | exact fun e he => HLL.out.2.2 e (List.mem_append.2 he)⟩, HFI.out.2.1, HFI.out.2.2⟩
  | true =>
    go_wp2_with fail
    refine (HS4.out.dr.below 4 (by omega) (by omega)).mono ?_
    rintro e w5 ⟨⟨y, hy0, hy4, rfl⟩, hd5, ho5⟩
    have HS5 : Hid (DrD w0 w w5 B R X a bs cap (.slice va es.length vc) (.slice ua fs.length uc) es fs) := HS4.out.cur HRB.out.2.1 hd5 ho5
    clear hd5 ho5 HS4
    obtain ⟨c0, c1, f0, f1, cl⟩ := HS5.out.dev.box
    have key : y = 0 ∨ y = 1 ∨ y = 2 ∨ y = 3 := by omega
    rcases key with rfl | rfl | rfl | rfl
    · have h1es := HS5.out.ok.1
      obtain ⟨g, cg, e1, hg1, hg2, hfz, hcs⟩ := HS5.out.dev.own.rs.cell 0 h1es
      obtain ⟨rfl, rfl⟩ : va = some ⟨g, 0, none⟩ ∧ vc = cg := by simpa using e1
      have hm0 := HS5.out.dev.own.deep.mine (es.getD 0 de) (List.mem_append_left _ (getD_memE h1es))
      have hl0 := HS5.out.ok.2.2.2.1 0 h1es
      have hd0 := (hcs 0 h1es).c1
      simp only [eW, eO, cond_false, Nat.mul_one, Nat.add_zero] at hd0
      rw [hl0] at hd0
      have hf0 := hfz 0
      have hri : (0 : Int) < (es.length : Int) := by omega
      obtain ⟨ga, ha0, hgc, hby⟩ : ∃ ga, (es.getD 0 de).a = some ⟨ga, 0, none⟩ ∧ 256 ≤ (es.getD 0 de).c ∧ Byt w5 (some ⟨ga, 1, none⟩) ((es.getD 0 de).ls.drop 1) ∧ w.heap.size + 1 ≤ ga := by
        rcases hm0 with ⟨-, h2, -⟩ | ⟨ga, h1, h2, h3, ho⟩
        · rw [h2] at hl0
          simp at hl0
        · refine ⟨ga, h1, ?_, ⟨fun z hz => ho.byt.1 z (List.mem_of_mem_drop hz), fun hp => ⟨ga, 1, rfl, h3, fun i hi => ?_⟩⟩, h2⟩
          · rcases ho.1.2 with ⟨e2, h0⟩ | ⟨_, cap', cur, e2, _, _, hle, _⟩
            · simp at e2
            · injection e2 with i1 i2 i3
              rw [i3]
              omega
          · rw [List.length_drop] at hi
            have h9 := ho.cell (1 + i) (by omega)
            rw [h9, drop_getD]
      have HE : Hid (BenE w0 w (w5.setCell ⟨g, 0, none⟩ (.slice (some ⟨ga, 1, none⟩) 255 ((es.getD 0 de).c - 1))).drew B R X a bs cap (some ⟨g, 0, none⟩) ua vc uc (es.set 0 ⟨0, some ⟨ga, 1, none⟩, (es.getD 0 de).c - 1, (es.getD 0 de).ls.drop 1⟩) fs) := by
        have hr := HRB.out
        have hX := HS5.out.hX
        have hb := HS5.out.benE h5
        have hvo : (Value.slice (some ⟨g, 0, none⟩) es.length vc).ownBlock = some g := rfl
        have hon : Only (fun b => b = g) w5 (w5.setCell ⟨g, 0, none⟩ (.slice (some ⟨ga, 1, none⟩) 255 ((es.getD 0 de).c - 1))).drew := ((Only.refl (fun b => b = g) w5).setCell (p := ⟨g, 0, none⟩) (.inl rfl) _).drew
        have hdl : ((es.getD 0 de).ls.drop 1).length = 255 := by rw [List.length_drop, hl0]
        have hst := (HS5.out.dev.own.rs.store 0 h1es ⟨0, some ⟨ga, 1, none⟩, (es.getD 0 de).c - 1, (es.getD 0 de).ls.drop 1⟩ 0 (by simp [eW]) (.slice (some ⟨ga, 1, none⟩) 255 ((es.getD 0 de).c - 1)) (by show ([Value.slice (some ⟨ga, 1, none⟩) 255 ((es.getD 0 de).c - 1)] : List Value) = [Value.slice (some ⟨ga, 1, none⟩) ((es.getD 0 de).ls.drop 1).length ((es.getD 0 de).c - 1)]; rw [hdl]) hvo)
        rw [show 0 * eW false + 0 = 0 from by simp [eW]] at hst
        have hst2 : OVr false (w5.setCell ⟨g, 0, none⟩ (.slice (some ⟨ga, 1, none⟩) 255 ((es.getD 0 de).c - 1))).drew (w.heap.size + 1) (.slice (some ⟨g, 0, none⟩) es.length vc) (es.set 0 ⟨0, some ⟨ga, 1, none⟩, (es.getD 0 de).c - 1, (es.getD 0 de).ls.drop 1⟩) := hst.stay (S := fun _ => False) (Only.drew (Only.refl _ _)) (by simp)
        have hnr : ∀ e ∈ es ++ fs, ∀ k, rowOf e.a k → ¬ k = g := fun e he k hk ek => HS5.out.dev.own.rs.other (HS5.out.dev.own.deep.mine e he) hvo (ek ▸ hk)
        have hga : ¬ ga = g := fun e => hnr _ (List.mem_append_left _ (getD_memE h1es)) ga ⟨_, ha0, rfl⟩ e
        have hgX : ¬ X = g := fun e => HS5.out.dev.nx g (.inl rfl) e.symm
        have hes : ∀ e ∈ es.set 0 ⟨0, some ⟨ga, 1, none⟩, (es.getD 0 de).c - 1, (es.getD 0 de).ls.drop 1⟩, (rE false e ∧ Byt (w5.setCell ⟨g, 0, none⟩ (.slice (some ⟨ga, 1, none⟩) 255 ((es.getD 0 de).c - 1))).drew e.a e.ls) ∧ (∀ k, rowOf e.a k → w.heap.size + 1 ≤ k) ∧ e.ls.length ≤ 256 := by
          intro e he
          rcases List.mem_or_eq_of_mem_set he with he | rfl
          · exact ⟨⟨HS5.out.dev.own.rng.1 e he, (HS5.out.dev.own.deep.byt e (List.mem_append_left _ he)).stayR hon (hnr e (List.mem_append_left _ he))⟩, hb.g.be e (List.mem_append_left _ he), hb.l3 e (List.mem_append_left _ he)⟩
          · refine ⟨⟨⟨by simp, by simp, by simp only [hdl]; unfold maxLen; omega, by simp⟩, hby.1.stayR hon ?_⟩, ?_, by simp only [hdl]; omega⟩
            · rintro k ⟨x, e3, rfl⟩ ek
              simp at e3
              subst e3
              exact hga ek
            · rintro k ⟨x, e3, rfl⟩
              simp at e3
              subst e3
              exact hby.2
        refine ⟨⟨⟨hst2.els (fun e he => (hes e he).1), hb.g.inn.2.stayR hon ?_ (fun e he => hnr e (List.mem_append_right _ he))⟩, hb.g.bs, hb.g.bp, fun e he => ?_⟩, ?_, hb.dr.other hon (by omega) (fun k hk => by omega), hb.only.trans' hon (fun k hk => by omega), hb.res.only hon (by omega), by rw [List.length_set]; exact h5, hb.l2, fun e he => ?_⟩
        · rintro k ⟨x, e3, rfl⟩ ek
          exact HS5.out.dev.own.rs.two HS5.out.dev.own.rp hvo (by rw [e3]; simpa [Value.ownBlock] using ek)
        · rcases List.mem_append.1 he with he | he
          · exact (hes e he).2.1
          · exact hb.g.be e (List.mem_append_right _ he)
        · rw [List.length_set]
          exact hb.box.only hon hgX
        · rcases List.mem_append.1 he with he | he
          · exact (hes e he).2.2
          · exact hb.l3 e (List.mem_append_right _ he)
      have hcc1 : ¬ (es.getD 0 de).c = 1 := by omega
      rw [ha0] at hd0
      clear hm0 hl0 hby ha0 HS5 hcs hfz e1
      generalize hes2 : es.set 0 ⟨0, some ⟨ga, 1, none⟩, (es.getD 0 de).c - 1, (es.getD 0 de).ls.drop 1⟩ = es2 at HE
      have hel2 : es2.length = es.length := by rw [← hes2, List.length_set]
      clear hes2
      generalize (es.getD 0 de).c = cq at *
      clear hel2
      go_wp2
      go_region
      generalize (w5.setCell ⟨g, 0, none⟩ (.slice (some ⟨ga, 1, none⟩) 255 (cq - 1))).drew = w6 at *
      clear hd0 c0 c1 f0 f1 cl hf0
      obtain ⟨x0, x1, x2, x3, xl⟩ := HE.out.box
      obtain ⟨r0, r1, r2, r3, rl⟩ := HE.out.res
      have HFI : Hid _ := HE.out.fin HRB.out.2.1 HRB.out.1 (.slice (some ⟨g, 0, none⟩) (List.length (es2)) vc) (.slice ua (List.length (fs)) uc)
      have HLL : Hid ((List.length (es2)) ≤ 5 ∧ (List.length (fs)) ≤ 61 ∧ ∀ e ∈ es2 ++ fs, e.ls.length ≤ 256) := ⟨HE.out.l1, HE.out.l2, HE.out.l3⟩
      clear HE
      go_wp2
      exact bodyPost_ret (v := .agg #[.slice (some ⟨g, 0, none⟩) (List.length (es2)) vc, .slice ua (List.length (fs)) uc]) (by simp [results, Try.results18, go_sem, r0, r1]) rfl ⟨⟨(some ⟨g, 0, none⟩), vc, ua, uc, es2, fs, rfl, HFI.out.1, HLL.out.1, HLL.out.2.1, by first | exact HLL.out.2.2 | exact fun e he => HLL.out.2.2 e (List.mem_append.2 he)⟩, HFI.out.2.1, HFI.out.2.2⟩
    · have HE5 : Hid (DrE w0 w w5 B R X a bs cap (.slice va es.length vc) (.slice ua fs.length uc) es fs ∧ 1 ≤ es.length) := ⟨HS5.out.drE, HS5.out.ok.1⟩
      clear HS5
      go_wp2
      refine wp_region_cut (S := fun W => W.cell? ⟨X, 1, none⟩ = some (.slice ua fs.length uc) ∧ W.cell? ⟨X, 0, none⟩ = some (.slice va es.length vc)) 13 (by kernel_rfl) (by kernel_rfl) (by exact ⟨c1, c0⟩) (fun hHeld => ?_)
      refine wpAnyH_take (i := 0) (v := ?_) rfl (by kernel_rfl) (by kernel_rfl) (by kernel_rfl) (fun _ _ _ h => h) (Or.inl ⟨by rfl, ?_⟩) (by assumption) ?_
      rotate_left 1
      · (intro w hSw; (try dsimp only at hSw); go_simp; try (with_reducible rfl))
      try simp only [List.getElem_toArray, List.getElem_cons_zero, List.getElem_cons_succ, Act.put, List.setIfInBounds_toArray, List.set_cons_zero, List.set_cons_succ]
      refine wpAnyH_take (i := 1) (v := ?_) rfl (by kernel_rfl) (by kernel_rfl) (by kernel_rfl) (fun _ _ _ h => h) (Or.inl ⟨by rfl, ?_⟩) (by assumption) ?_
      rotate_left 1
      · (intro w hSw; (try dsimp only at hSw); go_simp; try (with_reducible rfl))
      try simp only [List.getElem_toArray, List.getElem_cons_zero, List.getElem_cons_succ, Act.put, List.setIfInBounds_toArray, List.set_cons_zero, List.set_cons_succ]
      refine wpAnyH_take (i := 2) (v := ?_) rfl (by kernel_rfl) (by kernel_rfl) (by kernel_rfl) (fun _ _ _ h => h) (Or.inl ⟨by rfl, ?_⟩) (by assumption) ?_
      rotate_left 1
      · (intro w hSw; (try dsimp only at hSw); go_simp; try (with_reducible rfl))
      try simp only [List.getElem_toArray, List.getElem_cons_zero, List.getElem_cons_succ, Act.put, List.setIfInBounds_toArray, List.set_cons_zero, List.set_cons_succ]
      refine wpAnyH_take (i := 3) (v := ?_) rfl (by kernel_rfl) (by kernel_rfl) (by kernel_rfl) (fun _ _ _ h => h) (Or.inl ⟨by rfl, ?_⟩) (by assumption) ?_
      rotate_left 1
      · (intro w hSw; (try dsimp only at hSw); go_simp; try (with_reducible rfl))
      try simp only [List.getElem_toArray, List.getElem_cons_zero, List.getElem_cons_succ, Act.put, List.setIfInBounds_toArray, List.set_cons_zero, List.set_cons_succ]
      refine wpAnyH_take (i := 4) (v := ?_) rfl (by kernel_rfl) (by kernel_rfl) (by kernel_rfl) (fun _ _ _ h => h) (Or.inl ⟨by rfl, ?_⟩) (by assumption) ?_
      rotate_left 1
      · (intro w hSw; (try dsimp only at hSw); go_simp; try (with_reducible rfl))
      try simp only [List.getElem_toArray, List.getElem_cons_zero, List.getElem_cons_succ, Act.put, List.setIfInBounds_toArray, List.set_cons_zero, List.set_cons_succ]
      refine wpAnyH_take (i := 5) (v := ?_) rfl (by kernel_rfl) (by kernel_rfl) (by kernel_rfl) (fun _ _ _ h => h) (Or.inl ⟨by rfl, ?_⟩) (by assumption) ?_
      rotate_left 1
      · (intro w hSw; (try dsimp only at hSw); go_simp; try (with_reducible rfl))
      try simp only [List.getElem_toArray, List.getElem_cons_zero, List.getElem_cons_succ, Act.put, List.setIfInBounds_toArray, List.set_cons_zero, List.set_cons_succ]
      refine wpAnyH_take (i := 8) (v := ?_) rfl (by kernel_rfl) (by kernel_rfl) (by kernel_rfl) (fun _ _ _ h => h) (Or.inl ⟨by rfl, ?_⟩) (by assumption) ?_
      rotate_left 1
      · (intro w hSw; (try dsimp only at hSw); go_simp; try (with_reducible rfl))
      try simp only [List.getElem_toArray, List.getElem_cons_zero, List.getElem_cons_succ, Act.put, List.setIfInBounds_toArray, List.set_cons_zero, List.set_cons_succ]
      refine wpAnyH_ready (rs := [6]) (by kernel_rfl) (by simp) ?_
      refine AllReadyH.cons rfl (fun K hK => ?_) AllReadyH.nil
      go_simp
      refine hK.out _ _ (by exact ⟨keepA _ cl c1, keepA _ cl c0⟩) (fun hHeld => ?_)
      clear hK K
      try simp only [List.getElem_toArray, List.getElem_cons_zero, List.getElem_cons_succ, Act.put, List.setIfInBounds_toArray, List.set_cons_zero, List.set_cons_succ]
      refine wpAnyH_ready (rs := [7]) (by kernel_rfl) (by simp) ?_
      refine AllReadyH.cons rfl (fun K hK => ?_) AllReadyH.nil
      go_simp
      have HDW : Hid (DrE w0 w (w5.drew.alloc (Obj.cells #[.int .i64 (-1), .int .i64 (es.length : Nat)] 3)) B R X a bs cap (.slice va es.length vc) (.slice ua fs.length uc) es fs) := HE5.out.1.still HRB.out.2.1 (Only.alloc (Only.drew (Only.refl _ _)) _)
      have HIN : Hid (Ins (w5.drew.alloc (Obj.cells #[.int .i64 (-1), .int .i64 (es.length : Nat)] 3)) (some ⟨w5.heap.size, 0, none⟩) [-1, (es.length : Int)]) := by
        have h9 := ins_newR w5.drew 3 [-1, (es.length : Int)] (by intro z hz; simp at hz; omega)
        simp at h9
        exact h9
      refine (HDW.out.dr.pick w5.heap.size 2 [-1, (es.length : Int)] (by exact HIN.out) (by have := HRB.out.2.1; have := HE5.out.1.res.lt; omega) (by simp) (by simp)).mono ?_
      rintro e w6 ⟨⟨y, hy, rfl⟩, hd6, ho6⟩
      have hyr : -1 ≤ y ∧ y ≤ 5 := by simp at hy; omega
      have HS6 : Hid (DrE w0 w w6 B R X a bs cap (.slice va es.length vc) (.slice ua fs.length uc) es fs) := HDW.out.cur HRB.out.2.1 hd6 ho6
      clear hd6 ho6 HDW HIN hy
      dsimp only
      refine hK.out _ _ (by exact ⟨HS6.out.dev.box.c1, HS6.out.dev.box.c0⟩) (fun hHeld => ?_)
      clear hK K
      try simp only [List.getElem_toArray, List.getElem_cons_zero, List.getElem_cons_succ, Act.put, List.setIfInBounds_toArray, List.set_cons_zero, List.set_cons_succ]
      refine wpAnyH_ready (rs := [9]) (by kernel_rfl) (by simp) ?_
      refine AllReadyH.cons rfl (fun K hK => ?_) AllReadyH.nil
      go_simp
      refine HS6.out.dr.sector.mono ?_
      rintro e w7 ⟨⟨g, zs, rfl, hzl, how⟩, hd7, ho7⟩
      have HS7 : Hid (DrE w0 w w7 B R X a bs cap (.slice va es.length vc) (.slice ua fs.length uc) es fs ∧ Mine w7 w6.heap.size w7.heap.size (some ⟨g, 0, none⟩) 256 zs ∧ zs.length = 256 ∧ (∀ x ∈ es ++ fs, ∀ k, rowOf x.a k → k < w6.heap.size) ∧ X < w6.heap.size ∧ w.heap.size < w6.heap.size) := ⟨HS6.out.cur HRB.out.2.1 hd7 ho7, how.mine, hzl, fun x hx k hk => HS6.out.dev.own.deep.lt x hx k hk, HS6.out.dev.box.lt, HS6.out.res.lt⟩
      obtain ⟨d0, d1, -, -, dl⟩ := HS7.out.1.dev.box
      clear hd7 ho7 how HS6 hzl
      dsimp only
      refine hK.out _ _ (by exact ⟨d1, d0⟩) (fun hHeld => ?_)
      clear hK K
      try simp only [List.getElem_toArray, List.getElem_cons_zero, List.getElem_cons_succ, Act.put, List.setIfInBounds_toArray, List.set_cons_zero, List.set_cons_succ]
      refine wpAnyH_take (i := 10) (v := ?_) rfl (by kernel_rfl) (by kernel_rfl) (by kernel_rfl) (fun _ _ _ h => h) (Or.inl ⟨by rfl, ?_⟩) (by assumption) ?_
      rotate_left 1
      · (intro w hSw; (try dsimp only at hSw); go_simp; try (with_reducible rfl))
      try simp only [List.getElem_toArray, List.getElem_cons_zero, List.getElem_cons_succ, Act.put, List.setIfInBounds_toArray, List.set_cons_zero, List.set_cons_succ]
      refine wpAnyH_ready (rs := [11]) (by kernel_rfl) (by simp) ?_
      refine AllReadyH.cons rfl (fun K hK => ?_) AllReadyH.nil
      go_simp
      refine hK.out _ _ (by exact ⟨keepA _ dl d1, keepA _ dl d0⟩) (fun hHeld => ?_)
      clear hK K
      try simp only [List.getElem_toArray, List.getElem_cons_zero, List.getElem_cons_succ, Act.put, List.setIfInBounds_toArray, List.set_cons_zero, List.set_cons_succ]
      refine wpAnyH_ready (rs := [12]) (by kernel_rfl) (by simp) ?_
      refine AllReadyH.cons rfl (fun K hK => ?_) AllReadyH.nil
      refine wanted_step rfl (wp_append_el_at true (.tmp 37) (.tmp 47) rfl (w.heap.size + 1) (.slice ua fs.length uc) fs (by simp [Act.eval]) (HS7.out.1.dev.own.rp.below ((Below.refl _ _).alloc (Nat.le_refl _) _)) w7.heap.size 1 ⟨y, some ⟨g, 0, none⟩, 256, zs⟩ (by simp [Act.eval]) (newsP w7 y _ 256 256 44 _ rfl rfl HS7.out.2.2.1 rfl) (by omega) (by have := HS7.out.1.res.lt; simp; omega) ?_)
      intro v8 w8 hov8 hg8 hat8
      have hmo := HS7.out.1.more HRB.out.2.1 (e := ⟨y, some ⟨g, 0, none⟩, 256, zs⟩) w6.heap.size (by have := HS7.out.2.2.2.2.2; omega) HS7.out.2.2.2.2.1 HS7.out.2.2.2.1 HS7.out.2.1 ⟨by simp only; omega, by simp only; omega, by have := HS7.out.2.2.1; simp only; unfold maxLen; omega, by simp⟩ (by have := HS7.out.2.2.1; simp only; omega) hov8 hg8 hat8
      obtain ⟨sa8, sc8, hv8⟩ := hov8.form
      have hln9 : (fs ++ [(⟨y, some ⟨g, 0, none⟩, 256, zs⟩ : El)]).length ≤ 61 := by simp; omega
      generalize fs ++ [(⟨y, some ⟨g, 0, none⟩, 256, zs⟩ : El)] = fs2 at hmo hv8 hln9 hov8
      subst hv8
      obtain ⟨e0, e1, h0, h1, el⟩ := hmo.2
      have HE : Hid (BenE w0 w (w8.setCell ⟨X, 1, none⟩ (.slice sa8 fs2.length sc8)) B R X a bs cap va sa8 vc sc8 es fs2) := hmo.1.benE h5 hln9
      clear hmo hov8 hg8 hat8 d0 d1 dl HS7 hln9
      refine hK.out _ _ (by exact ⟨e1, e0⟩) (fun hHeld => ?_)
      clear hK K
      try simp only [List.getElem_toArray, List.getElem_cons_zero, List.getElem_cons_succ, Act.put, List.setIfInBounds_toArray, List.set_cons_zero, List.set_cons_succ]
      refine wpAnyH_done (by kernel_rfl) ?_ _
      simp only [cutQ, List.drop_succ_cons, List.drop_zero]
      clear c0 c1 f0 f1 cl HE5
      obtain ⟨x0, x1, x2, x3, xl⟩ := HE.out.box
      obtain ⟨r0, r1, r2, r3, rl⟩ := HE.out.res
      have HFI : Hid _ := HE.out.fin HRB.out.2.1 HRB.out.1 (.slice va (List.length (es)) vc) (.slice sa8 (List.length (fs2)) sc8)
      have HLL : Hid ((List.length (es)) ≤ 5 ∧ (List.length (fs2)) ≤ 61 ∧ ∀ e ∈ es ++ fs2, e.ls.length ≤ 256) := ⟨HE.out.l1, HE.out.l2, HE.out.l3⟩
      clear HE
      go_wp2
      exact bodyPost_ret (v := .agg #[.slice va (List.length (es)) vc, .slice sa8 (List.length (fs2)) sc8]) (by simp [results, Try.results18, go_sem, r0, r1]) rfl ⟨⟨va, vc, sa8, sc8, es, fs2, rfl, HFI.out.1, HLL.out.1, HLL.out.2.1, by first | exact HLL.out.2.2 | exact fun e he => HLL.out.2.2 e (List.mem_append.2 he)⟩, HFI.out.2.1, HFI.out.2.2⟩
    · have HE : Hid (BenE w0 w (w5.setCell ⟨X, 0, none⟩ (.slice none 0 0)) B R X a bs cap none ua 0 uc [] fs) := by
        have hr := HRB.out
        have hX := HS5.out.hX
        have hb := HS5.out.benE h5
        have hon : Only (fun b => b = X) w5 (w5.setCell ⟨X, 0, none⟩ (.slice none 0 0)) := (Only.refl (fun b => b = X) w5).setCell (p := ⟨X, 0, none⟩) (.inl rfl) _
        have hown := (HS5.out.dev.own.stay hon (fun k hk e => HS5.out.dev.nx k hk e)).gone
        exact ⟨⟨⟨⟨by simp, by simp⟩, hown.inn.2⟩, fun k hk => by simp [rowOf] at hk, hown.bp, fun e he => hown.be e (List.mem_append_right _ (by simpa using he))⟩, hb.box.set0 _, hb.dr.other hon (by omega) (fun k hk => by omega), hb.only.trans' hon (fun k hk => by omega), hb.res.only hon (by omega), by simp, hb.l2, fun e he => hb.l3 e (List.mem_append_right _ (by simpa using he))⟩
      clear HS5
      obtain ⟨x0, x1, x2, x3, xl⟩ := HE.out.box
      obtain ⟨r0, r1, r2, r3, rl⟩ := HE.out.res
      have HFI : Hid _ := HE.out.fin HRB.out.2.1 HRB.out.1 (.slice none 0 0) (.slice ua (List.length (fs)) uc)
      have HLL : Hid (0 ≤ 5 ∧ (List.length (fs)) ≤ 61 ∧ ∀ e ∈ ([] : List El) ++ fs, e.ls.length ≤ 256) := ⟨HE.out.l1, HE.out.l2, HE.out.l3⟩
      clear HE
      go_wp2
      exact bodyPost_ret (v := .agg #[.slice none 0 0, .slice ua (List.length (fs)) uc]) (by simp [results, Try.results18, go_sem, r0, r1]) rfl ⟨⟨none, 0, ua, uc, [], fs, rfl, HFI.out.1, HLL.out.1, HLL.out.2.1, by first | exact HLL.out.2.2 | exact fun e he => HLL.out.2.2 e (List.mem_append.2 he)⟩, HFI.out.2.1, HFI.out.2.2⟩
    · have HE5 : Hid (DrE w0 w w5 B R X a bs cap (.slice va es.length vc) (.slice ua fs.length uc) es fs) := HS5.out.drE
      clear HS5 c0 c1 f0 f1 cl
      go_wp2
      go_loopw [10] (fun i wr => ∃ (u : Value) (gs : List El), DrE w0 w wr B R X a bs cap (.slice va es.length vc) u es gs ∧ gs.length ≤ 61) (fun _ wr => 61 - lenAt wr X)
      case atStart => exact ⟨_, fs, HE5.out, by omega⟩
      case round =>
        clear HE5
        obtain ⟨u, gs, hde, hg61⟩ := hrel
        obtain ⟨-, -, pa, pc, -, rfl⟩ := hde.dev.own.form
        have HS : Hid (DrE w0 w wr B R X a bs cap (.slice va es.length vc) (.slice pa gs.length pc) es gs) := hde
        have HLA : Hid (lenAt wr X = gs.length) := lenAt_box hde.dev.box
        obtain ⟨c0, c1, f0, f1, cl⟩ := hde.dev.box
        clear hde
        go_wp2
        refine wp_region_cut (S := fun W => W.cell? ⟨X, 1, none⟩ = some (.slice pa gs.length pc)) 7 (by kernel_rfl) (by kernel_rfl) (by exact c1) (fun hHeld => ?_)
        refine wpAnyH_take (i := 0) (v := ?_) rfl (by kernel_rfl) (by kernel_rfl) (by kernel_rfl) (fun _ _ _ h => h) (Or.inl ⟨by rfl, ?_⟩) (by assumption) ?_
        rotate_left 1
        · (intro w hSw; (try dsimp only at hSw); go_simp; try (with_reducible rfl))
        try simp only [List.getElem_toArray, List.getElem_cons_zero, List.getElem_cons_succ, Act.put, List.setIfInBounds_toArray, List.set_cons_zero, List.set_cons_succ]
        refine wpAnyH_take (i := 1) (v := ?_) rfl (by kernel_rfl) (by kernel_rfl) (by kernel_rfl) (fun _ _ _ h => h) (Or.inl ⟨by rfl, ?_⟩) (by assumption) ?_
        rotate_left 1
        · (intro w hSw; (try dsimp only at hSw); go_simp; try (with_reducible rfl))
        try simp only [List.getElem_toArray, List.getElem_cons_zero, List.getElem_cons_succ, Act.put, List.setIfInBounds_toArray, List.set_cons_zero, List.set_cons_succ]
        refine wpAnyH_take (i := 2) (v := ?_) rfl (by kernel_rfl) (by kernel_rfl) (by kernel_rfl) (fun _ _ _ h => h) (Or.inl ⟨by rfl, ?_⟩) (by assumption) ?_
        rotate_left 1
        · (intro w hSw; (try dsimp only at hSw); go_simp; try (with_reducible rfl))
        try simp only [List.getElem_toArray, List.getElem_cons_zero, List.getElem_cons_succ, Act.put, List.setIfInBounds_toArray, List.set_cons_zero, List.set_cons_succ]
        refine wpAnyH_take (i := 3) (v := ?_) rfl (by kernel_rfl) (by kernel_rfl) (by kernel_rfl) (fun _ _ _ h => h) (Or.inl ⟨by rfl, ?_⟩) (by assumption) ?_
        rotate_left 1
        · (intro w hSw; (try dsimp only at hSw); go_simp; try (with_reducible rfl))
        try simp only [List.getElem_toArray, List.getElem_cons_zero, List.getElem_cons_succ, Act.put, List.setIfInBounds_toArray, List.set_cons_zero, List.set_cons_succ]
        refine wpAnyH_ready (rs := [4]) (by kernel_rfl) (by simp) ?_
        refine AllReadyH.cons rfl (fun K hK => ?_) AllReadyH.nil
        go_simp
        have HDW : Hid (DrE w0 w wr.drew B R X a bs cap (.slice va es.length vc) (.slice pa gs.length pc) es gs) := HS.out.still HRB.out.2.1 (Only.drew (Only.refl _ _))
        refine (HDW.out.dr.below 2 (by omega) (by omega)).mono ?_
        rintro e w6 ⟨⟨y, hy0, hy1, rfl⟩, hd6, ho6⟩
        have hwr : IntKind.i64.wrap (60 + y) = 60 + y := IntWalk.i64_in _ (by omega)
        have HS6 : Hid (DrE w0 w w6 B R X a bs cap (.slice va es.length vc) (.slice pa gs.length pc) es gs) := HDW.out.cur HRB.out.2.1 hd6 ho6
        clear hd6 ho6 HDW HS
        dsimp only
        refine hK.out _ _ (by exact HS6.out.dev.box.c1) (fun hHeld => ?_)
        clear hK K
        try simp only [List.getElem_toArray, List.getElem_cons_zero, List.getElem_cons_succ, Act.put, List.setIfInBounds_toArray, List.set_cons_zero, List.set_cons_succ]
        refine wpAnyH_take (i := 5) (v := ?_) rfl (by kernel_rfl) (by kernel_rfl) (by kernel_rfl) (fun _ _ _ h => h) (Or.inl ⟨by rfl, ?_⟩) (by assumption) ?_
        rotate_left 1
        · (intro w hSw; (try dsimp only at hSw); go_simp; try (with_reducible rfl))
        try simp only [List.getElem_toArray, List.getElem_cons_zero, List.getElem_cons_succ, Act.put, List.setIfInBounds_toArray, List.set_cons_zero, List.set_cons_succ]
        refine wpAnyH_take (i := 6) (v := ?_) rfl (by kernel_rfl) (by kernel_rfl) (by kernel_rfl) (fun _ _ _ h => h) (Or.inl ⟨by rfl, ?_⟩) (by assumption) ?_
        rotate_left 1
        · (intro w hSw; (try dsimp only at hSw); go_simp; try (with_reducible rfl))
        try simp only [List.getElem_toArray, List.getElem_cons_zero, List.getElem_cons_succ, Act.put, List.setIfInBounds_toArray, List.set_cons_zero, List.set_cons_succ]
        refine wpAnyH_done (by kernel_rfl) ?_ _
        simp only [cutQ, List.drop_succ_cons, List.drop_zero]
        clear c0 c1 f0 f1 cl
        obtain ⟨c0, c1, f0, f1, cl⟩ := HS6.out.dev.box
        by_cases hlt : (gs.length : Int) < 60 + y
        · go_wp2
          obtain ⟨Z, hZ⟩ : ∃ Z : List Int, Z = List.replicate 256 0 := ⟨_, rfl⟩
          obtain ⟨w7, hmk, ho7, hb7'⟩ := run_make_byt w6.drew 256 (by omega) Z hZ
          have hb7 : Below w6.heap.size w6 w7 := Below.drewS hb7'
          have hmk2 : Sem.run Try.prog (Instr.makeSlice 22 (.int .i64 256) (.int .i64 256)) w6.drew = .ok (.slice (some ⟨w6.heap.size, 0, none⟩) 256 256) w7 := hmk
          have HS7 : Hid (DrE w0 w w7 B R X a bs cap (.slice va es.length vc) (.slice pa gs.length pc) es gs ∧ Mine w7 w6.heap.size w7.heap.size (some ⟨w6.heap.size, 0, none⟩) 256 Z ∧ Z.length = 256 ∧ (∀ x ∈ es ++ gs, ∀ k, rowOf x.a k → k < w6.heap.size) ∧ X < w6.heap.size ∧ w.heap.size < w6.heap.size) := ⟨HS6.out.still HRB.out.2.1 (Only.ofBelow hb7 (Nat.le_refl _)), ho7.mine, by rw [hZ]; exact List.length_replicate, fun x hx k hk => HS6.out.dev.own.deep.lt x hx k hk, HS6.out.dev.box.lt, HS6.out.res.lt⟩
          obtain ⟨d0, d1, -, -, dl⟩ := HS7.out.1.dev.box
          clear hmk ho7 hb7 hb7' hZ
          refine wp_region_cut (S := fun W => W.cell? ⟨X, 1, none⟩ = some (.slice pa gs.length pc)) 6 (by kernel_rfl) (by kernel_rfl) (by exact c1) (fun hHeld => ?_)
          refine wpAnyH_take (i := 0) (v := ?_) rfl (by kernel_rfl) (by kernel_rfl) (by kernel_rfl) (fun _ _ _ h => h) (Or.inl ⟨by rfl, ?_⟩) (by assumption) ?_
          rotate_left 1
          · (intro w hSw; (try dsimp only at hSw); go_simp; try (with_reducible rfl))
          try simp only [List.getElem_toArray, List.getElem_cons_zero, List.getElem_cons_succ, Act.put, List.setIfInBounds_toArray, List.set_cons_zero, List.set_cons_succ]
          refine wpAnyH_take (i := 1) (v := ?_) rfl (by kernel_rfl) (by kernel_rfl) (by kernel_rfl) (fun _ _ _ h => h) (Or.inl ⟨by rfl, ?_⟩) (by assumption) ?_
          rotate_left 1
          · (intro w hSw; (try dsimp only at hSw); go_simp; try (with_reducible rfl))
          try simp only [List.getElem_toArray, List.getElem_cons_zero, List.getElem_cons_succ, Act.put, List.setIfInBounds_toArray, List.set_cons_zero, List.set_cons_succ]
          refine wpAnyH_ready (rs := [2]) (by kernel_rfl) (by simp) ?_
          refine AllReadyH.cons rfl (fun K hK => ?_) AllReadyH.nil
          go_simp
          refine hK.out _ _ (by exact d1) (fun hHeld => ?_)
          clear hK K
          try simp only [List.getElem_toArray, List.getElem_cons_zero, List.getElem_cons_succ, Act.put, List.setIfInBounds_toArray, List.set_cons_zero, List.set_cons_succ]
          refine wpAnyH_take (i := 3) (v := ?_) rfl (by kernel_rfl) (by kernel_rfl) (by kernel_rfl) (fun _ _ _ h => h) (Or.inl ⟨by rfl, ?_⟩) (by assumption) ?_
          rotate_left 1
          · (intro w hSw; (try dsimp only at hSw); go_simp; try (with_reducible rfl))
          try simp only [List.getElem_toArray, List.getElem_cons_zero, List.getElem_cons_succ, Act.put, List.setIfInBounds_toArray, List.set_cons_zero, List.set_cons_succ]
          refine wpAnyH_ready (rs := [4]) (by kernel_rfl) (by simp) ?_
          refine AllReadyH.cons rfl (fun K hK => ?_) AllReadyH.nil
          go_simp
          refine hK.out _ _ (by exact keepA _ dl d1) (fun hHeld => ?_)
          clear hK K
          try simp only [List.getElem_toArray, List.getElem_cons_zero, List.getElem_cons_succ, Act.put, List.setIfInBounds_toArray, List.set_cons_zero, List.set_cons_succ]
          refine wpAnyH_ready (rs := [5]) (by kernel_rfl) (by simp) ?_
          refine AllReadyH.cons rfl (fun K hK => ?_) AllReadyH.nil
          refine wanted_step rfl (wp_append_el_at true (.tmp 18) (.tmp 21) rfl (w.heap.size + 1) (.slice pa gs.length pc) gs (by simp [Act.eval]) (HS7.out.1.dev.own.rp.below ((Below.refl _ _).alloc (Nat.le_refl _) _)) w7.heap.size 1 ⟨0, some ⟨w6.heap.size, 0, none⟩, 256, Z⟩ (by simp [Act.eval]) (newsP w7 0 _ 256 256 44 _ rfl rfl HS7.out.2.2.1 rfl) (by omega) (by have := HS7.out.1.res.lt; simp; omega) ?_)
          intro v8 w8 hov8 hg8 hat8
          have hmo := HS7.out.1.more HRB.out.2.1 (e := ⟨0, some ⟨w6.heap.size, 0, none⟩, 256, Z⟩) w6.heap.size (by have := HS7.out.2.2.2.2.2; omega) HS7.out.2.2.2.2.1 HS7.out.2.2.2.1 HS7.out.2.1 ⟨by simp, by simp, by have := HS7.out.2.2.1; simp only; unfold maxLen; omega, by simp⟩ (by have := HS7.out.2.2.1; simp only; omega) hov8 hg8 hat8
          obtain ⟨sa8, sc8, hv8⟩ := hov8.form
          have hln9 : (gs ++ [(⟨0, some ⟨w6.heap.size, 0, none⟩, 256, Z⟩ : El)]).length = gs.length + 1 := by simp
          generalize gs ++ [(⟨0, some ⟨w6.heap.size, 0, none⟩, 256, Z⟩ : El)] = fs2 at hmo hv8 hln9 hov8
          subst hv8
          obtain ⟨e0, e1, h0, h1, el⟩ := hmo.2
          have HE : Hid (DrE w0 w (w8.setCell ⟨X, 1, none⟩ (.slice sa8 fs2.length sc8)) B R X a bs cap (.slice va es.length vc) (.slice sa8 fs2.length sc8) es fs2 ∧ fs2.length = gs.length + 1) := ⟨hmo.1, hln9⟩
          clear hmo hov8 hg8 hat8 d0 d1 dl HS7 hln9
          refine hK.out _ _ (by exact e1) (fun hHeld => ?_)
          clear hK K
          try simp only [List.getElem_toArray, List.getElem_cons_zero, List.getElem_cons_succ, Act.put, List.setIfInBounds_toArray, List.set_cons_zero, List.set_cons_succ]
          refine wpAnyH_done (by kernel_rfl) ?_ _
          simp only [cutQ, List.drop_succ_cons, List.drop_zero]
          have HMS : Hid (lenAt (w8.setCell ⟨X, 1, none⟩ (.slice sa8 fs2.length sc8)) X = gs.length + 1) := (lenAt_box HE.out.1.dev.box).trans HE.out.2
          clear c0 c1 f0 f1 cl HS6 hmk2
          go_wp2
          go_roundw
          case rel => exact ⟨_, fs2, HE.out.1, by have := HE.out.2; omega⟩
          case measure => have h1 := HMS.out; have h2 := HLA.out; rw [h1, h2]; omega
        · have HE : Hid (BenE w0 w w6 B R X a bs cap va pa vc pc es gs) := HS6.out.benE h5 hg61
          clear HS6 c0 c1 f0 f1 cl
          obtain ⟨x0, x1, x2, x3, xl⟩ := HE.out.box
          obtain ⟨r0, r1, r2, r3, rl⟩ := HE.out.res
          have HFI : Hid _ := HE.out.fin HRB.out.2.1 HRB.out.1 (.slice va (List.length (es)) vc) (.slice pa (List.length (gs)) pc)
          have HLL : Hid ((List.length (es)) ≤ 5 ∧ (List.length (gs)) ≤ 61 ∧ ∀ e ∈ es ++ gs, e.ls.length ≤ 256) := ⟨HE.out.l1, HE.out.l2, HE.out.l3⟩
          clear HE
          go_wp2
          exact bodyPost_ret (v := .agg #[.slice va (List.length (es)) vc, .slice pa (List.length (gs)) pc]) (by simp [results, Try.results18, go_sem, r0, r1]) rfl ⟨⟨va, vc, pa, pc, es, gs, rfl, HFI.out.1, HLL.out.1, HLL.out.2.1, by first | exact HLL.out.2.2 | exact fun e he => HLL.out.2.2 e (List.mem_append.2 he)⟩, HFI.out.2.1, HFI.out.2.2⟩
end Go.Proofs.Ytpedfcknmeeknaa
