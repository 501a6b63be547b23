import Derived.Test.YtjmcjbmjgpponaaGreatDoorLawFnMaps
namespace Go.Proofs.YtjmcjbmjgpponaaGreatDoor.cardFnMaps
open Go.ChangeShapes Go.WideShapes Go.ChangeAt Go.RowKit Go.Joins
set_option linter.unusedVariables false
theorem z6q : Tryz.prog.globalNamed "loop.example/g00528/impl.errOver" = some 17 := by kernel_rfl
theorem zbk :(Tryz.prog.globals[17]?).map (·.type)=some 67:=by kernel_rfl
theorem z6p : Tryz.prog.globalNamed "loop.example/g00528/impl.errFull" = some 11 := by kernel_rfl
theorem zb3 :(Tryz.prog.globals[11]?).map (·.type)=some 67:=by kernel_rfl
theorem z4q : Tryz.prog.globalNamed "loop.example/g00528/impl.errRange" = some 10 := by kernel_rfl
theorem z91 :(Tryz.prog.globals[10]?).map (·.type)=some 67:=by kernel_rfl
theorem z61 : Tryz.prog.globalNamed "loop.example/g00528/impl.errSyms" = some 22 := by kernel_rfl
theorem zbj :(Tryz.prog.globals[22]?).map (·.type)=some 67:=by kernel_rfl
theorem z49 : Tryz.prog.globalNamed "loop.example/g00528/impl.errLength" = some 23 := by kernel_rfl
theorem z7h :(Tryz.prog.globals[23]?).map (·.type)=some 67:=by kernel_rfl
theorem z3e : Tryz.prog.globalNamed "loop.example/g00528/impl.errNoCodes" = some 12 := by kernel_rfl
theorem z62 :(Tryz.prog.globals[12]?).map (·.type)=some 67:=by kernel_rfl
theorem z4b : Tryz.prog.globalNamed "loop.example/g00528/impl.errShares" = some 24 := by kernel_rfl
theorem z7i :(Tryz.prog.globals[24]?).map (·.type)=some 67:=by kernel_rfl
theorem z87 : Tryz.prog.globalNamed "loop.example/g00528/impl.errRun" = some 19 := by kernel_rfl
theorem zdb :(Tryz.prog.globals[19]?).map (·.type)=some 67:=by kernel_rfl
theorem z2z : Tryz.prog.globalNamed "loop.example/g00528/impl.errNoSymbol" = some 25 := by kernel_rfl
theorem z5q :(Tryz.prog.globals[25]?).map (·.type)=some 67:=by kernel_rfl
theorem z4p : Tryz.prog.globalNamed "loop.example/g00528/impl.errShare" = some 13 := by kernel_rfl
theorem z9b :(Tryz.prog.globals[13]?).map (·.type)=some 67:=by kernel_rfl
theorem z2e : Tryz.prog.globalNamed "loop.example/g00528/impl.errOtherText" = some 20 := by kernel_rfl
theorem z4e :(Tryz.prog.globals[20]?).map (·.type)=some 67:=by kernel_rfl
theorem z2x : Tryz.prog.globalNamed "loop.example/g00528/impl.errBlobSize" = some 4 := by kernel_rfl
theorem z5p :(Tryz.prog.globals[4]?).map (·.type)=some 67:=by kernel_rfl
theorem z2j : Tryz.prog.globalNamed "loop.example/g00528/impl.errBlockSize" = some 7 := by kernel_rfl
theorem z4j :(Tryz.prog.globals[7]?).map (·.type)=some 67:=by kernel_rfl
theorem z6o : Tryz.prog.globalNamed "loop.example/g00528/impl.errMode" = some 6 := by kernel_rfl
theorem zbf :(Tryz.prog.globals[6]?).map (·.type)=some 67:=by kernel_rfl
theorem z30 : Tryz.prog.globalNamed "loop.example/g00528/impl.errUnsealed" = some 8 := by kernel_rfl
theorem z5r :(Tryz.prog.globals[8]?).map (·.type)=some 67:=by kernel_rfl
theorem z4r : Tryz.prog.globalNamed "loop.example/g00528/impl.errPiece" = some 21 := by kernel_rfl
theorem z8x :(Tryz.prog.globals[21]?).map (·.type)=some 67:=by kernel_rfl
theorem z6s : Tryz.prog.globalNamed "loop.example/g00528/impl.errLeft" = some 15 := by kernel_rfl
theorem zbe :(Tryz.prog.globals[15]?).map (·.type)=some 67:=by kernel_rfl
theorem z60 : Tryz.prog.globalNamed "loop.example/g00528/impl.errSeqs" = some 9 := by kernel_rfl
theorem zaz :(Tryz.prog.globals[9]?).map (·.type)=some 67:=by kernel_rfl
theorem zml (os:Os) (args:Array Value):laidMetH Tryz.prog Rows.fnMapsRow.laid ((World.doorLaid Tryz.prog 484 os).forCall (fun _ _=>0) ⟨#[],args,[]⟩).memory:=
 laidMetH_of_parts3 (fuel:=8) (laidMet_of_run' 8 (by kernel_rfl) (by kernel_rfl)) (by kernel_rfl) (by kernel_rfl)
set_option maxRecDepth 100000 in
theorem zqi (os:Os) (started:os.Started) (H:Type) (enc:TypeId × Value->H) :
  ReturnsInHanded {} Tryz.checked os 5 .any (fun w args=>(Rows.fnMapsSpec.pre enc Tryz.prog Tryz.f5 [] false w args/\laidMetH Tryz.prog Rows.fnMapsRow.laid w)/\sizedMet enc Tryz.prog Tryz.f5 (OpenSpec.ofChange Rows.fnMapsSpec) false w args)
   (Rows.fnMapsSpec.post enc Tryz.prog Tryz.f5 false true false false):=by
 refine returnsInHanded_of_change_and (C:=Tryz.checked) (X:=fun w _=>laidMetH Tryz.prog Rows.fnMapsRow.laid w) (fun _ _ _ hh h=>h.of_heap hh) Tryz.own started (by kernel_rfl) Tryz.func5
  (ChangeSpec.witness_shaped (enc:=enc) (C:=Tryz.checked) (os:=os) (X:=fun w _=>laidMetH Tryz.prog Rows.fnMapsRow.laid w) false (World.doorLaid Tryz.prog 484 os) #[.slice .none 0 0] 8 rfl (World.shaped_of_RefB (by kernel_rfl) (by kernel_rfl)) (by kernel_rfl) (by kernel_rfl) (by kernel_rfl) (zml os _)) ?_
 intro W base args ds gs before hval0 hW _ _ hL _
 have hval:∀ (j:Nat) t v,Tryz.f5.params[j]?=some t->args[j]?=some v->Value.okWide Tryz.prog W .any base t v:=hval0;have hW':=hW;obtain ⟨p,q,hA0,hV0,rfl,hfz,hnd⟩:=hW;have hA:DataW.TrodAll enc Tryz.prog W 0 (fun _=>true) true Tryz.f5.params.toList args.toList ds p:=hA0
 have hV : DataW.TrodVars enc Tryz.prog W (fun _ => true) ["loop.example/g00528/impl.errBlobSize", "loop.example/g00528/impl.errMode", "loop.example/g00528/impl.errBlockSize", "loop.example/g00528/impl.errUnsealed", "loop.example/g00528/impl.errSeqs", "loop.example/g00528/impl.errRange", "loop.example/g00528/impl.errOver", "loop.example/g00528/impl.errRun", "loop.example/g00528/impl.errSyms", "loop.example/g00528/impl.errLength", "loop.example/g00528/impl.errNoCodes", "loop.example/g00528/impl.errShares", "loop.example/g00528/impl.errNoSymbol", "loop.example/g00528/impl.errFull", "loop.example/g00528/impl.errShare", "loop.example/g00528/impl.errOtherText", "loop.example/g00528/impl.errLeft", "loop.example/g00528/impl.errPiece"] gs q := hV0
 rw [Tryz.params5] at hA hval;obtain ⟨v0,vs0,d0,ds0,p0,q0,hargs,rfl,rfl,h0,r0⟩:=trodAll_cons hA;obtain ⟨rfl,rfl,rfl⟩:=trodAll_nil r0;obtain rfl:args=#[v0]:=by cases args;simp_all
 have k0:=h0;have lt0:∀ x ∈ p0,x.block<W.heap.size:=by obtain ⟨m,hm⟩:=k0;exact DataW.trod_lt m _ _ _ hm
 obtain ⟨sa0,sl0,sc0,rfl⟩:=okWide_slice Tryz.underlying22 (hval 0 22 v0 rfl rfl);obtain ⟨fuel0,hf0⟩:=h0;obtain ⟨a0,zs0,cap0,hv0,hb0,hm0⟩:=zf3 (v:=.slice sa0 sl0 sc0) (by simpa [Value.cells] using hf0)
 rw [hv0] at hW' k0 ⊢;rw [MakeChecks.laidMetH_plain _ _ _ (by kernel_rfl)] at hL
 obtain ⟨s_errOver,hv_errOver,hc_errOver⟩:=z00 hL z6q zbk;have hG_errOver:17<W.heap.size:=World.block_lt_of_cell? _ _ hc_errOver;obtain ⟨s_errFull,hv_errFull,hc_errFull⟩:=z00 hL.tail z6p zb3;have hG_errFull:11<W.heap.size:=World.block_lt_of_cell? _ _ hc_errFull;obtain ⟨s_errRange,hv_errRange,hc_errRange⟩:=z00 hL.tail.tail z4q z91;have hG_errRange:10<W.heap.size:=World.block_lt_of_cell? _ _ hc_errRange
 obtain ⟨s_errSyms,hv_errSyms,hc_errSyms⟩:=z00 hL.tail.tail.tail z61 zbj;have hG_errSyms:22<W.heap.size:=World.block_lt_of_cell? _ _ hc_errSyms;obtain ⟨s_errLength,hv_errLength,hc_errLength⟩:=z00 hL.tail.tail.tail.tail z49 z7h;have hG_errLength:23<W.heap.size:=World.block_lt_of_cell? _ _ hc_errLength;obtain ⟨s_errNoCodes,hv_errNoCodes,hc_errNoCodes⟩:=z00 hL.tail.tail.tail.tail.tail z3e z62;have hG_errNoCodes:12<W.heap.size:=World.block_lt_of_cell? _ _ hc_errNoCodes
 obtain ⟨s_errShares,hv_errShares,hc_errShares⟩:=z00 hL.tail.tail.tail.tail.tail.tail z4b z7i;have hG_errShares:24<W.heap.size:=World.block_lt_of_cell? _ _ hc_errShares;obtain ⟨s_errRun,hv_errRun,hc_errRun⟩:=z00 hL.tail.tail.tail.tail.tail.tail.tail z87 zdb;have hG_errRun:19<W.heap.size:=World.block_lt_of_cell? _ _ hc_errRun;obtain ⟨s_errNoSymbol,hv_errNoSymbol,hc_errNoSymbol⟩:=z00 hL.tail.tail.tail.tail.tail.tail.tail.tail z2z z5q
 have hG_errNoSymbol:25<W.heap.size:=World.block_lt_of_cell? _ _ hc_errNoSymbol;obtain ⟨s_errShare,hv_errShare,hc_errShare⟩:=z00 hL.tail.tail.tail.tail.tail.tail.tail.tail.tail z4p z9b;have hG_errShare:13<W.heap.size:=World.block_lt_of_cell? _ _ hc_errShare;obtain ⟨s_errOtherText,hv_errOtherText,hc_errOtherText⟩:=z00 hL.tail.tail.tail.tail.tail.tail.tail.tail.tail.tail z2e z4e;have hG_errOtherText:20<W.heap.size:=World.block_lt_of_cell? _ _ hc_errOtherText
 obtain ⟨s_errBlobSize,hv_errBlobSize,hc_errBlobSize⟩:=z00 hL.tail.tail.tail.tail.tail.tail.tail.tail.tail.tail.tail z2x z5p;have hG_errBlobSize:4<W.heap.size:=World.block_lt_of_cell? _ _ hc_errBlobSize;obtain ⟨s_errBlockSize,hv_errBlockSize,hc_errBlockSize⟩:=z00 hL.tail.tail.tail.tail.tail.tail.tail.tail.tail.tail.tail.tail z2j z4j;have hG_errBlockSize:7<W.heap.size:=World.block_lt_of_cell? _ _ hc_errBlockSize
 obtain ⟨s_errMode,hv_errMode,hc_errMode⟩:=z00 hL.tail.tail.tail.tail.tail.tail.tail.tail.tail.tail.tail.tail.tail z6o zbf;have hG_errMode:6<W.heap.size:=World.block_lt_of_cell? _ _ hc_errMode;obtain ⟨s_errUnsealed,hv_errUnsealed,hc_errUnsealed⟩:=z00 hL.tail.tail.tail.tail.tail.tail.tail.tail.tail.tail.tail.tail.tail.tail z30 z5r;have hG_errUnsealed:8<W.heap.size:=World.block_lt_of_cell? _ _ hc_errUnsealed
 obtain ⟨s_errPiece,hv_errPiece,hc_errPiece⟩:=z00 hL.tail.tail.tail.tail.tail.tail.tail.tail.tail.tail.tail.tail.tail.tail.tail z4r z8x;have hG_errPiece:21<W.heap.size:=World.block_lt_of_cell? _ _ hc_errPiece;obtain ⟨s_errLeft,hv_errLeft,hc_errLeft⟩:=z00 hL.tail.tail.tail.tail.tail.tail.tail.tail.tail.tail.tail.tail.tail.tail.tail.tail z6s zbe;have hG_errLeft:15<W.heap.size:=World.block_lt_of_cell? _ _ hc_errLeft
 obtain ⟨s_errSeqs,hv_errSeqs,hc_errSeqs⟩:=z00 hL.tail.tail.tail.tail.tail.tail.tail.tail.tail.tail.tail.tail.tail.tail.tail.tail.tail z60 zaz;have hG_errSeqs:9<W.heap.size:=World.block_lt_of_cell? _ _ hc_errSeqs
 have read : ∀ (W' : World) (sp : Nat → Bool), Bw W W' → DataW.TrodVars enc Tryz.prog W' sp ["loop.example/g00528/impl.errBlobSize", "loop.example/g00528/impl.errMode", "loop.example/g00528/impl.errBlockSize", "loop.example/g00528/impl.errUnsealed", "loop.example/g00528/impl.errSeqs", "loop.example/g00528/impl.errRange", "loop.example/g00528/impl.errOver", "loop.example/g00528/impl.errRun", "loop.example/g00528/impl.errSyms", "loop.example/g00528/impl.errLength", "loop.example/g00528/impl.errNoCodes", "loop.example/g00528/impl.errShares", "loop.example/g00528/impl.errNoSymbol", "loop.example/g00528/impl.errFull", "loop.example/g00528/impl.errShare", "loop.example/g00528/impl.errOtherText", "loop.example/g00528/impl.errLeft", "loop.example/g00528/impl.errPiece"] _ _ := fun W' sp bel =>
  zu enc z2x z5p Tryz.underlying67 (var?_below bel z2x hG_errBlobSize hv_errBlobSize) trivial (zu enc z6o zbf Tryz.underlying67 (var?_below bel z6o hG_errMode hv_errMode) trivial (zu enc z2j z4j Tryz.underlying67 (var?_below bel z2j hG_errBlockSize hv_errBlockSize) trivial (zu enc z30 z5r Tryz.underlying67 (var?_below bel z30 hG_errUnsealed hv_errUnsealed) trivial (zu enc z60 zaz Tryz.underlying67 (var?_below bel z60 hG_errSeqs hv_errSeqs) trivial (zu enc z4q z91 Tryz.underlying67 (var?_below bel z4q hG_errRange hv_errRange) trivial (zu enc z6q zbk Tryz.underlying67 (var?_below bel z6q hG_errOver hv_errOver) trivial (zu enc z87 zdb Tryz.underlying67 (var?_below bel z87 hG_errRun hv_errRun) trivial (zu enc z61 zbj Tryz.underlying67 (var?_below bel z61 hG_errSyms hv_errSyms) trivial (zu enc z49 z7h Tryz.underlying67 (var?_below bel z49 hG_errLength hv_errLength) trivial (zu enc z3e z62 Tryz.underlying67 (var?_below bel z3e hG_errNoCodes hv_errNoCodes) trivial (zu enc z4b z7i Tryz.underlying67 (var?_below bel z4b hG_errShares hv_errShares) trivial (zu enc z2z z5q Tryz.underlying67 (var?_below bel z2z hG_errNoSymbol hv_errNoSymbol) trivial (zu enc z6p zb3 Tryz.underlying67 (var?_below bel z6p hG_errFull hv_errFull) trivial (zu enc z4p z9b Tryz.underlying67 (var?_below bel z4p hG_errShare hv_errShare) trivial (zu enc z2e z4e Tryz.underlying67 (var?_below bel z2e hG_errOtherText hv_errOtherText) trivial (zu enc z6s zbe Tryz.underlying67 (var?_below bel z6s hG_errLeft hv_errLeft) trivial (zu enc z4r z8x Tryz.underlying67 (var?_below bel z4r hG_errPiece hv_errPiece) trivial (zmr enc _))))))))))))))))))
 obtain ⟨rfl,rfl⟩:=hV.unique (read W _ (Below.refl _ _));clear hA0 hV0 hval0;refine (zbx a0 cap0 zs0 W hb0 hm0 (SentB.mk (SentD.mk (SentT.mk ⟨_,hc_errOver⟩ ⟨_,_,hc_errFull⟩ ⟨hG_errOver,hG_errFull⟩) (SentF.mk ⟨_,_,hc_errRange⟩ ⟨_,_,hc_errOver⟩ ⟨_,_,hc_errOtherText⟩ ⟨hG_errRange,hG_errOver,hG_errOtherText⟩) ⟨_,_,hc_errRun⟩ ⟨_,_,hc_errNoSymbol⟩ ⟨_,_,hc_errShare⟩ ⟨_,_,hc_errPiece⟩ ⟨_,_,hc_errLeft⟩ ⟨_,_,hc_errSeqs⟩ ⟨⟨_,_,hc_errSyms⟩,⟨_,_,hc_errLength⟩,⟨_,_,hc_errNoCodes⟩,⟨_,_,hc_errShares⟩⟩ ⟨hG_errRun,hG_errNoSymbol,hG_errShare,hG_errPiece,hG_errLeft,hG_errSeqs⟩) ⟨_,_,hc_errUnsealed⟩ ⟨_,_,hc_errMode⟩ ⟨_,_,hc_errBlockSize⟩ ⟨_,_,hc_errBlobSize⟩ ⟨hG_errUnsealed,hG_errMode,hG_errBlockSize,hG_errBlobSize⟩)).mono fun e W' ⟨he,bel⟩=>?_
 subst he;exact ⟨_,rfl,_,_,_,[],_,_,hW',trodAll_mk1 (shut_bool Tryz.underlying4 _),
  (trodAll_cons_mk (Below.trod Tryz.laidOut (by kernel_rfl) (of_decide_eq_true (by kernel_rfl)) k0 bel lt0) trodAll_mk0),
  read W' _ bel,bel.frame _,fun h=>by cases h⟩
end Go.Proofs.YtjmcjbmjgpponaaGreatDoor.cardFnMaps
