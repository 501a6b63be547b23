import Derived.Test.YtaibkchbkedjnaaGreatDoorLawAll
namespace Go.Proofs.YtaibkchbkedjnaaGreatDoor.cardAll
open Go.ChangeShapes Go.WideShapes Go.ChangeAt Go.RowKit Go.Joins
set_option linter.unusedVariables false
theorem z4m : Tryz.prog.globalNamed "loop.example/g00528/impl.errOver" = some 18 := by kernel_rfl
theorem z9i :(Tryz.prog.globals[18]?).map (·.type)=some 82:=by kernel_rfl
theorem z4v : Tryz.prog.globalNamed "loop.example/g00528/impl.errFull" = some 28 := by kernel_rfl
theorem z9p :(Tryz.prog.globals[28]?).map (·.type)=some 82:=by kernel_rfl
theorem z42 : Tryz.prog.globalNamed "loop.example/g00528/impl.errRange" = some 17 := by kernel_rfl
theorem z7u :(Tryz.prog.globals[17]?).map (·.type)=some 82:=by kernel_rfl
theorem z52 : Tryz.prog.globalNamed "loop.example/g00528/impl.errSyms" = some 23 := by kernel_rfl
theorem za0 :(Tryz.prog.globals[23]?).map (·.type)=some 82:=by kernel_rfl
theorem z39 : Tryz.prog.globalNamed "loop.example/g00528/impl.errLength" = some 24 := by kernel_rfl
theorem z68 :(Tryz.prog.globals[24]?).map (·.type)=some 82:=by kernel_rfl
theorem z2n : Tryz.prog.globalNamed "loop.example/g00528/impl.errNoCodes" = some 25 := by kernel_rfl
theorem z4z :(Tryz.prog.globals[25]?).map (·.type)=some 82:=by kernel_rfl
theorem z3a : Tryz.prog.globalNamed "loop.example/g00528/impl.errShares" = some 26 := by kernel_rfl
theorem z5z :(Tryz.prog.globals[26]?).map (·.type)=some 82:=by kernel_rfl
theorem z6w : Tryz.prog.globalNamed "loop.example/g00528/impl.errRun" = some 19 := by kernel_rfl
theorem zca :(Tryz.prog.globals[19]?).map (·.type)=some 82:=by kernel_rfl
theorem z27 : Tryz.prog.globalNamed "loop.example/g00528/impl.errNoSymbol" = some 27 := by kernel_rfl
theorem z4a :(Tryz.prog.globals[27]?).map (·.type)=some 82:=by kernel_rfl
theorem z3u : Tryz.prog.globalNamed "loop.example/g00528/impl.errShare" = some 20 := by kernel_rfl
theorem z7y :(Tryz.prog.globals[20]?).map (·.type)=some 82:=by kernel_rfl
theorem z1t : Tryz.prog.globalNamed "loop.example/g00528/impl.errOtherText" = some 21 := by kernel_rfl
theorem z3i :(Tryz.prog.globals[21]?).map (·.type)=some 82:=by kernel_rfl
theorem z29 : Tryz.prog.globalNamed "loop.example/g00528/impl.errBlobSize" = some 5 := by kernel_rfl
theorem z4h :(Tryz.prog.globals[5]?).map (·.type)=some 82:=by kernel_rfl
theorem z1w : Tryz.prog.globalNamed "loop.example/g00528/impl.errBlockSize" = some 8 := by kernel_rfl
theorem z3p :(Tryz.prog.globals[8]?).map (·.type)=some 82:=by kernel_rfl
theorem z5d : Tryz.prog.globalNamed "loop.example/g00528/impl.errMode" = some 7 := by kernel_rfl
theorem z9h :(Tryz.prog.globals[7]?).map (·.type)=some 82:=by kernel_rfl
theorem z2b : Tryz.prog.globalNamed "loop.example/g00528/impl.errUnsealed" = some 12 := by kernel_rfl
theorem z4e :(Tryz.prog.globals[12]?).map (·.type)=some 82:=by kernel_rfl
theorem z3r : Tryz.prog.globalNamed "loop.example/g00528/impl.errPiece" = some 22 := by kernel_rfl
theorem z7g :(Tryz.prog.globals[22]?).map (·.type)=some 82:=by kernel_rfl
theorem z5b : Tryz.prog.globalNamed "loop.example/g00528/impl.errLeft" = some 15 := by kernel_rfl
theorem z9c :(Tryz.prog.globals[15]?).map (·.type)=some 82:=by kernel_rfl
theorem z4r : Tryz.prog.globalNamed "loop.example/g00528/impl.errSeqs" = some 13 := by kernel_rfl
theorem z9v :(Tryz.prog.globals[13]?).map (·.type)=some 82:=by kernel_rfl
theorem z1s : Tryz.prog.globalNamed "loop.example/g00528/impl.errSectorSize" = some 6 := by kernel_rfl
theorem z33 :(Tryz.prog.globals[6]?).map (·.type)=some 82:=by kernel_rfl
theorem z1r : Tryz.prog.globalNamed "loop.example/g00528/impl.errSectorOver" = some 16 := by kernel_rfl
theorem z2w :(Tryz.prog.globals[16]?).map (·.type)=some 82:=by kernel_rfl
theorem z5h : Tryz.prog.globalNamed "loop.example/g00528/impl.errMark" = some 9 := by kernel_rfl
theorem z9q :(Tryz.prog.globals[9]?).map (·.type)=some 82:=by kernel_rfl
theorem z4x : Tryz.prog.globalNamed "loop.example/g00528/impl.errRest" = some 10 := by kernel_rfl
theorem z9r :(Tryz.prog.globals[10]?).map (·.type)=some 82:=by kernel_rfl
theorem z4s : Tryz.prog.globalNamed "loop.example/g00528/impl.errPack" = some 11 := by kernel_rfl
theorem z9s :(Tryz.prog.globals[11]?).map (·.type)=some 82:=by kernel_rfl
theorem z2k : Tryz.prog.globalNamed "loop.example/g00528/impl.errCorrupt" = some 0 := by kernel_rfl
theorem z4p :(Tryz.prog.globals[0]?).map (·.type)=some 82:=by kernel_rfl
theorem ziu (os:Os) (args:Array Value):laidMetH Tryz.prog Rows.fnExactAllRow.laid ((World.doorLaid Tryz.prog 541 os).forCall (fun _ _=>0) ⟨#[],args,[]⟩).memory:=
 laidMetH_of_parts3 (fuel:=8) (laidMet_of_run' 8 (by kernel_rfl) (by kernel_rfl)) (by kernel_rfl) (by kernel_rfl)
set_option maxRecDepth 100000 in
theorem zmi (os:Os) (started:os.Started) (H:Type) (enc:TypeId × Value->H) :
  ReturnsInHanded {} Tryz.checked os 5 .any (fun w args=>(Rows.fnExactAllSpec.pre enc Tryz.prog Tryz.f5 [] false w args/\laidMetH Tryz.prog Rows.fnExactAllRow.laid w)/\sizedMet enc Tryz.prog Tryz.f5 (OpenSpec.ofChange Rows.fnExactAllSpec) false w args)
   (Rows.fnExactAllSpec.post enc Tryz.prog Tryz.f5 false true false false):=by
 refine returnsInHanded_of_change_and (C:=Tryz.checked) (X:=fun w _=>laidMetH Tryz.prog Rows.fnExactAllRow.laid w) (fun _ _ _ hh h=>h.of_heap hh) Tryz.own started (by kernel_rfl) Tryz.func5
  (ChangeSpec.witness_shaped (enc:=enc) (C:=Tryz.checked) (os:=os) (X:=fun w _=>laidMetH Tryz.prog Rows.fnExactAllRow.laid w) false (World.doorLaid Tryz.prog 541 os) #[.agg #[.slice .none 0 0,.slice .none 0 0,.int .i64 0,.int .i64 0,.slice .none 0 0,.slice .none 0 0,.slice .none 0 0,.int .i64 0,.int .i64 0,.slice .none 0 0]] 8 rfl (World.shaped_of_RefB (by kernel_rfl) (by kernel_rfl)) (by kernel_rfl) (by kernel_rfl) (by kernel_rfl) (ziu os _)) ?_
 intro W base args ds gs before hval0 hW _ _ hL _
 have hval:∀ (j:Nat) t v,Tryz.f5.params[j]?=some t->args[j]?=some v->Value.okWide Tryz.prog W .any base t v:=hval0;have hW':=hW;obtain ⟨p,q,hA0,hV0,rfl,hfz,hnd⟩:=hW;have hA:DataW.TrodAll enc Tryz.prog W 0 (fun _=>true) true Tryz.f5.params.toList args.toList ds p:=hA0
 have hV : DataW.TrodVars enc Tryz.prog W (fun _ => true) ["loop.example/g00528/impl.errBlobSize", "loop.example/g00528/impl.errMode", "loop.example/g00528/impl.errBlockSize", "loop.example/g00528/impl.errUnsealed", "loop.example/g00528/impl.errSeqs", "loop.example/g00528/impl.errRange", "loop.example/g00528/impl.errOver", "loop.example/g00528/impl.errRun", "loop.example/g00528/impl.errSyms", "loop.example/g00528/impl.errLength", "loop.example/g00528/impl.errNoCodes", "loop.example/g00528/impl.errShares", "loop.example/g00528/impl.errNoSymbol", "loop.example/g00528/impl.errFull", "loop.example/g00528/impl.errShare", "loop.example/g00528/impl.errOtherText", "loop.example/g00528/impl.errLeft", "loop.example/g00528/impl.errPiece", "loop.example/g00528/impl.errSectorSize", "loop.example/g00528/impl.errMark", "loop.example/g00528/impl.errRest", "loop.example/g00528/impl.errPack", "loop.example/g00528/impl.errSectorOver", "loop.example/g00528/impl.errCorrupt"] gs q := hV0
 rw [Tryz.params5] at hA hval;obtain ⟨v0,vs0,d0,ds0,p0,q0,hargs,rfl,rfl,h0,r0⟩:=trodAll_cons hA;obtain ⟨rfl,rfl,rfl⟩:=trodAll_nil r0;obtain rfl:args=#[v0]:=by cases args;simp_all
 have k0:=h0;have lt0:∀ x ∈ p0,x.block<W.heap.size:=by obtain ⟨m,hm⟩:=k0;exact DataW.trod_lt m _ _ _ hm
 obtain ⟨d0,rfl,hb0,hm0⟩:=open_disk (hval 0 34 v0 rfl rfl) h0;rw [MakeChecks.laidMetH_plain _ _ _ (by kernel_rfl)] at hL
 obtain ⟨s_errOver,hv_errOver,hc_errOver⟩:=zq hL z4m z9i;have hG_errOver:18<W.heap.size:=World.block_lt_of_cell? _ _ hc_errOver;obtain ⟨s_errFull,hv_errFull,hc_errFull⟩:=zq hL.tail z4v z9p;have hG_errFull:28<W.heap.size:=World.block_lt_of_cell? _ _ hc_errFull;obtain ⟨s_errRange,hv_errRange,hc_errRange⟩:=zq hL.tail.tail z42 z7u;have hG_errRange:17<W.heap.size:=World.block_lt_of_cell? _ _ hc_errRange
 obtain ⟨s_errSyms,hv_errSyms,hc_errSyms⟩:=zq hL.tail.tail.tail z52 za0;have hG_errSyms:23<W.heap.size:=World.block_lt_of_cell? _ _ hc_errSyms;obtain ⟨s_errLength,hv_errLength,hc_errLength⟩:=zq hL.tail.tail.tail.tail z39 z68;have hG_errLength:24<W.heap.size:=World.block_lt_of_cell? _ _ hc_errLength;obtain ⟨s_errNoCodes,hv_errNoCodes,hc_errNoCodes⟩:=zq hL.tail.tail.tail.tail.tail z2n z4z;have hG_errNoCodes:25<W.heap.size:=World.block_lt_of_cell? _ _ hc_errNoCodes
 obtain ⟨s_errShares,hv_errShares,hc_errShares⟩:=zq hL.tail.tail.tail.tail.tail.tail z3a z5z;have hG_errShares:26<W.heap.size:=World.block_lt_of_cell? _ _ hc_errShares;obtain ⟨s_errRun,hv_errRun,hc_errRun⟩:=zq hL.tail.tail.tail.tail.tail.tail.tail z6w zca;have hG_errRun:19<W.heap.size:=World.block_lt_of_cell? _ _ hc_errRun;obtain ⟨s_errNoSymbol,hv_errNoSymbol,hc_errNoSymbol⟩:=zq hL.tail.tail.tail.tail.tail.tail.tail.tail z27 z4a
 have hG_errNoSymbol:27<W.heap.size:=World.block_lt_of_cell? _ _ hc_errNoSymbol;obtain ⟨s_errShare,hv_errShare,hc_errShare⟩:=zq hL.tail.tail.tail.tail.tail.tail.tail.tail.tail z3u z7y;have hG_errShare:20<W.heap.size:=World.block_lt_of_cell? _ _ hc_errShare;obtain ⟨s_errOtherText,hv_errOtherText,hc_errOtherText⟩:=zq hL.tail.tail.tail.tail.tail.tail.tail.tail.tail.tail z1t z3i;have hG_errOtherText:21<W.heap.size:=World.block_lt_of_cell? _ _ hc_errOtherText
 obtain ⟨s_errBlobSize,hv_errBlobSize,hc_errBlobSize⟩:=zq hL.tail.tail.tail.tail.tail.tail.tail.tail.tail.tail.tail z29 z4h;have hG_errBlobSize:5<W.heap.size:=World.block_lt_of_cell? _ _ hc_errBlobSize;obtain ⟨s_errBlockSize,hv_errBlockSize,hc_errBlockSize⟩:=zq hL.tail.tail.tail.tail.tail.tail.tail.tail.tail.tail.tail.tail z1w z3p;have hG_errBlockSize:8<W.heap.size:=World.block_lt_of_cell? _ _ hc_errBlockSize
 obtain ⟨s_errMode,hv_errMode,hc_errMode⟩:=zq hL.tail.tail.tail.tail.tail.tail.tail.tail.tail.tail.tail.tail.tail z5d z9h;have hG_errMode:7<W.heap.size:=World.block_lt_of_cell? _ _ hc_errMode;obtain ⟨s_errUnsealed,hv_errUnsealed,hc_errUnsealed⟩:=zq hL.tail.tail.tail.tail.tail.tail.tail.tail.tail.tail.tail.tail.tail.tail z2b z4e;have hG_errUnsealed:12<W.heap.size:=World.block_lt_of_cell? _ _ hc_errUnsealed
 obtain ⟨s_errPiece,hv_errPiece,hc_errPiece⟩:=zq hL.tail.tail.tail.tail.tail.tail.tail.tail.tail.tail.tail.tail.tail.tail.tail z3r z7g;have hG_errPiece:22<W.heap.size:=World.block_lt_of_cell? _ _ hc_errPiece;obtain ⟨s_errLeft,hv_errLeft,hc_errLeft⟩:=zq hL.tail.tail.tail.tail.tail.tail.tail.tail.tail.tail.tail.tail.tail.tail.tail.tail z5b z9c;have hG_errLeft:15<W.heap.size:=World.block_lt_of_cell? _ _ hc_errLeft
 obtain ⟨s_errSeqs,hv_errSeqs,hc_errSeqs⟩:=zq hL.tail.tail.tail.tail.tail.tail.tail.tail.tail.tail.tail.tail.tail.tail.tail.tail.tail z4r z9v;have hG_errSeqs:13<W.heap.size:=World.block_lt_of_cell? _ _ hc_errSeqs;obtain ⟨s_errSectorSize,hv_errSectorSize,hc_errSectorSize⟩:=zq hL.tail.tail.tail.tail.tail.tail.tail.tail.tail.tail.tail.tail.tail.tail.tail.tail.tail.tail z1s z33;have hG_errSectorSize:6<W.heap.size:=World.block_lt_of_cell? _ _ hc_errSectorSize
 obtain ⟨s_errSectorOver,hv_errSectorOver,hc_errSectorOver⟩:=zq hL.tail.tail.tail.tail.tail.tail.tail.tail.tail.tail.tail.tail.tail.tail.tail.tail.tail.tail.tail z1r z2w;have hG_errSectorOver:16<W.heap.size:=World.block_lt_of_cell? _ _ hc_errSectorOver;obtain ⟨s_errMark,hv_errMark,hc_errMark⟩:=zq hL.tail.tail.tail.tail.tail.tail.tail.tail.tail.tail.tail.tail.tail.tail.tail.tail.tail.tail.tail.tail z5h z9q
 have hG_errMark:9<W.heap.size:=World.block_lt_of_cell? _ _ hc_errMark;obtain ⟨s_errRest,hv_errRest,hc_errRest⟩:=zq hL.tail.tail.tail.tail.tail.tail.tail.tail.tail.tail.tail.tail.tail.tail.tail.tail.tail.tail.tail.tail.tail z4x z9r;have hG_errRest:10<W.heap.size:=World.block_lt_of_cell? _ _ hc_errRest;obtain ⟨s_errPack,hv_errPack,hc_errPack⟩:=zq hL.tail.tail.tail.tail.tail.tail.tail.tail.tail.tail.tail.tail.tail.tail.tail.tail.tail.tail.tail.tail.tail.tail z4s z9s
 have hG_errPack:11<W.heap.size:=World.block_lt_of_cell? _ _ hc_errPack;obtain ⟨s_errCorrupt,hv_errCorrupt,hc_errCorrupt⟩:=zq hL.tail.tail.tail.tail.tail.tail.tail.tail.tail.tail.tail.tail.tail.tail.tail.tail.tail.tail.tail.tail.tail.tail.tail z2k z4p;have hG_errCorrupt:0<W.heap.size:=World.block_lt_of_cell? _ _ hc_errCorrupt
 have read : ∀ (W' : World) (sp : Nat → Bool), Bw W W' → DataW.TrodVars enc Tryz.prog W' sp ["loop.example/g00528/impl.errBlobSize", "loop.example/g00528/impl.errMode", "loop.example/g00528/impl.errBlockSize", "loop.example/g00528/impl.errUnsealed", "loop.example/g00528/impl.errSeqs", "loop.example/g00528/impl.errRange", "loop.example/g00528/impl.errOver", "loop.example/g00528/impl.errRun", "loop.example/g00528/impl.errSyms", "loop.example/g00528/impl.errLength", "loop.example/g00528/impl.errNoCodes", "loop.example/g00528/impl.errShares", "loop.example/g00528/impl.errNoSymbol", "loop.example/g00528/impl.errFull", "loop.example/g00528/impl.errShare", "loop.example/g00528/impl.errOtherText", "loop.example/g00528/impl.errLeft", "loop.example/g00528/impl.errPiece", "loop.example/g00528/impl.errSectorSize", "loop.example/g00528/impl.errMark", "loop.example/g00528/impl.errRest", "loop.example/g00528/impl.errPack", "loop.example/g00528/impl.errSectorOver", "loop.example/g00528/impl.errCorrupt"] _ _ := fun W' sp bel =>
  zh enc z29 z4h Tryz.underlying82 (var?_below bel z29 hG_errBlobSize hv_errBlobSize) trivial (zh enc z5d z9h Tryz.underlying82 (var?_below bel z5d hG_errMode hv_errMode) trivial (zh enc z1w z3p Tryz.underlying82 (var?_below bel z1w hG_errBlockSize hv_errBlockSize) trivial (zh enc z2b z4e Tryz.underlying82 (var?_below bel z2b hG_errUnsealed hv_errUnsealed) trivial (zh enc z4r z9v Tryz.underlying82 (var?_below bel z4r hG_errSeqs hv_errSeqs) trivial (zh enc z42 z7u Tryz.underlying82 (var?_below bel z42 hG_errRange hv_errRange) trivial (zh enc z4m z9i Tryz.underlying82 (var?_below bel z4m hG_errOver hv_errOver) trivial (zh enc z6w zca Tryz.underlying82 (var?_below bel z6w hG_errRun hv_errRun) trivial (zh enc z52 za0 Tryz.underlying82 (var?_below bel z52 hG_errSyms hv_errSyms) trivial (zh enc z39 z68 Tryz.underlying82 (var?_below bel z39 hG_errLength hv_errLength) trivial (zh enc z2n z4z Tryz.underlying82 (var?_below bel z2n hG_errNoCodes hv_errNoCodes) trivial (zh enc z3a z5z Tryz.underlying82 (var?_below bel z3a hG_errShares hv_errShares) trivial (zh enc z27 z4a Tryz.underlying82 (var?_below bel z27 hG_errNoSymbol hv_errNoSymbol) trivial (zh enc z4v z9p Tryz.underlying82 (var?_below bel z4v hG_errFull hv_errFull) trivial (zh enc z3u z7y Tryz.underlying82 (var?_below bel z3u hG_errShare hv_errShare) trivial (zh enc z1t z3i Tryz.underlying82 (var?_below bel z1t hG_errOtherText hv_errOtherText) trivial (zh enc z5b z9c Tryz.underlying82 (var?_below bel z5b hG_errLeft hv_errLeft) trivial (zh enc z3r z7g Tryz.underlying82 (var?_below bel z3r hG_errPiece hv_errPiece) trivial (zh enc z1s z33 Tryz.underlying82 (var?_below bel z1s hG_errSectorSize hv_errSectorSize) trivial (zh enc z5h z9q Tryz.underlying82 (var?_below bel z5h hG_errMark hv_errMark) trivial (zh enc z4x z9r Tryz.underlying82 (var?_below bel z4x hG_errRest hv_errRest) trivial (zh enc z4s z9s Tryz.underlying82 (var?_below bel z4s hG_errPack hv_errPack) trivial (zh enc z1r z2w Tryz.underlying82 (var?_below bel z1r hG_errSectorOver hv_errSectorOver) trivial (zh enc z2k z4p Tryz.underlying82 (var?_below bel z2k hG_errCorrupt hv_errCorrupt) trivial (zjp enc _))))))))))))))))))))))))
 obtain ⟨rfl,rfl⟩:=hV.unique (read W _ (Below.refl _ _));clear hA0 hV0 hval0;refine (zg5 d0 W hb0 hm0 (SentR.mk (SentB.mk (SentD.mk (SentT.mk ⟨_,hc_errOver⟩ ⟨_,_,hc_errFull⟩ ⟨hG_errOver,hG_errFull⟩) (SentF.mk ⟨_,_,hc_errRange⟩ ⟨_,_,hc_errOver⟩ ⟨_,_,hc_errOtherText⟩ ⟨hG_errRange,hG_errOver,hG_errOtherText⟩) ⟨_,_,hc_errRun⟩ ⟨_,_,hc_errNoSymbol⟩ ⟨_,_,hc_errShare⟩ ⟨_,_,hc_errPiece⟩ ⟨_,_,hc_errLeft⟩ ⟨_,_,hc_errSeqs⟩ ⟨⟨_,_,hc_errSyms⟩,⟨_,_,hc_errLength⟩,⟨_,_,hc_errNoCodes⟩,⟨_,_,hc_errShares⟩⟩ ⟨hG_errRun,hG_errNoSymbol,hG_errShare,hG_errPiece,hG_errLeft,hG_errSeqs⟩) ⟨_,_,hc_errUnsealed⟩ ⟨_,_,hc_errMode⟩ ⟨_,_,hc_errBlockSize⟩ ⟨_,_,hc_errBlobSize⟩ ⟨hG_errUnsealed,hG_errMode,hG_errBlockSize,hG_errBlobSize⟩) ⟨_,_,hc_errSectorOver⟩ ⟨_,_,hc_errMark⟩ ⟨_,_,hc_errRest⟩ ⟨_,_,hc_errPack⟩ ⟨_,_,hc_errSectorSize⟩ ⟨hG_errSectorOver,hG_errMark,hG_errRest,hG_errPack,hG_errSectorSize⟩) _ hc_errCorrupt).mono fun e W' ⟨he,bel⟩=>?_
 subst he;exact ⟨_,rfl,_,_,_,[],_,_,hW',trodAll_mk1 (shut_bool Tryz.underlying4 _),
  (trodAll_cons_mk (Below.trod Tryz.laidOut (by kernel_rfl) (of_decide_eq_true (by kernel_rfl)) k0 bel lt0) trodAll_mk0),
  read W' _ bel,bel.frame _,fun h=>by cases h⟩
end Go.Proofs.YtaibkchbkedjnaaGreatDoor.cardAll
