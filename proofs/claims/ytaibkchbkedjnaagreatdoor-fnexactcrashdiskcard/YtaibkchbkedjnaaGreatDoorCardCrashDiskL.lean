import Derived.Test.YtaibkchbkedjnaaGreatDoorOpenBo
import Derived.Test.YtaibkchbkedjnaaGreatDoorLawCrashDisk
namespace Go.Proofs.YtaibkchbkedjnaaGreatDoor.cardCrashDisk
open Go.ChangeShapes Go.WideShapes Go.ChangeAt Go.RowKit Go.Joins
set_option linter.unusedVariables false
theorem z4v : Tryz.prog.globalNamed "loop.example/g00528/impl.errOver" = some 18 := by kernel_rfl
theorem z8u :(Tryz.prog.globals[18]?).map (·.type)=some 82:=by kernel_rfl
theorem z4b : Tryz.prog.globalNamed "loop.example/g00528/impl.errFull" = some 28 := by kernel_rfl
theorem z8t :(Tryz.prog.globals[28]?).map (·.type)=some 82:=by kernel_rfl
theorem z3q : Tryz.prog.globalNamed "loop.example/g00528/impl.errRange" = some 17 := by kernel_rfl
theorem z6x :(Tryz.prog.globals[17]?).map (·.type)=some 82:=by kernel_rfl
theorem z4g : Tryz.prog.globalNamed "loop.example/g00528/impl.errSyms" = some 23 := by kernel_rfl
theorem z8i :(Tryz.prog.globals[23]?).map (·.type)=some 82:=by kernel_rfl
theorem z31 : Tryz.prog.globalNamed "loop.example/g00528/impl.errLength" = some 24 := by kernel_rfl
theorem z5j :(Tryz.prog.globals[24]?).map (·.type)=some 82:=by kernel_rfl
theorem z2p : Tryz.prog.globalNamed "loop.example/g00528/impl.errNoCodes" = some 25 := by kernel_rfl
theorem z4i :(Tryz.prog.globals[25]?).map (·.type)=some 82:=by kernel_rfl
theorem z33 : Tryz.prog.globalNamed "loop.example/g00528/impl.errShares" = some 26 := by kernel_rfl
theorem z58 :(Tryz.prog.globals[26]?).map (·.type)=some 82:=by kernel_rfl
theorem z6k : Tryz.prog.globalNamed "loop.example/g00528/impl.errRun" = some 19 := by kernel_rfl
theorem zab :(Tryz.prog.globals[19]?).map (·.type)=some 82:=by kernel_rfl
theorem z26 : Tryz.prog.globalNamed "loop.example/g00528/impl.errNoSymbol" = some 27 := by kernel_rfl
theorem z47 :(Tryz.prog.globals[27]?).map (·.type)=some 82:=by kernel_rfl
theorem z3h : Tryz.prog.globalNamed "loop.example/g00528/impl.errShare" = some 20 := by kernel_rfl
theorem z6y :(Tryz.prog.globals[20]?).map (·.type)=some 82:=by kernel_rfl
theorem z1q : Tryz.prog.globalNamed "loop.example/g00528/impl.errOtherText" = some 21 := by kernel_rfl
theorem z37 :(Tryz.prog.globals[21]?).map (·.type)=some 82:=by kernel_rfl
theorem z28 : Tryz.prog.globalNamed "loop.example/g00528/impl.errBlobSize" = some 5 := by kernel_rfl
theorem z48 :(Tryz.prog.globals[5]?).map (·.type)=some 82:=by kernel_rfl
theorem z1v : Tryz.prog.globalNamed "loop.example/g00528/impl.errBlockSize" = some 8 := by kernel_rfl
theorem z3b :(Tryz.prog.globals[8]?).map (·.type)=some 82:=by kernel_rfl
theorem z4l : Tryz.prog.globalNamed "loop.example/g00528/impl.errMode" = some 7 := by kernel_rfl
theorem z8q :(Tryz.prog.globals[7]?).map (·.type)=some 82:=by kernel_rfl
theorem z29 : Tryz.prog.globalNamed "loop.example/g00528/impl.errUnsealed" = some 12 := by kernel_rfl
theorem z42 :(Tryz.prog.globals[12]?).map (·.type)=some 82:=by kernel_rfl
theorem z3m : Tryz.prog.globalNamed "loop.example/g00528/impl.errPiece" = some 22 := by kernel_rfl
theorem z73 :(Tryz.prog.globals[22]?).map (·.type)=some 82:=by kernel_rfl
theorem z4k : Tryz.prog.globalNamed "loop.example/g00528/impl.errLeft" = some 15 := by kernel_rfl
theorem z8p :(Tryz.prog.globals[15]?).map (·.type)=some 82:=by kernel_rfl
theorem z4n : Tryz.prog.globalNamed "loop.example/g00528/impl.errSeqs" = some 13 := by kernel_rfl
theorem z8s :(Tryz.prog.globals[13]?).map (·.type)=some 82:=by kernel_rfl
theorem zij (os:Os) (args:Array Value):laidMetH Tryz.prog Rows.fnExactCrashDiskRow.laid ((World.doorLaid Tryz.prog 541 os).forCall (fun _ _=>0) ⟨#[],args,[]⟩).memory:=
 laidMetH_of_parts3 (fuel:=8) (laidMet_of_run' 8 (by kernel_rfl) (by kernel_rfl)) (by kernel_rfl) (by kernel_rfl)
set_option maxRecDepth 100000 in
theorem zld (os:Os) (started:os.Started) (H:Type) (enc:TypeId × Value->H) :
  ReturnsInHanded {} Tryz.checked os 4 .any (fun w args=>(Rows.fnExactCrashDiskSpec.pre enc Tryz.prog Tryz.f4 [] false w args/\laidMetH Tryz.prog Rows.fnExactCrashDiskRow.laid w)/\sizedMet enc Tryz.prog Tryz.f4 (OpenSpec.ofChange Rows.fnExactCrashDiskSpec) false w args)
   (Rows.fnExactCrashDiskSpec.post enc Tryz.prog Tryz.f4 false true false false):=by
 refine returnsInHanded_of_change_and (C:=Tryz.checked) (X:=fun w _=>laidMetH Tryz.prog Rows.fnExactCrashDiskRow.laid w) (fun _ _ _ hh h=>h.of_heap hh) Tryz.own started (by kernel_rfl) Tryz.func4
  (ChangeSpec.witness_shaped (enc:=enc) (C:=Tryz.checked) (os:=os) (X:=fun w _=>laidMetH Tryz.prog Rows.fnExactCrashDiskRow.laid w) false (World.doorLaid Tryz.prog 541 os) #[.agg #[.slice .none 0 0,.slice .none 0 0,.int .i64 0,.int .i64 0,.slice .none 0 0,.slice .none 0 0,.slice .none 0 0,.int .i64 0,.int .i64 0,.slice .none 0 0],.slice .none 0 0] 8 rfl (World.shaped_of_RefB (by kernel_rfl) (by kernel_rfl)) (by kernel_rfl) (by kernel_rfl) (by kernel_rfl) (zij os _)) ?_
 intro W base args ds gs before hval0 hW _ _ hL _
 have hval:∀ (j:Nat) t v,Tryz.f4.params[j]?=some t->args[j]?=some v->Value.okWide Tryz.prog W .any base t v:=hval0;have hW':=hW;obtain ⟨p,q,hA0,hV0,rfl,hfz,hnd⟩:=hW;have hA:DataW.TrodAll enc Tryz.prog W 0 (fun _=>true) true Tryz.f4.params.toList args.toList ds p:=hA0
 have hV : DataW.TrodVars enc Tryz.prog W (fun _ => true) ["loop.example/g00528/impl.errBlobSize", "loop.example/g00528/impl.errMode", "loop.example/g00528/impl.errBlockSize", "loop.example/g00528/impl.errUnsealed", "loop.example/g00528/impl.errSeqs", "loop.example/g00528/impl.errRange", "loop.example/g00528/impl.errOver", "loop.example/g00528/impl.errRun", "loop.example/g00528/impl.errSyms", "loop.example/g00528/impl.errLength", "loop.example/g00528/impl.errNoCodes", "loop.example/g00528/impl.errShares", "loop.example/g00528/impl.errNoSymbol", "loop.example/g00528/impl.errFull", "loop.example/g00528/impl.errShare", "loop.example/g00528/impl.errOtherText", "loop.example/g00528/impl.errLeft", "loop.example/g00528/impl.errPiece"] gs q := hV0
 rw [Tryz.params4] at hA hval;obtain ⟨v0,vs0,d0,ds0,p0,q0,hargs,rfl,rfl,h0,r0⟩:=trodAll_cons hA;obtain ⟨v1,vs1,d1,ds1,p1,q1,rfl,rfl,rfl,h1,r1⟩:=trodAll_cons r0;obtain ⟨rfl,rfl,rfl⟩:=trodAll_nil r1;obtain rfl:args=#[v0,v1]:=by cases args;simp_all
 have k0:=h0;have lt0:∀ x ∈ p0,x.block<W.heap.size:=by obtain ⟨m,hm⟩:=k0;exact DataW.trod_lt m _ _ _ hm
 have k1:=h1;have lt1:∀ x ∈ p1,x.block<W.heap.size:=by obtain ⟨m,hm⟩:=k1;exact DataW.trod_lt m _ _ _ hm
 obtain ⟨d0,rfl,hb0,hm0⟩:=open_disk (hval 0 34 v0 rfl rfl) h0;obtain ⟨sa1,sl1,sc1,rfl⟩:=okWide_slice Tryz.underlying56 (hval 1 56 v1 rfl rfl);obtain ⟨fuel1,hf1⟩:=h1;obtain ⟨a1,zs1,cap1,hv1,hb1,hm1⟩:=zcj (v:=.slice sa1 sl1 sc1) (by simpa [Value.cells] using hf1)
 rw [hv1] at hW' k1 ⊢;rw [MakeChecks.laidMetH_plain _ _ _ (by kernel_rfl)] at hL
 obtain ⟨s_errOver,hv_errOver,hc_errOver⟩:=zw hL z4v z8u;have hG_errOver:18<W.heap.size:=World.block_lt_of_cell? _ _ hc_errOver;obtain ⟨s_errFull,hv_errFull,hc_errFull⟩:=zw hL.tail z4b z8t;have hG_errFull:28<W.heap.size:=World.block_lt_of_cell? _ _ hc_errFull;obtain ⟨s_errRange,hv_errRange,hc_errRange⟩:=zw hL.tail.tail z3q z6x;have hG_errRange:17<W.heap.size:=World.block_lt_of_cell? _ _ hc_errRange
 obtain ⟨s_errSyms,hv_errSyms,hc_errSyms⟩:=zw hL.tail.tail.tail z4g z8i;have hG_errSyms:23<W.heap.size:=World.block_lt_of_cell? _ _ hc_errSyms;obtain ⟨s_errLength,hv_errLength,hc_errLength⟩:=zw hL.tail.tail.tail.tail z31 z5j;have hG_errLength:24<W.heap.size:=World.block_lt_of_cell? _ _ hc_errLength;obtain ⟨s_errNoCodes,hv_errNoCodes,hc_errNoCodes⟩:=zw hL.tail.tail.tail.tail.tail z2p z4i;have hG_errNoCodes:25<W.heap.size:=World.block_lt_of_cell? _ _ hc_errNoCodes
 obtain ⟨s_errShares,hv_errShares,hc_errShares⟩:=zw hL.tail.tail.tail.tail.tail.tail z33 z58;have hG_errShares:26<W.heap.size:=World.block_lt_of_cell? _ _ hc_errShares;obtain ⟨s_errRun,hv_errRun,hc_errRun⟩:=zw hL.tail.tail.tail.tail.tail.tail.tail z6k zab;have hG_errRun:19<W.heap.size:=World.block_lt_of_cell? _ _ hc_errRun;obtain ⟨s_errNoSymbol,hv_errNoSymbol,hc_errNoSymbol⟩:=zw hL.tail.tail.tail.tail.tail.tail.tail.tail z26 z47
 have hG_errNoSymbol:27<W.heap.size:=World.block_lt_of_cell? _ _ hc_errNoSymbol;obtain ⟨s_errShare,hv_errShare,hc_errShare⟩:=zw hL.tail.tail.tail.tail.tail.tail.tail.tail.tail z3h z6y;have hG_errShare:20<W.heap.size:=World.block_lt_of_cell? _ _ hc_errShare;obtain ⟨s_errOtherText,hv_errOtherText,hc_errOtherText⟩:=zw hL.tail.tail.tail.tail.tail.tail.tail.tail.tail.tail z1q z37;have hG_errOtherText:21<W.heap.size:=World.block_lt_of_cell? _ _ hc_errOtherText
 obtain ⟨s_errBlobSize,hv_errBlobSize,hc_errBlobSize⟩:=zw hL.tail.tail.tail.tail.tail.tail.tail.tail.tail.tail.tail z28 z48;have hG_errBlobSize:5<W.heap.size:=World.block_lt_of_cell? _ _ hc_errBlobSize;obtain ⟨s_errBlockSize,hv_errBlockSize,hc_errBlockSize⟩:=zw hL.tail.tail.tail.tail.tail.tail.tail.tail.tail.tail.tail.tail z1v z3b;have hG_errBlockSize:8<W.heap.size:=World.block_lt_of_cell? _ _ hc_errBlockSize
 obtain ⟨s_errMode,hv_errMode,hc_errMode⟩:=zw hL.tail.tail.tail.tail.tail.tail.tail.tail.tail.tail.tail.tail.tail z4l z8q;have hG_errMode:7<W.heap.size:=World.block_lt_of_cell? _ _ hc_errMode;obtain ⟨s_errUnsealed,hv_errUnsealed,hc_errUnsealed⟩:=zw hL.tail.tail.tail.tail.tail.tail.tail.tail.tail.tail.tail.tail.tail.tail z29 z42;have hG_errUnsealed:12<W.heap.size:=World.block_lt_of_cell? _ _ hc_errUnsealed
 obtain ⟨s_errPiece,hv_errPiece,hc_errPiece⟩:=zw hL.tail.tail.tail.tail.tail.tail.tail.tail.tail.tail.tail.tail.tail.tail.tail z3m z73;have hG_errPiece:22<W.heap.size:=World.block_lt_of_cell? _ _ hc_errPiece;obtain ⟨s_errLeft,hv_errLeft,hc_errLeft⟩:=zw hL.tail.tail.tail.tail.tail.tail.tail.tail.tail.tail.tail.tail.tail.tail.tail.tail z4k z8p;have hG_errLeft:15<W.heap.size:=World.block_lt_of_cell? _ _ hc_errLeft
 obtain ⟨s_errSeqs,hv_errSeqs,hc_errSeqs⟩:=zw hL.tail.tail.tail.tail.tail.tail.tail.tail.tail.tail.tail.tail.tail.tail.tail.tail.tail z4n z8s;have hG_errSeqs:13<W.heap.size:=World.block_lt_of_cell? _ _ hc_errSeqs
 have read : ∀ (W' : World) (sp : Nat → Bool), Below W.heap.size W W' → DataW.TrodVars enc Tryz.prog W' sp ["loop.example/g00528/impl.errBlobSize", "loop.example/g00528/impl.errMode", "loop.example/g00528/impl.errBlockSize", "loop.example/g00528/impl.errUnsealed", "loop.example/g00528/impl.errSeqs", "loop.example/g00528/impl.errRange", "loop.example/g00528/impl.errOver", "loop.example/g00528/impl.errRun", "loop.example/g00528/impl.errSyms", "loop.example/g00528/impl.errLength", "loop.example/g00528/impl.errNoCodes", "loop.example/g00528/impl.errShares", "loop.example/g00528/impl.errNoSymbol", "loop.example/g00528/impl.errFull", "loop.example/g00528/impl.errShare", "loop.example/g00528/impl.errOtherText", "loop.example/g00528/impl.errLeft", "loop.example/g00528/impl.errPiece"] _ _ := fun W' sp bel =>
  zr enc z28 z48 Tryz.underlying82 (var?_below bel z28 hG_errBlobSize hv_errBlobSize) trivial (zr enc z4l z8q Tryz.underlying82 (var?_below bel z4l hG_errMode hv_errMode) trivial (zr enc z1v z3b Tryz.underlying82 (var?_below bel z1v hG_errBlockSize hv_errBlockSize) trivial (zr enc z29 z42 Tryz.underlying82 (var?_below bel z29 hG_errUnsealed hv_errUnsealed) trivial (zr enc z4n z8s Tryz.underlying82 (var?_below bel z4n hG_errSeqs hv_errSeqs) trivial (zr enc z3q z6x Tryz.underlying82 (var?_below bel z3q hG_errRange hv_errRange) trivial (zr enc z4v z8u Tryz.underlying82 (var?_below bel z4v hG_errOver hv_errOver) trivial (zr enc z6k zab Tryz.underlying82 (var?_below bel z6k hG_errRun hv_errRun) trivial (zr enc z4g z8i Tryz.underlying82 (var?_below bel z4g hG_errSyms hv_errSyms) trivial (zr enc z31 z5j Tryz.underlying82 (var?_below bel z31 hG_errLength hv_errLength) trivial (zr enc z2p z4i Tryz.underlying82 (var?_below bel z2p hG_errNoCodes hv_errNoCodes) trivial (zr enc z33 z58 Tryz.underlying82 (var?_below bel z33 hG_errShares hv_errShares) trivial (zr enc z26 z47 Tryz.underlying82 (var?_below bel z26 hG_errNoSymbol hv_errNoSymbol) trivial (zr enc z4b z8t Tryz.underlying82 (var?_below bel z4b hG_errFull hv_errFull) trivial (zr enc z3h z6y Tryz.underlying82 (var?_below bel z3h hG_errShare hv_errShare) trivial (zr enc z1q z37 Tryz.underlying82 (var?_below bel z1q hG_errOtherText hv_errOtherText) trivial (zr enc z4k z8p Tryz.underlying82 (var?_below bel z4k hG_errLeft hv_errLeft) trivial (zr enc z3m z73 Tryz.underlying82 (var?_below bel z3m hG_errPiece hv_errPiece) trivial (zhg enc _))))))))))))))))))
 obtain ⟨rfl,rfl⟩:=hV.unique (read W _ (Below.refl _ _));clear hA0 hV0 hval0;refine (z5r d0 a1 cap1 zs1 W hb0 hb1 hm0 hm1 (SentB.mk (SentD.mk (SentT.mk ⟨_,hc_errOver⟩ ⟨_,_,hc_errFull⟩ ⟨hG_errOver,hG_errFull⟩) (SentF.mk ⟨_,_,hc_errRange⟩ ⟨_,_,hc_errOver⟩ ⟨_,_,hc_errOtherText⟩ ⟨hG_errRange,hG_errOver,hG_errOtherText⟩) ⟨_,_,hc_errRun⟩ ⟨_,_,hc_errNoSymbol⟩ ⟨_,_,hc_errShare⟩ ⟨_,_,hc_errPiece⟩ ⟨_,_,hc_errLeft⟩ ⟨_,_,hc_errSeqs⟩ ⟨⟨_,_,hc_errSyms⟩,⟨_,_,hc_errLength⟩,⟨_,_,hc_errNoCodes⟩,⟨_,_,hc_errShares⟩⟩ ⟨hG_errRun,hG_errNoSymbol,hG_errShare,hG_errPiece,hG_errLeft,hG_errSeqs⟩) ⟨_,_,hc_errUnsealed⟩ ⟨_,_,hc_errMode⟩ ⟨_,_,hc_errBlockSize⟩ ⟨_,_,hc_errBlobSize⟩ ⟨hG_errUnsealed,hG_errMode,hG_errBlockSize,hG_errBlobSize⟩)).mono fun e W' ⟨he,bel⟩=>?_
 subst he;exact ⟨_,rfl,_,_,_,[],_,_,hW',trodAll_mk1 (shut_bool Tryz.underlying4 _),
  (trodAll_cons_mk (Below.trod Tryz.laidOut (by kernel_rfl) (of_decide_eq_true (by kernel_rfl)) k0 bel lt0) (trodAll_cons_mk (Below.trod Tryz.laidOut (by kernel_rfl) (of_decide_eq_true (by kernel_rfl)) k1 bel lt1) trodAll_mk0)),
  read W' _ bel,bel.frame _,fun h=>by cases h⟩
end Go.Proofs.YtaibkchbkedjnaaGreatDoor.cardCrashDisk
