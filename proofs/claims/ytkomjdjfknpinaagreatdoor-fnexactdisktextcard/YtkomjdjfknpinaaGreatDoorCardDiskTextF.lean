import Derived.Test.YtkomjdjfknpinaaGreatDoorLawDiskText
namespace Go.Proofs.YtkomjdjfknpinaaGreatDoor.cardDiskText
open Go.ChangeShapes Go.WideShapes Go.ChangeAt Go.RowKit Go.Joins
set_option linter.unusedVariables false
theorem z5r : Tryz.prog.globalNamed "loop.example/g00528/impl.errOver" = some 16 := by kernel_rfl
theorem zat :(Tryz.prog.globals[16]?).map (·.type)=some 189:=by kernel_rfl
theorem z5s : Tryz.prog.globalNamed "loop.example/g00528/impl.errFull" = some 26 := by kernel_rfl
theorem zav :(Tryz.prog.globals[26]?).map (·.type)=some 189:=by kernel_rfl
theorem z4g : Tryz.prog.globalNamed "loop.example/g00528/impl.errRange" = some 15 := by kernel_rfl
theorem z8r :(Tryz.prog.globals[15]?).map (·.type)=some 189:=by kernel_rfl
theorem z5j : Tryz.prog.globalNamed "loop.example/g00528/impl.errSyms" = some 21 := by kernel_rfl
theorem zap :(Tryz.prog.globals[21]?).map (·.type)=some 189:=by kernel_rfl
theorem z3n : Tryz.prog.globalNamed "loop.example/g00528/impl.errLength" = some 22 := by kernel_rfl
theorem z6p :(Tryz.prog.globals[22]?).map (·.type)=some 189:=by kernel_rfl
theorem z2u : Tryz.prog.globalNamed "loop.example/g00528/impl.errNoCodes" = some 23 := by kernel_rfl
theorem z59 :(Tryz.prog.globals[23]?).map (·.type)=some 189:=by kernel_rfl
theorem z3i : Tryz.prog.globalNamed "loop.example/g00528/impl.errShares" = some 24 := by kernel_rfl
theorem z6s :(Tryz.prog.globals[24]?).map (·.type)=some 189:=by kernel_rfl
theorem z7e : Tryz.prog.globalNamed "loop.example/g00528/impl.errRun" = some 17 := by kernel_rfl
theorem zcv :(Tryz.prog.globals[17]?).map (·.type)=some 189:=by kernel_rfl
theorem z2h : Tryz.prog.globalNamed "loop.example/g00528/impl.errNoSymbol" = some 25 := by kernel_rfl
theorem z4v :(Tryz.prog.globals[25]?).map (·.type)=some 189:=by kernel_rfl
theorem z42 : Tryz.prog.globalNamed "loop.example/g00528/impl.errShare" = some 18 := by kernel_rfl
theorem z8n :(Tryz.prog.globals[18]?).map (·.type)=some 189:=by kernel_rfl
theorem z2a : Tryz.prog.globalNamed "loop.example/g00528/impl.errOtherText" = some 19 := by kernel_rfl
theorem z3x :(Tryz.prog.globals[19]?).map (·.type)=some 189:=by kernel_rfl
theorem z2m : Tryz.prog.globalNamed "loop.example/g00528/impl.errBlobSize" = some 5 := by kernel_rfl
theorem z4m :(Tryz.prog.globals[5]?).map (·.type)=some 189:=by kernel_rfl
theorem z21 : Tryz.prog.globalNamed "loop.example/g00528/impl.errBlockSize" = some 10 := by kernel_rfl
theorem z3t :(Tryz.prog.globals[10]?).map (·.type)=some 189:=by kernel_rfl
theorem z5l : Tryz.prog.globalNamed "loop.example/g00528/impl.errMode" = some 9 := by kernel_rfl
theorem zaf :(Tryz.prog.globals[9]?).map (·.type)=some 189:=by kernel_rfl
theorem z2k : Tryz.prog.globalNamed "loop.example/g00528/impl.errUnsealed" = some 11 := by kernel_rfl
theorem z4s :(Tryz.prog.globals[11]?).map (·.type)=some 189:=by kernel_rfl
theorem z4k : Tryz.prog.globalNamed "loop.example/g00528/impl.errPiece" = some 20 := by kernel_rfl
theorem z8f :(Tryz.prog.globals[20]?).map (·.type)=some 189:=by kernel_rfl
theorem z5t : Tryz.prog.globalNamed "loop.example/g00528/impl.errLeft" = some 14 := by kernel_rfl
theorem za4 :(Tryz.prog.globals[14]?).map (·.type)=some 189:=by kernel_rfl
theorem z54 : Tryz.prog.globalNamed "loop.example/g00528/impl.errSeqs" = some 12 := by kernel_rfl
theorem zae :(Tryz.prog.globals[12]?).map (·.type)=some 189:=by kernel_rfl
theorem z1w : Tryz.prog.globalNamed "loop.example/g00528/impl.errSectorSize" = some 0 := by kernel_rfl
theorem z35 :(Tryz.prog.globals[0]?).map (·.type)=some 189:=by kernel_rfl
theorem z1z : Tryz.prog.globalNamed "loop.example/g00528/impl.errSectorOver" = some 8 := by kernel_rfl
theorem z3c :(Tryz.prog.globals[8]?).map (·.type)=some 189:=by kernel_rfl
theorem z5g : Tryz.prog.globalNamed "loop.example/g00528/impl.errMark" = some 2 := by kernel_rfl
theorem zao :(Tryz.prog.globals[2]?).map (·.type)=some 189:=by kernel_rfl
theorem z5a : Tryz.prog.globalNamed "loop.example/g00528/impl.errRest" = some 3 := by kernel_rfl
theorem zan :(Tryz.prog.globals[3]?).map (·.type)=some 189:=by kernel_rfl
theorem z5o : Tryz.prog.globalNamed "loop.example/g00528/impl.errPack" = some 4 := by kernel_rfl
theorem zak :(Tryz.prog.globals[4]?).map (·.type)=some 189:=by kernel_rfl
theorem zjn (os:Os) (args:Array Value):laidMetH Tryz.prog Rows.fnExactDiskTextRow.laid ((World.doorLaid Tryz.prog 461 os).forCall (fun _ _=>0) ⟨#[],args,[]⟩).memory:=
 laidMetH_of_parts3 (fuel:=8) (laidMet_of_run' 8 (by kernel_rfl) (by kernel_rfl)) (by kernel_rfl) (by kernel_rfl)
set_option maxRecDepth 100000 in
theorem zoh (os:Os) (started:os.Started) (H:Type) (enc:TypeId × Value->H) :
  ReturnsInHanded {} Tryz.checked os 3 .any (fun w args=>(Rows.fnExactDiskTextSpec.pre enc Tryz.prog Tryz.f3 [] false w args/\laidMetH Tryz.prog Rows.fnExactDiskTextRow.laid w)/\sizedMet enc Tryz.prog Tryz.f3 (OpenSpec.ofChange Rows.fnExactDiskTextSpec) false w args)
   (Rows.fnExactDiskTextSpec.post enc Tryz.prog Tryz.f3 false true false false):=by
 refine returnsInHanded_of_change_and (C:=Tryz.checked) (X:=fun w _=>laidMetH Tryz.prog Rows.fnExactDiskTextRow.laid w) (fun _ _ _ hh h=>h.of_heap hh) Tryz.own started (by kernel_rfl) Tryz.func3
  (ChangeSpec.witness_shaped (enc:=enc) (C:=Tryz.checked) (os:=os) (X:=fun w _=>laidMetH Tryz.prog Rows.fnExactDiskTextRow.laid w) false (World.doorLaid Tryz.prog 461 os) #[.agg #[.slice .none 0 0,.slice .none 0 0,.int .i64 0,.int .i64 0,.slice .none 0 0,.slice .none 0 0,.slice .none 0 0,.int .i64 0,.int .i64 0,.slice .none 0 0]] 8 rfl (World.shaped_of_RefB (by kernel_rfl) (by kernel_rfl)) (by kernel_rfl) (by kernel_rfl) (by kernel_rfl) (zjn os _)) ?_
 intro W base args ds gs before hval0 hW _ _ hL _
 have hval:∀ (j:Nat) t v,Tryz.f3.params[j]?=some t->args[j]?=some v->Value.okWide Tryz.prog W .any base t v:=hval0;have hW':=hW;obtain ⟨p,q,hA0,hV0,rfl,hfz,hnd⟩:=hW;have hA:DataW.TrodAll enc Tryz.prog W 0 (fun _=>true) true Tryz.f3.params.toList args.toList ds p:=hA0
 have hV : DataW.TrodVars enc Tryz.prog W (fun _ => true) ["loop.example/g00528/impl.errBlobSize", "loop.example/g00528/impl.errMode", "loop.example/g00528/impl.errBlockSize", "loop.example/g00528/impl.errUnsealed", "loop.example/g00528/impl.errSeqs", "loop.example/g00528/impl.errRange", "loop.example/g00528/impl.errOver", "loop.example/g00528/impl.errRun", "loop.example/g00528/impl.errSyms", "loop.example/g00528/impl.errLength", "loop.example/g00528/impl.errNoCodes", "loop.example/g00528/impl.errShares", "loop.example/g00528/impl.errNoSymbol", "loop.example/g00528/impl.errFull", "loop.example/g00528/impl.errShare", "loop.example/g00528/impl.errOtherText", "loop.example/g00528/impl.errLeft", "loop.example/g00528/impl.errPiece", "loop.example/g00528/impl.errSectorSize", "loop.example/g00528/impl.errMark", "loop.example/g00528/impl.errRest", "loop.example/g00528/impl.errPack", "loop.example/g00528/impl.errSectorOver"] gs q := hV0
 rw [Tryz.params3] at hA hval;obtain ⟨v0,vs0,d0,ds0,p0,q0,hargs,rfl,rfl,h0,r0⟩:=trodAll_cons hA;obtain ⟨rfl,rfl,rfl⟩:=trodAll_nil r0;obtain rfl:args=#[v0]:=by cases args;simp_all
 have k0:=h0;have lt0:∀ x ∈ p0,x.block<W.heap.size:=by obtain ⟨m,hm⟩:=k0;exact DataW.trod_lt m _ _ _ hm
 obtain ⟨d0,rfl,hb0,hm0⟩:=open_disk (hval 0 34 v0 rfl rfl) h0;rw [MakeChecks.laidMetH_plain _ _ _ (by kernel_rfl)] at hL
 obtain ⟨s_errOver,hv_errOver,hc_errOver⟩:=zu hL.tail.tail.tail z5r zat;have hG_errOver:16<W.heap.size:=World.block_lt_of_cell? _ _ hc_errOver;obtain ⟨s_errFull,hv_errFull,hc_errFull⟩:=zu hL.tail.tail.tail.tail z5s zav;have hG_errFull:26<W.heap.size:=World.block_lt_of_cell? _ _ hc_errFull;obtain ⟨s_errRange,hv_errRange,hc_errRange⟩:=zu hL.tail.tail.tail.tail.tail z4g z8r;have hG_errRange:15<W.heap.size:=World.block_lt_of_cell? _ _ hc_errRange
 obtain ⟨s_errSyms,hv_errSyms,hc_errSyms⟩:=zu hL.tail.tail.tail.tail.tail.tail z5j zap;have hG_errSyms:21<W.heap.size:=World.block_lt_of_cell? _ _ hc_errSyms;obtain ⟨s_errLength,hv_errLength,hc_errLength⟩:=zu hL.tail.tail.tail.tail.tail.tail.tail z3n z6p;have hG_errLength:22<W.heap.size:=World.block_lt_of_cell? _ _ hc_errLength;obtain ⟨s_errNoCodes,hv_errNoCodes,hc_errNoCodes⟩:=zu hL.tail.tail.tail.tail.tail.tail.tail.tail z2u z59
 have hG_errNoCodes:23<W.heap.size:=World.block_lt_of_cell? _ _ hc_errNoCodes;obtain ⟨s_errShares,hv_errShares,hc_errShares⟩:=zu hL.tail.tail.tail.tail.tail.tail.tail.tail.tail z3i z6s;have hG_errShares:24<W.heap.size:=World.block_lt_of_cell? _ _ hc_errShares;obtain ⟨s_errRun,hv_errRun,hc_errRun⟩:=zu hL.tail.tail.tail.tail.tail.tail.tail.tail.tail.tail z7e zcv;have hG_errRun:17<W.heap.size:=World.block_lt_of_cell? _ _ hc_errRun
 obtain ⟨s_errNoSymbol,hv_errNoSymbol,hc_errNoSymbol⟩:=zu hL.tail.tail.tail.tail.tail.tail.tail.tail.tail.tail.tail z2h z4v;have hG_errNoSymbol:25<W.heap.size:=World.block_lt_of_cell? _ _ hc_errNoSymbol;obtain ⟨s_errShare,hv_errShare,hc_errShare⟩:=zu hL.tail.tail.tail.tail.tail.tail.tail.tail.tail.tail.tail.tail z42 z8n;have hG_errShare:18<W.heap.size:=World.block_lt_of_cell? _ _ hc_errShare;obtain ⟨s_errOtherText,hv_errOtherText,hc_errOtherText⟩:=zu hL.tail.tail.tail.tail.tail.tail.tail.tail.tail.tail.tail.tail.tail z2a z3x
 have hG_errOtherText:19<W.heap.size:=World.block_lt_of_cell? _ _ hc_errOtherText;obtain ⟨s_errBlobSize,hv_errBlobSize,hc_errBlobSize⟩:=zu hL.tail.tail.tail.tail.tail.tail.tail.tail.tail.tail.tail.tail.tail.tail z2m z4m;have hG_errBlobSize:5<W.heap.size:=World.block_lt_of_cell? _ _ hc_errBlobSize;obtain ⟨s_errBlockSize,hv_errBlockSize,hc_errBlockSize⟩:=zu hL.tail.tail.tail.tail.tail.tail.tail.tail.tail.tail.tail.tail.tail.tail.tail z21 z3t
 have hG_errBlockSize:10<W.heap.size:=World.block_lt_of_cell? _ _ hc_errBlockSize;obtain ⟨s_errMode,hv_errMode,hc_errMode⟩:=zu hL.tail.tail.tail.tail.tail.tail.tail.tail.tail.tail.tail.tail.tail.tail.tail.tail z5l zaf;have hG_errMode:9<W.heap.size:=World.block_lt_of_cell? _ _ hc_errMode;obtain ⟨s_errUnsealed,hv_errUnsealed,hc_errUnsealed⟩:=zu hL.tail.tail.tail.tail.tail.tail.tail.tail.tail.tail.tail.tail.tail.tail.tail.tail.tail z2k z4s
 have hG_errUnsealed:11<W.heap.size:=World.block_lt_of_cell? _ _ hc_errUnsealed;obtain ⟨s_errPiece,hv_errPiece,hc_errPiece⟩:=zu hL.tail.tail.tail.tail.tail.tail.tail.tail.tail.tail.tail.tail.tail.tail.tail.tail.tail.tail z4k z8f;have hG_errPiece:20<W.heap.size:=World.block_lt_of_cell? _ _ hc_errPiece;obtain ⟨s_errLeft,hv_errLeft,hc_errLeft⟩:=zu hL.tail.tail.tail.tail.tail.tail.tail.tail.tail.tail.tail.tail.tail.tail.tail.tail.tail.tail.tail z5t za4
 have hG_errLeft:14<W.heap.size:=World.block_lt_of_cell? _ _ hc_errLeft;obtain ⟨s_errSeqs,hv_errSeqs,hc_errSeqs⟩:=zu hL.tail.tail.tail.tail.tail.tail.tail.tail.tail.tail.tail.tail.tail.tail.tail.tail.tail.tail.tail.tail z54 zae;have hG_errSeqs:12<W.heap.size:=World.block_lt_of_cell? _ _ hc_errSeqs;obtain ⟨s_errSectorSize,hv_errSectorSize,hc_errSectorSize⟩:=zu hL.tail.tail.tail.tail.tail.tail.tail.tail.tail.tail.tail.tail.tail.tail.tail.tail.tail.tail.tail.tail.tail z1w z35
 have hG_errSectorSize:0<W.heap.size:=World.block_lt_of_cell? _ _ hc_errSectorSize;obtain ⟨s_errSectorOver,hv_errSectorOver,hc_errSectorOver⟩:=zu hL.tail.tail.tail.tail.tail.tail.tail.tail.tail.tail.tail.tail.tail.tail.tail.tail.tail.tail.tail.tail.tail.tail z1z z3c;have hG_errSectorOver:8<W.heap.size:=World.block_lt_of_cell? _ _ hc_errSectorOver;obtain ⟨s_errMark,hv_errMark,hc_errMark⟩:=zu hL.tail.tail.tail.tail.tail.tail.tail.tail.tail.tail.tail.tail.tail.tail.tail.tail.tail.tail.tail.tail.tail.tail.tail z5g zao
 have hG_errMark:2<W.heap.size:=World.block_lt_of_cell? _ _ hc_errMark;obtain ⟨s_errRest,hv_errRest,hc_errRest⟩:=zu hL.tail.tail.tail.tail.tail.tail.tail.tail.tail.tail.tail.tail.tail.tail.tail.tail.tail.tail.tail.tail.tail.tail.tail.tail z5a zan;have hG_errRest:3<W.heap.size:=World.block_lt_of_cell? _ _ hc_errRest;obtain ⟨s_errPack,hv_errPack,hc_errPack⟩:=zu hL.tail.tail.tail.tail.tail.tail.tail.tail.tail.tail.tail.tail.tail.tail.tail.tail.tail.tail.tail.tail.tail.tail.tail.tail.tail z5o zak
 have hG_errPack:4<W.heap.size:=World.block_lt_of_cell? _ _ hc_errPack
 have read : ∀ (W' : World) (sp : Nat → Bool), Bw W W' → DataW.TrodVars enc Tryz.prog W' sp ["loop.example/g00528/impl.errBlobSize", "loop.example/g00528/impl.errMode", "loop.example/g00528/impl.errBlockSize", "loop.example/g00528/impl.errUnsealed", "loop.example/g00528/impl.errSeqs", "loop.example/g00528/impl.errRange", "loop.example/g00528/impl.errOver", "loop.example/g00528/impl.errRun", "loop.example/g00528/impl.errSyms", "loop.example/g00528/impl.errLength", "loop.example/g00528/impl.errNoCodes", "loop.example/g00528/impl.errShares", "loop.example/g00528/impl.errNoSymbol", "loop.example/g00528/impl.errFull", "loop.example/g00528/impl.errShare", "loop.example/g00528/impl.errOtherText", "loop.example/g00528/impl.errLeft", "loop.example/g00528/impl.errPiece", "loop.example/g00528/impl.errSectorSize", "loop.example/g00528/impl.errMark", "loop.example/g00528/impl.errRest", "loop.example/g00528/impl.errPack", "loop.example/g00528/impl.errSectorOver"] _ _ := fun W' sp bel =>
  zj enc z2m z4m Tryz.underlying189 (var?_below bel z2m hG_errBlobSize hv_errBlobSize) trivial (zj enc z5l zaf Tryz.underlying189 (var?_below bel z5l hG_errMode hv_errMode) trivial (zj enc z21 z3t Tryz.underlying189 (var?_below bel z21 hG_errBlockSize hv_errBlockSize) trivial (zj enc z2k z4s Tryz.underlying189 (var?_below bel z2k hG_errUnsealed hv_errUnsealed) trivial (zj enc z54 zae Tryz.underlying189 (var?_below bel z54 hG_errSeqs hv_errSeqs) trivial (zj enc z4g z8r Tryz.underlying189 (var?_below bel z4g hG_errRange hv_errRange) trivial (zj enc z5r zat Tryz.underlying189 (var?_below bel z5r hG_errOver hv_errOver) trivial (zj enc z7e zcv Tryz.underlying189 (var?_below bel z7e hG_errRun hv_errRun) trivial (zj enc z5j zap Tryz.underlying189 (var?_below bel z5j hG_errSyms hv_errSyms) trivial (zj enc z3n z6p Tryz.underlying189 (var?_below bel z3n hG_errLength hv_errLength) trivial (zj enc z2u z59 Tryz.underlying189 (var?_below bel z2u hG_errNoCodes hv_errNoCodes) trivial (zj enc z3i z6s Tryz.underlying189 (var?_below bel z3i hG_errShares hv_errShares) trivial (zj enc z2h z4v Tryz.underlying189 (var?_below bel z2h hG_errNoSymbol hv_errNoSymbol) trivial (zj enc z5s zav Tryz.underlying189 (var?_below bel z5s hG_errFull hv_errFull) trivial (zj enc z42 z8n Tryz.underlying189 (var?_below bel z42 hG_errShare hv_errShare) trivial (zj enc z2a z3x Tryz.underlying189 (var?_below bel z2a hG_errOtherText hv_errOtherText) trivial (zj enc z5t za4 Tryz.underlying189 (var?_below bel z5t hG_errLeft hv_errLeft) trivial (zj enc z4k z8f Tryz.underlying189 (var?_below bel z4k hG_errPiece hv_errPiece) trivial (zj enc z1w z35 Tryz.underlying189 (var?_below bel z1w hG_errSectorSize hv_errSectorSize) trivial (zj enc z5g zao Tryz.underlying189 (var?_below bel z5g hG_errMark hv_errMark) trivial (zj enc z5a zan Tryz.underlying189 (var?_below bel z5a hG_errRest hv_errRest) trivial (zj enc z5o zak Tryz.underlying189 (var?_below bel z5o hG_errPack hv_errPack) trivial (zj enc z1z z3c Tryz.underlying189 (var?_below bel z1z hG_errSectorOver hv_errSectorOver) trivial (zkx enc _)))))))))))))))))))))))
 obtain ⟨rfl,rfl⟩:=hV.unique (read W _ (Below.refl _ _));clear hA0 hV0 hval0
 refine (z81 d0 W hb0 hm0 (SentR.mk (SentB.mk (SentD.mk (SentT.mk ⟨_, hc_errOver⟩ ⟨_, _, hc_errFull⟩ ⟨hG_errOver, hG_errFull⟩) (SentF.mk ⟨_, _, hc_errRange⟩ ⟨_, _, hc_errOver⟩ ⟨_, _, hc_errOtherText⟩ ⟨hG_errRange, hG_errOver, hG_errOtherText⟩) ⟨_, _, hc_errRun⟩ ⟨_, _, hc_errNoSymbol⟩ ⟨_, _, hc_errShare⟩ ⟨_, _, hc_errPiece⟩ ⟨_, _, hc_errLeft⟩ ⟨_, _, hc_errSeqs⟩ ⟨⟨_, _, hc_errSyms⟩, ⟨_, _, hc_errLength⟩, ⟨_, _, hc_errNoCodes⟩, ⟨_, _, hc_errShares⟩⟩ ⟨hG_errRun, hG_errNoSymbol, hG_errShare, hG_errPiece, hG_errLeft, hG_errSeqs⟩) ⟨_, _, hc_errUnsealed⟩ ⟨_, _, hc_errMode⟩ ⟨_, _, hc_errBlockSize⟩ ⟨_, _, hc_errBlobSize⟩ ⟨hG_errUnsealed, hG_errMode, hG_errBlockSize, hG_errBlobSize⟩) ⟨_, _, hc_errSectorOver⟩ ⟨_, _, hc_errMark⟩ ⟨_, _, hc_errRest⟩ ⟨_, _, hc_errPack⟩ ⟨_, _, hc_errSectorSize⟩ ⟨hG_errSectorOver, hG_errMark, hG_errRest, hG_errPack, hG_errSectorSize⟩) rfl (Lib.tabBelow_of_tabIs (Lib.tabIs_of_head (name := "internal/strconv.uint64pow10") (k := .u64) (zs := Lib.pow10Tab) (g := 1) (t := 206) (e := 155) (by kernel_rfl) (by kernel_rfl) Tryz.underlying206 Tryz.underlying155 (by kernel_rfl) (by kernel_rfl) hL.tail.tail))).mono fun e W' ⟨he, bel⟩ => ?_
 subst he;exact ⟨_,rfl,_,_,_,[],_,_,hW',trodAll_mk1 (shut_bool Tryz.underlying4 _),
  (trodAll_cons_mk (Below.trod Tryz.laidOut (by kernel_rfl) (of_decide_eq_true (by kernel_rfl)) k0 bel lt0) trodAll_mk0),
  read W' _ bel,bel.frame _,fun h=>by cases h⟩
theorem zje :(Rows.fnExactDiskTextRow.inPlace == Tryz.pinned.checked.prog.inPlace 3)=true:=by kernel_rfl
theorem zch :(Rows.fnExactDiskTextRow.unfollowed == Tryz.pinned.checked.prog.unfollowed 3)=true:=by kernel_rfl
theorem zgu :(Rows.fnExactDiskTextRow.recurses == Tryz.pinned.checked.prog.recurses 3)=true:=by kernel_rfl
theorem zmc :(Rows.fnExactDiskTextRow.named == Tryz.pinned.checked.prog.varsNamed 3)=true:=by kernel_rfl
theorem zok :joinedFacts Tryz.pinned.checked.prog 3 Tryz.f3 Rows.fnExactDiskTextSpec Rows.fnExactDiskTextRow=true:=by
 unfold joinedFacts;rw [zje,zch,zgu,zmc]
 kernel_rfl
end Go.Proofs.YtkomjdjfknpinaaGreatDoor.cardDiskText
