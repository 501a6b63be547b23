/-
  FnDecodes, for every input: the call returns true and leaves its arguments as they were, where the named variables hold what the program's own text lays there (the card ties them to it).
-/
import Derived.Test.YtfeokafkhnbdiaaGreatDoorLawFnDecodes
namespace Go.Proofs.YtfeokafkhnbdiaaGreatDoor.cardFnDecodes
open Go.ChangeShapes Go.WideShapes Go.ChangeAt Go.RowKit Go.Joins
set_option linter.unusedVariables false
theorem z6a : Tryz.prog.globalNamed "loop.example/g00528/impl.errOver" = some 11 := by kernel_rfl
theorem zaf :(Tryz.prog.globals[11]?).map (·.type)=some 70:=by kernel_rfl
theorem z5z : Tryz.prog.globalNamed "loop.example/g00528/impl.errFull" = some 6 := by kernel_rfl
theorem zat :(Tryz.prog.globals[6]?).map (·.type)=some 70:=by kernel_rfl
theorem z57 : Tryz.prog.globalNamed "loop.example/g00528/impl.errRange" = some 5 := by kernel_rfl
theorem z8z :(Tryz.prog.globals[5]?).map (·.type)=some 70:=by kernel_rfl
theorem z5y : Tryz.prog.globalNamed "loop.example/g00528/impl.errSyms" = some 17 := by kernel_rfl
theorem zah :(Tryz.prog.globals[17]?).map (·.type)=some 70:=by kernel_rfl
theorem z44 : Tryz.prog.globalNamed "loop.example/g00528/impl.errLength" = some 18 := by kernel_rfl
theorem z72 :(Tryz.prog.globals[18]?).map (·.type)=some 70:=by kernel_rfl
theorem z3d : Tryz.prog.globalNamed "loop.example/g00528/impl.errNoCodes" = some 8 := by kernel_rfl
theorem z6g :(Tryz.prog.globals[8]?).map (·.type)=some 70:=by kernel_rfl
theorem z42 : Tryz.prog.globalNamed "loop.example/g00528/impl.errShares" = some 19 := by kernel_rfl
theorem z78 :(Tryz.prog.globals[19]?).map (·.type)=some 70:=by kernel_rfl
theorem z7z : Tryz.prog.globalNamed "loop.example/g00528/impl.errRun" = some 15 := by kernel_rfl
theorem zbx :(Tryz.prog.globals[15]?).map (·.type)=some 70:=by kernel_rfl
theorem z2y : Tryz.prog.globalNamed "loop.example/g00528/impl.errNoSymbol" = some 20 := by kernel_rfl
theorem z5i :(Tryz.prog.globals[20]?).map (·.type)=some 70:=by kernel_rfl
theorem z47 : Tryz.prog.globalNamed "loop.example/g00528/impl.errNoCode" = some 12 := by kernel_rfl
theorem z73 :(Tryz.prog.globals[12]?).map (·.type)=some 70:=by kernel_rfl
theorem z54 : Tryz.prog.globalNamed "loop.example/g00528/impl.errShare" = some 9 := by kernel_rfl
theorem z8u :(Tryz.prog.globals[9]?).map (·.type)=some 70:=by kernel_rfl
theorem z3h : Tryz.prog.globalNamed "loop.example/g00528/impl.errNoShare" = some 14 := by kernel_rfl
theorem z5m :(Tryz.prog.globals[14]?).map (·.type)=some 70:=by kernel_rfl
theorem z2c : Tryz.prog.globalNamed "loop.example/g00528/impl.errOtherText" = some 16 := by kernel_rfl
theorem z48 :(Tryz.prog.globals[16]?).map (·.type)=some 70:=by kernel_rfl
theorem z31 : Tryz.prog.globalNamed "loop.example/g00528/impl.errBlobSize" = some 2 := by kernel_rfl
theorem z5d :(Tryz.prog.globals[2]?).map (·.type)=some 70:=by kernel_rfl
theorem z28 : Tryz.prog.globalNamed "loop.example/g00528/impl.errBlockSize" = some 4 := by kernel_rfl
theorem z4p :(Tryz.prog.globals[4]?).map (·.type)=some 70:=by kernel_rfl
theorem z60 : Tryz.prog.globalNamed "loop.example/g00528/impl.errMode" = some 3 := by kernel_rfl
theorem za9 :(Tryz.prog.globals[3]?).map (·.type)=some 70:=by kernel_rfl
theorem z2x : Tryz.prog.globalNamed "loop.example/g00528/impl.errUnsealed" = some 10 := by kernel_rfl
theorem z5e :(Tryz.prog.globals[10]?).map (·.type)=some 70:=by kernel_rfl
theorem z58 : Tryz.prog.globalNamed "loop.example/g00528/impl.errPiece" = some 7 := by kernel_rfl
theorem z8m :(Tryz.prog.globals[7]?).map (·.type)=some 70:=by kernel_rfl
theorem z6e : Tryz.prog.globalNamed "loop.example/g00528/impl.errLeft" = some 0 := by kernel_rfl
theorem za3 :(Tryz.prog.globals[0]?).map (·.type)=some 70:=by kernel_rfl
theorem z65 : Tryz.prog.globalNamed "loop.example/g00528/impl.errSeqs" = some 1 := by kernel_rfl
theorem zab :(Tryz.prog.globals[1]?).map (·.type)=some 70:=by kernel_rfl
theorem zjm (os:Os) (args:Array Value):laidMetH Tryz.prog Rows.fnDecodesRow.laid ((World.doorLaid Tryz.prog 389 os).forCall (fun _ _=>0) ⟨#[],args,[]⟩).memory:=
 laidMetH_of_parts3 (fuel:=8) (laidMet_of_run' 8 (by kernel_rfl) (by kernel_rfl)) (by kernel_rfl) (by kernel_rfl)
set_option maxRecDepth 100000 in
theorem zoa (os:Os) (started:os.Started) (H:Type) (enc:TypeId × Value->H) :
  ReturnsInHanded {} Tryz.checked os 8 .any (fun w args=>(Rows.fnDecodesSpec.pre enc Tryz.prog Tryz.f8 [] false w args/\laidMetH Tryz.prog Rows.fnDecodesRow.laid w)/\sizedMet enc Tryz.prog Tryz.f8 (OpenSpec.ofChange Rows.fnDecodesSpec) false w args)
   (Rows.fnDecodesSpec.post enc Tryz.prog Tryz.f8 false true false false):=by
 refine returnsInHanded_of_change_and (C:=Tryz.checked) (X:=fun w _=>laidMetH Tryz.prog Rows.fnDecodesRow.laid w) (fun _ _ _ hh h=>h.of_heap hh) Tryz.own started (by kernel_rfl) Tryz.func8
  (ChangeSpec.witness_shaped (enc:=enc) (C:=Tryz.checked) (os:=os) (X:=fun w _=>laidMetH Tryz.prog Rows.fnDecodesRow.laid w) false (World.doorLaid Tryz.prog 389 os) #[.slice .none 0 0] 8 rfl (World.shaped_of_RefB (by kernel_rfl) (by kernel_rfl)) (by kernel_rfl) (by kernel_rfl) (by kernel_rfl) (zjm os _)) ?_
 intro W base args ds gs before hval0 hW _ _ hL _
 have hval:∀ (j:Nat) t v,Tryz.f8.params[j]?=some t->args[j]?=some v->Value.okWide Tryz.prog W .any base t v:=hval0;have hW':=hW;obtain ⟨p,q,hA0,hV0,rfl,hfz,hnd⟩:=hW;have hA:DataW.TrodAll enc Tryz.prog W 0 (fun _=>true) true Tryz.f8.params.toList args.toList ds p:=hA0
 have hV : DataW.TrodVars enc Tryz.prog W (fun _ => true) ["loop.example/g00528/impl.errBlobSize", "loop.example/g00528/impl.errMode", "loop.example/g00528/impl.errBlockSize", "loop.example/g00528/impl.errUnsealed", "loop.example/g00528/impl.errSeqs", "loop.example/g00528/impl.errRange", "loop.example/g00528/impl.errOver", "loop.example/g00528/impl.errRun", "loop.example/g00528/impl.errSyms", "loop.example/g00528/impl.errLength", "loop.example/g00528/impl.errNoCodes", "loop.example/g00528/impl.errShares", "loop.example/g00528/impl.errNoSymbol", "loop.example/g00528/impl.errFull", "loop.example/g00528/impl.errShare", "loop.example/g00528/impl.errOtherText", "loop.example/g00528/impl.errLeft", "loop.example/g00528/impl.errPiece", "loop.example/g00528/impl.errNoCode", "loop.example/g00528/impl.errNoShare"] gs q := hV0
 rw [Tryz.params8] at hA hval;obtain ⟨v0,vs0,d0,ds0,p0,q0,hargs,rfl,rfl,h0,r0⟩:=trodAll_cons hA;obtain ⟨rfl,rfl,rfl⟩:=trodAll_nil r0;obtain rfl:args=#[v0]:=by cases args;simp_all
 have k0:=h0;have lt0:∀ x ∈ p0,x.block<W.heap.size:=by obtain ⟨m,hm⟩:=k0;exact DataW.trod_lt m _ _ _ hm
 obtain ⟨sa0,sl0,sc0,rfl⟩:=okWide_slice Tryz.underlying22 (hval 0 22 v0 rfl rfl);obtain ⟨fuel0,hf0⟩:=h0;obtain ⟨a0,zs0,cap0,hv0,hb0,hm0⟩:=zee (v:=.slice sa0 sl0 sc0) (by simpa [Value.cells] using hf0)
 rw [hv0] at hW' k0 ⊢;rw [MakeChecks.laidMetH_plain _ _ _ (by kernel_rfl)] at hL
 obtain ⟨s_errOver,hv_errOver,hc_errOver⟩:=zy hL z6a zaf;have hG_errOver:11<W.heap.size:=World.block_lt_of_cell? _ _ hc_errOver;obtain ⟨s_errFull,hv_errFull,hc_errFull⟩:=zy hL.tail z5z zat;have hG_errFull:6<W.heap.size:=World.block_lt_of_cell? _ _ hc_errFull;obtain ⟨s_errRange,hv_errRange,hc_errRange⟩:=zy hL.tail.tail z57 z8z;have hG_errRange:5<W.heap.size:=World.block_lt_of_cell? _ _ hc_errRange;obtain ⟨s_errSyms,hv_errSyms,hc_errSyms⟩:=zy hL.tail.tail.tail z5y zah
 have hG_errSyms:17<W.heap.size:=World.block_lt_of_cell? _ _ hc_errSyms;obtain ⟨s_errLength,hv_errLength,hc_errLength⟩:=zy hL.tail.tail.tail.tail z44 z72;have hG_errLength:18<W.heap.size:=World.block_lt_of_cell? _ _ hc_errLength;obtain ⟨s_errNoCodes,hv_errNoCodes,hc_errNoCodes⟩:=zy hL.tail.tail.tail.tail.tail z3d z6g;have hG_errNoCodes:8<W.heap.size:=World.block_lt_of_cell? _ _ hc_errNoCodes;obtain ⟨s_errShares,hv_errShares,hc_errShares⟩:=zy hL.tail.tail.tail.tail.tail.tail z42 z78
 have hG_errShares:19<W.heap.size:=World.block_lt_of_cell? _ _ hc_errShares;obtain ⟨s_errRun,hv_errRun,hc_errRun⟩:=zy hL.tail.tail.tail.tail.tail.tail.tail z7z zbx;have hG_errRun:15<W.heap.size:=World.block_lt_of_cell? _ _ hc_errRun;obtain ⟨s_errNoSymbol,hv_errNoSymbol,hc_errNoSymbol⟩:=zy hL.tail.tail.tail.tail.tail.tail.tail.tail z2y z5i;have hG_errNoSymbol:20<W.heap.size:=World.block_lt_of_cell? _ _ hc_errNoSymbol
 obtain ⟨s_errNoCode,hv_errNoCode,hc_errNoCode⟩:=zy hL.tail.tail.tail.tail.tail.tail.tail.tail.tail z47 z73;have hG_errNoCode:12<W.heap.size:=World.block_lt_of_cell? _ _ hc_errNoCode;obtain ⟨s_errShare,hv_errShare,hc_errShare⟩:=zy hL.tail.tail.tail.tail.tail.tail.tail.tail.tail.tail z54 z8u;have hG_errShare:9<W.heap.size:=World.block_lt_of_cell? _ _ hc_errShare;obtain ⟨s_errNoShare,hv_errNoShare,hc_errNoShare⟩:=zy hL.tail.tail.tail.tail.tail.tail.tail.tail.tail.tail.tail z3h z5m
 have hG_errNoShare:14<W.heap.size:=World.block_lt_of_cell? _ _ hc_errNoShare;obtain ⟨s_errOtherText,hv_errOtherText,hc_errOtherText⟩:=zy hL.tail.tail.tail.tail.tail.tail.tail.tail.tail.tail.tail.tail z2c z48;have hG_errOtherText:16<W.heap.size:=World.block_lt_of_cell? _ _ hc_errOtherText;obtain ⟨s_errBlobSize,hv_errBlobSize,hc_errBlobSize⟩:=zy hL.tail.tail.tail.tail.tail.tail.tail.tail.tail.tail.tail.tail.tail z31 z5d
 have hG_errBlobSize:2<W.heap.size:=World.block_lt_of_cell? _ _ hc_errBlobSize;obtain ⟨s_errBlockSize,hv_errBlockSize,hc_errBlockSize⟩:=zy hL.tail.tail.tail.tail.tail.tail.tail.tail.tail.tail.tail.tail.tail.tail z28 z4p;have hG_errBlockSize:4<W.heap.size:=World.block_lt_of_cell? _ _ hc_errBlockSize;obtain ⟨s_errMode,hv_errMode,hc_errMode⟩:=zy hL.tail.tail.tail.tail.tail.tail.tail.tail.tail.tail.tail.tail.tail.tail.tail z60 za9
 have hG_errMode:3<W.heap.size:=World.block_lt_of_cell? _ _ hc_errMode;obtain ⟨s_errUnsealed,hv_errUnsealed,hc_errUnsealed⟩:=zy hL.tail.tail.tail.tail.tail.tail.tail.tail.tail.tail.tail.tail.tail.tail.tail.tail z2x z5e;have hG_errUnsealed:10<W.heap.size:=World.block_lt_of_cell? _ _ hc_errUnsealed;obtain ⟨s_errPiece,hv_errPiece,hc_errPiece⟩:=zy hL.tail.tail.tail.tail.tail.tail.tail.tail.tail.tail.tail.tail.tail.tail.tail.tail.tail z58 z8m
 have hG_errPiece:7<W.heap.size:=World.block_lt_of_cell? _ _ hc_errPiece;obtain ⟨s_errLeft,hv_errLeft,hc_errLeft⟩:=zy hL.tail.tail.tail.tail.tail.tail.tail.tail.tail.tail.tail.tail.tail.tail.tail.tail.tail.tail z6e za3;have hG_errLeft:0<W.heap.size:=World.block_lt_of_cell? _ _ hc_errLeft;obtain ⟨s_errSeqs,hv_errSeqs,hc_errSeqs⟩:=zy hL.tail.tail.tail.tail.tail.tail.tail.tail.tail.tail.tail.tail.tail.tail.tail.tail.tail.tail.tail z65 zab
 have hG_errSeqs:1<W.heap.size:=World.block_lt_of_cell? _ _ hc_errSeqs
 have read : ∀ (W' : World) (sp : Nat → Bool), Bw W W' → DataW.TrodVars enc Tryz.prog W' sp ["loop.example/g00528/impl.errBlobSize", "loop.example/g00528/impl.errMode", "loop.example/g00528/impl.errBlockSize", "loop.example/g00528/impl.errUnsealed", "loop.example/g00528/impl.errSeqs", "loop.example/g00528/impl.errRange", "loop.example/g00528/impl.errOver", "loop.example/g00528/impl.errRun", "loop.example/g00528/impl.errSyms", "loop.example/g00528/impl.errLength", "loop.example/g00528/impl.errNoCodes", "loop.example/g00528/impl.errShares", "loop.example/g00528/impl.errNoSymbol", "loop.example/g00528/impl.errFull", "loop.example/g00528/impl.errShare", "loop.example/g00528/impl.errOtherText", "loop.example/g00528/impl.errLeft", "loop.example/g00528/impl.errPiece", "loop.example/g00528/impl.errNoCode", "loop.example/g00528/impl.errNoShare"] _ _ := fun W' sp bel =>
  zu enc z31 z5d Tryz.underlying70 (var?_below bel z31 hG_errBlobSize hv_errBlobSize) trivial (zu enc z60 za9 Tryz.underlying70 (var?_below bel z60 hG_errMode hv_errMode) trivial (zu enc z28 z4p Tryz.underlying70 (var?_below bel z28 hG_errBlockSize hv_errBlockSize) trivial (zu enc z2x z5e Tryz.underlying70 (var?_below bel z2x hG_errUnsealed hv_errUnsealed) trivial (zu enc z65 zab Tryz.underlying70 (var?_below bel z65 hG_errSeqs hv_errSeqs) trivial (zu enc z57 z8z Tryz.underlying70 (var?_below bel z57 hG_errRange hv_errRange) trivial (zu enc z6a zaf Tryz.underlying70 (var?_below bel z6a hG_errOver hv_errOver) trivial (zu enc z7z zbx Tryz.underlying70 (var?_below bel z7z hG_errRun hv_errRun) trivial (zu enc z5y zah Tryz.underlying70 (var?_below bel z5y hG_errSyms hv_errSyms) trivial (zu enc z44 z72 Tryz.underlying70 (var?_below bel z44 hG_errLength hv_errLength) trivial (zu enc z3d z6g Tryz.underlying70 (var?_below bel z3d hG_errNoCodes hv_errNoCodes) trivial (zu enc z42 z78 Tryz.underlying70 (var?_below bel z42 hG_errShares hv_errShares) trivial (zu enc z2y z5i Tryz.underlying70 (var?_below bel z2y hG_errNoSymbol hv_errNoSymbol) trivial (zu enc z5z zat Tryz.underlying70 (var?_below bel z5z hG_errFull hv_errFull) trivial (zu enc z54 z8u Tryz.underlying70 (var?_below bel z54 hG_errShare hv_errShare) trivial (zu enc z2c z48 Tryz.underlying70 (var?_below bel z2c hG_errOtherText hv_errOtherText) trivial (zu enc z6e za3 Tryz.underlying70 (var?_below bel z6e hG_errLeft hv_errLeft) trivial (zu enc z58 z8m Tryz.underlying70 (var?_below bel z58 hG_errPiece hv_errPiece) trivial (zu enc z47 z73 Tryz.underlying70 (var?_below bel z47 hG_errNoCode hv_errNoCode) trivial (zu enc z3h z5m Tryz.underlying70 (var?_below bel z3h hG_errNoShare hv_errNoShare) trivial (zjl enc _))))))))))))))))))))
 obtain ⟨rfl,rfl⟩:=hV.unique (read W _ (Below.refl _ _));clear hA0 hV0 hval0;refine (z8b a0 cap0 zs0 W hb0 hm0 (SentE.mk (SentC.mk ⟨_,_,hc_errNoCode⟩ hG_errNoCode) ⟨_,_,hc_errNoShare⟩ ⟨_,hc_errOver⟩ ⟨hG_errNoShare,hG_errOver⟩) (SentB.mk (SentD.mk (SentT.mk ⟨_,hc_errOver⟩ ⟨_,_,hc_errFull⟩ ⟨hG_errOver,hG_errFull⟩) (SentF.mk ⟨_,_,hc_errRange⟩ ⟨_,_,hc_errOver⟩ ⟨_,_,hc_errOtherText⟩ ⟨hG_errRange,hG_errOver,hG_errOtherText⟩) ⟨_,_,hc_errRun⟩ ⟨_,_,hc_errNoSymbol⟩ ⟨_,_,hc_errShare⟩ ⟨_,_,hc_errPiece⟩ ⟨_,_,hc_errLeft⟩ ⟨_,_,hc_errSeqs⟩ ⟨⟨_,_,hc_errSyms⟩,⟨_,_,hc_errLength⟩,⟨_,_,hc_errNoCodes⟩,⟨_,_,hc_errShares⟩⟩ ⟨hG_errRun,hG_errNoSymbol,hG_errShare,hG_errPiece,hG_errLeft,hG_errSeqs⟩) ⟨_,_,hc_errUnsealed⟩ ⟨_,_,hc_errMode⟩ ⟨_,_,hc_errBlockSize⟩ ⟨_,_,hc_errBlobSize⟩ ⟨hG_errUnsealed,hG_errMode,hG_errBlockSize,hG_errBlobSize⟩)).mono fun e W' ⟨he,bel⟩=>?_
 subst he;exact ⟨_,rfl,_,_,_,[],_,_,hW',trodAll_mk1 (shut_bool Tryz.underlying4 _),
  (trodAll_cons_mk (Below.trod Tryz.laidOut (by kernel_rfl) (of_decide_eq_true (by kernel_rfl)) k0 bel lt0) trodAll_mk0),
  read W' _ bel,bel.frame _,fun h=>by cases h⟩
theorem said :Rows.FnDecodesSaid:=
 OpenClaim.holds_of_wide 8 Tryz.f8 rfl rfl rfl rfl rfl rfl rfl ⟨rfl,rfl,rfl,rfl,rfl⟩ rfl rfl rfl rfl rfl (by kernel_rfl) Tryz.func8 (by kernel_rfl)
  (of_decide_eq_true (by kernel_rfl)) (by unfold Func.isWrapper;first | (rw [if_pos (by decide +kernel)];kernel_rfl) | (rw [if_neg (by decide +kernel)];exact ⟨rfl,rfl⟩))
  (fun os started H enc _=>zoa os started H enc)
theorem plain (f : FuncId) (fn : Func) (hf : Tryz.pinned.checked.prog.funcNamed "loop.example/g00528/laws.FnDecodes" = some f) (hfn : Tryz.pinned.checked.prog.funcs[f]? = some fn) :
  true=Tryz.pinned.checked.prog.looks []/\∀ (j:Nat) t,fn.params[j]?=some t->Tryz.pinned.checked.prog.wantsStandIn t=false:=by
 obtain rfl : f = 8 := Option.some.inj ((show Tryz.prog.funcNamed "loop.example/g00528/laws.FnDecodes" = some 8 by kernel_rfl).symm.trans hf) |>.symm
 obtain rfl:fn=Tryz.f8:=(Option.some.inj (Tryz.func8.symm.trans hfn)).symm;refine ⟨by kernel_rfl,fun j t ht=>?_⟩
 rw [Tryz.params8] at ht;have hmem:=Array.mem_of_getElem? ht;have h':t=22:=by simpa using hmem
 rcases h' with rfl
 ·exact (show Tryz.prog.wantsStandIn 22=false by kernel_rfl)
end cardFnDecodes
theorem fnDecodes_card :Rows.FnDecodesCardSaid:=
 Claim7.holds_tied_plain_at .later [] _ _ _ _ cardFnDecodes.said (fun _ h=>by cases h) (by kernel_rfl) (fun _ h=>by cases h) fnDecodes_row_tie rfl ⟨rfl,rfl⟩ (by kernel_rfl) rfl cardFnDecodes.plain (by kernel_rfl)
#print axioms fnDecodes_card
end Go.Proofs.YtfeokafkhnbdiaaGreatDoor
