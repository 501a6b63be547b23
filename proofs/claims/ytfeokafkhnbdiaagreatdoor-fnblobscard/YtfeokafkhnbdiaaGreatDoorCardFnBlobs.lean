/-
  FnBlobs, for every input: the call returns true and leaves its arguments as they were, where the named variables hold what the program's own text lays there (the card ties them to it).
-/
import Derived.Test.YtfeokafkhnbdiaaGreatDoorVarsC
import Derived.Test.YtfeokafkhnbdiaaGreatDoorLawFnBlobs
namespace Go.Proofs.YtfeokafkhnbdiaaGreatDoor.cardFnBlobs
open Go.ChangeShapes Go.WideShapes Go.ChangeAt Go.RowKit Go.Joins
set_option linter.unusedVariables false
theorem g_errOver : Tryz.prog.globalNamed "loop.example/g00528/impl.errOver" = some 11 := by kernel_rfl
theorem t_errOver :(Tryz.prog.globals[11]?).map (·.type)=some 70:=by kernel_rfl
theorem g_errFull : Tryz.prog.globalNamed "loop.example/g00528/impl.errFull" = some 6 := by kernel_rfl
theorem t_errFull :(Tryz.prog.globals[6]?).map (·.type)=some 70:=by kernel_rfl
theorem g_errRange : Tryz.prog.globalNamed "loop.example/g00528/impl.errRange" = some 5 := by kernel_rfl
theorem t_errRange :(Tryz.prog.globals[5]?).map (·.type)=some 70:=by kernel_rfl
theorem g_errSyms : Tryz.prog.globalNamed "loop.example/g00528/impl.errSyms" = some 17 := by kernel_rfl
theorem t_errSyms :(Tryz.prog.globals[17]?).map (·.type)=some 70:=by kernel_rfl
theorem g_errLength : Tryz.prog.globalNamed "loop.example/g00528/impl.errLength" = some 18 := by kernel_rfl
theorem t_errLength :(Tryz.prog.globals[18]?).map (·.type)=some 70:=by kernel_rfl
theorem g_errNoCodes : Tryz.prog.globalNamed "loop.example/g00528/impl.errNoCodes" = some 8 := by kernel_rfl
theorem t_errNoCodes :(Tryz.prog.globals[8]?).map (·.type)=some 70:=by kernel_rfl
theorem g_errShares : Tryz.prog.globalNamed "loop.example/g00528/impl.errShares" = some 19 := by kernel_rfl
theorem t_errShares :(Tryz.prog.globals[19]?).map (·.type)=some 70:=by kernel_rfl
theorem g_errRun : Tryz.prog.globalNamed "loop.example/g00528/impl.errRun" = some 15 := by kernel_rfl
theorem t_errRun :(Tryz.prog.globals[15]?).map (·.type)=some 70:=by kernel_rfl
theorem g_errNoSymbol : Tryz.prog.globalNamed "loop.example/g00528/impl.errNoSymbol" = some 20 := by kernel_rfl
theorem t_errNoSymbol :(Tryz.prog.globals[20]?).map (·.type)=some 70:=by kernel_rfl
theorem g_errNoCode : Tryz.prog.globalNamed "loop.example/g00528/impl.errNoCode" = some 12 := by kernel_rfl
theorem t_errNoCode :(Tryz.prog.globals[12]?).map (·.type)=some 70:=by kernel_rfl
theorem g_errShare : Tryz.prog.globalNamed "loop.example/g00528/impl.errShare" = some 9 := by kernel_rfl
theorem t_errShare :(Tryz.prog.globals[9]?).map (·.type)=some 70:=by kernel_rfl
theorem g_errNoShare : Tryz.prog.globalNamed "loop.example/g00528/impl.errNoShare" = some 14 := by kernel_rfl
theorem t_errNoShare :(Tryz.prog.globals[14]?).map (·.type)=some 70:=by kernel_rfl
theorem g_errOtherText : Tryz.prog.globalNamed "loop.example/g00528/impl.errOtherText" = some 16 := by kernel_rfl
theorem t_errOtherText :(Tryz.prog.globals[16]?).map (·.type)=some 70:=by kernel_rfl
theorem g_errBlobSize : Tryz.prog.globalNamed "loop.example/g00528/impl.errBlobSize" = some 2 := by kernel_rfl
theorem t_errBlobSize :(Tryz.prog.globals[2]?).map (·.type)=some 70:=by kernel_rfl
theorem g_errBlockSize : Tryz.prog.globalNamed "loop.example/g00528/impl.errBlockSize" = some 4 := by kernel_rfl
theorem t_errBlockSize :(Tryz.prog.globals[4]?).map (·.type)=some 70:=by kernel_rfl
theorem g_errMode : Tryz.prog.globalNamed "loop.example/g00528/impl.errMode" = some 3 := by kernel_rfl
theorem t_errMode :(Tryz.prog.globals[3]?).map (·.type)=some 70:=by kernel_rfl
theorem g_errUnsealed : Tryz.prog.globalNamed "loop.example/g00528/impl.errUnsealed" = some 10 := by kernel_rfl
theorem t_errUnsealed :(Tryz.prog.globals[10]?).map (·.type)=some 70:=by kernel_rfl
theorem g_errPiece : Tryz.prog.globalNamed "loop.example/g00528/impl.errPiece" = some 7 := by kernel_rfl
theorem t_errPiece :(Tryz.prog.globals[7]?).map (·.type)=some 70:=by kernel_rfl
theorem g_errLeft : Tryz.prog.globalNamed "loop.example/g00528/impl.errLeft" = some 0 := by kernel_rfl
theorem t_errLeft :(Tryz.prog.globals[0]?).map (·.type)=some 70:=by kernel_rfl
theorem g_errSeqs : Tryz.prog.globalNamed "loop.example/g00528/impl.errSeqs" = some 1 := by kernel_rfl
theorem t_errSeqs :(Tryz.prog.globals[1]?).map (·.type)=some 70:=by kernel_rfl
theorem door_met (os:Os) (args:Array Value):laidMetH Tryz.prog Rows.fnBlobsRow.laid ((World.doorLaid Tryz.prog 389 os).forCall (fun _ _=>0) ⟨#[],args,[]⟩).memory:=
 laidMetH_of_parts3 (fuel:=8) (laidMet_of_run' 8 (by kernel_rfl) (by kernel_rfl)) (by kernel_rfl) (by kernel_rfl)
set_option maxRecDepth 100000 in
theorem lifted (os:Os) (started:os.Started) (H:Type) (enc:TypeId × Value→H) :
  ReturnsInHanded {} Tryz.checked os 7 .any (fun w args=>(Rows.fnBlobsSpec.pre enc Tryz.prog Tryz.f7 [] false w args∧laidMetH Tryz.prog Rows.fnBlobsRow.laid w)∧sizedMet enc Tryz.prog Tryz.f7 (OpenSpec.ofChange Rows.fnBlobsSpec) false w args)
   (Rows.fnBlobsSpec.post enc Tryz.prog Tryz.f7 false true false false):=by
 refine returnsInHanded_of_change_and (C:=Tryz.checked) (X:=fun w _=>laidMetH Tryz.prog Rows.fnBlobsRow.laid w) (fun _ _ _ hh h=>h.of_heap hh) Tryz.own started (by kernel_rfl) Tryz.func7
  (ChangeSpec.witness_shaped (enc:=enc) (C:=Tryz.checked) (os:=os) (X:=fun w _=>laidMetH Tryz.prog Rows.fnBlobsRow.laid w) false (World.doorLaid Tryz.prog 389 os) #[.slice .none 0 0] 8 rfl (World.shaped_of_RefB (by kernel_rfl) (by kernel_rfl)) (by kernel_rfl) (by kernel_rfl) (by kernel_rfl) (door_met os _)) ?_
 intro W base args ds gs before hval0 hW _ _ hL _
 have hval:∀ (j:Nat) t v,Tryz.f7.params[j]?=some t→args[j]?=some v→Value.okWide Tryz.prog W .any base t v:=hval0
 have hW':=hW
 obtain ⟨p,q,hA0,hV0,rfl,hfz,hnd⟩:=hW
 have hA:DataW.TrodAll enc Tryz.prog W 0 (fun _=>true) true Tryz.f7.params.toList args.toList ds p:=hA0
 have hV : DataW.TrodVars enc Tryz.prog W (fun _ => true) ["loop.example/g00528/impl.errRange", "loop.example/g00528/impl.errFull", "loop.example/g00528/impl.errNoCodes", "loop.example/g00528/impl.errNoCode", "loop.example/g00528/impl.errOver", "loop.example/g00528/impl.errShare", "loop.example/g00528/impl.errNoShare", "loop.example/g00528/impl.errBlobSize", "loop.example/g00528/impl.errMode", "loop.example/g00528/impl.errBlockSize", "loop.example/g00528/impl.errUnsealed", "loop.example/g00528/impl.errSeqs", "loop.example/g00528/impl.errRun", "loop.example/g00528/impl.errSyms", "loop.example/g00528/impl.errLength", "loop.example/g00528/impl.errShares", "loop.example/g00528/impl.errNoSymbol", "loop.example/g00528/impl.errOtherText", "loop.example/g00528/impl.errLeft", "loop.example/g00528/impl.errPiece"] gs q := hV0
 rw [Tryz.params7] at hA hval
 obtain ⟨v0,vs0,d0,ds0,p0,q0,hargs,rfl,rfl,h0,r0⟩:=trodAll_cons hA
 obtain ⟨rfl,rfl,rfl⟩:=trodAll_nil r0
 obtain rfl:args=#[v0]:=by cases args;simp_all
 have k0:=h0
 have lt0:∀ x ∈ p0,x.block<W.heap.size:=by obtain ⟨m,hm⟩:=k0;exact DataW.trod_lt m _ _ _ hm
 obtain ⟨sa0,sl0,sc0,rfl⟩:=okWide_slice Tryz.underlying22 (hval 0 22 v0 rfl rfl)
 obtain ⟨fuel0,hf0⟩:=h0
 obtain ⟨a0,zs0,cap0,hv0,hb0,hm0⟩:=byt_of_trod (v:=.slice sa0 sl0 sc0) (by simpa [Value.cells] using hf0)
 rw [hv0] at hW' k0 ⊢
 rw [MakeChecks.laidMetH_plain _ _ _ (by kernel_rfl)] at hL
 obtain ⟨s_errOver,hv_errOver,hc_errOver⟩:=sentinel hL g_errOver t_errOver
 have hG_errOver:11<W.heap.size:=World.block_lt_of_cell? _ _ hc_errOver
 obtain ⟨s_errFull,hv_errFull,hc_errFull⟩:=sentinel hL.tail g_errFull t_errFull
 have hG_errFull:6<W.heap.size:=World.block_lt_of_cell? _ _ hc_errFull
 obtain ⟨s_errRange,hv_errRange,hc_errRange⟩:=sentinel hL.tail.tail g_errRange t_errRange
 have hG_errRange:5<W.heap.size:=World.block_lt_of_cell? _ _ hc_errRange
 obtain ⟨s_errSyms,hv_errSyms,hc_errSyms⟩:=sentinel hL.tail.tail.tail g_errSyms t_errSyms
 have hG_errSyms:17<W.heap.size:=World.block_lt_of_cell? _ _ hc_errSyms
 obtain ⟨s_errLength,hv_errLength,hc_errLength⟩:=sentinel hL.tail.tail.tail.tail g_errLength t_errLength
 have hG_errLength:18<W.heap.size:=World.block_lt_of_cell? _ _ hc_errLength
 obtain ⟨s_errNoCodes,hv_errNoCodes,hc_errNoCodes⟩:=sentinel hL.tail.tail.tail.tail.tail g_errNoCodes t_errNoCodes
 have hG_errNoCodes:8<W.heap.size:=World.block_lt_of_cell? _ _ hc_errNoCodes
 obtain ⟨s_errShares,hv_errShares,hc_errShares⟩:=sentinel hL.tail.tail.tail.tail.tail.tail g_errShares t_errShares
 have hG_errShares:19<W.heap.size:=World.block_lt_of_cell? _ _ hc_errShares
 obtain ⟨s_errRun,hv_errRun,hc_errRun⟩:=sentinel hL.tail.tail.tail.tail.tail.tail.tail g_errRun t_errRun
 have hG_errRun:15<W.heap.size:=World.block_lt_of_cell? _ _ hc_errRun
 obtain ⟨s_errNoSymbol,hv_errNoSymbol,hc_errNoSymbol⟩:=sentinel hL.tail.tail.tail.tail.tail.tail.tail.tail g_errNoSymbol t_errNoSymbol
 have hG_errNoSymbol:20<W.heap.size:=World.block_lt_of_cell? _ _ hc_errNoSymbol
 obtain ⟨s_errNoCode,hv_errNoCode,hc_errNoCode⟩:=sentinel hL.tail.tail.tail.tail.tail.tail.tail.tail.tail g_errNoCode t_errNoCode
 have hG_errNoCode:12<W.heap.size:=World.block_lt_of_cell? _ _ hc_errNoCode
 obtain ⟨s_errShare,hv_errShare,hc_errShare⟩:=sentinel hL.tail.tail.tail.tail.tail.tail.tail.tail.tail.tail g_errShare t_errShare
 have hG_errShare:9<W.heap.size:=World.block_lt_of_cell? _ _ hc_errShare
 obtain ⟨s_errNoShare,hv_errNoShare,hc_errNoShare⟩:=sentinel hL.tail.tail.tail.tail.tail.tail.tail.tail.tail.tail.tail g_errNoShare t_errNoShare
 have hG_errNoShare:14<W.heap.size:=World.block_lt_of_cell? _ _ hc_errNoShare
 obtain ⟨s_errOtherText,hv_errOtherText,hc_errOtherText⟩:=sentinel hL.tail.tail.tail.tail.tail.tail.tail.tail.tail.tail.tail.tail g_errOtherText t_errOtherText
 have hG_errOtherText:16<W.heap.size:=World.block_lt_of_cell? _ _ hc_errOtherText
 obtain ⟨s_errBlobSize,hv_errBlobSize,hc_errBlobSize⟩:=sentinel hL.tail.tail.tail.tail.tail.tail.tail.tail.tail.tail.tail.tail.tail g_errBlobSize t_errBlobSize
 have hG_errBlobSize:2<W.heap.size:=World.block_lt_of_cell? _ _ hc_errBlobSize
 obtain ⟨s_errBlockSize,hv_errBlockSize,hc_errBlockSize⟩:=sentinel hL.tail.tail.tail.tail.tail.tail.tail.tail.tail.tail.tail.tail.tail.tail g_errBlockSize t_errBlockSize
 have hG_errBlockSize:4<W.heap.size:=World.block_lt_of_cell? _ _ hc_errBlockSize
 obtain ⟨s_errMode,hv_errMode,hc_errMode⟩:=sentinel hL.tail.tail.tail.tail.tail.tail.tail.tail.tail.tail.tail.tail.tail.tail.tail g_errMode t_errMode
 have hG_errMode:3<W.heap.size:=World.block_lt_of_cell? _ _ hc_errMode
 obtain ⟨s_errUnsealed,hv_errUnsealed,hc_errUnsealed⟩:=sentinel hL.tail.tail.tail.tail.tail.tail.tail.tail.tail.tail.tail.tail.tail.tail.tail.tail g_errUnsealed t_errUnsealed
 have hG_errUnsealed:10<W.heap.size:=World.block_lt_of_cell? _ _ hc_errUnsealed
 obtain ⟨s_errPiece,hv_errPiece,hc_errPiece⟩:=sentinel hL.tail.tail.tail.tail.tail.tail.tail.tail.tail.tail.tail.tail.tail.tail.tail.tail.tail g_errPiece t_errPiece
 have hG_errPiece:7<W.heap.size:=World.block_lt_of_cell? _ _ hc_errPiece
 obtain ⟨s_errLeft,hv_errLeft,hc_errLeft⟩:=sentinel hL.tail.tail.tail.tail.tail.tail.tail.tail.tail.tail.tail.tail.tail.tail.tail.tail.tail.tail g_errLeft t_errLeft
 have hG_errLeft:0<W.heap.size:=World.block_lt_of_cell? _ _ hc_errLeft
 obtain ⟨s_errSeqs,hv_errSeqs,hc_errSeqs⟩:=sentinel hL.tail.tail.tail.tail.tail.tail.tail.tail.tail.tail.tail.tail.tail.tail.tail.tail.tail.tail.tail g_errSeqs t_errSeqs
 have hG_errSeqs:1<W.heap.size:=World.block_lt_of_cell? _ _ hc_errSeqs
 have read : ∀ (W' : World) (sp : Nat → Bool), Below W.heap.size W W' → DataW.TrodVars enc Tryz.prog W' sp ["loop.example/g00528/impl.errRange", "loop.example/g00528/impl.errFull", "loop.example/g00528/impl.errNoCodes", "loop.example/g00528/impl.errNoCode", "loop.example/g00528/impl.errOver", "loop.example/g00528/impl.errShare", "loop.example/g00528/impl.errNoShare", "loop.example/g00528/impl.errBlobSize", "loop.example/g00528/impl.errMode", "loop.example/g00528/impl.errBlockSize", "loop.example/g00528/impl.errUnsealed", "loop.example/g00528/impl.errSeqs", "loop.example/g00528/impl.errRun", "loop.example/g00528/impl.errSyms", "loop.example/g00528/impl.errLength", "loop.example/g00528/impl.errShares", "loop.example/g00528/impl.errNoSymbol", "loop.example/g00528/impl.errOtherText", "loop.example/g00528/impl.errLeft", "loop.example/g00528/impl.errPiece"] _ _ := fun W' sp bel =>
  vars_consC enc g_errRange t_errRange Tryz.underlying70 (var?_below bel g_errRange hG_errRange hv_errRange) trivial (vars_consC enc g_errFull t_errFull Tryz.underlying70 (var?_below bel g_errFull hG_errFull hv_errFull) trivial (vars_consC enc g_errNoCodes t_errNoCodes Tryz.underlying70 (var?_below bel g_errNoCodes hG_errNoCodes hv_errNoCodes) trivial (vars_consC enc g_errNoCode t_errNoCode Tryz.underlying70 (var?_below bel g_errNoCode hG_errNoCode hv_errNoCode) trivial (vars_consC enc g_errOver t_errOver Tryz.underlying70 (var?_below bel g_errOver hG_errOver hv_errOver) trivial (vars_consC enc g_errShare t_errShare Tryz.underlying70 (var?_below bel g_errShare hG_errShare hv_errShare) trivial (vars_consC enc g_errNoShare t_errNoShare Tryz.underlying70 (var?_below bel g_errNoShare hG_errNoShare hv_errNoShare) trivial (vars_consC enc g_errBlobSize t_errBlobSize Tryz.underlying70 (var?_below bel g_errBlobSize hG_errBlobSize hv_errBlobSize) trivial (vars_consC enc g_errMode t_errMode Tryz.underlying70 (var?_below bel g_errMode hG_errMode hv_errMode) trivial (vars_consC enc g_errBlockSize t_errBlockSize Tryz.underlying70 (var?_below bel g_errBlockSize hG_errBlockSize hv_errBlockSize) trivial (vars_consC enc g_errUnsealed t_errUnsealed Tryz.underlying70 (var?_below bel g_errUnsealed hG_errUnsealed hv_errUnsealed) trivial (vars_consC enc g_errSeqs t_errSeqs Tryz.underlying70 (var?_below bel g_errSeqs hG_errSeqs hv_errSeqs) trivial (vars_consC enc g_errRun t_errRun Tryz.underlying70 (var?_below bel g_errRun hG_errRun hv_errRun) trivial (vars_consC enc g_errSyms t_errSyms Tryz.underlying70 (var?_below bel g_errSyms hG_errSyms hv_errSyms) trivial (vars_consC enc g_errLength t_errLength Tryz.underlying70 (var?_below bel g_errLength hG_errLength hv_errLength) trivial (vars_consC enc g_errShares t_errShares Tryz.underlying70 (var?_below bel g_errShares hG_errShares hv_errShares) trivial (vars_consC enc g_errNoSymbol t_errNoSymbol Tryz.underlying70 (var?_below bel g_errNoSymbol hG_errNoSymbol hv_errNoSymbol) trivial (vars_consC enc g_errOtherText t_errOtherText Tryz.underlying70 (var?_below bel g_errOtherText hG_errOtherText hv_errOtherText) trivial (vars_consC enc g_errLeft t_errLeft Tryz.underlying70 (var?_below bel g_errLeft hG_errLeft hv_errLeft) trivial (vars_consC enc g_errPiece t_errPiece Tryz.underlying70 (var?_below bel g_errPiece hG_errPiece hv_errPiece) trivial (vars_nil enc _))))))))))))))))))))
 obtain ⟨rfl,rfl⟩:=hV.unique (read W _ (Below.refl _ _))
 clear hA0 hV0 hval0
 refine (lawFnBlobs_any a0 cap0 zs0 W hb0 hm0 (SentE.mk (SentC.mk ⟨_,_,hc_errNoCode⟩ hG_errNoCode) ⟨_,_,hc_errNoShare⟩ ⟨_,hc_errOver⟩ ⟨hG_errNoShare,hG_errOver⟩) (SentB.mk (SentD.mk (SentT.mk ⟨_,hc_errOver⟩ ⟨_,_,hc_errFull⟩ ⟨hG_errOver,hG_errFull⟩) (SentF.mk ⟨_,_,hc_errRange⟩ ⟨_,_,hc_errOver⟩ ⟨_,_,hc_errOtherText⟩ ⟨hG_errRange,hG_errOver,hG_errOtherText⟩) ⟨_,_,hc_errRun⟩ ⟨_,_,hc_errNoSymbol⟩ ⟨_,_,hc_errShare⟩ ⟨_,_,hc_errPiece⟩ ⟨_,_,hc_errLeft⟩ ⟨_,_,hc_errSeqs⟩ ⟨⟨_,_,hc_errSyms⟩,⟨_,_,hc_errLength⟩,⟨_,_,hc_errNoCodes⟩,⟨_,_,hc_errShares⟩⟩ ⟨hG_errRun,hG_errNoSymbol,hG_errShare,hG_errPiece,hG_errLeft,hG_errSeqs⟩) ⟨_,_,hc_errUnsealed⟩ ⟨_,_,hc_errMode⟩ ⟨_,_,hc_errBlockSize⟩ ⟨_,_,hc_errBlobSize⟩ ⟨hG_errUnsealed,hG_errMode,hG_errBlockSize,hG_errBlobSize⟩)).mono fun e W' ⟨he,bel⟩=>?_
 subst he
 exact ⟨_,rfl,_,_,_,[],_,_,hW',trodAll_mk1 (shut_bool Tryz.underlying4 _),
  (trodAll_cons_mk (Below.trod Tryz.laidOut (by kernel_rfl) (of_decide_eq_true (by kernel_rfl)) k0 bel lt0) trodAll_mk0),
  read W' _ bel,bel.frame _,fun h=>by cases h⟩
theorem said :Rows.FnBlobsSaid:=
 OpenClaim.holds_of_wide 7 Tryz.f7 rfl rfl rfl rfl rfl rfl rfl ⟨rfl,rfl,rfl,rfl,rfl⟩ rfl rfl rfl rfl rfl (by kernel_rfl) Tryz.func7 (by kernel_rfl)
  (of_decide_eq_true (by kernel_rfl)) (by unfold Func.isWrapper;first | (rw [if_pos (by decide +kernel)];kernel_rfl) | (rw [if_neg (by decide +kernel)];exact ⟨rfl,rfl⟩))
  (fun os started H enc _=>lifted os started H enc)
theorem plain (f : FuncId) (fn : Func) (hf : Tryz.pinned.checked.prog.funcNamed "loop.example/g00528/laws.FnBlobs" = some f) (hfn : Tryz.pinned.checked.prog.funcs[f]? = some fn) :
  true=Tryz.pinned.checked.prog.looks []∧∀ (j:Nat) t,fn.params[j]?=some t→Tryz.pinned.checked.prog.wantsStandIn t=false:=by
 obtain rfl : f = 7 := Option.some.inj ((show Tryz.prog.funcNamed "loop.example/g00528/laws.FnBlobs" = some 7 by kernel_rfl).symm.trans hf) |>.symm
 obtain rfl:fn=Tryz.f7:=(Option.some.inj (Tryz.func7.symm.trans hfn)).symm
 refine ⟨by kernel_rfl,fun j t ht=>?_⟩
 rw [Tryz.params7] at ht
 have hmem:=Array.mem_of_getElem? ht
 have h':t=22:=by simpa using hmem
 rcases h' with rfl
 ·exact (show Tryz.prog.wantsStandIn 22=false by kernel_rfl)
end cardFnBlobs
theorem fnBlobs_card :Rows.FnBlobsCardSaid:=
 Claim7.holds_tied_plain_at .later [] _ _ _ _ cardFnBlobs.said (fun _ h=>by cases h) (by kernel_rfl) (fun _ h=>by cases h) fnBlobs_row_tie rfl ⟨rfl,rfl⟩ (by kernel_rfl) rfl cardFnBlobs.plain (by kernel_rfl)
#print axioms fnBlobs_card
end Go.Proofs.YtfeokafkhnbdiaaGreatDoor
