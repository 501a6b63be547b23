/- Lemmas on the way. -/
import Derived.Test.YtaibkchbkedjnaaGreatDoorTakeI
import Derived.Test.YtaibkchbkedjnaaGreatDoorPut1
import Derived.Test.YtaibkchbkedjnaaGreatDoorLGet1
import Derived.Test.YtaibkchbkedjnaaGreatDoorBytesFor
import Derived.BigQuiet
import Derived.Test.YtaibkchbkedjnaaGreatDoorElD
import Derived.Test.YtaibkchbkedjnaaGreatDoorPlP
import Derived.Test.YtaibkchbkedjnaaGreatDoorNum
set_option maxRecDepth 20000
set_option maxHeartbeats 16000000
namespace Go.Proofs.YtaibkchbkedjnaaGreatDoor
open Go.RowKit
set_option linter.unusedVariables false
def wid (s:Int):Nat:=if 28≤s then (s-28).toNat else if 16≤s then (s-16).toNat else 4
theorem wid_le {s:Int} (h:s<40):wid s≤11:=by unfold wid;split <;> (try split) <;> omega
def uq (N V:Nat):List Int→Nat→List Int→Nat→List (List Int × Int × Int)→Option (List (List Int × Int × Int) × Nat × List Int × Nat)
 | [],p,lits,L,out=>some (out,p,lits,L)
 | s :: t,p,lits,L,out=>
  if N<p+wid s∨¬(0<L↔28≤s) then none
  else if s<16 then uq N V t (p+4) (lits++[16*s+(bt V p 4:Nat)]) L out
  else if s<28 then uq N V t (p+wid s) lits (2 ^ wid s+bt V p (wid s)+2) out
  else uq N V t (p+wid s) [] 0 (out++[(lits,(L:Int),((2 ^ wid s+bt V p (wid s):Nat):Int))])
def uqE (N:Nat):Option (List (List Int × Int × Int) × Nat × List Int × Nat)→Option (List (List Int × Int × Int))
 | none=>none
 | some (out,p,lits,L)=>if p=N∧L=0 then some (if lits=[] then out else out++[(lits,0,0)]) else none
def uqF (N V:Nat) (ts:List Int):Option (List (List Int × Int × Int)):=uqE N (uq N V ts 0 [] 0 [])
theorem uq_bad {N V:Nat} {s:Int} {t:List Int} {p L:Nat} {lits:List Int} {out:List (List Int × Int × Int)} (h:N<p+wid s∨¬(0<L↔28≤s)):uq N V (s :: t) p lits L out=none:=by simp only [uq];rw [if_pos h]
theorem uq_let {N V:Nat} {s:Int} {t:List Int} {p L:Nat} {lits:List Int} {out:List (List Int × Int × Int)} (h1:p+4≤N) (hL:L=0) (hs:s<16):uq N V (s :: t) p lits L out=uq N V t (p+4) (lits++[16*s+(bt V p 4:Nat)]) L out:=by
 have hw:wid s=4:=by unfold wid;rw [if_neg (by omega),if_neg (by omega)]
 simp only [uq]
 rw [if_neg (by rw [hw];omega),if_pos hs]
theorem uq_len {N V:Nat} {s:Int} {t:List Int} {p L:Nat} {lits:List Int} {out:List (List Int × Int × Int)} (h1:p+wid s≤N) (hL:L=0) (hs:16≤s) (hs2:s<28):uq N V (s :: t) p lits L out=uq N V t (p+wid s) lits (2 ^ wid s+bt V p (wid s)+2) out:=by
 simp only [uq]
 rw [if_neg (by omega),if_neg (by omega),if_pos hs2]
theorem uq_dst {N V:Nat} {s:Int} {t:List Int} {p L:Nat} {lits:List Int} {out:List (List Int × Int × Int)} (h1:p+wid s≤N) (hL:0<L) (hs:28≤s):uq N V (s :: t) p lits L out=uq N V t (p+wid s) [] 0 (out++[(lits,(L:Int),((2 ^ wid s+bt V p (wid s):Nat):Int))]):=by
 simp only [uq]
 rw [if_neg (by omega),if_neg (by omega),if_neg (by omega)]
theorem drop_cons (ts:List Int) (i:Nat) (h:i<ts.length):ts.drop i=ts.getD i 0 :: ts.drop (i+1):=by
 rw [List.drop_eq_getElem_cons h,List.getD_eq_getElem?_getD,List.getElem?_eq_getElem h]
 rfl
theorem pow_wid {s:Int} (h:s<40):2 ^ wid s≤2048:=by
 have:=Nat.pow_le_pow_right (show 0<2 by omega) (wid_le h)
 simpa using this
set_option linter.unusedSimpArgs false
theorem Ins.tail {w:World} {b off:Nat} {z:Int} {zs:List Int} (h:Ins w (some ⟨b,off,none⟩) (z :: zs)):Ins w (some ⟨b,off+1,none⟩) zs:=by
 refine ⟨fun y hy=>h.1 y (List.mem_cons_of_mem _ hy),fun hp=>?_⟩
 obtain ⟨b',o',he,hlt,hc⟩:=h.2 (by simp)
 obtain ⟨rfl,rfl⟩:b=b'∧off=o':=by simpa using he
 refine ⟨b,off+1,rfl,hlt,fun j hj=>?_⟩
 have:=hc (j+1) (by simpa using hj)
 rw [show off+1+j=off+(j+1) by omega]
 simpa using this
theorem or_letter (s:Int) (y:Nat) (hs:0≤s∧s<16) (hy:y<2 ^ 4):bits BinOp.or IntKind.i64 (s*16) (y:Int) % 256=16*s+(y:Nat):=by
 obtain ⟨n,rfl⟩:=Int.eq_ofNat_of_zero_le hs.1
 have e:(n:Int)*16=((n*16:Nat):Int):=by omega
 rw [e,i64_or_nat _ _ (by omega) (by omega)]
 have h1:n*16 ||| y=n*16+y:=by
  have:=Nat.two_pow_add_eq_or_of_lt hy n
  rw [show n*16=2 ^ 4*n by omega]
  exact this.symm
 rw [h1]
 omega
theorem wpowU (k:Nat) (h:k≤12):wrap64 (2 ^ k)=((2 ^ k:Nat):Int):=by
 have h2:2 ^ k≤2 ^ 12:=Nat.pow_le_pow_right (by omega) h
 have e:((2:Int) ^ k)=((2 ^ k:Nat):Int):=by simp
 rw [e]
 generalize 2 ^ k=P at *
 exact IntWalk.wrap64_in _ (by omega)
def SR (w0 w:World) (B Q R:Nat) (rest:List Int):Prop:=∃ (la:Option Addr) (lc:Nat),w.heap[Q]?=some (.cells #[.slice la rest.length lc,.pointer (some ⟨R,0,none⟩)] 282 (0,0))∧Ins w0 la rest∧rest.length≤lc∧B≤Q
theorem SR.only {S:Nat→Prop} {w0 w w':World} {B Q R:Nat} {rest:List Int} (h:SR w0 w B Q R rest) (ho:Only S w w') (hs:¬S Q):SR w0 w' B Q R rest:=by
 obtain ⟨la,lc,h1,h2⟩:=h
 exact ⟨la,lc,(ho.block Q (Array.getElem?_eq_some_iff.1 h1).1 hs).trans h1,h2⟩
theorem SR.ne {w0 w:World} {B Q R:Nat} {rest:List Int} {a:Option Addr} {L cx N p:Nat} (h:SR w0 w B Q R rest) (hr:RD w B R a L cx N p):¬Q=R:=by
 obtain ⟨la,lc,h1,h2⟩:=h
 rintro rfl
 have:=h1.symm.trans hr.1
 simp at this
theorem SR.set {w0 w:World} {B Q R:Nat} {la la2:Option Addr} {k lc:Nat} {rest:List Int} {lc2:Nat} (h:w.heap[Q]?=some (.cells #[.slice la k lc,.pointer (some ⟨R,0,none⟩)] 282 (0,0))) (hi:Ins w0 la2 rest) (hl:rest.length≤lc2) (hB:B≤Q):SR w0 (w.setCell ⟨Q,0,none⟩ (.slice la2 rest.length lc2)) B Q R rest:=by
 refine ⟨la2,lc2,?_,hi,hl,hB⟩
 rw [heap_setCell_same _ Q 0 _ _ _ h]
 simp
theorem ins_nilU (w:World) (a:Option Addr):Ins w a []:=⟨by simp,fun h=>by simp at h⟩
theorem letter_yes (B Q R:Nat) (s:Int) (t:List Int) (x:Option Addr) (cx:Nat) (zs:List Int) (N V p:Nat) (w0 w:World) (hB:w0.heap.size=B) (hbel:Below B w0 w) (hS:SR w0 w B Q R (s :: t)) (hR:RD w B R x zs.length cx N p) (hb:Byt w0 x zs) (hz:zs=enc N V) (hN:N≤4096) (hp:p+4≤N) (hs:0≤s∧s<16) :
  Calls Tryz.prog 230 #[.pointer (some ⟨Q,0,none⟩)] w fun e w'=>e=.returned (.tuple #[.int .u8 (16*s+(bt V p 4:Nat)),.nilIface])∧SR w0 w' B Q R t∧RD w' B R x zs.length cx N (p+4)∧Only (fun b=>b=Q∨b=R) w w':=by
 have hne:=hS.ne hR
 have HC:=hR.yes V 4 (by omega) (hb.below hbel (by omega)) hz (by omega) (by omega) (by omega)
 obtain ⟨la,lc,h1,h2,h3,h4⟩:=hS
 obtain ⟨ab,ao,rfl,hab,hac⟩:=h2.2 (by simp)
 have hc:=hac 0 (by simp)
 simp only [List.getD_cons_zero,Nat.add_zero] at hc
 have HI:Hid (Ins w0 (some ⟨ab,ao,none⟩) (s :: t)):=h2
 simp only [List.length_cons] at h1 h3
 have HC0:Hid (w0.cell? ⟨ab,ao,none⟩=some (.int .i64 s)):=hc
 have hbt:=bt_lt V p 4
 have hRB:=hR.2.1
 have HOR:Hid (bits BinOp.or IntKind.i64 (s*16) ((bt V p 4:Nat):Int) % 256=16*s+(bt V p 4:Nat)∧True):=⟨or_letter s _ hs hbt,trivial⟩
 have HWB:Hid (Below B w0 w∧RD w B R x zs.length cx N p):=⟨hbel,hR⟩
 have HTL:Hid (∃ k,t.length=k):=⟨_,rfl⟩
 obtain ⟨k,hk⟩:=HTL.out
 rw [hk] at h1 h3
 have HK:Hid (t.length=k):=hk
 have HH:Hid (w.heap[Q]?=some (.cells #[.slice (some ⟨ab,ao,none⟩) (k+1) lc,.pointer (some ⟨R,0,none⟩)] 282 (0,0))):=h1
 have c0:w.cell? ⟨Q,0,none⟩=some (.slice (some ⟨ab,ao,none⟩) (k+1) lc):=cellRR (j:=0) h1 rfl
 have c1:w.cell? ⟨Q,1,none⟩=some (.pointer (some ⟨R,0,none⟩)):=cellRR (j:=1) h1 rfl
 clear hR hb hz hac hc h2 hbel h1 hk HTL
 go_enter Tryz.func230,Tryz.ntmps230
 go_wp2_with fail
 refine HC.mono ?_
 clear HC c0 c1
 rintro e w2 ⟨rfl,hrd2,hon2,hb2⟩
 have hxe:V / 2 ^ p % 2 ^ (4:Int).toNat=bt V p 4:=rfl
 rw [hxe]
 have HH2:Hid (w2.heap[Q]?=some (.cells #[.slice (some ⟨ab,ao,none⟩) (k+1) lc,.pointer (some ⟨R,0,none⟩)] 282 (0,0))):=(hon2.block Q (Array.getElem?_eq_some_iff.1 HH.out).1 hne).trans HH.out
 have HS2:Hid (RD w2 B R x zs.length cx N (p+4)∧Only (fun b=>b=R) w w2):=⟨hrd2,hon2⟩
 have c0:w2.cell? ⟨Q,0,none⟩=some (.slice (some ⟨ab,ao,none⟩) (k+1) lc):=cellRR (j:=0) HH2.out rfl
 have f0:w2.frozen? ⟨Q,0,none⟩=false:=frozen_of_row w2 Q 0 _ _ HH2.out
 have hc2:w2.cell? ⟨ab,ao,none⟩=some (.int .i64 s):=keep (HWB.out.1.trans hb2) (by omega) HC0.out
 clear hrd2 hon2 hb2 hxe HH
 generalize hyy:bt V p 4=y at *
 have HYE:Hid (bt V p 4=y∧True):=⟨hyy,trivial⟩
 clear hyy
 have HFIN:Hid (∀ la2 lc2,Ins w0 la2 t→k≤lc2→SR w0 (w2.setCell ⟨Q,0,none⟩ (.slice la2 k lc2)) B Q R t∧RD (w2.setCell ⟨Q,0,none⟩ (.slice la2 k lc2)) B R x zs.length cx N (p+4)∧Only (fun b=>b=Q∨b=R) w (w2.setCell ⟨Q,0,none⟩ (.slice la2 k lc2))):=by
  intro la2 lc2 hi hl
  have h9:=SR.set (w0:=w0) (B:=B) (lc2:=lc2) HH2.out hi (by rw [HK.out];exact hl) h4
  rw [HK.out] at h9
  refine ⟨h9,HS2.out.1.only (Only.setCell (Only.refl (fun b=>b=Q) w2) (p:=⟨Q,0,none⟩) (.inl rfl) _) (fun h=>hne h.symm),?_⟩
  exact Only.setCell (HS2.out.2.mono (fun b _ hb=>.inr hb)) (p:=⟨Q,0,none⟩) (.inl (.inl rfl)) _
 by_cases hl1:lc=1
 ·subst hl1
  have hk0:k=0:=by omega
  subst hk0
  have ht0:t=[]:=List.eq_nil_of_length_eq_zero HK.out
  go_wp2
  exact bodyPost_ret (v:=.tuple #[.int .u8 (16*s+(y:Nat)),.nilIface]) (by simp [results,Tryz.results230,go_sem,HOR.out.1]) rfl ⟨by rw [HYE.out.1],HFIN.out _ _ (by rw [ht0];exact ins_nilU _ _) (by omega)⟩
 ·go_wp2
  exact bodyPost_ret (v:=.tuple #[.int .u8 (16*s+(y:Nat)),.nilIface]) (by simp [results,Tryz.results230,go_sem,HOR.out.1]) rfl ⟨by rw [HYE.out.1],HFIN.out _ _ HI.out.tail (by omega)⟩
theorem letter_no (B Q R:Nat) (rest:List Int) (x:Option Addr) (cx:Nat) (zs:List Int) (N p:Nat) (w0 w:World) (hB:w0.heap.size=B) (hbel:Below B w0 w) (hS:SR w0 w B Q R rest) (hR:RD w B R x zs.length cx N p) (hN:N≤4096) (hpN:p≤N) (hp:¬p+4≤N) (s0:Sent w0 17) (s1:Sent w0 18) (hG:17<B∧18<B) :
  Calls Tryz.prog 230 #[.pointer (some ⟨Q,0,none⟩)] w fun e w'=>(∃ T y,e=.returned (.tuple #[.int .u8 0,.iface T y]))∧∃ m,w'=w.drewN m:=by
 have HC:=hR.no 4 (by omega) (by omega) (s0.below hbel hG.1) (s1.below hbel hG.2) (by omega)
 obtain ⟨la,lc,h1,h2,h3,h4⟩:=hS
 have c0:w.cell? ⟨Q,0,none⟩=some (.slice la rest.length lc):=cellRR (j:=0) h1 rfl
 have c1:w.cell? ⟨Q,1,none⟩=some (.pointer (some ⟨R,0,none⟩)):=cellRR (j:=1) h1 rfl
 clear hR h1 h2 s0 s1 hbel
 go_enter Tryz.func230,Tryz.ntmps230
 go_wp2_with fail
 refine HC.mono ?_
 clear HC c0 c1
 rintro e w2 ⟨⟨T,y,rfl⟩,m,rfl⟩
 go_wp2
 exact bodyPost_ret (v:=.tuple #[.int .u8 0,.iface T y]) (by simp [results,Tryz.results230,go_sem]) rfl ⟨⟨T,y,rfl⟩,m,rfl⟩
theorem number_yes (B Q R:Nat) (s:Int) (t:List Int) (x:Option Addr) (cx:Nat) (zs:List Int) (N V p:Nat) (w0 w:World) (hB:w0.heap.size=B) (hbel:Below B w0 w) (hS:SR w0 w B Q R (s :: t)) (hR:RD w B R x zs.length cx N p) (hb:Byt w0 x zs) (hz:zs=enc N V) (hN:N≤4096) (f:Int) (hf:f=16∨f=28) (hs:f≤s∧s<f+12) (hp:p+(s-f).toNat≤N) :
  Calls Tryz.prog 231 #[.pointer (some ⟨Q,0,none⟩),.int .i64 f] w fun e w'=>e=.returned (.tuple #[.int .i64 ((2 ^ (s-f).toNat+bt V p (s-f).toNat:Nat):Int),.nilIface])∧SR w0 w' B Q R t∧RD w' B R x zs.length cx N (p+(s-f).toNat)∧Only (fun b=>b=Q∨b=R) w w':=by
 have hne:=hS.ne hR
 have HC:=hR.yes V (s-f) (by omega) (hb.below hbel (by omega)) hz (by omega) (by omega) (by omega)
 obtain ⟨la,lc,h1,h2,h3,h4⟩:=hS
 obtain ⟨ab,ao,rfl,hab,hac⟩:=h2.2 (by simp)
 have hc:=hac 0 (by simp)
 simp only [List.getD_cons_zero,Nat.add_zero] at hc
 have HI:Hid (Ins w0 (some ⟨ab,ao,none⟩) (s :: t)):=h2
 simp only [List.length_cons] at h1 h3
 have HC0:Hid (w0.cell? ⟨ab,ao,none⟩=some (.int .i64 s)):=hc
 have hbt:=bt_lt V p (s-f).toNat
 have hRB:=hR.2.1
 have HOR:Hid (wrap64 (wrap64 (2 ^ (s-f).toNat)+((bt V p (s-f).toNat:Nat):Int))=((2 ^ (s-f).toNat+bt V p (s-f).toNat:Nat):Int)∧True):=by
  refine ⟨?_,trivial⟩
  rw [wpowU _ (by omega)]
  have hpw:2 ^ (s-f).toNat≤2 ^ 11:=Nat.pow_le_pow_right (by omega) (by omega)
  generalize 2 ^ (s-f).toNat=P at *
  generalize bt V p (s-f).toNat=y at *
  rw [IntWalk.wrap64_in _ (by omega)]
  omega
 have HWB:Hid (Below B w0 w∧RD w B R x zs.length cx N p):=⟨hbel,hR⟩
 have HTL:Hid (∃ k,t.length=k):=⟨_,rfl⟩
 obtain ⟨k,hk⟩:=HTL.out
 rw [hk] at h1 h3
 have HK:Hid (t.length=k):=hk
 have HH:Hid (w.heap[Q]?=some (.cells #[.slice (some ⟨ab,ao,none⟩) (k+1) lc,.pointer (some ⟨R,0,none⟩)] 282 (0,0))):=h1
 have c0:w.cell? ⟨Q,0,none⟩=some (.slice (some ⟨ab,ao,none⟩) (k+1) lc):=cellRR (j:=0) h1 rfl
 have c1:w.cell? ⟨Q,1,none⟩=some (.pointer (some ⟨R,0,none⟩)):=cellRR (j:=1) h1 rfl
 clear hR hb hz hac hc h2 hbel h1 hk HTL
 have hcw:w.cell? ⟨ab,ao,none⟩=some (.int .i64 s):=keep HWB.out.1 (by omega) HC0.out
 go_enter Tryz.func231,Tryz.ntmps231
 go_wp2_with fail
 refine HC.mono ?_
 clear HC c0 c1
 rintro e w2 ⟨rfl,hrd2,hon2,hb2⟩
 have hxe:V / 2 ^ p % 2 ^ (s-f).toNat=bt V p (s-f).toNat:=rfl
 rw [hxe]
 have HH2:Hid (w2.heap[Q]?=some (.cells #[.slice (some ⟨ab,ao,none⟩) (k+1) lc,.pointer (some ⟨R,0,none⟩)] 282 (0,0))):=(hon2.block Q (Array.getElem?_eq_some_iff.1 HH.out).1 hne).trans HH.out
 have HS2:Hid (RD w2 B R x zs.length cx N (p+(s-f).toNat)∧Only (fun b=>b=R) w w2):=⟨hrd2,hon2⟩
 have c0:w2.cell? ⟨Q,0,none⟩=some (.slice (some ⟨ab,ao,none⟩) (k+1) lc):=cellRR (j:=0) HH2.out rfl
 have f0:w2.frozen? ⟨Q,0,none⟩=false:=frozen_of_row w2 Q 0 _ _ HH2.out
 have hc2:w2.cell? ⟨ab,ao,none⟩=some (.int .i64 s):=keep (HWB.out.1.trans hb2) (by omega) HC0.out
 clear hrd2 hon2 hb2 hxe HH
 generalize hyy:bt V p (s-f).toNat=y at *
 have HYE:Hid (bt V p (s-f).toNat=y∧True):=⟨hyy,trivial⟩
 clear hyy
 have HFIN:Hid (∀ la2 lc2,Ins w0 la2 t→k≤lc2→SR w0 (w2.setCell ⟨Q,0,none⟩ (.slice la2 k lc2)) B Q R t∧RD (w2.setCell ⟨Q,0,none⟩ (.slice la2 k lc2)) B R x zs.length cx N (p+(s-f).toNat)∧Only (fun b=>b=Q∨b=R) w (w2.setCell ⟨Q,0,none⟩ (.slice la2 k lc2))):=by
  intro la2 lc2 hi hl
  have h9:=SR.set (w0:=w0) (B:=B) (lc2:=lc2) HH2.out hi (by rw [HK.out];exact hl) h4
  rw [HK.out] at h9
  refine ⟨h9,HS2.out.1.only (Only.setCell (Only.refl (fun b=>b=Q) w2) (p:=⟨Q,0,none⟩) (.inl rfl) _) (fun h=>hne h.symm),?_⟩
  exact Only.setCell (HS2.out.2.mono (fun b _ hb=>.inr hb)) (p:=⟨Q,0,none⟩) (.inl (.inl rfl)) _
 by_cases hl1:lc=1
 ·subst hl1
  have hk0:k=0:=by omega
  subst hk0
  have ht0:t=[]:=List.eq_nil_of_length_eq_zero HK.out
  go_wp2
  exact bodyPost_ret (v:=.tuple #[.int .i64 ((2 ^ (s-f).toNat+y:Nat):Int),.nilIface]) (by simp [results,Tryz.results231,go_sem,HOR.out.1]) rfl ⟨by rw [HYE.out.1],HFIN.out _ _ (by rw [ht0];exact ins_nilU _ _) (by omega)⟩
 ·go_wp2
  exact bodyPost_ret (v:=.tuple #[.int .i64 ((2 ^ (s-f).toNat+y:Nat):Int),.nilIface]) (by simp [results,Tryz.results231,go_sem,HOR.out.1]) rfl ⟨by rw [HYE.out.1],HFIN.out _ _ HI.out.tail (by omega)⟩
theorem number_no (B Q R:Nat) (rest:List Int) (x:Option Addr) (cx:Nat) (zs:List Int) (N p:Nat) (w0 w:World) (hB:w0.heap.size=B) (hbel:Below B w0 w) (hS:SR w0 w B Q R rest) (hR:RD w B R x zs.length cx N p) (hN:N≤4096) (hpN:p≤N) (f:Int) (hf:f=16∨f=28) (hr:∀ z ∈ rest,0≤z∧z<40) (hp:∀ s t,rest=s :: t→f≤s∧s<f+12→¬p+(s-f).toNat≤N) (s0:Sent w0 17) (s1:Sent w0 18) (s2:Sent w0 22) (hG:17<B∧18<B∧22<B) :
  Calls Tryz.prog 231 #[.pointer (some ⟨Q,0,none⟩),.int .i64 f] w fun e w'=>(∃ T y,e=.returned (.tuple #[.int .i64 0,.iface T y]))∧∃ m,w'=w.drewN m:=by
 obtain ⟨la,lc,h1,h2,h3,h4⟩:=hS
 have c0:w.cell? ⟨Q,0,none⟩=some (.slice la rest.length lc):=cellRR (j:=0) h1 rfl
 have c1:w.cell? ⟨Q,1,none⟩=some (.pointer (some ⟨R,0,none⟩)):=cellRR (j:=1) h1 rfl
 have HE:Hid (Sent w0 17∧Sent w0 18∧RD w B R x zs.length cx N p∧Below B w0 w):=⟨s0,s1,hR,hbel⟩
 obtain ⟨T9,y9,he9⟩:=s2.below hbel hG.2.2
 cases rest with
 | nil=>
  clear hr hp h1 h2 s0 s1 s2 hR hbel
  simp only [List.length_nil] at c0
  go_enter Tryz.func231,Tryz.ntmps231
  go_wp2
  go_quiet (fail)
  go_wp2
  exact bodyPost_ret (v:=.tuple #[.int .i64 0,.iface T9 y9]) (by simp [results,Tryz.results231,go_sem]) rfl ⟨⟨_,_,rfl⟩,_,rfl⟩
 | cons s t=>
  obtain ⟨ab,ao,rfl,hab,hac⟩:=h2.2 (by simp)
  have hc0:=hac 0 (by simp)
  simp only [List.getD_cons_zero,Nat.add_zero] at hc0
  have hc:=keep hbel (by omega) hc0
  have hsr:=hr s (by simp)
  have hp':=hp s t rfl
  simp only [List.length_cons] at c0
  clear hr hp h1 h2 s0 s1 s2 hR hbel hac hc0
  generalize t.length=k at *
  by_cases hlo:f≤s
  ·by_cases hhi:s<f+12
   ·have hno:=hp' ⟨hlo,hhi⟩
    have HC:=HE.out.2.2.1.no (s-f) (by omega) (by omega) (HE.out.1.below HE.out.2.2.2 hG.1) (HE.out.2.1.below HE.out.2.2.2 hG.2.1) (by omega)
    clear hp'
    go_enter Tryz.func231,Tryz.ntmps231
    go_wp2_with fail
    refine HC.mono ?_
    clear HC c0 c1
    rintro e w2 ⟨⟨T,y,rfl⟩,m,rfl⟩
    go_wp2
    exact bodyPost_ret (v:=.tuple #[.int .i64 0,.iface T y]) (by simp [results,Tryz.results231,go_sem]) rfl ⟨⟨T,y,rfl⟩,m,rfl⟩
   ·clear hp'
    go_enter Tryz.func231,Tryz.ntmps231
    go_wp2
    go_quiet (fail)
    go_wp2
    exact bodyPost_ret (v:=.tuple #[.int .i64 0,.iface T9 y9]) (by simp [results,Tryz.results231,go_sem]) rfl ⟨⟨_,_,rfl⟩,_,rfl⟩
  ·clear hp'
   go_enter Tryz.func231,Tryz.ntmps231
   go_wp2
   go_quiet (fail)
   go_wp2
   exact bodyPost_ret (v:=.tuple #[.int .i64 0,.iface T9 y9]) (by simp [results,Tryz.results231,go_sem]) rfl ⟨⟨_,_,rfl⟩,_,rfl⟩
theorem atLetter_any (B Q R:Nat) (rest:List Int) (w0 w:World) (hB:w0.heap.size=B) (hbel:Below B w0 w) (hS:SR w0 w B Q R rest) (hr:∀ z ∈ rest,0≤z∧z<40) :
  Calls Tryz.prog 229 #[.pointer (some ⟨Q,0,none⟩)] w fun e w'=>e=.returned (.bool (decide (0<rest.length∧rest.getD 0 0<16)))∧w'=w:=by
 obtain ⟨la,lc,h1,h2,h3,h4⟩:=hS
 have c0:w.cell? ⟨Q,0,none⟩=some (.slice la rest.length lc):=cellRR (j:=0) h1 rfl
 cases rest with
 | nil=>
  simp only [List.length_nil] at c0
  go_enter Tryz.func229,Tryz.ntmps229
  go_wp2
  go_ret
  exact ⟨by simp,rfl⟩
 | cons s t=>
  obtain ⟨ab,ao,rfl,hab,hac⟩:=h2.2 (by simp)
  have hc0:=hac 0 (by simp)
  simp only [List.getD_cons_zero,Nat.add_zero] at hc0
  have hc:=keep hbel (by omega) hc0
  have hsr:=hr s (by simp)
  simp only [List.length_cons] at c0
  have HG:Hid (decide (0<(s :: t).length∧(s :: t).getD 0 0<16)=decide (s<16)):=by simp [Hid]
  clear hr h1 h2 hac hc0
  rw [HG.out]
  generalize t.length=k at *
  go_enter Tryz.func229,Tryz.ntmps229
  go_wp2
  go_ret
  exact ⟨by simp,rfl⟩
structure Sq where
 a:Option Addr
 c:Nat
 ls:List Int
 n:Int
 d:Int
def Sq.ct (s:Sq):List Int × Int × Int:=(s.ls,s.n,s.d)
def dq :Sq:=⟨none,0,[],0,0⟩
def rI (z:Int):Prop:=-9223372036854775808≤z∧z≤9223372036854775807
def Sq.cells (s:Sq):List Value:=[.slice s.a s.ls.length s.c,.int .i64 s.n,.int .i64 s.d]
structure Lies (w:World) (b o:Nat) (s:Sq):Prop where
 c0:w.cell? ⟨b,o,none⟩=some (.slice s.a s.ls.length s.c)
 c1:w.cell? ⟨b,o+1,none⟩=some (.int .i64 s.n)
 c2:w.cell? ⟨b,o+2,none⟩=some (.int .i64 s.d)
 byt:Byt w s.a s.ls
def Sqs (w:World) (a:Option Addr) (ss:List Sq):Prop:=
 (∀ s ∈ ss,rI s.n∧rI s.d∧s.ls.length≤maxLen)∧(0<ss.length→∃ b off,a=some ⟨b,off,none⟩∧b<w.heap.size∧∀ i,i<ss.length→Lies w b (off+i*3) (ss.getD i dq))
theorem Lies.below {w w':World} {b o:Nat} {s:Sq} {B:Nat} (h:Lies w b o s) (hb:Below B w w') (hB:w.heap.size≤B) (hlt:b<w.heap.size):Lies w' b o s:=
 ⟨keep hb (by omega) h.c0,keep hb (by omega) h.c1,keep hb (by omega) h.c2,h.byt.below hb hB⟩
theorem Sqs.below {w w':World} {a:Option Addr} {ss:List Sq} {B:Nat} (h:Sqs w a ss) (hb:Below B w w') (hB:w.heap.size≤B):Sqs w' a ss:=by
 refine ⟨h.1,fun hz=>?_⟩
 obtain ⟨b,off,rfl,hlt,hc⟩:=h.2 hz
 exact ⟨b,off,rfl,Nat.lt_of_lt_of_le hlt hb.size,fun i hi=>(hc i hi).below hb hB hlt⟩
theorem Sqs.len_pos {w:World} {a:Option Addr} {ss:List Sq} (h:Sqs w a ss) (i:Nat) (hi:i<ss.length):∃ b off,a=some ⟨b,off,none⟩∧b<w.heap.size∧∀ i,i<ss.length→Lies w b (off+i*3) (ss.getD i dq):=h.2 (by omega)
theorem getD_memS {ss:List Sq} {k:Nat} (hk:k<ss.length):ss.getD k dq ∈ ss:=by
 rw [List.getD_eq_getElem?_getD,List.getElem?_eq_getElem hk];exact List.getElem_mem hk
theorem Sqs.rng {w:World} {a:Option Addr} {ss:List Sq} (h:Sqs w a ss) (k:Nat) (hk:k<ss.length):rI (ss.getD k dq).n∧rI (ss.getD k dq).d∧(ss.getD k dq).ls.length≤maxLen:=h.1 _ (getD_memS hk)
theorem flat_get (ss:List Sq):∀ k,k<ss.length→(ss.flatMap Sq.cells)[k*3]?=some (.slice (ss.getD k dq).a (ss.getD k dq).ls.length (ss.getD k dq).c)∧(ss.flatMap Sq.cells)[k*3+1]?=some (.int .i64 (ss.getD k dq).n)∧(ss.flatMap Sq.cells)[k*3+2]?=some (.int .i64 (ss.getD k dq).d):=by
 induction ss with
 | nil=>intro k hk;simp at hk
 | cons s ss ih=>
  intro k hk
  cases k with
  | zero=>simp [List.flatMap_cons,Sq.cells]
  | succ k=>
   have:=ih k (by simpa using hk)
   rw [List.flatMap_cons,show (k+1)*3=k*3+3 from by omega]
   simpa [Sq.cells] using this
structure OwS (w:World) (B g cap:Nat) (ss:List Sq):Prop where
 row:w.ownsRow B 209 3 (.slice (some ⟨g,0,none⟩) ss.length cap) ss.length (ss.flatMap Sq.cells)
 rng:∀ s ∈ ss,rI s.n∧rI s.d∧s.ls.length≤maxLen
 mine:∀ s ∈ ss,Mine w B w.heap.size s.a s.c s.ls
 apart:∀ i j,i<ss.length→j<ss.length→i≠j→∀ k,rowOf (ss.getD i dq).a k→¬rowOf (ss.getD j dq).a k
section
variable {w w' : World} {B g cap : Nat} {ss : List Sq}
theorem Mine.rowB {a:Option Addr} {U c k:Nat} {zs:List Int} (h:Mine w B U a c zs) (hr:rowOf a k):B≤k∧k<U:=by
 obtain ⟨x,hx,rfl⟩:=hr
 rcases h with ⟨h',_⟩ | ⟨g,h',g1,g2,_⟩
 ·rw [h'] at hx;cases hx
 ·rw [h'] at hx
  simp at hx
  rw [←hx]
  exact ⟨g1,g2⟩
end
theorem Tryz.infoSeq :(Tryz.prog.info? 209).map (fun i=>(i.zero,i.size,i.bytes))=some (some (.agg #[.slice none 0 0,.int .i64 0,.int .i64 0]),3,40):=by kernel_rfl
def OVB (w:World) (B:Nat) (v:Value) (zs:List Int):Prop:=w.ownsRow B 5 1 v zs.length (zs.map (Value.int .u8))∧∀ z ∈ zs,0≤z∧z≤255
theorem OVB.nil (w:World) (B:Nat):OVB w B (.slice none 0 0) []:=⟨⟨rfl,.inl ⟨rfl,rfl⟩⟩,by simp⟩
theorem OVB.form {w:World} {B:Nat} {v:Value} {zs:List Int} (h:OVB w B v zs):∃ (a:Option Addr) (c:Nat),v=.slice a zs.length c:=by
 rcases h.1.2 with ⟨rfl,h0⟩ | ⟨g,cap,cur,rfl,_⟩
 ·exact ⟨none,0,by rw [h0]⟩
 ·exact ⟨_,_,rfl⟩
theorem OVB.blk {w:World} {B:Nat} {v:Value} {zs:List Int} (h:OVB w B v zs) {k:Nat} (hk:v.ownBlock=some k):B≤k:=by
 rcases h.1.2 with ⟨rfl,h0⟩ | ⟨g,cap,cur,rfl,hg,_⟩
 ·simp [Value.ownBlock] at hk
 ·simp [Value.ownBlock] at hk
  omega
theorem OVB.mine {w:World} {B:Nat} {v:Value} {zs:List Int} (h:OVB w B v zs):∃ (a:Option Addr) (cp:Nat),v=.slice a zs.length cp∧Mine w B w.heap.size a cp zs:=by
 rcases h.1.2 with ⟨rfl,h0⟩ | ⟨g,cap,cur,rfl,hg,hh,r⟩
 ·exact ⟨none,0,by rw [h0],.inl ⟨rfl,List.eq_nil_of_length_eq_zero h0,rfl⟩⟩
 ·exact ⟨some ⟨g,0,none⟩,cap,rfl,Own.mine (cap:=cap) h⟩
theorem OVB.stay {S:Nat→Prop} {w w':World} {B:Nat} {v:Value} {zs:List Int} (h:OVB w B v zs) (ho:Only S w w') (hs:∀ k,B≤k→¬S k):OVB w' B v zs:=by
 refine ⟨⟨h.1.1,?_⟩,h.2⟩
 rcases h.1.2 with h' | ⟨g,cap,cur,h',hg,hh,r⟩
 ·exact .inl h'
 ·exact .inr ⟨g,cap,cur,h',hg,(ho.block g (Array.getElem?_eq_some_iff.1 hh).1 (hs g hg)).trans hh,r⟩
theorem OVB.weak {w:World} {B B':Nat} {v:Value} {zs:List Int} (h:OVB w B v zs) (hB:B'≤B):OVB w B' v zs:=by
 refine ⟨⟨h.1.1,?_⟩,h.2⟩
 rcases h.1.2 with h' | ⟨g,cap,cur,h',hg,r⟩
 ·exact .inl h'
 ·exact .inr ⟨g,cap,cur,h',by omega,r⟩
theorem OVB.alloc {w:World} {B:Nat} {v:Value} {zs:List Int} (h:OVB w B v zs) (o:Obj):OVB (w.alloc o) B v zs:=⟨h.1.alloc o,h.2⟩
theorem OVB.byt {w:World} {B:Nat} {a:Option Addr} {n c:Nat} {zs:List Int} (h:OVB w B (.slice a n c) zs):Byt w a zs:=by
 obtain ⟨a',c',e,hm⟩:=h.mine
 obtain ⟨rfl,-,-⟩:a=a'∧n=zs.length∧c=c':=by simpa using e
 exact hm.byt
theorem OVB.below {w w':World} {B:Nat} {v:Value} {zs:List Int} (h:OVB w B v zs) (hb:Below w.heap.size w w'):OVB w' B v zs:=h.stay (Only.ofBelow (S:=fun _=>False) hb nl) (by simp)
theorem byt_one (w:World) (z:Int) (hz:0≤z∧z≤255):Byt (w.alloc (.cells #[.int .u8 z] 5)) (some ⟨w.heap.size,0,none⟩) [z]:=by
 refine ⟨by intro y hy;simp at hy;rw [hy];exact hz,fun _=>⟨w.heap.size,0,rfl,by simp,fun i hi=>?_⟩⟩
 obtain rfl:i=0:=by simp at hi;omega
 simp
theorem run_append_none {P:Program} (w:World) (t ty e:TypeId) (i:TypeInfo) (ht:P.underlying t=some (.slice e)) (hi:P.info? e=some i) (base size n:Nat) (v:Value) (xs:List Value) (hown:w.ownsRow base e size v n xs) (c:Nat) :
  (Builtin.append_ #[t,t] ty #[v,.slice none 0 c]).run P w=.ok v w:=by
 rcases hown.2 with ⟨rfl,rfl⟩ | ⟨g,cap,cur,rfl,_,hg,hnc,_⟩
 ·simp [Builtin.append_,run_underlying ht,sizeOf,typeInfo,hi,Builtin.lenOf,Builtin.firstCells]
 ·simp [Builtin.append_,run_underlying ht,sizeOf,typeInfo,hi,Builtin.lenOf,Builtin.firstCells,hnc,storeCells]
theorem wpList_append_byt {ops:Array Oper} {rest:List Oper} {o:Oper} {a:Act} {Q:Exit→Act→World→Prop} {w:World} (hgd:o.guard=none) (s x:Operand)
  (ho:o.op=.call { callee:=.builtin .append,args:=#[s,x],argTypes:=#[36,36] })
  (B:Nat) (v:Value) (zs:List Int) (hs:a.eval s=v) (hown:OVB w B v zs) (xa:Option Addr) (c:Nat) (ys:List Int) (hx:a.eval x=.slice xa ys.length c) (hy:Byt w xa ys) (hb1:zs.length+ys.length≤1000000) (hbase:B≤w.heap.size)
  (h:∀ v' w',OVB w' B v' (zs++ys)→w.grownBy w' v.ownBlock→wpList Tryz.prog ops Q rest (a.put o.dst v') w'):wpList Tryz.prog ops Q (o :: rest) a w:=by
 obtain ⟨i0,hi,hz0,hz1,hz2⟩:=info_parts Tryz.infoU8
 have hr:∀ z ∈ zs++ys,0≤z∧z≤255:=fun z hz=>(List.mem_append.1 hz).elim (hown.2 z) (hy.1 z)
 cases xa with
 | none=>
  have hy0:ys=[]:=by
   rcases Nat.eq_zero_or_pos ys.length with h0 | h0
   ·exact List.eq_nil_of_length_eq_zero h0
   ·obtain ⟨b,off,e,_⟩:=hy.2 h0
    cases e
  subst hy0
  refine wpList_plain hgd fun K hK'=>?_
  have hrun:=run_append_none (P:=Tryz.prog) w 36 o.type 5 i0 Tryz.underlying36 hi B 1 zs.length v _ hown.1 c
  unfold Oper.wp execOp
  simp only [List.length_nil] at hx
  simp only [ho,resolve,invoke,builtin,Sem.run_bind,Sem.run_pure,Result.andThen_ok,List.map_toArray,List.map_cons,List.map_nil,hs,hx,hrun]
  exact hK' _ _ (h v w (by simpa using hown) (World.grownBy.refl w _))
 | some ad=>
  have hnews:∀ j u,(ys.map (Value.int .u8))[j]?=some u→w.cell? (ad.add j)=some u:=by
   intro j u hu
   have hj:j<ys.length:=by
    rcases Nat.lt_or_ge j ys.length with h | h
    ·exact h
    ·rw [List.getElem?_eq_none (by simpa using h)] at hu;cases hu
   obtain ⟨b,off,e,_,hc⟩:=hy.2 (by omega)
   obtain rfl:ad=⟨b,off,none⟩:=by simpa using e
   exact news_of hc j u hu
  refine wpList_append_own w hgd s x 36 ho B 5 i0 (.int .u8 0) 1 1 Tryz.underlying36 hi hz0 hz1 hz2 rfl (by decide) v zs.length _ hs hown.1 ad ys.length c (ys.map (Value.int .u8)) hx (by simp) hnews (oneCells ys) (by unfold maxLen;omega) (by omega) hbase ?_
  intro v' w' h1 h2 _
  refine h v' w' ⟨?_,hr⟩ h2
  rw [List.length_append,List.map_append]
  exact h1
theorem appB_below {w0 wr w1:World} {B:Nat} {v:Value} {zs:List Int} (hbel:Below B w0 wr) (hB:B≤wr.heap.size) (h:OVB wr B v zs) (hg:wr.grownBy w1 v.ownBlock):Below B w0 w1:=
 hbel.grown hg hB (fun k hk=>h.blk hk)
theorem OVB.blk_ne {w:World} {B:Nat} {v:Value} {zs:List Int} (h:OVB w B v zs) {Q:Nat} {cur:Array Value} {T:TypeId} (hQ:w.heap[Q]?=some (.cells cur T (0,0))) (hT:T≠5):some Q≠v.ownBlock:=by
 rcases h.1.2 with ⟨rfl,h0⟩ | ⟨g,cap,cur',rfl,hg,hh,_⟩
 ·simp [Value.ownBlock]
 ·simp only [Value.ownBlock,ne_eq,Option.some.injEq]
  rintro rfl
  rw [hQ] at hh
  simp at hh
  exact hT hh.2
theorem grown_blk {w w':World} {row:Option Nat} (hg:w.grownBy w' row) {Q:Nat} {o:Obj} (hQ:w.heap[Q]?=some o) (hne:some Q≠row):w'.heap[Q]?=some o:=(hg.block Q (Array.getElem?_eq_some_iff.1 hQ).1 hne).trans hQ
theorem blk_cell {w:World} {R j:Nat} {cur:Array Value} {T:TypeId} {v:Value} (hR:w.heap[R]?=some (.cells cur T (0,0))) (hv:cur[j]?=some v):w.cell? ⟨R,j,none⟩=some v:=by
 rw [cell_of_row w R j cur T (0,0) hR];exact hv
end Go.Proofs.YtaibkchbkedjnaaGreatDoor
